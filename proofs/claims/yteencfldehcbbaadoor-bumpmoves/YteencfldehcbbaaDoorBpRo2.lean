/- The document's give. -/
import Derived.Test.YteencfldehcbbaaDoorBpRo
import Derived.Test.YteencfldehcbbaaDoorBpRel
namespace Go.Proofs.YteencfldehcbbaaDoor
open Go.RowKit Go.Sort BP
set_option linter.unusedVariables false

theorem turn_keep {F F' : List Nat} {w w' : World} (h : Turn F F' w w') {g : Nat} {t : TypeId} {cs : Array Value} (hw : Whole w g t cs) (hg : g ∉ F) : Whole w' g t cs := h.aft.whole hw hg
section
variable {w0 w : World} {R : RB} {C K o o' p p' : Nat} {v v' : Value} {D : Dt}
set_option maxHeartbeats 4000000 in
set_option maxRecDepth 100000 in
theorem rgivep_any (h : Ro w0 w R C K o o' p p' v v' D) (f k : Nat) (bb : Bool) (x : Nat) (hx1 : 1 ≤ x) (hx2 : x < 9223372036854775808) (hf : f + k ≤ C) (hown : ∀ c, f ≤ c → c < f + k → D.own c ≠ 0) :
    Calls Tryd.prog 58 #[.pointer (some ⟨p, 0, none⟩), .agg #[.int .i64 f, .int .i64 k, .bool bb], .int .i64 (x : Nat)] w fun e w' => e = .returned (.tuple #[]) ∧ Ro w0 w' R C K o o' p p' v v' ⟨setO D.own (cs (f, k)) x, D.wd, D.S, D.T⟩ ∧ Turn (roF R p p' v v') (roF R p p' v v') w w' := by
  have hC := h.rf.C2
  have hb := (Below.refl w.heap.size w).alloc (Nat.le_refl _) (.cells #[.int .i64 f, .int .i64 k, .bool bb] 81)
  have HX := Lib.hid (Whole.fresh w 81 #[.int .i64 f, .int .i64 k, .bool bb])
  have HN := Lib.hid (h.not (Nat.le_refl _))
  have HH1 := Lib.hid (h.later hb)
  have HB := Lib.hid hb
  have HOW := Lib.hid hown
  clear hb h hown
  go_enter Tryd.func58, Tryd.ntmps58
  go_wp2_with fail
  obtain ⟨wa, ha⟩ : ∃ wa, wa = w.alloc (.cells #[.int .i64 f, .int .i64 k, .bool bb] 81) := ⟨_, rfl⟩
  rw [← ha] at HX HH1 HB ⊢
  clear ha
  go_loopw [6] (fun y wr => ∃ j : Nat, j ≤ k ∧ y = .int .i64 j ∧ Hid (Ro w0 wr R C K o o' p p' v v' ⟨setO D.own ((cs (f, k)).take j) x, D.wd, D.S, D.T⟩ ∧ Turn (roF R p p' v v') (roF R p p' v v') wa wr)) (fun y _ => k - (intOf y).toNat)
  case atStart => exact ⟨0, Nat.zero_le _, rfl, Lib.hid ⟨by rw [List.take_zero, setO_nil]; exact HH1.out, Turn.refl _ _⟩⟩
  case round =>
    obtain ⟨j, hj, rfl, HR⟩ := hrel
    have hwx := turn_keep HR.out.2 HX.out HN.out
    have x0 : wr.cell? ⟨w.heap.size, 0, none⟩ = some (.int .i64 f) := (hwx.cell 0).trans rfl
    have x1 : wr.cell? ⟨w.heap.size, 1, none⟩ = some (.int .i64 k) := (hwx.cell 1).trans rfl
    have p0 := HR.out.1.a.c0
    clear hwx
    by_cases hlt : j < k
    · have hg := fun (W : World) (hW : W.heap = wr.heap) => rgive_ok (HR.out.1.rf.heap hW) (f + j) x (by omega) (by
        show setO D.own ((cs (f, k)).take j) x (f + j) ≠ 0
        rw [setO_out fun hx => by have := (cs_take_mem (by omega)).1 hx; omega]
        exact HOW.out _ (by omega) (by omega)) hx1
      have HC := Lib.hid hg
      rw [show ((f + j : Nat) : Int) = (f : Int) + (j : Int) by omega] at HC
      have z4 := wrapOk ((f : Int) + (j : Int)) (by omega) (by omega)
      clear hg
      go_wp2_with fail
      go_region_held3 (fun w' => w'.cell? ⟨p, 0, none⟩ = some (.pointer (some ⟨R.m, 0, none⟩)) ∧ w'.cell? ⟨w.heap.size, 0, none⟩ = some (.int .i64 f)) (simp [go_sem, *])
        (first | (go_at_call 71; refine (HC.out _ (by exact rfl)).mono ?_; rintro e w2 ⟨rfl, ho2, hs2⟩; have hst := HR.out.1.store ⟨ho2.os, ho2.tape, ho2.output, ho2.size, ho2.block⟩ hs2; have HR2 := Lib.hid (And.intro hst.1 (HR.out.2.trans hst.2)); have k0 := hst.1.a.c0; have k1 : w2.cell? ⟨w.heap.size, 0, none⟩ = some (.int .i64 f) := ((turn_keep HR2.out.2 HX.out HN.out).cell 0).trans rfl; clear ho2 hs2 hst))
      all_goals
        go_wp2
        go_roundw
        case rel => exact ⟨j + 1, by omega, by go_num, Lib.hid ⟨by rw [setO_next hlt]; exact HR2.out.1, HR2.out.2⟩⟩
        case measure => simp [intOf]; omega
    · obtain rfl : j = k := by omega
      go_wp2
      go_end0
      have h1 := HR.out.1
      rw [setO_full] at h1
      exact ⟨rfl, h1, (Turn.of_below HB.out).trans HR.out.2⟩
end
end Go.Proofs.YteencfldehcbbaaDoor
