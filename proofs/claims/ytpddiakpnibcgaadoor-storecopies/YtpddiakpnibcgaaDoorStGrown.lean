/- The contracts of the law package's made and grown. -/
import Derived.Test.YtpddiakpnibcgaaDoorStDo2
import Derived.Deep.DeepCutAuto
namespace Go.Proofs.YtpddiakpnibcgaaDoor
open Go.RowKit

/-- The five cells of an act. -/
def SActAt (w : World) (b o : Nat) (f : Int × Int × Int × Int × Nat) : Prop :=
  w.cell? ⟨b, o + 0, none⟩ = some (.int .i64 f.1) ∧ w.cell? ⟨b, o + 1, none⟩ = some (.int .i64 f.2.1) ∧ w.cell? ⟨b, o + 2, none⟩ = some (.int .i64 f.2.2.1) ∧ w.cell? ⟨b, o + 3, none⟩ = some (.int .i64 f.2.2.2.1) ∧ w.cell? ⟨b, o + 4, none⟩ = some (.int .u64 f.2.2.2.2)
/-- Its numbers are what their types allow. -/
def SActOk (f : Int × Int × Int × Int × Nat) : Prop := I64 f.2.1 ∧ I64 f.2.2.1 ∧ f.2.2.2.2 < 18446744073709551616
/-- A slice of acts that reads as the list l, its memory below block B. -/
def SA (w : World) (B : Nat) (A : Option Addr) (n : Nat) (l : List (Int × Int × Int × Int × Nat)) : Prop :=
  l.length = n ∧ (0 < n → ∃ b off, A = some ⟨b, off, none⟩ ∧ b < B ∧ ∀ i f, l[i]? = some f → SActAt w b (off + i * 5) f) ∧ ∀ f ∈ l, SActOk f
theorem SA.below {w w' : World} {B n : Nat} {A : Option Addr} {l : List (Int × Int × Int × Int × Nat)} (h : SA w B A n l) (hb : Below B w w') : SA w' B A n l := by
  refine ⟨h.1, fun hn => ?_, h.2.2⟩
  obtain ⟨b, off, e, hlt, hc⟩ := h.2.1 hn
  refine ⟨b, off, e, hlt, fun i f hi => ?_⟩
  obtain ⟨h0, h1, h2, h3, h4⟩ := hc i f hi
  exact ⟨(hb.cell (p := ⟨b, _, none⟩) hlt).trans h0, (hb.cell (p := ⟨b, _, none⟩) hlt).trans h1, (hb.cell (p := ⟨b, _, none⟩) hlt).trans h2, (hb.cell (p := ⟨b, _, none⟩) hlt).trans h3, (hb.cell (p := ⟨b, _, none⟩) hlt).trans h4⟩
theorem SA.more {w : World} {B B' n : Nat} {A : Option Addr} {l : List (Int × Int × Int × Int × Nat)} (h : SA w B A n l) (hB : B ≤ B') : SA w B' A n l := by
  refine ⟨h.1, fun hn => ?_, h.2.2⟩
  obtain ⟨b, off, e, hlt, hc⟩ := h.2.1 hn
  exact ⟨b, off, e, by omega, hc⟩
theorem SA.at_ {w : World} {B n k : Nat} {A : Option Addr} {l : List (Int × Int × Int × Int × Nat)} (h : SA w B A n l) (hk : k < n) : ∃ (b off : Nat) (x0 x1 x2 x3 : Int) (x4 : Nat), A = some ⟨b, off, none⟩ ∧ b < B ∧
    w.cell? ⟨b, off + k * 5, none⟩ = some (.int .i64 x0) ∧ w.cell? ⟨b, off + k * 5 + 1, none⟩ = some (.int .i64 x1) ∧ w.cell? ⟨b, off + k * 5 + 2, none⟩ = some (.int .i64 x2) ∧ w.cell? ⟨b, off + k * 5 + 3, none⟩ = some (.int .i64 x3) ∧ w.cell? ⟨b, off + k * 5 + 4, none⟩ = some (.int .u64 x4) ∧ I64 x1 ∧ I64 x2 ∧ x4 < 18446744073709551616 := by
  obtain ⟨b, off, e, hlt, hc⟩ := h.2.1 (by omega)
  have hl : k < l.length := by have := h.1; omega
  obtain ⟨h0, h1, h2, h3, h4⟩ := hc k l[k] (List.getElem?_eq_getElem hl)
  have hok := h.2.2 _ (List.getElem_mem hl)
  exact ⟨b, off, l[k].1, l[k].2.1, l[k].2.2.1, l[k].2.2.2.1, l[k].2.2.2.2, e, hlt, h0, h1, h2, h3, h4, hok.1, hok.2.1, hok.2.2⟩

theorem size12 (n : Int) : ∃ N : Nat, 1 ≤ N ∧ N ≤ 12 ∧ 1 + (if n < 0 then 0 else n) % 12 = (N : Int) := by
  refine ⟨(1 + (if n < 0 then 0 else n) % 12).toNat, ?_⟩
  split <;> omega

section
variable {w0 w w1 w' : World} {B : SB} {R : RB} {C K : Nat} {own wd : Nat → Nat}
theorem Pair.base (h : Pair w1 w' B R C K own wd) (hb : Below w.heap.size w w1) : Pair w w' B R C K own wd := by
  have hs := hb.size
  obtain ⟨⟨a1, a2⟩, ⟨b1, b2⟩, ⟨c1, c2⟩, ⟨d1, d2⟩, e1, e2⟩ := h.held.win
  obtain ⟨⟨f1, f2⟩, ⟨g1, g2⟩, h1, h2⟩ := h.rwin
  exact ⟨⟨h.held.st, hb.trans (h.held.bel.mono hs), ⟨⟨by omega, a2⟩, ⟨by omega, b2⟩, ⟨by omega, c2⟩, ⟨by omega, d2⟩, by omega, e2⟩, h.held.tab⟩, h.rf, ⟨⟨by omega, f2⟩, ⟨by omega, g2⟩, by omega, h2⟩, h.ap⟩
end
/-- What made leaves. -/
def MadePost (w : World) (e : Ending) (w' : World) : Prop :=
  ∃ (B : SB) (R : RB) (C K : Nat), e = .returned (.tuple #[.pointer (some ⟨B.s, 0, none⟩), .pointer (some ⟨R.m, 0, none⟩)]) ∧ (C ≤ 12 ∧ K ≤ 12) ∧ Pair w w' B R C K (fun _ => 0) (fun _ => 0)
set_option maxHeartbeats 2000000 in
theorem made_any (c k : Int) (w : World) (hT : Tab w) :
    Calls Tryd.prog 10 #[.agg #[.int .i64 c, .int .i64 k]] w (MadePost w) := by
  obtain ⟨C, C1, C2, hC⟩ := size12 c
  obtain ⟨K, K1, K2, hK⟩ := size12 k
  have HC := Lib.hid hC
  have HK := Lib.hid hK
  clear hC hK
  go_enter Tryd.func10, Tryd.ntmps10
  go_upto_region 1 with (fail)
  go_cut [4, 5] (fun s t wc => s = .int .i64 (C : Nat) ∧ t = .int .i64 (K : Nat) ∧ Below w.heap.size w wc)
  case first =>
    by_cases h1 : c < 0
    all_goals by_cases h2 : k < 0
    all_goals
      go_region
      all_goals
        go_wp2
        all_goals go_meet
        all_goals
          refine ⟨congrArg (Value.int .i64) ?_, congrArg (Value.int .i64) ?_, ((Below.refl w.heap.size w).alloc (Nat.le_refl _) _).drew⟩
          · have := HC.out
            split at this <;> omega
          · have := HK.out
            split at this <;> omega
  case rest =>
    obtain ⟨rfl, rfl, hb0⟩ := hcut
    clear HC HK
    have HN := Lib.hid (snew_ok C K wc C1 (by omega) K1 (by omega))
    go_wp2_with fail
    refine HN.out.mono ?_
    rintro e w1 ⟨B, rfl, hs1, hb1, hw1⟩
    have hT0 := hT.below hb0 hT.pos
    have k1 : Held wc w1 B C K (fun _ => 0) (fun _ => 0) := ⟨hs1, hb1, hw1, hT0.below hb1 hT0.pos⟩
    have HR := Lib.hid (rnew_ok C K w1 C1 (by omega) K1 (by omega))
    have HK1 := Lib.hid k1
    clear hs1 hb1 hw1 k1 HN
    go_wp2_with fail
    refine HR.out.mono ?_
    rintro e w2 ⟨R, rfl, hr2, hb2, hw2⟩
    have k2 := HK1.out.later hT0 hb2
    have P2 : Pair wc w2 B R C K (fun _ => 0) (fun _ => 0) := by
      have s1 := HK1.out.bel.size
      obtain ⟨⟨a1, a2⟩, ⟨b1, b2⟩, ⟨c1, c2⟩, ⟨d1, d2⟩, e1, e2⟩ := HK1.out.win
      obtain ⟨⟨f1, f2⟩, ⟨g1, g2⟩, h1, h2⟩ := hw2
      refine ⟨k2, hr2, ⟨⟨by omega, f2⟩, ⟨by omega, g2⟩, by omega, h2⟩, fun x hx => ?_⟩
      simp at hx
      omega
    have HP2 := Lib.hid (P2.base hb0)
    clear P2 k2 hr2 hb2 hw2 HR
    go_wp2
    go_ret2
    exact ⟨B, R, C, K, rfl, ⟨C2, K2⟩, HP2.out⟩

/-- What grown leaves. -/
def GrownPost (n : Nat) (w : World) (e : Ending) (w' : World) : Prop :=
  (80 < n ∧ e = .returned (.tuple #[.pointer none, .pointer none]) ∧ Below w.heap.size w w') ∨
  (n ≤ 80 ∧ ∃ (B : SB) (R : RB) (C K : Nat) (own wd : Nat → Nat), e = .returned (.tuple #[.pointer (some ⟨B.s, 0, none⟩), .pointer (some ⟨R.m, 0, none⟩)]) ∧ (C ≤ 12 ∧ K ≤ 12) ∧ Pair w w' B R C K own wd)
def GrownAt (w : World) (B : SB) (R : RB) (C K n : Nat) (x : Value) (wr : World) : Prop :=
  ∃ (k : Nat) (own wd : Nat → Nat), k ≤ n ∧ x = .int .i64 k ∧ Pair w wr B R C K own wd
set_option maxRecDepth 100000 in
set_option maxHeartbeats 4000000 in
theorem grown_any (c k : Int) (A : Option Addr) (n c0 : Nat) (l : List (Int × Int × Int × Int × Nat)) (w : World) (hl : SA w w.heap.size A n l) (hT : Tab w) :
    Calls Tryd.prog 27 #[.agg #[.int .i64 c, .int .i64 k], .slice A n c0] w (GrownPost n w) := by
  have HL := Lib.hid hl
  have hb0 := (Below.refl w.heap.size w).alloc (Nat.le_refl _) (.cells #[.int .i64 c, .int .i64 k] 23)
  have HM := Lib.hid (made_any c k _ (hT.below hb0 hT.pos))
  have HB0 := Lib.hid hb0
  clear hl hb0
  go_enter Tryd.func27, Tryd.ntmps27
  go_wp2_with fail
  refine HM.out.mono ?_
  rintro e w1 ⟨B, R, C, K, rfl, hCK, hP⟩
  have HP := Lib.hid (hP.base HB0.out)
  clear hP HM HB0
  by_cases h80 : 80 < n
  · have d : (80 : Int) < (n : Int) := by omega
    go_wp2
    go_ret2
    exact .inl ⟨h80, rfl, HP.out.held.bel⟩
  · have d : decide ((80 : Int) < (n : Int)) = false := by simp; omega
    go_wp2_with fail
    go_loopw [24] (GrownAt w B R C K n) (fun x _ => n - (intOf x).toNat)
    case atStart => exact ⟨0, _, _, Nat.zero_le _, rfl, HP.out⟩
    case round =>
      obtain ⟨i, own, wd, hi, rfl, hp⟩ := hrel
      have HQ := Lib.hid hp
      by_cases hlt : i < n
      · obtain ⟨ba, oa, x0, x1, x2, x3, x4, rfl, hba, a0, a1, a2, a3, a4, i1, i2, i4⟩ := (HL.out.below hp.held.bel).at_ hlt
        have hb2 := (Below.refl wr.heap.size wr).alloc (Nat.le_refl _) (.cells #[.int .i64 x0, .int .i64 x1, .int .i64 x2, .int .i64 x3, .int .u64 x4] 32)
        have HD := Lib.hid (do_any (hp.later hT hb2) hT x0 x1 x2 x3 x4 i1 i2 i4)
        clear hp hb2
        go_wp2_with fail
        refine HD.out.mono ?_
        rintro e w3 ⟨rfl, own', wd', hp3⟩
        have HP3 := Lib.hid hp3
        clear hp3 HD
        go_wp2
        go_roundw
        case rel => exact ⟨i + 1, own', wd', by omega, by go_num, HP3.out⟩
        case measure => simp [intOf]; omega
      · clear hp
        go_wp2
        go_ret2
        exact .inr ⟨by omega, B, R, C, K, own, wd, rfl, hCK, HQ.out⟩
end Go.Proofs.YtpddiakpnibcgaaDoor
