/- Contracts of Get and Add of a book. -/
import Derived.Test.YteneadimchhhhaaGreatDoorLyBook
namespace Go.Proofs.YteneadimchhhhaaGreatDoor
open Go.RowKit

/-- A layout's twin: what Get leaves. -/
def GetPost (l : LV) (w : World) (e : Ending) (w' : World) : Prop :=
  ∃ k : LV, e = .returned (.tuple #[.agg #[.int .i64 k.F, .slice k.A k.n k.c, .int .i64 k.R, .slice k.D k.m k.d], .int .i64 0]) ∧ k.same l ∧ k.lists w' w.heap.size w'.heap.size ∧ Below w.heap.size w w'

set_option maxHeartbeats 2000000 in
theorem bookGet_ok {w : World} {lo b : Nat} {v : Value} {ls : List LV} (h : BookAt w lo b v ls) (i : Nat) (l : LV) (hi : ls[i]? = some l) :
    Calls Tryz.prog 80 #[.pointer (some ⟨b, 0, none⟩), .int .i64 ((i : Int) + 1)] w (GetPost l w) := by
  obtain ⟨A, c, rfl, hrow⟩ := h.more
  have hil : i < ls.length := (List.getElem?_eq_some_iff.1 hi).1
  obtain ⟨g, rfl, hg, hcell⟩ := hrow (by omega)
  have c0 : w.cell? ⟨b, 0, none⟩ = some (.slice (some ⟨g, 0, none⟩) ls.length c) := h.box.cell 0
  have hblt := h.box.lt
  have e0 : w.cell? ⟨g, i * 4, none⟩ = some (.int .i64 l.F) := hcell i l 0 hi (by omega)
  have e1 : w.cell? ⟨g, i * 4 + 1, none⟩ = some (.slice l.A l.n l.c) := hcell i l 1 hi (by omega)
  have e2 : w.cell? ⟨g, i * 4 + 2, none⟩ = some (.int .i64 l.R) := hcell i l 2 hi (by omega)
  have e3 : w.cell? ⟨g, i * 4 + 3, none⟩ = some (.slice l.D l.m l.d) := hcell i l 3 hi (by omega)
  have hok := h.each l (List.mem_of_getElem? hi)
  have hlen := h.len
  obtain ⟨W, hW⟩ : ∃ W, W = w.alloc (.cells #[.int .i64 0, .slice none 0 0, .int .i64 0, .slice none 0 0] 70) := ⟨_, rfl⟩
  have hb0 : Below w.heap.size w W := by rw [hW]; exact (Below.refl _ _).alloc (Nat.le_refl _) _
  have hsW : W.heap.size = w.heap.size + 1 := by rw [hW]; simp
  have xW : Whole W w.heap.size 70 #[.int .i64 0, .slice none 0 0, .int .i64 0, .slice none 0 0] := by rw [hW]; exact Whole.fresh _ _ _
  have CT := twin_any l.F l.R l.A l.n l.c l.xs l.D l.m l.d l.ys lo w.heap.size W (by omega) hok.fits.hn hok.fits.hm (hok.lists.kept (Kept.of_below hb0 (Nat.le_refl _)))
  rw [hW] at CT
  have HCT := Lib.hid CT
  have HW := Lib.hid hW
  have HX := Lib.hid xW
  have HS := Lib.hid hsW
  have d0 : decide ((i : Int) + 1 < 1) = false := by simp; omega
  have d1 : decide ((ls.length : Int) < (i : Int) + 1) = false := by simp; omega
  obtain ⟨n, hn⟩ : ∃ n, n = ls.length := ⟨_, rfl⟩
  rw [← hn] at c0 d1 hil hlen
  clear CT hW xW hsW hok hrow hcell h hi hn
  go_enter Tryz.func80, Tryz.ntmps80
  go_wp2_with fail
  refine HCT.out.mono ?_
  rw [← HW.out]
  rintro e w2 ⟨A2, c2, D2, d2, rfl, hl2, hb2, _, _⟩
  have hx2 := HX.out.below hb2 (by have := HS.out; omega)
  have f0 := hx2.free 0
  have f1 := hx2.free 1
  have f2 := hx2.free 2
  have f3 := hx2.free 3
  have k0 : w2.cell? ⟨w.heap.size, 0, none⟩ = some (.int .i64 0) := hx2.cell 0
  have k1 : w2.cell? ⟨w.heap.size, 1, none⟩ = some (.slice none 0 0) := hx2.cell 1
  have k2 : w2.cell? ⟨w.heap.size, 2, none⟩ = some (.int .i64 0) := hx2.cell 2
  have k3 : w2.cell? ⟨w.heap.size, 3, none⟩ = some (.slice none 0 0) := hx2.cell 3
  have hs2 := hb2.size
  have hlt2 := hx2.lt
  have HL2 := Lib.hid hl2
  have HB2 := Lib.hid hb2
  clear hl2 hb2 hx2 HCT
  go_wp2
  have hs1 := HS.out
  refine bodyPost_ret (v := .tuple #[.agg #[.int .i64 l.F, .slice A2 l.n c2, .int .i64 l.R, .slice D2 l.m d2], .int .i64 0]) (by simp [results, Tryz.results80, go_sem, k0, k1, k2, k3]) rfl ⟨⟨l.F, l.R, A2, l.n, c2, l.xs, D2, l.m, d2, l.ys⟩, rfl, ⟨rfl, rfl, rfl, rfl, rfl, rfl⟩, ?_, ?_⟩
  · refine Lists.mono (HL2.out.kept (((((Kept.refl _ _ _).setCell (p := ⟨w.heap.size, 0, none⟩) ?_ _).setCell (p := ⟨w.heap.size, 1, none⟩) ?_ _).setCell (p := ⟨w.heap.size, 2, none⟩) ?_ _).setCell (p := ⟨w.heap.size, 3, none⟩) ?_ _)) ?_ ?_
    all_goals first | omega | (simp; omega) | simp
  · exact (((((hb0.trans (HB2.out.mono (by omega))).setCell (p := ⟨w.heap.size, 0, none⟩) (Nat.le_refl _) _).setCell (p := ⟨w.heap.size, 1, none⟩) (Nat.le_refl _) _).setCell (p := ⟨w.heap.size, 2, none⟩) (Nat.le_refl _) _).setCell (p := ⟨w.heap.size, 3, none⟩) (Nat.le_refl _) _)

theorem bookAdd_nil (l : LV) (w : World) : Calls Tryz.prog 25 #[.pointer none, .agg #[.int .i64 l.F, .slice l.A l.n l.c, .int .i64 l.R, .slice l.D l.m l.d]] w fun e w' => e = .returned (.tuple #[.int .i64 0, .int .i64 1]) ∧ Below w.heap.size w w' := by
  go_enter Tryz.func25, Tryz.ntmps25
  go_wp2
  go_ret2
  exact ⟨rfl, by exact (Below.refl _ _).alloc (Nat.le_refl _) _⟩
theorem bookAdd_wrong {w : World} {b hi : Nat} {l : LV} (hl : l.lists w 0 hi) (hf : l.fits) (hB : hi ≤ w.heap.size) (hr : l.right = false) :
    Calls Tryz.prog 25 #[.pointer (some ⟨b, 0, none⟩), .agg #[.int .i64 l.F, .slice l.A l.n l.c, .int .i64 l.R, .slice l.D l.m l.d]] w fun e w' => e = .returned (.tuple #[.int .i64 0, .int .i64 2]) ∧ Below w.heap.size w w' := by
  have CR := lright_any l.F l.R l.A l.n l.c l.xs l.D l.m l.d l.ys hi (w.alloc (.cells #[.int .i64 l.F, .slice l.A l.n l.c, .int .i64 l.R, .slice l.D l.m l.d] 70)) (by simp; omega) hf.hn hf.hm hf.hF hf.hR (hl.fst.ns.alloc hB _) (hl.snd.ns.alloc hB _)
  unfold LV.right at hr
  rw [hr] at CR
  have HC := Lib.hid CR
  clear CR hl hf hr hB
  go_enter Tryz.func25, Tryz.ntmps25
  go_wp2_with fail
  refine HC.out.mono ?_
  rintro e w' ⟨rfl, rfl⟩
  go_wp2
  go_ret2
  exact ⟨rfl, by exact ((Below.refl _ _).alloc (Nat.le_refl _) _).alloc (by simp) _⟩
theorem bookAdd_full {w : World} {lo b hi : Nat} {v : Value} {ls : List LV} {l : LV} (h : BookAt w lo b v ls) (hfull : ls.length = 64) (hl : l.lists w 0 hi) (hf : l.fits) (hB : hi ≤ w.heap.size) (hr : l.right = true) :
    Calls Tryz.prog 25 #[.pointer (some ⟨b, 0, none⟩), .agg #[.int .i64 l.F, .slice l.A l.n l.c, .int .i64 l.R, .slice l.D l.m l.d]] w fun e w' => e = .returned (.tuple #[.int .i64 0, .int .i64 5]) ∧ Below w.heap.size w w' := by
  have CR := lright_any l.F l.R l.A l.n l.c l.xs l.D l.m l.d l.ys hi (w.alloc (.cells #[.int .i64 l.F, .slice l.A l.n l.c, .int .i64 l.R, .slice l.D l.m l.d] 70)) (by simp; omega) hf.hn hf.hm hf.hF hf.hR (hl.fst.ns.alloc hB _) (hl.snd.ns.alloc hB _)
  unfold LV.right at hr
  rw [hr] at CR
  obtain ⟨A, c, rfl, _⟩ := h.more
  rw [hfull] at h
  have hblt := h.box.lt
  have c0 : w.cell? ⟨b, 0, none⟩ = some (.slice A 64 c) := h.box.cell 0
  have HC := Lib.hid CR
  clear CR hl hf hr hB h hfull
  go_enter Tryz.func25, Tryz.ntmps25
  go_wp2_with fail
  refine HC.out.mono ?_
  rintro e w' ⟨rfl, rfl⟩
  go_wp2
  go_ret2
  exact ⟨rfl, by exact ((Below.refl _ _).alloc (Nat.le_refl _) _).alloc (by simp) _⟩
end Go.Proofs.YteneadimchhhhaaGreatDoor
