/- The contract of the law package's do: one call of both, the same answer; the other kinds. -/
import Derived.Test.YtpddiakpnibcgaaDoorStDo
import Derived.Deep.RegionHeld3
import Derived.BigQuiet
namespace Go.Proofs.YtpddiakpnibcgaaDoor
open Go.RowKit

section
variable {w0 w w' : World} {B : SB} {R : RB} {C K : Nat} {own wd : Nat → Nat}
theorem Pair.rfar (h : Pair w0 w B R C K own wd) : w.heap.size ∉ [R.p, R.q] := by
  obtain ⟨⟨a1, a2⟩, ⟨b1, b2⟩, c1, c2⟩ := h.rwin
  simp
  omega
set_option maxRecDepth 100000 in
set_option maxHeartbeats 4000000 in
theorem do_2 (h : Pair w0 w B R C K own wd) (hT : Tab w0) (a b c : Int) (x : Nat) :
    Calls Tryd.prog 12 #[.agg #[.int .i64 2, .int .i64 a, .int .i64 b, .int .i64 c, .int .u64 x], .pointer (some ⟨B.s, 0, none⟩), .pointer (some ⟨R.m, 0, none⟩)] w (DoPost w0 B R C K) := by
  have hb0 := (Below.refl w.heap.size w).alloc (Nat.le_refl _) (.cells #[.int .i64 2, .int .i64 a, .int .i64 b, .int .i64 c, .int .u64 x] 32)
  have hP := h.later hT hb0
  have hX := Whole.fresh w 32 #[.int .i64 2, .int .i64 a, .int .i64 b, .int .i64 c, .int .u64 x]
  have hf := h.far
  have F1 := Lib.hid (fun (W : World) (hW : W.heap = (w.alloc (.cells #[.int .i64 2, .int .i64 a, .int .i64 b, .int .i64 c, .int .u64 x] 32)).heap) => release_all (hP.held.st.heap hW) a)
  have HX := Lib.hid hX
  have HP := Lib.hid hP
  have HF := Lib.hid hf
  have HFR := Lib.hid h.rfar
  clear hb0 hP hX hf h
  go_enter Tryd.func12, Tryd.ntmps12
  go_wp2_with fail
  go_region_held3 (fun w' => w'.cell? ⟨w.heap.size, 1, none⟩ = some (.int .i64 a)) (simp [go_sem, *])
    (first
      | (go_at_call 19; refine (F1.out _ (by exact rfl)).mono ?_; rintro e w2 ⟨rfl, ho2, hs2⟩; have hx2 : Whole w2 w.heap.size 32 #[.int .i64 2, .int .i64 a, .int .i64 b, .int .i64 c, .int .u64 x] := (ho2.block _ HF.out).trans HX.out; have k1 := (hx2.cell 1).trans rfl; have P2 := Lib.hid (show Pair w0 (w.alloc (.cells #[.int .i64 2, .int .i64 a, .int .i64 b, .int .i64 c, .int .u64 x] 32)).drew B R C K own wd from HP.out.still rfl rfl rfl rfl); have G := P2.out.half ho2; have HG := Lib.hid G; have HS2 := Lib.hid hs2; have HX2 := Lib.hid hx2; have HO2 := Lib.hid ho2; clear hs2 hx2 G ho2)
      | (go_at_call 30; refine (rrelease_all HG.out.1 a).mono ?_; rintro e w3 ⟨rfl, w2', hb3, ho3, hr3⟩; have hx3 : Whole w3 w.heap.size 32 #[.int .i64 2, .int .i64 a, .int .i64 b, .int .i64 c, .int .u64 x] := (ho3.block _ HFR.out).trans ((hb3.block _ HX2.out.lt).trans HX2.out); have l1 := (hx3.cell 1).trans rfl; have P3 := Lib.hid (P2.out.both hT HO2.out HS2.out hb3 ho3 hr3); clear hr3 ho3 hb3 hx3))
  all_goals
    generalize chunkE own C a = y at *
    go_wp2
    go_ret
    exact ⟨ret_bool (by simp), _, _, P3.out⟩
set_option maxRecDepth 100000 in
set_option maxHeartbeats 4000000 in
theorem do_3 (h : Pair w0 w B R C K own wd) (hT : Tab w0) (a b c : Int) (x : Nat) (hbb : I64 b) :
    Calls Tryd.prog 12 #[.agg #[.int .i64 3, .int .i64 a, .int .i64 b, .int .i64 c, .int .u64 x], .pointer (some ⟨B.s, 0, none⟩), .pointer (some ⟨R.m, 0, none⟩)] w (DoPost w0 B R C K) := by
  have hb0 := (Below.refl w.heap.size w).alloc (Nat.le_refl _) (.cells #[.int .i64 3, .int .i64 a, .int .i64 b, .int .i64 c, .int .u64 x] 32)
  have hP := h.later hT hb0
  have hX := Whole.fresh w 32 #[.int .i64 3, .int .i64 a, .int .i64 b, .int .i64 c, .int .u64 x]
  have hf := h.far
  have F1 := Lib.hid (fun (W : World) (hW : W.heap = (w.alloc (.cells #[.int .i64 3, .int .i64 a, .int .i64 b, .int .i64 c, .int .u64 x] 32)).heap) => give_all (hP.held.st.heap hW) a b hbb)
  have HX := Lib.hid hX
  have HP := Lib.hid hP
  have HF := Lib.hid hf
  have HFR := Lib.hid h.rfar
  clear hb0 hP hX hf h
  go_enter Tryd.func12, Tryd.ntmps12
  go_wp2_with fail
  go_region_held3 (fun w' => w'.cell? ⟨w.heap.size, 1, none⟩ = some (.int .i64 a) ∧ w'.cell? ⟨w.heap.size, 2, none⟩ = some (.int .i64 b)) (simp [go_sem, *])
    (first
      | (go_at_call 20; refine (F1.out _ (by exact rfl)).mono ?_; rintro e w2 ⟨rfl, ho2, hs2⟩; have hx2 : Whole w2 w.heap.size 32 #[.int .i64 3, .int .i64 a, .int .i64 b, .int .i64 c, .int .u64 x] := (ho2.block _ HF.out).trans HX.out; have k1 := (hx2.cell 1).trans rfl; have k2 := (hx2.cell 2).trans rfl; have P2 := Lib.hid (show Pair w0 (w.alloc (.cells #[.int .i64 3, .int .i64 a, .int .i64 b, .int .i64 c, .int .u64 x] 32)).drew B R C K own wd from HP.out.still rfl rfl rfl rfl); have G := P2.out.half ho2; have HG := Lib.hid G; have HS2 := Lib.hid hs2; have HX2 := Lib.hid hx2; have HO2 := Lib.hid ho2; clear hs2 hx2 G ho2)
      | (go_at_call 31; refine (rgive_all HG.out.1 a b).mono ?_; rintro e w3 ⟨rfl, w2', hb3, ho3, hr3⟩; have hx3 : Whole w3 w.heap.size 32 #[.int .i64 3, .int .i64 a, .int .i64 b, .int .i64 c, .int .u64 x] := (ho3.block _ HFR.out).trans ((hb3.block _ HX2.out.lt).trans HX2.out); have l1 := (hx3.cell 1).trans rfl; have l2 := (hx3.cell 2).trans rfl; have P3 := Lib.hid (P2.out.both hT HO2.out HS2.out hb3 ho3 hr3); clear hr3 ho3 hb3 hx3))
  all_goals
    generalize giveE own C a b = y at *
    go_wp2
    go_ret
    exact ⟨ret_bool (by simp), _, _, P3.out⟩
set_option maxRecDepth 100000 in
set_option maxHeartbeats 4000000 in
theorem do_6 (h : Pair w0 w B R C K own wd) (hT : Tab w0) (a b c : Int) (x : Nat) :
    Calls Tryd.prog 12 #[.agg #[.int .i64 6, .int .i64 a, .int .i64 b, .int .i64 c, .int .u64 x], .pointer (some ⟨B.s, 0, none⟩), .pointer (some ⟨R.m, 0, none⟩)] w (DoPost w0 B R C K) := by
  have hb0 := (Below.refl w.heap.size w).alloc (Nat.le_refl _) (.cells #[.int .i64 6, .int .i64 a, .int .i64 b, .int .i64 c, .int .u64 x] 32)
  have hP := h.later hT hb0
  have hX := Whole.fresh w 32 #[.int .i64 6, .int .i64 a, .int .i64 b, .int .i64 c, .int .u64 x]
  have hf := h.far
  have F1 := Lib.hid (fun (W : World) (hW : W.heap = (w.alloc (.cells #[.int .i64 6, .int .i64 a, .int .i64 b, .int .i64 c, .int .u64 x] 32)).heap) => copy_all (hP.held.st.heap hW) a b c)
  have HX := Lib.hid hX
  have HP := Lib.hid hP
  have HF := Lib.hid hf
  have HFR := Lib.hid h.rfar
  clear hb0 hP hX hf h
  go_enter Tryd.func12, Tryd.ntmps12
  go_wp2_with fail
  go_region_held3 (fun w' => w'.cell? ⟨w.heap.size, 1, none⟩ = some (.int .i64 a) ∧ w'.cell? ⟨w.heap.size, 2, none⟩ = some (.int .i64 b) ∧ w'.cell? ⟨w.heap.size, 3, none⟩ = some (.int .i64 c)) (simp [go_sem, *])
    (first
      | (go_at_call 22; refine (F1.out _ (by exact rfl)).mono ?_; rintro e w2 ⟨rfl, ho2, hs2⟩; have hx2 : Whole w2 w.heap.size 32 #[.int .i64 6, .int .i64 a, .int .i64 b, .int .i64 c, .int .u64 x] := (ho2.block _ HF.out).trans HX.out; have k1 := (hx2.cell 1).trans rfl; have k2 := (hx2.cell 2).trans rfl; have k3 := (hx2.cell 3).trans rfl; have P2 := Lib.hid (show Pair w0 (w.alloc (.cells #[.int .i64 6, .int .i64 a, .int .i64 b, .int .i64 c, .int .u64 x] 32)).drew B R C K own wd from HP.out.still rfl rfl rfl rfl); have G := P2.out.half ho2; have HG := Lib.hid G; have HS2 := Lib.hid hs2; have HX2 := Lib.hid hx2; have HO2 := Lib.hid ho2; clear hs2 hx2 G ho2)
      | (go_at_call 33; refine (rcopy_all HG.out.1 a b c HG.out.2).mono ?_; rintro e w3 ⟨rfl, w2', hb3, ho3, hr3⟩; have hx3 : Whole w3 w.heap.size 32 #[.int .i64 6, .int .i64 a, .int .i64 b, .int .i64 c, .int .u64 x] := (ho3.block _ HFR.out).trans ((hb3.block _ HX2.out.lt).trans HX2.out); have l1 := (hx3.cell 1).trans rfl; have l2 := (hx3.cell 2).trans rfl; have l3 := (hx3.cell 3).trans rfl; have P3 := Lib.hid (P2.out.both hT HO2.out HS2.out hb3 ho3 hr3); clear hr3 ho3 hb3 hx3))
  all_goals
    generalize copyE own C K a b c = y at *
    go_wp2
    go_ret
    exact ⟨ret_bool (by simp), _, _, P3.out⟩
set_option maxRecDepth 100000 in
set_option maxHeartbeats 4000000 in
theorem do_4 (h : Pair w0 w B R C K own wd) (hT : Tab w0) (a b c : Int) (x : Nat) (ha : I64 a) :
    Calls Tryd.prog 12 #[.agg #[.int .i64 4, .int .i64 a, .int .i64 b, .int .i64 c, .int .u64 x], .pointer (some ⟨B.s, 0, none⟩), .pointer (some ⟨R.m, 0, none⟩)] w (DoPost w0 B R C K) := by
  have hb0 := (Below.refl w.heap.size w).alloc (Nat.le_refl _) (.cells #[.int .i64 4, .int .i64 a, .int .i64 b, .int .i64 c, .int .u64 x] 32)
  have hP := h.later hT hb0
  have hX := Whole.fresh w 32 #[.int .i64 4, .int .i64 a, .int .i64 b, .int .i64 c, .int .u64 x]
  have hf := h.far
  have F1 := Lib.hid (read_any hP.held.st a)
  have F2 := Lib.hid (rat_any hP.rf a ha)
  have HP := Lib.hid hP
  have hw := h.rf.words
  clear hf hX
  by_cases hz : addrE own C K a = 0
  · obtain ⟨j, rfl, hj, ho⟩ := addrE_ok hz
    have e1 : readV own wd C K (j : Int) = wd j := by unfold readV; rw [if_pos hz, Int.toNat_natCast]
    rw [e1, hz] at F1
    rw [hz] at F2
    have c0 := hP.rf.words
    have c1 := hP.rf.wrow.cell j hj
    have hM := hP.rf.all
    clear hb0 hP hz e1 ho h hw
    generalize hMM : C * K = M at *
    have HMM := Lib.hid hMM
    clear hMM
    generalize wd j = z at *
    have y6 : (j : Int) < (M : Int) := by omega
    have d1 : ((z : Int) != (z : Int)) = false := by simp
    go_enter Tryd.func12, Tryd.ntmps12
    go_wp2_with (first
      | (go_at_call 18; refine F1.out.mono ?_; rintro e w' ⟨rfl, rfl⟩)
      | (go_at_call 32; refine F2.out.mono ?_; rintro e w' ⟨rfl, rfl⟩))
    go_quiet (fail)
    go_wp2
    go_ret
    exact ⟨ret_bool (by simp), _, _, HP.out.still rfl rfl rfl rfl⟩
  · have e1 : readV own wd C K a = 0 := by unfold readV; rw [if_neg hz]
    rw [e1] at F1
    clear hb0 hP e1 h hw
    generalize addrE own C K a = y at *
    have d1 : (y == 0) = false := by simp; omega
    have d2 : (y != 0) = true := by simp; omega
    go_enter Tryd.func12, Tryd.ntmps12
    go_wp2_with (first
      | (go_at_call 18; refine F1.out.mono ?_; rintro e w' ⟨rfl, rfl⟩)
      | (go_at_call 32; refine F2.out.mono ?_; rintro e w' ⟨rfl, rfl⟩))
    go_quiet (fail)
    go_wp2
    go_ret
    exact ⟨ret_bool (by simp), _, _, HP.out.still rfl rfl rfl rfl⟩
set_option maxRecDepth 100000 in
set_option maxHeartbeats 4000000 in
theorem do_5 (h : Pair w0 w B R C K own wd) (hT : Tab w0) (a b c : Int) (x : Nat) (ha : I64 a) (hx : x < 18446744073709551616) :
    Calls Tryd.prog 12 #[.agg #[.int .i64 5, .int .i64 a, .int .i64 b, .int .i64 c, .int .u64 x], .pointer (some ⟨B.s, 0, none⟩), .pointer (some ⟨R.m, 0, none⟩)] w (DoPost w0 B R C K) := by
  have hb0 := (Below.refl w.heap.size w).alloc (Nat.le_refl _) (.cells #[.int .i64 5, .int .i64 a, .int .i64 b, .int .i64 c, .int .u64 x] 32)
  have hP := h.later hT hb0
  have hX := Whole.fresh w 32 #[.int .i64 5, .int .i64 a, .int .i64 b, .int .i64 c, .int .u64 x]
  have hf := h.far
  have F1 := Lib.hid (write_all hP.held.st a x hx)
  have HX := Lib.hid hX
  have HP := Lib.hid hP
  have HF := Lib.hid hf
  have HFR := Lib.hid h.rfar
  have HH := Lib.hid (fun w2 ho2 => rat_any (w := w2) (hP.half ho2).1 a ha)
  clear hb0 hP hX hf h
  unfold wrWd at F1
  by_cases hz : addrE own C K a = 0
  · rw [if_pos hz, hz] at F1
    rw [hz] at HH
    obtain ⟨j, rfl, hj, ho⟩ := addrE_ok hz
    rw [Int.toNat_natCast] at F1
    clear hz ho
    go_enter Tryd.func12, Tryd.ntmps12
    go_wp2_with fail
    refine F1.out.mono ?_
    rintro e w2 ⟨rfl, ho2, hs2⟩
    have hx2 : Whole w2 w.heap.size 32 #[.int .i64 5, .int .i64 j, .int .i64 b, .int .i64 c, .int .u64 x] := (ho2.block _ HF.out).trans HX.out
    have e1 := (hx2.cell 1).trans rfl
    have e4 := (hx2.cell 4).trans rfl
    have G := HH.out w2 ho2
    have HG := Lib.hid G
    have hr2 := (HP.out.half ho2).1
    have c0 := hr2.words
    have c1 := hr2.wrow.cell j hj
    have c2 := hr2.wrow.thaw j hj
    have hM := hr2.all
    have hr3 := hr2.wrote j x
    have P3 := Lib.hid (HP.out.both hT ho2 hs2 (Below.refl _ _) ((OnlyIn.refl [R.p, R.q] w2).setCell (c := R.p) (by simp) j (.int .u64 x)) hr3)
    clear G hr2 hr3 hs2 hx2 HH F1
    generalize hMM : C * K = M at *
    have HMM := Lib.hid hMM
    clear hMM
    have y6 : (j : Int) < (M : Int) := by omega
    generalize wd j = z at *
    go_wp2_with fail
    refine HG.out.mono ?_
    rintro e w' ⟨rfl, rfl⟩
    go_wp2_with fail
    go_region
    all_goals
      go_wp2
      go_ret
      exact ⟨ret_bool (by simp), _, _, P3.out.still rfl rfl rfl rfl⟩
  · rw [if_neg hz] at F1
    generalize addrE own C K a = y at *
    have d1 : (y == 0) = false := by simp; omega
    go_enter Tryd.func12, Tryd.ntmps12
    go_wp2_with fail
    refine F1.out.mono ?_
    rintro e w2 ⟨rfl, ho2, hs2⟩
    have hx2 : Whole w2 w.heap.size 32 #[.int .i64 5, .int .i64 a, .int .i64 b, .int .i64 c, .int .u64 x] := (ho2.block _ HF.out).trans HX.out
    have e1 := (hx2.cell 1).trans rfl
    have G := HH.out w2 ho2
    have HG := Lib.hid G
    have hr2 := (HP.out.half ho2).1
    have P3 := Lib.hid (HP.out.both hT ho2 hs2 (Below.refl _ _) (OnlyIn.refl [R.p, R.q] w2) hr2)
    clear G hr2 hs2 hx2 HH F1
    go_wp2_with fail
    refine HG.out.mono ?_
    rintro e w' ⟨rfl, rfl⟩
    go_wp2
    go_ret
    exact ⟨ret_bool (by simp), _, _, P3.out⟩
set_option maxRecDepth 100000 in
set_option maxHeartbeats 4000000 in
theorem do_7 (h : Pair w0 w B R C K own wd) (hT : Tab w0) (k a b c : Int) (x : Nat) (hk : k < 0 ∨ 6 < k) :
    Calls Tryd.prog 12 #[.agg #[.int .i64 k, .int .i64 a, .int .i64 b, .int .i64 c, .int .u64 x], .pointer (some ⟨B.s, 0, none⟩), .pointer (some ⟨R.m, 0, none⟩)] w (DoPost w0 B R C K) := by
  have hP := Lib.hid (h.later hT ((Below.refl w.heap.size w).alloc (Nat.le_refl _) (.cells #[.int .i64 k, .int .i64 a, .int .i64 b, .int .i64 c, .int .u64 x] 32)))
  have d0 : (k == 0) = false := by simp; omega
  have d1 : (k == 1) = false := by simp; omega
  have d2 : (k == 2) = false := by simp; omega
  have d3 : (k == 3) = false := by simp; omega
  have d4 : (k == 4) = false := by simp; omega
  have d5 : (k == 5) = false := by simp; omega
  have d6 : (k == 6) = false := by simp; omega
  clear hk h
  go_enter Tryd.func12, Tryd.ntmps12
  go_wp2
  go_ret
  exact ⟨rfl, _, _, hP.out⟩
theorem do_any (h : Pair w0 w B R C K own wd) (hT : Tab w0) (k a b c : Int) (x : Nat) (ha : I64 a) (hb : I64 b) (hx : x < 18446744073709551616) :
    Calls Tryd.prog 12 #[.agg #[.int .i64 k, .int .i64 a, .int .i64 b, .int .i64 c, .int .u64 x], .pointer (some ⟨B.s, 0, none⟩), .pointer (some ⟨R.m, 0, none⟩)] w (DoPost w0 B R C K) := by
  by_cases k0 : k = 0
  · subst k0; exact do_0 h hT a b c x ha
  by_cases k1 : k = 1
  · subst k1; exact do_1 h hT a b c x ha hb
  by_cases k2 : k = 2
  · subst k2; exact do_2 h hT a b c x
  by_cases k3 : k = 3
  · subst k3; exact do_3 h hT a b c x hb
  by_cases k4 : k = 4
  · subst k4; exact do_4 h hT a b c x ha
  by_cases k5 : k = 5
  · subst k5; exact do_5 h hT a b c x ha hx
  by_cases k6 : k = 6
  · subst k6; exact do_6 h hT a b c x
  exact do_7 h hT k a b c x (by omega)
end
end Go.Proofs.YtpddiakpnibcgaaDoor
