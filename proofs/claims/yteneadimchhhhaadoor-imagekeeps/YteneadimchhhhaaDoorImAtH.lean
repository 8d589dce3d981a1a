/- Contracts of At, addressOf of images. -/
import Derived.Test.YteneadimchhhhaaDoorImAtT
import Derived.Test.YteneadimchhhhaaDoorLyIsRef
namespace Go.Proofs.YteneadimchhhhaaDoor
open Go.RowKit

set_option maxHeartbeats 2000000 in
theorem iat_any {w : World} {I : IB} {q : Cf} {wd : Nat → Nat} (h : ImAt w I q wd) (a : Int) :
    Calls Tryd.prog 8 #[.pointer (some ⟨I.p, 0, none⟩), .int .i64 a] w fun e w' => e = .returned (.tuple #[.agg #[.int .i64 (IM.atL q wd a), .int .i64 (IM.atC q wd a), .int .i64 (IM.atS q wd a)], .int .i64 (IM.atN q wd a), .int .i64 (IM.atE q wd a)]) ∧ Below w.heap.size w w' := by
  obtain ⟨w1, hw1⟩ : ∃ w1, w1 = w.alloc (.cells #[.int .i64 0, .int .i64 0, .int .i64 0] 28) := ⟨_, rfl⟩
  have hb1 : Below w.heap.size w w1 := by rw [hw1]; exact (Below.refl _ _).alloc (Nat.le_refl _) _
  have Y1 : Whole w1 w.heap.size 28 #[.int .i64 0, .int .i64 0, .int .i64 0] := by rw [hw1]; exact Whole.fresh _ _ _
  have CO := objectAt_any (h.below hb1) a
  generalize IM.atL q wd a = l1 at *
  generalize IM.atC q wd a = l2 at *
  generalize IM.atS q wd a = l3 at *
  generalize IM.atN q wd a = n at *
  generalize IM.atE q wd a = er at *
  rw [hw1] at CO
  have HO := Lib.hid CO
  have HB1 := Lib.hid hb1
  have HY := Lib.hid Y1
  have HW := Lib.hid hw1
  clear CO h hb1 Y1 hw1
  go_enter Tryd.func8, Tryd.ntmps8
  go_wp2_with fail
  refine HO.out.mono ?_
  rw [← HW.out]
  rintro e w2 ⟨k, rfl, -, hb2⟩
  go_upto_region 2 with fail
  obtain ⟨w3, hw3⟩ : ∃ w3, w3 = w2.alloc (.cells #[.int .i64 l1, .int .i64 l2, .int .i64 l3, .int .i64 k.F, .slice k.A k.n k.c, .int .i64 k.R, .slice k.D k.m k.d, .int .i64 n] 79) := ⟨_, rfl⟩
  have hb3 : Below w1.heap.size w1 w3 := by rw [hw3]; exact hb2.alloc hb2.size _
  have hb4 := HB1.out.trans (hb3.mono HB1.out.size)
  have O : Whole w3 w2.heap.size 79 #[.int .i64 l1, .int .i64 l2, .int .i64 l3, .int .i64 k.F, .slice k.A k.n k.c, .int .i64 k.R, .slice k.D k.m k.d, .int .i64 n] := by rw [hw3]; exact Whole.fresh _ _ _
  have hlt := HY.out.lt
  have hle : w.heap.size < w2.heap.size := by have := hb2.size; omega
  rw [← hw3]
  obtain ⟨y0, y1, y2⟩ := (HY.out.below hb3 hlt).cells3
  have f0 := (HY.out.below hb3 hlt).free 0
  have f1 := (HY.out.below hb3 hlt).free 1
  have f2 := (HY.out.below hb3 hlt).free 2
  have o0 : w3.cell? ⟨w2.heap.size, 0, none⟩ = some (.int .i64 l1) := O.cell 0
  have o1 : w3.cell? ⟨w2.heap.size, 1, none⟩ = some (.int .i64 l2) := O.cell 1
  have o2 : w3.cell? ⟨w2.heap.size, 2, none⟩ = some (.int .i64 l3) := O.cell 2
  have o7 : w3.cell? ⟨w2.heap.size, 7, none⟩ = some (.int .i64 n) := O.cell 7
  have HB4 := Lib.hid hb4
  clear hb2 hb3 hb4 O hw3
  go_region
  all_goals
    go_wp2_with fail
    refine bodyPost_ret (v := .tuple #[.agg #[.int .i64 l1, .int .i64 l2, .int .i64 l3], .int .i64 n, .int .i64 er]) (by simp [results, Tryd.results8, go_sem, y0, y1, y2]) rfl ⟨rfl, ?_⟩
    exact ((HB4.out.drew.setCell (p := ⟨w.heap.size, 0, none⟩) (Nat.le_refl _) _).setCell (p := ⟨w.heap.size, 1, none⟩) (Nat.le_refl _) _).setCell (p := ⟨w.heap.size, 2, none⟩) (Nat.le_refl _) _

/-- What IsRef says of a layout whose size may be. -/
def refE (k : LV) (C p : Int) : Int := if p < 0 ∨ LM.size k.F k.R k.xs k.ys C ≤ p then 3 else 0
def refB (k : LV) (C p : Int) : Bool := if p < 0 ∨ LM.size k.F k.R k.xs k.ys C ≤ p then false else LM.isRef k.F k.R k.xs k.ys p
theorem lisRef_any {w W : World} {k : LV} (C p : Int) (hL : k.lists W w.heap.size W.heap.size) (hf : k.fits) (hC : I64 C) (hcode : LM.code k.F k.R k.xs k.ys C = 0) :
    Calls Tryd.prog 66 #[.agg #[.int .i64 k.F, .slice k.A k.n k.c, .int .i64 k.R, .slice k.D k.m k.d], .int .i64 C, .int .i64 p] W fun e w' => e = .returned (.tuple #[.bool (refB k C p), .int .i64 (refE k C p)]) ∧ Below W.heap.size W w' := by
  unfold refB refE
  have hs := LM.size_ok hcode
  by_cases hp : p < 0 ∨ LM.size k.F k.R k.xs k.ys C ≤ p
  · rw [if_pos hp, if_pos hp]
    rw [hs] at hp
    exact isRef_out k.F k.R k.A k.n k.c k.xs k.D k.m k.d k.ys C p W.heap.size W (Nat.le_refl _) hf.hn hf.hm hf.hF hf.hR hL.fst.ns hL.snd.ns hC hcode hp
  · rw [if_neg hp, if_neg hp]
    rw [hs] at hp
    exact isRef_ok k.F k.R k.A k.n k.c k.xs k.D k.m k.d k.ys C p W.heap.size W (Nat.le_refl _) hf.hn hf.hm hf.hF hf.hR hL.fst.ns hL.snd.ns hC hcode (by omega) (by omega)
theorem at_ok {q : Cf} {wd : Nat → Nat} {a : Int} (h : IM.atE q wd a = 0) : IM.adE q a = 0 ∧ HM.dE (IM.hd wd a) = 0 ∧ IM.atL q wd a = HM.dL (IM.hd wd a) ∧ IM.atC q wd a = HM.dC (IM.hd wd a) ∧ IM.atS q wd a = HM.dS (IM.hd wd a) ∧ IM.szE q.D (IM.atL q wd a) (IM.atC q wd a) = 0 ∧ IM.atN q wd a = IM.szN q.D (IM.atL q wd a) (IM.atC q wd a) := by
  have hL : IM.atL q wd a = HM.dL (IM.hd wd a) := by unfold IM.atL; rw [if_pos h]
  have hC : IM.atC q wd a = HM.dC (IM.hd wd a) := by unfold IM.atC; rw [if_pos h]
  have hS : IM.atS q wd a = HM.dS (IM.hd wd a) := by unfold IM.atS; rw [if_pos h]
  have hN : IM.atN q wd a = IM.szN q.D (HM.dL (IM.hd wd a)) (HM.dC (IM.hd wd a)) := by unfold IM.atN; rw [if_pos h]
  unfold IM.atE at h
  by_cases h1 : IM.adE q a = 0
  · rw [if_pos h1] at h
    by_cases h2 : HM.dE (IM.hd wd a) = 0
    · rw [if_pos h2] at h
      exact ⟨h1, h2, hL, hC, hS, by rw [hL, hC]; exact h, by rw [hL, hC]; exact hN⟩
    · rw [if_neg h2] at h
      omega
  · rw [if_neg h1] at h
    exact absurd h h1
theorem at_got {q : Cf} {wd : Nat → Nat} {a : Int} {k : LV} (h : IM.atE q wd a = 0) (hl : IM.lay q.D (IM.atL q wd a) = some k.ld) :
    LM.code k.F k.R k.xs k.ys (IM.atC q wd a) = 0 ∧ IM.atN q wd a = 1 + LM.size k.F k.R k.xs k.ys (IM.atC q wd a) ∧ ∀ p, IM.isR q.D (IM.atL q wd a) p = LM.isRef k.F k.R k.xs k.ys p := by
  obtain ⟨-, -, -, -, -, h6, h7⟩ := at_ok h
  have hz := h6
  unfold IM.szN at h7
  rw [if_pos h6, hl] at h7
  unfold IM.szE at h6
  rw [hl] at h6
  exact ⟨h6, h7, fun p => by unfold IM.isR; rw [hl]; rfl⟩
theorem atC_i64 (q : Cf) (wd : Nat → Nat) (a : Int) : I64 (IM.atC q wd a) := by
  unfold IM.atC
  split
  · have h0 : 0 ≤ IM.hd wd a := by unfold IM.hd; omega
    rcases dC_bd (IM.hd wd a) with h | h
    · unfold I64; omega
    · exact absurd h0 h
  · unfold I64; omega
theorem pl_of {q : Cf} {wd : Nat → Nat} {a p : Int} {k : LV} {r : Bool} (h : IM.atE q wd a = 0) (hl : IM.lay q.D (IM.atL q wd a) = some k.ld) :
    (refE k (IM.atC q wd a) p ≠ 0 → IM.plE q wd a p r = refE k (IM.atC q wd a) p) ∧ (refE k (IM.atC q wd a) p = 0 → refB k (IM.atC q wd a) p ≠ r → IM.plE q wd a p r = 9) ∧ (refE k (IM.atC q wd a) p = 0 → refB k (IM.atC q wd a) p = r → IM.plE q wd a p r = 0) := by
  obtain ⟨h1, h2, h3⟩ := at_got h hl
  unfold IM.plE refE refB
  rw [if_pos h, h2, h3]
  by_cases hp : p < 0 ∨ LM.size k.F k.R k.xs k.ys (IM.atC q wd a) ≤ p
  · rw [if_pos hp, if_pos (by omega)]
    exact ⟨fun _ => rfl, fun e => absurd e (by decide), fun e => absurd e (by decide)⟩
  · rw [if_neg hp, if_neg hp, if_neg (by omega)]
    exact ⟨fun e => absurd rfl e, fun _ e => if_neg e, fun _ e => if_pos e⟩
theorem refE_cases (k : LV) (C p : Int) : refE k C p = 0 ∨ refE k C p = 3 := by unfold refE; split <;> simp
theorem ad_bd {q : Cf} {a : Int} (hC : q.C ≤ 1024) (hK : q.K ≤ 1024) (h : IM.adE q a = 0) : 0 ≤ a ∧ a < 1048576 := by
  obtain ⟨j, rfl, hj, _⟩ := addrE_ok h
  have := Nat.mul_le_mul hC hK
  omega
theorem pl_bd {q : Cf} {wd : Nat → Nat} {a p : Int} {r : Bool} (h : IM.plE q wd a p r = 0) : IM.atE q wd a = 0 ∧ 0 ≤ p ∧ p < IM.atN q wd a - 1 := by
  unfold IM.plE at h
  by_cases h1 : IM.atE q wd a = 0
  · rw [if_pos h1] at h
    by_cases h2 : p < 0 ∨ IM.atN q wd a - 1 ≤ p
    · rw [if_pos h2] at h
      omega
    · exact ⟨h1, by omega, by omega⟩
  · rw [if_neg h1] at h
    exact absurd h h1
theorem atN_bd (q : Cf) (wd : Nat → Nat) (a : Int) : 0 ≤ IM.atN q wd a ∧ IM.atN q wd a ≤ 8192 := by
  unfold IM.atN
  split
  · unfold IM.szN
    split
    · split
      · omega
      · rename_i l _
        have := LM.size_bd l.F l.R l.xs l.ys (HM.dC (IM.hd wd a))
        omega
    · omega
  · omega

set_option maxHeartbeats 2000000 in
theorem addressOf_any {w : World} {I : IB} {q : Cf} {wd : Nat → Nat} (h : ImAt w I q wd) (a p : Int) (r : Bool) :
    Calls Tryd.prog 51 #[.pointer (some ⟨I.p, 0, none⟩), .int .i64 a, .int .i64 p, .bool r] w fun e w' => e = .returned (.tuple #[.int .i64 (IM.plA q wd a p r), .int .i64 (IM.plE q wd a p r)]) ∧ Below w.heap.size w w' := by
  have CO := objectAt_any h a
  have hCi := atC_i64 q wd a
  by_cases hz : IM.atE q wd a = 0
  · have P := fun k hl => pl_of (q := q) (wd := wd) (a := a) (p := p) (k := k) (r := r) hz hl
    have Q := fun k hl => at_got (q := q) (wd := wd) (a := a) (k := k) hz hl
    have hb := ad_bd h.st.C2 h.st.K2 (at_ok hz).1
    have hpl := fun e => pl_bd (q := q) (wd := wd) (a := a) (p := p) (r := r) e
    have hnb := (atN_bd q wd a).2
    have hA : ∀ E, IM.plE q wd a p r = E → IM.plA q wd a p r = if E = 0 then a + 1 + p else 0 := fun E e => by unfold IM.plA; rw [e]
    have HA := Lib.hid hA
    have HPL := Lib.hid hpl
    have HP := Lib.hid P
    have HQ := Lib.hid Q
    have HNB := Lib.hid hnb
    rw [hz] at CO
    obtain ⟨l1, h1⟩ : ∃ x, x = IM.atL q wd a := ⟨_, rfl⟩
    obtain ⟨l2, h2⟩ : ∃ x, x = IM.atC q wd a := ⟨_, rfl⟩
    obtain ⟨l3, h3⟩ : ∃ x, x = IM.atS q wd a := ⟨_, rfl⟩
    obtain ⟨n, h4⟩ : ∃ x, x = IM.atN q wd a := ⟨_, rfl⟩
    rw [← h1, ← h2, ← h3, ← h4] at CO
    rw [← h1, ← h2] at HP HQ
    rw [← h4] at HPL HNB HQ
    rw [← h2] at hCi
    have HO := Lib.hid CO
    have HCi := Lib.hid hCi
    clear CO hCi P Q hpl hA h1 h2 h3 h4 hz h hnb
    go_enter Tryd.func51, Tryd.ntmps51
    go_wp2_with fail
    refine HO.out.mono ?_
    rintro e w2 ⟨k, rfl, hg, hb2⟩
    obtain ⟨hl, hf, hL⟩ := hg.out rfl
    obtain ⟨q1, q2, q3⟩ := HQ.out k hl
    obtain ⟨p1, p2, p3⟩ := HP.out k hl
    obtain ⟨w3, hw3⟩ : ∃ w3, w3 = w2.alloc (.cells #[.int .i64 l1, .int .i64 l2, .int .i64 l3, .int .i64 k.F, .slice k.A k.n k.c, .int .i64 k.R, .slice k.D k.m k.d, .int .i64 n] 79) := ⟨_, rfl⟩
    have hb3 : Below w2.heap.size w2 w3 := by rw [hw3]; exact (Below.refl _ _).alloc (Nat.le_refl _) _
    have hL3 : k.lists w3 w.heap.size w3.heap.size := Lists.mono (Lists.kept hL (Kept.of_below hb3 (Nat.le_refl _))) (Nat.le_refl _) hb3.size
    have CI := lisRef_any (w := w) (W := w3) l2 p hL3 hf HCi.out q1
    have hb4 := hb2.trans (hb3.mono hb2.size)
    have O : Whole w3 w2.heap.size 79 #[.int .i64 l1, .int .i64 l2, .int .i64 l3, .int .i64 k.F, .slice k.A k.n k.c, .int .i64 k.R, .slice k.D k.m k.d, .int .i64 n] := by rw [hw3]; exact Whole.fresh _ _ _
    obtain ⟨rb, hrb⟩ : ∃ x, x = refB k l2 p := ⟨_, rfl⟩
    obtain ⟨re, hre⟩ : ∃ x, x = refE k l2 p := ⟨_, rfl⟩
    rw [← hrb, ← hre] at CI p2 p3
    rw [← hre] at p1
    have o1 : w3.cell? ⟨w2.heap.size, 1, none⟩ = some (.int .i64 l2) := O.cell 1
    have o3 : w3.cell? ⟨w2.heap.size, 3, none⟩ = some (.int .i64 k.F) := O.cell 3
    have o4 : w3.cell? ⟨w2.heap.size, 4, none⟩ = some (.slice k.A k.n k.c) := O.cell 4
    have o5 : w3.cell? ⟨w2.heap.size, 5, none⟩ = some (.int .i64 k.R) := O.cell 5
    have o6 : w3.cell? ⟨w2.heap.size, 6, none⟩ = some (.slice k.D k.m k.d) := O.cell 6
    have HCI := Lib.hid CI
    have P1 := Lib.hid p1
    have P2 := Lib.hid p2
    have P3 := Lib.hid p3
    have HB4 := Lib.hid hb4
    clear hg hl hf hL q1 q2 q3 p1 p2 p3 hb3 hL3 CI hb4 O hrb hre HQ HP hb2 HO
    go_upto_region 4 with fail
    rw [← hw3]
    clear hw3
    go_wp2_with fail
    refine HCI.out.mono ?_
    rintro e w4 ⟨rfl, hb5⟩
    have hb6 := Lib.hid (HB4.out.trans (hb5.mono HB4.out.size))
    clear hb5 o1 o3 o4 o5 o6 HCI
    by_cases hre : re = 0
    · subst hre
      cases rb <;> cases r
      all_goals first
        | (have E := P3.out rfl rfl
           have EA := HA.out 0 E
           rw [if_pos rfl] at EA
           obtain ⟨-, b1, b2⟩ := HPL.out E
           have b3 := HNB.out
           obtain ⟨b4, b5⟩ := hb
           have HE := Lib.hid (And.intro E EA)
           clear E EA P1 P2 P3 HPL HA HNB
           go_wp2_with fail
           go_ret2
           exact ⟨by rw [HE.out.1, HE.out.2]; rfl, hb6.out⟩)
        | (have E := P2.out rfl (by decide)
           have EA := HA.out 9 E
           rw [if_neg (by decide)] at EA
           have HE := Lib.hid (And.intro E EA)
           clear E EA P1 P2 P3 HPL HA HNB
           go_wp2_with fail
           go_ret2
           exact ⟨by rw [HE.out.1, HE.out.2]; rfl, hb6.out⟩)
    · have E := P1.out hre
      have EA := HA.out re E
      have hne : (re != 0) = true := by simpa using hre
      rw [if_neg hre] at EA
      have HE := Lib.hid (And.intro E EA)
      clear E EA P1 P2 P3 HPL HA hre HNB
      go_wp2_with fail
      go_ret2
      exact ⟨by rw [HE.out.1, HE.out.2]; rfl, hb6.out⟩
  · have hE : IM.plE q wd a p r = IM.atE q wd a := by unfold IM.plE; rw [if_neg hz]
    have hA : IM.plA q wd a p r = 0 := by unfold IM.plA; rw [hE, if_neg hz]
    rw [hE, hA]
    clear hE hA hCi
    generalize IM.atL q wd a = l1 at *
    generalize IM.atC q wd a = l2 at *
    generalize IM.atS q wd a = l3 at *
    generalize IM.atN q wd a = n at *
    generalize IM.atE q wd a = er at *
    have hd : (er != 0) = true := by simpa using hz
    have HO := Lib.hid CO
    clear CO hz h
    go_enter Tryd.func51, Tryd.ntmps51
    go_wp2_with fail
    refine HO.out.mono ?_
    rintro e w2 ⟨k, rfl, -, hb2⟩
    go_wp2_with fail
    go_ret2
    exact ⟨rfl, hb2.alloc hb2.size _⟩
end Go.Proofs.YteneadimchhhhaaDoor
