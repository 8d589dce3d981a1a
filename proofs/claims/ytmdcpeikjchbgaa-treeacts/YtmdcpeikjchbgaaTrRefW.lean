/- Contracts of the document's Add, Free, Merge. -/
import Derived.Test.YtmdcpeikjchbgaaTrAny
import Derived.Test.YtmdcpeikjchbgaaTrRef
import Derived.Deep.DeepCutAuto
namespace Go.Proofs.Ytmdcpeikjchbgaa
open Go.RowKit Go.Maps

namespace TR
theorem pz_add (n : Nat) (f : F) (p : Nat) : pz (n + 1) (addF n f p) = pz n f ++ [(p : Int)] := by
  unfold pz
  rw [List.range_succ, List.map_append]
  congr 1
  · refine List.map_congr_left fun i hi => ?_
    have := List.mem_range.1 hi
    unfold pI addF
    rw [if_neg (by omega)]
  · simp [pI, addF]
theorem pz_upd {n : Nat} (f : F) {i p : Nat} (hi : i ≤ n) : pz n (updF f i p) = (pz n f).set i (p : Int) := by
  apply List.ext_getElem?
  intro j
  rw [List.getElem?_set]
  by_cases hj : j < n + 1
  · rw [pz_get n _ hj, pz_get n _ hj, pz_len]
    by_cases e : i = j
    · subst e
      rw [if_pos rfl, if_pos hj]
      simp [pI, updF]
    · rw [if_neg e]
      simp [pI, updF, Ne.symm e]
  · rw [List.getElem?_eq_none (by rw [pz_len]; omega), if_neg (by omega), List.getElem?_eq_none (by rw [pz_len]; omega)]
theorem pz_del {n : Nat} (f : F) {i : Nat} (hi : i ≤ n) : pz n (delF f i) = (pz n f).set i (-1) := by
  apply List.ext_getElem?
  intro j
  rw [List.getElem?_set]
  by_cases hj : j < n + 1
  · rw [pz_get n _ hj, pz_get n _ hj, pz_len]
    by_cases e : i = j
    · subst e
      rw [if_pos rfl, if_pos hj]
      simp [pI, delF]
    · rw [if_neg e]
      simp [pI, delF, Ne.symm e]
  · rw [List.getElem?_eq_none (by rw [pz_len]; omega), if_neg (by omega), List.getElem?_eq_none (by rw [pz_len]; omega)]
theorem mg_none {f : F} {x p y : Nat} {l : List Nat} (h : f y ≠ some x) : mg f x p (l ++ [y]) = mg f x p l := by
  funext j
  unfold mg
  by_cases e : j = y
  · subst e
    simp [h]
  · simp [e]
theorem mg_range_end {n : Nat} {f : F} {x p : Nat} (h : Good n f) : delF (mg f x p (List.range (n + 1))) x = mergeF f x p := by
  funext j
  unfold delF mg mergeF
  by_cases e : j = x
  · simp [e]
  · by_cases e2 : f j = some x
    · have := (h.le j x e2).2.1
      simp [e, e2]
      omega
    · simp [e, e2]
theorem mg_range_zero {n : Nat} {f : F} (h : Good n f) (x p : Nat) : mg f x p (List.range 1) = f := by
  funext j
  unfold mg
  by_cases e : j = 0
  · subst e
    simp [h.zero]
  · simp [e]
end TR

section
variable {w w' : World} {r g n : Nat} {f f' : TR.F} {base : Nat} {v : Value} {l : List Nat} {S : List Nat}
theorem RtP.set (h : RtP w r g n f) {i : Nat} {z : Int} (hi : i ≤ n) (hf : TR.pz n f' = (TR.pz n f).set i z) : RtP (w.setCell ⟨g, i, none⟩ (.int .i64 z)) r g n f' := by
  obtain ⟨cap0, _, _, _, _, hne, _⟩ := h.rd
  obtain ⟨v, h1, h2⟩ := h.box
  refine ⟨v, h1.far hne _, ?_⟩
  rcases h2.form with ⟨rfl, e⟩ | ⟨cap, cur, rfl, hh, hn, hm, hs, hc⟩
  · have := TR.pz_len n f
    rw [e] at this
    cases this
  · rw [TR.pz_len] at hn hc ⊢
    have hl : (TR.pz n f').length = n + 1 := TR.pz_len n f'
    have hw := hh.set i (.int .i64 z)
    have := Row.mk' (l := TR.pz n f') (enc := Value.int .i64) hw (by rw [hl]; exact hn) hm (by simp [hs]) (fun j hj => by
      rw [hl] at hj
      rw [hf, List.map_set, List.getElem?_set, Array.getElem?_setIfInBounds]
      by_cases e : i = j
      · subst e
        rw [if_pos rfl, if_pos rfl, if_pos (by rw [hs]; omega), if_pos (by rw [List.length_map, TR.pz_len]; omega)]
      · rw [if_neg e, if_neg e]
        exact hc j hj)
    rw [hl] at this
    exact this
theorem RtP.thaw (h : RtP w r g n f) (i : Nat) : w.frozen? ⟨g, i, none⟩ = false := by
  obtain ⟨v, h1, h2⟩ := h.box
  rcases h2.form with ⟨rfl, e⟩ | ⟨cap, cur, rfl, hh, hn, hm, hs, hc⟩
  · have := TR.pz_len n f
    rw [e] at this
    cases this
  · exact hh.free i
theorem NewR.far (h : NewR base w v l) (k : Aft S w w') (hS : ∀ s ∈ S, s < base) : NewR base w' v l := h.keep fun g hg ⟨_, hw⟩ =>
  k.block g hw.lt fun hs => by
    have := hS g hs
    have := (World.ownsRow.lt h g hg).1
    omega
end

/-- What a call that writes the document's tree leaves. -/
def RtE (r g n : Nat) (f : TR.F) (v : Value) (w : World) (e : Ending) (w' : World) : Prop :=
  ∃ g', e = .returned v ∧ RtAt w' r g' n f ∧ (g' = g ∨ w.heap.size ≤ g') ∧ Aft [r, g] w w'
/-- What the document's Free leaves. -/
def RfE (r g n : Nat) (f : TR.F) (l : List Nat) (w : World) (e : Ending) (w' : World) : Prop :=
  ∃ v, e = .returned v ∧ NewR w.heap.size w' v l ∧ RtAt w' r g n f ∧ Aft [r, g] w w'

section
variable {w : World} {r g n : Nat} {f : TR.F}
set_option maxHeartbeats 1000000 in
theorem rtadd_no (h : RtAt w r g n f) (x : Int) (he : TR.addErr n f x ≠ 0) : Calls Try.prog 29 #[.pointer (some ⟨r, 0, none⟩), .int .i64 x] w fun e w' => e = .returned (.tuple #[.int .i64 0, .int .i64 (TR.addErr n f x)]) ∧ Below w.heap.size w w' := by
  have H1 := rtlive_any h x
  have HL := Lib.hid (rtall_any h)
  unfold TR.addErr at he ⊢
  unfold TR.mayErr TR.liveErr at he ⊢
  cases hl : TR.liveI f x
  · rw [hl] at H1 he
    have HM := Lib.hid H1
    by_cases h0 : x = 0
    · subst h0
      rw [if_pos rfl, if_pos rfl] at he
      rw [if_pos rfl, if_pos rfl]
      have e2 : 64 ≤ (TR.all n f).length := by
        rcases Nat.lt_or_ge (TR.all n f).length 64 with e2 | e2
        · rw [if_neg (by omega)] at he; exact absurd rfl he
        · exact e2
      rw [if_pos e2]
      clear H1 h hl he
      go_enter Try.func29, Try.ntmps29
      go_wp2_with fail
      refine HM.out.mono ?_
      rintro e w1 ⟨rfl, rfl⟩
      go_wp2_with fail
      refine HL.out.mono ?_
      rintro e w1 ⟨v, rfl, hv, hb⟩
      obtain ⟨A, c, rfl, _⟩ := hv.slice
      clear hv
      generalize (TR.all n f).length = L at *
      go_wp2
      go_ret2
      exact ⟨rfl, hb⟩
    · rw [if_neg h0, if_neg (by simp)]
      have d0 : (x == 0) = false := by simpa using h0
      have d1 : (x != 0) = true := by simpa using h0
      clear H1 h hl he
      go_enter Try.func29, Try.ntmps29
      go_wp2_with fail
      refine HM.out.mono ?_
      rintro e w1 ⟨rfl, rfl⟩
      go_wp2
      go_ret2
      exact ⟨rfl, Below.refl _ _⟩
  · rw [hl] at H1 he
    have HM := Lib.hid H1
    rw [if_pos rfl, ite_self, if_pos rfl] at he
    rw [if_pos rfl, ite_self, if_pos rfl]
    have e2 : 64 ≤ (TR.all n f).length := by
      rcases Nat.lt_or_ge (TR.all n f).length 64 with e2 | e2
      · rw [if_neg (by omega)] at he; exact absurd rfl he
      · exact e2
    rw [if_pos e2]
    have hx0 : x ≠ 0 := fun e0 => by
      subst e0
      obtain ⟨i, p, e, hp⟩ := TR.liveI_iff.1 hl
      have := (h.good.le i p hp).1
      omega
    have d0 : (x == 0) = false := by simpa using hx0
    have d1 : (x != 0) = true := by simpa using hx0
    clear H1 h hl he hx0
    go_enter Try.func29, Try.ntmps29
    go_wp2_with fail
    refine HM.out.mono ?_
    rintro e w1 ⟨rfl, rfl⟩
    go_wp2_with fail
    refine HL.out.mono ?_
    rintro e w1 ⟨v, rfl, hv, hb⟩
    obtain ⟨A, c, rfl, _⟩ := hv.slice
    clear hv
    generalize (TR.all n f).length = L at *
    go_wp2
    go_ret2
    exact ⟨rfl, hb⟩
set_option maxHeartbeats 1000000 in
theorem rtadd_ok (h : RtAt w r g n f) (hn : n < 100000) (x : Nat) (hx : TR.mayErr f x = 0) (hl64 : (TR.all n f).length < 64) : Calls Try.prog 29 #[.pointer (some ⟨r, 0, none⟩), .int .i64 (x : Int)] w (RtE r g (n + 1) (TR.addF n f x) (.tuple #[.int .i64 ((n + 1 : Nat) : Int), .int .i64 0]) w) := by
  obtain ⟨i0, hi, hz0, hz1, hz2⟩ := info_parts trInfo
  obtain ⟨j, hj, hj2⟩ := TR.mayErr_ok hx
  have hj : x = j := by omega
  subst hj
  have hgd := TR.add_good h.good (p := x) (by
    rcases hj2 with e | ⟨p, hp⟩
    · exact .inl e
    · exact .inr (TR.live_iff.2 ⟨p, hp⟩))
  have H1 := rtlive_any h (x : Int)
  have HL := Lib.hid (rtall_any h)
  have HT := Lib.hid h
  have HGD := Lib.hid hgd
  have hgt : ((x : Int) != 0) = true ∧ TR.liveI f (x : Int) = true ∨ ((x : Int) != 0) = false := by
    rcases hj2 with e | ⟨p, hp⟩
    · subst e; exact .inr rfl
    · have := (h.good.le x p hp).1
      exact .inl ⟨by simp; omega, by rw [TR.liveI_nat]; exact TR.live_iff.2 ⟨p, hp⟩⟩
  obtain ⟨d, hd⟩ : ∃ d, TR.liveI f (x : Int) = d := ⟨_, rfl⟩
  rw [hd] at H1 hgt
  have HM := Lib.hid H1
  clear H1 h hx hj2 hgd hd
  rcases hgt with ⟨h1, h2⟩ | h1
  · subst h2
    go_enter Try.func29, Try.ntmps29
    go_wp2_with fail
    refine HM.out.mono ?_
    rintro e w1 ⟨rfl, rfl⟩
    go_wp2_with fail
    refine HL.out.mono ?_
    rintro e w1 ⟨v, rfl, hv, hb⟩
    obtain ⟨A, c, rfl, _⟩ := hv.slice
    have ht := HT.out.below hb
    obtain ⟨cap, c0, hcap, hg, hr, hne, _⟩ := ht.rd
    obtain ⟨v1, hw1, hrow1⟩ := ht.box
    have hv1 : v1 = .slice (some ⟨g, 0, none⟩) (n + 1) cap := by
      have := hw1.cell 0
      rw [c0] at this
      simpa using this.symm
    subst hv1
    have HW1 := Lib.hid hw1
    have HO1 := Lib.hid hrow1.own
    have HT1 := Lib.hid ht
    have HB1 := Lib.hid hb
    clear hv hb ht hw1 hrow1 HL
    rw [TR.pz_len] at HO1
    generalize (TR.all n f).length = L at *
    go_wp2_with (first
      | (at_builtin; refine wpList_append_own_at _ rfl _ _ 27 rfl 0 3 i0 _ 1 8 Try.underlying27 hi hz0 hz1 hz2 rfl (by decide) (.slice (some ⟨g, 0, none⟩) (n + 1) cap) _ _ rfl (HO1.out.alloc _) ⟨w1.heap.size, 0, none⟩ 1 1 [.int .i64 (x : Nat)] rfl rfl (cell_one_new _ _ _) (by simp [Value.oneCell']) (by unfold maxLen; omega) (by omega) (by simp) ?_; intro v' w2 hown' hgrow _ hat
         obtain ⟨g', cap', cur', rfl, hgg, hwg, hle, hmx, hsz, htk⟩ : ∃ g' cap' cur', v' = .slice (some ⟨g', 0, none⟩) (n + 1 + 1) cap' ∧ 0 ≤ g' ∧ w2.heap[g']? = some (.cells cur' 3 (0, 0)) ∧ n + 1 + 1 ≤ cap' ∧ cap' ≤ maxLen ∧ cur'.size = cap' * 1 ∧ cur'.toList.take ((n + 1 + 1) * 1) = (TR.pz n f).map (Value.int .i64) ++ [.int .i64 (x : Nat)] := by
           rcases hown'.2 with ⟨_, h0⟩ | h'
           · exact absurd h0 (by omega)
           · exact h'
         have hw2 : Whole w2 r 40 #[.slice (some ⟨g, 0, none⟩) (n + 1) cap] := (hgrow.block r (by simp; omega) (by intro e; injection e with e; exact hne e)).trans ((Below.heap_alloc _ _ r hr).trans HW1.out)
         have cr2 := hw2.cell 0
         have fr2 := hw2.free 0
         have HW2 := Lib.hid hw2
         have HOW := Lib.hid hown'
         have HGR := Lib.hid hgrow
         have HAT := Lib.hid hat
         clear hown' hgrow hat hw2 hgg hwg hsz htk))
    go_ret2
    have hw2 := HW2.out
    have hne' : r ≠ g' := by
      intro e
      rcases HAT.out with e2 | e2
      · simp [Value.ownBlock] at e2
        omega
      · simp [Value.ownBlock] at e2
        omega
    have hrow : Row 3 (Value.int .i64) w2 g' (.slice (some ⟨g', 0, none⟩) (n + 1 + 1) cap') (TR.pz (n + 1) (TR.addF n f x)) := by
      refine Row.of_own HOW.out ?_ fun k e => by simp [Value.ownBlock] at e; omega
      rw [TR.pz_add, List.map_append]
      rfl
    have hbx := hw2.set 0 (.slice (some ⟨g', 0, none⟩) (n + 1 + 1) cap')
    refine ⟨g', by first | rfl | (congr 1; congr 1; congr 1; congr 1; omega), ⟨⟨_, hbx, hrow.far (fun e => hne' e.symm) _⟩, HGD.out, by omega⟩, ?_, ?_⟩
    · rcases HAT.out with e2 | e2
      · simp [Value.ownBlock] at e2
        exact .inl e2
      · simp [Value.ownBlock] at e2
        have := HB1.out.size
        exact .inr (by omega)
    · have h1 : Aft [r, g] w (w1.alloc (.cells #[.int .i64 (x : Int)] 3)) := (Aft.of_below HB1.out).alloc _
      have h2 : Aft [r, g] (w1.alloc (.cells #[.int .i64 (x : Int)] 3)) w2 := trAft HGR.out (by intro k e; simp [Value.ownBlock] at e; simp [e])
      exact (h1.trans h2).setCell (by simp) _ _
  · go_enter Try.func29, Try.ntmps29
    go_wp2_with fail
    refine HM.out.mono ?_
    rintro e w1 ⟨rfl, rfl⟩
    go_wp2_with fail
    refine HL.out.mono ?_
    rintro e w1 ⟨v, rfl, hv, hb⟩
    obtain ⟨A, c, rfl, _⟩ := hv.slice
    have ht := HT.out.below hb
    obtain ⟨cap, c0, hcap, hg, hr, hne, _⟩ := ht.rd
    obtain ⟨v1, hw1, hrow1⟩ := ht.box
    have hv1 : v1 = .slice (some ⟨g, 0, none⟩) (n + 1) cap := by
      have := hw1.cell 0
      rw [c0] at this
      simpa using this.symm
    subst hv1
    have HW1 := Lib.hid hw1
    have HO1 := Lib.hid hrow1.own
    have HT1 := Lib.hid ht
    have HB1 := Lib.hid hb
    clear hv hb ht hw1 hrow1 HL
    rw [TR.pz_len] at HO1
    generalize (TR.all n f).length = L at *
    go_wp2_with (first
      | (at_builtin; refine wpList_append_own_at _ rfl _ _ 27 rfl 0 3 i0 _ 1 8 Try.underlying27 hi hz0 hz1 hz2 rfl (by decide) (.slice (some ⟨g, 0, none⟩) (n + 1) cap) _ _ rfl (HO1.out.alloc _) ⟨w1.heap.size, 0, none⟩ 1 1 [.int .i64 (x : Nat)] rfl rfl (cell_one_new _ _ _) (by simp [Value.oneCell']) (by unfold maxLen; omega) (by omega) (by simp) ?_; intro v' w2 hown' hgrow _ hat
         obtain ⟨g', cap', cur', rfl, hgg, hwg, hle, hmx, hsz, htk⟩ : ∃ g' cap' cur', v' = .slice (some ⟨g', 0, none⟩) (n + 1 + 1) cap' ∧ 0 ≤ g' ∧ w2.heap[g']? = some (.cells cur' 3 (0, 0)) ∧ n + 1 + 1 ≤ cap' ∧ cap' ≤ maxLen ∧ cur'.size = cap' * 1 ∧ cur'.toList.take ((n + 1 + 1) * 1) = (TR.pz n f).map (Value.int .i64) ++ [.int .i64 (x : Nat)] := by
           rcases hown'.2 with ⟨_, h0⟩ | h'
           · exact absurd h0 (by omega)
           · exact h'
         have hw2 : Whole w2 r 40 #[.slice (some ⟨g, 0, none⟩) (n + 1) cap] := (hgrow.block r (by simp; omega) (by intro e; injection e with e; exact hne e)).trans ((Below.heap_alloc _ _ r hr).trans HW1.out)
         have cr2 := hw2.cell 0
         have fr2 := hw2.free 0
         have HW2 := Lib.hid hw2
         have HOW := Lib.hid hown'
         have HGR := Lib.hid hgrow
         have HAT := Lib.hid hat
         clear hown' hgrow hat hw2 hgg hwg hsz htk))
    go_ret2
    have hw2 := HW2.out
    have hne' : r ≠ g' := by
      intro e
      rcases HAT.out with e2 | e2
      · simp [Value.ownBlock] at e2
        omega
      · simp [Value.ownBlock] at e2
        omega
    have hrow : Row 3 (Value.int .i64) w2 g' (.slice (some ⟨g', 0, none⟩) (n + 1 + 1) cap') (TR.pz (n + 1) (TR.addF n f x)) := by
      refine Row.of_own HOW.out ?_ fun k e => by simp [Value.ownBlock] at e; omega
      rw [TR.pz_add, List.map_append]
      rfl
    have hbx := hw2.set 0 (.slice (some ⟨g', 0, none⟩) (n + 1 + 1) cap')
    refine ⟨g', by first | rfl | (congr 1; congr 1; congr 1; congr 1; omega), ⟨⟨_, hbx, hrow.far (fun e => hne' e.symm) _⟩, HGD.out, by omega⟩, ?_, ?_⟩
    · rcases HAT.out with e2 | e2
      · simp [Value.ownBlock] at e2
        exact .inl e2
      · simp [Value.ownBlock] at e2
        have := HB1.out.size
        exact .inr (by omega)
    · have h1 : Aft [r, g] w (w1.alloc (.cells #[.int .i64 (x : Int)] 3)) := (Aft.of_below HB1.out).alloc _
      have h2 : Aft [r, g] (w1.alloc (.cells #[.int .i64 (x : Int)] 3)) w2 := trAft HGR.out (by intro k e; simp [Value.ownBlock] at e; simp [e])
      exact (h1.trans h2).setCell (by simp) _ _
set_option maxHeartbeats 1000000 in
theorem rtfree_ok (h : RtAt w r g n f) (x : Nat) : Calls Try.prog 31 #[.pointer (some ⟨r, 0, none⟩), .int .i64 (x : Int)] w (RfE r g n (TR.freeF n f x) (TR.under n f x) w) := by
  have HU := Lib.hid (rtunder_any h x)
  have hn := h.few
  have hlen := TR.under_len_le n f x
  have HT := Lib.hid h
  have HRG := Lib.hid h.rd
  generalize hal : TR.under n f x = al at *
  have HAL := Lib.hid hal
  have HLE := Lib.hid (fun y (hy : y ∈ al) => (TR.mem_under.1 (hal ▸ hy)).1)
  clear h hal
  go_enter Try.func31, Try.ntmps31
  go_wp2_with fail
  refine HU.out.mono ?_
  rintro e w1 ⟨v, rfl, hv, hb⟩
  obtain ⟨A, c, rfl, _⟩ := hv.slice
  have HV := Lib.hid hv
  have HB := Lib.hid hb
  have HT1 := Lib.hid (HT.out.below hb)
  clear hv hb HU
  go_wp2_with fail
  go_loopw [6] (fun i wr => ∃ k : Nat, k ≤ al.length ∧ i = .int .i64 k ∧ RtP wr r g n (fun j => if j ∈ al.take k then none else f j) ∧ Aft [g] w1 wr) (fun i _ => al.length - (intOf i).toNat)
  case atStart => exact ⟨0, Nat.zero_le _, rfl, by simpa using HT1.out.toRtP, Aft.refl _ _⟩
  case round =>
    obtain ⟨k, hk, rfl, hm, hbw⟩ := hrel
    have hvr : NewR w.heap.size wr (.slice A al.length c) al := HV.out.far hbw (by
      obtain ⟨_, _, _, hg, _⟩ := HRG.out
      simp
      exact hg)
    by_cases hlt : k < al.length
    · obtain ⟨g1, cap1, e1, _, _, c1⟩ := hvr.cell hlt
      injection e1 with e1 _ e1'
      subst e1 e1'
      obtain ⟨y, hy⟩ : ∃ y, al[k] = y := ⟨_, rfl⟩
      have hyn := HLE.out y (hy ▸ List.getElem_mem hlt)
      rw [hy] at c1
      obtain ⟨cap, c0, hcap, hg, hr, hne, hc⟩ := hm.rd
      have cy := hc y hyn
      have hyl : y < n + 1 := by omega
      obtain ⟨wd, hwd⟩ : ∃ wd, wd = wr.drew := ⟨_, rfl⟩
      have HWD := Lib.hid (show ({ heap := wr.heap, tape := wr.tape, drawn := wr.drawn + 1, os := wr.os, output := wr.output } : World) = wd from hwd.symm)
      have hmd : RtP wd r g n (fun j => if j ∈ al.take k then none else f j) := by rw [hwd]; exact hm.aft (Aft.refl [] wr).drew (by simp) (by simp)
      obtain ⟨N, hN⟩ : ∃ N, N = n + 1 := ⟨_, rfl⟩
      have d0 : wd.cell? ⟨r, 0, none⟩ = some (.slice (some ⟨g, 0, none⟩) N cap) := by rw [hwd, hN]; exact c0
      have hyN : y < N := by omega
      have hyI : (y : Int) < (N : Int) := by omega
      clear hN
      have d1 : wd.cell? ⟨g1, k, none⟩ = some (.int .i64 (y : Nat)) := by rw [hwd]; exact c1
      have d2 : wd.cell? ⟨g, y, none⟩ = some (.int .i64 (TR.pI (fun j => if j ∈ al.take k then none else f j) y)) := by rw [hwd]; exact cy
      have f2 := hmd.thaw y
      have hm2 := hmd.set (z := -1) hyn (TR.pz_del _ hyn)
      rw [TR.delF_all, ← hy, ← List.take_succ_eq_append_getElem hlt, hy] at hm2
      have HM2 := Lib.hid hm2
      have HA2 := Lib.hid (show Aft [g] w1 (wd.setCell ⟨g, y, none⟩ (.int .i64 (-1))) from by rw [hwd]; exact hbw.drew.setCell (by simp) _ _)
      generalize TR.pI (fun j => if j ∈ al.take k then none else f j) y = zz at *
      clear hm hm2 hmd hy hc cy c0 c1 hvr hbw hwd
      go_wp2_with fail
      refine wp_region_still_tail 9 (by kernel_rfl) (by kernel_rfl) ?_
      simp only [List.take_succ_cons, List.take_zero, List.drop_succ_cons, List.drop_zero]
      rw [HWD.out]
      repeat still_step
      refine wpStill_nil ?_
      go_wp2
      go_roundw
      case rel => exact ⟨k + 1, by omega, by go_num, HM2.out, HA2.out⟩
      case measure => simp [intOf]; omega
    · obtain rfl : k = al.length := by omega
      rw [List.take_length] at hm
      have hf : (fun j => if j ∈ al then none else f j) = TR.freeF n f x := by rw [← HAL.out]; rfl
      rw [hf] at hm
      have HM := Lib.hid hm
      have HVR := Lib.hid hvr
      clear hm hvr hf
      go_wp2
      go_ret
      exact ⟨_, rfl, HVR.out, ⟨HM.out, TR.free_good HT.out.good x, HT.out.few⟩, (Aft.of_below HB.out).trans (hbw.sub (by simp))⟩
set_option maxHeartbeats 1000000 in
theorem rtmerge_ok (h : RtAt w r g n f) (x p : Nat) (hp : f x = some p) (hp0 : p ≠ 0) : Calls Try.prog 32 #[.pointer (some ⟨r, 0, none⟩), .int .i64 (x : Int)] w (RtE r g n (TR.mergeF f x p) (.tuple #[.int .i64 (p : Int), .int .i64 0]) w) := by
  have hn := h.few
  have hxl := h.good.le x p hp
  have H1 := rtlive_any h (x : Int)
  rw [TR.liveI_nat, TR.live_iff.2 ⟨p, hp⟩] at H1
  have HM := Lib.hid H1
  obtain ⟨cap, c0, hcap, hg, hr, hne, hc⟩ := h.rd
  have cx := hc x hxl.2.1
  rw [TR.pI_some hp] at cx
  have HT := Lib.hid h
  have HP := Lib.hid hp
  have d0 : ((p : Int) == 0) = false := by simp; omega
  rw [← TR.mg_range_end h.good]
  clear H1 hc h hp
  go_enter Try.func32, Try.ntmps32
  go_wp2_with fail
  refine HM.out.mono ?_
  rintro e w1 ⟨rfl, rfl⟩
  go_wp2_with fail
  go_loopw [8] (fun i wr => ∃ k : Nat, 1 ≤ k ∧ k ≤ n + 1 ∧ i = .int .i64 k ∧ RtP wr r g n (TR.mg f x p (List.range k)) ∧ Aft [g] w wr) (fun i _ => n + 1 - (intOf i).toNat)
  case atStart => exact ⟨1, Nat.le_refl _, by omega, rfl, by rw [TR.mg_range_zero HT.out.good]; exact HT.out.toRtP, Aft.refl _ _⟩
  case round =>
    obtain ⟨k, hk1, hk, rfl, hm, hbw⟩ := hrel
    obtain ⟨capr, cr0, hcapr, hgr, hrr, _, hcr⟩ := hm.rd
    by_cases hlt : k < n + 1
    · have ck := hcr k (by omega)
      have hpk : TR.pI (TR.mg f x p (List.range k)) k = TR.pI f k := by
        unfold TR.pI
        rw [TR.mg_at (by simp)]
      rw [hpk] at ck
      have fk := hm.thaw k
      by_cases hkx : f k = some x
      · rw [TR.pI_some hkx] at ck
        have hm2 := hm.set (z := (p : Int)) (i := k) (by omega) (TR.pz_upd _ (by omega))
        rw [TR.mg_yes hkx, ← List.range_succ] at hm2
        have HM2 := Lib.hid hm2
        have HA2 := Lib.hid (hbw.setCell (c := g) (by simp) k (.int .i64 (p : Int)))
        clear hm hm2 hcr hpk hkx cx hbw c0
        go_wp2
        go_roundw
        case rel => exact ⟨k + 1, by omega, by omega, by go_num, HM2.out, HA2.out⟩
        case measure => simp [intOf]; omega
      · have d1 : (TR.pI f k == (x : Int)) = false := by simpa using fun e => hkx ((TR.pI_eq f k x).1 e)
        rw [← TR.mg_none (p := p) hkx, ← List.range_succ] at hm
        have HM2 := Lib.hid hm
        clear hm hcr hpk hkx cx c0
        generalize TR.pI f k = zz at *
        go_wp2
        go_roundw
        case rel => exact ⟨k + 1, by omega, by omega, by go_num, HM2.out, hbw⟩
        case measure => simp [intOf]; omega
    · obtain rfl : k = n + 1 := by omega
      have ck := hcr x hxl.2.1
      have fk := hm.thaw x
      have hm2 := hm.set (z := -1) hxl.2.1 (TR.pz_del _ hxl.2.1)
      have HM2 := Lib.hid hm2
      have HA2 := Lib.hid (hbw.setCell (c := g) (by simp) x (.int .i64 (-1)))
      have hgd : TR.Good n (TR.delF (TR.mg f x p (List.range (n + 1))) x) := by
        rw [TR.mg_range_end HT.out.good]
        exact TR.merge_good HT.out.good HP.out
      have HG := Lib.hid hgd
      generalize TR.pI (TR.mg f x p (List.range (n + 1))) x = zz at *
      clear hm hm2 hcr hgd cx c0
      go_wp2
      go_ret2
      exact ⟨g, rfl, ⟨HM2.out, HG.out, hn⟩, .inl rfl, HA2.out.sub (by simp)⟩
theorem rtmerge_no (h : RtAt w r g n f) (x : Int) (he : TR.mergErr f x ≠ 0) : Calls Try.prog 32 #[.pointer (some ⟨r, 0, none⟩), .int .i64 x] w fun e w' => e = .returned (.tuple #[.int .i64 0, .int .i64 (TR.mergErr f x)]) ∧ w = w' := by
  have H1 := rtlive_any h x
  unfold TR.mergErr at he ⊢
  cases hl : TR.liveI f x
  · rw [hl] at H1
    have HM := Lib.hid H1
    clear H1 h he hl
    rw [if_neg (by simp)]
    go_enter Try.func32, Try.ntmps32
    go_wp2_with fail
    refine HM.out.mono ?_
    rintro e w1 ⟨rfl, rfl⟩
    go_wp2
    go_ret2
    exact ⟨rfl, rfl⟩
  · rw [if_pos rfl]
    rw [hl] at H1
    have e0 : TR.parI f x = 0 := by
      rw [hl, if_pos rfl] at he
      by_cases e : TR.parI f x = 0
      · exact e
      · rw [if_neg e] at he; exact absurd rfl he
    rw [if_pos e0]
    obtain ⟨i, p, rfl, hp⟩ := TR.liveI_iff.1 hl
    rw [TR.parI_ok hp] at e0
    have hil := h.good.le i p hp
    obtain ⟨cap, c0, hcap, hg, hr, hne, hc⟩ := h.rd
    have cx := hc i hil.2.1
    rw [TR.pI_some hp, e0] at cx
    have HM := Lib.hid H1
    have hn := h.few
    clear H1 h he hl hc hp e0
    go_enter Try.func32, Try.ntmps32
    go_wp2_with fail
    refine HM.out.mono ?_
    rintro e w1 ⟨rfl, rfl⟩
    go_wp2
    go_ret2
    exact ⟨rfl, rfl⟩
theorem rtadd_any (h : RtAt w r g n f) (hn : n < 100000) (x : Int) : Calls Try.prog 29 #[.pointer (some ⟨r, 0, none⟩), .int .i64 x] w (RtE r g (TR.addN n f x) (TR.addS n f x) (.tuple #[.int .i64 (TR.addV n f x : Nat), .int .i64 (TR.addErr n f x)]) w) := by
  unfold TR.addN TR.addS TR.addV
  by_cases he : TR.addErr n f x = 0
  · rw [if_pos he, if_pos he, if_pos he, he]
    obtain ⟨h1, h2⟩ := TR.addErr_may he
    obtain ⟨i, rfl, _⟩ := TR.mayErr_ok h1
    rw [Int.toNat_natCast]
    exact rtadd_ok h hn i h1 h2
  · rw [if_neg he, if_neg he, if_neg he]
    refine (rtadd_no h x he).mono ?_
    rintro e w' ⟨rfl, hb⟩
    exact ⟨g, rfl, h.below hb, .inl rfl, Aft.of_below hb⟩
theorem rtmerge_any (h : RtAt w r g n f) (x : Int) : Calls Try.prog 32 #[.pointer (some ⟨r, 0, none⟩), .int .i64 x] w (RtE r g n (TR.mergS f x) (.tuple #[.int .i64 (TR.mergV f x), .int .i64 (TR.mergErr f x)]) w) := by
  unfold TR.mergS TR.mergV
  by_cases he : TR.mergErr f x = 0
  · rw [if_pos he, if_pos he, he]
    cases hl : TR.liveI f x
    · unfold TR.mergErr at he
      rw [hl] at he
      cases he
    · obtain ⟨i, p, rfl, hp⟩ := TR.liveI_iff.1 hl
      have hpp := TR.parI_ok hp
      rw [hpp, Int.toNat_natCast, Int.toNat_natCast]
      refine rtmerge_ok h i p hp fun e0 => ?_
      unfold TR.mergErr at he
      rw [hl, hpp, e0] at he
      cases he
  · rw [if_neg he, if_neg he]
    refine (rtmerge_no h x he).mono ?_
    rintro e w' ⟨rfl, rfl⟩
    exact ⟨g, rfl, h, .inl rfl, Aft.refl _ _⟩
end
end Go.Proofs.Ytmdcpeikjchbgaa
