/- Contracts of the methods of a bag of texts. -/
import Derived.Test.YtfmcgejoobbiiaaBgStr
namespace Go.Proofs.Ytfmcgejoobbiiaa
open Go.RowKit Go.Lib Go.Sort

abbrev SBag (w : World) (b r : Nat) (l : List Int) : Prop := Bag 66 9 encS w b r l
abbrev SRow (w : World) (r : Nat) (v : Value) (l : List Int) : Prop := Row 9 encS w r v l

theorem ballS_any (b : Nat) (v : Value) (w : World) (hw : Whole w b 66 #[v]) : Calls Try.prog 48 #[.pointer (some ⟨b, 0, none⟩)] w fun e w' => e = .returned v ∧ w = w' := by
  have c0 : w.cell? ⟨b, 0, none⟩ = some v := by rw [hw.cell]; rfl
  clear hw
  go_enter Try.func48, Try.ntmps48
  go_wp2
  go_ret
  exact ⟨rfl, rfl⟩

theorem lenS_of (b : Nat) (r : Nat) (v : Value) (l : List Int) (w : World) (h : Whole w b 66 #[v]) (hr : SRow w r v l) : Calls Try.prog 33 #[.pointer (some ⟨b, 0, none⟩)] w fun e w' => e = .returned (.int .i64 (l.length : Nat)) ∧ w = w' := by
  obtain ⟨A, c, rfl, _⟩ := hr.slice
  have HA := Lib.hid (ballS_any b _ w h)
  clear h hr
  go_enter Try.func33, Try.ntmps33
  go_wp2_with fail
  refine HA.out.mono ?_
  rintro e w1 ⟨rfl, rfl⟩
  go_wp2
  go_ret
  exact ⟨rfl, rfl⟩
theorem lenS_any {w : World} {b r : Nat} {l : List Int} (h : SBag w b r l) : Calls Try.prog 33 #[.pointer (some ⟨b, 0, none⟩)] w fun e w' => e = .returned (.int .i64 (l.length : Nat)) ∧ w = w' := by
  obtain ⟨v, h1, h2⟩ := h.box
  exact lenS_of b r v l w h1 h2

set_option maxHeartbeats 1000000 in
theorem putS_any {w : World} {b r : Nat} {l : List Int} (h : SBag w b r l) (hl : l.length ≤ 999999) (hsm : ∀ y ∈ l, Sm y) (x : Int) (hxs : Sm x) :
    Calls Try.prog 29 #[.pointer (some ⟨b, 0, none⟩), .string (T3 x)] w (WPost 66 9 encS b r (.bool (decide (x ∉ l))) (BG.put x l) w) := by
  obtain ⟨v, h1, h2⟩ := h.box
  have hup := h.up
  have hlt := h.lt
  have HS := Lib.hid (searchS_any r v l x w h2 hup (by omega) hsm hxs)
  have H1 := Lib.hid h1
  have H2 := Lib.hid h2
  have hb := h1.lt
  have c0 : w.cell? ⟨b, 0, none⟩ = some v := by rw [h1.cell]; rfl
  have f0 := h1.free 0
  have hp := BG.pos_le l x
  obtain ⟨t, ht⟩ : ∃ t, T3 x = t := ⟨_, rfl⟩
  rw [ht] at HS ⊢
  have HT := Lib.hid ht
  clear ht hsm hxs
  clear h1 h2 h
  by_cases hx : x ∈ l
  · have e1 := BG.put_in hup hx
    rw [e1]
    have d1 : decide (x ∈ l) = true := by simp [hx]
    have d2 : decide (x ∉ l) = false := by simp [hx]
    rw [d1] at HS
    rw [d2]
    have HU := Lib.hid hup
    clear e1 d1 d2 hx hup
    go_enter Try.func29, Try.ntmps29
    go_wp2_with fail
    refine HS.out.mono ?_
    rintro e w1 ⟨rfl, q, rfl⟩
    go_wp2
    go_ret
    exact ⟨rfl, r, ⟨⟨v, H1.out.drewN q, H2.out.drewN q⟩, hlt, HU.out⟩, .inl rfl, (Aft.refl _ w).drewN q⟩
  · have HE := Lib.hid (BG.put_out hup hx)
    have d1 : decide (x ∈ l) = false := by simp [hx]
    have d2 : decide (x ∉ l) = true := by simp [hx]
    rw [d1] at HS
    rw [d2]
    generalize BG.pos l x = k at *
    clear d1 d2 hx hup
    go_enter Try.func29, Try.ntmps29
    go_wp2_with fail
    refine HS.out.mono ?_
    rintro e w1 ⟨rfl, q, rfl⟩
    have H1' := Lib.hid (H1.out.drewN q)
    have H2' := Lib.hid (H2.out.drewN q)
    have A0 := Lib.hid ((Aft.refl [b, r] w).drewN q)
    have hsz : (w.drewN q).heap.size = w.heap.size := rfl
    have hb' : b < (w.drewN q).heap.size := hb
    have hlt' : r < (w.drewN q).heap.size := hlt
    have HZ := Lib.hid hsz
    have c1 : (w.drewN q).cell? ⟨b, 0, none⟩ = some v := c0
    clear c0 f0 hsz HS H1 H2 hb hlt
    generalize w.drewN q = w2 at *
    obtain ⟨r0, h0, hb0, hr0⟩ := Row.other H1'.out H2'.out (by decide)
    have H0 := Lib.hid h0
    have HR0 := Lib.hid hr0
    have hv0 : w2.heap.size ≠ r0 := by omega
    clear h0 hr0
    go_wp2_with fail
    have hi : Whole (w2.alloc (.cells #[.string t] 9)) w2.heap.size 9 #[encS x] := by (unfold encS); rw [HT.out]; exact Whole.fresh _ _ _
    refine (insertS_any r0 w2.heap.size v l k x _ (H0.out.alloc _) (by omega) hp hi hv0).mono ?_
    rintro e w3 ⟨r', v', rfl, h3, hr3, hl3, a3⟩
    have A1 := Lib.hid (A0.out.trans (((Aft.refl [b, r] w2).alloc (.cells #[.string t] 9)).trans (a3.sub' (fun y hy => by
      have e : y = r0 := by simpa using hy
      have := HR0.out
      rw [e]
      simp
      omega))))
    have hw3 := a3.whole (H1'.out.alloc _) (by simpa using hb0)
    have c3 : w3.cell? ⟨b, 0, none⟩ = some v := by rw [hw3.cell]; rfl
    have f3 := hw3.free 0
    have HR : Hid (r' = r ∨ w.heap.size ≤ r') := Lib.hid (by
      have := HR0.out
      have := HZ.out
      simp at hr3
      omega)
    obtain ⟨A', c', rfl, _⟩ := h3.slice
    have H3 := Lib.hid h3
    have HW := Lib.hid hw3
    clear hi h3 hr3 a3 hw3 c1
    go_wp2
    go_ret
    refine ⟨rfl, r', ?_, HR.out, A1.out.setCell (by simp) _ _⟩
    rw [HE.out]
    have hup : BG.Rises (l.take k ++ x :: l.drop k) := by rw [← HE.out]; exact BG.put_rises x l
    exact Bag.store HW.out H3.out hl3 hup (by decide)

set_option maxHeartbeats 1000000 in
theorem delS_any {w : World} {b r : Nat} {l : List Int} (h : SBag w b r l) (hl : l.length ≤ 1000000) (hsm : ∀ y ∈ l, Sm y) (x : Int) (hxs : Sm x) :
    Calls Try.prog 30 #[.pointer (some ⟨b, 0, none⟩), .string (T3 x)] w (WPost 66 9 encS b r (.bool (decide (x ∈ l))) (BG.del x l) w) := by
  obtain ⟨v, h1, h2⟩ := h.box
  have hup := h.up
  have hlt := h.lt
  have HS := Lib.hid (searchS_any r v l x w h2 hup (by omega) hsm hxs)
  have H1 := Lib.hid h1
  have H2 := Lib.hid h2
  have hb := h1.lt
  have c0 : w.cell? ⟨b, 0, none⟩ = some v := by rw [h1.cell]; rfl
  have f0 := h1.free 0
  clear h1 h2 h
  obtain ⟨t, ht⟩ : ∃ t, T3 x = t := ⟨_, rfl⟩
  rw [ht] at HS ⊢
  clear ht hsm hxs
  by_cases hx : x ∈ l
  · have HE := Lib.hid (BG.del_in hup hx)
    have HU := Lib.hid (BG.del_rises (x := x) hup)
    have hp : BG.pos l x < l.length := (BG.pos_mem hup hx).1
    have d1 : decide (x ∈ l) = true := by simp [hx]
    rw [d1] at HS ⊢
    generalize BG.pos l x = k at *
    clear d1 hx hup
    go_enter Try.func30, Try.ntmps30
    go_wp2_with fail
    refine HS.out.mono ?_
    rintro e w1 ⟨rfl, q, rfl⟩
    have H1' := Lib.hid (H1.out.drewN q)
    have H2' := Lib.hid (H2.out.drewN q)
    have A0 := Lib.hid ((Aft.refl [b, r] w).drewN q)
    have hlt' : r < (w.drewN q).heap.size := hlt
    have c1 : (w.drewN q).cell? ⟨b, 0, none⟩ = some v := c0
    clear c0 f0 HS H1 H2 hb hlt
    generalize w.drewN q = w2 at *
    have hbr : b ≠ r := by
      rcases H2'.out.form with ⟨_, e⟩ | ⟨_, _, _, hh, _⟩
      · rw [e] at hp; simp at hp
      · exact not_same (by decide) H1'.out hh
    go_wp2_with fail
    have hd := deleteS_any r v l k w2 H2'.out hl hp
    rw [show ((k + 1 : Nat) : Int) = (k : Int) + 1 by omega] at hd
    refine hd.mono ?_
    rintro e w3 ⟨v', rfl, h3, a3⟩
    have hw3 := a3.whole H1'.out (by simpa using hbr)
    have c3 : w3.cell? ⟨b, 0, none⟩ = some v := by rw [hw3.cell]; rfl
    have f3 := hw3.free 0
    obtain ⟨A', c', rfl, _⟩ := h3.slice
    have H3 := Lib.hid h3
    have HW := Lib.hid hw3
    have A1 := Lib.hid (A0.out.trans (a3.sub (T := [b, r]) (by simp)))
    have hl3 : r < w3.heap.size := Nat.lt_of_lt_of_le hlt' a3.size
    clear h3 a3 hw3 c1 hd
    go_wp2
    go_ret
    refine ⟨rfl, r, ?_, .inl rfl, A1.out.setCell (by simp) _ _⟩
    have hup := HU.out
    rw [HE.out] at hup ⊢
    have e3 := H3.out
    simp only [List.length_append, List.length_take, List.length_drop] at e3
    exact Bag.store HW.out e3 hl3 hup (by decide)
  · have e1 := BG.del_out hx
    rw [e1]
    have d1 : decide (x ∈ l) = false := by simp [hx]
    rw [d1] at HS ⊢
    have HU := Lib.hid hup
    clear e1 d1 hx hup
    go_enter Try.func30, Try.ntmps30
    go_wp2_with fail
    refine HS.out.mono ?_
    rintro e w1 ⟨rfl, q, rfl⟩
    go_wp2
    go_ret
    exact ⟨rfl, r, ⟨⟨v, H1.out.drewN q, H2.out.drewN q⟩, hlt, HU.out⟩, .inl rfl, (Aft.refl _ w).drewN q⟩

theorem compactS_tiny (p : Option Addr) (c : Nat) (f : Value) (w : World) : Calls Try.prog 58 #[.slice p 0 c, f] w fun e w' => e = .returned (.slice p 0 c) ∧ w = w' := by
  go_enter Try.func58, Try.ntmps58
  go_wp2
  go_ret
  exact ⟨rfl, rfl⟩
theorem inOrderS_none (w : World) : Calls Try.prog 41 #[.slice none 0 0] w fun e w' => e = .returned (.slice none 0 0) ∧ w = w' := by
  have hs : ∀ W, Calls Try.prog 57 #[.slice none 0 0] W fun e w' => e = .returned (.tuple #[]) ∧ w' = W := fun W => Any.slices_Sort_string_none Try.l190 none 0 W
  have HSo := Lib.hid hs
  clear hs
  go_enter Try.func41, Try.ntmps41
  go_wp2_with fail
  refine (HSo.out _).mono ?_
  rintro e w1 ⟨rfl, rfl⟩
  go_wp2_with fail
  refine (compactS_tiny _ _ _ _).mono ?_
  rintro e w1 ⟨rfl, rfl⟩
  go_wp2
  go_ret
  exact ⟨rfl, rfl⟩
theorem newS_none (w : World) : Calls Try.prog 28 #[.slice none 0 0] w (NewPost 66 9 encS [] w) := by
  have hc : ∀ W, Calls Try.prog 42 #[.slice none 0 0] W fun e w' => e = .returned (.slice none 0 0) ∧ w' = W := fun W => Any.slices_Clone_string_nil Try.l16 0 0 W
  have HC := Lib.hid hc
  clear hc
  go_enter Try.func28, Try.ntmps28
  go_wp2_with fail
  refine (HC.out _).mono ?_
  rintro e w1 ⟨rfl, rfl⟩
  go_wp2_with fail
  refine (inOrderS_none _).mono ?_
  rintro e w1 ⟨rfl, rfl⟩
  go_wp2
  go_ret
  exact ⟨_, _, rfl, ⟨⟨_, Whole.fresh _ _ _, Row.nil _ _ _ _⟩, by simp, up_nil⟩, Nat.le_refl _, Nat.le_refl _, (Below.refl _ _).alloc (Nat.le_refl _) _⟩
end Go.Proofs.Ytfmcgejoobbiiaa
