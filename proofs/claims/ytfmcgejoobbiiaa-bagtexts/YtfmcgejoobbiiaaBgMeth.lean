/- Contracts of the methods of a bag of numbers: all, Len, Has, First, Put, Del, New, Less. -/
import Derived.Test.YtfmcgejoobbiiaaBgCat
namespace Go.Proofs.Ytfmcgejoobbiiaa
open Go.RowKit Go.Lib Go.Sort

/-- A bag of numbers. -/
abbrev IBag (w : World) (b r : Nat) (l : List Int) : Prop := Bag 59 3 (Value.int .i64) w b r l
abbrev IRow (w : World) (r : Nat) (v : Value) (l : List Int) : Prop := Row 3 (Value.int .i64) w r v l

/-- What a pointer to a bag has: nothing, if it is nil. -/
def Has (w : World) (p : Option Addr) (v : Value) : Prop := (p = none ∧ v = .slice none 0 0) ∨ ∃ b, p = some ⟨b, 0, none⟩ ∧ Whole w b 59 #[v]
theorem Has.none (w : World) : Has w none (.slice none 0 0) := .inl ⟨rfl, rfl⟩
theorem Has.heap {w w' : World} {p : Option Addr} {v : Value} (h : Has w p v) (e : w'.heap = w.heap) : Has w' p v := by
  rcases h with h | ⟨b, h1, h2⟩
  · exact .inl h
  · exact .inr ⟨b, h1, by unfold Whole at *; rw [e]; exact h2⟩
theorem Has.aft {w w' : World} {S : List Nat} {p : Option Addr} {v : Value} (h : Has w p v) (k : Aft S w w') (hp : ∀ a, p = some a → a.block ∉ S) : Has w' p v := by
  rcases h with h | ⟨b, h1, h2⟩
  · exact .inl h
  · exact .inr ⟨b, h1, k.whole h2 (hp _ h1)⟩

theorem ball_any (p : Option Addr) (v : Value) (w : World) (h : Has w p v) : Calls Try.prog 36 #[.pointer p] w fun e w' => e = .returned v ∧ w = w' := by
  rcases h with ⟨rfl, rfl⟩ | ⟨b, rfl, hw⟩
  · go_enter Try.func36, Try.ntmps36
    go_wp2
    go_ret
    exact ⟨rfl, rfl⟩
  · have c0 : w.cell? ⟨b, 0, none⟩ = some v := by rw [hw.cell]; rfl
    clear hw
    go_enter Try.func36, Try.ntmps36
    go_wp2
    go_ret
    exact ⟨rfl, rfl⟩

theorem len_of (p : Option Addr) (r : Nat) (v : Value) (l : List Int) (w : World) (h : Has w p v) (hr : IRow w r v l) : Calls Try.prog 16 #[.pointer p] w fun e w' => e = .returned (.int .i64 (l.length : Nat)) ∧ w = w' := by
  obtain ⟨A, c, rfl, _⟩ := hr.slice
  have HA := Lib.hid (ball_any p _ w h)
  clear h hr
  go_enter Try.func16, Try.ntmps16
  go_wp2_with fail
  refine HA.out.mono ?_
  rintro e w1 ⟨rfl, rfl⟩
  go_wp2
  go_ret
  exact ⟨rfl, rfl⟩
theorem has_of (p : Option Addr) (r : Nat) (v : Value) (l : List Int) (x : Int) (w : World) (h : Has w p v) (hr : IRow w r v l) (hu : BG.Rises l) (hl : l.length ≤ 1000000) : Calls Try.prog 15 #[.pointer p, .int .i64 x] w fun e w' => e = .returned (.bool (decide (x ∈ l))) ∧ ∃ q, w' = w.drewN q := by
  have HA := Lib.hid (ball_any p _ w h)
  have HS := Lib.hid (search_any r v l x w hr hu hl)
  clear h hr hu
  generalize decide (x ∈ l) = d at HS ⊢
  go_enter Try.func15, Try.ntmps15
  go_wp2_with fail
  refine HA.out.mono ?_
  rintro e w1 ⟨rfl, rfl⟩
  go_wp2_with fail
  refine HS.out.mono ?_
  rintro e w1 ⟨rfl, q, rfl⟩
  go_wp2
  go_ret
  exact ⟨rfl, q, rfl⟩
theorem first_of (p : Option Addr) (r : Nat) (v : Value) (l : List Int) (x : Int) (w : World) (h : Has w p v) (hr : IRow w r v l) (hu : BG.Rises l) (hl : l.length ≤ 1000000) : Calls Try.prog 11 #[.pointer p, .int .i64 x] w fun e w' => e = .returned (.tuple #[.int .i64 (BG.fstV l x), .bool (BG.fstB l x)]) ∧ ∃ q, w' = w.drewN q := by
  have HA := Lib.hid (ball_any p _ w h)
  have HS := Lib.hid (search_any r v l x w hr hu hl)
  have hp := BG.pos_le l x
  by_cases hlt : BG.pos l x < l.length
  · have hv := BG.fstV_at hlt
    have hb := BG.pos_eq.1 hlt
    obtain ⟨cap, rfl, _, hc⟩ := hr.cell hlt
    rw [← hv] at hc
    rw [hb]
    generalize BG.fstV l x = y at hc ⊢
    generalize decide (x ∈ l) = d at HS
    generalize BG.pos l x = k at *
    clear h hr hu hv hb
    go_enter Try.func11, Try.ntmps11
    go_wp2_with fail
    refine HA.out.mono ?_
    rintro e w1 ⟨rfl, rfl⟩
    go_wp2_with fail
    refine HS.out.mono ?_
    rintro e w1 ⟨rfl, q, rfl⟩
    have hc' : (w.drewN q).cell? ⟨r, k, none⟩ = some (.int .i64 y) := hc
    go_wp2
    go_ret2
    exact ⟨rfl, q, rfl⟩
  · have hv := BG.fstV_no hlt
    have hb : BG.fstB l x = false := by rw [Bool.eq_false_iff]; exact fun e => hlt (BG.pos_eq.2 e)
    rw [hb, hv]
    obtain ⟨A, c, rfl, _⟩ := hr.slice
    generalize decide (x ∈ l) = d at HS
    generalize BG.pos l x = k at *
    clear h hr hu hv hb
    go_enter Try.func11, Try.ntmps11
    go_wp2_with fail
    refine HA.out.mono ?_
    rintro e w1 ⟨rfl, rfl⟩
    go_wp2_with fail
    refine HS.out.mono ?_
    rintro e w1 ⟨rfl, q, rfl⟩
    go_wp2
    go_ret2
    exact ⟨rfl, q, rfl⟩

section
variable {w : World} {b r : Nat} {l : List Int}
theorem len_any (h : IBag w b r l) : Calls Try.prog 16 #[.pointer (some ⟨b, 0, none⟩)] w fun e w' => e = .returned (.int .i64 (l.length : Nat)) ∧ w = w' := by
  obtain ⟨v, h1, h2⟩ := h.box
  exact len_of _ r v l w (.inr ⟨b, rfl, h1⟩) h2
theorem has_any (h : IBag w b r l) (hl : l.length ≤ 1000000) (x : Int) : Calls Try.prog 15 #[.pointer (some ⟨b, 0, none⟩), .int .i64 x] w fun e w' => e = .returned (.bool (decide (x ∈ l))) ∧ ∃ q, w' = w.drewN q := by
  obtain ⟨v, h1, h2⟩ := h.box
  exact has_of _ r v l x w (.inr ⟨b, rfl, h1⟩) h2 h.up hl
theorem first_any (h : IBag w b r l) (hl : l.length ≤ 1000000) (x : Int) : Calls Try.prog 11 #[.pointer (some ⟨b, 0, none⟩), .int .i64 x] w fun e w' => e = .returned (.tuple #[.int .i64 (BG.fstV l x), .bool (BG.fstB l x)]) ∧ ∃ q, w' = w.drewN q := by
  obtain ⟨v, h1, h2⟩ := h.box
  exact first_of _ r v l x w (.inr ⟨b, rfl, h1⟩) h2 h.up hl
end
theorem up_nil : BG.Rises [] := List.Pairwise.nil
theorem len_nil (w : World) : Calls Try.prog 16 #[.pointer none] w fun e w' => e = .returned (.int .i64 0) ∧ w = w' := len_of none 0 _ [] w (Has.none w) (Row.nil _ _ w 0)
theorem has_nil (x : Int) (w : World) : Calls Try.prog 15 #[.pointer none, .int .i64 x] w fun e w' => e = .returned (.bool false) ∧ ∃ q, w' = w.drewN q := has_of none 0 _ [] x w (Has.none w) (Row.nil _ _ w 0) up_nil (by decide)
theorem first_nil (x : Int) (w : World) : Calls Try.prog 11 #[.pointer none, .int .i64 x] w fun e w' => e = .returned (.tuple #[.int .i64 0, .bool false]) ∧ ∃ q, w' = w.drewN q := first_of none 0 _ [] x w (Has.none w) (Row.nil _ _ w 0) up_nil (by decide)

/-- What a call that writes a bag leaves. -/
def WPost (TB T : TypeId) (enc : Int → Value) (b r : Nat) (v : Value) (l : List Int) (w : World) (e : Ending) (w' : World) : Prop :=
  e = .returned v ∧ ∃ r', Bag TB T enc w' b r' l ∧ (r' = r ∨ w.heap.size ≤ r') ∧ Aft [b, r] w w'
theorem not_same {TB T : TypeId} (hne : TB ≠ T) {w : World} {b r : Nat} {v : Value} {cur : Array Value} (h : Whole w b TB #[v]) (k : Whole w r T cur) : b ≠ r := by
  intro e
  subst e
  unfold Whole at h k
  rw [h] at k
  injection k with k
  injection k with _ k2
  exact hne k2
/-- The box is set to a row that lies elsewhere. -/
theorem Bag.store {TB T : TypeId} {enc : Int → Value} {w : World} {b r : Nat} {u v : Value} {l : List Int} (hw : Whole w b TB #[u]) (hr : Row T enc w r v l) (hlt : r < w.heap.size) (hu : BG.Rises l) (hne : TB ≠ T) : Bag TB T enc (w.setCell ⟨b, 0, none⟩ v) b r l := by
  refine ⟨⟨v, ?_, ?_⟩, by simpa [World.setCell] using hlt, hu⟩
  · have := hw.set 0 v
    simpa using this
  · rcases hr.form with ⟨rfl, rfl⟩ | ⟨cap, cur, rfl, hh, hn, hm, hs, hc⟩
    · exact Row.nil _ _ _ _
    · exact hr.far (not_same hne hw hh).symm _

theorem Aft.sub' {S T : List Nat} {w w' : World} (h : Aft S w w') (hs : ∀ x ∈ S, x ∈ T ∨ w.heap.size ≤ x) : Aft T w w' :=
  ⟨h.os, h.tape, h.output, h.size, fun k hk hx => h.block k hk (fun e => (hs k e).elim hx (fun hh => by omega))⟩
/-- The row's block may be taken to be another one than the box. -/
theorem Row.other {TB T : TypeId} {enc : Int → Value} {w : World} {b r : Nat} {v : Value} {l : List Int} (hw : Whole w b TB #[v]) (hr : Row T enc w r v l) (hne : TB ≠ T) : ∃ r0, Row T enc w r0 v l ∧ b ≠ r0 ∧ (r0 = r ∧ r < w.heap.size ∨ w.heap.size < r0) := by
  rcases hr.form with ⟨rfl, rfl⟩ | ⟨cap, cur, rfl, hh, hn, hm, hs, hc⟩
  · have := hw.lt
    exact ⟨w.heap.size + 1, Row.nil _ _ _ _, by omega, .inr (by omega)⟩
  · exact ⟨r, hr, not_same hne hw hh, .inl ⟨rfl, hh.lt⟩⟩

theorem put_nil (x : Int) (w : World) : Calls Try.prog 13 #[.pointer none, .int .i64 x] w fun e w' => e = .returned (.bool false) ∧ w = w' := by
  go_enter Try.func13, Try.ntmps13
  go_wp2
  go_ret
  exact ⟨rfl, rfl⟩
theorem del_nil (x : Int) (w : World) : Calls Try.prog 14 #[.pointer none, .int .i64 x] w fun e w' => e = .returned (.bool false) ∧ w = w' := by
  go_enter Try.func14, Try.ntmps14
  go_wp2
  go_ret
  exact ⟨rfl, rfl⟩

set_option maxHeartbeats 1000000 in
theorem put_any {w : World} {b r : Nat} {l : List Int} (h : IBag w b r l) (hl : l.length ≤ 999999) (x : Int) :
    Calls Try.prog 13 #[.pointer (some ⟨b, 0, none⟩), .int .i64 x] w (WPost 59 3 (Value.int .i64) b r (.bool (decide (x ∉ l))) (BG.put x l) w) := by
  obtain ⟨v, h1, h2⟩ := h.box
  have hup := h.up
  have hlt := h.lt
  have HS := Lib.hid (search_any r v l x w h2 hup (by omega))
  have H1 := Lib.hid h1
  have H2 := Lib.hid h2
  have hb := h1.lt
  have c0 : w.cell? ⟨b, 0, none⟩ = some v := by rw [h1.cell]; rfl
  have f0 := h1.free 0
  have hp := BG.pos_le l x
  clear h1 h2 h
  by_cases hx : x ∈ l
  · have e1 := BG.put_in hup hx
    rw [e1]
    have d1 : decide (x ∈ l) = true := by simp [hx]
    have d2 : decide (x ∉ l) = false := by simp [hx]
    rw [d1] at HS
    rw [d2]
    have HU := Lib.hid hup
    clear e1 d1 d2 hx hup
    go_enter Try.func13, Try.ntmps13
    go_wp2_with fail
    refine HS.out.mono ?_
    rintro e w1 ⟨rfl, q, rfl⟩
    go_wp2
    go_ret
    exact ⟨rfl, r, ⟨⟨v, H1.out.drewN q, H2.out.drewN q⟩, hlt, HU.out⟩, .inl rfl, (Aft.refl _ w).drewN q⟩
  · have HE := Lib.hid (BG.put_out hup hx)
    have d1 : decide (x ∈ l) = false := by simp [hx]
    have d2 : decide (x ∉ l) = true := by simp [hx]
    rw [d1] at HS
    rw [d2]
    generalize BG.pos l x = k at *
    clear d1 d2 hx hup
    go_enter Try.func13, Try.ntmps13
    go_wp2_with fail
    refine HS.out.mono ?_
    rintro e w1 ⟨rfl, q, rfl⟩
    have H1' := Lib.hid (H1.out.drewN q)
    have H2' := Lib.hid (H2.out.drewN q)
    have A0 := Lib.hid ((Aft.refl [b, r] w).drewN q)
    have hsz : (w.drewN q).heap.size = w.heap.size := rfl
    have hb' : b < (w.drewN q).heap.size := hb
    have hlt' : r < (w.drewN q).heap.size := hlt
    have HZ := Lib.hid hsz
    have c1 : (w.drewN q).cell? ⟨b, 0, none⟩ = some v := c0
    clear c0 f0 hsz HS H1 H2 hb hlt
    generalize w.drewN q = w2 at *
    obtain ⟨r0, h0, hb0, hr0⟩ := Row.other H1'.out H2'.out (by decide)
    have H0 := Lib.hid h0
    have HR0 := Lib.hid hr0
    have hv0 : w2.heap.size ≠ r0 := by omega
    clear h0 hr0
    go_wp2_with fail
    have hi : Whole (w2.alloc (.cells #[.int .i64 x] 3)) w2.heap.size 3 #[.int .i64 x] := Whole.fresh _ _ _
    refine (insert_any r0 w2.heap.size v l k x _ (H0.out.alloc _) (by omega) hp hi hv0).mono ?_
    rintro e w3 ⟨r', v', rfl, h3, hr3, hl3, a3⟩
    have A1 := Lib.hid (A0.out.trans (((Aft.refl [b, r] w2).alloc (.cells #[.int .i64 x] 3)).trans (a3.sub' (fun y hy => by
      have e : y = r0 := by simpa using hy
      have := HR0.out
      rw [e]
      simp
      omega))))
    have hw3 := a3.whole (H1'.out.alloc _) (by simpa using hb0)
    have c3 : w3.cell? ⟨b, 0, none⟩ = some v := by rw [hw3.cell]; rfl
    have f3 := hw3.free 0
    have HR : Hid (r' = r ∨ w.heap.size ≤ r') := Lib.hid (by
      have := HR0.out
      have := HZ.out
      simp at hr3
      omega)
    obtain ⟨A', c', rfl, _⟩ := h3.slice
    have H3 := Lib.hid h3
    have HW := Lib.hid hw3
    clear hi h3 hr3 a3 hw3 c1
    go_wp2
    go_ret
    refine ⟨rfl, r', ?_, HR.out, A1.out.setCell (by simp) _ _⟩
    rw [HE.out]
    have hup : BG.Rises (l.take k ++ x :: l.drop k) := by rw [← HE.out]; exact BG.put_rises x l
    exact Bag.store HW.out H3.out hl3 hup (by decide)

set_option maxHeartbeats 1000000 in
theorem del_any {w : World} {b r : Nat} {l : List Int} (h : IBag w b r l) (hl : l.length ≤ 1000000) (x : Int) :
    Calls Try.prog 14 #[.pointer (some ⟨b, 0, none⟩), .int .i64 x] w (WPost 59 3 (Value.int .i64) b r (.bool (decide (x ∈ l))) (BG.del x l) w) := by
  obtain ⟨v, h1, h2⟩ := h.box
  have hup := h.up
  have hlt := h.lt
  have HS := Lib.hid (search_any r v l x w h2 hup (by omega))
  have H1 := Lib.hid h1
  have H2 := Lib.hid h2
  have hb := h1.lt
  have c0 : w.cell? ⟨b, 0, none⟩ = some v := by rw [h1.cell]; rfl
  have f0 := h1.free 0
  clear h1 h2 h
  by_cases hx : x ∈ l
  · have HE := Lib.hid (BG.del_in hup hx)
    have HU := Lib.hid (BG.del_rises (x := x) hup)
    have hp : BG.pos l x < l.length := (BG.pos_mem hup hx).1
    have d1 : decide (x ∈ l) = true := by simp [hx]
    rw [d1] at HS ⊢
    generalize BG.pos l x = k at *
    clear d1 hx hup
    go_enter Try.func14, Try.ntmps14
    go_wp2_with fail
    refine HS.out.mono ?_
    rintro e w1 ⟨rfl, q, rfl⟩
    have H1' := Lib.hid (H1.out.drewN q)
    have H2' := Lib.hid (H2.out.drewN q)
    have A0 := Lib.hid ((Aft.refl [b, r] w).drewN q)
    have hlt' : r < (w.drewN q).heap.size := hlt
    have c1 : (w.drewN q).cell? ⟨b, 0, none⟩ = some v := c0
    clear c0 f0 HS H1 H2 hb hlt
    generalize w.drewN q = w2 at *
    have hbr : b ≠ r := by
      rcases H2'.out.form with ⟨_, e⟩ | ⟨_, _, _, hh, _⟩
      · rw [e] at hp; simp at hp
      · exact not_same (by decide) H1'.out hh
    go_wp2_with fail
    have hd := delete_any r v l k w2 H2'.out hl hp
    rw [show ((k + 1 : Nat) : Int) = (k : Int) + 1 by omega] at hd
    refine hd.mono ?_
    rintro e w3 ⟨v', rfl, h3, a3⟩
    have hw3 := a3.whole H1'.out (by simpa using hbr)
    have c3 : w3.cell? ⟨b, 0, none⟩ = some v := by rw [hw3.cell]; rfl
    have f3 := hw3.free 0
    obtain ⟨A', c', rfl, _⟩ := h3.slice
    have H3 := Lib.hid h3
    have HW := Lib.hid hw3
    have A1 := Lib.hid (A0.out.trans (a3.sub (T := [b, r]) (by simp)))
    have hl3 : r < w3.heap.size := Nat.lt_of_lt_of_le hlt' a3.size
    clear h3 a3 hw3 c1 hd
    go_wp2
    go_ret
    refine ⟨rfl, r, ?_, .inl rfl, A1.out.setCell (by simp) _ _⟩
    have hup := HU.out
    rw [HE.out] at hup ⊢
    have e3 := H3.out
    simp only [List.length_append, List.length_take, List.length_drop] at e3
    exact Bag.store HW.out e3 hl3 hup (by decide)
  · have e1 := BG.del_out hx
    rw [e1]
    have d1 : decide (x ∈ l) = false := by simp [hx]
    rw [d1] at HS ⊢
    have HU := Lib.hid hup
    clear e1 d1 hx hup
    go_enter Try.func14, Try.ntmps14
    go_wp2_with fail
    refine HS.out.mono ?_
    rintro e w1 ⟨rfl, q, rfl⟩
    go_wp2
    go_ret
    exact ⟨rfl, r, ⟨⟨v, H1.out.drewN q, H2.out.drewN q⟩, hlt, HU.out⟩, .inl rfl, (Aft.refl _ w).drewN q⟩

/-- What New leaves: a bag of its own. -/
def NewPost (TB T : TypeId) (enc : Int → Value) (l : List Int) (w : World) (e : Ending) (w' : World) : Prop :=
  ∃ b r, e = .returned (.pointer (some ⟨b, 0, none⟩)) ∧ Bag TB T enc w' b r l ∧ w.heap.size ≤ b ∧ w.heap.size ≤ r ∧ Below w.heap.size w w'
set_option maxHeartbeats 1000000 in
theorem new_any (A : Option Addr) (n c : Nat) (xs : List Int) (w : World) (h : Reads (Value.int .i64) w A n xs) (hl : n ≤ 1000000) :
    Calls Try.prog 19 #[.slice A n c] w (NewPost 59 3 (Value.int .i64) (BG.norm xs) w) := by
  have HC := Lib.hid (clone_any A n c xs w h hl)
  have hlen : xs.length ≤ 1000000 := by rw [h.1]; exact hl
  clear h
  go_enter Try.func19, Try.ntmps19
  go_wp2_with fail
  refine HC.out.mono ?_
  rintro e w1 ⟨v, rfl, h1, hb⟩
  have HB := Lib.hid hb
  obtain ⟨r, hr⟩ : ∃ r, Row 3 (Value.int .i64) w1 r v xs ∧ w.heap.size ≤ r := by
    rcases h1.2 with ⟨rfl, _⟩ | ⟨g, cap, cur, rfl, hg, _⟩
    · exact ⟨w.heap.size, Row.of_own h1 rfl (fun k e => by simp [Value.ownBlock] at e), Nat.le_refl _⟩
    · exact ⟨g, Row.of_own h1 rfl (fun k e => by simp [Value.ownBlock] at e; omega), hg⟩
  have HR := Lib.hid hr
  clear h1 hb hr
  go_wp2_with fail
  refine (inOrder_any r v xs w1 HR.out.1 hlen).mono ?_
  rintro e w2 ⟨v', rfl, h2, a2⟩
  obtain ⟨A', c', rfl, _⟩ := h2.slice
  have H2 := Lib.hid h2
  have HA := Lib.hid a2
  clear h2 a2
  go_wp2
  go_ret
  have hs1 := HB.out.size
  have hs2 := HA.out.size
  have hB2 : Below w.heap.size w w2 := HB.out.trans ((HA.out.below (B := w.heap.size) (by simpa using HR.out.2) hs1))
  rcases H2.out.form with ⟨e, el⟩ | ⟨cap, cur, e, hh, _⟩
  · refine ⟨w2.heap.size, w2.heap.size, rfl, ⟨⟨_, Whole.fresh _ _ _, ?_⟩, by simp, BG.norm_rises xs⟩, by omega, by omega, hB2.alloc (by omega) _⟩
    rw [e, el]
    exact Row.nil _ _ _ _
  · exact ⟨w2.heap.size, r, rfl, ⟨⟨_, Whole.fresh _ _ _, H2.out.alloc _⟩, by have := hh.lt; simp; omega, BG.norm_rises xs⟩, by omega, HR.out.2, hB2.alloc (by omega) _⟩
end Go.Proofs.Ytfmcgejoobbiiaa
