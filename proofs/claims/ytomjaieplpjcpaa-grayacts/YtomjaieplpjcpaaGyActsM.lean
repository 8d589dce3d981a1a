/- Plain data of GrayAgain, GrayActs: what acts do. -/
import Derived.Test.YtomjaieplpjcpaaGyOnceM
import Derived.Test.YtomjaieplpjcpaaGyOpen
namespace Go.Proofs.Ytomjaieplpjcpaa
open Go.RowKit Go.Lib Go.Sort Go.Maps

namespace GY
/-- An act, done. -/
def act (s : S) (a : Ac) : S := if a.K = 0 then puts s a.xs else if a.K = 1 then again s a.X else if a.K = 2 then next s else if a.K = 3 then paint s a.X else s
def acts (s : S) (l : List Ac) : S := l.foldl act s
section
variable {s : S} {a : Ac} {l : List Ac} {x : Int}
theorem act_0 (h : a.K = 0) : act s a = puts s a.xs := if_pos h
theorem act_1 (h : a.K = 1) : act s a = again s a.X := by simp [act, h]
theorem act_2 (h : a.K = 2) : act s a = next s := by simp [act, h]
theorem act_3 (h : a.K = 3) : act s a = paint s a.X := by simp [act, h]
theorem act_no (h0 : a.K ≠ 0) (h1 : a.K ≠ 1) (h2 : a.K ≠ 2) (h3 : a.K ≠ 3) : act s a = s := by unfold act; rw [if_neg h0, if_neg h1, if_neg h2, if_neg h3]
theorem acts_take {i : Nat} (h : i < l.length) : acts s (l.take (i + 1)) = act (acts s (l.take i)) l[i] := by
  unfold acts
  rw [List.take_succ_eq_append_getElem h, List.foldl_append]
  rfl
theorem Good.act (g : Good s) (a : Ac) : Good (act s a) := by
  unfold GY.act
  split
  · exact g.puts _
  · split
    · exact g.again _
    · split
      · exact g.next
      · split
        · exact g.paint _
        · exact g
theorem num_act (g : Good s) (a : Ac) : num (act s a) ≤ num s + a.xs.length + 1 := by
  unfold act
  split
  · have := num_puts s a.xs; omega
  · split
    · have := num_again g a.X; omega
    · split
      · have := num_next s; omega
      · split
        · have := num_paint s a.X; omega
        · omega
theorem num_acts (g : Good s) (l : List Ac) (h : ∀ a ∈ l, a.xs.length ≤ 40) : num (acts s l) ≤ num s + 41 * l.length := by
  induction l generalizing s with
  | nil => exact Nat.le_refl _
  | cons a l ih =>
    have h1 := ih (g.act a) fun b hb => h b (List.mem_cons_of_mem _ hb)
    have h2 := num_act g a
    have h3 := h a List.mem_cons_self
    rw [List.length_cons]
    show num (acts (act s a) l) ≤ _
    omega
theorem acts_num (l : List Ac) (i : Nat) (h : ∀ a ∈ l, a.xs.length ≤ 40) (hl : l.length ≤ 80) : num (acts S.nil (l.take i)) ≤ 3280 := by
  have h1 := num_acts Good.nil (l.take i) fun a ha => h a (List.mem_of_mem_take ha)
  rw [List.length_take] at h1
  have h2 : num S.nil = 0 := rfl
  omega
/-- What is painted is done; put again it waits behind all others. -/
theorem painted (g : Good s) (x : Int) : col (paint s x) x = 2 ∧ x ∉ (paint s x).W ∧ again (paint s x) x = told (out (paint s x).D x) ((paint s x).W ++ [x]) 0 := by
  have h1 : col (paint s x) x = 2 := by
    by_cases h : col s x = 2
    · rw [paint_2 h]; exact h
    · refine col_d (g.paint x) ?_
      rw [paint_no h]
      simp
  exact ⟨h1, (d_col h1).2, by rw [again_2 h1, told_0]⟩
theorem told_w (D0 W : List Int) (x : Int) : col (told D0 (W ++ [x]) 0) x = 1 := col_w (by rw [told_0]; simp)
end
end GY
end Go.Proofs.Ytomjaieplpjcpaa
