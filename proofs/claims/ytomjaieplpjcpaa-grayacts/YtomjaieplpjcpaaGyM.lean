/- Plain data of package gray: what waits and what is done; and a ring of blocks. No program in it. -/
import Derived.Test.YtomjaieplpjcpaaGrM
namespace Go.Proofs.Ytomjaieplpjcpaa
open Go.Lib

namespace GY
/-- What waits, in its order; what is done. -/
structure S where
  W : List Int
  D : List Int
def S.nil : S := ⟨[], []⟩
/-- Numbers but for one. -/
def out (l : List Int) (x : Int) : List Int := l.filter fun y => decide (y ≠ x)
theorem mem_out {l : List Int} {x y : Int} : y ∈ out l x ↔ y ∈ l ∧ y ≠ x := by simp [out]
theorem out_nodup {l : List Int} (h : l.Nodup) (x : Int) : (out l x).Nodup := List.Pairwise.sublist List.filter_sublist h
theorem out_no {l : List Int} {x : Int} (h : x ∉ l) : out l x = l := List.filter_eq_self.2 fun y hy => by
  simp
  exact fun e => h (e ▸ hy)
theorem out_append (a b : List Int) (x : Int) : out (a ++ b) x = out a x ++ out b x := List.filter_append ..
theorem out_head {l : List Int} {x : Int} (h : (x :: l).Nodup) : out (x :: l) x = l := by
  have h1 := (List.nodup_cons.1 h).1
  rw [show x :: l = [x] ++ l from rfl, out_append, out_no h1]
  simp [out]
theorem out_mid {a b : List Int} {x : Int} (h : (a ++ x :: b).Nodup) : out (a ++ x :: b) x = a ++ b := by
  rw [List.nodup_append] at h
  obtain ⟨_, h2, h3⟩ := h
  rw [out_append, out_head h2, out_no (fun hx => h3 x hx x List.mem_cons_self rfl)]
theorem out_len {l : List Int} {x : Int} (h : l.Nodup) (hx : x ∈ l) : (out l x).length + 1 = l.length := by
  obtain ⟨a, b, rfl⟩ := List.append_of_mem hx
  rw [out_mid h]
  simp
  omega
theorem out_le (l : List Int) (x : Int) : (out l x).length ≤ l.length := List.length_filter_le _ _
theorem out_snoc (l : List Int) (x y : Int) : out (l ++ [y]) x = if y = x then out l x else out l x ++ [y] := by
  rw [out_append]
  by_cases h : y = x <;> simp [out, h]

def col (s : S) (x : Int) : Nat := if x ∈ s.W then 1 else if x ∈ s.D then 2 else 0
def put (s : S) (x : Int) : S := if col s x = 0 then ⟨s.W ++ [x], s.D⟩ else s
def puts (s : S) (xs : List Int) : S := xs.foldl put s
def again (s : S) (x : Int) : S := if col s x = 2 then ⟨s.W ++ [x], out s.D x⟩ else s
def paint (s : S) (x : Int) : S := if col s x = 2 then s else ⟨out s.W x, s.D ++ [x]⟩
def next (s : S) : S := match s.W with | [] => s | x :: r => ⟨r, s.D ++ [x]⟩
def hd (s : S) : Int := match s.W with | [] => 0 | x :: _ => x
/-- How many of some are put. -/
def cnt (s : S) : List Int → Nat
  | [] => 0
  | x :: xs => (if col s x = 0 then 1 else 0) + cnt (put s x) xs
structure Good (s : S) : Prop where
  w : s.W.Nodup
  d : s.D.Nodup
  off : ∀ x ∈ s.W, x ∉ s.D
section
variable {s : S} {x y : Int}
theorem Good.nil : Good S.nil := ⟨List.nodup_nil, List.nodup_nil, by simp [S.nil]⟩
theorem col_w (h : x ∈ s.W) : col s x = 1 := if_pos h
theorem col_d (g : Good s) (h : x ∈ s.D) : col s x = 2 := by
  unfold col
  rw [if_neg (fun hw => g.off x hw h), if_pos h]
theorem col_0 (h : x ∉ s.W) (h2 : x ∉ s.D) : col s x = 0 := by
  unfold col
  rw [if_neg h, if_neg h2]
theorem w_col (h : col s x = 1) : x ∈ s.W := by
  unfold col at h
  by_cases h1 : x ∈ s.W
  · exact h1
  · rw [if_neg h1] at h
    split at h <;> omega
theorem d_col (h : col s x = 2) : x ∈ s.D ∧ x ∉ s.W := by
  unfold col at h
  by_cases h1 : x ∈ s.W
  · rw [if_pos h1] at h; omega
  · rw [if_neg h1] at h
    by_cases h2 : x ∈ s.D
    · exact ⟨h2, h1⟩
    · rw [if_neg h2] at h; omega
theorem no_col (h : col s x = 0) : x ∉ s.W ∧ x ∉ s.D := by
  unfold col at h
  by_cases h1 : x ∈ s.W
  · rw [if_pos h1] at h; omega
  · rw [if_neg h1] at h
    by_cases h2 : x ∈ s.D
    · rw [if_pos h2] at h; omega
    · exact ⟨h1, h2⟩
theorem col_lt (s : S) (x : Int) : col s x = 0 ∨ col s x = 1 ∨ col s x = 2 := by
  unfold col
  split
  · exact .inr (.inl rfl)
  · split
    · exact .inr (.inr rfl)
    · exact .inl rfl
theorem put_0 (h : col s x = 0) : put s x = ⟨s.W ++ [x], s.D⟩ := if_pos h
theorem put_no (h : col s x ≠ 0) : put s x = s := if_neg h
theorem again_2 (h : col s x = 2) : again s x = ⟨s.W ++ [x], out s.D x⟩ := if_pos h
theorem again_no (h : col s x ≠ 2) : again s x = s := if_neg h
theorem paint_2 (h : col s x = 2) : paint s x = s := if_pos h
theorem paint_no (h : col s x ≠ 2) : paint s x = ⟨out s.W x, s.D ++ [x]⟩ := if_neg h
theorem paint_0 (h : col s x = 0) : paint s x = ⟨s.W, s.D ++ [x]⟩ := by rw [paint_no (by omega), out_no (no_col h).1]
theorem snoc_nodup {l : List Int} (h : l.Nodup) (hx : x ∉ l) : (l ++ [x]).Nodup := by
  rw [List.nodup_append]
  exact ⟨h, by simp, fun a ha b hb => by rw [List.mem_singleton] at hb; subst hb; exact fun e => hx (e ▸ ha)⟩
theorem Good.put (g : Good s) (x : Int) : Good (put s x) := by
  by_cases h : col s x = 0
  · rw [put_0 h]
    have h1 := no_col h
    refine ⟨snoc_nodup g.w h1.1, g.d, fun y hy => ?_⟩
    rcases List.mem_append.1 hy with hy | hy
    · exact g.off y hy
    · rw [List.mem_singleton] at hy; exact hy ▸ h1.2
  · rw [put_no h]; exact g
theorem Good.again (g : Good s) (x : Int) : Good (again s x) := by
  by_cases h : col s x = 2
  · rw [again_2 h]
    have h1 := d_col h
    refine ⟨snoc_nodup g.w h1.2, out_nodup g.d x, fun y hy hd => ?_⟩
    rw [mem_out] at hd
    rcases List.mem_append.1 hy with hy | hy
    · exact g.off y hy hd.1
    · rw [List.mem_singleton] at hy; exact hd.2 hy
  · rw [again_no h]; exact g
theorem Good.paint (g : Good s) (x : Int) : Good (paint s x) := by
  by_cases h : col s x = 2
  · rw [paint_2 h]; exact g
  · rw [paint_no h]
    have hd : x ∉ s.D := fun hd => h (col_d g hd)
    refine ⟨out_nodup g.w x, snoc_nodup g.d hd, fun y hy hd => ?_⟩
    have hy : y ∈ s.W ∧ y ≠ x := mem_out.1 hy
    rcases List.mem_append.1 hd with hd | hd
    · exact g.off y hy.1 hd
    · rw [List.mem_singleton] at hd; exact hy.2 hd
theorem next_cons {r : List Int} (h : s.W = x :: r) : next s = ⟨r, s.D ++ [x]⟩ := by unfold next; rw [h]
theorem next_nil (h : s.W = []) : next s = s := by unfold next; rw [h]
theorem hd_cons {r : List Int} (h : s.W = x :: r) : hd s = x := by unfold hd; rw [h]
theorem hd_nil (h : s.W = []) : hd s = 0 := by unfold hd; rw [h]
theorem next_paint (g : Good s) {r : List Int} (h : s.W = x :: r) : next s = paint s x := by
  have h1 : x ∈ s.W := by rw [h]; exact List.mem_cons_self
  rw [next_cons h, paint_no (by rw [col_w h1]; decide)]
  have := g.w
  rw [h] at this ⊢
  rw [out_head this]
theorem Good.next (g : Good s) : Good (next s) := by
  cases h : s.W with
  | nil => rw [next_nil h]; exact g
  | cons x r => rw [next_paint g h]; exact g.paint x
theorem Good.puts (g : Good s) : ∀ (xs : List Int), Good (puts s xs) := by
  intro xs
  induction xs generalizing s with
  | nil => exact g
  | cons x xs ih => exact ih (g.put x)
theorem puts_nil (s : S) : puts s [] = s := rfl
theorem puts_cons (s : S) (x : Int) (xs : List Int) : puts s (x :: xs) = puts (put s x) xs := rfl
theorem puts_snoc (s : S) (xs : List Int) (x : Int) : puts s (xs ++ [x]) = put (puts s xs) x := by simp [puts]
theorem cnt_snoc (s : S) (xs : List Int) (x : Int) : cnt s (xs ++ [x]) = cnt s xs + if col (puts s xs) x = 0 then 1 else 0 := by
  induction xs generalizing s with
  | nil =>
    show (if col s x = 0 then 1 else 0) + 0 = 0 + (if col s x = 0 then 1 else 0)
    omega
  | cons y ys ih =>
    rw [List.cons_append]
    unfold cnt
    rw [ih, puts_cons]
    omega
theorem puts_take {xs : List Int} {i : Nat} (h : i < xs.length) : puts s (xs.take (i + 1)) = put (puts s (xs.take i)) xs[i] := by rw [List.take_succ_eq_append_getElem h, puts_snoc]
theorem cnt_take {xs : List Int} {i : Nat} (h : i < xs.length) : cnt s (xs.take (i + 1)) = cnt s (xs.take i) + if col (puts s (xs.take i)) xs[i] = 0 then 1 else 0 := by rw [List.take_succ_eq_append_getElem h, cnt_snoc]
theorem cnt_le (s : S) (xs : List Int) : cnt s xs ≤ xs.length := by
  induction xs generalizing s with
  | nil => exact Nat.le_refl _
  | cons x xs ih =>
    unfold cnt
    have := ih (put s x)
    simp only [List.length_cons]
    split <;> omega
/-- How many it knows. -/
def num (s : S) : Nat := s.W.length + s.D.length
theorem num_put (s : S) (x : Int) : num (put s x) ≤ num s + 1 := by
  by_cases h : col s x = 0
  · rw [put_0 h]; simp [num]; omega
  · rw [put_no h]; omega
theorem num_puts (s : S) (xs : List Int) : num (puts s xs) ≤ num s + xs.length := by
  induction xs generalizing s with
  | nil => exact Nat.le_refl _
  | cons x xs ih =>
    rw [puts_cons]
    have := ih (put s x)
    have := num_put s x
    simp only [List.length_cons]
    omega
theorem num_again (g : Good s) (x : Int) : num (again s x) = num s := by
  by_cases h : col s x = 2
  · rw [again_2 h]
    have := out_len g.d (d_col h).1
    simp [num]
    omega
  · rw [again_no h]
theorem num_paint (s : S) (x : Int) : num (paint s x) ≤ num s + 1 := by
  by_cases h : col s x = 2
  · rw [paint_2 h]; omega
  · rw [paint_no h]
    have := out_le s.W x
    simp [num]
    omega
theorem num_next (s : S) : num (next s) = num s := by
  cases h : s.W with
  | nil => rw [next_nil h]
  | cons x r => rw [next_cons h]; simp [num, h]; omega
end

/-! ### a ring -/
/-- Each of a chain goes to the one behind it, and back. -/
def Lk (bf bh : Nat → Nat) : List Nat → Prop
  | [] => True
  | [_] => True
  | x :: y :: r => bh x = y ∧ bf y = x ∧ Lk bf bh (y :: r)
def upd (f : Nat → Nat) (x v : Nat) : Nat → Nat := fun y => if y = x then v else f y
theorem upd_same (f : Nat → Nat) (x v : Nat) : upd f x v x = v := if_pos rfl
theorem upd_other {f : Nat → Nat} {x v y : Nat} (h : y ≠ x) : upd f x v y = f y := if_neg h
section
variable {bf bh bf' bh' : Nat → Nat}
theorem lk_split : ∀ (A : List Nat) (x : Nat) (B : List Nat), Lk bf bh (A ++ x :: B) ↔ Lk bf bh (A ++ [x]) ∧ Lk bf bh (x :: B)
  | [], x, B => by simp [Lk]
  | [a], x, B => by
    show (bh a = x ∧ bf x = a ∧ Lk bf bh (x :: B)) ↔ (bh a = x ∧ bf x = a ∧ True) ∧ Lk bf bh (x :: B)
    constructor
    · rintro ⟨h1, h2, h3⟩; exact ⟨⟨h1, h2, trivial⟩, h3⟩
    · rintro ⟨⟨h1, h2, _⟩, h3⟩; exact ⟨h1, h2, h3⟩
  | a :: b :: A, x, B => by
    have ih := lk_split (b :: A) x B
    show (bh a = b ∧ bf b = a ∧ Lk bf bh (b :: A ++ x :: B)) ↔ (bh a = b ∧ bf b = a ∧ Lk bf bh (b :: A ++ [x])) ∧ Lk bf bh (x :: B)
    rw [ih]
    constructor
    · rintro ⟨h1, h2, h3, h4⟩; exact ⟨⟨h1, h2, h3⟩, h4⟩
    · rintro ⟨⟨h1, h2, h3⟩, h4⟩; exact ⟨h1, h2, h3, h4⟩
/-- Where the chain's own are as they were, it is. A: all but the last; B: all but the first. -/
theorem lk_congr : ∀ (l : List Nat), (∀ x ∈ l.dropLast, bh' x = bh x) → (∀ x ∈ l.tail, bf' x = bf x) → Lk bf bh l → Lk bf' bh' l
  | [], _, _, _ => trivial
  | [_], _, _, _ => trivial
  | x :: y :: r, h1, h2, h => by
    refine ⟨(h1 x (by simp)).trans h.1, (h2 y (by simp)).trans h.2.1, lk_congr (y :: r) (fun z hz => h1 z ?_) (fun z hz => h2 z (by simp at hz ⊢; exact .inr hz)) h.2.2⟩
    rw [List.dropLast_cons_cons]
    exact List.mem_cons_of_mem _ hz
/-- One more at the end. -/
theorem ring_wait {e t : Nat} {N : List Nat} (hn : (e :: N).Nodup) (ht : t ∉ e :: N) (h : Lk bf bh (e :: N ++ [e])) :
    bf e ∈ e :: N ∧ Lk (upd (upd bf t (bf e)) e t) (upd (upd bh t e) (bf e) t) (e :: (N ++ [t]) ++ [e]) := by
  obtain ⟨M, p, hM⟩ : ∃ M p, e :: N = M ++ [p] := ⟨(e :: N).dropLast, (e :: N).getLast (by simp), (List.dropLast_concat_getLast (by simp)).symm⟩
  have hm : ∀ z, z ∈ e :: N ↔ z ∈ M ∨ z = p := fun z => by rw [hM]; simp
  rw [hM, List.append_assoc] at h
  obtain ⟨h1, h2⟩ := (lk_split M p [e]).1 h
  have hp : bf e = p := h2.2.1
  rw [hp]
  have htp : t ≠ p := fun k => ht ((hm t).2 (.inr k))
  have hte : t ≠ e := fun k => ht (by simp [k])
  refine ⟨(hm p).2 (.inr rfl), ?_⟩
  rw [show e :: (N ++ [t]) ++ [e] = M ++ p :: [t, e] by rw [← List.cons_append, hM]; simp]
  refine (lk_split M p [t, e]).2 ⟨lk_congr _ (fun z hz => ?_) (fun z hz => ?_) h1, ⟨upd_same _ _ _, ?_, ?_, upd_same _ _ _, trivial⟩⟩
  · rw [List.dropLast_concat] at hz
    have h5 : (M ++ [p]).Nodup := hM ▸ hn
    rw [List.nodup_append] at h5
    have : z ≠ p := h5.2.2 z hz p (by simp)
    have : z ≠ t := fun k => ht ((hm t).2 (.inl (k ▸ hz)))
    rw [upd_other (by assumption), upd_other (by assumption)]
  · have e5 : (M ++ [p]).tail = N := by rw [← hM]; rfl
    rw [e5] at hz
    have h6 : z ≠ e := fun k => (List.nodup_cons.1 hn).1 (k ▸ hz)
    have h7 : z ≠ t := fun k => ht (List.mem_cons_of_mem _ (k ▸ hz))
    rw [upd_other h6, upd_other h7]
  · rw [upd_other hte, upd_same]
  · rw [upd_other htp, upd_same]
/-- One less. -/
theorem ring_leave {e t : Nat} {A B : List Nat} (hn : (e :: (A ++ t :: B)).Nodup) (h : Lk bf bh (e :: (A ++ t :: B) ++ [e])) :
    bf t ∈ e :: A ∧ bh t ∈ e :: B ∧ Lk (upd bf (bh t) (bf t)) (upd bh (bf t) (bh t)) (e :: (A ++ B) ++ [e]) := by
  obtain ⟨M, p, hM⟩ : ∃ M p, e :: A = M ++ [p] := ⟨(e :: A).dropLast, (e :: A).getLast (by simp), (List.dropLast_concat_getLast (by simp)).symm⟩
  obtain ⟨n, N, hN⟩ : ∃ n N, B ++ [e] = n :: N := by cases B with
    | nil => exact ⟨e, [], rfl⟩
    | cons b B => exact ⟨b, B ++ [e], rfl⟩
  have hd : (e :: A).Nodup ∧ (t :: B).Nodup ∧ ∀ a ∈ e :: A, ∀ b ∈ t :: B, a ≠ b := by
    have := hn
    rw [show e :: (A ++ t :: B) = (e :: A) ++ t :: B by simp, List.nodup_append] at this
    exact this
  have hall : e :: (A ++ t :: B) ++ [e] = M ++ p :: t :: n :: N := by
    rw [show e :: (A ++ t :: B) ++ [e] = (e :: A) ++ t :: (B ++ [e]) by simp, hM, hN]
    simp
  rw [hall] at h
  obtain ⟨h1, h2⟩ := (lk_split M p (t :: n :: N)).1 h
  obtain ⟨hp1, hp2, hn1, hn2, h3⟩ := h2
  rw [hp2, hn1]
  have hpm : p ∈ e :: A := by rw [hM]; simp
  have hnm : n ∈ e :: B := by
    have : n ∈ B ++ [e] := by rw [hN]; simp
    simp at this ⊢
    exact this.symm
  refine ⟨hpm, hnm, ?_⟩
  have hall2 : e :: (A ++ B) ++ [e] = M ++ p :: n :: N := by
    rw [show e :: (A ++ B) ++ [e] = (e :: A) ++ (B ++ [e]) by simp, hM, hN]
    simp
  have hBe : (B ++ [e]).Nodup := by
    have h5 := List.nodup_cons.1 hd.2.1
    rw [List.nodup_append]
    exact ⟨h5.2, by simp, fun a ha b hb k => by
      rw [List.mem_singleton] at hb
      exact hd.2.2 e List.mem_cons_self a (List.mem_cons_of_mem _ ha) (by rw [k, hb])⟩
  rw [hall2]
  refine (lk_split M p (n :: N)).2 ⟨lk_congr _ (fun z hz => ?_) (fun z hz => ?_) h1, ⟨upd_same _ _ _, upd_same _ _ _, lk_congr _ (fun z hz => ?_) (fun z hz => ?_) h3⟩⟩
  · rw [List.dropLast_concat] at hz
    have h5 : (M ++ [p]).Nodup := hM ▸ hd.1
    rw [List.nodup_append] at h5
    rw [upd_other (h5.2.2 z hz p (by simp))]
  · have e5 : (M ++ [p]).tail = A := by rw [← hM]; rfl
    rw [e5] at hz
    refine upd_other fun k => ?_
    rcases List.mem_cons.1 hnm with h6 | h6
    · exact (List.nodup_cons.1 hd.1).1 (by rw [← h6, ← k]; exact hz)
    · exact hd.2.2 z (List.mem_cons_of_mem _ hz) n (List.mem_cons_of_mem _ h6) k
  · have e5 : (n :: N).dropLast = B := by rw [← hN, List.dropLast_concat]
    rw [e5] at hz
    exact upd_other fun k => hd.2.2 p hpm z (List.mem_cons_of_mem _ hz) k.symm
  · rw [List.tail_cons] at hz
    refine upd_other fun k => ?_
    rw [hN] at hBe
    exact (List.nodup_cons.1 hBe).1 (k ▸ hz)
end
end GY
end Go.Proofs.Ytomjaieplpjcpaa
