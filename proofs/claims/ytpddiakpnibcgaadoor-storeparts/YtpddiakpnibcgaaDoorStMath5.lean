/- A map of counts, and plain mathematics of parts. -/
import Derived.Test.YtpddiakpnibcgaaDoorStMath4
import Derived.Maps.Own
import Derived.Maps.OwnOps
import Derived.Maps.OwnSet
namespace Go.Proofs.YtpddiakpnibcgaaDoor
open Go.RowKit Go.Maps

theorem cnt_succ (f : Nat → Bool) (n : Nat) : BM.cnt f (n + 1) = BM.cnt f n + (if f n = true then 1 else 0) := by
  cases h : f n
  · rw [← BM.ons_len, ← BM.ons_len, BM.ons_no _ _ h]; simp
  · rw [← BM.ons_len, ← BM.ons_len, BM.ons_yes _ _ h, List.length_append]; simp
theorem cnt_sum (f g h : Nat → Bool) : ∀ n, (∀ i, i < n → (if h i = true then 1 else 0) = (if f i = true then 1 else 0) + (if g i = true then 1 else 0)) → BM.cnt h n = BM.cnt f n + BM.cnt g n := by
  intro n
  induction n with
  | zero => intro _; rfl
  | succ n ih =>
    intro e
    rw [cnt_succ f, cnt_succ g, cnt_succ h, ih fun i hi => e i (by omega), e n (by omega)]
    omega
/-- How many of the first k are an owner's. -/
def nth (own : Nat → Nat) (k o : Nat) : Nat := BM.cnt (fun q => decide (own q = o)) k
theorem nth_same (own : Nat → Nat) (k : Nat) : nth own (k + 1) (own k) = nth own k (own k) + 1 := by
  unfold nth
  rw [cnt_succ]
  simp
theorem nth_other (own : Nat → Nat) (k o : Nat) (h : own k ≠ o) : nth own (k + 1) o = nth own k o := by
  unfold nth
  rw [cnt_succ]
  simp [h]
theorem nth_le (own : Nat → Nat) (k o : Nat) : nth own k o ≤ k := BM.cnt_le _ _
/-- Is it somebody's who was come to among the first k? -/
def seen (own : Nat → Nat) (k q : Nat) : Bool := decide (own q ≠ 0) && decide (nth own k (own q) ≠ 0)
/-- What has been added up. -/
def sumTo (own : Nat → Nat) (C k : Nat) : Nat := frees own C + BM.cnt (seen own k) C
theorem sum_start (own : Nat → Nat) (C : Nat) : sumTo own C 0 = frees own C := by
  unfold sumTo
  rw [BM.cnt_none _ _ fun i _ => by unfold seen nth; simp [BM.cnt]]
  omega
theorem sum_free (own : Nat → Nat) (C k : Nat) (h : own k = 0) : sumTo own C (k + 1) = sumTo own C k := by
  unfold sumTo
  rw [BM.cnt_congr (seen own (k + 1)) (seen own k) C fun i _ => by
    unfold seen
    by_cases e : own i = 0
    · simp [e]
    · rw [nth_other own k (own i) (by omega)]]
theorem sum_again (own : Nat → Nat) (C k : Nat) (h1 : nth own k (own k) ≠ 0) : sumTo own C (k + 1) = sumTo own C k := by
  unfold sumTo
  rw [BM.cnt_congr (seen own (k + 1)) (seen own k) C fun i _ => by
    unfold seen
    by_cases e : own k = own i
    · rw [← e, nth_same]; simp [h1]
    · rw [nth_other own k (own i) e]]
theorem sum_first (own : Nat → Nat) (C k : Nat) (h : own k ≠ 0) (h1 : nth own k (own k) = 0) : sumTo own C (k + 1) = sumTo own C k + (BM.ons (hers own (own k : Int)) C).length := by
  unfold sumTo
  rw [BM.ons_len, cnt_sum (seen own k) (hers own (own k : Int)) (seen own (k + 1)) C fun i _ => by
    unfold seen hers
    by_cases e : own k = own i
    · rw [← e, nth_same, h1]
      have hk : (1 : Int) ≤ (own k : Int) := by omega
      simp [h, hk]
    · rw [nth_other own k (own i) e]
      have e2 : ¬ (own i : Int) = (own k : Int) := by omega
      simp [e2]]
  omega
theorem sum_end (own : Nat → Nat) (C : Nat) : sumTo own C C = C := by
  unfold sumTo frees
  have h := BM.cnt_le (busy own) C
  rw [BM.cnt_congr (seen own C) (busy own) C fun i hi => by
    unfold seen busy
    by_cases e : own i = 0
    · simp [e]
    · have : nth own C (own i) ≠ 0 := fun h0 => by
        have hle : nth own (i + 1) (own i) ≤ nth own C (own i) := by
          unfold nth
          obtain ⟨d, rfl⟩ : ∃ d, C = i + 1 + d := ⟨C - (i + 1), by omega⟩
          have := BM.cnt_add (fun q => decide (own q = own i)) (i + 1) d
          omega
        rw [nth_same] at hle
        omega
      simp [e, this]
      omega]
  omega
theorem if_iff {a b : Prop} [Decidable a] [Decidable b] (h : a ↔ b) : (if a then 1 else 0 : Nat) = if b then 1 else 0 := by
  by_cases ha : a
  · rw [if_pos ha, if_pos (h.1 ha)]
  · rw [if_neg ha, if_neg fun hb => ha (h.2 hb)]
/-- How often a place is among those that are told. -/
theorem ons_count (f : Nat → Bool) (c : Nat) : ∀ n, (BM.ons f n).count c = if c < n ∧ f c = true then 1 else 0 := by
  intro n
  induction n with
  | zero => simp [BM.ons]
  | succ n ih =>
    cases h : f n
    · rw [BM.ons_no _ _ h, ih]
      by_cases e : c = n
      · subst e; simp [h]
      · by_cases e2 : c < n
        · exact if_iff ⟨fun h => ⟨by omega, h.2⟩, fun h => ⟨by omega, h.2⟩⟩
        · rw [if_neg (by omega), if_neg (by omega)]
    · rw [BM.ons_yes _ _ h, List.count_append, ih]
      by_cases e : c = n
      · subst e; simp [h]
      · have : List.count c [n] = 0 := by simp [List.count_singleton]; omega
        rw [this]
        by_cases e2 : c < n
        · rw [Nat.add_zero]
          exact if_iff ⟨fun h => ⟨by omega, h.2⟩, fun h => ⟨by omega, h.2⟩⟩
        · rw [if_neg (by omega), if_neg (by omega)]
theorem count_take {xs : List Nat} {j x c : Nat} (h : xs[j]? = some x) : (xs.take (j + 1)).count c = (xs.take j).count c + (if x = c then 1 else 0) := by
  rw [List.take_add_one, h, List.count_append]
  congr 1
  simp [List.count_singleton]

theorem law3 : Keyed Tryd.prog 3 := int_keyed Tryd.underlying3
theorem zero3 (w : World) : (zeroValue 3).run Tryd.prog w = .ok (.int .i64 0) w := by kernel_rfl
/-- The map of counts. -/
def CountsAt (w : World) (b n : Nat) (f : Nat → Nat) (D : DataW Unit) : Prop :=
  w.ownsMap Tryd.prog 3 (plainElem Tryd.prog 3) b n D ∧ ∀ o : Nat, D.atKey (.int .i64 o) (.lit (.int .i64 0)) = .lit (.int .i64 (f o : Nat))
theorem CountsAt.block {w w' : World} {b n : Nat} {f : Nat → Nat} {D : DataW Unit} (h : CountsAt w b n f D) (e : w'.heap[b]? = w.heap[b]?) : CountsAt w' b n f D := by
  obtain ⟨⟨es, cl, h1, h2⟩, h3⟩ := h
  exact ⟨⟨es, cl, e.trans h1, h2⟩, h3⟩
theorem CountsAt.lt {w : World} {b n : Nat} {f : Nat → Nat} {D : DataW Unit} (h : CountsAt w b n f D) : b < w.heap.size := by
  obtain ⟨⟨es, cl, h1, h2⟩, h3⟩ := h
  rcases Nat.lt_or_ge b w.heap.size with hl | hg
  · exact hl
  · rw [Array.getElem?_eq_none hg] at h1; cases h1
theorem CountsAt.put {w w' : World} {b n : Nat} {f g : Nat → Nat} {D : DataW Unit} (h : CountsAt w b n f D) (o v : Nat) (ho : w'.ownsMap Tryd.prog 3 (plainElem Tryd.prog 3) b (n + 1) (D.put (.int .i64 o) (.lit (.int .i64 v)))) (hg1 : g o = v) (hg2 : ∀ x, x ≠ o → g x = f x) :
    CountsAt w' b (n + 1) g (D.put (.int .i64 o) (.lit (.int .i64 v))) := by
  refine ⟨ho, fun x => ?_⟩
  by_cases e : x = o
  · subst e
    rw [atKey_put_same h.1.isMap (show WideAt.IsKeyLit (.int .i64 (x : Nat)) from trivial), hg1]
  · rw [atKey_put_other (fun hh => e (by injection hh with _ hh; omega)), h.2 x, hg2 x e]
theorem count_same {D : DataW Unit} {o : Nat} {n : Nat} {c : Int} (h1 : D.atKey (.int .i64 o) (.lit (.int .i64 0)) = .lit (.int .i64 (n : Nat))) (h2 : D.atKey (.int .i64 o) (.lit (.int .i64 0)) = .lit (.int .i64 c)) : c = n := by
  have := h2.symm.trans h1
  injection this with this
  injection this
theorem key3 (x : Nat) (h : x < 9223372036854775808) : keyOf Tryd.prog 3 (.int .i64 (x : Nat)) = some (.int .i64 x) := keyOf_int_mk Tryd.underlying3 (WalkArith.wf_i64 (by omega))
/-- The counts behind k chunks. -/
def cnts (own : Nat → Nat) (k o : Nat) : Nat := if o = 0 then 0 else nth own k o
theorem cnts_start (own : Nat → Nat) (o : Nat) : cnts own 0 o = 0 := by
  unfold cnts nth
  simp [BM.cnt]
theorem cnts_free (own : Nat → Nat) (k o : Nat) (h : own k = 0) : cnts own (k + 1) o = cnts own k o := by
  unfold cnts
  by_cases e : o = 0
  · rw [if_pos e, if_pos e]
  · rw [if_neg e, if_neg e, nth_other own k o (by omega)]
theorem cnts_same (own : Nat → Nat) (k : Nat) (h : own k ≠ 0) : cnts own (k + 1) (own k) = cnts own k (own k) + 1 := by
  unfold cnts
  rw [if_neg h, if_neg h, nth_same]
theorem cnts_other (own : Nat → Nat) (k o : Nat) (h : o ≠ own k) : cnts own (k + 1) o = cnts own k o := by
  unfold cnts
  by_cases e : o = 0
  · rw [if_pos e, if_pos e]
  · rw [if_neg e, if_neg e, nth_other own k o (fun h' => h h'.symm)]
theorem cnts_le (own : Nat → Nat) (k o : Nat) : cnts own k o ≤ k := by
  unfold cnts
  have := nth_le own k o
  split <;> omega
theorem cnts_nth (own : Nat → Nat) (k : Nat) (h : own k ≠ 0) : cnts own k (own k) = nth own k (own k) := by
  unfold cnts
  rw [if_neg h]
end Go.Proofs.YtpddiakpnibcgaaDoor
