/- Plain mathematics of BumpMoves: owners joined and cleared, words that stand. -/
import Derived.Test.YteencfldehcbbaaDoorBpFewM
import Derived.Test.YteencfldehcbbaaDoorBpClear
namespace Go.Proofs.YteencfldehcbbaaDoor
open Go.RowKit BP
set_option linter.unusedVariables false

theorem frees_same {own own' : Nat → Nat} (C : Nat) (h : ∀ k, k < C → (own k = 0 ↔ own' k = 0)) : frees own C = frees own' C := by
  unfold frees
  rw [BM.cnt_congr (busy own) (busy own') C fun i hi => by
    unfold busy
    have := h i hi
    by_cases e : own i = 0
    · rw [e, this.1 e]
    · have e2 : own' i ≠ 0 := fun e2 => e (this.2 e2)
      simp
      omega]
theorem frees_join {own : Nat → Nat} {l : List Nat} {C o : Nat} (ho : 1 ≤ o) (h : ∀ c ∈ l, own c ≠ 0) : frees (setO own l o) C = frees own C := by
  refine frees_same C fun k _ => ?_
  unfold setO
  by_cases e : k ∈ l
  · rw [if_pos e]
    have := h k e
    omega
  · rw [if_neg e]
theorem frees_clear {own : Nat → Nat} {C : Nat} : ∀ {l : List Nat}, l.Nodup → (∀ c ∈ l, c < C ∧ own c ≠ 0) → frees (setO own l 0) C = frees own C + l.length
  | [], _, _ => by rw [setO_nil]; rfl
  | a :: l, hn, h => by
    rw [List.nodup_cons] at hn
    have ih := frees_clear (own := own) (C := C) hn.2 fun c hc => h c (List.mem_cons_of_mem _ hc)
    have ha := h a (by simp)
    have h1 := frees_one (setO own (a :: l) 0) a (own a) (setO_in (by simp)) (by omega) C ha.1
    have e : (fun q => if q = a then own a else setO own (a :: l) 0 q) = setO own l 0 := by
      funext q
      unfold setO
      by_cases e : q = a
      · subst e
        rw [if_pos rfl, if_neg hn.1]
      · rw [if_neg e]
        simp [e]
    rw [e] at h1
    rw [List.length_cons]
    omega
/-- The word that is written for a chunk. -/
def mvV (X : Int) (c : Nat) : Nat := (IntKind.u64.wrap (X + (c : Int))).toNat
theorem mvV_eq (X : Int) (c : Nat) : IntKind.u64.wrap (X + (c : Int)) = ((mvV X c : Nat) : Int) := by
  unfold mvV
  rw [IntKind.wrap_u64]
  have := Int.emod_nonneg (X + (c : Int)) (b := 18446744073709551616) (by decide)
  omega
theorem mvV_lt (X : Int) (c : Nat) : mvV X c < 18446744073709551616 := by
  unfold mvV
  rw [IntKind.wrap_u64]
  have := Int.emod_lt_of_pos (X + (c : Int)) (b := 18446744073709551616) (by decide)
  omega
/-- The first j of some chunks have their words. -/
def Stood (X : Int) (l : List Nat) (j : Nat) (wd : Nat → Nat) : Prop := ∀ (i c : Nat), i < j → l[i]? = some c → wd (4 * c) = mvV X c
theorem Stood.next {X : Int} {l : List Nat} {j c : Nat} {wd : Nat → Nat} (h : Stood X l j wd) (hc : l[j]? = some c) : Stood X l (j + 1) (fun q => if q = 4 * c then mvV X c else wd q) := fun i d hi hd => by
  show (if 4 * d = 4 * c then mvV X c else wd (4 * d)) = mvV X d
  by_cases e : 4 * d = 4 * c
  · rw [if_pos e, show d = c by omega]
  · rw [if_neg e]
    have : i ≠ j := fun e2 => by
      subst e2
      rw [hc] at hd
      injection hd with hd
      omega
    exact h i d (by omega) hd
theorem BP.Good2.all {C K o o' : Nat} {D : Dt} (h : Good2 C K o o' D) {i c : Nat} (hc : (chunks D.S.parts ++ chunks D.T.parts)[i]? = some c) : c < C ∧ D.own c ≠ 0 ∧ (joinD o D).own c = o := by
  have hm := List.mem_of_getElem? hc
  have hj := (join_good h).a.has c (by
    show c ∈ chunks (D.S.parts ++ D.T.parts)
    rw [chunks_app]
    exact hm)
  refine ⟨hj.1, ?_, hj.2⟩
  rcases List.mem_append.1 hm with e | e
  · rw [(h.a.has c e).2]; have := h.o1; omega
  · rw [(h.b.has c e).2]; have := h.o2; omega
theorem BP.Good2.join_frees {C K o o' : Nat} {D : Dt} (h : Good2 C K o o' D) : frees (joinD o D).own C = frees D.own C :=
  frees_join h.o1 fun c hc => by rw [(h.b.has c hc).2]; have := h.o2; omega
theorem BP.Good2.clear_frees {C K o o' : Nat} {D : Dt} (h : Good2 C K o o' D) : frees (clearD D).own C = frees D.own C + (chunks D.S.parts).length :=
  frees_clear h.a.nod fun c hc => ⟨(h.a.has c hc).1, by rw [(h.a.has c hc).2]; have := h.o1; omega⟩
end Go.Proofs.YteencfldehcbbaaDoor
