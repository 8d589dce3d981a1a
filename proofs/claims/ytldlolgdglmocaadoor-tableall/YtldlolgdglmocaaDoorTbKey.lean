/- A map keyed by tokens. -/
import Derived.Test.YtldlolgdglmocaaDoorTbIter
import Derived.Test.YtldlolgdglmocaaDoorTbGrown
import Derived.Maps.OwnIn
import Derived.DeepKeys4
namespace Go.Proofs.YtldlolgdglmocaaDoor
open Go.RowKit Go.Shelf Go.Maps

/-- A token as a key. -/
def tokL (i g : Int) : Lit := .string (keyBytes [.int .i64 i, .int .i64 g])
def I64ok (x : Int) : Prop := (Lit.int .i64 x).wf = true
theorem i64ok_nat {x : Nat} (h : x ≤ 1000000) : I64ok (x : Int) := WalkArith.wf_i64 (by omega)
theorem key_tok {i g : Int} (hi : I64ok i) (hg : I64ok g) : keyOf Tryd.prog 33 (.agg #[.int .i64 i, .int .i64 g]) = some (tokL i g) := by
  unfold I64ok at hi hg
  have hk : Tryd.prog.keyType 33 = true := by kernel_rfl
  unfold keyOf
  rw [Tryd.underlying33]
  dsimp only
  rw [hk]
  have hf : Value.formed Tryd.prog 33 (.agg #[.int .i64 i, .int .i64 g]) = true := by kernel_rfl
  have h1 : ∀ d x, (Lit.int .i64 x).wf = true → Tryd.prog.keyLits (d + 1) 3 [.int .i64 x] = some [.int .i64 x] := fun d x hx => by
    unfold Program.keyLits
    rw [Tryd.underlying3]
    simp [hx]
  have c2 : Tryd.prog.cellsOf 33 = 2 := by kernel_rfl
  have c1 : Tryd.prog.cellsOf 3 = 1 := by kernel_rfl
  have hl : ∀ d, Tryd.prog.keyLits (d + 1 + 1) 33 [.int .i64 i, .int .i64 g] = some [.int .i64 i, .int .i64 g] := fun d => by
    conv => lhs; unfold Program.keyLits
    rw [Tryd.underlying33]
    simp [c1, c2, h1 d i hi, h1 d g hg]
  rw [hf]
  exact congrArg (Option.map fun ls => Lit.string (keyBytes ls)) (hl _)
theorem law_tok : Go.Maps.Keyed Tryd.prog 33 := Go.Maps.Keyed.of_law (deep_law_laid (by kernel_rfl) (m := 2) (by omega) (of_decide_eq_true (by kernel_rfl)) (by kernel_rfl) (by kernel_rfl))
theorem tokL_inj {i g i' g' : Int} (h1 : I64ok i) (h2 : I64ok g) (h3 : I64ok i') (h4 : I64ok g') (h : tokL i g = tokL i' g') : i = i' ∧ g = g' := by
  have := law_tok.inj (key_tok h1 h2) (h ▸ key_tok h3 h4)
  simp at this
  exact this
/-- Tokens that were put into a map, each with 1. -/
def tokD (pre : List (Int × Int)) : DataW Unit := pre.foldl (fun D x => D.put (tokL x.1 x.2) (.lit (.int .i64 1))) (.map [])
def TokAll (pre : List (Int × Int)) : Prop := ∀ x ∈ pre, I64ok x.1 ∧ I64ok x.2
theorem tokD_snoc (pre : List (Int × Int)) (x : Int × Int) : tokD (pre ++ [x]) = (tokD pre).put (tokL x.1 x.2) (.lit (.int .i64 1)) := by simp [tokD]
theorem length_ins {H : Type} (x : Lit × DataW H) : ∀ l : List (Lit × DataW H), (DataW.insert x l).length = l.length + 1
  | [] => rfl
  | y :: r => by
    unfold DataW.insert
    split
    · rfl
    · simp [length_ins x r]
theorem mem_ins {H : Type} {x y : Lit × DataW H} : ∀ {l : List (Lit × DataW H)}, y ∈ DataW.insert x l → y = x ∨ y ∈ l
  | [], h => by simpa [DataW.insert] using h
  | z :: r, h => by
    unfold DataW.insert at h
    split at h
    · simpa using h
    · rcases List.mem_cons.1 h with rfl | h
      · exact .inr List.mem_cons_self
      · rcases mem_ins h with h | h
        · exact .inl h
        · exact .inr (List.mem_cons_of_mem _ h)
theorem snocInd {α : Type} {p : List α → Prop} (h0 : p []) (h1 : ∀ l x, p l → p (l ++ [x])) : ∀ l, p l := fun l => by
  have h : ∀ r : List α, p r.reverse := fun r => by
    induction r with
    | nil => exact h0
    | cons x r ih => rw [List.reverse_cons]; exact h1 _ x ih
  have := h l.reverse
  rwa [List.reverse_reverse] at this
/-- What such a map is. -/
theorem tokD_is : ∀ pre : List (Int × Int), ∃ es, tokD pre = .map es ∧ (∀ p ∈ es, ∃ x ∈ pre, p.1 = tokL x.1 x.2) := by
  refine snocInd ⟨[], rfl, fun p hp => by simp at hp⟩ ?_
  · intro pre x ih
    obtain ⟨es, h1, h2⟩ := ih
    refine ⟨_, by rw [tokD_snoc, h1]; rfl, fun p hp => ?_⟩
    rcases mem_ins hp with rfl | hp
    · exact ⟨x, by simp, rfl⟩
    · obtain ⟨y, hy, e⟩ := h2 p (List.mem_filter.1 hp).1
      exact ⟨y, by simp [hy], e⟩
theorem tokD_size : ∀ pre : List (Int × Int), TokAll pre → pre.Nodup → Maps.size (tokD pre) = pre.length := by
  refine snocInd (fun _ _ => rfl) ?_
  · intro pre x ih ha hn
    have hn' := List.nodup_append.1 hn
    obtain ⟨es, h1, h2⟩ := tokD_is pre
    have h3 := ih (fun y hy => ha y (by simp [hy])) hn'.1
    have hx := ha x (by simp)
    rw [h1] at h3
    rw [tokD_snoc, h1]
    have hf : es.filter (fun p => !p.1.sameKey (tokL x.1 x.2)) = es := List.filter_eq_self.2 fun p hp => by
      obtain ⟨y, hy, e⟩ := h2 p hp
      have hy' := ha y (by simp [hy])
      cases hs : p.1.sameKey (tokL x.1 x.2)
      · rfl
      · have := WideAt.sameKey_eq hs
        rw [e] at this
        obtain ⟨e1, e2⟩ := tokL_inj hy'.1 hy'.2 hx.1 hx.2 this
        exact absurd (Prod.ext e1 e2) (hn'.2.2 y hy x (by simp))
    show Maps.size (.map (DataW.insert _ (es.filter fun p => !p.1.sameKey (tokL x.1 x.2)))) = _
    rw [hf]
    have h3' : es.length = pre.length := h3
    simp [Maps.size, length_ins, h3']
theorem tokD_at : ∀ pre : List (Int × Int), TokAll pre → ∀ i g, I64ok i → I64ok g → (tokD pre).atKey (tokL i g) (.lit (.int .i64 0)) = .lit (.int .i64 (if (i, g) ∈ pre then 1 else 0)) := by
  refine snocInd (fun _ i g _ _ => by simp [tokD, DataW.atKey]) ?_
  · intro pre x ih ha i g hi hg
    have hx := ha x (by simp)
    obtain ⟨es, h1, _⟩ := tokD_is pre
    rw [tokD_snoc]
    by_cases e : (i, g) = x
    · subst e
      rw [atKey_put_same ⟨es, h1⟩ (show WideAt.IsKeyLit (tokL i g) from trivial), if_pos (by simp)]
    · rw [atKey_put_other (fun hh => e (by obtain ⟨e1, e2⟩ := tokL_inj hi hg hx.1 hx.2 hh; exact Prod.ext e1 e2)), ih (fun y hy => ha y (by simp [hy])) i g hi hg]
      simp [e]
end Go.Proofs.YtldlolgdglmocaaDoor
