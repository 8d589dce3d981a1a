/- Both halves: the code's spaces and the document's, apart. -/
import Derived.Test.YteencfldehcbbaaDoorBpRj2
import Derived.Test.YteencfldehcbbaaDoorBpRa
import Derived.Test.YteencfldehcbbaaDoorBpAlive
namespace Go.Proofs.YteencfldehcbbaaDoor
open Go.RowKit Go.Sort BP
set_option linter.unusedVariables false

theorem and_one (n : Int) : bits .and .i64 n 1 = n % 2 := by
  have h1 : (BitVec.ofInt 64 1).toNat = 2 ^ 1 - 1 := by decide
  have key : (BitVec.ofInt 64 n &&& BitVec.ofInt 64 1).toNat = (n % ((2 ^ 64 : Nat) : Int)).toNat % 2 ^ 1 := by
    rw [BitVec.toNat_and, BitVec.toNat_ofInt, h1, Nat.and_two_pow_sub_one_eq_mod]
  show IntKind.i64.wrap ((BitVec.ofInt 64 n &&& BitVec.ofInt 64 1).toNat : Nat) = n % 2
  rw [key, IntKind.wrap_i64]
  omega
theorem uint_rem (c : Int) (C : Nat) (hC : 1 ≤ C) (hC2 : C ≤ 2000) : ∃ q : Nat, q < C ∧ RowKit.wrap64 ((IntKind.u64.wrap c).tmod (C : Int)) = (q : Int) := by
  refine ⟨((c % 18446744073709551616) % (C : Int)).toNat, ?_, ?_⟩
  · have := Int.emod_nonneg (c % 18446744073709551616) (b := (C : Int)) (by omega)
    have := Int.emod_lt_of_pos (c % 18446744073709551616) (b := (C : Int)) (by omega)
    omega
  · rw [IntKind.wrap_u64, Int.tmod_eq_emod_of_nonneg (Int.emod_nonneg _ (by decide))]
    have := Int.emod_nonneg (c % 18446744073709551616) (b := (C : Int)) (by omega)
    have := Int.emod_lt_of_pos (c % 18446744073709551616) (b := (C : Int)) (by omega)
    unfold RowKit.wrap64
    omega
/-- Blocks of both halves. -/
def ydF (B : SB) (R : RB) (p p' r r' : Nat) (s s' t t' : Value) : List Nat := coF B p p' s s' ++ roF R r r' t t'
structure Yd (w0 w : World) (B : SB) (R : RB) (C K o o' p p' r r' : Nat) (s s' t t' : Value) (D E : Dt) : Prop where
  co : Co w0 w B C K o o' p p' s s' D
  ro : Ro w0 w R C K o o' r r' t t' E
  ap : ∀ x ∈ coF B p p' s s', x ∉ roF R r r' t t'
section
variable {w0 w w1 : World} {B : SB} {R : RB} {C K o o' p p' r r' : Nat} {s s' t t' u u' : Value} {D E D' E' : Dt}
theorem Yd.swap (h : Yd w0 w B R C K o o' p p' r r' s s' t t' D E) : Yd w0 w B R C K o' o p' p r' r s' s t' t D.swap E.swap :=
  ⟨h.co.swap, h.ro.swap, fun x hx hn => h.ap x (by rw [coF_mem] at hx ⊢; rcases hx with e | e | e | e | e <;> simp [e]) (roF_swap_mem.1 hn)⟩
theorem Yd.win (h : Yd w0 w B R C K o o' p p' r r' s s' t t' D E) : ∀ x ∈ ydF B R p p' r r' s s' t t', w0.heap.size ≤ x ∧ x < w.heap.size := fun x hx => by
  rcases List.mem_append.1 hx with e | e
  · exact h.co.win x e
  · exact h.ro.win x e
theorem Yd.not (h : Yd w0 w B R C K o o' p p' r r' s s' t t' D E) {g : Nat} (hg : w.heap.size ≤ g) : g ∉ ydF B R p p' r r' s s' t t' := fun hx => by have := (h.win g hx).2; omega
theorem Yd.bel (h : Yd w0 w B R C K o o' p p' r r' s s' t t' D E) : Below w0.heap.size w0 w := h.co.bel
theorem Yd.later (h : Yd w0 w B R C K o o' p p' r r' s s' t t' D E) (hT : Tab w0) (hb : Below w.heap.size w w1) : Yd w0 w1 B R C K o o' p p' r r' s s' t t' D E :=
  ⟨h.co.later hT hb, h.ro.later hb, h.ap⟩
/-- Behind a call of the code's. -/
theorem Yd.code (h : Yd w0 w B R C K o o' p p' r r' s s' t t' D E) (hc : Co w0 w1 B C K o o' p p' u u' D') (ht : Turn (coF B p p' s s') (coF B p p' u u') w w1) :
    Yd w0 w1 B R C K o o' p p' r r' u u' t t' D' E ∧ Turn (ydF B R p p' r r' s s' t t') (ydF B R p p' r r' u u' t t') w w1 := by
  refine ⟨⟨hc, h.ro.blocks hc.bel ht.aft.size fun k hk => ht.aft.block k (h.ro.win k hk).2 fun hx => h.ap k hx hk, fun x hx hn => ?_⟩, ht.aft.sub fun x hx => List.mem_append.2 (.inl hx), fun x hx => ?_⟩
  · rcases ht.new x hx with e | e
    · exact h.ap x e hn
    · have := (h.ro.win x hn).2; omega
  · rcases List.mem_append.1 hx with e | e
    · rcases ht.new x e with e | e
      · exact .inl (List.mem_append.2 (.inl e))
      · exact .inr e
    · exact .inl (List.mem_append.2 (.inr e))
/-- Behind a call of the document's. -/
theorem Yd.doc (h : Yd w0 w B R C K o o' p p' r r' s s' t t' D E) (hT : Tab w0) (hc : Ro w0 w1 R C K o o' r r' u u' E') (ht : Turn (roF R r r' t t') (roF R r r' u u') w w1) :
    Yd w0 w1 B R C K o o' p p' r r' s s' u u' D E' ∧ Turn (ydF B R p p' r r' s s' t t') (ydF B R p p' r r' s s' u u') w w1 := by
  have hb : ∀ k ∈ coF B p p' s s', w1.heap[k]? = w.heap[k]? := fun k hk => ht.aft.block k (h.co.win k hk).2 fun hx => h.ap k hk hx
  refine ⟨⟨⟨⟨h.co.held.st.blocks fun k hk => hb k (coF_mem.2 (.inl (by simp [SB.bl]; omega))), hc.bel, h.co.held.win.more ht.aft.size, hT.below hc.bel hT.pos⟩,
    h.co.a.keep fun k hk => hb k (coF_mem.2 (by rcases hk with rfl | hk; exact .inr (.inl rfl); exact .inr (.inr (.inr (.inl hk))))),
    h.co.b.keep fun k hk => hb k (coF_mem.2 (by rcases hk with rfl | hk; exact .inr (.inr (.inl rfl)); exact .inr (.inr (.inr (.inr hk))))), h.co.ne, h.co.rows, h.co.out⟩, hc, fun x hx hn => ?_⟩, ht.aft.sub fun x hx => List.mem_append.2 (.inr hx), fun x hx => ?_⟩
  · rcases ht.new x hn with e | e
    · exact h.ap x hx e
    · have := (h.co.win x hx).2; omega
  · rcases List.mem_append.1 hx with e | e
    · exact .inl (List.mem_append.2 (.inl e))
    · rcases ht.new x e with e | e
      · exact .inl (List.mem_append.2 (.inr e))
      · exact .inr e
theorem yturn_swap {q q' y y' : Nat} {a a' b b' c c' d d' : Value} (h : Turn (ydF B R p p' r r' a a' b b') (ydF B R q q' y y' c c' d d') w w1) : Turn (ydF B R p' p r' r a' a b' b) (ydF B R q' q y' y c' c d' d) w w1 := by
  have hm : ∀ {q q' y y' : Nat} {c c' d d' : Value} {x : Nat}, x ∈ ydF B R q q' y y' c c' d d' → x ∈ ydF B R q' q y' y c' c d' d := fun {q q' y y' c c' d d' x} hx => by
    rcases List.mem_append.1 hx with e | e
    · refine List.mem_append.2 (.inl ?_)
      rw [coF_mem] at e ⊢
      rcases e with e | e | e | e | e <;> simp [e]
    · exact List.mem_append.2 (.inr (roF_swap_mem.1 e))
  refine ⟨h.aft.sub fun x hx => hm hx, fun x hx => ?_⟩
  rcases h.new x (hm hx) with e | e
  · exact .inl (hm e)
  · exact .inr e
/-- What is left of both, whatever has been done. -/
def YdPost (w0 : World) (B : SB) (R : RB) (C K o o' p p' r r' : Nat) (s s' t t' : Value) (w : World) (e : Ending) (w' : World) : Prop :=
  e = .returned (.bool true) ∧ ∃ u u' v v' D, Yd w0 w' B R C K o o' p p' r r' u u' v v' D D ∧ Good2 C K o o' D ∧ Turn (ydF B R p p' r r' s s' t t') (ydF B R p p' r r' u u' v v') w w'
theorem YdPost.swap {e : Ending} {w' : World} (h : YdPost w0 B R C K o o' p p' r r' s s' t t' w e w') : YdPost w0 B R C K o' o p' p r' r s' s t' t w e w' := by
  obtain ⟨he, u, u', v, v', D, h1, h2, h3⟩ := h
  exact ⟨he, u', u, v', v, D.swap, h1.swap, h2.swap, yturn_swap h3⟩
end
end Go.Proofs.YteencfldehcbbaaDoor
