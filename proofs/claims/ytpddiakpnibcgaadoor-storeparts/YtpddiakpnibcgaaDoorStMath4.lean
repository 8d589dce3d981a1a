/- Two rows of the call's own; plain mathematics of copying. -/
import Derived.Test.YtpddiakpnibcgaaDoorStMath3
namespace Go.Proofs.YtpddiakpnibcgaaDoor
open Go.RowKit

/-- Two rows, each the call's own, in blocks apart; below 'base' the world is as w0 was. -/
def Twin (w0 : World) (base : Nat) (e f : TypeId) (u : Value) (m : Nat) (xs : List Value) (v : Value) (n : Nat) (ys : List Value) (w : World) : Prop :=
  w.ownsRow base e 1 u m xs ∧ w.ownsRow base f 1 v n ys ∧ (∀ g, u.ownBlock = some g → v.ownBlock ≠ some g) ∧ Below base w0 w ∧ base ≤ w.heap.size
section
variable {w0 w w' : World} {base m n : Nat} {e f : TypeId} {u v : Value} {xs ys : List Value}
theorem Twin.alloc (h : Twin w0 base e f u m xs v n ys w) (o : Obj) : Twin w0 base e f u m xs v n ys (w.alloc o) :=
  ⟨h.1.alloc o, h.2.1.alloc o, h.2.2.1, h.2.2.2.1.alloc h.2.2.2.2 o, by simp; have := h.2.2.2.2; omega⟩
theorem Twin.swap (h : Twin w0 base e f u m xs v n ys w) : Twin w0 base f e v n ys u m xs w := ⟨h.2.1, h.1, fun g hg hu => h.2.2.1 g hu hg, h.2.2.2.1, h.2.2.2.2⟩
theorem Twin.first (h : Twin w0 base e f u m xs v n ys w) {u' : Value} {k : Nat} {zs : List Value} (ho : w'.ownsRow base e 1 u' k zs) (hg : w.grownBy w' u.ownBlock) (hat : u'.ownBlock = u.ownBlock ∨ u'.ownBlock = some w.heap.size) :
    Twin w0 base e f u' k zs v n ys w' := by
  obtain ⟨h1, h2, h3, h4, h5⟩ := h
  have hne : v.ownBlock = none ∨ v.ownBlock ≠ u.ownBlock := by
    cases hv : v.ownBlock with
    | none => exact .inl rfl
    | some k' =>
      refine .inr fun hu => ?_
      exact h3 k' hu.symm hv
  refine ⟨ho, h2.kept hg hne, ?_, h4.grown hg h5 (fun k hk => (h1.lt k hk).1), Nat.le_trans h5 hg.size⟩
  intro g' hg' hv
  rcases hat with hat | hat
  · exact h3 _ (hat.symm.trans hg') hv
  · have e1 := hat.symm.trans hg'
    injection e1 with e1
    have := (h2.lt _ hv).2
    omega
theorem Twin.second (h : Twin w0 base e f u m xs v n ys w) {v' : Value} {k : Nat} {zs : List Value} (ho : w'.ownsRow base f 1 v' k zs) (hg : w.grownBy w' v.ownBlock) (hat : v'.ownBlock = v.ownBlock ∨ v'.ownBlock = some w.heap.size) :
    Twin w0 base e f u m xs v' k zs w' := (h.swap.first ho hg hat).swap
end

/-- The word of an address, as it is told. -/
def rva (own wd : Nat → Nat) (K i : Nat) : Nat := if own (i / K) = 0 then 0 else wd i
/-- Is it told? -/
def oka (own : Nat → Nat) (K i : Nat) : Bool := busy own (i / K)
theorem read_in {own wd : Nat → Nat} {C K i : Nat} (h : i < C * K) : readV own wd C K (i : Int) = rva own wd K i := readV_in h
theorem addr_ok {own : Nat → Nat} {C K i : Nat} (h : i < C * K) : (addrE own C K (i : Int) == 0) = oka own K i := by
  rw [addrE_in h]
  unfold oka
  cases e : busy own (i / K)
  · rw [if_pos (busy_off.1 e)]; rfl
  · rw [if_neg (busy_on.1 e)]; rfl
def okvals (own : Nat → Nat) (K k : Nat) : List Value := (List.range k).map fun i => Value.bool (oka own K i)
theorem okvals_len (own : Nat → Nat) (K k : Nat) : (okvals own K k).length = k := by simp [okvals]
theorem okvals_snoc (own : Nat → Nat) (K k : Nat) : okvals own K (k + 1) = okvals own K k ++ [Value.bool (oka own K k)] := by simp [okvals, List.range_succ]
theorem okvals_at (own : Nat → Nat) (K k j : Nat) (h : j < k) : (okvals own K k)[j]? = some (Value.bool (oka own K j)) := by simp [okvals, h]
/-- May so many be copied? -/
def mayB (own : Nat → Nat) (K t f j : Nat) : Bool := !anyFree own K t j && !anyFree own K f j
theorem anyFree_succ (own : Nat → Nat) (K t j : Nat) : anyFree own K t (j + 1) = (anyFree own K t j || !oka own K (t + j)) := by
  unfold anyFree oka busy
  simp [List.range_succ]
  congr 1
  rw [Bool.eq_iff_iff]
  simp
theorem mayB_zero (own : Nat → Nat) (K t f : Nat) : mayB own K t f 0 = true := by simp [mayB, anyFree]
theorem mayB_succ (own : Nat → Nat) (K t f j : Nat) : mayB own K t f (j + 1) = (mayB own K t f j && oka own K (t + j) && oka own K (f + j)) := by
  unfold mayB
  rw [anyFree_succ, anyFree_succ]
  cases anyFree own K t j <;> cases anyFree own K f j <;> cases oka own K (t + j) <;> cases oka own K (f + j) <;> rfl
theorem copy_may {own : Nat → Nat} {C K t f N : Nat} (ht : t + N ≤ C * K) (hf : f + N ≤ C * K) : copyE own C K (t : Int) (f : Int) (N : Int) = if mayB own K t f N = true then 0 else 17 := by
  unfold copyE mayB
  rw [if_pos ⟨(inB_iff _ _ _).2 (by omega), (inB_iff _ _ _).2 (by omega)⟩, Int.toNat_natCast, Int.toNat_natCast, Int.toNat_natCast]
  cases anyFree own K t N <;> cases anyFree own K f N <;> rfl
theorem cpA_may {own wd : Nat → Nat} {C K t f N : Nat} (ht : t + N ≤ C * K) (hf : f + N ≤ C * K) (h : mayB own K t f N = true) : cpWdA own wd C K (t : Int) (f : Int) (N : Int) = cpWd wd t f N := by
  unfold cpWdA
  rw [copy_may ht hf, if_pos h, if_pos rfl, Int.toNat_natCast, Int.toNat_natCast, Int.toNat_natCast]
theorem cpA_not {own wd : Nat → Nat} {C K t f N : Nat} (ht : t + N ≤ C * K) (hf : f + N ≤ C * K) (h : mayB own K t f N = false) : cpWdA own wd C K (t : Int) (f : Int) (N : Int) = wd := by
  unfold cpWdA
  rw [copy_may ht hf, h]
  simp
/-- What is read of words that were copied. -/
theorem rva_copied {own wd : Nat → Nat} {K t f N i : Nat} (h : mayB own K t f N = true) (h1 : t ≤ i) (h2 : i < t + N) : rva own (cpWd wd t f N) K i = rva own wd K (f + (i - t)) := by
  have ha : anyFree own K t N = false := by
    cases e : anyFree own K t N
    · rfl
    · unfold mayB at h; rw [e] at h; simp at h
  have hb : anyFree own K f N = false := by
    cases e : anyFree own K f N
    · rfl
    · unfold mayB at h; rw [e] at h; simp at h
  have e1 := (anyFree_not own K t N).1 ha (i - t) (by omega)
  have e2 := (anyFree_not own K f N).1 hb (i - t) (by omega)
  rw [show t + (i - t) = i by omega] at e1
  unfold rva cpWd
  rw [if_neg e1, if_neg e2, if_pos ⟨h1, h2⟩]
theorem rva_else {own wd : Nat → Nat} {K t f N i : Nat} (h : ¬ (t ≤ i ∧ i < t + N)) : rva own (cpWd wd t f N) K i = rva own wd K i := by
  unfold rva cpWd
  rw [if_neg h]
theorem uint_modS (c : Int) (C : Nat) (hC : 1 ≤ C) (hC2 : C ≤ 1000) : ∃ q : Nat, q < C ∧ RowKit.wrap64 ((IntKind.u64.wrap c).tmod (C : Int)) = (q : Int) := by
  obtain ⟨q, h1, h2⟩ := uint_mod c C hC
  refine ⟨q, h1, ?_⟩
  rw [IntKind.wrap_u64, Int.tmod_eq_emod_of_nonneg (Int.emod_nonneg _ (by decide)), h2]
  unfold RowKit.wrap64
  omega
end Go.Proofs.YtpddiakpnibcgaaDoor
