/- A region that draws its order, anywhere: what is said of it at every point of every order. -/
import Derived.Test.YteneadimchhhhaaGreatDoorAdCalm
namespace Go.Proofs.YteneadimchhhhaaGreatDoor
open Go.RowKit Go.Shelf

section
variable {F : Fence} {n : Nat} {P : Program} {ops : Array Oper} {Q : Exit → Act → World → Prop} {md : Region.Mode}
theorem wpAnyIn_inv (Inv : Array Bool → Act → World → Prop)
    (hstep : ∀ (i : Nat) (o : Oper), ops[i]? = some o → ∀ listed a w, Inv listed a w → listed.getD i true = false → (∀ e ∈ o.after, Region.binds md e = true → listed.getD e.on false = true) → wpOpIn F n P ops Q i (fun a' w' => Inv (listed.setIfInBounds i true) a' w') a w)
    (hend : ∀ listed a w, Inv listed a w → Region.ready md ops listed = [] → Q .normal a w) :
    ∀ (fuel : Nat) (listed : Array Bool) (a : Act) (w : World), unl listed ≤ fuel → Inv listed a w → wpAnyIn F n P md ops Q fuel listed a w := by
  intro fuel
  induction fuel with
  | zero =>
    intro listed a w hu hI
    have hr : Region.ready md ops listed = [] := by
      rcases hl : Region.ready md ops listed with _ | ⟨i, rs⟩
      · rfl
      · exfalso
        have hi : i ∈ Region.ready md ops listed := by rw [hl]; exact List.mem_cons_self
        have := unl_set (mem_ready.1 hi).1
        omega
    exact ⟨hr, hend _ _ _ hI hr⟩
  | succ fuel ih =>
    intro listed a w hu hI
    refine ⟨fun hr => hend _ _ _ hI hr, fun i hi => ?_⟩
    obtain ⟨hun, o, ho, hw⟩ := mem_ready.1 hi
    refine wpOpIn_mono (fun a' w' h => ih _ _ _ ?_ h) (hstep i o ho listed a w hI hun hw)
    have := unl_set hun
    omega
theorem wpIn_region_inv {id : Nat} {a0 : Act} {w : World} (Inv : Array Bool → Act → World → Prop) (hm : P.follows .mixedOrders = true) (h0 : Inv (Array.replicate ops.size false) a0 w.drew)
    (hstep : ∀ (i : Nat) (o : Oper), ops[i]? = some o → ∀ listed a w, Inv listed a w → listed.getD i true = false → (∀ e ∈ o.after, Region.binds .any e = true → listed.getD e.on false = true) → wpOpIn F n P ops Q i (fun a' w' => Inv (listed.setIfInBounds i true) a' w') a w)
    (hend : ∀ listed a w, Inv listed a w → Region.ready .any ops listed = [] → Q .normal a w) : (Code.region id ops true).wpIn F n P Q a0 w :=
  wpIn_region_any hm (wpAnyIn_inv Inv hstep hend _ _ _ _ (by unfold unl; simp) h0)
/-- Where none is ready all are listed. -/
theorem all_listed {listed : Array Bool} (hb : ∀ (i : Nat) (o : Oper), ops[i]? = some o → ∀ e ∈ o.after, Region.binds md e = true → e.on < i) (hs : listed.size = ops.size) (hr : Region.ready md ops listed = []) :
    ∀ i, i < ops.size → listed.getD i false = true := by
  intro i
  induction i using Nat.strongRecOn with
  | ind i ih =>
    intro hi
    cases hc : listed.getD i false with
    | true => rfl
    | false =>
      exfalso
      have ht : listed.getD i true = false := by
        have hl : i < listed.size := by omega
        simpa [Array.getD, hl] using hc
      have : i ∈ Region.ready md ops listed := mem_ready.2 ⟨ht, ops[i], Array.getElem?_eq_getElem hi, fun e he hbd => ih _ (hb i _ (Array.getElem?_eq_getElem hi) e he hbd) (by have := hb i _ (Array.getElem?_eq_getElem hi) e he hbd; omega)⟩
      rw [hr] at this
      cases this
theorem flag_set {listed : Array Bool} {i j k : Nat} (hs : listed.size = k) (hj : j < k) : (listed.setIfInBounds i true).getD j false = (if i = j then true else listed.getD j false) := by
  rw [getD_set]
  by_cases h : i = j
  · rw [if_pos ⟨h, by omega⟩, if_pos h]
  · rw [if_neg (fun c => h c.1), if_neg h]
end
end Go.Proofs.YteneadimchhhhaaGreatDoor
