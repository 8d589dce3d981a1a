/- What RemsetMoves leans on: plain data. -/
import Derived.Test.YtehkcflbdmkjpaaRsZ
namespace Go.Proofs.Ytehkcflbdmkjpaa

section
variable {L : RM.L}
theorem mv_put (h : RM.Up L) (r : RM.R) (t : Int) : RM.toV (RM.put L r t) r = t ∧ RM.has (RM.put L r t) r = true := by
  unfold RM.toV RM.has
  rw [RM.to_put h, if_pos rfl]
  exact ⟨rfl, rfl⟩
theorem mv_other (h : RM.Up L) (r : RM.R) (t : Int) : ∀ x, x ≠ r → RM.toV (RM.put L r t) x = RM.toV L x := fun x hx => by
  unfold RM.toV
  rw [RM.to_put h, if_neg hx]
theorem mv_cut (h : RM.Up L) (r : RM.R) : RM.has (RM.cut L r) r = false := by
  unfold RM.has
  rw [RM.to_cut h, if_pos rfl]
  rfl
theorem mv_len (h : RM.Up L) (r : RM.R) (t : Int) : (RM.has L r = false → (RM.put L r t).length = L.length + 1) ∧ (RM.has L r = true → (RM.put L r t).length = L.length) ∧
    (RM.has (RM.cut (RM.put L r t) r) r = false ∧ RM.has (RM.cut (RM.cut (RM.put L r t) r) r) r = false) ∧ (RM.cut (RM.cut (RM.put L r t) r) r).length + 1 = (RM.put L r t).length := by
  have h1 := RM.put_up h r t
  have h2 := RM.cut_up h1 r
  have e1 := RM.put_len h r t
  have e2 := RM.cut_len h1 r
  have e3 := RM.cut_len h2 r
  have hp := (mv_put h r t).2
  rw [hp] at e2
  rw [mv_cut h1 r] at e3
  simp only [if_true, Bool.false_eq_true, if_false] at e2 e3
  have hpos : 0 < (RM.put L r t).length := by
    obtain ⟨u, hu⟩ := (RM.has_iff h1).1 hp
    exact List.length_pos_of_mem hu
  refine ⟨fun e => by rw [e1, e]; simp, fun e => by rw [e1, e]; simp, ⟨mv_cut h1 r, mv_cut h2 r⟩, by omega⟩
/-- Where it went it isn't told any more. -/
theorem mv_gone (h : RM.Up L) {r : RM.R} {t u : Int} (hu : u ≠ t) : ∀ L1, L1 = RM.put L r t → ∀ x ∈ RM.of L1 u, x ≠ r := fun L1 e x hx hr => by
  subst e hr
  have := (RM.to_iff (RM.put_up h x t)).2 (RM.mem_of.1 hx)
  rw [RM.to_put h, if_pos rfl] at this
  injection this with this
  exact hu this.symm
end
end Go.Proofs.Ytehkcflbdmkjpaa
