/- What RemsetTwice leans on: plain data. -/
import Derived.Test.YtehkcflbdmkjpaaRsZ
namespace Go.Proofs.Ytehkcflbdmkjpaa

/-- How many of the first k are x. -/
def cnt (l : List RM.R) (x : RM.R) (k : Nat) : Nat := ((l.take k).filter fun y => y == x).length
theorem cnt_zero (l : List RM.R) (x : RM.R) : cnt l x 0 = 0 := by simp [cnt]
theorem cnt_yes {l : List RM.R} {x : RM.R} {k : Nat} (h : k < l.length) (e : l[k] = x) : cnt l x (k + 1) = cnt l x k + 1 := by
  unfold cnt
  rw [List.take_succ_eq_append_getElem h, List.filter_append]
  simp [e]
theorem cnt_no {l : List RM.R} {x : RM.R} {k : Nat} (h : k < l.length) (e : l[k] ≠ x) : cnt l x (k + 1) = cnt l x k := by
  unfold cnt
  rw [List.take_succ_eq_append_getElem h, List.filter_append]
  simp [e]
theorem cnt_le (l : List RM.R) (x : RM.R) (k : Nat) : cnt l x k ≤ l.length := by
  unfold cnt
  have := List.length_filter_le (fun y => y == x) (l.take k)
  simp at this
  omega
theorem cnt_one {l : List RM.R} (hn : l.Nodup) {x : RM.R} (hx : x ∈ l) : cnt l x l.length = 1 := by
  unfold cnt
  rw [List.take_length]
  induction l with
  | nil => simp at hx
  | cons y l ih =>
    have h' := List.nodup_cons.1 hn
    rw [List.filter_cons]
    by_cases e : y = x
    · subst e
      have : l.filter (fun z => z == y) = [] := List.filter_eq_nil_iff.2 fun z hz => by
        have : z ≠ y := fun e => h'.1 (e ▸ hz)
        simpa using this
      simp [this]
    · have hx' : x ∈ l := by
        rcases List.mem_cons.1 hx with h | h
        · exact (e h.symm).elim
        · exact h
      rw [if_neg (by simpa using e)]
      exact ih h'.2 hx'
section
variable {L : RM.L}
theorem tw_of (h : RM.Up L) {t : Int} {x : RM.R} (hx : x ∈ RM.of L t) : RM.toV L x = t ∧ RM.has L x = true ∧ cnt (RM.frm L x.1) x (RM.frm L x.1).length = 1 := by
  have hm := RM.mem_of.1 hx
  have ht := (RM.to_iff h).2 hm
  refine ⟨by unfold RM.toV; rw [ht]; rfl, by unfold RM.has; rw [ht]; rfl, cnt_one (RM.rise_nodup (RM.frm_up h _)) (RM.mem_frm.2 ⟨⟨t, hm⟩, rfl⟩)⟩
theorem tw_frm (h : RM.Up L) {s : Int} {x : RM.R} (hx : x ∈ RM.frm L s) : x.1 = s ∧ RM.has L x = true ∧ (x, RM.toV L x) ∈ L ∧ cnt (RM.of L (RM.toV L x)) x (RM.of L (RM.toV L x)).length = 1 := by
  obtain ⟨⟨t, hm⟩, hs⟩ := RM.mem_frm.1 hx
  have hh := (RM.has_iff h).2 ⟨t, hm⟩
  have hto := (RM.to_iff h).1 (RM.to_some hh)
  exact ⟨hs, hh, hto, cnt_one (RM.rise_nodup (RM.of_up h _)) (RM.mem_of.2 hto)⟩
end
end Go.Proofs.Ytehkcflbdmkjpaa
