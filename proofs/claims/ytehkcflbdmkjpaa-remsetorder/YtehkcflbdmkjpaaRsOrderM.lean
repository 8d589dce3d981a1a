/- What RemsetOrder leans on: plain data; a call in a drawn region. -/
import Derived.Test.YtehkcflbdmkjpaaRsZ
import Derived.Deep.RegionHeld3
import Derived.Deep.DeepCutAuto
namespace Go.Proofs.Ytehkcflbdmkjpaa
open Go.RowKit

theorem same_below {w W : World} (e1 : W.heap = w.heap) (e2 : W.os = w.os) (e3 : W.tape = w.tape) (e4 : W.output = w.output) : Below w.heap.size w W := ⟨e2, e3, e4, by rw [e1]; exact Nat.le_refl _, fun k _ => by rw [e1]⟩
theorem bthru {w a b : World} (h : Below w.heap.size w a) (k : Below a.heap.size a b) : Below w.heap.size w b := h.trans (k.mono h.size)
theorem bback {w W b : World} (k : Below W.heap.size W b) (e1 : W.heap = w.heap) (e2 : W.os = w.os) (e3 : W.tape = w.tape) (e4 : W.output = w.output) : Below w.heap.size w b := bthru (same_below e1 e2 e3 e4) k
theorem bto {w a W : World} (h : Below w.heap.size w a) (e1 : W.heap = a.heap) (e2 : W.os = a.os) (e3 : W.tape = a.tape) (e4 : W.output = a.output) : Below w.heap.size w W := bthru h (same_below e1 e2 e3 e4)

/-- Was the source there ahead? -/
def seen (l : List RM.Act) (s : Int) : Bool := l.any fun b => b.s == s
theorem seen_nil (s : Int) : seen [] s = false := rfl
theorem seen_take {l : List RM.Act} {k : Nat} (h : k < l.length) (s : Int) : seen (l.take (k + 1)) s = (seen (l.take k) s || (l[k].s == s)) := by
  unfold seen
  rw [List.take_succ_eq_append_getElem h, List.any_append]
  simp
/-- How many references have one of these sources. -/
def srcSum (L : RM.L) (l : List RM.Act) : Nat := (L.filter fun p => seen l p.1.1).length
theorem srcSum_nil (L : RM.L) : srcSum L [] = 0 := by
  unfold srcSum
  have : L.filter (fun p => seen [] p.1.1) = [] := List.filter_eq_nil_iff.2 fun p _ => by simp [seen]
  rw [this]
  rfl
theorem srcSum_le (L : RM.L) (l : List RM.Act) : srcSum L l ≤ L.length := List.length_filter_le _ _
theorem srcSum_yes (L : RM.L) {l : List RM.Act} {k : Nat} (h : k < l.length) (e : seen (l.take k) l[k].s = true) : srcSum L (l.take (k + 1)) = srcSum L (l.take k) := by
  unfold srcSum
  congr 1
  apply List.filter_congr
  intro p _
  rw [seen_take h]
  by_cases hp : l[k].s = p.1.1
  · rw [← hp, e]; rfl
  · have : (l[k].s == p.1.1) = false := by simpa using hp
    rw [this, Bool.or_false]
theorem filter_or (L : RM.L) (f g : RM.R × Int → Bool) (h : ∀ p, f p = true → g p = false) : (L.filter fun p => f p || g p).length = (L.filter f).length + (L.filter g).length := by
  induction L with
  | nil => rfl
  | cons p L ih =>
    have hp := h p
    rw [List.filter_cons, List.filter_cons, List.filter_cons]
    cases hf : f p <;> cases hg : g p
    · simpa using ih
    · simp only [Bool.or_true, if_true, Bool.false_eq_true, if_false, List.length_cons]; omega
    · simp only [Bool.or_false, if_true, Bool.false_eq_true, if_false, List.length_cons]; omega
    · rw [hp hf] at hg; cases hg
theorem srcSum_no (L : RM.L) {l : List RM.Act} {k : Nat} (h : k < l.length) (e : seen (l.take k) l[k].s = false) : srcSum L (l.take (k + 1)) = srcSum L (l.take k) + (RM.frm L l[k].s).length := by
  unfold srcSum RM.frm
  rw [List.length_map]
  have e1 : (L.filter fun p => seen (l.take (k + 1)) p.1.1) = L.filter fun p => seen (l.take k) p.1.1 || p.1.1 == l[k].s := by
    apply List.filter_congr
    intro p _
    rw [seen_take h]
    by_cases hp : l[k].s = p.1.1
    · rw [← hp]
    · have h1 : (l[k].s == p.1.1) = false := by simpa using hp
      have h2 : (p.1.1 == l[k].s) = false := by simpa using fun e => hp e.symm
      rw [h1, h2]
  rw [e1]
  refine filter_or L _ _ fun p hp => ?_
  have : p.1.1 ≠ l[k].s := fun e2 => by rw [e2, e] at hp; cases hp
  simpa using this
theorem srcSum_run (l : List RM.Act) : srcSum (RM.run l) l = (RM.run l).length := by
  unfold srcSum
  congr 1
  refine List.filter_eq_self.2 fun p hp => ?_
  obtain ⟨a, ha, e⟩ := RM.run_src l p hp
  unfold seen
  rw [List.any_eq_true]
  exact ⟨a, ha, by rw [e]; simp [RM.Act.r]⟩
theorem rise_at {l : List RM.R} (h : l.Pairwise TM.Lt) {k : Nat} (h1 : 1 ≤ k) (hk : k < l.length) : TM.Lt (l[k - 1]'(by omega)) l[k] := List.pairwise_iff_getElem.1 h (k - 1) k (by omega) hk (by omega)
theorem frm_places {L : RM.L} (h : RM.Up L) (s : Int) : (RM.frm L s).Pairwise fun x y => x.2 < y.2 := by
  refine (RM.frm_up h s).imp_of_mem fun {x y} hx hy hlt => ?_
  have e1 := (RM.mem_frm.1 hx).2
  have e2 := (RM.mem_frm.1 hy).2
  unfold TM.Lt at hlt
  omega
theorem place_at {l : List RM.R} (h : l.Pairwise fun x y => x.2 < y.2) {k : Nat} (h1 : 1 ≤ k) (hk : k < l.length) : (l[k - 1]'(by omega)).2 < l[k].2 := List.pairwise_iff_getElem.1 h (k - 1) k (by omega) hk (by omega)
end Go.Proofs.Ytehkcflbdmkjpaa
