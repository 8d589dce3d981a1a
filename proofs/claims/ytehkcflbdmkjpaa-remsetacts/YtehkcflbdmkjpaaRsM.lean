/- Plain data of package remset: references in order, where each goes. No program in it. -/
import Derived.Test.YtehkcflbdmkjpaaTkSort
namespace Go.Proofs.Ytehkcflbdmkjpaa
open Go.Lib Go.Sort

namespace RM
abbrev R := Int × Int
abbrev L := List (R × Int)
/-- In order, each once. -/
def Up (l : L) : Prop := l.Pairwise fun p q => TM.Lt p.1 q.1
def to (l : L) (r : R) : Option Int := (l.find? fun p => p.1 == r).map fun p => p.2
def has (l : L) (r : R) : Bool := (to l r).isSome
def toV (l : L) (r : R) : Int := (to l r).getD 0
def cut (l : L) (r : R) : L := l.filter fun p => p.1 != r
def ins : L → R → Int → L
  | [], r, t => [(r, t)]
  | p :: l, r, t => if TM.lt r p.1 = true then (r, t) :: p :: l else p :: ins l r t
def put (l : L) (r : R) (t : Int) : L := ins (cut l r) r t
def of (l : L) (t : Int) : List R := (l.filter fun p => p.2 == t).map fun p => p.1
def frm (l : L) (s : Int) : List R := (l.filter fun p => p.1.1 == s).map fun p => p.1
def forget (l : L) (s : Int) : L := l.filter fun p => p.1.1 != s

theorem Up.nil : Up [] := List.Pairwise.nil
theorem Up.filter {l : L} (h : Up l) (f : R × Int → Bool) : Up (l.filter f) := List.Pairwise.filter f h
theorem Up.keys {l : L} (h : Up l) : (l.map fun p => p.1).Pairwise TM.Lt := List.pairwise_map.2 h
theorem Up.uniq {l : L} (h : Up l) {p q : R × Int} (hp : p ∈ l) (hq : q ∈ l) (e : p.1 = q.1) : p = q := by
  induction l with
  | nil => simp at hp
  | cons x l ih =>
    have h' := List.pairwise_cons.1 h
    rcases List.mem_cons.1 hp with e1 | hp'
    · rcases List.mem_cons.1 hq with e2 | hq'
      · rw [e1, e2]
      · have := h'.1 q hq'
        rw [← e1, e] at this
        exact this.irrefl.elim
    · rcases List.mem_cons.1 hq with e2 | hq'
      · have := h'.1 p hp'
        rw [← e2, e] at this
        exact this.irrefl.elim
      · exact ih h'.2 hp' hq'
theorem to_iff {l : L} (h : Up l) {r : R} {t : Int} : to l r = some t ↔ (r, t) ∈ l := by
  unfold to
  constructor
  · intro e
    rw [Option.map_eq_some_iff] at e
    obtain ⟨p, hp, rfl⟩ := e
    have h1 := List.find?_some hp
    have h2 := List.mem_of_find?_eq_some hp
    have e1 : p.1 = r := by simpa using h1
    subst e1
    exact h2
  · intro hm
    cases hf : l.find? (fun p => p.1 == r) with
    | none =>
      have := List.find?_eq_none.1 hf _ hm
      simp at this
    | some p =>
      have h1 := List.find?_some hf
      have h2 := List.mem_of_find?_eq_some hf
      have e1 : p.1 = r := by simpa using h1
      have := h.uniq h2 hm e1
      subst this
      rfl
theorem has_iff {l : L} (h : Up l) {r : R} : has l r = true ↔ ∃ t, (r, t) ∈ l := by
  unfold has
  rw [Option.isSome_iff_exists]
  constructor
  · rintro ⟨t, ht⟩; exact ⟨t, (to_iff h).1 ht⟩
  · rintro ⟨t, ht⟩; exact ⟨t, (to_iff h).2 ht⟩
theorem has_not {l : L} (h : Up l) {r : R} : has l r = false ↔ ∀ t, (r, t) ∉ l := by
  rw [← Bool.not_eq_true, has_iff h]
  exact ⟨fun k t ht => k ⟨t, ht⟩, fun k ⟨t, ht⟩ => k t ht⟩
theorem to_none {l : L} {r : R} (h : has l r = false) : to l r = none := by
  unfold has at h
  cases e : to l r with
  | none => rfl
  | some x => rw [e] at h; simp at h
theorem to_some {l : L} {r : R} (h : has l r = true) : to l r = some (toV l r) := by
  unfold has at h
  unfold toV
  cases e : to l r with
  | none => rw [e] at h; simp at h
  | some x => rfl
theorem toV_none {l : L} {r : R} (h : has l r = false) : toV l r = 0 := by
  unfold toV
  rw [to_none h]
  rfl
theorem mem_cut {l : L} {r : R} {p : R × Int} : p ∈ cut l r ↔ p ∈ l ∧ p.1 ≠ r := by simp [cut]
theorem mem_forget {l : L} {s : Int} {p : R × Int} : p ∈ forget l s ↔ p ∈ l ∧ p.1.1 ≠ s := by simp [forget]
theorem cut_up {l : L} (h : Up l) (r : R) : Up (cut l r) := h.filter _
theorem forget_up {l : L} (h : Up l) (s : Int) : Up (forget l s) := h.filter _
theorem mem_ins {l : L} {r : R} {t : Int} {p : R × Int} : p ∈ ins l r t ↔ p ∈ l ∨ p = (r, t) := by
  induction l with
  | nil => simp [ins]
  | cons x l ih =>
    unfold ins
    split
    · simp only [List.mem_cons]
      constructor
      · rintro (h | h | h)
        · exact .inr h
        · exact .inl (.inl h)
        · exact .inl (.inr h)
      · rintro ((h | h) | h)
        · exact .inr (.inl h)
        · exact .inr (.inr h)
        · exact .inl h
    · simp only [List.mem_cons, ih]
      constructor
      · rintro (h | h | h)
        · exact .inl (.inl h)
        · exact .inl (.inr h)
        · exact .inr h
      · rintro ((h | h) | h)
        · exact .inl h
        · exact .inr (.inl h)
        · exact .inr (.inr h)
theorem ins_len (l : L) (r : R) (t : Int) : (ins l r t).length = l.length + 1 := by
  induction l with
  | nil => rfl
  | cons x l ih =>
    unfold ins
    split
    · rfl
    · simp [ih]
theorem ins_up {l : L} (h : Up l) {r : R} {t : Int} (hr : ∀ t, (r, t) ∉ l) : Up (ins l r t) := by
  induction l with
  | nil => exact List.pairwise_singleton _ _
  | cons x l ih =>
    have h' := List.pairwise_cons.1 h
    unfold ins
    split
    · rename_i hlt
      have hlt := TM.lt_iff.1 hlt
      refine List.pairwise_cons.2 ⟨fun q hq => ?_, h⟩
      rcases List.mem_cons.1 hq with rfl | hq
      · exact hlt
      · exact hlt.trans (h'.1 q hq)
    · rename_i hlt
      have hlt : ¬ TM.Lt r x.1 := fun e => hlt (TM.lt_iff.2 e)
      refine List.pairwise_cons.2 ⟨fun q hq => ?_, ih h'.2 fun t ht => hr t (List.mem_cons_of_mem _ ht)⟩
      rcases mem_ins.1 hq with hq | rfl
      · exact h'.1 q hq
      · rcases TM.Lt.tri x.1 r with e | e | e
        · exact e
        · exact (hr x.2 (by subst e; exact List.mem_cons_self)).elim
        · exact (hlt e).elim
theorem cut_not {l : L} (r : R) (t : Int) : (r, t) ∉ cut l r := fun h => (mem_cut.1 h).2 rfl
theorem put_up {l : L} (h : Up l) (r : R) (t : Int) : Up (put l r t) := ins_up (cut_up h r) (cut_not r)
theorem mem_put {l : L} {r : R} {t : Int} {p : R × Int} : p ∈ put l r t ↔ (p ∈ l ∧ p.1 ≠ r) ∨ p = (r, t) := by
  unfold put
  rw [mem_ins, mem_cut]
theorem opt_ext {a b : Option Int} (h : ∀ t, a = some t ↔ b = some t) : a = b := by
  cases a with
  | none =>
    cases b with
    | none => rfl
    | some y => exact absurd ((h y).2 rfl) (by simp)
  | some x => exact ((h x).1 rfl).symm
theorem to_cut {l : L} (h : Up l) (r x : R) : to (cut l r) x = if x = r then none else to l x := by
  apply opt_ext
  intro t
  rw [to_iff (cut_up h r), mem_cut]
  by_cases e : x = r
  · simp [e]
  · simp only [e, if_false, to_iff h, ne_eq, not_false_eq_true, and_true]
theorem to_put {l : L} (h : Up l) (r x : R) (t : Int) : to (put l r t) x = if x = r then some t else to l x := by
  apply opt_ext
  intro u
  rw [to_iff (put_up h r t), mem_put]
  by_cases e : x = r
  · subst e
    simp only [ne_eq, not_true_eq_false, and_false, false_or, if_true, Prod.mk.injEq, true_and, Option.some.injEq]
    exact eq_comm
  · simp only [e, if_false, to_iff h, ne_eq, not_false_eq_true, and_true, Prod.mk.injEq, false_and, or_false]
theorem to_forget {l : L} (h : Up l) (s : Int) (x : R) : to (forget l s) x = if x.1 = s then none else to l x := by
  apply opt_ext
  intro t
  rw [to_iff (forget_up h s), mem_forget]
  by_cases e : x.1 = s
  · simp [e]
  · simp only [e, if_false, to_iff h, ne_eq, not_false_eq_true, and_true]
theorem mem_of {l : L} {t : Int} {r : R} : r ∈ of l t ↔ (r, t) ∈ l := by
  unfold of
  rw [List.mem_map]
  constructor
  · rintro ⟨p, hp, rfl⟩
    obtain ⟨h1, h2⟩ := List.mem_filter.1 hp
    have : p.2 = t := by simpa using h2
    subst this
    exact h1
  · intro h
    exact ⟨(r, t), List.mem_filter.2 ⟨h, by simp⟩, rfl⟩
theorem mem_frm {l : L} {s : Int} {r : R} : r ∈ frm l s ↔ (∃ t, (r, t) ∈ l) ∧ r.1 = s := by
  unfold frm
  rw [List.mem_map]
  constructor
  · rintro ⟨p, hp, rfl⟩
    obtain ⟨h1, h2⟩ := List.mem_filter.1 hp
    exact ⟨⟨p.2, h1⟩, by simpa using h2⟩
  · rintro ⟨⟨t, h⟩, rfl⟩
    exact ⟨(r, t), List.mem_filter.2 ⟨h, by simp⟩, rfl⟩
theorem of_up {l : L} (h : Up l) (t : Int) : (of l t).Pairwise TM.Lt := (h.filter _).keys
theorem frm_up {l : L} (h : Up l) (s : Int) : (frm l s).Pairwise TM.Lt := (h.filter _).keys
theorem of_len (l : L) (t : Int) : (of l t).length ≤ l.length := by
  unfold of
  rw [List.length_map]
  exact List.length_filter_le _ _
theorem frm_len (l : L) (s : Int) : (frm l s).length ≤ l.length := by
  unfold frm
  rw [List.length_map]
  exact List.length_filter_le _ _
theorem rise_nodup {l : List R} (h : l.Pairwise TM.Lt) : l.Nodup := h.imp fun a e => (e ▸ a).irrefl
theorem cut_len {l : L} (h : Up l) (r : R) : (cut l r).length = if has l r = true then l.length - 1 else l.length := by
  induction l with
  | nil => rfl
  | cons x l ih =>
    have h' := List.pairwise_cons.1 h
    have ih := ih h'.2
    by_cases e : x.1 = r
    · have e1 : cut (x :: l) r = cut l r := by
        unfold cut
        rw [List.filter_cons, if_neg (by simp [e])]
      have e2 : has l r = false := (has_not h'.2).2 fun t ht => by
        have := h'.1 _ ht
        rw [e] at this
        exact this.irrefl
      have e3 : has (x :: l) r = true := (has_iff h).2 ⟨x.2, by subst e; exact List.mem_cons_self⟩
      rw [e1, ih, e2, e3]
      simp
    · have e1 : cut (x :: l) r = x :: cut l r := by
        unfold cut
        rw [List.filter_cons, if_pos (by simp [e])]
      have e2 : has (x :: l) r = has l r := by
        unfold has to
        rw [List.find?_cons_of_neg (by simpa using e)]
      rw [e1, List.length_cons, ih, e2]
      cases hh : has l r
      · simp
      · obtain ⟨t, ht⟩ := (has_iff h'.2).1 hh
        have := List.length_pos_of_mem ht
        simp
        omega
theorem put_len {l : L} (h : Up l) (r : R) (t : Int) : (put l r t).length = if has l r = true then l.length else l.length + 1 := by
  unfold put
  rw [ins_len, cut_len h]
  cases hh : has l r
  · simp
  · obtain ⟨t, ht⟩ := (has_iff h).1 hh
    have := List.length_pos_of_mem ht
    simp
    omega
theorem forget_len (l : L) (s : Int) : (forget l s).length = l.length - (frm l s).length := by
  induction l with
  | nil => rfl
  | cons x l ih =>
    have hl := frm_len l s
    by_cases e : x.1.1 = s
    · have e1 : forget (x :: l) s = forget l s := by
        unfold forget
        rw [List.filter_cons, if_neg (by simp [e])]
      have e2 : frm (x :: l) s = x.1 :: frm l s := by
        unfold frm
        rw [List.filter_cons, if_pos (by simp [e])]
        rfl
      rw [e1, e2, ih]
      simp
    · have e1 : forget (x :: l) s = x :: forget l s := by
        unfold forget
        rw [List.filter_cons, if_pos (by simp [e])]
      have e2 : frm (x :: l) s = frm l s := by
        unfold frm
        rw [List.filter_cons, if_neg (by simp [e])]
      rw [e1, e2, List.length_cons, ih, List.length_cons]
      omega
/-- Cut of each of these. -/
def cuts (l : L) (rs : List R) : L := rs.foldl cut l
theorem mem_cuts {rs : List R} {l : L} {p : R × Int} : p ∈ cuts l rs ↔ p ∈ l ∧ p.1 ∉ rs := by
  induction rs generalizing l with
  | nil => simp [cuts]
  | cons r rs ih =>
    show p ∈ cuts (cut l r) rs ↔ _
    rw [ih, mem_cut]
    simp only [List.mem_cons, not_or, and_assoc]
theorem cuts_up {rs : List R} {l : L} (h : Up l) : Up (cuts l rs) := by
  induction rs generalizing l with
  | nil => exact h
  | cons r rs ih => exact ih (cut_up h r)
theorem cuts_snoc (l : L) (rs : List R) (r : R) : cuts l (rs ++ [r]) = cut (cuts l rs) r := by simp [cuts]
/-- Two lists in order of the same are one. -/
theorem same : ∀ {l m : L}, Up l → Up m → (∀ x, x ∈ l ↔ x ∈ m) → l = m
  | [], [], _, _, _ => rfl
  | [], y :: m, _, _, h => absurd ((h y).2 List.mem_cons_self) (by simp)
  | x :: l, [], _, _, h => absurd ((h x).1 List.mem_cons_self) (by simp)
  | x :: l, y :: m, hl, hm, h => by
    have hl' := List.pairwise_cons.1 hl
    have hm' := List.pairwise_cons.1 hm
    have e : x = y := by
      rcases List.mem_cons.1 ((h x).1 List.mem_cons_self) with e | hx
      · exact e
      · rcases List.mem_cons.1 ((h y).2 List.mem_cons_self) with e | hy
        · exact e.symm
        · exact ((hm'.1 x hx).asymm (hl'.1 y hy)).elim
    subst e
    rw [RM.same hl'.2 hm'.2 fun z => ?_]
    constructor
    · intro hz
      rcases List.mem_cons.1 ((h z).1 (List.mem_cons_of_mem _ hz)) with e | hz'
      · subst e; exact (hl'.1 z hz).irrefl.elim
      · exact hz'
    · intro hz
      rcases List.mem_cons.1 ((h z).2 (List.mem_cons_of_mem _ hz)) with e | hz'
      · subst e; exact (hm'.1 z hz).irrefl.elim
      · exact hz'
theorem cuts_frm {l : L} (h : Up l) (s : Int) : cuts l (frm l s) = forget l s := by
  refine same (cuts_up h) (forget_up h s) fun p => ?_
  rw [mem_cuts, mem_forget, mem_frm]
  constructor
  · rintro ⟨h1, h2⟩
    exact ⟨h1, fun e => h2 ⟨⟨p.2, h1⟩, e⟩⟩
  · rintro ⟨h1, h2⟩
    exact ⟨h1, fun e => h2 e.2⟩
theorem of_cut {l : L} (r : R) (t : Int) : of (cut l r) t = (of l t).filter fun x => x != r := by
  unfold of cut
  rw [List.filter_map, List.filter_filter, List.filter_filter]
  congr 1
  apply List.filter_congr
  intro x _
  simp [Bool.and_comm]
theorem frm_cut {l : L} (r : R) (s : Int) : frm (cut l r) s = (frm l s).filter fun x => x != r := by
  unfold frm cut
  rw [List.filter_map, List.filter_filter, List.filter_filter]
  congr 1
  apply List.filter_congr
  intro x _
  simp [Bool.and_comm]
theorem filter_none {l : List R} {r : R} (h : r ∉ l) : (l.filter fun x => x != r) = l := List.filter_eq_self.2 fun x hx => by
  have : x ≠ r := fun e => h (e ▸ hx)
  simpa using this
/-- Where a reference did not go, its cut changes nothing. -/
theorem of_cut_other {l : L} (h : Up l) {r : R} {t u : Int} (hr : to l r = some t) (hu : u ≠ t) : of (cut l r) u = of l u := by
  rw [of_cut]
  refine filter_none fun hm => hu ?_
  have := (to_iff h).2 (mem_of.1 hm)
  rw [hr] at this
  exact (Option.some.inj this).symm
theorem frm_cut_other {l : L} {r : R} {s : Int} (hs : s ≠ r.1) : frm (cut l r) s = frm l s := by
  rw [frm_cut]
  exact filter_none fun hm => hs (mem_frm.1 hm).2.symm
theorem cut_none {l : L} (h : Up l) {r : R} (hr : has l r = false) : cut l r = l := List.filter_eq_self.2 fun p hp => by
  have : p.1 ≠ r := fun e => (has_not h).1 hr p.2 (by subst e; exact hp)
  simpa using this

/-- Acts: kind, reference, number. -/
structure Act where
  k : Int
  s : Int
  p : Int
  n : Int
def Act.r (a : Act) : R := (a.s, a.p)
def step (l : L) (a : Act) : L := if a.k = 0 then put l a.r a.n else if a.k = 1 then cut l a.r else if a.k = 2 then forget l a.n else l
def run (l : List Act) : L := l.foldl step []
theorem step_up {l : L} (h : Up l) (a : Act) : Up (step l a) := by
  unfold step
  split
  · exact put_up h _ _
  · split
    · exact cut_up h _
    · split
      · exact forget_up h _
      · exact h
theorem step_len {l : L} (h : Up l) (a : Act) : (step l a).length ≤ l.length + 1 := by
  unfold step
  split
  · rw [put_len h]; split <;> omega
  · split
    · rw [cut_len h]; split <;> omega
    · split
      · rw [forget_len]; omega
      · omega
theorem run_snoc (l : List Act) (a : Act) : run (l ++ [a]) = step (run l) a := by simp [run]
theorem snocInd {α : Type} {p : List α → Prop} (h0 : p []) (h1 : ∀ l x, p l → p (l ++ [x])) : ∀ l, p l := fun l => by
  have h : ∀ r : List α, p r.reverse := fun r => by
    induction r with
    | nil => exact h0
    | cons x r ih => rw [List.reverse_cons]; exact h1 _ x ih
  have := h l.reverse
  rwa [List.reverse_reverse] at this
theorem run_up : ∀ l, Up (run l) := snocInd Up.nil fun l a h => by rw [run_snoc]; exact step_up h a
theorem run_len : ∀ l, (run l).length ≤ l.length := snocInd (Nat.le_refl _) fun l a h => by
  rw [run_snoc, List.length_append]
  have := step_len (run_up l) a
  simp
  omega
theorem step_src {l : L} {a : Act} {p : R × Int} (h : p ∈ step l a) : p ∈ l ∨ p = (a.r, a.n) := by
  unfold step at h
  split at h
  · rcases mem_put.1 h with ⟨h, _⟩ | h
    · exact .inl h
    · exact .inr h
  · split at h
    · exact .inl (mem_cut.1 h).1
    · split at h
      · exact .inl (mem_forget.1 h).1
      · exact .inl h
theorem run_src : ∀ l, ∀ p ∈ run l, ∃ a ∈ l, p = (a.r, a.n) := snocInd (fun p hp => by simp [run] at hp) fun l a ih p hp => by
  rw [run_snoc] at hp
  rcases step_src hp with h | h
  · obtain ⟨b, hb, e⟩ := ih p h
    exact ⟨b, by simp [hb], e⟩
  · exact ⟨a, by simp, h⟩
end RM
end Go.Proofs.Ytehkcflbdmkjpaa
