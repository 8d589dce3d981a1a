/- A region that draws its order, all of whose operations but the last ones leave a class of worlds and yield, in each of them, one value each: one walk, of each operation by itself, at the activation behind them all. -/
import Derived.Test.YteneadimchhhhaaGreatDoorAdLaw
namespace Go.Proofs.YteneadimchhhhaaGreatDoor
open Go.RowKit Go.Shelf

section
variable {F : Fence} {n : Nat} {P : Program} {ops : Array Oper} {Q : Exit → Act → World → Prop} {md : Region.Mode}

def isPlainOp : Op → Bool
  | .defer _ => false
  | .select _ _ => false
  | _ => true
theorem isPlainOp_d {o : Op} (h : isPlainOp o = true) : ∀ c, o ≠ .defer c := fun c e => by subst e; cases h
theorem isPlainOp_s {o : Op} (h : isPlainOp o = true) : ∀ c b, o ≠ .select c b := fun c b e => by subst e; cases h

/-- An operation that goes through at aF and leaves it as it is goes through at every activation that agrees with it. -/
theorem wpIn_at {o : Oper} {a aF : Act} {w : World} {C : World → Prop} {K : Act → World → Prop} (hp : isPlainOp o.op = true) (hop : ∀ x ∈ o.op.operands, a.eval x = aF.eval x)
    (h : o.wpIn F n P aF w (fun a' w' => a' = aF ∧ C w') (fun _ _ _ => False)) (hK : ∀ v w', aF.put o.dst v = aF → C w' → K (a.put o.dst v) w') : o.wpIn F n P a w K Q := by
  unfold Oper.wpIn at h ⊢
  rw [about_congr o w hop]
  refine ⟨h.1, ?_⟩
  have h := h.2
  rw [Oper.semAt_eq _ _ _ (isPlainOp_d hp)] at h ⊢
  rw [execOp_congr o (isPlainOp_s hp) hop]
  generalize (execOp aF.eval o).run P w = r at *
  have no : ∀ {p : Prop}, LetsOut (fun (_ : Exit) (_ : Act) (_ : World) => False) → p := fun ⟨_, _, h⟩ => h.elim
  cases r with
  | ok x w' =>
    cases x <;> simp only [Oper.uponIn] at h ⊢
    case value u => exact hK _ _ h.1 h.2
    case skip => exact hK _ _ h.1 h.2
    case defer d =>
      exfalso
      have e := congrArg Act.defers h.1
      have : (Act.put { aF with defers := d :: aF.defers } o.dst undef).defers = d :: aF.defers := by unfold Act.put; cases o.dst <;> rfl
      rw [this] at e
      exact List.cons_ne_self _ _ e
    case enter f args => exact ⟨h.1, h.2.mono fun e w'' he => by cases e <;> first | exact hK _ _ he.1 he.2 | exact (he : False).elim | exact no he⟩
    case row row args => exact ⟨h.1, h.2.mono fun u w'' he => hK _ _ he.1 he.2⟩
    case round l f tmps assign body => exact ⟨h.1, h.2.mono fun e w'' he => by cases e <;> first | exact hK _ _ he.1 he.2 | exact (he : False).elim | exact no he⟩
  | halt x w' =>
    cases x <;> simp only [Oper.uponIn] at h

theorem wpOpIn_at {i : Nat} {o : Oper} {a aF : Act} {w : World} {C : World → Prop} {K : Act → World → Prop} (ho : ops[i]? = some o) (hp : isPlainOp o.op = true) (hop : ∀ x ∈ o.op.operands, a.eval x = aF.eval x)
    (hw : Region.wanted o (yielded ops a.tmps) = Region.wanted o (yielded ops aF.tmps))
    (h : wpOpIn F n P ops (fun _ _ _ => False) i (fun a' w' => a' = aF ∧ C w') aF w) (hK : ∀ v w', aF.put o.dst v = aF → C w' → K (a.put o.dst v) w') : wpOpIn F n P ops Q i K a w := by
  unfold wpOpIn at h ⊢
  rw [ho] at h ⊢
  dsimp only at h ⊢
  rw [hw]
  by_cases c : Region.wanted o (yielded ops aF.tmps) = true
  · rw [if_pos c] at h ⊢
    exact wpIn_at hp hop h hK
  · rw [if_neg c] at h ⊢
    rw [about_congr o w hop]
    exact ⟨h.1, hK _ _ h.2.1 h.2.2⟩
/-- Does an operation wait for another one? -/
def waits (md : Region.Mode) (o : Oper) (j : Nat) : Bool := o.after.any fun e => Region.binds md e && e.on == j
/-- A guarded operation waits for its guard. -/
def guardOk (md : Region.Mode) (ops : Array Oper) (m : Nat) (o : Oper) : Bool := match o.guard with
  | none => true
  | some (j, _) => match (ops[j]?).bind (·.dst) with
    | none => true
    | some d => (List.range m).all fun q => match ops[q]? with
      | none => false
      | some oq => decide (oq.dst ≠ some d) || waits md o q
/-- What is asked of the region's text: the first m operations are plain, ask for what they use, and the next one asks for all of them. -/
def calmText (md : Region.Mode) (ops : Array Oper) (m : Nat) : Bool :=
  decide (m < ops.size) &&
  ((List.range ops.size).all fun i => match ops[i]? with
    | none => false
    | some o => isPlainOp o.op && guardOk md ops m o && (o.after.all fun e => !Region.binds md e || decide (e.on < i)) && (decide (i ≤ m) || waits md o m) &&
      (decide (m < i) || o.op.operands.all fun x => match x with
        | .tmp d => (List.range m).all fun j => match ops[j]? with
          | none => false
          | some oj => decide (oj.dst ≠ some d) || waits md o j
        | _ => true)) &&
  ((List.range m).all fun i => (List.range (m + 1)).any fun j => decide (i < j) && match ops[j]? with
    | none => false
    | some o => waits md o i)
theorem waits_iff {o : Oper} {j : Nat} : waits md o j = true ↔ ∃ e ∈ o.after, Region.binds md e = true ∧ e.on = j := by
  unfold waits
  rw [Array.any_eq_true']
  simp
structure CalmText (md : Region.Mode) (ops : Array Oper) (m : Nat) : Prop where
  lt : m < ops.size
  plain : ∀ (i : Nat) (o : Oper), ops[i]? = some o → isPlainOp o.op = true ∧ guardOk md ops m o = true
  back : ∀ (i : Nat) (o : Oper), ops[i]? = some o → ∀ e ∈ o.after, Region.binds md e = true → e.on < i
  late : ∀ (i : Nat) (o : Oper), ops[i]? = some o → m < i → waits md o m = true
  data : ∀ (i : Nat) (o : Oper), ops[i]? = some o → i ≤ m → ∀ d : Tmp, Operand.tmp d ∈ o.op.operands → ∀ (j : Nat) (oj : Oper), j < m → ops[j]? = some oj → oj.dst = some d → waits md o j = true
  all : ∀ i : Nat, i < m → ∃ (j : Nat) (o : Oper), i < j ∧ j ≤ m ∧ ops[j]? = some o ∧ waits md o i = true
theorem calmText_is {m : Nat} (h : calmText md ops m = true) : CalmText md ops m := by
  unfold calmText at h
  simp only [Bool.and_eq_true, decide_eq_true_eq, List.all_eq_true, List.mem_range] at h
  obtain ⟨⟨h1, h2⟩, h3⟩ := h
  have sz : ∀ i o, ops[i]? = some o → i < ops.size := fun i o h => (Array.getElem?_eq_some_iff.1 h).1
  refine ⟨h1, fun i o ho => ?_, fun i o ho e he hb => ?_, fun i o ho hi => ?_, fun i o ho hi d hd j oj hj hoj hdj => ?_, fun i hi => ?_⟩
  all_goals try (have := h2 i (sz i o ho); rw [ho] at this; simp only [Bool.and_eq_true] at this; obtain ⟨⟨⟨⟨a1, a2⟩, a3⟩, a4⟩, a5⟩ := this)
  · exact ⟨a1, a2⟩
  · rw [Array.all_eq_true'] at a3
    have := a3 e he
    rw [hb] at this
    simpa using this
  · rcases Bool.or_eq_true_iff.1 a4 with h | h
    · have := of_decide_eq_true h; omega
    · exact h
  · rcases Bool.or_eq_true_iff.1 a5 with h | h
    · have := of_decide_eq_true h; omega
    · rw [Array.all_eq_true'] at h
      have := h _ hd
      simp only [List.all_eq_true, List.mem_range] at this
      have := this j hj
      rw [hoj] at this
      rcases Bool.or_eq_true_iff.1 this with h | h
      · exact absurd hdj (of_decide_eq_true h)
      · exact h
  · have := h3 i hi
    rw [List.any_eq_true] at this
    obtain ⟨j, hj, h4⟩ := this
    rw [Bool.and_eq_true] at h4
    obtain ⟨h5, h6⟩ := h4
    have h5 := of_decide_eq_true h5
    rw [List.mem_range] at hj
    cases ho : ops[j]? with
    | none => rw [ho] at h6; cases h6
    | some o => rw [ho] at h6; exact ⟨j, o, h5, by omega, ho, h6⟩

/-- How many are still to come. -/
def unl (listed : Array Bool) : Nat := listed.toList.count false
theorem unl_set {listed : Array Bool} {i : Nat} (h : listed.getD i true = false) : unl (listed.setIfInBounds i true) + 1 = unl listed := by
  have hi : i < listed.size := by
    rcases Nat.lt_or_ge i listed.size with hl | hg
    · exact hl
    · simp [Array.getD, Nat.not_lt.2 hg] at h
  have hv : listed.toList[i]'(by simpa using hi) = false := by simpa [Array.getD, hi] using h
  unfold unl
  rw [Array.toList_setIfInBounds, List.count_set (by simpa using hi), hv]
  have : 0 < listed.toList.count false := List.count_pos_iff.2 (by rw [← hv]; exact List.getElem_mem _)
  have h2 : (if (false == false) = true then 1 else 0) = 1 := rfl
  have h3 : (if (true == false) = true then 1 else 0) = 0 := rfl
  rw [h2, h3]
  omega
theorem getD_set (listed : Array Bool) (i j : Nat) (b : Bool) : (listed.setIfInBounds i true).getD j b = if i = j ∧ j < listed.size then true else listed.getD j b := by
  by_cases hj : j < listed.size
  · simp [Array.getD, hj, Array.getElem_setIfInBounds]
  · simp [Array.getD, hj]

/-- Where such a region stands, a part of its first m operations being listed. -/
structure CalmAt (md : Region.Mode) (ops : Array Oper) (m : Nat) (aF : Act) (listed : Array Bool) (a : Act) : Prop where
  size : listed.size = ops.size
  tmps : a.tmps.size = aF.tmps.size
  defers : a.defers = aF.defers
  at_ : ∀ d : Tmp, (∀ (j : Nat) (oj : Oper), j < m → ops[j]? = some oj → oj.dst = some d → listed.getD j false = true) → a.tmps.getD d undef = aF.tmps.getD d undef
  down : ∀ (i : Nat) (o : Oper), ops[i]? = some o → listed.getD i false = true → ∀ j, waits md o j = true → listed.getD j false = true
  rest : ∀ i, m ≤ i → listed.getD i false = false
theorem CalmAt.evals {m : Nat} {aF a : Act} {listed : Array Bool} (h : CalmAt md ops m aF listed a) (t : CalmText md ops m) {i : Nat} {o : Oper} (ho : ops[i]? = some o) (hi : i ≤ m)
    (hw : ∀ j, waits md o j = true → listed.getD j false = true) : ∀ x ∈ o.op.operands, a.eval x = aF.eval x := by
  intro x hx
  cases x with
  | tmp d => exact h.at_ d fun j oj hj hoj hd => hw j (t.data i o ho hi d hx j oj hj hoj hd)
  | const v => rfl
  | global g => rfl
  | func f => rfl
theorem ready_waits {listed : Array Bool} {i : Nat} {o : Oper} (ho : ops[i]? = some o) (h : i ∈ Region.ready md ops listed) : ∀ j, waits md o j = true → listed.getD j false = true := by
  obtain ⟨_, o', ho', h2⟩ := mem_ready.1 h
  rw [ho] at ho'
  injection ho' with ho'
  subst ho'
  intro j hj
  obtain ⟨e, he, hb, rfl⟩ := waits_iff.1 hj
  exact h2 e he hb
theorem CalmAt.full {m : Nat} {aF a : Act} {listed : Array Bool} (h : CalmAt md ops m aF listed a) (t : CalmText md ops m) {o : Oper} (ho : ops[m]? = some o)
    (hw : ∀ j, waits md o j = true → listed.getD j false = true) : ∀ k i, i + k = m → 0 < k → listed.getD i false = true := by
  intro k
  induction k using Nat.strongRecOn with
  | ind k ih =>
    intro i hik hk
    obtain ⟨j, oj, h1, h2, h3, h4⟩ := t.all i (by omega)
    by_cases e : j = m
    · subst e
      rw [ho] at h3
      injection h3 with h3
      subst h3
      exact hw i h4
    · exact h.down j oj h3 (ih (m - j) (by omega) j (by omega) (by omega)) i h4
theorem tmps_at {a b : Act} (h1 : a.tmps.size = b.tmps.size) {d : Tmp} (h : a.tmps.getD d undef = b.tmps.getD d undef) : a.tmps[d]? = b.tmps[d]? := by
  by_cases c : d < b.tmps.size
  · have c' : d < a.tmps.size := by rw [h1]; exact c
    rw [Array.getElem?_eq_getElem c, Array.getElem?_eq_getElem c']
    simpa [Array.getD, c, c'] using h
  · have c' : ¬ d < a.tmps.size := by rw [h1]; exact c
    rw [Array.getElem?_eq_none (Nat.not_lt.1 c), Array.getElem?_eq_none (Nat.not_lt.1 c')]
theorem CalmAt.wants {m : Nat} {aF a : Act} {listed : Array Bool} (h : CalmAt md ops m aF listed a) {o : Oper} (hg : guardOk md ops m o = true) (hw : ∀ j, waits md o j = true → listed.getD j false = true) :
    Region.wanted o (yielded ops a.tmps) = Region.wanted o (yielded ops aF.tmps) := by
  unfold Region.wanted
  unfold guardOk at hg
  cases ho : o.guard with
  | none => rfl
  | some p =>
    obtain ⟨j, b⟩ := p
    rw [ho] at hg
    dsimp only at hg ⊢
    have : yielded ops a.tmps j = yielded ops aF.tmps j := by
      unfold yielded
      cases hd : (ops[j]?).bind (·.dst) with
      | none => rfl
      | some d =>
        rw [hd] at hg
        dsimp only [Option.bind_some]
        rw [tmps_at h.tmps (h.at_ d fun q oq hq hoq hdq => by
          simp only [List.all_eq_true, List.mem_range] at hg
          have := hg q hq
          rw [hoq] at this
          rcases Bool.or_eq_true_iff.1 this with c | c
          · exact absurd hdq (of_decide_eq_true c)
          · exact hw q c)]
    rw [this]
theorem act_ext {a b : Act} (h1 : a.tmps.size = b.tmps.size) (h2 : a.defers = b.defers) (h3 : ∀ d : Tmp, a.tmps.getD d undef = b.tmps.getD d undef) : a = b := by
  obtain ⟨ta, da⟩ := a
  obtain ⟨tb, db⟩ := b
  dsimp only at h1 h2 h3
  subst h2
  have : ta = tb := Array.ext h1 fun i hi hj => by
    have := h3 i
    simpa [Array.getD, hi, hj] using this
  rw [this]
/-- All of the first operations, and the loud one, are listed. -/
def listedTo (ops : Array Oper) (m : Nat) : Array Bool := ((List.range ops.size).map fun i => decide (i ≤ m)).toArray

theorem wpAnyIn_calm {m : Nat} {aF : Act} {C : World → Prop} (t : CalmText md ops m)
    (hrun : ∀ (i : Nat) (o : Oper), i < m → ops[i]? = some o → ∀ w, C w → wpOpIn F n P ops (fun _ _ _ => False) i (fun a' w' => a' = aF ∧ C w') aF w)
    (hlast : ∀ fuel, ops.size ≤ fuel + m + 1 → ∀ w, C w → wpOpIn F n P ops Q m (wpAnyIn F n P md ops Q fuel (listedTo ops m)) aF w) :
    ∀ (fuel : Nat) (listed : Array Bool) (a : Act) (w : World), CalmAt md ops m aF listed a → unl listed ≤ fuel → C w → wpAnyIn F n P md ops Q fuel listed a w := by
  intro fuel
  induction fuel with
  | zero =>
    intro listed a w hA hu _
    exfalso
    have h0 := hA.rest m (Nat.le_refl _)
    have hlt : m < listed.size := by rw [hA.size]; exact t.lt
    have : 0 < unl listed := List.count_pos_iff.2 (by
      have hv : listed.toList[m]'(by simpa using hlt) = false := by simpa [Array.getD, hlt] using h0
      rw [← hv]
      exact List.getElem_mem _)
    omega
  | succ fuel ih =>
    intro listed a w hA hu hC
    have hlt : m < listed.size := by rw [hA.size]; exact t.lt
    refine ⟨fun hr => ?_, fun i hi => ?_⟩
    · -- the least one that is not listed is ready
      exfalso
      have ex : ∀ k, (∀ i, i < k → listed.getD i false = true) ∨ ∃ i, i < k ∧ listed.getD i false = false ∧ ∀ j, j < i → listed.getD j false = true := by
        intro k
        induction k with
        | zero => exact .inl fun i hi => absurd hi (by omega)
        | succ k ih =>
          rcases ih with h | ⟨i, h1, h2, h3⟩
          · cases hk : listed.getD k false
            · exact .inr ⟨k, by omega, hk, h⟩
            · refine .inl fun i hi => ?_
              by_cases e : i = k
              · subst e; exact hk
              · exact h i (by omega)
          · exact .inr ⟨i, by omega, h2, h3⟩
      rcases ex (m + 1) with h | ⟨i, h1, h2, h3⟩
      · have := h m (by omega)
        rw [hA.rest m (Nat.le_refl _)] at this
        cases this
      · have hil : i < ops.size := by have := t.lt; omega
        have : i ∈ Region.ready md ops listed := mem_ready.2 ⟨by simpa [Array.getD, show i < listed.size by rw [hA.size]; exact hil] using h2, ops[i], Array.getElem?_eq_getElem hil, fun e he hb => h3 _ (t.back i _ (Array.getElem?_eq_getElem hil) e he hb)⟩
        rw [hr] at this
        cases this
    · obtain ⟨hun, o, ho, _⟩ := mem_ready.1 hi
      have hw := ready_waits ho hi
      have him : i ≤ m := by
        rcases Nat.lt_or_ge m i with h | h
        · have := hw m (t.late i o ho h)
          rw [hA.rest m (Nat.le_refl _)] at this
          cases this
        · exact h
      have hil : i < listed.size := by rw [hA.size]; exact (Array.getElem?_eq_some_iff.1 ho).1
      have hev := hA.evals t ho him hw
      have hwant : Region.wanted o (yielded ops a.tmps) = Region.wanted o (yielded ops aF.tmps) := hA.wants (t.plain i o ho).2 hw
      by_cases e : i = m
      · subst e
        have hall := hA.full t ho hw
        have ea : a = aF := act_ext hA.tmps hA.defers fun d => hA.at_ d fun j oj hj _ _ => hall (i - j) j (by omega) (by omega)
        subst ea
        have el : listed.setIfInBounds i true = listedTo ops i := by
          refine Array.ext (by simp [listedTo, hA.size]) fun j h1 h2 => ?_
          have hjl : j < listed.size := by simpa using h1
          have e1 : (listed.setIfInBounds i true)[j] = (listed.setIfInBounds i true).getD j false := by unfold Array.getD; rw [dif_pos h1]; rfl
          rw [e1, getD_set]
          have e2 : (listedTo ops i)[j] = decide (j ≤ i) := by simp [listedTo]
          rw [e2]
          by_cases c1 : i = j
          · subst c1; simp [hil]
          · by_cases c2 : j < i
            · rw [if_neg (by omega), hall (i - j) j (by omega) (by omega)]; simp; omega
            · rw [if_neg (by omega), hA.rest j (by omega)]; simp; omega
        have hf : ops.size ≤ fuel + i + 1 := by
          have hc : unl listed = ops.size - i := by
            have hL : listed.toList = List.replicate i true ++ List.replicate (ops.size - i) false := by
              refine List.ext_getElem (by have := hA.size; simp; omega) fun j h1 h2 => ?_
              have hj : j < listed.size := by simpa using h1
              have e1 : listed.toList[j] = listed.getD j false := by simp [Array.getD, hj]
              rw [e1, List.getElem_append]
              by_cases c : j < i
              · rw [dif_pos (by simpa using c), hall (i - j) j (by omega) (by omega)]; simp
              · rw [dif_neg (by simpa using c), hA.rest j (by omega)]; simp
            unfold unl
            rw [hL]
            simp [List.count_replicate]
          omega
        rw [el]
        exact hlast fuel hf w hC
      · refine wpOpIn_at ho (t.plain i o ho).1 hev hwant (hrun i o (by omega) ho w hC) fun v w' hv hC' => ih _ _ _ ?_ (by have := unl_set hun; omega) hC'
        refine ⟨by simp [hA.size], ?_, ?_, fun d hd => ?_, fun k ok hk hl j hj => ?_, fun k hk => ?_⟩
        · unfold Act.put; cases o.dst <;> simp [hA.tmps]
        · unfold Act.put; cases o.dst <;> exact hA.defers
        · have old : (∀ d0, o.dst = some d0 → d0 ≠ d) → a.tmps.getD d undef = aF.tmps.getD d undef := fun hne => hA.at_ d fun j oj hj hoj hdj => by
            have := hd j oj hj hoj hdj
            rw [getD_set] at this
            by_cases c : i = j ∧ j < listed.size
            · obtain ⟨rfl, _⟩ := c
              rw [ho] at hoj
              injection hoj with hoj
              subst hoj
              exact absurd rfl (hne d hdj)
            · rw [if_neg c] at this
              exact this
          cases hdst : o.dst with
          | none => exact old (fun d0 h => by rw [hdst] at h; cases h)
          | some d0 =>
            rw [hdst] at hv
            have hv2 : aF.tmps.setIfInBounds d0 v = aF.tmps := congrArg Act.tmps hv
            show (a.tmps.setIfInBounds d0 v).getD d undef = _
            by_cases c : d0 = d
            · subst c
              rw [← hv2]
              have hs := hA.tmps
              by_cases cl : d0 < aF.tmps.size
              · simp [Array.getD, cl, show d0 < a.tmps.size by rw [hs]; exact cl]
              · simp [Array.getD, cl, show ¬ d0 < a.tmps.size by rw [hs]; exact cl]
            · rw [← old (fun d1 h => by rw [hdst] at h; injection h with h; exact fun e => c (h.trans e))]
              by_cases cl : d < a.tmps.size
              · simp [Array.getD, cl, c]
              · simp [Array.getD, cl]
        · rw [getD_set] at hl ⊢
          by_cases c : i = j ∧ j < listed.size
          · rw [if_pos c]
          · rw [if_neg c]
            by_cases c2 : i = k ∧ k < listed.size
            · obtain ⟨rfl, _⟩ := c2
              rw [ho] at hk
              injection hk with hk
              subst hk
              exact hw j hj
            · rw [if_neg c2] at hl
              exact hA.down k ok hk hl j hj
        · rw [getD_set, if_neg (by omega)]
          exact hA.rest k hk

/-- Each of these goes through at aF, in every world of the class, and leaves aF as it is. -/
def CalmRuns (F : Fence) (n : Nat) (P : Program) (ops : Array Oper) (aF : Act) (C : World → Prop) : Nat → List Oper → Prop
  | _, [] => True
  | i, o :: os => (∀ w, C w → if Region.wanted o (yielded ops aF.tmps) = true then o.wpIn F n P aF w (fun a' w' => a' = aF ∧ C w') (fun _ _ _ => False) else (∀ f, o.about P w aF.eval = some f → F.fn f) ∧ aF.put o.dst undef = aF ∧ C w) ∧ CalmRuns F n P ops aF C (i + 1) os
theorem calmRuns_at {aF : Act} {C : World → Prop} : ∀ (os : List Oper) (k : Nat), CalmRuns F n P ops aF C k os → ∀ (i : Nat) (o : Oper), os[i]? = some o → ops[i + k]? = some o → ∀ w, C w → wpOpIn F n P ops (fun _ _ _ => False) (i + k) (fun a' w' => a' = aF ∧ C w') aF w
  | [], _, _, i, o, h, _ => by simp at h
  | o' :: os, k, hr, 0, o, h, h2 => by
    simp at h
    subst h
    intro w hC
    unfold wpOpIn
    rw [h2]
    exact hr.1 w hC
  | o' :: os, k, hr, i + 1, o, h, h2 => by
    have := calmRuns_at os (k + 1) hr.2 i o (by simpa using h) (by rw [show i + (k + 1) = i + 1 + k by omega]; exact h2)
    rw [show i + (k + 1) = i + 1 + k by omega] at this
    exact this
def firstDsts (ops : Array Oper) (m : Nat) : List Tmp := (ops.toList.take m).filterMap (·.dst)
theorem foldl_put_size (l : List (Tmp × Value)) : ∀ t : Array Value, (l.foldl (fun t p => t.setIfInBounds p.1 p.2) t).size = t.size := by
  induction l with
  | nil => intro t; rfl
  | cons p l ih => intro t; rw [List.foldl_cons, ih]; simp
theorem foldl_put_other (l : List (Tmp × Value)) (d : Tmp) (h : ∀ p ∈ l, p.1 ≠ d) : ∀ t : Array Value, (l.foldl (fun t p => t.setIfInBounds p.1 p.2) t).getD d undef = t.getD d undef := by
  induction l with
  | nil => intro t; rfl
  | cons p l ih =>
    intro t
    rw [List.foldl_cons, ih (fun q hq => h q (List.mem_cons_of_mem _ hq))]
    have hp := h p List.mem_cons_self
    by_cases cl : d < t.size
    · simp [Array.getD, cl, hp]
    · simp [Array.getD, cl]

theorem wpIn_region_calm {id : Nat} {a0 : Act} {w : World} (m : Nat) (vals : List Value) (aF : Act) (C : World → Prop) (hm : P.follows .mixedOrders = true) (htext : calmText .any ops m = true)
    (haF : aF = { a0 with tmps := ((firstDsts ops m).zip vals).foldl (fun t p => t.setIfInBounds p.1 p.2) a0.tmps }) (hC : C w.drew)
    (hrun : CalmRuns F n P ops aF C 0 (ops.toList.take m))
    (hlast : ∀ fuel, ops.size ≤ fuel + m + 1 → ∀ w, C w → wpOpIn F n P ops Q m (wpAnyIn F n P .any ops Q fuel (listedTo ops m)) aF w) : (Code.region id ops true).wpIn F n P Q a0 w := by
  refine wpIn_region_any hm ?_
  have none : ∀ i, (Array.replicate ops.size false).getD i false = false := fun i => by
    by_cases h : i < ops.size
    · simp [Array.getD, h]
    · simp [Array.getD, h]
  refine wpAnyIn_calm (calmText_is htext) (fun i o hi ho => calmRuns_at _ 0 hrun i o (by rw [List.getElem?_take, if_pos hi]; simpa using ho) ho) hlast _ _ _ _ ⟨by simp, ?_, ?_, fun d hd => ?_, fun i o _ hl => ?_, fun i _ => none i⟩ ?_ hC
  · rw [haF]; exact (foldl_put_size _ _).symm
  · rw [haF]
  · rw [haF]
    refine (foldl_put_other _ d (fun p hp e => ?_) _).symm
    have h1 := (List.of_mem_zip hp).1
    unfold firstDsts at h1
    rw [List.mem_filterMap] at h1
    obtain ⟨o, ho, hdst⟩ := h1
    obtain ⟨j, hj, hjo⟩ := List.getElem_of_mem ho
    have hjm : j < m := by rw [List.length_take] at hj; omega
    have hjo2 : ops[j]? = some o := by
      rw [List.getElem_take] at hjo
      have hl : j < ops.size := by rw [List.length_take] at hj; simp at hj; omega
      rw [Array.getElem?_eq_getElem hl, ← hjo]
      simp
    have := hd j o hjm hjo2 (by rw [hdst, e])
    rw [none j] at this
    cases this
  · rw [none i] at hl
    cases hl
  · unfold unl
    simp
end
end Go.Proofs.YteneadimchhhhaaGreatDoor
