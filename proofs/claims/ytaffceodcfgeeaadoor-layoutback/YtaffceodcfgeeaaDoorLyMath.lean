/- Plain mathematics of layouts: no program in sight. -/
namespace Go.Proofs.YtaffceodcfgeeaaDoor.LM

/-- Places rise from lo on, each above the one ahead, and stay below K. -/
def rise (lo K : Int) : List Int → Bool
  | [] => true
  | p :: t => decide (lo ≤ p) && (decide (p < K) && rise (p + 1) K t)
theorem rise_low (lo K p : Int) (t : List Int) (h : p < lo) : rise lo K (p :: t) = false := by simp [rise]; omega
theorem rise_high (lo K p : Int) (t : List Int) (h : K ≤ p) : rise lo K (p :: t) = false := by simp [rise]; omega
theorem rise_next (lo K p : Int) (t : List Int) (h1 : lo ≤ p) (h2 : p < K) : rise lo K (p :: t) = rise (p + 1) K t := by simp [rise, h1, h2]
theorem rise_all (xs : List Int) : ∀ lo K, rise lo K xs = true → xs.Pairwise (· < ·) ∧ ∀ p ∈ xs, lo ≤ p ∧ p < K := by
  induction xs with
  | nil => intro lo K _; simp
  | cons p t ih =>
    intro lo K h
    simp [rise] at h
    obtain ⟨h1, h2, h3⟩ := h
    obtain ⟨i1, i2⟩ := ih _ _ h3
    refine ⟨List.pairwise_cons.2 ⟨fun q hq => by have := (i2 q hq).1; omega, i1⟩, fun q hq => ?_⟩
    rcases List.mem_cons.1 hq with rfl | hq
    · exact ⟨h1, h2⟩
    · have := i2 q hq; omega
theorem rise_of (xs : List Int) : ∀ lo K, xs.Pairwise (· < ·) → (∀ p ∈ xs, lo ≤ p ∧ p < K) → rise lo K xs = true := by
  induction xs with
  | nil => intro lo K _ _; rfl
  | cons p t ih =>
    intro lo K h1 h2
    obtain ⟨a, b⟩ := List.pairwise_cons.1 h1
    have hp := h2 p List.mem_cons_self
    rw [rise_next _ _ _ _ hp.1 hp.2]
    exact ih _ _ b fun q hq => ⟨by have := a q hq; omega, (h2 q (List.mem_cons_of_mem _ hq)).2⟩
theorem rise_len (xs : List Int) : ∀ lo K, rise lo K xs = true → lo ≤ K → (xs.length : Int) ≤ K - lo := by
  induction xs with
  | nil => intro lo K _ h; simp; omega
  | cons p t ih =>
    intro lo K h hl
    simp [rise] at h
    obtain ⟨h1, h2, h3⟩ := h
    have := ih _ _ h3 (by omega)
    simp only [List.length_cons]
    omega

/-- Fixed and Record may be. -/
def ends (F R : Int) : Bool := decide (0 ≤ F ∧ F ≤ 64 ∧ 0 ≤ R ∧ R ≤ 64 ∧ ¬ (F = 0 ∧ R = 0))
/-- A right layout. -/
def right (F R : Int) (xs ys : List Int) : Bool := ends F R && (rise 0 F xs && rise 0 R ys)
theorem ends_iff (F R : Int) : ends F R = true ↔ 0 ≤ F ∧ F ≤ 64 ∧ 0 ≤ R ∧ R ≤ 64 ∧ ¬ (F = 0 ∧ R = 0) := by unfold ends; exact decide_eq_true_iff
theorem right_no {F R : Int} {xs ys : List Int} (h : ¬ (0 ≤ F ∧ F ≤ 64 ∧ 0 ≤ R ∧ R ≤ 64 ∧ ¬ (F = 0 ∧ R = 0))) : right F R xs ys = false := by
  have : ends F R = false := by rw [Bool.eq_false_iff]; exact fun e => h ((ends_iff F R).1 e)
  simp [right, this]
theorem right_yes {F R : Int} {xs ys : List Int} (h : 0 ≤ F ∧ F ≤ 64 ∧ 0 ≤ R ∧ R ≤ 64 ∧ ¬ (F = 0 ∧ R = 0)) : right F R xs ys = (rise 0 F xs && rise 0 R ys) := by
  have : ends F R = true := (ends_iff F R).2 h
  simp [right, this]
theorem right_parts {F R : Int} {xs ys : List Int} (h : right F R xs ys = true) : (0 ≤ F ∧ F ≤ 64 ∧ 0 ≤ R ∧ R ≤ 64 ∧ ¬ (F = 0 ∧ R = 0)) ∧ rise 0 F xs = true ∧ rise 0 R ys = true := by
  simp [right] at h
  exact ⟨(ends_iff F R).1 h.1, h.2.1, h.2.2⟩

/-- The count may be. -/
def countOk (R C : Int) : Bool := decide (0 ≤ C ∧ C ≤ 1024 ∧ (R = 0 → C = 0))
theorem countOk_iff (R C : Int) : countOk R C = true ↔ 0 ≤ C ∧ C ≤ 1024 ∧ (R = 0 → C = 0) := by unfold countOk; exact decide_eq_true_iff
/-- Size's error, and what it tells. -/
def code (F R : Int) (xs ys : List Int) (C : Int) : Int := if right F R xs ys = true then (if countOk R C = true then (if 8192 < F + C * R + 1 then 10 else 0) else 3) else 2
def size (F R : Int) (xs ys : List Int) (C : Int) : Int := if code F R xs ys C = 0 then F + C * R else 0
theorem code_wrong {F R : Int} {xs ys : List Int} {C : Int} (h : right F R xs ys = false) : code F R xs ys C = 2 := by simp [code, h]
theorem code_count {F R : Int} {xs ys : List Int} {C : Int} (h : right F R xs ys = true) (h2 : ¬ (0 ≤ C ∧ C ≤ 1024 ∧ (R = 0 → C = 0))) : code F R xs ys C = 3 := by
  have : countOk R C = false := by rw [Bool.eq_false_iff]; exact fun e => h2 ((countOk_iff R C).1 e)
  simp [code, h, this]
theorem code_big {F R : Int} {xs ys : List Int} {C : Int} (h : right F R xs ys = true) (h2 : 0 ≤ C ∧ C ≤ 1024 ∧ (R = 0 → C = 0)) (h3 : 8192 < F + C * R + 1) : code F R xs ys C = 10 := by
  simp only [code, h, (countOk_iff R C).2 h2, if_true, if_pos h3]
theorem code_ok {F R : Int} {xs ys : List Int} {C : Int} (h : right F R xs ys = true) (h2 : 0 ≤ C ∧ C ≤ 1024 ∧ (R = 0 → C = 0)) (h3 : ¬ 8192 < F + C * R + 1) : code F R xs ys C = 0 := by
  simp only [code, h, (countOk_iff R C).2 h2, if_true, if_neg h3]
theorem size_no {F R : Int} {xs ys : List Int} {C : Int} (h : code F R xs ys C ≠ 0) : size F R xs ys C = 0 := by simp [size, h]
theorem size_ok {F R : Int} {xs ys : List Int} {C : Int} (h : code F R xs ys C = 0) : size F R xs ys C = F + C * R := by simp [size, h]
theorem code_zero {F R : Int} {xs ys : List Int} {C : Int} (h : code F R xs ys C = 0) : right F R xs ys = true ∧ (0 ≤ C ∧ C ≤ 1024 ∧ (R = 0 → C = 0)) ∧ F + C * R + 1 ≤ 8192 := by
  by_cases hr : right F R xs ys = true
  · by_cases hc : countOk R C = true
    · by_cases hb : 8192 < F + C * R + 1
      · rw [code_big hr ((countOk_iff R C).1 hc) hb] at h; omega
      · exact ⟨hr, (countOk_iff R C).1 hc, by omega⟩
    · rw [code_count hr (fun e => hc ((countOk_iff R C).2 e))] at h; omega
  · rw [code_wrong (by simpa using hr)] at h; omega
theorem code_cases (F R : Int) (xs ys : List Int) (C : Int) : code F R xs ys C = 0 ∨ code F R xs ys C = 2 ∨ code F R xs ys C = 3 ∨ code F R xs ys C = 10 := by
  unfold code
  split
  · split
    · split <;> simp
    · simp
  · simp

/-- The word at a place is a reference. -/
def has (xs : List Int) (x : Int) : Bool := xs.contains x
def isRef (F R : Int) (xs ys : List Int) (p : Int) : Bool := if p < F then has xs p else has ys ((p - F) % R)
theorem has_iff (xs : List Int) (x : Int) : has xs x = true ↔ x ∈ xs := by simp [has]

/-- The references of so many records. -/
def recs (F R : Int) (ys : List Int) : Nat → List Int
  | 0 => []
  | j + 1 => recs F R ys j ++ ys.map fun p => F + j * R + p
def slots (F R : Int) (xs ys : List Int) (c : Nat) : List Int := xs ++ recs F R ys c
theorem slots_zero (F R : Int) (xs ys : List Int) : slots F R xs ys 0 = xs := by simp [slots, recs]
theorem slots_succ (F R : Int) (xs ys : List Int) (c : Nat) : slots F R xs ys (c + 1) = slots F R xs ys c ++ ys.map fun p => F + c * R + p := by simp [slots, recs]
theorem recs_len (F R : Int) (ys : List Int) (c : Nat) : (recs F R ys c).length = c * ys.length := by
  induction c with
  | zero => simp [recs]
  | succ j ih => simp [recs, ih, Nat.add_mul]
theorem slots_len (F R : Int) (xs ys : List Int) (c : Nat) : (slots F R xs ys c).length = xs.length + c * ys.length := by simp [slots, recs_len]
theorem mem_recs (F R : Int) (ys : List Int) (x : Int) : ∀ c : Nat, x ∈ recs F R ys c ↔ ∃ j : Nat, j < c ∧ ∃ p ∈ ys, x = F + j * R + p := by
  intro c
  induction c with
  | zero => simp [recs]
  | succ c ih =>
    simp only [recs, List.mem_append, ih, List.mem_map]
    constructor
    · rintro (⟨j, hj, p, hp, e⟩ | ⟨p, hp, e⟩)
      · exact ⟨j, by omega, p, hp, e⟩
      · exact ⟨c, by omega, p, hp, e.symm⟩
    · rintro ⟨j, hj, p, hp, e⟩
      by_cases hc : j = c
      · subst hc; exact .inr ⟨p, hp, e.symm⟩
      · exact .inl ⟨j, by omega, p, hp, e⟩

/-- Lists that rise and have the same are the same. -/
theorem sorted_eq : ∀ (a b : List Int), a.Pairwise (· < ·) → b.Pairwise (· < ·) → (∀ x, x ∈ a ↔ x ∈ b) → a = b := by
  intro a
  induction a with
  | nil =>
    intro b _ _ h
    cases b with
    | nil => rfl
    | cons y t => exact absurd ((h y).2 List.mem_cons_self) (by simp)
  | cons x s ih =>
    intro b ha hb h
    cases b with
    | nil => exact absurd ((h x).1 List.mem_cons_self) (by simp)
    | cons y t =>
      obtain ⟨a1, a2⟩ := List.pairwise_cons.1 ha
      obtain ⟨b1, b2⟩ := List.pairwise_cons.1 hb
      have hxy : x = y := by
        rcases List.mem_cons.1 ((h x).1 List.mem_cons_self) with e | hx
        · exact e
        · rcases List.mem_cons.1 ((h y).2 List.mem_cons_self) with e | hy
          · exact e.symm
          · have := b1 x hx; have := a1 y hy; omega
      subst hxy
      congr 1
      refine ih t a2 b2 fun z => ⟨fun hz => ?_, fun hz => ?_⟩
      · rcases List.mem_cons.1 ((h z).1 (List.mem_cons_of_mem _ hz)) with rfl | hz'
        · have := a1 z hz; omega
        · exact hz'
      · rcases List.mem_cons.1 ((h z).2 (List.mem_cons_of_mem _ hz)) with rfl | hz'
        · have := b1 z hz; omega
        · exact hz'

/-- The numbers below n of which f is so. -/
def picks (f : Int → Bool) : Nat → List Int
  | 0 => []
  | n + 1 => if f n = true then picks f n ++ [(n : Int)] else picks f n
theorem picks_yes {f : Int → Bool} {n : Nat} (h : f n = true) : picks f (n + 1) = picks f n ++ [(n : Int)] := by simp [picks, h]
theorem picks_no {f : Int → Bool} {n : Nat} (h : f n = false) : picks f (n + 1) = picks f n := by simp [picks, h]
theorem picks_len (f : Int → Bool) (n : Nat) : (picks f n).length ≤ n := by
  induction n with
  | zero => simp [picks]
  | succ n ih =>
    cases h : f n
    · rw [picks_no h]; omega
    · rw [picks_yes h, List.length_append]; simp; omega
theorem mem_picks (f : Int → Bool) (x : Int) : ∀ n : Nat, x ∈ picks f n ↔ 0 ≤ x ∧ x < n ∧ f x = true := by
  intro n
  induction n with
  | zero => simp [picks]; omega
  | succ n ih =>
    cases h : f n
    · rw [picks_no h, ih]
      constructor
      · rintro ⟨a, b, c⟩; exact ⟨a, by omega, c⟩
      · rintro ⟨a, b, c⟩
        refine ⟨a, ?_, c⟩
        by_cases e : x = n
        · subst e; rw [h] at c; cases c
        · omega
    · rw [picks_yes h, List.mem_append, ih, List.mem_singleton]
      constructor
      · rintro (⟨a, b, c⟩ | rfl)
        · exact ⟨a, by omega, c⟩
        · exact ⟨by omega, by omega, h⟩
      · rintro ⟨a, b, c⟩
        by_cases e : x = n
        · exact .inr e
        · exact .inl ⟨a, by omega, c⟩
theorem picks_sorted (f : Int → Bool) (n : Nat) : (picks f n).Pairwise (· < ·) := by
  induction n with
  | zero => simp [picks]
  | succ n ih =>
    cases h : f n
    · rw [picks_no h]; exact ih
    · rw [picks_yes h, List.pairwise_append]
      refine ⟨ih, by simp, fun a ha b hb => ?_⟩
      rw [List.mem_singleton] at hb
      subst hb
      exact ((mem_picks f a n).1 ha).2.1
theorem picks_congr {f g : Int → Bool} {n : Nat} (h : ∀ x : Int, 0 ≤ x → x < n → f x = g x) : picks f n = picks g n :=
  sorted_eq _ _ (picks_sorted f n) (picks_sorted g n) fun x => by
    rw [mem_picks, mem_picks]
    constructor
    · rintro ⟨a, b, c⟩; exact ⟨a, b, by rw [← h x a b]; exact c⟩
    · rintro ⟨a, b, c⟩; exact ⟨a, b, by rw [h x a b]; exact c⟩

theorem mul_step (j c : Nat) (R : Int) (hR : 0 ≤ R) (h : j < c) : (j : Int) * R + R ≤ c * R := by
  have h1 : ((j : Int) + 1) * R ≤ (c : Int) * R := Int.mul_le_mul_of_nonneg_right (by omega) hR
  have h2 : ((j : Int) + 1) * R = (j : Int) * R + R := by rw [Int.add_mul, Int.one_mul]
  omega
theorem mul_pos' (c : Nat) (R : Int) (hR : 0 ≤ R) : 0 ≤ (c : Int) * R := Int.mul_nonneg (by omega) hR

theorem recs_sorted (F R : Int) (ys : List Int) (h : rise 0 R ys = true) (hR : 0 ≤ R) : ∀ c : Nat, (recs F R ys c).Pairwise (· < ·) := by
  obtain ⟨s1, s2⟩ := rise_all ys 0 R h
  intro c
  induction c with
  | zero => simp [recs]
  | succ c ih =>
    simp only [recs]
    rw [List.pairwise_append]
    refine ⟨ih, List.pairwise_map.2 (s1.imp fun {a b} hab => by omega), fun a ha b hb => ?_⟩
    obtain ⟨j, hj, p, hp, rfl⟩ := (mem_recs F R ys a c).1 ha
    obtain ⟨q, hq, rfl⟩ := List.mem_map.1 hb
    have := mul_step j c R hR hj
    have := s2 p hp
    have := s2 q hq
    omega

theorem isRef_low {F R : Int} {xs ys : List Int} {p : Int} (h : p < F) : isRef F R xs ys p = has xs p := by simp [isRef, h]
theorem isRef_high {F R : Int} {xs ys : List Int} {p : Int} (h : ¬ p < F) : isRef F R xs ys p = has ys ((p - F) % R) := by simp [isRef, h]

/-- What is told is just what is told one by one. -/
theorem slots_picks (F R : Int) (xs ys : List Int) (c n : Nat) (h : right F R xs ys = true) (hc : R = 0 → c = 0) (hn : (n : Int) = F + c * R) : slots F R xs ys c = picks (isRef F R xs ys) n := by
  obtain ⟨⟨h1, h2, h3, h4, h5⟩, r1, r2⟩ := right_parts h
  obtain ⟨s1, s2⟩ := rise_all xs 0 F r1
  obtain ⟨t1, t2⟩ := rise_all ys 0 R r2
  refine sorted_eq _ _ ?_ (picks_sorted _ _) fun x => ?_
  · unfold slots
    rw [List.pairwise_append]
    refine ⟨s1, recs_sorted F R ys r2 h3 c, fun a ha b hb => ?_⟩
    obtain ⟨j, hj, p, hp, rfl⟩ := (mem_recs F R ys b c).1 hb
    have := s2 a ha
    have := t2 p hp
    have := mul_pos' j R h3
    omega
  · rw [mem_picks, slots, List.mem_append, mem_recs]
    have hcR := mul_pos' c R h3
    constructor
    · rintro (hx | ⟨j, hj, p, hp, rfl⟩)
      · have := s2 x hx
        exact ⟨this.1, by omega, by rw [isRef_low this.2, has_iff]; exact hx⟩
      · have a1 := t2 p hp
        have a2 := mul_pos' j R h3
        have a3 := mul_step j c R h3 hj
        refine ⟨by omega, by omega, ?_⟩
        rw [isRef_high (by omega), has_iff]
        have e : F + (j : Int) * R + p - F = p + j * R := by omega
        rw [e, Int.add_mul_emod_self_right, Int.emod_eq_of_lt a1.1 a1.2]
        exact hp
    · rintro ⟨a, b, hr⟩
      by_cases hl : x < F
      · rw [isRef_low hl, has_iff] at hr
        exact .inl hr
      · rw [isRef_high hl, has_iff] at hr
        have hR0 : R ≠ 0 := by
          intro e
          have := hc e
          subst this
          simp at hn
          omega
        have hRp : 0 < R := by omega
        refine .inr ⟨((x - F) / R).toNat, ?_, (x - F) % R, hr, ?_⟩
        · have hlt : (x - F) / R < c := Int.ediv_lt_of_lt_mul hRp (by omega)
          have hge : 0 ≤ (x - F) / R := Int.ediv_nonneg (by omega) (by omega)
          omega
        · have hge : 0 ≤ (x - F) / R := Int.ediv_nonneg (by omega) (by omega)
          rw [Int.toNat_of_nonneg hge]
          have := Int.mul_ediv_add_emod (x - F) R
          rw [Int.mul_comm ((x - F) / R) R]
          omega
end Go.Proofs.YtaffceodcfgeeaaDoor.LM
