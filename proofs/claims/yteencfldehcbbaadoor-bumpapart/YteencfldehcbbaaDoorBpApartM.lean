/- Plain mathematics of BumpApart: pieces never share a word. -/
import Derived.Test.YteencfldehcbbaaDoorBpFewM
namespace Go.Proofs.YteencfldehcbbaaDoor
open Go.RowKit Go.Sort BP
set_option linter.unusedVariables false

def usedS (K : Nat) (S : Sp) (q : Nat) : Prop := ∃ x ∈ S.parts, (x.1 ≤ q / K ∧ q / K < x.1 + x.2) ∧ (x = S.pr → q < x.1 * K + S.fl)
def Us (K : Nat) (D : Dt) (q : Nat) : Prop := usedS K D.S q ∨ usedS K D.T q
theorem usedS.own {C K o q : Nat} {own : Nat → Nat} {S : Sp} (h : usedS K S q) (hG : BP.Good C K o own S) : q / K ∈ chunks S.parts ∧ own (q / K) = o ∧ q / K < C := by
  obtain ⟨x, hx, h1, _⟩ := h
  have hm := cs_sub hx (cs_mem.2 h1)
  exact ⟨hm, (hG.has _ hm).2, (hG.has _ hm).1⟩
theorem tkWd_at (wd : Nat → Nat) (K p k q : Nat) (hK : 1 ≤ K) (h : ¬ (p ≤ q / K ∧ q / K < p + k)) : tkWd wd K p k q = wd q := by
  unfold tkWd
  rw [if_neg]
  rintro ⟨h1, h2⟩
  exact h ⟨(Nat.le_div_iff_mul_le (by omega)).2 h1, (Nat.div_lt_iff_lt_mul (by omega)).2 h2⟩
theorem need_ge {K n : Nat} (hK : 1 ≤ K) (hn : 1 ≤ n) : n ≤ need K n * K := by
  unfold need
  have := Nat.div_add_mod (n - 1) K
  have := Nat.mod_lt (n - 1) (show K > 0 by omega)
  rw [Nat.add_mul, Nat.one_mul, Nat.mul_comm]
  omega
theorem div_in {K p k j : Nat} (hK : 1 ≤ K) (h : j < k * K) : p ≤ (p * K + j) / K ∧ (p * K + j) / K < p + k := by
  refine ⟨(Nat.le_div_iff_mul_le (by omega)).2 (by omega), (Nat.div_lt_iff_lt_mul (by omega)).2 ?_⟩
  rw [Nat.add_mul]
  omega
theorem div_at {K f j : Nat} (h : j < K) : (f * K + j) / K = f := by
  rw [Nat.add_comm, Nat.add_mul_div_right _ _ (by omega), Nat.div_eq_of_lt h, Nat.zero_add]
structure Piece (C K o o' : Nat) (D D' : Dt) (a n : Nat) : Prop where
  new : ∀ j, j < n → ¬ Us K D (a + j)
  got : ∀ j, j < n → usedS K D'.S (a + j)
  keep : ∀ q, Us K D q → Us K D' q
  wd : ∀ q, Us K D q → D'.wd q = D.wd q
  bnd : a + n ≤ C * K
  one : n ≤ K → a / K = (a + n - 1) / K
theorem alloc_piece {C K o o' n : Nat} {D : Dt} (hK : 1 ≤ K) (h : Good2 C K o o' D) (hn : 1 ≤ n) (hE : alE C K o D (n : Nat) = 0) : Piece C K o o' D (alD C K o D (n : Nat)) (alA C K o D (n : Nat)) n := by
  unfold alE at hE
  rw [if_neg (by omega), Int.toNat_natCast] at hE
  by_cases hr : n ≤ room K D.S
  · have eD : alD C K o D (n : Nat) = ⟨D.own, D.wd, ⟨D.S.parts, D.S.pr, D.S.fl + n⟩, D.T⟩ := by
      unfold alD
      rw [if_neg (by omega), Int.toNat_natCast, if_pos hr]
    have eA : alA C K o D (n : Nat) = D.S.pr.1 * K + D.S.fl := by
      unfold alA
      rw [if_neg (by omega), Int.toNat_natCast, if_pos hr]
    have hp : D.S.pr ≠ (0, 0) := fun hp => by unfold room at hr; rw [if_pos hp] at hr; omega
    have hfl : D.S.fl + n ≤ K := by
      unfold room at hr
      rw [if_neg hp] at hr
      have := h.a.fl
      omega
    have hpm : D.S.pr ∈ D.S.parts ∧ D.S.pr.2 = 1 := by
      rcases h.a.pr with e | e
      · exact absurd e hp
      · exact e
    have hpc := (h.a.part hpm.1).2
    have hcs : D.S.pr.1 ∈ cs D.S.pr := cs_mem.2 (by omega)
    rw [eD, eA]
    generalize hf : D.S.pr.1 = f at *
    generalize hl : D.S.fl = fl at *
    have hdiv : ∀ j, j < n → (f * K + fl + j) / K = f := fun j hj => by rw [Nat.add_assoc]; exact div_at (by omega)
    refine ⟨fun j hj hu => ?_, fun j hj => ⟨D.S.pr, hpm.1, by rw [hdiv j hj]; omega, fun _ => ?_⟩, fun q hu => ?_, fun _ _ => rfl, ?_, fun _ => ?_⟩
    · rcases hu with ⟨x, hx, h1, h2⟩ | hu
      · rw [hdiv j hj] at h1
        have := same_part h.a.nod hx hpm.1 (cs_mem.2 h1) hcs
        have := h2 this
        rw [‹x = D.S.pr›, hf, hl] at this
        omega
      · have := (hu.own h.b).1
        rw [hdiv j hj] at this
        exact h.apart (cs_sub hpm.1 hcs) this
    · show f * K + fl + j < D.S.pr.1 * K + (fl + n)
      rw [hf]; omega
    · rcases hu with ⟨x, hx, h1, h2⟩ | hu
      · refine .inl ⟨x, hx, h1, fun e => ?_⟩
        have := h2 e
        show q < x.1 * K + (fl + n)
        rw [hl] at this
        omega
      · exact .inr hu
    · have := Nat.mul_le_mul_right K (show f + 1 ≤ C by omega)
      rw [Nat.add_mul, Nat.one_mul] at this
      omega
    · rw [show f * K + fl + n - 1 = f * K + fl + (n - 1) by omega, hdiv _ (by omega), show f * K + fl = f * K + fl + 0 from rfl, hdiv 0 (by omega)]
  · rw [if_neg hr] at hE
    have hP := tk_parts hE
    have eA : alA C K o D (n : Nat) = tkP D.own C o (need K n : Nat) * K := by
      unfold alA
      rw [if_neg (by omega), Int.toNat_natCast, if_neg hr]
    have eD : alD C K o D (n : Nat) = ⟨tkOwnA D.own C o (need K n : Nat), tkWdA D.own D.wd C K o (need K n : Nat), ⟨D.S.parts ++ [(tkP D.own C o (need K n : Nat), need K n)], if need K n = 1 then (tkP D.own C o (need K n : Nat), 1) else D.S.pr, if need K n = 1 then n else D.S.fl⟩, D.T⟩ := by
      unfold alD
      rw [if_neg (by omega), Int.toNat_natCast, if_neg hr, if_pos hE]
    have hge := need_ge hK hn
    have h1k := need_one hK hn
    have hwd : tkWdA D.own D.wd C K o (need K n : Nat) = tkWd D.wd K (tkP D.own C o (need K n : Nat)) (need K n) := by
      unfold tkWdA tkP
      rw [if_pos hE, if_pos hE, Int.toNat_natCast]
    rw [eD, eA, hwd]
    generalize tkP D.own C o (need K n : Nat) = p at *
    generalize need K n = k at *
    obtain ⟨hk1, _, hpC, hfree, hown⟩ := hP
    have hdiv : ∀ j, j < n → p ≤ (p * K + j) / K ∧ (p * K + j) / K < p + k := fun j hj => div_in hK (by omega)
    have hno : ∀ q, Us K D q → ¬ (p ≤ q / K ∧ q / K < p + k) := fun q hu hq => by
      have h0 := hfree _ hq.1 hq.2
      rcases hu with hu | hu
      · have := (hu.own h.a).2.1; have := h.o1; omega
      · have := (hu.own h.b).2.1; have := h.o2; omega
    refine ⟨fun j hj hu => hno _ hu (hdiv j hj), fun j hj => ⟨(p, k), by simp, hdiv j hj, fun e => ?_⟩, fun q hu => ?_, fun q hu => tkWd_at _ _ _ _ _ hK (hno q hu), ?_, fun hnK => ?_⟩
    · show p * K + j < p * K + (if k = 1 then n else D.S.fl)
      by_cases h1 : k = 1
      · rw [if_pos h1]; omega
      · have e' : (p, k) = (if k = 1 then (p, 1) else D.S.pr) := e
        rw [if_neg h1] at e'
        have := h.a.prlt.1
        rw [← e'] at this
        simp at this
        omega
    · rcases hu with hu | hu
      · obtain ⟨x, hx, h1, h2⟩ := hu
        refine .inl ⟨x, List.mem_append.2 (.inl hx), h1, fun e => ?_⟩
        have e' : x = (if k = 1 then (p, 1) else D.S.pr) := e
        show q < x.1 * K + (if k = 1 then n else D.S.fl)
        by_cases hk : k = 1
        · rw [if_pos hk] at e'
          exact absurd (by rw [e'] at h1; rw [hk]; exact h1) (hno q (.inl ⟨x, hx, h1, h2⟩))
        · rw [if_neg hk] at e' ⊢
          exact h2 e'
      · exact .inr hu
    · have := Nat.mul_le_mul_right K hpC
      rw [Nat.add_mul] at this
      omega
    · have h1 := h1k.2 hnK
      rw [h1, Nat.one_mul] at hge
      rw [show p * K + n - 1 = p * K + (n - 1) by omega, div_at (by omega), show p * K = p * K + 0 from rfl, div_at (by omega)]
/-- The pieces so far, each with its own number in its words. -/
structure ApI (K : Nat) (D : Dt) (at_ sz : List Nat) : Prop where
  good : Good2 24 K 1 2 D
  len : at_.length = sz.length
  bnd : ∀ (a x n : Nat), at_[a]? = some x → sz[a]? = some n → x + n ≤ 24 * K ∧ n ≤ 30
  pcs : ∀ (a x n : Nat), at_[a]? = some x → sz[a]? = some n → ∀ j, j < n → Us K D (x + j) ∧ D.wd (x + j) = a + 1
theorem Us.swap {K q : Nat} {D : Dt} (h : Us K D q) : Us K D.swap q := h.symm
theorem Us.own {K q : Nat} {D : Dt} {C o o' : Nat} (h : Us K D q) (hG : Good2 C K o o' D) : D.own (q / K) ≠ 0 ∧ q / K < C := by
  rcases h with h | h
  · have := h.own hG.a; have := hG.o1; omega
  · have := h.own hG.b; have := hG.o2; omega
/-- So many words written. -/
def wrN (wd : Nat → Nat) (a k v : Nat) : Nat → Nat := fun q => if a ≤ q ∧ q < a + k then v else wd q
theorem wrN_zero (wd : Nat → Nat) (a v : Nat) : wrN wd a 0 v = wd := by funext q; unfold wrN; rw [if_neg (by omega)]
theorem wrN_next (wd : Nat → Nat) (a k v : Nat) : (fun q => if q = a + k then v else wrN wd a k v q) = wrN wd a (k + 1) v := by
  funext q
  unfold wrN
  by_cases e : q = a + k
  · rw [if_pos e, if_pos (by omega)]
  · rw [if_neg e]
    by_cases e2 : a ≤ q ∧ q < a + k
    · rw [if_pos e2, if_pos (by omega)]
    · rw [if_neg e2, if_neg (by omega)]
theorem ap_next {K a n : Nat} {D D' : Dt} {at_ sz : List Nat} (h : ApI K D at_ sz) (hg : Good2 24 K 1 2 D') (new : ∀ j, j < n → ¬ Us K D (a + j)) (got : ∀ j, j < n → Us K D' (a + j)) (keep : ∀ q, Us K D q → Us K D' q) (wd : ∀ q, Us K D q → D'.wd q = D.wd q) (bnd : a + n ≤ 24 * K) (hn : n ≤ 30) :
    ApI K ⟨D'.own, wrN D'.wd a n (at_.length + 1), D'.S, D'.T⟩ (at_ ++ [a]) (sz ++ [n]) := by
  have hl := h.len
  have hcase : ∀ (b x m : Nat), (at_ ++ [a])[b]? = some x → (sz ++ [n])[b]? = some m → (at_[b]? = some x ∧ sz[b]? = some m) ∨ (b = at_.length ∧ x = a ∧ m = n) := fun b x m h1 h2 => by
    rcases Nat.lt_trichotomy b at_.length with hb | hb | hb
    · rw [List.getElem?_append_left hb] at h1
      rw [List.getElem?_append_left (by omega)] at h2
      exact .inl ⟨h1, h2⟩
    · subst hb
      rw [List.getElem?_append_right (Nat.le_refl _), Nat.sub_self] at h1
      rw [List.getElem?_append_right (by omega), hl, Nat.sub_self] at h2
      simp at h1 h2
      exact .inr ⟨rfl, h1.symm, h2.symm⟩
    · rw [List.getElem?_eq_none (by simp; omega)] at h1
      cases h1
  refine ⟨⟨hg.a, hg.b, hg.o1, hg.o2, hg.ne⟩, by simp [hl], fun b x m h1 h2 => ?_, fun b x m h1 h2 j hj => ?_⟩
  · rcases hcase b x m h1 h2 with ⟨e1, e2⟩ | ⟨rfl, rfl, rfl⟩
    · exact h.bnd b x m e1 e2
    · exact ⟨bnd, hn⟩
  · rcases hcase b x m h1 h2 with ⟨e1, e2⟩ | ⟨rfl, rfl, rfl⟩
    · obtain ⟨u1, u2⟩ := h.pcs b x m e1 e2 j hj
      refine ⟨keep _ u1, ?_⟩
      show wrN D'.wd a n (at_.length + 1) (x + j) = b + 1
      unfold wrN
      rw [if_neg fun hh => new (x + j - a) (by omega) (by rw [show a + (x + j - a) = x + j by omega]; exact u1), wd _ u1, u2]
    · refine ⟨got j hj, ?_⟩
      show wrN D'.wd x m (at_.length + 1) (x + j) = at_.length + 1
      unfold wrN
      rw [if_pos (by omega)]
end Go.Proofs.YteencfldehcbbaaDoor
