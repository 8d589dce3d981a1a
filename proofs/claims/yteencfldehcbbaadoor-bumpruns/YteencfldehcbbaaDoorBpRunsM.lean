/- Plain mathematics of BumpRuns: a run of as few chunks as are needed. -/
import Derived.Test.YteencfldehcbbaaDoorBpFewM
namespace Go.Proofs.YteencfldehcbbaaDoor
open Go.RowKit Go.Sort BP
set_option linter.unusedVariables false

structure RunI (K c : Nat) (D : Dt) : Prop where
  good : Good2 60 K 1 2 D
  ones : ∀ x ∈ D.S.parts, x.2 = 1
  len : D.S.parts.length = c
  own : ∀ q, D.own q = if q < c then 1 else 0
theorem run_start (K : Nat) : RunI K 0 d0 := ⟨d0_good _ _, fun x h => (by cases h), rfl, fun q => by rw [if_neg (by omega)]; rfl⟩
/-- The first free chunks in a row. -/
theorem run_tk {own : Nat → Nat} {c k : Nat} (ho : ∀ q, own q = if q < c then 1 else 0) (hk : 1 ≤ k) (hc : c + k ≤ 60) : tkE own 60 ((1 : Nat) : Int) (k : Nat) = 0 ∧ tkP own 60 ((1 : Nat) : Int) (k : Nat) = c := by
  have hrun : BM.runAt (busy own) k c = true := (BM.runAt_iff _ _ _).2 fun q a b => busy_off.2 (by rw [ho, if_neg (by omega)])
  have hle : BM.rn (busy own) 60 k ≤ c := by
    rcases Nat.lt_or_ge c (BM.rn (busy own) 60 k) with h | h
    · have := BM.rn_not (busy own) 60 k c h
      rw [this] at hrun
      cases hrun
    · exact h
  have hlt : BM.rn (busy own) 60 k < 60 + 1 - k := by omega
  have hge : c ≤ BM.rn (busy own) 60 k := by
    rcases Nat.lt_or_ge (BM.rn (busy own) 60 k) c with h | h
    · have h1 := (BM.runAt_iff _ _ _).1 (BM.rn_is _ _ _ hlt) _ (Nat.le_refl _) (by omega)
      have h2 := busy_off.1 h1
      rw [ho, if_pos h] at h2
      cases h2
    · exact h
  have hE : tkE own 60 ((1 : Nat) : Int) (k : Nat) = 0 := by
    unfold tkE
    rw [if_neg (by omega), Int.toNat_natCast, if_pos hlt]
  refine ⟨hE, ?_⟩
  unfold tkP
  rw [if_pos hE, Int.toNat_natCast]
  omega
theorem run_own {own : Nat → Nat} {c k : Nat} (ho : ∀ q, own q = if q < c then 1 else 0) (hk : 1 ≤ k) (hc : c + k ≤ 60) : ∀ q, tkOwnA own 60 ((1 : Nat) : Int) (k : Nat) q = if q < c + k then 1 else 0 := by
  obtain ⟨hE, hP⟩ := run_tk ho hk hc
  have h5 := (tk_parts (o := 1) hE).2.2.2.2
  intro q
  rw [h5, hP]
  unfold setO
  by_cases h : q ∈ cs (c, k)
  · rw [if_pos h, if_pos (cs_mem.1 h).2]
  · rw [if_neg h, ho]
    by_cases h1 : q < c
    · rw [if_pos h1, if_pos (by omega)]
    · rw [if_neg h1, if_neg fun h2 => h (cs_mem.2 (by simp; omega))]
theorem run_step {K c n : Nat} {D : Dt} (h : RunI K c D) (hK : 1 ≤ K) (h1 : 1 ≤ n) (h2 : n ≤ K) (hc : c ≤ 12) : ∃ c', c' ≤ c + 1 ∧ RunI K c' (alD 60 K 1 D (n : Nat)) := by
  have hg := alloc_good hK h.good (n : Nat)
  by_cases hr : n ≤ room K D.S
  · have e : alD 60 K 1 D (n : Nat) = ⟨D.own, D.wd, ⟨D.S.parts, D.S.pr, D.S.fl + n⟩, D.T⟩ := by
      unfold alD
      rw [if_neg (by omega), Int.toNat_natCast, if_pos hr]
    rw [e] at hg ⊢
    exact ⟨c, by omega, hg, h.ones, h.len, h.own⟩
  · have hone : need K n = 1 := (need_one hK h1).2 h2
    obtain ⟨hE, hP⟩ := run_tk h.own (show 1 ≤ 1 by decide) (by omega)
    have e : alD 60 K 1 D (n : Nat) = ⟨tkOwnA D.own 60 ((1 : Nat) : Int) ((1 : Nat) : Int), tkWdA D.own D.wd 60 K ((1 : Nat) : Int) ((1 : Nat) : Int), ⟨D.S.parts ++ [(c, 1)], (c, 1), n⟩, D.T⟩ := by
      unfold alD
      rw [if_neg (by omega), Int.toNat_natCast, if_neg hr, hone, if_pos hE, if_pos rfl, if_pos rfl, hP]
    rw [e] at hg ⊢
    refine ⟨c + 1, Nat.le_refl _, hg, fun x hx => ?_, ?_, run_own h.own (by decide) (by omega)⟩
    · rcases List.mem_append.1 hx with hx | hx
      · exact h.ones x hx
      · rw [List.mem_singleton.1 hx]
    · show (D.S.parts ++ [(c, 1)]).length = c + 1
      rw [List.length_append, h.len]; rfl
theorem RunI.lt {K c : Nat} {D : Dt} (h : RunI K c D) {x : Nat × Nat} (hx : x ∈ D.S.parts) : x.1 < c := by
  have h1 := h.good.a.one x hx
  have h2 := (h.good.a.has x.1 (cs_sub hx (cs_mem.2 (by omega)))).2
  rw [h.own] at h2
  split at h2
  · assumption
  · cases h2
theorem need_up {K k : Nat} (hK : 1 ≤ K) (hk : 1 ≤ k) : (k + K - 1) / K = need K k := by
  unfold need
  rw [show k + K - 1 = (k - 1) + K by omega, Nat.add_div_right _ (by omega)]
/-- The long piece. -/
structure LongI (K c k nd : Nat) (D D' : Dt) : Prop where
  err : alE 60 K 1 D (k : Nat) = 0
  addr : alA 60 K 1 D (k : Nat) = c * K
  good : Good2 60 K 1 2 D'
  len : (chunks D'.S.parts).length = c + nd
  room : BP.room K D'.S = BP.room K D.S
  big : ∀ i, i < nd → isBig D'.S.parts ((c + i : Nat) : Int) = true
  not : isBig D'.S.parts ((c + nd : Nat) : Int) = false
  own : ∀ i, i < nd → D'.own (c + i) = 1
  dropE : dropE D' ((c : Nat) : Int) = 0
  dropL : (chunks (dropD D' ((c : Nat) : Int)).S.parts).length = c
  dropR : BP.room K (dropD D' ((c : Nat) : Int)).S = BP.room K D.S
theorem run_long {K c k : Nat} {D : Dt} (h : RunI K c D) (hK : 1 ≤ K) (hk : K < k) (hc : c + need K k ≤ 60) : LongI K c k (need K k) D (alD 60 K 1 D (k : Nat)) ∧ 2 ≤ need K k := by
  have hg := alloc_good hK h.good (k : Nat)
  have hr : ¬ k ≤ room K D.S := by unfold room; have := h.good.a.fl; split <;> omega
  have hn1 : need K k ≠ 1 := fun e => by have := (need_one hK (by omega)).1 e; omega
  have hnp := need_pos K k
  obtain ⟨hE, hP⟩ := run_tk h.own hnp hc
  have hO := run_own h.own hnp hc
  have e : alD 60 K 1 D (k : Nat) = ⟨tkOwnA D.own 60 ((1 : Nat) : Int) (need K k : Nat), tkWdA D.own D.wd 60 K ((1 : Nat) : Int) (need K k : Nat), ⟨D.S.parts ++ [(c, need K k)], D.S.pr, D.S.fl⟩, D.T⟩ := by
    unfold alD
    rw [if_neg (by omega), Int.toNat_natCast, if_neg hr, if_pos hE, if_neg hn1, if_neg hn1, hP]
  have eE : alE 60 K 1 D (k : Nat) = 0 := by
    unfold alE
    rw [if_neg (by omega), Int.toNat_natCast, if_neg hr]; exact hE
  have eA : alA 60 K 1 D (k : Nat) = c * K := by
    unfold alA
    rw [if_neg (by omega), Int.toNat_natCast, if_neg hr, hP]
  rw [e] at hg ⊢
  generalize need K k = nd at *
  have hfr : fromP (D.S.parts ++ [(c, nd)]) ((c : Nat) : Int) = (c, nd) := by
    refine from_hit (j := D.S.parts.length) ?_ (fun i y hi hy => ?_) rfl
    · rw [List.getElem?_append_right (Nat.le_refl _), Nat.sub_self]; rfl
    · rw [List.getElem?_append_left hi] at hy
      have := h.lt (List.mem_of_getElem? hy)
      omega
  have hnz : ((c, nd) : Nat × Nat) ≠ (0, 0) := fun e => by injection e; omega
  have hflt : (D.S.parts ++ [(c, nd)]).filter (fun y => decide (y ≠ (c, nd))) = D.S.parts := by
    rw [List.filter_append, List.filter_eq_self.2 fun x hx => by
      have := h.lt hx
      simp
      rintro rfl
      simp at this]
    simp
  have hpr : ((c, nd) : Nat × Nat) ≠ D.S.pr := fun e => by have := h.good.a.prlt.1; rw [← e] at this; simp at this; omega
  refine ⟨⟨eE, eA, hg, ?_, rfl, fun i hi => ?_, ?_, fun i hi => ?_, ?_, ?_, ?_⟩, by omega⟩
  · show (chunks (D.S.parts ++ [(c, nd)])).length = c + nd
    rw [chunks_app, List.length_append, chunks_ones h.ones, h.len, chunks_one, cs_len]
  · unfold isBig
    rw [List.any_append]
    simp
    right
    omega
  · unfold isBig
    rw [List.any_append]
    simp
    refine ⟨fun a b hab => ?_, by omega⟩
    have := h.ones _ hab
    simp at this
    omega
  · show tkOwnA D.own 60 ((1 : Nat) : Int) (nd : Nat) (c + i) = 1
    rw [hO, if_pos (by omega)]
  · unfold BP.dropE
    show (if fromP (D.S.parts ++ [(c, nd)]) _ = (0, 0) then (6 : Int) else 0) = 0
    rw [hfr, if_neg hnz]
  · unfold dropD
    show (chunks (if fromP (D.S.parts ++ [(c, nd)]) _ = (0, 0) then (_ : Dt) else _).S.parts).length = c
    rw [hfr, if_neg hnz]
    show (chunks ((D.S.parts ++ [(c, nd)]).filter fun y => decide (y ≠ (c, nd)))).length = c
    rw [hflt, chunks_ones h.ones, h.len]
  · unfold dropD
    show BP.room K (if fromP (D.S.parts ++ [(c, nd)]) _ = (0, 0) then (_ : Dt) else _).S = _
    rw [hfr, if_neg hnz]
    show BP.room K (rmS ⟨D.S.parts ++ [(c, nd)], D.S.pr, D.S.fl⟩ (c, nd)) = _
    unfold rmS
    simp only
    rw [if_neg hpr, if_neg hpr]
    rfl
end Go.Proofs.YteencfldehcbbaaDoor
