/- What the references of an object, place by place, have to do with what Follow and Load say: plain data; rows that read as these. -/
import Derived.Test.YteneadimchhhhaaGreatDoorImRefO
import Derived.Test.YteneadimchhhhaaGreatDoorImTwo
namespace Go.Proofs.YteneadimchhhhaaGreatDoor
open Go.RowKit Go.Shelf

section
variable {q : Cf} {wd : Nat → Nat} {a p : Int}
theorem at_lay (h : IM.atE q wd a = 0) : ∃ l : LD, IM.lay q.D (IM.atL q wd a) = some l ∧ IM.atN q wd a = 1 + LM.size l.F l.R l.xs l.ys (IM.atC q wd a) ∧ ∀ p, IM.isR q.D (IM.atL q wd a) p = LM.isRef l.F l.R l.xs l.ys p := by
  obtain ⟨-, -, -, -, -, h6, h7⟩ := at_ok h
  unfold IM.szE at h6
  cases hl : IM.lay q.D (IM.atL q wd a) with
  | none => rw [hl] at h6; exact absurd h6 (show ¬ (6 : Int) = 0 by decide)
  | some l =>
    refine ⟨l, rfl, ?_, fun p => by unfold IM.isR; rw [hl]⟩
    rw [hl] at h6
    rw [h7]
    unfold IM.szN IM.szE
    rw [hl]
    dsimp only at h6 ⊢
    rw [if_pos h6]
/-- The references, place by place. -/
theorem refs_picks (h : IM.atE q wd a = 0) : IM.refs q wd a = LM.picks (fun p => IM.isR q.D (IM.atL q wd a) p) (IM.atN q wd a - 1).toNat := by
  obtain ⟨l, hl, hN, hR⟩ := at_lay h
  rw [refs_told h hl, LM.told_picks, hN, show 1 + LM.size l.F l.R l.xs l.ys (IM.atC q wd a) - 1 = LM.size l.F l.R l.xs l.ys (IM.atC q wd a) by omega]
  exact LM.picks_congr fun x _ _ => (hR x).symm
theorem refs_len (q : Cf) (wd : Nat → Nat) (a : Int) : (IM.refs q wd a).length ≤ 8192 := by
  by_cases h : IM.atE q wd a = 0
  · rw [refs_picks h]
    have := LM.picks_len (fun p => IM.isR q.D (IM.atL q wd a) p) (IM.atN q wd a - 1).toNat
    have := atN_bd q wd a
    omega
  · rw [refs_no h]; simp
theorem refs_in {x : Int} (hx : x ∈ IM.refs q wd a) : 0 ≤ x ∧ x ≤ 8192 := by
  by_cases h : IM.atE q wd a = 0
  · rw [refs_picks h, LM.mem_picks] at hx
    have := atN_bd q wd a
    omega
  · rw [refs_no h] at hx; cases hx
theorem ad_cases (q : Cf) (a : Int) : IM.adE q a = 0 ∨ IM.adE q a = 17 ∨ IM.adE q a = 3 := by
  unfold IM.adE addrE
  split
  · split <;> simp
  · simp
theorem kE_cases (x : Int) : HM.kE x = 0 ∨ HM.kE x = 4 := by
  unfold HM.kE
  split
  · simp
  · split
    · simp
    · split <;> simp
/-- A reference can be followed, and can't be loaded; another place can't be followed, and can be loaded. -/
theorem place_says (h : IM.atE q wd a = 0) (h0 : 0 ≤ p) (h1 : p < IM.atN q wd a - 1) :
    (IM.isR q.D (IM.atL q wd a) p = true → IM.flE q wd a p ≠ 9 ∧ IM.ldE q wd a p = 9) ∧ (IM.isR q.D (IM.atL q wd a) p = false → IM.flE q wd a p = 9 ∧ IM.ldE q wd a p ≠ 9) := by
  have hpl : ∀ r, IM.plE q wd a p r = if IM.isR q.D (IM.atL q wd a) p = r then 0 else 9 := fun r => by
    unfold IM.plE
    rw [if_pos h, if_neg (by omega)]
  have e1 := ad_cases q (a + 1 + p)
  have e2 := kE_cases (IM.hd wd (a + 1 + p))
  refine ⟨fun hr => ?_, fun hr => ?_⟩
  · have p1 := hpl true
    have p2 := hpl false
    rw [hr] at p1 p2
    rw [if_pos rfl] at p1
    rw [if_neg (by decide)] at p2
    refine ⟨?_, ?_⟩
    · unfold IM.flE
      rw [if_pos p1]
      split <;> omega
    · unfold IM.ldE
      rw [if_neg (by omega)]
      exact p2
  · have p1 := hpl true
    have p2 := hpl false
    rw [hr] at p1 p2
    rw [if_neg (by decide)] at p1
    rw [if_pos rfl] at p2
    refine ⟨?_, ?_⟩
    · unfold IM.flE
      rw [if_neg (by omega)]
      exact p1
    · unfold IM.ldE
      rw [if_pos p2]
      omega
end
/-- What is told, as the two rows have it. -/
def plV (l : List LkE) : List Value := l.map fun x => .int .i64 x.p
def lkV : List LkE → List Value
  | [] => []
  | x :: l => .int .i64 x.K :: .int .i64 x.I :: .int .i64 x.G :: lkV l
theorem plV_len (l : List LkE) : (plV l).length = l.length := by simp [plV]
theorem plV_snoc (l : List LkE) (x : LkE) : plV (l ++ [x]) = plV l ++ [.int .i64 x.p] := by simp [plV]
theorem plV_at {l : List LkE} {i : Nat} {x : LkE} (h : l[i]? = some x) : (plV l)[i]? = some (.int .i64 x.p) := by simp [plV, h]
theorem lkV_snoc (l : List LkE) (x : LkE) : lkV (l ++ [x]) = lkV l ++ [.int .i64 x.K, .int .i64 x.I, .int .i64 x.G] := by
  induction l with
  | nil => rfl
  | cons y l ih => simp [lkV, ih]
theorem lkV_at : ∀ {l : List LkE} {i : Nat} {x : LkE}, l[i]? = some x → (lkV l)[i * 3]? = some (.int .i64 x.K) ∧ (lkV l)[i * 3 + 1]? = some (.int .i64 x.I) ∧ (lkV l)[i * 3 + 2]? = some (.int .i64 x.G)
  | [], i, x, h => by simp at h
  | y :: l, 0, x, h => by simp at h; subst h; exact ⟨rfl, rfl, rfl⟩
  | y :: l, i + 1, x, h => by
    have h' : l[i]? = some x := by simpa using h
    obtain ⟨h1, h2, h3⟩ := lkV_at h'
    have e : ∀ k, (lkV (y :: l))[k + 3]? = (lkV l)[k]? := fun k => by simp [lkV]
    refine ⟨?_, ?_, ?_⟩
    · rw [show (i + 1) * 3 = i * 3 + 3 by omega, e]; exact h1
    · rw [show (i + 1) * 3 + 1 = i * 3 + 1 + 3 by omega, e]; exact h2
    · rw [show (i + 1) * 3 + 2 = i * 3 + 2 + 3 by omega, e]; exact h3
/-- A row's cells. -/
theorem row_cells {w : World} {base n sz : Nat} {e : TypeId} {v : Value} {xs : List Value} (h : w.ownsRow base e sz v n xs) : ∃ A c, v = .slice A n c ∧ (0 < n → ∃ g, A = some ⟨g, 0, none⟩ ∧ g < w.heap.size ∧ ∀ j y, xs[j]? = some y → w.cell? ⟨g, j, none⟩ = some y) := by
  rcases h.2 with ⟨rfl, h0⟩ | ⟨g, cap, cur, rfl, hg, hh, hn, hm, hs, ht⟩
  · exact ⟨none, 0, by rw [h0], fun hp => by omega⟩
  · refine ⟨_, cap, rfl, fun hp => ⟨g, rfl, (Array.getElem?_eq_some_iff.1 hh).1, fun j y hj => ?_⟩⟩
    rw [← ht, List.getElem?_take] at hj
    split at hj
    · simpa [World.cell?, hh] using hj
    · cases hj
end Go.Proofs.YteneadimchhhhaaGreatDoor
