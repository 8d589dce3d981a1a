/- Contracts of the calls of a tree at any number. -/
import Derived.Test.YtmdcpeikjchbgaaTrTurn
namespace Go.Proofs.Ytmdcpeikjchbgaa
open Go.RowKit Go.Maps
section
variable {w : World} {b m n : Nat} {f : TR.F}
theorem RowE.no {l : List Nat} {er : Int} (hl : l = []) : ∀ e w', (e = Ending.returned (.tuple #[.slice none 0 0, .int .i64 er]) ∧ w = w') → RowE l er w e w' := by
  rintro e w' ⟨rfl, rfl⟩
  subst hl
  exact ⟨_, rfl, NewR.nil _ _, Below.refl _ _⟩
theorem tkids_any (h : TrAt w b m n f) (x : Int) (hx : I64 x) : Calls Try.prog 11 #[.pointer (some ⟨b, 0, none⟩), .int .i64 x] w (RowE (TR.kidsI n f x) (TR.mayErr f x) w) := by
  by_cases he : TR.mayErr f x = 0
  · obtain ⟨i, rfl, hi⟩ := TR.mayErr_ok he
    have hin : i ≤ 1000000 := by
      have := h.few
      rcases hi with e | ⟨p, hp⟩
      · omega
      · have := (h.good.le i p hp).2.1; omega
    rw [TR.kidsI_ok he, he]
    exact tkids_ok h i hin he
  · refine (tkids_no h x hx he).mono ?_
    rw [(TR.mayErr_or f x).resolve_left he]
    exact RowE.no (TR.kidsI_no he)
theorem tunder_any (h : TrAt w b m n f) (x : Int) (hx : I64 x) : Calls Try.prog 12 #[.pointer (some ⟨b, 0, none⟩), .int .i64 x] w (RowE (TR.underI n f x) (TR.liveErr f x) w) := by
  cases he : TR.liveI f x
  · refine (tunder_no h x hx he).mono ?_
    rw [TR.liveErr_no he]
    exact RowE.no (TR.underI_no he)
  · rw [TR.liveErr_ok he]
    obtain ⟨i, p, rfl, hp⟩ := TR.liveI_iff.1 he
    rw [TR.underI_ok hp]
    exact tunder_ok h i p hp
theorem tfree_any (h : TrAt w b m n f) (x : Int) (hx : I64 x) : Calls Try.prog 13 #[.pointer (some ⟨b, 0, none⟩), .int .i64 x] w (FrE b m n (TR.freeS n f x) (TR.underI n f x) (TR.liveErr f x) w) := by
  unfold TR.freeS
  cases he : TR.liveI f x
  · refine (tfree_no h x hx he).mono ?_
    rw [TR.liveErr_no he, TR.underI_no he, if_neg (by simp)]
    rintro e w' ⟨rfl, rfl⟩
    exact ⟨_, rfl, NewR.nil _ _, h, Aft.refl _ _⟩
  · rw [TR.liveErr_ok he, if_pos rfl]
    obtain ⟨i, p, rfl, hp⟩ := TR.liveI_iff.1 he
    rw [TR.underI_ok hp, Int.toNat_natCast]
    exact tfree_ok h i p hp
theorem tmerge_any (h : TrAt w b m n f) (x : Int) (hx : I64 x) : Calls Try.prog 14 #[.pointer (some ⟨b, 0, none⟩), .int .i64 x] w (TrE b m n (TR.mergS f x) (.tuple #[.int .i64 (TR.mergV f x), .int .i64 (TR.mergErr f x)]) w) := by
  unfold TR.mergS TR.mergV
  by_cases he : TR.mergErr f x = 0
  · rw [if_pos he, if_pos he, he]
    cases hl : TR.liveI f x
    · unfold TR.mergErr at he
      rw [hl] at he
      cases he
    · obtain ⟨i, p, rfl, hp⟩ := TR.liveI_iff.1 hl
      have hpp := TR.parI_ok hp
      rw [hpp, Int.toNat_natCast, Int.toNat_natCast]
      refine tmerge_ok h i p hp fun e0 => ?_
      unfold TR.mergErr at he
      rw [hl, hpp, e0] at he
      cases he
  · rw [if_neg he, if_neg he]
    refine (tmerge_no h x hx he).mono ?_
    rintro e w' ⟨rfl, rfl⟩
    exact ⟨rfl, h, Aft.refl _ _⟩
theorem tadd_any (h : TrAt w b m n f) (hn : n < 100000) (x : Int) (hx : I64 x) : Calls Try.prog 9 #[.pointer (some ⟨b, 0, none⟩), .int .i64 x] w (TrE b m (TR.addN n f x) (TR.addS n f x) (.tuple #[.int .i64 (TR.addV n f x : Nat), .int .i64 (TR.addErr n f x)]) w) := by
  unfold TR.addN TR.addS TR.addV
  by_cases he : TR.addErr n f x = 0
  · rw [if_pos he, if_pos he, if_pos he, he]
    obtain ⟨h1, h2⟩ := TR.addErr_may he
    obtain ⟨i, rfl, _⟩ := TR.mayErr_ok h1
    rw [Int.toNat_natCast]
    exact tadd_ok h hn i h1 h2
  · rw [if_neg he, if_neg he, if_neg he]
    refine (tadd_no h x hx he).mono ?_
    rintro e w' ⟨rfl, rfl⟩
    exact ⟨rfl, h, Aft.refl _ _⟩
end
end Go.Proofs.Ytmdcpeikjchbgaa
