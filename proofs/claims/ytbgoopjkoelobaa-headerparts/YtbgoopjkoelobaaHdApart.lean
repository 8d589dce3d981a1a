/- The walks of HeaderApart, HeaderParts and HeaderRefs. -/
import Derived.Test.YtbgoopjkoelobaaHdBack
namespace Go.Proofs.Ytbgoopjkoelobaa
open Go.RowKit

/-- A header's word tells no link. -/
theorem HM.enc_lnk {L C S : Int} (h : HM.eE L C S = 0) : HM.kE (HM.eW L C S) = 4 := by
  unfold HM.eE at h
  by_cases hm : HM.may L C S = true
  · have h1 := (HM.may_iff _ _ _).1 hm
    unfold HM.eW HM.kE
    rw [if_pos hm]
    have ht : ¬ HM.tok (HM.word L C S) = true := by rw [HM.tok_iff]; unfold HM.word; omega
    have h2 : ¬ HM.word L C S = 1 := by unfold HM.word; omega
    have h3 : ¬ HM.word L C S = 0 := by unfold HM.word; omega
    rw [if_neg ht, if_neg h2, if_neg h3]
  · rw [if_neg hm] at h
    exact absurd h (by decide)
theorem HM.enc_inj {L C S A B D : Int} (h : HM.eE L C S = 0) (h' : HM.eE A B D = 0) : HM.eW L C S = HM.eW A B D ↔ (L = A ∧ C = B ∧ S = D) := by
  have e := HM.enc_dec h
  have e' := HM.enc_dec h'
  constructor
  · intro hh
    rw [← hh] at e'
    exact ⟨e.2.1.symm.trans e'.2.1, e.2.2.1.symm.trans e'.2.2.1, e.2.2.2.symm.trans e'.2.2.2⟩
  · rintro ⟨rfl, rfl, rfl⟩
    rfl
theorem HM.word_inj {L C S A B D : Int} (h : HM.wE L C S = 0) (h' : HM.wE A B D = 0) : HM.wW L C S = HM.wW A B D ↔ (L = A ∧ C = B ∧ S = D) := by
  have e := HM.word_lnk h
  have e' := HM.word_lnk h'
  constructor
  · intro hh
    rw [← hh] at e'
    exact ⟨e.2.1.symm.trans e'.2.1, e.2.2.1.symm.trans e'.2.2.1, e.2.2.2.symm.trans e'.2.2.2⟩
  · rintro ⟨rfl, rfl, rfl⟩
    rfl

set_option maxHeartbeats 2000000 in
theorem refs_core (I G c g : Int) (hgc : (g = 3 ∧ c = 0) ∨ (g = 0 ∧ 1 < c))
    (H0 : Hid (∀ w, Calls Try.prog 15 #[.agg #[.int .i64 0, .int .i64 0, .int .i64 0]] w (EncIs 0 0 w)))
    (H1 : Hid (∀ w, Calls Try.prog 15 #[.agg #[.int .i64 1, .int .i64 0, .int .i64 0]] w (EncIs 1 0 w)))
    (H2 : Hid (∀ w, Calls Try.prog 15 #[.agg #[.int .i64 2, .int .i64 I, .int .i64 G]] w (EncIs c g w))) (w : World) :
    Calls Try.prog 8 #[.agg #[.int .i64 I, .int .i64 G]] w (IsBool true w) := by
  have HG := Lib.hid hgc
  clear hgc
  go_enter Try.func8, Try.ntmps8
  go_wp2_with fail
  refine (H0.out _).mono ?_
  rintro e w1 ⟨rfl, hb1⟩
  have W1 := (Whole.fresh w 37 #[.int .i64 I, .int .i64 G]).below hb1 (by simp)
  have B1 : Below w.heap.size w w1 := ((Below.refl _ _).alloc (Nat.le_refl _) _).trans (hb1.mono (by simp))
  have HW1 := Lib.hid W1
  clear hb1 W1
  go_wp2_with fail
  refine (H1.out _).mono ?_
  rintro e w2 ⟨rfl, hb2⟩
  have HW2 := Lib.hid (HW1.out.below hb2 HW1.out.lt)
  have B2 := B1.trans (hb2.mono B1.size)
  obtain ⟨c0, c1⟩ := HW2.out.cells2
  clear hb2
  go_wp2_with fail
  refine (H2.out _).mono ?_
  rintro e w3 ⟨rfl, hb3⟩
  have B3 := B2.trans (hb3.mono B2.size)
  clear hb3
  rcases HG.out with ⟨rfl, rfl⟩ | ⟨rfl, hc⟩
  · go_wp2_with fail
    refine (halive_any _).mono ?_
    rintro e w4 ⟨rfl, hb4⟩
    go_wp2_with fail
    go_ret
    exact ⟨rfl, B3.trans (hb4.mono B3.size)⟩
  · go_wp2_with fail
    refine (halive_any _).mono ?_
    rintro e w4 ⟨rfl, hb4⟩
    go_wp2_with fail
    go_ret
    exact ⟨rfl, B3.trans (hb4.mono B3.size)⟩

theorem refs_any (I G : Int) (w : World) : Calls Try.prog 8 #[.agg #[.int .i64 I, .int .i64 G]] w fun e w' => e = .returned (.bool true) ∧ Below w.heap.size w w' := by
  refine refs_core I G (HM.wW 2 I G) (HM.wE 2 I G) ?_ (Lib.hid (hword_any 0 0 0)) (Lib.hid (hword_any 1 0 0)) (Lib.hid (hword_any 2 I G)) w
  unfold HM.wW HM.wE
  by_cases hm : HM.lmay 2 I G = true
  · rw [if_pos hm, if_pos hm]
    rw [HM.lmay_iff] at hm
    refine .inr ⟨rfl, ?_⟩
    unfold HM.lword
    rw [if_pos rfl]
    omega
  · rw [if_neg hm, if_neg hm]
    exact .inl ⟨rfl, rfl⟩
end Go.Proofs.Ytbgoopjkoelobaa
