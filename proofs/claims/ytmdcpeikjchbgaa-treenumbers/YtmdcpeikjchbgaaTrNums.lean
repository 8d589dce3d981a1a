/- The law TreeNumbers: numbers are told once each, one more each time. -/
import Derived.Test.YtmdcpeikjchbgaaTrAlive
namespace Go.Proofs.Ytmdcpeikjchbgaa
open Go.RowKit Go.Maps
namespace TR
/-- No more are live than were told, nor than 64. -/
def Few (n : Nat) (f : F) : Prop := (all n f).length ≤ n ∧ (all n f).length ≤ 64
theorem few_start : Few 0 (fun _ => none) := by unfold Few; decide
theorem few_free {n : Nat} {f : F} (h : Few n f) (x : Int) : Few n (freeS n f x) := by
  unfold freeS
  split
  · have := free_all (n := n) (f := f) x.toNat
    unfold Few at *
    omega
  · exact h
theorem few_merge {n : Nat} {f : F} (hg : Good n f) (h : Few n f) (x : Int) : Few n (mergS f x) := by
  unfold mergS
  split
  · next e =>
    cases hl : liveI f x
    · unfold mergErr at e
      rw [hl] at e
      cases e
    · obtain ⟨i, p, rfl, hp⟩ := liveI_iff.1 hl
      rw [parI_ok hp, Int.toNat_natCast, Int.toNat_natCast]
      have := merge_all hg hp
      unfold Few at *
      omega
  · exact h
theorem few_add {n : Nat} {f : F} (hg : Good n f) (h : Few n f) (x : Int) : Few (addN n f x) (addS n f x) := by
  unfold addN addS
  by_cases e : addErr n f x = 0
  · rw [if_pos e, if_pos e]
    have h1 := (addErr_may e).2
    have h2 := add_all hg x.toNat
    unfold Few at *
    rw [h2, List.length_append]
    simp
    omega
  · rw [if_neg e, if_neg e]; exact h
theorem addErr_or (n : Nat) (f : F) (x : Int) : addErr n f x = 0 ∨ addErr n f x = 5 ∨ addErr n f x = 6 := by
  unfold addErr
  split
  · split
    · exact .inr (.inl rfl)
    · exact .inl rfl
  · exact .inr (.inr rfl)
theorem live_next {n : Nat} {f : F} (h : Good n f) : liveI f ((n + 1 : Nat) : Int) = false := by
  rw [liveI_nat]
  cases e : live f (n + 1)
  · rfl
  · obtain ⟨p, hp⟩ := live_iff.1 e
    have := (h.le _ p hp).2.1
    omega
theorem live_zero {n : Nat} {f : F} (h : Good n f) : liveI f 0 = false := by
  have := liveI_nat f 0
  rw [live_not.2 h.zero] at this
  exact this
end TR

set_option maxRecDepth 100000 in
set_option maxHeartbeats 4000000 in
theorem nums_walk (A : Option Addr) (n0 c : Nat) (ls : List (Int × Int)) (w : World) (hl : AcS w w.heap.size A n0 ls) :
    Calls Try.prog 7 #[.slice A n0 c] w fun e w' => e = .returned (.bool true) ∧ Below w.heap.size w w' := by
  have HN := Lib.hid (tnew_any w)
  have HL := Lib.hid hl
  clear hl
  go_enter Try.func7, Try.ntmps7
  go_wp2_with fail
  refine HN.out.mono ?_
  rintro e w1 ⟨b, m, rfl, ht, hb, hm, bel⟩
  have HT := Lib.hid (show Tm w w1 b m 0 (fun _ => none) from ⟨ht, hb, hm, bel⟩)
  have HA := Lib.hid (talive_any w1)
  clear ht hb hm bel HN
  go_wp2_with fail
  refine HA.out.mono ?_
  rintro e w2 ⟨rfl, hb2⟩
  have HT2 := Lib.hid (HT.out.later hb2)
  clear hb2 HA HT
  by_cases h120 : 120 < n0
  · have HA2 := Lib.hid (talive_any w2)
    have d : (120 : Int) < (n0 : Int) := by omega
    go_wp2_with fail
    refine HA2.out.mono ?_
    rintro e w3 ⟨rfl, hb3⟩
    have HT3 := Lib.hid (HT2.out.later hb3)
    clear hb3 HT2
    go_wp2
    go_ret
    exact ⟨rfl, HT3.out.bel⟩
  · have d : decide ((120 : Int) < (n0 : Int)) = false := by simp; omega
    go_wp2_with fail
    go_loopw [4, 28] (fun u i wr => ∃ (k j : Nat) (f : TR.F), k ≤ n0 ∧ j ≤ k ∧ i = .int .i64 k ∧ u = .int .i64 j ∧ Tm w wr b m j f ∧ TR.Few j f) (fun _ i _ => n0 - (intOf i).toNat)
    case atStart => exact ⟨0, 0, _, by omega, Nat.le_refl _, rfl, rfl, HT2.out, TR.few_start⟩
    case round =>
      obtain ⟨k, j, f, hk, hj, rfl, rfl, ht, hfew⟩ := hrel
      by_cases hlt : k < n0
      · obtain ⟨ab, off, K, x, rfl, hab, hK, hx, c0, c1⟩ := (HL.out.below ht.bel).at_ hlt
        have hI := Lib.hid hx
        have hT2 := ht.alloc (.cells #[.int .i64 K, .int .i64 x] 37)
        have HT3 := Lib.hid hT2
        unfold I64 at hx hK
        by_cases k0 : K = 0
        · subst k0
          have HA := tadd_any hT2.at_ (by omega) x hI.out
          have hfa := TR.few_add ht.at_.good hfew x
          by_cases he : TR.addErr j f x = 0
          · have h1 : TR.addN j f x = j + 1 := by unfold TR.addN; rw [if_pos he]
            have h2 : TR.addV j f x = j + 1 := by unfold TR.addV; rw [if_pos he]
            rw [he, h1, h2] at HA
            rw [h1] at hfa
            have HA2 := Lib.hid HA
            have HF := Lib.hid hfa
            have hmx : max (j : Int) ((j + 1 : Nat) : Int) = ((j + 1 : Nat) : Int) := by omega
            have hmx2 : max (j : Int) ((j : Int) + 1) = (j : Int) + 1 := by omega
            clear HA he h1 h2 ht hT2 hfa hfew
            generalize TR.addS j f x = f2 at *
            go_wp2_with fail
            refine HA2.out.mono ?_
            rintro e w3 ⟨rfl, ht2, ha2⟩
            have HT4 := Lib.hid (HT3.out.step ht2 ha2)
            clear ht2 ha2
            go_wp2
            go_roundw
            case rel => exact ⟨k + 1, j + 1, f2, by omega, by omega, by go_num, by go_num, HT4.out, HF.out⟩
            case measure => simp [intOf]; omega
          · have h1 : TR.addN j f x = j := by unfold TR.addN; rw [if_neg he]
            have h2 : TR.addV j f x = 0 := by unfold TR.addV; rw [if_neg he]
            rw [h1, h2] at HA
            rw [h1] at hfa
            have HA2 := Lib.hid HA
            have HF := Lib.hid hfa
            have d0 : (TR.addErr j f x == 0) = false := by simpa using he
            have d1 : (TR.addErr j f x != 0) = true := by simpa using he
            have hmx : max (j : Int) 0 = (j : Int) := by omega
            clear HA he h1 h2 ht hT2 hfa hfew
            generalize TR.addErr j f x = er at *
            generalize TR.addS j f x = f2 at *
            go_wp2_with fail
            refine HA2.out.mono ?_
            rintro e w3 ⟨rfl, ht2, ha2⟩
            have HT4 := Lib.hid (HT3.out.step ht2 ha2)
            clear ht2 ha2
            go_wp2
            go_roundw
            case rel => exact ⟨k + 1, j, f2, by omega, by omega, by go_num, rfl, HT4.out, HF.out⟩
            case measure => simp [intOf]; omega
        · by_cases k1 : K = 1
          · subst k1
            have HA2 := Lib.hid (tfree_any hT2.at_ x hI.out)
            have HF := Lib.hid (TR.few_free hfew x)
            clear ht hT2 k0 hfew
            generalize TR.liveErr f x = er at *
            generalize TR.underI j f x = ul at *
            generalize TR.freeS j f x = f2 at *
            go_wp2_with fail
            refine HA2.out.mono ?_
            rintro e w3 ⟨v, rfl, hv, ht2, ha2⟩
            have HT4 := Lib.hid (HT3.out.step ht2 ha2)
            clear hv ht2 ha2
            go_wp2
            go_roundw
            case rel => exact ⟨k + 1, j, f2, by omega, by omega, by go_num, rfl, HT4.out, HF.out⟩
            case measure => simp [intOf]; omega
          · by_cases k2 : K = 2
            · subst k2
              have HA2 := Lib.hid (tmerge_any hT2.at_ x hI.out)
              have HF := Lib.hid (TR.few_merge ht.at_.good hfew x)
              clear ht hT2 k0 k1 hfew
              generalize TR.mergErr f x = er at *
              generalize TR.mergV f x = mv at *
              generalize TR.mergS f x = f2 at *
              go_wp2_with fail
              refine HA2.out.mono ?_
              rintro e w3 ⟨rfl, ht2, ha2⟩
              have HT4 := Lib.hid (HT3.out.step ht2 ha2)
              clear ht2 ha2
              go_wp2
              go_roundw
              case rel => exact ⟨k + 1, j, f2, by omega, by omega, by go_num, rfl, HT4.out, HF.out⟩
              case measure => simp [intOf]; omega
            · have d0 : (K == 0) = false := by simpa using k0
              have d1 : (K == 1) = false := by simpa using k1
              have d2 : (K == 2) = false := by simpa using k2
              have HF := Lib.hid hfew
              clear ht hT2 k0 k1 k2 hfew
              go_wp2
              go_roundw
              case rel => exact ⟨k + 1, j, f, by omega, by omega, by go_num, rfl, HT3.out, HF.out⟩
              case measure => simp [intOf]; omega
      · have HTk := Lib.hid ht
        have HLn := Lib.hid (tlen_any ht.at_)
        have HL1 := tlive_any ht.at_ ((j + 1 : Nat) : Int) (I64.nat (by omega))
        have HL0 := tlive_any ht.at_ 0 (I64.nat (i := 0) (by omega))
        rw [TR.live_next ht.at_.good] at HL1
        rw [TR.live_zero ht.at_.good] at HL0
        rw [show (((j + 1 : Nat) : Int)) = (j : Int) + 1 by omega] at HL1
        have HL1' := Lib.hid HL1
        have HL0' := Lib.hid HL0
        unfold TR.Few at hfew
        clear ht HL1 HL0
        generalize (TR.all j f).length = L at *
        have dd : decide ((L : Int) ≤ min (j : Int) 64) = true := decide_eq_true (by omega)
        go_wp2_with fail
        refine HLn.out.mono ?_
        rintro e w3 ⟨rfl, rfl⟩
        go_wp2_with fail
        refine HL1'.out.mono ?_
        rintro e w3 ⟨rfl, rfl⟩
        go_wp2_with fail
        refine HL0'.out.mono ?_
        rintro e w3 ⟨rfl, rfl⟩
        go_wp2
        go_ret
        exact ⟨rfl, HTk.out.bel⟩
end Go.Proofs.Ytmdcpeikjchbgaa
