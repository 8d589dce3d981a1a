/- Contracts of placesOf of package layout; of places, word and Encode of the document's answers. -/
import Derived.Test.YtaffceodcfgeeaaDoorLyOpen
import Derived.Test.YtaffceodcfgeeaaDoorLyBits
import Derived.Test.YtaffceodcfgeeaaDoorBmBits
import Derived.Deep.RegionHeld3
namespace Go.Proofs.YtaffceodcfgeeaaDoor
open Go.RowKit

theorem and_less (W : Nat) (h0 : W ≠ 0) (h : W < 18446744073709551616) : bits .and .u64 (W : Int) ((W : Int) - 1) = ((W &&& (W - 1) : Nat) : Int) := by
  rw [show ((W : Int) - 1) = ((W - 1 : Nat) : Int) by omega]
  exact u64_and_nat W (W - 1) h (by omega)

set_option maxHeartbeats 1000000 in
theorem placesOf_any (W : Nat) (w : World) (hW : W < 18446744073709551616) (hT : Tab w) (h0 : 0 < w.heap.size) :
    Calls Tryd.prog 24 #[.int .u64 W] w (RowI (LM.bl W) w) := by
  obtain ⟨i0, hi0, hz0, hz1, hz2⟩ := info_parts infoInt
  have hlen := LM.bl_len W
  have HTB := Lib.hid hT
  clear hT
  go_enter Tryd.func24, Tryd.ntmps24
  go_wp2
  go_loopw [0, 3] (fun x u wr => ∃ (V : Nat) (L : List Int), V < 18446744073709551616 ∧ x = .int .u64 V ∧ Hid (L ++ LM.bl V = LM.bl W) ∧ wr.ownsRow w.heap.size 3 1 u L.length (ivals L) ∧ Below w.heap.size w wr) (fun x _ _ => (intOf x).toNat)
  case atStart => exact ⟨W, [], hW, rfl, rfl, World.ownsRow_nil _ _ _ _, Below.refl _ _⟩
  case round =>
    obtain ⟨V, L, hV, rfl, HL, hown, hbw⟩ := hrel
    by_cases hz : V = 0
    · subst hz
      have e := HL.out
      rw [LM.bl_zero, List.append_nil] at e
      subst e
      go_wp2
      go_ret
      exact ⟨_, rfl, hown, hbw⟩
    · have hs := hbw.size
      have d0 : ((V : Int) != 0) = true := by simp; omega
      have hlow := LM.bl_low V hz hV
      have hL : L.length ≤ 64 := by have := congrArg List.length HL.out; rw [List.length_append] at this; omega
      have CT := tz64_any V hV hz wr (HTB.out.below hbw h0)
      obtain ⟨t, ht⟩ : ∃ t, t = Lib.ctz 64 V := ⟨_, rfl⟩
      rw [← ht] at CT hlow
      have HLOW := Lib.hid hlow
      have HCT := Lib.hid CT
      have HAND := Lib.hid (and_less V hz hV)
      have HLS := Lib.hid (LM.low_less V hz)
      have h1 : 1 ≤ V := by omega
      have hub := Lib.hid hown.lt
      have HO := Lib.hid hown
      clear hown hlow CT ht hz
      go_wp2_with (first
        | (go_at_call 32; refine HCT.out.mono ?_; rintro e w' ⟨rfl, rfl⟩)
        | (at_builtin; refine wpList_append_own _ rfl _ _ 22 rfl w.heap.size 3 i0 _ 1 8 Tryd.underlying22 hi0 hz0 hz1 hz2 rfl (by decide) _ _ _ rfl (HO.out.alloc _) ⟨wr.heap.size, 0, none⟩ 1 1 [.int .i64 (t : Nat)] rfl rfl (cell_one_new _ _ _) (by simp [Value.oneCell']) (by unfold maxLen; omega) (by omega) (by simp; omega) ?_; intro v' w4 hown' hgrow _; have HO2 := Lib.hid hown'; have HG := Lib.hid hgrow; clear hown' hgrow))
      go_roundw
      case rel =>
        refine ⟨V &&& (V - 1), L ++ [(t : Int)], Nat.lt_trans HLS.out hV, by rw [HAND.out], ?_, ?_, (hbw.alloc hs _).grown HG.out (by simp; omega) (fun g hg => (hub.out g hg).1)⟩
        · show (L ++ [(t : Int)]) ++ LM.bl (V &&& (V - 1)) = LM.bl W
          rw [← HL.out, HLOW.out]
          simp
        · rw [ivals_snoc, List.length_append]
          exact HO2.out
      case measure =>
        rw [HAND.out]
        simp [intOf]
        exact HLS.out

theorem half_bit (W k : Nat) : ((((W / 2 ^ k : Nat) : Int) % 2) == 1) = W.testBit k := by
  have e : W.testBit k = (W / 2 ^ k).testBit 0 := by rw [BM.div_bit, Nat.add_zero]
  rw [e, Nat.testBit_zero]
  generalize W / 2 ^ k = Q
  rw [Bool.eq_iff_iff]
  simp
  omega
theorem half_next (W k : Nat) : (((W / 2 ^ k : Nat) : Int) / 2) = ((W / 2 ^ (k + 1) : Nat) : Int) := by
  rw [Nat.pow_succ, ← Nat.div_div_eq_div_mul]
  simp
theorem half_lt (W k : Nat) (h : W < 18446744073709551616) : W / 2 ^ k < 18446744073709551616 := Nat.lt_of_le_of_lt (Nat.div_le_self _ _) h

set_option maxHeartbeats 1000000 in
theorem places_ref (W : Nat) (w : World) (hW : W < 18446744073709551616) :
    Calls Tryd.prog 25 #[.int .u64 W] w (RowI (LM.bl W) w) := by
  obtain ⟨i0, hi0, hz0, hz1, hz2⟩ := info_parts infoInt
  go_enter Tryd.func25, Tryd.ntmps25
  go_wp2
  go_loopw [0, 3, 4] (fun x u i wr => ∃ (k q : Nat), k ≤ 64 ∧ q < 18446744073709551616 ∧ Hid (q = W / 2 ^ k) ∧ x = .int .u64 q ∧ i = .int .i64 k ∧ wr.ownsRow w.heap.size 3 1 u (LM.picks (fun x => W.testBit x.toNat) k).length (ivals (LM.picks (fun x => W.testBit x.toNat) k)) ∧ Below w.heap.size w wr) (fun _ _ i _ => 64 - (intOf i).toNat)
  case atStart => exact ⟨0, W, by omega, hW, by exact (show W = W / 2 ^ 0 by simp), rfl, rfl, World.ownsRow_nil _ _ _ _, Below.refl _ _⟩
  case round =>
    obtain ⟨k, q, hk, hq, HQ, rfl, rfl, hown, hbw⟩ := hrel
    have hs := hbw.size
    by_cases hlt : k < 64
    · have hlen := LM.picks_len (fun x => W.testBit x.toNat) k
      have hbit := half_bit W k
      have hnext := half_next W k
      rw [← HQ.out] at hbit hnext
      have hub := Lib.hid hown.lt
      have HO := Lib.hid hown
      have HN := Lib.hid hnext
      clear hown hnext
      cases hf : W.testBit k
      · rw [hf] at hbit
        have HY := Lib.hid (LM.picks_no (f := fun x => W.testBit x.toNat) (n := k) (by simpa using hf))
        clear hf
        go_wp2
        go_roundw
        case rel => exact ⟨k + 1, W / 2 ^ (k + 1), by omega, half_lt W _ hW, rfl, by rw [← HN.out], by go_num, by rw [HY.out]; exact HO.out, hbw⟩
        case measure => simp [intOf]; omega
      · rw [hf] at hbit
        have HY := Lib.hid (LM.picks_yes (f := fun x => W.testBit x.toNat) (n := k) (by simpa using hf))
        clear hf
        go_wp2_with (first
          | (at_builtin; refine wpList_append_own _ rfl _ _ 22 rfl w.heap.size 3 i0 _ 1 8 Tryd.underlying22 hi0 hz0 hz1 hz2 rfl (by decide) _ _ _ rfl (HO.out.alloc _) ⟨wr.heap.size, 0, none⟩ 1 1 [.int .i64 (k : Nat)] rfl rfl (cell_one_new _ _ _) (by simp [Value.oneCell']) (by unfold maxLen; omega) (by omega) (by simp; omega) ?_; intro v' w4 hown' hgrow _; have HO2 := Lib.hid hown'; have HG := Lib.hid hgrow; clear hown' hgrow))
        go_roundw
        case rel =>
          refine ⟨k + 1, W / 2 ^ (k + 1), by omega, half_lt W _ hW, rfl, by rw [← HN.out], by go_num, ?_, (hbw.alloc hs _).grown HG.out (by simp; omega) (fun g hg => (hub.out g hg).1)⟩
          rw [HY.out, ivals_snoc, List.length_append]
          exact HO2.out
        case measure => simp [intOf]; omega
    · obtain rfl : k = 64 := by omega
      go_wp2
      go_ret
      exact ⟨_, rfl, hown, hbw⟩

theorem up_bit (O k : Nat) (b : Bool) (h : O.testBit k = b) : O / 2 ^ k = 2 * (O / 2 ^ (k + 1)) + (if b = true then 1 else 0) := by
  rw [Nat.pow_succ, ← Nat.div_div_eq_div_mul]
  have e : (O / 2 ^ k).testBit 0 = b := by rw [BM.div_bit]; exact h
  rw [Nat.testBit_zero] at e
  cases b
  · simp at e ⊢; omega
  · simp at e ⊢; omega

set_option maxHeartbeats 1000000 in
theorem word_any (A : Option Addr) (n c : Nat) (xs : List Int) (B : Nat) (w : World) (hn : n ≤ 1000000) (h : NS .i64 w B A n xs) (hp : ∀ p ∈ xs, 0 ≤ p ∧ p < 64) :
    Calls Tryd.prog 22 #[.slice A n c] w fun e w' => e = .returned (.int .u64 (orAll 0 xs)) ∧ w = w' := by
  have hO := orAll_lt xs 0 (by omega) hp
  have HBIT := Lib.hid (fun i => orAll_bit xs 0 i fun p hq => (hp p hq).1)
  obtain ⟨O, hOe⟩ : ∃ O, O = orAll 0 xs := ⟨_, rfl⟩
  rw [← hOe] at HBIT hO ⊢
  have HX := Lib.hid h
  clear h hp hOe
  go_enter Tryd.func22, Tryd.ntmps22
  go_wp2
  go_loop [3, 4] (fun t i => ∃ (k q : Nat), k ≤ 64 ∧ Hid (q = O / 2 ^ k) ∧ q < 18446744073709551616 ∧ t = .int .u64 q ∧ i = .int .i64 ((k : Int) - 1)) (fun _ i => (intOf i + 1).toNat)
  case atStart => exact ⟨64, 0, by omega, by exact (show 0 = O / 2 ^ 64 by rw [Nat.div_eq_of_lt (by rw [FM.pow64]; exact hO)]), by omega, rfl, rfl⟩
  case round =>
    obtain ⟨k, q, hk, HQ, hq, rfl, rfl⟩ := hrel
    by_cases hlt : 0 < k
    · obtain ⟨j, rfl⟩ : ∃ j, k = j + 1 := ⟨k - 1, by omega⟩
      have e0 : (((j + 1 : Nat) : Int) - 1) = (j : Int) := by omega
      rw [e0]
      have CH := has_any A n c xs j B w hn HX.out
      have hb : O.testBit j = LM.has xs j := by rw [HBIT.out j]; simp [LM.has]
      have hj2 := half_lt O j hO
      cases hf : LM.has xs j
      · rw [hf] at hb CH
        have hu := up_bit O j false hb
        simp at hu
        rw [← HQ.out] at hu
        have HU := Lib.hid hu
        have hq2 : 2 * q < 18446744073709551616 := by omega
        have HCH := Lib.hid CH
        clear hb hu CH hf e0
        go_wp2_with fail
        refine HCH.out.mono ?_
        rintro e w' ⟨rfl, rfl⟩
        go_wp2
        go_round
        case rel => exact ⟨j, 2 * q, by omega, by exact (show 2 * q = O / 2 ^ j from HU.out.symm), hq2, by go_num, rfl⟩
        case measure => simp [intOf]
      · rw [hf] at hb CH
        have hu := up_bit O j true hb
        simp at hu
        rw [← HQ.out] at hu
        have HU := Lib.hid hu
        have hq2 : 2 * q + 1 < 18446744073709551616 := by omega
        have HCH := Lib.hid CH
        clear hb hu CH hf e0
        go_wp2_with fail
        refine HCH.out.mono ?_
        rintro e w' ⟨rfl, rfl⟩
        go_wp2
        go_round
        case rel => exact ⟨j, 2 * q + 1, by omega, by exact (show 2 * q + 1 = O / 2 ^ j from HU.out.symm), hq2, by go_num, rfl⟩
        case measure => simp [intOf]
    · obtain rfl : k = 0 := by omega
      have e := HQ.out
      simp at e
      subst e
      go_wp2
      go_ret
      exact ⟨rfl, rfl⟩
end Go.Proofs.YtaffceodcfgeeaaDoor
