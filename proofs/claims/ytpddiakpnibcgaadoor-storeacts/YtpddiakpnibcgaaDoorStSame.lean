/- The contract of the law package's same. -/
import Derived.Test.YtpddiakpnibcgaaDoorStGrown
import Derived.BigQuiet
namespace Go.Proofs.YtpddiakpnibcgaaDoor
open Go.RowKit

theorem RowPost.use {xs : List Nat} {w w' : World} {e : Ending} (h : RowPost xs w e w') : ∃ A c, e = .returned (.slice A xs.length c) ∧ IS w' (.slice A xs.length c) xs ∧ Below w.heap.size w w' ∧ (∀ a, A = some a → w.heap.size ≤ a.block ∧ a.block < w'.heap.size) := by
  obtain ⟨v, rfl, ho, hb⟩ := h
  have hlt := ho.lt
  have his := IS.of_owns ho
  obtain ⟨A, c, rfl, hc⟩ := his
  exact ⟨A, c, rfl, ⟨A, c, rfl, hc⟩, hb, fun a e => by subst e; exact hlt _ rfl⟩
theorem ownerOf_in {own : Nat → Nat} {C k : Nat} (h : k < C) : ownerOf own C (k : Int) = own k := by
  unfold ownerOf
  rw [if_pos (by omega), Int.toNat_natCast]
theorem readV_in {own wd : Nat → Nat} {C K i : Nat} (h : i < C * K) : readV own wd C K (i : Int) = if own (i / K) = 0 then 0 else wd i := by
  unfold readV
  rw [addrE_in h, Int.toNat_natCast]
  by_cases e : own (i / K) = 0
  · rw [if_pos e, if_neg (by omega), if_pos e]
  · rw [if_neg e, if_pos rfl, if_neg e]

section
variable {w0 w : World} {B : SB} {R : RB} {C K : Nat} {own wd : Nat → Nat}
set_option maxRecDepth 100000 in
set_option maxHeartbeats 4000000 in
theorem sames_any (h : Pair w0 w B R C K own wd) (hT : Tab w0) :
    Calls Tryd.prog 13 #[.pointer (some ⟨B.s, 0, none⟩), .pointer (some ⟨R.m, 0, none⟩)] w fun e w' => e = .returned (.bool true) ∧ Below w.heap.size w w' := by
  have hC := h.rf.C2
  have hK1 := h.rf.K1
  have hK2 := h.rf.K2
  have hM := h.rf.all
  have m0 := h.rf.words
  have m1 := h.rf.size
  have m2 := h.rf.owners
  have hR := h.rwin
  have F1 := Lib.hid (fun (W : World) (hW : W.heap = w.heap) => free_any (h.held.st.heap hW))
  have F2 := Lib.hid (fun (W : World) (hW : W.heap = w.heap) => rfree_any (h.rf.heap hW))
  have F3 := Lib.hid (fun (W : World) (hW : W.heap = w.heap) => chunks_any (h.held.st.heap hW))
  have F4 := Lib.hid (fun (W : World) (hW : W.heap = w.heap) => words_any (h.held.st.heap hW))
  generalize frees own C = n at *
  have d1 : ((n : Int) != (n : Int)) = false := by simp
  have d2 : ((C : Int) != (C : Int)) = false := by simp
  have d3 : ((K : Int) != (K : Int)) = false := by simp
  have HH := Lib.hid h
  have HR := Lib.hid hR
  have hm := hR.1.2
  have hq := hR.2.2.2
  have hp := hR.2.1.2
  clear h hR
  go_enter Tryd.func13, Tryd.ntmps13
  go_wp2_with fail
  go_quiet (first
    | (go_at_call 25; exact Calls.quiet_of (F1.out _ (by exact rfl)))
    | (go_at_call 34; exact Calls.quiet_of_same ((F2.out _ (by exact rfl)).mono fun _ _ ⟨he, hw⟩ => ⟨he, hw.symm⟩))
    | (go_at_call 23; exact Calls.quiet_of_same ((F3.out _ (by exact rfl)).mono fun _ _ ⟨he, hw⟩ => ⟨he, hw.symm⟩))
    | (go_at_call 24; exact Calls.quiet_of_same ((F4.out _ (by exact rfl)).mono fun _ _ ⟨he, hw⟩ => ⟨he, hw.symm⟩)))
  go_wp2_with fail
  clear F1 F2 F3 F4
  go_loopw [40] (fun x wr => ∃ k : Nat, k ≤ C ∧ x = .int .i64 k ∧ Below w.heap.size w wr) (fun x _ => C - (intOf x).toNat)
  case atStart => exact ⟨0, Nat.zero_le _, rfl, below_drewN (Below.refl _ _) _⟩
  case round =>
    obtain ⟨k, hk, rfl, hb⟩ := hrel
    by_cases hlt : k < C
    · have hP := HH.out.later hT hb
      have c0 := hP.rf.orow.cell k hlt
      have F1 := owner_any hP.held.st (k : Int)
      rw [ownerOf_in hlt] at F1
      have HF1 := Lib.hid F1
      by_cases hz : own k = 0
      · rw [hz] at c0 HF1
        clear F1 hP hz
        go_wp2_with (first
          | (go_at_call 15; refine HF1.out.mono ?_; rintro e w' ⟨rfl, rfl⟩))
        go_roundw
        case rel => exact ⟨k + 1, by omega, by go_num, hb⟩
        case measure => simp [intOf]; omega
      · have F2 := Lib.hid (owned_any hP.held.st (own k : Int) hP.held.win)
        have hlen : (BM.ons (hers own (own k : Int)) C).length ≤ 1048576 := by rw [BM.ons_len]; have := BM.cnt_le (hers own (own k : Int)) C; omega
        have HP := Lib.hid hP
        have F3 := Lib.hid (fun w1 (hb1 : Below wr.heap.size wr w1) => rowned_any (hP.later hT hb1).rf (own k : Int) (hP.later hT hb1).rwin)
        generalize hx : own k = x at *
        have dx : decide ((0 : Int) < (x : Int)) = true := by simp; omega
        have dx2 : (0 : Int) < (x : Int) := by omega
        have dx3 : ((x : Int) != (x : Int)) = false := by simp
        have HX := Lib.hid hx
        clear F1 hP hx
        generalize BM.ons (hers own (x : Int)) C = xs at *
        go_wp2_with fail
        refine HF1.out.mono ?_
        rintro e w' ⟨rfl, rfl⟩
        go_wp2_with fail
        refine F2.out.mono ?_
        intro e w1 hp1
        obtain ⟨A, ca, rfl, his1, hb1, hA⟩ := hp1.use
        have HI1 := Lib.hid his1
        have HA := Lib.hid hA
        have G3 := F3.out w1 hb1
        have HG3 := Lib.hid G3
        clear hp1 his1 hA G3 F2 F3
        go_wp2_with fail
        refine HG3.out.mono ?_
        intro e w2 hp2
        obtain ⟨A2, ca2, rfl, his2, hb2, hA2⟩ := hp2.use
        have his1 := HI1.out.below hb2 (fun g off n c e => by cases e; exact (HA.out _ rfl).2)
        have HS := Lib.hid (same_any _ _ xs w2 hlen his1 his2)
        have HA2 := Lib.hid hA2
        clear hp2 his1 his2 hA2 HG3
        go_wp2_with fail
        refine HS.out.mono ?_
        rintro e w3 ⟨rfl, hb3⟩
        have B3 : Below w.heap.size w w3 := hb.trans ((hb1.trans ((hb2.mono hb1.size).trans (hb3.mono (Nat.le_trans hb1.size hb2.size)))).mono hb.size)
        have HB3 := Lib.hid B3
        clear B3 hb3 HS
        go_wp2
        go_roundw
        case rel => exact ⟨k + 1, by omega, by go_num, HB3.out⟩
        case measure => simp [intOf]; omega
    · have e0 := (hb.cell (p := ⟨R.m, 0, none⟩) hm).trans m0
      obtain ⟨M, hMM⟩ : ∃ M, M = C * K := ⟨_, rfl⟩
      rw [← hMM] at e0 hM
      have HMM := Lib.hid hMM
      clear hMM
      go_wp2_with fail
      go_loopw [70] (fun x wr => ∃ k : Nat, k ≤ M ∧ x = .int .i64 k ∧ Below w.heap.size w wr) (fun x _ => M - (intOf x).toNat)
      case atStart => exact ⟨0, Nat.zero_le _, rfl, hb⟩
      case round =>
        obtain ⟨i, hi, rfl, hbi⟩ := hrel
        by_cases hl2 : i < M
        · have hP := HH.out.later hT hbi
          have hiM : i < C * K := by have := HMM.out; omega
          have g1 := hP.rf.size
          have g2 := hP.rf.owners
          have g3 := hP.rf.wrow.cell i hiM
          have hd := div_lt hiM
          have g4 := hP.rf.orow.cell (i / K) hd
          have F1 := read_any hP.held.st (i : Int)
          rw [addrE_in hiM, readV_in hiM] at F1
          have ep : (i : Int) / (K : Int) = ((i / K : Nat) : Int) := by simp
          have hkz : ((K : Int) == 0) = false := by simp; omega
          clear hP
          generalize i / K = q at *
          have hq2 : (q : Int) < (C : Int) := by omega
          by_cases hz : own q = 0
          · rw [if_pos hz, if_pos hz] at F1
            rw [hz] at g4
            have HF1 := Lib.hid F1
            clear F1 hz
            go_wp2_with (first
              | (go_at_call 18; refine HF1.out.mono ?_; rintro e w' ⟨rfl, rfl⟩))
            go_quiet (fail)
            go_wp2
            go_roundw
            case rel => exact ⟨i + 1, by omega, by go_num, below_drewN hbi _⟩
            case measure => simp [intOf]; omega
          · rw [if_neg hz, if_neg hz] at F1
            have HF1 := Lib.hid F1
            generalize own q = y at *
            generalize wd i = z at *
            have dy : ((y : Int) == 0) = false := by simp; omega
            have dz : ((z : Int) != (z : Int)) = false := by simp
            clear F1 hz
            go_wp2_with (first
              | (go_at_call 18; refine HF1.out.mono ?_; rintro e w' ⟨rfl, rfl⟩))
            go_quiet (fail)
            go_wp2
            go_roundw
            case rel => exact ⟨i + 1, by omega, by go_num, below_drewN hbi _⟩
            case measure => simp [intOf]; omega
        · go_wp2
          go_ret
          exact ⟨rfl, hbi⟩
end
end Go.Proofs.YtpddiakpnibcgaaDoor
