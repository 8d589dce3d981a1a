/- The walk of TokenSet: its calls. -/
import Derived.Test.YtlmiiapmanklpaaDoorTkSet
namespace Go.Proofs.YtlmiiapmanklpaaDoor
open Go.RowKit Go.Sort

set_option maxRecDepth 100000 in
set_option maxHeartbeats 8000000 in
theorem set_walk (A : Option Addr) (n c : Nat) (l : List (Int × Int)) (t : Int) (w : World) (hl : TS w w.heap.size A n c l) (ht : -9223372036854775808 ≤ t ∧ t ≤ 9223372036854775807) (hT : Tk w) :
    Calls Tryd.prog 7 #[.slice A n c, .int .i64 t] w fun e w' => e = .returned (.bool true) ∧ Below w.heap.size w w' := by
  have HT := Lib.hid hT
  have HL := Lib.hid hl
  have hnc := hl.le
  have ht1 := ht.1
  have ht2 := ht.2
  clear hT hl ht
  go_enter Tryd.func7, Tryd.ntmps7
  go_upto_region 1 with (fail)
  obtain ⟨M, hM1, hM2, hM3⟩ : ∃ M : Nat, M ≤ n ∧ M ≤ 64 ∧ (n ≤ 64 ∧ M = n ∨ 64 < n ∧ M = 64) := by
    by_cases h : n ≤ 64
    · exact ⟨n, Nat.le_refl _, h, .inl ⟨h, rfl⟩⟩
    · exact ⟨64, by omega, Nat.le_refl _, .inr ⟨by omega, rfl⟩⟩
  have HM3 := Lib.hid hM3
  have HLM := Lib.hid (HL.out.take hM1)
  clear hM3 HL
  generalize l.take M = ls at HLM
  have hA : (A = none ∧ n = 0 ∧ M = 0 ∧ c = 0) ∨ ∃ ad, A = some ad := by
    rcases A with _ | ad
    · have := HLM.out.nil rfl
      exact Or.inl ⟨rfl, by omega, by omega, this⟩
    · exact Or.inr ⟨ad, rfl⟩
  have HA := Lib.hid hA
  clear hA
  go_cut [0] (fun s wc => s = .slice A M c ∧ w = wc)
  case first =>
    rcases HA.out with ⟨rfl, rfl, rfl, rfl⟩ | ⟨ad, rfl⟩
    · go_wp2
      go_meet
      exact ⟨rfl, rfl⟩
    rcases HM3.out with ⟨h1, h2⟩ | ⟨h1, h2⟩
    · subst h2
      have hn' : min (M : Int) 64 = M := by omega
      go_wp2
      go_meet
      exact ⟨rfl, rfl⟩
    · subst h2
      have hn' : min (n : Int) 64 = 64 := by omega
      go_wp2
      go_meet
      exact ⟨rfl, rfl⟩
  case rest =>
    obtain ⟨rfl, rfl⟩ := hcut
    clear HM3 HA hM1 hnc
    go_wp2_with fail
    refine (sort_any A M c ls _ (by omega) HLM.out).mono ?_
    rintro e w3 ⟨A3, c3, rfl, hts3, hb3⟩
    have H3 := Lib.hid hts3
    have L3 := Lib.hid (HLM.out.on hb3)
    have B3 := Lib.hid hb3
    have T3 := Lib.hid (HT.out.on hb3)
    have hr64 : (TM.sortL ls).length ≤ 64 := by have := TM.sortL_le ls; have := HLM.out.len; omega
    have HT' : ∃ T : Nat, (T < M ∨ M = 0) ∧ (M ≠ 0 → wrap64 ((IntKind.u64.wrap t).tmod (M : Int)) = (T : Int)) := by
      rcases Nat.eq_zero_or_pos M with h | h
      · exact ⟨0, Or.inr h, fun k => absurd h k⟩
      · obtain ⟨T, h1, h2⟩ := uint_turn t M h hM2
        exact ⟨T, Or.inl h1, fun _ => h2⟩
    obtain ⟨T, hT1, hT2⟩ := HT'
    have HTT := Lib.hid hT1
    have HTW := Lib.hid hT2
    have Hag := Lib.hid (TM.sort_again ls)
    clear hts3 hb3 HLM HT hT1 hT2
    go_wp2_with fail
    go_loopg [7, 26] M (fun g v i wr => ∃ (k : Nat), k ≤ M ∧ i = .int .i64 k ∧ Hid (M - k ≤ g) ∧ Hid (wr.ownsRow w3.heap.size 23 2 v k (flatT (TM.back ls M T k))) ∧ Hid (Below w3.heap.size w3 wr))
    case atStart => exact ⟨0, Nat.zero_le _, rfl, Lib.hid (Nat.le_refl _), Lib.hid (World.ownsRow_nil _ _ _ _), Lib.hid (Below.refl _ _)⟩
    case round =>
      obtain ⟨k, hk, rfl, HG, HO, HB⟩ := hrel
      by_cases hlt : k < M
      · have hM0 : 0 < M := by omega
        have hq : TM.at_ M T k < M := Nat.mod_lt _ hM0
        obtain ⟨b1, off1, x, y, rfl, hbB, hd, hc0, hc1⟩ := (L3.out.fs.below HB.out).at_ hq
        have HD := Lib.hid (drop_get hd)
        have hTM : T < M := by rcases HTT.out with h | h <;> omega
        have hw := HTW.out (by omega)
        have hm1 := mod_at M T k hlt
        have hm2 : ((M : Int) - 1 - (k : Int) + (T : Int)).tmod (M : Int) = ((TM.at_ M T k : Nat) : Int) := by
          rw [Int.tmod_eq_emod_of_nonneg (by omega)]; exact hm1
        generalize hQ : TM.at_ M T k = Q at *
        have HQ := Lib.hid hQ
        clear hQ hd
        have HB1 := Lib.hid (HB.out.alloc HB.out.size (.cells #[.int .i64 x, .int .i64 y] 23))
        have HO1 := Lib.hid (own_alloc HO.out (.cells #[.int .i64 x, .int .i64 y] 23))
        have hsz := HB.out.size
        go_wp2_with (first
          | (at_builtin
             refine wpList_append_ts _ rfl _ _ rfl w3.heap.size _ k (TM.back ls M T k) rfl HO1.out _ (some ⟨wr.heap.size, 0, none⟩) 1 1 [(x, y)] rfl (one_ts (Whole.fresh _ _ _)) (by omega) (by simp; omega) ?_
             intro v2 w5 ho2 hg2
             have HO2 := Lib.hid ho2
             have HB2 := Lib.hid (HB1.out.grown hg2 (by simp; omega) (own_from HO1.out))
             clear ho2 hg2))
        go_roundg (M - (k + 1))
        case measure => have := HG.out; omega
        case rel => exact ⟨k + 1, by omega, by go_num, Lib.hid (Nat.le_refl _), Lib.hid (by rw [TM.back_next ls M T k (x, y) (by rw [HQ.out]; exact HD.out)]; exact HO2.out), HB2⟩
      · rename World => w4
        have hkM : k = M := by omega
        subst hkM
        obtain ⟨A4, c4, rfl, hlen4, hts4, _⟩ := own_ts HO.out
        have hlen := L3.out.len
        have hm := TM.back_mem hlen HTT.out
        have e1 : TM.sortE (TM.back ls k T k) = TM.sortE ls := TM.sortE_same hm (by rw [TM.back_len, hlen])
        have e2 : TM.sortL (TM.back ls k T k) = TM.sortL ls := TM.sortL_same hm (by rw [TM.back_len, hlen])
        have hs4 := sort_any A4 k c4 (TM.back ls k T k) w4 (by omega) hts4
        rw [e1, e2] at hs4
        obtain ⟨ea, eb⟩ := Hag.out
        have hs5 := fun W (h : TS W W.heap.size A3 (TM.sortL ls).length c3 (TM.sortL ls)) => sort_any A3 (TM.sortL ls).length c3 (TM.sortL ls) W (by omega) h
        rw [ea, eb] at hs5
        have HS4 := Lib.hid hs4
        have HS5 := Lib.hid hs5
        have HA4 := Lib.hid (H3.out.on HB.out)
        have BB4 := Lib.hid (B3.out.trans (HB.out.mono B3.out.size))
        have TT4 := Lib.hid (T3.out.on HB.out)
        clear hlen4 hts4 hm e1 e2 hs4 hs5 ea eb Hag HO HB HG H3 L3 B3 T3 HTT HTW
        generalize TM.sortE ls = E at *
        generalize TM.sortL ls = r at *
        go_wp2_with fail
        refine HS4.out.mono ?_
        rintro e w5 ⟨A5, c5, rfl, hts5, hb5⟩
        have HA5 := Lib.hid (HA4.out.on hb5)
        have HB5 := Lib.hid hts5
        have BB5 := Lib.hid (BB4.out.trans (hb5.mono BB4.out.size))
        have TT5 := Lib.hid (TT4.out.on hb5)
        clear hts5 hb5 HA4 BB4 TT4 HS4
        go_wp2_with fail
        refine (HS5.out _ HA5.out).mono ?_
        rintro e w6 ⟨A6, c6, rfl, hts6, hb6⟩
        have HA6 := Lib.hid (HA5.out.on hb6)
        have HB6 := Lib.hid (HB5.out.on hb6)
        have HC6 := Lib.hid hts6
        have BB6 := Lib.hid (BB5.out.trans (hb6.mono BB5.out.size))
        have TT6 := Lib.hid (TT5.out.on hb6)
        have Hwr := Lib.hid (Below.refl w6.heap.size w6)
        clear hts6 hb6 HA5 HB5 BB5 TT5 HS5
        go_wp2_with fail
        go_loopg [85] r.length (fun g i wr => ∃ j : Nat, j ≤ r.length ∧ i = .int .i64 j ∧ Hid (r.length - j ≤ g) ∧ Hid (Below w6.heap.size w6 wr))
        case atStart => exact ⟨0, Nat.zero_le _, rfl, Lib.hid (Nat.le_refl _), Hwr⟩
        case round =>
          clear Hwr
          obtain ⟨j, hj, rfl, HG, HB⟩ := hrel
          by_cases hlt2 : j < r.length
          · obtain ⟨ba, oa, x, y, rfl, hba, hd, a0, a1⟩ := (HA6.out.fs.below HB.out).at_ hlt2
            obtain ⟨bb, ob, x', y', rfl, hbb, hd', b0, b1⟩ := (HB6.out.fs.below HB.out).at_ hlt2
            obtain ⟨bc, oc, x'', y'', rfl, hbc, hd'', d0, d1⟩ := (HC6.out.fs.below HB.out).at_ hlt2
            have h1 : x' = x ∧ y' = y := by
              rw [hd] at hd'
              injection hd' with e1 e2
              injection e1 with e3 e4
              exact ⟨e3.symm, e4.symm⟩
            have h2 : x'' = x ∧ y'' = y := by
              rw [hd] at hd''
              injection hd'' with e1 e2
              injection e1 with e3 e4
              exact ⟨e3.symm, e4.symm⟩
            obtain ⟨rfl, rfl⟩ := h1
            obtain ⟨rfl, rfl⟩ := h2
            clear hd hd' hd''
            go_wp2_with fail
            go_quiet (fail)
            go_wp2
            go_roundg (r.length - (j + 1))
            case measure => have := HG.out; omega
            case rel => exact ⟨j + 1, by omega, by go_num, Lib.hid (Nat.le_refl _), Lib.hid ⟨HB.out.os, HB.out.tape, HB.out.output, HB.out.size, HB.out.block⟩⟩
          · have TT7 := Lib.hid (TT6.out.on HB.out)
            have BB7 := Lib.hid (BB6.out.trans (HB.out.mono BB6.out.size))
            go_wp2_with fail
            refine (alive_any _ TT7.out).mono ?_
            rintro e w8 ⟨rfl, hb⟩
            have B8 := Lib.hid (BB7.out.trans (hb.mono BB7.out.size))
            clear hb
            go_wp2
            go_ret
            exact ⟨rfl, B8.out⟩
end Go.Proofs.YtlmiiapmanklpaaDoor
