/- The law FieldWhole, walked: fields that have all bits, unpacked and packed, are the word. -/
import Derived.Test.YtbiacpickfdeaaaAlive
import Derived.Test.YtbiacpickfdeaaaUnpack
import Derived.Test.YtbiacpickfdeaaaMath4
namespace Go.Proofs.Ytbiacpickfdeaaa
open Go.RowKit

theorem infoField : (Try.prog.info? 24).map (fun i => (i.zero, i.size, i.bytes)) = some (some (.agg #[.int .i64 0, .int .i64 0]), 2, 16) := by kernel_rfl

theorem fs_of_own {w : World} {base : Nat} {v : Value} {L : List (Int × Int)} (h : w.ownsRow base 24 2 v L.length (FM.flat L)) : ∃ A c, v = .slice A L.length c ∧ FS w w.heap.size A L.length L := by
  rcases h.2 with ⟨rfl, h0⟩ | ⟨g, cap, cur, rfl, _, hh, hnc, _, hsz, htk⟩
  · have : L = [] := List.eq_nil_of_length_eq_zero h0
    subst this
    exact ⟨none, 0, rfl, rfl, fun h => absurd h (by simp)⟩
  · have hlt : g < w.heap.size := by
      rcases Nat.lt_or_ge g w.heap.size with hl | hg
      · exact hl
      · rw [Array.getElem?_eq_none hg] at hh; cases hh
    refine ⟨_, _, rfl, rfl, fun _ => ⟨g, 0, rfl, hlt, fun i f hi => ?_⟩⟩
    have hc : ∀ j u, (FM.flat L)[j]? = some u → w.cell? ⟨g, 0 + j, none⟩ = some u := by
      intro j u hu
      rw [← htk, List.getElem?_take] at hu
      split at hu
      · rw [Nat.zero_add]
        simpa [World.cell?, hh] using hu
      · cases hu
    have := FM.flat_at L i f hi
    exact ⟨by simpa using hc _ _ this.1, by simpa [Nat.add_assoc] using hc _ _ this.2⟩

theorem news_pair (w : World) (a b : Int) : ∀ j u, [Value.int .i64 a, .int .i64 b][j]? = some u → (w.alloc (.cells #[.int .i64 a, .int .i64 b] 24)).cell? ((⟨w.heap.size, 0, none⟩ : Addr).add j) = some u := by
  intro j u hj
  match j, hj with
  | 0, hj => simp at hj; subst hj; simp [Addr.add]
  | 1, hj => simp at hj; subst hj; simp [Addr.add]
theorem own_ge {w : World} {base size n : Nat} {e : TypeId} {v : Value} {xs : List Value} (h : w.ownsRow base e size v n xs) : ∀ g, v.ownBlock = some g → base ≤ g := by
  intro g hg
  rcases h.2 with ⟨rfl, _⟩ | ⟨g', cap, cur, rfl, hb, _⟩
  · simp [Value.ownBlock] at hg
  · simp [Value.ownBlock] at hg; omega

set_option maxHeartbeats 4000000 in
theorem whole_walk (x : Int) (A : Option Addr) (n c : Nat) (xs : List Int) (w : World) (hx : FM.Word x) (hf : NS .i64 w w.heap.size A n xs) (hc : n ≤ c) :
    Calls Try.prog 8 #[.int .u64 x, .slice A n c] w fun e w' => e = .returned (.bool true) ∧ Below w.heap.size w w' := by
  obtain ⟨i0, hi, hz0, hz1, hz2⟩ := info_parts infoField
  by_cases hn : n ≤ 64
  case pos =>
    have hn' : ¬ (64 : Int) < (n : Int) := by omega
    obtain ⟨L, hL, hl⟩ : ∃ L, NS .i64 w w.heap.size A n L ∧ n ≤ 64 := ⟨xs, hf, hn⟩
    have HL := Lib.hid hL
    clear hf hL hn
    go_enter Try.func8, Try.ntmps8
    go_wp2_with fail
    go_loopw [5, 6, 20] (fun v a i wr => ∃ (k q : Nat) (F : List (Int × Int)), k ≤ n ∧ q ≤ 64 ∧ i = .int .i64 k ∧ a = .int .i64 q ∧ wr.ownsRow w.heap.size 24 2 v F.length (FM.flat F) ∧ FM.chain 0 F q ∧ Below w.heap.size w wr) (fun _ _ i _ => n - (intOf i).toNat)
    case atStart => exact ⟨0, 0, [], Nat.zero_le _, by omega, rfl, rfl, World.ownsRow_nil _ _ _ _, rfl, Below.refl _ _⟩
    case round =>
      obtain ⟨k, q, F, hk, hq, rfl, rfl, hown, hch, hbw⟩ := hrel
      have HCh := Lib.hid hch
      have hlen := FM.chain_len 0 q F hch
      have hs := hbw.size
      clear hch
      by_cases hlt : k < n
      · obtain ⟨b, off, t, rfl, hbB, hd, hw, hct⟩ := (HL.out.below hbw).at_ hlt
        clear hd hw
        obtain ⟨m, hm, hm1, hm2⟩ := FM.width_ex t
        by_cases hbr : (64 : Int) < q + m
        · by_cases h64 : q < 64
          · have h64' : (q : Int) < 64 := by omega
            go_wp2_with (first
              | (at_builtin; refine wpList_append_own _ rfl _ _ 25 rfl w.heap.size 24 i0 _ 2 16 Try.underlying25 hi hz0 hz1 hz2 rfl (by decide) _ _ _ rfl (hown.alloc _) ⟨wr.heap.size, 0, none⟩ 1 1 [.int .i64 q, .int .i64 (64 - (q : Int))] rfl rfl (news_pair wr q (64 - (q : Int))) (by simp [Value.oneCell']) (by unfold maxLen; omega) (by omega) (by simp; omega) ?_; intro v' w1 hown' hgrow _))
            have hown2 : w1.ownsRow w.heap.size 24 2 v' (F ++ [((q : Int), 64 - (q : Int))]).length (FM.flat (F ++ [((q : Int), 64 - (q : Int))])) := by rw [FM.flat_snoc]; simpa using hown'
            have hch2 : FM.chain 0 (F ++ [((q : Int), 64 - (q : Int))]) 64 := by have := FM.chain_snoc 0 q F (64 - (q : Int)) HCh.out (by omega) (by omega); rwa [show q + (64 - (q : Int)).toNat = 64 by omega] at this
            have B1 : Below w.heap.size w w1 := (hbw.alloc hs _).grown hgrow (by simp; omega) (own_ge hown)
            clear hown hown' hgrow hbw HCh
            generalize F ++ [((q : Int), 64 - (q : Int))] = G at hown2 hch2
            obtain ⟨A5, c5, rfl, hF⟩ := fs_of_own hown2
            have hap := FM.chain_whole G hch2
            have hGl := FM.chain_len 0 64 G hch2
            have s1 := B1.size
            have HF := Lib.hid hF
            have HB1 := Lib.hid B1
            clear hF B1 hown2 hch2
            obtain ⟨hap1, hap2⟩ := hap
            have HM := Lib.hid hap2
            clear hap2
            go_wp2_with fail
            refine (unpack_ok x hx A5 G.length c5 G _ (by omega) HF.out hap1).mono ?_
            rintro e w2 ⟨g2, rfl, hN2, hb2⟩
            have s2 := hb2.size
            have HN2 := Lib.hid hN2
            clear hN2
            go_wp2_with fail
            refine (pack_any A5 G.length c5 G (some ⟨g2, 0, none⟩) G.length _ _ (by omega) ((HF.out.below hb2).more s2) HN2.out hap1).mono ?_
            rintro e w3 ⟨hp, hb3⟩
            rw [FM.pack_unpack x G 0, HM.out, Nat.zero_or, FM.and_all x hx] at hp
            have s3 := hb3.size
            rcases hp with ⟨V, hV, hVw, rfl⟩ | ⟨hp, _⟩
            case inr => cases hp
            injection hV with hV
            subst hV
            have hx' : ((x.toNat : Nat) : Int) = x := by have := hx.1; omega
            rw [hx']
            go_wp2_with fail
            refine (alive_any _).mono ?_
            rintro e w4 ⟨rfl, hb4⟩
            have hxx : (x == x) = true := by simp
            go_wp2
            go_ret
            exact ⟨rfl, ((HB1.out.trans (hb2.mono (by omega))).trans (hb3.mono (by omega))).trans (hb4.mono (by omega))⟩
          · have h64' : ¬ (q : Int) < 64 := by omega
            obtain rfl : q = 64 := by omega
            have hch2 := HCh.out
            have B1 := hbw
            have hown2 := hown
            clear hown hbw HCh
            obtain ⟨A5, c5, rfl, hF⟩ := fs_of_own hown2
            have hap := FM.chain_whole F hch2
            have hGl := FM.chain_len 0 64 F hch2
            have s1 := B1.size
            have HF := Lib.hid hF
            have HB1 := Lib.hid B1
            clear hF B1 hown2 hch2
            obtain ⟨hap1, hap2⟩ := hap
            have HM := Lib.hid hap2
            clear hap2
            go_wp2_with fail
            refine (unpack_ok x hx A5 F.length c5 F _ (by omega) HF.out hap1).mono ?_
            rintro e w2 ⟨g2, rfl, hN2, hb2⟩
            have s2 := hb2.size
            have HN2 := Lib.hid hN2
            clear hN2
            go_wp2_with fail
            refine (pack_any A5 F.length c5 F (some ⟨g2, 0, none⟩) F.length _ _ (by omega) ((HF.out.below hb2).more s2) HN2.out hap1).mono ?_
            rintro e w3 ⟨hp, hb3⟩
            rw [FM.pack_unpack x F 0, HM.out, Nat.zero_or, FM.and_all x hx] at hp
            have s3 := hb3.size
            rcases hp with ⟨V, hV, hVw, rfl⟩ | ⟨hp, _⟩
            case inr => cases hp
            injection hV with hV
            subst hV
            have hx' : ((x.toNat : Nat) : Int) = x := by have := hx.1; omega
            rw [hx']
            go_wp2_with fail
            refine (alive_any _).mono ?_
            rintro e w4 ⟨rfl, hb4⟩
            have hxx : (x == x) = true := by simp
            go_wp2
            go_ret
            exact ⟨rfl, ((HB1.out.trans (hb2.mono (by omega))).trans (hb3.mono (by omega))).trans (hb4.mono (by omega))⟩
        · go_wp2_with (first
            | (at_builtin; refine wpList_append_own _ rfl _ _ 25 rfl w.heap.size 24 i0 _ 2 16 Try.underlying25 hi hz0 hz1 hz2 rfl (by decide) _ _ _ rfl (hown.alloc _) ⟨wr.heap.size, 0, none⟩ 1 1 [.int .i64 q, .int .i64 m] rfl rfl (news_pair wr q m) (by simp [Value.oneCell']) (by unfold maxLen; omega) (by omega) (by simp; omega) ?_; intro v' w1 hown' hgrow _))
          have hown2 : w1.ownsRow w.heap.size 24 2 v' (F ++ [((q : Int), m)]).length (FM.flat (F ++ [((q : Int), m)])) := by rw [FM.flat_snoc]; simpa using hown'
          have B1 : Below w.heap.size w w1 := (hbw.alloc hs _).grown hgrow (by simp; omega) (own_ge hown)
          have hch2 := FM.chain_snoc 0 q F m HCh.out hm1 (by omega)
          clear hm
          go_roundw
          case rel => exact ⟨k + 1, q + m.toNat, F ++ [((q : Int), m)], by omega, by omega, by go_num, by go_num, hown2, hch2, B1⟩
          case measure => simp [intOf]; omega
      · by_cases h64 : q < 64
        · have h64' : (q : Int) < 64 := by omega
          go_wp2_with (first
            | (at_builtin; refine wpList_append_own _ rfl _ _ 25 rfl w.heap.size 24 i0 _ 2 16 Try.underlying25 hi hz0 hz1 hz2 rfl (by decide) _ _ _ rfl (hown.alloc _) ⟨wr.heap.size, 0, none⟩ 1 1 [.int .i64 q, .int .i64 (64 - (q : Int))] rfl rfl (news_pair wr q (64 - (q : Int))) (by simp [Value.oneCell']) (by unfold maxLen; omega) (by omega) (by simp; omega) ?_; intro v' w1 hown' hgrow _))
          have hown2 : w1.ownsRow w.heap.size 24 2 v' (F ++ [((q : Int), 64 - (q : Int))]).length (FM.flat (F ++ [((q : Int), 64 - (q : Int))])) := by rw [FM.flat_snoc]; simpa using hown'
          have hch2 : FM.chain 0 (F ++ [((q : Int), 64 - (q : Int))]) 64 := by have := FM.chain_snoc 0 q F (64 - (q : Int)) HCh.out (by omega) (by omega); rwa [show q + (64 - (q : Int)).toNat = 64 by omega] at this
          have B1 : Below w.heap.size w w1 := (hbw.alloc hs _).grown hgrow (by simp; omega) (own_ge hown)
          clear hown hown' hgrow hbw HCh
          generalize F ++ [((q : Int), 64 - (q : Int))] = G at hown2 hch2
          obtain ⟨A5, c5, rfl, hF⟩ := fs_of_own hown2
          have hap := FM.chain_whole G hch2
          have hGl := FM.chain_len 0 64 G hch2
          have s1 := B1.size
          have HF := Lib.hid hF
          have HB1 := Lib.hid B1
          clear hF B1 hown2 hch2
          obtain ⟨hap1, hap2⟩ := hap
          have HM := Lib.hid hap2
          clear hap2
          go_wp2_with fail
          refine (unpack_ok x hx A5 G.length c5 G _ (by omega) HF.out hap1).mono ?_
          rintro e w2 ⟨g2, rfl, hN2, hb2⟩
          have s2 := hb2.size
          have HN2 := Lib.hid hN2
          clear hN2
          go_wp2_with fail
          refine (pack_any A5 G.length c5 G (some ⟨g2, 0, none⟩) G.length _ _ (by omega) ((HF.out.below hb2).more s2) HN2.out hap1).mono ?_
          rintro e w3 ⟨hp, hb3⟩
          rw [FM.pack_unpack x G 0, HM.out, Nat.zero_or, FM.and_all x hx] at hp
          have s3 := hb3.size
          rcases hp with ⟨V, hV, hVw, rfl⟩ | ⟨hp, _⟩
          case inr => cases hp
          injection hV with hV
          subst hV
          have hx' : ((x.toNat : Nat) : Int) = x := by have := hx.1; omega
          rw [hx']
          go_wp2_with fail
          refine (alive_any _).mono ?_
          rintro e w4 ⟨rfl, hb4⟩
          have hxx : (x == x) = true := by simp
          go_wp2
          go_ret
          exact ⟨rfl, ((HB1.out.trans (hb2.mono (by omega))).trans (hb3.mono (by omega))).trans (hb4.mono (by omega))⟩
        · have h64' : ¬ (q : Int) < 64 := by omega
          obtain rfl : q = 64 := by omega
          have hch2 := HCh.out
          have B1 := hbw
          have hown2 := hown
          clear hown hbw HCh
          obtain ⟨A5, c5, rfl, hF⟩ := fs_of_own hown2
          have hap := FM.chain_whole F hch2
          have hGl := FM.chain_len 0 64 F hch2
          have s1 := B1.size
          have HF := Lib.hid hF
          have HB1 := Lib.hid B1
          clear hF B1 hown2 hch2
          obtain ⟨hap1, hap2⟩ := hap
          have HM := Lib.hid hap2
          clear hap2
          go_wp2_with fail
          refine (unpack_ok x hx A5 F.length c5 F _ (by omega) HF.out hap1).mono ?_
          rintro e w2 ⟨g2, rfl, hN2, hb2⟩
          have s2 := hb2.size
          have HN2 := Lib.hid hN2
          clear hN2
          go_wp2_with fail
          refine (pack_any A5 F.length c5 F (some ⟨g2, 0, none⟩) F.length _ _ (by omega) ((HF.out.below hb2).more s2) HN2.out hap1).mono ?_
          rintro e w3 ⟨hp, hb3⟩
          rw [FM.pack_unpack x F 0, HM.out, Nat.zero_or, FM.and_all x hx] at hp
          have s3 := hb3.size
          rcases hp with ⟨V, hV, hVw, rfl⟩ | ⟨hp, _⟩
          case inr => cases hp
          injection hV with hV
          subst hV
          have hx' : ((x.toNat : Nat) : Int) = x := by have := hx.1; omega
          rw [hx']
          go_wp2_with fail
          refine (alive_any _).mono ?_
          rintro e w4 ⟨rfl, hb4⟩
          have hxx : (x == x) = true := by simp
          go_wp2
          go_ret
          exact ⟨rfl, ((HB1.out.trans (hb2.mono (by omega))).trans (hb3.mono (by omega))).trans (hb4.mono (by omega))⟩
  case neg =>
    have hn' : (64 : Int) < (n : Int) := by omega
    have hc' : ¬ (c : Int) < 64 := by omega
    obtain ⟨L, hL, hl⟩ : ∃ L, NS .i64 w w.heap.size A 64 L ∧ 64 ≤ n := ⟨xs.take 64, hf.take (by omega), by omega⟩
    have HL := Lib.hid hL
    clear hf hL hn
    go_enter Try.func8, Try.ntmps8
    go_wp2_with fail
    go_loopw [5, 6, 20] (fun v a i wr => ∃ (k q : Nat) (F : List (Int × Int)), k ≤ 64 ∧ q ≤ 64 ∧ i = .int .i64 k ∧ a = .int .i64 q ∧ wr.ownsRow w.heap.size 24 2 v F.length (FM.flat F) ∧ FM.chain 0 F q ∧ Below w.heap.size w wr) (fun _ _ i _ => 64 - (intOf i).toNat)
    case atStart => exact ⟨0, 0, [], Nat.zero_le _, by omega, rfl, rfl, World.ownsRow_nil _ _ _ _, rfl, Below.refl _ _⟩
    case round =>
      obtain ⟨k, q, F, hk, hq, rfl, rfl, hown, hch, hbw⟩ := hrel
      have HCh := Lib.hid hch
      have hlen := FM.chain_len 0 q F hch
      have hs := hbw.size
      clear hch
      by_cases hlt : k < 64
      · obtain ⟨b, off, t, rfl, hbB, hd, hw, hct⟩ := (HL.out.below hbw).at_ hlt
        clear hd hw
        obtain ⟨m, hm, hm1, hm2⟩ := FM.width_ex t
        by_cases hbr : (64 : Int) < q + m
        · by_cases h64 : q < 64
          · have h64' : (q : Int) < 64 := by omega
            go_wp2_with (first
              | (at_builtin; refine wpList_append_own _ rfl _ _ 25 rfl w.heap.size 24 i0 _ 2 16 Try.underlying25 hi hz0 hz1 hz2 rfl (by decide) _ _ _ rfl (hown.alloc _) ⟨wr.heap.size, 0, none⟩ 1 1 [.int .i64 q, .int .i64 (64 - (q : Int))] rfl rfl (news_pair wr q (64 - (q : Int))) (by simp [Value.oneCell']) (by unfold maxLen; omega) (by omega) (by simp; omega) ?_; intro v' w1 hown' hgrow _))
            have hown2 : w1.ownsRow w.heap.size 24 2 v' (F ++ [((q : Int), 64 - (q : Int))]).length (FM.flat (F ++ [((q : Int), 64 - (q : Int))])) := by rw [FM.flat_snoc]; simpa using hown'
            have hch2 : FM.chain 0 (F ++ [((q : Int), 64 - (q : Int))]) 64 := by have := FM.chain_snoc 0 q F (64 - (q : Int)) HCh.out (by omega) (by omega); rwa [show q + (64 - (q : Int)).toNat = 64 by omega] at this
            have B1 : Below w.heap.size w w1 := (hbw.alloc hs _).grown hgrow (by simp; omega) (own_ge hown)
            clear hown hown' hgrow hbw HCh
            generalize F ++ [((q : Int), 64 - (q : Int))] = G at hown2 hch2
            obtain ⟨A5, c5, rfl, hF⟩ := fs_of_own hown2
            have hap := FM.chain_whole G hch2
            have hGl := FM.chain_len 0 64 G hch2
            have s1 := B1.size
            have HF := Lib.hid hF
            have HB1 := Lib.hid B1
            clear hF B1 hown2 hch2
            obtain ⟨hap1, hap2⟩ := hap
            have HM := Lib.hid hap2
            clear hap2
            go_wp2_with fail
            refine (unpack_ok x hx A5 G.length c5 G _ (by omega) HF.out hap1).mono ?_
            rintro e w2 ⟨g2, rfl, hN2, hb2⟩
            have s2 := hb2.size
            have HN2 := Lib.hid hN2
            clear hN2
            go_wp2_with fail
            refine (pack_any A5 G.length c5 G (some ⟨g2, 0, none⟩) G.length _ _ (by omega) ((HF.out.below hb2).more s2) HN2.out hap1).mono ?_
            rintro e w3 ⟨hp, hb3⟩
            rw [FM.pack_unpack x G 0, HM.out, Nat.zero_or, FM.and_all x hx] at hp
            have s3 := hb3.size
            rcases hp with ⟨V, hV, hVw, rfl⟩ | ⟨hp, _⟩
            case inr => cases hp
            injection hV with hV
            subst hV
            have hx' : ((x.toNat : Nat) : Int) = x := by have := hx.1; omega
            rw [hx']
            go_wp2_with fail
            refine (alive_any _).mono ?_
            rintro e w4 ⟨rfl, hb4⟩
            have hxx : (x == x) = true := by simp
            go_wp2
            go_ret
            exact ⟨rfl, ((HB1.out.trans (hb2.mono (by omega))).trans (hb3.mono (by omega))).trans (hb4.mono (by omega))⟩
          · have h64' : ¬ (q : Int) < 64 := by omega
            obtain rfl : q = 64 := by omega
            have hch2 := HCh.out
            have B1 := hbw
            have hown2 := hown
            clear hown hbw HCh
            obtain ⟨A5, c5, rfl, hF⟩ := fs_of_own hown2
            have hap := FM.chain_whole F hch2
            have hGl := FM.chain_len 0 64 F hch2
            have s1 := B1.size
            have HF := Lib.hid hF
            have HB1 := Lib.hid B1
            clear hF B1 hown2 hch2
            obtain ⟨hap1, hap2⟩ := hap
            have HM := Lib.hid hap2
            clear hap2
            go_wp2_with fail
            refine (unpack_ok x hx A5 F.length c5 F _ (by omega) HF.out hap1).mono ?_
            rintro e w2 ⟨g2, rfl, hN2, hb2⟩
            have s2 := hb2.size
            have HN2 := Lib.hid hN2
            clear hN2
            go_wp2_with fail
            refine (pack_any A5 F.length c5 F (some ⟨g2, 0, none⟩) F.length _ _ (by omega) ((HF.out.below hb2).more s2) HN2.out hap1).mono ?_
            rintro e w3 ⟨hp, hb3⟩
            rw [FM.pack_unpack x F 0, HM.out, Nat.zero_or, FM.and_all x hx] at hp
            have s3 := hb3.size
            rcases hp with ⟨V, hV, hVw, rfl⟩ | ⟨hp, _⟩
            case inr => cases hp
            injection hV with hV
            subst hV
            have hx' : ((x.toNat : Nat) : Int) = x := by have := hx.1; omega
            rw [hx']
            go_wp2_with fail
            refine (alive_any _).mono ?_
            rintro e w4 ⟨rfl, hb4⟩
            have hxx : (x == x) = true := by simp
            go_wp2
            go_ret
            exact ⟨rfl, ((HB1.out.trans (hb2.mono (by omega))).trans (hb3.mono (by omega))).trans (hb4.mono (by omega))⟩
        · go_wp2_with (first
            | (at_builtin; refine wpList_append_own _ rfl _ _ 25 rfl w.heap.size 24 i0 _ 2 16 Try.underlying25 hi hz0 hz1 hz2 rfl (by decide) _ _ _ rfl (hown.alloc _) ⟨wr.heap.size, 0, none⟩ 1 1 [.int .i64 q, .int .i64 m] rfl rfl (news_pair wr q m) (by simp [Value.oneCell']) (by unfold maxLen; omega) (by omega) (by simp; omega) ?_; intro v' w1 hown' hgrow _))
          have hown2 : w1.ownsRow w.heap.size 24 2 v' (F ++ [((q : Int), m)]).length (FM.flat (F ++ [((q : Int), m)])) := by rw [FM.flat_snoc]; simpa using hown'
          have B1 : Below w.heap.size w w1 := (hbw.alloc hs _).grown hgrow (by simp; omega) (own_ge hown)
          have hch2 := FM.chain_snoc 0 q F m HCh.out hm1 (by omega)
          clear hm
          go_roundw
          case rel => exact ⟨k + 1, q + m.toNat, F ++ [((q : Int), m)], by omega, by omega, by go_num, by go_num, hown2, hch2, B1⟩
          case measure => simp [intOf]; omega
      · by_cases h64 : q < 64
        · have h64' : (q : Int) < 64 := by omega
          go_wp2_with (first
            | (at_builtin; refine wpList_append_own _ rfl _ _ 25 rfl w.heap.size 24 i0 _ 2 16 Try.underlying25 hi hz0 hz1 hz2 rfl (by decide) _ _ _ rfl (hown.alloc _) ⟨wr.heap.size, 0, none⟩ 1 1 [.int .i64 q, .int .i64 (64 - (q : Int))] rfl rfl (news_pair wr q (64 - (q : Int))) (by simp [Value.oneCell']) (by unfold maxLen; omega) (by omega) (by simp; omega) ?_; intro v' w1 hown' hgrow _))
          have hown2 : w1.ownsRow w.heap.size 24 2 v' (F ++ [((q : Int), 64 - (q : Int))]).length (FM.flat (F ++ [((q : Int), 64 - (q : Int))])) := by rw [FM.flat_snoc]; simpa using hown'
          have hch2 : FM.chain 0 (F ++ [((q : Int), 64 - (q : Int))]) 64 := by have := FM.chain_snoc 0 q F (64 - (q : Int)) HCh.out (by omega) (by omega); rwa [show q + (64 - (q : Int)).toNat = 64 by omega] at this
          have B1 : Below w.heap.size w w1 := (hbw.alloc hs _).grown hgrow (by simp; omega) (own_ge hown)
          clear hown hown' hgrow hbw HCh
          generalize F ++ [((q : Int), 64 - (q : Int))] = G at hown2 hch2
          obtain ⟨A5, c5, rfl, hF⟩ := fs_of_own hown2
          have hap := FM.chain_whole G hch2
          have hGl := FM.chain_len 0 64 G hch2
          have s1 := B1.size
          have HF := Lib.hid hF
          have HB1 := Lib.hid B1
          clear hF B1 hown2 hch2
          obtain ⟨hap1, hap2⟩ := hap
          have HM := Lib.hid hap2
          clear hap2
          go_wp2_with fail
          refine (unpack_ok x hx A5 G.length c5 G _ (by omega) HF.out hap1).mono ?_
          rintro e w2 ⟨g2, rfl, hN2, hb2⟩
          have s2 := hb2.size
          have HN2 := Lib.hid hN2
          clear hN2
          go_wp2_with fail
          refine (pack_any A5 G.length c5 G (some ⟨g2, 0, none⟩) G.length _ _ (by omega) ((HF.out.below hb2).more s2) HN2.out hap1).mono ?_
          rintro e w3 ⟨hp, hb3⟩
          rw [FM.pack_unpack x G 0, HM.out, Nat.zero_or, FM.and_all x hx] at hp
          have s3 := hb3.size
          rcases hp with ⟨V, hV, hVw, rfl⟩ | ⟨hp, _⟩
          case inr => cases hp
          injection hV with hV
          subst hV
          have hx' : ((x.toNat : Nat) : Int) = x := by have := hx.1; omega
          rw [hx']
          go_wp2_with fail
          refine (alive_any _).mono ?_
          rintro e w4 ⟨rfl, hb4⟩
          have hxx : (x == x) = true := by simp
          go_wp2
          go_ret
          exact ⟨rfl, ((HB1.out.trans (hb2.mono (by omega))).trans (hb3.mono (by omega))).trans (hb4.mono (by omega))⟩
        · have h64' : ¬ (q : Int) < 64 := by omega
          obtain rfl : q = 64 := by omega
          have hch2 := HCh.out
          have B1 := hbw
          have hown2 := hown
          clear hown hbw HCh
          obtain ⟨A5, c5, rfl, hF⟩ := fs_of_own hown2
          have hap := FM.chain_whole F hch2
          have hGl := FM.chain_len 0 64 F hch2
          have s1 := B1.size
          have HF := Lib.hid hF
          have HB1 := Lib.hid B1
          clear hF B1 hown2 hch2
          obtain ⟨hap1, hap2⟩ := hap
          have HM := Lib.hid hap2
          clear hap2
          go_wp2_with fail
          refine (unpack_ok x hx A5 F.length c5 F _ (by omega) HF.out hap1).mono ?_
          rintro e w2 ⟨g2, rfl, hN2, hb2⟩
          have s2 := hb2.size
          have HN2 := Lib.hid hN2
          clear hN2
          go_wp2_with fail
          refine (pack_any A5 F.length c5 F (some ⟨g2, 0, none⟩) F.length _ _ (by omega) ((HF.out.below hb2).more s2) HN2.out hap1).mono ?_
          rintro e w3 ⟨hp, hb3⟩
          rw [FM.pack_unpack x F 0, HM.out, Nat.zero_or, FM.and_all x hx] at hp
          have s3 := hb3.size
          rcases hp with ⟨V, hV, hVw, rfl⟩ | ⟨hp, _⟩
          case inr => cases hp
          injection hV with hV
          subst hV
          have hx' : ((x.toNat : Nat) : Int) = x := by have := hx.1; omega
          rw [hx']
          go_wp2_with fail
          refine (alive_any _).mono ?_
          rintro e w4 ⟨rfl, hb4⟩
          have hxx : (x == x) = true := by simp
          go_wp2
          go_ret
          exact ⟨rfl, ((HB1.out.trans (hb2.mono (by omega))).trans (hb3.mono (by omega))).trans (hb4.mono (by omega))⟩
end Go.Proofs.Ytbiacpickfdeaaa
