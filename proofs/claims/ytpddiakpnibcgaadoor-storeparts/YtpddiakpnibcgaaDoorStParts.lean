/- The law StoreParts: each chunk is free, or among those of just its owner; together they are all. -/
import Derived.Test.YtpddiakpnibcgaaDoorStMath5
namespace Go.Proofs.YtpddiakpnibcgaaDoor
open Go.RowKit Go.Maps

def PartsAt (w3 : World) (own : Nat → Nat) (C b : Nat) (y x : Value) (wr : World) : Prop :=
  ∃ (k : Nat) (D : DataW Unit), k ≤ C ∧ x = .int .i64 k ∧ y = .int .i64 (sumTo own C k : Nat) ∧ Below w3.heap.size w3 wr ∧ CountsAt wr b k (cnts own k) D

set_option maxRecDepth 100000 in
set_option maxHeartbeats 4000000 in
theorem parts_walk (c k : Int) (A : Option Addr) (n c0 : Nat) (l : List (Int × Int × Int × Int × Nat)) (w : World) (hl : SA w w.heap.size A n l) (hT : Tab w) :
    Calls Tryd.prog 9 #[.agg #[.int .i64 c, .int .i64 k], .slice A n c0] w fun e w' => e = .returned (.bool true) ∧ Below w.heap.size w w' := by
  have hmm := @run_makeMap Tryd.prog
  have hb0 := (Below.refl w.heap.size w).alloc (Nat.le_refl _) (.cells #[.int .i64 c, .int .i64 k] 23)
  have HG := Lib.hid (grown_any c k A n c0 l _ ((hl.below hb0).more (by simp)) (hT.below hb0 hT.pos))
  have HB0 := Lib.hid hb0
  clear hl hb0
  go_enter Tryd.func9, Tryd.ntmps9
  go_wp2_with fail
  refine HG.out.mono ?_
  rintro e w1 hgp
  rcases hgp with ⟨h80, rfl, hb1⟩ | ⟨h80, B, R, C, K, own, wd, rfl, hCK, hP⟩
  · have B1 := HB0.out.trans (hb1.mono HB0.out.size)
    have T1 := hT.below B1 hT.pos
    have HA := Lib.hid (fun (W : World) (hb : Below w1.heap.size w1 W) => alive_any W (T1.below hb T1.pos))
    have HB1 := Lib.hid B1
    clear HB0 HG hb1 B1 T1
    have d : (80 : Int) < (n : Int) := by omega
    go_wp2_with fail
    refine (HA.out _ (Below.refl _ _)).mono ?_
    rintro e w2 ⟨rfl, hb2⟩
    go_wp2_with fail
    refine (HA.out _ hb2).mono ?_
    rintro e w3 ⟨rfl, hb3⟩
    go_wp2
    go_ret
    exact ⟨rfl, HB1.out.trans ((hb2.trans (hb3.mono hb2.size)).mono HB1.out.size)⟩
  · have hP1 := hP.base HB0.out
    have HA := Lib.hid (alive_any w1 hP1.held.tab)
    have HP1 := Lib.hid hP1
    clear hP hP1 HB0 HG
    go_wp2_with fail
    refine HA.out.mono ?_
    rintro e w2 ⟨rfl, hb2⟩
    have hP2 := HP1.out.later hT hb2
    have HP2 := Lib.hid hP2
    have HF1 := Lib.hid (free_any hP2.held.st)
    have hC1 := hP2.rf.C1
    have hK1 := hP2.rf.K1
    clear hP2 hb2 HA HP1
    go_wp2_with fail
    refine HF1.out.mono ?_
    rintro e w3 ⟨rfl, mm, hmm3⟩
    have hP3 : Pair w w3 B R C K own wd := by subst hmm3; exact HP2.out.still rfl rfl rfl rfl
    have m1 := hP3.rf.size
    have m2 := hP3.rf.owners
    have hmlt := hP3.rwin.1.2
    have HH3 := Lib.hid hP3.held
    have HOL := Lib.hid hP3.held.st.olt
    clear hmm3 HF1 HP2 hP3
    go_wp2_with fail
    go_loopw [7, 41] (PartsAt w3 own C w3.heap.size) (fun _ x _ => C - (intOf x).toNat)
    case atStart => exact ⟨0, _, Nat.zero_le _, rfl, by rw [sum_start], (Below.refl _ _).alloc (Nat.le_refl _) _, World.ownsMap_made _ _ _ _, fun o => by rw [cnts_start]; rfl⟩
    case round =>
      obtain ⟨i, D, hi, rfl, rfl, hbw, hct⟩ := hrel
      have m1w := (hbw.cell (p := ⟨R.m, 1, none⟩) hmlt).trans m1
      have m2w := (hbw.cell (p := ⟨R.m, 2, none⟩) hmlt).trans m2
      by_cases hlt : i < C
      · have hH := HH3.out.later hT hbw
        have F1 := owner_any hH.st (i : Int)
        rw [ownerOf_in hlt] at F1
        have HF1 := Lib.hid F1
        have HCT := Lib.hid hct
        by_cases hz : own i = 0
        · have em : (i : Int) * (K : Int) = ((i * K : Nat) : Int) := by simp
          have hik : i * K ≤ 144 := by
            have := Nat.mul_le_mul (show i ≤ 12 by omega) hCK.2
            omega
          have hl2 := mul_at_lt hlt (show 0 < K by omega)
          rw [Nat.add_zero] at hl2
          have hd : i * K / K = i := Nat.mul_div_cancel _ (by omega)
          have ha : addrE own C K ((i * K : Nat) : Int) = 17 := by rw [addrE_in hl2, hd, if_pos hz]
          have W1 := write_no hH.st ((i * K : Nat) : Int) 1 (by rw [ha]; omega)
          rw [ha] at W1
          have HW1 := Lib.hid W1
          have HS := Lib.hid (sum_free own C i hz)
          have HCN := Lib.hid (show CountsAt wr w3.heap.size (i + 1) (cnts own (i + 1)) D from ⟨hct.1.mono (by omega), fun o => by rw [hct.2 o, cnts_free own i o hz]⟩)
          rw [hz] at HF1
          clear F1 hct hH W1 ha hd hl2 hz
          generalize i * K = a at *
          generalize sumTo own C i = sm at *
          go_wp2_with (first
            | (go_at_call 15; refine HF1.out.mono ?_; rintro e w' ⟨rfl, rfl⟩)
            | (go_at_call 21; refine HW1.out.mono ?_; rintro e w' ⟨rfl, rfl⟩))
          go_roundw
          case rel => exact ⟨i + 1, D, by omega, by go_num, by rw [HS.out], hbw, HCN.out⟩
          case measure => simp [intOf]; omega
        · have O1 := owned_any hH.st (own i : Int) hH.win
          have hlen : (BM.ons (hers own (own i : Int)) C).length ≤ 12 := by rw [BM.ons_len]; have := BM.cnt_le (hers own (own i : Int)) C; omega
          have hcount : (BM.ons (hers own (own i : Int)) C).count i = 1 := by
            rw [ons_count, if_pos ⟨hlt, by unfold hers; simp; omega⟩]
          have hol := HOL.out i
          have HO1 := Lib.hid O1
          have HCOUNT := Lib.hid hcount
          have HC1 := Lib.hid (cnts_same own i hz)
          have HC2 := Lib.hid (fun o => cnts_other own i o)
          have hcl := cnts_le own i (own i)
          have HSF := Lib.hid (fun (h0 : cnts own i (own i) = 0) => sum_first own C i hz (by rw [← cnts_nth own i hz]; exact h0))
          have HSA := Lib.hid (fun (h0 : cnts own i (own i) ≠ 0) => sum_again own C i (by rw [← cnts_nth own i hz]; exact h0))
          have HOA := Lib.hid (fun (W : World) (hb : Below w3.heap.size w3 W) => owned_any (HH3.out.later hT hb).st (own i : Int) (HH3.out.later hT hb).win)
          have HCX := Lib.hid (hct.2 (own i))
          have hsl : sumTo own C i ≤ 1000 := by
            unfold sumTo
            have e1 := frees_le own C
            have e2 := BM.cnt_le (seen own i) C
            omega
          clear O1 hcount F1 hH hct
          generalize BM.ons (hers own (own i : Int)) C = xs at *
          generalize hcn : cnts own i (own i) = cn at *
          clear hcn
          generalize own i = x at *
          generalize sumTo own C i = sm at *
          have dx : ((x : Int) == 0) = false := by simp; omega
          go_wp2_with fail
          refine HF1.out.mono ?_
          rintro e w' ⟨rfl, rfl⟩
          go_wp2_with fail
          refine HO1.out.mono ?_
          intro e w4 hp4
          obtain ⟨A4, ca4, rfl, his4, hb4, hA4⟩ := hp4.use
          obtain ⟨A5, c5, e5, hcells⟩ := his4
          cases e5
          have HCE := Lib.hid hcells
          have hbw4 := hbw.trans (hb4.mono hbw.size)
          have HCT4 := Lib.hid (HCT.out.block (hb4.block _ HCT.out.lt))
          have hsz4 := hbw4.size
          clear hp4 hcells hA4 HO1 HCT hb4
          go_wp2_with fail
          go_loop [12, 63] (fun s x => ∃ j : Nat, j ≤ xs.length ∧ x = .int .i64 j ∧ s = .int .i64 ((xs.take j).count i : Nat)) (fun _ x => xs.length - (intOf x).toNat)
          case atStart => exact ⟨0, Nat.zero_le _, rfl, by simp⟩
          case round =>
            obtain ⟨j, hj, rfl, rfl⟩ := hrel
            by_cases hl2 : j < xs.length
            · obtain ⟨y, hy⟩ : ∃ y, xs[j]? = some y := ⟨xs[j]'hl2, by simp⟩
              obtain ⟨g5, o5, rfl, b5⟩ := HCE.out j y hy
              have HTK := Lib.hid (count_take (c := i) hy)
              have hcl2 : (xs.take j).count i ≤ j := Nat.le_trans List.count_le_length (by simp; omega)
              clear hy
              generalize (xs.take j).count i = q at *
              by_cases hyi : y = i
              · have e9 := HTK.out
                rw [if_pos hyi] at e9
                have HE9 := Lib.hid e9
                subst hyi
                clear e9
                have dd : ((y : Int) == (y : Int)) = true := by simp
                go_wp2
                go_round
                case rel => exact ⟨j + 1, by omega, by go_num, by rw [HE9.out]; go_num⟩
                case measure => simp [intOf]; omega
              · have e9 := HTK.out
                rw [if_neg hyi] at e9
                have HE9 := Lib.hid e9
                clear e9
                have dd : ((y : Int) == (i : Int)) = false := by simp; omega
                go_wp2
                go_round
                case rel => exact ⟨j + 1, by omega, by go_num, by rw [HE9.out]; rfl⟩
                case measure => simp [intOf]; omega
            · have e9 : (xs.take j).count i = 1 := by
                rw [List.take_of_length_le (by omega)]
                exact HCOUNT.out
              rw [e9]
              clear e9
              by_cases h0 : cn = 0
              · have HSF2 := Lib.hid (HSF.out h0)
                subst h0
                clear HSF HSA
                go_wp2_with (first
                  | (at_lookup; refine wpList_lookup_own_int _ rfl _ _ 63 rfl 3 3 .i64 law3 Tryd.underlying63 Tryd.underlying3 (zero3 _) w3.heap.size i D rfl HCT4.out.1 _ _ rfl (key3 x hol) ?_; intro cc hat hwc; obtain rfl := count_same HCX.out hat; clear hat hwc)
                  | (at_mapUpdate; refine wpList_mapUpdate_own _ rfl _ _ _ 63 rfl 3 3 law3 Tryd.underlying63 _ w3.heap.size i D rfl HCT4.out.1 (by unfold maxLen; omega) _ _ _ rfl rfl (key3 x hol) _ [] (plainElem_int Tryd.underlying3 (WalkArith.wf_i64 (by omega))) ?_; intro w5 hown5 hgrow5; have HOW5 := Lib.hid hown5; have HGR5 := Lib.hid hgrow5; clear hown5 hgrow5)
                  | (at_lookup; refine wpList_lookup_own_int _ rfl _ _ 63 rfl 3 3 .i64 law3 Tryd.underlying63 Tryd.underlying3 (zero3 _) w3.heap.size (i + 1) _ rfl HOW5.out _ _ rfl (key3 x hol) ?_; intro cc2 hat2 hwc2; obtain rfl := count_same (n := 1) ((HCT4.out.put (g := cnts own (i + 1)) x 1 HOW5.out HC1.out HC2.out).2 x |>.trans (by rw [HC1.out])) hat2; clear hat2 hwc2))
                have B5 : Below w3.heap.size w3 w5 := hbw4.grown HGR5.out hbw4.size (fun j hj => by cases hj; exact Nat.le_refl _)
                have HC5 := Lib.hid (HCT4.out.put (g := cnts own (i + 1)) x 1 HOW5.out HC1.out HC2.out)
                refine (HOA.out w5 B5).mono ?_
                intro e w6 hp6
                obtain ⟨A6, ca6, rfl, _, hb6, _⟩ := hp6.use
                have HC6 := Lib.hid (HC5.out.block (hb6.block _ HC5.out.lt))
                have HB6 := Lib.hid (B5.trans (hb6.mono B5.size))
                clear hp6 hb6 B5 HOA HC5 HOW5 HGR5
                go_wp2
                go_roundw
                case rel => exact ⟨i + 1, _, by omega, by go_num, by rw [HSF2.out]; go_num, HB6.out, HC6.out⟩
                case measure => simp [intOf]; omega
              · have HSA2 := Lib.hid (HSA.out h0)
                clear HSF HSA HOA
                have d1 : ((cn : Int) + 1 == 1) = false := by simp; omega
                have d2 : (((cn + 1 : Nat) : Int) == 1) = false := by simp; omega
                go_wp2_with (first
                  | (at_lookup; refine wpList_lookup_own_int _ rfl _ _ 63 rfl 3 3 .i64 law3 Tryd.underlying63 Tryd.underlying3 (zero3 _) w3.heap.size i D rfl HCT4.out.1 _ _ rfl (key3 x hol) ?_; intro cc hat hwc; obtain rfl := count_same HCX.out hat; clear hat hwc)
                  | (at_mapUpdate; refine wpList_mapUpdate_own _ rfl _ _ _ 63 rfl 3 3 law3 Tryd.underlying63 _ w3.heap.size i D rfl HCT4.out.1 (by unfold maxLen; omega) _ _ _ rfl rfl (key3 x hol) _ [] (plainElem_int Tryd.underlying3 (WalkArith.wf_i64 (by omega))) ?_; intro w5 hown5 hgrow5; rw [show (cn : Int) + 1 = ((cn + 1 : Nat) : Int) by omega] at hown5; have HC5 := Lib.hid (HCT4.out.put (g := cnts own (i + 1)) x (cn + 1) hown5 HC1.out HC2.out); have HGR5 := Lib.hid hgrow5; clear hown5 hgrow5)
                  | (at_lookup; refine wpList_lookup_own_int _ rfl _ _ 63 rfl 3 3 .i64 law3 Tryd.underlying63 Tryd.underlying3 (zero3 _) w3.heap.size (i + 1) _ rfl HC5.out.1 _ _ rfl (key3 x hol) ?_; intro cc2 hat2 hwc2; obtain rfl := count_same (n := cn + 1) ((HC5.out.2 x).trans (by rw [HC1.out])) hat2; clear hat2 hwc2))
                have B5 := Lib.hid (hbw4.grown HGR5.out hbw4.size (fun j hj => by cases hj; exact Nat.le_refl _))
                go_roundw
                case rel => exact ⟨i + 1, _, by omega, by go_num, by rw [HSA2.out], B5.out, HC5.out⟩
                case measure => simp [intOf]; omega
      · obtain rfl : C = i := by omega
        rw [sum_end]
        have HB := Lib.hid (HH3.out.later hT hbw).bel
        have dC : ((C : Int) == (C : Int)) = true := by simp
        go_wp2
        go_ret
        exact ⟨ret_bool (by simp), HB.out⟩
end Go.Proofs.YtpddiakpnibcgaaDoor
