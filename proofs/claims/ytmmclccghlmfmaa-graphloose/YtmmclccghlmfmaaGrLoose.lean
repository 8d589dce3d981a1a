/- The law GraphLoose. -/
import Derived.Test.YtmmclccghlmfmaaGrApp
import Derived.Test.YtmmclccghlmfmaaGrOrd
namespace Go.Proofs.Ytmmclccghlmfmaa
open Go.RowKit Go.Lib Go.Sort Go.Maps
set_option linter.unusedVariables false

theorem EI.dbl {es : List (Int × Int)} (h : EI es) : EI (GM.dbl es) := fun e he => by
  obtain ⟨f, hf, h1⟩ := List.mem_flatMap.1 he
  have := h f hf
  simp at h1
  rcases h1 with rfl | rfl
  · exact this
  · exact ⟨this.2, this.2⟩
theorem EI.off {es : List (Int × Int)} (h : EI es) (o : List Int) : EI (GM.off o es) := fun e he => h e (List.mem_filter.1 he).1
theorem GM.dbl_take {es : List (Int × Int)} {k : Nat} (h : k < es.length) : GM.dbl (es.take (k + 1)) = GM.dbl (es.take k) ++ [(es[k].1, es[k].2), (es[k].1, es[k].2), (es[k].2, es[k].2)] := by
  rw [List.take_succ_eq_append_getElem h, show es[k] = (es[k].1, es[k].2) from rfl, GM.dbl_snoc]
theorem GM.off_take {o : List Int} {es : List (Int × Int)} {k : Nat} (h : k < es.length) : GM.off o (es.take (k + 1)) = GM.off o (es.take k) ++ if es[k].1 ∈ o then [] else [(es[k].1, es[k].2)] := by
  rw [List.take_succ_eq_append_getElem h, show es[k] = (es[k].1, es[k].2) from rfl, GM.off_snoc]

set_option maxHeartbeats 4000000 in
set_option maxRecDepth 100000 in
theorem loose_walk (A : Option Addr) (n c : Nat) (xs : List Int) (B : Option Addr) (m d : Nat) (es : List (Int × Int)) (C : Option Addr) (t z : Nat) (fs : List (Int × Int)) (w : World) (hz : ZS w A n xs ∧ ZI xs ∧ n ≤ c) (he : ES w B m es ∧ EI es ∧ m ≤ d) (hf : ES w C t fs ∧ EI fs ∧ t ≤ z) :
    Calls Try.prog 6 #[.slice A n c, .slice B m d, .slice C t z] w fun e w' => e = .returned (.bool true) ∧ Below w.heap.size w w' := by
  obtain ⟨i0, hi0, hq0, hq1, hq2⟩ := info_parts infoE
  obtain ⟨hz1, hzi, hnc⟩ := hz
  obtain ⟨he1, hei, hmd⟩ := he
  obtain ⟨hf1, hfi, htz⟩ := hf
  have hlx := hz1.len
  have hle := he1.len
  have hlf := hf1.len
  have HZ := Lib.hid hz1
  have HZI := Lib.hid hzi
  have HE := Lib.hid he1
  have HF := Lib.hid hf1
  have HEI := Lib.hid hei
  have HFI := Lib.hid hfi
  clear hz1 hzi he1 hei hf1 hfi
  go_enter Try.func6, Try.ntmps6
  go_wp2_with fail
  refine (alive_any _).mono ?_
  rintro e w1 ⟨rfl, hb1⟩
  have B1 := Lib.hid hb1
  clear hb1
  go_wp2_with fail
  refine (great3 w1 n m t).mono ?_
  rintro e w2 ⟨rfl, rfl⟩
  have hb2 := (Below.refl w1.heap.size w1).alloc (Nat.le_refl _) (.cells #[.int .i64 n, .int .i64 m, .int .i64 t] 3)
  obtain ⟨w2, hw2⟩ : ∃ w2, w2 = w1.alloc (.cells #[.int .i64 n, .int .i64 m, .int .i64 t] 3) := ⟨_, rfl⟩
  rw [← hw2] at hb2 ⊢
  have B2 := Lib.hid (B1.out.trans (hb2.mono B1.out.size))
  clear B1 hb2 hw2
  by_cases hgr : 80 < n ∨ 80 < m ∨ 80 < t
  · have hg : decide (80 < n ∨ 80 < m ∨ 80 < t) = true := decide_eq_true hgr
    rw [hg]
    clear hgr hg
    go_wp2_with fail
    refine (alive_any _).mono ?_
    rintro e w3 ⟨rfl, hb3⟩
    go_wp2
    go_ret
    exact ⟨rfl, B2.out.trans (hb3.mono B2.out.size)⟩
  · have hg : decide (80 < n ∨ 80 < m ∨ 80 < t) = false := decide_eq_false hgr
    rw [hg]
    have ht : t ≤ 80 := by omega
    have hn : n ≤ 80 := by omega
    have hm : m ≤ 80 := by omega
    clear hgr hg
    have HR := Lib.hid (order_any (c := c) (d := d) (HZ.out.below B2.out) (HE.out.below B2.out) HZI.out HEI.out (by omega) (by omega))
    go_wp2_with fail
    refine HR.out.mono ?_
    rintro e w3 ⟨v, rfl, hv, hb3⟩
    obtain ⟨O, hO⟩ : ∃ O, O = GM.ord es xs := ⟨_, rfl⟩
    have hlo : GM.ord (GM.dbl es ++ GM.off O fs) xs = O := by rw [hO]; exact GM.loose es fs xs
    rw [← hO] at hv
    obtain ⟨A3, c3, rfl, hc3⟩ := hv.slice
    have hol : O.length ≤ 160 := by have := GM.ord_len es xs; rw [hO]; omega
    obtain ⟨o, ho⟩ : ∃ o, o = O.length := ⟨_, rfl⟩
    have hv' := hv.zs
    rw [← ho] at hv' hol hc3 ⊢
    have HV := Lib.hid hv'
    have HLO := Lib.hid hlo
    have B3 := Lib.hid (B2.out.trans (hb3.mono B2.out.size))
    have HE3 := Lib.hid (HE.out.below B3.out)
    have HF3 := Lib.hid (HF.out.below B3.out)
    have HALL := Lib.hid ((EI.dbl HEI.out).app (EI.off HFI.out O))
    clear hv hv' hO ho hb3 HR B2 hlo
    go_wp2_with fail
    go_loopw [8, 31] (fun u i wr => ∃ k : Nat, k ≤ m ∧ i = .int .i64 k ∧ Hid (NewE 37 w3.heap.size wr u (GM.dbl (es.take k))) ∧ Hid (Below w3.heap.size w3 wr)) (fun _ i _ => m - (intOf i).toNat)
    case atStart => exact ⟨0, Nat.zero_le _, rfl, Lib.hid (NewE.nil _ _ _), Lib.hid (Below.refl _ _)⟩
    case round =>
      obtain ⟨k, hk, rfl, HU, HB⟩ := hrel
      by_cases hlt : k < m
      · obtain ⟨b, off, rfl, hb, c0, c1⟩ := HE3.out.at_ hlt
        have d0 := (HB.out.cell (p := ⟨b, _, none⟩) hb).trans c0
        have d1 := (HB.out.cell (p := ⟨b, _, none⟩) hb).trans c1
        have hst := GM.dbl_take (es := es) (k := k) (by omega)
        obtain ⟨e, he⟩ : ∃ e, e = es[k]'(by omega) := ⟨_, rfl⟩
        obtain ⟨x, y⟩ := e
        rw [← he] at d0 d1 hst
        have hL : (GM.dbl (es.take k)).length ≤ 240 := by rw [GM.dbl_len, List.length_take]; omega
        obtain ⟨L, hLe⟩ : ∃ L, L = GM.dbl (es.take k) := ⟨_, rfl⟩
        rw [← hLe] at hst hL HU
        have HST := Lib.hid hst
        have hlo := HB.out.size
        clear c0 c1 he hst hLe
        go_wp2_with (first
          | (at_builtin; refine wpList_append_own _ rfl _ _ 23 rfl w3.heap.size 37 i0 _ 2 16 Try.underlying23 hi0 hq0 hq1 hq2 rfl (by decide) _ _ _ rfl ((HU.out.alloc _).alloc _).own ⟨wr.heap.size + 1, 0, none⟩ 3 3 [.int .i64 x, .int .i64 y, .int .i64 x, .int .i64 y, .int .i64 y, .int .i64 y] rfl rfl (World.news_of_block (by exact Whole.fresh' (by simp))) (by simp [Value.oneCell']) (by unfold maxLen; omega) (by omega) (by simp; omega) ?_; intro v' w4 hown' hgrow _; have HO := Lib.hid hown'; have HG := Lib.hid hgrow; clear hown' hgrow))
        go_roundw
        case rel => exact ⟨k + 1, by omega, by go_num, by rw [HST.out]; exact Lib.hid (NewE.more (ys := [(x, y), (x, y), (y, y)]) rfl HO.out), Lib.hid (((HB.out.alloc hlo _).alloc (by simp; omega) _).grown HG.out (by simp; omega) (fun g hg => (HU.out.own.lt g hg).1))⟩
        case measure => simp [intOf]; omega
      · obtain rfl : k = m := by omega
        have hu := HU.out
        rw [List.take_of_length_le (by omega)] at hu
        have hdl : (GM.dbl es).length ≤ 240 := by rw [GM.dbl_len]; omega
        obtain ⟨D, hD⟩ : ∃ D, D = GM.dbl es := ⟨_, rfl⟩
        rw [← hD] at hu hdl HALL HLO
        have HU0 := Lib.hid (show NewE 37 w3.heap.size wr u8 (D ++ GM.off O (fs.take 0)) by simpa [GM.off] using hu)
        have HH := Lib.hid (fun (W : World) (hb : Below w3.heap.size w3 W) (y : Int) => has_any (c := c3) (HV.out.below hb) (by omega) y)
        clear hu hD HU
        go_wp2_with fail
        go_loopw [8, 48] (fun u i wk => ∃ k : Nat, k ≤ t ∧ i = .int .i64 k ∧ Hid (NewE 37 w3.heap.size wk u (D ++ GM.off O (fs.take k))) ∧ Hid (Below w3.heap.size w3 wk)) (fun _ i _ => t - (intOf i).toNat)
        case atStart => exact ⟨0, Nat.zero_le _, rfl, HU0, HB⟩
        case round =>
          obtain ⟨j, hj, rfl, HU, HBj⟩ := hrel
          by_cases hlt : j < t
          · obtain ⟨b, off, rfl, hb, c0, c1⟩ := HF3.out.at_ hlt
            have d0 := (HBj.out.cell (p := ⟨b, _, none⟩) hb).trans c0
            have d1 := (HBj.out.cell (p := ⟨b, _, none⟩) hb).trans c1
            have hst := GM.off_take (o := O) (es := fs) (k := j) (by omega)
            obtain ⟨e, he⟩ : ∃ e, e = fs[j]'(by omega) := ⟨_, rfl⟩
            obtain ⟨x, y⟩ := e
            rw [← he] at d0 d1 hst
            have hL : (D ++ GM.off O (fs.take j)).length ≤ 320 := by
              have := GM.off_len O (fs.take j)
              rw [List.length_take] at this
              rw [List.length_append]
              omega
            obtain ⟨L, hLe⟩ : ∃ L, L = D ++ GM.off O (fs.take j) := ⟨_, rfl⟩
            rw [← hLe] at hL HU
            have hba := HBj.out.alloc HBj.out.size (.cells #[.int .i64 x, .int .i64 y] 37)
            have h1 := HH.out _ hba x
            have HBA := Lib.hid hba
            have hlo := HBj.out.size
            clear c0 c1 he hba
            by_cases hin : x ∈ O
            · rw [if_pos hin, List.append_nil] at hst
              have HST := Lib.hid (show D ++ GM.off O (fs.take (j + 1)) = L by rw [hst, hLe])
              rw [decide_eq_true hin] at h1
              have H1 := Lib.hid h1
              clear hst hin h1 hLe
              go_wp2_with fail
              refine H1.out.mono ?_
              rintro e w7 ⟨rfl, rfl⟩
              go_wp2
              go_roundw
              case rel => exact ⟨j + 1, by omega, by go_num, by rw [HST.out]; exact Lib.hid (HU.out.alloc _), HBA⟩
              case measure => simp [intOf]; omega
            · rw [if_neg hin] at hst
              have HST := Lib.hid (show D ++ GM.off O (fs.take (j + 1)) = L ++ [(x, y)] by rw [hst, hLe, List.append_assoc])
              rw [decide_eq_false hin] at h1
              have H1 := Lib.hid h1
              clear hst hin h1 hLe
              go_wp2_with fail
              refine H1.out.mono ?_
              rintro e w7 ⟨rfl, rfl⟩
              go_wp2_with (first
                | (at_builtin; refine wpList_append_own _ rfl _ _ 23 rfl w3.heap.size 37 i0 _ 2 16 Try.underlying23 hi0 hq0 hq1 hq2 rfl (by decide) _ _ _ rfl ((HU.out.alloc _).alloc _).own ⟨wr.heap.size + 1, 0, none⟩ 1 1 [.int .i64 x, .int .i64 y] rfl rfl (World.news_of_block (by exact Whole.fresh' (by simp))) (by simp [Value.oneCell']) (by unfold maxLen; omega) (by omega) (by simp; omega) ?_; intro v' w4 hown' hgrow _; have HO := Lib.hid hown'; have HG := Lib.hid hgrow; clear hown' hgrow))
              go_roundw
              case rel => exact ⟨j + 1, by omega, by go_num, by rw [HST.out]; exact Lib.hid (NewE.more (ys := [(x, y)]) rfl HO.out), Lib.hid ((HBA.out.alloc (by simp; omega) _).grown HG.out (by simp; omega) (fun g hg => (HU.out.own.lt g hg).1))⟩
              case measure => simp [intOf]; omega
          · obtain rfl : j = t := by omega
            have hu := HU.out
            rw [List.take_of_length_le (by omega)] at hu
            have hL : (D ++ GM.off O fs).length ≤ 320 := by
              have := GM.off_len O fs
              rw [List.length_append]
              omega
            obtain ⟨L, hLe⟩ : ∃ L, L = D ++ GM.off O fs := ⟨_, rfl⟩
            rw [← hLe] at hL hu HLO HALL
            obtain ⟨A4, c4, rfl, _⟩ := hu.slice
            obtain ⟨l, hl⟩ : ∃ l, l = L.length := ⟨_, rfl⟩
            have hes := hu.es
            rw [← hl] at hes hL ⊢
            have h4 := order_any (c := c) (d := c4) (HZ.out.below (B3.out.trans (HBj.out.mono B3.out.size))) hes HZI.out HALL.out (by omega) (by omega)
            rw [HLO.out] at h4
            have H4 := Lib.hid h4
            clear h4 hu hes hl hLe
            go_wp2_with fail
            refine H4.out.mono ?_
            rintro e w5 ⟨v, rfl, hv, hb5⟩
            obtain ⟨A5, c5, rfl, _⟩ := hv.slice
            have B5 := Lib.hid (HBj.out.trans (hb5.mono HBj.out.size))
            have hlO := HV.out.len
            have hv5 := hv.zs
            rw [hlO] at hv5 ⊢
            have HS := Lib.hid (same_any (c := c5) (d := c3) hv5 (HV.out.below B5.out) (by omega))
            clear hv hb5 H4 hv5 hlO
            go_wp2_with fail
            refine HS.out.mono ?_
            rintro e w6 ⟨rfl, q, rfl⟩
            go_wp2
            go_ret
            exact ⟨rfl, bdrewN (B3.out.trans (B5.out.mono B3.out.size)) q⟩
end Go.Proofs.Ytmmclccghlmfmaa
