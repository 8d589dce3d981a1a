/- The law GraphJoins. -/
import Derived.Test.YtmmclccghlmfmaaGrApp
import Derived.Test.YtmmclccghlmfmaaGrLost
import Derived.Test.YtmmclccghlmfmaaGrSort
namespace Go.Proofs.Ytmmclccghlmfmaa
open Go.RowKit Go.Lib Go.Sort Go.Maps
set_option linter.unusedVariables false

theorem ZI.app {xs ys : List Int} (h : ZI xs) (k : ZI ys) : ZI (xs ++ ys) := fun e he => (List.mem_append.1 he).elim (h e) (k e)
namespace GM
/-- All that the edges tell of. -/
def nodes (es : List (Int × Int)) : List Int := es.flatMap fun e => [e.1, e.2]
theorem nodes_take {es : List (Int × Int)} {k : Nat} (h : k < es.length) : nodes (es.take (k + 1)) = nodes (es.take k) ++ [es[k].1, es[k].2] := by
  unfold nodes
  rw [List.take_succ_eq_append_getElem h, List.flatMap_append]
  rfl
theorem nodes_len (es : List (Int × Int)) : (nodes es).length = 2 * es.length := by
  induction es with
  | nil => rfl
  | cons e es ih => simp [nodes] at *; omega
theorem join_norm (es : List (Int × Int)) (a b : List Int) : BG.norm (rch es a ++ rch es b) = rch es (a ++ b) := by
  unfold rch
  exact BG.norm_eq fun y => by rw [List.mem_append, BG.mem_norm, BG.mem_norm, mem_join]
end GM
theorem NewZ.snoc2 {w : World} {base : Nat} {v : Value} {l : List Int} {x y : Int} (h : w.ownsRow base 3 1 v (l.length + 2) (l.map (Value.int .i64) ++ [.int .i64 x, .int .i64 y])) : NewZ base w v (l ++ [x, y]) := by
  unfold NewZ
  rw [List.map_append, List.length_append]
  exact h

set_option maxHeartbeats 4000000 in
set_option maxRecDepth 100000 in
theorem joins_walk (A : Option Addr) (n c : Nat) (xs : List Int) (B : Option Addr) (m d : Nat) (ys : List Int) (C : Option Addr) (t z : Nat) (es : List (Int × Int)) (w : World) (hz : ZS w A n xs ∧ ZI xs ∧ n ≤ c) (hf : ZS w B m ys ∧ ZI ys ∧ m ≤ d) (he : ES w C t es ∧ EI es ∧ t ≤ z) :
    Calls Try.prog 5 #[.slice A n c, .slice B m d, .slice C t z] w fun e w' => e = .returned (.bool true) ∧ Below w.heap.size w w' := by
  obtain ⟨i0, hi0, hq0, hq1, hq2⟩ := info_parts infoZ
  obtain ⟨hz1, hzi, hnc⟩ := hz
  obtain ⟨hf1, hfi, hmd⟩ := hf
  obtain ⟨he1, hei, htz⟩ := he
  have hle := he1.len
  have hlx := hz1.len
  have hly := hf1.len
  have HA := Lib.hid (fun (W : World) (hb : Below w.heap.size w W) => hz1.below hb)
  have HE := Lib.hid (fun (W : World) (hb : Below w.heap.size w W) => he1.below hb)
  have HB := Lib.hid (fun (W : World) (hb : Below w.heap.size w W) => hf1.below hb)
  have HAI := Lib.hid hzi
  have HBI := Lib.hid hfi
  have HJI := Lib.hid (hzi.app hfi)
  have HEI := Lib.hid hei
  have hxl : (GM.rch es xs).length ≤ n + t := by have := GM.rch_len es xs; omega
  have hyl : (GM.rch es ys).length ≤ m + t := by have := GM.rch_len es ys; omega
  have hjn := GM.join_norm es xs ys
  have hjl : (xs ++ ys).length = n + m := by rw [List.length_append]; omega
  clear hz1 hzi he1 hei hf1 hfi
  go_enter Try.func5, Try.ntmps5
  go_wp2_with fail
  refine (alive_any _).mono ?_
  rintro e w1 ⟨rfl, hb1⟩
  have B1 := Lib.hid hb1
  clear hb1
  go_wp2_with fail
  refine (great3 w1 n m t).mono ?_
  rintro e w2 ⟨rfl, rfl⟩
  have hb2 := (Below.refl w1.heap.size w1).alloc (Nat.le_refl _) (.cells #[.int .i64 n, .int .i64 m, .int .i64 t] 3)
  obtain ⟨w2, hw2⟩ : ∃ w2, w2 = w1.alloc (.cells #[.int .i64 n, .int .i64 m, .int .i64 t] 3) := ⟨_, rfl⟩
  rw [← hw2] at hb2 ⊢
  have B2 := Lib.hid (B1.out.trans (hb2.mono B1.out.size))
  clear B1 hb2 hw2
  by_cases hgr : 80 < n ∨ 80 < m ∨ 80 < t
  · have hg : decide (80 < n ∨ 80 < m ∨ 80 < t) = true := decide_eq_true hgr
    rw [hg]
    clear hgr hg hxl hyl hjn hjl
    go_wp2_with fail
    refine (alive_any _).mono ?_
    rintro e w3 ⟨rfl, hb3⟩
    go_wp2
    go_ret
    exact ⟨rfl, B2.out.trans (hb3.mono B2.out.size)⟩
  · have hg : decide (80 < n ∨ 80 < m ∨ 80 < t) = false := decide_eq_false hgr
    rw [hg]
    have ht : t ≤ 80 := by omega
    have hn : n ≤ 80 := by omega
    have hm : m ≤ 80 := by omega
    have HX := Lib.hid (fun (W : World) (hb : Below w.heap.size w W) => reach_any (c := c) (d := z) (HA.out W hb) (HE.out W hb) HAI.out HEI.out (by omega) (by omega))
    have HY := Lib.hid (fun (W : World) (hb : Below w.heap.size w W) => reach_any (c := d) (d := z) (HB.out W hb) (HE.out W hb) HBI.out HEI.out (by omega) (by omega))
    have HJ := Lib.hid (fun (W : World) (D : Option Addr) (q f : Nat) (hb : Below w.heap.size w W) (hf : ZS W D q (xs ++ ys)) (hq : q ≤ 160) => reach_any (c := f) (d := z) hf (HE.out W hb) HJI.out HEI.out (by omega) (by omega))
    have HL := Lib.hid (fun (W : World) (D : Option Addr) (q f : Nat) (ns : List Int) (hb : Below w.heap.size w W) (hf : ZS W D q ns) (hq : q ≤ 160) => lost_any (z := f) (c := c) (d := z) hf (HA.out W hb) (HE.out W hb) HAI.out HEI.out (by omega) (by omega) (by omega))
    have HNIL := Lib.hid (GM.lost_nil (es := es) (rs := xs) (ns := GM.rch es xs) fun x hx => GM.mem_rch.1 hx)
    obtain ⟨X, hX⟩ : ∃ X, X = GM.rch es xs := ⟨_, rfl⟩
    obtain ⟨Y, hY⟩ : ∃ Y, Y = GM.rch es ys := ⟨_, rfl⟩
    obtain ⟨J, hJ⟩ : ∃ J, J = GM.rch es (xs ++ ys) := ⟨_, rfl⟩
    simp only [← hX, ← hY, ← hJ] at HX HY HJ hxl hyl hjn HNIL
    have HJN := Lib.hid hjn
    have HXE := Lib.hid hX
    have hba := (Below.refl w2.heap.size w2).alloc (Nat.le_refl _) (.cells #[] 3)
    have HBA := Lib.hid hba
    have HA2 := Lib.hid (HA.out _ (B2.out.trans (hba.mono B2.out.size)))
    have HE0 := Lib.hid (NewZ.empty w2)
    clear hgr hg hX hY hJ hjn hba
    go_wp2_with (first
      | (at_builtin; refine wpList_append_zs rfl _ _ rfl w2.heap.size xs ys v1 B m d rfl rfl HR1.out HB4.out (by omega) B4.out.size ?_; intro v2 w5 hr2 hg2; have B5 := Lib.hid (B4.out.grown hg2 B4.out.size (fun g hg => (HR1.out.own.lt g hg).1)); obtain ⟨A5, n5, c5, e5, hn5, hs5⟩ := hr2.op; subst e5; have hn5' : n5 ≤ 160 := (by omega); have HZ5 := Lib.hid hs5; clear hr2 hg2 hs5 hn5)
      | (at_builtin; refine wpList_append_zs rfl _ _ rfl w2.heap.size [] xs (.slice (some ⟨w2.heap.size, 0, none⟩) 0 0) A n c rfl rfl HE0.out HA2.out (by simp; omega) (by simp) ?_; intro v1 w4 hr1 hg1; rw [List.nil_append] at hr1; have HR1 := Lib.hid hr1; have B4 := Lib.hid (HBA.out.grown hg1 (by simp) (fun g hg => (HE0.out.own.lt g hg).1)); have HB4 := Lib.hid (HB.out _ (B2.out.trans (B4.out.mono B2.out.size))); clear hr1 hg1))
    have C5 := Lib.hid (B2.out.trans (B5.out.mono B2.out.size))
    clear HR1 B4 HB4 HBA HA2 HE0 B2 B5 hjl
    refine (HX.out _ C5.out).mono ?_
    rintro e w6 ⟨v, rfl, hv, hb⟩
    have C6 := Lib.hid (C5.out.trans (hb.mono C5.out.size))
    have HZ6 := Lib.hid (HZ5.out.below hb)
    obtain ⟨A6, n6, c6, rfl, hn6, hs6⟩ := hv.op
    have hn6' : n6 ≤ 160 := by omega
    have HX6 := Lib.hid hs6
    clear C5 HZ5 hb hv hn6 hs6
    go_wp2_with fail
    refine (HY.out _ C6.out).mono ?_
    rintro e w7 ⟨v, rfl, hv, hb⟩
    have C7 := Lib.hid (C6.out.trans (hb.mono C6.out.size))
    have HZ7 := Lib.hid (HZ6.out.below hb)
    have HX7 := Lib.hid (HX6.out.below hb)
    obtain ⟨A7, n7, c7, rfl, hn7, hs7⟩ := hv.op
    have hn7' : n7 ≤ 160 := by omega
    have HY7 := Lib.hid hs7
    clear C6 HZ6 hb hv hn7 hs7 HX6
    go_wp2_with fail
    refine (HJ.out _ _ _ _ C7.out HZ7.out (by omega)).mono ?_
    rintro e w8 ⟨v, rfl, hv, hb⟩
    have C8 := Lib.hid (C7.out.trans (hb.mono C7.out.size))
    have HX8 := Lib.hid (HX7.out.below hb)
    have HY8 := Lib.hid (HY7.out.below hb)
    obtain ⟨A8, n8, c8, rfl, hn8, hs8⟩ := hv.op
    have HJ8 := Lib.hid hs8
    have hj8 := hs8.len
    have hj8' : n8 ≤ 1000000 := by
      have h1 := congrArg List.length HJN.out
      have h2 := BG.norm_len (X ++ Y)
      rw [List.length_append] at h2
      omega
    have hba := (Below.refl w8.heap.size w8).alloc (Nat.le_refl _) (.cells #[] 3)
    have HBA := Lib.hid hba
    have HX9 := Lib.hid (HX8.out.below hba)
    have HE0 := Lib.hid (NewZ.empty w8)
    have hx8 := HX8.out.len
    have hy8 := HY8.out.len
    clear C7 HZ7 hb hv hn8 hs8 HX7 HY7 hba hj8
    go_wp2_with (first
      | (at_builtin; refine wpList_append_zs rfl _ _ rfl w8.heap.size X Y v3 A7 n7 c7 rfl rfl HR3.out HY9.out (by omega) B9.out.size ?_; intro v4 w10 hr2 hg2; have B10 := Lib.hid (B9.out.grown hg2 B9.out.size (fun g hg => (HR3.out.own.lt g hg).1)); obtain ⟨A10, n10, c10, e10, hn10, hs10⟩ := hr2.op; subst e10; have hn10' : n10 ≤ 320 := (by rw [List.length_append] at hn10; omega); have HZ10 := Lib.hid hs10; clear hr2 hg2 hs10 hn10)
      | (at_builtin; refine wpList_append_zs rfl _ _ rfl w8.heap.size [] X (.slice (some ⟨w8.heap.size, 0, none⟩) 0 0) A6 n6 c6 rfl rfl HE0.out HX9.out (by simp; omega) (by simp) ?_; intro v3 w9 hr1 hg1; rw [List.nil_append] at hr1; have HR3 := Lib.hid hr1; have B9 := Lib.hid (HBA.out.grown hg1 (by simp) (fun g hg => (HE0.out.own.lt g hg).1)); have HY9 := Lib.hid (HY8.out.below B9.out); clear hr1 hg1))
    have hso := sorted_any (c := c10) HZ10.out (by omega)
    rw [HJN.out] at hso
    have HSO := Lib.hid hso
    clear hso HR3 B9 HY9 HBA HX9 HE0
    refine HSO.out.mono ?_
    rintro e w11 ⟨v, rfl, hv, hb⟩
    have B11 := Lib.hid (B10.out.trans (hb.mono B10.out.size))
    obtain ⟨A11, n11, c11, rfl, hn11, hs11⟩ := hv.op
    have HSA := Lib.hid (same_any (c := c8) (d := c11) (HJ8.out.below B11.out) hs11 (by omega))
    clear hv hb hn11 hs11 HSO B10
    go_wp2_with fail
    refine HSA.out.mono ?_
    rintro e w12 ⟨rfl, q12, rfl⟩
    have hbw := bdrewN B11.out q12
    obtain ⟨w12, hw12⟩ : ∃ w12, w12 = w11.drewN q12 := ⟨_, rfl⟩
    rw [← hw12] at hbw ⊢
    have B12 := Lib.hid hbw
    have C12 := Lib.hid (C8.out.trans (hbw.mono C8.out.size))
    have HX12 := Lib.hid (HX8.out.below hbw)
    have HE12 := Lib.hid (HE.out _ C12.out)
    clear hw12 hbw HSA B11 HX8 HY8 HJ8 C8 B12
    go_wp2_with fail
    go_loopw [11, 55] (fun u i wr => ∃ k : Nat, k ≤ t ∧ i = .int .i64 k ∧ Hid (NewZ w12.heap.size wr u (GM.nodes (es.take k))) ∧ Hid (Below w12.heap.size w12 wr)) (fun _ i _ => t - (intOf i).toNat)
    case atStart => exact ⟨0, Nat.zero_le _, rfl, Lib.hid (NewZ.nil _ _), Lib.hid (Below.refl _ _)⟩
    case round =>
      obtain ⟨k, hk, rfl, HU, HBk⟩ := hrel
      by_cases hlt : k < t
      · obtain ⟨b, off, rfl, hb, c0, c1⟩ := HE12.out.at_ hlt
        have d0 := (HBk.out.cell (p := ⟨b, _, none⟩) hb).trans c0
        have d1 := (HBk.out.cell (p := ⟨b, _, none⟩) hb).trans c1
        have hst := GM.nodes_take (es := es) (k := k) (by omega)
        obtain ⟨e, he⟩ : ∃ e, e = es[k]'(by omega) := ⟨_, rfl⟩
        obtain ⟨x, y⟩ := e
        rw [← he] at d0 d1 hst
        have hL : (GM.nodes (es.take k)).length ≤ 160 := by rw [GM.nodes_len, List.length_take]; omega
        obtain ⟨L, hLe⟩ : ∃ L, L = GM.nodes (es.take k) := ⟨_, rfl⟩
        rw [← hLe] at hst hL HU
        have HST := Lib.hid hst
        have hlo := HBk.out.size
        clear c0 c1 he hst hLe
        go_wp2_with (first
          | (at_builtin; refine wpList_append_own _ rfl _ _ 22 rfl w12.heap.size 3 i0 _ 1 8 Try.underlying22 hi0 hq0 hq1 hq2 rfl (by decide) _ _ _ rfl ((HU.out.alloc _).alloc _).own ⟨wr.heap.size + 1, 0, none⟩ 2 2 [.int .i64 x, .int .i64 y] rfl rfl (World.news_of_block (by exact Whole.fresh' (by simp))) (by simp [Value.oneCell']) (by unfold maxLen; omega) (by omega) (by simp; omega) ?_; intro v' w13 hown' hgrow _; have HO := Lib.hid hown'; have HG := Lib.hid hgrow; clear hown' hgrow))
        go_roundw
        case rel => exact ⟨k + 1, by omega, by go_num, by rw [HST.out]; exact Lib.hid (NewZ.snoc2 HO.out), Lib.hid (((HBk.out.alloc hlo _).alloc (by simp; omega) _).grown HG.out (by simp; omega) (fun g hg => (HU.out.own.lt g hg).1))⟩
        case measure => simp [intOf]; omega
      · obtain rfl : k = t := by omega
        have hu := HU.out
        rw [List.take_of_length_le (by omega)] at hu
        have hL : (GM.nodes es).length ≤ 160 := by rw [GM.nodes_len]; omega
        obtain ⟨N, hN⟩ : ∃ N, N = GM.nodes es := ⟨_, rfl⟩
        rw [← hN] at hu hL
        obtain ⟨A13, n13, c13, rfl, hn13, hs13⟩ := hu.op
        have hn13' : n13 ≤ 160 := by omega
        have C13 := Lib.hid (C12.out.trans (HBk.out.mono C12.out.size))
        have HX13 := Lib.hid (HX12.out.below HBk.out)
        have HN13 := Lib.hid hs13
        have HLC := Lib.hid (HL.out _ _ _ c13 _ C13.out hs13 hn13')
        clear hu hL hN hn13 hs13 HU C12 HX12
        go_wp2_with fail
        refine HLC.out.mono ?_
        rintro e w14 ⟨v, rfl, hv, hb⟩
        obtain ⟨L, hL⟩ : ∃ L, L = GM.lost es xs N := ⟨_, rfl⟩
        have hLl : L.length ≤ n13 := by have := GM.lost_len es xs N; have := HN13.out.len; rw [hL]; omega
        rw [← hL] at hv
        have C14 := Lib.hid (C13.out.trans (hb.mono C13.out.size))
        have HX14 := Lib.hid (HX13.out.below hb)
        have HN14 := Lib.hid (HN13.out.below hb)
        obtain ⟨A14, n14, c14, rfl, hn14, hs14⟩ := hv.op
        have hn14' : n14 ≤ 160 := by omega
        have HL14 := Lib.hid hs14
        have HLE := Lib.hid hL
        clear hv hb hn14 hs14 hL hLl HLC C13 HX13 HN13
        go_wp2_with fail
        go_loop [73] (fun i => ∃ k : Nat, k ≤ n13 ∧ i = .int .i64 k) (fun i => n13 - (intOf i).toNat)
        case atStart => exact ⟨0, Nat.zero_le _, rfl⟩
        case round =>
          obtain ⟨j, hj, rfl⟩ := hrel
          by_cases hlt : j < n13
          · have hln := HN14.out.len
            obtain ⟨x, hx⟩ : ∃ x, N[j]? = some x := ⟨_, List.getElem?_eq_getElem (by omega)⟩
            have hmem : x ∈ N := List.mem_of_getElem? hx
            obtain ⟨b, off, rfl, hb, _, c0⟩ := HN14.out.get hx
            have h1 := has_any (c := c14) HL14.out (by omega) x
            have h2 := has_any (c := c6) HX14.out (by omega) x
            have e1 : decide (x ∈ L) = decide (x ∉ GM.ord es xs) := by rw [HLE.out]; exact decide_eq_decide.2 ⟨fun h => (GM.mem_lost.1 h).2, fun h => GM.mem_lost.2 ⟨hmem, h⟩⟩
            have e2 : decide (x ∈ X) = decide (x ∈ GM.ord es xs) := by rw [HXE.out]; exact decide_eq_decide.2 GM.mem_rch
            rw [e1] at h1
            rw [e2] at h2
            have H1 := Lib.hid h1
            have H2 := Lib.hid h2
            clear hx hmem h1 h2 e1 e2 hln
            by_cases hin : x ∈ GM.ord es xs
            · have HI := Lib.hid (decide_eq_true hin)
              have HI2 := Lib.hid (show decide (x ∉ GM.ord es xs) = false from decide_eq_false (by simpa using hin))
              clear hin
              go_wp2_with fail
              refine H1.out.mono ?_
              rintro e w15 ⟨rfl, rfl⟩
              rw [HI2.out]
              go_wp2_with fail
              refine H2.out.mono ?_
              rintro e w15 ⟨rfl, rfl⟩
              rw [HI.out]
              go_wp2
              go_round
              case rel => exact ⟨j + 1, by omega, by go_num⟩
              case measure => simp [intOf]; omega
            · have HI := Lib.hid (decide_eq_false hin)
              have HI2 := Lib.hid (show decide (x ∉ GM.ord es xs) = true from decide_eq_true hin)
              clear hin
              go_wp2_with fail
              refine H1.out.mono ?_
              rintro e w15 ⟨rfl, rfl⟩
              rw [HI2.out]
              go_wp2_with fail
              refine H2.out.mono ?_
              rintro e w15 ⟨rfl, rfl⟩
              rw [HI.out]
              go_wp2
              go_round
              case rel => exact ⟨j + 1, by omega, by go_num⟩
              case measure => simp [intOf]; omega
          · have hl2 := HL.out _ _ _ c6 _ C14.out HX14.out hn6'
            rw [HNIL.out] at hl2
            have HL2 := Lib.hid hl2
            clear hl2
            go_wp2_with fail
            refine HL2.out.mono ?_
            rintro e w15 ⟨v, rfl, hv, hb⟩
            obtain ⟨A15, c15, rfl, _⟩ := hv.slice
            have C15 := Lib.hid (C14.out.trans (hb.mono C14.out.size))
            clear hv hb HL2
            go_wp2
            go_ret
            exact ⟨rfl, C15.out⟩
end Go.Proofs.Ytmmclccghlmfmaa
