/- The law GrayAgain. -/
import Derived.Test.YtomjaieplpjcpaaGyGreat
namespace Go.Proofs.Ytomjaieplpjcpaa
open Go.RowKit Go.Lib Go.Sort Go.Maps
set_option linter.unusedVariables false

set_option maxHeartbeats 8000000 in
set_option maxRecDepth 100000 in
theorem again_walk (A : Option Addr) (n c : Nat) (ls : List Ac) (x : Int) (w : World) (hz : AS w A n ls) (hxi : I64 x) :
    Calls Try.prog 6 #[.slice A n c, .int .i64 x] w fun e w' => e = .returned (.bool true) ∧ Below w.heap.size w w' := by
  have HA := Lib.hid hz
  have HX := Lib.hid hxi
  have HL : Hid (ls.length = n) := Lib.hid hz.1
  clear hz hxi
  go_enter Try.func6, Try.ntmps6
  go_wp2_with fail
  refine (lnew_any (Below.refl _ w)).mono ?_
  rintro e w1 ⟨b, rfl, h1, _⟩
  have G1 := Lib.hid h1
  clear h1
  go_wp2_with fail
  refine (galive_any _).mono ?_
  rintro e w2 ⟨rfl, hb2⟩
  have G2 := Lib.hid (G1.out.below hb2)
  clear G1 hb2
  have HGR := Lib.hid (agreat_any (c := c) (HA.out.below G2.out.bel))
  go_wp2_with fail
  refine HGR.out.mono ?_
  rintro e w3 ⟨gr, rfl, hgr, hb3⟩
  have G3 := Lib.hid (G2.out.below hb3)
  clear G2 HGR hb3
  cases gr with
  | true =>
    clear hgr
    go_wp2_with fail
    refine (galive_any _).mono ?_
    rintro e w4 ⟨rfl, hb4⟩
    have B4 := Lib.hid (G3.out.below hb4).bel
    clear hb4
    go_wp2
    go_ret
    exact ⟨rfl, B4.out⟩
  | false =>
    obtain ⟨hn, hall⟩ := hgr rfl
    have HALL := Lib.hid hall
    have hnum : ∀ i, GY.num (GY.acts GY.S.nil (ls.take i)) ≤ 3280 := fun i => GY.acts_num ls i hall (by rw [HL.out]; exact hn)
    have HNUM := Lib.hid hnum
    clear hgr hall hnum
    go_wp2_with fail
    go_loopw [31] (fun i wr => ∃ k : Nat, k ≤ n ∧ i = .int .i64 k ∧ Hid (Gl w wr b (GY.acts GY.S.nil (ls.take k)))) (fun i _ => n - (intOf i).toNat)
    case atStart => exact ⟨0, Nat.zero_le _, rfl, G3⟩
    case round =>
      obtain ⟨k, hk, rfl, HG⟩ := hrel
      by_cases hlt : k < n
      · obtain ⟨r, off, hkl, rfl, hb, c0, c1, c2, hz, hxi, hzi⟩ := HA.out.at_ hlt
        have d0 := (HG.out.bel.cell (p := ⟨r, _, none⟩) hb).trans c0
        have d1 := (HG.out.bel.cell (p := ⟨r, _, none⟩) hb).trans c1
        have d2 := (HG.out.bel.cell (p := ⟨r, _, none⟩) hb).trans c2
        have hst := GY.acts_take (s := GY.S.nil) hkl
        have hl40 := HALL.out _ (List.getElem_mem hkl)
        have hnm := HNUM.out k
        obtain ⟨y, hy⟩ : ∃ y, y = ls[k]'hkl := ⟨_, rfl⟩
        rw [← hy] at d0 d1 d2 hz hxi hzi hst hl40
        clear c0 c1 c2 hy
        obtain ⟨s, hs⟩ : ∃ s, s = GY.acts GY.S.nil (ls.take k) := ⟨_, rfl⟩
        rw [← hs] at HG hst hnm
        clear hs
        obtain ⟨K, X, A', n', c', xs⟩ := y
        have hl40 : xs.length ≤ 40 := hl40
        have d0 : wr.cell? ⟨r, off + k * 3, none⟩ = some (.int .i64 K) := d0
        have d1 : wr.cell? ⟨r, off + k * 3 + 1, none⟩ = some (.int .i64 X) := d1
        have d2 : wr.cell? ⟨r, off + k * 3 + 2, none⟩ = some (.slice A' n' c') := d2
        have hz : ZS w A' n' xs := hz
        have hzi : ZI xs := hzi
        have hxi : I64 X := hxi
        have hlen := hz.len
        have HGa := Lib.hid (HG.out.alloc (.cells #[.int .i64 K, .int .i64 X, .slice A' n' c'] 40))
        have HP := Lib.hid (lput_any (c := c') HGa.out (HGa.out.zs hz) hzi (by omega))
        have HQ := Lib.hid (lagain_any HGa.out hxi (by omega))
        have HN := Lib.hid (lnext_any HGa.out (by omega))
        have HR := Lib.hid (lpaint_any HGa.out hxi (by omega))
        have HST := Lib.hid hst
        clear hst hz hzi hxi hl40 hnm HG hlen
        by_cases h0 : K = 0
        · subst h0
          have hst := HST.out
          rw [GY.act_0 rfl] at hst
          have HS := Lib.hid hst
          clear hst HST HQ HN HR
          go_wp2_with fail
          refine HP.out.mono ?_
          rintro e w4 ⟨rfl, h4, _⟩
          have H4 := Lib.hid h4
          clear h4 HP HGa
          go_wp2
          go_roundw
          case rel => exact ⟨k + 1, by omega, by go_num, by rw [HS.out]; exact H4⟩
          case measure => simp [intOf]; omega
        · by_cases h1 : K = 1
          · subst h1
            have hst := HST.out
            rw [GY.act_1 rfl] at hst
            have HS := Lib.hid hst
            clear hst HST HP HN HR
            go_wp2_with fail
            refine HQ.out.mono ?_
            rintro e w4 ⟨rfl, h4, _⟩
            have H4 := Lib.hid h4
            clear h4 HQ HGa
            go_wp2
            go_roundw
            case rel => exact ⟨k + 1, by omega, by go_num, by rw [HS.out]; exact H4⟩
            case measure => simp [intOf]; omega
          · by_cases h2 : K = 2
            · subst h2
              have hst := HST.out
              rw [GY.act_2 rfl] at hst
              have HS := Lib.hid hst
              clear hst HST HP HQ HR
              go_wp2_with fail
              refine HN.out.mono ?_
              rintro e w4 ⟨rfl, h4, _⟩
              have H4 := Lib.hid h4
              clear h4 HN HGa
              go_wp2
              go_roundw
              case rel => exact ⟨k + 1, by omega, by go_num, by rw [HS.out]; exact H4⟩
              case measure => simp [intOf]; omega
            · by_cases h3 : K = 3
              · subst h3
                have hst := HST.out
                rw [GY.act_3 rfl] at hst
                have HS := Lib.hid hst
                clear hst HST HP HQ HN
                go_wp2_with fail
                refine HR.out.mono ?_
                rintro e w4 ⟨rfl, h4, _⟩
                have H4 := Lib.hid h4
                clear h4 HR HGa
                go_wp2
                go_roundw
                case rel => exact ⟨k + 1, by omega, by go_num, by rw [HS.out]; exact H4⟩
                case measure => simp [intOf]; omega
              · have hst := HST.out
                rw [GY.act_no h0 h1 h2 h3] at hst
                have HS := Lib.hid hst
                clear hst HST HP HQ HN HR
                go_wp2
                go_roundw
                case rel => exact ⟨k + 1, by omega, by go_num, by rw [HS.out]; exact HGa⟩
                case measure => simp [intOf]; omega
      · obtain rfl : k = n := by omega
        have hnm := HNUM.out k
        obtain ⟨s, hs⟩ : ∃ s, s = GY.acts GY.S.nil (ls.take k) := ⟨_, rfl⟩
        rw [← hs] at HG hnm
        clear hs HNUM HALL HA
        have HP := Lib.hid (lpaint_any HG.out HX.out (by omega))
        obtain ⟨p1, p2, p3⟩ := GY.painted HG.out.good x
        have hpn := GY.num_paint s x
        clear HG
        go_wp2_with fail
        refine HP.out.mono ?_
        rintro e w4 ⟨rfl, h4, _⟩
        have hq := lagain_any h4 HX.out (by omega)
        have hc := gcolor_any h4.gy HX.out
        have hgl := glen_any h4.gy
        rw [p1] at hc
        rw [p1, p3, decide_eq_true (show 2 = 2 from rfl)] at hq
        have hWl : (GY.paint s x).W.length ≤ 3281 := by have : GY.num (GY.paint s x) = _ + _ := rfl; omega
        have hDl : (GY.out (GY.paint s x).D x).length ≤ 3281 := by
          have h1 := GY.out_le (GY.paint s x).D x
          have : GY.num (GY.paint s x) = _ + _ := rfl
          omega
        obtain ⟨W, hW⟩ : ∃ W, W = (GY.paint s x).W := ⟨_, rfl⟩
        obtain ⟨D0, hD0⟩ : ∃ D0, D0 = GY.out (GY.paint s x).D x := ⟨_, rfl⟩
        rw [← hW] at p2 hq hWl hgl
        rw [← hD0] at hq hDl
        obtain ⟨M, hM⟩ : ∃ M, M = W.length := ⟨_, rfl⟩
        rw [← hM] at hgl hWl
        have HC := Lib.hid hc
        have HQ := Lib.hid hq
        have HGL := Lib.hid hgl
        have P2 := Lib.hid p2
        have HM := Lib.hid hM
        clear h4 hq hc hgl p1 p2 p3 hM hW hD0 HP hpn hnm
        go_wp2_with fail
        refine HGL.out.mono ?_
        rintro e w5 ⟨rfl, rfl⟩
        clear HGL
        go_wp2_with fail
        refine HC.out.mono ?_
        rintro e w5 ⟨rfl, rfl⟩
        clear HC
        go_wp2_with fail
        refine HQ.out.mono ?_
        rintro e w5 ⟨rfl, h5, _⟩
        have htn := GY.told_num D0 (W ++ [x]) 0
        have htw := GY.told_w D0 W x
        have hq := lagain_any h5 HX.out (by rw [htn, List.length_append, ← HM.out]; simp; omega)
        rw [htw, GY.again_no (by rw [htw]; decide), decide_eq_false (show ¬ 1 = 2 by decide)] at hq
        have HQ2 := Lib.hid hq
        clear HQ h5 hq htn htw
        go_wp2_with fail
        refine HQ2.out.mono ?_
        rintro e w6 ⟨rfl, h6, _⟩
        have hc := gcolor_any h6.gy HX.out
        rw [GY.told_w D0 W x] at hc
        have hgl := glen_any h6.gy
        rw [show (GY.told D0 (W ++ [x]) 0).W.length = M + 1 by rw [GY.told_0, List.length_append, ← HM.out]; rfl] at hgl
        have HC := Lib.hid hc
        have HGL := Lib.hid hgl
        have G6 := Lib.hid h6
        clear HQ2 h6 hc hgl
        go_wp2_with fail
        refine HC.out.mono ?_
        rintro e w7 ⟨rfl, rfl⟩
        clear HC
        go_wp2_with fail
        refine HGL.out.mono ?_
        rintro e w7 ⟨rfl, rfl⟩
        clear HGL
        go_wp2_with fail
        go_loopw [94] (fun iv wk => ∃ k : Nat, k ≤ M ∧ iv = .int .i64 k ∧ Hid (Gl w wk b (GY.told D0 (W ++ [x]) k))) (fun iv _ => M - (intOf iv).toNat)
        case atStart => exact ⟨0, Nat.zero_le _, rfl, G6⟩
        case round =>
          obtain ⟨k, hk, rfl, HG⟩ := hrel
          have htn := GY.told_num D0 (W ++ [x]) k
          have hN := lnext_any HG.out (by rw [htn, List.length_append, ← HM.out]; simp; omega)
          clear htn
          by_cases hlt : k < M
          · have hkW : k < W.length := by rw [← HM.out]; exact hlt
            have hy : (W ++ [x])[k]? = some W[k] := by rw [List.getElem?_append_left hkW, List.getElem?_eq_getElem hkW]
            have hyx : ¬ W[k] = x := fun e => P2.out (e ▸ List.getElem_mem hkW)
            obtain ⟨y, hye⟩ : ∃ y, y = W[k]'hkW := ⟨_, rfl⟩
            rw [← hye] at hy hyx
            obtain ⟨t1, t2, t3⟩ := GY.told_next (D0 := D0) hy
            rw [GY.hd_cons t1, t2, t1, decide_eq_true (show y :: (W ++ [x]).drop (k + 1) ≠ [] by simp)] at hN
            have HN := Lib.hid hN
            clear hN hy t1 t2 t3 hkW hye HG
            go_wp2_with fail
            refine HN.out.mono ?_
            rintro e w8 ⟨rfl, h8, _⟩
            have H8 := Lib.hid h8
            clear HN h8
            go_wp2
            go_roundw
            case rel => exact ⟨k + 1, by omega, by go_num, H8⟩
            case measure => simp [intOf]; omega
          · obtain rfl : M = k := by omega
            have hy : (W ++ [x])[M]? = some x := by
              have e := HM.out
              rw [e]
              simp
            obtain ⟨t1, t2, t3⟩ := GY.told_next (D0 := D0) hy
            rw [GY.hd_cons t1, t2, t1, decide_eq_true (show x :: (W ++ [x]).drop (M + 1) ≠ [] by simp)] at hN
            have HN := Lib.hid hN
            have HT := Lib.hid t3
            have hte := GY.told_end (D0 := D0) (W := W ++ [x]) (k := M + 1) (by have e := HM.out; rw [List.length_append, ← e]; simp)
            have HE := Lib.hid hte
            clear hN hy t1 t2 t3 HG hte
            go_wp2_with fail
            refine HN.out.mono ?_
            rintro e w8 ⟨rfl, h8, _⟩
            have hgl := glen_any h8.gy
            rw [HE.out, show ((((⟨[], D0 ++ (W ++ [x])⟩ : GY.S).W.length : Nat)) : Int) = 0 from rfl] at hgl
            have hc := gcolor_any h8.gy HX.out
            rw [GY.col_d h8.good HT.out] at hc
            have HGL := Lib.hid hgl
            have HC := Lib.hid hc
            have B8 := Lib.hid h8.bel
            clear HN h8 hgl hc
            go_wp2_with fail
            refine HGL.out.mono ?_
            rintro e w9 ⟨rfl, rfl⟩
            go_wp2_with fail
            refine HC.out.mono ?_
            rintro e w9 ⟨rfl, rfl⟩
            go_wp2
            go_ret
            exact ⟨rfl, B8.out⟩
end Go.Proofs.Ytomjaieplpjcpaa
