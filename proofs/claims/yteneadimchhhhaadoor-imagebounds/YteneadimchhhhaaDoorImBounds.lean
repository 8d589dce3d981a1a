/- The walk of ImageBounds. -/
import Derived.Test.YteneadimchhhhaaDoorImAlive
import Derived.Test.YteneadimchhhhaaDoorImGreat
import Derived.Test.YteneadimchhhhaaDoorImOpen
import Derived.Test.YteneadimchhhhaaDoorImBdM
namespace Go.Proofs.YteneadimchhhhaaDoor
open Go.RowKit

/-- A layout in a slice of its own. -/
theorem ls_one {W : World} {g hi : Nat} {t : TypeId} {l : LV} (h : Whole W g t #[.int .i64 l.F, .slice l.A l.n l.c, .int .i64 l.R, .slice l.D l.m l.d]) (hl : l.lists W 0 hi) (hh : hi ≤ W.heap.size) (hF : I64 l.F) (hR : I64 l.R) : LS W W.heap.size (some ⟨g, 0, none⟩) 1 [l] := by
  refine ⟨rfl, fun _ => ⟨g, 0, rfl, h.lt, fun i k j hi hj => ?_⟩, fun k hk => ?_⟩
  · match i, hi with
    | 0, hi =>
      simp at hi
      subst hi
      rw [show 0 + 0 * 4 + j = j by omega, h.cell]
      match j, hj with
      | 0, _ => rfl
      | 1, _ => rfl
      | 2, _ => rfl
      | 3, _ => rfl
  · rw [List.mem_singleton] at hk
    subst hk
    exact ⟨Lists.mono hl (Nat.le_refl _) hh, hF, hR⟩
theorem pick_one {l : LV} (h : l.right = true) : pick 6 [l] = [l] := by
  unfold pick
  rw [show ([l] : List LV).take 6 = [l] from rfl, List.filter_cons_of_pos h]
  rfl
section
variable {w0 w w' : World} {I : IB} {J : DB} {q : Cf} {wd wd' wc : Nat → Nat}
theorem Ms.wrote (h : Ms w0 w I J q wd wc) {v : Value} {e : Ending} (hp : IwPost v I q wd' w e w') : Ms w0 w' I J q wd' wc := h.code hp.2.1 hp.2.2
/-- Behind a Write of the store itself. -/
theorem Ms.poked (h : Ms w0 w I J q wd wc) {v : Value} {e : Ending} (hp : StPost v I.B q.C q.K q.own wd' w e w') : Ms w0 w' I J q wd' wc := h.wrote (h.im.wrote (Below.refl _ _) hp)
theorem Ms.old (h : Ms w0 w I J q wd wc) {g : Nat} {t : TypeId} {cs : Array Value} (hx : Whole w0 g t cs) : Whole w g t cs := hx.below h.bel hx.lt
end

set_option maxRecDepth 100000 in
set_option maxHeartbeats 8000000 in
theorem bounds_walk (F R : Int) (A : Option Addr) (n c : Nat) (xs : List Int) (D : Option Addr) (m d : Nat) (ys : List Int) (A1 : Option Addr) (n1 c1 : Nat) (la : List IAc) (w : World) (hF : I64 F) (hR : I64 R) (hL : Lists w 0 w.heap.size A n c xs D m d ys) (hA : FI w w.heap.size A1 n1 la) (hT : Tab w) :
    Calls Tryd.prog 5 #[.agg #[.int .i64 F, .slice A n c, .int .i64 R, .slice D m d], .slice A1 n1 c1] w fun e w' => e = .returned (.bool true) ∧ Below w.heap.size w w' := by
  obtain ⟨w1, hw1⟩ : ∃ w1, w1 = (w.alloc (.cells #[.int .i64 F, .slice A n c, .int .i64 R, .slice D m d] 56)).alloc (.cells #[.int .i64 F, .slice A n c, .int .i64 R, .slice D m d] 56) := ⟨_, rfl⟩
  have hb1 : Below w.heap.size w w1 := by rw [hw1]; exact ((Below.refl _ _).alloc (Nat.le_refl _) _).alloc (by simp) _
  have X1 : Whole w1 w.heap.size 56 #[.int .i64 F, .slice A n c, .int .i64 R, .slice D m d] := by rw [hw1]; exact (Whole.fresh _ _ _).alloc _
  have Y1 : Whole w1 (w.heap.size + 1) 56 #[.int .i64 F, .slice A n c, .int .i64 R, .slice D m d] := by rw [hw1]; exact Whole.fresh' (by simp)
  have CG := great_any (some ⟨w.heap.size + 1, 0, none⟩) 1 1 [⟨F, R, A, n, c, xs, D, m, d, ys⟩] w1 (ls_one (l := ⟨F, R, A, n, c, xs, D, m, d, ys⟩) Y1 (Lists.kept hL (Kept.of_below hb1 (Nat.le_refl _))) hb1.size hF hR) (by omega)
  have HW1 := Lib.hid hw1
  have HB1 := Lib.hid hb1
  have HX1 := Lib.hid X1
  have HL := Lib.hid hL
  have HA := Lib.hid hA
  have HFR := Lib.hid (And.intro hF hR)
  have HG := Lib.hid CG
  have HT := Lib.hid hT
  clear hw1 hb1 X1 Y1 CG hL hA hF hR hT
  go_enter Tryd.func5, Tryd.ntmps5
  go_wp2_with fail
  rw [← HW1.out]
  refine HG.out.mono ?_
  rintro e w2 ⟨rfl, hb2⟩
  have hB2 := HB1.out.trans (hb2.mono HB1.out.size)
  have hX2 := HX1.out.below hb2 HX1.out.lt
  have HB2 := Lib.hid hB2
  have HX2 := Lib.hid hX2
  clear hb2 hB2 hX2 HX1 HB1
  by_cases hg : ([⟨F, R, A, n, c, xs, D, m, d, ys⟩] : List LV).any wide = true ∨ 60 < n1
  · have AL := Lib.hid (ialive_any w2 (HT.out.below HB2.out HT.out.pos))
    obtain ⟨gb, hgb⟩ : ∃ gb : Bool, gb = ([⟨F, R, A, n, c, xs, D, m, d, ys⟩] : List LV).any wide := ⟨_, rfl⟩
    rw [← hgb] at hg ⊢
    clear hgb HG
    have hg2 : gb = true ∨ (gb = false ∧ 60 < n1) := by cases gb <;> simp_all
    clear hg
    rcases hg2 with rfl | ⟨rfl, hn1⟩
    · go_wp2_with fail
      refine AL.out.mono ?_
      rintro e w3 ⟨rfl, hb3⟩
      have HB3 := Lib.hid (HB2.out.trans (hb3.mono HB2.out.size))
      go_wp2_with fail
      go_ret
      exact ⟨rfl, HB3.out⟩
    · have d1 : decide ((60 : Int) < (n1 : Int)) = true := by simp; omega
      go_wp2_with fail
      refine AL.out.mono ?_
      rintro e w3 ⟨rfl, hb3⟩
      have HB3 := Lib.hid (HB2.out.trans (hb3.mono HB2.out.size))
      go_wp2_with fail
      go_ret
      exact ⟨rfl, HB3.out⟩
  · have hg1 : ([⟨F, R, A, n, c, xs, D, m, d, ys⟩] : List LV).any wide = false := by
      cases h : ([⟨F, R, A, n, c, xs, D, m, d, ys⟩] : List LV).any wide
      · rfl
      · exact absurd (.inl h) hg
    have hn1 : n1 ≤ 60 := by
      rcases Nat.lt_or_ge 60 n1 with h | h
      · exact absurd (.inr h) hg
      · exact h
    have hnm := not_wide hg1 ⟨F, R, A, n, c, xs, D, m, d, ys⟩ (by simp)
    have hn : n ≤ 100 := hnm.1
    have hm : m ≤ 100 := hnm.2
    rw [hg1]
    clear hg hg1 hnm HG
    have d1 : decide ((60 : Int) < (n1 : Int)) = false := by simp; omega
    obtain ⟨x0, x1, x2, x3⟩ := HX2.out.cells4
    obtain ⟨w3, hw3⟩ : ∃ w3, w3 = w2.alloc (.cells #[.int .i64 F, .slice A n c, .int .i64 R, .slice D m d] 56) := ⟨_, rfl⟩
    have hb3 : Below w2.heap.size w2 w3 := by rw [hw3]; exact (Below.refl _ _).alloc (Nat.le_refl _) _
    have hB3 := HB2.out.trans (hb3.mono HB2.out.size)
    have Y3 : Whole w3 w2.heap.size 56 #[.int .i64 F, .slice A n c, .int .i64 R, .slice D m d] := by rw [hw3]; exact Whole.fresh _ _ _
    have hL3 := Lists.kept HL.out (Kept.of_below hB3 (Nat.le_refl _))
    have hT3 := HT.out.below hB3 HT.out.pos
    have CM := made_any (some ⟨w2.heap.size, 0, none⟩) 1 1 [⟨F, R, A, n, c, xs, D, m, d, ys⟩] w3 (ls_one (l := ⟨F, R, A, n, c, xs, D, m, d, ys⟩) Y3 hL3 hB3.size HFR.out.1 HFR.out.2) (by intro l hl; rw [List.mem_singleton] at hl; subst hl; exact ⟨by show n ≤ _; omega, by show m ≤ _; omega⟩) (by omega) hT3
    have HCM := Lib.hid CM
    have HW3 := Lib.hid hw3
    have HB3 := Lib.hid hB3
    have HX3 := Lib.hid (HX2.out.below hb3 HX2.out.lt)
    have HL3 := Lib.hid hL3
    have HT3 := Lib.hid hT3
    have HA3 := Lib.hid (HA.out.below hB3)
    clear CM hw3 hb3 hB3 Y3 hL3 hT3 HX2 HB2 HL HA HT HW1
    go_wp2_with fail
    rw [← HW3.out]
    refine HCM.out.mono ?_
    rintro e w4 ⟨I, J, rfl, hJ, hM4⟩
    have AL := Lib.hid (ialive_any w4 (HT3.out.below hM4.bel HT3.out.pos))
    have HM4 := Lib.hid hM4
    have HJ := Lib.hid hJ
    clear hM4 hJ HCM x0 x1 x2 x3
    go_wp2_with fail
    refine AL.out.mono ?_
    rintro e w5 ⟨rfl, hb5⟩
    have hM5 := HM4.out.later hb5
    obtain ⟨x0, x1, x2, x3⟩ := (hM5.old HX3.out).cells4
    have HM5 := Lib.hid hM5
    clear hb5 hM5 HM4 AL
    obtain ⟨C, hC⟩ : ∃ C : Int, C = min 1 R := ⟨_, rfl⟩
    have hL5 := Lists.kept HL3.out (Kept.of_below HM5.out.bel HB3.out.size)
    have CS := refSize_any F R A n c xs D m d ys C w.heap.size w5 (Nat.le_trans HB3.out.size HM5.out.bel.size) (by omega) (by omega) HFR.out.1 HFR.out.2 hL5.fst.ns hL5.snd.ns (by have := HFR.out.2; unfold I64 at *; omega)
    have hsz := LM.size_bd F R xs ys C
    obtain ⟨sz, hse⟩ : ∃ x, x = LM.size F R xs ys C := ⟨_, rfl⟩
    obtain ⟨er, hre⟩ : ∃ x, x = LM.code F R xs ys C := ⟨_, rfl⟩
    rw [← hse, ← hre] at CS
    rw [← hse] at hsz
    have HCS := Lib.hid CS
    have HCC := Lib.hid hC
    have HSE := Lib.hid (And.intro hse hre)
    clear CS hL5 hse hre hC
    go_upto_region 6 with fail
    go_cut [8, 9] (fun s8 s9 wx => s8 = .int .i64 sz ∧ s9 = .int .i64 er ∧ Below w5.heap.size w5 wx)
    case first =>
      have hC := HCC.out
      go_wp2_with fail
      · obtain rfl : C = R := by omega
        (with_reducible refine HCS.out.mono ?_)
        rintro e w6 ⟨rfl, hb6⟩
        clear hC HCC HSE
        go_wp2_with fail
        go_meet
        exact ⟨rfl, rfl, hb6⟩
      · obtain rfl : C = 1 := by omega
        (with_reducible refine HCS.out.mono ?_)
        rintro e w6 ⟨rfl, hb6⟩
        clear hC HCC HSE
        go_wp2_with fail
        go_meet
        exact ⟨rfl, rfl, hb6⟩
    case rest =>
      obtain ⟨rfl, rfl, hb6⟩ := hcut
      have hM6 := HM5.out.later hb6
      have HB6 := Lib.hid (HB3.out.trans (hM6.bel.mono HB3.out.size))
      have HM6 := Lib.hid hM6
      clear hb6 hM6 HM5 HCS
      by_cases hz : er = 0
      · by_cases hz2 : sz ≤ 20
        · obtain ⟨nn, rfl⟩ := Int.eq_ofNat_of_zero_le hsz.1
          have hcode : LM.code F R xs ys C = 0 := by rw [← HSE.out.2]; exact hz
          obtain ⟨hr, ⟨k1, k2, k3⟩, -⟩ := LM.code_zero hcode
          have hpk : pick 6 [⟨F, R, A, n, c, xs, D, m, d, ys⟩] = [⟨F, R, A, n, c, xs, D, m, d, ys⟩] := pick_one hr
          have hJ := HJ.out
          rw [hpk] at hJ
          have hM6 := HM6.out
          rw [hpk] at hM6
          obtain ⟨Ak, ck, hv⟩ := row_shape hM6.dc.row
          have hbx := hM6.dc.box
          rw [hJ] at hv
          rw [hv] at hbx
          have j1 : wc.cell? ⟨J.m, 1, none⟩ = some (.slice Ak 1 ck) := hbx.cell 1
          have hmay : HM.may 1 C 9 = true := (HM.may_iff _ _ _).2 (by omega)
          obtain ⟨se1, sn1⟩ := sz_lay (D := [LV.ld ⟨F, R, A, n, c, xs, D, m, d, ys⟩]) (L := 1) (C := C) (l := LV.ld ⟨F, R, A, n, c, xs, D, m, d, ys⟩) rfl
          have hse : IM.szE [LV.ld ⟨F, R, A, n, c, xs, D, m, d, ys⟩] 1 C = 0 := se1.trans hcode
          have hsn : IM.szN [LV.ld ⟨F, R, A, n, c, xs, D, m, d, ys⟩] 1 C = ((nn + 1 : Nat) : Int) := by rw [sn1 hcode]; show 1 + LM.size F R xs ys C = _; rw [← HSE.out.1]; omega
          obtain ⟨Dl, hDl⟩ : ∃ Dl : List LD, Dl = [LV.ld ⟨F, R, A, n, c, xs, D, m, d, ys⟩] := ⟨_, rfl⟩
          have hM6' : Ms w3 wc I J (cf5 Dl) (fill 0) wd0 := by rw [hDl, fill_zero]; exact hM6
          rw [← hDl] at hse hsn
          have HMAY := Lib.hid hmay
          have HSZ := Lib.hid (And.intro hse hsn)
          have HM7 := Lib.hid hM6'
          have HK := Lib.hid (And.intro k1 k2)
          have hnn : nn ≤ 20 := by omega
          subst hz
          clear hM6 hM6' hJ HJ HM6 hpk hv hbx hmay se1 sn1 hse hsn hDl hcode hr k1 k2 k3 hsz HSE HL3
          go_wp2_with fail
          go_loopw [69] (fun v wr => ∃ j : Nat, j ≤ 40 ∧ v = .int .i64 j ∧ Ms w3 wr I J (cf5 Dl) (fill j) wd0) (fun v _ => 40 - (intOf v).toNat)
          case atStart => exact ⟨0, Nat.zero_le _, rfl, HM7.out⟩
          case round =>
            clear HM7 HB6 j1
            obtain ⟨j, hj, rfl, hM⟩ := hrel
            by_cases hlt : j < 40
            · have CW := write_all hM.im.st (j : Int) (j * 3 + 1) (by omega)
              have he : addrE (cf5 Dl).own (cf5 Dl).C (cf5 Dl).K (j : Int) = 0 := ad5 Dl hlt
              rw [fill_next Dl hlt, he, show ((j * 3 + 1 : Nat) : Int) = (j : Int) * 3 + 1 by omega] at CW
              have HCW := Lib.hid CW
              have HM8 := Lib.hid hM
              have z1 : IntKind.u64.wrap (j : Int) = (j : Int) := by rw [IntKind.wrap_u64]; omega
              have z2 : IntKind.u64.wrap ((j : Int) * 3) = (j : Int) * 3 := by rw [IntKind.wrap_u64]; omega
              have z3 : IntKind.u64.wrap ((j : Int) * 3 + 1) = (j : Int) * 3 + 1 := by rw [IntKind.wrap_u64]; omega
              clear CW hM he
              go_wp2_with fail
              refine HCW.out.mono ?_
              rintro e w8 hp
              have HM9 := Lib.hid (HM8.out.poked hp)
              obtain ⟨rfl, -, -⟩ := hp
              go_wp2_with fail
              go_roundw
              case rel => exact ⟨j + 1, by omega, by go_num, HM9.out⟩
              case measure => simp [intOf]; omega
            · obtain ⟨z, hz5⟩ : ∃ z : Int, z = (j : Int) := ⟨_, rfl⟩
              rw [← hz5]
              obtain rfl : z = 40 := by omega
              clear hz5
              obtain rfl : j = 40 := by omega
              obtain ⟨x0, x1, x2, x3⟩ := (hM.old HX3.out).cells4
              have HM8 := Lib.hid hM
              clear hM hlt hj
              go_upto_region 14 with fail
              go_cut [11] (fun s11 wx => ∃ g, s11 = .pointer (some ⟨g, 0, none⟩) ∧ wr.heap.size ≤ g ∧ Whole wx g 28 #[.int .i64 1, .int .i64 C, .int .i64 9] ∧ Below wr.heap.size wr wx)
              case first =>
                have hC := HCC.out
                go_wp2_with fail
                · obtain rfl : C = R := by omega
                  clear hC HCC
                  go_meet
                  exact ⟨_, rfl, Nat.le_refl _, Whole.fresh _ _ _, (Below.refl _ _).alloc (Nat.le_refl _) _⟩
                · obtain rfl : C = 1 := by omega
                  clear hC HCC
                  go_meet
                  exact ⟨_, rfl, Nat.le_refl _, Whole.fresh _ _ _, (Below.refl _ _).alloc (Nat.le_refl _) _⟩
              case rest =>
                obtain ⟨g, rfl, hgl, hg, hbg⟩ := hcut
                have hMc := HM8.out.later hbg
                obtain ⟨g0, g1, g2⟩ := hg.cells3
                have hCi : I64 C := by have := HK.out; unfold I64; omega
                have CK := imake_any hMc.im 8 1 C 9 hCi
                have mk : IM.mkE (cf5 Dl) 8 1 C 9 = 0 ∧ IM.mkN (cf5 Dl) 8 1 C 9 = ((nn + 1 : Nat) : Int) ∧ IM.mkW (cf5 Dl) (fill 40) 8 1 C 9 = IM.laid (fill 40) 8 (nn + 1) (HM.word 1 C 9).toNat := mk_ok (a := 8) HMAY.out HSZ.out.1 HSZ.out.2 (by omega)
                rw [mk.1, mk.2.1, mk.2.2, show ((nn + 1 : Nat) : Int) = (nn : Int) + 1 by omega] at CK
                have hw0 := (HM.word_lt HMAY.out).1
                obtain ⟨f0, hf0⟩ : ∃ f0, f0 = IM.laid (fill 40) 8 (nn + 1) (HM.word 1 C 9).toNat := ⟨_, rfl⟩
                have hbd : BdW nn (HM.word 1 C 9) f0 := by rw [hf0]; exact fill_made hw0
                rw [← hf0] at CK
                have HCK := Lib.hid CK
                have HMc := Lib.hid hMc
                have HBD := Lib.hid hbd
                have HGW := Lib.hid hg
                have HGO := Lib.hid (show g ∉ I.wr from fun hx => by have h1 := HM8.out.im.wrlt hx; have h2 := HM8.out.im.lolt; omega)
                clear CK hMc mk hf0 hbd hw0 hCi HM8 hbg hgl hg x0 x1 x2 x3
                go_wp2_with fail
                refine HCK.out.mono ?_
                rintro e w9 hp
                have HM9 := Lib.hid (HMc.out.wrote hp)
                have HG9 := Lib.hid (show Whole w9 g 28 #[.int .i64 1, .int .i64 C, .int .i64 9] from hp.2.2.whole HGW.out HGO.out)
                obtain ⟨rfl, -, -⟩ := hp
                clear HCK HMc HGW g0 g1 g2
                go_wp2_with fail
                go_loopw [100] (fun v wr => ∃ (j : Nat) (f : Nat → Nat), j ≤ n1 ∧ v = .int .i64 j ∧ Ms w3 wr I J (cf5 Dl) f wd0 ∧ BdW nn (HM.word 1 C 9) f ∧ Whole wr g 28 #[.int .i64 1, .int .i64 C, .int .i64 9]) (fun v _ => n1 - (intOf v).toNat)
                case atStart => exact ⟨0, f0, Nat.zero_le _, rfl, HM9.out, HBD.out, HG9.out⟩
                case round =>
                  clear HM9 HBD HG9
                  obtain ⟨j, f, hj, rfl, hM, hB, hG⟩ := hrel
                  have hat := at_hd (q := cf5 Dl) (wd := f) (a := 8) (ad5 Dl (i := 8) (by omega)) HMAY.out hB.hd HSZ.out.1
                  rw [show IM.szN (cf5 Dl).D 1 C = ((nn + 1 : Nat) : Int) from HSZ.out.2, show ((nn + 1 : Nat) : Int) = (nn : Int) + 1 by omega] at hat
                  by_cases hlt : j < n1
                  · obtain ⟨ba, oa, v, rfl, hba, hjl, hvo, e0, e1, e2, e3, e4, e5, e6, e7, e8, e9⟩ := HA3.out.at_ hlt
                    have hba3 : ba < w3.heap.size := by have := HB3.out.size; omega
                    have c0 := (hM.bel.cell (p := ⟨ba, oa + j * 10, none⟩) hba3).trans e0
                    have c1 := (hM.bel.cell (p := ⟨ba, oa + j * 10 + 1, none⟩) hba3).trans e1
                    have c2 := (hM.bel.cell (p := ⟨ba, oa + j * 10 + 2, none⟩) hba3).trans e2
                    have c3 := (hM.bel.cell (p := ⟨ba, oa + j * 10 + 3, none⟩) hba3).trans e3
                    have c4 := (hM.bel.cell (p := ⟨ba, oa + j * 10 + 4, none⟩) hba3).trans e4
                    have c5 := (hM.bel.cell (p := ⟨ba, oa + j * 10 + 5, none⟩) hba3).trans e5
                    have c6 := (hM.bel.cell (p := ⟨ba, oa + j * 10 + 6, none⟩) hba3).trans e6
                    have c7 := (hM.bel.cell (p := ⟨ba, oa + j * 10 + 7, none⟩) hba3).trans e7
                    have c8 := (hM.bel.cell (p := ⟨ba, oa + j * 10 + 8, none⟩) hba3).trans e8
                    have c9 := (hM.bel.cell (p := ⟨ba, oa + j * 10 + 9, none⟩) hba3).trans e9
                    obtain ⟨xn, hxn⟩ := Int.eq_ofNat_of_zero_le hvo.2.2.2.2.2.2.1.1
                    have hxb : xn < 18446744073709551616 := by have := hvo.2.2.2.2.2.2.1.2; omega
                    rw [hxn] at c6
                    obtain ⟨wb, hwb⟩ : ∃ wb, wb = wr.alloc (.cells #[.int .i64 v.k, .int .i64 v.a, .int .i64 v.p, .int .i64 v.L, .int .i64 v.C, .int .i64 v.S, .int .u64 xn, .int .i64 v.K, .int .i64 v.J, .int .i64 v.G] 75) := ⟨_, rfl⟩
                    have hbb : Below wr.heap.size wr wb := by rw [hwb]; exact (Below.refl _ _).alloc (Nat.le_refl _) _
                    have XA : Whole wb wr.heap.size 75 #[.int .i64 v.k, .int .i64 v.a, .int .i64 v.p, .int .i64 v.L, .int .i64 v.C, .int .i64 v.S, .int .u64 xn, .int .i64 v.K, .int .i64 v.J, .int .i64 v.G] := by rw [hwb]; exact Whole.fresh _ _ _
                    have hMb := hM.later hbb
                    have HGB := Lib.hid (hG.below hbb hG.lt)
                    have HMB := Lib.hid hMb
                    have HXA := Lib.hid XA
                    have HBD := Lib.hid hB
                    have HAT := Lib.hid hat
                    have HWB := Lib.hid hwb
                    have k0 : wb.cell? ⟨wr.heap.size, 0, none⟩ = some (.int .i64 v.k) := XA.cell 0
                    have k2 : wb.cell? ⟨wr.heap.size, 2, none⟩ = some (.int .i64 v.p) := XA.cell 2
                    have k4 : wb.cell? ⟨wr.heap.size, 6, none⟩ = some (.int .u64 xn) := XA.cell 6
                    have k5 : wb.cell? ⟨wr.heap.size, 7, none⟩ = some (.int .i64 v.K) := XA.cell 7
                    have k6 : wb.cell? ⟨wr.heap.size, 8, none⟩ = some (.int .i64 v.J) := XA.cell 8
                    have k7 : wb.cell? ⟨wr.heap.size, 9, none⟩ = some (.int .i64 v.G) := XA.cell 9
                    clear e0 e1 e2 e3 e4 e5 e6 e7 e8 e9 hM hB hG hat hbb XA hMb hwb hjl hvo hxn
                    go_upto_region 21 with fail
                    rw [← HWB.out]
                    clear HWB c0 c1 c2 c3 c4 c5 c6 c7 c8 c9
                    by_cases hk2 : v.k = 2
                    · rw [hk2] at k0
                      have CS := Lib.hid (isave_any HMB.out.im 8 v.p xn hxb)
                      go_wp2_with fail
                      refine CS.out.mono ?_
                      rintro e w10 hp
                      have HM10 := Lib.hid (HMB.out.wrote hp)
                      have HG10 := Lib.hid (hp.2.2.whole HGB.out HGO.out)
                      have HB10 := Lib.hid (HBD.out.save HAT.out.2.2.2.2 v.p xn)
                      obtain ⟨rfl, -, -⟩ := hp
                      clear CS k0 k2 k4 k5 k6 k7
                      go_wp2_with fail
                      go_roundw
                      case rel => exact ⟨j + 1, _, by omega, by go_num, HM10.out, HB10.out, HG10.out⟩
                      case measure => simp [intOf]; omega
                    · by_cases hk4 : v.k = 4
                      · rw [hk4] at k0
                        have CS := Lib.hid (itie_any HMB.out.im 8 v.p v.K v.J v.G)
                        go_wp2_with fail
                        refine CS.out.mono ?_
                        rintro e w10 hp
                        have HM10 := Lib.hid (HMB.out.wrote hp)
                        have HG10 := Lib.hid (hp.2.2.whole HGB.out HGO.out)
                        have HB10 := Lib.hid (HBD.out.tie HAT.out.2.2.2.2 v.p v.K v.J v.G)
                        obtain ⟨rfl, -, -⟩ := hp
                        clear CS k0 k2 k4 k5 k6 k7
                        go_wp2_with fail
                        go_roundw
                        case rel => exact ⟨j + 1, _, by omega, by go_num, HM10.out, HB10.out, HG10.out⟩
                        case measure => simp [intOf]; omega
                      · have d2 : (v.k == 2) = false := by simpa using hk2
                        have d4 : (v.k == 4) = false := by simpa using hk4
                        have CS := Lib.hid (iload_any HMB.out.im 8 v.p)
                        clear hk2 hk4
                        go_wp2_with fail
                        refine CS.out.mono ?_
                        rintro e w10 ⟨rfl, hb10⟩
                        have hM10 := HMB.out.later hb10
                        have k2' : w10.cell? ⟨wr.heap.size, 2, none⟩ = some (.int .i64 v.p) := (HXA.out.below hb10 HXA.out.lt).cell 2
                        have CF := Lib.hid (ifollow_any hM10.im 8 v.p)
                        have HM10 := Lib.hid hM10
                        have HG10 := Lib.hid (HGB.out.below hb10 HGB.out.lt)
                        clear CS hb10 hM10 k0 k2 k4 k5 k6 k7
                        go_wp2_with fail
                        refine CF.out.mono ?_
                        rintro e w11 ⟨rfl, hb11⟩
                        have HM11 := Lib.hid (HM10.out.later hb11)
                        have HG11 := Lib.hid (HG10.out.below hb11 HG10.out.lt)
                        clear CF hb11 k2'
                        go_wp2_with fail
                        go_roundw
                        case rel => exact ⟨j + 1, _, by omega, by go_num, HM11.out, HBD.out, HG11.out⟩
                        case measure => simp [intOf]; omega
                  · obtain rfl : j = n1 := by omega
                    have HMj := Lib.hid hM
                    have HBj := Lib.hid hB
                    have HGj := Lib.hid hG
                    have HAT := Lib.hid hat
                    clear hM hB hG hat hlt hj
                    go_wp2_with fail
                    go_loopw [131] (fun v wr => ∃ k : Nat, k ≤ 40 ∧ v = .int .i64 k ∧ Ms w3 wr I J (cf5 Dl) f wd0 ∧ Whole wr g 28 #[.int .i64 1, .int .i64 C, .int .i64 9]) (fun v _ => 40 - (intOf v).toNat)
                    case atStart => exact ⟨0, Nat.zero_le _, rfl, HMj.out, HGj.out⟩
                    case round =>
                      clear HMj HGj
                      obtain ⟨k, hk, rfl, hM, hG⟩ := hrel
                      by_cases hlt : k < 40
                      · have CR := read_any hM.im.st (k : Int)
                        have ha : addrE (cf5 Dl).own (cf5 Dl).C (cf5 Dl).K (k : Int) = 0 := ad5 Dl hlt
                        have hv : readV (cf5 Dl).own f (cf5 Dl).C (cf5 Dl).K (k : Int) = f k := by unfold readV; rw [if_pos ha, Int.toNat_natCast]
                        rw [hv, ha] at CR
                        have z1 : IntKind.u64.wrap (k : Int) = (k : Int) := by rw [IntKind.wrap_u64]; omega
                        have z2 : IntKind.u64.wrap ((k : Int) * 3) = (k : Int) * 3 := by rw [IntKind.wrap_u64]; omega
                        have z3 : IntKind.u64.wrap ((k : Int) * 3 + 1) = (k : Int) * 3 + 1 := by rw [IntKind.wrap_u64]; omega
                        have HMk := Lib.hid hM
                        have HGk := Lib.hid hG
                        by_cases ho : k < 8 ∨ 8 + nn < k
                        · have hx := HBj.out.out k hlt ho
                          rw [hx, show ((k * 3 + 1 : Nat) : Int) = (k : Int) * 3 + 1 by omega] at CR
                          have HCR := Lib.hid CR
                          clear CR ha hv hM hG hx
                          by_cases h8 : k < 8
                          · have d8 : decide ((k : Int) < 8) = true := by simp; omega
                            clear ho
                            go_wp2_with fail
                            refine HCR.out.mono ?_
                            rintro e w12 ⟨rfl, rfl⟩
                            go_wp2_with fail
                            go_roundw
                            case rel => exact ⟨k + 1, by omega, by go_num, HMk.out, HGk.out⟩
                            case measure => simp [intOf]; omega
                          · have d8 : decide ((k : Int) < 8) = false := by simp; omega
                            have d9 : decide ((8 : Int) + (nn : Int) < (k : Int)) = true := by simp; omega
                            clear ho
                            go_wp2_with fail
                            refine HCR.out.mono ?_
                            rintro e w12 ⟨rfl, rfl⟩
                            go_wp2_with fail
                            go_roundw
                            case rel => exact ⟨k + 1, by omega, by go_num, HMk.out, HGk.out⟩
                            case measure => simp [intOf]; omega
                        · obtain ⟨x, hx⟩ : ∃ x, x = f k := ⟨_, rfl⟩
                          rw [← hx] at CR
                          have HCR := Lib.hid CR
                          have d8 : decide ((k : Int) < 8) = false := by simp; omega
                          have d9 : decide ((8 : Int) + (nn : Int) < (k : Int)) = false := by simp; omega
                          clear CR ha hv hM hG hx ho
                          go_wp2_with fail
                          refine HCR.out.mono ?_
                          rintro e w12 ⟨rfl, rfl⟩
                          go_wp2_with fail
                          go_roundw
                          case rel => exact ⟨k + 1, by omega, by go_num, HMk.out, HGk.out⟩
                          case measure => simp [intOf]; omega
                      · obtain ⟨z, hz5⟩ : ∃ z : Int, z = (k : Int) := ⟨_, rfl⟩
                        rw [← hz5]
                        obtain rfl : z = 40 := by omega
                        clear hz5
                        have CA := iat_any hM.im 8
                        rw [HAT.out.1, HAT.out.2.1, HAT.out.2.2.1, HAT.out.2.2.2.1, HAT.out.2.2.2.2] at CA
                        have HCA := Lib.hid CA
                        have HMk := Lib.hid hM
                        have HGk := Lib.hid hG
                        clear CA hM hG hlt hk
                        go_wp2_with fail
                        refine HCA.out.mono ?_
                        rintro e w12 ⟨rfl, hb12⟩
                        have hb13 := hb12.alloc hb12.size (.cells #[.int .i64 1, .int .i64 C, .int .i64 9] 28)
                        have hM13 := HMk.out.later hb13
                        have hG13 := HGk.out.below hb13 HGk.out.lt
                        obtain ⟨w13, hw13⟩ : ∃ w13, w13 = w12.alloc (.cells #[.int .i64 1, .int .i64 C, .int .i64 9] 28) := ⟨_, rfl⟩
                        have O := Whole.fresh w12 28 #[.int .i64 1, .int .i64 C, .int .i64 9]
                        rw [← hw13] at hM13 hG13 O
                        obtain ⟨o0, o1, o2⟩ := O.cells3
                        obtain ⟨g0, g1, g2⟩ := hG13.cells3
                        have hCi : I64 C := by have := HK.out; unfold I64; omega
                        have CK := imake_any hM13.im 8 1 C 9 hCi
                        have mk : IM.mkE (cf5 Dl) 8 1 C 9 = 0 ∧ IM.mkN (cf5 Dl) 8 1 C 9 = ((nn + 1 : Nat) : Int) ∧ IM.mkW (cf5 Dl) f 8 1 C 9 = IM.laid f 8 (nn + 1) (HM.word 1 C 9).toNat := mk_ok (a := 8) HMAY.out HSZ.out.1 HSZ.out.2 (by omega)
                        rw [mk.1, mk.2.1, mk.2.2] at CK
                        have hlz : ∀ i, i < nn → IM.laid f 8 (nn + 1) (HM.word 1 C 9).toNat (9 + i) = 0 := fun i hi => by unfold IM.laid; rw [if_neg (by omega), if_pos (by omega)]
                        obtain ⟨f2, hf2⟩ : ∃ f2, f2 = IM.laid f 8 (nn + 1) (HM.word 1 C 9).toNat := ⟨_, rfl⟩
                        rw [← hf2] at CK hlz
                        have HCK := Lib.hid CK
                        have HM13 := Lib.hid hM13
                        have HLZ := Lib.hid hlz
                        have HW13 := Lib.hid hw13
                        clear hb12 hb13 hM13 hG13 O hCi CK mk hlz hf2 hw13 HCA
                        go_upto_region 37 with fail
                        rw [← HW13.out]
                        clear HW13
                        go_wp2_with fail
                        refine HCK.out.mono ?_
                        rintro e w14 hp
                        have HM14 := Lib.hid (HM13.out.wrote hp)
                        obtain ⟨rfl, -, -⟩ := hp
                        clear HCK o0 o1 o2 g0 g1 g2
                        go_wp2_with fail
                        go_loopw [184] (fun v wr => ∃ k : Nat, k ≤ nn ∧ v = .int .i64 k ∧ Ms w3 wr I J (cf5 Dl) f2 wd0) (fun v _ => nn - (intOf v).toNat)
                        case atStart => exact ⟨0, Nat.zero_le _, rfl, HM14.out⟩
                        case round =>
                          clear HM14
                          obtain ⟨k, hk, rfl, hM⟩ := hrel
                          by_cases hlt : k < nn
                          · have CR := read_any hM.im.st ((9 : Int) + (k : Int))
                            have ea : (9 : Int) + (k : Int) = ((9 + k : Nat) : Int) := by omega
                            have ha : addrE (cf5 Dl).own (cf5 Dl).C (cf5 Dl).K ((9 : Int) + (k : Int)) = 0 := by rw [ea]; exact ad5 Dl (by omega)
                            have hv : readV (cf5 Dl).own f2 (cf5 Dl).C (cf5 Dl).K ((9 : Int) + (k : Int)) = 0 := by unfold readV; rw [if_pos ha, ea, Int.toNat_natCast]; exact HLZ.out k hlt
                            rw [hv, ha] at CR
                            have HCR := Lib.hid CR
                            have HMk := Lib.hid hM
                            clear CR ea ha hv hM
                            go_wp2_with fail
                            refine HCR.out.mono ?_
                            rintro e w15 ⟨rfl, rfl⟩
                            go_wp2_with fail
                            go_roundw
                            case rel => exact ⟨k + 1, by omega, by go_num, HMk.out⟩
                            case measure => simp [intOf]; omega
                          · obtain rfl : k = nn := by omega
                            have HBL := Lib.hid (HB3.out.trans (hM.bel.mono HB3.out.size))
                            clear hM
                            go_wp2_with fail
                            go_ret
                            exact ⟨rfl, HBL.out⟩
        · have d2 : decide ((20 : Int) < sz) = true := by simp; omega
          subst hz
          clear HM6 HJ HSE
          go_wp2_with fail
          go_ret
          exact ⟨rfl, HB6.out⟩
      · have hd : (er != 0) = true := by simpa using hz
        clear HM6 HJ HSE
        go_wp2_with fail
        go_ret
        exact ⟨rfl, HB6.out⟩
end Go.Proofs.YteneadimchhhhaaDoor
