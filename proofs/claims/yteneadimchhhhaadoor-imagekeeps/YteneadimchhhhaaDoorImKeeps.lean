/- The walk of ImageKeeps. -/
import Derived.Test.YteneadimchhhhaaDoorImAlive
import Derived.Test.YteneadimchhhhaaDoorImKpM
namespace Go.Proofs.YteneadimchhhhaaDoor
open Go.RowKit

/-- The plain layout of two words, in memory. -/
def lv2 : LV := ⟨2, 0, none, 0, 0, [], none, 0, 0, []⟩
theorem lv2_lists (W : World) (lo hi : Nat) : lv2.lists W lo hi :=
  ⟨⟨⟨rfl, (fun x hx => by cases hx), (fun h => absurd h (by decide))⟩, (fun a e => by cases e), (fun _ => rfl)⟩, ⟨⟨rfl, (fun x hx => by cases hx), (fun h => absurd h (by decide))⟩, (fun a e => by cases e), (fun _ => rfl)⟩⟩
/-- Two layouts in a slice of their own. -/
theorem ls_two {W : World} {g hi : Nat} {t : TypeId} {l : LV} (h : Whole W g t #[.int .i64 l.F, .slice l.A l.n l.c, .int .i64 l.R, .slice l.D l.m l.d, .int .i64 2, .slice none 0 0, .int .i64 0, .slice none 0 0]) (hl : l.lists W 0 hi) (hh : hi ≤ W.heap.size) (hF : I64 l.F) (hR : I64 l.R) : LS W W.heap.size (some ⟨g, 0, none⟩) 2 [l, lv2] := by
  refine ⟨rfl, fun _ => ⟨g, 0, rfl, h.lt, fun i k j hi hj => ?_⟩, fun k hk => ?_⟩
  · match i, hi with
    | 0, hi =>
      simp at hi
      subst hi
      rw [show 0 + 0 * 4 + j = j by omega, h.cell]
      match j, hj with
      | 0, _ => rfl
      | 1, _ => rfl
      | 2, _ => rfl
      | 3, _ => rfl
    | 1, hi =>
      simp at hi
      subst hi
      rw [show 0 + 1 * 4 + j = 4 + j by omega, h.cell]
      match j, hj with
      | 0, _ => rfl
      | 1, _ => rfl
      | 2, _ => rfl
      | 3, _ => rfl
    | i + 2, hi => simp at hi
  · rcases List.mem_cons.1 hk with rfl | hk
    · exact ⟨Lists.mono hl (Nat.le_refl _) hh, hF, hR⟩
    · rw [List.mem_singleton] at hk
      subst hk
      exact ⟨lv2_lists _ _ _, by show I64 2; unfold I64; omega, by show I64 0; unfold I64; omega⟩
theorem pick_two {l : LV} (h : l.right = true) : pick 6 [l, lv2] = [l, lv2] := by
  unfold pick
  rw [show ([l, lv2] : List LV).take 6 = [l, lv2] from rfl, List.filter_cons_of_pos h]
  rfl
section
variable {w0 w w' : World} {I : IB} {J : DB} {q : Cf} {wd wd' wc : Nat → Nat}
theorem Ms.wrote (h : Ms w0 w I J q wd wc) {v : Value} {e : Ending} (hp : IwPost v I q wd' w e w') : Ms w0 w' I J q wd' wc := h.code hp.2.1 hp.2.2
theorem Ms.old (h : Ms w0 w I J q wd wc) {g : Nat} {t : TypeId} {cs : Array Value} (hx : Whole w0 g t cs) : Whole w g t cs := hx.below h.bel hx.lt
end
/-- What the law writes at a place: the words that it was given, then 7. -/
def xw (ws : List Int) (p : Nat) : Nat := match ws[p]? with
  | some x => x.toNat
  | none => 7
theorem NS.xw_yes {w : World} {B n p : Nat} {A : Option Addr} {ws : List Int} (h : NS .u64 w B A n ws) (hp : p < n) : ∃ b off, A = some ⟨b, off, none⟩ ∧ b < B ∧ w.cell? ⟨b, off + p, none⟩ = some (.int .u64 ((xw ws p : Nat) : Int)) := by
  obtain ⟨b, off, e, hlt, hc⟩ := h.2.2 (by omega)
  have hl : p < ws.length := by have := h.1; omega
  have hi := List.getElem?_eq_getElem hl
  have hb := bounds_u64 (h.2.1 _ (List.getElem_mem hl))
  refine ⟨b, off, e, hlt, ?_⟩
  unfold xw
  rw [hi, hc p _ hi]
  dsimp only
  rw [Int.toNat_of_nonneg (by omega)]
theorem NS.xw_no {w : World} {B n p : Nat} {A : Option Addr} {ws : List Int} (h : NS .u64 w B A n ws) (hp : n ≤ p) : xw ws p = 7 := by
  unfold xw
  rw [List.getElem?_eq_none_iff.2 (by have := h.1; omega)]
theorem NS.xw_lt {w : World} {B n : Nat} {A : Option Addr} {ws : List Int} (h : NS .u64 w B A n ws) (p : Nat) : xw ws p < 18446744073709551616 := by
  unfold xw
  split
  · next x hx =>
    have hb := bounds_u64 (h.2.1 _ (List.mem_of_getElem? hx))
    omega
  · omega
/-- What is at a place. -/
def vw (F R : Int) (xs ys ws : List Int) (K J G : Int) (p : Nat) : Nat := if LM.isRef F R xs ys p = true then (HM.wW K J G).toNat else xw ws p

set_option maxRecDepth 100000 in
set_option maxHeartbeats 8000000 in
theorem keeps_walk (F R : Int) (A : Option Addr) (n c : Nat) (xs : List Int) (D : Option Addr) (m d : Nat) (ys : List Int) (A1 : Option Addr) (n1 c1 : Nat) (ws : List Int) (T0 T1 : Int) (w : World) (hF : I64 F) (hR : I64 R) (hL : Lists w 0 w.heap.size A n c xs D m d ys) (hA : NS .u64 w w.heap.size A1 n1 ws) (hT : Tab w) :
    Calls Tryd.prog 4 #[.agg #[.int .i64 F, .slice A n c, .int .i64 R, .slice D m d], .slice A1 n1 c1, .agg #[.int .i64 T0, .int .i64 T1]] w fun e w' => e = .returned (.bool true) ∧ Below w.heap.size w w' := by
  obtain ⟨w1, hw1⟩ : ∃ w1, w1 = (w.alloc (.cells #[.int .i64 F, .slice A n c, .int .i64 R, .slice D m d] 56)).alloc (.cells #[.int .i64 T0, .int .i64 T1] 36) := ⟨_, rfl⟩
  have hb1 : Below w.heap.size w w1 := by rw [hw1]; exact ((Below.refl _ _).alloc (Nat.le_refl _) _).alloc (by simp) _
  have X1 : Whole w1 w.heap.size 56 #[.int .i64 F, .slice A n c, .int .i64 R, .slice D m d] := by rw [hw1]; exact (Whole.fresh _ _ _).alloc _
  have Y1 : Whole w1 (w.heap.size + 1) 36 #[.int .i64 T0, .int .i64 T1] := by rw [hw1]; exact Whole.fresh' (by simp)
  obtain ⟨x0, x1, x2, x3⟩ := X1.cells4
  have HW1 := Lib.hid hw1
  have HB1 := Lib.hid hb1
  have HX1 := Lib.hid X1
  have HY1 := Lib.hid Y1
  have HL := Lib.hid hL
  have HA := Lib.hid hA
  have HFR := Lib.hid (And.intro hF hR)
  have HT := Lib.hid hT
  clear hw1 hb1 X1 Y1 hL hA hF hR hT
  go_enter Tryd.func4, Tryd.ntmps4
  go_upto_region 1 with fail
  rw [← HW1.out]
  by_cases hg : 100 < n ∨ 100 < m
  · have AL := Lib.hid (ialive_any w1 (HT.out.below HB1.out HT.out.pos))
    have hg2 : 100 < n ∨ (n ≤ 100 ∧ 100 < m) := by omega
    clear hg
    rcases hg2 with hn | ⟨hn, hm⟩
    · have d1 : decide ((100 : Int) < (n : Int)) = true := by simp; omega
      go_wp2_with fail
      refine AL.out.mono ?_
      rintro e w3 ⟨rfl, hb3⟩
      have HB3 := Lib.hid (HB1.out.trans (hb3.mono HB1.out.size))
      go_wp2_with fail
      go_ret
      exact ⟨rfl, HB3.out⟩
    · have d1 : decide ((100 : Int) < (n : Int)) = false := by simp; omega
      have d2 : decide ((100 : Int) < (m : Int)) = true := by simp; omega
      go_wp2_with fail
      refine AL.out.mono ?_
      rintro e w3 ⟨rfl, hb3⟩
      have HB3 := Lib.hid (HB1.out.trans (hb3.mono HB1.out.size))
      go_wp2_with fail
      go_ret
      exact ⟨rfl, HB3.out⟩
  · have hn : n ≤ 100 := by omega
    have hm : m ≤ 100 := by omega
    clear hg
    have d1 : decide ((100 : Int) < (n : Int)) = false := by simp; omega
    have d2 : decide ((100 : Int) < (m : Int)) = false := by simp; omega
    obtain ⟨w3, hw3⟩ : ∃ w3, w3 = w1.alloc (.cells #[.int .i64 F, .slice A n c, .int .i64 R, .slice D m d, .int .i64 2, .slice none 0 0, .int .i64 0, .slice none 0 0] 56) := ⟨_, rfl⟩
    have hb3 : Below w1.heap.size w1 w3 := by rw [hw3]; exact (Below.refl _ _).alloc (Nat.le_refl _) _
    have hB3 := HB1.out.trans (hb3.mono HB1.out.size)
    have Y3 : Whole w3 w1.heap.size 56 #[.int .i64 F, .slice A n c, .int .i64 R, .slice D m d, .int .i64 2, .slice none 0 0, .int .i64 0, .slice none 0 0] := by rw [hw3]; exact Whole.fresh _ _ _
    have hL3 := Lists.kept HL.out (Kept.of_below hB3 (Nat.le_refl _))
    have hT3 := HT.out.below hB3 HT.out.pos
    have CM := made_any (some ⟨w1.heap.size, 0, none⟩) 2 2 [⟨F, R, A, n, c, xs, D, m, d, ys⟩, lv2] w3 (ls_two (l := ⟨F, R, A, n, c, xs, D, m, d, ys⟩) Y3 hL3 hB3.size HFR.out.1 HFR.out.2) (by
      intro l hl
      rcases List.mem_cons.1 hl with rfl | hl
      · exact ⟨by show n ≤ _; omega, by show m ≤ _; omega⟩
      · rw [List.mem_singleton] at hl; subst hl; exact ⟨by show 0 ≤ _; omega, by show 0 ≤ _; omega⟩) (by omega) hT3
    have HCM := Lib.hid CM
    have HW3 := Lib.hid hw3
    have HB3 := Lib.hid hB3
    have HX3 := Lib.hid (HX1.out.below hb3 HX1.out.lt)
    have HY3 := Lib.hid (HY1.out.below hb3 HY1.out.lt)
    have HL3 := Lib.hid hL3
    have HT3 := Lib.hid hT3
    have HA3 := Lib.hid (HA.out.below hB3)
    clear CM hw3 hb3 hB3 Y3 hL3 hT3 HX1 HY1 HL HA HT HW1
    go_wp2_with fail
    rw [← HW3.out]
    refine HCM.out.mono ?_
    rintro e w4 ⟨I, J, rfl, hJ, hM4⟩
    have AL := Lib.hid (ialive_any w4 (HT3.out.below hM4.bel HT3.out.pos))
    have HM4 := Lib.hid hM4
    have HJ := Lib.hid hJ
    clear hM4 hJ HCM x0 x1 x2 x3
    go_wp2_with fail
    refine AL.out.mono ?_
    rintro e w5 ⟨rfl, hb5⟩
    have hM5 := HM4.out.later hb5
    obtain ⟨x0, x1, x2, x3⟩ := (hM5.old HX3.out).cells4
    have HM5 := Lib.hid hM5
    clear hb5 hM5 HM4 AL
    obtain ⟨C, hC⟩ : ∃ C : Int, C = min 1 R := ⟨_, rfl⟩
    have hL5 := Lists.kept HL3.out (Kept.of_below HM5.out.bel HB3.out.size)
    have CS := refSize_any F R A n c xs D m d ys C w.heap.size w5 (Nat.le_trans HB3.out.size HM5.out.bel.size) (by omega) (by omega) HFR.out.1 HFR.out.2 hL5.fst.ns hL5.snd.ns (by have := HFR.out.2; unfold I64 at *; omega)
    have hsz := LM.size_bd F R xs ys C
    obtain ⟨sz, hse⟩ : ∃ x, x = LM.size F R xs ys C := ⟨_, rfl⟩
    obtain ⟨er, hre⟩ : ∃ x, x = LM.code F R xs ys C := ⟨_, rfl⟩
    rw [← hse, ← hre] at CS
    rw [← hse] at hsz
    have HCS := Lib.hid CS
    have HCC := Lib.hid hC
    have HSE := Lib.hid (And.intro hse hre)
    clear CS hL5 hse hre hC
    go_upto_region 6 with fail
    go_cut [10, 11] from 65 to 72 (fun s8 s9 wx => s8 = .int .i64 sz ∧ s9 = .int .i64 er ∧ Below w5.heap.size w5 wx)
    case first =>
      have hC := HCC.out
      go_wp2_with fail
      · obtain rfl : C = R := by omega
        (with_reducible refine HCS.out.mono ?_)
        rintro e w6 ⟨rfl, hb6⟩
        clear hC HCC HSE
        go_wp2_with fail
        go_meet
        exact ⟨rfl, rfl, hb6⟩
      · obtain rfl : C = 1 := by omega
        (with_reducible refine HCS.out.mono ?_)
        rintro e w6 ⟨rfl, hb6⟩
        clear hC HCC HSE
        go_wp2_with fail
        go_meet
        exact ⟨rfl, rfl, hb6⟩
    case rest =>
      obtain ⟨rfl, rfl, hb6⟩ := hcut
      have hM6 := HM5.out.later hb6
      have HB6 := Lib.hid (HB3.out.trans (hM6.bel.mono HB3.out.size))
      have HM6 := Lib.hid hM6
      clear hb6 hM6 HM5 HCS
      by_cases hz : er = 0
      · by_cases hz2 : sz ≤ 8
        · obtain ⟨nn, rfl⟩ := Int.eq_ofNat_of_zero_le hsz.1
          have hcode : LM.code F R xs ys C = 0 := by rw [← HSE.out.2]; exact hz
          obtain ⟨hr, ⟨k1, k2, k3⟩, -⟩ := LM.code_zero hcode
          obtain ⟨⟨f1, f2, f3, f4, -⟩, -, -⟩ := LM.right_parts hr
          have hpk : pick 6 [⟨F, R, A, n, c, xs, D, m, d, ys⟩, lv2] = [⟨F, R, A, n, c, xs, D, m, d, ys⟩, lv2] := pick_two hr
          have hJ := HJ.out
          rw [hpk] at hJ
          have hM6 := HM6.out
          rw [hpk] at hM6
          obtain ⟨Ak, ck, hv⟩ := row_shape hM6.dc.row
          have hbx := hM6.dc.box
          rw [hJ] at hv
          rw [hv] at hbx
          have j1 : wc.cell? ⟨J.m, 1, none⟩ = some (.slice Ak 2 ck) := hbx.cell 1
          have hmay : HM.may 1 C 5 = true := (HM.may_iff _ _ _).2 (by omega)
          have hsl : LM.size F R xs ys C = F + C * R := LM.size_ok hcode
          obtain ⟨Dl, hDl⟩ : ∃ Dl : List LD, Dl = [LV.ld ⟨F, R, A, n, c, xs, D, m, d, ys⟩, two2] := ⟨_, rfl⟩
          have hM6' : Ms w3 wc I J (cf5 Dl) wd0 wd0 := by rw [hDl]; exact hM6
          have ft : (IM.szE Dl 1 C = 0 ∧ IM.szN Dl 1 C = ((nn + 1 : Nat) : Int)) ∧ (IM.szE Dl 2 0 = 0 ∧ IM.szN Dl 2 0 = 3) ∧ (∀ p, IM.isR Dl 1 p = LM.isRef F R xs ys p) ∧ ∀ p, p < 2 → IM.isR Dl 2 p = false := by
            rw [hDl]
            obtain ⟨se1, sn1⟩ := sz_lay (C := C) (one_lay (LV.ld ⟨F, R, A, n, c, xs, D, m, d, ys⟩))
            exact ⟨⟨se1.trans hcode, (sn1 hcode).trans (by show 1 + LM.size F R xs ys C = _; rw [← HSE.out.1]; omega)⟩, two_sz _, one_ref _, two_ref _⟩
          have hrp : ∀ p : Nat, p < nn → (p : Int) < F ∨ 0 < R := fun p hp => by
            have h1 := HSE.out.1
            rw [hsl] at h1
            by_cases h : 0 < R
            · exact .inr h
            · obtain rfl : R = 0 := by omega
              rw [Int.mul_zero] at h1
              exact .inl (by omega)
          have HMAY := Lib.hid hmay
          have HFT := Lib.hid ft
          have HRP := Lib.hid hrp
          have HM7 := Lib.hid hM6'
          have HK := Lib.hid (And.intro (And.intro k1 k2) (And.intro f1 f2))
          have hnn : nn ≤ 8 := by omega
          subst hz
          clear x0 x1 x2 x3
          obtain ⟨x0, x1, x2, x3⟩ := (HM7.out.old HX3.out).cells4
          clear hM6 hM6' hJ HJ HM6 hpk hv hbx hmay ft hrp hDl hcode hr hsl k1 k2 k3 f1 f2 f3 f4 hsz HSE
          have d8 : decide ((8 : Int) < (nn : Int)) = false := by simp; omega
          go_upto_region 9 with fail
          go_cut [12] from 87 to 90 (fun s12 wx => ∃ g, s12 = .pointer (some ⟨g, 0, none⟩) ∧ wc.heap.size ≤ g ∧ Whole wx g 28 #[.int .i64 1, .int .i64 C, .int .i64 5] ∧ Below wc.heap.size wc wx)
          case first =>
            have hC := HCC.out
            go_wp2_with fail
            · obtain rfl : C = R := by omega
              clear hC HCC
              go_meet
              exact ⟨_, rfl, Nat.le_refl _, Whole.fresh _ _ _, (Below.refl _ _).alloc (Nat.le_refl _) _⟩
            · obtain rfl : C = 1 := by omega
              clear hC HCC
              go_meet
              exact ⟨_, rfl, Nat.le_refl _, Whole.fresh _ _ _, (Below.refl _ _).alloc (Nat.le_refl _) _⟩
          case rest =>
            obtain ⟨gh, rfl, hgl, hgw, hbg⟩ := hcut
            have hMc := HM7.out.later hbg
            obtain ⟨g0, g1, g2⟩ := hgw.cells3
            have hCi : I64 C := by have := HK.out; unfold I64; omega
            have CK1 := imake_any hMc.im 0 1 C 5 hCi
            have mk := kp_make1 HMAY.out HFT.out.1 hnn
            rw [mk.1, mk.2.1, mk.2.2] at CK1
            have hw1 := (HM.word_lt HMAY.out).1
            obtain ⟨f1, hf1⟩ : ∃ f1, f1 = IM.laid wd0 0 (nn + 1) (HM.word 1 C 5).toNat := ⟨_, rfl⟩
            rw [← hf1] at CK1
            have HCK1 := Lib.hid CK1
            have HMc := Lib.hid hMc
            have HGW := Lib.hid hgw
            have HF1 := Lib.hid hf1
            have HWS := Lib.hid hw1
            have HGO := Lib.hid (show gh ∉ I.wr from fun hx => by have h1 := HM7.out.im.wrlt hx; have h2 := HM7.out.im.lolt; omega)
            clear CK1 hMc mk hf1 hw1 hCi HM7 hbg hgl hgw x0 x1 x2 x3 j1
            go_wp2_with fail
            refine HCK1.out.mono ?_
            rintro e w9 hp
            have hM9 := HMc.out.wrote hp
            have HG9 := Lib.hid (show Whole w9 gh 28 #[.int .i64 1, .int .i64 C, .int .i64 5] from hp.2.2.whole HGW.out HGO.out)
            obtain ⟨rfl, -, -⟩ := hp
            have CK2 := imake_any hM9.im ((nn : Int) + 1) 2 0 6 (by unfold I64; omega)
            have mk2 := kp_make2 (f := f1) HFT.out.2.1 hnn
            rw [mk2.1, mk2.2.1, mk2.2.2] at CK2
            obtain ⟨f2, hf2⟩ : ∃ f2, f2 = IM.laid f1 (nn + 1) 3 (HM.word 2 0 6).toNat := ⟨_, rfl⟩
            rw [← hf2] at CK2
            have HCK2 := Lib.hid CK2
            have HM9 := Lib.hid hM9
            have HF2 := Lib.hid hf2
            clear HCK1 HMc HGW g0 g1 g2 hM9 CK2 mk2 hf2
            go_wp2_with fail
            refine HCK2.out.mono ?_
            rintro e w10 hp
            have hM10 := HM9.out.wrote hp
            have HG10 := Lib.hid (show Whole w10 gh 28 #[.int .i64 1, .int .i64 C, .int .i64 5] from hp.2.2.whole HG9.out HGO.out)
            obtain ⟨rfl, -, -⟩ := hp
            obtain ⟨ld, -, sv⟩ := kp_two (g := f2) HFT.out.2.1 hnn HFT.out.2.2.2 (by rw [HF2.out]; exact kp_laid2)
            have CS3 := isave_any hM10.im ((nn : Int) + 1) 1 99 (by omega)
            rw [ld, sv] at CS3
            have hkp : KpW nn 0 (vw F R xs ys ws 0 0 0) (HM.word 1 C 5) (HM.word 2 0 6) (IM.upd f2 (nn + 3) 99) := by rw [HF2.out, HF1.out]; exact kp0_is nn _ HWS.out word_two
            obtain ⟨f3, hf3⟩ : ∃ f3, f3 = IM.upd f2 (nn + 3) 99 := ⟨_, rfl⟩
            rw [← hf3] at CS3 hkp
            have HCS3 := Lib.hid CS3
            have HM10 := Lib.hid hM10
            have HKP := Lib.hid hkp
            clear HCK2 HM9 HG9 hM10 ld sv CS3 hf3 hkp HF1 HF2
            go_wp2_with fail
            refine HCS3.out.mono ?_
            rintro e w11 hp
            have hM11 := HM10.out.wrote hp
            have HG11 := Lib.hid (show Whole w11 gh 28 #[.int .i64 1, .int .i64 C, .int .i64 5] from hp.2.2.whole HG10.out HGO.out)
            obtain ⟨rfl, -, -⟩ := hp
            obtain ⟨y0, y1⟩ := (hM11.old HY3.out).cells2
            have HM11 := Lib.hid hM11
            clear HCS3 HM10 HG10 hM11
            go_upto_region 15 with fail
            go_cut [18] from 126 to 138 (fun s18 wx => ∃ g Jx Gx, s18 = .pointer (some ⟨g, 0, none⟩) ∧ w11.heap.size ≤ g ∧ Whole wx g 38 #[.int .i64 2, .int .i64 Jx, .int .i64 Gx] ∧ Below w11.heap.size w11 wx ∧ HM.lmay 2 Jx Gx = true)
            case first =>
              go_wp2_with fail
              go_meet
              refine ⟨_, _, _, rfl, Nat.le_refl _, Whole.fresh _ _ _, (Below.refl _ _).alloc (Nat.le_refl _) _, ?_⟩
              exact tok_may T0 T1
            case rest =>
              obtain ⟨gt, Jx, Gx, rfl, hgl, hgt, hbl, hlm⟩ := hcut
              have hM12 := HM11.out.later hbl
              have HG12 := Lib.hid (HG11.out.below hbl HG11.out.lt)
              have HGTO := Lib.hid (show gt ∉ I.wr from fun hx => by have h1 := HM11.out.im.wrlt hx; have h2 := HM11.out.im.lolt; omega)
              have HLM := Lib.hid hlm
              have hwE : HM.wE 2 Jx Gx = 0 := by unfold HM.wE; rw [if_pos hlm]
              have HWE := Lib.hid hwE
              obtain ⟨V, hV⟩ : ∃ V : Nat → Nat, V = vw F R xs ys ws 2 Jx Gx := ⟨_, rfl⟩
              have HV := Lib.hid (show (∀ p : Nat, LM.isRef F R xs ys p = true → V p = (HM.wW 2 Jx Gx).toNat) ∧ ∀ p : Nat, LM.isRef F R xs ys p = false → V p = xw ws p by
                rw [hV]
                unfold vw
                exact ⟨fun p h => by rw [if_pos h], fun p h => by rw [if_neg (by rw [h]; decide)]⟩)
              have HIR := Lib.hid (fun (p : Nat) (hp : p < nn) (W : World) (hb : Below w3.heap.size w3 W) =>
                have hL' := Lists.kept HL3.out (Kept.of_below hb HB3.out.size)
                refIsRef_any F R A n c xs D m d ys (p : Int) w.heap.size W (Nat.le_trans HB3.out.size hb.size) (by omega) (by omega) HFR.out.2 hL'.fst.ns hL'.snd.ns HK.out.2.1 HK.out.2.2 (by omega) (by omega) (HRP.out p hp))
              have HKP2 := Lib.hid (HKP.out.zero (V' := V))
              have HGT := Lib.hid hgt
              have HM12 := Lib.hid hM12
              clear hgl hgt hbl hlm hwE hV hM12 HM11 HG11 HKP y0 y1 HY3 HRP HL3
              go_wp2_with fail
              go_loopw [140] (fun v wr => ∃ (j : Nat) (f : Nat → Nat), j ≤ nn ∧ v = .int .i64 j ∧ Ms w3 wr I J (cf5 Dl) f wd0 ∧ KpW nn j V (HM.word 1 C 5) (HM.word 2 0 6) f ∧ Whole wr gh 28 #[.int .i64 1, .int .i64 C, .int .i64 5] ∧ Whole wr gt 38 #[.int .i64 2, .int .i64 Jx, .int .i64 Gx]) (fun v _ => nn - (intOf v).toNat)
              case atStart => exact ⟨0, f3, Nat.zero_le _, rfl, HM12.out, HKP2.out, HG12.out, HGT.out⟩
              case round =>
                clear HM12 HKP2 HG12 HGT
                obtain ⟨j, f, hj, rfl, hM, hB, hG, hT2⟩ := hrel
                have hat : IM.atE (cf5 Dl) f 0 = 0 ∧ IM.atL (cf5 Dl) f 0 = 1 ∧ IM.atC (cf5 Dl) f 0 = C ∧ IM.atS (cf5 Dl) f 0 = 5 ∧ IM.atN (cf5 Dl) f 0 = (nn : Int) + 1 := kp_one (b := 0) HMAY.out HFT.out.1 (by omega) hB.hd
                by_cases hlt : j < nn
                · obtain ⟨x, hx⟩ : ∃ x, x = xw ws j := ⟨_, rfl⟩
                  have hxb : x < 18446744073709551616 := by rw [hx]; exact HA3.out.xw_lt j
                  have HX := Lib.hid hx
                  have HXB := Lib.hid hxb
                  have HMj := Lib.hid hM
                  have HBj := Lib.hid hB
                  have HGj := Lib.hid hG
                  have HTj := Lib.hid hT2
                  have HAT := Lib.hid hat
                  clear hx hxb hM hB hG hT2 hat
                  go_upto_if 146 with fail
                  go_cut [20] from 147 to 150 (fun s20 wx => s20 = .int .u64 (x : Int) ∧ wx = wr)
                  case first =>
                    by_cases hw : j < n1
                    · obtain ⟨b, off, rfl, hlb, hcl⟩ := HA3.out.xw_yes hw
                      have c0 := (HMj.out.bel.cell (p := ⟨b, off + j, none⟩) (Nat.lt_of_lt_of_le hlb HB3.out.size)).trans hcl
                      rw [← HX.out] at c0
                      clear hcl hlb
                      go_wp2_with fail
                      go_meet
                      exact ⟨rfl, rfl⟩
                    · have h7 := HA3.out.xw_no (p := j) (by omega)
                      rw [← HX.out] at h7
                      go_wp2_with fail
                      go_meet
                      exact ⟨by rw [h7]; rfl, rfl⟩
                  case rest =>
                    obtain ⟨rfl, hwc⟩ := hcut
                    subst hwc
                    obtain ⟨x0, x1, x2, x3⟩ := (HMj.out.old HX3.out).cells4
                    have CI := HIR.out j hlt _ HMj.out.bel
                    rcases Bool.eq_false_or_eq_true (LM.isRef F R xs ys (j : Int)) with hr | hr
                    · rw [hr] at CI
                      have HCI := Lib.hid CI
                      have hrd : IM.isR Dl 1 (j : Int) = true := (HFT.out.2.2.1 _).trans hr
                      have HVR := Lib.hid (HV.out.1 j hr)
                      have KR := Lib.hid (fun (f' : Nat → Nat) (hh : (f' 0 : Int) = HM.word 1 C 5) =>
                        have hat : IM.atE (cf5 Dl) f' 0 = 0 ∧ IM.atL (cf5 Dl) f' 0 = 1 ∧ IM.atC (cf5 Dl) f' 0 = C ∧ IM.atS (cf5 Dl) f' 0 = 5 ∧ IM.atN (cf5 Dl) f' 0 = (nn : Int) + 1 := kp_one (b := 0) HMAY.out HFT.out.1 (by omega) hh
                        kp_ref (D := Dl) (f := f') (a := 0) (p := (j : Int)) (L := 1) (N := (nn : Int)) (i := 1 + j) hat.1 hat.2.1 hat.2.2.2.2 (by omega) (by omega) (by omega) (by omega) hrd)
                      clear CI hr hrd
                      go_wp2_with fail
                      refine HCI.out.mono ?_
                      rintro e w13 ⟨rfl, hb13⟩
                      have hM13 := HMj.out.later hb13
                      have hG13 := HGj.out.below hb13 HGj.out.lt
                      have hT13 := HTj.out.below hb13 HTj.out.lt
                      obtain ⟨t0, t1, t2⟩ := hT13.cells3
                      have CT := itie_any hM13.im 0 (j : Int) 2 Jx Gx
                      obtain ⟨k1, k2⟩ := (KR.out f HBj.out.hd).2.2 2 Jx Gx HWE.out
                      rw [k1, k2] at CT
                      have hB1 := HBj.out.next hlt HVR.out.symm
                      obtain ⟨f1, hf1⟩ : ∃ f1, f1 = IM.upd f (1 + j) (HM.wW 2 Jx Gx).toNat := ⟨_, rfl⟩
                      rw [← hf1] at CT hB1
                      have HCT := Lib.hid CT
                      have HB1 := Lib.hid hB1
                      have HM13 := Lib.hid hM13
                      have HG13 := Lib.hid hG13
                      have HT13 := Lib.hid hT13
                      clear CT k1 k2 hf1 hB1 hM13 hG13 hT13 hb13 x0 x1 x2 x3 HCI
                      go_wp2_with fail
                      refine HCT.out.mono ?_
                      rintro e w14 hp
                      have hM14 := HM13.out.wrote hp
                      have HG14 := Lib.hid (hp.2.2.whole HG13.out HGO.out)
                      have HT14 := Lib.hid (hp.2.2.whole HT13.out HGTO.out)
                      obtain ⟨rfl, -, -⟩ := hp
                      have CS := isave_any hM14.im 0 (j : Int) x HXB.out
                      obtain ⟨k1, k2, -⟩ := KR.out f1 HB1.out.hd
                      rw [k1, k2 x] at CS
                      have HCS := Lib.hid CS
                      have HM14 := Lib.hid hM14
                      clear CS k1 k2 hM14 t0 t1 t2 HCT
                      go_wp2_with fail
                      refine HCS.out.mono ?_
                      rintro e w15 hp
                      have HM15 := Lib.hid (HM14.out.wrote hp)
                      have HG15 := Lib.hid (hp.2.2.whole HG14.out HGO.out)
                      have HT15 := Lib.hid (hp.2.2.whole HT14.out HGTO.out)
                      obtain ⟨rfl, -, -⟩ := hp
                      go_wp2_with fail
                      go_roundw
                      case rel => exact ⟨j + 1, f1, by omega, by go_num, HM15.out, HB1.out, HG15.out, HT15.out⟩
                      case measure => simp [intOf]; omega
                    · rw [hr] at CI
                      have HCI := Lib.hid CI
                      have hrd : IM.isR Dl 1 (j : Int) = false := (HFT.out.2.2.1 _).trans hr
                      have HVR := Lib.hid (HV.out.2 j hr)
                      have KR := Lib.hid (fun (f' : Nat → Nat) (hh : (f' 0 : Int) = HM.word 1 C 5) =>
                        have hat : IM.atE (cf5 Dl) f' 0 = 0 ∧ IM.atL (cf5 Dl) f' 0 = 1 ∧ IM.atC (cf5 Dl) f' 0 = C ∧ IM.atS (cf5 Dl) f' 0 = 5 ∧ IM.atN (cf5 Dl) f' 0 = (nn : Int) + 1 := kp_one (b := 0) HMAY.out HFT.out.1 (by omega) hh
                        kp_word (D := Dl) (f := f') (a := 0) (p := (j : Int)) (L := 1) (N := (nn : Int)) (i := 1 + j) hat.1 hat.2.1 hat.2.2.2.2 (by omega) (by omega) (by omega) (by omega) hrd)
                      clear CI hr hrd
                      go_wp2_with fail
                      refine HCI.out.mono ?_
                      rintro e w13 ⟨rfl, hb13⟩
                      have hM13 := HMj.out.later hb13
                      have CS := isave_any hM13.im 0 (j : Int) x HXB.out
                      obtain ⟨k1, -, k2, -⟩ := KR.out f HBj.out.hd
                      rw [k1, k2 x] at CS
                      have hB1 := HBj.out.next hlt (x := x) (HX.out.trans HVR.out.symm)
                      obtain ⟨f1, hf1⟩ : ∃ f1, f1 = IM.upd f (1 + j) x := ⟨_, rfl⟩
                      rw [← hf1] at CS hB1
                      have HCS := Lib.hid CS
                      have HB1 := Lib.hid hB1
                      have HM13 := Lib.hid hM13
                      have HG13 := Lib.hid (HGj.out.below hb13 HGj.out.lt)
                      have HT13 := Lib.hid (HTj.out.below hb13 HTj.out.lt)
                      clear CS k1 k2 hf1 hB1 hM13 hb13 x0 x1 x2 x3 HCI
                      go_wp2_with fail
                      refine HCS.out.mono ?_
                      rintro e w14 hp
                      have hM14 := HM13.out.wrote hp
                      have HG14 := Lib.hid (hp.2.2.whole HG13.out HGO.out)
                      have hT14 := hp.2.2.whole HT13.out HGTO.out
                      obtain ⟨t0, t1, t2⟩ := hT14.cells3
                      obtain ⟨rfl, -, -⟩ := hp
                      have CT := itie_any hM14.im 0 (j : Int) 2 Jx Gx
                      obtain ⟨k1, k2⟩ := (KR.out f1 HB1.out.hd).2.2.2 2 Jx Gx
                      rw [k1, k2] at CT
                      have HCT := Lib.hid CT
                      have HM14 := Lib.hid hM14
                      have HT14 := Lib.hid hT14
                      clear CT k1 k2 hM14 hT14 HCS
                      go_wp2_with fail
                      refine HCT.out.mono ?_
                      rintro e w15 hp
                      have HM15 := Lib.hid (HM14.out.wrote hp)
                      have HG15 := Lib.hid (hp.2.2.whole HG14.out HGO.out)
                      have HT15 := Lib.hid (hp.2.2.whole HT14.out HGTO.out)
                      obtain ⟨rfl, -, -⟩ := hp
                      clear t0 t1 t2
                      go_wp2_with fail
                      go_roundw
                      case rel => exact ⟨j + 1, f1, by omega, by go_num, HM15.out, HB1.out, HG15.out, HT15.out⟩
                      case measure => simp [intOf]; omega
                · obtain rfl : j = nn := by omega
                  have CV := imove_any hM.im ((j : Int) + 4) 0
                  obtain ⟨m1, m2, m3⟩ := mv_ok (D := Dl) (f := f) (t := (j : Int) + 4) hat.1 hat.2.2.2.2 rfl hnn
                  rw [m1, m2, m3] at CV
                  have hz := hB.moved
                  obtain ⟨g, hg⟩ : ∃ g, g = cpWd f (j + 4) 0 (j + 1) := ⟨_, rfl⟩
                  rw [← hg] at CV hz
                  have HCV := Lib.hid CV
                  have HZ := Lib.hid hz
                  have HMj := Lib.hid hM
                  have HGj := Lib.hid hG
                  have HTj := Lib.hid hT2
                  clear hg hz CV m1 m2 m3 hM hB hG hT2 hat hlt hj HWE
                  go_wp2_with fail
                  refine HCV.out.mono ?_
                  rintro e w16 hp
                  have hM16 := HMj.out.wrote hp
                  have hG16 := hp.2.2.whole HGj.out HGO.out
                  have hT16 := hp.2.2.whole HTj.out HGTO.out
                  obtain ⟨rfl, -, -⟩ := hp
                  obtain ⟨w17, hw17⟩ : ∃ w17, w17 = w16.alloc (.cells #[.int .i64 0, .int .i64 ((j : Int) + 4)] 3) := ⟨_, rfl⟩
                  have hb17 : Below w16.heap.size w16 w17 := by rw [hw17]; exact (Below.refl _ _).alloc (Nat.le_refl _) _
                  have S17 : Whole w17 w16.heap.size 3 #[.int .i64 0, .int .i64 ((j : Int) + 4)] := by rw [hw17]; exact Whole.fresh _ _ _
                  have HM17 := Lib.hid (hM16.later hb17)
                  have HG17 := Lib.hid (hG16.below hb17 hG16.lt)
                  have HT17 := Lib.hid (hT16.below hb17 hT16.lt)
                  have HS17 := Lib.hid S17
                  have HW17 := Lib.hid hw17
                  clear hM16 hG16 hT16 hw17 hb17 S17 HCV HMj HGj HTj
                  go_wp2_with fail
                  rw [← HW17.out]
                  clear HW17
                  go_loopw [196] (fun v wr => ∃ k : Nat, k ≤ 2 ∧ v = .int .i64 k ∧ Ms w3 wr I J (cf5 Dl) g wd0 ∧ Whole wr gh 28 #[.int .i64 1, .int .i64 C, .int .i64 5] ∧ Whole wr gt 38 #[.int .i64 2, .int .i64 Jx, .int .i64 Gx] ∧ Whole wr w16.heap.size 3 #[.int .i64 0, .int .i64 ((j : Int) + 4)]) (fun v _ => 2 - (intOf v).toNat)
                  case atStart => exact ⟨0, Nat.zero_le _, rfl, HM17.out, HG17.out, HT17.out, HS17.out⟩
                  case round =>
                    clear HM17 HG17 HT17 HS17
                    obtain ⟨k, hk, rfl, hM, hG, hT2, hS⟩ := hrel
                    by_cases hk2 : k < 2
                    · obtain ⟨b, hb, hcell⟩ : ∃ b : Nat, (b = 0 ∨ b = j + 4) ∧ wr.cell? ⟨w16.heap.size, k, none⟩ = some (.int .i64 (b : Int)) := by
                        have h2 : k = 0 ∨ k = 1 := by omega
                        rcases h2 with rfl | rfl
                        · exact ⟨0, .inl rfl, hS.cell 0⟩
                        · exact ⟨j + 4, .inr rfl, (hS.cell 1).trans (by simp)⟩
                      have hgb : (g b : Int) = HM.word 1 C 5 := by
                        rcases hb with rfl | rfl
                        · exact HZ.out.hd
                        · exact HZ.out.hd2
                      have hvb : ∀ p : Nat, p < j → g (b + 1 + p) = V p := by
                        intro p hp
                        rcases hb with rfl | rfl
                        · rw [show 0 + 1 + p = 1 + p by omega]; exact HZ.out.val p hp
                        · exact HZ.out.val2 p hp
                      have hb40 : b + 1 + j < 40 := by omega
                      have dk : decide ((k : Int) < 2) = true := by simp; omega
                      have hatb := kp_one (n := j) (b := b) HMAY.out HFT.out.1 (by omega) hgb
                      have HATB := Lib.hid hatb
                      have HVB := Lib.hid hvb
                      have HMk := Lib.hid hM
                      have HGk := Lib.hid hG
                      have HTk := Lib.hid hT2
                      have HSk := Lib.hid hS
                      clear hb hgb hvb hatb hM hG hT2 hS
                      go_wp2_with fail
                      go_loopw [201] (fun v wr => ∃ p : Nat, p ≤ j ∧ v = .int .i64 p ∧ Ms w3 wr I J (cf5 Dl) g wd0 ∧ Whole wr gh 28 #[.int .i64 1, .int .i64 C, .int .i64 5] ∧ Whole wr gt 38 #[.int .i64 2, .int .i64 Jx, .int .i64 Gx] ∧ Whole wr w16.heap.size 3 #[.int .i64 0, .int .i64 ((j : Int) + 4)]) (fun v _ => j - (intOf v).toNat)
                      case atStart => exact ⟨0, Nat.zero_le _, rfl, HMk.out, HGk.out, HTk.out, HSk.out⟩
                      case round =>
                        clear HMk HGk HTk HSk hcell
                        obtain ⟨p, hp0, rfl, hM, hG, hT2, hS⟩ := hrel
                        by_cases hp : p < j
                        · obtain ⟨x, hx⟩ : ∃ x, x = xw ws p := ⟨_, rfl⟩
                          have HX := Lib.hid hx
                          have ea : (1 : Int) + (p : Int) = ((1 + p : Nat) : Int) := by omega
                          have eb : (b : Int) + 1 + (p : Int) = ((b + 1 + p : Nat) : Int) := by omega
                          have CR1 := read_any hM.im.st ((1 : Int) + (p : Int))
                          have CR2 := read_any hM.im.st ((b : Int) + 1 + (p : Int))
                          have ha1 : addrE (cf5 Dl).own (cf5 Dl).C (cf5 Dl).K ((1 : Int) + (p : Int)) = 0 := by rw [ea]; exact ad5 Dl (by omega)
                          have ha2 : addrE (cf5 Dl).own (cf5 Dl).C (cf5 Dl).K ((b : Int) + 1 + (p : Int)) = 0 := by rw [eb]; exact ad5 Dl (by omega)
                          have hv1 : readV (cf5 Dl).own g (cf5 Dl).C (cf5 Dl).K ((1 : Int) + (p : Int)) = V p := by unfold readV; rw [if_pos ha1, ea, Int.toNat_natCast]; exact HZ.out.val p hp
                          have hv2 : readV (cf5 Dl).own g (cf5 Dl).C (cf5 Dl).K ((b : Int) + 1 + (p : Int)) = V p := by unfold readV; rw [if_pos ha2, eb, Int.toNat_natCast]; exact HVB.out p hp
                          rw [ha1, hv1] at CR1
                          rw [ha2, hv2] at CR2
                          obtain ⟨vp, hvp⟩ : ∃ vp, vp = V p := ⟨_, rfl⟩
                          rw [← hvp] at CR1 CR2
                          have HCR1 := Lib.hid CR1
                          have HCR2 := Lib.hid CR2
                          have HMp := Lib.hid hM
                          have HGp := Lib.hid hG
                          have HTp := Lib.hid hT2
                          have HSp := Lib.hid hS
                          clear hx ea eb ha1 ha2 hv1 hv2 CR1 CR2 hvp hM hG hT2 hS hp0
                          go_wp2_with fail
                          refine HCR1.out.mono ?_
                          rintro e w18 ⟨rfl, rfl⟩
                          go_wp2_with fail
                          refine HCR2.out.mono ?_
                          rintro e w19 ⟨rfl, rfl⟩
                          clear HCR1 HCR2
                          have CI := HIR.out p hp
                          rcases Bool.eq_false_or_eq_true (LM.isRef F R xs ys (p : Int)) with hr | hr
                          · have hrd : IM.isR Dl 1 (p : Int) = true := (HFT.out.2.2.1 _).trans hr
                            have HVR := Lib.hid (HV.out.1 p hr)
                            obtain ⟨k1, k2, k3, k4⟩ := kp_fol (D := Dl) (f := g) (a := (b : Int)) (p := (p : Int)) (L := 1) (N := (j : Int)) (i := b + 1 + p) HATB.out.1 HATB.out.2.1 HATB.out.2.2.2.2 (by omega) (by omega) (by omega) (by omega) hrd HLM.out ((HVB.out p hp).trans HVR.out)
                            have CF := ifollow_any HMp.out.im (b : Int) (p : Int)
                            unfold FolIs at CF
                            rw [k1, k2, k3, k4] at CF
                            rw [hr] at CI
                            have HCF := Lib.hid CF
                            have HCI := Lib.hid CI
                            clear CF CI hr hrd
                            go_wp2_with fail
                            refine HCF.out.mono ?_
                            rintro e w20 ⟨rfl, hb20⟩
                            have hb21 := hb20.alloc hb20.size (.cells #[.int .i64 2, .int .i64 Jx, .int .i64 Gx] 38)
                            have L21 := Whole.fresh w20 38 #[.int .i64 2, .int .i64 Jx, .int .i64 Gx]
                            obtain ⟨w21, hw21⟩ : ∃ w21, w21 = w20.alloc (.cells #[.int .i64 2, .int .i64 Jx, .int .i64 Gx] 38) := ⟨_, rfl⟩
                            rw [← hw21] at hb21 L21
                            have HM21 := Lib.hid (HMp.out.later hb21)
                            obtain ⟨x0, x1, x2, x3⟩ := (HM21.out.old HX3.out).cells4
                            have HG21 := Lib.hid (HGp.out.below hb21 HGp.out.lt)
                            have HT21 := Lib.hid (HTp.out.below hb21 HTp.out.lt)
                            have HS21 := Lib.hid (HSp.out.below hb21 HSp.out.lt)
                            have HL21 := Lib.hid L21
                            have HW21 := Lib.hid hw21
                            have CI2 := Lib.hid (HCI.out w21 HM21.out.bel)
                            clear hb20 hb21 L21 hw21 HMp HGp HTp HSp HCF
                            go_upto_region 42 with fail
                            rw [← HW21.out]
                            clear HW21
                            go_wp2_with fail
                            refine CI2.out.mono ?_
                            rintro e w22 ⟨rfl, hb22⟩
                            have hM22 := HM21.out.later hb22
                            have HG22 := Lib.hid (HG21.out.below hb22 HG21.out.lt)
                            have hT22 := HT21.out.below hb22 HT21.out.lt
                            have HS22 := Lib.hid (HS21.out.below hb22 HS21.out.lt)
                            have hL22 := HL21.out.below hb22 HL21.out.lt
                            obtain ⟨t0, t1, t2⟩ := hT22.cells3
                            obtain ⟨l0, l1, l2⟩ := hL22.cells3
                            have HT22 := Lib.hid hT22
                            have CL := iload_any hM22.im (b : Int) (p : Int)
                            obtain ⟨lv, hlv⟩ : ∃ lv, lv = IM.ldV (cf5 Dl) g (b : Int) (p : Int) := ⟨_, rfl⟩
                            obtain ⟨le, hle⟩ : ∃ le, le = IM.ldE (cf5 Dl) g (b : Int) (p : Int) := ⟨_, rfl⟩
                            rw [← hlv, ← hle] at CL
                            clear hlv hle
                            have HCL := Lib.hid CL
                            have HM22 := Lib.hid hM22
                            clear x0 x1 x2 x3 hb22 hM22 hT22 hL22 HM21 HG21 HT21 HS21 HL21 CI2 CL
                            go_upto_if 253 with fail
                            clear t0 t1 t2 l0 l1 l2
                            go_cut [32] from 254 to 257 (fun s32 wx => s32 = .int .u64 (x : Int) ∧ wx = w22)
                            case first =>
                              by_cases hw : p < n1
                              · obtain ⟨bb, off, rfl, hlb, hcl⟩ := HA3.out.xw_yes hw
                                have c0 := (HM22.out.bel.cell (p := ⟨bb, off + p, none⟩) (Nat.lt_of_lt_of_le hlb HB3.out.size)).trans hcl
                                rw [← HX.out] at c0
                                clear hcl hlb
                                go_wp2_with fail
                                go_meet
                                exact ⟨rfl, rfl⟩
                              · have h7 := HA3.out.xw_no (p := p) (by omega)
                                rw [← HX.out] at h7
                                go_wp2_with fail
                                go_meet
                                exact ⟨by rw [h7]; rfl, rfl⟩
                            case rest =>
                              obtain ⟨rfl, hwc⟩ := hcut
                              subst hwc
                              go_wp2_with fail
                              refine HCL.out.mono ?_
                              rintro e w23 ⟨rfl, hb23⟩
                              have hM23 := HM22.out.later hb23
                              have HG23 := Lib.hid (HG22.out.below hb23 HG22.out.lt)
                              have HT23 := Lib.hid (HT22.out.below hb23 HT22.out.lt)
                              have HS23 := Lib.hid (HS22.out.below hb23 HS22.out.lt)
                              obtain ⟨x0, x1, x2, x3⟩ := (hM23.old HX3.out).cells4
                              have CI3 := Lib.hid (HCI.out w23 hM23.bel)
                              have HM23 := Lib.hid hM23
                              clear hb23 hM23 HM22 HG22 HT22 HS22 HCL
                              go_wp2_with fail
                              refine CI3.out.mono ?_
                              rintro e w24 ⟨rfl, hb24⟩
                              have HM24 := Lib.hid (HM23.out.later hb24)
                              have HG24 := Lib.hid (HG23.out.below hb24 HG23.out.lt)
                              have HT24 := Lib.hid (HT23.out.below hb24 HT23.out.lt)
                              have HS24 := Lib.hid (HS23.out.below hb24 HS23.out.lt)
                              clear x0 x1 x2 x3 hb24 HM23 HG23 HT23 HS23 CI3 HCI
                              go_wp2_with fail
                              go_roundw
                              case rel => exact ⟨p + 1, by omega, by go_num, HM24.out, HG24.out, HT24.out, HS24.out⟩
                              case measure => simp [intOf]; omega
                          · have hrd : IM.isR Dl 1 (p : Int) = false := (HFT.out.2.2.1 _).trans hr
                            have HVR := Lib.hid (HV.out.2 p hr)
                            obtain ⟨k1, k2, -, -⟩ := kp_word (D := Dl) (f := g) (a := (b : Int)) (p := (p : Int)) (L := 1) (N := (j : Int)) (i := b + 1 + p) HATB.out.1 HATB.out.2.1 HATB.out.2.2.2.2 (by omega) (by omega) (by omega) (by omega) hrd
                            have K2 := Lib.hid (And.intro k1 (k2.trans ((HVB.out p hp).trans (HVR.out.trans HX.out.symm))))
                            have CF := ifollow_any HMp.out.im (b : Int) (p : Int)
                            unfold FolIs at CF
                            obtain ⟨fe, hfe⟩ : ∃ fe, fe = IM.flE (cf5 Dl) g (b : Int) (p : Int) := ⟨_, rfl⟩
                            obtain ⟨fk, hfk⟩ : ∃ fk, fk = IM.flK (cf5 Dl) g (b : Int) (p : Int) := ⟨_, rfl⟩
                            obtain ⟨fi, hfi⟩ : ∃ fi, fi = IM.flI (cf5 Dl) g (b : Int) (p : Int) := ⟨_, rfl⟩
                            obtain ⟨fg, hfg⟩ : ∃ fg, fg = IM.flG (cf5 Dl) g (b : Int) (p : Int) := ⟨_, rfl⟩
                            rw [← hfe, ← hfk, ← hfi, ← hfg] at CF
                            clear hfe hfk hfi hfg k1 k2
                            rw [hr] at CI
                            have HCF := Lib.hid CF
                            have HCI := Lib.hid CI
                            clear CF CI hr hrd
                            go_wp2_with fail
                            refine HCF.out.mono ?_
                            rintro e w20 ⟨rfl, hb20⟩
                            have hb21 := hb20.alloc hb20.size (.cells #[.int .i64 fk, .int .i64 fi, .int .i64 fg] 38)
                            have L21 := Whole.fresh w20 38 #[.int .i64 fk, .int .i64 fi, .int .i64 fg]
                            obtain ⟨w21, hw21⟩ : ∃ w21, w21 = w20.alloc (.cells #[.int .i64 fk, .int .i64 fi, .int .i64 fg] 38) := ⟨_, rfl⟩
                            rw [← hw21] at hb21 L21
                            have HM21 := Lib.hid (HMp.out.later hb21)
                            obtain ⟨x0, x1, x2, x3⟩ := (HM21.out.old HX3.out).cells4
                            have HG21 := Lib.hid (HGp.out.below hb21 HGp.out.lt)
                            have HT21 := Lib.hid (HTp.out.below hb21 HTp.out.lt)
                            have HS21 := Lib.hid (HSp.out.below hb21 HSp.out.lt)
                            have HL21 := Lib.hid L21
                            have HW21 := Lib.hid hw21
                            have CI2 := Lib.hid (HCI.out w21 HM21.out.bel)
                            clear hb20 hb21 L21 hw21 HMp HGp HTp HSp HCF
                            go_upto_region 42 with fail
                            rw [← HW21.out]
                            clear HW21
                            go_wp2_with fail
                            refine CI2.out.mono ?_
                            rintro e w22 ⟨rfl, hb22⟩
                            have hM22 := HM21.out.later hb22
                            have HG22 := Lib.hid (HG21.out.below hb22 HG21.out.lt)
                            have hT22 := HT21.out.below hb22 HT21.out.lt
                            have HS22 := Lib.hid (HS21.out.below hb22 HS21.out.lt)
                            have hL22 := HL21.out.below hb22 HL21.out.lt
                            obtain ⟨t0, t1, t2⟩ := hT22.cells3
                            obtain ⟨l0, l1, l2⟩ := hL22.cells3
                            have HT22 := Lib.hid hT22
                            have CL := iload_any hM22.im (b : Int) (p : Int)
                            rw [K2.out.1, K2.out.2] at CL
                            have HCL := Lib.hid CL
                            have HM22 := Lib.hid hM22
                            clear x0 x1 x2 x3 hb22 hM22 hT22 hL22 HM21 HG21 HT21 HS21 HL21 CI2 CL
                            go_upto_if 253 with fail
                            clear t0 t1 t2 l0 l1 l2
                            go_cut [32] from 254 to 257 (fun s32 wx => s32 = .int .u64 (x : Int) ∧ wx = w22)
                            case first =>
                              by_cases hw : p < n1
                              · obtain ⟨bb, off, rfl, hlb, hcl⟩ := HA3.out.xw_yes hw
                                have c0 := (HM22.out.bel.cell (p := ⟨bb, off + p, none⟩) (Nat.lt_of_lt_of_le hlb HB3.out.size)).trans hcl
                                rw [← HX.out] at c0
                                clear hcl hlb
                                go_wp2_with fail
                                go_meet
                                exact ⟨rfl, rfl⟩
                              · have h7 := HA3.out.xw_no (p := p) (by omega)
                                rw [← HX.out] at h7
                                go_wp2_with fail
                                go_meet
                                exact ⟨by rw [h7]; rfl, rfl⟩
                            case rest =>
                              obtain ⟨rfl, hwc⟩ := hcut
                              subst hwc
                              go_wp2_with fail
                              refine HCL.out.mono ?_
                              rintro e w23 ⟨rfl, hb23⟩
                              have hM23 := HM22.out.later hb23
                              have HG23 := Lib.hid (HG22.out.below hb23 HG22.out.lt)
                              have HT23 := Lib.hid (HT22.out.below hb23 HT22.out.lt)
                              have HS23 := Lib.hid (HS22.out.below hb23 HS22.out.lt)
                              obtain ⟨x0, x1, x2, x3⟩ := (hM23.old HX3.out).cells4
                              have CI3 := Lib.hid (HCI.out w23 hM23.bel)
                              have HM23 := Lib.hid hM23
                              clear hb23 hM23 HM22 HG22 HT22 HS22 HCL
                              go_wp2_with fail
                              refine CI3.out.mono ?_
                              rintro e w24 ⟨rfl, hb24⟩
                              have HM24 := Lib.hid (HM23.out.later hb24)
                              have HG24 := Lib.hid (HG23.out.below hb24 HG23.out.lt)
                              have HT24 := Lib.hid (HT23.out.below hb24 HT23.out.lt)
                              have HS24 := Lib.hid (HS23.out.below hb24 HS23.out.lt)
                              clear x0 x1 x2 x3 hb24 HM23 HG23 HT23 HS23 CI3 HCI
                              go_wp2_with fail
                              go_roundw
                              case rel => exact ⟨p + 1, by omega, by go_num, HM24.out, HG24.out, HT24.out, HS24.out⟩
                              case measure => simp [intOf]; omega
                        · obtain rfl : p = j := by omega
                          have CA := iat_any hM.im (b : Int)
                          rw [HATB.out.1, HATB.out.2.1, HATB.out.2.2.1, HATB.out.2.2.2.1, HATB.out.2.2.2.2] at CA
                          have HCA := Lib.hid CA
                          have HMp := Lib.hid hM
                          have HGp := Lib.hid hG
                          have HTp := Lib.hid hT2
                          have HSp := Lib.hid hS
                          clear CA hM hG hT2 hS hp hp0
                          go_wp2_with fail
                          refine HCA.out.mono ?_
                          rintro e w25 ⟨rfl, hb25⟩
                          obtain ⟨w26, hw26⟩ : ∃ w26, w26 = w25.alloc (.cells #[.int .i64 1, .int .i64 C, .int .i64 5] 28) := ⟨_, rfl⟩
                          have hb26 : Below wr.heap.size wr w26 := by rw [hw26]; exact hb25.alloc hb25.size _
                          have O : Whole w26 w25.heap.size 28 #[.int .i64 1, .int .i64 C, .int .i64 5] := by rw [hw26]; exact Whole.fresh _ _ _
                          have hG26 := HGp.out.below hb26 HGp.out.lt
                          obtain ⟨o0, o1, o2⟩ := O.cells3
                          obtain ⟨g0, g1, g2⟩ := hG26.cells3
                          have HG26 := Lib.hid hG26
                          have HM26 := Lib.hid (HMp.out.later hb26)
                          have HT26 := Lib.hid (HTp.out.below hb26 HTp.out.lt)
                          have HS26 := Lib.hid (HSp.out.below hb26 HSp.out.lt)
                          have HW26 := Lib.hid hw26
                          clear hb25 hb26 O hG26 hw26 HCA HMp HGp HTp HSp
                          go_upto_region 52 with fail
                          rw [← HW26.out]
                          clear HW26
                          go_wp2_with fail
                          go_roundw
                          case rel => exact ⟨k + 1, by omega, by go_num, HM26.out, HG26.out, HT26.out, HS26.out⟩
                          case measure => simp [intOf]; omega
                    · obtain ⟨z, hz5⟩ : ∃ z : Int, z = (k : Int) := ⟨_, rfl⟩
                      rw [← hz5]
                      obtain rfl : z = 2 := by omega
                      clear hz5
                      have CL := iload_any hM.im ((j : Int) + 1) 1
                      obtain ⟨k1, k2, -⟩ := kp_two (g := g) HFT.out.2.1 hnn HFT.out.2.2.2 HZ.out.two
                      rw [k1, k2, HZ.out.far] at CL
                      have HCL := Lib.hid CL
                      have HMk := Lib.hid hM
                      clear CL k1 k2 hM hG hT2 hS hk2 hk
                      go_wp2_with fail
                      refine HCL.out.mono ?_
                      rintro e w27 ⟨rfl, hb27⟩
                      have HBL := Lib.hid (HB3.out.trans ((HMk.out.later hb27).bel.mono HB3.out.size))
                      clear hb27 HCL HMk
                      go_wp2_with fail
                      go_ret
                      exact ⟨rfl, HBL.out⟩
        · have d3 : decide ((8 : Int) < sz) = true := by simp; omega
          subst hz
          clear HM6 HJ HSE
          go_wp2_with fail
          go_ret
          exact ⟨rfl, HB6.out⟩
      · have hd : (er != 0) = true := by simpa using hz
        clear HM6 HJ HSE
        go_wp2_with fail
        go_ret
        exact ⟨rfl, HB6.out⟩
end Go.Proofs.YteneadimchhhhaaDoor
