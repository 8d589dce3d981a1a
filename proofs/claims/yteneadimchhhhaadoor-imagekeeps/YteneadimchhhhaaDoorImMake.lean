/- The contract of Make of images. -/
import Derived.Test.YteneadimchhhhaaDoorImWrite
namespace Go.Proofs.YteneadimchhhhaaDoor
open Go.RowKit

theorem cp_self {q : Cf} {wd : Nat → Nat} {a n : Int} : cpWdA q.own wd q.C q.K a a n = wd := by
  unfold cpWdA
  split
  · funext k
    unfold cpWd
    split
    · rw [show a.toNat + (k - a.toNat) = k by omega]
    · rfl
  · rfl
theorem laid_one (wd : Nat → Nat) (i x : Nat) : IM.laid wd i 1 x = IM.upd wd i x := by
  funext k
  unfold IM.laid IM.upd
  split
  · rfl
  · rw [if_neg (by omega)]
theorem laid_next (wd : Nat → Nat) (i j x : Nat) (hj : 1 ≤ j) : IM.upd (IM.laid wd i j x) (i + j) 0 = IM.laid wd i (j + 1) x := by
  funext k
  unfold IM.laid IM.upd
  dsimp only
  by_cases h : k = i + j
  · rw [if_pos h, if_neg (by omega), if_pos (by omega)]
  · rw [if_neg h]
    by_cases h2 : k = i
    · rw [if_pos h2, if_pos h2]
    · rw [if_neg h2, if_neg h2]
      by_cases h3 : i < k ∧ k < i + j
      · rw [if_pos h3, if_pos (by omega)]
      · rw [if_neg h3, if_neg (by omega)]
theorem ad_of_any {own : Nat → Nat} {C K a n i : Nat} (h : anyFree own K a n = false) (hi : i < n) (hn : a + n ≤ C * K) : addrE own C K ((a + i : Nat) : Int) = 0 := by
  rw [addrE_in (by omega), if_neg ((anyFree_not own K a n).1 h i hi)]

section
variable {w w' w2 : World} {I : IB} {q : Cf} {wd wd' : Nat → Nat}
/-- How far the loop is. -/
def MkAt (wc : World) (I : IB) (q : Cf) (wd : Nat → Nat) (a n x : Nat) (v : Value) (wr : World) : Prop :=
  ∃ j : Nat, 1 ≤ j ∧ j ≤ n ∧ v = .int .i64 ((a : Int) + (j : Int)) ∧ ImAt wr I q (IM.laid wd a j x) ∧ Aft I.wr wc wr
set_option maxHeartbeats 2000000 in
theorem imake_any (h : ImAt w I q wd) (a L C S : Int) (hC : I64 C) :
    Calls Tryd.prog 7 #[.pointer (some ⟨I.p, 0, none⟩), .int .i64 a, .agg #[.int .i64 L, .int .i64 C, .int .i64 S]] w (IwPost (.tuple #[.int .i64 (IM.mkN q a L C S), .int .i64 (IM.mkE q a L C S)]) I q (IM.mkW q wd a L C S) w) := by
  obtain ⟨w1, hw1⟩ : ∃ w1, w1 = w.alloc (.cells #[.int .i64 L, .int .i64 C, .int .i64 S] 28) := ⟨_, rfl⟩
  have hb1 : Below w.heap.size w w1 := by rw [hw1]; exact (Below.refl _ _).alloc (Nat.le_refl _) _
  have Y1 : Whole w1 w.heap.size 28 #[.int .i64 L, .int .i64 C, .int .i64 S] := by rw [hw1]; exact Whole.fresh _ _ _
  have H1 := h.below hb1
  have CE := hencode_any L C S w1
  have CO : ∀ w', Below w1.heap.size w1 w' → Calls Tryd.prog 25 #[.pointer (some ⟨I.p, 0, none⟩), .agg #[.int .i64 L, .int .i64 C, .int .i64 S]] w' (ObjIs q.D (zE (IM.szE q.D L C) L) (zE (IM.szE q.D L C) C) (zE (IM.szE q.D L C) S) (IM.szN q.D L C) (IM.szE q.D L C) w') := fun w' hb => objectOf_any (H1.below hb) L C S hC
  obtain ⟨c0, c1, c2⟩ := Y1.cells3
  obtain ⟨x, hx⟩ := Int.eq_ofNat_of_zero_le (HM.eW_word L C S).1
  have hx2 : x < 18446744073709551616 := by have := (HM.eW_word L C S).2; omega
  rw [hx] at CE
  by_cases he : HM.eE L C S = 0
  · rw [he] at CE
    by_cases hz : IM.szE q.D L C = 0
    · have hE : IM.mkE q a L C S = copyE q.own q.C q.K a a (IM.szN q.D L C) := by unfold IM.mkE; rw [if_pos he, if_pos hz]
      have hN : IM.mkN q a L C S = zE (copyE q.own q.C q.K a a (IM.szN q.D L C)) (IM.szN q.D L C) := by unfold IM.mkN zE; rw [hE]
      have hV : IM.mkW q wd a L C S = if copyE q.own q.C q.K a a (IM.szN q.D L C) = 0 then IM.laid wd a.toNat (IM.szN q.D L C).toNat x else wd := by unfold IM.mkW; rw [hE, hx]; rfl
      have hn1 : 1 ≤ IM.szN q.D L C := by
        unfold IM.szN
        rw [if_pos hz]
        unfold IM.szE at hz
        split at hz
        · omega
        · have := LM.size_bd (by assumption : LD).F (by assumption : LD).R (by assumption : LD).xs (by assumption : LD).ys C
          omega
      rw [hE, hN, hV]
      simp only [hz] at CO
      have CR : ∀ w', Below w.heap.size w w' → Calls Tryd.prog 26 #[.pointer (some ⟨I.B.s, 0, none⟩), .int .i64 a, .int .i64 a, .int .i64 (IM.szN q.D L C)] w' (fun e w'' => e = .returned (.int .i64 (copyE q.own q.C q.K a a (IM.szN q.D L C))) ∧ ImAt w'' I q wd ∧ Aft I.wr w w'' ∧ OnlyIn I.wr w' w'') := fun w' hb =>
        (copy_all (h.below hb).st a a (IM.szN q.D L C)).mono fun _ _ hp => by
          obtain ⟨h1, h2, h3⟩ := h.wrote hb hp
          rw [cp_self] at h2
          exact ⟨h1, h2, h3, hp.2.1⟩
      have wlo : ∀ g ∈ I.wr, g < w.heap.size := fun g hg => Nat.lt_trans (h.wrlt hg) h.lolt
      have plo : I.p ∉ I.wr := fun hg => by have := h.wrlt hg; have := h.plo; omega
      have plt := H1.box.lt
      have p0 := H1.box.cell 0
      have hM := h.st.all
      have hco := copyE_ok (own := q.own) (C := q.C) (K := q.K) (t := a) (f := a) (n := IM.szN q.D L C)
      have HH := Lib.hid h
      have HP := Lib.hid (fun w' (hb : Below w1.heap.size w1 w') => (H1.below hb).box.cell 0)
      clear hE hN hV hz he hx H1 h
      generalize IM.szN q.D L C = n at *
      generalize copyE q.own q.C q.K a a n = er at *
      obtain ⟨wd2, hwd2⟩ : ∃ f : Nat → Nat, f = (if er = 0 then IM.laid wd a.toNat n.toNat x else wd) := ⟨_, rfl⟩
      rw [← hwd2]
      have HWD := Lib.hid hwd2
      clear hwd2
      obtain ⟨nn, hnn⟩ : ∃ z : Int, z = zE er n := ⟨_, rfl⟩
      rw [← hnn]
      have HNN := Lib.hid hnn
      clear hnn
      generalize zE 0 L = l1 at *
      generalize zE 0 C = l2 at *
      generalize zE 0 S = l3 at *
      have HE := Lib.hid CE
      have HO := Lib.hid CO
      have HR := Lib.hid CR
      have HL := Lib.hid wlo
      have HPL := Lib.hid plo
      have HY := Lib.hid Y1
      have HB1 := Lib.hid hb1
      have HCO := Lib.hid hco
      have HM := Lib.hid hM
      clear CE CO CR wlo plo Y1 hb1 hco hM
      go_enter Tryd.func7, Tryd.ntmps7
      go_upto_region 3 with fail
      rw [← hw1]
      clear hw1
      go_wp2_with fail
      refine HE.out.mono ?_
      rintro e w2 ⟨rfl, hb2⟩
      obtain ⟨d0, d1, d2⟩ := (HY.out.below hb2 HY.out.lt).cells3
      have HO2 := Lib.hid (HO.out _ hb2)
      have HB2 := Lib.hid hb2
      clear c0 c1 c2 p0 hb2 HE HO
      go_wp2_with fail
      refine HO2.out.mono ?_
      rintro e w3 ⟨k, rfl, -, hb3⟩
      go_upto_region 9 with fail
      have O := Whole.fresh w3 79 #[.int .i64 l1, .int .i64 l2, .int .i64 l3, .int .i64 k.F, .slice k.A k.n k.c, .int .i64 k.R, .slice k.D k.m k.d, .int .i64 n]
      have hb4 := HB2.out.trans ((hb3.alloc hb3.size (.cells #[.int .i64 l1, .int .i64 l2, .int .i64 l3, .int .i64 k.F, .slice k.A k.n k.c, .int .i64 k.R, .slice k.D k.m k.d, .int .i64 n] 79)).mono HB2.out.size)
      obtain ⟨w4, hw4⟩ : ∃ w4, w4 = w3.alloc (.cells #[.int .i64 l1, .int .i64 l2, .int .i64 l3, .int .i64 k.F, .slice k.A k.n k.c, .int .i64 k.R, .slice k.D k.m k.d, .int .i64 n] 79) := ⟨_, rfl⟩
      rw [← hw4] at O hb4 ⊢
      have o7 : w4.cell? ⟨w3.heap.size, 7, none⟩ = some (.int .i64 n) := O.cell 7
      have p0 := HP.out w4 hb4
      have hs3 : w.heap.size ≤ w3.heap.size := by have := HB1.out.size; have := HB2.out.size; have := hb3.size; omega
      have ob : w3.heap.size ∉ I.wr := fun hg => by have := HL.out _ hg; omega
      have C2 := Lib.hid (HR.out w4.drew (HB1.out.trans (hb4.mono HB1.out.size)).drew)
      have OB := Lib.hid ob
      have HO4 := Lib.hid O
      clear hw4 hb3 hb4 O HR HO2 ob hs3
      change w4.cell? ⟨I.p, 0, none⟩ = some (.pointer (some ⟨I.B.s, 0, none⟩)) at p0
      go_region_held3 (fun w' => w'.cell? ⟨w3.heap.size, 7, none⟩ = some (.int .i64 n) ∧ w'.cell? ⟨I.p, 0, none⟩ = some (.pointer (some ⟨I.B.s, 0, none⟩))) (first | (with_reducible exact ⟨hx0, hx1⟩) | (with_reducible exact ⟨o7, p0⟩) | exact ⟨o7, p0⟩)
        (first
          | (go_at_call 26; (with_reducible refine C2.out.mono ?_); rintro e w5 ⟨rfl, hi, ha, ho⟩; have hx0 := (ho.cell (p := ⟨w3.heap.size, 7, none⟩) OB.out).trans o7; have hx1 := (ho.cell (p := ⟨I.p, 0, none⟩) HPL.out).trans p0; have HI := Lib.hid hi; have HA := Lib.hid ha; have HW5 := Lib.hid (ho.block _ OB.out); clear hi ha ho))
      by_cases hz : er = 0
      · subst hz
        obtain ⟨i, i', m, ha, hb, hn, g1, g2, g3, g4⟩ := HCO.out rfl
        obtain rfl : i = i' := by omega
        subst ha hn
        have HG3 := Lib.hid g3
        have HG1 := Lib.hid g1
        have hm : 1 ≤ m := by omega
        have hM := HM.out
        have hmb : m ≤ 1048576 := by omega
        have hib : i ≤ 1048576 := by omega
        have O5 := Lib.hid (HW5.out.trans HO4.out)
        have W1 := write_all HI.out.st (i : Int) x hx2
        have ad := fun j (hj : j < m) => ad_of_any g3 hj g1
        rw [show addrE q.own q.C q.K (i : Int) = 0 from by simpa using ad 0 (by omega)] at W1
        have HW1 := Lib.hid W1
        have AD := Lib.hid ad
        clear HCO g1 g2 g3 g4 hM W1 ad hb
        go_wp2_with fail
        refine HW1.out.mono ?_
        rintro e w6 ⟨rfl, ho6, hs6⟩
        have hi6 := HI.out.only ho6 hs6
        have ha6 := HA.out.trans (Aft.of_only ho6)
        have hwd : wrWd q.own wd q.C q.K (i : Int) x = IM.laid wd i 1 x := by
          rw [laid_one]
          unfold wrWd
          rw [if_pos (by simpa using AD.out 0 (by omega))]
          rfl
        rw [hwd] at hi6
        have O6 := Lib.hid ((ho6.block _ OB.out).trans O5.out)
        have HI6 := Lib.hid hi6
        have HA6 := Lib.hid ha6
        clear hx0 hx1 HW1 ho6 hs6 hi6 ha6 hwd O5 HI HA
        go_wp2_with fail
        go_loopw [12] (MkAt w6 I q wd i m x) (fun v _ => (i + m - (intOf v).toNat))
        case atStart => exact ⟨1, Nat.le_refl _, hm, by go_num, HI6.out, Aft.refl _ _⟩
        case round =>
          obtain ⟨j, hj1, hj2, rfl, hi, ha⟩ := hrel
          have OW := ha.whole O6.out OB.out
          have o7 : wr.cell? ⟨w3.heap.size, 7, none⟩ = some (.int .i64 m) := OW.cell 7
          have p0 : wr.cell? ⟨I.p, 0, none⟩ = some (.pointer (some ⟨I.B.s, 0, none⟩)) := hi.box.cell 0
          by_cases hlt : j < m
          · have W2 := write_all hi.st ((i : Int) + (j : Int)) 0 (by omega)
            have hij : (i : Int) + (j : Int) = ((i + j : Nat) : Int) := by simp
            rw [hij, AD.out j hlt, ← hij] at W2
            have hwd : wrWd q.own (IM.laid wd i j x) q.C q.K ((i : Int) + (j : Int)) 0 = IM.laid wd i (j + 1) x := by
              rw [← laid_next wd i j x hj1]
              unfold wrWd
              rw [hij, if_pos (AD.out j hlt)]
              rfl
            rw [hwd] at W2
            have HW2 := Lib.hid W2
            have HI2 := Lib.hid hi
            have HA2 := Lib.hid ha
            clear W2 hwd hij hi ha OW
            go_wp2_with fail
            refine HW2.out.mono ?_
            rintro e w7 ⟨rfl, ho7, hs7⟩
            have HI7 := Lib.hid (HI2.out.only ho7 hs7)
            have HA7 := Lib.hid (HA2.out.trans (Aft.of_only ho7))
            clear ho7 hs7 o7 p0
            go_wp2_with fail
            go_roundw
            case rel => exact ⟨j + 1, by omega, by omega, by go_num, HI7.out, HA7.out⟩
            case measure => simp [intOf]; omega
          · obtain rfl : j = m := by omega
            have HI2 := Lib.hid hi
            have HA2 := Lib.hid (HA6.out.trans ha)
            clear hi ha OW
            go_wp2_with fail
            go_ret2
            exact ⟨by rw [HNN.out]; rfl, by rw [HWD.out]; simpa using HI2.out, HA2.out⟩
      · have hd : (er != 0) = true := by simpa using hz
        have HZ := Lib.hid (show nn = 0 from by rw [HNN.out]; exact if_neg hz)
        have HV := Lib.hid (show wd2 = wd from by rw [HWD.out]; exact if_neg hz)
        clear hz HCO
        go_wp2_with fail
        go_ret2
        exact ⟨by rw [HZ.out]; rfl, by rw [HV.out]; exact HI.out, HA.out⟩
    · have hE : IM.mkE q a L C S = IM.szE q.D L C := by unfold IM.mkE; rw [if_pos he, if_neg hz]
      have hN : IM.mkN q a L C S = 0 := by unfold IM.mkN; rw [hE, if_neg hz]
      have hV : IM.mkW q wd a L C S = wd := by unfold IM.mkW; rw [hE, if_neg hz]
      rw [hE, hN, hV]
      generalize IM.szE q.D L C = er at *
      generalize IM.szN q.D L C = n at *
      generalize zE er L = l1 at *
      generalize zE er C = l2 at *
      generalize zE er S = l3 at *
      have hd : (er != 0) = true := by simpa using hz
      have HE := Lib.hid CE
      have HO := Lib.hid CO
      have HY := Lib.hid Y1
      have HB1 := Lib.hid hb1
      have HH := Lib.hid h
      clear CE CO Y1 hb1 hE hN hV hz he hx H1 h
      go_enter Tryd.func7, Tryd.ntmps7
      go_upto_region 3 with fail
      rw [← hw1]
      clear hw1
      go_wp2_with fail
      refine HE.out.mono ?_
      rintro e w2 ⟨rfl, hb2⟩
      obtain ⟨d0, d1, d2⟩ := (HY.out.below hb2 HY.out.lt).cells3
      have HO2 := Lib.hid (HO.out _ hb2)
      have HB2 := Lib.hid hb2
      clear c0 c1 c2 hb2 HE HO
      go_wp2_with fail
      refine HO2.out.mono ?_
      rintro e w3 ⟨k, rfl, -, hb3⟩
      have hb4 := HB1.out.trans ((HB2.out.trans ((hb3.alloc hb3.size (.cells #[.int .i64 l1, .int .i64 l2, .int .i64 l3, .int .i64 k.F, .slice k.A k.n k.c, .int .i64 k.R, .slice k.D k.m k.d, .int .i64 n] 79)).mono HB2.out.size)).mono HB1.out.size)
      go_wp2_with fail
      go_ret2
      exact ⟨rfl, HH.out.below hb4, Aft.of_below hb4⟩
  · have hE : IM.mkE q a L C S = HM.eE L C S := by unfold IM.mkE; rw [if_neg he]
    have hN : IM.mkN q a L C S = 0 := by unfold IM.mkN; rw [hE, if_neg he]
    have hV : IM.mkW q wd a L C S = wd := by unfold IM.mkW; rw [hE, if_neg he]
    rw [hE, hN, hV]
    generalize HM.eE L C S = er at *
    have hd : (er != 0) = true := by simpa using he
    have HE := Lib.hid CE
    have HB1 := Lib.hid hb1
    have HH := Lib.hid h
    clear CE CO Y1 hb1 hE hN hV he hx H1 h
    go_enter Tryd.func7, Tryd.ntmps7
    go_upto_region 3 with fail
    rw [← hw1]
    clear hw1
    go_wp2_with fail
    refine HE.out.mono ?_
    rintro e w2 ⟨rfl, hb2⟩
    have hb4 := HB1.out.trans (hb2.mono HB1.out.size)
    go_wp2_with fail
    go_ret2
    exact ⟨rfl, HH.out.below hb4, Aft.of_below hb4⟩
end
end Go.Proofs.YteneadimchhhhaaDoor
