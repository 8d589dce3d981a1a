/- RemsetMoves, walked: it went elsewhere. -/
import Derived.Test.YtehkcflbdmkjpaaRsMovesM
namespace Go.Proofs.Ytehkcflbdmkjpaa
open Go.RowKit Go.Maps Go.Sort

set_option maxHeartbeats 16000000 in
set_option maxRecDepth 100000 in
theorem moves_C (A : Option Addr) (n c : Nat) (ls : List RM.Act) (r1 r2 t : Int) (w : World) (h : ActS w w.heap.size A n ls) (hr : RefOk (r1, r2)) (ht : I64ok t) (hn : n ≤ 100) (hv : RM.has (RM.run ls) (r1, r2) = true) (hto : RM.toV (RM.run ls) (r1, r2) ≠ t) :
    Calls Try.prog 5 #[.slice A n c, .agg #[.int .i64 r1, .int .i64 r2], .int .i64 t] w fun e w' => e = .returned (.bool true) ∧ Below w.heap.size w w' := by
  obtain ⟨i0, hi, hz0, hz1, hz2⟩ := infoInt
  have hb0 := (Below.refl w.heap.size w).alloc (Nat.le_refl _) (.cells #[.int .i64 r1, .int .i64 r2] 24)
  have hs0 : ActS (w.alloc (.cells #[.int .i64 r1, .int .i64 r2] 24)) (w.alloc (.cells #[.int .i64 r1, .int .i64 r2] 24)).heap.size A n ls := (h.below hb0).more (by simp)
  have HG := Lib.hid (grown_any A n c ls _ hs0 hn)
  have HS := Lib.hid hs0
  have HX := Lib.hid (Whole.fresh w 24 #[.int .i64 r1, .int .i64 r2])
  have HB0 := Lib.hid hb0
  have HLN := Lib.hid h.1
  clear h hs0 hb0
  go_enter Try.func5, Try.ntmps5
  go_wp2_with fail
  refine HG.out.mono ?_
  rintro e w1 ⟨p, rfl, h1⟩
  have H1 := Lib.hid h1
  clear h1 HG
  generalize RM.run ls = L at *
  obtain ⟨wb, hwb⟩ : ∃ wb, wb = w.alloc (.cells #[.int .i64 r1, .int .i64 r2] 24) := ⟨_, rfl⟩
  have HSZ : Hid (wb.heap.size = w.heap.size + 1) := Lib.hid (by rw [hwb]; simp)
  rw [← hwb] at H1 HS HX HB0
  clear hwb
  obtain ⟨rb, hrb⟩ : ∃ rb, rb = w.heap.size := ⟨_, rfl⟩
  rw [← hrb] at HX HSZ ⊢
  have HRB := Lib.hid hrb
  clear hrb
  go_wp2_with fail
  refine (alive_any w1).mono ?_
  rintro e w2 ⟨rfl, hb2⟩
  have h2 := H1.out.below hb2
  have HTO := Lib.hid (cto h2 hr)
  have hx2 : Whole w2 rb 24 #[.int .i64 r1, .int .i64 r2] := HX.out.below h2.bel (by rw [HSZ.out]; omega)
  have x0 := hx2.cell 0
  have x1 := hx2.cell 1
  simp only [List.getElem?_toArray, List.getElem?_cons_zero, List.getElem?_cons_succ] at x0 x1
  have H2 := Lib.hid h2
  have hup := h2.up
  have hll := h2.len
  have HLM := Lib.hid (mv_len hup (r1, r2) t)
  have HPR := Lib.hid (mv_put hup (r1, r2) t)
  have HPO := Lib.hid (mv_other hup (r1, r2) t)
  unfold refV at HTO
  have htw := (h2.ok _ ((RM.to_iff hup).1 (RM.to_some hv))).2
  rw [hv] at HTO
  have hlm := HLM.out.2.1 hv
  obtain ⟨tw, htwe⟩ : ∃ tw, tw = RM.toV L (r1, r2) := ⟨_, rfl⟩
  rw [← htwe] at HTO hto htw
  have hno := mv_gone (r := (r1, r2)) hup hto
  have d0 : (tw != t) = true := by simpa using hto
  clear htwe
  clear hb2 h2 hx2
  go_wp2_with fail
  refine HTO.out.mono ?_
  rintro e w3 ⟨rfl, hb3⟩
  have h3 := H2.out.below hb3
  have HL3 := Lib.hid (clen h3)
  have H3 := Lib.hid h3
  clear hb3 h3 x0 x1
  go_wp2_with fail
  refine HL3.out.mono ?_
  rintro e w4 ⟨rfl, rfl⟩
  go_wp2_with fail
  go_loopw [11, 50] (fun u i wr => ∃ k : Nat, k ≤ n ∧ i = .int .i64 k ∧ NewZ w3.heap.size wr u (goesTo L (ls.take k)) ∧ Below w3.heap.size w3 wr) (fun _ i _ => n - (intOf i).toNat)
  case atStart => exact ⟨0, Nat.zero_le _, rfl, by simpa [goesTo] using NewZ.nil _ _, Below.refl _ _⟩
  case round =>
    obtain ⟨k, hk, rfl, hu, hbw⟩ := hrel
    have hm := H3.out.below hbw
    have hs' := hbw.size
    obtain ⟨Au, cu, rfl, _⟩ := hu.slice
    by_cases hlt : k < n
    · obtain ⟨b, off, hl, rfl, hbl, ⟨a0, a1, a2, a3⟩, hok⟩ := (HS.out.below hm.bel).at_ hlt
      have HT := Lib.hid (goesTo_take L hl)
      obtain ⟨a, ha⟩ : ∃ a, a = ls[k] := ⟨_, rfl⟩
      rw [← ha] at a0 a1 a2 a3 HT hok
      obtain ⟨ak, sa, ap, an⟩ := a
      dsimp only at a0 a1 a2 a3
      have hbx := (Below.refl wr.heap.size wr).alloc (Nat.le_refl _) (.cells #[.int .i64 ak, .int .i64 sa, .int .i64 ap, .int .i64 an] 42)
      have HTO := Lib.hid (cto (hm.below hbx) hok.r)
      have HU := Lib.hid (hu.below hbx)
      have HBX := Lib.hid (hbw.trans (hbx.mono hs'))
      have hgl : (goesTo L (ls.take k)).length = k := by rw [goesTo_len, List.length_take, HLN.out]; omega
      unfold refV RM.Act.r at HTO
      unfold RM.Act.r at HT
      dsimp only at HTO HT
      generalize RM.toV L (sa, ap) = tv at *
      generalize RM.has L (sa, ap) = hv at *
      generalize goesTo L (ls.take k) = gl at *
      rw [hgl]
      clear hm ha hbx hok hu hbw
      go_wp2_with fail
      refine HTO.out.mono ?_
      rintro e w5 ⟨rfl, hb5⟩
      have hb5' := HBX.out.trans (hb5.mono HBX.out.size)
      have hs5 := hb5'.size
      have HB5 := Lib.hid hb5'
      have hu5 := HU.out.below hb5
      have HU5 := Lib.hid hu5.own
      have HUB := Lib.hid hu5.lt
      rw [hgl] at HU5 HUB
      clear hb5 hb5' hu5
      go_wp2_with (first
        | (at_builtin; refine wpList_append_own _ rfl _ _ 40 rfl w3.heap.size 3 i0 _ 1 8 Try.underlying40 hi hz0 hz1 hz2 rfl (by decide) (.slice Au k cu) _ _ rfl (HU5.out.alloc _) ⟨w5.heap.size, 0, none⟩ 1 1 [.int .i64 tv] rfl rfl (cell_one_new _ _ _) (by simp [Value.oneCell']) (by unfold maxLen; omega) (by omega) (by simp; omega) ?_; intro v' w6 hown' hgrow _; have HO2 := Lib.hid hown'; have HG2 := Lib.hid hgrow; clear hown' hgrow))
      go_roundw
      case rel => exact ⟨k + 1, by omega, by go_num, by rw [HT.out]; exact NewZ.snoc (by rw [hgl]; exact HO2.out), (HB5.out.alloc hs5 _).grown HG2.out (by simp; omega) (fun g hg => (HUB.out g hg).1)⟩
      case measure => simp [intOf]; omega
    · obtain rfl : k = n := by omega
      have hgt : (goesTo L (ls.take k)).length = k := by rw [goesTo_len, List.length_take, HLN.out]; omega
      rw [hgt] at hu ⊢
      rw [List.take_of_length_le (by rw [HLN.out]; omega)] at hu
      have HU := Lib.hid hu
      have HPU := Lib.hid (cput hm hr ht (by omega))
      have hx5 : Whole wr rb 24 #[.int .i64 r1, .int .i64 r2] := HX.out.below hm.bel (by rw [HSZ.out]; omega)
      have x0 := hx5.cell 0
      have x1 := hx5.cell 1
      simp only [List.getElem?_toArray, List.getElem?_cons_zero, List.getElem?_cons_succ] at x0 x1
      unfold refV at HPU
      rw [hv] at HPU
      generalize RM.put L (r1, r2) t = L1 at *
      clear hm hu hbw hx5
      go_wp2_with fail
      refine HPU.out.mono ?_
      rintro e w6 ⟨rfl, h6, hmd⟩
      have HU6 := Lib.hid (HU.out.md hmd)
      have hx6 : Whole w6 rb 24 #[.int .i64 r1, .int .i64 r2] := HX.out.below h6.bel (by rw [HSZ.out]; omega)
      have x0 := hx6.cell 0
      have x1 := hx6.cell 1
      simp only [List.getElem?_toArray, List.getElem?_cons_zero, List.getElem?_cons_succ] at x0 x1
      have HT6 := Lib.hid (cto h6 hr)
      rw [HPR.out.1, HPR.out.2] at HT6
      have H6 := Lib.hid h6
      unfold refV at HT6
      clear h6 hmd hx6 HU
      go_wp2_with fail
      refine HT6.out.mono ?_
      rintro e w7 ⟨rfl, hb7⟩
      have H7 := Lib.hid (H6.out.below hb7)
      have HU7 := Lib.hid (HU6.out.below hb7)
      clear hb7 x0 x1
      go_wp2_with fail
      have HO := Lib.hid (cof H7.out htw (by omega))
      have HNO := Lib.hid (hno L1 rfl)
      have hlo := RM.of_len L1 tw
      generalize RM.of L1 tw = lo at *
      refine HO.out.mono ?_
      rintro e w8 ⟨v8, rfl, hv8, hb8⟩
      obtain ⟨A8, c8, rfl, _⟩ := hv8.slice
      have H8' := Lib.hid (H7.out.below hb8)
      have HU8' := Lib.hid (HU7.out.below hb8)
      have HV8 := Lib.hid hv8
      clear hb8 hv8 H7 HU7
      obtain ⟨w7', hw7'⟩ : ∃ w7', w7' = w8 := ⟨_, rfl⟩
      rw [← hw7'] at H8' HU8' HV8 ⊢
      clear hw7'
      go_wp2_with fail
      go_loopw [95] (fun i wr => ∃ j : Nat, j ≤ lo.length ∧ i = .int .i64 j ∧ Below w7'.heap.size w7' wr) (fun i _ => lo.length - (intOf i).toNat)
      case atStart => exact ⟨0, Nat.zero_le _, rfl, Below.refl _ _⟩
      case round =>
        obtain ⟨j, hj, rfl, hbw⟩ := hrel
        have hm := H8'.out.below hbw
        by_cases hjt : j < lo.length
        · obtain ⟨g, cap, e1, _, _, c1, c2⟩ := (HV8.out.below hbw).cell hjt
          injection e1 with e1 e1x e1'
          clear e1x
          subst e1 e1'
          have hnx := HNO.out lo[j] (List.getElem_mem hjt)
          obtain ⟨y, hy⟩ : ∃ y, y = lo[j] := ⟨_, rfl⟩
          rw [← hy] at c1 c2 hnx
          obtain ⟨y1, y2⟩ := y
          dsimp only at c1 c2
          have hbx := (Below.refl wr.heap.size wr).alloc (Nat.le_refl _) (.cells #[.int .i64 y1, .int .i64 y2] 24)
          have hxr : Whole (wr.alloc (.cells #[.int .i64 y1, .int .i64 y2] 24)) rb 24 #[.int .i64 r1, .int .i64 r2] := HX.out.below (hm.below hbx).bel (by rw [HSZ.out]; omega)
          have x0 := hxr.cell 0
          have x1 := hxr.cell 1
          simp only [List.getElem?_toArray, List.getElem?_cons_zero, List.getElem?_cons_succ] at x0 x1
          have hq : ∀ w', (binOp .eql 24 (.agg #[.int .i64 y1, .int .i64 y2]) (.agg #[.int .i64 r1, .int .i64 r2])).run Try.prog w' = .ok (.bool false) w' := fun w' => by
            have := eql_ref (y1, y2) (r1, r2) w'
            rw [show (((y1, y2) : RM.R) == (r1, r2)) = false by simpa using hnx] at this
            exact this
          have HBX := Lib.hid (hbw.trans (hbx.mono hbw.size))
          clear hm hy hbw hnx hbx hxr
          go_wp2
          go_roundw
          case rel => exact ⟨j + 1, by omega, by go_num, HBX.out⟩
          case measure => simp [intOf]; omega
        · obtain rfl : j = lo.length := by omega
          have H8 := Lib.hid hm
          have HU8 := Lib.hid (HU8'.out.below hbw)
          clear hm hbw H8' HU8' HV8
          generalize lo.length = nlo at *
          obtain ⟨w8, hw8⟩ : ∃ w8, w8 = wr := ⟨_, rfl⟩
          rw [← hw8] at H8 HU8 ⊢
          clear hw8
          go_wp2_with fail
          go_loopw [105] (fun i wr => ∃ j : Nat, j ≤ k ∧ i = .int .i64 j ∧ Below w8.heap.size w8 wr) (fun i _ => k - (intOf i).toNat)
          case atStart => exact ⟨0, Nat.zero_le _, rfl, Below.refl _ _⟩
          case round =>
            obtain ⟨j, hj, rfl, hbw⟩ := hrel
            have hm := H8.out.below hbw
            by_cases hjt : j < k
            · obtain ⟨b, off, hl, rfl, hbl, ⟨a0, a1, a2, a3⟩, hok⟩ := (HS.out.below hm.bel).at_ hjt
              have hgj : j < (goesTo L ls).length := by rw [goesTo_len, HLN.out]; exact hjt
              have hga := goesTo_at L hgj
              obtain ⟨a, ha⟩ : ∃ a, a = ls[j] := ⟨_, rfl⟩
              rw [← ha] at a0 a1 a2 a3 hok hga
              obtain ⟨ak, sa, ap, an⟩ := a
              dsimp only at a0 a1 a2 a3
              have hbx := (Below.refl wr.heap.size wr).alloc (Nat.le_refl _) (.cells #[.int .i64 ak, .int .i64 sa, .int .i64 ap, .int .i64 an] 42)
              have hxb := Whole.fresh wr 42 #[.int .i64 ak, .int .i64 sa, .int .i64 ap, .int .i64 an]
              have HTO := Lib.hid (cto (hm.below hbx) hok.r)
              have HBX := Lib.hid (hbw.trans (hbx.mono hbw.size))
              have HXB := Lib.hid hxb
              obtain ⟨g, cap, e1, hg1, hg2, hgc⟩ := HU8.out.cell hgj
              injection e1 with e1 e1x e1'
              clear e1x
              subst e1 e1'
              have HGC := Lib.hid (show ∀ W, Below w8.heap.size w8 W → W.cell? ⟨g, j, none⟩ = some (.int .i64 (RM.toV L (sa, ap))) from fun W hW => by
                have := (hW.cell (p := ⟨g, j, none⟩) hg2).trans hgc
                rw [hga] at this
                exact this)
              have HRC := Lib.hid (show ∀ W, Below w8.heap.size w8 W → W.cell? ⟨rb, 0, none⟩ = some (.int .i64 r1) ∧ W.cell? ⟨rb, 1, none⟩ = some (.int .i64 r2) from fun W hW => by
                have hx : Whole W rb 24 #[.int .i64 r1, .int .i64 r2] := HX.out.below (H8.out.below hW).bel (by rw [HSZ.out]; omega)
                have x0 := hx.cell 0
                have x1 := hx.cell 1
                simp only [List.getElem?_toArray, List.getElem?_cons_zero, List.getElem?_cons_succ] at x0 x1
                exact ⟨x0, x1⟩)
              have HE := Lib.hid (HPO.out (sa, ap))
              have HNQ := Lib.hid fun w' => neq_ref (sa, ap) (r1, r2) w'
              unfold refV RM.Act.r at HTO
              dsimp only at HTO HNQ
              generalize RM.toV L1 (sa, ap) = tv at *
              generalize RM.has L1 (sa, ap) = hv at *
              generalize RM.toV L (sa, ap) = tl at *
              clear hm ha hbx hok hbw hxb hgc hga hbl
              go_wp2_with fail
              refine HTO.out.mono ?_
              rintro e w9 ⟨rfl, hb9⟩
              have h9 := HBX.out.trans (hb9.mono HBX.out.size)
              have hx9 := HXB.out.below hb9 (by simp)
              have y0 := hx9.cell 0
              have y1 := hx9.cell 1
              have y2 := hx9.cell 2
              simp only [List.getElem?_toArray, List.getElem?_cons_zero, List.getElem?_cons_succ] at y0 y1 y2
              obtain ⟨x0, x1⟩ := HRC.out w9 h9
              have cg := HGC.out w9 h9
              have H9 := Lib.hid h9
              clear hb9 h9 hx9
              by_cases e : ((sa, ap) : RM.R) = (r1, r2)
              · have hq := HNQ.out
                rw [show (((sa, ap) : RM.R) == (r1, r2)) = true by simpa using e] at hq
                simp only [Bool.not_true] at hq
                clear HE e HNQ
                go_wp2
                go_roundw
                case rel => exact ⟨j + 1, by omega, by go_num, H9.out⟩
                case measure => simp [intOf]; omega
              · have hf := HE.out e
                subst hf
                have hq := HNQ.out
                rw [show (((sa, ap) : RM.R) == (r1, r2)) = false by simpa using e] at hq
                simp only [Bool.not_false] at hq
                clear HE e HNQ
                go_wp2
                go_roundw
                case rel => exact ⟨j + 1, by omega, by go_num, H9.out⟩
                case measure => simp [intOf]; omega
            · obtain rfl : j = k := by omega
              have hx9 : Whole wr rb 24 #[.int .i64 r1, .int .i64 r2] := HX.out.below hm.bel (by rw [HSZ.out]; omega)
              have x0 := hx9.cell 0
              have x1 := hx9.cell 1
              simp only [List.getElem?_toArray, List.getElem?_cons_zero, List.getElem?_cons_succ] at x0 x1
              have HL9 := Lib.hid (clen hm)
              have HC9 := Lib.hid (ccut hm hr)
              rw [HPR.out.2] at HC9
              unfold refV at HC9
              obtain ⟨m1, m2, ⟨m3, m4⟩, m5⟩ := HLM.out
              have d1 : ((((L1.length : Nat) : Int)) != (((L.length : Nat) : Int))) = false := by simp; omega
              have d2 : ((((RM.cut (RM.cut L1 (r1, r2)) (r1, r2)).length : Nat) : Int) != (((L.length : Nat) : Int)) - 1) = false := by simp; omega
              have d2' : ((((RM.cut (RM.cut L1 (r1, r2)) (r1, r2)).length : Nat) : Int) != (((L.length : Nat) : Int) - 1)) = false := by simp; omega
              have M3 := Lib.hid m3
              have M4 := Lib.hid m4
              generalize L1.length = n1 at *
              clear hm hbw hx9 m1 m2 m3 m4 m5
              go_wp2_with fail
              refine HL9.out.mono ?_
              rintro e w10 ⟨rfl, rfl⟩
              go_wp2_with fail
              refine HC9.out.mono ?_
              rintro e w11 ⟨rfl, h11, _⟩
              have hx11 : Whole w11 rb 24 #[.int .i64 r1, .int .i64 r2] := HX.out.below h11.bel (by rw [HSZ.out]; omega)
              have x0 := hx11.cell 0
              have x1 := hx11.cell 1
              simp only [List.getElem?_toArray, List.getElem?_cons_zero, List.getElem?_cons_succ] at x0 x1
              have HC11 := Lib.hid (ccut h11 hr)
              rw [M3.out] at HC11
              unfold refV at HC11
              clear h11 hx11
              go_wp2_with fail
              refine HC11.out.mono ?_
              rintro e w12 ⟨rfl, h12, _⟩
              have hx12 : Whole w12 rb 24 #[.int .i64 r1, .int .i64 r2] := HX.out.below h12.bel (by rw [HSZ.out]; omega)
              have x0 := hx12.cell 0
              have x1 := hx12.cell 1
              simp only [List.getElem?_toArray, List.getElem?_cons_zero, List.getElem?_cons_succ] at x0 x1
              have HL12 := Lib.hid (clen h12)
              have HT12 := Lib.hid (cto h12 hr)
              rw [M4.out] at HT12
              unfold refV at HT12
              have HE := Lib.hid (HB0.out.trans (h12.bel.mono (by rw [HSZ.out, HRB.out]; omega)))
              generalize (RM.cut (RM.cut L1 (r1, r2)) (r1, r2)).length = n3 at *
              generalize RM.toV (RM.cut (RM.cut L1 (r1, r2)) (r1, r2)) (r1, r2) = t3 at *
              clear h12 hx12
              go_wp2_with fail
              refine HL12.out.mono ?_
              rintro e w13 ⟨rfl, rfl⟩
              go_wp2_with fail
              refine HT12.out.mono ?_
              rintro e w14 ⟨rfl, hb14⟩
              have HF := Lib.hid (HE.out.trans (hb14.mono (by have := HE.out.size; omega)))
              clear hb14
              go_wp2
              go_ret
              exact ⟨rfl, HF.out⟩
end Go.Proofs.Ytehkcflbdmkjpaa
