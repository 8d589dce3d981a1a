/- RemsetTwice, walked. -/
import Derived.Test.YtehkcflbdmkjpaaRsTwiceM
namespace Go.Proofs.Ytehkcflbdmkjpaa
open Go.RowKit Go.Maps Go.Sort

set_option maxHeartbeats 4000000 in
set_option maxRecDepth 100000 in
theorem twice_big (A : Option Addr) (n c : Nat) (w : World) (hn : 100 < n) :
    Calls Try.prog 4 #[.slice A n c] w fun e w' => e = .returned (.bool true) ∧ Below w.heap.size w w' := by
  go_enter Try.func4, Try.ntmps4
  go_wp2_with fail
  refine (grown_big A n c w hn).mono ?_
  rintro e w1 ⟨rfl, hb1⟩
  have HB1 := Lib.hid hb1
  clear hb1
  go_wp2_with fail
  refine (alive_any w1).mono ?_
  rintro e w2 ⟨rfl, hb2⟩
  have HB2 := Lib.hid (HB1.out.trans (hb2.mono HB1.out.size))
  clear hb2
  go_wp2_with fail
  refine (alive_any w2).mono ?_
  rintro e w3 ⟨rfl, hb3⟩
  have HB3 := Lib.hid (HB2.out.trans (hb3.mono HB2.out.size))
  clear hb3
  go_wp2
  go_ret
  exact ⟨ret_bool (by simp; omega), HB3.out⟩
set_option maxHeartbeats 16000000 in
set_option maxRecDepth 100000 in
theorem twice_few (A : Option Addr) (n c : Nat) (ls : List RM.Act) (w : World) (h : ActS w w.heap.size A n ls) (hn : n ≤ 100) :
    Calls Try.prog 4 #[.slice A n c] w fun e w' => e = .returned (.bool true) ∧ Below w.heap.size w w' := by
  have HG := Lib.hid (grown_any A n c ls w h hn)
  have HS := Lib.hid h
  have HLN := Lib.hid h.1
  clear h
  go_enter Try.func4, Try.ntmps4
  go_wp2_with fail
  refine HG.out.mono ?_
  rintro e w1 ⟨p, rfl, h1⟩
  have H1 := Lib.hid h1
  clear h1 HG
  generalize RM.run ls = L at *
  go_wp2_with fail
  refine (alive_any w1).mono ?_
  rintro e w2 ⟨rfl, hb2⟩
  have h2 := H1.out.below hb2
  have hup := h2.up
  have hll := h2.len
  have HOK := Lib.hid h2.ok
  have H2 := Lib.hid h2
  clear hb2 h2
  go_wp2_with fail
  go_loopw [36] (fun i wr => ∃ k : Nat, k ≤ n ∧ i = .int .i64 k ∧ Below w2.heap.size w2 wr) (fun i _ => n - (intOf i).toNat)
  case atStart => exact ⟨0, Nat.zero_le _, rfl, Below.refl _ _⟩
  case round =>
    obtain ⟨k, hk, rfl, hbw⟩ := hrel
    rename World => wo
    have hm := H2.out.below hbw
    by_cases hlt : k < n
    · obtain ⟨b, off, hl, rfl, hbl, ⟨a0, a1, a2, a3⟩, hok⟩ := (HS.out.below hm.bel).at_ hlt
      obtain ⟨a, ha⟩ : ∃ a, a = ls[k] := ⟨_, rfl⟩
      rw [← ha] at a0 a1 a2 a3 hok
      obtain ⟨ak, sa, ap, an⟩ := a
      dsimp only at a0 a1 a2 a3
      have hbx := (Below.refl wo.heap.size wo).alloc (Nat.le_refl _) (.cells #[.int .i64 ak, .int .i64 sa, .int .i64 ap, .int .i64 an] 42)
      have hxb := Whole.fresh wo 42 #[.int .i64 ak, .int .i64 sa, .int .i64 ap, .int .i64 an]
      have HOF := Lib.hid (cof (hm.below hbx) hok.2.2.2 (by omega))
      have hso : I64ok sa := hok.2.1
      have HBX := Lib.hid (hbw.trans (hbx.mono hbw.size))
      have HXB := Lib.hid hxb
      have HM := Lib.hid (hm.below hbx)
      dsimp only at HOF
      clear hm ha hbx hok hbw hxb hbl
      go_wp2_with fail
      refine HOF.out.mono ?_
      rintro e w5 ⟨v5, rfl, hv5, hb5⟩
      obtain ⟨A5, c5, rfl, _⟩ := hv5.slice
      have H5 := Lib.hid (HM.out.below hb5)
      have HX5 := Lib.hid (HXB.out.below hb5 (by simp))
      have HB5 := Lib.hid (HBX.out.trans (hb5.mono HBX.out.size))
      have HV5 := Lib.hid hv5
      have HTW := Lib.hid fun (x : RM.R) (hx : x ∈ RM.of L an) => tw_of hup hx
      have HRO := Lib.hid fun (x : RM.R) (hx : x ∈ RM.of L an) => (HOK.out _ (RM.mem_of.1 hx)).1
      have hlo := RM.of_len L an
      obtain ⟨ab, hab⟩ : ∃ ab, ab = wo.heap.size := ⟨_, rfl⟩
      rw [← hab] at HX5 ⊢
      have HABL : Hid (ab < w5.heap.size) := Lib.hid HX5.out.lt
      generalize RM.of L an = lo at *
      clear hv5 hb5 HM HXB HBX hab
      go_wp2_with fail
      go_loopw [45] (fun i wr => ∃ j : Nat, j ≤ lo.length ∧ i = .int .i64 j ∧ Below w5.heap.size w5 wr) (fun i _ => lo.length - (intOf i).toNat)
      case atStart => exact ⟨0, Nat.zero_le _, rfl, Below.refl _ _⟩
      case round =>
        obtain ⟨j, hj, rfl, hbw⟩ := hrel
        rename World => wp
        have hm := H5.out.below hbw
        by_cases hjt : j < lo.length
        · obtain ⟨g, cap, e1, _, _, c1, c2⟩ := (HV5.out.below hbw).cell hjt
          injection e1 with e1 e1x e1'
          clear e1x
          subst e1 e1'
          have hxl := List.getElem_mem hjt
          have HTX := Lib.hid (HTW.out _ hxl)
          have hrx := HRO.out _ hxl
          obtain ⟨x, hx⟩ : ∃ x, x = lo[j] := ⟨_, rfl⟩
          rw [← hx] at c1 c2 HTX hrx
          obtain ⟨x1, x2⟩ := x
          dsimp only at c1 c2
          have hbx := (Below.refl wp.heap.size wp).alloc (Nat.le_refl _) (.cells #[.int .i64 x1, .int .i64 x2] 24)
          have hxb := Whole.fresh wp 24 #[.int .i64 x1, .int .i64 x2]
          have HFR := Lib.hid (cfrm (hm.below hbx) hrx.1 (by omega))
          have HM := Lib.hid (hm.below hbx)
          have HXB := Lib.hid hxb
          have HBX := Lib.hid (hbw.trans (hbx.mono hbw.size))
          have HRX := Lib.hid hrx
          have y0 := hxb.cell 0
          have y1 := hxb.cell 1
          simp only [List.getElem?_toArray, List.getElem?_cons_zero, List.getElem?_cons_succ] at y0 y1
          dsimp only at HFR HTX
          have hlf := RM.frm_len L x1
          generalize RM.frm L x1 = lf at *
          clear hm hx hbx hbw hxb hrx hxl
          go_wp2_with fail
          refine HFR.out.mono ?_
          rintro e w6 ⟨v6, rfl, hv6, hb6⟩
          obtain ⟨A6, c6, rfl, _⟩ := hv6.slice
          have H6 := Lib.hid (HM.out.below hb6)
          have HX6 := Lib.hid (HXB.out.below hb6 (by simp))
          have HB6 := Lib.hid (HBX.out.trans (hb6.mono HBX.out.size))
          have HV6 := Lib.hid hv6
          obtain ⟨xb, hxb⟩ : ∃ xb, xb = wp.heap.size := ⟨_, rfl⟩
          rw [← hxb] at HX6 ⊢
          have HXL : Hid (xb < w6.heap.size) := Lib.hid HX6.out.lt
          clear hv6 hb6 HM HXB HBX hxb y0 y1
          go_wp2_with fail
          go_loopw [8, 54] (fun u i wr => ∃ q : Nat, q ≤ lf.length ∧ i = .int .i64 q ∧ u = .int .i64 (cnt lf (x1, x2) q : Nat) ∧ Below w6.heap.size w6 wr) (fun _ i _ => lf.length - (intOf i).toNat)
          case atStart => exact ⟨0, Nat.zero_le _, rfl, by rw [cnt_zero]; rfl, Below.refl _ _⟩
          case round =>
            obtain ⟨q, hq, rfl, rfl, hbw⟩ := hrel
            rename World => wq
            have hcl := cnt_le lf (x1, x2) q
            by_cases hqt : q < lf.length
            · obtain ⟨g', cap', e1, _, _, c1, c2⟩ := (HV6.out.below hbw).cell hqt
              injection e1 with e1 e1x e1'
              clear e1x
              subst e1 e1'
              have HCY := Lib.hid (cnt_yes (x := (x1, x2)) hqt)
              have HCN := Lib.hid (cnt_no (x := (x1, x2)) hqt)
              obtain ⟨y, hy⟩ : ∃ y, y = lf[q] := ⟨_, rfl⟩
              rw [← hy] at c1 c2 HCY HCN
              obtain ⟨y1, y2⟩ := y
              dsimp only at c1 c2
              have hbx := (Below.refl wq.heap.size wq).alloc (Nat.le_refl _) (.cells #[.int .i64 y1, .int .i64 y2] 24)
              have hx7 := (HX6.out.below hbw HXL.out).alloc (.cells #[.int .i64 y1, .int .i64 y2] 24)
              have z0 := hx7.cell 0
              have z1 := hx7.cell 1
              simp only [List.getElem?_toArray, List.getElem?_cons_zero, List.getElem?_cons_succ] at z0 z1
              have HBX := Lib.hid (hbw.trans (hbx.mono hbw.size))
              have heq : ∀ w', (binOp .eql 24 (.agg #[.int .i64 y1, .int .i64 y2]) (.agg #[.int .i64 x1, .int .i64 x2])).run Try.prog w' = .ok (.bool (((y1, y2) : RM.R) == (x1, x2))) w' := fun w' => eql_ref (y1, y2) (x1, x2) w'
              generalize cnt lf (x1, x2) q = cq at *
              clear hy hbw hbx hx7
              by_cases e : ((y1, y2) : RM.R) = (x1, x2)
              · have hc := HCY.out e
                rw [show (((y1, y2) : RM.R) == (x1, x2)) = true by simpa using e] at heq
                have HC := Lib.hid hc
                clear HCY HCN e hc
                go_wp2
                go_roundw
                case rel => exact ⟨q + 1, by omega, by go_num, by rw [HC.out]; go_num, HBX.out⟩
                case measure => simp [intOf]; omega
              · have hc := HCN.out e
                rw [show (((y1, y2) : RM.R) == (x1, x2)) = false by simpa using e] at heq
                have HC := Lib.hid hc
                clear HCY HCN e hc
                go_wp2
                go_roundw
                case rel => exact ⟨q + 1, by omega, by go_num, by rw [HC.out], HBX.out⟩
                case measure => simp [intOf]; omega
            · obtain rfl : q = lf.length := by omega
              have h7 := H6.out.below hbw
              have HT7 := Lib.hid (cto h7 HRX.out)
              obtain ⟨t1, t2, t3⟩ := HTX.out
              rw [t1, t2] at HT7
              rw [t3]
              have hx7 := HX6.out.below hbw HXL.out
              have z0 := hx7.cell 0
              have z1 := hx7.cell 1
              simp only [List.getElem?_toArray, List.getElem?_cons_zero, List.getElem?_cons_succ] at z0 z1
              have HBW := Lib.hid (HB6.out.trans (hbw.mono HB6.out.size))
              unfold refV at HT7
              clear h7 hx7 hbw t1 t2 t3 hcl HTX
              generalize lf.length = nlf at *
              go_wp2_with fail
              refine HT7.out.mono ?_
              rintro e w8 ⟨rfl, hb8⟩
              have hb58 := HBW.out.trans (hb8.mono HBW.out.size)
              have hx8 := HX5.out.below hb58 HABL.out
              have q0 := hx8.cell 3
              simp only [List.getElem?_toArray, List.getElem?_cons_zero, List.getElem?_cons_succ] at q0
              have HB8 := Lib.hid hb58
              clear hb8 hb58 hx8 z0 z1
              go_wp2
              go_roundw
              case rel => exact ⟨j + 1, by omega, by go_num, HB8.out⟩
              case measure => simp [intOf]; omega
        · obtain rfl : j = lo.length := by omega
          have hx7 := HX5.out.below hbw HABL.out
          have q1 := hx7.cell 1
          simp only [List.getElem?_toArray, List.getElem?_cons_zero, List.getElem?_cons_succ] at q1
          have HFR := Lib.hid (cfrm hm hso (by omega))
          have HM := Lib.hid hm
          have HX7 := Lib.hid hx7
          have HBW := Lib.hid (HB5.out.trans (hbw.mono HB5.out.size))
          have HTF := Lib.hid fun (x : RM.R) (hx : x ∈ RM.frm L sa) => tw_frm hup hx
          have hlf := RM.frm_len L sa
          generalize RM.frm L sa = lf at *
          clear hm hx7 hbw HTW HRO
          generalize lo.length = nlo at *
          go_wp2_with fail
          refine HFR.out.mono ?_
          rintro e w8 ⟨v8, rfl, hv8, hb8⟩
          obtain ⟨A8, c8, rfl, _⟩ := hv8.slice
          have H8 := Lib.hid (HM.out.below hb8)
          have hlp := HX7.out.lt
          have HX8 := Lib.hid (HX7.out.below hb8 hlp)
          have HB8 := Lib.hid (HBW.out.trans (hb8.mono HBW.out.size))
          have HV8 := Lib.hid hv8
          have HAL8 : Hid (ab < w8.heap.size) := Lib.hid HX8.out.lt
          clear hv8 hb8 HM HX7 HBW hlp q1 HX5 HB5 H5 HV5
          go_wp2_with fail
          go_loopw [89] (fun i wr => ∃ j : Nat, j ≤ lf.length ∧ i = .int .i64 j ∧ Below w8.heap.size w8 wr) (fun i _ => lf.length - (intOf i).toNat)
          case atStart => exact ⟨0, Nat.zero_le _, rfl, Below.refl _ _⟩
          case round =>
            obtain ⟨j, hj, rfl, hbw⟩ := hrel
            rename World => wq
            have hm := H8.out.below hbw
            by_cases hjt : j < lf.length
            · obtain ⟨g, cap, e1, _, _, c1, c2⟩ := (HV8.out.below hbw).cell hjt
              injection e1 with e1 e1x e1'
              clear e1x
              subst e1 e1'
              have HTX := Lib.hid (HTF.out _ (List.getElem_mem hjt))
              obtain ⟨x, hx⟩ : ∃ x, x = lf[j] := ⟨_, rfl⟩
              rw [← hx] at c1 c2 HTX
              obtain ⟨x1, x2⟩ := x
              dsimp only at c1 c2
              obtain ⟨t1, t2, t3, t4⟩ := HTX.out
              have ht1 : x1 = sa := t1
              subst ht1
              obtain ⟨hrx, htx⟩ := HOK.out _ t3
              dsimp only at hrx htx
              have hbx := (Below.refl wq.heap.size wq).alloc (Nat.le_refl _) (.cells #[.int .i64 x1, .int .i64 x2] 24)
              have hxb := Whole.fresh wq 24 #[.int .i64 x1, .int .i64 x2]
              have HTO := Lib.hid (cto (hm.below hbx) hrx)
              rw [t2] at HTO
              have HM := Lib.hid (hm.below hbx)
              have HXB := Lib.hid hxb
              have HBX := Lib.hid (hbw.trans (hbx.mono hbw.size))
              have HT4 := Lib.hid t4
              have HTK := Lib.hid htx
              have hlt' := RM.of_len L (RM.toV L (x1, x2))
              unfold refV at HTO
              dsimp only at HTO
              generalize RM.toV L (x1, x2) = tv at *
              clear hm hx hbx hbw hxb hrx t1 t2 t3 t4 htx HTX
              go_wp2_with fail
              refine HTO.out.mono ?_
              rintro e w9 ⟨rfl, hb9⟩
              have h9 := HM.out.below hb9
              have HOF := Lib.hid (cof h9 HTK.out (by omega))
              have H9 := Lib.hid h9
              have HX9 := Lib.hid (HXB.out.below hb9 (by simp))
              have HB9 := Lib.hid (HBX.out.trans (hb9.mono HBX.out.size))
              obtain ⟨xb, hxb⟩ : ∃ xb, xb = wq.heap.size := ⟨_, rfl⟩
              rw [← hxb] at HX9 ⊢
              generalize RM.of L tv = lt at *
              clear h9 hb9 HM HXB HBX hxb
              go_wp2_with fail
              refine HOF.out.mono ?_
              rintro e w10 ⟨v10, rfl, hv10, hb10⟩
              obtain ⟨A10, c10, rfl, _⟩ := hv10.slice
              have hl9 := HX9.out.lt
              have HX10 := Lib.hid (HX9.out.below hb10 hl9)
              have HXL : Hid (xb < w10.heap.size) := Lib.hid HX10.out.lt
              have HB10 := Lib.hid (HB9.out.trans (hb10.mono HB9.out.size))
              have HV10 := Lib.hid hv10
              clear hv10 hb10 H9 HX9 HB9 hl9
              go_wp2_with fail
              go_loopw [17, 103] (fun u i wr => ∃ q : Nat, q ≤ lt.length ∧ i = .int .i64 q ∧ u = .int .i64 (cnt lt (x1, x2) q : Nat) ∧ Below w10.heap.size w10 wr) (fun _ i _ => lt.length - (intOf i).toNat)
              case atStart => exact ⟨0, Nat.zero_le _, rfl, by rw [cnt_zero]; rfl, Below.refl _ _⟩
              case round =>
                obtain ⟨q, hq, rfl, rfl, hbw⟩ := hrel
                rename World => wz
                have hcl := cnt_le lt (x1, x2) q
                by_cases hqt : q < lt.length
                · obtain ⟨g', cap', e1, _, _, c1, c2⟩ := (HV10.out.below hbw).cell hqt
                  injection e1 with e1 e1x e1'
                  clear e1x
                  subst e1 e1'
                  have HCY := Lib.hid (cnt_yes (x := (x1, x2)) hqt)
                  have HCN := Lib.hid (cnt_no (x := (x1, x2)) hqt)
                  obtain ⟨y, hy⟩ : ∃ y, y = lt[q] := ⟨_, rfl⟩
                  rw [← hy] at c1 c2 HCY HCN
                  obtain ⟨y1, y2⟩ := y
                  dsimp only at c1 c2
                  have hbx := (Below.refl wz.heap.size wz).alloc (Nat.le_refl _) (.cells #[.int .i64 y1, .int .i64 y2] 24)
                  have hx7 := (HX10.out.below hbw HXL.out).alloc (.cells #[.int .i64 y1, .int .i64 y2] 24)
                  have z0 := hx7.cell 0
                  have z1 := hx7.cell 1
                  simp only [List.getElem?_toArray, List.getElem?_cons_zero, List.getElem?_cons_succ] at z0 z1
                  have HBX := Lib.hid (hbw.trans (hbx.mono hbw.size))
                  have heq : ∀ w', (binOp .eql 24 (.agg #[.int .i64 y1, .int .i64 y2]) (.agg #[.int .i64 x1, .int .i64 x2])).run Try.prog w' = .ok (.bool (((y1, y2) : RM.R) == (x1, x2))) w' := fun w' => eql_ref (y1, y2) (x1, x2) w'
                  generalize cnt lt (x1, x2) q = cq at *
                  clear hy hbw hbx hx7
                  by_cases e : ((y1, y2) : RM.R) = (x1, x2)
                  · have hc := HCY.out e
                    rw [show (((y1, y2) : RM.R) == (x1, x2)) = true by simpa using e] at heq
                    have HC := Lib.hid hc
                    clear HCY HCN e hc
                    go_wp2
                    go_roundw
                    case rel => exact ⟨q + 1, by omega, by go_num, by rw [HC.out]; go_num, HBX.out⟩
                    case measure => simp [intOf]; omega
                  · have hc := HCN.out e
                    rw [show (((y1, y2) : RM.R) == (x1, x2)) = false by simpa using e] at heq
                    have HC := Lib.hid hc
                    clear HCY HCN e hc
                    go_wp2
                    go_roundw
                    case rel => exact ⟨q + 1, by omega, by go_num, by rw [HC.out], HBX.out⟩
                    case measure => simp [intOf]; omega
                · obtain rfl : q = lt.length := by omega
                  rw [HT4.out]
                  have hx7 := HX10.out.below hbw HXL.out
                  have z0 := hx7.cell 0
                  simp only [List.getElem?_toArray, List.getElem?_cons_zero] at z0
                  have hb8w := HB10.out.trans (hbw.mono HB10.out.size)
                  have hx8 := HX8.out.below hb8w HAL8.out
                  have q1 := hx8.cell 1
                  simp only [List.getElem?_toArray, List.getElem?_cons_zero, List.getElem?_cons_succ] at q1
                  have HBW := Lib.hid hb8w
                  clear hx7 hbw hcl HT4 hb8w hx8
                  generalize lt.length = nlt at *
                  go_wp2
                  go_roundw
                  case rel => exact ⟨j + 1, by omega, by go_num, HBW.out⟩
                  case measure => simp [intOf]; omega
            · obtain rfl : j = lf.length := by omega
              have HBW := Lib.hid (HB8.out.trans (hbw.mono HB8.out.size))
              clear hm hbw
              go_wp2
              go_roundw
              case rel => exact ⟨k + 1, by omega, by go_num, HBW.out⟩
              case measure => simp [intOf]; omega
    · obtain rfl : k = n := by omega
      have HE := Lib.hid hm.bel
      clear hm hbw
      go_wp2
      go_ret
      exact ⟨rfl, HE.out⟩
theorem twice_any (A : Option Addr) (n c : Nat) (ls : List RM.Act) (w : World) (h : ActS w w.heap.size A n ls) :
    Calls Try.prog 4 #[.slice A n c] w fun e w' => e = .returned (.bool true) ∧ Below w.heap.size w w' := by
  by_cases hn : n ≤ 100
  · exact twice_few A n c ls w h hn
  · exact twice_big A n c w (by omega)
end Go.Proofs.Ytehkcflbdmkjpaa
