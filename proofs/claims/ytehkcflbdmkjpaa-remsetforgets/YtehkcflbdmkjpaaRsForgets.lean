/- RemsetForgets, walked. -/
import Derived.Test.YtehkcflbdmkjpaaRsZ
namespace Go.Proofs.Ytehkcflbdmkjpaa
open Go.RowKit Go.Maps Go.Sort

namespace RM
theorem frm_forget (L : RM.L) (s : Int) : frm (forget L s) s = [] := by
  unfold frm forget
  rw [List.filter_filter]
  have : (L.filter fun p => p.1.1 == s && p.1.1 != s) = [] := List.filter_eq_nil_iff.2 fun p _ => by simp
  rw [this]
  rfl
theorem has_forget {L : RM.L} (h : Up L) {s : Int} {r : R} (e : r.1 = s) : has (forget L s) r = false := by
  unfold has
  rw [to_forget h, if_pos e]
  rfl
theorem toV_forget {L : RM.L} (h : Up L) {s : Int} {r : R} (e : r.1 ≠ s) : toV (forget L s) r = toV L r := by
  unfold toV
  rw [to_forget h, if_neg e]
end RM
set_option maxHeartbeats 4000000 in
set_option maxRecDepth 100000 in
theorem forgets_big (A : Option Addr) (n c : Nat) (s : Int) (w : World) (hn : 100 < n) :
    Calls Try.prog 7 #[.slice A n c, .int .i64 s] w fun e w' => e = .returned (.bool true) ∧ Below w.heap.size w w' := by
  go_enter Try.func7, Try.ntmps7
  go_wp2_with fail
  refine (grown_big A n c w hn).mono ?_
  rintro e w1 ⟨rfl, hb1⟩
  have HB1 := Lib.hid hb1
  clear hb1
  go_wp2_with fail
  refine (alive_any w1).mono ?_
  rintro e w2 ⟨rfl, hb2⟩
  have HB2 := Lib.hid (HB1.out.trans (hb2.mono HB1.out.size))
  clear hb2
  go_wp2_with fail
  refine (alive_any w2).mono ?_
  rintro e w3 ⟨rfl, hb3⟩
  have HB3 := Lib.hid (HB2.out.trans (hb3.mono HB2.out.size))
  clear hb3
  go_wp2
  go_ret
  exact ⟨ret_bool (by simp; omega), HB3.out⟩
set_option maxHeartbeats 8000000 in
set_option maxRecDepth 100000 in
theorem forgets_few (A : Option Addr) (n c : Nat) (ls : List RM.Act) (s : Int) (w : World) (h : ActS w w.heap.size A n ls) (hs : I64ok s) (hn : n ≤ 100) :
    Calls Try.prog 7 #[.slice A n c, .int .i64 s] w fun e w' => e = .returned (.bool true) ∧ Below w.heap.size w w' := by
  obtain ⟨i0, hi, hz0, hz1, hz2⟩ := infoInt
  have HG := Lib.hid (grown_any A n c ls w h hn)
  have HS := Lib.hid h
  have HLN := Lib.hid h.1
  clear h
  go_enter Try.func7, Try.ntmps7
  go_wp2_with fail
  refine HG.out.mono ?_
  rintro e w1 ⟨p, rfl, h1⟩
  have H1 := Lib.hid h1
  clear h1
  generalize RM.run ls = L at *
  go_wp2_with fail
  refine (alive_any w1).mono ?_
  rintro e w2 ⟨rfl, hb2⟩
  have h2 := H1.out.below hb2
  have HF := Lib.hid (cfrm h2 hs (by omega))
  have H2 := Lib.hid h2
  clear hb2 h2
  go_wp2_with fail
  refine HF.out.mono ?_
  rintro e w3 ⟨v3, rfl, hv3, hb3⟩
  have h3 := H2.out.below hb3
  have HL3 := Lib.hid (clen h3)
  have H3 := Lib.hid h3
  obtain ⟨A3, c3, rfl, _⟩ := hv3.slice
  have hlf := RM.frm_len L s
  have hll := h3.len
  have hup := h3.up
  have HSUB := Lib.hid (RM.forget_len L s)
  have HFF := Lib.hid (RM.frm_forget L s)
  clear hv3 hb3 h3
  go_wp2_with fail
  refine HL3.out.mono ?_
  rintro e w4 ⟨rfl, rfl⟩
  go_wp2_with fail
  go_loopw [8, 38] (fun u i wr => ∃ k : Nat, k ≤ n ∧ i = .int .i64 k ∧ NewZ w3.heap.size wr u (goesTo L (ls.take k)) ∧ Below w3.heap.size w3 wr) (fun _ i _ => n - (intOf i).toNat)
  case atStart => exact ⟨0, Nat.zero_le _, rfl, by simpa [goesTo] using NewZ.nil _ _, Below.refl _ _⟩
  case round =>
    obtain ⟨k, hk, rfl, hu, hbw⟩ := hrel
    have hm := H3.out.below hbw
    have hs' := hbw.size
    obtain ⟨Au, cu, rfl, _⟩ := hu.slice
    by_cases hlt : k < n
    · obtain ⟨b, off, hl, rfl, hbl, ⟨a0, a1, a2, a3⟩, hok⟩ := (HS.out.below hm.bel).at_ hlt
      have HT := Lib.hid (goesTo_take L hl)
      obtain ⟨a, ha⟩ : ∃ a, a = ls[k] := ⟨_, rfl⟩
      rw [← ha] at a0 a1 a2 a3 HT hok
      obtain ⟨ak, sa, ap, an⟩ := a
      dsimp only at a0 a1 a2 a3
      have hbx := (Below.refl wr.heap.size wr).alloc (Nat.le_refl _) (.cells #[.int .i64 ak, .int .i64 sa, .int .i64 ap, .int .i64 an] 42)
      have HTO := Lib.hid (cto (hm.below hbx) hok.r)
      have HU := Lib.hid (hu.below hbx)
      have HBX := Lib.hid (hbw.trans (hbx.mono hs'))
      have hgl : (goesTo L (ls.take k)).length = k := by rw [goesTo_len, List.length_take, HLN.out]; omega
      unfold refV RM.Act.r at HTO
      unfold RM.Act.r at HT
      dsimp only at HTO HT
      generalize RM.toV L (sa, ap) = tv at *
      generalize RM.has L (sa, ap) = hv at *
      generalize goesTo L (ls.take k) = gl at *
      rw [hgl]
      clear hm ha hbx hok hu hbw
      go_wp2_with fail
      refine HTO.out.mono ?_
      rintro e w5 ⟨rfl, hb5⟩
      have hb5' := HBX.out.trans (hb5.mono HBX.out.size)
      have hs5 := hb5'.size
      have HB5 := Lib.hid hb5'
      have hu5 := HU.out.below hb5
      have HU5 := Lib.hid hu5.own
      have HUB := Lib.hid hu5.lt
      rw [hgl] at HU5 HUB
      clear hb5 hb5' hu5
      go_wp2_with (first
        | (at_builtin; refine wpList_append_own _ rfl _ _ 40 rfl w3.heap.size 3 i0 _ 1 8 Try.underlying40 hi hz0 hz1 hz2 rfl (by decide) (.slice Au k cu) _ _ rfl (HU5.out.alloc _) ⟨w5.heap.size, 0, none⟩ 1 1 [.int .i64 tv] rfl rfl (cell_one_new _ _ _) (by simp [Value.oneCell']) (by unfold maxLen; omega) (by omega) (by simp; omega) ?_; intro v' w6 hown' hgrow _; have HO2 := Lib.hid hown'; have HG2 := Lib.hid hgrow; clear hown' hgrow))
      go_roundw
      case rel => exact ⟨k + 1, by omega, by go_num, by rw [HT.out]; exact NewZ.snoc (by rw [hgl]; exact HO2.out), (HB5.out.alloc hs5 _).grown HG2.out (by simp; omega) (fun g hg => (HUB.out g hg).1)⟩
      case measure => simp [intOf]; omega
    · obtain rfl : k = n := by omega
      have hgt : (goesTo L (ls.take k)).length = k := by rw [goesTo_len, List.length_take, HLN.out]; omega
      rw [hgt] at hu ⊢
      rw [List.take_of_length_le (by rw [HLN.out]; omega)] at hu
      have HU := Lib.hid hu
      have HFO := Lib.hid (cforget hm hs (by omega))
      clear hm hu hbw
      go_wp2_with fail
      refine HFO.out.mono ?_
      rintro e w5 ⟨rfl, h5, hmd⟩
      have HU5 := Lib.hid (HU.out.md hmd)
      have HL5 := Lib.hid (clen h5)
      have H5 := Lib.hid h5
      have hd5 : ((((RM.forget L s).length : Nat) : Int) != ((L.length : Nat) : Int) - (((RM.frm L s).length : Nat) : Int)) = false := by
        have := HSUB.out
        simp
        omega
      clear h5 hmd HU
      generalize (RM.forget L s).length = nf at *
      generalize (RM.frm L s).length = nh at *
      go_wp2_with fail
      refine HL5.out.mono ?_
      rintro e w6 ⟨rfl, rfl⟩
      have HF6 := Lib.hid (cfrm H5.out hs (by omega))
      rw [HFF.out] at HF6
      go_wp2_with fail
      refine HF6.out.mono ?_
      rintro e w7 ⟨v7, rfl, hv7, hb7⟩
      obtain ⟨A7, c7, rfl, _⟩ := hv7.slice
      have h7 := H5.out.below hb7
      have HU7 := Lib.hid (HU5.out.below hb7)
      have HF7 := Lib.hid (cforget h7 hs (by omega))
      rw [HFF.out] at HF7
      clear hv7 hb7 h7
      go_wp2_with fail
      refine HF7.out.mono ?_
      rintro e w8 ⟨rfl, h8, hmd8⟩
      have HU8 := Lib.hid (HU7.out.md hmd8)
      have H8 := Lib.hid h8
      clear h8 hmd8 H5 HL5 HFO HF6 HF7 HU7 HU5
      have HHF := Lib.hid fun (r : RM.R) (e : r.1 = s) => RM.has_forget (RM.forget_up hup s) e
      have HTF := Lib.hid fun (r : RM.R) (e : r.1 ≠ s) => (RM.toV_forget (RM.forget_up hup s) e).trans (RM.toV_forget hup e)
      generalize RM.forget (RM.forget L s) s = L2 at *
      go_wp2_with fail
      go_loopw [84] (fun i wr => ∃ j : Nat, j ≤ k ∧ i = .int .i64 j ∧ Below w8.heap.size w8 wr) (fun i _ => k - (intOf i).toNat)
      case atStart => exact ⟨0, Nat.zero_le _, rfl, Below.refl _ _⟩
      case round =>
        obtain ⟨j, hj, rfl, hbw⟩ := hrel
        have hm := H8.out.below hbw
        by_cases hjt : j < k
        · obtain ⟨b, off, hl, rfl, hbl, ⟨a0, a1, a2, a3⟩, hok⟩ := (HS.out.below hm.bel).at_ hjt
          have hgj : j < (goesTo L ls).length := by rw [goesTo_len, HLN.out]; exact hjt
          have hga := goesTo_at L hgj
          obtain ⟨a, ha⟩ : ∃ a, a = ls[j] := ⟨_, rfl⟩
          rw [← ha] at a0 a1 a2 a3 hok hga
          obtain ⟨ak, sa, ap, an⟩ := a
          dsimp only at a0 a1 a2 a3
          have hbx := (Below.refl wr.heap.size wr).alloc (Nat.le_refl _) (.cells #[.int .i64 ak, .int .i64 sa, .int .i64 ap, .int .i64 an] 42)
          have hxb := Whole.fresh wr 42 #[.int .i64 ak, .int .i64 sa, .int .i64 ap, .int .i64 an]
          have HTO := Lib.hid (cto (hm.below hbx) hok.r)
          have HBX := Lib.hid (hbw.trans (hbx.mono hbw.size))
          have HXB := Lib.hid hxb
          obtain ⟨g, cap, e1, hg1, hg2, hgc⟩ := HU8.out.cell hgj
          injection e1 with e1 e1x e1'
          clear e1x
          subst e1 e1'
          have HGC := Lib.hid (show ∀ W, Below w8.heap.size w8 W → W.cell? ⟨g, j, none⟩ = some (.int .i64 (RM.toV L (sa, ap))) from fun W hW => by
            have := (hW.cell (p := ⟨g, j, none⟩) hg2).trans hgc
            rw [hga] at this
            exact this)
          have HE1 := Lib.hid (HHF.out (sa, ap))
          have HE2 := Lib.hid (HTF.out (sa, ap))
          unfold refV RM.Act.r at HTO
          dsimp only at HTO HE1 HE2
          generalize RM.toV L2 (sa, ap) = tv at *
          generalize RM.has L2 (sa, ap) = hv at *
          generalize RM.toV L (sa, ap) = tl at *
          clear hm ha hbx hok hbw hxb hgc hga hbl
          go_wp2_with fail
          refine HTO.out.mono ?_
          rintro e w9 ⟨rfl, hb9⟩
          have h9 := HBX.out.trans (hb9.mono HBX.out.size)
          have hx9 := HXB.out.below hb9 (by simp)
          have x0 := hx9.cell 0
          have x1 := hx9.cell 1
          have x2 := hx9.cell 2
          simp only [List.getElem?_toArray, List.getElem?_cons_zero, List.getElem?_cons_succ] at x0 x1 x2
          have cg := HGC.out w9 h9
          have H9 := Lib.hid h9
          clear hb9 h9 hx9
          by_cases e : sa = s
          · have hf := HE1.out e
            subst e hf
            clear HE1 HE2
            go_wp2
            go_roundw
            case rel => exact ⟨j + 1, by omega, by go_num, H9.out⟩
            case measure => simp [intOf]; omega
          · have hf := HE2.out e
            subst hf
            have d0 : (sa == s) = false := by simpa using e
            have d1 : (sa != s) = true := by simpa using e
            clear HE1 HE2
            go_wp2
            go_roundw
            case rel => exact ⟨j + 1, by omega, by go_num, H9.out⟩
            case measure => simp [intOf]; omega
        · obtain rfl : j = k := by omega
          have HE := Lib.hid hm.bel
          clear hm hbw
          go_wp2
          go_ret
          exact ⟨rfl, HE.out⟩
theorem forgets_any (A : Option Addr) (n c : Nat) (ls : List RM.Act) (s : Int) (w : World) (h : ActS w w.heap.size A n ls) (hs : I64ok s) :
    Calls Try.prog 7 #[.slice A n c, .int .i64 s] w fun e w' => e = .returned (.bool true) ∧ Below w.heap.size w w' := by
  by_cases hn : n ≤ 100
  · exact forgets_few A n c ls s w h hs hn
  · exact forgets_big A n c s w (by omega)
end Go.Proofs.Ytehkcflbdmkjpaa
