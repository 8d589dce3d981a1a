/- Contracts of the document's list. -/
import Derived.Test.YtomjaieplpjcpaaGyDocM
import Derived.Test.YtomjaieplpjcpaaGrRef
import Derived.Maps.AppendAt
namespace Go.Proofs.Ytomjaieplpjcpaa
open Go.RowKit Go.Lib Go.Sort Go.Maps
set_option linter.unusedVariables false

set_option maxHeartbeats 1000000 in
theorem dcolor_any {w : World} {base r : Nat} {q : Option Nat} {s : GY.S} (h : Dl w base r q s) (hn : GY.num s ≤ 1000000) (x : Int) :
    Calls Try.prog 22 #[pv r, .int .i64 x] w fun e w' => e = .returned (.int .i64 ((GY.col s x : Nat) : Int)) ∧ w = w' := by
  obtain ⟨u, v, h⟩ := h
  have c0 := h.c0
  have c1 := h.c1
  have hnn : s.W.length + s.D.length ≤ 1000000 := hn
  obtain ⟨A, n, c, rfl, hl, hz⟩ := h.wt.op
  obtain ⟨B, m, d, rfl, hl2, hz2⟩ := h.dn.op
  have H1 := has_any (c := c) hz (by omega) x
  have H2 := has_any (c := d) hz2 (by omega) x
  have HC : Hid (GY.col s x = if x ∈ s.W then 1 else if x ∈ s.D then 2 else 0) := Lib.hid rfl
  clear h hz hz2 hn hnn hl hl2
  by_cases h1 : x ∈ s.W
  · rw [decide_eq_true h1] at H1
    have hc := HC.out
    rw [if_pos h1] at hc
    rw [hc]
    have H1 := Lib.hid H1
    clear H2 hc HC h1
    go_enter Try.func22, Try.ntmps22
    go_wp2_with fail
    refine H1.out.mono ?_
    rintro e w1 ⟨rfl, rfl⟩
    go_wp2
    go_ret
    exact ⟨rfl, rfl⟩
  · rw [decide_eq_false h1] at H1
    have hc := HC.out
    rw [if_neg h1] at hc
    by_cases h2 : x ∈ s.D
    · rw [decide_eq_true h2] at H2
      rw [if_pos h2] at hc
      rw [hc]
      have H1 := Lib.hid H1
      have H2 := Lib.hid H2
      clear hc HC h1 h2
      go_enter Try.func22, Try.ntmps22
      go_wp2_with fail
      refine H1.out.mono ?_
      rintro e w1 ⟨rfl, rfl⟩
      clear H1
      go_wp2_with fail
      refine H2.out.mono ?_
      rintro e w1 ⟨rfl, rfl⟩
      go_wp2
      go_ret
      exact ⟨rfl, rfl⟩
    · rw [decide_eq_false h2] at H2
      rw [if_neg h2] at hc
      rw [hc]
      have H1 := Lib.hid H1
      have H2 := Lib.hid H2
      clear hc HC h1 h2
      go_enter Try.func22, Try.ntmps22
      go_wp2_with fail
      refine H1.out.mono ?_
      rintro e w1 ⟨rfl, rfl⟩
      clear H1
      go_wp2_with fail
      refine H2.out.mono ?_
      rintro e w1 ⟨rfl, rfl⟩
      go_wp2
      go_ret
      exact ⟨rfl, rfl⟩

theorem out_take {xs : List Int} {i : Nat} {x y : Int} (h : xs[i]? = some y) : GY.out (xs.take (i + 1)) x = if y = x then GY.out (xs.take i) x else GY.out (xs.take i) x ++ [y] := by
  obtain ⟨hi, e⟩ := List.getElem?_eq_some_iff.1 h
  rw [List.take_succ_eq_append_getElem hi, e, GY.out_snoc]
set_option maxHeartbeats 1000000 in
theorem dout_any {w : World} {A : Option Addr} {n c : Nat} {xs : List Int} (h : ZS w A n xs) (hn : n ≤ 1000000) (x : Int) :
    Calls Try.prog 31 #[.slice A n c, .int .i64 x] w fun e w' => ∃ v, e = .returned v ∧ NewZ w.heap.size w' v (GY.out xs x) ∧ Below w.heap.size w w' := by
  obtain ⟨i0, hi0, hz0, hz1, hz2⟩ := info_parts infoZ
  have HZ := Lib.hid h
  have HL : Hid (xs.length = n) := Lib.hid h.len
  clear h
  go_enter Try.func31, Try.ntmps31
  go_wp2
  go_loopw [5, 6] (fun u i wr => ∃ k : Nat, k ≤ n ∧ i = .int .i64 k ∧ Hid (NewZ w.heap.size wr u (GY.out (xs.take k) x)) ∧ Hid (Below w.heap.size w wr)) (fun _ i _ => n - (intOf i).toNat)
  case atStart => exact ⟨0, Nat.zero_le _, rfl, Lib.hid (NewZ.nil _ _), Lib.hid (Below.refl _ _)⟩
  case round =>
    obtain ⟨i, hi, rfl, HU, HB⟩ := hrel
    by_cases hlt : i < n
    · obtain ⟨b, off, rfl, hb, c0⟩ := HZ.out.at_ hlt
      have d0 := (HB.out.cell (p := ⟨b, _, none⟩) hb).trans c0
      have hil : i < xs.length := by rw [HL.out]; exact hlt
      have hst := out_take (x := x) (List.getElem?_eq_getElem hil)
      obtain ⟨y, hy⟩ : ∃ y, y = xs[i]'hil := ⟨_, rfl⟩
      rw [← hy] at d0 hst
      have hL : (GY.out (xs.take i) x).length ≤ 1000000 := by
        have h1 := GY.out_le (xs.take i) x
        rw [List.length_take] at h1
        omega
      obtain ⟨L, hLe⟩ : ∃ L, L = GY.out (xs.take i) x := ⟨_, rfl⟩
      rw [← hLe] at hL hst HU
      have hsz := HB.out.size
      clear c0 hy hLe
      by_cases hyx : y = x
      · rw [if_pos hyx] at hst
        have HST := Lib.hid hst
        subst hyx
        clear hst
        go_wp2
        go_roundw
        case rel => exact ⟨i + 1, by omega, by go_num, by rw [HST.out]; exact HU, HB⟩
        case measure => simp [intOf]; omega
      · rw [if_neg hyx] at hst
        have HST := Lib.hid hst
        clear hst
        go_wp2_with (first
          | (at_builtin; refine wpList_append_own _ rfl _ _ 33 rfl w.heap.size 3 i0 _ 1 8 Try.underlying33 hi0 hz0 hz1 hz2 rfl (by decide) _ _ _ rfl (HU.out.own.alloc _) ⟨wr.heap.size, 0, none⟩ 1 1 [.int .i64 y] rfl rfl (cell_one_new _ _ _) (by simp [Value.oneCell']) (by unfold maxLen; omega) (by omega) (by simp; omega) ?_; intro v' w6 hown' hgrow _; have HO := Lib.hid hown'; have HG3 := Lib.hid hgrow; clear hown' hgrow))
        go_roundw
        case rel => exact ⟨i + 1, by omega, by go_num, by rw [HST.out]; exact Lib.hid (NewZ.snoc HO.out), Lib.hid ((HB.out.alloc HB.out.size (.cells #[.int .i64 y] 3)).grown HG3.out (by simp; omega) (fun g hg => (HU.out.own.lt g hg).1))⟩
        case measure => simp [intOf]; omega
    · obtain rfl : i = n := by omega
      have hu := HU.out
      rw [List.take_of_length_le (by rw [HL.out]; omega)] at hu
      have HU2 := Lib.hid hu
      clear hu HU
      go_wp2
      go_ret
      exact ⟨_, rfl, HU2.out, HB.out⟩

set_option maxHeartbeats 1000000 in
theorem dput_any {w : World} {base r : Nat} {q : Option Nat} {s : GY.S} (h : Dl w base r q s) (hn : GY.num s ≤ 1000000) (x : Int) :
    Calls Try.prog 18 #[pv r, .int .i64 x] w (DlE base r q (GY.put s x) (.bool (decide (GY.col s x = 0))) w) := by
  obtain ⟨i0, hi0, hz0, hz1, hz2⟩ := info_parts infoZ
  have HC := Lib.hid (dcolor_any h hn x)
  have hnn : s.W.length ≤ 1000000 := by unfold GY.num at hn; omega
  by_cases hc : GY.col s x = 0
  · rw [GY.put_0 hc, decide_eq_true hc]
    rw [hc] at HC
    obtain ⟨u, v, h⟩ := h
    have c0 := h.c0
    have hlt := h.box.lt
    have hbs : base ≤ w.heap.size := Nat.le_trans h.lo (Nat.le_of_lt hlt)
    have HH := Lib.hid h
    clear hc h hn
    go_enter Try.func18, Try.ntmps18
    go_wp2_with fail
    refine HC.out.mono ?_
    rintro e w1 ⟨rfl, rfl⟩
    clear HC
    go_wp2_with (first
      | (at_builtin; refine wpList_append_own_at _ rfl _ _ 33 rfl base 3 i0 _ 1 8 Try.underlying33 hi0 hz0 hz1 hz2 rfl (by decide) u _ _ rfl (HH.out.wt.own.alloc _) ⟨w.heap.size, 0, none⟩ 1 1 [.int .i64 x] rfl rfl (cell_one_new _ _ _) (by simp [Value.oneCell']) (by unfold maxLen; omega) (by omega) (by simp; omega) ?_; intro v' w6 hown' hgrow _ hat; obtain ⟨e0, f0, HP⟩ := HH.out.push0 hown' hgrow (by simpa using hat); obtain ⟨A7, n7, c7, e7, _, _⟩ := (NewZ.snoc hown').op; subst e7; clear hown' hgrow hat))
    go_ret
    exact ⟨rfl, HP.out.1, HP.out.2⟩
  · rw [GY.put_no hc, decide_eq_false hc]
    have hc2 : ¬ ((GY.col s x : Nat) : Int) = 0 := by omega
    have HH := Lib.hid h
    obtain ⟨z, hz⟩ : ∃ z, z = ((GY.col s x : Nat) : Int) := ⟨_, rfl⟩
    rw [← hz] at hc2 HC
    clear hc h hn hz
    go_enter Try.func18, Try.ntmps18
    go_wp2_with fail
    refine HC.out.mono ?_
    rintro e w1 ⟨rfl, rfl⟩
    go_wp2
    go_ret
    exact ⟨rfl, HH.out, Dx.refl _ _ _⟩

set_option maxHeartbeats 2000000 in
theorem dagain_any {w : World} {base r : Nat} {q : Option Nat} {s : GY.S} (h : Dl w base r q s) (hn : GY.num s ≤ 1000000) (x : Int) :
    Calls Try.prog 19 #[pv r, .int .i64 x] w (DlE base r q (GY.again s x) (.bool (decide (GY.col s x = 2))) w) := by
  obtain ⟨i0, hi0, hz0, hz1, hz2⟩ := info_parts infoZ
  have HC := Lib.hid (dcolor_any h hn x)
  have hnn : s.W.length + s.D.length ≤ 1000000 := hn
  by_cases hc : GY.col s x = 2
  · rw [GY.again_2 hc, decide_eq_true hc]
    rw [hc] at HC
    obtain ⟨u, v, h⟩ := h
    have c1 := h.c1
    have hlt := h.box.lt
    have hbs : base ≤ w.heap.size := Nat.le_trans h.lo (Nat.le_of_lt hlt)
    obtain ⟨B, m, d, rfl, hl2, hz⟩ := h.dn.op
    have HO := Lib.hid (dout_any (c := d) hz (by omega) x)
    have hn3 : (⟨s.W, GY.out s.D x⟩ : GY.S).W.length ≤ 1000000 := by show s.W.length ≤ _; omega
    have HH := Lib.hid h
    clear hc h hn hz hl2 hnn
    go_enter Try.func19, Try.ntmps19
    go_wp2_with fail
    refine HC.out.mono ?_
    rintro e w1 ⟨rfl, rfl⟩
    clear HC
    go_wp2_with fail
    refine HO.out.mono ?_
    rintro e w2 ⟨v2, rfl, hv2, hb2⟩
    obtain ⟨A2, n2, c2, rfl, _, _⟩ := hv2.op
    obtain ⟨e1, f1, hd2, hx2⟩ := HH.out.new1 hb2 hv2
    obtain ⟨w3, hw3⟩ : ∃ w3, w3 = w2.setCell ⟨r, 1, none⟩ (.slice A2 n2 c2) := ⟨_, rfl⟩
    rw [← hw3] at hd2 hx2
    have HW3 := Lib.hid hw3.symm
    have e0 := hd2.c0
    have hbs3 : base ≤ w3.heap.size := Nat.le_trans hbs hx2.size
    have HD := Lib.hid hd2
    have HX := Lib.hid hx2
    clear HO hv2 hb2 hd2 hx2 hw3
    go_upto_region 5 with (fail)
    rw [HW3.out]
    go_wp2_with (first
      | (at_builtin; refine wpList_append_own_at _ rfl _ _ 33 rfl base 3 i0 _ 1 8 Try.underlying33 hi0 hz0 hz1 hz2 rfl (by decide) u _ _ rfl (HD.out.wt.own.alloc _) ⟨w3.heap.size, 0, none⟩ 1 1 [.int .i64 x] rfl rfl (cell_one_new _ _ _) (by simp [Value.oneCell']) (by show s.W.length + 1 ≤ _; unfold maxLen; omega) (by show (s.W.length + 1) * 8 ≤ _; omega) (by simp; omega) ?_; intro v' w6 hown' hgrow _ hat; obtain ⟨e2, f0, HP⟩ := HD.out.push0 hown' hgrow (by simpa using hat); obtain ⟨A7, n7, c7, e7, _, _⟩ := (NewZ.snoc hown').op; subst e7; clear hown' hgrow hat))
    go_ret
    exact ⟨rfl, HP.out.1, HX.out.trans HP.out.2⟩
  · rw [GY.again_no hc, decide_eq_false hc]
    have hc2 : ¬ ((GY.col s x : Nat) : Int) = 2 := by omega
    have HH := Lib.hid h
    obtain ⟨z, hz⟩ : ∃ z, z = ((GY.col s x : Nat) : Int) := ⟨_, rfl⟩
    rw [← hz] at hc2 HC
    clear hc h hn hz hnn
    go_enter Try.func19, Try.ntmps19
    go_wp2_with fail
    refine HC.out.mono ?_
    rintro e w1 ⟨rfl, rfl⟩
    go_wp2
    go_ret
    exact ⟨rfl, HH.out, Dx.refl _ _ _⟩

set_option maxHeartbeats 2000000 in
theorem dpaint_any {w : World} {base r : Nat} {q : Option Nat} {s : GY.S} (h : Dl w base r q s) (hn : GY.num s ≤ 1000000) (x : Int) :
    Calls Try.prog 21 #[pv r, .int .i64 x] w (DlE base r q (GY.paint s x) (.bool (decide (GY.col s x ≠ 2))) w) := by
  obtain ⟨i0, hi0, hz0, hz1, hz2⟩ := info_parts infoZ
  have HC := Lib.hid (dcolor_any h hn x)
  have hnn : s.W.length + s.D.length ≤ 1000000 := hn
  by_cases hc : GY.col s x = 2
  · rw [GY.paint_2 hc, decide_eq_false (fun k => k hc)]
    rw [hc] at HC
    have HH := Lib.hid h
    clear hc h hn hnn
    go_enter Try.func21, Try.ntmps21
    go_wp2_with fail
    refine HC.out.mono ?_
    rintro e w1 ⟨rfl, rfl⟩
    go_wp2
    go_ret
    exact ⟨rfl, HH.out, Dx.refl _ _ _⟩
  · rw [GY.paint_no hc, decide_eq_true hc]
    have hc2 : ¬ ((GY.col s x : Nat) : Int) = 2 := by omega
    obtain ⟨z, hz⟩ : ∃ z, z = ((GY.col s x : Nat) : Int) := ⟨_, rfl⟩
    rw [← hz] at hc2 HC
    obtain ⟨u, v, h⟩ := h
    have c0 := h.c0
    have hlt := h.box.lt
    have hbs : base ≤ w.heap.size := Nat.le_trans h.lo (Nat.le_of_lt hlt)
    obtain ⟨B, m, d, rfl, hl2, hzz⟩ := h.wt.op
    have HO := Lib.hid (dout_any (c := d) hzz (by omega) x)
    have hn3 : (⟨GY.out s.W x, s.D⟩ : GY.S).D.length ≤ 1000000 := by show s.D.length ≤ _; omega
    have HH := Lib.hid h
    clear hc h hn hzz hl2 hnn hz
    go_enter Try.func21, Try.ntmps21
    go_wp2_with fail
    refine HC.out.mono ?_
    rintro e w1 ⟨rfl, rfl⟩
    clear HC
    go_wp2_with fail
    refine HO.out.mono ?_
    rintro e w2 ⟨v2, rfl, hv2, hb2⟩
    obtain ⟨A2, n2, c2, rfl, _, _⟩ := hv2.op
    obtain ⟨e1, f1, hd2, hx2⟩ := HH.out.new0 hb2 hv2
    obtain ⟨w3, hw3⟩ : ∃ w3, w3 = w2.setCell ⟨r, 0, none⟩ (.slice A2 n2 c2) := ⟨_, rfl⟩
    rw [← hw3] at hd2 hx2
    have HW3 := Lib.hid hw3.symm
    have e0 := hd2.c1
    have hbs3 : base ≤ w3.heap.size := Nat.le_trans hbs hx2.size
    have HD := Lib.hid hd2
    have HX := Lib.hid hx2
    clear HO hv2 hb2 hd2 hx2 hw3
    go_upto_region 5 with (fail)
    rw [HW3.out]
    go_wp2_with (first
      | (at_builtin; refine wpList_append_own_at _ rfl _ _ 33 rfl base 3 i0 _ 1 8 Try.underlying33 hi0 hz0 hz1 hz2 rfl (by decide) v _ _ rfl (HD.out.dn.own.alloc _) ⟨w3.heap.size, 0, none⟩ 1 1 [.int .i64 x] rfl rfl (cell_one_new _ _ _) (by simp [Value.oneCell']) (by show s.D.length + 1 ≤ _; unfold maxLen; omega) (by show (s.D.length + 1) * 8 ≤ _; omega) (by simp; omega) ?_; intro v' w6 hown' hgrow _ hat; obtain ⟨e2, f0, HP⟩ := HD.out.push1 hown' hgrow (by simpa using hat); obtain ⟨A7, n7, c7, e7, _, _⟩ := (NewZ.snoc hown').op; subst e7; clear hown' hgrow hat))
    go_ret
    exact ⟨rfl, HP.out.1, HX.out.trans HP.out.2⟩

set_option maxHeartbeats 1000000 in
theorem dnext_any {w : World} {base r : Nat} {q : Option Nat} {s : GY.S} (h : Dl w base r q s) (g : GY.Good s) (hn : GY.num s ≤ 1000000) :
    Calls Try.prog 20 #[pv r] w (DlE base r q (GY.next s) (.tuple #[.int .i64 (GY.hd s), .bool (decide (s.W ≠ []))]) w) := by
  obtain ⟨W, D⟩ := s
  cases W with
  | nil =>
    rw [GY.next_nil rfl, GY.hd_nil rfl, decide_eq_false (show ¬ ((⟨[], D⟩ : GY.S).W ≠ []) by simp)]
    have HH := Lib.hid h
    obtain ⟨u, v, h⟩ := h
    have c0 := h.c0
    obtain ⟨B, m, d, rfl, hl2, hzz⟩ := h.wt.op
    obtain rfl : 0 = m := hl2
    clear h hzz hn
    go_enter Try.func20, Try.ntmps20
    go_wp2
    go_ret2
    exact ⟨rfl, HH.out, Dx.refl _ _ _⟩
  | cons x R =>
    have hP := dpaint_any h hn x
    rw [← GY.next_paint g rfl] at hP
    rw [GY.hd_cons rfl, decide_eq_true (show ((⟨x :: R, D⟩ : GY.S).W ≠ []) by simp)]
    have HP := Lib.hid hP
    obtain ⟨u, v, h⟩ := h
    have c0 := h.c0
    obtain ⟨B, m, d, rfl, hl2, hzz⟩ := h.wt.op
    obtain ⟨b, off, rfl, hb, hm, e0⟩ := hzz.get (k := 0) (x := x) rfl
    rw [Nat.add_zero] at e0
    have hm0 : ¬ (m : Int) = 0 := by omega
    clear h hzz hn hP hl2
    generalize decide (GY.col (⟨x :: R, D⟩ : GY.S) x ≠ 2) = y at HP
    go_enter Try.func20, Try.ntmps20
    go_wp2_with fail
    refine HP.out.mono ?_
    rintro e w2 ⟨rfl, h2⟩
    have H2 := Lib.hid h2
    clear h2
    go_wp2
    go_ret2
    exact ⟨rfl, H2.out⟩
end Go.Proofs.Ytomjaieplpjcpaa
