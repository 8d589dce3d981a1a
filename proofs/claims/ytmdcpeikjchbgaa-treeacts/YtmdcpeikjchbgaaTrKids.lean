/- Contracts of slices.Index, slices.Contains, Kids, Under. -/
import Derived.Test.YtmdcpeikjchbgaaTrMath
import Derived.Test.YtmdcpeikjchbgaaTrAll
import Derived.Maps.AppendAt
namespace Go.Proofs.Ytmdcpeikjchbgaa
open Go.RowKit Go.Maps

theorem trInfo : (Try.prog.info? 3).map (fun i => (i.zero, i.size, i.bytes)) = some (some (.int .i64 0), 1, 8) := by kernel_rfl

/-- A place that is told where a number stands, or less than 0. -/
def IxP (l : List Nat) (x : Int) (w : World) (e : Ending) (w' : World) : Prop := ∃ r : Int, e = .returned (.int .i64 r) ∧ decide (0 ≤ r) = decide (x ∈ TR.zs l) ∧ w = w'
set_option maxHeartbeats 1000000 in
theorem tindex_any {w : World} {base : Nat} {v : Value} {l : List Nat} (h : NewR base w v l) (hl : l.length ≤ 1000000) (x : Int) :
    Calls Try.prog 37 #[v, .int .i64 x] w (IxP l x w) := by
  obtain ⟨A, c, rfl, _⟩ := h.slice
  have H := Lib.hid h
  clear h
  go_enter Try.func37, Try.ntmps37
  go_wp2
  go_loop [8] (fun i => ∃ k : Nat, k ≤ l.length ∧ i = .int .i64 k ∧ x ∉ (TR.zs l).take k) (fun i => l.length - (intOf i).toNat)
  case atStart => exact ⟨0, Nat.zero_le _, rfl, by simp⟩
  case round =>
    obtain ⟨k, hk, rfl, hno⟩ := hrel
    by_cases hlt : k < l.length
    · obtain ⟨g, cap, e1, _, _, c1⟩ := H.out.cell hlt
      injection e1 with e1 _ e1'
      subst e1 e1'
      have HNO := Lib.hid hno
      obtain ⟨y, hy⟩ : ∃ y, y = l[k] := ⟨_, rfl⟩
      rw [← hy] at c1
      have HY := Lib.hid hy
      clear hno hy
      by_cases he : x = (y : Int)
      · subst he
        go_wp2
        go_ret
        refine ⟨_, rfl, ?_, rfl⟩
        have : ((y : Int)) ∈ TR.zs l := TR.zs_mem.2 (by rw [HY.out]; exact List.getElem_mem hlt)
        simp [this]
      · have d0 : (x == (y : Int)) = false := by simpa using he
        have HE := Lib.hid he
        clear he
        go_wp2
        go_round
        case rel =>
          refine ⟨k + 1, by omega, by go_num, fun hm => ?_⟩
          rw [List.take_succ_eq_append_getElem (by rw [TR.zs_len]; exact hlt), List.mem_append] at hm
          rcases hm with hm | hm
          · exact HNO.out hm
          · rw [List.mem_singleton, TR.zs_at, ← HY.out] at hm
            exact HE.out hm
        case measure => simp [intOf]; omega
    · obtain rfl : k = l.length := by omega
      have HNO := Lib.hid hno
      clear hno
      go_wp2
      go_ret
      refine ⟨_, rfl, ?_, rfl⟩
      have := HNO.out
      rw [List.take_of_length_le (by rw [TR.zs_len]; exact Nat.le_refl _)] at this
      simp [this]
theorem tcontains_any {w : World} {base : Nat} {v : Value} {l : List Nat} (h : NewR base w v l) (hl : l.length ≤ 1000000) (x : Int) :
    Calls Try.prog 28 #[v, .int .i64 x] w fun e w' => e = .returned (.bool (decide (x ∈ TR.zs l))) ∧ w = w' := by
  have H := Lib.hid (tindex_any h hl x)
  clear h
  generalize hd : decide (x ∈ TR.zs l) = d
  have HD := Lib.hid hd
  clear hd
  go_enter Try.func28, Try.ntmps28
  go_wp2_with fail
  refine H.out.mono ?_
  rintro e w1 ⟨r, rfl, hr, rfl⟩
  rw [HD.out] at hr
  go_wp2
  go_ret
  first
    | exact ⟨ret_bool hr, rfl⟩
    | exact ⟨rfl, rfl⟩

/-- What is left by a call that tells a new row of numbers, and an error. -/
def RowE (l : List Nat) (er : Int) (w : World) (e : Ending) (w' : World) : Prop := ∃ v, e = .returned (.tuple #[v, .int .i64 er]) ∧ NewR w.heap.size w' v l ∧ Below w.heap.size w w'

theorem NewR.snoc {w : World} {base : Nat} {v : Value} {l : List Nat} {y : Nat} (h : w.ownsRow base 3 1 v (l.length + 1) ((TR.zs l).map (Value.int .i64) ++ [.int .i64 (y : Nat)])) : NewR base w v (l ++ [y]) := by
  unfold NewR
  rw [TR.zs_snoc, List.map_append, List.length_append]
  exact h

section
variable {w : World} {b m n : Nat} {f : TR.F}
set_option maxHeartbeats 1000000 in
theorem tkids_ok (h : TrAt w b m n f) (x : Nat) (hx : x ≤ 1000000) (he : TR.mayErr f x = 0) : Calls Try.prog 11 #[.pointer (some ⟨b, 0, none⟩), .int .i64 (x : Int)] w (RowE (TR.kids n f x) 0 w) := by
  obtain ⟨i0, hi, hz0, hz1, hz2⟩ := info_parts trInfo
  have H1 := tmay_any h x (I64.nat hx)
  rw [he] at H1
  have HM := Lib.hid H1
  have HA := Lib.hid (tall_any h)
  have HT := Lib.hid h
  have hlen := TR.all_len n f
  have hn := h.few
  rw [TR.kids_all]
  generalize hal : TR.all n f = al at *
  have HAL := Lib.hid hal
  clear H1 h he hal
  go_enter Try.func11, Try.ntmps11
  go_wp2_with fail
  refine HM.out.mono ?_
  rintro e w1 ⟨rfl, rfl⟩
  go_wp2_with fail
  refine HA.out.mono ?_
  rintro e w1 ⟨v, rfl, hv, hb⟩
  obtain ⟨A, c, rfl, _⟩ := hv.slice
  have HV := Lib.hid hv
  have HB := Lib.hid hb
  have HT1 := Lib.hid (HT.out.below hb)
  clear hv hb HA HM
  go_wp2_with fail
  go_loopw [7, 19] (fun u i wr => ∃ k : Nat, k ≤ al.length ∧ i = .int .i64 k ∧ NewR w1.heap.size wr u ((al.take k).filter fun y => decide (f y = some x)) ∧ Below w1.heap.size w1 wr) (fun _ i _ => al.length - (intOf i).toNat)
  case atStart => exact ⟨0, Nat.zero_le _, rfl, NewR.nil _ _, Below.refl _ _⟩
  case round =>
    obtain ⟨k, hk, rfl, hu, hbw⟩ := hrel
    have ht := HT1.out.below hbw
    have hvr := HV.out.below hbw
    have hs := hbw.size
    by_cases hlt : k < al.length
    · obtain ⟨g, cap, e1, _, _, c1⟩ := hvr.cell hlt
      injection e1 with e1 _ e1'
      subst e1 e1'
      obtain ⟨p, hp⟩ := TR.all_at (n := n) (f := f) (k := k) (by rw [HAL.out]; exact hlt)
      simp only [HAL.out] at hp
      have hyn := (ht.good.le _ p hp).2
      obtain ⟨y, hy⟩ : ∃ y, y = al[k] := ⟨_, rfl⟩
      rw [← hy] at c1 hp hyn
      have HY := Lib.hid hy
      have hlk := ht.map.look (by omega) hp
      have c0 := ht.c0
      have HP := Lib.hid hp
      have hul := TR.filter_take_len al k fun y => decide (f y = some x)
      by_cases hpx : p = x
      · subst hpx
        have hst := TR.filter_take_yes (q := fun y => decide (f y = some p)) hlt (by rw [← hy]; simp [hp])
        rw [← hy] at hst
        have HST := Lib.hid hst
        clear hst hp hy ht hvr hyn
        generalize ((al.take k).filter fun y => decide (f y = some p)) = L at *
        have HU := Lib.hid hu.own
        have HUB := Lib.hid hu.lt
        clear hu
        go_wp2_with (first
          | (at_builtin; refine wpList_append_own _ rfl _ _ 27 rfl w1.heap.size 3 i0 _ 1 8 Try.underlying27 hi hz0 hz1 hz2 rfl (by decide) _ _ _ rfl (HU.out.alloc _) ⟨wr.heap.size, 0, none⟩ 1 1 [.int .i64 (y : Nat)] rfl rfl (cell_one_new _ _ _) (by simp [Value.oneCell']) (by unfold maxLen; omega) (by omega) (by simp; omega) ?_; intro v' w2 hown' hgrow _; have HO2 := Lib.hid hown'; have HG := Lib.hid hgrow; clear hown' hgrow))
        go_roundw
        case rel => exact ⟨k + 1, by omega, by go_num, by rw [HST.out]; exact NewR.snoc HO2.out, (hbw.alloc hs _).grown HG.out (by simp; omega) (fun g hg => (HUB.out g hg).1)⟩
        case measure => simp [intOf]; omega
      · have d0 : ((p : Int) == (x : Int)) = false := by simp; omega
        have hst := TR.filter_take_no (q := fun y => decide (f y = some x)) hlt (by rw [← hy]; simp [hp, hpx])
        have HST := Lib.hid hst
        have HU := Lib.hid hu
        clear hst hp hy ht hvr hyn hu hpx
        go_wp2
        go_roundw
        case rel => exact ⟨k + 1, by omega, by go_num, by rw [HST.out]; exact HU.out, hbw⟩
        case measure => simp [intOf]; omega
    · obtain rfl : k = al.length := by omega
      rw [List.take_length] at hu
      have HU := Lib.hid hu
      clear hu hvr ht
      go_wp2
      go_ret2
      exact ⟨_, rfl, HU.out.less HB.out.size, HB.out.trans (hbw.mono HB.out.size)⟩

set_option maxHeartbeats 1000000 in
theorem tunder_ok (h : TrAt w b m n f) (x q : Nat) (hq : f x = some q) : Calls Try.prog 12 #[.pointer (some ⟨b, 0, none⟩), .int .i64 (x : Int)] w (RowE (TR.under n f x) 0 w) := by
  obtain ⟨i0, hi, hz0, hz1, hz2⟩ := info_parts trInfo
  have hn := h.few
  have hx := h.good.le x q hq
  have H1 := tisLive_any h x (I64.nat (by omega))
  rw [TR.liveErr_ok (by rw [TR.liveI_nat]; exact TR.live_iff.2 ⟨q, hq⟩)] at H1
  have HM := Lib.hid H1
  have b0 := (Below.refl w.heap.size w).alloc (Nat.le_refl _) (.cells #[.int .i64 (x : Int)] 3)
  have HB0 := Lib.hid b0
  have h0 := h.below b0
  have HA := Lib.hid (tall_any h0)
  have HT := Lib.hid h0
  have hlen := TR.all_len n f
  have hend := TR.uTo_end h.good hq
  rw [← hend]
  have HQ := Lib.hid hq
  have hbl := Lib.hid (And.intro h.box.lt h.map.lt)
  generalize hal : (TR.all n f).length = al at *
  have HAL := Lib.hid hal
  clear H1 h hal hend b0 h0 hq hx
  go_enter Try.func12, Try.ntmps12
  go_wp2_with fail
  refine HM.out.mono ?_
  rintro e w1 ⟨rfl, rfl⟩
  go_wp2_with fail
  refine HA.out.mono ?_
  rintro e w1 ⟨v, rfl, hv, hb⟩
  obtain ⟨A, c, rfl, _⟩ := hv.slice
  rw [HAL.out]
  have HV := Lib.hid hv
  have HB := Lib.hid hb
  have HT1 := Lib.hid (HT.out.below hb)
  have hs1 : w.heap.size + 1 ≤ w1.heap.size := by have := hb.size; simpa using this
  have hw0 : Whole w1 w.heap.size 3 #[.int .i64 (x : Int)] := (hb.block w.heap.size (by simp)).trans (Whole.fresh w _ _)
  have HW0 := Lib.hid hw0
  clear hv hb HA HM hw0
  go_wp2_with fail
  go_loopw [7, 21] (fun u i wr => ∃ k : Nat, k ≤ al ∧ i = .int .i64 k ∧ NewR w.heap.size wr u (TR.uTo n f x k) ∧ Aft [w.heap.size] w1 wr ∧ (∀ g, u.ownBlock = some g → g = w.heap.size ∨ w1.heap.size ≤ g)) (fun _ i _ => al - (intOf i).toNat)
  case atStart =>
    refine ⟨0, Nat.zero_le _, rfl, ?_, Aft.refl _ _, fun g hg => ?_⟩
    · rw [TR.uTo_start]
      refine ⟨by simp [TR.zs], .inr ⟨w.heap.size, 1, _, rfl, Nat.le_refl _, HW0.out, by simp, by unfold maxLen; omega, by simp, by simp [TR.zs]⟩⟩
    · simp [Value.ownBlock] at hg
      exact .inl hg.symm
  case round =>
    obtain ⟨k, hk, rfl, hu, hbw, hub⟩ := hrel
    have ht := HT1.out.aft hbw (by have := hbl.out; simp; omega) (by have := hbl.out; simp; omega)
    have hvr : NewR (w.alloc (.cells #[.int .i64 (x : Int)] 3)).heap.size wr (.slice A (TR.all n f).length c) (TR.all n f) := HV.out.keep fun g hg ⟨_, hw⟩ => hbw.block g hw.lt (by have := (HV.out.lt g hg).1; simp at this ⊢; omega)
    have hs := hbw.size
    by_cases hlt : k < al
    · have hlt' : k < (TR.all n f).length := by rw [HAL.out]; exact hlt
      obtain ⟨g, cap, e1, _, _, c1⟩ := hvr.cell hlt'
      injection e1 with e1 _ e1'
      subst e1 e1'
      obtain ⟨p, hp⟩ := TR.all_at hlt'
      obtain ⟨y, hy⟩ : ∃ y, (TR.all n f)[k] = y := ⟨_, rfl⟩
      rw [hy] at c1 hp
      have hyn := (ht.good.le _ p hp).2
      have hlk := ht.map.look (by omega) hp
      have c0 := ht.c0
      have hmem := TR.uTo_mem ht.good HQ.out hlt' hy hp
      have hul := TR.uTo_len n f x k
      have hC := tcontains_any hu (by omega) (p : Int)
      have HVR := Lib.hid hvr
      by_cases hin : y ≠ x ∧ TR.below f x y = true
      · rw [show decide ((p : Int) ∈ TR.zs (TR.uTo n f x k)) = true from decide_eq_true (TR.zs_mem.2 (hmem.2 hin))] at hC
        have HC := Lib.hid hC
        have HST := Lib.hid (TR.uTo_yes hlt' hy hin)
        obtain ⟨Au, cu, rfl, _⟩ := hu.slice
        clear hmem hin hC hp hy ht hvr
        generalize TR.uTo n f x k = L at *
        have HU := Lib.hid hu.own
        have HUB := Lib.hid hub
        clear hu hub
        go_wp2_with fail
        refine HC.out.mono ?_
        rintro e w2 ⟨rfl, rfl⟩
        go_wp2_with (first
          | (at_builtin; refine wpList_append_own_at _ rfl _ _ 27 rfl w.heap.size 3 i0 _ 1 8 Try.underlying27 hi hz0 hz1 hz2 rfl (by decide) _ _ _ rfl (HU.out.alloc _) ⟨wr.heap.size, 0, none⟩ 1 1 [.int .i64 (y : Nat)] rfl rfl (cell_one_new _ _ _) (by simp [Value.oneCell']) (by unfold maxLen; omega) (by omega) (by simp; omega) ?_; intro v' w2 hown' hgrow _ hat; have HO2 := Lib.hid hown'; have HG := Lib.hid hgrow; have HAT := Lib.hid hat; clear hown' hgrow hat))
        go_roundw
        case rel =>
          refine ⟨k + 1, by omega, by go_num, by rw [HST.out]; exact NewR.snoc HO2.out, ?_, fun g hg => ?_⟩
          · have h1 := (hbw.alloc (.cells #[.int .i64 (y : Int)] 3))
            have h2 := HG.out
            refine ⟨h2.os.trans h1.os, h2.tape.trans h1.tape, h2.output.trans h1.output, Nat.le_trans h1.size h2.size, fun j hj hjs => (h2.block j (by simp; omega) fun e => ?_).trans (h1.block j hj hjs)⟩
            have := HUB.out j e.symm
            simp at hjs
            omega
          · rcases HAT.out with e | e
            · exact HUB.out g (e ▸ hg)
            · rw [e] at hg
              injection hg with hg
              right
              simp at hg
              omega
        case measure => simp [intOf]; omega
      · rw [show decide ((p : Int) ∈ TR.zs (TR.uTo n f x k)) = false from decide_eq_false fun hm => hin (hmem.1 (TR.zs_mem.1 hm))] at hC
        have HC := Lib.hid hC
        have HST := Lib.hid (TR.uTo_no hlt' hy hin)
        have HU := Lib.hid hu
        have HUB := Lib.hid hub
        clear hmem hin hC hp hy ht hvr hu hub
        go_wp2_with fail
        refine HC.out.mono ?_
        rintro e w2 ⟨rfl, rfl⟩
        go_wp2
        go_roundw
        case rel => exact ⟨k + 1, by omega, by go_num, by rw [HST.out]; exact HU.out, hbw, HUB.out⟩
        case measure => simp [intOf]; omega
    · obtain rfl : k = al := by omega
      have HU := Lib.hid hu
      clear hu hvr ht hub
      go_wp2
      go_ret2
      refine ⟨_, rfl, HU.out, ?_⟩
      have h1 : Below w.heap.size w w1 := HB0.out.trans (HB.out.mono (by simp))
      exact h1.trans (hbw.below (by simp) (by omega))
end
end Go.Proofs.Ytmdcpeikjchbgaa
