/- The document's trees: a box with a list of parents. Contracts of New, Live, All, Kids, below, Under, Same. -/
import Derived.Test.YtmdcpeikjchbgaaTrKids
import Derived.StillTailTactics
namespace Go.Proofs.Ytmdcpeikjchbgaa
open Go.RowKit Go.Maps

namespace TR
/-- A parent as the list has it. -/
def pI (f : F) (i : Nat) : Int := match f i with | some p => (p : Int) | none => -1
def pz (n : Nat) (f : F) : List Int := (List.range (n + 1)).map (pI f)
theorem pz_len (n : Nat) (f : F) : (pz n f).length = n + 1 := by simp [pz]
theorem pz_get (n : Nat) (f : F) {k : Nat} (h : k < n + 1) : (pz n f)[k]? = some (pI f k) := by simp [pz, h]
theorem pI_some {f : F} {i p : Nat} (h : f i = some p) : pI f i = p := by unfold pI; rw [h]
theorem pI_none {f : F} {i : Nat} (h : f i = none) : pI f i = -1 := by unfold pI; rw [h]
theorem pI_live (f : F) (i : Nat) : decide (0 ≤ pI f i) = live f i := by
  unfold live
  cases h : f i with
  | none => rw [pI_none h]; rfl
  | some p => rw [pI_some h]; simp
theorem pI_eq (f : F) (i x : Nat) : (pI f i = (x : Int)) ↔ f i = some x := by
  cases h : f i with
  | none => rw [pI_none h]; simp <;> omega
  | some p => rw [pI_some h]; simp <;> omega
theorem pI_wf {n : Nat} {f : F} (h : Good n f) (i : Nat) : pI f i < i ∨ pI f i = -1 := by
  cases e : f i with
  | none => exact .inr (pI_none e)
  | some p => rw [pI_some e]; have := (h.le i p e).2.2; omega
theorem pI_lo (f : F) (i : Nat) : -1 ≤ pI f i := by
  cases e : f i with
  | none => rw [pI_none e]; omega
  | some p => rw [pI_some e]; omega
theorem pI_hi {n : Nat} {f : F} (h : Good n f) (i : Nat) (hi : i ≤ n) : pI f i ≤ n := by
  have := pI_wf h i
  omega
theorem filter_range_yes {q : Nat → Bool} {k : Nat} (h : q k = true) : (List.range (k + 1)).filter q = (List.range k).filter q ++ [k] := by rw [List.range_succ, List.filter_append]; simp [h]
theorem filter_range_no {q : Nat → Bool} {k : Nat} (h : q k = false) : (List.range (k + 1)).filter q = (List.range k).filter q := by rw [List.range_succ, List.filter_append]; simp [h]
theorem filter_range_len (q : Nat → Bool) (k : Nat) : ((List.range k).filter q).length ≤ k := by
  have := List.length_filter_le q (List.range k)
  rwa [List.length_range] at this
def belowI (f : F) (x : Nat) (z : Int) : Bool := decide (0 < z) && below f x z.toNat
end TR

/-- A tree of the document's: its box r, its list in block g. -/
structure RtP (w : World) (r g n : Nat) (f : TR.F) : Prop where
  box : ∃ v, Whole w r 40 #[v] ∧ Row 3 (Value.int .i64) w g v (TR.pz n f)
structure RtAt (w : World) (r g n : Nat) (f : TR.F) : Prop extends RtP w r g n f where
  good : TR.Good n f
  few : n ≤ 100000
section
variable {w w' : World} {r g n : Nat} {f : TR.F} {S : List Nat}
theorem RtP.aft (h : RtP w r g n f) (k : Aft S w w') (hr : r ∉ S) (hg : g ∉ S) : RtP w' r g n f := by
  obtain ⟨v, h1, h2⟩ := h.box
  exact ⟨v, k.whole h1 hr, h2.aft k hg⟩
theorem RtAt.aft (h : RtAt w r g n f) (k : Aft S w w') (hr : r ∉ S) (hg : g ∉ S) : RtAt w' r g n f := ⟨h.toRtP.aft k hr hg, h.good, h.few⟩
theorem RtAt.below (h : RtAt w r g n f) (k : Below w.heap.size w w') : RtAt w' r g n f := h.aft (Aft.of_below (S := []) k) (by simp) (by simp)
theorem RtP.rd (h : RtP w r g n f) : ∃ cap, w.cell? ⟨r, 0, none⟩ = some (.slice (some ⟨g, 0, none⟩) (n + 1) cap) ∧ n + 1 ≤ cap ∧ g < w.heap.size ∧ r < w.heap.size ∧ r ≠ g ∧ ∀ i, i ≤ n → w.cell? ⟨g, i, none⟩ = some (.int .i64 (TR.pI f i)) := by
  obtain ⟨v, h1, h2⟩ := h.box
  rcases h2.form with ⟨rfl, e⟩ | ⟨cap, cur, rfl, hh, hn, hm, hs, hc⟩
  · have := TR.pz_len n f
    rw [e] at this
    cases this
  · rw [TR.pz_len] at hn hc h1
    refine ⟨cap, by rw [h1.cell]; rfl, hn, hh.lt, h1.lt, fun e => ?_, fun i hi => ?_⟩
    · subst e
      unfold Whole at h1 hh
      rw [hh] at h1
      injection h1 with h1
      injection h1 with _ h1
      exact absurd h1 (by decide)
    · rw [hh.cell, hc i (by omega), List.getElem?_map, TR.pz_get n f (by omega)]
      rfl
end

theorem rtnew_good : TR.pz 0 (fun _ => none) = [-1] := by decide
/-- What the document's New leaves. -/
def RnewPost (w : World) (e : Ending) (w' : World) : Prop :=
  ∃ r g, e = .returned (.pointer (some ⟨r, 0, none⟩)) ∧ RtAt w' r g 0 (fun _ => none) ∧ w.heap.size ≤ r ∧ w.heap.size ≤ g ∧ Below w.heap.size w w'
theorem rtnew_any (w : World) : Calls Try.prog 19 #[] w (RnewPost w) := by
  go_enter Try.func19, Try.ntmps19
  go_wp2
  go_ret
  have hw := (Whole.fresh w 3 #[.int .i64 (-1)]).alloc (.cells #[.slice (some ⟨w.heap.size, 0, none⟩) 1 1] 40)
  have hb : Whole ((w.alloc (.cells #[.int .i64 (-1)] 3)).alloc (.cells #[.slice (some ⟨w.heap.size, 0, none⟩) 1 1] 40)) (w.heap.size + 1) 40 #[.slice (some ⟨w.heap.size, 0, none⟩) 1 1] := Whole.fresh' (by simp)
  refine ⟨w.heap.size + 1, w.heap.size, by simp, ⟨⟨_, hb, ?_⟩, TR.good_empty, by omega⟩, by omega, Nat.le_refl _, ((Below.refl _ _).alloc (Nat.le_refl _) _).alloc (by simp) _⟩
  rw [rtnew_good]
  exact Row.mk' (l := [-1]) hw (by simp) (by unfold maxLen; omega) (by simp) (fun j hj => by
    have : j = 0 := by simpa using hj
    subst this
    rfl)

section
variable {w : World} {r g n : Nat} {f : TR.F}
theorem rtlive_any (h : RtAt w r g n f) (x : Int) : Calls Try.prog 30 #[.pointer (some ⟨r, 0, none⟩), .int .i64 x] w fun e w' => e = .returned (.bool (TR.liveI f x)) ∧ w = w' := by
  obtain ⟨cap, c0, _, hg, hr, hne, hc⟩ := h.rd
  have hn := h.few
  by_cases h0 : 0 < x
  · by_cases h1 : x < (n : Int) + 1
    · obtain ⟨i, rfl⟩ : ∃ i : Nat, x = i := ⟨x.toNat, by omega⟩
      have hcc := hc i (by omega)
      rw [TR.liveI_nat, ← TR.pI_live]
      generalize TR.pI f i = z at hcc ⊢
      clear hc h
      go_enter Try.func30, Try.ntmps30
      go_wp2
      go_ret
      exact ⟨rfl, rfl⟩
    · have hl : TR.liveI f x = false := by
        cases hl : TR.liveI f x
        · rfl
        · obtain ⟨i, p, rfl, hp⟩ := TR.liveI_iff.1 hl
          have := (h.good.le i p hp).2.1
          omega
      rw [hl]
      clear hc h hl
      go_enter Try.func30, Try.ntmps30
      go_wp2
      go_ret
      exact ⟨rfl, rfl⟩
  · have hl : TR.liveI f x = false := by
      cases hl : TR.liveI f x
      · rfl
      · obtain ⟨i, p, rfl, hp⟩ := TR.liveI_iff.1 hl
        have := (h.good.le i p hp).1
        omega
    rw [hl]
    clear hc h hl
    go_enter Try.func30, Try.ntmps30
    go_wp2
    go_ret
    exact ⟨rfl, rfl⟩
set_option maxHeartbeats 1000000 in
theorem rtall_any (h : RtAt w r g n f) : Calls Try.prog 22 #[.pointer (some ⟨r, 0, none⟩)] w (RowP (TR.all n f) w) := by
  obtain ⟨i0, hi, hz0, hz1, hz2⟩ := info_parts trInfo
  have HT := Lib.hid h
  have hn := h.few
  have h00 := TR.live_not.2 h.good.zero
  have HZ := Lib.hid (TR.filter_range_no (k := 0) h00)
  clear h h00
  go_enter Try.func22, Try.ntmps22
  go_wp2
  go_loopw [3, 4] (fun u i wr => ∃ k : Nat, 1 ≤ k ∧ k ≤ n + 1 ∧ i = .int .i64 k ∧ NewR w.heap.size wr u ((List.range k).filter (TR.live f)) ∧ Below w.heap.size w wr) (fun _ i _ => n + 1 - (intOf i).toNat)
  case atStart => exact ⟨1, Nat.le_refl _, by omega, rfl, by rw [HZ.out]; exact NewR.nil _ _, Below.refl _ _⟩
  case round =>
    obtain ⟨k, hk1, hk, rfl, hu, hbw⟩ := hrel
    have ht := HT.out.below hbw
    obtain ⟨cap, c0, _, hg, hr, hne, hc⟩ := ht.rd
    have hs := hbw.size
    by_cases hlt : k < n + 1
    · have hcc := hc k (by omega)
      have hul := TR.filter_range_len (TR.live f) k
      have hli := TR.pI_live f k
      cases hf : TR.live f k
      · rw [hf] at hli
        have hst := TR.filter_range_no hf
        have HST := Lib.hid hst
        have HU := Lib.hid hu
        have d0 := of_decide_eq_false hli
        clear hst hu ht hc hf hli
        generalize TR.pI f k = z at *
        go_wp2
        go_roundw
        case rel => exact ⟨k + 1, by omega, by omega, by go_num, by rw [HST.out]; exact HU.out, hbw⟩
        case measure => simp [intOf]; omega
      · rw [hf] at hli
        have hst := TR.filter_range_yes hf
        have HST := Lib.hid hst
        have d0 := of_decide_eq_true hli
        clear hst ht hc hf hli
        generalize TR.pI f k = z at *
        generalize (List.range k).filter (TR.live f) = L at *
        have HU := Lib.hid hu.own
        have HUB := Lib.hid hu.lt
        clear hu
        go_wp2_with (first
          | (at_builtin; refine wpList_append_own _ rfl _ _ 27 rfl w.heap.size 3 i0 _ 1 8 Try.underlying27 hi hz0 hz1 hz2 rfl (by decide) _ _ _ rfl (HU.out.alloc _) ⟨wr.heap.size, 0, none⟩ 1 1 [.int .i64 (k : Nat)] rfl rfl (cell_one_new _ _ _) (by simp [Value.oneCell']) (by unfold maxLen; omega) (by omega) (by simp; omega) ?_; intro v' w2 hown' hgrow _; have HO2 := Lib.hid hown'; have HG := Lib.hid hgrow; clear hown' hgrow))
        go_roundw
        case rel => exact ⟨k + 1, by omega, by omega, by go_num, by rw [HST.out]; exact NewR.snoc HO2.out, (hbw.alloc hs _).grown HG.out (by simp; omega) (fun g hg => (HUB.out g hg).1)⟩
        case measure => simp [intOf]; omega
    · obtain rfl : k = n + 1 := by omega
      have HU := Lib.hid hu
      clear hu ht hc
      go_wp2
      go_ret
      exact ⟨_, rfl, HU.out, hbw⟩
set_option maxHeartbeats 1000000 in
theorem rtkids_any (h : RtAt w r g n f) (x : Nat) : Calls Try.prog 33 #[.pointer (some ⟨r, 0, none⟩), .int .i64 (x : Int)] w (RowP (TR.kids n f x) w) := by
  obtain ⟨i0, hi, hz0, hz1, hz2⟩ := info_parts trInfo
  have HT := Lib.hid h
  have hn := h.few
  have HZ := Lib.hid (TR.filter_range_no (q := fun i => decide (f i = some x)) (k := 0) (by rw [h.good.zero]; rfl))
  clear h
  go_enter Try.func33, Try.ntmps33
  go_wp2
  go_loopw [5, 6] (fun u i wr => ∃ k : Nat, 1 ≤ k ∧ k ≤ n + 1 ∧ i = .int .i64 k ∧ NewR w.heap.size wr u ((List.range k).filter fun i => decide (f i = some x)) ∧ Below w.heap.size w wr) (fun _ i _ => n + 1 - (intOf i).toNat)
  case atStart => exact ⟨1, Nat.le_refl _, by omega, rfl, by rw [HZ.out]; exact NewR.nil _ _, Below.refl _ _⟩
  case round =>
    obtain ⟨k, hk1, hk, rfl, hu, hbw⟩ := hrel
    have ht := HT.out.below hbw
    obtain ⟨cap, c0, _, hg, hr, hne, hc⟩ := ht.rd
    have hs := hbw.size
    by_cases hlt : k < n + 1
    · have hcc := hc k (by omega)
      have hul := TR.filter_range_len (fun i => decide (f i = some x)) k
      have hli := TR.pI_eq f k x
      by_cases hf : f k = some x
      · have hst := TR.filter_range_yes (q := fun i => decide (f i = some x)) (k := k) (by simp [hf])
        have HST := Lib.hid hst
        have d0 : (TR.pI f k == (x : Int)) = true := by simpa using hli.2 hf
        clear hst ht hc hf hli
        generalize TR.pI f k = z at *
        generalize (List.range k).filter (fun i => decide (f i = some x)) = L at *
        have HU := Lib.hid hu.own
        have HUB := Lib.hid hu.lt
        clear hu
        go_wp2_with (first
          | (at_builtin; refine wpList_append_own _ rfl _ _ 27 rfl w.heap.size 3 i0 _ 1 8 Try.underlying27 hi hz0 hz1 hz2 rfl (by decide) _ _ _ rfl (HU.out.alloc _) ⟨wr.heap.size, 0, none⟩ 1 1 [.int .i64 (k : Nat)] rfl rfl (cell_one_new _ _ _) (by simp [Value.oneCell']) (by unfold maxLen; omega) (by omega) (by simp; omega) ?_; intro v' w2 hown' hgrow _; have HO2 := Lib.hid hown'; have HG := Lib.hid hgrow; clear hown' hgrow))
        go_roundw
        case rel => exact ⟨k + 1, by omega, by omega, by go_num, by rw [HST.out]; exact NewR.snoc HO2.out, (hbw.alloc hs _).grown HG.out (by simp; omega) (fun g hg => (HUB.out g hg).1)⟩
        case measure => simp [intOf]; omega
      · have hst := TR.filter_range_no (q := fun i => decide (f i = some x)) (k := k) (by simp [hf])
        have HST := Lib.hid hst
        have HU := Lib.hid hu
        have d0 : (TR.pI f k == (x : Int)) = false := by simpa using fun e => hf (hli.1 e)
        clear hst hu ht hc hf hli
        generalize TR.pI f k = z at *
        go_wp2
        go_roundw
        case rel => exact ⟨k + 1, by omega, by omega, by go_num, by rw [HST.out]; exact HU.out, hbw⟩
        case measure => simp [intOf]; omega
    · obtain rfl : k = n + 1 := by omega
      have HU := Lib.hid hu
      clear hu ht hc
      go_wp2
      go_ret
      exact ⟨_, rfl, HU.out, hbw⟩
set_option maxHeartbeats 1000000 in
theorem rtbelow_any (h : RtAt w r g n f) (i x : Nat) (hi : i ≤ n) : Calls Try.prog 38 #[.pointer (some ⟨r, 0, none⟩), .int .i64 (i : Int), .int .i64 (x : Int)] w fun e w' => e = .returned (.bool (TR.below f x i)) ∧ w = w' := by
  obtain ⟨cap, c0, _, hg, hr, hne, hc⟩ := h.rd
  have hn := h.few
  have HG := Lib.hid h.good
  have HC := Lib.hid hc
  have hst : TR.belowI f x i = TR.below f x i := by
    unfold TR.belowI
    by_cases e : i = 0
    · subst e; rw [TR.below_zero]; rfl
    · rw [Int.toNat_natCast]; simp; omega
  have HS := Lib.hid hst
  clear h hc hst
  generalize TR.below f x i = d at *
  go_enter Try.func38, Try.ntmps38
  go_wp2
  go_loop [1] (fun u => ∃ z : Int, -1 ≤ z ∧ z ≤ n ∧ u = .int .i64 z ∧ TR.belowI f x z = d) (fun u => (intOf u + 1).toNat)
  case atStart => exact ⟨i, by omega, by omega, rfl, HS.out⟩
  case round =>
    obtain ⟨z, hz1, hz2, rfl, hb⟩ := hrel
    by_cases hp : 0 < z
    · obtain ⟨j, rfl⟩ : ∃ j : Nat, z = j := ⟨z.toNat, by omega⟩
      have hcc := HC.out j (by omega)
      have hlo := TR.pI_lo f j
      have hwf := TR.pI_wf HG.out j
      have hhi := TR.pI_hi HG.out j (by omega)
      by_cases hjx : j = x
      · subst hjx
        have hd : d = true := by
          rw [← hb]
          unfold TR.belowI
          rw [Int.toNat_natCast, TR.below_self (by omega)]
          simpa using hp
        subst hd
        have d0 : ((j : Int) == (j : Int)) = true := by simp
        clear hb hcc hlo hwf hhi
        go_wp2
        go_ret
        exact ⟨rfl, rfl⟩
      · have d0 : ((j : Int) == (x : Int)) = false := by simp; omega
        have hnx : TR.belowI f x (TR.pI f j) = d := by
          rw [← hb]
          unfold TR.belowI
          rw [Int.toNat_natCast]
          cases e : f j with
          | none =>
            rw [TR.pI_none e, TR.below_dead e hjx]
            simp
          | some p =>
            rw [TR.pI_some e, TR.below_step HG.out e hjx, Int.toNat_natCast]
            by_cases e2 : p = 0
            · subst e2; rw [TR.below_zero]; simp
            · rw [decide_eq_true (show 0 < (p : Int) by omega), decide_eq_true hp]
        have HNX := Lib.hid hnx
        clear hb hnx
        generalize TR.pI f j = z2 at *
        go_wp2
        go_round
        case rel => exact ⟨z2, by omega, by omega, rfl, HNX.out⟩
        case measure => simp [intOf]; omega
    · have hd : d = false := by
        rw [← hb]
        unfold TR.belowI
        simp [hp]
      subst hd
      clear hb
      go_wp2
      go_ret
      exact ⟨rfl, rfl⟩
set_option maxHeartbeats 1000000 in
theorem rtunder_any (h : RtAt w r g n f) (x : Nat) : Calls Try.prog 34 #[.pointer (some ⟨r, 0, none⟩), .int .i64 (x : Int)] w (RowP (TR.under n f x) w) := by
  obtain ⟨i0, hi, hz0, hz1, hz2⟩ := info_parts trInfo
  have HT := Lib.hid h
  have hn := h.few
  have HZ := Lib.hid (TR.filter_range_no (q := fun i => TR.live f i && TR.below f x i) (k := 0) (by rw [TR.live_not.2 h.good.zero]; rfl))
  clear h
  go_enter Try.func34, Try.ntmps34
  go_wp2
  go_loopw [5, 6] (fun u i wr => ∃ k : Nat, 1 ≤ k ∧ k ≤ n + 1 ∧ i = .int .i64 k ∧ NewR w.heap.size wr u ((List.range k).filter fun i => TR.live f i && TR.below f x i) ∧ Below w.heap.size w wr) (fun _ i _ => n + 1 - (intOf i).toNat)
  case atStart => exact ⟨1, Nat.le_refl _, by omega, rfl, by rw [HZ.out]; exact NewR.nil _ _, Below.refl _ _⟩
  case round =>
    obtain ⟨k, hk1, hk, rfl, hu, hbw⟩ := hrel
    have ht := HT.out.below hbw
    obtain ⟨cap, c0, _, hg, hr, hne, hc⟩ := ht.rd
    have hs := hbw.size
    by_cases hlt : k < n + 1
    · have hcc := hc k (by omega)
      have hul := TR.filter_range_len (fun i => TR.live f i && TR.below f x i) k
      have hli := TR.pI_live f k
      cases hf : TR.live f k
      · rw [hf] at hli
        have HST := Lib.hid (TR.filter_range_no (q := fun i => TR.live f i && TR.below f x i) (k := k) (by simp [hf]))
        have HU := Lib.hid hu
        have d0 := of_decide_eq_false hli
        clear hu ht hc hf hli
        generalize TR.pI f k = z at *
        go_wp2
        go_roundw
        case rel => exact ⟨k + 1, by omega, by omega, by go_num, by rw [HST.out]; exact HU.out, hbw⟩
        case measure => simp [intOf]; omega
      · rw [hf] at hli
        have d0 := of_decide_eq_true hli
        have HB := Lib.hid (rtbelow_any ht k x (by omega))
        cases hb : TR.below f x k
        · rw [hb] at HB
          have HST := Lib.hid (TR.filter_range_no (q := fun i => TR.live f i && TR.below f x i) (k := k) (by simp [hb]))
          have HU := Lib.hid hu
          clear hu ht hc hf hli hb
          generalize TR.pI f k = z at *
          go_wp2_with fail
          refine HB.out.mono ?_
          rintro e w2 ⟨rfl, rfl⟩
          go_wp2
          go_roundw
          case rel => exact ⟨k + 1, by omega, by omega, by go_num, by rw [HST.out]; exact HU.out, hbw⟩
          case measure => simp [intOf]; omega
        · rw [hb] at HB
          have HST := Lib.hid (TR.filter_range_yes (q := fun i => TR.live f i && TR.below f x i) (k := k) (by simp [hb, hf]))
          clear ht hc hf hli hb
          generalize TR.pI f k = z at *
          generalize (List.range k).filter (fun i => TR.live f i && TR.below f x i) = L at *
          have HU := Lib.hid hu.own
          have HUB := Lib.hid hu.lt
          clear hu
          go_wp2_with fail
          refine HB.out.mono ?_
          rintro e w2 ⟨rfl, rfl⟩
          go_wp2_with (first
            | (at_builtin; refine wpList_append_own _ rfl _ _ 27 rfl w.heap.size 3 i0 _ 1 8 Try.underlying27 hi hz0 hz1 hz2 rfl (by decide) _ _ _ rfl (HU.out.alloc _) ⟨wr.heap.size, 0, none⟩ 1 1 [.int .i64 (k : Nat)] rfl rfl (cell_one_new _ _ _) (by simp [Value.oneCell']) (by unfold maxLen; omega) (by omega) (by simp; omega) ?_; intro v' w2 hown' hgrow _; have HO2 := Lib.hid hown'; have HG := Lib.hid hgrow; clear hown' hgrow))
          go_roundw
          case rel => exact ⟨k + 1, by omega, by omega, by go_num, by rw [HST.out]; exact NewR.snoc HO2.out, (hbw.alloc hs _).grown HG.out (by simp; omega) (fun g hg => (HUB.out g hg).1)⟩
          case measure => simp [intOf]; omega
    · obtain rfl : k = n + 1 := by omega
      have HU := Lib.hid hu
      clear hu ht hc
      go_wp2
      go_ret
      exact ⟨_, rfl, HU.out, hbw⟩
end

set_option maxHeartbeats 1000000 in
theorem trSame {b1 b2 : Nat} (u v : Value) (xs : List Nat) (w : World) (hn : xs.length ≤ 1000000) (hx : NewR b1 w u xs) (hy : NewR b2 w v xs) :
    Calls Try.prog 24 #[u, v] w fun e w' => e = .returned (.bool true) ∧ ∃ q, w' = w.drewN q := by
  have HA := Lib.hid hx
  have HB := Lib.hid hy
  obtain ⟨A1, c1, rfl, _⟩ := hx.slice
  obtain ⟨A2, c2, rfl, _⟩ := hy.slice
  clear hx hy
  go_enter Try.func24, Try.ntmps24
  go_wp2
  go_loopw [5] (fun x wr => ∃ k j : Nat, k ≤ xs.length ∧ x = .int .i64 k ∧ wr = w.drewN j) (fun x _ => xs.length - (intOf x).toNat)
  case atStart => exact ⟨0, 0, Nat.zero_le _, rfl, rfl⟩
  case round =>
    obtain ⟨k, j, hk, rfl, rfl⟩ := hrel
    by_cases hlt : k < xs.length
    · obtain ⟨r1, cap1, e1, _, _, c1⟩ := HA.out.cell hlt
      obtain ⟨r2, cap2, e2, _, _, c2⟩ := HB.out.cell hlt
      injection e1 with e1 _ e1'
      injection e2 with e2 _ e2'
      subst e1 e1' e2 e2'
      have d1 : (w.drewN j).cell? ⟨r1, k, none⟩ = some (.int .i64 (xs[k] : Nat)) := c1
      have d2 : (w.drewN j).cell? ⟨r2, k, none⟩ = some (.int .i64 (xs[k] : Nat)) := c2
      generalize xs[k] = p at d1 d2 c1 c2
      go_wp2
      go_quiet (fail)
      go_wp2
      go_roundw
      case rel => exact ⟨k + 1, _, by omega, by go_num, rfl⟩
      case measure => simp [intOf]; omega
    · go_wp2
      go_ret
      exact ⟨rfl, j, rfl⟩
end Go.Proofs.Ytmdcpeikjchbgaa
