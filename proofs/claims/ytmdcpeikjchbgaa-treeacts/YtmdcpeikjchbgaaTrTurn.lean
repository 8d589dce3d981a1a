/- Contracts of Add, Free, Merge, and of all calls at any number. -/
import Derived.Test.YtmdcpeikjchbgaaTrKids
import Derived.StillTailTactics
namespace Go.Proofs.Ytmdcpeikjchbgaa
open Go.RowKit Go.Maps

namespace TR
theorem delF_all (f : F) (l : List Nat) (y : Nat) : delF (fun j => if j ∈ l then none else f j) y = fun j => if j ∈ l ++ [y] then none else f j := by
  funext j
  unfold delF
  by_cases h : j = y
  · subst h; simp
  · simp [h]
/-- f, where those of l that were x's are p's. -/
def mg (f : F) (x p : Nat) (l : List Nat) : F := fun j => if j ∈ l ∧ f j = some x then some p else f j
theorem mg_start (f : F) (x p : Nat) : mg f x p [] = f := by funext j; simp [mg]
theorem mg_no {f : F} {x p y q : Nat} {l : List Nat} (h : f y = some q) (hq : q ≠ x) : mg f x p (l ++ [y]) = mg f x p l := by
  funext j
  unfold mg
  by_cases e : j = y
  · subst e
    rw [h]
    simp [hq]
  · simp [e]
theorem mg_yes {f : F} {x p y : Nat} {l : List Nat} (h : f y = some x) : updF (mg f x p l) y p = mg f x p (l ++ [y]) := by
  funext j
  unfold mg updF
  by_cases e : j = y
  · subst e; simp [h]
  · simp [e]
theorem mg_at {f : F} {x p y : Nat} {l : List Nat} (h : y ∉ l) : mg f x p l y = f y := by simp [mg, h]
theorem mg_good {n : Nat} {f : F} {x p : Nat} (h : Good n f) (hp : f x = some p) (l : List Nat) : Good n (mg f x p l) := by
  have hx := h.le x p hp
  refine ⟨by simp [mg, h.zero], fun i q hi => ?_, fun i q hi => ?_⟩
  · unfold mg at hi
    by_cases e : i ∈ l ∧ f i = some x
    · rw [if_pos e] at hi
      injection hi with hi
      have := h.le i x e.2
      omega
    · rw [if_neg e] at hi
      exact h.le i q hi
  · have key : ∀ q, (q = 0 ∨ ∃ r, f q = some r) → q = 0 ∨ ∃ r, mg f x p l q = some r := fun q hq => by
      rcases hq with e | ⟨r, hr⟩
      · exact .inl e
      · refine .inr ?_
        unfold mg
        by_cases e2 : q ∈ l ∧ f q = some x
        · exact ⟨p, if_pos e2⟩
        · exact ⟨r, by rw [if_neg e2]; exact hr⟩
    unfold mg at hi
    by_cases e : i ∈ l ∧ f i = some x
    · rw [if_pos e] at hi
      injection hi with hi
      subst hi
      exact key p (h.par x p hp)
    · rw [if_neg e] at hi
      exact key q (h.par i q hi)
theorem mg_end {n : Nat} {f : F} {x p : Nat} (h : Good n f) : delF (mg f x p (all n f)) x = mergeF f x p := by
  funext j
  unfold delF mg mergeF
  by_cases e : j = x
  · simp [e]
  · by_cases e2 : f j = some x
    · have : j ∈ all n f := mem_all.2 ⟨(h.le j x e2).2.1, live_iff.2 ⟨x, e2⟩⟩
      simp [e, e2, this]
    · simp [e, e2]
def addErr (n : Nat) (f : F) (x : Int) : Int := if mayErr f x = 0 then (if 64 ≤ (all n f).length then 5 else 0) else 6
def addV (n : Nat) (f : F) (x : Int) : Nat := if addErr n f x = 0 then n + 1 else 0
def addN (n : Nat) (f : F) (x : Int) : Nat := if addErr n f x = 0 then n + 1 else n
def addS (n : Nat) (f : F) (x : Int) : F := if addErr n f x = 0 then addF n f x.toNat else f
def freeS (n : Nat) (f : F) (x : Int) : F := if liveI f x then freeF n f x.toNat else f
def mergErr (f : F) (x : Int) : Int := if liveI f x then (if parI f x = 0 then 16 else 0) else 6
def mergV (f : F) (x : Int) : Int := if mergErr f x = 0 then parI f x else 0
def mergS (f : F) (x : Int) : F := if mergErr f x = 0 then mergeF f x.toNat (parI f x).toNat else f
theorem addErr_may {n : Nat} {f : F} {x : Int} (h : addErr n f x = 0) : mayErr f x = 0 ∧ (all n f).length < 64 := by
  unfold addErr at h
  by_cases e : mayErr f x = 0
  · rw [if_pos e] at h
    by_cases e2 : 64 ≤ (all n f).length
    · rw [if_pos e2] at h; cases h
    · exact ⟨e, by omega⟩
  · rw [if_neg e] at h; cases h
theorem addS_good {n : Nat} {f : F} (h : Good n f) (x : Int) : Good (addN n f x) (addS n f x) := by
  unfold addN addS
  by_cases e : addErr n f x = 0
  · rw [if_pos e, if_pos e]
    obtain ⟨i, rfl, hi⟩ := mayErr_ok (addErr_may e).1
    rw [Int.toNat_natCast]
    refine add_good h ?_
    rcases hi with hi | ⟨p, hp⟩
    · exact .inl hi
    · exact .inr (live_iff.2 ⟨p, hp⟩)
  · rw [if_neg e, if_neg e]; exact h
end TR

/-- What a call that writes a tree leaves. -/
def TrE (b m n : Nat) (f : TR.F) (v : Value) (w : World) (e : Ending) (w' : World) : Prop := e = .returned v ∧ TrAt w' b m n f ∧ Aft [b, m] w w'
/-- What Free leaves. -/
def FrE (b m n : Nat) (f : TR.F) (l : List Nat) (er : Int) (w : World) (e : Ending) (w' : World) : Prop := ∃ v, e = .returned (.tuple #[v, .int .i64 er]) ∧ NewR w.heap.size w' v l ∧ TrAt w' b m n f ∧ Aft [b, m] w w'

section
variable {w : World} {b m n : Nat} {f : TR.F}
set_option maxHeartbeats 1000000 in
theorem tadd_ok (h : TrAt w b m n f) (hn : n < 100000) (x : Nat) (hx : TR.mayErr f x = 0) (hl : (TR.all n f).length < 64) : Calls Try.prog 9 #[.pointer (some ⟨b, 0, none⟩), .int .i64 (x : Int)] w (TrE b m (n + 1) (TR.addF n f x) (.tuple #[.int .i64 ((n + 1 : Nat) : Int), .int .i64 0]) w) := by
  obtain ⟨j, hj, hj2⟩ := TR.mayErr_ok hx
  have hj : x = j := by omega
  subst hj
  have hxn : x ≤ n := by
    rcases hj2 with e | ⟨p, hp⟩
    · omega
    · exact (h.good.le x p hp).2.1
  have hg := TR.add_good h.good (p := x) (by
    rcases hj2 with e | ⟨p, hp⟩
    · exact .inl e
    · exact .inr (TR.live_iff.2 ⟨p, hp⟩))
  have H1 := tmay_any h x (I64.nat (by omega))
  rw [hx] at H1
  have HM := Lib.hid H1
  have HL := Lib.hid (tlen_any h)
  have hbox : Whole (w.setCell ⟨b, 1, none⟩ (.int .i64 ((n : Int) + 1))) b 52 #[.map (some m), .int .i64 ((n + 1 : Nat) : Int)] := by
    have := h.box.set 1 (.int .i64 ((n : Int) + 1))
    rw [show (((n + 1 : Nat) : Int)) = (n : Int) + 1 by omega]
    exact this
  have hmp : MapT (w.setCell ⟨b, 1, none⟩ (.int .i64 ((n : Int) + 1))).drew m f := h.map.keep (Below.heap_setCell _ _ _ _ h.ne)
  obtain ⟨w2, hrun, hm2, ha2⟩ := hmp.put h.good h.few (i := n + 1) (p := x) (by omega) (by omega)
  have hp2 : Aft [b, m] w w2 := by
    have h1 : Aft [b, m] w (w.setCell ⟨b, 1, none⟩ (.int .i64 ((n : Int) + 1))).drew := ((Aft.refl [b, m] w).setCell (c := b) (by simp) 1 _).drew
    exact h1.trans (ha2.sub (by simp))
  have hT : TrAt w2 b m (n + 1) (TR.addF n f x) := ⟨ha2.whole (c := b) hbox (by simpa using h.ne.symm), hm2, hg, by omega⟩
  have c1' := hT.c1
  have HT := Lib.hid hT
  have HP := Lib.hid hp2
  have c0 := h.c0
  have c1 := h.c1
  have f1 := h.box.free 1
  obtain ⟨wa, hwa⟩ : ∃ wa, wa = w.setCell ⟨b, 1, none⟩ (.int .i64 ((n : Int) + 1)) := ⟨_, rfl⟩
  have HWA := Lib.hid hwa
  rw [← hwa] at hbox hrun
  obtain ⟨wd, hwd⟩ : ∃ wd, wd = wa.drew := ⟨_, rfl⟩
  have HWD := Lib.hid (show ({ heap := wa.heap, tape := wa.tape, drawn := wa.drawn + 1, os := wa.os, output := wa.output } : World) = wd from hwd.symm)
  have d0 : wd.cell? ⟨b, 0, none⟩ = some (.map (some m)) := by
    have := hbox.cell 0
    rw [hwd]
    exact this
  have d1 : wd.cell? ⟨b, 1, none⟩ = some (.int .i64 ((n : Int) + 1)) := by
    have := hbox.cell 1
    rw [show (((n + 1 : Nat) : Int)) = (n : Int) + 1 by omega] at this
    rw [hwd]
    exact this
  rw [← hwd] at hrun
  clear hwa hwd
  rw [show (((n + 1 : Nat) : Int)) = (n : Int) + 1 by omega] at hrun c1' ⊢
  clear H1 h hx hj2 hg hbox hmp hm2 ha2 hp2 hT
  generalize (TR.all n f).length = L at *
  go_enter Try.func9, Try.ntmps9
  go_wp2_with fail
  refine HM.out.mono ?_
  rintro e w1 ⟨rfl, rfl⟩
  go_wp2_with fail
  refine HL.out.mono ?_
  rintro e w1 ⟨rfl, rfl⟩
  go_wp2_with fail
  rw [← HWA.out]
  refine wp_region_still_tail 9 (by kernel_rfl) (by kernel_rfl) ?_
  simp only [List.take_succ_cons, List.take_zero, List.drop_succ_cons, List.drop_zero]
  rw [HWD.out]
  repeat still_step
  refine wpStill_nil ?_
  go_wp2
  go_ret2
  exact ⟨rfl, HT.out, HP.out⟩
theorem tadd_no (h : TrAt w b m n f) (x : Int) (hx : I64 x) (he : TR.addErr n f x ≠ 0) : Calls Try.prog 9 #[.pointer (some ⟨b, 0, none⟩), .int .i64 x] w fun e w' => e = .returned (.tuple #[.int .i64 0, .int .i64 (TR.addErr n f x)]) ∧ w = w' := by
  have H1 := tmay_any h x hx
  have HL := Lib.hid (tlen_any h)
  unfold TR.addErr at he ⊢
  by_cases e1 : TR.mayErr f x = 0
  · rw [if_pos e1] at he ⊢
    rw [e1] at H1
    have e2 : 64 ≤ (TR.all n f).length := by
      rcases Nat.lt_or_ge (TR.all n f).length 64 with e2 | e2
      · rw [if_neg (by omega)] at he; exact absurd rfl he
      · exact e2
    rw [if_pos e2]
    have HM := Lib.hid H1
    clear H1 h hx he e1
    generalize (TR.all n f).length = L at *
    go_enter Try.func9, Try.ntmps9
    go_wp2_with fail
    refine HM.out.mono ?_
    rintro e w1 ⟨rfl, rfl⟩
    go_wp2_with fail
    refine HL.out.mono ?_
    rintro e w1 ⟨rfl, rfl⟩
    go_wp2
    go_ret2
    exact ⟨rfl, rfl⟩
  · rw [if_neg e1]
    have e2 : TR.mayErr f x = 6 := (TR.mayErr_or f x).resolve_left e1
    rw [e2] at H1
    have HM := Lib.hid H1
    clear H1 h hx he e1 e2 HL
    go_enter Try.func9, Try.ntmps9
    go_wp2_with fail
    refine HM.out.mono ?_
    rintro e w1 ⟨rfl, rfl⟩
    go_wp2
    go_ret2
    exact ⟨rfl, rfl⟩
theorem tkids_no (h : TrAt w b m n f) (x : Int) (hx : I64 x) (he : TR.mayErr f x ≠ 0) : Calls Try.prog 11 #[.pointer (some ⟨b, 0, none⟩), .int .i64 x] w fun e w' => e = .returned (.tuple #[.slice none 0 0, .int .i64 6]) ∧ w = w' := by
  have H1 := tmay_any h x hx
  rw [(TR.mayErr_or f x).resolve_left he] at H1
  have HM := Lib.hid H1
  clear H1 h hx he
  go_enter Try.func11, Try.ntmps11
  go_wp2_with fail
  refine HM.out.mono ?_
  rintro e w1 ⟨rfl, rfl⟩
  go_wp2
  go_ret2
  exact ⟨rfl, rfl⟩
theorem tunder_no (h : TrAt w b m n f) (x : Int) (hx : I64 x) (he : TR.liveI f x = false) : Calls Try.prog 12 #[.pointer (some ⟨b, 0, none⟩), .int .i64 x] w fun e w' => e = .returned (.tuple #[.slice none 0 0, .int .i64 6]) ∧ w = w' := by
  have H1 := tisLive_any h x hx
  rw [TR.liveErr_no he] at H1
  have HM := Lib.hid H1
  clear H1 h hx he
  go_enter Try.func12, Try.ntmps12
  go_wp2_with fail
  refine HM.out.mono ?_
  rintro e w1 ⟨rfl, rfl⟩
  go_wp2
  go_ret2
  exact ⟨rfl, rfl⟩
theorem tfree_no (h : TrAt w b m n f) (x : Int) (hx : I64 x) (he : TR.liveI f x = false) : Calls Try.prog 13 #[.pointer (some ⟨b, 0, none⟩), .int .i64 x] w fun e w' => e = .returned (.tuple #[.slice none 0 0, .int .i64 6]) ∧ w = w' := by
  have HM := Lib.hid (tunder_no h x hx he)
  clear h hx he
  go_enter Try.func13, Try.ntmps13
  go_wp2_with fail
  refine HM.out.mono ?_
  rintro e w1 ⟨rfl, rfl⟩
  go_wp2
  go_ret2
  exact ⟨rfl, rfl⟩
set_option maxHeartbeats 1000000 in
theorem tfree_ok (h : TrAt w b m n f) (x q : Nat) (hq : f x = some q) : Calls Try.prog 13 #[.pointer (some ⟨b, 0, none⟩), .int .i64 (x : Int)] w (FrE b m n (TR.freeF n f x) (TR.under n f x) 0 w) := by
  have HU := Lib.hid (tunder_ok h x q hq)
  have hn := h.few
  have hlen := TR.under_len_le n f x
  have HT := Lib.hid h
  generalize hal : TR.under n f x = al at *
  have HAL := Lib.hid hal
  have HLE := Lib.hid (fun y (hy : y ∈ al) => (TR.mem_under.1 (hal ▸ hy)).1)
  clear h hal
  go_enter Try.func13, Try.ntmps13
  go_wp2_with fail
  refine HU.out.mono ?_
  rintro e w1 ⟨v, rfl, hv, hb⟩
  obtain ⟨A, c, rfl, _⟩ := hv.slice
  have HV := Lib.hid hv
  have HB := Lib.hid hb
  have HT1 := Lib.hid (HT.out.below hb)
  clear hv hb HU
  go_wp2_with fail
  go_loopw [21] (fun i wr => ∃ k : Nat, k ≤ al.length ∧ i = .int .i64 k ∧ MapT wr m (fun j => if j ∈ al.take k then none else f j) ∧ Aft [m] w1 wr) (fun i _ => al.length - (intOf i).toNat)
  case atStart => exact ⟨0, Nat.zero_le _, rfl, by simpa using HT1.out.map, Aft.refl _ _⟩
  case round =>
    obtain ⟨k, hk, rfl, hm, hbw⟩ := hrel
    have hvr : NewR w.heap.size wr (.slice A al.length c) al := HV.out.keep fun g hg ⟨_, hw⟩ => hbw.block g hw.lt (by have := HT1.out.map.ne hw; simp; exact fun e => this e.symm)
    have hbx := hbw.whole HT1.out.box (by simpa using HT1.out.ne.symm)
    by_cases hlt : k < al.length
    · obtain ⟨g, cap, e1, _, _, c1⟩ := hvr.cell hlt
      injection e1 with e1 _ e1'
      subst e1 e1'
      obtain ⟨y, hy⟩ : ∃ y, al[k] = y := ⟨_, rfl⟩
      have hyn := HLE.out y (hy ▸ List.getElem_mem hlt)
      rw [hy] at c1
      have c0 : wr.cell? ⟨b, 0, none⟩ = some (.map (some m)) := by rw [hbx.cell]; rfl
      obtain ⟨w2, hrun, hm2, ha2⟩ := hm.del y (by omega) 0
      rw [TR.delF_all, ← hy, ← List.take_succ_eq_append_getElem hlt] at hm2
      have HM2 := Lib.hid hm2
      have HA2 := Lib.hid (hbw.trans ha2)
      clear hm hm2 ha2 hy hbx hvr
      go_wp2
      go_roundw
      case rel => exact ⟨k + 1, by omega, by go_num, HM2.out, HA2.out⟩
      case measure => simp [intOf]; omega
    · obtain rfl : k = al.length := by omega
      rw [List.take_length] at hm
      have hf : (fun j => if j ∈ al then none else f j) = TR.freeF n f x := by rw [← HAL.out]; rfl
      rw [hf] at hm
      have HM := Lib.hid hm
      have HX := Lib.hid hbx
      have HVR := Lib.hid hvr
      clear hm hbx hvr hf
      go_wp2
      go_ret2
      exact ⟨_, rfl, HVR.out, ⟨HX.out, HM.out, TR.free_good HT.out.good x, HT.out.few⟩, (Aft.of_below HB.out).trans (hbw.sub (by simp))⟩
theorem tmerge_no (h : TrAt w b m n f) (x : Int) (hx : I64 x) (he : TR.mergErr f x ≠ 0) : Calls Try.prog 14 #[.pointer (some ⟨b, 0, none⟩), .int .i64 x] w fun e w' => e = .returned (.tuple #[.int .i64 0, .int .i64 (TR.mergErr f x)]) ∧ w = w' := by
  have H1 := tparent_any h x hx
  unfold TR.mergErr at he ⊢
  cases hl : TR.liveI f x
  · rw [TR.liveErr_no hl] at H1
    have HM := Lib.hid H1
    clear H1 h hx he hl
    generalize TR.parI f x = pv at HM
    rw [if_neg (by simp)]
    go_enter Try.func14, Try.ntmps14
    go_wp2_with fail
    refine HM.out.mono ?_
    rintro e w1 ⟨rfl, rfl⟩
    go_wp2
    go_ret2
    exact ⟨rfl, rfl⟩
  · rw [if_pos rfl]
    have e0 : TR.parI f x = 0 := by
      rw [hl, if_pos rfl] at he
      by_cases e : TR.parI f x = 0
      · exact e
      · rw [if_neg e] at he; exact absurd rfl he
    rw [if_pos e0]
    rw [TR.liveErr_ok hl, e0] at H1
    have HM := Lib.hid H1
    clear H1 h hx he hl e0
    go_enter Try.func14, Try.ntmps14
    go_wp2_with fail
    refine HM.out.mono ?_
    rintro e w1 ⟨rfl, rfl⟩
    go_wp2
    go_ret2
    exact ⟨rfl, rfl⟩
set_option maxHeartbeats 1000000 in
theorem tmerge_ok (h : TrAt w b m n f) (x p : Nat) (hp : f x = some p) (hp0 : p ≠ 0) : Calls Try.prog 14 #[.pointer (some ⟨b, 0, none⟩), .int .i64 (x : Int)] w (TrE b m n (TR.mergeF f x p) (.tuple #[.int .i64 (p : Int), .int .i64 0]) w) := by
  have hn := h.few
  have hxn := (h.good.le x p hp).2
  have H1 := tparent_any h x (I64.nat (by omega))
  rw [TR.liveErr_ok (by rw [TR.liveI_nat]; exact TR.live_iff.2 ⟨p, hp⟩), TR.parI_ok hp] at H1
  have HM := Lib.hid H1
  have HA := Lib.hid (tall_any h)
  have HT := Lib.hid h
  have hlen := TR.all_len n f
  have HUP := Lib.hid (TR.all_up n f)
  have HP := Lib.hid hp
  rw [← TR.mg_end h.good]
  generalize hal : TR.all n f = al at *
  have HAL := Lib.hid hal
  have d0 : ((p : Int) == 0) = false := by simp; omega
  clear H1 h hal hp
  go_enter Try.func14, Try.ntmps14
  go_wp2_with fail
  refine HM.out.mono ?_
  rintro e w1 ⟨rfl, rfl⟩
  go_wp2_with fail
  refine HA.out.mono ?_
  rintro e w1 ⟨v, rfl, hv, hb⟩
  obtain ⟨A, c, rfl, _⟩ := hv.slice
  have HV := Lib.hid hv
  have HB := Lib.hid hb
  have HT1 := Lib.hid (HT.out.below hb)
  clear hv hb HA HM
  go_wp2_with fail
  go_loopw [24] (fun i wr => ∃ k : Nat, k ≤ al.length ∧ i = .int .i64 k ∧ MapT wr m (TR.mg f x p (al.take k)) ∧ Aft [m] w1 wr) (fun i _ => al.length - (intOf i).toNat)
  case atStart => exact ⟨0, Nat.zero_le _, rfl, by rw [List.take_zero, TR.mg_start]; exact HT1.out.map, Aft.refl _ _⟩
  case round =>
    obtain ⟨k, hk, rfl, hm, hbw⟩ := hrel
    have hvr : NewR w.heap.size wr (.slice A al.length c) al := HV.out.keep fun g hg ⟨_, hw⟩ => hbw.block g hw.lt (by have := HT1.out.map.ne hw; simp; exact fun e => this e.symm)
    have hbx := hbw.whole HT1.out.box (by simpa using HT1.out.ne.symm)
    have c0 : wr.cell? ⟨b, 0, none⟩ = some (.map (some m)) := by rw [hbx.cell]; rfl
    by_cases hlt : k < al.length
    · obtain ⟨g, cap, e1, _, _, c1⟩ := hvr.cell hlt
      injection e1 with e1 _ e1'
      subst e1 e1'
      obtain ⟨q, hq⟩ := TR.all_at (n := n) (f := f) (k := k) (by rw [HAL.out]; exact hlt)
      simp only [HAL.out] at hq
      have hnot : al[k] ∉ al.take k := fun hm => by
        obtain ⟨j, hj, e⟩ := List.mem_iff_getElem.1 hm
        rw [List.getElem_take] at e
        simp at hj
        have := List.pairwise_iff_getElem.1 HUP.out j k (by omega) hlt (by omega)
        omega
      have hts := List.take_succ_eq_append_getElem hlt
      obtain ⟨y, hy⟩ : ∃ y, al[k] = y := ⟨_, rfl⟩
      rw [hy] at c1 hq hnot hts
      have hyn := (HT.out.good.le _ q hq).2
      have hlk := hm.look (i := y) (p := q) (by omega) ((TR.mg_at hnot).trans hq)
      by_cases hqx : q = x
      · subst hqx
        obtain ⟨w2, hrun, hm2, ha2⟩ := hm.put (TR.mg_good HT.out.good HP.out _) hn (i := y) (p := p) (by omega) (by omega)
        rw [TR.mg_yes hq, ← hts] at hm2
        have HM2 := Lib.hid hm2
        have HA2 := Lib.hid (hbw.trans ha2)
        clear hm hm2 ha2 hy hbx hvr hq hnot hts hyn
        go_wp2
        go_roundw
        case rel => exact ⟨k + 1, by omega, by go_num, HM2.out, HA2.out⟩
        case measure => simp [intOf]; omega
      · have d1 : ((q : Int) == (x : Int)) = false := by simp; omega
        rw [← TR.mg_no (p := p) hq hqx, ← hts] at hm
        have HM2 := Lib.hid hm
        clear hm hy hbx hvr hq hnot hts hyn hqx
        go_wp2
        go_roundw
        case rel => exact ⟨k + 1, by omega, by go_num, HM2.out, hbw⟩
        case measure => simp [intOf]; omega
    · obtain rfl : k = al.length := by omega
      rw [List.take_length] at hm
      obtain ⟨w2, hrun, hm2, ha2⟩ := hm.del x (by omega) 0
      have HM := Lib.hid hm2
      have HA2 := Lib.hid (hbw.trans ha2)
      have HX := Lib.hid (ha2.whole hbx (by simpa using HT1.out.ne.symm))
      have hg : TR.Good n (TR.delF (TR.mg f x p al) x) := by
        rw [← HAL.out, TR.mg_end HT.out.good]
        exact TR.merge_good HT.out.good HP.out
      have HG := Lib.hid hg
      clear hm hm2 ha2 hbx hvr hg
      go_wp2
      go_ret2
      exact ⟨rfl, ⟨HX.out, HM.out, HG.out, hn⟩, (Aft.of_below HB.out).trans (HA2.out.sub (by simp))⟩
end
end Go.Proofs.Ytmdcpeikjchbgaa
