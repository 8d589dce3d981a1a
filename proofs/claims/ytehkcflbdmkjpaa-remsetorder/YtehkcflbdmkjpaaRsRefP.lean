/- Contracts of the document's Put, and of the law's forget. -/
import Derived.Test.YtehkcflbdmkjpaaRsRefW
namespace Go.Proofs.Ytehkcflbdmkjpaa
open Go.RowKit Go.Maps Go.Sort

namespace RM
theorem ins_none {A : L} {x : R} {t : Int} (h : ∀ p ∈ A, TM.lt x p.1 = false) : ins A x t = A ++ [(x, t)] := by
  induction A with
  | nil => rfl
  | cons p A ih =>
    unfold ins
    rw [if_neg (by rw [h p (by simp)]; simp), ih fun q hq => h q (by simp [hq])]
    rfl
theorem ins_first {A : L} {x : R} {t : Int} {p : R × Int} (h : ∀ p ∈ A, TM.lt x p.1 = false) (hp : TM.lt x p.1 = true) : ins (A ++ [p]) x t = A ++ [(x, t)] ++ [p] := by
  induction A with
  | nil => simp [ins, hp]
  | cons q A ih =>
    show ins (q :: (A ++ [p])) x t = _
    unfold ins
    rw [if_neg (by rw [h q (by simp)]; simp), ih fun q hq => h q (by simp [hq])]
    rfl
theorem ins_some {A : L} {x : R} {t : Int} (p : R × Int) (h : ∃ q ∈ A, TM.lt x q.1 = true) : ins (A ++ [p]) x t = ins A x t ++ [p] := by
  induction A with
  | nil => obtain ⟨q, hq, _⟩ := h; simp at hq
  | cons q A ih =>
    show ins (q :: (A ++ [p])) x t = _
    unfold ins
    by_cases hq : TM.lt x q.1 = true
    · rw [if_pos hq, if_pos hq]
      rfl
    · rw [if_neg hq, if_neg hq, ih]
      · rfl
      · obtain ⟨q', h1, h2⟩ := h
        rcases List.mem_cons.1 h1 with rfl | h1
        · exact (hq h2).elim
        · exact ⟨q', h1, h2⟩
theorem snocR {p : List R → Prop} (nil : p []) (snoc : ∀ l x, p l → p (l ++ [x])) (l : List R) : p l := by
  have h : ∀ r : List R, p r.reverse := fun r => by
    induction r with
    | nil => exact nil
    | cons x r ih => rw [List.reverse_cons]; exact snoc _ x ih
  have := h l.reverse
  rwa [List.reverse_reverse] at this
/-- What Put has behind k rounds: whether the reference lies there, and the list. -/
def dn (M : L) (x : R) (k : Nat) : Bool := (M.take k).any fun p => TM.lt x p.1
def ot (M : L) (x : R) (t : Int) (k : Nat) : L := if dn M x k = true then ins (M.take k) x t else M.take k
theorem dn_no {M : L} {x : R} {k : Nat} (h : dn M x k = false) : ∀ p ∈ M.take k, TM.lt x p.1 = false := fun p hp => by
  unfold dn at h
  rw [List.any_eq_false] at h
  simpa using h p hp
theorem dn_yes {M : L} {x : R} {k : Nat} (h : dn M x k = true) : ∃ p ∈ M.take k, TM.lt x p.1 = true := by
  unfold dn at h
  rw [List.any_eq_true] at h
  exact h
theorem dn_succ {M : L} {x : R} {k : Nat} (h : k < M.length) : dn M x (k + 1) = (dn M x k || TM.lt x M[k].1) := by
  unfold dn
  rw [List.take_succ_eq_append_getElem h, List.any_append]
  simp
theorem ot_done {M : L} {x : R} {t : Int} {k : Nat} (h : k < M.length) (hd : dn M x k = true) : ot M x t (k + 1) = ot M x t k ++ [M[k]] := by
  unfold ot
  rw [dn_succ h, hd, Bool.true_or, if_pos rfl, if_pos rfl, List.take_succ_eq_append_getElem h, ins_some _ (dn_yes hd)]
theorem ot_first {M : L} {x : R} {t : Int} {k : Nat} (h : k < M.length) (hd : dn M x k = false) (hf : TM.lt x M[k].1 = true) : ot M x t (k + 1) = ot M x t k ++ [(x, t)] ++ [M[k]] := by
  unfold ot
  rw [dn_succ h, hd, hf, Bool.false_or, if_pos rfl, if_neg (by simp), List.take_succ_eq_append_getElem h, ins_first (dn_no hd) hf]
theorem ot_not {M : L} {x : R} {t : Int} {k : Nat} (h : k < M.length) (hd : dn M x k = false) (hf : TM.lt x M[k].1 = false) : ot M x t (k + 1) = ot M x t k ++ [M[k]] := by
  unfold ot
  rw [dn_succ h, hd, hf, Bool.false_or, if_neg (by simp), if_neg (by simp), List.take_succ_eq_append_getElem h]
theorem ot_end_yes {M : L} {x : R} {t : Int} (hd : dn M x M.length = true) : ot M x t M.length = ins M x t := by
  unfold ot
  rw [if_pos hd, List.take_length]
theorem ot_end_no {M : L} {x : R} {t : Int} (hd : dn M x M.length = false) : ot M x t M.length ++ [(x, t)] = ins M x t := by
  unfold ot
  have := dn_no hd
  rw [List.take_length] at this
  rw [hd, if_neg (by simp), List.take_length, ins_none this]
theorem ot_len (M : L) (x : R) (t : Int) (k : Nat) : (ot M x t k).length ≤ M.length + 1 := by
  unfold ot
  split
  · rw [ins_len, List.length_take]; omega
  · rw [List.length_take]; omega
end RM

section
variable {w w' : World} {r lo base : Nat} {L : RM.L}
set_option maxHeartbeats 4000000 in
theorem dput_any (h : DocAt w r lo L) (hl : L.length ≤ 100000) (x : RM.R) (t : Int) : Calls Try.prog 17 #[.pointer (some ⟨r, 0, none⟩), refV x, .int .i64 t] w (DocE r (RM.put L x t) (.bool (!RM.has L x)) w) := by
  obtain ⟨i0, hi, hz0, hz1, hz2⟩ := infoPair
  have hb1 := (Below.refl w.heap.size w).alloc (Nat.le_refl _) (.cells #[.int .i64 x.1, .int .i64 x.2] 24)
  have HC := Lib.hid (dcut_any (h.below hb1) (by omega) x)
  have hxw := Whole.fresh w 24 #[.int .i64 x.1, .int .i64 x.2]
  have HX := Lib.hid hxw
  have x0 := hxw.cell 0
  have x1c := hxw.cell 1
  have HB1 := Lib.hid hb1
  have hr := h.lt
  have hcl := RM.cut_le L x
  have HUP := Lib.hid (RM.put_up h.up x t)
  have HPUT : Hid (RM.put L x t = RM.ins (RM.cut L x) x t) := Lib.hid rfl
  generalize RM.has L x = hd at *
  generalize RM.cut L x = M at *
  generalize RM.put L x t = PL at *
  obtain ⟨x1, x2⟩ := x
  simp only [List.getElem?_toArray, List.getElem?_cons_zero, List.getElem?_cons_succ] at x0 x1c
  unfold refV at HC ⊢
  clear h hb1 hxw
  go_enter Try.func17, Try.ntmps17
  go_wp2_with fail
  refine HC.out.mono ?_
  rintro e w1 ⟨rfl, hD, ha1⟩
  have hx1 : Whole w1 w.heap.size 24 #[.int .i64 x1, .int .i64 x2] := ha1.whole HX.out (by simp; omega)
  have HX1 := Lib.hid hx1
  have HD := Lib.hid hD
  have HA1 := Lib.hid (Aft.trans (Aft.of_below (S := [r]) HB1.out) ha1)
  have hxl := hx1.lt
  have hrl := hD.lt
  obtain ⟨A, c, c0, hbx, hrow⟩ := hD.rd
  have HF : Hid (∀ W, Below w1.heap.size w1 W → W.cell? ⟨r, 0, none⟩ = some (.slice A M.length c) ∧ W.cell? ⟨w.heap.size, 0, none⟩ = some (.int .i64 x1) ∧ W.cell? ⟨w.heap.size, 1, none⟩ = some (.int .i64 x2)) := Lib.hid fun W hW => by
    have h1 := hx1.below hW hxl
    have e0 := h1.cell 0
    have e1 := h1.cell 1
    simp only [List.getElem?_toArray, List.getElem?_cons_zero, List.getElem?_cons_succ] at e0 e1
    exact ⟨(hW.cell (p := ⟨r, 0, none⟩) hrl).trans c0, e0, e1⟩
  have HRC : Hid (∀ k (hlt : k < M.length), ∃ g, A = some ⟨g, 0, none⟩ ∧ ∀ W, Below w1.heap.size w1 W → W.cell? ⟨g, k * 3, none⟩ = some (.int .i64 M[k].1.1) ∧ W.cell? ⟨g, k * 3 + 1, none⟩ = some (.int .i64 M[k].1.2) ∧ W.cell? ⟨g, k * 3 + 2, none⟩ = some (.int .i64 M[k].2)) := Lib.hid fun k hlt => by
    obtain ⟨g, cap, e1, _, hg, c1, c2, c3⟩ := hrow.cell hlt
    injection e1 with e1 _ _
    exact ⟨g, e1, fun W hW => ⟨(hW.cell (p := ⟨g, _, none⟩) hg).trans c1, (hW.cell (p := ⟨g, _, none⟩) hg).trans c2, (hW.cell (p := ⟨g, _, none⟩) hg).trans c3⟩⟩
  have HBX := Lib.hid hbx
  clear hx1 hD ha1 x0 x1c c0 hbx hrow
  go_wp2_with fail
  go_loopw [8, 9, 10] (fun u d i wr => ∃ k : Nat, k ≤ M.length ∧ i = .int .i64 k ∧ d = .bool (RM.dn M (x1, x2) k) ∧ NewP w1.heap.size wr u (RM.ot M (x1, x2) t k) ∧ Below w1.heap.size w1 wr) (fun _ _ i _ => M.length - (intOf i).toNat)
  case atStart => exact ⟨0, Nat.zero_le _, rfl, by simp [RM.dn], by simpa [RM.ot, RM.dn] using NewP.nil _ _, Below.refl _ _⟩
  case round =>
    obtain ⟨k, hk, rfl, rfl, hu, hbw⟩ := hrel
    obtain ⟨c0, x0, x1c⟩ := HF.out wr hbw
    have hs := hbw.size
    have HBW := Lib.hid hbw
    have hul := RM.ot_len M (x1, x2) t k
    obtain ⟨Au, cu, rfl, _⟩ := hu.slice
    by_cases hlt : k < M.length
    · obtain ⟨g, rfl, hgc⟩ := HRC.out k hlt
      have HDN := Lib.hid (RM.dn_succ (x := (x1, x2)) hlt)
      have HOD := Lib.hid (RM.ot_done (x := (x1, x2)) (t := t) hlt)
      have HOF := Lib.hid (RM.ot_first (x := (x1, x2)) (t := t) hlt)
      have HON := Lib.hid (RM.ot_not (x := (x1, x2)) (t := t) hlt)
      have HAH := Lib.hid (dahead_any (x1, x2) M[k].1)
      obtain ⟨p, hp⟩ : ∃ p, p = M[k] := ⟨_, rfl⟩
      rw [← hp] at hgc HDN HOD HOF HON HAH
      obtain ⟨⟨p1, p2⟩, pt⟩ := p
      dsimp only at hgc
      generalize RM.ot M (x1, x2) t k = l at *
      generalize RM.dn M (x1, x2) k = d at *
      generalize TM.lt (x1, x2) ((p1, p2), pt).1 = f at *
      dsimp only at HAH
      have HGC := Lib.hid hgc
      obtain ⟨wd, hwd⟩ : ∃ wd, wd = wr.drew := ⟨_, rfl⟩
      have HWD := Lib.hid ((drew_is wr).trans hwd.symm)
      have hbd : Below wr.heap.size wr wd := by rw [hwd]; exact below_drew _
      have hbd1 := hbw.trans (hbd.mono hs)
      obtain ⟨d0, dx0, dx1⟩ := HF.out wd hbd1
      obtain ⟨d1, d2, d3⟩ := hgc wd hbd1
      have HBD := Lib.hid hbd
      have HU := Lib.hid hu
      clear hwd hu hbw hp hbd hbd1 x0 x1c hgc
      go_wp2_with fail
      refine wp_region_still_tail 9 (by kernel_rfl) (by kernel_rfl) ?_
      simp only [List.take_succ_cons, List.take_zero, List.drop_succ_cons, List.drop_zero]
      rw [HWD.out]
      repeat still_step
      refine wpStill_nil ?_
      go_wp2_with fail
      refine (HAH.out _).mono ?_
      rintro e w3 ⟨rfl, hb3⟩
      have hbr3 : Below wr.heap.size wr w3 := HBD.out.trans (hb3.mono HBD.out.size)
      have hb13 := HBW.out.trans (hbr3.mono hs)
      obtain ⟨c0, x0, x1c⟩ := HF.out w3 hb13
      obtain ⟨c1, c2, c3⟩ := HGC.out w3 hb13
      have hs3 := hb13.size
      have HB13 := Lib.hid hb13
      have hu3 := HU.out.below hbr3
      have HU3 := Lib.hid hu3.own
      have HUB := Lib.hid hu3.lt
      clear hb3 hbr3 hb13 hu3 d0 dx0 dx1 d1 d2 d3 HU HBD HAH
      cases d with
      | true =>
        have HST := Lib.hid (HOD.out rfl)
        have HDT : Hid (RM.dn M (x1, x2) (k + 1) = true) := Lib.hid (by rw [HDN.out]; rfl)
        clear HDN HOD HOF HON
        cases f with
        | true =>
          go_wp2_with (first
            | (at_builtin; refine wpList_append_own _ rfl _ _ 37 rfl w1.heap.size 57 i0 _ 3 24 Try.underlying37 hi hz0 hz1 hz2 rfl (by decide) (.slice Au l.length cu) _ _ rfl (HU3.out.alloc _) ⟨w3.heap.size, 0, none⟩ 1 1 [.int .i64 p1, .int .i64 p2, .int .i64 pt] rfl rfl (cell_three_new _ _ _ _ _) (by simp [Value.oneCell']) (by unfold maxLen; omega) (by omega) (by simp; omega) ?_; intro v' w4 hown' hgrow _; have HO2 := Lib.hid hown'; have HG := Lib.hid hgrow; clear hown' hgrow))
          go_roundw
          case rel => exact ⟨k + 1, by omega, by go_num, by rw [HDT.out], by rw [HST.out]; exact NewP.snoc HO2.out, (HB13.out.alloc hs3 _).grown HG.out (by simp; omega) (fun g hg => (HUB.out g hg).1)⟩
          case measure => simp [intOf]; omega
        | false =>
          go_wp2_with (first
            | (at_builtin; refine wpList_append_own _ rfl _ _ 37 rfl w1.heap.size 57 i0 _ 3 24 Try.underlying37 hi hz0 hz1 hz2 rfl (by decide) (.slice Au l.length cu) _ _ rfl (HU3.out.alloc _) ⟨w3.heap.size, 0, none⟩ 1 1 [.int .i64 p1, .int .i64 p2, .int .i64 pt] rfl rfl (cell_three_new _ _ _ _ _) (by simp [Value.oneCell']) (by unfold maxLen; omega) (by omega) (by simp; omega) ?_; intro v' w4 hown' hgrow _; have HO2 := Lib.hid hown'; have HG := Lib.hid hgrow; clear hown' hgrow))
          go_roundw
          case rel => exact ⟨k + 1, by omega, by go_num, by rw [HDT.out], by rw [HST.out]; exact NewP.snoc HO2.out, (HB13.out.alloc hs3 _).grown HG.out (by simp; omega) (fun g hg => (HUB.out g hg).1)⟩
          case measure => simp [intOf]; omega
      | false =>
        cases f with
        | false =>
          have HST := Lib.hid (HON.out rfl rfl)
          have HDT : Hid (RM.dn M (x1, x2) (k + 1) = false) := Lib.hid (by rw [HDN.out]; rfl)
          clear HDN HOD HOF HON
          go_wp2_with (first
            | (at_builtin; refine wpList_append_own _ rfl _ _ 37 rfl w1.heap.size 57 i0 _ 3 24 Try.underlying37 hi hz0 hz1 hz2 rfl (by decide) (.slice Au l.length cu) _ _ rfl (HU3.out.alloc _) ⟨w3.heap.size, 0, none⟩ 1 1 [.int .i64 p1, .int .i64 p2, .int .i64 pt] rfl rfl (cell_three_new _ _ _ _ _) (by simp [Value.oneCell']) (by unfold maxLen; omega) (by omega) (by simp; omega) ?_; intro v' w4 hown' hgrow _; have HO2 := Lib.hid hown'; have HG := Lib.hid hgrow; clear hown' hgrow))
          go_roundw
          case rel => exact ⟨k + 1, by omega, by go_num, by rw [HDT.out], by rw [HST.out]; exact NewP.snoc HO2.out, (HB13.out.alloc hs3 _).grown HG.out (by simp; omega) (fun g hg => (HUB.out g hg).1)⟩
          case measure => simp [intOf]; omega
        | true =>
          have HST := Lib.hid (HOF.out rfl rfl)
          have HDT : Hid (RM.dn M (x1, x2) (k + 1) = true) := Lib.hid (by rw [HDN.out]; rfl)
          clear HDN HOD HOF HON c1 c2 c3
          go_wp2_with (first
            | (at_builtin; refine wpList_append_own _ rfl _ _ 37 rfl w1.heap.size 57 i0 _ 3 24 Try.underlying37 hi hz0 hz1 hz2 rfl (by decide) (.slice Au l.length cu) _ _ rfl (HU3.out.alloc _) ⟨w3.heap.size, 0, none⟩ 1 1 [.int .i64 x1, .int .i64 x2, .int .i64 t] rfl rfl (cell_three_new _ _ _ _ _) (by simp [Value.oneCell']) (by unfold maxLen; omega) (by omega) (by simp; omega) ?_; intro v' w4 hown' hgrow _
               have hu4 : NewP w1.heap.size w4 v' (l ++ [((x1, x2), t)]) := NewP.snoc hown'
               have hb14 : Below w1.heap.size w1 w4 := (HB13.out.alloc hs3 _).grown hgrow (by simp; omega) (fun g hg => (HUB.out g hg).1)
               have hs4 := hb14.size
               obtain ⟨c0, x0, x1c⟩ := HF.out w4 hb14
               obtain ⟨c1, c2, c3⟩ := HGC.out w4 hb14
               obtain ⟨A4, c4, rfl, _⟩ := hu4.slice
               have HU4 := Lib.hid hu4.own
               have HUB4 := Lib.hid hu4.lt
               have HB14 := Lib.hid hb14
               have hl4 : (l ++ [((x1, x2), t)]).length ≤ 100002 := by simp; omega
               clear hu4 hb14 hown' hgrow HU3 HUB HB13
               generalize l ++ [((x1, x2), t)] = l4 at *)
            | (at_builtin; refine wpList_append_own _ rfl _ _ 37 rfl w1.heap.size 57 i0 _ 3 24 Try.underlying37 hi hz0 hz1 hz2 rfl (by decide) (.slice A4 l4.length c4) _ _ rfl (HU4.out.alloc _) ⟨w4.heap.size, 0, none⟩ 1 1 [.int .i64 p1, .int .i64 p2, .int .i64 pt] rfl rfl (cell_three_new _ _ _ _ _) (by simp [Value.oneCell']) (by unfold maxLen; omega) (by omega) (by simp; omega) ?_; intro v' w5 hown' hgrow _; have HO2 := Lib.hid hown'; have HG := Lib.hid hgrow; clear hown' hgrow))
          go_roundw
          case rel => exact ⟨k + 1, by omega, by go_num, by rw [HDT.out], by rw [HST.out]; exact NewP.snoc HO2.out, (HB14.out.alloc hs4 _).grown HG.out (by simp; omega) (fun g hg => (HUB4.out g hg).1)⟩
          case measure => simp [intOf]; omega
    · obtain rfl : k = M.length := by omega
      have HOY := Lib.hid (fun h => (RM.ot_end_yes (M := M) (x := (x1, x2)) (t := t) h).trans HPUT.out.symm)
      have HOZ := Lib.hid (fun h => (RM.ot_end_no (M := M) (x := (x1, x2)) (t := t) h).trans HPUT.out.symm)
      generalize RM.dn M (x1, x2) M.length = d at *
      generalize RM.ot M (x1, x2) t M.length = l at *
      have hbx := HBX.out.below hbw hrl
      have f0 := hbx.free 0
      have HBR := Lib.hid hbx
      have HAW : Hid (Aft [r] w wr) := Lib.hid (HA1.out.trans ⟨hbw.os, hbw.tape, hbw.output, hbw.size, fun q hq _ => hbw.block q hq⟩)
      cases d with
      | true =>
        have HU : Hid (NewP w1.heap.size wr (.slice Au l.length cu) PL) := Lib.hid (by rw [← HOY.out rfl]; exact hu)
        clear hu hbw hbx HOY HOZ
        go_wp2
        go_ret
        refine ⟨rfl, ⟨⟨_, HBR.out.set 0 _, (HU.out.set HBR.out _).less (by have := HA1.out.size; omega)⟩, HUP.out⟩, HAW.out.setCell (by simp) _ _⟩
      | false =>
        have HZ := Lib.hid (HOZ.out rfl)
        have HU := Lib.hid hu.own
        have HUB := Lib.hid hu.lt
        clear hu hbw hbx HOY HOZ
        go_wp2_with (first
          | (at_builtin; refine wpList_append_own _ rfl _ _ 37 rfl w1.heap.size 57 i0 _ 3 24 Try.underlying37 hi hz0 hz1 hz2 rfl (by decide) (.slice Au l.length cu) _ _ rfl (HU.out.alloc _) ⟨wr.heap.size, 0, none⟩ 1 1 [.int .i64 x1, .int .i64 x2, .int .i64 t] rfl rfl (cell_three_new _ _ _ _ _) (by simp [Value.oneCell']) (by unfold maxLen; omega) (by omega) (by simp; omega) ?_; intro v' w4 hown' hgrow _
             have hu4 : NewP w1.heap.size w4 v' PL := by rw [← HZ.out]; exact NewP.snoc hown'
             have hb14 : Below w1.heap.size w1 w4 := (HBW.out.alloc hs _).grown hgrow (by simp; omega) (fun g hg => (HUB.out g hg).1)
             obtain ⟨c0, _, _⟩ := HF.out w4 hb14
             have hbx4 := HBX.out.below hb14 hrl
             have f4 := hbx4.free 0
             obtain ⟨A4, c4, rfl, _⟩ := hu4.slice
             have HU4 := Lib.hid hu4
             have HB4 := Lib.hid hbx4
             have HA4 : Hid (Aft [r] w w4) := Lib.hid (HA1.out.trans ⟨hb14.os, hb14.tape, hb14.output, hb14.size, fun q hq _ => hb14.block q hq⟩)
             clear hu4 hb14 hbx4 hown' hgrow))
        go_ret
        refine ⟨rfl, ⟨⟨_, HB4.out.set 0 _, (HU4.out.set HB4.out _).less (by have := HA1.out.size; omega)⟩, HUP.out⟩, HA4.out.setCell (by simp) _ _⟩

set_option maxHeartbeats 2000000 in
theorem dforget_any (h : DocAt w r lo L) (hl : L.length ≤ 1000000) (s : Int) : Calls Try.prog 19 #[.pointer (some ⟨r, 0, none⟩), .int .i64 s] w (fun e w' => e = .returned (.int .i64 ((RM.frm L s).length : Nat)) ∧ (∃ lo', DocAt w' r lo' (RM.forget L s)) ∧ Aft [r] w w') := by
  have HFR := Lib.hid (dfrom_any h hl s)
  have HL := Lib.hid (RM.frm_len L s)
  have HCF := Lib.hid (RM.cuts_frm h.up s)
  have H := Lib.hid h
  clear h
  have HCL : Hid (∀ k, (RM.cuts L ((RM.frm L s).take k)).length ≤ L.length) := Lib.hid fun k => by
    generalize (RM.frm L s).take k = q
    induction q using RM.snocR with
    | nil => simp [RM.cuts]
    | snoc l x ih => rw [RM.cuts_snoc]; exact Nat.le_trans (RM.cut_le _ _) ih
  generalize RM.frm L s = l at *
  go_enter Try.func19, Try.ntmps19
  go_wp2_with fail
  refine HFR.out.mono ?_
  rintro e w1 ⟨v, rfl, hv, hb⟩
  obtain ⟨A, cp, rfl, _⟩ := hv.slice
  have HV := Lib.hid hv
  have HB := Lib.hid hb
  have H1 := Lib.hid (H.out.below hb)
  clear hv hb HFR
  have hlen : l.length ≤ 1000000 := Nat.le_trans HL.out hl
  go_wp2_with fail
  go_loopw [13] (fun i wr => ∃ k : Nat, k ≤ l.length ∧ i = .int .i64 k ∧ (∃ lo', DocAt wr r lo' (RM.cuts L (l.take k))) ∧ Aft [r] w1 wr) (fun i _ => l.length - (intOf i).toNat)
  case atStart => exact ⟨0, Nat.zero_le _, rfl, ⟨lo, by simpa [RM.cuts] using H1.out⟩, Aft.refl _ _⟩
  case round =>
    obtain ⟨k, hk, rfl, ⟨lo', hm⟩, hbw⟩ := hrel
    obtain ⟨_, _, _, hbx1, _⟩ := H1.out.rd
    have hvr : NewT w.heap.size wr (.slice A l.length cp) l := HV.out.doc hbx1 hbw
    by_cases hlt : k < l.length
    · obtain ⟨g, cap, e1, _, hgl, c1, c2⟩ := hvr.cell hlt
      injection e1 with e1 _ e1'
      subst e1 e1'
      obtain ⟨y, hy⟩ : ∃ y, l[k] = y := ⟨_, rfl⟩
      rw [hy] at c1 c2
      obtain ⟨y1, y2⟩ := y
      have hb2 := (Below.refl wr.heap.size wr).alloc (Nat.le_refl _) (.cells #[.int .i64 y1, .int .i64 y2] 24)
      have HC := Lib.hid (dcut_any (hm.below hb2) (Nat.le_trans (HCL.out k) hl) (y1, y2))
      rw [show RM.cut (RM.cuts L (l.take k)) (y1, y2) = RM.cuts L (l.take (k + 1)) by rw [List.take_succ_eq_append_getElem hlt, RM.cuts_snoc, hy]] at HC
      have HB2 := Lib.hid (hbw.trans (Aft.of_below hb2))
      unfold refV at HC
      dsimp only at c1 c2
      clear hm hb2 hy hvr hbw hbx1
      go_wp2_with fail
      refine HC.out.mono ?_
      rintro e w3 ⟨rfl, hm3, ha3⟩
      have HM3 := Lib.hid hm3
      have HA3 := Lib.hid (HB2.out.trans ha3)
      clear hm3 ha3
      go_wp2
      go_roundw
      case rel => exact ⟨k + 1, by omega, by go_num, ⟨_, HM3.out⟩, HA3.out⟩
      case measure => simp [intOf]; omega
    · obtain rfl : k = l.length := by omega
      rw [List.take_length, HCF.out] at hm
      have HM := Lib.hid hm
      have HA := Lib.hid ((Aft.of_below HB.out).trans hbw)
      clear hm hvr hbw hbx1
      go_wp2
      go_ret
      exact ⟨rfl, ⟨_, HM.out⟩, HA.out⟩
end
end Go.Proofs.Ytehkcflbdmkjpaa
