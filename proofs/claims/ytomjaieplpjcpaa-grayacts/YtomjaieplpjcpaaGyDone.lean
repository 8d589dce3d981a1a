/- The contract of Done: a map ranged over in whatever order, sorted. -/
import Derived.Test.YtomjaieplpjcpaaGyCall
import Derived.Test.YtomjaieplpjcpaaGyShelf
import Derived.Maps.RangeWalk
import Derived.Sort.OwnSorted
import Derived.Lib.SlKeysI
import Derived.OpenShut
namespace Go.Proofs.Ytomjaieplpjcpaa
open Go.RowKit Go.Lib Go.Sort Go.Maps Go.Shelf

/-- slices.Sort turns the row in its place. -/
theorem gsort_any {w : World} {base : Nat} {v : Value} {l : List Int} (h : NewZ base w v l) (hl : l.length ≤ 1000000) :
    Calls Try.prog 30 #[v] w fun e w' => e = .returned (.tuple #[]) ∧ NewZ base w' v (BG.row l) ∧ w.grownBy w' v.ownBlock := by
  rcases h.form with ⟨rfl, rfl⟩ | ⟨r, cap, cur, rfl, hb, hh, hn, hm, hs, hc⟩
  · refine Calls.mono (Any.slices_Sort_int_none Try.l189g none 0 w) ?_
    rintro e w' ⟨rfl, rfl⟩
    exact ⟨rfl, by simpa [BG.row] using h, ⟨rfl, rfl, rfl, Nat.le_refl _, fun _ _ _ => rfl⟩⟩
  · refine Calls.mono (Any.slices_Sort_int Try.l189g r 0 cap l w (NewZ.holds hh hc) hh.lt (by omega)) ?_
    rintro e w' ⟨rfl, n, os, rfl⟩
    refine ⟨rfl, ?_, grownBy_sortedI _⟩
    have ho := ownsRow_sortedI (w := w) (base := base) (g := r) (cap := cap) (n := n) (e := 3) (os := os) (cur := cur) (ss := l) (ts := BG.row l) (BG.row_len l) hb hh hn hm (by omega)
    unfold NewZ
    rw [BG.row_len]
    exact ho

theorem gdone_nil (w : World) : Calls Try.prog 15 #[.pointer none] w fun e w' => e = .returned (.slice none 0 0) ∧ w = w' := by
  go_enter Try.func15, Try.ntmps15
  go_wp2
  go_ret
  exact ⟨rfl, rfl⟩

/-- Those that are done and no longer to come. -/
structure Got (s : GY.S) (left : Lit → Bool) (ss : List Int) : Prop where
  nd : ss.Nodup
  mem : ∀ x, x ∈ ss ↔ x ∈ s.D ∧ left (.int .i64 x) = false
section
variable {s : GY.S} {left : Lit → Bool} {ss : List Int} {x : Int}
theorem same_int (x y : Int) : (Lit.int .i64 x).sameKey (.int .i64 y) = decide (x = y) := by simp [Lit.sameKey]
theorem Got.yes (h : Got s left ss) (hx : x ∈ s.D) (hl : left (.int .i64 x) = true) : Got s (fun z => left z && !z.sameKey (.int .i64 x)) (ss ++ [x]) := by
  refine ⟨GY.snoc_nodup h.nd fun k => ?_, fun y => ?_⟩
  · have := ((h.mem x).1 k).2
    rw [hl] at this
    cases this
  · show _ ↔ y ∈ s.D ∧ (left (.int .i64 y) && !(Lit.int .i64 y).sameKey (.int .i64 x)) = false
    rw [same_int, List.mem_append, List.mem_singleton, h.mem]
    by_cases e : y = x
    · subst e
      simp [hx]
    · simp [e]
theorem Got.no (h : Got s left ss) (hx : x ∉ s.D) : Got s (fun z => left z && !z.sameKey (.int .i64 x)) ss := by
  refine ⟨h.nd, fun y => ?_⟩
  show _ ↔ y ∈ s.D ∧ (left (.int .i64 y) && !(Lit.int .i64 y).sameKey (.int .i64 x)) = false
  rw [same_int, h.mem]
  by_cases e : y = x
  · subst e
    simp [hx]
  · simp [e]
theorem Got.len (h : Got s left ss) : ss.length ≤ s.D.length := GM.len_of_sub h.nd fun x hx => ((h.mem x).1 hx).1
theorem Got.end_ (h : Got s left ss) (g : GY.Good s) (hl : ∀ kl, left kl = false) : BG.row ss = BG.row s.D := by
  have hp : ss.Perm s.D := (List.perm_ext_iff_of_nodup h.nd g.d).2 fun x => by rw [h.mem x]; simp [hl]
  exact mergeSort_of_perm_i hp
end

set_option maxHeartbeats 2000000 in
set_option maxRecDepth 100000 in
theorem gdone_any {w : World} {base b : Nat} {s : GY.S} (h : Gy w base b s) (hn : GY.num s ≤ 1000000) :
    Calls Try.prog 15 #[pv b] w fun e w' => ∃ v, e = .returned v ∧ NewZ w.heap.size w' v (BG.row s.D) ∧ Below w.heap.size w w' := by
  obtain ⟨i0, hi0, hz0, hz1, hz2⟩ := info_parts infoZ
  obtain ⟨m, e, P, bf, bh, h⟩ := h
  have c0 := h.c0
  obtain ⟨D, hown, hD1, hD2⟩ := h.map
  have hml := hown.lt
  have hnD : s.D.length ≤ 1000000 := by unfold GY.num at hn; omega
  have HH := Lib.hid h
  have HD1 := Lib.hid hD1
  have HD2 := Lib.hid hD2
  obtain ⟨c, hc⟩ : ∃ c, c = GY.num s := ⟨_, rfl⟩
  rw [← hc] at hown
  clear h hD1 hD2 hn hc
  go_enter Try.func15, Try.ntmps15
  go_wp2_with (first
    | (at_range; refine wpList_range_own _ rfl _ 54 rfl 3 51 gyLaw Try.underlying54 _ m c D rfl hown ?_; intro w0 hrg0 hg0 hs0)
    | go_in)
  go_loopw [3] (fun v wr => ∃ (left : Lit → Bool) (cnt : Nat) (ss : List Int), wr.ranges Try.prog 3 ptrElem m w.heap.size c D left cnt ∧ Hid (Got s left ss) ∧ Hid (NewZ w.heap.size wr v ss) ∧ Hid (Below w.heap.size w wr))
    (fun _ wr => wr.rangeLeft m w.heap.size)
  case atStart =>
    refine ⟨_, _, [], hrg0, Lib.hid ⟨List.nodup_nil, fun x => ?_⟩, Lib.hid (NewZ.nil _ _), Lib.hid ((Below.refl _ _).grown hg0 (Nat.le_refl _) (fun j hj => by cases hj))⟩
    constructor
    · intro k; cases k
    · rintro ⟨k1, k2⟩
      have hcx : GY.col s x ≠ 0 := by rw [GY.col_d HH.out.good k1]; decide
      rw [HD1.out x (HH.out.ok x hcx), if_neg hcx] at k2
      cases k2
  case round =>
    obtain ⟨left, cnt, ss, hrg, HG, HV, HB⟩ := hrel
    go_wp2_with (first
      | (at_next; refine wpList_next_ranges _ rfl _ rfl 3 gyLaw ptrElem (Value.int .i64) Value.pointer (fun key kl hk => by obtain ⟨x, hx, _⟩ := Maps.keyOf_int_inv Try.underlying3 hk; exact ⟨x, hx⟩) (fun v y hv => by rcases ptrElem_inv hv with ⟨k, rfl, _⟩ | ⟨rfl, _⟩ <;> exact ⟨_, rfl⟩) m w.heap.size c D left cnt rfl hrg ?_ ?_)
      | go_in)
    · intro hc0 hl0
      have hS := Lib.hid (gsort_any HV.out (by have := HG.out.len; omega))
      have hE := HG.out.end_ HH.out.good hl0
      rw [hE] at hS
      go_wp2_with fail
      refine hS.out.mono ?_
      rintro ex w2 ⟨rfl, h1, h2⟩
      have H1 := Lib.hid h1
      have H2 := Lib.hid (HB.out.grown h2 HB.out.size (fun j hj => (HV.out.own.lt j hj).1))
      clear h1 h2
      go_wp2
      go_ret
      exact ⟨_, rfl, H1.out, H2.out⟩
    · intro x o kl yd yp w1 cnt1 hkey hlk hv hat hrg1 hlt hg1 hs1 hen
      obtain ⟨x', ex, rfl, hwf⟩ := Maps.keyOf_int_inv Try.underlying3 hkey
      cases ex
      have hix : I64 x := by have := bounds_i64 hwf; unfold I64; omega
      have hhas := has_true_of_atKey hat
      have hcx : GY.col s x ≠ 0 := fun k => by
        rw [HD1.out x hix, if_pos k] at hhas
        cases hhas
      have hat2 := HD2.out x (P x) hix (if_neg hcx) .nil
      rw [hat .nil] at hat2
      have ho : Value.pointer o = pv (P x) := ptrElem_some (ps := yp) (by rw [hv, ← hat2])
      injection ho with ho
      subst ho
      obtain ⟨p, q, hk⟩ := HH.out.known hcx
      have hlt2 := hk.lt
      have H1 := Lib.hid (HV.out.grown hg1 (.inr (row_ne_iter HV.out.own hrg).symm))
      have HB1 := Lib.hid (HB.out.grown hg1 HB.out.size (fun j hj => by cases hj; exact Nat.le_refl _))
      have d1 : w1.cell? ⟨P x, 1, none⟩ = some (.int .i64 ((GY.col s x : Nat) : Int)) := by rw [HB1.out.cell (p := ⟨P x, 1, none⟩) hlt2, hk.cell]; rfl
      have hlen := HG.out.len
      have hsz := HB1.out.size
      have HRG := Lib.hid hrg1
      rcases GY.col_lt s x with hc | hc | hc
      · exact absurd hc hcx
      · have HGn := Lib.hid (HG.out.no (x := x) (fun k => by rw [GY.col_d HH.out.good k] at hc; cases hc))
        rw [hc] at d1
        generalize P x = g at d1 hen
        clear hs1 hat hat2 hv hkey hk hhas hix hwf hcx hlt2 hlk hc hg1 hrg1 hlen hsz
        go_wp2
        go_roundw
        case rel => exact ⟨_, cnt1, ss, HRG.out, HGn, H1, HB1⟩
        case measure => rw [HRG.out.left_eq, hrg.left_eq]; exact hlt
      · have HGn := Lib.hid (HG.out.yes (GY.d_col hc).1 hlk)
        rw [hc] at d1
        generalize P x = g at d1 hen
        clear hs1 hat hat2 hv hkey hk hhas hix hwf hcx hlt2 hlk hc hg1 hrg1
        go_wp2_with (first
          | (at_builtin; refine wpList_append_own _ rfl _ _ 33 rfl w.heap.size 3 i0 _ 1 8 Try.underlying33 hi0 hz0 hz1 hz2 rfl (by decide) _ _ _ rfl (H1.out.own.alloc _) ⟨w1.heap.size, 0, none⟩ 1 1 [.int .i64 x] rfl rfl (cell_one_new _ _ _) (by simp [Value.oneCell']) (by unfold maxLen; omega) (by omega) (by simp; omega) ?_; intro v' w3 hown' hgrow _; have HO := Lib.hid hown'; have HG3 := Lib.hid hgrow; clear hown' hgrow))
        have hrg3 : w3.ranges Try.prog 3 ptrElem m w.heap.size c D (fun z => left z && !z.sameKey (.int .i64 x)) cnt1 := World.ranges.kept (HRG.out.alloc (.cells #[.int .i64 x] 3)) HG3.out (row_ne_low (H1.out.own.alloc (.cells #[.int .i64 x] 3)) hml) (row_ne_iter (H1.out.own.alloc (.cells #[.int .i64 x] 3)) (HRG.out.alloc (.cells #[.int .i64 x] 3)))
        go_roundw
        case rel => exact ⟨_, cnt1, ss ++ [x], hrg3, HGn, Lib.hid (NewZ.snoc HO.out), Lib.hid ((HB1.out.alloc hsz _).grown HG3.out (by simp; omega) (fun j hj => (H1.out.own.lt j hj).1))⟩
        case measure => rw [hrg3.left_eq, hrg.left_eq]; exact hlt
end Go.Proofs.Ytomjaieplpjcpaa
