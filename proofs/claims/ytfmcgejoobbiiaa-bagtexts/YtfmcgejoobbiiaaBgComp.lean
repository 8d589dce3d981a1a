/- Contract of slices.CompactFunc over a bag's row of numbers. -/
import Derived.Test.YtfmcgejoobbiiaaBgLib
import Derived.Deep.LoopGhost
import Derived.Lib.Hide
import Derived.Deep.QuietTactic
import Derived.BigQuiet
import Derived.IntWalk
namespace Go.Proofs.Ytfmcgejoobbiiaa
open Go.RowKit Go.Lib Go.Sort

theorem cint (x y : Int) : compareInt x y = 0 ↔ x = y := by
  unfold compareInt
  by_cases h1 : x < y
  · rw [if_pos h1]; constructor <;> intro h <;> omega
  · rw [if_neg h1]
    by_cases h2 : x > y
    · rw [if_pos h2]; constructor <;> intro h <;> omega
    · rw [if_neg h2]; constructor <;> intro h <;> omega
theorem same_any (x y : Int) (w : World) : Calls Try.prog 51 #[.int .i64 x, .int .i64 y] w fun e w' => e = .returned (.bool (decide (x = y))) ∧ w = w' := by
  have hc : ∀ W, Calls Try.prog 68 #[.int .i64 x, .int .i64 y] W fun e w' => e = .returned (.int .i64 (compareInt x y)) ∧ w' = W := fun W => Any.cmp_Compare_int Try.l122 x y W
  have hz := Lib.hid (cint x y)
  go_enter Try.func51, Try.ntmps51
  go_wp2_with fail
  refine (hc _).mono ?_
  rintro e w' ⟨rfl, rfl⟩
  generalize compareInt x y = z at hz ⊢
  go_wp2
  go_ret
  refine ⟨ret_bool ?_, rfl⟩
  have := hz.out
  by_cases h : x = y
  · rw [this.2 h]; simp [h]
  · have h2 : z ≠ 0 := fun e => h (this.1 e)
    simp [h, h2]
theorem same_eq (x : Int) (w : World) : Calls Try.prog 51 #[.int .i64 x, .int .i64 x] w fun e w' => e = .returned (.bool true) ∧ w' = w :=
  (same_any x x w).mono fun _ _ ⟨h1, h2⟩ => ⟨by rw [h1]; simp, h2.symm⟩
theorem same_ne {x y : Int} (h : x ≠ y) (w : World) : Calls Try.prog 51 #[.int .i64 x, .int .i64 y] w fun e w' => e = .returned (.bool false) ∧ w' = w :=
  (same_any x y w).mono fun _ _ ⟨h1, h2⟩ => ⟨by rw [h1]; simp [h], h2.symm⟩

/-- The numbers d lie in block g, from its start on; it is all of a row's own, of so many cells. -/
def RA (w : World) (g cap : Nat) (d : Array Int) : Prop := ∃ cur, Whole w g 3 cur ∧ cur.size = cap ∧ ∀ j, j < d.size → cur[j]? = some (.int .i64 d[j]!)
theorem RA.cell {w : World} {g cap : Nat} {d : Array Int} (h : RA w g cap d) {j : Nat} (hj : j < d.size) : w.cell? ⟨g, j, none⟩ = some (.int .i64 d[j]!) ∧ w.frozen? ⟨g, j, none⟩ = false := by
  obtain ⟨cur, h1, h2, h3⟩ := h
  exact ⟨by rw [h1.cell, h3 j hj], h1.free j⟩
theorem RA.put {w : World} {g cap : Nat} {d : Array Int} (h : RA w g cap d) (i : Nat) (hi : i < d.size) (x : Int) : RA (w.setCell ⟨g, i, none⟩ (.int .i64 x)) g cap (d.setIfInBounds i x) := by
  obtain ⟨cur, h1, h2, h3⟩ := h
  refine ⟨_, h1.set i _, by simpa using h2, fun j hj => ?_⟩
  have hj' : j < d.size := by simpa using hj
  have hc : i < cur.size := by have := (Array.getElem?_eq_some_iff.1 (h3 i hi)).1; exact this
  rw [Array.getElem?_setIfInBounds]
  by_cases e : i = j
  · subst e
    rw [if_pos rfl, if_pos hc, getElem!_set_same d i x hj']
  · rw [if_neg e, h3 j hj', getElem!_set_other d i j x (fun q => e q.symm)]
theorem RA.clear {w : World} {g cap : Nat} {d : Array Int} {m : List Int} (h : RA w g cap d) (k : Nat) (vs : List Value) (hk : k + vs.length ≤ cap) (hm : m.length = k) (hd : ∀ j, j < k → m[j]? = some d[j]!) (hkd : k ≤ d.size) : RA (w.setCells g k vs) g cap m.toArray := by
  obtain ⟨cur, h1, h2, h3⟩ := h
  refine ⟨_, h1.setCells vs k, by rw [lay_size, h2], fun j hj => ?_⟩
  have hj' : j < m.length := by simpa using hj
  rw [lay_get? _ _ _ _ (by omega), if_neg (by omega), h3 j (by omega), BG.get_arr m j hj']
  have := hd j (by omega)
  rw [List.getElem?_eq_getElem hj'] at this
  injection this with this
  rw [this]
theorem keeps_next {d : Array Int} {k : Nat} (h : ∀ j, j < k → keeps d j = true) (hk : d[k]! ≠ d[k - 1]!) : ∀ j, j < k + 1 → keeps d j = true := by
  intro j hj
  by_cases e : j = k
  · subst e; exact keeps_pos hk
  · exact h j (by omega)

set_option maxHeartbeats 4000000 in
set_option maxRecDepth 100000 in
theorem compact_any (g cap : Nat) (d : Array Int) (w : World) (hH : RA w g cap d) (hsz : d.size ≤ 1000000) (hcap : d.size ≤ cap) :
    Calls Try.prog 50 #[.slice (some ⟨g, 0, none⟩) d.size cap, .func (.func 51) #[] #[]] w fun e w' => e = .returned (.slice (some ⟨g, 0, none⟩) (compactUpTo d d.size).length cap) ∧ Aft [g] w w' ∧ RA w' g cap (compactUpTo d d.size).toArray := by
  have HS : Hid ((∀ j, j < d.size → keeps d j = true) → compactUpTo d d.size = d.toList) := Lib.hid fun hall => by rw [compactUpTo_all d _ hall, range_map_get]
  have eg : ∀ args w, (callFunc 51 args).run Try.prog w = .ok (.enter 51 args) w := enters_of Try.func51 (by kernel_rfl) rfl
  have HH := Lib.hid hH
  clear hH
  by_cases h2 : d.size < 2
  · go_enter Try.func50, Try.ntmps50
    go_wp2
    go_ret
    have e := HS.out (fun j hj => keeps_lt_one d j (by omega))
    rw [e]
    exact ⟨by simp, Aft.refl _ _, HH.out⟩
  · go_enter Try.func50, Try.ntmps50
    go_wp2
    go_loopg [5] d.size (fun gg s3 wr => ∃ k : Nat, 1 ≤ k ∧ k ≤ d.size ∧ Hid (d.size - k ≤ gg) ∧ s3 = .int .i64 k ∧ Hid (Aft [g] w wr) ∧ Hid (RA wr g cap d) ∧ Hid (∀ j, j < k → keeps d j = true))
    case atStart => exact ⟨1, Nat.le_refl _, by omega, Lib.hid (by omega), rfl, Lib.hid (Aft.refl _ _), HH, Lib.hid (keeps_lt_one d)⟩
    case round =>
      obtain ⟨k, hk1, hk, HG, rfl, HO, HR, HA⟩ := hrel
      by_cases hlt : k < d.size
      · obtain ⟨c0, _⟩ := HR.out.cell hlt
        obtain ⟨e0, _⟩ := HR.out.cell (j := k - 1) (by omega)
        have i1 : ((k : Int) - 1).toNat = k - 1 := by omega
        have j1 : IntKind.i64.wrap ((k : Int) - 1) = (k : Int) - 1 := IntWalk.i64_in _ (by omega)
        have j2 : (1 : Int) ≤ k := by omega
        have j3 : (k : Int) - 1 < (d.size : Int) := by omega
        have j7 : (0 : Int) < (k : Int) := by omega
        generalize hx : d[k]! = x at c0
        generalize hy : d[k - 1]! = y at e0
        have HB := Lib.hid (And.intro hx hy)
        clear hx hy
        by_cases hdup : x = y
        · subst hdup
          go_wp2_with fail
          go_quiet ((go_at_call 51; exact Calls.quiet_of_same (same_eq _ _)))
          have hkc : ¬ k = cap := by omega
          go_wp2
          clear c0 e0
          go_loopg [5, 7] d.size (fun gg s3 s5 wr => ∃ (kk k2 : Nat) (dk : Array Int), s3 = .int .i64 kk ∧ s5 = .int .i64 k2 ∧ 1 ≤ k2 ∧ k + k2 ≤ d.size ∧ Hid (d.size - (k + k2) ≤ gg) ∧ Hid (Aft [g] w wr) ∧ Hid (RA wr g cap dk) ∧ Hid (CompInv d (k + k2) kk dk))
          case atStart => exact ⟨k, 1, d, rfl, rfl, Nat.le_refl _, by omega, Lib.hid (by omega), Lib.hid (HO.out.drewN _), Lib.hid HR.out, Lib.hid (CompInv.start HA.out (keeps_neg (by omega) (by rw [HB.out.1, HB.out.2])))⟩
          case round =>
            obtain ⟨kk, k2, dk, rfl, rfl, h1, hle, HG2, HO2, HR2, HI⟩ := hrel
            have hkk := HI.out.lt
            have hds := HI.out.size
            by_cases hlt2 : k + k2 < d.size
            · obtain ⟨c0, _⟩ := HR2.out.cell (j := k + k2) (by omega)
              obtain ⟨e0, _⟩ := HR2.out.cell (j := k + k2 - 1) (by omega)
              obtain ⟨s0, t0⟩ := HR2.out.cell (j := kk) (by omega)
              rw [HI.out.high (k + k2) (by omega)] at c0
              rw [HI.out.high (k + k2 - 1) (by omega), show k + k2 - 1 = k + (k2 - 1) by omega] at e0
              have i2 : ((k2 : Int) - 1).toNat = k2 - 1 := by omega
              have j4 : IntKind.i64.wrap ((k2 : Int) - 1) = (k2 : Int) - 1 := IntWalk.i64_in _ (by omega)
              have j5 : (1 : Int) ≤ k2 := by omega
              have j6 : (k2 : Int) - 1 < ((d.size - k : Nat) : Int) := by omega
              have j8 : (0 : Int) < (k2 : Int) := by omega
              have j9 : (k2 : Int) - 1 < (d.size : Int) - (k : Int) := by omega
              generalize hu : d[k + k2]! = u at c0
              generalize hv : d[k + (k2 - 1)]! = v at e0
              have HC := Lib.hid (And.intro hu hv)
              clear hu hv
              generalize dk[kk]! = o0 at s0
              have HV : Hid (d[k + k2 - 1]! = v) := Lib.hid (by rw [show k + k2 - 1 = k + (k2 - 1) by omega]; exact HC.out.2)
              by_cases huv : u = v
              · subst huv
                go_wp2_with fail
                go_quiet ((go_at_call 51; exact Calls.quiet_of_same (same_eq _ _)))
                go_wp2
                go_roundg (d.size - (k + (k2 + 1)))
                case measure => have := HG2.out; omega
                case rel => exact ⟨kk, k2 + 1, dk, rfl, by go_num, by omega, by omega, Lib.hid (Nat.le_refl _), Lib.hid (HO2.out.drewN _), Lib.hid HR2.out, Lib.hid (HI.out.skip (keeps_neg (by omega) (by rw [HC.out.1, HV.out])))⟩
              · have HD := Lib.hid huv
                clear huv
                have HK : Hid (CompInv d (k + (k2 + 1)) (kk + 1) (dk.setIfInBounds kk u)) := Lib.hid (by
                  have := HI.out.keep hlt2 (keeps_pos (by rw [HC.out.1, HV.out]; exact HD.out))
                  rwa [HC.out.1] at this)
                go_wp2_with fail
                go_quiet ((go_at_call 51; exact Calls.quiet_of_same (same_ne HD.out _)))
                go_wp2
                go_roundg (d.size - (k + (k2 + 1)))
                case measure => have := HG2.out; omega
                case rel => exact ⟨kk + 1, k2 + 1, _, by go_num, by go_num, by omega, by omega, Lib.hid (Nat.le_refl _), Lib.hid ((HO2.out.drewN nq).setCell (by simp) _ _), Lib.hid (RA.put (w := wr.drewN nq) HR2.out kk (by omega) u), HK⟩
            · have hend : k + k2 = d.size := by omega
              have hcl : ∀ ty, (Builtin.clear_ #[22] ty #[.slice (some ⟨g, 0 + kk, none⟩) (d.size - kk) (cap - kk)]).run Try.prog wr = .ok (.tuple #[]) (wr.setCells g (0 + kk) (List.replicate (d.size - kk) (.int .i64 0))) :=
                fun ty => Lib.run_clear_slice wr _ _ ty _ Try.underlying22 Try.zeroValue3 rfl rfl g (0 + kk) _ _ (by omega) (fun j hj => by rw [show 0 + kk + j = kk + j by omega, (HR2.out.cell (j := kk + j) (by omega)).1]; rfl) (fun j hj => by rw [show 0 + kk + j = kk + j by omega]; exact (HR2.out.cell (j := kk + j) (by omega)).2)
              simp only [Nat.zero_add] at hcl
              have hkc2 : ¬ kk = cap := by omega
              go_wp2
              go_ret
              have hI := HI.out
              rw [hend] at hI
              refine ⟨by rw [hI.len]; rfl, HO2.out.setCells (by simp) _ _, ?_⟩
              exact HR2.out.clear kk _ (by simp; omega) hI.len (fun j hj => hI.low j hj) (by omega)
        · have HD := Lib.hid hdup
          clear hdup
          go_wp2_with fail
          go_quiet ((go_at_call 51; exact Calls.quiet_of_same (same_ne HD.out _)))
          go_wp2
          go_roundg (d.size - (k + 1))
          case measure => have := HG.out; omega
          case rel => exact ⟨k + 1, by omega, by omega, Lib.hid (Nat.le_refl _), by go_num, Lib.hid (HO.out.drewN _), Lib.hid HR.out, Lib.hid (keeps_next HA.out (by rw [HB.out.1, HB.out.2]; exact HD.out))⟩
      · have : k = d.size := by omega
        subst this
        go_wp2
        go_ret
        have e := HS.out HA.out
        rw [e]
        exact ⟨by simp, HO.out, HR.out⟩

theorem compact_tiny (p : Option Addr) (c : Nat) (f : Value) (w : World) : Calls Try.prog 50 #[.slice p 0 c, f] w fun e w' => e = .returned (.slice p 0 c) ∧ w = w' := by
  go_enter Try.func50, Try.ntmps50
  go_wp2
  go_ret
  exact ⟨rfl, rfl⟩
theorem compact_row (r : Nat) (v : Value) (l : List Int) (w : World) (h : Row 3 (Value.int .i64) w r v l) (hl : l.length ≤ 1000000) :
    Calls Try.prog 50 #[v, .func (.func 51) #[] #[]] w fun e w' => ∃ v', e = .returned v' ∧ Row 3 (Value.int .i64) w' r v' (compactUpTo l.toArray l.length) ∧ Aft [r] w w' := by
  rcases h.form with ⟨rfl, rfl⟩ | ⟨cap, cur, rfl, hh, hn, hm, hs, hc⟩
  · refine (compact_tiny none 0 _ w).mono ?_
    rintro e w' ⟨rfl, rfl⟩
    exact ⟨_, rfl, by simpa [compactUpTo] using h, Aft.refl _ _⟩
  · have hcon := compact_any r cap l.toArray w ⟨cur, hh, hs, fun j hj => by
      have hj' : j < l.length := by simpa using hj
      rw [hc j hj', List.getElem?_map, List.getElem?_eq_getElem hj', BG.get_arr l j hj']; rfl⟩ (by simpa using hl) (by simpa using hn)
    simp only [List.size_toArray] at hcon
    refine Calls.mono hcon ?_
    rintro e w' ⟨rfl, ha, cur', h1, h2, h3⟩
    have hle : (compactUpTo l.toArray l.length).length ≤ l.length := by
      unfold compactUpTo
      rw [List.length_map]
      have := List.length_filter_le (keeps l.toArray) (List.range l.length)
      simpa using this
    refine ⟨_, rfl, Row.mk' h1 (by omega) hm h2 (fun j hj => ?_), ha⟩
    rw [h3 j (by simpa using hj), BG.get_arr _ j hj, List.getElem?_map, List.getElem?_eq_getElem hj]; rfl

theorem inOrder_any (r : Nat) (v : Value) (l : List Int) (w : World) (h : Row 3 (Value.int .i64) w r v l) (hl : l.length ≤ 1000000) :
    Calls Try.prog 34 #[v] w fun e w' => ∃ v', e = .returned v' ∧ Row 3 (Value.int .i64) w' r v' (BG.norm l) ∧ Aft [r] w w' := by
  have HH := Lib.hid h
  clear h
  go_enter Try.func34, Try.ntmps34
  go_wp2_with fail
  refine (sort_any r v l _ HH.out hl).mono ?_
  rintro e w1 ⟨rfl, h1, a1⟩
  have H1 := Lib.hid h1
  have A1 := Lib.hid a1
  clear h1 a1
  go_wp2_with fail
  refine (compact_row r v (BG.row l) _ H1.out (by rw [BG.row_len]; exact hl)).mono ?_
  rintro e w2 ⟨v', rfl, h2, a2⟩
  have H2 := Lib.hid h2
  have A2 := Lib.hid (A1.out.trans a2)
  clear h2 a2
  go_wp2
  go_ret
  exact ⟨v', rfl, H2.out, A2.out⟩
end Go.Proofs.Ytfmcgejoobbiiaa
