/- Contract of Copy of the document's store, where the words are there. -/
import Derived.Test.YtpddiakpnibcgaaDoorStRef2
namespace Go.Proofs.YtpddiakpnibcgaaDoor
open Go.RowKit

/-- Words as values. -/
def wvals (wd : Nat → Nat) (f k : Nat) : List Value := (List.range k).map fun i => Value.int .u64 (wd (f + i) : Nat)
theorem wvals_len (wd : Nat → Nat) (f k : Nat) : (wvals wd f k).length = k := by simp [wvals]
theorem wvals_snoc (wd : Nat → Nat) (f k : Nat) : wvals wd f (k + 1) = wvals wd f k ++ [Value.int .u64 (wd (f + k) : Nat)] := by
  simp [wvals, List.range_succ]
theorem wvals_at (wd : Nat → Nat) (f k j : Nat) (h : j < k) : (wvals wd f k)[j]? = some (Value.int .u64 (wd (f + j) : Nat)) := by
  simp [wvals, h]
/-- A row of the call's own, cell by cell. -/
theorem owns_cells {w : World} {base n : Nat} {e : TypeId} {u : Value} {vs : List Value} (h : w.ownsRow base e 1 u n vs) (hl : vs.length = n) (hn : 0 < n) :
    ∃ g cap, u = .slice (some ⟨g, 0, none⟩) n cap ∧ base ≤ g ∧ g < w.heap.size ∧ ∀ j v, vs[j]? = some v → w.cell? ⟨g, j, none⟩ = some v := by
  have hlt := h.lt
  obtain ⟨h1, h2⟩ := h
  rcases h2 with ⟨rfl, h0⟩ | ⟨g, cap, cur, rfl, hg, hh, hn', hm, hs, ht⟩
  · omega
  · refine ⟨g, cap, rfl, (hlt _ rfl).1, (hlt _ rfl).2, fun j v hv => ?_⟩
    have hj : j < vs.length := (List.getElem?_eq_some_iff.1 hv).1
    rw [← ht, List.getElem?_take, if_pos (by omega)] at hv
    simpa [World.cell?, hh] using hv

section
variable {w w' : World} {R : RB} {C K : Nat} {own wd : Nat → Nat}
def RCopyPost (w : World) (R : RB) (C K : Nat) (own wd : Nat → Nat) (t f m : Nat) (e : Ending) (w' : World) : Prop :=
  (e = .returned (.int .i64 17) ∧ Below w.heap.size w w' ∧ (anyFree own K t m = true ∨ anyFree own K f m = true)) ∨
  (e = .returned (.int .i64 0) ∧ (anyFree own K t m = false ∧ anyFree own K f m = false) ∧ ∃ w1, Below w.heap.size w w1 ∧ OnlyAt R.p w1 w' ∧ RfAt w' R C K own (cpWd wd t f m))
def RCopyAt (w : World) (K : Nat) (own wd : Nat → Nat) (t f m : Nat) (u x : Value) (wr : World) : Prop :=
  ∃ k : Nat, k ≤ m ∧ x = .int .i64 k ∧ wr.ownsRow w.heap.size 30 1 u k (wvals wd f k) ∧ Below w.heap.size w wr ∧ ∀ j, j < k → own ((t + j) / K) ≠ 0 ∧ own ((f + j) / K) ≠ 0
def RCopyIn (w1 : World) (R : RB) (C K : Nat) (own wd : Nat → Nat) (t f m : Nat) (x : Value) (wr : World) : Prop :=
  ∃ k : Nat, k ≤ m ∧ x = .int .i64 k ∧ OnlyAt R.p w1 wr ∧ RfAt wr R C K own (cpWd wd t f k)
set_option maxHeartbeats 4000000 in
theorem rcopy_in (h : RfAt w R C K own wd) (t f m : Nat) (ht : t + m ≤ C * K) (hf : f + m ≤ C * K) {lo : Nat} (hR : R.within lo w.heap.size) :
    Calls Tryd.prog 33 #[.pointer (some ⟨R.m, 0, none⟩), .int .i64 t, .int .i64 f, .int .i64 m] w (RCopyPost w R C K own wd t f m) := by
  obtain ⟨i0, hi, hz0, hz1, hz2⟩ := info_parts infoU64
  have hM := h.all
  have h1 := rin_any h (t : Int) (m : Int)
  have h2 := rin_any h (f : Int) (m : Int)
  rw [(inB_iff (C * K) (t : Int) (m : Int)).2 (by omega)] at h1
  rw [(inB_iff (C * K) (f : Int) (m : Int)).2 (by omega)] at h2
  have H1 := Lib.hid h1
  have H2 := Lib.hid h2
  have HH := Lib.hid h
  have HR := Lib.hid hR
  have hmlt := hR.1.2
  clear h1 h2 h hR
  go_enter Tryd.func33, Tryd.ntmps33
  go_wp2_with (first
    | (go_at_call 48; first | (with_reducible refine H1.out.mono ?_; rintro e w' ⟨rfl, rfl⟩) | (with_reducible refine H2.out.mono ?_; rintro e w' ⟨rfl, rfl⟩)))
  clear H1 H2
  go_loopw [11, 12] (RCopyAt w K own wd t f m) (fun _ x _ => m - (intOf x).toNat)
  case atStart => exact ⟨0, Nat.zero_le _, rfl, World.ownsRow_nil _ _ _ _, Below.refl _ _, fun j hj => absurd hj (by omega)⟩
  case round =>
    obtain ⟨k, hk, rfl, hown, hbw, hall⟩ := hrel
    have HALL := Lib.hid hall
    have hr := HH.out.below hbw HR.out
    clear hall
    by_cases hlt : k < m
    · have a1 := rat_any hr ((t : Int) + (k : Int)) (by omega)
      have a2 := rat_any hr ((f : Int) + (k : Int)) (by omega)
      rw [show addrE own C K ((t : Int) + (k : Int)) = if own ((t + k) / K) = 0 then 17 else 0 by rw [show (t : Int) + (k : Int) = ((t + k : Nat) : Int) by omega]; exact addrE_in (by omega)] at a1
      rw [show addrE own C K ((f : Int) + (k : Int)) = if own ((f + k) / K) = 0 then 17 else 0 by rw [show (f : Int) + (k : Int) = ((f + k : Nat) : Int) by omega]; exact addrE_in (by omega)] at a2
      by_cases o1 : own ((t + k) / K) = 0
      · rw [if_pos o1] at a1
        have HF := Lib.hid ((anyFree_iff own K t m).2 ⟨k, hlt, o1⟩)
        obtain ⟨y, hy⟩ : ∃ y : Int, y = if own ((f + k) / K) = 0 then 17 else 0 := ⟨_, rfl⟩
        rw [← hy] at a2
        have A1 := Lib.hid a1
        have A2 := Lib.hid a2
        clear a1 a2 o1 hy hr hown
        go_wp2_with (first
          | (go_at_call 32; first | (with_reducible refine A1.out.mono ?_; rintro e w' ⟨rfl, rfl⟩) | (with_reducible refine A2.out.mono ?_; rintro e w' ⟨rfl, rfl⟩)))
        go_ret
        exact .inl ⟨rfl, hbw, .inl HF.out⟩
      · rw [if_neg o1] at a1
        by_cases o2 : own ((f + k) / K) = 0
        · rw [if_pos o2] at a2
          have HF := Lib.hid ((anyFree_iff own K f m).2 ⟨k, hlt, o2⟩)
          have A1 := Lib.hid a1
          have A2 := Lib.hid a2
          clear a1 a2 o1 o2 hr hown
          go_wp2_with (first
            | (go_at_call 32; first | (with_reducible refine A1.out.mono ?_; clear A1; rintro e w' ⟨rfl, rfl⟩) | (with_reducible refine A2.out.mono ?_; rintro e w' ⟨rfl, rfl⟩)))
          go_ret
          exact .inl ⟨rfl, hbw, .inr HF.out⟩
        · rw [if_neg o2] at a2
          have A1 := Lib.hid a1
          have A2 := Lib.hid a2
          have O1 := Lib.hid o1
          have O2 := Lib.hid o2
          have c0 := hr.words
          have c1 := hr.wrow.cell (f + k) (by omega)
          have hs := hbw.size
          have HO := Lib.hid hown
          have hub := Lib.hid hown.lt
          have hq : ((f : Int) + (k : Int)).toNat = f + k := by omega
          have y5 : (f : Int) + (k : Int) < ((C * K : Nat) : Int) := by omega
          have HS := Lib.hid (wvals_snoc wd f k)
          clear a1 a2 o1 o2 hr hown
          generalize hMM : C * K = M at *
          have HMM := Lib.hid hMM
          clear hMM
          generalize hX : wd (f + k) = x at *
          have HX := Lib.hid hX
          clear hX
          go_wp2_with (first
            | (go_at_call 32; first | (with_reducible refine A1.out.mono ?_; clear A1; rintro e w' ⟨rfl, rfl⟩) | (with_reducible refine A2.out.mono ?_; rintro e w' ⟨rfl, rfl⟩))
            | (at_builtin; refine wpList_append_own _ rfl _ _ 37 rfl w.heap.size 30 i0 _ 1 8 Tryd.underlying37 hi hz0 hz1 hz2 rfl (by decide) _ _ _ rfl (HO.out.alloc _) ⟨wr.heap.size, 0, none⟩ 1 1 [.int .u64 (x : Nat)] rfl rfl (cell_one_new _ _ _) (by simp [Value.oneCell']) (by unfold maxLen; omega) (by omega) (by simp; omega) ?_; intro v' w1 hown' hgrow _; have HO2 := Lib.hid hown'; have HG := Lib.hid hgrow; clear hown' hgrow))
          go_roundw
          case rel =>
            refine ⟨k + 1, by omega, by go_num, ?_, (hbw.alloc hs _).grown HG.out (by simp; omega) (fun g hg => (hub.out g hg).1), fun j hj => ?_⟩
            · rw [HS.out]
              exact HO2.out
            · by_cases e : j = k
              · subst e; exact ⟨O1.out, O2.out⟩
              · exact HALL.out j (by omega)
          case measure => simp [intOf]; omega
    · obtain rfl : k = m := by omega
      have e1 := Lib.hid ((anyFree_not own K t k).2 fun j hj => (HALL.out j hj).1)
      have e2 := Lib.hid ((anyFree_not own K f k).2 fun j hj => (HALL.out j hj).2)
      have HO := Lib.hid hown
      have HR1 := Lib.hid hr
      have HBW := Lib.hid hbw
      clear hr hown hbw
      go_wp2_with fail
      go_loopw [15] (RCopyIn wr R C K own wd t f k) (fun x _ => k - (intOf x).toNat)
      case atStart => exact ⟨0, Nat.zero_le _, rfl, OnlyAt.refl _ _, HR1.out.congr (fun q => rfl) (fun q => by unfold cpWd; rw [if_neg (by omega)])⟩
      case round =>
        obtain ⟨j, hj, rfl, ho2, hr2⟩ := hrel
        by_cases hl2 : j < k
        · obtain ⟨g, cap, rfl, hg1, hg2, hgc⟩ := owns_cells HO.out (wvals_len wd f k) (by omega)
          have hne : g ≠ R.p := by have := HR.out.2.1.2; omega
          have b3 := (ho2.cell (p := ⟨g, j, none⟩) hne).trans (hgc j _ (wvals_at wd f k j hl2))
          have b0 := hr2.words
          have b1 := hr2.wrow.cell (t + j) (by omega)
          have b2 := hr2.wrow.thaw (t + j) (by omega)
          have hs := hr2.wrote (t + j) (wd (f + j))
          have HS := Lib.hid (hs.congr (wd' := cpWd wd t f (j + 1)) (fun q => rfl) (fun q => by
            show (if q = t + j then wd (f + j) else cpWd wd t f j q) = cpWd wd t f (j + 1) q
            unfold cpWd
            by_cases e : q = t + j
            · rw [if_pos e, if_pos (by omega), show f + (q - t) = f + j by omega]
            · rw [if_neg e]
              by_cases e2 : t ≤ q ∧ q < t + j
              · rw [if_pos e2, if_pos (by omega)]
              · rw [if_neg e2, if_neg (by omega)]))
          have HO2 := Lib.hid ho2
          have y2 := wrapOk ((t : Int) + (j : Int)) (by omega) (by omega)
          have y3 : ((t : Int) + (j : Int)).toNat = t + j := by omega
          have y4 : (0 : Int) ≤ (t : Int) + (j : Int) := by omega
          have y5 : (t : Int) + (j : Int) < ((C * K : Nat) : Int) := by omega
          have y6 : (j : Int) < (k : Int) := by omega
          clear hs hr2 ho2 hgc hg1 hg2
          generalize hMM : C * K = M at *
          have HMM := Lib.hid hMM
          clear hMM
          generalize wd (f + j) = x at *
          generalize cpWd wd t f j (t + j) = z at *
          go_wp2_with fail
          go_region
          all_goals
            go_wp2
            go_roundw
            case rel => exact ⟨j + 1, by omega, by go_num, HO2.out.trans ⟨rfl, rfl, rfl, ((OnlyAt.refl R.p wr).setCell (t + j) (.int .u64 x)).size, ((OnlyAt.refl R.p wr).setCell (t + j) (.int .u64 x)).block⟩, HS.out.heap rfl⟩
            case measure => simp [intOf]; omega
        · obtain rfl : j = k := by omega
          have HR2 := Lib.hid hr2
          clear hr2
          go_wp2
          go_ret
          exact .inr ⟨rfl, ⟨e1.out, e2.out⟩, _, HBW.out, ho2, HR2.out⟩
end
end Go.Proofs.YtpddiakpnibcgaaDoor
