/- Contracts of slots for every layout and count, of the document's Slots, and of Same, list, of the document's answers, where both are the same. -/
import Derived.Test.YteneadimchhhhaaGreatDoorLyRange
namespace Go.Proofs.YteneadimchhhhaaGreatDoor
open Go.RowKit Go.Shelf

namespace LM
/-- All references that are told. -/
def told (F R : Int) (xs ys : List Int) (C : Int) : List Int := if code F R xs ys C = 0 then slots F R xs ys C.toNat else []
theorem told_no {F R : Int} {xs ys : List Int} {C : Int} (h : code F R xs ys C ≠ 0) : told F R xs ys C = [] := by simp [told, h]
theorem told_ok {F R : Int} {xs ys : List Int} {C : Int} (h : code F R xs ys C = 0) : told F R xs ys C = slots F R xs ys C.toNat := by simp [told, h]
theorem size_bd (F R : Int) (xs ys : List Int) (C : Int) : 0 ≤ size F R xs ys C ∧ size F R xs ys C ≤ 8191 := by
  by_cases h : code F R xs ys C = 0
  · obtain ⟨hr, ⟨k1, k2, k3⟩, k4⟩ := code_zero h
    obtain ⟨⟨g1, g2, g3, g4, g5⟩, -, -⟩ := right_parts hr
    rw [size_ok h]
    have := Int.mul_nonneg k1 g3
    omega
  · rw [size_no h]; omega
theorem told_picks (F R : Int) (xs ys : List Int) (C : Int) : told F R xs ys C = picks (isRef F R xs ys) (size F R xs ys C).toNat := by
  by_cases h : code F R xs ys C = 0
  · obtain ⟨hr, ⟨k1, k2, k3⟩, k4⟩ := code_zero h
    obtain ⟨⟨g1, g2, g3, g4, g5⟩, -, -⟩ := right_parts hr
    have hp := Int.mul_nonneg k1 g3
    rw [told_ok h, size_ok h]
    exact slots_picks F R xs ys _ _ hr (fun e => by have := k3 e; omega) (by rw [Int.toNat_of_nonneg (by omega), Int.toNat_of_nonneg k1])
  · rw [told_no h, size_no h]; rfl
theorem told_len (F R : Int) (xs ys : List Int) (C : Int) : (told F R xs ys C).length ≤ 8191 := by
  rw [told_picks]
  have := picks_len (isRef F R xs ys) (size F R xs ys C).toNat
  have := size_bd F R xs ys C
  omega
theorem told_bd (F R : Int) (xs ys : List Int) (C x : Int) (h : x ∈ told F R xs ys C) : 0 ≤ x ∧ x ≤ 8191 := by
  rw [told_picks, mem_picks] at h
  have := size_bd F R xs ys C
  omega
end LM

theorem ownsRow_below {w w' : World} {base : Nat} {e : TypeId} {size n : Nat} {v : Value} {xs : List Value} (h : w.ownsRow base e size v n xs) (hb : Below w.heap.size w w') : w'.ownsRow base e size v n xs := by
  refine ⟨h.1, ?_⟩
  rcases h.2 with h0 | ⟨g, cap, cur, rfl, hg, hh, hr⟩
  · exact .inl h0
  · exact .inr ⟨g, cap, cur, rfl, hg, (hb.block g (Array.getElem?_eq_some_iff.1 hh).1).trans hh, hr⟩

set_option maxHeartbeats 2000000 in
theorem refSlots_any (F R : Int) (A : Option Addr) (n c : Nat) (xs : List Int) (D : Option Addr) (m d : Nat) (ys : List Int) (C : Int) (B : Nat) (w : World) (hB : B ≤ w.heap.size) (hn : n ≤ 1000000) (hm : m ≤ 1000000)
    (hF : I64 F) (hR : I64 R) (hx : NS .i64 w B A n xs) (hy : NS .i64 w B D m ys) (hC : I64 C) :
    Calls Tryz.prog 45 #[.agg #[.int .i64 F, .slice A n c, .int .i64 R, .slice D m d], .int .i64 C] w (RowI (LM.told F R xs ys C) w) := by
  obtain ⟨i0, hi0, hz0, hz1, hz2⟩ := info_parts linfoInt
  have CS := refSize_any F R A n c xs D m d ys C B (w.alloc (.cells #[.int .i64 F, .slice A n c, .int .i64 R, .slice D m d] 70)) (by simp; omega) hn hm hF hR (hx.alloc hB _) (hy.alloc hB _) hC
  have hbd := LM.size_bd F R xs ys C
  have HT := Lib.hid (LM.told_picks F R xs ys C)
  have hsz : ∀ p : Int, 0 ≤ p → p < LM.size F R xs ys C → 0 ≤ F ∧ F ≤ 64 ∧ (p < F ∨ 0 < R) := by
    intro p h0 h1
    by_cases h : LM.code F R xs ys C = 0
    · obtain ⟨hr, ⟨k1, k2, k3⟩, k4⟩ := LM.code_zero h
      obtain ⟨⟨g1, g2, g3, g4, g5⟩, -, -⟩ := LM.right_parts hr
      rw [LM.size_ok h] at h1
      refine ⟨g1, g2, ?_⟩
      by_cases hR0 : 0 < R
      · exact .inr hR0
      · have hz : R = 0 := by omega
        have := k3 hz
        subst this
        simp at h1
        exact .inl h1
    · rw [LM.size_no h] at h1; omega
  obtain ⟨sz, hsze⟩ : ∃ sz, sz = LM.size F R xs ys C := ⟨_, rfl⟩
  rw [← hsze] at CS hbd hsz
  have HSZ := Lib.hid hsz
  have HSE := Lib.hid hsze
  have HC := Lib.hid CS
  have HX := Lib.hid hx
  have HY := Lib.hid hy
  clear hsz hsze CS hx hy
  obtain ⟨hbd0, hbd1⟩ := hbd
  go_enter Tryz.func45, Tryz.ntmps45
  go_wp2_with fail
  refine HC.out.mono ?_
  rintro e w1 ⟨rfl, hb⟩
  have hw1 : Whole w1 w.heap.size 70 #[.int .i64 F, .slice A n c, .int .i64 R, .slice D m d] := (Whole.fresh _ _ _).below hb (by simp)
  have hs1 := hb.size
  simp at hs1
  have hb1 : Below w.heap.size w w1 := ((Below.refl _ _).alloc (Nat.le_refl _) _).trans (hb.mono (by simp))
  have HW := Lib.hid hw1
  clear hw1 hb HC
  go_wp2
  go_loopw [5, 8] (fun u x wr => ∃ k : Nat, (k : Int) ≤ sz ∧ x = .int .i64 k ∧ wr.ownsRow (w.heap.size + 1) 3 1 u (LM.picks (LM.isRef F R xs ys) k).length (ivals (LM.picks (LM.isRef F R xs ys) k)) ∧ Below (w.heap.size + 1) w1 wr) (fun _ x _ => (sz - intOf x).toNat)
  case atStart => exact ⟨0, by omega, rfl, World.ownsRow_nil _ _ _ _, Below.refl _ _⟩
  case round =>
    obtain ⟨k, hk, rfl, hown, hbw⟩ := hrel
    have hs := hbw.size
    by_cases hlt : (k : Int) < sz
    · obtain ⟨f0, f1, f2⟩ := HSZ.out k (by omega) hlt
      have hwr := HW.out.below hbw (by omega)
      have c0 : wr.cell? ⟨w.heap.size, 0, none⟩ = some (.int .i64 F) := hwr.cell 0
      have c1 : wr.cell? ⟨w.heap.size, 1, none⟩ = some (.slice A n c) := hwr.cell 1
      have c2 : wr.cell? ⟨w.heap.size, 2, none⟩ = some (.int .i64 R) := hwr.cell 2
      have c3 : wr.cell? ⟨w.heap.size, 3, none⟩ = some (.slice D m d) := hwr.cell 3
      have hb2 : Below w.heap.size w wr := hb1.trans (hbw.mono (by omega))
      have CI := refIsRef_any F R A n c xs D m d ys k B wr (by omega) hn hm hR (HX.out.below (hb2.mono hB)) (HY.out.below (hb2.mono hB)) f0 f1 (by omega) (by omega) f2
      have hlen := LM.picks_len (LM.isRef F R xs ys) k
      have hub := Lib.hid hown.lt
      have HO := Lib.hid hown
      clear hown hwr f2
      cases hf : LM.isRef F R xs ys k
      · rw [hf] at CI
        have HY2 := Lib.hid (LM.picks_no hf)
        have HCI := Lib.hid CI
        clear CI hf
        go_wp2_with fail
        refine HCI.out.mono ?_
        rintro e w3 ⟨rfl, hb3⟩
        have HB3 := Lib.hid hb3
        clear hb3
        go_wp2
        go_roundw
        case rel => exact ⟨k + 1, by omega, by go_num, by rw [HY2.out]; exact ownsRow_below HO.out HB3.out, hbw.trans (HB3.out.mono (by omega))⟩
        case measure => simp [intOf]; omega
      · rw [hf] at CI
        have HY2 := Lib.hid (LM.picks_yes hf)
        have HCI := Lib.hid CI
        clear CI hf
        go_wp2_with fail
        refine HCI.out.mono ?_
        rintro e w3 ⟨rfl, hb3⟩
        have hs3 := hb3.size
        have HB3 := Lib.hid hb3
        have HO3 := Lib.hid (ownsRow_below HO.out hb3)
        clear hb3
        go_wp2_with (first
          | (at_builtin; refine wpList_append_own _ rfl _ _ 42 rfl (w.heap.size + 1) 3 i0 _ 1 8 Tryz.underlying42 hi0 hz0 hz1 hz2 rfl (by decide) _ _ _ rfl (HO3.out.alloc _) ⟨w3.heap.size, 0, none⟩ 1 1 [.int .i64 (k : Nat)] rfl rfl (cell_one_new _ _ _) (by simp [Value.oneCell']) (by unfold maxLen; omega) (by omega) (by simp; omega) ?_; intro v' w4 hown' hgrow _; have HO2 := Lib.hid hown'; have HG := Lib.hid hgrow; clear hown' hgrow))
        go_roundw
        case rel =>
          refine ⟨k + 1, by omega, by go_num, ?_, ((hbw.trans (HB3.out.mono (by omega))).alloc (by omega) _).grown HG.out (by simp; omega) (fun g hg => (hub.out g hg).1)⟩
          rw [HY2.out, ivals_snoc, List.length_append]
          exact HO2.out
        case measure => simp [intOf]; omega
    · obtain rfl : sz = (k : Int) := by omega
      go_wp2
      go_ret
      refine ⟨_, rfl, ?_, hb1.trans (hbw.mono (by omega))⟩
      have hk2 : (LM.size F R xs ys C).toNat = k := by have := HSE.out; omega
      rw [HT.out, hk2]
      exact hown.mono (by omega)
end Go.Proofs.YteneadimchhhhaaGreatDoor
