/- The contract of the law package's great. -/
import Derived.Test.YteneadimchhhhaaGreatDoorImMade
namespace Go.Proofs.YteneadimchhhhaaGreatDoor
open Go.RowKit

def wide (l : LV) : Bool := decide (100 < l.n) || decide (100 < l.m)
/-- Where its loop is: none of the first k is too great. -/
def GrAt (w : World) (n : Nat) (ls : List LV) (x : Value) (wr : World) : Prop := ∃ k : Nat, k ≤ n ∧ x = .int .i64 k ∧ (ls.take k).any wide = false ∧ Below w.heap.size w wr
set_option maxHeartbeats 1000000 in
theorem great_any (A : Option Addr) (n c : Nat) (ls : List LV) (w : World) (hl : LS w w.heap.size A n ls) (hn : n ≤ 9223372036854775807) :
    Calls Tryz.prog 6 #[.slice A n c] w fun e w' => e = .returned (.bool (ls.any wide)) ∧ Below w.heap.size w w' := by
  have HL := Lib.hid hl
  clear hl
  go_enter Tryz.func6, Tryz.ntmps6
  go_wp2
  go_loopw [7] (GrAt w n ls) (fun x _ => n - (intOf x).toNat)
  case atStart => exact ⟨0, Nat.zero_le _, rfl, by simp, Below.refl _ _⟩
  case round =>
    obtain ⟨k, hk, rfl, hf, hb⟩ := hrel
    by_cases hlt : k < n
    · obtain ⟨ba, oa, l, rfl, hba, hkl, hmem, e0, e1, e2, e3⟩ := HL.out.at2 hlt
      have c0 := (hb.cell (p := ⟨ba, oa + k * 4, none⟩) hba).trans e0
      have c1 := (hb.cell (p := ⟨ba, oa + k * 4 + 1, none⟩) hba).trans e1
      have c2 := (hb.cell (p := ⟨ba, oa + k * 4 + 2, none⟩) hba).trans e2
      have c3 := (hb.cell (p := ⟨ba, oa + k * 4 + 3, none⟩) hba).trans e3
      have HN := Lib.hid (show wide l = false → (ls.take (k + 1)).any wide = false from fun h => by rw [List.take_add_one, hkl]; simp [hf, h])
      have HY := Lib.hid (show wide l = true → ls.any wide = true from fun h => List.any_eq_true.2 ⟨l, hmem, h⟩)
      have HB := Lib.hid hb
      have hs := hb.size
      clear e0 e1 e2 e3 hkl hmem hf hb
      by_cases h1 : 100 < l.n
      · have hw := HY.out (by unfold wide; simp [h1])
        have HW := Lib.hid hw
        have d1 : decide ((100 : Int) < (l.n : Int)) = true := by simp; omega
        clear HN HY hw
        go_wp2
        go_ret
        exact ⟨by rw [HW.out]; rfl, HB.out.alloc hs _⟩
      · by_cases h2 : 100 < l.m
        · have hw := HY.out (by unfold wide; simp [h2])
          have HW := Lib.hid hw
          have d1 : decide ((100 : Int) < (l.n : Int)) = false := by simp; omega
          have d2 : decide ((100 : Int) < (l.m : Int)) = true := by simp; omega
          clear HN HY hw
          go_wp2
          go_ret
          exact ⟨by rw [HW.out]; rfl, HB.out.alloc hs _⟩
        · have HW := Lib.hid (HN.out (by unfold wide; simp; omega))
          have d1 : decide ((100 : Int) < (l.n : Int)) = false := by simp; omega
          have d2 : decide ((100 : Int) < (l.m : Int)) = false := by simp; omega
          clear HN HY
          go_wp2
          go_roundw
          case rel => exact ⟨k + 1, by omega, by go_num, HW.out, HB.out.alloc hs _⟩
          case measure => simp [intOf]; omega
    · obtain rfl : k = n := by omega
      rw [List.take_of_length_le (by have := HL.out.1; omega)] at hf
      have HF := Lib.hid hf
      clear hf
      go_wp2
      go_ret
      exact ⟨by rw [HF.out]; rfl, hb⟩
theorem not_wide {ls : List LV} (h : ls.any wide = false) : ∀ l ∈ ls, l.n ≤ 100 ∧ l.m ≤ 100 := fun l hl => by
  have := List.any_eq_false.1 h l hl
  unfold wide at this
  simp at this
  exact this
end Go.Proofs.YteneadimchhhhaaGreatDoor
