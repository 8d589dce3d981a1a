/- The contract of field.Apart, over a slice of fields that reads as a list. -/
import Derived.Test.YteneadimchhhhaaDoorPut
import Derived.Test.YteneadimchhhhaaDoorSl
namespace Go.Proofs.YteneadimchhhhaaDoor
open Go.RowKit

set_option maxHeartbeats 1000000 in
theorem apart_any (A : Option Addr) (n c : Nat) (fs : List (Int × Int)) (w : World) (hn : n ≤ 1000000) (hf : FS w w.heap.size A n fs) :
    Calls Tryd.prog 62 #[.slice A n c] w fun e w' => e = .returned (.bool (FM.apart fs)) ∧ Below w.heap.size w w' := by
  have HF := Lib.hid hf
  clear hf
  go_enter Tryd.func62, Tryd.ntmps62
  go_wp2
  go_loopw [3, 8] (fun t i wr => ∃ k T : Nat, k ≤ n ∧ T < 18446744073709551616 ∧ i = .int .i64 k ∧ t = .int .u64 T ∧ Hid (FM.apart fs = FM.apartGo T (fs.drop k)) ∧ Below w.heap.size w wr) (fun _ i _ => n - (intOf i).toNat)
  case atStart => exact ⟨0, 0, Nat.zero_le _, by omega, rfl, rfl, rfl, Below.refl _ _⟩
  case round =>
    obtain ⟨k, T, hk, hT, rfl, rfl, HA, hbw⟩ := hrel
    by_cases hlt : k < n
    · obtain ⟨b, off, a, d, rfl, hbB, hd, hc0, hc1⟩ := (HF.out.below hbw).at_ hlt
      have HD := Lib.hid hd
      clear hd
      by_cases hr : FM.right a d = true
      · by_cases hz : T &&& FM.boN a.toNat d.toNat = 0
        · have hz' : (bits BinOp.and IntKind.u64 (T : Int) (FM.bo a d) != 0) = false := by rw [FM.and_bo T a d hT hr, hz]; rfl
          have HZ := Lib.hid hz
          clear hz
          go_wp2_with (first
            | (go_at_call 73; refine (right_any a d _).mono ?_; rintro e w' ⟨rfl, rfl⟩)
            | (go_at_call 74; refine (bitsOf_any a d hr _).mono ?_; rintro e w' ⟨rfl, hb⟩; obtain ⟨hc, hfz⟩ := bcell hb))
          rename_i w1 hb1 hc2 hf2
          have hs := hbw.size
          have hs1 := hb1.size
          simp at hs1
          go_roundw
          case rel => exact ⟨k + 1, T ||| FM.boN a.toNat d.toNat, by omega, FM.or_bo_lt T a d hT hr, by go_num, by rw [FM.or_bo T a d hT hr], by rw [HA.out, HD.out, FM.go_next T (a, d) _ hr HZ.out]; exact rfl, ((((hbw.alloc hs _).alloc (by simp; omega) _).trans (hb1.mono (by simp; omega))).trans (hb.mono (by omega)))⟩
          case measure => simp [intOf]; omega
        · have hz' : (bits BinOp.and IntKind.u64 (T : Int) (FM.bo a d) != 0) = true := by rw [FM.and_bo T a d hT hr]; simp; omega
          have HZ := Lib.hid hz
          clear hz
          go_wp2_with (first
            | (go_at_call 73; refine (right_any a d _).mono ?_; rintro e w' ⟨rfl, rfl⟩)
            | (go_at_call 74; refine (bitsOf_any a d hr _).mono ?_; rintro e w' ⟨rfl, hb⟩; obtain ⟨hc, hfz⟩ := bcell hb))
          have hs := hbw.size
          go_ret
          exact ⟨ret_bool (by rw [HA.out, HD.out, FM.go_share T (a, d) _ HZ.out]), (((hbw.alloc hs _).alloc (by simp; omega) _).trans (hb.mono (by simp; omega)))⟩
      · have hr' : FM.right a d = false := by simpa using hr
        clear hr
        go_wp2_with (first
            | (go_at_call 73; refine (right_any a d _).mono ?_; rintro e w' ⟨rfl, rfl⟩))
        have hs := hbw.size
        go_ret
        exact ⟨ret_bool (by rw [HA.out, HD.out, FM.go_wrong T (a, d) _ hr']), ((hbw.alloc hs _).alloc (by simp; omega) _)⟩
    · go_wp2
      go_ret
      have hl := HF.out.1
      exact ⟨ret_bool (by rw [HA.out, List.drop_eq_nil_of_le (by omega)]; rfl), hbw⟩
end Go.Proofs.YteneadimchhhhaaDoor
