/- Contracts of the document's and the law package's helpers: Has, Same, great, edges. -/
import Derived.Test.YtomjaieplpjcpaaGrForm
namespace Go.Proofs.Ytomjaieplpjcpaa
open Go.RowKit Go.Lib Go.Sort Go.Maps

set_option maxHeartbeats 1000000 in
theorem has_any {w : World} {A : Option Addr} {n c : Nat} {xs : List Int} (h : ZS w A n xs) (hn : n ≤ 1000000) (x : Int) :
    Calls Try.prog 25 #[.slice A n c, .int .i64 x] w fun e w' => e = .returned (.bool (decide (x ∈ xs))) ∧ w = w' := by
  have H := Lib.hid h
  have hl := h.len
  clear h
  go_enter Try.func25, Try.ntmps25
  go_wp2
  go_loop [5] (fun i => ∃ k : Nat, k ≤ n ∧ i = .int .i64 k ∧ Hid (x ∉ xs.take k)) (fun i => n - (intOf i).toNat)
  case atStart => exact ⟨0, Nat.zero_le _, rfl, Lib.hid (by simp)⟩
  case round =>
    obtain ⟨k, hk, rfl, HNO⟩ := hrel
    by_cases hlt : k < n
    · obtain ⟨b, off, rfl, hb, c0⟩ := H.out.at_ hlt
      obtain ⟨y, hy⟩ : ∃ y, y = xs[k]'(by omega) := ⟨_, rfl⟩
      rw [← hy] at c0
      have HY := Lib.hid hy
      clear hy
      by_cases he : y = x
      · subst he
        go_wp2
        go_ret
        have : y ∈ xs := by rw [HY.out]; exact List.getElem_mem _
        simp [this]
      · have d0 : (y == x) = false := by simpa using he
        have HE := Lib.hid he
        clear he
        go_wp2
        go_round
        case rel =>
          refine ⟨k + 1, by omega, by go_num, Lib.hid fun hm => ?_⟩
          rw [List.take_succ_eq_append_getElem (by omega), List.mem_append] at hm
          rcases hm with hm | hm
          · exact HNO.out hm
          · rw [List.mem_singleton, ← HY.out] at hm
            exact HE.out hm.symm
        case measure => simp [intOf]; omega
    · obtain rfl : k = n := by omega
      go_wp2
      go_ret
      have hno := HNO.out
      rw [List.take_of_length_le (by omega)] at hno
      simp [hno]

set_option maxHeartbeats 1000000 in
theorem same_any {w : World} {A B : Option Addr} {n m c d : Nat} {xs : List Int} (ha : ZS w A n xs) (hb : ZS w B m xs) (hn : n ≤ 1000000) :
    Calls Try.prog 23 #[.slice A n c, .slice B m d] w fun e w' => e = .returned (.bool true) ∧ ∃ q, w' = w.drewN q := by
  have HA := Lib.hid ha
  have HB := Lib.hid hb
  have hl1 := ha.len
  obtain rfl : n = m := by have := hb.len; omega
  clear ha hb
  go_enter Try.func23, Try.ntmps23
  go_wp2
  go_loopw [5] (fun x wr => ∃ k j : Nat, k ≤ n ∧ x = .int .i64 k ∧ wr = w.drewN j) (fun x _ => n - (intOf x).toNat)
  case atStart => exact ⟨0, 0, Nat.zero_le _, rfl, rfl⟩
  case round =>
    obtain ⟨k, j, hk, rfl, rfl⟩ := hrel
    by_cases hlt : k < n
    · obtain ⟨b, off, rfl, hb, c0⟩ := HA.out.at_ hlt
      obtain ⟨b', off', rfl, hb', c1⟩ := HB.out.at_ hlt
      have d1 : (w.drewN j).cell? ⟨b, off + k, none⟩ = some (.int .i64 (xs[k]'(by omega))) := c0
      have d2 : (w.drewN j).cell? ⟨b', off' + k, none⟩ = some (.int .i64 (xs[k]'(by omega))) := c1
      generalize (xs[k]'(by omega)) = p at d1 d2 c0 c1
      go_wp2
      go_quiet (fail)
      go_wp2
      go_roundw
      case rel => exact ⟨k + 1, _, by omega, by go_num, rfl⟩
      case measure => simp [intOf]; omega
    · go_wp2
      go_ret
      exact ⟨rfl, j, rfl⟩

end Go.Proofs.Ytomjaieplpjcpaa
