/- Contracts of the document's and the law package's helpers: Has, Same, great, edges. -/
import Derived.Test.YtmmclccghlmfmaaGrLib
namespace Go.Proofs.Ytmmclccghlmfmaa
open Go.RowKit Go.Lib Go.Sort Go.Maps

set_option maxHeartbeats 1000000 in
theorem has_any {w : World} {A : Option Addr} {n c : Nat} {xs : List Int} (h : ZS w A n xs) (hn : n ≤ 1000000) (x : Int) :
    Calls Try.prog 19 #[.slice A n c, .int .i64 x] w fun e w' => e = .returned (.bool (decide (x ∈ xs))) ∧ w = w' := by
  have H := Lib.hid h
  have hl := h.len
  clear h
  go_enter Try.func19, Try.ntmps19
  go_wp2
  go_loop [5] (fun i => ∃ k : Nat, k ≤ n ∧ i = .int .i64 k ∧ Hid (x ∉ xs.take k)) (fun i => n - (intOf i).toNat)
  case atStart => exact ⟨0, Nat.zero_le _, rfl, Lib.hid (by simp)⟩
  case round =>
    obtain ⟨k, hk, rfl, HNO⟩ := hrel
    by_cases hlt : k < n
    · obtain ⟨b, off, rfl, hb, c0⟩ := H.out.at_ hlt
      obtain ⟨y, hy⟩ : ∃ y, y = xs[k]'(by omega) := ⟨_, rfl⟩
      rw [← hy] at c0
      have HY := Lib.hid hy
      clear hy
      by_cases he : y = x
      · subst he
        go_wp2
        go_ret
        have : y ∈ xs := by rw [HY.out]; exact List.getElem_mem _
        simp [this]
      · have d0 : (y == x) = false := by simpa using he
        have HE := Lib.hid he
        clear he
        go_wp2
        go_round
        case rel =>
          refine ⟨k + 1, by omega, by go_num, Lib.hid fun hm => ?_⟩
          rw [List.take_succ_eq_append_getElem (by omega), List.mem_append] at hm
          rcases hm with hm | hm
          · exact HNO.out hm
          · rw [List.mem_singleton, ← HY.out] at hm
            exact HE.out hm.symm
        case measure => simp [intOf]; omega
    · obtain rfl : k = n := by omega
      go_wp2
      go_ret
      have hno := HNO.out
      rw [List.take_of_length_le (by omega)] at hno
      simp [hno]

set_option maxHeartbeats 1000000 in
theorem great_any {w : World} {A : Option Addr} {n c : Nat} {xs : List Int} (h : ZS w A n xs) (hn : n ≤ 1000000) :
    Calls Try.prog 10 #[.slice A n c] w fun e w' => e = .returned (.bool (xs.any fun x => decide (80 < x))) ∧ w = w' := by
  have H := Lib.hid h
  have hl := h.len
  clear h
  go_enter Try.func10, Try.ntmps10
  go_wp2
  go_loop [7] (fun i => ∃ k : Nat, k ≤ n ∧ i = .int .i64 k ∧ Hid (∀ x ∈ xs.take k, ¬ 80 < x)) (fun i => n - (intOf i).toNat)
  case atStart => exact ⟨0, Nat.zero_le _, rfl, Lib.hid (by simp)⟩
  case round =>
    obtain ⟨k, hk, rfl, HNO⟩ := hrel
    by_cases hlt : k < n
    · obtain ⟨b, off, rfl, hb, c0⟩ := H.out.at_ hlt
      obtain ⟨y, hy⟩ : ∃ y, y = xs[k]'(by omega) := ⟨_, rfl⟩
      rw [← hy] at c0
      have HY := Lib.hid hy
      clear hy
      by_cases he : 80 < y
      · have HE := Lib.hid he
        go_wp2
        go_ret
        refine ⟨ret_bool ?_, rfl⟩
        symm
        rw [List.any_eq_true]
        exact ⟨y, by rw [HY.out]; exact List.getElem_mem _, by simpa using HE.out⟩
      · have HE := Lib.hid he
        go_wp2
        go_round
        case rel =>
          refine ⟨k + 1, by omega, by go_num, Lib.hid fun z hm => ?_⟩
          rw [List.take_succ_eq_append_getElem (by omega), List.mem_append] at hm
          rcases hm with hm | hm
          · exact HNO.out z hm
          · rw [List.mem_singleton, ← HY.out] at hm
            rw [hm]
            exact HE.out
        case measure => simp [intOf]; omega
    · obtain rfl : k = n := by omega
      go_wp2
      go_ret
      have hno := HNO.out
      rw [List.take_of_length_le (by omega)] at hno
      refine ⟨ret_bool ?_, rfl⟩
      symm
      rw [List.any_eq_false]
      exact fun z hz => by simpa using hno z hz

set_option maxHeartbeats 1000000 in
theorem same_any {w : World} {A B : Option Addr} {n m c d : Nat} {xs : List Int} (ha : ZS w A n xs) (hb : ZS w B m xs) (hn : n ≤ 1000000) :
    Calls Try.prog 13 #[.slice A n c, .slice B m d] w fun e w' => e = .returned (.bool true) ∧ ∃ q, w' = w.drewN q := by
  have HA := Lib.hid ha
  have HB := Lib.hid hb
  have hl1 := ha.len
  obtain rfl : n = m := by have := hb.len; omega
  clear ha hb
  go_enter Try.func13, Try.ntmps13
  go_wp2
  go_loopw [5] (fun x wr => ∃ k j : Nat, k ≤ n ∧ x = .int .i64 k ∧ wr = w.drewN j) (fun x _ => n - (intOf x).toNat)
  case atStart => exact ⟨0, 0, Nat.zero_le _, rfl, rfl⟩
  case round =>
    obtain ⟨k, j, hk, rfl, rfl⟩ := hrel
    by_cases hlt : k < n
    · obtain ⟨b, off, rfl, hb, c0⟩ := HA.out.at_ hlt
      obtain ⟨b', off', rfl, hb', c1⟩ := HB.out.at_ hlt
      have d1 : (w.drewN j).cell? ⟨b, off + k, none⟩ = some (.int .i64 (xs[k]'(by omega))) := c0
      have d2 : (w.drewN j).cell? ⟨b', off' + k, none⟩ = some (.int .i64 (xs[k]'(by omega))) := c1
      generalize (xs[k]'(by omega)) = p at d1 d2 c0 c1
      go_wp2
      go_quiet (fail)
      go_wp2
      go_roundw
      case rel => exact ⟨k + 1, _, by omega, by go_num, rfl⟩
      case measure => simp [intOf]; omega
    · go_wp2
      go_ret
      exact ⟨rfl, j, rfl⟩

set_option maxHeartbeats 1000000 in
theorem edges_any {w : World} {A : Option Addr} {n c : Nat} {es : List (Int × Int)} (h : ES w A n es) (hn : n ≤ 1000) :
    Calls Try.prog 12 #[.slice A n c] w fun e w' => ∃ v, e = .returned v ∧ NewE 41 w.heap.size w' v es ∧ Below w.heap.size w w' := by
  obtain ⟨i0, hi0, hz0, hz1, hz2⟩ := info_parts infoF
  have HE := Lib.hid h
  have hl := h.len
  clear h
  go_enter Try.func12, Try.ntmps12
  go_wp2
  go_loopw [3, 8] (fun u i wr => ∃ k : Nat, k ≤ n ∧ i = .int .i64 k ∧ Hid (NewE 41 w.heap.size wr u (es.take k)) ∧ Hid (Below w.heap.size w wr)) (fun _ i _ => n - (intOf i).toNat)
  case atStart => exact ⟨0, Nat.zero_le _, rfl, Lib.hid (NewE.nil _ _ _), Lib.hid (Below.refl _ _)⟩
  case round =>
    obtain ⟨k, hk, rfl, HU, HB⟩ := hrel
    by_cases hlt : k < n
    · obtain ⟨b, off, rfl, hb, c0, c1⟩ := HE.out.at_ hlt
      have d0 := (HB.out.cell (p := ⟨b, _, none⟩) hb).trans c0
      have d1 := (HB.out.cell (p := ⟨b, _, none⟩) hb).trans c1
      have hst : es.take (k + 1) = es.take k ++ [es[k]'(by omega)] := List.take_succ_eq_append_getElem (by omega)
      obtain ⟨e, he⟩ : ∃ e, e = es[k]'(by omega) := ⟨_, rfl⟩
      obtain ⟨x, y⟩ := e
      rw [← he] at d0 d1 hst
      have hL : (es.take k).length = k := by rw [List.length_take]; omega
      obtain ⟨L, hLe⟩ : ∃ L, L = es.take k := ⟨_, rfl⟩
      rw [← hLe] at hst hL HU
      have HST := Lib.hid hst
      have hlo := HB.out.size
      have hLn : L.length ≤ 1000 := by omega
      clear c0 c1 he hst hLe hL
      go_wp2_with (first
        | (at_builtin; refine wpList_append_own _ rfl _ _ 27 rfl w.heap.size 41 i0 _ 2 16 Try.underlying27 hi0 hz0 hz1 hz2 rfl (by decide) _ _ _ rfl ((HU.out.alloc _).alloc _).own ⟨wr.heap.size + 1, 0, none⟩ 1 1 [.int .i64 x, .int .i64 y] rfl rfl (World.news_of_block (by exact Whole.fresh' (by simp))) (by simp [Value.oneCell']) (by unfold maxLen; omega) (by omega) (by simp; omega) ?_; intro v' w3 hown' hgrow _; have HO := Lib.hid hown'; have HG := Lib.hid hgrow; clear hown' hgrow))
      go_roundw
      case rel => exact ⟨k + 1, by omega, by go_num, by rw [HST.out]; exact Lib.hid (NewE.more (ys := [(x, y)]) rfl HO.out), Lib.hid (((HB.out.alloc hlo _).alloc (by simp; omega) _).grown HG.out (by simp; omega) (fun g hg => (HU.out.own.lt g hg).1))⟩
      case measure => simp [intOf]; omega
    · obtain rfl : k = n := by omega
      go_wp2
      go_ret
      have hu := HU.out
      rw [List.take_of_length_le (by omega)] at hu
      exact ⟨_, rfl, hu, HB.out⟩
end Go.Proofs.Ytmmclccghlmfmaa
