/- A table of which one slot behind the other is used and dropped: plain data. -/
import Derived.Test.YtldlolgdglmocaaDoorTbAlive
namespace Go.Proofs.YtldlolgdglmocaaDoor

def retS (i : Nat) : Nat → Sl := fun j => ⟨if j < i / 255 then 256 else if j = i / 255 then 1 + i % 255 else 1, false, En.zero⟩
theorem ret0 : retS 0 = fun _ => Sl.first := by
  funext j
  unfold retS Sl.first
  by_cases h : j = 0 <;> simp [h]
theorem ret_taken (i j : Nat) : isTaken (retS i) j = decide (j < i / 255) := by
  unfold isTaken retS
  by_cases h : j < i / 255
  · simp [h]
  · by_cases e : j = i / 255
    · subst e; simp; omega
    · simp [h, e]
theorem ret_free {N i : Nat} (h : i < 255 * N) : freeAt (retS i) N = i / 255 := by
  unfold freeAt
  refine BM.nx_eq _ _ _ _ _ (by omega) (fun q _ b => by rw [ret_taken]; simp [b]) (fun _ => ⟨by omega, by rw [ret_taken]; simp⟩)
theorem ret_full {N i : Nat} (h : 255 * N ≤ i) : freeAt (retS i) N = N := by
  unfold freeAt
  refine BM.nx_eq _ _ _ _ _ (by omega) (fun q _ b => by rw [ret_taken]; simp; omega) (fun h => absurd h (by omega))
theorem ret_add {N i : Nat} (h : i < 255 * N) (x : En) : addI (retS i) N = i / 255 ∧ addG (retS i) N = 1 + i % 255 ∧ addE (retS i) N = 0 ∧ addSt (retS i) N x = addS (retS i) (i / 255) x := by
  have hl : i / 255 < N := by omega
  unfold addI addG addE addSt
  rw [ret_free h, if_pos hl, if_pos hl, if_pos hl, if_pos hl]
  refine ⟨rfl, ?_, rfl, rfl⟩
  unfold retS
  simp
theorem ret_addno {N i : Nat} (h : 255 * N ≤ i) (x : En) : addI (retS i) N = 0 ∧ addG (retS i) N = 0 ∧ addE (retS i) N = 12 ∧ addSt (retS i) N x = retS i := by
  unfold addI addG addE addSt
  rw [ret_full h, if_neg (by omega), if_neg (by omega), if_neg (by omega), if_neg (by omega)]
  exact ⟨rfl, rfl, rfl, rfl⟩
theorem ret_next (i : Nat) (x : En) : dropS (addS (retS i) (i / 255) x) (i / 255) = retS (i + 1) := by
  unfold dropS addS
  rw [upd_upd, upd_same]
  funext q
  unfold upd retS
  dsimp only
  by_cases e : q = i / 255
  · subst e
    rw [if_pos rfl]
    congr 1
    by_cases h : i % 255 = 254
    · rw [if_neg (by omega), if_pos rfl, if_pos (by omega)]; omega
    · rw [if_neg (by omega), if_pos rfl, if_neg (by omega), if_pos (by omega)]; omega
  · rw [if_neg e]
    congr 1
    by_cases h : q < i / 255
    · rw [if_pos h, if_pos (by omega)]
    · rw [if_neg h, if_neg e, if_neg (by omega)]
      by_cases e2 : q = (i + 1) / 255
      · rw [if_pos e2]; omega
      · rw [if_neg e2]
theorem ret_fresh {N i : Nat} (h : i < 255 * N) (x : En) : freshB (addS (retS i) (i / 255) x) N ((i / 255 : Nat) : Int) ((1 + i % 255 : Nat) : Int) = true := by
  rw [freshB_iff]
  refine ⟨i / 255, rfl, by omega, ?_, ?_⟩
  · unfold addS; rw [upd_same]
  · unfold addS; rw [upd_same]
    unfold retS
    simp
theorem cnt_lt (m : Nat) : ∀ N, BM.cnt (fun j => decide (j < m)) N = min m N
  | 0 => by simp [BM.cnt]
  | N + 1 => by
    rw [BM.cnt, cnt_lt m N]
    by_cases h : N < m
    · simp [h]; omega
    · simp [h]; omega
theorem ret_cnt (N i : Nat) : BM.cnt (isTaken (retS i)) N = min (i / 255) N := by
  rw [← cnt_lt, show isTaken (retS i) = fun j => decide (j < i / 255) from funext (ret_taken i)]
theorem ret_used (N i : Nat) : BM.cnt (isUsed (retS i)) N = 0 := BM.cnt_none _ _ (fun _ _ => rfl)
end Go.Proofs.YtldlolgdglmocaaDoor
