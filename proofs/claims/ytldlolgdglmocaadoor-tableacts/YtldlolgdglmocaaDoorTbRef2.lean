/- Contracts of the document's New, Add, Drop, Counts. -/
import Derived.Test.YtldlolgdglmocaaDoorTbRef
import Derived.Test.YtldlolgdglmocaaDoorTbRet
import Derived.Deep.DeepCutAuto
namespace Go.Proofs.YtldlolgdglmocaaDoor
open Go.RowKit

def rst (k : Nat) : Nat → Sl := fun j => ⟨if j < k then 1 else 0, false, En.zero⟩
theorem rst_next (k : Nat) : upd (rst k) k ⟨1, (rst k k).used, (rst k k).e⟩ = rst (k + 1) := by
  funext q
  unfold upd rst
  by_cases e : q = k
  · subst e
    simp
  · rw [if_neg e]
    by_cases h : q < k
    · rw [if_pos h, if_pos (by omega)]
    · rw [if_neg h, if_neg (by omega)]
theorem rf_made {w : World} {r N : Nat} (h1 : Whole w r 71 (madeCells #[.int .i64 0, .bool false, .int .i64 0, .int .i64 0, .bool false, .bool false] (N * 6))) : RfAt w r N (rst 0) := by
  refine ⟨fun k hk => ⟨?_, ?_, ?_, ?_, ?_, ?_⟩, fun k _ => h1.free k⟩
  · rw [h1.cell, made_in _ _ _ (by omega)]; simp [rst]
  · rw [h1.cell, made_in _ _ _ (by omega), show (k * 6 + 1) % (#[Value.int .i64 0, .bool false, .int .i64 0, .int .i64 0, .bool false, .bool false] : Array Value).size = 1 by first | (simp; done) | (simp; omega)]; rfl
  · rw [h1.cell, made_in _ _ _ (by omega), show (k * 6 + 2) % (#[Value.int .i64 0, .bool false, .int .i64 0, .int .i64 0, .bool false, .bool false] : Array Value).size = 2 by first | (simp; done) | (simp; omega)]; rfl
  · rw [h1.cell, made_in _ _ _ (by omega), show (k * 6 + 3) % (#[Value.int .i64 0, .bool false, .int .i64 0, .int .i64 0, .bool false, .bool false] : Array Value).size = 3 by first | (simp; done) | (simp; omega)]; rfl
  · rw [h1.cell, made_in _ _ _ (by omega), show (k * 6 + 4) % (#[Value.int .i64 0, .bool false, .int .i64 0, .int .i64 0, .bool false, .bool false] : Array Value).size = 4 by first | (simp; done) | (simp; omega)]; rfl
  · rw [h1.cell, made_in _ _ _ (by omega), show (k * 6 + 5) % (#[Value.int .i64 0, .bool false, .int .i64 0, .int .i64 0, .bool false, .bool false] : Array Value).size = 5 by first | (simp; done) | (simp; omega)]; rfl
def RNewPost (N : Nat) (w : World) (e : Ending) (w' : World) : Prop :=
  ∃ r, e = .returned (.slice (some ⟨r, 0, none⟩) N N) ∧ RfAt w' r N (fun _ => Sl.first) ∧ Below w.heap.size w w' ∧ w.heap.size ≤ r ∧ r < w'.heap.size
set_option maxHeartbeats 1000000 in
theorem rnew_ok (N : Nat) (w : World) (N2 : N ≤ 4096) : Calls Tryd.prog 11 #[.int .i64 N] w (RNewPost N w) := by
  have hmk := run_make_rows (P := Tryd.prog) 28 71 #[.int .i64 0, .bool false, .int .i64 0, .int .i64 0, .bool false, .bool false] 6 40 Tryd.underlying28 (by kernel_rfl) N (by omega) (by omega)
  have h0 := Lib.hid (rf_made (Whole.fresh w 71 (madeCells #[.int .i64 0, .bool false, .int .i64 0, .int .i64 0, .bool false, .bool false] (N * 6))))
  go_enter Tryd.func11, Tryd.ntmps11
  go_wp2
  go_loopw [4] (fun x wr => ∃ k : Nat, k ≤ N ∧ x = .int .i64 k ∧ RfAt wr w.heap.size N (rst k) ∧ Below w.heap.size w wr ∧ w.heap.size < wr.heap.size) (fun x _ => N - (intOf x).toNat)
  case atStart => exact ⟨0, Nat.zero_le _, rfl, h0.out, (Below.refl _ _).alloc (Nat.le_refl _) _, by simp⟩
  case round =>
    clear h0 hmk
    obtain ⟨k, hk, rfl, hr, hb, hs⟩ := hrel
    by_cases hlt : k < N
    · have p0 := (hr.slot k hlt).g
      have q0 := hr.thaw (k * 6) (by omega)
      have N1 := hr.gens k hlt 1
      rw [rst_next] at N1
      have NN := Lib.hid N1
      have HB := Lib.hid hb
      clear hr N1 hb
      go_wp2
      go_roundw
      case rel => exact ⟨k + 1, by omega, by go_num, NN.out, HB.out.setCell (p := ⟨w.heap.size, k * 6, none⟩) (Nat.le_refl _) _, by simpa using hs⟩
      case measure => simp [intOf]; omega
    · obtain rfl : N = k := by omega
      have HR := Lib.hid hr
      have HB := Lib.hid hb
      clear hr hb
      go_wp2
      go_ret
      exact ⟨_, rfl, ⟨fun j hj => by have := HR.out.slot j hj; unfold rst at this; rw [if_pos hj] at this; exact this, HR.out.thaw⟩, HB.out, Nat.le_refl _, hs⟩

def RAddPost (w : World) (r N : Nat) (S : Nat → Sl) (x : En) (e : Ending) (w' : World) : Prop :=
  e = .returned (.tuple #[.agg #[.int .i64 (addI S N : Nat), .int .i64 (addG S N : Nat)], .int .i64 (addE S N)]) ∧ Aft [r] w w' ∧ RfAt w' r N (addSt S N x)
section
variable {w : World} {r N : Nat} {S : Nat → Sl}
theorem radd_next (S : Nat → Sl) (k : Nat) (x : En) : setS (upd S k ⟨(S k).gen, true, (S k).e⟩) k x = addS S k x := by
  unfold setS addS
  rw [upd_upd, upd_same]
theorem free_here {k : Nat} (hk : k < N) (h1 : ∀ j, j < k → isTaken S j = true) (h2 : isTaken S k = false) : freeAt S N = k :=
  BM.nx_eq _ _ _ _ _ (by omega) (fun q _ b => by rw [h1 q b]; rfl) (fun _ => ⟨by omega, h2⟩)
theorem free_none (h1 : ∀ j, j < N → isTaken S j = true) : freeAt S N = N :=
  BM.nx_eq _ _ _ _ _ (by omega) (fun q _ b => by rw [h1 q b]; rfl) (fun h => absurd h (by omega))
set_option maxRecDepth 100000 in
set_option maxHeartbeats 2000000 in
theorem radd_all (h : RfAt w r N S) (hr : r < w.heap.size) (hN : N ≤ 4096) (hgen : ∀ k, (S k).gen ≤ 256) (x : En) : Calls Tryd.prog 27 #[.slice (some ⟨r, 0, none⟩) N N, x.v] w (RAddPost w r N S x) := by
  obtain ⟨ea, er, eh, ep⟩ := x
  unfold En.v
  dsimp only
  have hb0 := ((Below.refl w.heap.size w).alloc (Nat.le_refl _) (.cells #[.int .i64 ea, .int .i64 er, .bool eh, .bool ep] 35)).alloc (by simp) (.cells #[.int .i64 0, .int .i64 0] 33)
  obtain ⟨W, hW⟩ : ∃ W, W = (w.alloc (.cells #[.int .i64 ea, .int .i64 er, .bool eh, .bool ep] 35)).alloc (.cells #[.int .i64 0, .int .i64 0] 33) := ⟨_, rfl⟩
  have W1 : Whole W (w.heap.size + 1) 33 #[.int .i64 0, .int .i64 0] := by
    rw [hW]
    have := Whole.fresh (w.alloc (.cells #[.int .i64 ea, .int .i64 er, .bool eh, .bool ep] 35)) 33 #[.int .i64 0, .int .i64 0]
    rwa [World.size_alloc] at this
  have W0 : Whole W w.heap.size 35 #[.int .i64 ea, .int .i64 er, .bool eh, .bool ep] := by rw [hW]; exact (Whole.fresh w _ _).alloc _
  rw [← hW] at hb0
  have hR := h.below hb0 hr
  have HB0 := Lib.hid hb0
  have HW0 := Lib.hid W0
  have HW1 := Lib.hid W1
  have HRF := Lib.hid hR
  have HG := Lib.hid hgen
  have hWs : W.heap.size = w.heap.size + 2 := by rw [hW]; simp
  go_enter Tryd.func27, Tryd.ntmps27
  go_wp2
  go_loopw [6] (fun x wr => ∃ k : Nat, k ≤ N ∧ x = .int .i64 k ∧ W = wr ∧ ∀ j, j < k → isTaken S j = true) (fun x _ => N - (intOf x).toNat)
  case atStart => exact ⟨0, Nat.zero_le _, rfl, hW, fun j hj => absurd hj (by omega)⟩
  case round =>
    clear hb0 hR W0 W1 h hgen hW
    obtain ⟨k, hk, rfl, rfl, hall⟩ := hrel
    have HALL := Lib.hid hall
    clear hall
    by_cases hlt : k < N
    · obtain ⟨c0, c1, c2, c3, c4, c5⟩ := HRF.out.slot k hlt
      have hg := HG.out k
      cases hu : (S k).used
      · rw [hu] at c1
        by_cases hgk : (S k).gen ≤ 255
        · have d0 : decide (((S k).gen : Int) ≤ 255) = true := by simp; omega
          have hfa := free_here hlt HALL.out (by unfold isTaken; rw [hu]; simp; omega)
          have q1 := HRF.out.thaw (k * 6 + 1) (by omega)
          have t1 := HRF.out.usedTo k hlt true
          have t2 := t1.entry k hlt ⟨ea, er, eh, ep⟩
          rw [radd_next] at t2
          obtain ⟨Wa, hWa⟩ : ∃ Wa, Wa = W.setCell ⟨r, k * 6 + 1, none⟩ (.bool true) := ⟨_, rfl⟩
          rw [← hWa] at t1 t2
          have ha : Aft [r] w Wa := by rw [hWa]; exact (Aft.of_below HB0.out).setCell (by simp) _ _
          have z0 : Whole Wa w.heap.size 35 #[.int .i64 ea, .int .i64 er, .bool eh, .bool ep] := by rw [hWa]; exact HW0.out.far (show w.heap.size ≠ r by omega) _
          have z1 : Whole Wa (w.heap.size + 1) 33 #[.int .i64 0, .int .i64 0] := by rw [hWa]; exact HW1.out.far (show w.heap.size + 1 ≠ r by omega) _
          have HT1 := Lib.hid t1
          have HT2 := Lib.hid t2
          have HA := Lib.hid ha
          have HZ1 := Lib.hid z1
          have HZ0 := Lib.hid z0
          clear t1 t2 ha z1 z0
          go_upto_region 6 with (fail)
          rw [← hWa]
          clear hWa q1 c0 c1 c2 c3 c4 c5
          obtain ⟨c0, c1, c2, c3⟩ := HZ0.out.four
          have q2 := HT1.out.thaw (k * 6 + 2) (by omega)
          have q3 := HT1.out.thaw (k * 6 + 3) (by omega)
          have q4 := HT1.out.thaw (k * 6 + 4) (by omega)
          have q5 := HT1.out.thaw (k * 6 + 5) (by omega)
          obtain ⟨d0, d1, d2, d3, d4, d5⟩ := HT1.out.slot k hlt
          go_upto_region 7 with (fail)
          obtain ⟨Wb, hWb⟩ : ∃ Wb, Wb = set4 Wa r (k * 6 + 2) (.int .i64 ea) (.int .i64 er) (.bool eh) (.bool ep) := ⟨_, rfl⟩
          have t2 := HT2.out
          dsimp only at t2
          rw [← hWb] at t2
          have hab : Aft [r] w Wb := by rw [hWb]; exact HA.out.trans (Aft.of_at (set4_only Wa r (k * 6 + 2) (.int .i64 ea) (.int .i64 er) (.bool eh) (.bool ep)) (by simp))
          have z2 : Whole Wb (w.heap.size + 1) 33 #[.int .i64 0, .int .i64 0] := by
            rw [hWb]
            exact ((set4_only Wa r (k * 6 + 2) (.int .i64 ea) (.int .i64 er) (.bool eh) (.bool ep)).block _ (by omega)).trans HZ1.out
          unfold set4 at hWb
          rw [← hWb]
          have g0 : Wb.cell? ⟨r, k * 6, none⟩ = some (.int .i64 ((S k).gen : Nat)) := by
            have := (t2.slot k hlt).g
            unfold addS at this
            rw [upd_same] at this
            exact this
          obtain ⟨y0, y1⟩ := z2.two
          have v0 := z2.free 0
          have v1 := z2.free 1
          have HT3 := Lib.hid t2
          have HAB := Lib.hid hab
          clear hWb t2 hab z2 HT1 HT2 HA HZ1 HZ0 d0 d1 d2 d3 d4 d5 c0 c1 c2 c3 q2 q3 q4 q5
          go_wp2
          unfold RAddPost addI addG addE addSt
          rw [hfa, if_pos hlt, if_pos hlt, if_pos hlt, if_pos hlt]
          have hb9 := Below.set2 (Below.refl w.heap.size Wb) (show w.heap.size ≤ w.heap.size + 1 by omega) 0 1 (.int .i64 (k : Nat)) (.int .i64 ((S k).gen : Nat))
          refine bodyPost_ret (v := .tuple #[.agg #[.int .i64 k, .int .i64 ((S k).gen : Nat)], .int .i64 0]) (by simp [results, Tryd.results27, go_sem, y0, y1]) rfl ⟨rfl, HAB.out.later hb9, HT3.out.below hb9 hr⟩
        · have d0 : decide (((S k).gen : Int) ≤ 255) = false := by simp; omega
          go_wp2
          go_roundw
          case rel => exact ⟨k + 1, by omega, by go_num, trivial, fun j hj => by
            by_cases e : j = k
            · subst e; unfold isTaken; simp; right; omega
            · exact HALL.out j (by omega)⟩
          case measure => simp [intOf]; omega
      · rw [hu] at c1
        go_wp2
        go_roundw
        case rel => exact ⟨k + 1, by omega, by go_num, trivial, fun j hj => by
          by_cases e : j = k
          · subst e; unfold isTaken; rw [hu]; rfl
          · exact HALL.out j (by omega)⟩
        case measure => simp [intOf]; omega
    · obtain rfl : N = k := by omega
      have hfa := free_none HALL.out
      obtain ⟨y0, y1⟩ := HW1.out.two
      have v0 := HW1.out.free 0
      have v1 := HW1.out.free 1
      go_wp2
      unfold RAddPost addI addG addE addSt
      rw [hfa, if_neg (by omega), if_neg (by omega), if_neg (by omega), if_neg (by omega)]
      have hb9 := Below.set2 (Below.refl w.heap.size W) (show w.heap.size ≤ w.heap.size + 1 by omega) 0 1 (.int .i64 0) (.int .i64 0)
      refine bodyPost_ret (v := .tuple #[.agg #[.int .i64 0, .int .i64 0], .int .i64 12]) (by simp [results, Tryd.results27, go_sem, y0, y1]) rfl ⟨rfl, (Aft.of_below HB0.out).later hb9, HRF.out.below hb9 hr⟩
/-- Drop of a slot. -/
theorem rdrop_next (S : Nat → Sl) (k : Nat) : upd (setS (upd S k ⟨(S k).gen, false, (S k).e⟩) k En.zero) k ⟨(S k).gen + 1, (setS (upd S k ⟨(S k).gen, false, (S k).e⟩) k En.zero k).used, (setS (upd S k ⟨(S k).gen, false, (S k).e⟩) k En.zero k).e⟩ = dropS S k := by
  unfold setS dropS
  rw [upd_same, upd_upd, upd_upd, upd_same]
set_option maxRecDepth 100000 in
set_option maxHeartbeats 2000000 in
theorem rdrop_any (h : RfAt w r N S) (hr : r < w.heap.size) (k : Nat) (hk : k < N) (hg : (S k).gen ≤ 1000) (g : Int) : Calls Tryd.prog 28 #[.slice (some ⟨r, 0, none⟩) N N, .agg #[.int .i64 k, .int .i64 g]] w fun e w' => (∃ v, e = .returned v) ∧ Aft [r] w w' ∧ RfAt w' r N (dropS S k) := by
  have hb0 := (Below.refl w.heap.size w).alloc (Nat.le_refl _) (.cells #[.int .i64 k, .int .i64 g] 33)
  obtain ⟨W, hW⟩ : ∃ W, W = w.alloc (.cells #[.int .i64 k, .int .i64 g] 33) := ⟨_, rfl⟩
  have W0 : Whole W w.heap.size 33 #[.int .i64 k, .int .i64 g] := by rw [hW]; exact Whole.fresh w _ _
  rw [← hW] at hb0
  have hR := h.below hb0 hr
  have hne : w.heap.size ≠ r := by omega
  have hA0 : Aft [r] w W := Aft.of_below hb0
  obtain ⟨c0, c1, _⟩ := hR.slot k hk
  have q1 := hR.thaw (k * 6 + 1) (by omega)
  obtain ⟨x0, x1⟩ := W0.two
  obtain ⟨Wa, hWa⟩ : ∃ Wa, Wa = W.setCell ⟨r, k * 6 + 1, none⟩ (.bool false) := ⟨_, rfl⟩
  have ta := hR.usedTo k hk false
  rw [← hWa] at ta
  have W0a : Whole Wa w.heap.size 33 #[.int .i64 k, .int .i64 g] := by rw [hWa]; exact W0.far hne _
  have hAa : Aft [r] w Wa := by rw [hWa]; exact hA0.setCell (by simp) _ _
  obtain ⟨Wb, hWb⟩ : ∃ Wb, Wb = set4 Wa r (k * 6 + 2) (.int .i64 0) (.int .i64 0) (.bool false) (.bool false) := ⟨_, rfl⟩
  have tb := ta.entry k hk En.zero
  have tb' : RfAt (set4 Wa r (k * 6 + 2) (.int .i64 0) (.int .i64 0) (.bool false) (.bool false)) r N (setS (upd S k ⟨(S k).gen, false, (S k).e⟩) k En.zero) := tb
  rw [← hWb] at tb'
  have W0b : Whole Wb w.heap.size 33 #[.int .i64 k, .int .i64 g] := by rw [hWb]; exact ((set4_only Wa r (k * 6 + 2) (.int .i64 0) (.int .i64 0) (.bool false) (.bool false)).block _ hne).trans W0a
  have hAb : Aft [r] w Wb := by rw [hWb]; exact hAa.trans (Aft.of_at (set4_only Wa r (k * 6 + 2) (.int .i64 0) (.int .i64 0) (.bool false) (.bool false)) (by simp))
  have tc := tb'.gens k hk ((S k).gen + 1)
  rw [rdrop_next S k] at tc
  have g0 : Wb.cell? ⟨r, k * 6, none⟩ = some (.int .i64 ((S k).gen : Nat)) := by
    have := (tb'.slot k hk).g
    unfold setS at this
    rw [upd_same, upd_same] at this
    exact this
  have q0 := tb'.thaw (k * 6) (by omega)
  have HTa := Lib.hid ta
  have HTc := Lib.hid tc
  have HAb := Lib.hid hAb
  have HWb := Lib.hid hWb
  have HWa := Lib.hid hWa
  have HW0a := Lib.hid W0a
  have HW0b := Lib.hid W0b
  have HG0 := Lib.hid g0
  have HQ0 := Lib.hid q0
  have HWW := Lib.hid hW
  rw [hW] at c1 q1 x0 x1
  clear ta tb tb' tc hAa hAb hA0 W0 W0a W0b hR c0 g0 q0 hW hWa hWb h hb0 hr
  go_enter Tryd.func28, Tryd.ntmps28
  go_upto_region 2 with (fail)
  rw [← HWW.out, ← HWa.out]
  obtain ⟨x0, x1⟩ := HW0a.out.two
  have q2 := HTa.out.thaw (k * 6 + 2) (by omega)
  have q3 := HTa.out.thaw (k * 6 + 3) (by omega)
  have q4 := HTa.out.thaw (k * 6 + 4) (by omega)
  have q5 := HTa.out.thaw (k * 6 + 5) (by omega)
  obtain ⟨d0, d1, d2, d3, d4, d5⟩ := HTa.out.slot k hk
  go_upto_region 3 with (fail)
  have hWb := HWb.out
  unfold set4 at hWb
  rw [← hWb]
  clear hWb q2 q3 q4 q5 d0 d1 d2 d3 d4 d5 q1 c1
  obtain ⟨x0, x1⟩ := HW0b.out.two
  have g0 := HG0.out
  have q0 := HQ0.out
  go_wp2
  go_end0
  refine ⟨⟨_, rfl⟩, HAb.out.setCell (by simp) _ _, ?_⟩
  have := HTc.out
  rw [show (((S k).gen + 1 : Nat) : Int) = ((S k).gen : Int) + 1 by omega] at this
  exact this
set_option maxHeartbeats 2000000 in
theorem rcounts_any (h : RfAt w r N S) (hN : N ≤ 4096) (hgen : ∀ k, (S k).gen ≤ 256) : Calls Tryd.prog 31 #[.slice (some ⟨r, 0, none⟩) N N] w fun e w' =>
    e = .returned (.tuple #[.int .i64 (BM.cnt (isUsed S) N : Nat), .int .i64 ((N - BM.cnt (isTaken S) N : Nat) : Nat), .int .i64 ((BM.cnt (isTaken S) N - BM.cnt (isUsed S) N : Nat) : Nat)]) ∧ w = w' := by
  have HRF := Lib.hid h
  have HG := Lib.hid hgen
  clear h hgen
  go_enter Tryd.func31, Tryd.ntmps31
  go_wp2
  go_loopw [5, 6, 7, 8] (fun u l g x wr => ∃ (k cu cl cg : Nat), k ≤ N ∧ x = .int .i64 k ∧ u = .int .i64 cu ∧ l = .int .i64 cl ∧ g = .int .i64 cg ∧ w = wr ∧ (cu ≤ k ∧ cl ≤ k ∧ cg ≤ k) ∧ Hid (cu = BM.cnt (isUsed S) k ∧ cl + BM.cnt (isTaken S) k = k ∧ cg + cu = BM.cnt (isTaken S) k)) (fun _ _ _ x _ => N - (intOf x).toNat)
  case atStart => exact ⟨0, 0, 0, 0, Nat.zero_le _, rfl, rfl, rfl, rfl, rfl, ⟨Nat.le_refl _, Nat.le_refl _, Nat.le_refl _⟩, Lib.hid ⟨rfl, rfl, rfl⟩⟩
  case round =>
    obtain ⟨k, cu, cl, cg, hk, rfl, rfl, rfl, rfl, rfl, ⟨b1, b2, b3⟩, HC⟩ := hrel
    by_cases hlt : k < N
    · obtain ⟨c0, c1, _⟩ := HRF.out.slot k hlt
      have hg := HG.out k
      cases hu : (S k).used
      · rw [hu] at c1
        by_cases hgk : (S k).gen ≤ 255
        · have d0 : decide (((S k).gen : Int) ≤ 255) = true := by simp; omega
          go_wp2
          go_roundw
          case rel =>
            refine ⟨k + 1, cu, cl + 1, cg, by omega, by go_num, rfl, by go_num, rfl, ?_, ⟨by omega, by omega, by omega⟩, ?_⟩
            · first | rfl | trivial
            · obtain ⟨e1, e2, e3⟩ := HC.out
              have t : isTaken S k = false := by unfold isTaken; rw [hu]; simp; omega
              exact Lib.hid ⟨by rw [BM.cnt, show isUsed S k = false from hu]; simpa using e1, by rw [BM.cnt, t]; simp; omega, by rw [BM.cnt, t]; simpa using e3⟩
          case measure => simp [intOf]; omega
        · have d0 : decide (((S k).gen : Int) ≤ 255) = false := by simp; omega
          go_wp2
          go_roundw
          case rel =>
            refine ⟨k + 1, cu, cl, cg + 1, by omega, by go_num, rfl, rfl, by go_num, ?_, ⟨by omega, by omega, by omega⟩, ?_⟩
            · first | rfl | trivial
            · obtain ⟨e1, e2, e3⟩ := HC.out
              have t : isTaken S k = true := by unfold isTaken; rw [hu]; simp; omega
              exact Lib.hid ⟨by rw [BM.cnt, show isUsed S k = false from hu]; simpa using e1, by rw [BM.cnt, t]; simp; omega, by rw [BM.cnt, t]; simp; omega⟩
          case measure => simp [intOf]; omega
      · rw [hu] at c1
        go_wp2
        go_roundw
        case rel =>
          refine ⟨k + 1, cu + 1, cl, cg, by omega, by go_num, by go_num, rfl, rfl, ?_, ⟨by omega, by omega, by omega⟩, ?_⟩
          · first | rfl | trivial
          · obtain ⟨e1, e2, e3⟩ := HC.out
            have t : isTaken S k = true := by unfold isTaken; rw [hu]; rfl
            exact Lib.hid ⟨by rw [BM.cnt, show isUsed S k = true from hu]; simp; omega, by rw [BM.cnt, t]; simp; omega, by rw [BM.cnt, t]; simp; omega⟩
        case measure => simp [intOf]; omega
    · obtain rfl : N = k := by omega
      obtain ⟨e1, e2, e3⟩ := HC.out
      have f1 := Lib.hid (show ((BM.cnt (isUsed S) N : Nat) : Int) = (cu : Int) by omega)
      have f2 := Lib.hid (show ((N - BM.cnt (isTaken S) N : Nat) : Int) = (cl : Int) by omega)
      have f3 := Lib.hid (show ((BM.cnt (isTaken S) N - BM.cnt (isUsed S) N : Nat) : Int) = (cg : Int) by omega)
      clear e1 e2 e3
      go_wp2
      go_ret3
      refine ⟨?_, rfl⟩
      rw [f1.out, f2.out, f3.out]
      rfl
end
end Go.Proofs.YtldlolgdglmocaaDoor
