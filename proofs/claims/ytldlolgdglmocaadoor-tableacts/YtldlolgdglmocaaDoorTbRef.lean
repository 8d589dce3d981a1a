/- The document's table: its state, and contracts of its functions. -/
import Derived.Test.YtldlolgdglmocaaDoorTbAdd
import Derived.Test.YtldlolgdglmocaaDoorTbNew
namespace Go.Proofs.YtldlolgdglmocaaDoor
open Go.RowKit
set_option linter.unusedVariables false

/-- A slot's six cells. -/
structure RSlot (w : World) (r k : Nat) (x : Sl) : Prop where
  g : w.cell? ⟨r, k * 6, none⟩ = some (.int .i64 (x.gen : Nat))
  u : w.cell? ⟨r, k * 6 + 1, none⟩ = some (.bool x.used)
  a : w.cell? ⟨r, k * 6 + 2, none⟩ = some (.int .i64 x.e.a)
  r' : w.cell? ⟨r, k * 6 + 3, none⟩ = some (.int .i64 x.e.r)
  h : w.cell? ⟨r, k * 6 + 4, none⟩ = some (.bool x.e.h)
  p : w.cell? ⟨r, k * 6 + 5, none⟩ = some (.bool x.e.p)
/-- The document's table. -/
structure RfAt (w : World) (r N : Nat) (S : Nat → Sl) : Prop where
  slot : ∀ k, k < N → RSlot w r k (S k)
  thaw : ∀ k, k < N * 6 → w.frozen? ⟨r, k, none⟩ = false
section
variable {w w' : World} {r N : Nat} {S : Nat → Sl}
theorem RSlot.block {k : Nat} {x : Sl} (h : RSlot w r k x) (e : w'.heap[r]? = w.heap[r]?) : RSlot w' r k x :=
  ⟨(World.cell?_of_block (a := ⟨r, _, none⟩) e).trans h.g, (World.cell?_of_block (a := ⟨r, _, none⟩) e).trans h.u, (World.cell?_of_block (a := ⟨r, _, none⟩) e).trans h.a, (World.cell?_of_block (a := ⟨r, _, none⟩) e).trans h.r', (World.cell?_of_block (a := ⟨r, _, none⟩) e).trans h.h, (World.cell?_of_block (a := ⟨r, _, none⟩) e).trans h.p⟩
theorem RfAt.block (h : RfAt w r N S) (e : w'.heap[r]? = w.heap[r]?) : RfAt w' r N S :=
  ⟨fun k hk => (h.slot k hk).block e, fun k hk => (World.frozen?_of_block (a := ⟨r, k, none⟩) e).trans (h.thaw k hk)⟩
theorem RfAt.heap (h : RfAt w r N S) (e : w'.heap = w.heap) : RfAt w' r N S := h.block (by rw [e])
theorem RfAt.below {B : Nat} (h : RfAt w r N S) (hb : Below B w w') (hr : r < B) : RfAt w' r N S := h.block (hb.block r hr)
theorem RfAt.aft {L : List Nat} (h : RfAt w r N S) (hb : Aft L w w') (hr : r < w.heap.size) (hl : r ∉ L) : RfAt w' r N S := h.block (hb.block r hr hl)

theorem RfAt.gens (h : RfAt w r N S) (k : Nat) (hk : k < N) (g : Nat) : RfAt (w.setCell ⟨r, k * 6, none⟩ (.int .i64 (g : Nat))) r N (upd S k ⟨g, (S k).used, (S k).e⟩) := by
  refine ⟨?_, fun j hj => by rw [World.frozen?_setCell]; exact h.thaw j hj⟩
  intro j hj
  have F := fun o' => cell_set (w := w) (s := r) (o := k * 6) (.int .i64 (g : Nat)) o' (by rw [(h.slot k hk).g]; rfl)
  have hs := h.slot j hj
  by_cases ej : j = k
  · subst ej
    rw [upd_same]
    refine ⟨?_, ?_, ?_, ?_, ?_, ?_⟩
    · rw [F, if_pos rfl]
    all_goals rw [F, if_neg (by omega)]
    · exact hs.u
    · exact hs.a
    · exact hs.r'
    · exact hs.h
    · exact hs.p
  · rw [upd_other _ _ ej]
    refine ⟨?_, ?_, ?_, ?_, ?_, ?_⟩
    all_goals rw [F, if_neg (by omega)]
    · exact hs.g
    · exact hs.u
    · exact hs.a
    · exact hs.r'
    · exact hs.h
    · exact hs.p
theorem RfAt.usedTo (h : RfAt w r N S) (k : Nat) (hk : k < N) (u : Bool) : RfAt (w.setCell ⟨r, k * 6 + 1, none⟩ (.bool u)) r N (upd S k ⟨(S k).gen, u, (S k).e⟩) := by
  refine ⟨?_, fun j hj => by rw [World.frozen?_setCell]; exact h.thaw j hj⟩
  intro j hj
  have F := fun o' => cell_set (w := w) (s := r) (o := k * 6 + 1) (.bool u) o' (by rw [(h.slot k hk).u]; rfl)
  have hs := h.slot j hj
  by_cases ej : j = k
  · subst ej
    rw [upd_same]
    refine ⟨?_, ?_, ?_, ?_, ?_, ?_⟩
    · rw [F, if_neg (by omega)]; exact hs.g
    · rw [F, if_pos rfl]
    all_goals rw [F, if_neg (by omega)]
    · exact hs.a
    · exact hs.r'
    · exact hs.h
    · exact hs.p
  · rw [upd_other _ _ ej]
    refine ⟨?_, ?_, ?_, ?_, ?_, ?_⟩
    all_goals rw [F, if_neg (by omega)]
    · exact hs.g
    · exact hs.u
    · exact hs.a
    · exact hs.r'
    · exact hs.h
    · exact hs.p
theorem RfAt.some4 (h : RfAt w r N S) {k : Nat} (hk : k < N) : ∀ j, j < 4 → (w.cell? ⟨r, k * 6 + 2 + j, none⟩).isSome = true := by
  intro j hj
  have := h.slot k hk
  match j, hj with
  | 0, _ => rw [this.a]; rfl
  | 1, _ => rw [this.r']; rfl
  | 2, _ => rw [this.h]; rfl
  | 3, _ => rw [this.p]; rfl
theorem RfAt.entry (h : RfAt w r N S) (k : Nat) (hk : k < N) (e : En) : RfAt (set4 w r (k * 6 + 2) (.int .i64 e.a) (.int .i64 e.r) (.bool e.h) (.bool e.p)) r N (setS S k e) := by
  refine ⟨?_, fun j hj => by unfold set4; rw [World.frozen?_setCell, World.frozen?_setCell, World.frozen?_setCell, World.frozen?_setCell]; exact h.thaw j hj⟩
  intro j hj
  have F := fun o' => four_set (w := w) (s := r) (o := k * 6 + 2) (.int .i64 e.a) (.int .i64 e.r) (.bool e.h) (.bool e.p) o' (h.some4 hk)
  have hs := h.slot j hj
  unfold set4 setS
  by_cases ej : j = k
  · subst ej
    rw [upd_same]
    refine ⟨?_, ?_, ?_, ?_, ?_, ?_⟩
    · rw [F, if_neg (by omega), if_neg (by omega), if_neg (by omega), if_neg (by omega)]; exact hs.g
    · rw [F, if_neg (by omega), if_neg (by omega), if_neg (by omega), if_neg (by omega)]; exact hs.u
    · rw [F, if_neg (by omega), if_neg (by omega), if_neg (by omega), if_pos rfl]
    · rw [F, if_neg (by omega), if_neg (by omega), if_pos (by omega)]
    · rw [F, if_neg (by omega), if_pos (by omega)]
    · rw [F, if_pos (by omega)]
  · rw [upd_other _ _ ej]
    refine ⟨?_, ?_, ?_, ?_, ?_, ?_⟩
    all_goals rw [F, if_neg (by omega), if_neg (by omega), if_neg (by omega), if_neg (by omega)]
    · exact hs.g
    · exact hs.u
    · exact hs.a
    · exact hs.r'
    · exact hs.h
    · exact hs.p

set_option maxHeartbeats 1000000 in
theorem rfresh_any (h : RfAt w r N S) (hN : N ≤ 4096) (i g : Int) : Calls Tryd.prog 26 #[.slice (some ⟨r, 0, none⟩) N N, .agg #[.int .i64 i, .int .i64 g]] w fun e w' => e = .returned (.bool (freshB S N i g)) ∧ Below w.heap.size w w' := by
  have W0 := Whole.fresh w 33 #[.int .i64 i, .int .i64 g]
  have hb0 := (Below.refl w.heap.size w).alloc (Nat.le_refl _) (.cells #[.int .i64 i, .int .i64 g] 33)
  obtain ⟨t0, t1⟩ := W0.two
  clear W0
  by_cases h0 : 0 ≤ i
  · by_cases h1 : i < N
    · obtain ⟨k, rfl⟩ := Int.eq_ofNat_of_zero_le h0
      have hk : k < N := by omega
      have hs := h.slot k hk
      have rl : r < w.heap.size := cell_in hs.g
      have c0 := (hb0.cell (p := ⟨r, k * 6, none⟩) rl).trans hs.g
      have c1 := (hb0.cell (p := ⟨r, k * 6 + 1, none⟩) rl).trans hs.u
      have e0 : freshB S N k g = ((S k).used && decide (((S k).gen : Int) = g)) := by
        unfold freshB atB hasB isUsed
        rw [Int.toNat_natCast]
        simp [hk]
      rw [e0]
      have HB := Lib.hid hb0
      clear hb0 hs rl e0 h h0
      generalize (S k).gen = y at *
      generalize (S k).used = u at *
      have d1 : decide ((k : Int) < (N : Int)) = true := by simpa using h1
      have d0 : decide ((0 : Int) ≤ (k : Int)) = true := by simp
      cases u
      · go_enter Tryd.func26, Tryd.ntmps26
        go_wp2
        go_quiet (fail)
        go_wp2
        go_ret
        exact ⟨rfl, below_drewN HB.out _⟩
      · by_cases hg : (y : Int) = g
        · subst hg
          go_enter Tryd.func26, Tryd.ntmps26
          go_wp2
          go_quiet (fail)
          go_wp2
          go_ret
          exact ⟨ret_bool (by simp), below_drewN HB.out _⟩
        · have d2 : ((y : Int) == g) = false := by simpa using hg
          go_enter Tryd.func26, Tryd.ntmps26
          go_wp2
          go_quiet (fail)
          go_wp2
          go_ret
          exact ⟨ret_bool (by simp [hg]), below_drewN HB.out _⟩
    · have e0 : freshB S N i g = false := by unfold freshB atB hasB; simp [h1]
      rw [e0]
      have d1 : decide (i < (N : Int)) = false := by simpa using h1
      have d0 : decide ((0 : Int) ≤ i) = true := by simpa using h0
      go_enter Tryd.func26, Tryd.ntmps26
      go_wp2
      go_quiet (fail)
      go_wp2
      go_ret
      exact ⟨rfl, below_drewN hb0 _⟩
  · have e0 : freshB S N i g = false := by unfold freshB atB hasB; simp [h0]
    rw [e0]
    have d0 : decide ((0 : Int) ≤ i) = false := by simpa using h0
    go_enter Tryd.func26, Tryd.ntmps26
    go_wp2
    go_quiet (fail)
    go_wp2
    go_ret
    exact ⟨rfl, below_drewN hb0 _⟩
end
end Go.Proofs.YtldlolgdglmocaaDoor
