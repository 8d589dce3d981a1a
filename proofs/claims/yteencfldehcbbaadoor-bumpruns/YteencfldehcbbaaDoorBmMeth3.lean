/- Contracts of Set, Fill, New of package bitmap, and of New, In, Fill, First, Run of the document's answers. -/
import Derived.Test.YteencfldehcbbaaDoorBmMeth2
import Derived.Test.YteencfldehcbbaaDoorBlk
namespace Go.Proofs.YteencfldehcbbaaDoor
open Go.RowKit

/-- What a call that turns places leaves. -/
def Turned (w : World) (b c n : Nat) (ws : Nat → Nat) (i j : Nat) (v : Bool) (w' : World) : Prop :=
  OnlyAt c w w' ∧ ∃ ws', MapAt w' b c n ws' ∧ ∀ q, BM.on ws' q = if i ≤ q ∧ q < j then v else BM.on ws q

set_option maxHeartbeats 400000 in
theorem set_ok (b c n i : Nat) (ws : Nat → Nat) (v : Bool) (w : World) (h : MapAt w b c n ws) (hi : i < n) :
    Calls Tryd.prog 73 #[.pointer (some ⟨b, 0, none⟩), .int .i64 i, .bool v] w fun e w' => e = .returned (.int .i64 0) ∧ Turned w b c n ws i (i + 1) v w' := by
  have h2 := h.n2
  have c0 := h.len
  have t := turn_any b c n i (i + 1) ws w h (by omega) (by omega) v
  rw [show ((i + 1 : Nat) : Int) = (i : Int) + 1 by omega] at t
  have T := Lib.hid t
  clear t
  go_enter Tryd.func73, Tryd.ntmps73
  go_wp2_with (first
    | (go_at_call 76; refine T.out.mono ?_; rintro e w' ⟨⟨x, rfl⟩, ho, hm⟩; have HM := Lib.hid hm; clear hm))
  go_ret
  exact ⟨rfl, ho, HM.out⟩
set_option maxHeartbeats 400000 in
theorem set_no (b n : Nat) (i : Int) (v : Bool) (w : World) (h : w.cell? ⟨b, 0, none⟩ = some (.int .i64 n)) (hi : i < 0 ∨ (n : Int) ≤ i) :
    Calls Tryd.prog 73 #[.pointer (some ⟨b, 0, none⟩), .int .i64 i, .bool v] w fun e w' => e = .returned (.int .i64 3) ∧ w = w' := by
  rcases hi with hi | hi
  · go_enter Tryd.func73, Tryd.ntmps73
    go_wp2
    go_ret
    exact ⟨rfl, rfl⟩
  · have h0 : 0 ≤ i := by omega
    go_enter Tryd.func73, Tryd.ntmps73
    go_wp2
    go_ret
    exact ⟨rfl, rfl⟩
theorem set_nil (w : World) :
    Calls Tryd.prog 73 #[.pointer none, .int .i64 0, .bool true] w fun e w' => e = .returned (.int .i64 1) ∧ w = w' := by
  go_enter Tryd.func73, Tryd.ntmps73
  go_wp2
  go_ret
  exact ⟨rfl, rfl⟩
theorem fill_nil (w : World) :
    Calls Tryd.prog 75 #[.pointer none, .int .i64 0, .int .i64 0, .bool true] w fun e w' => e = .returned (.int .i64 1) ∧ w = w' := by
  go_enter Tryd.func75, Tryd.ntmps75
  go_wp2
  go_ret
  exact ⟨rfl, rfl⟩
set_option maxHeartbeats 400000 in
theorem fill_ok (b c n i k : Nat) (ws : Nat → Nat) (v : Bool) (w : World) (h : MapAt w b c n ws) (hi : i + k ≤ n) :
    Calls Tryd.prog 75 #[.pointer (some ⟨b, 0, none⟩), .int .i64 i, .int .i64 k, .bool v] w fun e w' => e = .returned (.int .i64 0) ∧ Turned w b c n ws i (i + k) v w' := by
  have h2 := h.n2
  have c0 := h.len
  have t := turn_any b c n i (i + k) ws w h (by omega) (by omega) v
  rw [show ((i + k : Nat) : Int) = (i : Int) + (k : Int) by omega] at t
  have T := Lib.hid t
  clear t
  have d1 : decide ((n : Int) < (i : Int)) = false := by simp; omega
  have d2 : decide ((n : Int) - (i : Int) < (k : Int)) = false := by simp; omega
  have d3 : decide (n < i) = false := by simp; omega
  go_enter Tryd.func75, Tryd.ntmps75
  go_wp2_with (first
    | (go_at_call 76; refine T.out.mono ?_; rintro e w' ⟨⟨x, rfl⟩, ho, hm⟩; have HM := Lib.hid hm; clear hm))
  go_ret
  exact ⟨rfl, ho, HM.out⟩
/-- Are k places from i on all there? -/
def inB (n : Nat) (i k : Int) : Bool := decide (0 ≤ k) && decide (0 ≤ i) && decide (i ≤ n) && decide (k ≤ n - i)
theorem inB_iff (n : Nat) (i k : Int) : inB n i k = true ↔ 0 ≤ k ∧ 0 ≤ i ∧ i ≤ n ∧ k ≤ n - i := by
  unfold inB
  simp
  omega
theorem inB_not (n : Nat) (i k : Int) : inB n i k = false ↔ k < 0 ∨ (0 ≤ k ∧ i < 0) ∨ (0 ≤ k ∧ 0 ≤ i ∧ n < i) ∨ (0 ≤ k ∧ 0 ≤ i ∧ i ≤ n ∧ n - i < k) := by
  unfold inB
  simp
  omega
set_option maxHeartbeats 400000 in
theorem fill_no (b n : Nat) (i k : Int) (v : Bool) (w : World) (h : w.cell? ⟨b, 0, none⟩ = some (.int .i64 n)) (hn : n ≤ 1048576) (hi : inB n i k = false) :
    Calls Tryd.prog 75 #[.pointer (some ⟨b, 0, none⟩), .int .i64 i, .int .i64 k, .bool v] w fun e w' => e = .returned (.int .i64 3) ∧ w = w' := by
  rcases (inB_not n i k).1 hi with a | ⟨a, a2⟩ | ⟨a, a2, a3⟩ | ⟨a, a2, a3, a4⟩
  all_goals
    clear hi
    go_enter Tryd.func75, Tryd.ntmps75
    go_wp2
    go_ret
    exact ⟨rfl, rfl⟩
theorem new_no (n : Int) (w : World) (h : n < 1 ∨ 1048576 < n) :
    Calls Tryd.prog 56 #[.int .i64 n] w fun e w' => e = .returned (.tuple #[.pointer none, .int .i64 3]) ∧ w = w' := by
  rcases h with h | h
  · go_enter Tryd.func56, Tryd.ntmps56
    go_wp2
    go_ret2
    exact ⟨rfl, rfl⟩
  · have h0 : 1 ≤ n := by omega
    go_enter Tryd.func56, Tryd.ntmps56
    go_wp2
    go_ret2
    exact ⟨rfl, rfl⟩
/-- What New leaves. -/
def NewPost (n : Nat) (w : World) (e : Ending) (w' : World) : Prop :=
  e = .returned (.tuple #[.pointer (some ⟨w.heap.size + 1, 0, none⟩), .int .i64 0]) ∧ MapAt w' (w.heap.size + 1) w.heap.size n (fun _ => 0) ∧ Below w.heap.size w w' ∧ w'.heap.size = w.heap.size + 2
set_option maxHeartbeats 400000 in
theorem new_ok (n : Nat) (w : World) (h : 1 ≤ n) (h2 : n ≤ 1048576) :
    Calls Tryd.prog 56 #[.int .i64 n] w (NewPost n w) := by
  obtain ⟨m, hm⟩ : ∃ m, m = (n + 63) / 64 := ⟨_, rfl⟩
  have hM : ((n : Int) + 64 - 1) / 64 = (m : Int) := by omega
  have hmk := fun W => run_make_row' (P := Tryd.prog) 43 57 (.int .u64 0) 8 Tryd.underlying43 (by kernel_rfl) rfl .i64 .i64 m (by omega) (by omega) W
  have HM := Lib.hid hm
  clear hm
  go_enter Tryd.func56, Tryd.ntmps56
  go_wp2
  go_ret2
  have W1 := (Whole.fresh w 57 (madeCells #[.int .u64 0] m)).alloc (.cells #[.int .i64 n, .slice (some ⟨w.heap.size, 0, none⟩) m m] 99)
  have W2 := Whole.fresh (w.alloc (.cells (madeCells #[.int .u64 0] m) 57)) 99 #[.int .i64 n, .slice (some ⟨w.heap.size, 0, none⟩) m m]
  rw [World.size_alloc] at W2
  refine ⟨rfl, ⟨h, h2, (W2.cell 0).trans rfl, ?_, fun k hk => ?_, fun k _ => W1.free k, fun _ => by omega, fun i _ => by simp [BM.on], by omega⟩, ((Below.refl _ _).alloc (Nat.le_refl _) _).alloc (by simp) _, by simp⟩
  · rw [← HM.out]; exact (W2.cell 1).trans rfl
  · rw [← HM.out] at hk
    exact (W1.cell k).trans (made_at _ _ _ hk)

/-- The document's map: its places. -/
structure RefAt (w : World) (r n : Nat) (f : Nat → Bool) : Prop where
  cell : ∀ k, k < n → w.cell? ⟨r, k, none⟩ = some (.bool (f k))
  thaw : ∀ k, k < n → w.frozen? ⟨r, k, none⟩ = false
theorem RefAt.below {B r n : Nat} {w w' : World} {f : Nat → Bool} (h : RefAt w r n f) (hb : Below B w w') (hr : r < B) : RefAt w' r n f :=
  ⟨fun k hk => (hb.cell (p := ⟨r, k, none⟩) hr).trans (h.cell k hk), fun k hk => (hb.frozen (p := ⟨r, k, none⟩) hr).trans (h.thaw k hk)⟩
theorem RefAt.only {c r n : Nat} {w w' : World} {f : Nat → Bool} (h : RefAt w r n f) (ho : OnlyAt c w w') (hr : r ≠ c) : RefAt w' r n f :=
  ⟨fun k hk => (ho.cell (p := ⟨r, k, none⟩) hr).trans (h.cell k hk), fun k hk => (ho.frozen (p := ⟨r, k, none⟩) hr).trans (h.thaw k hk)⟩
theorem RefAt.congr {r n : Nat} {w : World} {f g : Nat → Bool} (h : RefAt w r n f) (e : ∀ k, f k = g k) : RefAt w r n g :=
  ⟨fun k hk => by rw [← e k]; exact h.cell k hk, h.thaw⟩
theorem MapAt.below {B b c n : Nat} {w w' : World} {ws : Nat → Nat} (h : MapAt w b c n ws) (hb : Below B w w') (h1 : b < B) (h2 : c < B) : MapAt w' b c n ws :=
  ⟨h.n1, h.n2, (hb.cell (p := ⟨b, 0, none⟩) h1).trans h.len, (hb.cell (p := ⟨b, 1, none⟩) h1).trans h.row, fun k hk => (hb.cell (p := ⟨c, k, none⟩) h2).trans (h.word k hk),
    fun k hk => (hb.frozen (p := ⟨c, k, none⟩) h2).trans (h.thaw k hk), h.lt, h.past, h.ne⟩
theorem MapAt.only {r b c n : Nat} {w w' : World} {ws : Nat → Nat} (h : MapAt w b c n ws) (ho : OnlyAt r w w') (h1 : b ≠ r) (h2 : c ≠ r) : MapAt w' b c n ws :=
  ⟨h.n1, h.n2, (ho.cell (p := ⟨b, 0, none⟩) h1).trans h.len, (ho.cell (p := ⟨b, 1, none⟩) h1).trans h.row, fun k hk => (ho.cell (p := ⟨c, k, none⟩) h2).trans (h.word k hk),
    fun k hk => (ho.frozen (p := ⟨c, k, none⟩) h2).trans (h.thaw k hk), h.lt, h.past, h.ne⟩

def RefNewPost (n : Nat) (w : World) (e : Ending) (w' : World) : Prop :=
  e = .returned (.slice (some ⟨w.heap.size, 0, none⟩) n n) ∧ RefAt w' w.heap.size n (fun _ => false) ∧ Below w.heap.size w w' ∧ w'.heap.size = w.heap.size + 1
theorem RefAt.stored {w : World} {r n : Nat} {f : Nat → Bool} (h : RefAt w r n f) (k : Nat) (v : Bool) :
    RefAt (w.setCell ⟨r, k, none⟩ (.bool v)) r n (fun q => if q = k then v else f q) := by
  refine ⟨fun j hj => ?_, fun j hj => by rw [World.frozen?_setCell]; exact h.thaw j hj⟩
  by_cases e : j = k
  · subst e
    rw [if_pos rfl]
    exact World.cell?_setCell_same' _ _ _ (by rw [h.cell j hj]; rfl)
  · rw [if_neg e]
    exact (World.cell?_setCell_other _ _ _ _ (by first | (simp; done) | (simp; omega))).trans (h.cell j hj)
def RefFilled (w : World) (r n : Nat) (f : Nat → Bool) (i k : Nat) (v : Bool) (e : Ending) (w' : World) : Prop :=
  (∃ x, e = .returned x) ∧ OnlyAt r w w' ∧ RefAt w' r n (fun q => if i ≤ q ∧ q < i + k then v else f q)
def RefFillAt (w : World) (r n : Nat) (f : Nat → Bool) (i k : Nat) (v : Bool) (x : Value) (wr : World) : Prop :=
  ∃ j : Nat, j ≤ k ∧ x = .int .i64 j ∧ OnlyAt r w wr ∧ RefAt wr r n (fun q => if i ≤ q ∧ q < i + j then v else f q)
end Go.Proofs.YteencfldehcbbaaDoor
