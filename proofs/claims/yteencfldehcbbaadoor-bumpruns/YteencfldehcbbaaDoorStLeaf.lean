/- The store's state, and contracts of its functions that only read. -/
import Derived.Test.YteencfldehcbbaaDoorBmRow
import Derived.Lib.SliceRun
namespace Go.Proofs.YteencfldehcbbaaDoor
open Go.RowKit

/-- But for these blocks the world is as it was. -/
structure OnlyIn (S : List Nat) (w w' : World) : Prop where
  os : w'.os = w.os
  tape : w'.tape = w.tape
  output : w'.output = w.output
  size : w'.heap.size = w.heap.size
  block : ∀ k, k ∉ S → w'.heap[k]? = w.heap[k]?
section
variable {S : List Nat} {c B : Nat} {w w' a b d : World}
theorem OnlyIn.refl (S : List Nat) (w : World) : OnlyIn S w w := ⟨rfl, rfl, rfl, rfl, fun _ _ => rfl⟩
theorem OnlyIn.trans (h : OnlyIn S a b) (k : OnlyIn S b d) : OnlyIn S a d :=
  ⟨k.os.trans h.os, k.tape.trans h.tape, k.output.trans h.output, k.size.trans h.size, fun i hi => (k.block i hi).trans (h.block i hi)⟩
theorem OnlyIn.of_at (h : OnlyAt c w w') (hc : c ∈ S) : OnlyIn S w w' := ⟨h.os, h.tape, h.output, h.size, fun k hk => h.block k (fun e => hk (e ▸ hc))⟩
theorem OnlyIn.sub {T : List Nat} (h : OnlyIn S w w') (hs : ∀ x ∈ S, x ∈ T) : OnlyIn T w w' := ⟨h.os, h.tape, h.output, h.size, fun k hk => h.block k (fun e => hk (hs k e))⟩
theorem OnlyIn.drewN (h : OnlyIn S w w') (n : Nat) : OnlyIn S w (w'.drewN n) := ⟨h.os, h.tape, h.output, h.size, h.block⟩
theorem OnlyIn.drew (h : OnlyIn S w w') : OnlyIn S w w'.drew := ⟨h.os, h.tape, h.output, h.size, h.block⟩
theorem OnlyIn.setCell (h : OnlyIn S a w) (hc : c ∈ S) (o : Nat) (u : Value) : OnlyIn S a (w.setCell ⟨c, o, none⟩ u) :=
  h.trans (OnlyIn.of_at ((OnlyAt.refl c w).setCell o u) hc)
theorem OnlyIn.below (h : OnlyIn S w w') (hB : ∀ c ∈ S, B ≤ c) : Below B w w' :=
  ⟨h.os, h.tape, h.output, by rw [h.size]; exact Nat.le_refl _, fun k hk => h.block k (fun e => by have := hB k e; omega)⟩
theorem OnlyIn.cell (h : OnlyIn S w w') {p : Addr} (hp : p.block ∉ S) : w'.cell? p = w.cell? p := World.cell?_of_block (w := w) (h.block p.block hp)
theorem OnlyIn.frozen (h : OnlyIn S w w') {p : Addr} (hp : p.block ∉ S) : w'.frozen? p = w.frozen? p := World.frozen?_of_block (w := w) (h.block p.block hp)
theorem OnlyAt.setCells (b : Nat) : ∀ (vs : List Value) (o : Nat) (w : World), OnlyAt b w (w.setCells b o vs)
  | [], _, w => OnlyAt.refl b w
  | v :: vs, o, w => ((OnlyAt.refl b w).setCell o v).trans (OnlyAt.setCells b vs (o + 1) _)
end

/-- The store's blocks: its box, its words', its owners', its map's box, its map's words'. -/
structure SB where
  s : Nat
  v : Nat
  o : Nat
  b : Nat
  c : Nat

/-- Which chunks are somebody's. -/
def busy (own : Nat → Nat) (k : Nat) : Bool := decide (0 < own k)

structure StAt (w : World) (B : SB) (C K : Nat) (own wd : Nat → Nat) : Prop where
  C1 : 1 ≤ C
  C2 : C ≤ 1024
  K1 : 1 ≤ K
  K2 : K ≤ 1024
  size : w.cell? ⟨B.s, 0, none⟩ = some (.int .i64 K)
  words : w.cell? ⟨B.s, 1, none⟩ = some (.slice (some ⟨B.v, 0, none⟩) (C * K) (C * K))
  owners : w.cell? ⟨B.s, 2, none⟩ = some (.slice (some ⟨B.o, 0, none⟩) C C)
  taken : w.cell? ⟨B.s, 3, none⟩ = some (.pointer (some ⟨B.b, 0, none⟩))
  word : ∀ k, k < C * K → w.cell? ⟨B.v, k, none⟩ = some (.int .u64 (wd k))
  wthaw : ∀ k, k < C * K → w.frozen? ⟨B.v, k, none⟩ = false
  owner : ∀ k, k < C → w.cell? ⟨B.o, k, none⟩ = some (.int .i64 (own k))
  othaw : ∀ k, k < C → w.frozen? ⟨B.o, k, none⟩ = false
  map : ∃ ws, MapAt w B.b B.c C ws ∧ BM.on ws = busy own
  ne : (B.s ≠ B.v ∧ B.s ≠ B.o ∧ B.s ≠ B.b ∧ B.s ≠ B.c) ∧ (B.v ≠ B.o ∧ B.v ≠ B.b ∧ B.v ≠ B.c) ∧ B.o ≠ B.b ∧ B.o ≠ B.c
  wlt : ∀ k, wd k < 18446744073709551616
  olt : ∀ k, own k < 9223372036854775808
  opast : ∀ k, C ≤ k → own k = 0
/-- All blocks of the store lie from lo on, below hi. -/
def SB.within (B : SB) (lo hi : Nat) : Prop := (lo ≤ B.s ∧ B.s < hi) ∧ (lo ≤ B.v ∧ B.v < hi) ∧ (lo ≤ B.o ∧ B.o < hi) ∧ (lo ≤ B.b ∧ B.b < hi) ∧ (lo ≤ B.c ∧ B.c < hi)

section
variable {w w' : World} {B : SB} {C K : Nat} {own wd : Nat → Nat}
theorem MapAt.heap {b c n : Nat} {w w' : World} {ws : Nat → Nat} (h : MapAt w b c n ws) (e : w'.heap = w.heap) : MapAt w' b c n ws :=
  ⟨h.n1, h.n2, (World.cell?_of_block (by rw [e])).trans h.len, (World.cell?_of_block (by rw [e])).trans h.row, fun k hk => (World.cell?_of_block (by rw [e])).trans (h.word k hk),
    fun k hk => (World.frozen?_of_block (by rw [e])).trans (h.thaw k hk), h.lt, h.past, h.ne⟩
theorem MapAt.blocks {b c n : Nat} {w w' : World} {ws : Nat → Nat} (h : MapAt w b c n ws) (eb : w'.heap[b]? = w.heap[b]?) (ec : w'.heap[c]? = w.heap[c]?) : MapAt w' b c n ws :=
  ⟨h.n1, h.n2, (World.cell?_of_block (a := ⟨b, 0, none⟩) eb).trans h.len, (World.cell?_of_block (a := ⟨b, 1, none⟩) eb).trans h.row, fun k hk => (World.cell?_of_block (a := ⟨c, k, none⟩) ec).trans (h.word k hk),
    fun k hk => (World.frozen?_of_block (a := ⟨c, k, none⟩) ec).trans (h.thaw k hk), h.lt, h.past, h.ne⟩
/-- The state is what its five blocks say. -/
theorem StAt.blocks (h : StAt w B C K own wd) (e : ∀ k, k = B.s ∨ k = B.v ∨ k = B.o ∨ k = B.b ∨ k = B.c → w'.heap[k]? = w.heap[k]?) : StAt w' B C K own wd := by
  have es := e B.s (by simp)
  have ev := e B.v (by simp)
  have eo := e B.o (by simp)
  obtain ⟨ws, hm, hq⟩ := h.map
  exact ⟨h.C1, h.C2, h.K1, h.K2, (World.cell?_of_block (a := ⟨B.s, 0, none⟩) es).trans h.size, (World.cell?_of_block (a := ⟨B.s, 1, none⟩) es).trans h.words, (World.cell?_of_block (a := ⟨B.s, 2, none⟩) es).trans h.owners, (World.cell?_of_block (a := ⟨B.s, 3, none⟩) es).trans h.taken,
    fun k hk => (World.cell?_of_block (a := ⟨B.v, k, none⟩) ev).trans (h.word k hk), fun k hk => (World.frozen?_of_block (a := ⟨B.v, k, none⟩) ev).trans (h.wthaw k hk), fun k hk => (World.cell?_of_block (a := ⟨B.o, k, none⟩) eo).trans (h.owner k hk), fun k hk => (World.frozen?_of_block (a := ⟨B.o, k, none⟩) eo).trans (h.othaw k hk),
    ⟨ws, hm.blocks (e B.b (by simp)) (e B.c (by simp)), hq⟩, h.ne, h.wlt, h.olt, h.opast⟩
theorem StAt.heap (h : StAt w B C K own wd) (e : w'.heap = w.heap) : StAt w' B C K own wd := h.blocks fun k _ => by rw [e]
theorem StAt.below {lo hi : Nat} (h : StAt w B C K own wd) (hb : Below hi w w') (hB : B.within lo hi) : StAt w' B C K own wd := h.blocks fun k hk => hb.block k (by
  obtain ⟨b1, b2, b3, b4, b5⟩ := hB
  rcases hk with rfl | rfl | rfl | rfl | rfl <;> omega)
theorem StAt.only {S : List Nat} (h : StAt w B C K own wd) (ho : OnlyIn S w w') (hs : ∀ x ∈ S, x ≠ B.s ∧ x ≠ B.v ∧ x ≠ B.o ∧ x ≠ B.b ∧ x ≠ B.c) : StAt w' B C K own wd := h.blocks fun k hk => ho.block k (fun hx => by
  obtain ⟨b1, b2, b3, b4, b5⟩ := hs k hx
  rcases hk with rfl | rfl | rfl | rfl | rfl <;> contradiction)
theorem StAt.all (h : StAt w B C K own wd) : C * K ≤ 1048576 := by
  have := Nat.mul_le_mul h.C2 h.K2
  omega
end

section
variable {w : World} {B : SB} {C K : Nat} {own wd : Nat → Nat}
theorem chunks_any (h : StAt w B C K own wd) : Calls Tryd.prog 41 #[.pointer (some ⟨B.s, 0, none⟩)] w fun e w' => e = .returned (.int .i64 C) ∧ w = w' := by
  have c2 := h.owners
  go_enter Tryd.func41, Tryd.ntmps41
  go_wp2
  go_ret
  exact ⟨rfl, rfl⟩
theorem chunks_nil (w : World) : Calls Tryd.prog 41 #[.pointer none] w fun e w' => e = .returned (.int .i64 0) ∧ w = w' := by
  go_enter Tryd.func41, Tryd.ntmps41
  go_wp2
  go_ret
  exact ⟨rfl, rfl⟩
theorem words_any (h : StAt w B C K own wd) : Calls Tryd.prog 40 #[.pointer (some ⟨B.s, 0, none⟩)] w fun e w' => e = .returned (.int .i64 K) ∧ w = w' := by
  have c2 := h.size
  go_enter Tryd.func40, Tryd.ntmps40
  go_wp2
  go_ret
  exact ⟨rfl, rfl⟩
theorem words_nil (w : World) : Calls Tryd.prog 40 #[.pointer none] w fun e w' => e = .returned (.int .i64 0) ∧ w = w' := by
  go_enter Tryd.func40, Tryd.ntmps40
  go_wp2
  go_ret
  exact ⟨rfl, rfl⟩

/-- How many are free. -/
def frees (own : Nat → Nat) (C : Nat) : Nat := C - BM.cnt (busy own) C
set_option maxHeartbeats 400000 in
theorem free_any (h : StAt w B C K own wd) : Calls Tryd.prog 23 #[.pointer (some ⟨B.s, 0, none⟩)] w fun e w' => e = .returned (.int .i64 (frees own C : Nat)) ∧ ∃ m, w' = w.drewN m := by
  have c2 := h.owners
  have c3 := h.taken
  have hC := h.C2
  have hle := BM.cnt_le (busy own) C
  obtain ⟨ws, hm, hq⟩ := h.map
  have hc := fun W (hW : W.heap = w.heap) => count_any B.b B.c C ws W (hm.heap hW)
  rw [hq] at hc
  have HC := Lib.hid hc
  clear hc
  unfold frees
  generalize BM.cnt (busy own) C = n at *
  go_enter Tryd.func23, Tryd.ntmps23
  go_wp2
  go_quiet ((go_at_call 46; exact Calls.quiet_of_same ((HC.out _ (by exact rfl)).mono fun _ _ ⟨he, hw⟩ => ⟨he, hw.symm⟩)))
  go_wp2
  go_ret
  exact ⟨ret_int (by omega), _, rfl⟩
theorem free_nil (w : World) : Calls Tryd.prog 23 #[.pointer none] w fun e w' => e = .returned (.int .i64 0) ∧ w = w' := by
  go_enter Tryd.func23, Tryd.ntmps23
  go_wp2
  go_ret
  exact ⟨rfl, rfl⟩

/-- A chunk's owner; 0, where there is none. -/
def ownerOf (own : Nat → Nat) (C : Nat) (k : Int) : Int := if 0 ≤ k ∧ k < C then own k.toNat else 0
set_option maxHeartbeats 400000 in
theorem owner_any (h : StAt w B C K own wd) (k : Int) : Calls Tryd.prog 20 #[.pointer (some ⟨B.s, 0, none⟩), .int .i64 k] w fun e w' => e = .returned (.int .i64 (ownerOf own C k)) ∧ w = w' := by
  have c2 := h.owners
  have hC := h.C2
  have hch := Lib.hid (chunks_any h)
  unfold ownerOf
  by_cases h0 : k < 0
  · rw [if_neg (by omega)]
    go_enter Tryd.func20, Tryd.ntmps20
    go_wp2
    go_ret
    exact ⟨rfl, rfl⟩
  · have g0 : 0 ≤ k := by omega
    by_cases h1 : (C : Int) ≤ k
    · rw [if_neg (by omega)]
      have d1 : decide ((C : Int) ≤ k) = true := by simpa using h1
      have d0 : decide (k < 0) = false := by simp; omega
      go_enter Tryd.func20, Tryd.ntmps20
      go_wp2_with (first
        | (go_at_call 41; refine hch.out.mono ?_; rintro e w' ⟨rfl, rfl⟩))
      go_ret
      exact ⟨rfl, rfl⟩
    · rw [if_pos (by omega)]
      obtain ⟨j, rfl⟩ := Int.eq_ofNat_of_zero_le g0
      rw [Int.toNat_natCast]
      have hj : j < C := by omega
      have c4 := h.owner j hj
      have d1 : decide (C ≤ j) = false := by simp; omega
      clear h0 g0 h1
      go_enter Tryd.func20, Tryd.ntmps20
      go_wp2_with (first
        | (go_at_call 41; refine hch.out.mono ?_; rintro e w' ⟨rfl, rfl⟩))
      go_ret
      exact ⟨rfl, rfl⟩
set_option maxHeartbeats 400000 in
theorem owner_nil (w : World) : Calls Tryd.prog 20 #[.pointer none, .int .i64 0] w fun e w' => e = .returned (.int .i64 0) ∧ w = w' := by
  go_enter Tryd.func20, Tryd.ntmps20
  go_wp2_with (first
    | (go_at_call 41; refine (chunks_nil _).mono ?_; rintro e w' ⟨rfl, rfl⟩))
  go_ret
  exact ⟨rfl, rfl⟩

/-- What is wrong with a chunk's number. -/
def chunkE (own : Nat → Nat) (C : Nat) (k : Int) : Int := if 0 ≤ k ∧ k < C then (if own k.toNat = 0 then 17 else 0) else 3
theorem chunkE_in {own : Nat → Nat} {C j : Nat} (hj : j < C) : chunkE own C (j : Int) = if own j = 0 then 17 else 0 := by
  unfold chunkE
  rw [if_pos (by omega), Int.toNat_natCast]
theorem chunkE_out {own : Nat → Nat} {C : Nat} {k : Int} (h : k < 0 ∨ (C : Int) ≤ k) : chunkE own C k = 3 := by
  unfold chunkE
  rw [if_neg (by omega)]
set_option maxHeartbeats 400000 in
theorem somebodys_any (h : StAt w B C K own wd) (k : Int) : Calls Tryd.prog 69 #[.pointer (some ⟨B.s, 0, none⟩), .int .i64 k] w fun e w' => e = .returned (.int .i64 (chunkE own C k)) ∧ w = w' := by
  have c2 := h.owners
  have hC := h.C2
  by_cases h0 : k < 0
  · rw [chunkE_out (.inl h0)]
    go_enter Tryd.func69, Tryd.ntmps69
    go_wp2
    go_ret
    exact ⟨rfl, rfl⟩
  · have g0 : 0 ≤ k := by omega
    by_cases h1 : (C : Int) ≤ k
    · rw [chunkE_out (.inr h1)]
      go_enter Tryd.func69, Tryd.ntmps69
      go_wp2
      go_ret
      exact ⟨rfl, rfl⟩
    · obtain ⟨j, rfl⟩ := Int.eq_ofNat_of_zero_le g0
      have hj : j < C := by omega
      have c4 := h.owner j hj
      rw [chunkE_in hj]
      clear h0 g0 h1
      by_cases hz : own j = 0
      · rw [if_pos hz]
        rw [hz] at c4
        clear hz
        go_enter Tryd.func69, Tryd.ntmps69
        go_wp2
        go_ret
        exact ⟨rfl, rfl⟩
      · rw [if_neg hz]
        generalize own j = x at *
        have d : ((x : Int) == 0) = false := by simp; omega
        go_enter Tryd.func69, Tryd.ntmps69
        go_wp2
        go_ret
        exact ⟨rfl, rfl⟩
end
end Go.Proofs.YteencfldehcbbaaDoor
