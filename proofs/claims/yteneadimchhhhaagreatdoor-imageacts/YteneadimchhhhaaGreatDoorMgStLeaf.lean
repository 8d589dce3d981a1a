/- Texts of this claim, laid into one file. -/
import Derived.Test.YteneadimchhhhaaGreatDoorMgBase
import Derived.Lib.SliceRun
import Derived.Deep.RegionLaw
import Derived.BigRegion
import Derived.Laws.IdiomCopy
/- The store's state, and contracts of its functions that only read. -/
namespace Go.Proofs.YteneadimchhhhaaGreatDoor
open Go.RowKit

/-- But for these blocks the world is as it was. -/
structure OnlyIn (S : List Nat) (w w' : World) : Prop where
  os : w'.os = w.os
  tape : w'.tape = w.tape
  output : w'.output = w.output
  size : w'.heap.size = w.heap.size
  block : ∀ k, k ∉ S → w'.heap[k]? = w.heap[k]?
section
variable {S : List Nat} {c B : Nat} {w w' a b d : World}
theorem OnlyIn.refl (S : List Nat) (w : World) : OnlyIn S w w := ⟨rfl, rfl, rfl, rfl, fun _ _ => rfl⟩
theorem OnlyIn.trans (h : OnlyIn S a b) (k : OnlyIn S b d) : OnlyIn S a d :=
  ⟨k.os.trans h.os, k.tape.trans h.tape, k.output.trans h.output, k.size.trans h.size, fun i hi => (k.block i hi).trans (h.block i hi)⟩
theorem OnlyIn.of_at (h : OnlyAt c w w') (hc : c ∈ S) : OnlyIn S w w' := ⟨h.os, h.tape, h.output, h.size, fun k hk => h.block k (fun e => hk (e ▸ hc))⟩
theorem OnlyIn.sub {T : List Nat} (h : OnlyIn S w w') (hs : ∀ x ∈ S, x ∈ T) : OnlyIn T w w' := ⟨h.os, h.tape, h.output, h.size, fun k hk => h.block k (fun e => hk (hs k e))⟩
theorem OnlyIn.drewN (h : OnlyIn S w w') (n : Nat) : OnlyIn S w (w'.drewN n) := ⟨h.os, h.tape, h.output, h.size, h.block⟩
theorem OnlyIn.drew (h : OnlyIn S w w') : OnlyIn S w w'.drew := ⟨h.os, h.tape, h.output, h.size, h.block⟩
theorem OnlyIn.setCell (h : OnlyIn S a w) (hc : c ∈ S) (o : Nat) (u : Value) : OnlyIn S a (w.setCell ⟨c, o, none⟩ u) :=
  h.trans (OnlyIn.of_at ((OnlyAt.refl c w).setCell o u) hc)
theorem OnlyIn.below (h : OnlyIn S w w') (hB : ∀ c ∈ S, B ≤ c) : Below B w w' :=
  ⟨h.os, h.tape, h.output, by rw [h.size]; exact Nat.le_refl _, fun k hk => h.block k (fun e => by have := hB k e; omega)⟩
theorem OnlyIn.cell (h : OnlyIn S w w') {p : Addr} (hp : p.block ∉ S) : w'.cell? p = w.cell? p := World.cell?_of_block (w := w) (h.block p.block hp)
theorem OnlyIn.frozen (h : OnlyIn S w w') {p : Addr} (hp : p.block ∉ S) : w'.frozen? p = w.frozen? p := World.frozen?_of_block (w := w) (h.block p.block hp)
theorem OnlyAt.setCells (b : Nat) : ∀ (vs : List Value) (o : Nat) (w : World), OnlyAt b w (w.setCells b o vs)
  | [], _, w => OnlyAt.refl b w
  | v :: vs, o, w => ((OnlyAt.refl b w).setCell o v).trans (OnlyAt.setCells b vs (o + 1) _)
end

/-- The store's blocks: its box, its words', its owners', its map's box, its map's words'. -/
structure SB where
  s : Nat
  v : Nat
  o : Nat
  b : Nat
  c : Nat

/-- Which chunks are somebody's. -/
def busy (own : Nat → Nat) (k : Nat) : Bool := decide (0 < own k)

structure StAt (w : World) (B : SB) (C K : Nat) (own wd : Nat → Nat) : Prop where
  C1 : 1 ≤ C
  C2 : C ≤ 1024
  K1 : 1 ≤ K
  K2 : K ≤ 1024
  size : w.cell? ⟨B.s, 0, none⟩ = some (.int .i64 K)
  words : w.cell? ⟨B.s, 1, none⟩ = some (.slice (some ⟨B.v, 0, none⟩) (C * K) (C * K))
  owners : w.cell? ⟨B.s, 2, none⟩ = some (.slice (some ⟨B.o, 0, none⟩) C C)
  taken : w.cell? ⟨B.s, 3, none⟩ = some (.pointer (some ⟨B.b, 0, none⟩))
  word : ∀ k, k < C * K → w.cell? ⟨B.v, k, none⟩ = some (.int .u64 (wd k))
  wthaw : ∀ k, k < C * K → w.frozen? ⟨B.v, k, none⟩ = false
  owner : ∀ k, k < C → w.cell? ⟨B.o, k, none⟩ = some (.int .i64 (own k))
  othaw : ∀ k, k < C → w.frozen? ⟨B.o, k, none⟩ = false
  map : ∃ ws, MapAt w B.b B.c C ws ∧ BM.on ws = busy own
  ne : (B.s ≠ B.v ∧ B.s ≠ B.o ∧ B.s ≠ B.b ∧ B.s ≠ B.c) ∧ (B.v ≠ B.o ∧ B.v ≠ B.b ∧ B.v ≠ B.c) ∧ B.o ≠ B.b ∧ B.o ≠ B.c
  wlt : ∀ k, wd k < 18446744073709551616
  olt : ∀ k, own k < 9223372036854775808
  opast : ∀ k, C ≤ k → own k = 0
/-- All blocks of the store lie from lo on, below hi. -/
def SB.within (B : SB) (lo hi : Nat) : Prop := (lo ≤ B.s ∧ B.s < hi) ∧ (lo ≤ B.v ∧ B.v < hi) ∧ (lo ≤ B.o ∧ B.o < hi) ∧ (lo ≤ B.b ∧ B.b < hi) ∧ (lo ≤ B.c ∧ B.c < hi)

section
variable {w w' : World} {B : SB} {C K : Nat} {own wd : Nat → Nat}
theorem MapAt.heap {b c n : Nat} {w w' : World} {ws : Nat → Nat} (h : MapAt w b c n ws) (e : w'.heap = w.heap) : MapAt w' b c n ws :=
  ⟨h.n1, h.n2, (World.cell?_of_block (by rw [e])).trans h.len, (World.cell?_of_block (by rw [e])).trans h.row, fun k hk => (World.cell?_of_block (by rw [e])).trans (h.word k hk),
    fun k hk => (World.frozen?_of_block (by rw [e])).trans (h.thaw k hk), h.lt, h.past, h.ne⟩
theorem MapAt.blocks {b c n : Nat} {w w' : World} {ws : Nat → Nat} (h : MapAt w b c n ws) (eb : w'.heap[b]? = w.heap[b]?) (ec : w'.heap[c]? = w.heap[c]?) : MapAt w' b c n ws :=
  ⟨h.n1, h.n2, (World.cell?_of_block (a := ⟨b, 0, none⟩) eb).trans h.len, (World.cell?_of_block (a := ⟨b, 1, none⟩) eb).trans h.row, fun k hk => (World.cell?_of_block (a := ⟨c, k, none⟩) ec).trans (h.word k hk),
    fun k hk => (World.frozen?_of_block (a := ⟨c, k, none⟩) ec).trans (h.thaw k hk), h.lt, h.past, h.ne⟩
/-- The state is what its five blocks say. -/
theorem StAt.blocks (h : StAt w B C K own wd) (e : ∀ k, k = B.s ∨ k = B.v ∨ k = B.o ∨ k = B.b ∨ k = B.c → w'.heap[k]? = w.heap[k]?) : StAt w' B C K own wd := by
  have es := e B.s (by simp)
  have ev := e B.v (by simp)
  have eo := e B.o (by simp)
  obtain ⟨ws, hm, hq⟩ := h.map
  exact ⟨h.C1, h.C2, h.K1, h.K2, (World.cell?_of_block (a := ⟨B.s, 0, none⟩) es).trans h.size, (World.cell?_of_block (a := ⟨B.s, 1, none⟩) es).trans h.words, (World.cell?_of_block (a := ⟨B.s, 2, none⟩) es).trans h.owners, (World.cell?_of_block (a := ⟨B.s, 3, none⟩) es).trans h.taken,
    fun k hk => (World.cell?_of_block (a := ⟨B.v, k, none⟩) ev).trans (h.word k hk), fun k hk => (World.frozen?_of_block (a := ⟨B.v, k, none⟩) ev).trans (h.wthaw k hk), fun k hk => (World.cell?_of_block (a := ⟨B.o, k, none⟩) eo).trans (h.owner k hk), fun k hk => (World.frozen?_of_block (a := ⟨B.o, k, none⟩) eo).trans (h.othaw k hk),
    ⟨ws, hm.blocks (e B.b (by simp)) (e B.c (by simp)), hq⟩, h.ne, h.wlt, h.olt, h.opast⟩
theorem StAt.heap (h : StAt w B C K own wd) (e : w'.heap = w.heap) : StAt w' B C K own wd := h.blocks fun k _ => by rw [e]
theorem StAt.below {lo hi : Nat} (h : StAt w B C K own wd) (hb : Below hi w w') (hB : B.within lo hi) : StAt w' B C K own wd := h.blocks fun k hk => hb.block k (by
  obtain ⟨b1, b2, b3, b4, b5⟩ := hB
  rcases hk with rfl | rfl | rfl | rfl | rfl <;> omega)
theorem StAt.only {S : List Nat} (h : StAt w B C K own wd) (ho : OnlyIn S w w') (hs : ∀ x ∈ S, x ≠ B.s ∧ x ≠ B.v ∧ x ≠ B.o ∧ x ≠ B.b ∧ x ≠ B.c) : StAt w' B C K own wd := h.blocks fun k hk => ho.block k (fun hx => by
  obtain ⟨b1, b2, b3, b4, b5⟩ := hs k hx
  rcases hk with rfl | rfl | rfl | rfl | rfl <;> contradiction)
theorem StAt.all (h : StAt w B C K own wd) : C * K ≤ 1048576 := by
  have := Nat.mul_le_mul h.C2 h.K2
  omega
end

section
variable {w : World} {B : SB} {C K : Nat} {own wd : Nat → Nat}
/-- How many are free. -/
def frees (own : Nat → Nat) (C : Nat) : Nat := C - BM.cnt (busy own) C
/-- A chunk's owner; 0, where there is none. -/
def ownerOf (own : Nat → Nat) (C : Nat) (k : Int) : Int := if 0 ≤ k ∧ k < C then own k.toNat else 0
/-- What is wrong with a chunk's number. -/
def chunkE (own : Nat → Nat) (C : Nat) (k : Int) : Int := if 0 ≤ k ∧ k < C then (if own k.toNat = 0 then 17 else 0) else 3
theorem chunkE_in {own : Nat → Nat} {C j : Nat} (hj : j < C) : chunkE own C (j : Int) = if own j = 0 then 17 else 0 := by
  unfold chunkE
  rw [if_pos (by omega), Int.toNat_natCast]
theorem chunkE_out {own : Nat → Nat} {C : Nat} {k : Int} (h : k < 0 ∨ (C : Int) ≤ k) : chunkE own C k = 3 := by
  unfold chunkE
  rw [if_neg (by omega)]
set_option maxHeartbeats 400000 in
theorem somebodys_any (h : StAt w B C K own wd) (k : Int) : Calls Tryz.prog 74 #[.pointer (some ⟨B.s, 0, none⟩), .int .i64 k] w fun e w' => e = .returned (.int .i64 (chunkE own C k)) ∧ w = w' := by
  have c2 := h.owners
  have hC := h.C2
  by_cases h0 : k < 0
  · rw [chunkE_out (.inl h0)]
    go_enter Tryz.func74, Tryz.ntmps74
    go_wp2
    go_ret
    exact ⟨rfl, rfl⟩
  · have g0 : 0 ≤ k := by omega
    by_cases h1 : (C : Int) ≤ k
    · rw [chunkE_out (.inr h1)]
      go_enter Tryz.func74, Tryz.ntmps74
      go_wp2
      go_ret
      exact ⟨rfl, rfl⟩
    · obtain ⟨j, rfl⟩ := Int.eq_ofNat_of_zero_le g0
      have hj : j < C := by omega
      have c4 := h.owner j hj
      rw [chunkE_in hj]
      clear h0 g0 h1
      by_cases hz : own j = 0
      · rw [if_pos hz]
        rw [hz] at c4
        clear hz
        go_enter Tryz.func74, Tryz.ntmps74
        go_wp2
        go_ret
        exact ⟨rfl, rfl⟩
      · rw [if_neg hz]
        generalize own j = x at *
        have d : ((x : Int) == 0) = false := by simp; omega
        go_enter Tryz.func74, Tryz.ntmps74
        go_wp2
        go_ret
        exact ⟨rfl, rfl⟩
end
end Go.Proofs.YteneadimchhhhaaGreatDoor
/- Contracts of usable, Read, within, touchesFree, Owned of package store. -/
namespace Go.Proofs.YteneadimchhhhaaGreatDoor
open Go.RowKit

/-- What is wrong with an address. -/
def addrE (own : Nat → Nat) (C K : Nat) (a : Int) : Int := if 0 ≤ a ∧ a < (C * K : Nat) then (if own (a.toNat / K) = 0 then 17 else 0) else 3
theorem addrE_in {own : Nat → Nat} {C K j : Nat} (hj : j < C * K) : addrE own C K (j : Int) = if own (j / K) = 0 then 17 else 0 := by
  unfold addrE
  rw [if_pos (by omega), Int.toNat_natCast]
theorem addrE_out {own : Nat → Nat} {C K : Nat} {k : Int} (h : k < 0 ∨ ((C * K : Nat) : Int) ≤ k) : addrE own C K k = 3 := by
  unfold addrE
  rw [if_neg (by omega)]
theorem addrE_ok {own : Nat → Nat} {C K : Nat} {k : Int} (h : addrE own C K k = 0) : ∃ j : Nat, k = j ∧ j < C * K ∧ own (j / K) ≠ 0 := by
  unfold addrE at h
  split at h
  · refine ⟨k.toNat, by omega, by omega, fun e => ?_⟩
    rw [if_pos e] at h
    omega
  · omega
theorem div_lt {C K j : Nat} (hj : j < C * K) : j / K < C := by
  rw [Nat.mul_comm] at hj
  exact Nat.div_lt_of_lt_mul hj

section
variable {w : World} {B : SB} {C K : Nat} {own wd : Nat → Nat}
set_option maxHeartbeats 400000 in
theorem usable_any (h : StAt w B C K own wd) (k : Int) : Calls Tryz.prog 44 #[.pointer (some ⟨B.s, 0, none⟩), .int .i64 k] w fun e w' => e = .returned (.int .i64 (addrE own C K k)) ∧ w = w' := by
  have c0 := h.size
  have c1 := h.words
  have hM := h.all
  have hK := h.K1
  have hK2 := h.K2
  by_cases h0 : k < 0
  · rw [addrE_out (.inl h0)]
    go_enter Tryz.func44, Tryz.ntmps44
    go_wp2
    go_ret
    exact ⟨rfl, rfl⟩
  · have g0 : 0 ≤ k := by omega
    by_cases h1 : ((C * K : Nat) : Int) ≤ k
    · rw [addrE_out (.inr h1)]
      generalize C * K = M at *
      go_enter Tryz.func44, Tryz.ntmps44
      go_wp2
      go_ret
      exact ⟨rfl, rfl⟩
    · obtain ⟨j, rfl⟩ := Int.eq_ofNat_of_zero_le g0
      have hj : j < C * K := by omega
      have hd := div_lt hj
      have hs := Lib.hid (somebodys_any h ((j / K : Nat) : Int))
      have e : addrE own C K (j : Int) = chunkE own C ((j / K : Nat) : Int) := by
        rw [addrE_in hj, chunkE_in hd]
      have ep : (j : Int) / (K : Int) = ((j / K : Nat) : Int) := by simp
      have hC := h.C2
      rw [e]
      clear h0 g0 h1 e
      generalize C * K = M at *
      generalize j / K = q at *
      have hkz : ((K : Int) == 0) = false := by simp; omega
      go_enter Tryz.func44, Tryz.ntmps44
      go_wp2_with (first
        | (go_at_call 74; refine hs.out.mono ?_; rintro e w' ⟨rfl, rfl⟩))
      go_ret
      exact ⟨rfl, rfl⟩
theorem usable_nil (w : World) (k : Int) : Calls Tryz.prog 44 #[.pointer none, .int .i64 k] w fun e w' => e = .returned (.int .i64 1) ∧ w = w' := by
  go_enter Tryz.func44, Tryz.ntmps44
  go_wp2
  go_ret
  exact ⟨rfl, rfl⟩

/-- The word that is told of an address. -/
def readV (own wd : Nat → Nat) (C K : Nat) (a : Int) : Nat := if addrE own C K a = 0 then wd a.toNat else 0
set_option maxHeartbeats 400000 in
theorem read_any (h : StAt w B C K own wd) (k : Int) : Calls Tryz.prog 13 #[.pointer (some ⟨B.s, 0, none⟩), .int .i64 k] w fun e w' => e = .returned (.tuple #[.int .u64 (readV own wd C K k : Nat), .int .i64 (addrE own C K k)]) ∧ w = w' := by
  have c1 := h.words
  have hM := h.all
  have hu := Lib.hid (usable_any h k)
  unfold readV
  by_cases hz : addrE own C K k = 0
  · obtain ⟨j, rfl, hj, _⟩ := addrE_ok hz
    rw [if_pos hz, hz, Int.toNat_natCast]
    rw [hz] at hu
    have c4 := h.word j hj
    clear hz
    generalize C * K = M at *
    go_enter Tryz.func13, Tryz.ntmps13
    go_wp2_with (first
      | (go_at_call 44; refine hu.out.mono ?_; rintro e w' ⟨rfl, rfl⟩))
    go_ret2
    exact ⟨rfl, rfl⟩
  · rw [if_neg hz]
    generalize addrE own C K k = x at *
    have d : (x != 0) = true := by simp; omega
    go_enter Tryz.func13, Tryz.ntmps13
    go_wp2_with (first
      | (go_at_call 44; refine hu.out.mono ?_; rintro e w' ⟨rfl, rfl⟩))
    go_ret2
    exact ⟨rfl, rfl⟩
theorem read_nil (w : World) (k : Int) : Calls Tryz.prog 13 #[.pointer none, .int .i64 k] w fun e w' => e = .returned (.tuple #[.int .u64 0, .int .i64 1]) ∧ w = w' := by
  go_enter Tryz.func13, Tryz.ntmps13
  go_wp2_with (first
    | (go_at_call 44; refine (usable_nil _ _).mono ?_; rintro e w' ⟨rfl, rfl⟩))
  go_ret2
  exact ⟨rfl, rfl⟩

set_option maxHeartbeats 400000 in
theorem within_any (h : StAt w B C K own wd) (i k : Int) : Calls Tryz.prog 81 #[.pointer (some ⟨B.s, 0, none⟩), .int .i64 i, .int .i64 k] w fun e w' => e = .returned (.bool (inB (C * K) i k)) ∧ w = w' := by
  have c1 := h.words
  have hM := h.all
  generalize C * K = M at *
  cases e : inB M i k
  · rcases (inB_not M i k).1 e with a | ⟨a, a2⟩ | ⟨a, a2, a3⟩ | ⟨a, a2, a3, a4⟩
    all_goals
      clear e
      go_enter Tryz.func81, Tryz.ntmps81
      go_wp2
      go_ret
      exact ⟨ret_bool (by simp; try omega), rfl⟩
  · obtain ⟨a, a2, a3, a4⟩ := (inB_iff M i k).1 e
    clear e
    go_enter Tryz.func81, Tryz.ntmps81
    go_wp2
    go_ret
    exact ⟨ret_bool (by simp; try omega), rfl⟩

/-- Is one of n words from a on in a free chunk? -/
def anyFree (own : Nat → Nat) (K a n : Nat) : Bool := (List.range n).any fun i => own ((a + i) / K) == 0
theorem anyFree_iff (own : Nat → Nat) (K a n : Nat) : anyFree own K a n = true ↔ ∃ i, i < n ∧ own ((a + i) / K) = 0 := by
  unfold anyFree
  simp [List.any_eq_true]
theorem anyFree_not (own : Nat → Nat) (K a n : Nat) : anyFree own K a n = false ↔ ∀ i, i < n → own ((a + i) / K) ≠ 0 := by
  constructor
  · intro h i hi e
    have := (anyFree_iff own K a n).2 ⟨i, hi, e⟩
    rw [h] at this
    cases this
  · intro h
    cases e : anyFree own K a n
    · rfl
    · obtain ⟨i, hi, ei⟩ := (anyFree_iff own K a n).1 e
      exact absurd ei (h i hi)
/-- By chunks. -/
theorem anyFree_chunks (own : Nat → Nat) (K a n : Nat) (_hK : 1 ≤ K) (hn : 1 ≤ n) (h : ∀ c, a / K ≤ c → c ≤ (a + n - 1) / K → own c ≠ 0) : anyFree own K a n = false :=
  (anyFree_not own K a n).2 fun i hi => h _ (Nat.div_le_div_right (by omega)) (Nat.div_le_div_right (by omega))
theorem anyFree_chunk (own : Nat → Nat) (K a n c : Nat) (hK : 1 ≤ K) (hn : 1 ≤ n) (h1 : a / K ≤ c) (h2 : c ≤ (a + n - 1) / K) (h : own c = 0) : anyFree own K a n = true := by
  have h3 : c * K ≤ a + n - 1 := by
    have := Nat.mul_le_mul_right K h2
    exact Nat.le_trans this (Nat.div_mul_le_self _ _)
  have h4 : a < (c + 1) * K := by
    have := Nat.lt_succ_of_le h1
    have h5 := (Nat.div_lt_iff_lt_mul (show 0 < K by omega)).1 this
    exact h5
  rw [Nat.add_mul, Nat.one_mul] at h4
  refine (anyFree_iff own K a n).2 ?_
  by_cases hc : c * K ≤ a
  · refine ⟨0, by omega, ?_⟩
    rw [Nat.add_zero, show a / K = c from Nat.div_eq_of_lt_le hc (by rw [Nat.add_mul, Nat.one_mul]; exact h4)]
    exact h
  · refine ⟨c * K - a, by omega, ?_⟩
    rw [show a + (c * K - a) = c * K by omega, Nat.mul_div_cancel _ (show 0 < K by omega)]
    exact h
def TouchAt (own : Nat → Nat) (p q : Nat) (x : Value) : Prop := ∃ c : Nat, p ≤ c ∧ c ≤ q + 1 ∧ x = .int .i64 c ∧ ∀ d, p ≤ d → d < c → own d ≠ 0
set_option maxHeartbeats 1000000 in
theorem touches_any (h : StAt w B C K own wd) (a n : Nat) (hn : a + n ≤ C * K) : Calls Tryz.prog 82 #[.pointer (some ⟨B.s, 0, none⟩), .int .i64 a, .int .i64 n] w fun e w' => e = .returned (.bool (anyFree own K a n)) ∧ w = w' := by
  have c0 := h.size
  have c2 := h.owners
  have hM := h.all
  have hC := h.C2
  have hK := h.K1
  have hK2 := h.K2
  by_cases h0 : n = 0
  · subst h0
    have e : anyFree own K a 0 = false := by simp [anyFree]
    rw [e]
    go_enter Tryz.func82, Tryz.ntmps82
    go_wp2
    go_ret
    exact ⟨rfl, rfl⟩
  · have hq : (a + n - 1) / K < C := div_lt (by omega)
    have hpq : a / K ≤ (a + n - 1) / K := Nat.div_le_div_right (by omega)
    have hf := Lib.hid (fun c => anyFree_chunk own K a n c hK (by omega))
    have hg := Lib.hid (anyFree_chunks own K a n hK (by omega))
    have ep : (a : Int) / (K : Int) = ((a / K : Nat) : Int) := by simp
    have eq : ((a : Int) + (n : Int) - 1) / (K : Int) = (((a + n - 1) / K : Nat) : Int) := by
      rw [show (a : Int) + (n : Int) - 1 = ((a + n - 1 : Nat) : Int) by omega]; simp
    generalize anyFree own K a n = r at *
    generalize (a + n - 1) / K = q at *
    generalize a / K = p at *
    generalize C * K = M at *
    have d0 : ((n : Int) == 0) = false := by simp; omega
    have hkz : ((K : Int) == 0) = false := by simp; omega
    go_enter Tryz.func82, Tryz.ntmps82
    go_wp2
    go_loop [7] (TouchAt own p q) (fun x => q + 1 - (intOf x).toNat)
    case atStart => exact ⟨p, Nat.le_refl _, by omega, by go_num, fun d a b => absurd a (by omega)⟩
    case round =>
      obtain ⟨c, h1, h2, rfl, h3⟩ := hrel
      have H3 := Lib.hid h3
      clear h3
      by_cases hlt : c ≤ q
      · have c4 := h.owner c (by omega)
        by_cases hz : own c = 0
        · rw [hz] at c4
          have hr := hf.out c h1 hlt hz
          subst hr
          clear hz
          go_wp2
          go_ret
          exact ⟨rfl, rfl⟩
        · have HZ := Lib.hid hz
          clear hz
          generalize hx : own c = x at *
          have d : ((x : Int) == 0) = false := by have := HZ.out; simp; omega
          have HX := Lib.hid hx
          clear hx
          go_wp2
          go_round
          case rel =>
            refine ⟨c + 1, by omega, by omega, by go_num, fun d a b => ?_⟩
            by_cases e : d = c
            · subst e; rw [HX.out]; exact HZ.out
            · exact H3.out d a (by omega)
          case measure => simp [intOf]; omega
      · have hr := hg.out fun d a b => H3.out d a (by omega)
        subst hr
        go_wp2
        go_ret
        exact ⟨rfl, rfl⟩

/-- Whose it is. -/
def hers (own : Nat → Nat) (o : Int) (k : Nat) : Bool := decide (1 ≤ o) && decide ((own k : Int) = o)
theorem hers_none (own : Nat → Nat) (o : Int) (h : o < 1) (n : Nat) : BM.ons (hers own o) n = [] := by
  unfold BM.ons
  rw [List.filter_eq_nil_iff]
  intro a _
  unfold hers
  simp
  omega
end
end Go.Proofs.YteneadimchhhhaaGreatDoor
/- Contracts of Write, Give, Release of package store. -/
namespace Go.Proofs.YteneadimchhhhaaGreatDoor
open Go.RowKit

/-- A row of numbers that may be written. -/
structure Row (kd : IntKind) (w : World) (r n : Nat) (f : Nat → Nat) : Prop where
  cell : ∀ k, k < n → w.cell? ⟨r, k, none⟩ = some (.int kd (f k))
  thaw : ∀ k, k < n → w.frozen? ⟨r, k, none⟩ = false
section
variable {kd : IntKind} {w w' : World} {r n : Nat} {f g : Nat → Nat}
theorem Row.block (h : Row kd w r n f) (e : w'.heap[r]? = w.heap[r]?) : Row kd w' r n f :=
  ⟨fun k hk => (World.cell?_of_block (a := ⟨r, k, none⟩) e).trans (h.cell k hk), fun k hk => (World.frozen?_of_block (a := ⟨r, k, none⟩) e).trans (h.thaw k hk)⟩
theorem Row.congr (h : Row kd w r n f) (e : ∀ k, k < n → f k = g k) : Row kd w r n g :=
  ⟨fun k hk => by rw [← e k hk]; exact h.cell k hk, h.thaw⟩
theorem Row.stored (h : Row kd w r n f) (k x : Nat) : Row kd (w.setCell ⟨r, k, none⟩ (.int kd x)) r n (fun q => if q = k then x else f q) := by
  refine ⟨fun j hj => ?_, fun j hj => by rw [World.frozen?_setCell]; exact h.thaw j hj⟩
  by_cases e : j = k
  · subst e
    rw [if_pos rfl]
    exact World.cell?_setCell_same' _ _ _ (by rw [h.cell j hj]; rfl)
  · rw [if_neg e]
    exact (World.cell?_setCell_other _ _ _ _ (by first | (simp; done) | (simp; omega))).trans (h.cell j hj)
theorem Row.storedMany (h : Row kd w r n f) (o : Nat) (cs : List Value) (hn : o + cs.length ≤ n) (hc : ∀ (j : Nat) (v : Value), cs[j]? = some v → v = Value.int kd (g (o + j) : Nat)) :
    Row kd (w.setCells r o cs) r n (fun q => if o ≤ q ∧ q < o + cs.length then g q else f q) := by
  refine ⟨fun j hj => ?_, fun j hj => by rw [World.frozen?_setCells]; exact h.thaw j hj⟩
  by_cases e : o ≤ j ∧ j < o + cs.length
  · rw [if_pos e]
    have := World.cell?_setCells_in r cs o w (fun i hi => by rw [h.cell (o + i) (by omega)]; rfl) (j - o) (by omega)
    rw [show o + (j - o) = j by omega] at this
    rw [this]
    have h2 := hc (j - o) (cs[j - o]'(by omega)) (List.getElem?_eq_getElem (by omega))
    rw [show o + (j - o) = j by omega] at h2
    rw [h2]
  · rw [if_neg e]
    refine (World.cell?_setCells_out r cs o w ⟨r, j, none⟩ (fun _ _ => ?_)).trans (h.cell j hj)
    show j < o ∨ o + cs.length ≤ j
    omega
end

section
variable {w w' : World} {B : SB} {C K : Nat} {own wd own' wd' : Nat → Nat}
theorem StAt.wrow (h : StAt w B C K own wd) : Row .u64 w B.v (C * K) wd := ⟨h.word, h.wthaw⟩
theorem StAt.orow (h : StAt w B C K own wd) : Row .i64 w B.o C own := ⟨h.owner, h.othaw⟩
/-- Behind some writes: the state anew. -/
theorem StAt.turn (h : StAt w B C K own wd) (ho : OnlyIn [B.o, B.c, B.v] w w') (hw : Row .u64 w' B.v (C * K) wd') (hr : Row .i64 w' B.o C own') (hm : ∃ ws, MapAt w' B.b B.c C ws ∧ BM.on ws = busy own')
    (l1 : ∀ k, wd' k < 18446744073709551616) (l2 : ∀ k, own' k < 9223372036854775808) (l3 : ∀ k, C ≤ k → own' k = 0) : StAt w' B C K own' wd' := by
  obtain ⟨⟨n1, n2, n3, n4⟩, ⟨n5, n6, n7⟩, n8, n9⟩ := h.ne
  have es : B.s ∉ [B.o, B.c, B.v] := by simp; exact ⟨n2, n4, n1⟩
  exact ⟨h.C1, h.C2, h.K1, h.K2, (ho.cell (p := ⟨B.s, 0, none⟩) es).trans h.size, (ho.cell (p := ⟨B.s, 1, none⟩) es).trans h.words, (ho.cell (p := ⟨B.s, 2, none⟩) es).trans h.owners, (ho.cell (p := ⟨B.s, 3, none⟩) es).trans h.taken,
    hw.cell, hw.thaw, hr.cell, hr.thaw, hm, h.ne, l1, l2, l3⟩

theorem StAt.wrote (h : StAt w B C K own wd) (j x : Nat) (hx : x < 18446744073709551616) : StAt (w.setCell ⟨B.v, j, none⟩ (.int .u64 x)) B C K own (fun q => if q = j then x else wd q) := by
  obtain ⟨⟨n1, n2, n3, n4⟩, ⟨n5, n6, n7⟩, n8, n9⟩ := h.ne
  have ha := (OnlyAt.refl B.v w).setCell j (.int .u64 x)
  obtain ⟨ws, hm, hq⟩ := h.map
  refine h.turn (OnlyIn.of_at ha (by simp)) (h.wrow.stored j x) (h.orow.block (ha.block _ (Ne.symm n5))) ⟨ws, hm.blocks (ha.block _ (Ne.symm n6)) (ha.block _ (Ne.symm n7)), hq⟩ (fun k => ?_) h.olt h.opast
  show (if k = j then x else wd k) < _
  split
  · exact hx
  · exact h.wlt k
theorem StAt.gave (h : StAt w B C K own wd) (j x : Nat) (hx : x < 9223372036854775808) (h0 : 0 < x) (hj : 0 < own j) : StAt (w.setCell ⟨B.o, j, none⟩ (.int .i64 x)) B C K (fun q => if q = j then x else own q) wd := by
  obtain ⟨⟨n1, n2, n3, n4⟩, ⟨n5, n6, n7⟩, n8, n9⟩ := h.ne
  have ha := (OnlyAt.refl B.o w).setCell j (.int .i64 x)
  obtain ⟨ws, hm, hq⟩ := h.map
  refine h.turn (OnlyIn.of_at ha (by simp)) (h.wrow.block (ha.block _ n5)) (h.orow.stored j x) ⟨ws, hm.blocks (ha.block _ (Ne.symm n8)) (ha.block _ (Ne.symm n9)), hq.trans ?_⟩ h.wlt (fun k => ?_) (fun k hk => ?_)
  · funext k
    unfold busy
    by_cases e : k = j
    · subst e; simp [h0, hj]
    · simp [e]
  · show (if k = j then x else own k) < _
    split
    · exact hx
    · exact h.olt k
  · show (if k = j then x else own k) = 0
    have := h.opast k hk
    rw [if_neg (by rintro rfl; omega)]
    exact this

def WrotePost (w : World) (B : SB) (C K : Nat) (own wd : Nat → Nat) (e : Ending) (w' : World) : Prop :=
  e = .returned (.int .i64 0) ∧ OnlyIn [B.o, B.c, B.v] w w' ∧ StAt w' B C K own wd
set_option maxHeartbeats 400000 in
theorem write_ok (h : StAt w B C K own wd) (j x : Nat) (hj : j < C * K) (ho : own (j / K) ≠ 0) (hx : x < 18446744073709551616) :
    Calls Tryz.prog 36 #[.pointer (some ⟨B.s, 0, none⟩), .int .i64 j, .int .u64 x] w (WrotePost w B C K own (fun q => if q = j then x else wd q)) := by
  have c1 := h.words
  have hM := h.all
  have hu := usable_any h (j : Int)
  rw [addrE_in hj, if_neg ho] at hu
  have HU := Lib.hid hu
  have c4 := h.word j hj
  have c5 := h.wthaw j hj
  have hs := Lib.hid (h.wrote j x hx)
  have HW := Lib.hid h
  clear ho hu h
  generalize C * K = M at *
  go_enter Tryz.func36, Tryz.ntmps36
  go_wp2_with (first
    | (go_at_call 44; refine HU.out.mono ?_; rintro e w' ⟨rfl, rfl⟩))
  go_ret
  exact ⟨rfl, (OnlyIn.refl _ _).setCell (by simp) _ _, hs.out⟩
set_option maxHeartbeats 400000 in
theorem write_no (h : StAt w B C K own wd) (k : Int) (x : Nat) (hz : addrE own C K k ≠ 0) :
    Calls Tryz.prog 36 #[.pointer (some ⟨B.s, 0, none⟩), .int .i64 k, .int .u64 x] w fun e w' => e = .returned (.int .i64 (addrE own C K k)) ∧ w = w' := by
  have hu := Lib.hid (usable_any h k)
  generalize addrE own C K k = y at *
  have d : (y != 0) = true := by simp; omega
  go_enter Tryz.func36, Tryz.ntmps36
  go_wp2_with (first
    | (go_at_call 44; refine hu.out.mono ?_; rintro e w' ⟨rfl, rfl⟩))
  go_ret
  exact ⟨rfl, rfl⟩
theorem write_nil (w : World) : Calls Tryz.prog 36 #[.pointer none, .int .i64 0, .int .u64 1] w fun e w' => e = .returned (.int .i64 1) ∧ w = w' := by
  go_enter Tryz.func36, Tryz.ntmps36
  go_wp2_with (first
    | (go_at_call 44; refine (usable_nil _ _).mono ?_; rintro e w' ⟨rfl, rfl⟩))
  go_ret
  exact ⟨rfl, rfl⟩

/-- What Give says. -/
def giveE (own : Nat → Nat) (C : Nat) (k o : Int) : Int := if o < 1 then 2 else chunkE own C k
theorem StAt.released (h : StAt w B C K own wd) (j : Nat) {w1 : World} (ha : OnlyAt B.o w w1) (hr : Row .i64 w1 B.o C (fun q => if q = j then 0 else own q)) (ws : Nat → Nat) (hq : BM.on ws = busy own) (ht : Turned w1 B.b B.c C ws j (j + 1) false w') :
    OnlyIn [B.o, B.c, B.v] w w' ∧ StAt w' B C K (fun q => if q = j then 0 else own q) wd := by
  obtain ⟨⟨n1, n2, n3, n4⟩, ⟨n5, n6, n7⟩, n8, n9⟩ := h.ne
  obtain ⟨hc, ws', hm', hq'⟩ := ht
  have ho : OnlyIn [B.o, B.c, B.v] w w' := (OnlyIn.of_at ha (by simp)).trans (OnlyIn.of_at hc (by simp))
  refine ⟨ho, h.turn ho ((h.wrow.block (ha.block _ n5)).block (hc.block _ n7)) (hr.block (hc.block _ n9)) ⟨ws', hm', ?_⟩ h.wlt (fun k => ?_) (fun k hk => ?_)⟩
  · funext k
    rw [hq' k, hq]
    unfold busy
    by_cases e : k = j
    · subst e; rw [if_pos (by omega)]; simp
    · rw [if_neg (by omega)]; simp [e]
  · show (if k = j then 0 else own k) < _
    have := h.olt k
    split <;> omega
  · show (if k = j then 0 else own k) = 0
    have := h.opast k hk
    split <;> omega
end
end Go.Proofs.YteneadimchhhhaaGreatDoor
/- Contracts of TakeRun and Take of package store. -/
namespace Go.Proofs.YteneadimchhhhaaGreatDoor
open Go.RowKit

theorem wrapOk (n : Int) (h0 : 0 ≤ n) (h1 : n < 9223372036854775808) : IntKind.i64.wrap n = n := by rw [IntKind.wrap_i64]; omega

/-- clear of a slice, as one step of a region that draws. -/
theorem step_clear {P : Program} {ops : Array Oper} {o : Oper} {a : Act} {w : World} {K : Act → World → Prop} {Q : Exit → Act → World → Prop} {E : Prop} (hgd : o.guard = none) (d : Operand) (t : TypeId)
    (ho : o.op = .call { callee := .builtin .clear, args := #[d], argTypes := #[t] }) (e : TypeId) (z : Value) (ht : P.underlying t = some (.slice e)) (hv : ∀ w, (zeroValue e).run P w = .ok z w) (hz : z.cells = #[z]) (h1 : z.oneCell' = true)
    (b off n c : Nat) (hd : a.eval d = .slice (some ⟨b, off, none⟩) n c) (hn : 0 < n) (hc : ∀ j, j < n → (w.cell? ⟨b, off + j, none⟩).isSome = true) (hf : ∀ j, j < n → w.frozen? ⟨b, off + j, none⟩ = false)
    (h : K (a.put o.dst (.tuple #[])) (w.setCells b off (List.replicate n z))) :
    if Region.wanted o (yielded ops a.tmps) = true then Oper.wp P o a w K Q else E := by
  have hw : Region.wanted o (yielded ops a.tmps) = true := by simp [Region.wanted, hgd]
  rw [if_pos hw]
  have hrun := Lib.run_clear_slice (P := P) w t e o.type z ht hv hz h1 b off n c hn hc hf
  unfold Oper.wp
  simp [execOp, ho, resolve, invoke, builtin, hd, hrun, Result.andThen]
  exact h

/-- The owners, with a run that is somebody's. -/
def tkOwn (own : Nat → Nat) (p k x q : Nat) : Nat := if p ≤ q ∧ q < p + k then x else own q
/-- The words, with a run of chunks that are 0. -/
def tkWd (wd : Nat → Nat) (K p k q : Nat) : Nat := if p * K ≤ q ∧ q < (p + k) * K then 0 else wd q

section
variable {w w' : World} {B : SB} {C K : Nat} {own wd : Nat → Nat}
theorem StAt.took (h : StAt w B C K own wd) {p k x : Nat} (hx0 : 0 < x) (hx : x < 9223372036854775808) (hp : p + k ≤ C) (hk : 1 ≤ k) {w1 w2 : World} {ws : Nat → Nat} (hq : BM.on ws = busy own) (ht : Turned w B.b B.c C ws p (p + k) true w1)
    (ho : OnlyAt B.o w1 w2) (hr : Row .i64 w2 B.o C (tkOwn own p k x)) (n : Nat) (hn : n = (p + k) * K - p * K) :
    OnlyIn [B.o, B.c, B.v] w (w2.setCells B.v (p * K) (List.replicate n (.int .u64 0))) ∧ StAt (w2.setCells B.v (p * K) (List.replicate n (.int .u64 0))) B C K (tkOwn own p k x) (tkWd wd K p k) := by
  obtain ⟨⟨n1, n2, n3, n4⟩, ⟨n5, n6, n7⟩, n8, n9⟩ := h.ne
  obtain ⟨hc, ws', hm', hq'⟩ := ht
  have ha := OnlyAt.setCells B.v (List.replicate n (.int .u64 0)) (p * K) w2
  have hO : OnlyIn [B.o, B.c, B.v] w (w2.setCells B.v (p * K) (List.replicate n (.int .u64 0))) := ((OnlyIn.of_at hc (by simp)).trans (OnlyIn.of_at ho (by simp))).trans (OnlyIn.of_at ha (by simp))
  have m1 : p * K ≤ (p + k) * K := Nat.mul_le_mul_right K (by omega)
  have m2 : (p + k) * K ≤ C * K := Nat.mul_le_mul_right K hp
  have hw : Row .u64 w2 B.v (C * K) wd := (h.wrow.block (hc.block _ n7)).block (ho.block _ n5)
  refine ⟨hO, h.turn hO ?_ (hr.block (ha.block _ (Ne.symm n5))) ⟨ws', (hm'.blocks (ho.block _ (Ne.symm n8)) (ho.block _ (Ne.symm n9))).blocks (ha.block _ (Ne.symm n6)) (ha.block _ (Ne.symm n7)), ?_⟩ (fun q => ?_) (fun q => ?_) (fun q hq => ?_)⟩
  · have := hw.storedMany (g := fun _ => 0) (p * K) (List.replicate n (.int .u64 0)) (by rw [List.length_replicate]; omega) (fun j v hv => by
      have := List.mem_of_getElem? hv
      exact List.eq_of_mem_replicate this)
    refine this.congr fun q hq => ?_
    rw [List.length_replicate]
    unfold tkWd
    rw [show p * K + n = (p + k) * K by omega]
  · funext q
    rw [hq' q, hq]
    unfold busy tkOwn
    by_cases e : p ≤ q ∧ q < p + k
    · rw [if_pos e, if_pos e]; simp [hx0]
    · rw [if_neg e, if_neg e]
  · unfold tkWd
    have := h.wlt q
    split <;> omega
  · unfold tkOwn
    have := h.olt q
    split <;> omega
  · unfold tkOwn
    rw [if_neg (by omega)]
    exact h.opast q hq

def TakePost (w : World) (B : SB) (C K : Nat) (own wd : Nat → Nat) (p : Nat) (e : Ending) (w' : World) : Prop :=
  e = .returned (.tuple #[.int .i64 p, .int .i64 0]) ∧ OnlyIn [B.o, B.c, B.v] w w' ∧ StAt w' B C K own wd
def TakeAt (w1 : World) (o C p k x : Nat) (own : Nat → Nat) (v : Value) (wr : World) : Prop :=
  ∃ c : Nat, p ≤ c ∧ c ≤ p + k ∧ v = .int .i64 c ∧ OnlyAt o w1 wr ∧ Row .i64 wr o C (tkOwn own p (c - p) x)
set_option maxHeartbeats 2000000 in
theorem take_ok (h : StAt w B C K own wd) (hT : Tab w) (x k p : Nat) (hx0 : 0 < x) (hx : x < 9223372036854775808) (hk : 1 ≤ k) (hr : BM.rn (busy own) C k = p) (hp : p < C + 1 - k) :
    Calls Tryz.prog 53 #[.pointer (some ⟨B.s, 0, none⟩), .int .i64 x, .int .i64 k] w (TakePost w B C K (tkOwn own p k x) (tkWd wd K p k) p) := by
  have hC := h.C2
  have hM := h.all
  have hK := h.K1
  have hK2 := h.K2
  have c1 := h.taken
  obtain ⟨ws, hm, hq⟩ := h.map
  obtain ⟨⟨n1, n2, n3, n4⟩, ⟨n5, n6, n7⟩, n8, n9⟩ := h.ne
  have hrun := run_any B.b B.c C (k : Int) ws w hm hT (by omega)
  rw [hq, runVal_yes hk hr hp] at hrun
  have HRUN := Lib.hid hrun
  have hfill := fill_ok B.b B.c C p k ws true w hm (by omega)
  have HFILL := Lib.hid hfill
  have m0 : p * K < (p + k) * K := Nat.mul_lt_mul_of_pos_right (by omega) (by omega)
  have m2 : (p + k) * K ≤ C * K := Nat.mul_le_mul_right K (by omega)
  have e1 : (p : Int) * (K : Int) = ((p * K : Nat) : Int) := by simp
  have e2 : ((p : Int) + (k : Int)) * (K : Int) = (((p + k) * K : Nat) : Int) := by simp
  have hfin := Lib.hid (fun w1 w2 ht ho hr => h.took (p := p) (k := k) (x := x) hx0 hx (by omega) hk (w1 := w1) (w2 := w2) hq ht ho hr _ rfl)
  have d0 : decide ((x : Int) < 1) = false := by simp; omega
  have d1 : decide ((k : Int) < 1) = false := by simp; omega
  have HH := Lib.hid h
  clear hrun hfill hq hr hm
  generalize tkWd wd K p k = wd' at *
  generalize hA : p * K = a at *
  generalize hD : (p + k) * K = d at *
  generalize hMM : C * K = M at *
  have HMM := Lib.hid hMM
  have HA := Lib.hid hA
  have HD := Lib.hid hD
  clear hA hD hMM h
  go_enter Tryz.func53, Tryz.ntmps53
  go_wp2_with fail
  refine HRUN.out.mono ?_
  rintro e w' ⟨rfl, rfl⟩
  go_wp2_with fail
  refine HFILL.out.mono ?_
  rintro e w1 ⟨rfl, ht⟩
  have ho1 := ht.1
  have HT1 := Lib.hid ht
  have b0 := (ho1.cell (p := ⟨B.s, 0, none⟩) n4).trans HH.out.size
  have b1 := (ho1.cell (p := ⟨B.s, 1, none⟩) n4).trans HH.out.words
  have b2 := (ho1.cell (p := ⟨B.s, 2, none⟩) n4).trans HH.out.owners
  rw [HMM.out] at b1
  have hrow := HH.out.orow.block (ho1.block _ n9)
  have hwr := HH.out.wrow.block (ho1.block _ n7)
  rw [HMM.out] at hwr
  have HROW := Lib.hid hrow
  have HWR := Lib.hid hwr
  clear ht hrow hwr HRUN HFILL
  go_wp2_with fail
  go_loopw [10] (TakeAt w1 B.o C p k x own) (fun v _ => p + k - (intOf v).toNat)
  case atStart => exact ⟨p, Nat.le_refl _, by omega, rfl, OnlyAt.refl _ _, HROW.out.congr fun q hq => by unfold tkOwn; rw [if_neg (by omega)]⟩
  case round =>
    obtain ⟨c, hc1, hc2, rfl, ho2, hr2⟩ := hrel
    have a0 := (ho2.cell (p := ⟨B.s, 0, none⟩) n2).trans b0
    have a1 := (ho2.cell (p := ⟨B.s, 1, none⟩) n2).trans b1
    have a2 := (ho2.cell (p := ⟨B.s, 2, none⟩) n2).trans b2
    by_cases hlt : c < p + k
    · have c4 := hr2.cell c (by omega)
      have c5 := hr2.thaw c (by omega)
      have HS := Lib.hid (hr2.stored c x)
      have HR2 := Lib.hid hr2
      clear hr2
      go_wp2
      go_roundw
      case rel =>
        refine ⟨c + 1, by omega, by omega, by go_num, ho2.setCell _ _, HS.out.congr fun q hq => ?_⟩
        unfold tkOwn
        by_cases e : q = c
        · rw [if_pos e, if_pos (by omega)]
        · rw [if_neg e]
          by_cases e2 : p ≤ q ∧ q < p + (c - p)
          · rw [if_pos e2, if_pos (by omega)]
          · rw [if_neg e2, if_neg (by omega)]
      case measure => simp [intOf]; omega
    · obtain rfl : c = p + k := by omega
      have hW2 := HWR.out.block (ho2.block B.v n5)
      rw [show p + k - p = k by omega] at hr2
      have F := hfin.out w1 wr.drew HT1.out ⟨ho2.os, ho2.tape, ho2.output, ho2.size, ho2.block⟩ (hr2.block rfl)
      have HF := Lib.hid F
      have HCS := Lib.hid (fun j (hj : j < d - a) => show (wr.cell? ⟨B.v, a + j, none⟩).isSome = true by rw [hW2.cell (a + j) (by omega)]; rfl)
      have HFS := Lib.hid (fun j (hj : j < d - a) => hW2.thaw (a + j) (by omega))
      clear F hr2 hW2
      go_wp2_with fail
      have y1 := wrapOk ((p : Int) + (k : Int)) (by omega) (by omega)
      have y2 := wrapOk (d : Int) (by omega) (by omega)
      have y3 := wrapOk (a : Int) (by omega) (by omega)
      have y4 : max (d : Int) 0 = (d : Int) := by omega
      have y5 : (d : Int) ≤ (M : Int) := by omega
      have y6 : (a : Int) ≤ (d : Int) := by omega
      have y7 : ¬ M = a := by omega
      have y8 : a ≤ d := by omega
      go_region_law (refine step_clear rfl (.tmp 70) 41 rfl 33 (.int .u64 0) Tryz.underlying41 (by intro w; kernel_rfl) rfl rfl B.v a (d - a) (M - a) (by simp [Act.eval, Act.put]) (by omega) (by exact HCS.out) (by exact HFS.out) ?_)
      all_goals
        go_wp2
        go_ret2
        exact ⟨rfl, HF.out⟩

theorem take_arg (a : Addr) (x n : Int) (w : World) (h : x < 1 ∨ n < 1) :
    Calls Tryz.prog 53 #[.pointer (some a), .int .i64 x, .int .i64 n] w fun e w' => e = .returned (.tuple #[.int .i64 0, .int .i64 2]) ∧ w = w' := by
  have h' : x < 1 ∨ (1 ≤ x ∧ n < 1) := by omega
  clear h
  rcases h' with h | ⟨h, h2⟩
  all_goals
    go_enter Tryz.func53, Tryz.ntmps53
    go_wp2
    go_ret2
    exact ⟨rfl, rfl⟩
set_option maxHeartbeats 400000 in
theorem take_full (h : StAt w B C K own wd) (hT : Tab w) (x : Int) (k : Nat) (hx : 1 ≤ x) (hk : 1 ≤ k) (hk2 : k ≤ 9223372036854775807) (hr : ¬ BM.rn (busy own) C k < C + 1 - k) :
    Calls Tryz.prog 53 #[.pointer (some ⟨B.s, 0, none⟩), .int .i64 x, .int .i64 k] w fun e w' => e = .returned (.tuple #[.int .i64 0, .int .i64 11]) ∧ w = w' := by
  have c1 := h.taken
  obtain ⟨ws, hm, hq⟩ := h.map
  have hrun := run_any B.b B.c C (k : Int) ws w hm hT (by omega)
  rw [hq, runVal_no hr] at hrun
  have HRUN := Lib.hid hrun
  clear hrun hr hq hm h
  have d1 : decide ((k : Int) < 1) = false := by simp; omega
  go_enter Tryz.func53, Tryz.ntmps53
  go_wp2_with (first
    | (go_at_call 83; refine HRUN.out.mono ?_; rintro e w' ⟨rfl, rfl⟩))
  go_ret2
  exact ⟨rfl, rfl⟩
theorem take_nil (w : World) (x n : Int) :
    Calls Tryz.prog 53 #[.pointer none, .int .i64 x, .int .i64 n] w fun e w' => e = .returned (.tuple #[.int .i64 0, .int .i64 1]) ∧ w = w' := by
  go_enter Tryz.func53, Tryz.ntmps53
  go_wp2
  go_ret2
  exact ⟨rfl, rfl⟩
/-- Take is TakeRun of one. -/
theorem take_one {P : Option Addr} {x : Int} {u v : Value} {R : World → Prop} (h : Calls Tryz.prog 53 #[.pointer P, .int .i64 x, .int .i64 1] w fun e w' => e = .returned (.tuple #[u, v]) ∧ R w') :
    Calls Tryz.prog 22 #[.pointer P, .int .i64 x] w fun e w' => e = .returned (.tuple #[u, v]) ∧ R w' := by
  have H := Lib.hid h
  clear h
  go_enter Tryz.func22, Tryz.ntmps22
  go_wp2_with (first
    | (go_at_call 53; refine H.out.mono ?_; rintro e w' ⟨rfl, hR⟩; have HR := Lib.hid hR; clear hR))
  go_ret2
  exact ⟨rfl, HR.out⟩
end
end Go.Proofs.YteneadimchhhhaaGreatDoor
/- Contract of Copy of package store. -/
namespace Go.Proofs.YteneadimchhhhaaGreatDoor
open Go.RowKit

/-- copy between slices of one array, as one step of a region that draws. -/
theorem step_copy {P : Program} {ops : Array Oper} {o : Oper} {a : Act} {w : World} {K : Act → World → Prop} {Q : Exit → Act → World → Prop} {E : Prop} (hgd : o.guard = none) (d s : Operand) (dT sT : TypeId)
    (ho : o.op = .call { callee := .builtin .copy, args := #[d, s], argTypes := #[dT, sT] }) (elem : TypeId) (hu : P.underlying dT = some (.slice elem)) (hsz : (P.info? elem).map (·.size) = some 1)
    (b off dLen dCap : Nat) (ad : Addr) (sLen sCap : Nat) (hd : a.eval d = .slice (some ⟨b, off, none⟩) dLen dCap) (hs : a.eval s = .slice (some ad) sLen sCap) (cs : List Value) (hn : cs.length = Nat.min sLen dLen)
    (hsrc : ∀ j v, cs[j]? = some v → w.cell? (ad.add j) = some v) (hc : ∀ j, j < cs.length → (w.cell? ⟨b, off + j, none⟩).isSome = true) (hf : ∀ j, j < cs.length → w.frozen? ⟨b, off + j, none⟩ = false) (h1 : ∀ v ∈ cs, v.oneCell' = true)
    (h : K (a.put o.dst (goInt cs.length)) (w.setCells b off cs)) :
    if Region.wanted o (yielded ops a.tmps) = true then Oper.wp P o a w K Q else E := by
  have hw : Region.wanted o (yielded ops a.tmps) = true := by simp [Region.wanted, hgd]
  rw [if_pos hw]
  have hrun := run_copy_cells (P := P) w dT sT o.type elem b off dLen dCap ad sLen sCap cs hu hsz hn hsrc hc hf h1
  unfold Oper.wp
  simp [execOp, ho, resolve, invoke, builtin, hd, hs, hrun, Result.andThen]
  exact h
theorem step_copy0 {P : Program} {ops : Array Oper} {o : Oper} {a : Act} {w : World} {K : Act → World → Prop} {Q : Exit → Act → World → Prop} {E : Prop} (hgd : o.guard = none) (d s : Operand) (dT sT : TypeId)
    (ho : o.op = .call { callee := .builtin .copy, args := #[d, s], argTypes := #[dT, sT] }) (elem : TypeId) (hu : P.underlying dT = some (.slice elem)) (hsz : (P.info? elem).map (·.size) = some 1)
    (dp sp : Option Addr) (dCap sCap : Nat) (hd : a.eval d = .slice dp 0 dCap) (hs : a.eval s = .slice sp 0 sCap)
    (h : K (a.put o.dst (goInt 0)) w) :
    if Region.wanted o (yielded ops a.tmps) = true then Oper.wp P o a w K Q else E := by
  have hw : Region.wanted o (yielded ops a.tmps) = true := by simp [Region.wanted, hgd]
  rw [if_pos hw]
  have hrun := run_copy_none (P := P) w dT sT o.type elem dp sp 0 dCap 0 sCap hu hsz rfl
  unfold Oper.wp
  simp [execOp, ho, resolve, invoke, builtin, hd, hs, hrun, Result.andThen]
  exact h

/-- What Copy says. -/
def copyE (own : Nat → Nat) (C K : Nat) (to fr n : Int) : Int :=
  if inB (C * K) to n = true ∧ inB (C * K) fr n = true then (if anyFree own K to.toNat n.toNat = true ∨ anyFree own K fr.toNat n.toNat = true then 17 else 0) else 3
/-- The words behind it. -/
def cpWd (wd : Nat → Nat) (to fr n q : Nat) : Nat := if to ≤ q ∧ q < to + n then wd (fr + (q - to)) else wd q

section
variable {w w' : World} {B : SB} {C K : Nat} {own wd : Nat → Nat}
set_option maxHeartbeats 1000000 in
theorem copy_no (h : StAt w B C K own wd) (to fr n : Int) (hz : copyE own C K to fr n ≠ 0) :
    Calls Tryz.prog 51 #[.pointer (some ⟨B.s, 0, none⟩), .int .i64 to, .int .i64 fr, .int .i64 n] w fun e w' => e = .returned (.int .i64 (copyE own C K to fr n)) ∧ w = w' := by
  have h1 := Lib.hid (within_any h to n)
  have h2 := Lib.hid (within_any h fr n)
  unfold copyE at *
  by_cases hi : inB (C * K) to n = true ∧ inB (C * K) fr n = true
  · rw [if_pos hi] at hz ⊢
    obtain ⟨i1, i2⟩ := hi
    have j1 := (inB_iff _ _ _).1 i1
    have j2 := (inB_iff _ _ _).1 i2
    obtain ⟨t, rfl⟩ := Int.eq_ofNat_of_zero_le j1.2.1
    obtain ⟨f, rfl⟩ := Int.eq_ofNat_of_zero_le j2.2.1
    obtain ⟨m, rfl⟩ := Int.eq_ofNat_of_zero_le j1.1
    simp only [Int.toNat_natCast] at hz ⊢
    have t1 := Lib.hid (touches_any h t m (by omega))
    have t2 := Lib.hid (touches_any h f m (by omega))
    rw [i1] at h1
    rw [i2] at h2
    clear j1 j2 i1 i2
    have hor : anyFree own K t m = true ∨ anyFree own K t m = false ∧ anyFree own K f m = true := by
      cases e1 : anyFree own K t m
      · cases e2 : anyFree own K f m
        · simp [e1, e2] at hz
        · exact .inr ⟨rfl, rfl⟩
      · exact .inl rfl
    rcases hor with e1 | ⟨e1, e2⟩
    · rw [if_pos (.inl e1)]
      rw [e1] at t1
      clear e1 hz t2
      go_enter Tryz.func51, Tryz.ntmps51
      go_wp2_with (first
        | (go_at_call 81; with_reducible refine h1.out.mono ?_; clear h1; rintro e w' ⟨rfl, rfl⟩)
        | (go_at_call 81; with_reducible refine h2.out.mono ?_; clear h2; rintro e w' ⟨rfl, rfl⟩)
        | (go_at_call 82; with_reducible refine t1.out.mono ?_; clear t1; rintro e w' ⟨rfl, rfl⟩))
      go_ret
      exact ⟨rfl, rfl⟩
    · rw [if_pos (.inr e2)]
      rw [e1] at t1
      rw [e2] at t2
      clear e1 e2 hz
      go_enter Tryz.func51, Tryz.ntmps51
      go_wp2_with (first
        | (go_at_call 81; with_reducible refine h1.out.mono ?_; clear h1; rintro e w' ⟨rfl, rfl⟩)
        | (go_at_call 81; with_reducible refine h2.out.mono ?_; clear h2; rintro e w' ⟨rfl, rfl⟩)
        | (go_at_call 82; with_reducible refine t1.out.mono ?_; clear t1; rintro e w' ⟨rfl, rfl⟩)
        | (go_at_call 82; with_reducible refine t2.out.mono ?_; clear t2; rintro e w' ⟨rfl, rfl⟩))
      go_ret
      exact ⟨rfl, rfl⟩
  · rw [if_neg hi]
    clear hz
    cases i1 : inB (C * K) to n
    · rw [i1] at h1
      clear i1 hi
      go_enter Tryz.func51, Tryz.ntmps51
      go_wp2_with (first
        | (go_at_call 81; with_reducible refine h1.out.mono ?_; clear h1; rintro e w' ⟨rfl, rfl⟩))
      go_ret
      exact ⟨rfl, rfl⟩
    · cases i2 : inB (C * K) fr n
      · rw [i1] at h1
        rw [i2] at h2
        clear i1 i2 hi
        go_enter Tryz.func51, Tryz.ntmps51
        go_wp2_with (first
          | (go_at_call 81; with_reducible refine h1.out.mono ?_; clear h1; rintro e w' ⟨rfl, rfl⟩)
          | (go_at_call 81; with_reducible refine h2.out.mono ?_; clear h2; rintro e w' ⟨rfl, rfl⟩))
        go_ret
        exact ⟨rfl, rfl⟩
      · exact absurd ⟨i1, i2⟩ hi
theorem scopy_nil (w : World) : Calls Tryz.prog 51 #[.pointer none, .int .i64 0, .int .i64 0, .int .i64 0] w fun e w' => e = .returned (.int .i64 1) ∧ w = w' := by
  go_enter Tryz.func51, Tryz.ntmps51
  go_wp2
  go_ret
  exact ⟨rfl, rfl⟩
theorem StAt.copied (h : StAt w B C K own wd) (t f m : Nat) (ht : t + m ≤ C * K) :
    OnlyIn [B.o, B.c, B.v] w (w.setCells B.v t ((List.range m).map fun i => .int .u64 (wd (f + i) : Nat))) ∧ StAt (w.setCells B.v t ((List.range m).map fun i => .int .u64 (wd (f + i) : Nat))) B C K own (cpWd wd t f m) := by
  obtain ⟨⟨n1, n2, n3, n4⟩, ⟨n5, n6, n7⟩, n8, n9⟩ := h.ne
  have ha := OnlyAt.setCells B.v ((List.range m).map fun i => .int .u64 (wd (f + i) : Nat)) t w
  have hO : OnlyIn [B.o, B.c, B.v] w (w.setCells B.v t ((List.range m).map fun i => .int .u64 (wd (f + i) : Nat))) := OnlyIn.of_at ha (by simp)
  obtain ⟨ws, hm, hq⟩ := h.map
  refine ⟨hO, h.turn hO ?_ (h.orow.block (ha.block _ (Ne.symm n5))) ⟨ws, hm.blocks (ha.block _ (Ne.symm n6)) (ha.block _ (Ne.symm n7)), hq⟩ (fun q => ?_) h.olt h.opast⟩
  · have := h.wrow.storedMany (g := fun q => wd (f + (q - t))) t ((List.range m).map fun i => .int .u64 (wd (f + i) : Nat)) (by simpa using ht) (fun j v hv => by
      simp only [List.getElem?_map, Option.map_eq_some_iff] at hv
      obtain ⟨i, hi, rfl⟩ := hv
      have hlt : j < m := by
        rcases Nat.lt_or_ge j m with h | h
        · exact h
        · rw [List.getElem?_eq_none (by simpa using h)] at hi; cases hi
      rw [List.getElem?_range hlt] at hi
      injection hi with hi
      subst hi
      rw [show t + j - t = j by omega])
    refine this.congr fun q hq => ?_
    simp only [List.length_map, List.length_range]
    rfl
  · unfold cpWd
    split
    · exact h.wlt _
    · exact h.wlt _
set_option maxHeartbeats 2000000 in
theorem copy_ok (h : StAt w B C K own wd) (t f m : Nat) (hm0 : 1 ≤ m) (ht : t + m ≤ C * K) (hf : f + m ≤ C * K) (e1 : anyFree own K t m = false) (e2 : anyFree own K f m = false) :
    Calls Tryz.prog 51 #[.pointer (some ⟨B.s, 0, none⟩), .int .i64 t, .int .i64 f, .int .i64 m] w (WrotePost w B C K own (cpWd wd t f m)) := by
  have h1 := within_any h (t : Int) (m : Int)
  have h2 := within_any h (f : Int) (m : Int)
  rw [(inB_iff (C * K) (t : Int) (m : Int)).2 (by omega)] at h1
  rw [(inB_iff (C * K) (f : Int) (m : Int)).2 (by omega)] at h2
  have t1 := touches_any h t m ht
  have t2 := touches_any h f m hf
  rw [e1] at t1
  rw [e2] at t2
  have H1 := Lib.hid h1
  have H2 := Lib.hid h2
  have T1 := Lib.hid t1
  have T2 := Lib.hid t2
  have c1 := h.words
  have hM := h.all
  have hd := (show StAt w.drew B C K own wd from h.heap rfl)
  have HF := Lib.hid (hd.copied t f m ht)
  have hrow := hd.wrow
  obtain ⟨cs, hcs⟩ : ∃ cs : List Value, cs = (List.range m).map fun i => .int .u64 (wd (f + i) : Nat) := ⟨_, rfl⟩
  have hl : cs.length = m := by rw [hcs]; simp
  have HS := Lib.hid (show ∀ (j : Nat) (v : Value), cs[j]? = some v → w.drew.cell? ((⟨B.v, f, none⟩ : Addr).add j) = some v from fun j v hv => by
    rw [hcs, List.getElem?_map, Option.map_eq_some_iff] at hv
    obtain ⟨i, hi, rfl⟩ := hv
    have hlt : j < m := by
      rcases Nat.lt_or_ge j m with h | h
      · exact h
      · rw [List.getElem?_eq_none (by simpa using h)] at hi; cases hi
    rw [List.getElem?_range hlt] at hi
    injection hi with hi
    subst hi
    have := hrow.cell (f + j) (by omega)
    unfold Addr.add
    by_cases e : j = 0
    · subst e; simpa using this
    · simpa [e] using this)
  have HC := Lib.hid (show ∀ j, j < cs.length → (w.drew.cell? ⟨B.v, t + j, none⟩).isSome = true from fun j hj => by rw [hrow.cell (t + j) (by omega)]; rfl)
  have HZ := Lib.hid (show ∀ j, j < cs.length → w.drew.frozen? ⟨B.v, t + j, none⟩ = false from fun j hj => hrow.thaw (t + j) (by omega))
  have HO := Lib.hid (show ∀ v ∈ cs, v.oneCell' = true from fun v hv => by
    rw [hcs] at hv
    obtain ⟨i, _, rfl⟩ := List.mem_map.1 hv
    rfl)
  rw [← hcs] at HF
  have HL := Lib.hid hl
  have hi1 : (Tryz.prog.info? 33).map (·.size) = some 1 := by kernel_rfl
  have HI1 := Lib.hid hi1
  clear h1 h2 t1 t2 e1 e2 hrow hcs hl hd h hi1
  generalize cpWd wd t f m = wd' at *
  generalize C * K = M at *
  go_enter Tryz.func51, Tryz.ntmps51
  go_wp2_with (first
    | (go_at_call 81; with_reducible refine H1.out.mono ?_; clear H1; rintro e w' ⟨rfl, rfl⟩)
    | (go_at_call 81; with_reducible refine H2.out.mono ?_; clear H2; rintro e w' ⟨rfl, rfl⟩)
    | (go_at_call 82; with_reducible refine T1.out.mono ?_; clear T1; rintro e w' ⟨rfl, rfl⟩)
    | (go_at_call 82; with_reducible refine T2.out.mono ?_; clear T2; rintro e w' ⟨rfl, rfl⟩))
  have y1 := wrapOk ((t : Int) + (m : Int)) (by omega) (by omega)
  have y2 := wrapOk ((f : Int) + (m : Int)) (by omega) (by omega)
  have z1 : ((t : Int) + (m : Int)).toNat = t + m := by omega
  have z2 : ((f : Int) + (m : Int)).toNat = f + m := by omega
  have y4 : max ((t : Int) + (m : Int)) 0 = (t : Int) + (m : Int) := by omega
  have y5 : max ((f : Int) + (m : Int)) 0 = (f : Int) + (m : Int) := by omega
  have y6 : (t : Int) + (m : Int) ≤ (M : Int) := by omega
  have y7 : (f : Int) + (m : Int) ≤ (M : Int) := by omega
  have y8 : ¬ M = t := by omega
  have y9 : ¬ M = f := by omega
  have x1 : (0 : Int) ≤ (t : Int) + (m : Int) := by omega
  have x2 : (0 : Int) ≤ (f : Int) + (m : Int) := by omega
  have x3 : (t : Int) ≤ (t : Int) + (m : Int) := by omega
  have x4 : (f : Int) ≤ (f : Int) + (m : Int) := by omega
  have x5 : t + m - t = m := by omega
  have x6 : f + m - f = m := by omega
  go_region_law (refine step_copy rfl (.tmp 41) (.tmp 50) 41 41 rfl 33 Tryz.underlying41 HI1.out B.v t m (M - t) ⟨B.v, f, none⟩ m (M - f) (by simp [Act.eval, Act.put]) (by simp [Act.eval, Act.put]) cs (by rw [HL.out]; exact (Nat.min_self m).symm) (by exact HS.out) (by exact HC.out) (by exact HZ.out) HO.out ?_)
  all_goals
    go_wp2
    go_ret
    exact ⟨rfl, (OnlyIn.refl _ w).drew.trans HF.out.1, HF.out.2⟩
set_option maxHeartbeats 2000000 in
theorem copy_zero (h : StAt w B C K own wd) (t f : Nat) (ht : t ≤ C * K) (hf : f ≤ C * K) :
    Calls Tryz.prog 51 #[.pointer (some ⟨B.s, 0, none⟩), .int .i64 t, .int .i64 f, .int .i64 0] w (WrotePost w B C K own wd) := by
  have h1 := within_any h (t : Int) 0
  have h2 := within_any h (f : Int) 0
  rw [(inB_iff (C * K) (t : Int) 0).2 (by omega)] at h1
  rw [(inB_iff (C * K) (f : Int) 0).2 (by omega)] at h2
  have t1 : Calls Tryz.prog 82 #[.pointer (some ⟨B.s, 0, none⟩), .int .i64 t, .int .i64 0] w fun e w' => e = .returned (.bool false) ∧ w = w' := touches_any h t 0 (by omega)
  have t2 : Calls Tryz.prog 82 #[.pointer (some ⟨B.s, 0, none⟩), .int .i64 f, .int .i64 0] w fun e w' => e = .returned (.bool false) ∧ w = w' := touches_any h f 0 (by omega)
  have H1 := Lib.hid h1
  have H2 := Lib.hid h2
  have T1 := Lib.hid t1
  have T2 := Lib.hid t2
  have c1 := h.words
  have hM := h.all
  have HF := Lib.hid (show StAt w.drew B C K own wd from h.heap rfl)
  have hi1 : (Tryz.prog.info? 33).map (·.size) = some 1 := by kernel_rfl
  have HI1 := Lib.hid hi1
  clear h1 h2 t1 t2 h hi1
  generalize C * K = M at *
  have y1 := wrapOk (t : Int) (by omega) (by omega)
  have y2 := wrapOk (f : Int) (by omega) (by omega)
  have y3 := wrapOk (M : Int) (by omega) (by omega)
  have y6 : (t : Int) ≤ (M : Int) := by omega
  have y7 : (f : Int) ≤ (M : Int) := by omega
  by_cases y8 : M = t
  all_goals by_cases y9 : M = f
  all_goals first | (subst y8; subst y9) | subst y8 | subst y9 | skip
  all_goals
    go_enter Tryz.func51, Tryz.ntmps51
    go_wp2_with (first
      | (go_at_call 81; first | (with_reducible refine H1.out.mono ?_; rintro e w' ⟨rfl, rfl⟩) | (with_reducible refine H2.out.mono ?_; rintro e w' ⟨rfl, rfl⟩))
      | (go_at_call 82; first | (with_reducible refine T1.out.mono ?_; rintro e w' ⟨rfl, rfl⟩) | (with_reducible refine T2.out.mono ?_; rintro e w' ⟨rfl, rfl⟩)))
    go_region_law (refine step_copy0 rfl (.tmp 41) (.tmp 50) 41 41 rfl 33 Tryz.underlying41 HI1.out _ _ _ _ (by simp [Act.eval, Act.put]; exact ⟨rfl, rfl⟩) (by simp [Act.eval, Act.put]; exact ⟨rfl, rfl⟩) ?_)
    all_goals
      go_wp2
      go_ret
      exact ⟨rfl, (OnlyIn.refl _ w).drew, HF.out⟩
end
end Go.Proofs.YteneadimchhhhaaGreatDoor
/- Contract of New of package store. -/
namespace Go.Proofs.YteneadimchhhhaaGreatDoor
open Go.RowKit

theorem snew_no (c k : Int) (w : World) (h : c < 1 ∨ 1024 < c ∨ k < 1 ∨ 1024 < k) :
    Calls Tryz.prog 19 #[.int .i64 c, .int .i64 k] w fun e w' => e = .returned (.tuple #[.pointer none, .int .i64 3]) ∧ w = w' := by
  have h' : c < 1 ∨ (1 ≤ c ∧ 1024 < c) ∨ (1 ≤ c ∧ c ≤ 1024 ∧ k < 1) ∨ (1 ≤ c ∧ c ≤ 1024 ∧ 1 ≤ k ∧ 1024 < k) := by omega
  clear h
  rcases h' with a | ⟨a, b⟩ | ⟨a, b, d⟩ | ⟨a, b, d, e⟩
  all_goals
    go_enter Tryz.func19, Tryz.ntmps19
    go_wp2
    go_ret2
    exact ⟨rfl, rfl⟩
/-- What New leaves. -/
def SNewPost (C K : Nat) (w : World) (e : Ending) (w' : World) : Prop :=
  ∃ B : SB, e = .returned (.tuple #[.pointer (some ⟨B.s, 0, none⟩), .int .i64 0]) ∧ StAt w' B C K (fun _ => 0) (fun _ => 0) ∧ Below w.heap.size w w' ∧ B.within w.heap.size w'.heap.size
theorem Row.fresh {kd : IntKind} {w : World} {r n M : Nat} {t : TypeId} (h : Whole w r t (madeCells #[.int kd 0] M)) (hn : n ≤ M) : Row kd w r n (fun _ => 0) :=
  ⟨fun k hk => (h.cell k).trans (made_at _ _ _ (by omega)), fun k _ => h.free k⟩
theorem snew_done {C K M : Nat} (eM : M = C * K) {w w1 w2 : World} {B : SB} {ws : Nat → Nat} {t1 t2 t3 : TypeId} (C1 : 1 ≤ C) (C2 : C ≤ 1024) (K1 : 1 ≤ K) (K2 : K ≤ 1024) (hm : MapAt w1 B.b B.c C ws) (hz : ∀ k, BM.on ws k = false) (b1 : Below w.heap.size w w1) (b2 : Below w1.heap.size w1 w2)
    (hb : w.heap.size ≤ B.b ∧ B.b < w1.heap.size) (hc : w.heap.size ≤ B.c ∧ B.c < w1.heap.size) (h1 : Whole w2 B.v t1 (madeCells #[.int .u64 0] M)) (h2 : Whole w2 B.o t2 (madeCells #[.int .i64 0] C)) (h3 : Whole w2 B.s t3 #[.int .i64 K,   .slice (some ⟨B.v, 0, none⟩) M M, .slice (some ⟨B.o, 0, none⟩) C C, .pointer (some ⟨B.b, 0, none⟩)])
    (g1 : w1.heap.size ≤ B.v) (g2 : w1.heap.size ≤ B.o) (g3 : w1.heap.size ≤ B.s) (n1 : B.v ≠ B.o) (n2 : B.s ≠ B.v) (n3 : B.s ≠ B.o) :
    SNewPost C K w (.returned (.tuple #[.pointer (some ⟨B.s, 0, none⟩), .int .i64 0])) w2 := by
  subst eM
  have s1 := b1.size
  have s2 := b2.size
  have l1 := h1.lt
  have l2 := h2.lt
  have l3 := h3.lt
  refine ⟨B, rfl, ⟨C1, C2, K1, K2, (h3.cell 0).trans rfl, (h3.cell 1).trans rfl, (h3.cell 2).trans rfl, (h3.cell 3).trans rfl, (Row.fresh h1 (Nat.le_refl _)).cell, (Row.fresh h1 (Nat.le_refl _)).thaw, (Row.fresh h2 (Nat.le_refl _)).cell, (Row.fresh h2 (Nat.le_refl _)).thaw,
    ⟨ws, hm.below b2 hb.2 hc.2, by funext k; rw [hz k]; simp [busy]⟩, ⟨⟨n2, n3, by omega, by omega⟩, ⟨n1, by omega, by omega⟩, by omega, by omega⟩, fun _ => by omega, fun _ => by omega, fun _ _ => rfl⟩, b1.trans (b2.mono s1), ?_⟩
  refine ⟨⟨?_, ?_⟩, ⟨?_, ?_⟩, ⟨?_, ?_⟩, ⟨?_, ?_⟩, ?_, ?_⟩ <;> omega
set_option maxHeartbeats 1000000 in
theorem snew_ok (C K : Nat) (w : World) (C1 : 1 ≤ C) (C2 : C ≤ 1024) (K1 : 1 ≤ K) (K2 : K ≤ 1024) :
    Calls Tryz.prog 19 #[.int .i64 C, .int .i64 K] w (SNewPost C K w) := by
  have hM : C * K ≤ 1048576 := by have := Nat.mul_le_mul C2 K2; omega
  have hP : (C : Int) * (K : Int) = ((C * K : Nat) : Int) := by simp
  obtain ⟨M, eM⟩ : ∃ M, M = C * K := ⟨_, rfl⟩
  rw [← eM] at hM hP
  have EM := Lib.hid eM
  clear eM
  have hmk := fun W => run_make_row' (P := Tryz.prog) 41 33 (.int .u64 0) 8 Tryz.underlying41 (by kernel_rfl) rfl .i64 .i64 M (by omega) (by omega) W
  have hmi := fun W => run_make_row' (P := Tryz.prog) 42 3 (.int .i64 0) 8 Tryz.underlying42 (by kernel_rfl) rfl .i64 .i64 C (by omega) (by omega) W
  go_enter Tryz.func19, Tryz.ntmps19
  go_wp2_with fail
  refine (new_ok C _ C1 (by omega)).mono ?_
  rintro e w1 ⟨rfl, hm1, hb1, hs1⟩
  obtain ⟨b, hb⟩ : ∃ b, b = w.heap.size + 1 := ⟨_, rfl⟩
  obtain ⟨c, hc⟩ : ∃ c, c = w.heap.size := ⟨_, rfl⟩
  rw [← hb] at hm1 ⊢
  rw [← hc] at hm1
  have q1 : w.heap.size ≤ b := by omega
  have q2 : w.heap.size ≤ c := by omega
  have q4 : b < w1.heap.size := by omega
  have q5 : c < w1.heap.size := by omega
  clear hb hc hs1
  go_wp2_with fail
  go_region
  · go_wp2
    go_ret2
    have W1 := ((Whole.fresh w1 33 (madeCells #[.int .u64 0] M)).alloc (.cells (madeCells #[.int .i64 0] C) 3)).alloc (.cells #[.int .i64 K, .slice (some ⟨w1.heap.size, 0, none⟩) M M, .slice (some ⟨w1.heap.size + 1, 0, none⟩) C C, .pointer (some ⟨b, 0, none⟩)] 112)
    have W2 := (Whole.fresh (w1.alloc (.cells (madeCells #[.int .u64 0] M) 33)) 3 (madeCells #[.int .i64 0] C)).alloc (.cells #[.int .i64 K, .slice (some ⟨w1.heap.size, 0, none⟩) M M, .slice (some ⟨w1.heap.size + 1, 0, none⟩) C C, .pointer (some ⟨b, 0, none⟩)] 112)
    have W3 := Whole.fresh ((w1.alloc (.cells (madeCells #[.int .u64 0] M) 33)).alloc (.cells (madeCells #[.int .i64 0] C) 3)) 112 #[.int .i64 K, .slice (some ⟨w1.heap.size, 0, none⟩) M M, .slice (some ⟨w1.heap.size + 1, 0, none⟩) C C, .pointer (some ⟨b, 0, none⟩)]
    rw [World.size_alloc] at W2
    rw [World.size_alloc, World.size_alloc] at W3
    exact snew_done (B := ⟨w1.heap.size + 1 + 1, w1.heap.size, w1.heap.size + 1, b, c⟩) EM.out C1 C2 K1 K2 hm1 (fun k => by simp [BM.on]) hb1 ((((Below.refl _ _).alloc (Nat.le_refl _) _).alloc (by simp) _).alloc (by simp; omega) _).drew ⟨q1, q4⟩ ⟨q2, q5⟩ W1.drew W2.drew W3.drew (by simp) (by simp) (by simp; omega) (by simp) (by simp; omega) (by simp)
  · go_wp2
    go_ret2
    have W1 := ((Whole.fresh w1 3 (madeCells #[.int .i64 0] C)).alloc (.cells (madeCells #[.int .u64 0] M) 33)).alloc (.cells #[.int .i64 K, .slice (some ⟨w1.heap.size + 1, 0, none⟩) M M, .slice (some ⟨w1.heap.size, 0, none⟩) C C, .pointer (some ⟨b, 0, none⟩)] 112)
    have W2 := (Whole.fresh (w1.alloc (.cells (madeCells #[.int .i64 0] C) 3)) 33 (madeCells #[.int .u64 0] M)).alloc (.cells #[.int .i64 K, .slice (some ⟨w1.heap.size + 1, 0, none⟩) M M, .slice (some ⟨w1.heap.size, 0, none⟩) C C, .pointer (some ⟨b, 0, none⟩)] 112)
    have W3 := Whole.fresh ((w1.alloc (.cells (madeCells #[.int .i64 0] C) 3)).alloc (.cells (madeCells #[.int .u64 0] M) 33)) 112 #[.int .i64 K, .slice (some ⟨w1.heap.size + 1, 0, none⟩) M M, .slice (some ⟨w1.heap.size, 0, none⟩) C C, .pointer (some ⟨b, 0, none⟩)]
    rw [World.size_alloc] at W2
    rw [World.size_alloc, World.size_alloc] at W3
    exact snew_done (B := ⟨w1.heap.size + 1 + 1, w1.heap.size + 1, w1.heap.size, b, c⟩) EM.out C1 C2 K1 K2 hm1 (fun k => by simp [BM.on]) hb1 ((((Below.refl _ _).alloc (Nat.le_refl _) _).alloc (by simp) _).alloc (by simp; omega) _).drew ⟨q1, q4⟩ ⟨q2, q5⟩ W2.drew W1.drew W3.drew (by simp) (by simp) (by simp; omega) (by simp) (by simp) (by simp; omega)
end Go.Proofs.YteneadimchhhhaaGreatDoor
/- The document's store: its state, and contracts of its functions but TakeRun and Copy. -/
namespace Go.Proofs.YteneadimchhhhaaGreatDoor
open Go.RowKit

/-- The blocks of the document's store: its box, its words', its owners'. -/
structure RB where
  m : Nat
  p : Nat
  q : Nat
structure RfAt (w : World) (R : RB) (C K : Nat) (own wd : Nat → Nat) : Prop where
  C1 : 1 ≤ C
  C2 : C ≤ 1024
  K1 : 1 ≤ K
  K2 : K ≤ 1024
  words : w.cell? ⟨R.m, 0, none⟩ = some (.slice (some ⟨R.p, 0, none⟩) (C * K) (C * K))
  size : w.cell? ⟨R.m, 1, none⟩ = some (.int .i64 K)
  owners : w.cell? ⟨R.m, 2, none⟩ = some (.slice (some ⟨R.q, 0, none⟩) C C)
  wrow : Row .u64 w R.p (C * K) wd
  orow : Row .i64 w R.q C own
  ne : R.m ≠ R.p ∧ R.m ≠ R.q ∧ R.p ≠ R.q
def RB.within (R : RB) (lo hi : Nat) : Prop := (lo ≤ R.m ∧ R.m < hi) ∧ (lo ≤ R.p ∧ R.p < hi) ∧ (lo ≤ R.q ∧ R.q < hi)
section
variable {w w' : World} {R : RB} {C K : Nat} {own wd own' wd' : Nat → Nat}
theorem RfAt.blocks (h : RfAt w R C K own wd) (e : ∀ k, k = R.m ∨ k = R.p ∨ k = R.q → w'.heap[k]? = w.heap[k]?) : RfAt w' R C K own wd := by
  have es := e R.m (by simp)
  exact ⟨h.C1, h.C2, h.K1, h.K2, (World.cell?_of_block (a := ⟨R.m, 0, none⟩) es).trans h.words, (World.cell?_of_block (a := ⟨R.m, 1, none⟩) es).trans h.size, (World.cell?_of_block (a := ⟨R.m, 2, none⟩) es).trans h.owners, h.wrow.block (e R.p (by simp)), h.orow.block (e R.q (by simp)), h.ne⟩
theorem RfAt.heap (h : RfAt w R C K own wd) (e : w'.heap = w.heap) : RfAt w' R C K own wd := h.blocks fun k _ => by rw [e]
theorem RfAt.below {lo hi : Nat} (h : RfAt w R C K own wd) (hb : Below hi w w') (hR : R.within lo hi) : RfAt w' R C K own wd := h.blocks fun k hk => hb.block k (by
  obtain ⟨b1, b2, b3⟩ := hR
  rcases hk with rfl | rfl | rfl <;> omega)
theorem RfAt.only {S : List Nat} (h : RfAt w R C K own wd) (ho : OnlyIn S w w') (hs : ∀ x ∈ S, x ≠ R.m ∧ x ≠ R.p ∧ x ≠ R.q) : RfAt w' R C K own wd := h.blocks fun k hk => ho.block k (fun hx => by
  obtain ⟨b1, b2, b3⟩ := hs k hx
  rcases hk with rfl | rfl | rfl <;> contradiction)
/-- Behind some writes. -/
theorem RfAt.turn (h : RfAt w R C K own wd) (ho : OnlyIn [R.p, R.q] w w') (hw : Row .u64 w' R.p (C * K) wd') (hr : Row .i64 w' R.q C own') : RfAt w' R C K own' wd' := by
  obtain ⟨n1, n2, n3⟩ := h.ne
  have es : R.m ∉ [R.p, R.q] := by simp; exact ⟨n1, n2⟩
  exact ⟨h.C1, h.C2, h.K1, h.K2, (ho.cell (p := ⟨R.m, 0, none⟩) es).trans h.words, (ho.cell (p := ⟨R.m, 1, none⟩) es).trans h.size, (ho.cell (p := ⟨R.m, 2, none⟩) es).trans h.owners, hw, hr, h.ne⟩
theorem RfAt.all (h : RfAt w R C K own wd) : C * K ≤ 1048576 := by
  have := Nat.mul_le_mul h.C2 h.K2
  omega

/-- What New leaves. -/
def RNewPost (C K : Nat) (w : World) (e : Ending) (w' : World) : Prop :=
  ∃ R : RB, e = .returned (.pointer (some ⟨R.m, 0, none⟩)) ∧ RfAt w' R C K (fun _ => 0) (fun _ => 0) ∧ Below w.heap.size w w' ∧ R.within w.heap.size w'.heap.size
theorem rnew_done {C K M : Nat} (eM : M = C * K) {w w2 : World} {R : RB} {t1 t2 t3 : TypeId} (C1 : 1 ≤ C) (C2 : C ≤ 1024) (K1 : 1 ≤ K) (K2 : K ≤ 1024) (b2 : Below w.heap.size w w2)
    (h1 : Whole w2 R.p t1 (madeCells #[.int .u64 0] M)) (h2 : Whole w2 R.q t2 (madeCells #[.int .i64 0] C)) (h3 : Whole w2 R.m t3 #[.slice (some ⟨R.p, 0, none⟩) M M, .int .i64 K, .slice (some ⟨R.q, 0, none⟩) C C])
    (g1 : w.heap.size ≤ R.p) (g2 : w.heap.size ≤ R.q) (g3 : w.heap.size ≤ R.m) (n1 : R.m ≠ R.p) (n2 : R.m ≠ R.q) (n3 : R.p ≠ R.q) :
    RNewPost C K w (.returned (.pointer (some ⟨R.m, 0, none⟩))) w2 := by
  subst eM
  have l1 := h1.lt
  have l2 := h2.lt
  have l3 := h3.lt
  exact ⟨R, rfl, ⟨C1, C2, K1, K2, (h3.cell 0).trans rfl, (h3.cell 1).trans rfl, (h3.cell 2).trans rfl, Row.fresh h1 (Nat.le_refl _), Row.fresh h2 (Nat.le_refl _), n1, n2, n3⟩, b2, ⟨g3, l3⟩, ⟨g1, l1⟩, g2, l2⟩
set_option maxHeartbeats 1000000 in
theorem rnew_ok (C K : Nat) (w : World) (C1 : 1 ≤ C) (C2 : C ≤ 1024) (K1 : 1 ≤ K) (K2 : K ≤ 1024) :
    Calls Tryz.prog 21 #[.int .i64 C, .int .i64 K] w (RNewPost C K w) := by
  have hM : C * K ≤ 1048576 := by have := Nat.mul_le_mul C2 K2; omega
  have hP : (C : Int) * (K : Int) = ((C * K : Nat) : Int) := by simp
  obtain ⟨M, eM⟩ : ∃ M, M = C * K := ⟨_, rfl⟩
  rw [← eM] at hM hP
  have EM := Lib.hid eM
  clear eM
  have hmk := fun W => run_make_row' (P := Tryz.prog) 41 33 (.int .u64 0) 8 Tryz.underlying41 (by kernel_rfl) rfl .i64 .i64 M (by omega) (by omega) W
  have hmi := fun W => run_make_row' (P := Tryz.prog) 42 3 (.int .i64 0) 8 Tryz.underlying42 (by kernel_rfl) rfl .i64 .i64 C (by omega) (by omega) W
  go_enter Tryz.func21, Tryz.ntmps21
  go_wp2_with fail
  go_region
  · go_wp2
    go_ret
    have W1 := ((Whole.fresh w 33 (madeCells #[.int .u64 0] M)).alloc (.cells (madeCells #[.int .i64 0] C) 3)).alloc (.cells #[.slice (some ⟨w.heap.size, 0, none⟩) M M, .int .i64 K, .slice (some ⟨w.heap.size + 1, 0, none⟩) C C] 44)
    have W2 := (Whole.fresh (w.alloc (.cells (madeCells #[.int .u64 0] M) 33)) 3 (madeCells #[.int .i64 0] C)).alloc (.cells #[.slice (some ⟨w.heap.size, 0, none⟩) M M, .int .i64 K, .slice (some ⟨w.heap.size + 1, 0, none⟩) C C] 44)
    have W3 := Whole.fresh ((w.alloc (.cells (madeCells #[.int .u64 0] M) 33)).alloc (.cells (madeCells #[.int .i64 0] C) 3)) 44 #[.slice (some ⟨w.heap.size, 0, none⟩) M M, .int .i64 K, .slice (some ⟨w.heap.size + 1, 0, none⟩) C C]
    rw [World.size_alloc] at W2
    rw [World.size_alloc, World.size_alloc] at W3
    exact rnew_done (R := ⟨w.heap.size + 1 + 1, w.heap.size, w.heap.size + 1⟩) EM.out C1 C2 K1 K2 ((((Below.refl _ _).alloc (Nat.le_refl _) _).alloc (by simp) _).alloc (by simp; omega) _).drew W1.drew W2.drew W3.drew (by simp) (by simp) (by simp; omega) (by simp; omega) (by simp) (by simp)
  · go_wp2
    go_ret
    have W1 := ((Whole.fresh w 3 (madeCells #[.int .i64 0] C)).alloc (.cells (madeCells #[.int .u64 0] M) 33)).alloc (.cells #[.slice (some ⟨w.heap.size + 1, 0, none⟩) M M, .int .i64 K, .slice (some ⟨w.heap.size, 0, none⟩) C C] 44)
    have W2 := (Whole.fresh (w.alloc (.cells (madeCells #[.int .i64 0] C) 3)) 33 (madeCells #[.int .u64 0] M)).alloc (.cells #[.slice (some ⟨w.heap.size + 1, 0, none⟩) M M, .int .i64 K, .slice (some ⟨w.heap.size, 0, none⟩) C C] 44)
    have W3 := Whole.fresh ((w.alloc (.cells (madeCells #[.int .i64 0] C) 3)).alloc (.cells (madeCells #[.int .u64 0] M) 33)) 44 #[.slice (some ⟨w.heap.size + 1, 0, none⟩) M M, .int .i64 K, .slice (some ⟨w.heap.size, 0, none⟩) C C]
    rw [World.size_alloc] at W2
    rw [World.size_alloc, World.size_alloc] at W3
    exact rnew_done (R := ⟨w.heap.size + 1 + 1, w.heap.size + 1, w.heap.size⟩) EM.out C1 C2 K1 K2 ((((Below.refl _ _).alloc (Nat.le_refl _) _).alloc (by simp) _).alloc (by simp; omega) _).drew W2.drew W1.drew W3.drew (by simp) (by simp) (by simp; omega) (by simp) (by simp; omega) (by simp)

theorem frees_yes (own : Nat → Nat) (k : Nat) (h : own k = 0) : frees own (k + 1) = frees own k + 1 := by
  unfold frees
  have h1 := BM.cnt_le (busy own) k
  have : BM.cnt (busy own) (k + 1) = BM.cnt (busy own) k := by
    rw [← BM.ons_len, ← BM.ons_len, BM.ons_no _ _ (by simp [busy, h])]
  omega
theorem frees_no (own : Nat → Nat) (k : Nat) (h : own k ≠ 0) : frees own (k + 1) = frees own k := by
  unfold frees
  have h1 := BM.cnt_le (busy own) k
  have : BM.cnt (busy own) (k + 1) = BM.cnt (busy own) k + 1 := by
    rw [← BM.ons_len, ← BM.ons_len, BM.ons_yes _ _ (by simp [busy]; omega), List.length_append]; rfl
  omega
theorem frees_le (own : Nat → Nat) (k : Nat) : frees own k ≤ k := by unfold frees; omega
/-- What run answers. -/
def rrunV (own : Nat → Nat) (C k : Nat) : Int := if BM.rn (busy own) C k < C + 1 - k then (BM.rn (busy own) C k : Nat) else -1
set_option maxHeartbeats 1000000 in
theorem rrun_any (h : RfAt w R C K own wd) (k : Nat) (hk : 1 ≤ k) (hk2 : k ≤ 9223372036854775807) : Calls Tryz.prog 54 #[.pointer (some ⟨R.m, 0, none⟩), .int .i64 k] w fun e w' => e = .returned (.int .i64 (rrunV own C k)) ∧ w = w' := by
  have c2 := h.owners
  have hC := h.C2
  have H := Lib.hid h.orow
  clear h
  go_enter Tryz.func54, Tryz.ntmps54
  go_wp2
  go_loop [5, 6] (fun y x => ∃ i m : Nat, i ≤ C ∧ x = .int .i64 i ∧ y = .int .i64 m ∧ BM.RowSt (busy own) k i m) (fun _ x => C - (intOf x).toNat)
  case atStart => exact ⟨0, 0, Nat.zero_le _, rfl, rfl, BM.row_start _ k hk⟩
  case round =>
    obtain ⟨i, m, hi, rfl, rfl, hst⟩ := hrel
    by_cases hlt : i < C
    · have c0 := H.out.cell i hlt
      have hm := hst.1
      have hm2 := hst.2.1
      by_cases hf : own i = 0
      · rw [hf] at c0
        have hb : busy own i = false := by simp [busy, hf]
        by_cases hr : m + 1 = k
        · have HR := Lib.hid (BM.row_found (busy own) C k i m hst hb hr hlt)
          have d : ((m : Int) + 1 == (k : Int)) = true := by simp; omega
          clear hf hr hb hst
          go_wp2
          go_ret
          obtain ⟨r1, r2, r3⟩ := HR.out
          refine ⟨?_, rfl⟩
          unfold rrunV
          rw [r1, if_pos r2, show ((i + 1 - k : Nat) : Int) = (i : Int) - (k : Int) + 1 by omega]
          rfl
        · have HR := Lib.hid (BM.row_off (busy own) k i m hst hb (by omega))
          have d : ((m : Int) + 1 == (k : Int)) = false := by simp; omega
          clear hf hb hst
          go_wp2
          go_round
          case rel => exact ⟨i + 1, m + 1, by omega, by go_num, by go_num, HR.out⟩
          case measure => simp [intOf]; omega
      · have HR := Lib.hid (BM.row_on (busy own) k i m hk hst (by simp [busy]; omega))
        generalize own i = x at *
        have d : ((0 : Int) == (k : Int)) = false := by simp; omega
        have d2 : ((x : Int) != 0) = true := by simp; omega
        clear hst
        go_wp2
        go_round
        case rel => exact ⟨i + 1, 0, by omega, by go_num, by go_num, HR.out⟩
        case measure => simp [intOf]; omega
    · obtain rfl : i = C := by omega
      have HR := Lib.hid (BM.row_end _ _ _ _ hst)
      clear hst
      go_wp2
      go_ret
      refine ⟨?_, rfl⟩
      unfold rrunV
      rw [HR.out, if_neg (by omega)]
      rfl

set_option maxHeartbeats 400000 in
theorem rchunk_any (h : RfAt w R C K own wd) (k : Int) : Calls Tryz.prog 67 #[.pointer (some ⟨R.m, 0, none⟩), .int .i64 k] w fun e w' => e = .returned (.int .i64 (chunkE own C k)) ∧ w = w' := by
  have c2 := h.owners
  have hC := h.C2
  by_cases h0 : k < 0
  · rw [chunkE_out (.inl h0)]
    go_enter Tryz.func67, Tryz.ntmps67
    go_wp2
    go_ret
    exact ⟨rfl, rfl⟩
  · have g0 : 0 ≤ k := by omega
    by_cases h1 : (C : Int) ≤ k
    · rw [chunkE_out (.inr h1)]
      go_enter Tryz.func67, Tryz.ntmps67
      go_wp2
      go_ret
      exact ⟨rfl, rfl⟩
    · obtain ⟨j, rfl⟩ := Int.eq_ofNat_of_zero_le g0
      have hj : j < C := by omega
      have c4 := h.orow.cell j hj
      rw [chunkE_in hj]
      clear h0 g0 h1
      by_cases hz : own j = 0
      · rw [if_pos hz]
        rw [hz] at c4
        clear hz
        go_enter Tryz.func67, Tryz.ntmps67
        go_wp2
        go_ret
        exact ⟨rfl, rfl⟩
      · rw [if_neg hz]
        generalize own j = x at *
        have d : ((x : Int) == 0) = false := by simp; omega
        go_enter Tryz.func67, Tryz.ntmps67
        go_wp2
        go_ret
        exact ⟨rfl, rfl⟩
set_option maxHeartbeats 400000 in
theorem rin_any (h : RfAt w R C K own wd) (i k : Int) : Calls Tryz.prog 66 #[.pointer (some ⟨R.m, 0, none⟩), .int .i64 i, .int .i64 k] w fun e w' => e = .returned (.bool (inB (C * K) i k)) ∧ w = w' := by
  have c1 := h.words
  have hM := h.all
  generalize C * K = M at *
  cases e : inB M i k
  · rcases (inB_not M i k).1 e with a | ⟨a, a2⟩ | ⟨a, a2, a3⟩ | ⟨a, a2, a3, a4⟩
    all_goals
      clear e
      go_enter Tryz.func66, Tryz.ntmps66
      go_wp2
      go_ret
      exact ⟨ret_bool (by simp; try omega), rfl⟩
  · obtain ⟨a, a2, a3, a4⟩ := (inB_iff M i k).1 e
    clear e
    go_enter Tryz.func66, Tryz.ntmps66
    go_wp2
    go_ret
    exact ⟨ret_bool (by simp; try omega), rfl⟩
set_option maxHeartbeats 400000 in
theorem rat_any (h : RfAt w R C K own wd) (k : Int) (hk : -9223372036854775808 ≤ k ∧ k ≤ 9223372036854775807) : Calls Tryz.prog 35 #[.pointer (some ⟨R.m, 0, none⟩), .int .i64 k] w fun e w' => e = .returned (.int .i64 (addrE own C K k)) ∧ w = w' := by
  have c0 := h.size
  have hM := h.all
  have hK := h.K1
  have hK2 := h.K2
  have hC := h.C2
  have hin := rin_any h k 1
  by_cases hb : 0 ≤ k ∧ k < ((C * K : Nat) : Int)
  · obtain ⟨j, rfl⟩ := Int.eq_ofNat_of_zero_le hb.1
    have hj : j < C * K := by omega
    have hd := div_lt hj
    rw [(inB_iff (C * K) (j : Int) 1).2 (by omega)] at hin
    have HI := Lib.hid hin
    have hs := Lib.hid (rchunk_any h ((j / K : Nat) : Int))
    have e : addrE own C K (j : Int) = chunkE own C ((j / K : Nat) : Int) := by
      rw [addrE_in hj, chunkE_in hd]
    have ep : (j : Int) / (K : Int) = ((j / K : Nat) : Int) := by simp
    rw [e]
    clear hb e hin
    generalize C * K = M at *
    generalize j / K = q at *
    have hkz : ((K : Int) == 0) = false := by simp; omega
    go_enter Tryz.func35, Tryz.ntmps35
    go_wp2_with (first
      | (go_at_call 66; refine HI.out.mono ?_; rintro e w' ⟨rfl, rfl⟩)
      | (go_at_call 67; refine hs.out.mono ?_; rintro e w' ⟨rfl, rfl⟩))
    go_ret
    exact ⟨rfl, rfl⟩
  · have e : inB (C * K) k 1 = false := by
      cases e : inB (C * K) k 1
      · rfl
      · have := (inB_iff _ _ _).1 e
        omega
    rw [e] at hin
    have HI := Lib.hid hin
    rw [addrE_out (by omega)]
    clear e hin hb
    go_enter Tryz.func35, Tryz.ntmps35
    go_wp2_with (first
      | (go_at_call 66; refine HI.out.mono ?_; rintro e w' ⟨rfl, rfl⟩))
    go_ret
    exact ⟨rfl, rfl⟩

def RWrotePost (w : World) (R : RB) (C K : Nat) (own wd : Nat → Nat) (e : Ending) (w' : World) : Prop :=
  e = .returned (.int .i64 0) ∧ OnlyIn [R.p, R.q] w w' ∧ RfAt w' R C K own wd
theorem RfAt.gave (h : RfAt w R C K own wd) (j x : Nat) : RfAt (w.setCell ⟨R.q, j, none⟩ (.int .i64 x)) R C K (fun q => if q = j then x else own q) wd := by
  have ha := (OnlyAt.refl R.q w).setCell j (.int .i64 x)
  exact h.turn (OnlyIn.of_at ha (by simp)) (h.wrow.block (ha.block _ h.ne.2.2)) (h.orow.stored j x)
theorem RfAt.wrote (h : RfAt w R C K own wd) (j x : Nat) : RfAt (w.setCell ⟨R.p, j, none⟩ (.int .u64 x)) R C K own (fun q => if q = j then x else wd q) := by
  have ha := (OnlyAt.refl R.p w).setCell j (.int .u64 x)
  exact h.turn (OnlyIn.of_at ha (by simp)) (h.wrow.stored j x) (h.orow.block (ha.block _ (Ne.symm h.ne.2.2)))
end
end Go.Proofs.YteneadimchhhhaaGreatDoor
/- Contracts of TakeRun and Copy of the document's store. -/
namespace Go.Proofs.YteneadimchhhhaaGreatDoor
open Go.RowKit

theorem infoU64 : (Tryz.prog.info? 33).map (fun i => (i.zero, i.size, i.bytes)) = some (some (.int .u64 0), 1, 8) := by kernel_rfl

section
variable {w w' : World} {R : RB} {C K : Nat} {own wd : Nat → Nat}
theorem rtake_arg (a : Addr) (x n : Int) (w : World) (h : x < 1 ∨ n < 1) :
    Calls Tryz.prog 23 #[.pointer (some a), .int .i64 x, .int .i64 n] w fun e w' => e = .returned (.tuple #[.int .i64 0, .int .i64 2]) ∧ w = w' := by
  have h' : x < 1 ∨ (1 ≤ x ∧ n < 1) := by omega
  clear h
  rcases h' with h | ⟨h, h2⟩
  all_goals
    go_enter Tryz.func23, Tryz.ntmps23
    go_wp2
    go_ret2
    exact ⟨rfl, rfl⟩
set_option maxHeartbeats 400000 in
theorem rtake_full (h : RfAt w R C K own wd) (x : Int) (k : Nat) (hx : 1 ≤ x) (hk : 1 ≤ k) (hk2 : k ≤ 9223372036854775807) (hr : ¬ BM.rn (busy own) C k < C + 1 - k) :
    Calls Tryz.prog 23 #[.pointer (some ⟨R.m, 0, none⟩), .int .i64 x, .int .i64 k] w fun e w' => e = .returned (.tuple #[.int .i64 0, .int .i64 11]) ∧ w = w' := by
  have hrun := rrun_any h k hk hk2
  rw [show rrunV own C k = -1 by unfold rrunV; rw [if_neg hr]] at hrun
  have HRUN := Lib.hid hrun
  clear hrun hr h
  have d1 : decide ((k : Int) < 1) = false := by simp; omega
  go_enter Tryz.func23, Tryz.ntmps23
  go_wp2_with (first
    | (go_at_call 54; refine HRUN.out.mono ?_; rintro e w' ⟨rfl, rfl⟩))
  go_ret2
  exact ⟨rfl, rfl⟩

def RTakePost (w : World) (R : RB) (C K : Nat) (own wd : Nat → Nat) (p : Nat) (e : Ending) (w' : World) : Prop :=
  e = .returned (.tuple #[.int .i64 p, .int .i64 0]) ∧ OnlyIn [R.p, R.q] w w' ∧ RfAt w' R C K own wd
def RTakeAt (w : World) (R : RB) (C K p k x : Nat) (own wd : Nat → Nat) (v : Value) (wr : World) : Prop :=
  ∃ i : Nat, p ≤ i ∧ i ≤ p + k ∧ v = .int .i64 i ∧ OnlyIn [R.p, R.q] w wr ∧ RfAt wr R C K (tkOwn own p (i - p) x) (tkWd wd K p (i - p))
/-- Some words of one chunk that are 0. -/
def zeroed (wd : Nat → Nat) (a j q : Nat) : Nat := if a ≤ q ∧ q < a + j then 0 else wd q
def RTakeIn (w : World) (R : RB) (C K : Nat) (own wd : Nat → Nat) (a : Nat) (v : Value) (wr : World) : Prop :=
  ∃ j : Nat, j ≤ K ∧ v = .int .i64 j ∧ OnlyIn [R.p, R.q] w wr ∧ RfAt wr R C K own (zeroed wd a j)
theorem RfAt.congr {own' wd' : Nat → Nat} (h : RfAt w R C K own wd) (e1 : ∀ q, own q = own' q) (e2 : ∀ q, wd q = wd' q) : RfAt w R C K own' wd' := by
  obtain rfl : own = own' := funext e1
  obtain rfl : wd = wd' := funext e2
  exact h
set_option maxHeartbeats 4000000 in
theorem rtake_ok (h : RfAt w R C K own wd) (x k p : Nat) (hx0 : 0 < x) (hx : x < 9223372036854775808) (hk : 1 ≤ k) (hr : BM.rn (busy own) C k = p) (hp : p < C + 1 - k) :
    Calls Tryz.prog 23 #[.pointer (some ⟨R.m, 0, none⟩), .int .i64 x, .int .i64 k] w (RTakePost w R C K (tkOwn own p k x) (tkWd wd K p k) p) := by
  have hC := h.C2
  have hM := h.all
  have hK := h.K1
  have hK2 := h.K2
  have hrun := rrun_any h k hk (by omega)
  rw [show rrunV own C k = p by unfold rrunV; rw [hr, if_pos hp]] at hrun
  have HRUN := Lib.hid hrun
  have HH := Lib.hid h
  have d0 : decide ((x : Int) < 1) = false := by simp; omega
  have d1 : decide ((k : Int) < 1) = false := by simp; omega
  clear hrun hr h
  go_enter Tryz.func23, Tryz.ntmps23
  go_wp2_with fail
  refine HRUN.out.mono ?_
  rintro e w' ⟨rfl, rfl⟩
  go_wp2_with fail
  go_loopw [9] (RTakeAt w R C K p k x own wd) (fun v _ => p + k - (intOf v).toNat)
  case atStart => exact ⟨p, Nat.le_refl _, by omega, rfl, OnlyIn.refl _ _, HH.out.congr (fun q => by unfold tkOwn; rw [if_neg (by omega)]) (fun q => by unfold tkWd; rw [Nat.sub_self, Nat.add_zero, if_neg (by omega)])⟩
  case round =>
    obtain ⟨i, hi1, hi2, rfl, ho, hr⟩ := hrel
    by_cases hlt : i < p + k
    · have c2 := hr.owners
      have c4 := hr.orow.cell i (by omega)
      have c5 := hr.orow.thaw i (by omega)
      have hg := hr.gave i x
      have hO := ho.setCell (c := R.q) (by simp) i (.int .i64 x)
      obtain ⟨w1, hw1⟩ : ∃ w1, w1 = wr.setCell ⟨R.q, i, none⟩ (.int .i64 x) := ⟨_, rfl⟩
      rw [← hw1] at hg hO
      have HG := Lib.hid hg
      have HO := Lib.hid hO
      have HW1 := Lib.hid hw1
      clear hr hg hO hw1
      go_wp2_with fail
      rw [← HW1.out]
      have ea : (i : Int) * (K : Int) = ((i * K : Nat) : Int) := by simp
      have hm2 : i * K + K ≤ C * K := by
        have := Nat.mul_le_mul_right K (show i + 1 ≤ C by omega)
        rw [Nat.add_mul, Nat.one_mul] at this
        exact this
      have hfin := Lib.hid (show ∀ q, zeroed (tkWd wd K p (i - p)) (i * K) K q = tkWd wd K p (i + 1 - p) q from fun q => by
        unfold zeroed tkWd
        have e1 : (p + (i - p)) * K = i * K := by rw [show p + (i - p) = i by omega]
        have e2 : (p + (i + 1 - p)) * K = i * K + K := by rw [show p + (i + 1 - p) = i + 1 by omega, Nat.add_mul, Nat.one_mul]
        have e3 : p * K ≤ i * K := Nat.mul_le_mul_right K hi1
        rw [e1, e2]
        by_cases a1 : i * K ≤ q ∧ q < i * K + K
        · rw [if_pos a1, if_pos (by omega)]
        · rw [if_neg a1]
          by_cases a2 : p * K ≤ q ∧ q < i * K
          · rw [if_pos a2, if_pos (by omega)]
          · rw [if_neg a2, if_neg (by omega)])
      generalize tkWd wd K p (i - p) = wd1 at *
      generalize hA : i * K = a at *
      generalize hMM : C * K = M at *
      have HMM := Lib.hid hMM
      have HA := Lib.hid hA
      clear hA hMM
      go_loopw [10] (RTakeIn w R C K (fun q => if q = i then x else tkOwn own p (i - p) x q) wd1 a) (fun v _ => K - (intOf v).toNat)
      case atStart => exact ⟨0, Nat.zero_le _, rfl, HO.out, HG.out.congr (fun q => rfl) (fun q => by unfold zeroed; rw [if_neg (by omega)])⟩
      case round =>
        obtain ⟨j, hj, rfl, ho2, hr2⟩ := hrel
        have b1 := hr2.size
        by_cases hl2 : j < K
        · have b0 := hr2.words
          have b2 := hr2.wrow
          rw [HMM.out] at b0 b2
          have b3 := b2.cell (a + j) (by omega)
          have b4 := b2.thaw (a + j) (by omega)
          have y1 := wrapOk (a : Int) (by omega) (by omega)
          have y2 := wrapOk ((a : Int) + (j : Int)) (by omega) (by omega)
          have y3 : ((a : Int) + (j : Int)).toNat = a + j := by omega
          have y4 : (0 : Int) ≤ (a : Int) + (j : Int) := by omega
          have y5 : (a : Int) + (j : Int) < (M : Int) := by omega
          have hs := hr2.wrote (a + j) 0
          have HS := Lib.hid hs
          have HO2 := Lib.hid ho2
          clear hs hr2 b2 ho2
          go_wp2_with fail
          go_region
          all_goals
            go_wp2
            go_roundw
            case rel =>
              refine ⟨j + 1, by omega, by go_num, (HO2.out.setCell (c := R.p) (by simp) _ _).drew, (HS.out.congr (fun q => rfl) (fun q => ?_)).heap rfl⟩
              show (if q = a + j then 0 else zeroed wd1 a j q) = zeroed wd1 a (j + 1) q
              unfold zeroed
              by_cases e : q = a + j
              · rw [if_pos e, if_pos (by omega)]
              · rw [if_neg e]
                by_cases e2 : a ≤ q ∧ q < a + j
                · rw [if_pos e2, if_pos (by omega)]
                · rw [if_neg e2, if_neg (by omega)]
            case measure => simp [intOf]; omega
        · obtain rfl : j = K := by omega
          have HR2 := Lib.hid hr2
          clear hr2
          go_wp2
          go_roundw
          case rel =>
            refine ⟨i + 1, by omega, by omega, by go_num, ho2, HR2.out.congr (fun q => ?_) hfin.out⟩
            show (if q = i then x else tkOwn own p (i - p) x q) = tkOwn own p (i + 1 - p) x q
            unfold tkOwn
            by_cases e : q = i
            · rw [if_pos e, if_pos (by omega)]
            · rw [if_neg e]
              by_cases e2 : p ≤ q ∧ q < p + (i - p)
              · rw [if_pos e2, if_pos (by omega)]
              · rw [if_neg e2, if_neg (by omega)]
          case measure => simp [intOf]; omega
    · obtain rfl : i = p + k := by omega
      rw [show p + k - p = k by omega] at hr
      have HR := Lib.hid hr
      clear hr
      go_wp2
      go_ret2
      exact ⟨rfl, ho, HR.out⟩

theorem rcopy_range (h : RfAt w R C K own wd) (t f n : Int) (hi : ¬ (inB (C * K) t n = true ∧ inB (C * K) f n = true)) :
    Calls Tryz.prog 65 #[.pointer (some ⟨R.m, 0, none⟩), .int .i64 t, .int .i64 f, .int .i64 n] w fun e w' => e = .returned (.int .i64 3) ∧ w = w' := by
  have h1 := Lib.hid (rin_any h t n)
  have h2 := Lib.hid (rin_any h f n)
  cases i1 : inB (C * K) t n
  · rw [i1] at h1
    clear i1 hi
    generalize inB (C * K) f n = bb at *
    go_enter Tryz.func65, Tryz.ntmps65
    go_wp2_with (first
      | (go_at_call 66; with_reducible refine h1.out.mono ?_; clear h1; rintro e w' ⟨rfl, rfl⟩)
      | (go_at_call 66; with_reducible refine h2.out.mono ?_; clear h2; rintro e w' ⟨rfl, rfl⟩))
    go_ret
    exact ⟨rfl, rfl⟩
  · cases i2 : inB (C * K) f n
    · rw [i1] at h1
      rw [i2] at h2
      clear i1 i2 hi
      go_enter Tryz.func65, Tryz.ntmps65
      go_wp2_with (first
        | (go_at_call 66; with_reducible refine h1.out.mono ?_; clear h1; rintro e w' ⟨rfl, rfl⟩)
        | (go_at_call 66; with_reducible refine h2.out.mono ?_; clear h2; rintro e w' ⟨rfl, rfl⟩))
      go_ret
      exact ⟨rfl, rfl⟩
    · exact absurd ⟨i1, i2⟩ hi
end
end Go.Proofs.YteneadimchhhhaaGreatDoor
/- Contract of Copy of the document's store, where the words are there. -/
namespace Go.Proofs.YteneadimchhhhaaGreatDoor
open Go.RowKit

/-- Words as values. -/
def wvals (wd : Nat → Nat) (f k : Nat) : List Value := (List.range k).map fun i => Value.int .u64 (wd (f + i) : Nat)
theorem wvals_len (wd : Nat → Nat) (f k : Nat) : (wvals wd f k).length = k := by simp [wvals]
theorem wvals_snoc (wd : Nat → Nat) (f k : Nat) : wvals wd f (k + 1) = wvals wd f k ++ [Value.int .u64 (wd (f + k) : Nat)] := by
  simp [wvals, List.range_succ]
theorem wvals_at (wd : Nat → Nat) (f k j : Nat) (h : j < k) : (wvals wd f k)[j]? = some (Value.int .u64 (wd (f + j) : Nat)) := by
  simp [wvals, h]
/-- A row of the call's own, cell by cell. -/
theorem owns_cells {w : World} {base n : Nat} {e : TypeId} {u : Value} {vs : List Value} (h : w.ownsRow base e 1 u n vs) (hl : vs.length = n) (hn : 0 < n) :
    ∃ g cap, u = .slice (some ⟨g, 0, none⟩) n cap ∧ base ≤ g ∧ g < w.heap.size ∧ ∀ j v, vs[j]? = some v → w.cell? ⟨g, j, none⟩ = some v := by
  have hlt := h.lt
  obtain ⟨h1, h2⟩ := h
  rcases h2 with ⟨rfl, h0⟩ | ⟨g, cap, cur, rfl, hg, hh, hn', hm, hs, ht⟩
  · omega
  · refine ⟨g, cap, rfl, (hlt _ rfl).1, (hlt _ rfl).2, fun j v hv => ?_⟩
    have hj : j < vs.length := (List.getElem?_eq_some_iff.1 hv).1
    rw [← ht, List.getElem?_take, if_pos (by omega)] at hv
    simpa [World.cell?, hh] using hv

section
variable {w w' : World} {R : RB} {C K : Nat} {own wd : Nat → Nat}
def RCopyPost (w : World) (R : RB) (C K : Nat) (own wd : Nat → Nat) (t f m : Nat) (e : Ending) (w' : World) : Prop :=
  (e = .returned (.int .i64 17) ∧ Below w.heap.size w w' ∧ (anyFree own K t m = true ∨ anyFree own K f m = true)) ∨
  (e = .returned (.int .i64 0) ∧ (anyFree own K t m = false ∧ anyFree own K f m = false) ∧ ∃ w1, Below w.heap.size w w1 ∧ OnlyAt R.p w1 w' ∧ RfAt w' R C K own (cpWd wd t f m))
def RCopyAt (w : World) (K : Nat) (own wd : Nat → Nat) (t f m : Nat) (u x : Value) (wr : World) : Prop :=
  ∃ k : Nat, k ≤ m ∧ x = .int .i64 k ∧ wr.ownsRow w.heap.size 33 1 u k (wvals wd f k) ∧ Below w.heap.size w wr ∧ ∀ j, j < k → own ((t + j) / K) ≠ 0 ∧ own ((f + j) / K) ≠ 0
def RCopyIn (w1 : World) (R : RB) (C K : Nat) (own wd : Nat → Nat) (t f m : Nat) (x : Value) (wr : World) : Prop :=
  ∃ k : Nat, k ≤ m ∧ x = .int .i64 k ∧ OnlyAt R.p w1 wr ∧ RfAt wr R C K own (cpWd wd t f k)
set_option maxHeartbeats 4000000 in
theorem rcopy_in (h : RfAt w R C K own wd) (t f m : Nat) (ht : t + m ≤ C * K) (hf : f + m ≤ C * K) {lo : Nat} (hR : R.within lo w.heap.size) :
    Calls Tryz.prog 65 #[.pointer (some ⟨R.m, 0, none⟩), .int .i64 t, .int .i64 f, .int .i64 m] w (RCopyPost w R C K own wd t f m) := by
  obtain ⟨i0, hi, hz0, hz1, hz2⟩ := info_parts infoU64
  have hM := h.all
  have h1 := rin_any h (t : Int) (m : Int)
  have h2 := rin_any h (f : Int) (m : Int)
  rw [(inB_iff (C * K) (t : Int) (m : Int)).2 (by omega)] at h1
  rw [(inB_iff (C * K) (f : Int) (m : Int)).2 (by omega)] at h2
  have H1 := Lib.hid h1
  have H2 := Lib.hid h2
  have HH := Lib.hid h
  have HR := Lib.hid hR
  have hmlt := hR.1.2
  clear h1 h2 h hR
  go_enter Tryz.func65, Tryz.ntmps65
  go_wp2_with (first
    | (go_at_call 66; first | (with_reducible refine H1.out.mono ?_; rintro e w' ⟨rfl, rfl⟩) | (with_reducible refine H2.out.mono ?_; rintro e w' ⟨rfl, rfl⟩)))
  clear H1 H2
  go_loopw [11, 12] (RCopyAt w K own wd t f m) (fun _ x _ => m - (intOf x).toNat)
  case atStart => exact ⟨0, Nat.zero_le _, rfl, World.ownsRow_nil _ _ _ _, Below.refl _ _, fun j hj => absurd hj (by omega)⟩
  case round =>
    obtain ⟨k, hk, rfl, hown, hbw, hall⟩ := hrel
    have HALL := Lib.hid hall
    have hr := HH.out.below hbw HR.out
    clear hall
    by_cases hlt : k < m
    · have a1 := rat_any hr ((t : Int) + (k : Int)) (by omega)
      have a2 := rat_any hr ((f : Int) + (k : Int)) (by omega)
      rw [show addrE own C K ((t : Int) + (k : Int)) = if own ((t + k) / K) = 0 then 17 else 0 by rw [show (t : Int) + (k : Int) = ((t + k : Nat) : Int) by omega]; exact addrE_in (by omega)] at a1
      rw [show addrE own C K ((f : Int) + (k : Int)) = if own ((f + k) / K) = 0 then 17 else 0 by rw [show (f : Int) + (k : Int) = ((f + k : Nat) : Int) by omega]; exact addrE_in (by omega)] at a2
      by_cases o1 : own ((t + k) / K) = 0
      · rw [if_pos o1] at a1
        have HF := Lib.hid ((anyFree_iff own K t m).2 ⟨k, hlt, o1⟩)
        obtain ⟨y, hy⟩ : ∃ y : Int, y = if own ((f + k) / K) = 0 then 17 else 0 := ⟨_, rfl⟩
        rw [← hy] at a2
        have A1 := Lib.hid a1
        have A2 := Lib.hid a2
        clear a1 a2 o1 hy hr hown
        go_wp2_with (first
          | (go_at_call 35; first | (with_reducible refine A1.out.mono ?_; rintro e w' ⟨rfl, rfl⟩) | (with_reducible refine A2.out.mono ?_; rintro e w' ⟨rfl, rfl⟩)))
        go_ret
        exact .inl ⟨rfl, hbw, .inl HF.out⟩
      · rw [if_neg o1] at a1
        by_cases o2 : own ((f + k) / K) = 0
        · rw [if_pos o2] at a2
          have HF := Lib.hid ((anyFree_iff own K f m).2 ⟨k, hlt, o2⟩)
          have A1 := Lib.hid a1
          have A2 := Lib.hid a2
          clear a1 a2 o1 o2 hr hown
          go_wp2_with (first
            | (go_at_call 35; first | (with_reducible refine A1.out.mono ?_; clear A1; rintro e w' ⟨rfl, rfl⟩) | (with_reducible refine A2.out.mono ?_; rintro e w' ⟨rfl, rfl⟩)))
          go_ret
          exact .inl ⟨rfl, hbw, .inr HF.out⟩
        · rw [if_neg o2] at a2
          have A1 := Lib.hid a1
          have A2 := Lib.hid a2
          have O1 := Lib.hid o1
          have O2 := Lib.hid o2
          have c0 := hr.words
          have c1 := hr.wrow.cell (f + k) (by omega)
          have hs := hbw.size
          have HO := Lib.hid hown
          have hub := Lib.hid hown.lt
          have hq : ((f : Int) + (k : Int)).toNat = f + k := by omega
          have y5 : (f : Int) + (k : Int) < ((C * K : Nat) : Int) := by omega
          have HS := Lib.hid (wvals_snoc wd f k)
          clear a1 a2 o1 o2 hr hown
          generalize hMM : C * K = M at *
          have HMM := Lib.hid hMM
          clear hMM
          generalize hX : wd (f + k) = x at *
          have HX := Lib.hid hX
          clear hX
          go_wp2_with (first
            | (go_at_call 35; first | (with_reducible refine A1.out.mono ?_; clear A1; rintro e w' ⟨rfl, rfl⟩) | (with_reducible refine A2.out.mono ?_; rintro e w' ⟨rfl, rfl⟩))
            | (at_builtin; refine wpList_append_own _ rfl _ _ 41 rfl w.heap.size 33 i0 _ 1 8 Tryz.underlying41 hi hz0 hz1 hz2 rfl (by decide) _ _ _ rfl (HO.out.alloc _) ⟨wr.heap.size, 0, none⟩ 1 1 [.int .u64 (x : Nat)] rfl rfl (cell_one_new _ _ _) (by simp [Value.oneCell']) (by unfold maxLen; omega) (by omega) (by simp; omega) ?_; intro v' w1 hown' hgrow _; have HO2 := Lib.hid hown'; have HG := Lib.hid hgrow; clear hown' hgrow))
          go_roundw
          case rel =>
            refine ⟨k + 1, by omega, by go_num, ?_, (hbw.alloc hs _).grown HG.out (by simp; omega) (fun g hg => (hub.out g hg).1), fun j hj => ?_⟩
            · rw [HS.out]
              exact HO2.out
            · by_cases e : j = k
              · subst e; exact ⟨O1.out, O2.out⟩
              · exact HALL.out j (by omega)
          case measure => simp [intOf]; omega
    · obtain rfl : k = m := by omega
      have e1 := Lib.hid ((anyFree_not own K t k).2 fun j hj => (HALL.out j hj).1)
      have e2 := Lib.hid ((anyFree_not own K f k).2 fun j hj => (HALL.out j hj).2)
      have HO := Lib.hid hown
      have HR1 := Lib.hid hr
      have HBW := Lib.hid hbw
      clear hr hown hbw
      go_wp2_with fail
      go_loopw [15] (RCopyIn wr R C K own wd t f k) (fun x _ => k - (intOf x).toNat)
      case atStart => exact ⟨0, Nat.zero_le _, rfl, OnlyAt.refl _ _, HR1.out.congr (fun q => rfl) (fun q => by unfold cpWd; rw [if_neg (by omega)])⟩
      case round =>
        obtain ⟨j, hj, rfl, ho2, hr2⟩ := hrel
        by_cases hl2 : j < k
        · obtain ⟨g, cap, rfl, hg1, hg2, hgc⟩ := owns_cells HO.out (wvals_len wd f k) (by omega)
          have hne : g ≠ R.p := by have := HR.out.2.1.2; omega
          have b3 := (ho2.cell (p := ⟨g, j, none⟩) hne).trans (hgc j _ (wvals_at wd f k j hl2))
          have b0 := hr2.words
          have b1 := hr2.wrow.cell (t + j) (by omega)
          have b2 := hr2.wrow.thaw (t + j) (by omega)
          have hs := hr2.wrote (t + j) (wd (f + j))
          have HS := Lib.hid (hs.congr (wd' := cpWd wd t f (j + 1)) (fun q => rfl) (fun q => by
            show (if q = t + j then wd (f + j) else cpWd wd t f j q) = cpWd wd t f (j + 1) q
            unfold cpWd
            by_cases e : q = t + j
            · rw [if_pos e, if_pos (by omega), show f + (q - t) = f + j by omega]
            · rw [if_neg e]
              by_cases e2 : t ≤ q ∧ q < t + j
              · rw [if_pos e2, if_pos (by omega)]
              · rw [if_neg e2, if_neg (by omega)]))
          have HO2 := Lib.hid ho2
          have y2 := wrapOk ((t : Int) + (j : Int)) (by omega) (by omega)
          have y3 : ((t : Int) + (j : Int)).toNat = t + j := by omega
          have y4 : (0 : Int) ≤ (t : Int) + (j : Int) := by omega
          have y5 : (t : Int) + (j : Int) < ((C * K : Nat) : Int) := by omega
          have y6 : (j : Int) < (k : Int) := by omega
          clear hs hr2 ho2 hgc hg1 hg2
          generalize hMM : C * K = M at *
          have HMM := Lib.hid hMM
          clear hMM
          generalize wd (f + j) = x at *
          generalize cpWd wd t f j (t + j) = z at *
          go_wp2_with fail
          go_region
          all_goals
            go_wp2
            go_roundw
            case rel => exact ⟨j + 1, by omega, by go_num, HO2.out.trans ⟨rfl, rfl, rfl, ((OnlyAt.refl R.p wr).setCell (t + j) (.int .u64 x)).size, ((OnlyAt.refl R.p wr).setCell (t + j) (.int .u64 x)).block⟩, HS.out.heap rfl⟩
            case measure => simp [intOf]; omega
        · obtain rfl : j = k := by omega
          have HR2 := Lib.hid hr2
          clear hr2
          go_wp2
          go_ret
          exact .inr ⟨rfl, ⟨e1.out, e2.out⟩, _, HBW.out, ho2, HR2.out⟩
end
end Go.Proofs.YteneadimchhhhaaGreatDoor
/- The contract of the law package's alive: the document's example holds. -/
namespace Go.Proofs.YteneadimchhhhaaGreatDoor
open Go.RowKit

theorem Tab.pos {w : World} (h : Tab w) : 0 < w.heap.size := by
  have := h 0 (by decide)
  rcases Nat.lt_or_ge 0 w.heap.size with hl | hg
  · exact hl
  · simp [World.cell?, Array.getElem?_eq_none hg] at this

/-- A store that was made since w0. -/
structure Held (w0 w : World) (B : SB) (C K : Nat) (own wd : Nat → Nat) : Prop where
  st : StAt w B C K own wd
  bel : Below w0.heap.size w0 w
  win : B.within w0.heap.size w.heap.size
  tab : Tab w
section
variable {w0 w w' : World} {B : SB} {C K : Nat} {own wd own' wd' : Nat → Nat}
theorem SB.within.only {lo hi : Nat} (h : B.within lo hi) {w w' : World} (ho : OnlyIn [B.o, B.c, B.v] w w') : Below lo w w' :=
  ho.below fun c hc => by
    obtain ⟨h1, h2, h3, h4, h5⟩ := h
    simp at hc
    rcases hc with rfl | rfl | rfl <;> omega
theorem SB.within.more {lo hi hi' : Nat} (h : B.within lo hi) (hh : hi ≤ hi') : B.within lo hi' := by
  obtain ⟨⟨a1, a2⟩, ⟨b1, b2⟩, ⟨c1, c2⟩, ⟨d1, d2⟩, e1, e2⟩ := h
  refine ⟨⟨a1, ?_⟩, ⟨b1, ?_⟩, ⟨c1, ?_⟩, ⟨d1, ?_⟩, e1, ?_⟩ <;> omega
/-- Behind a call of the store. -/
theorem Held.step (h : Held w0 w B C K own wd) (hT : Tab w0) (ho : OnlyIn [B.o, B.c, B.v] w w') (hs : StAt w' B C K own' wd') : Held w0 w' B C K own' wd' := by
  have hb := h.bel.trans (h.win.only ho)
  exact ⟨hs, hb, by rw [ho.size]; exact h.win, hT.below hb hT.pos⟩
/-- Behind a call that leaves all that was there. -/
theorem Held.later (h : Held w0 w B C K own wd) (hT : Tab w0) (hb : Below w.heap.size w w') : Held w0 w' B C K own wd := by
  have hb' := h.bel.trans (hb.mono h.bel.size)
  exact ⟨h.st.below hb h.win, hb', h.win.more hb.size, hT.below hb' hT.pos⟩
theorem Held.heap (h : Held w0 w B C K own wd) (e : ∃ m, w' = w.drewN m) : Held w0 w' B C K own wd := by
  obtain ⟨m, rfl⟩ := e
  exact ⟨h.st.heap rfl, below_drewN h.bel _, h.win, h.tab⟩
theorem held_new (hT : Tab w) {hs : StAt w' B C K own wd} (hb : Below w.heap.size w w') (hw : B.within w.heap.size w'.heap.size) : Held w w' B C K own wd := ⟨hs, hb, hw, hT.below hb hT.pos⟩
end

end Go.Proofs.YteneadimchhhhaaGreatDoor
/- Each call of the store and of the document's store, at whatever numbers: what is answered, what is left. -/
namespace Go.Proofs.YteneadimchhhhaaGreatDoor
open Go.RowKit

def relOwn (own : Nat → Nat) (C : Nat) (k : Int) : Nat → Nat := if chunkE own C k = 0 then (fun q => if q = k.toNat then 0 else own q) else own
def givOwn (own : Nat → Nat) (C : Nat) (k o : Int) : Nat → Nat := if giveE own C k o = 0 then (fun q => if q = k.toNat then o.toNat else own q) else own
def wrWd (own wd : Nat → Nat) (C K : Nat) (a : Int) (x : Nat) : Nat → Nat := if addrE own C K a = 0 then (fun q => if q = a.toNat then x else wd q) else wd
def cpWdA (own wd : Nat → Nat) (C K : Nat) (t f n : Int) : Nat → Nat := if copyE own C K t f n = 0 then cpWd wd t.toNat f.toNat n.toNat else wd
/-- What TakeRun says. -/
def tkE (own : Nat → Nat) (C : Nat) (x n : Int) : Int := if x < 1 ∨ n < 1 then 2 else if BM.rn (busy own) C n.toNat < C + 1 - n.toNat then 0 else 11
def tkP (own : Nat → Nat) (C : Nat) (x n : Int) : Nat := if tkE own C x n = 0 then BM.rn (busy own) C n.toNat else 0
def tkOwnA (own : Nat → Nat) (C : Nat) (x n : Int) : Nat → Nat := if tkE own C x n = 0 then tkOwn own (BM.rn (busy own) C n.toNat) n.toNat x.toNat else own
def tkWdA (own wd : Nat → Nat) (C K : Nat) (x n : Int) : Nat → Nat := if tkE own C x n = 0 then tkWd wd K (BM.rn (busy own) C n.toNat) n.toNat else wd
theorem chunkE_ok {own : Nat → Nat} {C : Nat} {k : Int} (h : chunkE own C k = 0) : ∃ j : Nat, k = j ∧ j < C ∧ own j ≠ 0 := by
  unfold chunkE at h
  split at h
  · refine ⟨k.toNat, by omega, by omega, fun e => ?_⟩
    rw [if_pos e] at h
    omega
  · omega
theorem giveE_ok {own : Nat → Nat} {C : Nat} {k o : Int} (h : giveE own C k o = 0) : (∃ j : Nat, k = j ∧ j < C ∧ own j ≠ 0) ∧ 1 ≤ o := by
  unfold giveE at h
  split at h
  · omega
  · exact ⟨chunkE_ok h, by omega⟩
theorem copyE_ok {own : Nat → Nat} {C K : Nat} {t f n : Int} (h : copyE own C K t f n = 0) : ∃ a b m : Nat, t = a ∧ f = b ∧ n = m ∧ a + m ≤ C * K ∧ b + m ≤ C * K ∧ anyFree own K a m = false ∧ anyFree own K b m = false := by
  unfold copyE at h
  by_cases hi : inB (C * K) t n = true ∧ inB (C * K) f n = true
  · rw [if_pos hi] at h
    have j1 := (inB_iff _ _ _).1 hi.1
    have j2 := (inB_iff _ _ _).1 hi.2
    obtain ⟨a, rfl⟩ := Int.eq_ofNat_of_zero_le j1.2.1
    obtain ⟨b, rfl⟩ := Int.eq_ofNat_of_zero_le j2.2.1
    obtain ⟨m, rfl⟩ := Int.eq_ofNat_of_zero_le j1.1
    simp only [Int.toNat_natCast] at h
    refine ⟨a, b, m, rfl, rfl, rfl, by omega, by omega, ?_, ?_⟩
    · cases e : anyFree own K a m
      · rfl
      · simp [e] at h
    · cases e : anyFree own K b m
      · rfl
      · simp [e] at h
  · rw [if_neg hi] at h
    omega
theorem tkE_ok {own : Nat → Nat} {C : Nat} {x n : Int} (h : tkE own C x n = 0) : ∃ y k : Nat, x = y ∧ n = k ∧ 1 ≤ y ∧ 1 ≤ k ∧ BM.rn (busy own) C k < C + 1 - k := by
  unfold tkE at h
  split at h
  · omega
  · split at h
    · rename_i h1 h2
      exact ⟨x.toNat, n.toNat, by omega, by omega, by omega, by omega, h2⟩
    · omega

section
variable {w w' : World} {B : SB} {C K : Nat} {own wd : Nat → Nat}
/-- What a call of the store leaves. -/
def StPost (v : Value) (B : SB) (C K : Nat) (own wd : Nat → Nat) (w : World) (e : Ending) (w' : World) : Prop :=
  e = .returned v ∧ OnlyIn [B.o, B.c, B.v] w w' ∧ StAt w' B C K own wd
theorem write_all (h : StAt w B C K own wd) (a : Int) (x : Nat) (hx : x < 18446744073709551616) :
    Calls Tryz.prog 36 #[.pointer (some ⟨B.s, 0, none⟩), .int .i64 a, .int .u64 x] w (StPost (.int .i64 (addrE own C K a)) B C K own (wrWd own wd C K a x) w) := by
  unfold wrWd
  by_cases hz : addrE own C K a = 0
  · rw [if_pos hz, hz]
    obtain ⟨j, rfl, hj, ho⟩ := addrE_ok hz
    rw [Int.toNat_natCast]
    exact (write_ok h j x hj ho hx).mono fun _ _ h => h
  · rw [if_neg hz]
    exact (write_no h a x hz).mono fun _ _ ⟨e, hw⟩ => by subst hw; exact ⟨e, OnlyIn.refl _ _, h⟩
theorem cpWd_zero (wd : Nat → Nat) (t f : Nat) : cpWd wd t f 0 = wd := by
  funext q
  unfold cpWd
  rw [if_neg (by omega)]
theorem copy_all (h : StAt w B C K own wd) (t f n : Int) :
    Calls Tryz.prog 51 #[.pointer (some ⟨B.s, 0, none⟩), .int .i64 t, .int .i64 f, .int .i64 n] w (StPost (.int .i64 (copyE own C K t f n)) B C K own (cpWdA own wd C K t f n) w) := by
  unfold cpWdA
  by_cases hz : copyE own C K t f n = 0
  · rw [if_pos hz, hz]
    obtain ⟨a, b, m, rfl, rfl, rfl, h1, h2, h3, h4⟩ := copyE_ok hz
    rw [Int.toNat_natCast, Int.toNat_natCast, Int.toNat_natCast]
    by_cases hm : m = 0
    · subst hm
      rw [cpWd_zero]
      exact (copy_zero h a b (by omega) (by omega)).mono fun _ _ h => h
    · exact (copy_ok h a b m (by omega) h1 h2 h3 h4).mono fun _ _ h => h
  · rw [if_neg hz]
    exact (copy_no h t f n hz).mono fun _ _ ⟨e, hw⟩ => by subst hw; exact ⟨e, OnlyIn.refl _ _, h⟩
theorem take_all (h : StAt w B C K own wd) (hT : Tab w) (x n : Int) (hx : I64 x) (hn : I64 n) :
    Calls Tryz.prog 53 #[.pointer (some ⟨B.s, 0, none⟩), .int .i64 x, .int .i64 n] w (StPost (.tuple #[.int .i64 (tkP own C x n : Nat), .int .i64 (tkE own C x n)]) B C K (tkOwnA own C x n) (tkWdA own wd C K x n) w) := by
  unfold tkP tkOwnA tkWdA
  by_cases hz : tkE own C x n = 0
  · rw [if_pos hz, if_pos hz, if_pos hz, hz]
    obtain ⟨y, k, rfl, rfl, h1, h2, h3⟩ := tkE_ok hz
    rw [Int.toNat_natCast, Int.toNat_natCast]
    exact (take_ok h hT y k _ (by omega) (by have := hx.2; omega) h2 rfl h3).mono fun _ _ h => h
  · rw [if_neg hz, if_neg hz, if_neg hz]
    by_cases ha : x < 1 ∨ n < 1
    · rw [show tkE own C x n = 2 by unfold tkE; rw [if_pos ha]]
      exact (take_arg _ x n w ha).mono fun _ _ ⟨e, hw⟩ => by subst hw; exact ⟨e, OnlyIn.refl _ _, h⟩
    · obtain ⟨k, rfl⟩ := Int.eq_ofNat_of_zero_le (show 0 ≤ n by omega)
      have hr : ¬ BM.rn (busy own) C k < C + 1 - k := fun hr => hz (by unfold tkE; rw [if_neg ha, Int.toNat_natCast, if_pos hr])
      rw [show tkE own C x k = 11 by unfold tkE; rw [if_neg ha, Int.toNat_natCast, if_neg hr]]
      exact (take_full h hT x k (by omega) (by omega) (by have := hn.2; omega) hr).mono fun _ _ ⟨e, hw⟩ => by subst hw; exact ⟨e, OnlyIn.refl _ _, h⟩
theorem take1_all (h : StAt w B C K own wd) (hT : Tab w) (x : Int) (hx : I64 x) :
    Calls Tryz.prog 22 #[.pointer (some ⟨B.s, 0, none⟩), .int .i64 x] w (StPost (.tuple #[.int .i64 (tkP own C x 1 : Nat), .int .i64 (tkE own C x 1)]) B C K (tkOwnA own C x 1) (tkWdA own wd C K x 1) w) :=
  (take_one (R := fun w' => OnlyIn [B.o, B.c, B.v] w w' ∧ StAt w' B C K (tkOwnA own C x 1) (tkWdA own wd C K x 1)) ((take_all h hT x 1 hx (by unfold I64; omega)).mono fun _ _ h => h)).mono fun _ _ h => h
end

section
variable {w w' : World} {R : RB} {C K : Nat} {own wd : Nat → Nat}
/-- What a call of the document's store leaves. -/
def RfPost (v : Value) (R : RB) (C K : Nat) (own wd : Nat → Nat) (w : World) (e : Ending) (w' : World) : Prop :=
  e = .returned v ∧ ∃ w1, Below w.heap.size w w1 ∧ OnlyIn [R.p, R.q] w1 w' ∧ RfAt w' R C K own wd
theorem rcopy_all (h : RfAt w R C K own wd) (t f n : Int) {lo : Nat} (hR : R.within lo w.heap.size) :
    Calls Tryz.prog 65 #[.pointer (some ⟨R.m, 0, none⟩), .int .i64 t, .int .i64 f, .int .i64 n] w (RfPost (.int .i64 (copyE own C K t f n)) R C K own (cpWdA own wd C K t f n) w) := by
  by_cases hi : inB (C * K) t n = true ∧ inB (C * K) f n = true
  · have j1 := (inB_iff _ _ _).1 hi.1
    have j2 := (inB_iff _ _ _).1 hi.2
    obtain ⟨a, rfl⟩ := Int.eq_ofNat_of_zero_le j1.2.1
    obtain ⟨b, rfl⟩ := Int.eq_ofNat_of_zero_le j2.2.1
    obtain ⟨m, rfl⟩ := Int.eq_ofNat_of_zero_le j1.1
    refine (rcopy_in h a b m (by omega) (by omega) hR).mono fun e w' hp => ?_
    rcases hp with ⟨e1, hb, hf⟩ | ⟨e1, ⟨f1, f2⟩, w1, hb, ho, hr⟩
    · have hc : copyE own C K a b m = 17 := by
        unfold copyE
        rw [if_pos hi]
        simp only [Int.toNat_natCast]
        rw [if_pos hf]
      unfold cpWdA
      rw [hc, if_neg (by omega)]
      exact ⟨e1, w', hb, OnlyIn.refl _ _, h.below hb hR⟩
    · have hc : copyE own C K a b m = 0 := by
        unfold copyE
        rw [if_pos hi]
        simp only [Int.toNat_natCast]
        rw [if_neg (by simp [f1, f2])]
      unfold cpWdA
      rw [hc, if_pos rfl, Int.toNat_natCast, Int.toNat_natCast, Int.toNat_natCast]
      exact ⟨e1, w1, hb, OnlyIn.of_at ho (by simp), hr⟩
  · have hc : copyE own C K t f n = 3 := by unfold copyE; rw [if_neg hi]
    unfold cpWdA
    rw [hc, if_neg (by omega)]
    exact (rcopy_range h t f n hi).mono fun _ _ ⟨e, hw⟩ => by subst hw; exact ⟨e, w, Below.refl _ _, OnlyIn.refl _ _, h⟩
theorem rtake_all (h : RfAt w R C K own wd) (x n : Int) (hx : I64 x) (hn : I64 n) :
    Calls Tryz.prog 23 #[.pointer (some ⟨R.m, 0, none⟩), .int .i64 x, .int .i64 n] w (RfPost (.tuple #[.int .i64 (tkP own C x n : Nat), .int .i64 (tkE own C x n)]) R C K (tkOwnA own C x n) (tkWdA own wd C K x n) w) := by
  unfold tkP tkOwnA tkWdA
  by_cases hz : tkE own C x n = 0
  · rw [if_pos hz, if_pos hz, if_pos hz, hz]
    obtain ⟨y, k, rfl, rfl, h1, h2, h3⟩ := tkE_ok hz
    rw [Int.toNat_natCast, Int.toNat_natCast]
    exact (rtake_ok h y k _ (by omega) (by have := hx.2; omega) h2 rfl h3).mono fun _ _ ⟨e, a, b⟩ => ⟨e, w, Below.refl _ _, a, b⟩
  · rw [if_neg hz, if_neg hz, if_neg hz]
    by_cases ha : x < 1 ∨ n < 1
    · rw [show tkE own C x n = 2 by unfold tkE; rw [if_pos ha]]
      exact (rtake_arg _ x n w ha).mono fun _ _ ⟨e, hw⟩ => by subst hw; exact ⟨e, w, Below.refl _ _, OnlyIn.refl _ _, h⟩
    · obtain ⟨k, rfl⟩ := Int.eq_ofNat_of_zero_le (show 0 ≤ n by omega)
      have hr : ¬ BM.rn (busy own) C k < C + 1 - k := fun hr => hz (by unfold tkE; rw [if_neg ha, Int.toNat_natCast, if_pos hr])
      rw [show tkE own C x k = 11 by unfold tkE; rw [if_neg ha, Int.toNat_natCast, if_neg hr]]
      exact (rtake_full h x k (by omega) (by omega) (by have := hn.2; omega) hr).mono fun _ _ ⟨e, hw⟩ => by subst hw; exact ⟨e, w, Below.refl _ _, OnlyIn.refl _ _, h⟩
end

/-- The store and the document's, made since w0, say the same. -/
structure Pair (w0 w : World) (B : SB) (R : RB) (C K : Nat) (own wd : Nat → Nat) : Prop where
  held : Held w0 w B C K own wd
  rf : RfAt w R C K own wd
  rwin : R.within w0.heap.size w.heap.size
  ap : ∀ x ∈ [B.s, B.v, B.o, B.b, B.c], x ≠ R.m ∧ x ≠ R.p ∧ x ≠ R.q
section
variable {w0 w w1 w2 w3 : World} {B : SB} {R : RB} {C K : Nat} {own wd own' wd' : Nat → Nat}
theorem RB.within.more {lo hi hi' : Nat} (h : R.within lo hi) (hh : hi ≤ hi') : R.within lo hi' := by
  obtain ⟨⟨a1, a2⟩, ⟨b1, b2⟩, c1, c2⟩ := h
  exact ⟨⟨a1, by omega⟩, ⟨b1, by omega⟩, c1, by omega⟩
theorem Pair.later (h : Pair w0 w B R C K own wd) (hT : Tab w0) (hb : Below w.heap.size w w1) : Pair w0 w1 B R C K own wd :=
  ⟨h.held.later hT hb, h.rf.below hb h.rwin, h.rwin.more hb.size, h.ap⟩
/-- In between: the store has turned, the document's not yet. -/
theorem Pair.half (h : Pair w0 w B R C K own wd) (ho : OnlyIn [B.o, B.c, B.v] w w1) : RfAt w1 R C K own wd ∧ R.within w0.heap.size w1.heap.size := by
  refine ⟨h.rf.only ho fun x hx => h.ap x (by simp at hx ⊢; omega), by rw [ho.size]; exact h.rwin⟩
/-- Both have turned. -/
theorem Pair.both (h : Pair w0 w B R C K own wd) (hT : Tab w0) (ho : OnlyIn [B.o, B.c, B.v] w w1) (hs : StAt w1 B C K own' wd') (hb : Below w1.heap.size w1 w2) (ho2 : OnlyIn [R.p, R.q] w2 w3) (hr : RfAt w3 R C K own' wd') : Pair w0 w3 B R C K own' wd' := by
  have k1 := h.held.step hT ho hs
  have k2 := k1.later hT hb
  have r2 := (h.half ho).2.more hb.size
  have hb3 : Below w0.heap.size w2 w3 := ho2.below fun c hc => by
    obtain ⟨a1, a2, a3⟩ := r2
    simp at hc
    rcases hc with rfl | rfl <;> omega
  refine ⟨⟨k2.st.only ho2 fun x hx => ?_, k2.bel.trans hb3, by rw [ho2.size]; exact k2.win, hT.below (k2.bel.trans hb3) hT.pos⟩, hr, by rw [ho2.size]; exact r2, h.ap⟩
  have e1 := h.ap B.s (by simp)
  have e2 := h.ap B.v (by simp)
  have e3 := h.ap B.o (by simp)
  have e4 := h.ap B.b (by simp)
  have e5 := h.ap B.c (by simp)
  simp at hx
  rcases hx with rfl | rfl
  · exact ⟨Ne.symm e1.2.1, Ne.symm e2.2.1, Ne.symm e3.2.1, Ne.symm e4.2.1, Ne.symm e5.2.1⟩
  · exact ⟨Ne.symm e1.2.2, Ne.symm e2.2.2, Ne.symm e3.2.2, Ne.symm e4.2.2, Ne.symm e5.2.2⟩
end
end Go.Proofs.YteneadimchhhhaaGreatDoor
