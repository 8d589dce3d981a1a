/- The table's state, and contracts of its functions that only read. -/
import Derived.Test.YtldlolgdglmocaaDoorBmRow
import Derived.Deep.RegionHeld3
import Derived.Deep.QuietTactic
import Derived.BigQuiet
namespace Go.Proofs.YtldlolgdglmocaaDoor
open Go.RowKit

/-- But for these blocks, all that was there is as it was. -/
structure Aft (S : List Nat) (w w' : World) : Prop where
  os : w'.os = w.os
  tape : w'.tape = w.tape
  output : w'.output = w.output
  size : w.heap.size ≤ w'.heap.size
  block : ∀ k, k < w.heap.size → k ∉ S → w'.heap[k]? = w.heap[k]?
section
variable {S : List Nat} {c B : Nat} {w w' a b d : World}
theorem Aft.refl (S : List Nat) (w : World) : Aft S w w := ⟨rfl, rfl, rfl, Nat.le_refl _, fun _ _ _ => rfl⟩
theorem Aft.trans (h : Aft S a b) (k : Aft S b d) : Aft S a d :=
  ⟨k.os.trans h.os, k.tape.trans h.tape, k.output.trans h.output, Nat.le_trans h.size k.size, fun i hi hs => (k.block i (Nat.lt_of_lt_of_le hi h.size) hs).trans (h.block i hi hs)⟩
theorem Aft.of_below (h : Below w.heap.size w w') : Aft S w w' := ⟨h.os, h.tape, h.output, h.size, fun k hk _ => h.block k hk⟩
theorem Aft.of_at (h : OnlyAt c w w') (hc : c ∈ S) : Aft S w w' := ⟨h.os, h.tape, h.output, by rw [h.size]; exact Nat.le_refl _, fun k _ hk => h.block k (fun e => hk (e ▸ hc))⟩
theorem Aft.sub {T : List Nat} (h : Aft S w w') (hs : ∀ x ∈ S, x ∈ T) : Aft T w w' := ⟨h.os, h.tape, h.output, h.size, fun k hk hx => h.block k hk (fun e => hx (hs k e))⟩
theorem Aft.drew (h : Aft S w w') : Aft S w w'.drew := ⟨h.os, h.tape, h.output, h.size, h.block⟩
theorem Aft.setCell (h : Aft S a w) (hc : c ∈ S) (o : Nat) (u : Value) : Aft S a (w.setCell ⟨c, o, none⟩ u) :=
  h.trans (Aft.of_at ((OnlyAt.refl c w).setCell o u) hc)
theorem Aft.alloc (h : Aft S a w) (o : Obj) : Aft S a (w.alloc o) := h.trans (Aft.of_below ((Below.refl _ _).alloc (Nat.le_refl _) o))
theorem Aft.below (h : Aft S w w') (hB : ∀ c ∈ S, B ≤ c) (hw : B ≤ w.heap.size) : Below B w w' :=
  ⟨h.os, h.tape, h.output, h.size, fun k hk => h.block k (by omega) (fun e => by have := hB k e; omega)⟩
theorem Aft.cell (h : Aft S w w') {p : Addr} (hl : p.block < w.heap.size) (hp : p.block ∉ S) : w'.cell? p = w.cell? p := World.cell?_of_block (w := w) (h.block p.block hl hp)
theorem Aft.whole {t : TypeId} {cs : Array Value} (h : Aft S w w') (k : Whole w c t cs) (hc : c ∉ S) : Whole w' c t cs := (h.block c k.lt hc).trans k
end
theorem MapAt.heap {b c n : Nat} {w w' : World} {ws : Nat → Nat} (h : MapAt w b c n ws) (e : w'.heap = w.heap) : MapAt w' b c n ws :=
  ⟨h.n1, h.n2, (World.cell?_of_block (by rw [e])).trans h.len, (World.cell?_of_block (by rw [e])).trans h.row, fun k hk => (World.cell?_of_block (by rw [e])).trans (h.word k hk),
    fun k hk => (World.frozen?_of_block (by rw [e])).trans (h.thaw k hk), h.lt, h.past, h.ne⟩
theorem MapAt.blocks {b c n : Nat} {w w' : World} {ws : Nat → Nat} (h : MapAt w b c n ws) (eb : w'.heap[b]? = w.heap[b]?) (ec : w'.heap[c]? = w.heap[c]?) : MapAt w' b c n ws :=
  ⟨h.n1, h.n2, (World.cell?_of_block (a := ⟨b, 0, none⟩) eb).trans h.len, (World.cell?_of_block (a := ⟨b, 1, none⟩) eb).trans h.row, fun k hk => (World.cell?_of_block (a := ⟨c, k, none⟩) ec).trans (h.word k hk),
    fun k hk => (World.frozen?_of_block (a := ⟨c, k, none⟩) ec).trans (h.thaw k hk), h.lt, h.past, h.ne⟩
theorem Tab.pos {w : World} (h : Tab w) : 0 < w.heap.size := by
  have := h 0 (by decide)
  rcases Nat.lt_or_ge 0 w.heap.size with hl | hg
  · exact hl
  · simp [World.cell?, Array.getElem?_eq_none hg] at this

theorem Below.set1 {B b : Nat} {w w1 : World} (h : Below B w w1) (hb : B ≤ b) (o : Nat) (u : Value) : Below B w (w1.setCell ⟨b, o, none⟩ u) := h.trans (((OnlyAt.refl b w1).setCell o u).below hb)
theorem Below.set2 {B b : Nat} {w w1 : World} (h : Below B w w1) (hb : B ≤ b) (o o2 : Nat) (u u2 : Value) : Below B w ((w1.setCell ⟨b, o, none⟩ u).setCell ⟨b, o2, none⟩ u2) := Below.set1 (Below.set1 h hb o u) hb o2 u2
theorem Whole.two {w : World} {g : Nat} {t : TypeId} {x y : Value} (h : Whole w g t #[x, y]) : w.cell? ⟨g, 0, none⟩ = some x ∧ w.cell? ⟨g, 1, none⟩ = some y := ⟨h.cell 0, h.cell 1⟩
theorem Whole.four {w : World} {g : Nat} {t : TypeId} {x y z u : Value} (h : Whole w g t #[x, y, z, u]) : w.cell? ⟨g, 0, none⟩ = some x ∧ w.cell? ⟨g, 1, none⟩ = some y ∧ w.cell? ⟨g, 2, none⟩ = some z ∧ w.cell? ⟨g, 3, none⟩ = some u := ⟨h.cell 0, h.cell 1, h.cell 2, h.cell 3⟩
/-- An entry. -/
structure En where
  a : Int
  r : Int
  h : Bool
  p : Bool
/-- A slot: its generation (256: it is retired), whether it is used, its entry. -/
structure Sl where
  gen : Nat
  used : Bool
  e : En
def En.v (x : En) : Value := .agg #[.int .i64 x.a, .int .i64 x.r, .bool x.h, .bool x.p]
def En.zero : En := ⟨0, 0, false, false⟩
def Sl.first : Sl := ⟨1, false, En.zero⟩
/-- The generation as the table has it. -/
def tg (g : Nat) : Nat := if g = 256 then 0 else g
/-- The table's blocks: its box, its slots', its two maps' boxes and words'. -/
structure TB where
  t : Nat
  s : Nat
  ub : Nat
  uc : Nat
  kb : Nat
  kc : Nat
def TB.wr (B : TB) : List Nat := [B.s, B.uc, B.kc]
def isUsed (S : Nat → Sl) (k : Nat) : Bool := (S k).used
def isTaken (S : Nat → Sl) (k : Nat) : Bool := (S k).used || decide ((S k).gen = 256)

/-- A slot's five cells. -/
structure SlotAt (w : World) (s k : Nat) (x : Sl) : Prop where
  g : w.cell? ⟨s, k * 5, none⟩ = some (.int .i64 (tg x.gen : Nat))
  a : w.cell? ⟨s, k * 5 + 1, none⟩ = some (.int .i64 x.e.a)
  r : w.cell? ⟨s, k * 5 + 2, none⟩ = some (.int .i64 x.e.r)
  h : w.cell? ⟨s, k * 5 + 3, none⟩ = some (.bool x.e.h)
  p : w.cell? ⟨s, k * 5 + 4, none⟩ = some (.bool x.e.p)

structure TbAt (w : World) (B : TB) (N : Nat) (S : Nat → Sl) : Prop where
  N1 : 1 ≤ N
  N2 : N ≤ 4096
  row : w.cell? ⟨B.t, 0, none⟩ = some (.slice (some ⟨B.s, 0, none⟩) N N)
  used : w.cell? ⟨B.t, 1, none⟩ = some (.pointer (some ⟨B.ub, 0, none⟩))
  taken : w.cell? ⟨B.t, 2, none⟩ = some (.pointer (some ⟨B.kb, 0, none⟩))
  slot : ∀ k, k < N → SlotAt w B.s k (S k)
  thaw : ∀ k, k < N * 5 → w.frozen? ⟨B.s, k, none⟩ = false
  umap : ∃ ws, MapAt w B.ub B.uc N ws ∧ BM.on ws = isUsed S
  kmap : ∃ ws, MapAt w B.kb B.kc N ws ∧ BM.on ws = isTaken S
  gen : ∀ k, 1 ≤ (S k).gen ∧ (S k).gen ≤ 256
  live : ∀ k, (S k).used = true → (S k).gen ≤ 255
  past : ∀ k, N ≤ k → S k = Sl.first
  ne : (B.t ≠ B.s ∧ B.t ≠ B.uc ∧ B.t ≠ B.kc) ∧ (B.s ≠ B.ub ∧ B.s ≠ B.uc ∧ B.s ≠ B.kb ∧ B.s ≠ B.kc) ∧ (B.uc ≠ B.kb ∧ B.uc ≠ B.kc ∧ B.kc ≠ B.ub)
/-- All blocks of the table lie from lo on, below hi. -/
def TB.within (B : TB) (lo hi : Nat) : Prop := (lo ≤ B.t ∧ B.t < hi) ∧ (lo ≤ B.s ∧ B.s < hi) ∧ (lo ≤ B.ub ∧ B.ub < hi) ∧ (lo ≤ B.uc ∧ B.uc < hi) ∧ (lo ≤ B.kb ∧ B.kb < hi) ∧ (lo ≤ B.kc ∧ B.kc < hi)

section
variable {w w' : World} {B : TB} {N : Nat} {S : Nat → Sl}
theorem SlotAt.block {s k : Nat} {x : Sl} (h : SlotAt w s k x) (e : w'.heap[s]? = w.heap[s]?) : SlotAt w' s k x :=
  ⟨(World.cell?_of_block (a := ⟨s, _, none⟩) e).trans h.g, (World.cell?_of_block (a := ⟨s, _, none⟩) e).trans h.a, (World.cell?_of_block (a := ⟨s, _, none⟩) e).trans h.r, (World.cell?_of_block (a := ⟨s, _, none⟩) e).trans h.h, (World.cell?_of_block (a := ⟨s, _, none⟩) e).trans h.p⟩
/-- The state is what its blocks say. -/
theorem TbAt.blocks (h : TbAt w B N S) (e : ∀ k, k = B.t ∨ k = B.s ∨ k = B.ub ∨ k = B.uc ∨ k = B.kb ∨ k = B.kc → w'.heap[k]? = w.heap[k]?) : TbAt w' B N S := by
  have et := e B.t (by simp)
  have es := e B.s (by simp)
  obtain ⟨ws, hm, hq⟩ := h.umap
  obtain ⟨vs, hm2, hq2⟩ := h.kmap
  exact ⟨h.N1, h.N2, (World.cell?_of_block (a := ⟨B.t, 0, none⟩) et).trans h.row, (World.cell?_of_block (a := ⟨B.t, 1, none⟩) et).trans h.used, (World.cell?_of_block (a := ⟨B.t, 2, none⟩) et).trans h.taken,
    fun k hk => (h.slot k hk).block es, fun k hk => (World.frozen?_of_block (a := ⟨B.s, k, none⟩) es).trans (h.thaw k hk),
    ⟨ws, hm.blocks (e B.ub (by simp)) (e B.uc (by simp)), hq⟩, ⟨vs, hm2.blocks (e B.kb (by simp)) (e B.kc (by simp)), hq2⟩, h.gen, h.live, h.past, h.ne⟩
theorem TbAt.heap (h : TbAt w B N S) (e : w'.heap = w.heap) : TbAt w' B N S := h.blocks fun k _ => by rw [e]
theorem TbAt.below {lo hi : Nat} (h : TbAt w B N S) (hb : Below hi w w') (hB : B.within lo hi) : TbAt w' B N S := h.blocks fun k hk => hb.block k (by
  obtain ⟨b1, b2, b3, b4, b5, b6⟩ := hB
  rcases hk with rfl | rfl | rfl | rfl | rfl | rfl <;> omega)
end

/-- The generation by which a slot's token is told. -/
def genAt (S : Nat → Sl) (k : Nat) : Nat := tg (S k).gen
theorem genAt_used {w : World} {B : TB} {N : Nat} {S : Nat → Sl} (h : TbAt w B N S) {k : Nat} (hu : (S k).used = true) : genAt S k = (S k).gen := by
  have := h.live k hu
  unfold genAt tg
  rw [if_neg (by omega)]
theorem cell_in {w : World} {a : Addr} {v : Value} (h : w.cell? a = some v) : a.block < w.heap.size := by
  rcases Nat.lt_or_ge a.block w.heap.size with hl | hg
  · exact hl
  · simp [World.cell?, Array.getElem?_eq_none hg] at h
section
variable {w : World} {B : TB} {N : Nat} {S : Nat → Sl}
theorem TbAt.lt (h : TbAt w B N S) : B.within 0 w.heap.size := by
  have h1 := h.N1
  obtain ⟨ws, hm, _⟩ := h.umap
  obtain ⟨vs, hm2, _⟩ := h.kmap
  have n1 := hm.n1
  exact ⟨⟨Nat.zero_le _, cell_in h.row⟩, ⟨Nat.zero_le _, cell_in (h.slot 0 (by omega)).g⟩, ⟨Nat.zero_le _, cell_in hm.len⟩, ⟨Nat.zero_le _, cell_in (hm.word 0 (by omega))⟩, ⟨Nat.zero_le _, cell_in hm2.len⟩, ⟨Nat.zero_le _, cell_in (hm2.word 0 (by omega))⟩⟩
theorem TbAt.on {w' : World} (h : TbAt w B N S) (hb : Below w.heap.size w w') : TbAt w' B N S := h.below hb h.lt

set_option maxHeartbeats 400000 in
theorem token_any (h : TbAt w B N S) (k : Nat) (hk : k < N) : Calls Tryd.prog 30 #[.pointer (some ⟨B.t, 0, none⟩), .int .i64 k] w fun e w' => e = .returned (.agg #[.int .i64 k, .int .i64 (genAt S k : Nat)]) ∧ Below w.heap.size w w' := by
  have c0 := h.row
  have hN := h.N2
  have c1 := (h.slot k hk).g
  unfold genAt
  generalize tg (S k).gen = g at *
  have hb0 := (Below.refl w.heap.size w).alloc (Nat.le_refl _) (.cells #[.int .i64 0, .int .i64 0] 33)
  have d0 := (hb0.cell (p := ⟨B.t, 0, none⟩) (cell_in c0)).trans c0
  have d1 := (hb0.cell (p := ⟨B.s, k * 5, none⟩) (cell_in c1)).trans c1
  go_enter Tryd.func30, Tryd.ntmps30
  go_wp2
  refine bodyPost_ret (v := .agg #[.int .i64 k, .int .i64 (g : Nat)]) (by simp [results, Tryd.results30, go_sem]) rfl ⟨rfl, ?_⟩
  exact (Below.refl _ _).alloc (Nat.le_refl _) _

/-- Is there a used slot of this number? -/
def atB (S : Nat → Sl) (N : Nat) (i : Int) : Bool := hasB (isUsed S) N i
/-- What At tells. -/
def atVal (S : Nat → Sl) (N : Nat) (i : Int) : Value := if atB S N i = true then .tuple #[.agg #[.int .i64 i, .int .i64 ((S i.toNat).gen : Nat)], .bool true] else .tuple #[.agg #[.int .i64 0, .int .i64 0], .bool false]
theorem atB_iff {S : Nat → Sl} {N : Nat} {i : Int} : atB S N i = true ↔ ∃ k : Nat, i = k ∧ k < N ∧ (S k).used = true := by
  unfold atB hasB isUsed
  simp only [Bool.and_eq_true, decide_eq_true_eq]
  constructor
  · rintro ⟨⟨h1, h2⟩, h3⟩
    exact ⟨i.toNat, by omega, by omega, h3⟩
  · rintro ⟨k, rfl, h2, h3⟩
    exact ⟨⟨by omega, by omega⟩, by simpa using h3⟩
set_option maxHeartbeats 1000000 in
theorem at_any (h : TbAt w B N S) (i : Int) : Calls Tryd.prog 13 #[.pointer (some ⟨B.t, 0, none⟩), .int .i64 i] w fun e w' => e = .returned (atVal S N i) ∧ Below w.heap.size w w' := by
  have hb0 := (Below.refl w.heap.size w).alloc (Nat.le_refl _) (.cells #[.int .i64 0, .int .i64 0] 33)
  have k1 := h.on hb0
  have c1 := k1.used
  obtain ⟨ws, hm, hq⟩ := k1.umap
  have hh := has_any B.ub B.uc N i ws _ hm
  rw [hq] at hh
  change Calls _ _ _ _ fun e w' => e = .returned (.bool (atB S N i)) ∧ _ = w' at hh
  unfold atVal
  have HB := Lib.hid hb0
  cases hx : atB S N i
  · rw [hx] at hh
    have HH := Lib.hid hh
    clear hh hx hm hq k1 hb0
    simp only [Bool.false_eq_true, if_false]
    go_enter Tryd.func13, Tryd.ntmps13
    go_wp2_with (first
      | (go_at_call 29; refine HH.out.mono ?_; rintro e w' ⟨rfl, rfl⟩))
    refine bodyPost_ret (v := .tuple #[.agg #[.int .i64 0, .int .i64 0], .bool false]) (by simp [results, Tryd.results13, go_sem]) rfl ⟨rfl, ?_⟩
    exact (Below.refl _ _).alloc (Nat.le_refl _) _
  · obtain ⟨k, rfl, hk, hu⟩ := atB_iff.1 hx
    rw [hx] at hh
    have HH := Lib.hid hh
    have T := token_any k1 k hk
    rw [genAt_used h hu] at T
    have HT := Lib.hid T
    clear hh hx hm hq k1 hb0 T hu
    simp only [if_true, Int.toNat_natCast]
    generalize (S k).gen = g at *
    go_enter Tryd.func13, Tryd.ntmps13
    go_wp2_with (first
      | (go_at_call 29; refine HH.out.mono ?_; rintro e w' ⟨rfl, rfl⟩)
      | (go_at_call 30; refine HT.out.mono ?_; rintro e w2 ⟨rfl, hb2⟩; have hW : Whole w2 w.heap.size 33 #[.int .i64 0, .int .i64 0] := (Whole.fresh w 33 #[.int .i64 0, .int .i64 0]).below hb2 (by simp); obtain ⟨hc0, hc1⟩ := hW.two; have hf0 := hW.free 0; have hf1 := hW.free 1))
    refine bodyPost_ret (v := .tuple #[.agg #[.int .i64 k, .int .i64 (g : Nat)], .bool true]) (by simp [results, Tryd.results13, go_sem, hc0, hc1]) rfl ⟨rfl, ?_⟩
    exact Below.set2 (HB.out.trans (hb2.mono (by simp))) (Nat.le_refl _) _ _ _ _
end

section
variable {w : World} {B : TB} {N : Nat} {S : Nat → Sl}
/-- Is a token no stale one? -/
def freshB (S : Nat → Sl) (N : Nat) (i g : Int) : Bool := atB S N i && decide (((S i.toNat).gen : Int) = g)
theorem freshB_iff {S : Nat → Sl} {N : Nat} {i g : Int} : freshB S N i g = true ↔ ∃ k : Nat, i = k ∧ k < N ∧ (S k).used = true ∧ g = (S k).gen := by
  unfold freshB
  rw [Bool.and_eq_true, atB_iff, decide_eq_true_eq]
  constructor
  · rintro ⟨⟨k, rfl, h2, h3⟩, h4⟩
    exact ⟨k, rfl, h2, h3, by rw [← h4, Int.toNat_natCast]⟩
  · rintro ⟨k, rfl, h2, h3, rfl⟩
    exact ⟨⟨k, rfl, h2, h3⟩, by rw [Int.toNat_natCast]⟩
def staleE (b : Bool) : Int := if b = true then 0 else 8
set_option maxHeartbeats 1000000 in
theorem fresh_any (h : TbAt w B N S) (i g : Int) : Calls Tryd.prog 34 #[.pointer (some ⟨B.t, 0, none⟩), .agg #[.int .i64 i, .int .i64 g]] w fun e w' => e = .returned (.int .i64 (staleE (freshB S N i g))) ∧ Below w.heap.size w w' := by
  have hb0 := (Below.refl w.heap.size w).alloc (Nat.le_refl _) (.cells #[.int .i64 i, .int .i64 g] 33)
  have A1 := at_any (h.on hb0) i
  have HB := Lib.hid hb0
  have W0 := Lib.hid (Whole.fresh w 33 #[.int .i64 i, .int .i64 g])
  unfold freshB
  unfold atVal at A1
  cases hx : atB S N i
  · rw [hx] at A1
    simp only [Bool.false_eq_true, if_false] at A1
    have HA := Lib.hid A1
    clear A1 hb0 hx h
    have e0 : staleE (false && decide (((S i.toNat).gen : Int) = g)) = 8 := rfl
    rw [e0]
    go_enter Tryd.func34, Tryd.ntmps34
    go_wp2_with fail
    refine HA.out.mono ?_
    rintro e w2 ⟨rfl, hb2⟩
    have HB2 := Lib.hid hb2
    clear hb2 HA
    go_wp2
    go_ret
    exact ⟨rfl, (HB.out.trans (HB2.out.mono (by simp))).alloc (by have := HB2.out.size; simp at this; omega) _⟩
  · rw [hx] at A1
    simp only [if_true] at A1
    have HA := Lib.hid A1
    clear A1 hb0 hx h
    generalize ((S i.toNat).gen : Int) = y at *
    by_cases hg : y = g
    · subst hg
      have e0 : staleE (true && decide (y = y)) = 0 := by simp [staleE]
      rw [e0]
      go_enter Tryd.func34, Tryd.ntmps34
      go_wp2_with fail
      refine HA.out.mono ?_
      rintro e w2 ⟨rfl, hb2⟩
      obtain ⟨c0, c1⟩ := (((W0.out.below hb2 (by simp)).alloc (.cells #[.int .i64 i, .int .i64 y] 33)).two)
      have HB2 := Lib.hid hb2
      clear hb2 HA
      go_wp2
      go_ret
      exact ⟨rfl, (HB.out.trans (HB2.out.mono (by simp))).alloc (by have := HB2.out.size; simp at this; omega) _⟩
    · have e0 : staleE (true && decide (y = g)) = 8 := by simp [staleE, hg]
      rw [e0]
      have d0 : (y == g) = false := by simpa using hg
      go_enter Tryd.func34, Tryd.ntmps34
      go_wp2_with fail
      refine HA.out.mono ?_
      rintro e w2 ⟨rfl, hb2⟩
      obtain ⟨c0, c1⟩ := (((W0.out.below hb2 (by simp)).alloc (.cells #[.int .i64 i, .int .i64 y] 33)).two)
      have HB2 := Lib.hid hb2
      clear hb2 HA
      go_wp2
      go_ret
      exact ⟨rfl, (HB.out.trans (HB2.out.mono (by simp))).alloc (by have := HB2.out.size; simp at this; omega) _⟩
theorem staleE_ok {b : Bool} : staleE b = 0 ↔ b = true := by cases b <;> simp [staleE]

/-- What Get tells. -/
def getVal (S : Nat → Sl) (N : Nat) (i g : Int) : Value := if freshB S N i g = true then .tuple #[(S i.toNat).e.v, .int .i64 0] else .tuple #[En.zero.v, .int .i64 8]
set_option maxHeartbeats 1000000 in
theorem get_any (h : TbAt w B N S) (i g : Int) : Calls Tryd.prog 16 #[.pointer (some ⟨B.t, 0, none⟩), .agg #[.int .i64 i, .int .i64 g]] w fun e w' => e = .returned (getVal S N i g) ∧ Below w.heap.size w w' := by
  have hb0 := ((Below.refl w.heap.size w).alloc (Nat.le_refl _) (.cells #[.int .i64 i, .int .i64 g] 33)).alloc (by simp) (.cells #[.int .i64 0, .int .i64 0, .bool false, .bool false] 35)
  have k1 := h.on hb0
  have A1 := fresh_any k1 i g
  have HB := Lib.hid hb0
  have W0 := Lib.hid ((Whole.fresh w 33 #[.int .i64 i, .int .i64 g]).alloc (.cells #[.int .i64 0, .int .i64 0, .bool false, .bool false] 35))
  have W1 := Whole.fresh (w.alloc (.cells #[.int .i64 i, .int .i64 g] 33)) 35 #[.int .i64 0, .int .i64 0, .bool false, .bool false]
  rw [World.size_alloc] at W1
  have HW1 := Lib.hid W1
  clear W1
  unfold getVal
  cases hx : freshB S N i g
  · rw [hx] at A1
    have HA := Lib.hid A1
    clear A1 hb0 hx h k1
    have e0 : staleE false = 8 := rfl
    rw [e0] at HA
    simp only [Bool.false_eq_true, if_false]
    go_enter Tryd.func16, Tryd.ntmps16
    go_wp2_with fail
    refine HA.out.mono ?_
    rintro e w2 ⟨rfl, hb2⟩
    have R2 := HW1.out.below hb2 (by simp)
    obtain ⟨c0, c1, c2, c3⟩ := R2.four
    have f0 := R2.free 0
    have f1 := R2.free 1
    have f2 := R2.free 2
    have f3 := R2.free 3
    have HB2 := Lib.hid hb2
    clear hb2 HA R2
    go_wp2
    refine bodyPost_ret (v := .tuple #[En.zero.v, .int .i64 8]) (by simp [results, Tryd.results16, go_sem, c0, c1, c2, c3, En.v, En.zero]) rfl ⟨rfl, ?_⟩
    exact Below.set2 (Below.set2 (HB.out.trans (HB2.out.mono (by simp; omega))) (by omega) _ _ _ _) (by omega) _ _ _ _
  · obtain ⟨k, rfl, hk, hu, rfl⟩ := freshB_iff.1 hx
    rw [hx] at A1
    have HA := Lib.hid A1
    have K1 := Lib.hid k1
    have hN := h.N2
    clear A1 hb0 hx h k1
    have e0 : staleE true = 0 := rfl
    rw [e0] at HA
    simp only [if_true, Int.toNat_natCast]
    obtain ⟨ea, er, eh, ep, hE⟩ : ∃ ea er eh ep, (S k).e = ⟨ea, er, eh, ep⟩ := ⟨_, _, _, _, rfl⟩
    rw [hE]
    have HE := Lib.hid hE
    clear hE
    go_enter Tryd.func16, Tryd.ntmps16
    go_wp2_with fail
    refine HA.out.mono ?_
    rintro e w2 ⟨rfl, hb2⟩
    have R2 := HW1.out.below hb2 (by simp)
    obtain ⟨c0, c1, c2, c3⟩ := R2.four
    have f0 := R2.free 0
    have f1 := R2.free 1
    have f2 := R2.free 2
    have f3 := R2.free 3
    obtain ⟨t0, t1⟩ := (W0.out.below hb2 (by simp; omega)).two
    have k2 := K1.out.on hb2
    have m0 := k2.row
    obtain ⟨m1, m2, m3, m4, m5⟩ := k2.slot k hk
    have HB2 := Lib.hid hb2
    clear hb2 HA R2 K1 k2 m1
    rw [HE.out] at m2 m3 m4 m5
    dsimp only at m2 m3 m4 m5
    go_wp2_with fail
    go_region
    go_wp2
    refine bodyPost_ret (v := .tuple #[(⟨ea, er, eh, ep⟩ : En).v, .int .i64 0]) (by simp [results, Tryd.results16, go_sem, c0, c1, c2, c3, En.v]) rfl ⟨rfl, ?_⟩
    exact (Below.set2 (Below.set2 (HB.out.trans (HB2.out.mono (by simp; omega))) (by omega) _ _ _ _) (by omega) _ _ _ _).drew
end
end Go.Proofs.YtldlolgdglmocaaDoor
