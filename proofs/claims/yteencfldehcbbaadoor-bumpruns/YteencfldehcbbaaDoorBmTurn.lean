/- Contract of (*Map).turn: the places are turned, and nothing else. -/
import Derived.Test.YteencfldehcbbaaDoorBmLeaf
namespace Go.Proofs.YteencfldehcbbaaDoor
open Go.RowKit

/-- But for block c the world is as it was. -/
structure OnlyAt (c : Nat) (w w' : World) : Prop where
  os : w'.os = w.os
  tape : w'.tape = w.tape
  output : w'.output = w.output
  size : w'.heap.size = w.heap.size
  block : ∀ k, k ≠ c → w'.heap[k]? = w.heap[k]?
theorem OnlyAt.refl (c : Nat) (w : World) : OnlyAt c w w := ⟨rfl, rfl, rfl, rfl, fun _ _ => rfl⟩
theorem OnlyAt.trans {c : Nat} {a b d : World} (h : OnlyAt c a b) (k : OnlyAt c b d) : OnlyAt c a d :=
  ⟨k.os.trans h.os, k.tape.trans h.tape, k.output.trans h.output, k.size.trans h.size, fun i hi => (k.block i hi).trans (h.block i hi)⟩
theorem OnlyAt.setCell {c : Nat} {a w : World} (h : OnlyAt c a w) (o : Nat) (u : Value) : OnlyAt c a (w.setCell ⟨c, o, none⟩ u) :=
  h.trans ⟨rfl, rfl, rfl, by simp [World.setCell], fun k hk => Below.heap_setCell _ _ _ _ hk⟩
theorem OnlyAt.below {c B : Nat} {w w' : World} (h : OnlyAt c w w') (hB : B ≤ c) : Below B w w' :=
  ⟨h.os, h.tape, h.output, by rw [h.size]; exact Nat.le_refl _, fun k hk => h.block k (by omega)⟩
theorem OnlyAt.cell {c : Nat} {w w' : World} (h : OnlyAt c w w') {p : Addr} (hp : p.block ≠ c) : w'.cell? p = w.cell? p := World.cell?_of_block (w := w) (h.block p.block hp)
theorem OnlyAt.frozen {c : Nat} {w w' : World} (h : OnlyAt c w w') {p : Addr} (hp : p.block ≠ c) : w'.frozen? p = w.frozen? p := World.frozen?_of_block (w := w) (h.block p.block hp)

/-- Behind one store: the map with some bits of one word turned. -/
theorem MapAt.stored {w : World} {b c n : Nat} {ws : Nat → Nat} (h : MapAt w b c n ws) (k a s : Nat) (v : Bool) (hk : k < (n + 63) / 64) (has : a + s ≤ 64) (hn : 64 * k + a + s ≤ n) :
    MapAt (w.setCell ⟨c, k, none⟩ (.int .u64 (BM.turn ws k a s v k))) b c n (BM.turn ws k a s v) := by
  have hne := h.ne
  refine ⟨h.n1, h.n2, ?_, ?_, fun j hj => ?_, fun j hj => ?_, BM.turn_lt ws k a s v has h.lt, fun i hi => ?_, hne⟩
  · exact (World.cell?_setCell_other _ _ _ _ (by first | (simp; done) | (simp; omega))).trans h.len
  · exact (World.cell?_setCell_other _ _ _ _ (by first | (simp; done) | (simp; omega))).trans h.row
  · by_cases e : j = k
    · subst e
      exact World.cell?_setCell_same' _ _ _ (by rw [h.word j hj]; rfl)
    · refine (World.cell?_setCell_other _ _ _ _ (by first | (simp; done) | (simp; omega))).trans ?_
      rw [h.word j hj]
      simp [BM.turn, e]
  · rw [World.frozen?_setCell]; exact h.thaw j hj
  · rw [BM.turn_on ws k a s v has, if_neg (by omega)]; exact h.past i hi
/-- What turn leaves. -/
def TurnPost (w : World) (b c n : Nat) (ws : Nat → Nat) (i j : Nat) (v : Bool) (e : Ending) (w' : World) : Prop :=
  (∃ x, e = .returned x) ∧ OnlyAt c w w' ∧ ∃ ws', MapAt w' b c n ws' ∧ ∀ q, BM.on ws' q = if i ≤ q ∧ q < j then v else BM.on ws q

/-- Where the loop of turn stands. -/
def TurnAt (w : World) (b c n : Nat) (ws : Nat → Nat) (i j : Nat) (v : Bool) (x : Value) (wr : World) : Prop :=
  ∃ p ws', i ≤ p ∧ p ≤ j ∧ x = .int .i64 p ∧ OnlyAt c w wr ∧ MapAt wr b c n ws' ∧ ∀ q, BM.on ws' q = if i ≤ q ∧ q < p then v else BM.on ws q

theorem turn_next (w wr : World) (b c n : Nat) (ws ws' : Nat → Nat) (i j p s : Nat) (v : Bool) (hip : i ≤ p) (hs1 : 1 ≤ s) (hps : p + s ≤ j) (hj : j ≤ n) (hs : p % 64 + s ≤ 64)
    (ho : OnlyAt c w wr) (hm : MapAt wr b c n ws') (hq : ∀ q, BM.on ws' q = if i ≤ q ∧ q < p then v else BM.on ws q) :
    OnlyAt c w (wr.setCell ⟨c, p / 64, none⟩ (.int .u64 (BM.turn ws' (p / 64) (p % 64) s v (p / 64)))) ∧ MapAt (wr.setCell ⟨c, p / 64, none⟩ (.int .u64 (BM.turn ws' (p / 64) (p % 64) s v (p / 64)))) b c n (BM.turn ws' (p / 64) (p % 64) s v) ∧
    ∀ q, BM.on (BM.turn ws' (p / 64) (p % 64) s v) q = if i ≤ q ∧ q < p + s then v else BM.on ws q := by
  have e : 64 * (p / 64) + p % 64 = p := by omega
  refine ⟨ho.setCell _ _, hm.stored _ _ _ _ (by omega) hs (by omega), fun q => ?_⟩
  rw [BM.turn_on ws' _ _ _ _ hs, e, hq q]
  by_cases h1 : p ≤ q ∧ q < p + s
  · rw [if_pos h1, if_pos (by omega)]
  · rw [if_neg h1]
    by_cases h2 : i ≤ q ∧ q < p
    · rw [if_pos h2, if_pos (by omega)]
    · rw [if_neg h2, if_neg (by omega)]

theorem turn_val (ws : Nat → Nat) (k a s t : Nat) (v : Bool) (hw : ∀ j, ws j < 18446744073709551616) (ht : s + t = 64) (h : a + s ≤ 64) :
    (if v = true then bits .or .u64 (ws k : Int) (IntKind.u64.wrap ((18446744073709551615 : Int) / 2 ^ t * 2 ^ a)) else bits .andNot .u64 (ws k : Int) (IntKind.u64.wrap ((18446744073709551615 : Int) / 2 ^ t * 2 ^ a))) = ((BM.turn ws k a s v k : Nat) : Int) := by
  rw [BM.mask_eq a s t ht h]
  unfold BM.turn
  rw [if_pos rfl]
  cases v
  · simp only [Bool.false_eq_true, if_false]
    exact BM.andNot_mask _ _ _ (hw _) h
  · simp only [if_true]
    exact BM.or_mask _ _ _ (hw _) h

set_option maxHeartbeats 1000000 in
theorem turn_any (b c n i j : Nat) (ws : Nat → Nat) (w : World) (h : MapAt w b c n ws) (hij : i ≤ j) (hj : j ≤ n) (v : Bool) :
    Calls Tryd.prog 76 #[.pointer (some ⟨b, 0, none⟩), .int .i64 i, .int .i64 j, .bool v] w (TurnPost w b c n ws i j v) := by
  have h1 := h.n1
  have h2 := h.n2
  go_enter Tryd.func76, Tryd.ntmps76
  go_wp2
  go_loopw [1] (TurnAt w b c n ws i j v) (fun x _ => (j - (intOf x).toNat))
  case atStart => exact ⟨i, ws, Nat.le_refl _, hij, rfl, OnlyAt.refl _ _, h, fun q => by rw [if_neg (by omega)]⟩
  case round =>
    obtain ⟨p, ws', hip, hpj, rfl, ho, hm, hq⟩ := hrel
    have hQ := Lib.hid hq
    clear hq
    by_cases hlt : p < j
    · have c0 := hm.len
      have c1 := hm.row
      have hk : p / 64 < (n + 63) / 64 := by omega
      have c2 := hm.word (p / 64) hk
      have c3 := hm.thaw (p / 64) hk
      have hqq : ((p : Int) / 64).toNat = p / 64 := by omega
      by_cases hs : j ≤ (p / 64 + 1) * 64
      · have hv := Lib.hid (turn_val ws' (p / 64) (p % 64) (j - p) (64 - (j - p)) v hm.lt (by omega) (by omega))
        obtain ⟨n1, n2, n3⟩ := turn_next w wr b c n ws ws' i j p (j - p) v hip (by omega) (by omega) hj (by omega) ho hm hQ.out
        have N3 := Lib.hid n3
        clear n3
        cases v
        all_goals
          go_wp2
          have e := hv.out
          simp only [Bool.false_eq_true, if_true, if_false] at e
          rw [e]
          refine ⟨⟨j, _, hij, Nat.le_refl _, rfl, n1, n2, fun q => ?_⟩, by simp [intOf]; omega⟩
          rw [N3.out q, show p + (j - p) = j by omega]
      · have hv := Lib.hid (turn_val ws' (p / 64) (p % 64) (64 - p % 64) (p % 64) v hm.lt (by omega) (by omega))
        obtain ⟨n1, n2, n3⟩ := turn_next w wr b c n ws ws' i j p (64 - p % 64) v hip (by omega) (by omega) hj (by omega) ho hm hQ.out
        have N3 := Lib.hid n3
        clear n3
        cases v
        all_goals
          go_wp2
          have e := hv.out
          simp only [Bool.false_eq_true, if_true, if_false] at e
          rw [show 64 - ((p / 64 + 1) * 64 - p) = p % 64 by omega, e, if_pos (by omega), show ((p : Int) / 64 + 1) * 64 = ((p + (64 - p % 64) : Nat) : Int) by omega]
          exact ⟨⟨p + (64 - p % 64), _, by omega, by omega, rfl, n1, n2, N3.out⟩, by simp [intOf]; omega⟩
    · obtain rfl : p = j := by omega
      go_wp2
      go_end0
      exact ⟨⟨_, rfl⟩, ho, ws', hm, hQ.out⟩
end Go.Proofs.YteencfldehcbbaaDoor
