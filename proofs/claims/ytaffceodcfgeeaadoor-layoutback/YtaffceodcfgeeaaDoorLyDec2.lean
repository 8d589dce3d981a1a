/- Contracts of Decode of package layout. -/
import Derived.Test.YtaffceodcfgeeaaDoorLyDec
import Derived.Deep.DeepCutAuto
namespace Go.Proofs.YtaffceodcfgeeaaDoor
open Go.RowKit

set_option maxHeartbeats 1000000 in
theorem decode_short (A : Option Addr) (n c : Nat) (w : World) (hn : n ≠ 3) :
    Calls Tryd.prog 11 #[.slice A n c] w fun e w' => e = .returned (.tuple #[.agg #[.int .i64 0, .slice none 0 0, .int .i64 0, .slice none 0 0], .int .i64 4]) ∧ Below w.heap.size w w' := by
  have d0 : ((n : Int) != 3) = true := by simp; omega
  go_enter Tryd.func11, Tryd.ntmps11
  go_wp2
  exact bodyPost_ret (v := .tuple #[.agg #[.int .i64 0, .slice none 0 0, .int .i64 0, .slice none 0 0], .int .i64 4]) (by simp [results, Tryd.results11, go_sem]) rfl ⟨rfl, (Below.refl _ _).alloc (Nat.le_refl _) _⟩

/-- Where Decode stands behind Unpack. -/
structure DecAt (w : World) (bw off : Nat) (f0 f1 f2 b c g : Nat) (W : World) : Prop where
  bel : Below w.heap.size w W
  box : Whole W w.heap.size 24 #[.int .i64 0, .slice none 0 0, .int .i64 0, .slice none 0 0]
  lt : g < W.heap.size
  c0 : W.cell? ⟨g, 0, none⟩ = some (.int .u64 f0)
  c1 : W.cell? ⟨g, 1, none⟩ = some (.int .u64 f1)
  c2 : W.cell? ⟨g, 2, none⟩ = some (.int .u64 f2)
  e1 : W.cell? ⟨bw, off + 1, none⟩ = some (.int .u64 b)
  e2 : W.cell? ⟨bw, off + 2, none⟩ = some (.int .u64 c)
  bwlt : bw < w.heap.size
  tab : Tab W
  pos : 0 < w.heap.size
theorem DecAt.later {w W W' : World} {bw off f0 f1 f2 b c g : Nat} (h : DecAt w bw off f0 f1 f2 b c g W) (hb : Below W.heap.size W W') : DecAt w bw off f0 f1 f2 b c g W' := by
  have hs := h.bel.size
  have h1 := h.bwlt
  have h2 := h.pos
  exact ⟨h.bel.trans (hb.mono hs), h.box.below hb h.box.lt, Nat.lt_of_lt_of_le h.lt hb.size, (hb.cell (p := ⟨g, 0, none⟩) h.lt).trans h.c0, (hb.cell (p := ⟨g, 1, none⟩) h.lt).trans h.c1, (hb.cell (p := ⟨g, 2, none⟩) h.lt).trans h.c2,
    (hb.cell (p := ⟨bw, _, none⟩) (by show bw < _; omega)).trans h.e1, (hb.cell (p := ⟨bw, _, none⟩) (by show bw < _; omega)).trans h.e2, h.bwlt, h.tab.below hb (by omega), h.pos⟩
theorem DecAt.still {w W W' : World} {bw off f0 f1 f2 b c g : Nat} (h : DecAt w bw off f0 f1 f2 b c g W) (e1 : W'.os = W.os) (e2 : W'.tape = W.tape) (e3 : W'.output = W.output) (e4 : W'.heap = W.heap) : DecAt w bw off f0 f1 f2 b c g W' :=
  h.later ⟨e1, e2, e3, by rw [e4]; exact Nat.le_refl _, fun k _ => by rw [e4]⟩
theorem DecAt.pos' {w W : World} {bw off f0 f1 f2 b c g : Nat} (h : DecAt w bw off f0 f1 f2 b c g W) : 0 < W.heap.size := Nat.lt_of_lt_of_le h.pos h.bel.size
theorem DecAt.bw' {w W : World} {bw off f0 f1 f2 b c g : Nat} (h : DecAt w bw off f0 f1 f2 b c g W) : bw < W.heap.size := Nat.lt_of_lt_of_le h.bwlt h.bel.size
theorem below_alloc {w w2 : World} {o : Obj} (h : Below (w.alloc o).heap.size (w.alloc o) w2) : Below w.heap.size w w2 := ((Below.refl _ w).alloc (Nat.le_refl _) o).trans (h.mono (by simp))
theorem below_alloc_drew {w w2 : World} {o : Obj} (h : Below (w.alloc o).drew.heap.size (w.alloc o).drew w2) : Below w.heap.size w w2 :=
  (((Below.refl _ w).alloc (Nat.le_refl _) o).drew).trans (h.mono (by show w.heap.size ≤ (w.alloc o).heap.size; simp))
theorem DecAt.first {w w1 w2 : World} {bw off f0 f1 f2 a b c g : Nat} (hb1 : Below w.heap.size w w1) (x1 : Whole w1 w.heap.size 24 #[.int .i64 0, .slice none 0 0, .int .i64 0, .slice none 0 0]) (hlt : bw < w.heap.size) (e1 : w.cell? ⟨bw, off + 1, none⟩ = some (.int .u64 b)) (e2 : w.cell? ⟨bw, off + 2, none⟩ = some (.int .u64 c)) (hT : Tab w) (h0 : 0 < w.heap.size)
    (q0 : f0 = a % 256) (q1 : f1 = a / 256 % 256) (q2 : f2 = a / 65536) (hb : Below w1.heap.size w1 w2) (hg : g < w2.heap.size) (k0 : w2.cell? ⟨g, 0, none⟩ = some (.int .u64 (a % 256 : Nat))) (k1 : w2.cell? ⟨g, 1, none⟩ = some (.int .u64 (a / 256 % 256 : Nat))) (k2 : w2.cell? ⟨g, 2, none⟩ = some (.int .u64 (a / 65536 : Nat))) : DecAt w bw off f0 f1 f2 b c g w2 := by
  subst q0 q1 q2
  have hbb := hb1.trans (hb.mono hb1.size)
  exact ⟨hbb, x1.below hb x1.lt, hg, k0, k1, k2, (hbb.cell (p := ⟨bw, _, none⟩) hlt).trans e1, (hbb.cell (p := ⟨bw, _, none⟩) hlt).trans e2, hlt, hT.below hbb h0, h0⟩

theorem dec_lists {w w5 W : World} {lo n m c5 c' : Nat} {A5 A' : Option Addr} {xs ys : List Int} (h1 : w.heap.size ≤ lo) (h2 : w.heap.size ≤ w5.heap.size) (n5 : NI w5 lo w5.heap.size A5 n c5 xs) (hb6 : Below w5.heap.size w5 W) (n6 : NI W w5.heap.size W.heap.size A' m c' ys) : Lists W w.heap.size W.heap.size A5 n c5 xs A' m c' ys :=
  ⟨(n5.kept (Kept.of_below hb6 (Nat.le_refl _))).mono h1 hb6.size, n6.mono h2 (Nat.le_refl _)⟩
def zl : Array Value := #[.int .i64 0, .slice none 0 0, .int .i64 0, .slice none 0 0]
/-- Where Decode stands behind its third statement: the layout is in its box. -/
def DecBox (w : World) (bw off : Nat) (f0 f1 f2 b c g : Nat) (s : Value) (W : World) : Prop :=
  ∃ q A5 c5 A6 c6, s = .pointer (some ⟨q, 0, none⟩) ∧ DecAt w bw off f0 f1 f2 b c g W ∧ w.heap.size < q ∧ Whole W q 24 #[.int .i64 f0, .slice A5 (LM.bl b).length c5, .int .i64 f1, .slice A6 (LM.bl c).length c6] ∧ Lists W (w.heap.size + 1) W.heap.size A5 (LM.bl b).length c5 (LM.bl b) A6 (LM.bl c).length c6 (LM.bl c)
theorem DecAt.set {w W : World} {bw off f0 f1 f2 b c g q i : Nat} {u : Value} (h : DecAt w bw off f0 f1 f2 b c g W) (h1 : w.heap.size < q) (h2 : g ≠ q) : DecAt w bw off f0 f1 f2 b c g (W.setCell ⟨q, i, none⟩ u) := by
  have k1 := h.bwlt
  have hc : ∀ p : Addr, p.block ≠ q → (W.setCell ⟨q, i, none⟩ u).cell? p = W.cell? p := fun p hp => World.cell?_of_block (Below.heap_setCell W ⟨q, i, none⟩ u p.block hp)
  exact ⟨h.bel.setCell (p := ⟨q, i, none⟩) (by show w.heap.size ≤ q; omega) u, h.box.far (p := ⟨q, i, none⟩) (by show w.heap.size ≠ q; omega) u, by simpa using h.lt, (hc _ h2).trans h.c0, (hc _ h2).trans h.c1, (hc _ h2).trans h.c2, (hc _ (show bw ≠ q by omega)).trans h.e1, (hc _ (show bw ≠ q by omega)).trans h.e2, h.bwlt, fun j hj => (hc _ (show 0 ≠ q by omega)).trans (h.tab j hj), h.pos⟩
theorem below_of_drew' {w w' : World} (h : Below w.drew.heap.size w.drew w') : Below w.heap.size w w' := ⟨h.os, h.tape, h.output, h.size, h.block⟩
theorem dec_end_lit {w W : World} {bw off f0 f1 f2 b c g lo5 hi5 lo6 hi6 c5 c6 : Nat} {A5 A6 : Option Addr} (h : DecAt w bw off f0 f1 f2 b c g W) (hl : w.heap.size + 1 ≤ lo5 ∧ w.heap.size + 1 ≤ lo6 ∧ hi5 ≤ W.heap.size ∧ hi6 ≤ W.heap.size) (h5 : NI W lo5 hi5 A5 (LM.bl b).length c5 (LM.bl b)) (h6 : NI W lo6 hi6 A6 (LM.bl c).length c6 (LM.bl c)) :
    DecBox w bw off f0 f1 f2 b c g (.pointer (some ⟨W.heap.size, 0, none⟩)) (W.alloc (.cells #[.int .i64 f0, .slice A5 (LM.bl b).length c5, .int .i64 f1, .slice A6 (LM.bl c).length c6] 24)) := by
  obtain ⟨a1, a2, a3, a4⟩ := hl
  have hs := h.box.lt
  have hb := (Below.refl W.heap.size W).alloc (Nat.le_refl _) (.cells #[.int .i64 f0, .slice A5 (LM.bl b).length c5, .int .i64 f1, .slice A6 (LM.bl c).length c6] 24)
  exact ⟨_, A5, c5, A6, c6, rfl, h.later hb, hs, Whole.fresh _ _ _, (h5.kept (Kept.of_below hb a3)).mono a1 (by simp; omega), (h6.kept (Kept.of_below hb a4)).mono a2 (by simp; omega)⟩
theorem dec_end_set {w W : World} {bw off f0 f1 f2 b c g q lo5 hi5 lo6 hi6 c5 c6 : Nat} {A5 A6 : Option Addr} (h : DecAt w bw off f0 f1 f2 b c g W) (hx : Whole W q 24 #[.int .i64 0, .slice none 0 0, .int .i64 0, .slice none 0 0]) (hq : w.heap.size < q ∧ g ≠ q) (hl : w.heap.size + 1 ≤ lo5 ∧ w.heap.size + 1 ≤ lo6 ∧ hi5 ≤ W.heap.size ∧ hi6 ≤ W.heap.size) (h5 : NI W lo5 hi5 A5 (LM.bl b).length c5 (LM.bl b)) (h6 : NI W lo6 hi6 A6 (LM.bl c).length c6 (LM.bl c)) (ho : (q < lo5 ∨ hi5 ≤ q) ∧ (q < lo6 ∨ hi6 ≤ q)) :
    DecBox w bw off f0 f1 f2 b c g (.pointer (some ⟨q, 0, none⟩)) ((((W.setCell ⟨q, 0, none⟩ (.int .i64 f0)).setCell ⟨q, 1, none⟩ (.slice A5 (LM.bl b).length c5)).setCell ⟨q, 2, none⟩ (.int .i64 f1)).setCell ⟨q, 3, none⟩ (.slice A6 (LM.bl c).length c6)) := by
  obtain ⟨a1, a2, a3, a4⟩ := hl
  obtain ⟨b1, b2⟩ := hq
  refine ⟨q, A5, c5, A6, c6, rfl, (((h.set b1 b2).set b1 b2).set b1 b2).set b1 b2, b1, ?_, ?_, ?_⟩
  · exact (((hx.set 0 _).set 1 _).set 2 _).set 3 _
  · exact (h5.kept (((((Kept.refl _ _ _).setCell (p := ⟨q, 0, none⟩) ho.1 _).setCell (p := ⟨q, 1, none⟩) ho.1 _).setCell (p := ⟨q, 2, none⟩) ho.1 _).setCell (p := ⟨q, 3, none⟩) ho.1 _)).mono a1 (by simp; omega)
  · exact (h6.kept (((((Kept.refl _ _ _).setCell (p := ⟨q, 0, none⟩) ho.2 _).setCell (p := ⟨q, 1, none⟩) ho.2 _).setCell (p := ⟨q, 2, none⟩) ho.2 _).setCell (p := ⟨q, 3, none⟩) ho.2 _)).mono a2 (by simp; omega)
/-- What Decode leaves of the words of a right layout. -/
def DecPost (F R b c : Nat) (w : World) (e : Ending) (w' : World) : Prop :=
  ∃ A n D m, e = .returned (.tuple #[.agg #[.int .i64 F, .slice A (LM.bl b).length n, .int .i64 R, .slice D (LM.bl c).length m], .int .i64 0]) ∧ Lists w' w.heap.size w'.heap.size A (LM.bl b).length n (LM.bl b) D (LM.bl c).length m (LM.bl c) ∧ Below w.heap.size w w'
def DecErr (w : World) (e : Ending) (w' : World) : Prop := e = .returned (.tuple #[.agg #[.int .i64 0, .slice none 0 0, .int .i64 0, .slice none 0 0], .int .i64 4]) ∧ Below w.heap.size w w'
/-- What Decode leaves of three words; ok: they are a right layout's. -/
def DecRes (ok : Bool) (F R b c : Nat) (w : World) (e : Ending) (w' : World) : Prop := (ok = true ∧ DecPost F R b c w e w') ∨ (ok = false ∧ DecErr w e w')
theorem set4_below {w W : World} {k : Nat} {u0 u1 u2 u3 : Value} (h : Below k w W) {g : Nat} (hg : k ≤ g) : Below k w ((((W.setCell ⟨g, 0, none⟩ u0).setCell ⟨g, 1, none⟩ u1).setCell ⟨g, 2, none⟩ u2).setCell ⟨g, 3, none⟩ u3) :=
  (((h.setCell (p := ⟨g, 0, none⟩) hg _).setCell (p := ⟨g, 1, none⟩) hg _).setCell (p := ⟨g, 2, none⟩) hg _).setCell (p := ⟨g, 3, none⟩) hg _
theorem set4_kept {lo hi : Nat} {w W : World} {u0 u1 u2 u3 : Value} (h : Kept lo hi w W) {g : Nat} (hg : g < lo ∨ hi ≤ g) : Kept lo hi w ((((W.setCell ⟨g, 0, none⟩ u0).setCell ⟨g, 1, none⟩ u1).setCell ⟨g, 2, none⟩ u2).setCell ⟨g, 3, none⟩ u3) :=
  (((h.setCell (p := ⟨g, 0, none⟩) hg _).setCell (p := ⟨g, 1, none⟩) hg _).setCell (p := ⟨g, 2, none⟩) hg _).setCell (p := ⟨g, 3, none⟩) hg _
end Go.Proofs.YtaffceodcfgeeaaDoor
