/- Rows of parts of the call's own; spaces in memory; both spaces on a store. -/
import Derived.Test.YteencfldehcbbaaDoorBpMath
import Derived.Laws.AppendOwn
import Derived.Laws.AppendOwnNone
import Derived.Maps.AppendAt
import Derived.Deep.AppendLies
import Derived.Deep.RegionHeld3
import Derived.Deep.QuietTactic
import Derived.BigQuiet
namespace Go.Proofs.YteencfldehcbbaaDoor
open Go.RowKit
set_option linter.unusedVariables false

/-- But for these blocks, all that was there is as it was. -/
structure Aft (S : List Nat) (w w' : World) : Prop where
  os : w'.os = w.os
  tape : w'.tape = w.tape
  output : w'.output = w.output
  size : w.heap.size ≤ w'.heap.size
  block : ∀ k, k < w.heap.size → k ∉ S → w'.heap[k]? = w.heap[k]?
section
variable {S : List Nat} {c B : Nat} {w w' a b d : World}
theorem Aft.refl (S : List Nat) (w : World) : Aft S w w := ⟨rfl, rfl, rfl, Nat.le_refl _, fun _ _ _ => rfl⟩
theorem Aft.trans (h : Aft S a b) (k : Aft S b d) : Aft S a d :=
  ⟨k.os.trans h.os, k.tape.trans h.tape, k.output.trans h.output, Nat.le_trans h.size k.size, fun i hi hs => (k.block i (Nat.lt_of_lt_of_le hi h.size) hs).trans (h.block i hi hs)⟩
theorem Aft.of_below (h : Below w.heap.size w w') : Aft S w w' := ⟨h.os, h.tape, h.output, h.size, fun k hk _ => h.block k hk⟩
theorem Aft.of_at (h : OnlyAt c w w') (hc : c ∈ S) : Aft S w w' := ⟨h.os, h.tape, h.output, by rw [h.size]; exact Nat.le_refl _, fun k _ hk => h.block k (fun e => hk (e ▸ hc))⟩
theorem Aft.of_in {L : List Nat} (h : OnlyIn L w w') (hc : ∀ x ∈ L, x ∈ S) : Aft S w w' := ⟨h.os, h.tape, h.output, by rw [h.size]; exact Nat.le_refl _, fun k _ hk => h.block k (fun e => hk (hc k e))⟩
theorem Aft.sub {T : List Nat} (h : Aft S w w') (hs : ∀ x ∈ S, x ∈ T) : Aft T w w' := ⟨h.os, h.tape, h.output, h.size, fun k hk hx => h.block k hk (fun e => hx (hs k e))⟩
theorem Aft.drew (h : Aft S w w') : Aft S w w'.drew := ⟨h.os, h.tape, h.output, h.size, h.block⟩
theorem Aft.setCell (h : Aft S a w) (hc : c ∈ S) (o : Nat) (u : Value) : Aft S a (w.setCell ⟨c, o, none⟩ u) :=
  h.trans (Aft.of_at ((OnlyAt.refl c w).setCell o u) hc)
theorem Aft.alloc (h : Aft S a w) (o : Obj) : Aft S a (w.alloc o) := h.trans (Aft.of_below ((Below.refl _ _).alloc (Nat.le_refl _) o))
theorem Aft.below (h : Aft S w w') (hB : ∀ c ∈ S, B ≤ c) (hw : B ≤ w.heap.size) : Below B w w' :=
  ⟨h.os, h.tape, h.output, h.size, fun k hk => h.block k (by omega) (fun e => by have := hB k e; omega)⟩
theorem Aft.whole {t : TypeId} {cs : Array Value} (h : Aft S w w') (k : Whole w c t cs) (hc : c ∉ S) : Whole w' c t cs := (h.block c k.lt hc).trans k
theorem Aft.of_grown {o : Option Nat} (h : w.grownBy w' o) (hc : ∀ x, o = some x → x ∈ S) : Aft S w w' :=
  ⟨h.os, h.tape, h.output, h.size, fun k hk hs => h.block k hk fun e => hs (hc k e.symm)⟩
end

/-- A part's two cells. -/
def encP (x : Nat × Nat) : List Value := [.int .i64 (x.1 : Nat), .int .i64 (x.2 : Nat)]
theorem encP_one (x : Nat × Nat) (v : Value) (h : v ∈ encP x) : v.oneCell' = true := by
  simp [encP] at h
  rcases h with rfl | rfl <;> rfl
def flatP (l : List (Nat × Nat)) : List Value := l.flatMap encP
theorem flatP_len (l : List (Nat × Nat)) : (flatP l).length = l.length * 2 := by
  induction l with
  | nil => rfl
  | cons x l ih => simp [flatP, encP] at *; omega
theorem flatP_app (xs ys : List (Nat × Nat)) : flatP (xs ++ ys) = flatP xs ++ flatP ys := by simp [flatP]
theorem flatP_get : ∀ (l : List (Nat × Nat)) (j : Nat) (x : Nat × Nat), l[j]? = some x → (flatP l)[j * 2]? = some (.int .i64 (x.1 : Nat)) ∧ (flatP l)[j * 2 + 1]? = some (.int .i64 (x.2 : Nat))
  | [], j, x, h => by simp at h
  | y :: l, 0, x, h => by
    simp at h
    subst h
    exact ⟨rfl, rfl⟩
  | y :: l, j + 1, x, h => by
    have ih := flatP_get l j x (by simpa using h)
    have e : flatP (y :: l) = .int .i64 (y.1 : Nat) :: .int .i64 (y.2 : Nat) :: flatP l := rfl
    rw [e, show (j + 1) * 2 = j * 2 + 1 + 1 by omega]
    exact ⟨ih.1, ih.2⟩
theorem infoPart_parts : ∃ i, Tryd.prog.info? 77 = some i ∧ i.zero = some (.agg #[.int .i64 0, .int .i64 0]) ∧ i.size = 2 ∧ i.bytes = 16 := by
  have h : (Tryd.prog.info? 77).map (fun i => (i.zero, i.size, i.bytes)) = some (some (.agg #[.int .i64 0, .int .i64 0]), 2, 16) := by kernel_rfl
  cases hh : Tryd.prog.info? 77 with
  | none => rw [hh] at h; cases h
  | some i =>
    rw [hh] at h
    simp at h
    exact ⟨i, rfl, h.1, h.2.1, h.2.2⟩

theorem Whole.p0 {w : World} {g : Nat} {t : TypeId} {a b : Value} (h : Whole w g t #[a, b]) : w.cell? ⟨g, 0, none⟩ = some a := (h.cell 0).trans rfl
theorem Whole.p1 {w : World} {g : Nat} {t : TypeId} {a b : Value} (h : Whole w g t #[a, b]) : w.cell? ⟨g, 1, none⟩ = some b := (h.cell 1).trans rfl
/-- A row of the call's own stays where its block does. -/
theorem own_keep {w w' : World} {base n k : Nat} {t : TypeId} {v : Value} {xs : List Value} (h : w.ownsRow base t k v n xs) (e : ∀ g, v.ownBlock = some g → w'.heap[g]? = w.heap[g]?) : w'.ownsRow base t k v n xs := by
  refine ⟨h.1, ?_⟩
  rcases h.2 with h0 | ⟨g, cap, cur, rfl, hg, hh, hn, hm, hs, ht⟩
  · exact .inl h0
  · exact .inr ⟨g, cap, cur, rfl, hg, (e g rfl).trans hh, hn, hm, hs, ht⟩
/-- Its block is none of another type. -/
theorem own_ne {w : World} {base n k g : Nat} {t t' : TypeId} {v : Value} {xs : List Value} {cs : Array Value} (h : w.ownsRow base t k v n xs) (hw : Whole w g t' cs) (ht : t ≠ t') : v.ownBlock ≠ some g := by
  rcases h.2 with ⟨rfl, _⟩ | ⟨g', cap, cur, rfl, hg, hh, _⟩
  · simp [Value.ownBlock]
  · intro e
    simp [Value.ownBlock] at e
    subst e
    unfold Whole at hw
    rw [hw] at hh
    injection hh with hh
    injection hh with _ h2
    exact ht h2.symm

/-- A row of parts, its memory from block base on. -/
def PR (w : World) (base : Nat) (v : Value) (l : List (Nat × Nat)) : Prop := w.ownsRow base 77 2 v l.length (flatP l)
section
variable {w w' : World} {base : Nat} {v : Value} {l : List (Nat × Nat)}
theorem PR.keep (h : PR w base v l) (e : ∀ g, v.ownBlock = some g → w'.heap[g]? = w.heap[g]?) : PR w' base v l := own_keep h e
theorem PR.lt (h : PR w base v l) : ∀ g, v.ownBlock = some g → base ≤ g ∧ g < w.heap.size := World.ownsRow.lt h
theorem PR.slice (h : PR w base v l) : ∃ A c, v = .slice A l.length c := by
  rcases h.2 with ⟨rfl, h0⟩ | ⟨g, cap, cur, rfl, _⟩
  · exact ⟨none, 0, by rw [h0]⟩
  · exact ⟨_, cap, rfl⟩
theorem PR.nil (w : World) (base : Nat) : PR w base (.slice none 0 0) [] := World.ownsRow_nil _ _ _ _
/-- As a slice. -/
theorem PR.form (h : PR w base v l) : (v = .slice none 0 0 ∧ l = []) ∨ ∃ g cap, v = .slice (some ⟨g, 0, none⟩) l.length cap ∧ l.length ≤ cap ∧ base ≤ g ∧ g < w.heap.size ∧
    ∀ k x, l[k]? = some x → w.cell? ⟨g, k * 2, none⟩ = some (.int .i64 (x.1 : Nat)) ∧ w.cell? ⟨g, k * 2 + 1, none⟩ = some (.int .i64 (x.2 : Nat)) ∧ w.frozen? ⟨g, k * 2, none⟩ = false ∧ w.frozen? ⟨g, k * 2 + 1, none⟩ = false := by
  rcases h.2 with ⟨rfl, h0⟩ | ⟨g, cap, cur, rfl, hg, hh, hn, hm, hs, ht⟩
  · exact .inl ⟨rfl, List.length_eq_zero_iff.1 h0⟩
  · refine .inr ⟨g, cap, rfl, hn, hg, (Array.getElem?_eq_some_iff.1 hh).1, fun k x hx => ?_⟩
    have hk : k < l.length := (List.getElem?_eq_some_iff.1 hx).1
    have hq := flatP_get l k x hx
    have hc : ∀ q, q < l.length * 2 → cur[q]? = (flatP l)[q]? := fun q hq => by
      rw [← ht, List.getElem?_take, if_pos hq]
      simp
    exact ⟨by simp [World.cell?, hh, hc (k * 2) (by omega), hq.1], by simp [World.cell?, hh, hc (k * 2 + 1) (by omega), hq.2], by simp [World.frozen?, hh], by simp [World.frozen?, hh]⟩
end

open BP
def SB.bl (B : SB) : List Nat := [B.s, B.v, B.o, B.b, B.c]
/-- A space: its box p, its parts' slice v. -/
structure SpAt (w : World) (base p : Nat) (v : Value) (s o : Nat) (S : Sp) : Prop where
  box : Whole w p 79 #[.pointer (some ⟨s, 0, none⟩), .int .i64 (o : Nat), v, .int .i64 (S.pr.1 : Nat), .int .i64 (S.pr.2 : Nat), .int .i64 (S.fl : Nat)]
  row : PR w base v S.parts
  lo : base ≤ p
section
variable {w w' : World} {base p s o : Nat} {v : Value} {S : Sp}
theorem SpAt.keep (h : SpAt w base p v s o S) (e : ∀ k, k = p ∨ v.ownBlock = some k → w'.heap[k]? = w.heap[k]?) : SpAt w' base p v s o S :=
  ⟨(e p (.inl rfl)).trans h.box, h.row.keep fun g hg => e g (.inr hg), h.lo⟩
theorem SpAt.later (h : SpAt w base p v s o S) (hb : Below w.heap.size w w') : SpAt w' base p v s o S := h.keep fun k hk => hb.block k (by
  rcases hk with rfl | hk
  · exact h.box.lt
  · exact (h.row.lt k hk).2)
theorem SpAt.aft {L : List Nat} (h : SpAt w base p v s o S) (hb : Aft L w w') (h1 : p ∉ L) (h2 : ∀ g, v.ownBlock = some g → g ∉ L) : SpAt w' base p v s o S := h.keep fun k hk => by
  rcases hk with rfl | hk
  · exact hb.block _ h.box.lt h1
  · exact hb.block _ (h.row.lt k hk).2 (h2 k hk)
theorem SpAt.c0 (h : SpAt w base p v s o S) : w.cell? ⟨p, 0, none⟩ = some (.pointer (some ⟨s, 0, none⟩)) := (h.box.cell 0).trans rfl
theorem SpAt.c1 (h : SpAt w base p v s o S) : w.cell? ⟨p, 1, none⟩ = some (.int .i64 (o : Nat)) := (h.box.cell 1).trans rfl
theorem SpAt.c2 (h : SpAt w base p v s o S) : w.cell? ⟨p, 2, none⟩ = some v := (h.box.cell 2).trans rfl
theorem SpAt.c3 (h : SpAt w base p v s o S) : w.cell? ⟨p, 3, none⟩ = some (.int .i64 (S.pr.1 : Nat)) := (h.box.cell 3).trans rfl
theorem SpAt.c4 (h : SpAt w base p v s o S) : w.cell? ⟨p, 4, none⟩ = some (.int .i64 (S.pr.2 : Nat)) := (h.box.cell 4).trans rfl
theorem SpAt.c5 (h : SpAt w base p v s o S) : w.cell? ⟨p, 5, none⟩ = some (.int .i64 (S.fl : Nat)) := (h.box.cell 5).trans rfl
theorem SpAt.ne (h : SpAt w base p v s o S) : v.ownBlock ≠ some p := own_ne h.row h.box (by decide)
end

/-- Two spaces on a store, all of it made since w0. -/
structure Co (w0 w : World) (B : SB) (C K o o' p p' : Nat) (v v' : Value) (D : Dt) : Prop where
  held : Held w0 w B C K D.own D.wd
  a : SpAt w w0.heap.size p v B.s o D.S
  b : SpAt w w0.heap.size p' v' B.s o' D.T
  ne : p ≠ p'
  rows : ∀ g, v.ownBlock = some g → v'.ownBlock ≠ some g
  out : ∀ x ∈ B.bl, x ≠ p ∧ x ≠ p' ∧ v.ownBlock ≠ some x ∧ v'.ownBlock ≠ some x
def ob (v : Value) : List Nat := v.ownBlock.toList
theorem ob_mem {v : Value} {x : Nat} : x ∈ ob v ↔ v.ownBlock = some x := by
  unfold ob
  cases v.ownBlock <;> simp
  exact eq_comm
/-- All its blocks. -/
def coF (B : SB) (p p' : Nat) (v v' : Value) : List Nat := B.bl ++ [p, p'] ++ ob v ++ ob v'
theorem coF_mem {B : SB} {p p' x : Nat} {v v' : Value} : x ∈ coF B p p' v v' ↔ x ∈ B.bl ∨ x = p ∨ x = p' ∨ v.ownBlock = some x ∨ v'.ownBlock = some x := by
  unfold coF
  simp [ob_mem]
/-- From blocks F to blocks F': no other block that was there has changed. -/
structure Turn (F F' : List Nat) (w w' : World) : Prop where
  aft : Aft F w w'
  new : ∀ x ∈ F', x ∈ F ∨ w.heap.size ≤ x
section
variable {F F' F'' : List Nat} {w w1 w2 : World}
theorem Turn.refl (F : List Nat) (w : World) : Turn F F w w := ⟨Aft.refl _ _, fun _ h => .inl h⟩
theorem Turn.trans (h : Turn F F' w w1) (k : Turn F' F'' w1 w2) : Turn F F'' w w2 := by
  have hs := h.aft.size
  refine ⟨⟨k.aft.os.trans h.aft.os, k.aft.tape.trans h.aft.tape, k.aft.output.trans h.aft.output, Nat.le_trans hs k.aft.size, fun i hi hn => ?_⟩, fun x hx => ?_⟩
  · refine (k.aft.block i (by omega) fun hf => ?_).trans (h.aft.block i hi hn)
    rcases h.new i hf with h1 | h1
    · exact hn h1
    · omega
  · rcases k.new x hx with h1 | h1
    · exact h.new x h1
    · exact .inr (by omega)
theorem Turn.of_below (h : Below w.heap.size w w1) : Turn F F w w1 := ⟨Aft.of_below h, fun _ h => .inl h⟩
theorem Turn.of_aft (h : Aft F w w1) : Turn F F w w1 := ⟨h, fun _ h => .inl h⟩
end
section
variable {w0 w w1 w' : World} {B : SB} {C K o o' p p' : Nat} {v v' u : Value} {D : Dt}
theorem Co.swap (h : Co w0 w B C K o o' p p' v v' D) : Co w0 w B C K o' o p' p v' v D.swap :=
  ⟨h.held, h.b, h.a, h.ne.symm, fun g hg hv => h.rows g hv hg, fun x hx => by obtain ⟨a, b, c, d⟩ := h.out x hx; exact ⟨b, a, d, c⟩⟩
theorem coF_swap : coF B p' p v' v = coF B p' p v' v := rfl
theorem turn_swap {q q' : Nat} {x x' y y' : Value} (h : Turn (coF B p p' x x') (coF B q q' y y') w w1) : Turn (coF B p' p x' x) (coF B q' q y' y) w w1 := by
  refine ⟨h.aft.sub fun z hz => ?_, fun z hz => ?_⟩
  · rw [coF_mem] at hz ⊢
    rcases hz with h | h | h | h | h
    · exact .inl h
    · exact .inr (.inr (.inl h))
    · exact .inr (.inl h)
    · exact .inr (.inr (.inr (.inr h)))
    · exact .inr (.inr (.inr (.inl h)))
  · have h1 := h.new z (by
      rw [coF_mem] at hz ⊢
      rcases hz with h | h | h | h | h
      · exact .inl h
      · exact .inr (.inr (.inl h))
      · exact .inr (.inl h)
      · exact .inr (.inr (.inr (.inr h)))
      · exact .inr (.inr (.inr (.inl h))))
    rcases h1 with h1 | h1
    · left
      rw [coF_mem] at h1 ⊢
      rcases h1 with h | h | h | h | h
      · exact .inl h
      · exact .inr (.inr (.inl h))
      · exact .inr (.inl h)
      · exact .inr (.inr (.inr (.inr h)))
      · exact .inr (.inr (.inr (.inl h)))
    · exact .inr h1
theorem SB.within.mem {lo hi x : Nat} (h : B.within lo hi) (hx : x ∈ B.bl) : lo ≤ x ∧ x < hi := by
  obtain ⟨h1, h2, h3, h4, h5⟩ := h
  simp [SB.bl] at hx
  rcases hx with rfl | rfl | rfl | rfl | rfl <;> assumption
/-- All its blocks lie from w0 on, below w. -/
theorem Co.win (h : Co w0 w B C K o o' p p' v v' D) : ∀ x ∈ coF B p p' v v', w0.heap.size ≤ x ∧ x < w.heap.size := by
  intro x hx
  rcases coF_mem.1 hx with h1 | rfl | rfl | h1 | h1
  · exact h.held.win.mem h1
  · exact ⟨h.a.lo, h.a.box.lt⟩
  · exact ⟨h.b.lo, h.b.box.lt⟩
  · exact h.a.row.lt x h1
  · exact h.b.row.lt x h1
theorem Co.later (h : Co w0 w B C K o o' p p' v v' D) (hT : Tab w0) (hb : Below w.heap.size w w1) : Co w0 w1 B C K o o' p p' v v' D :=
  ⟨h.held.later hT hb, h.a.later hb, h.b.later hb, h.ne, h.rows, h.out⟩
theorem Co.bel (h : Co w0 w B C K o o' p p' v v' D) : Below w0.heap.size w0 w := h.held.bel
/-- Behind a call of the store. -/
theorem Co.store (h : Co w0 w B C K o o' p p' v v' D) (hT : Tab w0) {own wd : Nat → Nat} (ho : OnlyIn [B.o, B.c, B.v] w w1) (hs : StAt w1 B C K own wd) : Co w0 w1 B C K o o' p p' v v' ⟨own, wd, D.S, D.T⟩ := by
  have hL : ∀ x ∈ [B.o, B.c, B.v], x ∈ B.bl := by intro x hx; simp [SB.bl] at hx ⊢; omega
  have hA : Aft [B.o, B.c, B.v] w w1 := Aft.of_in ho fun _ h => h
  refine ⟨h.held.step hT ho hs, h.a.aft hA (fun hx => (h.out p (hL p hx)).1 rfl) (fun g hg hx => (h.out g (hL g hx)).2.2.1 hg), h.b.aft hA (fun hx => (h.out p' (hL p' hx)).2.1 rfl) (fun g hg hx => (h.out g (hL g hx)).2.2.2 hg), h.ne, h.rows, h.out⟩
theorem Co.turn_store (ho : OnlyIn [B.o, B.c, B.v] w w1) : Turn (coF B p p' v v') (coF B p p' v v') w w1 :=
  Turn.of_aft (Aft.of_in ho fun x hx => coF_mem.2 (.inl (by simp [SB.bl] at hx ⊢; omega)))
/-- Behind a change of the first one's box, and maybe of its row. -/
theorem Co.turned (h : Co w0 w B C K o o' p p' v v' D) (hT : Tab w0) {S : Sp} (ha : Aft (p :: ob v) w w1) (hs : SpAt w1 w0.heap.size p u B.s o S) (hu : ∀ g, u.ownBlock = some g → v.ownBlock = some g ∨ w.heap.size ≤ g) : Co w0 w1 B C K o o' p p' u v' ⟨D.own, D.wd, S, D.T⟩ ∧ Turn (coF B p p' v v') (coF B p p' u v') w w1 := by
  have hlt := h.win
  have hm : ∀ x, x ∈ p :: ob v → x ∈ coF B p p' v v' := fun x hx => coF_mem.2 (by
    rcases List.mem_cons.1 hx with e | e
    · exact .inr (.inl e)
    · exact .inr (.inr (.inr (.inl (ob_mem.1 e)))))
  have hle := h.bel.size
  have hb : Below w0.heap.size w w1 := ha.below (fun c hc => (hlt c (hm c hc)).1) hle
  have hB : ∀ x ∈ B.bl, x ∉ p :: ob v := fun x hx hn => by
    obtain ⟨a1, _, a3, _⟩ := h.out x hx
    rcases List.mem_cons.1 hn with e | e
    · exact a1 e
    · exact a3 (ob_mem.1 e)
  have hbl := fun x (hx : x ∈ B.bl) => ha.block x (h.held.win.mem hx).2 (hB x hx)
  have hst : StAt w1 B C K D.own D.wd := h.held.st.blocks fun k hk => hbl k (by simp [SB.bl]; omega)
  have hbw := h.bel.trans hb
  have hne : ∀ g, u.ownBlock = some g → g ≠ p' ∧ v'.ownBlock ≠ some g ∧ g ∉ B.bl := fun g hg => by
    rcases hu g hg with e | e
    · refine ⟨fun e2 => own_ne h.a.row h.b.box (by decide) (e2 ▸ e), h.rows g e, fun hx => (h.out g hx).2.2.1 e⟩
    · refine ⟨fun e2 => ?_, fun e2 => ?_, fun hx => ?_⟩
      · have := h.b.box.lt; omega
      · have := (h.b.row.lt g e2).2; omega
      · have := (h.held.win.mem hx).2; omega
  refine ⟨⟨⟨hst, hbw, h.held.win.more ha.size, hT.below hbw hT.pos⟩, hs, h.b.aft ha (fun hx => ?_) (fun g hg hx => ?_), h.ne, fun g hg => (hne g hg).2.1, fun x hx => ?_⟩, ha.sub hm, fun x hx => ?_⟩
  · rcases List.mem_cons.1 hx with e | e
    · exact h.ne e.symm
    · exact own_ne h.a.row h.b.box (by decide) (ob_mem.1 e)
  · rcases List.mem_cons.1 hx with e | e
    · exact own_ne h.b.row h.a.box (by decide) (e ▸ hg)
    · exact h.rows g (ob_mem.1 e) hg
  · obtain ⟨a1, a2, _, a4⟩ := h.out x hx
    exact ⟨a1, a2, fun e => (hne x e).2.2 hx, a4⟩
  · rcases coF_mem.1 hx with e | e | e | e | e
    · exact .inl (coF_mem.2 (.inl e))
    · exact .inl (coF_mem.2 (.inr (.inl e)))
    · exact .inl (coF_mem.2 (.inr (.inr (.inl e))))
    · rcases hu x e with e | e
      · exact .inl (coF_mem.2 (.inr (.inr (.inr (.inl e)))))
      · exact .inr e
    · exact .inl (coF_mem.2 (.inr (.inr (.inr (.inr e)))))
/-- What a call of the first one leaves. -/
def CoPost (val : Value) (w0 : World) (B : SB) (C K o o' p p' : Nat) (v v' : Value) (D : Dt) (w : World) (e : Ending) (w' : World) : Prop :=
  e = .returned val ∧ ∃ u, Co w0 w' B C K o o' p p' u v' D ∧ Turn (coF B p p' v v') (coF B p p' u v') w w'
/-- What a call with both leaves. -/
def CoPost2 (val : Value) (w0 : World) (B : SB) (C K o o' p p' : Nat) (v v' : Value) (D : Dt) (w : World) (e : Ending) (w' : World) : Prop :=
  e = .returned val ∧ ∃ u u', Co w0 w' B C K o o' p p' u u' D ∧ Turn (coF B p p' v v') (coF B p p' u u') w w'
theorem CoPost.two {val : Value} {w' : World} {e : Ending} (h : CoPost val w0 B C K o o' p p' v v' D w e w') : CoPost2 val w0 B C K o o' p p' v v' D w e w' := by
  obtain ⟨he, u, h1, h2⟩ := h
  exact ⟨he, u, v', h1, h2⟩
theorem CoPost2.swap {val : Value} {e : Ending} {w' : World} {D' : Dt} (h : CoPost2 val w0 B C K o o' p p' v v' D w e w') (hD : D' = D.swap) : CoPost2 val w0 B C K o' o p' p v' v D' w e w' := by
  subst hD
  obtain ⟨he, u, u', h1, h2⟩ := h
  exact ⟨he, u', u, h1.swap, turn_swap h2⟩
end
end Go.Proofs.YteencfldehcbbaaDoor
