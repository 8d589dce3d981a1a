/- A range over a function whose body has rows of its own that grow: they lie from a block hi on that the iterator chooses, behind what it keeps for itself. -/
import Derived.Test.YteneadimchhhhaaGreatDoorAdLaw
namespace Go.Proofs.YteneadimchhhhaaGreatDoor
open Go.RowKit Go.Shelf

/-- What an iterator tells, to whoever abides the turn of what was laid since, and is no cells: whose own rows lie from a block hi on that the iterator chooses. -/
def SeqOwnH {α : Type} (n : Nat) (P : Program) (g : Nat) (lb : Array Value) (encs : α → Array Value) (Kp : Nat → World → World → Prop) (xs : List α) (w : World) : Prop :=
  ∀ (l : Nat) (J Jx : Nat → List α → World → Prop) (W : World), Below w.heap.size w W → w.heap.size + 2 ≤ W.heap.size → (∀ hi, OwnFrom W.heap.size (J hi)) → (∀ hi, OwnFrom W.heap.size (Jx hi)) →
    (∀ hi pre x W1, W.heap.size ≤ hi → hi ≤ W1.heap.size → pre ++ [x] <+: xs → J hi pre W1 → YieldAt Fence.wide (n - 1) P l (encs x) W1 fun e W' => (e = .returned (.bool true) ∧ J hi (pre ++ [x]) W' ∧ Kp hi W1 W') ∨ (e = .returned (.bool false) ∧ Jx hi (pre ++ [x]) W' ∧ Kp hi W1 W')) →
    (∀ hi, J hi [] W) → CallsIn Fence.wide n P g (#[.func (.yield l) #[] #[]] ++ lb) W fun e W' => (∃ v, e = .returned v) ∧ ((∃ hi, J hi xs W') ∨ ∃ hi pre, Jx hi pre W')

theorem wpIn_range_farH {α : Type} {P : Program} {n : Nat} {g : Operand} {ps : Array Tmp} {assign body : Code} {Q : Exit → Act → World → Prop} {a : Act} {w : World}
    (h1 : 1 ≤ n) {gf : Nat} {lb : Array Value} (hg : a.eval g = .func (.func gf) #[] lb) (eg : ∀ args w, (callFunc gf args).run P w = .ok (.enter gf args) w)
    {encs : α → Array Value} {Kp : Nat → World → World → Prop} {xs : List α} {w0 : World} (hseq : SeqOwnH (n - 1) P gf lb encs Kp xs w0)
    (hKt : ∀ (hi : Nat) {A B C : World}, Kp hi A B → Kp hi B C → Kp hi A C) (hKb : ∀ (hi : Nat) (W : World) (r r' : Loop), W.heap[w.heap.size + 1]? = some (.loop r) → Kp hi W (W.putObj (w.heap.size + 1) (.loop r'))) (hb0 : Below w0.heap.size w0 w) (hps : ∀ x, (encs x).size = ps.size)
    (I : Nat → List α → World → Prop) (Ix : Nat → Code → List α → World → Prop) (hI : ∀ hi, OwnFrom w.heap.size (I hi)) (hIx : ∀ hi c, OwnFrom w.heap.size (Ix hi c)) (h0 : ∀ hi, I hi [] w) (Ax : α → Act → World → Prop) (hAx : ∀ x a', OwnFrom w.heap.size (fun (_ : Unit) W => Ax x a' W))
    (hassign : ∀ (l hi : Nat) (pre : List α) (x : α) (W : World) (K : Act → World → Prop), w.heap.size + 2 ≤ hi → hi ≤ W.heap.size → I hi pre W → pre ++ [x] <+: xs → (∀ a' W', KeepsFrom w.heap.size W W' → Kp hi W W' → I hi pre W' → Ax x a' W' → K a' W') →
      assign.wpIn (Fence.wide.inRound l) (n - 1 - 1) P (Exit.then K (fun _ _ _ => False)) { tmps := (ps.zip (encs x)).foldl (fun t (p, v) => t.setIfInBounds p v) a.tmps, defers := [] } W)
    (hbody : ∀ (l hi : Nat) (pre : List α) (x : α) (a' : Act) (W : World), w.heap.size + 2 ≤ hi → hi ≤ W.heap.size → I hi pre W → Ax x a' W → pre ++ [x] <+: xs → body.wpIn (Fence.wide.inRound l) (n - 1 - 1) P (farPost w.heap.size (Kp hi) (I hi) (Ix hi) (pre ++ [x]) W) a' W)
    (hdone : ∀ (D hi : Nat) (W : World), w.heap.size ≤ D → I hi xs W → W.heap[D]? = some (.deferred (some [])) → Q .normal { a with defers := { target := .collected D, args := #[] } :: a.defers } W)
    (hstop : ∀ (D hi : Nat) (c : Code) (pre : List α) (W : World), w.heap.size ≤ D → Ix hi c pre W → W.heap[D]? = some (.deferred (some [])) → c.wpIn Fence.wide n P Q { a with defers := { target := .collected D, args := #[] } :: a.defers } W) :
    (Code.rangeFunc g ps assign body).wpIn Fence.wide n P Q a w := by
  refine wpIn_rangeFunc fun fn hfn => ?_
  obtain ⟨D, hD⟩ : ∃ D, D = w.heap.size := ⟨_, rfl⟩
  obtain ⟨R, hR⟩ : ∃ R : LoopState → Option Code → Loop, ∀ st pe, R st pe = { state := st, pending := pe, fn, tmps := a.tmps, params := ps, assign, body, defers := D } := ⟨_, fun _ _ => rfl⟩
  obtain ⟨W1, hW1⟩ : ∃ W1, W1 = (w.alloc (.deferred (some []))).alloc (.loop (R .ready none)) := ⟨_, rfl⟩
  have sz : W1.heap.size = D + 2 := by rw [hW1, hD]; simp
  have hBk : Book D (R .ready none) W1 := by
    rw [hW1, hD]
    refine ⟨?_, (Below.heap_alloc _ _ _ (by simp)).trans (World.alloc_heap_new w _)⟩
    have := World.alloc_heap_new (w.alloc (.deferred (some []))) (.loop (R .ready none))
    rwa [World.size_alloc] at this
  have hI1 : ∀ hi, I hi [] W1 := fun hi => by rw [hW1]; exact (hI hi).alloc _ ((hI hi).alloc _ (h0 hi))
  have hb1 : Below w0.heap.size w0 W1 := by rw [hW1]; exact hb0.trans ((((Below.refl _ w).alloc (Nat.le_refl _) _).alloc (by simp) _).mono hb0.size)
  rw [← hD] at hI hIx hAx hKb hassign hbody hdone hstop
  refine ⟨D + 1, [{ target := .collected D, args := #[] }], W1, { target := .fn (.func gf) lb, args := #[.func (.yield (D + 1)) #[] #[]] }, W1, gf, #[.func (.yield (D + 1)) #[] #[]] ++ lb, W1, ?_, ?_, ?_, ?_, fun _ => h1, ?_⟩
  · rw [hW1, hR, hD]
    exact run_enterLoop_outer _ _ _ _ _
  · simp only [resolve, hg]
    simp [go_sem]
  · intro f' _
    trivial
  · simp [invoke, go_sem, eg]
  have down : ∀ {A B : World} {row : Option Nat}, (∀ r, row = some r → W1.heap.size ≤ r ∧ ∃ o : Obj, A.heap[r]? = some o ∧ o.isCells = false) → (∀ r, row = some r → D ≤ r ∧ ∃ o : Obj, A.heap[r]? = some o ∧ o.isCells = false) := fun hr r e => ⟨by have := (hr r e).1; omega, (hr r e).2⟩
  have far : ∀ {A B : World} {row : Option Nat}, (∀ r, row = some r → W1.heap.size ≤ r ∧ ∃ o : Obj, A.heap[r]? = some o ∧ o.isCells = false) → (∀ r, row = some r → D + 2 ≤ r) := fun hr r e => by have := (hr r e).1; omega
  refine (hseq (D + 1) (fun hi pre W => I hi pre W ∧ Book D (R .ready none) W) (fun hi pre W => ∃ c, Ix hi c pre W ∧ Book D (R .done (some c)) W) W1 hb1 (by have := hb0.size; omega)
    (fun hi s A B row hs hg hr => ⟨hI hi s A B row hs.1 hg (down (B := B) hr), hs.2.grow hg (far (B := B) hr)⟩)
    (fun hi s A B row ⟨c, h1, h2⟩ hg hr => ⟨c, hIx hi c s A B row h1 hg (down (B := B) hr), h2.grow hg (far (B := B) hr)⟩) ?_ (fun hi => ⟨hI1 hi, hBk⟩)).mono ?_
  · rintro hh pre x W hlo hup hpre ⟨hi, hbk⟩
    rw [sz] at hlo
    have hy := run_yield (P := P) (args := encs x) hbk.1 (by rw [hR]; exact hps x)
    rw [hR] at hy
    refine ⟨fn, _, assign, body, hy, roundIn_of_wpIn hfn (hassign _ hh pre x W _ hlo hup hi hpre fun a' Wa hkf hkp hia hax => ?_)⟩
    have hbka := hbk.keeps hkf
    refine ⟨_, run_beginRound hbka.1 (by rw [hR]), ?_⟩
    have busy : ({ R .ready none with state := .busy } : Loop) = R .busy none := by rw [hR, hR]
    rw [busy]
    have hbk2 := hbka.put (R .busy none)
    have k2 : Kp hh W (Wa.putObj (D + 1) (.loop (R .busy none))) := hKt hh hkp (hKb hh _ _ _ hbka.1)
    refine wpIn_mono (hbody _ hh pre x a' _ hlo (by have h1 := hkf.size; have h2 := (grownBy_putObj' Wa (D + 1) (.loop (R .busy none))).size; omega) ((hI hh).putObj _ hia (by omega) hbka.1 rfl) ((hAx x a').putObj (s := ()) _ hax (by omega) hbka.1 rfl) hpre) ?_
    have fin : ∀ (jump : Option Code) (W3 : World), KeepsFrom D (Wa.putObj (D + 1) (.loop (R .busy none))) W3 →
        (Instr.endRound (D + 1) jump).run P W3 = .ok (.bool jump.isNone) (W3.putObj (D + 1) (.loop (R (if jump.isNone then .ready else .done) jump))) ∧ Book D (R .busy none) W3 := fun jump W3 hk3 => by
      have h3 := hbk2.keeps hk3
      have := run_endRound (P := P) jump h3.1
      rw [hR] at this
      rw [hR]
      exact ⟨this, h3⟩
    rintro e a3 W3 hp
    cases e with
    | normal =>
      obtain ⟨hk3, hkp3, hi3⟩ := hp
      obtain ⟨hr, h3⟩ := fin none W3 hk3
      exact ⟨_, _, hr, .inl ⟨rfl, ⟨(hI hh).putObj _ hi3 (by omega) h3.1 rfl, h3.put _⟩, hKt hh (hKt hh k2 hkp3) (hKb hh _ _ _ h3.1)⟩⟩
    | ret =>
      obtain ⟨hr, h3⟩ := fin (some .ret) W3 hp.1
      exact ⟨_, _, hr, .inr ⟨rfl, ⟨.ret, (hIx hh _).putObj _ hp.2.2 (by omega) h3.1 rfl, h3.put _⟩, hKt hh (hKt hh k2 hp.2.1) (hKb hh _ _ _ h3.1)⟩⟩
    | exit id =>
      obtain ⟨hr, h3⟩ := fin (some (.exit id)) W3 hp.1
      exact ⟨_, _, hr, .inr ⟨rfl, ⟨.exit id, (hIx hh _).putObj _ hp.2.2 (by omega) h3.1 rfl, h3.put _⟩, hKt hh (hKt hh k2 hp.2.1) (hKb hh _ _ _ h3.1)⟩⟩
    | goto t =>
      obtain ⟨hr, h3⟩ := fin (some (.goto t)) W3 hp.1
      exact ⟨_, _, hr, .inr ⟨rfl, ⟨.goto t, (hIx hh _).putObj _ hp.2.2 (by omega) h3.1 rfl, h3.put _⟩, hKt hh (hKt hh k2 hp.2.1) (hKb hh _ _ _ h3.1)⟩⟩
    | panic ch => exact hp.elim
    | outgrown => exact hp.elim
  · rintro e W2 ⟨⟨v, rfl⟩, ⟨hh, hi, hbk⟩ | ⟨hh, pre, c, hi, hbk⟩⟩
    · have hE := run_endLoop (P := P) hbk.1 (by rw [hR]; simp)
      rw [hR] at hE
      exact ⟨none, _, hE, hdone D hh _ (Nat.le_refl _) ((hI hh).putObj _ hi (by omega) hbk.1 rfl) ((World.putObj_heap_other (by omega)).trans hbk.2)⟩
    · have hE := run_endLoop (P := P) hbk.1 (by rw [hR]; simp)
      rw [hR] at hE
      exact ⟨some c, _, hE, hstop D hh c pre _ (Nat.le_refl _) ((hIx hh c).putObj _ hi (by omega) hbk.1 rfl) ((World.putObj_heap_other (by omega)).trans hbk.2)⟩
end Go.Proofs.YteneadimchhhhaaGreatDoor
