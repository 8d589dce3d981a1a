/- A bag of texts beside a bag of the numbers that they stand for. -/
import Derived.Test.YtfmcgejoobbiiaaBgDig
import Derived.Test.YtfmcgejoobbiiaaBgGreat
import Derived.Deep.RegionHeld3
namespace Go.Proofs.Ytfmcgejoobbiiaa
open Go.RowKit Go.Lib Go.Sort

/-- The two bags, made since w0, apart from each other; an act's box beside them, in block t. -/
def TA (w0 w : World) (a b t : Nat) (La Lb : List Int) (cs : Array Value) : Prop :=
  ∃ ra r, SBag w a ra La ∧ IBag w b r Lb ∧ Whole w t 38 cs ∧ (w0.heap.size ≤ a ∧ w0.heap.size ≤ ra) ∧ (w0.heap.size ≤ b ∧ w0.heap.size ≤ r) ∧ (a ≠ b ∧ a ≠ r ∧ ra ≠ b ∧ ra ≠ r) ∧ (t ≠ a ∧ t ≠ ra ∧ t ≠ b ∧ t ≠ r) ∧ Below w0.heap.size w0 w
def TM (w0 w : World) (a b : Nat) (La Lb : List Int) : Prop :=
  ∃ ra r, SBag w a ra La ∧ IBag w b r Lb ∧ (w0.heap.size ≤ a ∧ w0.heap.size ≤ ra) ∧ (w0.heap.size ≤ b ∧ w0.heap.size ≤ r) ∧ (a ≠ b ∧ a ≠ r ∧ ra ≠ b ∧ ra ≠ r) ∧ Below w0.heap.size w0 w
section
variable {w0 w w' : World} {a b t : Nat} {La Lb l : List Int} {cs : Array Value}
theorem TA.tm (h : TA w0 w a b t La Lb cs) : TM w0 w a b La Lb := by
  obtain ⟨r, mr, h1, h2, h3, h4, h5, h6, h7, h8⟩ := h
  exact ⟨r, mr, h1, h2, h4, h5, h6, h8⟩
theorem TM.ta (h : TM w0 w a b La Lb) (cs : Array Value) : TA w0 (w.alloc (.cells cs 38)) a b w.heap.size La Lb cs := by
  obtain ⟨r, mr, h1, h2, h4, h5, h6, h8⟩ := h
  have e1 := h1.blt
  have e2 := h1.lt
  have e3 := h2.blt
  have e4 := h2.lt
  exact ⟨r, mr, h1.alloc _, h2.alloc _, Whole.fresh _ _ _, h4, h5, h6, by omega, h8.alloc h8.size _⟩
theorem TM.bel (h : TM w0 w a b La Lb) : Below w0.heap.size w0 w := by
  obtain ⟨r, mr, h1, h2, h4, h5, h6, h8⟩ := h
  exact h8
theorem TM.tb (h : TM w0 w a b La Lb) : ∃ ra, SBag w a ra La := by
  obtain ⟨r, mr, h1, h2, h4, h5, h6, h8⟩ := h
  exact ⟨r, h1⟩
theorem TM.ib (h : TM w0 w a b La Lb) : ∃ r, IBag w b r Lb := by
  obtain ⟨r, mr, h1, h2, h4, h5, h6, h8⟩ := h
  exact ⟨mr, h2⟩
theorem TA.whole (h : TA w0 w a b t La Lb cs) : Whole w t 38 cs := by
  obtain ⟨r, mr, h1, h2, h3, h4⟩ := h
  exact h3
theorem TM.below (h : TM w0 w a b La Lb) (k : Below w.heap.size w w') : TM w0 w' a b La Lb := by
  obtain ⟨r, mr, h1, h2, h4, h5, h6, h8⟩ := h
  exact ⟨r, mr, h1.below k, h2.below k, h4, h5, h6, h8.trans (k.mono h8.size)⟩
theorem TA.below (h : TA w0 w a b t La Lb cs) (k : Below w.heap.size w w') : TA w0 w' a b t La Lb cs := by
  obtain ⟨r, mr, h1, h2, h3, h4, h5, h6, h7, h8⟩ := h
  exact ⟨r, mr, h1.below k, h2.below k, h3.below k h3.lt, h4, h5, h6, h7, h8.trans (k.mono h8.size)⟩
theorem TA.still (h : TA w0 w a b t La Lb cs) (e1 : w'.heap = w.heap) (e2 : w'.os = w.os) (e3 : w'.tape = w.tape) (e4 : w'.output = w.output) : TA w0 w' a b t La Lb cs :=
  h.below ⟨e2, e3, e4, by rw [e1]; exact Nat.le_refl _, fun k _ => by rw [e1]⟩
theorem TA.wb (h : TA w0 w a b t La Lb cs) {f : FuncId} {args : Array Value} {u : Value} (hc : ∀ r, IBag w b r Lb → Calls Try.prog f args w (WPost 59 3 (Value.int .i64) b r u l w)) :
    Calls Try.prog f args w fun e w' => e = .returned u ∧ TA w0 w' a b t La l cs := by
  obtain ⟨ra, r, h1, h2, h3, h4, h5, h6, h7, h8⟩ := h
  refine (hc r h2).mono ?_
  rintro e w' ⟨rfl, r', k1, k2, k3⟩
  have e3 := h1.blt
  have e4 := h1.lt
  have e5 := h3.lt
  exact ⟨rfl, ra, r', h1.aft k3 (by simp; omega) (by simp; omega), k1, k3.whole h3 (by simp; omega), h4, ⟨h5.1, by have := h8.size; omega⟩, by omega, by omega, h8.trans (k3.below (by simp; exact h5) h8.size)⟩
theorem TA.wa (h : TA w0 w a b t La Lb cs) {f : FuncId} {args : Array Value} {u : Value} (hc : ∀ r, SBag w a r La → Calls Try.prog f args w (WPost 66 9 encS a r u l w)) :
    Calls Try.prog f args w fun e w' => e = .returned u ∧ TA w0 w' a b t l Lb cs := by
  obtain ⟨ra, r, h1, h2, h3, h4, h5, h6, h7, h8⟩ := h
  refine (hc ra h1).mono ?_
  rintro e w' ⟨rfl, r', k1, k2, k3⟩
  have e3 := h2.blt
  have e4 := h2.lt
  have e5 := h3.lt
  exact ⟨rfl, r', r, k1, h2.aft k3 (by simp; omega) (by simp; omega), k3.whole h3 (by simp; omega), ⟨h4.1, by have := h8.size; omega⟩, h5, by omega, by omega, h8.trans (k3.below (by simp; exact h4) h8.size)⟩
theorem TA.put (h : TA w0 w a b t La Lb cs) (hl : Lb.length ≤ 999999) (x : Int) : Calls Try.prog 13 #[.pointer (some ⟨b, 0, none⟩), .int .i64 x] w fun e w' => e = .returned (.bool (decide (x ∉ Lb))) ∧ TA w0 w' a b t La (BG.put x Lb) cs := h.wb fun _ h1 => put_any h1 hl x
theorem TA.del (h : TA w0 w a b t La Lb cs) (hl : Lb.length ≤ 999999) (x : Int) : Calls Try.prog 14 #[.pointer (some ⟨b, 0, none⟩), .int .i64 x] w fun e w' => e = .returned (.bool (decide (x ∈ Lb))) ∧ TA w0 w' a b t La (BG.del x Lb) cs := h.wb fun _ h1 => del_any h1 (by omega) x
theorem TA.putS (h : TA w0 w a b t La Lb cs) (hl : La.length ≤ 999999) (hs : ∀ y ∈ La, Sm y) (x : Int) (hx : Sm x) : Calls Try.prog 29 #[.pointer (some ⟨a, 0, none⟩), .string (T3 x)] w fun e w' => e = .returned (.bool (decide (x ∉ La))) ∧ TA w0 w' a b t (BG.put x La) Lb cs := h.wa fun _ h1 => putS_any h1 hl hs x hx
theorem TA.delS (h : TA w0 w a b t La Lb cs) (hl : La.length ≤ 999999) (hs : ∀ y ∈ La, Sm y) (x : Int) (hx : Sm x) : Calls Try.prog 30 #[.pointer (some ⟨a, 0, none⟩), .string (T3 x)] w fun e w' => e = .returned (.bool (decide (x ∈ La))) ∧ TA w0 w' a b t (BG.del x La) Lb cs := h.wa fun _ h1 => delS_any h1 (by omega) hs x hx
end
/-- What a round of BagTexts begins and ends with. -/
def TxAt (w0 : World) (a b k : Nat) (wr : World) : Prop := ∃ L : List Int, TM w0 wr a b L L ∧ (∀ y ∈ L, Sm y) ∧ L.length ≤ k
theorem m7_id (y : Int) (h : Sm y) : m7 y = y := by
  obtain ⟨h1, h2⟩ := h
  obtain ⟨n, rfl⟩ : ∃ n : Nat, y = n := ⟨y.toNat, by omega⟩
  have h3 : n < 128 := by omega
  have : ∀ i : Fin 128, m7 ((i.val : Nat) : Int) = ((i.val : Nat) : Int) := by decide +kernel
  exact this ⟨n, h3⟩
end Go.Proofs.Ytfmcgejoobbiiaa
