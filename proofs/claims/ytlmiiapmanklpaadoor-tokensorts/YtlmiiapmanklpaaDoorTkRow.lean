/- Words for a row of tokens in a block of the call's own; the contract of slices.SortFunc over it. -/
import Derived.Test.YtlmiiapmanklpaaDoorTkLeaf
import Derived.Test.YtlmiiapmanklpaaDoorTkShelf2
import Derived.Test.YtlmiiapmanklpaaDoorBlk
import Derived.Lib.OwnBridge
import Derived.Laws.AppendOwn
namespace Go.Proofs.YtlmiiapmanklpaaDoor
open Go.RowKit Go.Sort Go.Lib

/-- But for block c the world is as it was. -/
structure Only (c : Nat) (w w' : World) : Prop where
  os : w'.os = w.os
  tape : w'.tape = w.tape
  output : w'.output = w.output
  size : w'.heap.size = w.heap.size
  block : ∀ k, k ≠ c → w'.heap[k]? = w.heap[k]?
theorem Only.refl (c : Nat) (w : World) : Only c w w := ⟨rfl, rfl, rfl, rfl, fun _ _ => rfl⟩
theorem Only.trans {c : Nat} {a b d : World} (h : Only c a b) (k : Only c b d) : Only c a d :=
  ⟨k.os.trans h.os, k.tape.trans h.tape, k.output.trans h.output, k.size.trans h.size, fun i hi => (k.block i hi).trans (h.block i hi)⟩
theorem Only.setCell {c : Nat} {a w : World} (h : Only c a w) (o : Nat) (u : Value) : Only c a (w.setCell ⟨c, o, none⟩ u) :=
  h.trans ⟨rfl, rfl, rfl, by simp [World.setCell], fun k hk => Below.heap_setCell _ _ _ _ hk⟩
theorem Only.drew {c : Nat} {a w : World} (h : Only c a w) : Only c a w.drew := ⟨h.os, h.tape, h.output, h.size, h.block⟩
theorem Only.below {c B : Nat} {w w' : World} (h : Only c w w') (hB : B ≤ c) : Below B w w' :=
  ⟨h.os, h.tape, h.output, by rw [h.size]; exact Nat.le_refl _, fun k hk => h.block k (by omega)⟩
theorem Only.setCells (b : Nat) : ∀ (vs : List Value) (o : Nat) (w : World), Only b w (w.setCells b o vs)
  | [], _, w => Only.refl b w
  | v :: vs, o, w => ((Only.refl b w).setCell o v).trans (Only.setCells b vs (o + 1) _)

/-- The tokens d lie in block g, from its start on; none of these cells is frozen. -/
def RA (w : World) (g : Nat) (d : Array (Int × Int)) : Prop := ∀ j, j < d.size → w.cell? ⟨g, j * 2, none⟩ = some (.int .i64 d[j]!.1) ∧ w.cell? ⟨g, j * 2 + 1, none⟩ = some (.int .i64 d[j]!.2) ∧ w.frozen? ⟨g, j * 2, none⟩ = false ∧ w.frozen? ⟨g, j * 2 + 1, none⟩ = false

/-- A token's two cells. -/
def encT (x : Int × Int) : List Value := [.int .i64 x.1, .int .i64 x.2]
theorem RA.holds {w : World} {g : Nat} {d : Array (Int × Int)} (h : RA w g d) : HoldsK encT 2 w g 0 d := by
  intro j hj
  have hs : (flatK encT 2 d).size = d.size * 2 := by simp [flatK]
  rw [hs] at hj
  simp only [id_eq, Nat.zero_add]
  rw [get_flatK encT 2 d j hj]
  obtain ⟨h0, h1, f0, f1⟩ := h (j / 2) (by omega)
  rcases Nat.mod_two_eq_zero_or_one j with e | e
  · rw [e, show j = j / 2 * 2 by omega]
    rw [show (j / 2 * 2) / 2 = j / 2 by omega]
    exact ⟨h0, f0⟩
  · rw [e, show j = j / 2 * 2 + 1 by omega]
    rw [show (j / 2 * 2 + 1) / 2 = j / 2 by omega]
    exact ⟨h1, f1⟩
theorem RA.of_holds {w : World} {g : Nat} {d : Array (Int × Int)} (h : HoldsK encT 2 w g 0 d) : RA w g d := by
  intro j hj
  have hs : (flatK encT 2 d).size = d.size * 2 := by simp [flatK]
  have a0 := h (j * 2) (by rw [hs]; omega)
  have a1 := h (j * 2 + 1) (by rw [hs]; omega)
  simp only [id_eq, Nat.zero_add] at a0 a1
  rw [get_flatK encT 2 d (j * 2) (by omega), show j * 2 / 2 = j by omega, show j * 2 % 2 = 0 by omega] at a0
  rw [get_flatK encT 2 d (j * 2 + 1) (by omega), show (j * 2 + 1) / 2 = j by omega, show (j * 2 + 1) % 2 = 1 by omega] at a1
  exact ⟨a0.1, a1.1, a0.2, a1.2⟩

theorem encT_len (x : Int × Int) : (encT x).length = 2 := rfl
theorem encT_one (x : Int × Int) (v : Value) (h : v ∈ encT x) : v.oneCell' = true := by
  simp [encT] at h
  rcases h with rfl | rfl <;> rfl
theorem cmpLays (blk off size : Nat) (w : World) : CmpLays Tryd.prog 15 #[] encT 2 TM.cmp blk off size w := fun _ _ _ _ x y => tcompare_any x y _
theorem ltOf_cmp : ltOf TM.cmp = TM.lt := rfl

theorem sortFunc_any (g cap : Nat) (d : Array (Int × Int)) (w : World) (hH : RA w g d) (hg : g < w.heap.size) (hsz : d.size < 4611686018427387904) (B : Nat) (hB : B ≤ g) :
    Calls Tryd.prog 22 #[.slice (some ⟨g, 0, none⟩) d.size cap, .func (.func 15) #[] #[]] w fun e w' => e = .returned (.tuple #[]) ∧ Below B w w' ∧ RA w' g (TM.row d.toList).toArray := by
  have eg : ∀ args w, (callFunc 15 args).run Tryd.prog w = .ok (.enter 15 args) w := enters_of Tryd.func15 (by kernel_rfl) rfl
  have hcon := AnyQ.slices_SortFunc_total Tryd.sortTk 2 Tryd.isAgg23 Tryd.sizeOf23 encT encT_len encT_one TM.cmp TM.swo 15 #[] g 0 cap d w eg (cmpLays g 0 d.size w) hH.holds hg hsz TM.parts
  refine Calls.mono hcon ?_
  rintro e w' ⟨he, n, os, rfl⟩
  have hp : HoldsK encT 2 (putRowK encT 2 (Sort.ahead w n) g 0 (TM.row d.toList).toArray) g 0 (TM.row d.toList).toArray :=
    holdsK_putRowK encT 2 (Sort.ahead w n) g 0 d _ (holdsK_ahead encT 2 w n g 0 d hH.holds) (by simp [TM.row_len])
  have hb : Below B w (putRowK encT 2 (Sort.ahead w n) g 0 (TM.row d.toList).toArray) := below_putRow (Below.refl B w) hB
  have hsize : (putRowK encT 2 (Sort.ahead w n) g 0 (TM.row d.toList).toArray).heap.size = w.heap.size := by simp [putRowK, putRow, mapBlock, Sort.ahead]
  refine ⟨he, ?_, RA.of_holds (holdsK_grow encT 2 _ os g 0 _ (Nat.lt_of_lt_of_eq hg hsize.symm) hp)⟩
  exact hb.trans (below_grow _ (Nat.le_trans hB (Nat.le_of_lt (Nat.lt_of_lt_of_eq hg hsize.symm))) 0 os)

/-- Where no token is. -/
theorem sortFunc_none (p : Option Addr) (cap : Nat) (w : World) :
    Calls Tryd.prog 22 #[.slice p 0 cap, .func (.func 15) #[] #[]] w fun e w' => e = .returned (.tuple #[]) ∧ w' = w :=
  AnyF.slices_SortFunc_none Tryd.sortTk p cap _ w

/-- The cells of a list of tokens. -/
def flatT (l : List (Int × Int)) : List Value := l.flatMap encT
theorem flatT_len (l : List (Int × Int)) : (flatT l).length = l.length * 2 := by
  induction l with
  | nil => rfl
  | cons x l ih => simp [flatT, encT] at *; omega
theorem flatT_get : ∀ (l : List (Int × Int)) (j : Nat) (x : Int × Int), l[j]? = some x → (flatT l)[j * 2]? = some (.int .i64 x.1) ∧ (flatT l)[j * 2 + 1]? = some (.int .i64 x.2)
  | [], j, x, h => by simp at h
  | y :: l, 0, x, h => by
    simp at h
    subst h
    exact ⟨rfl, rfl⟩
  | y :: l, j + 1, x, h => by
    have ih := flatT_get l j x (by simpa using h)
    have e : flatT (y :: l) = .int .i64 y.1 :: .int .i64 y.2 :: flatT l := rfl
    rw [e, show (j + 1) * 2 = j * 2 + 1 + 1 by omega]
    exact ⟨ih.1, ih.2⟩
theorem flatT_one (l : List (Int × Int)) : ∀ u ∈ flatT l, u.oneCell' = true := by
  intro u hu
  obtain ⟨x, _, hx⟩ := List.mem_flatMap.1 hu
  exact encT_one x u hx

theorem RA.of_own {w : World} {B g cap : Nat} {l : List (Int × Int)} (h : w.ownsRow B 23 2 (.slice (some ⟨g, 0, none⟩) l.length cap) l.length (flatT l)) : RA w g l.toArray ∧ B ≤ g ∧ g < w.heap.size := by
  rcases h.2 with ⟨e, _⟩ | ⟨g', cap', cur, e, hB, hh, hn, _, hcur, htake⟩
  · cases e
  · injection e with e1 e2 e3
    injection e1 with e1
    injection e1 with e1
    subst e1
    have hlt : g < w.heap.size := (Array.getElem?_eq_some_iff.1 hh).1
    refine ⟨fun j hj => ?_, hB, hlt⟩
    have hj' : j < l.length := by simpa using hj
    have hg := flatT_get l j l[j] (List.getElem?_eq_getElem hj')
    have hd : l.toArray[j]! = l[j] := by rw [getElem!_pos l.toArray j (by simpa using hj')]; simp
    have hc : ∀ q, q < l.length * 2 → cur[q]? = (flatT l)[q]? := fun q hq => by
      rw [← htake, List.getElem?_take, if_pos hq]
      simp
    rw [hd]
    refine ⟨?_, ?_, ?_, ?_⟩
    · simp [World.cell?, hh, hc (j * 2) (by omega), hg.1]
    · simp [World.cell?, hh, hc (j * 2 + 1) (by omega), hg.2]
    · simp [World.frozen?, hh]
    · simp [World.frozen?, hh]
end Go.Proofs.YtlmiiapmanklpaaDoor
