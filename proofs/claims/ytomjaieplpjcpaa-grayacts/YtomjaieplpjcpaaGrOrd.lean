/- The contract of graph's Order. -/
import Derived.Test.YtomjaieplpjcpaaGrTg
import Derived.WalkMore
namespace Go.Proofs.Ytomjaieplpjcpaa
open Go.RowKit Go.Lib Go.Sort Go.Maps
open Go.ChangeShapes (lits)
open Go.WideElems (Fit rd rg pl rd_val)

theorem ZI.tg {es : List (Int × Int)} (h : EI es) (x : Int) : ZI (GM.tg es x) := fun _ hy => (h _ (GM.mem_tg.1 hy)).2
theorem ZI.walk {es : List (Int × Int)} {rs : List Int} (h : EI es) (hr : ZI rs) (k : Nat) : ZI (GM.walk es rs k) := fun y hy => by
  rcases List.mem_append.1 (GM.walk_from hy) with h1 | h1
  · exact hr y h1
  · obtain ⟨e, he, rfl⟩ := List.mem_map.1 h1
    exact (h e he).2
theorem ZI.ord {es : List (Int × Int)} {rs : List Int} (h : EI es) (hr : ZI rs) : ZI (GM.ord es rs) := ZI.walk h hr _

theorem row_notmap {w : World} {lo e size n c : Nat} {v : Value} {xs : List Value} {en : Array MapEntry} {cl : Nat} (h : w.ownsRow lo e size v n xs) (hc : w.heap[c]? = some (.map en cl)) : some c ≠ v.ownBlock := by
  rcases h.2 with ⟨rfl, _⟩ | ⟨g, cap, cur, rfl, _, hh, _⟩
  · simp [Value.ownBlock]
  · intro e1
    simp [Value.ownBlock] at e1
    subst e1
    rw [hc] at hh
    cases hh
theorem CmAt.map {w : World} {m : Nat} {l : List Int} (h : CmAt w m l) : ∃ en cl, w.heap[m]? = some (.map en cl) := by
  obtain ⟨D, ⟨es, cl, hb, _⟩, _⟩ := h
  exact ⟨es, cl, hb⟩
theorem NewZ.grown {w w' : World} {base : Nat} {v : Value} {l : List Int} {row : Option Nat} (h : NewZ base w v l) (hg : w.grownBy w' row) (hne : v.ownBlock = none ∨ v.ownBlock ≠ row) : NewZ base w' v l := World.ownsRow.kept h hg hne

/-- What Order holds: who has been come to, as a map and as a row. -/
structure OrS (w1 : World) (v : Value) (l : List Int) (wr : World) : Prop where
  row : NewZ w1.heap.size wr v l
  come : CmAt wr w1.heap.size l
  bel : Below w1.heap.size w1 wr
section
variable {w1 wr w2 w3 : World} {v v' : Value} {l : List Int} {x : Int}
theorem OrS.made (w : World) : OrS w (.slice none 0 0) [] (w.alloc (.map #[] 0)) := ⟨NewZ.nil _ _, CmAt.made w, (Below.refl _ _).alloc (Nat.le_refl _) _⟩
theorem OrS.ne (h : OrS w1 v l wr) : v.ownBlock = none ∨ v.ownBlock ≠ some w1.heap.size := by
  obtain ⟨en, cl, hb⟩ := h.come.map
  exact .inr fun e => row_notmap h.row.own hb e.symm
theorem OrS.add {o : Obj} (h : OrS w1 v l wr) (h2 : CmAt w2 w1.heap.size (l ++ [x])) (g2 : wr.grownBy w2 (some w1.heap.size)) (h3 : w3.ownsRow w1.heap.size 3 1 v' (l.length + 1) (l.map (Value.int .i64) ++ [.int .i64 x])) (g3 : (w2.alloc o).grownBy w3 v.ownBlock) : OrS w1 v' (l ++ [x]) w3 := by
  have hs := h.bel.size
  have h2s := g2.size
  refine ⟨NewZ.snoc h3, h2.keep ?_, ?_⟩
  · have hlt := h2.lt
    have e1 := g3.block w1.heap.size (by simp; omega) (h.ne.elim (fun e => by rw [e]; simp) fun e c => e c.symm)
    rw [e1]
    exact Below.heap_alloc w2 o _ hlt
  · exact ((h.bel.grown g2 hs (fun j hj => by cases hj; exact Nat.le_refl _)).alloc (by omega) o).grown g3 (by simp; omega) (fun j hj => (h.row.own.lt j hj).1)
end

/-- At the outer loop's head. -/
structure OrH (w1 : World) (es : List (Int × Int)) (rs : List Int) (k : Nat) (v : Value) (A : Option Addr) (n : Nat) (l row : List Int) (wr : World) : Prop where
  st : OrS w1 v l wr
  zs : ZS w1 A n row
  int : ZI row
  eq : GM.adds l row = GM.walk es rs k
  lo : k ≤ l.length
  few : n ≤ 1000

end Go.Proofs.Ytomjaieplpjcpaa
