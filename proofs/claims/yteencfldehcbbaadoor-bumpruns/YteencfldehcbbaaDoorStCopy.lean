/- Contract of Copy of package store. -/
import Derived.Test.YteencfldehcbbaaDoorStTake
import Derived.Laws.IdiomCopy
namespace Go.Proofs.YteencfldehcbbaaDoor
open Go.RowKit

/-- copy between slices of one array, as one step of a region that draws. -/
theorem step_copy {P : Program} {ops : Array Oper} {o : Oper} {a : Act} {w : World} {K : Act → World → Prop} {Q : Exit → Act → World → Prop} {E : Prop} (hgd : o.guard = none) (d s : Operand) (dT sT : TypeId)
    (ho : o.op = .call { callee := .builtin .copy, args := #[d, s], argTypes := #[dT, sT] }) (elem : TypeId) (hu : P.underlying dT = some (.slice elem)) (hsz : (P.info? elem).map (·.size) = some 1)
    (b off dLen dCap : Nat) (ad : Addr) (sLen sCap : Nat) (hd : a.eval d = .slice (some ⟨b, off, none⟩) dLen dCap) (hs : a.eval s = .slice (some ad) sLen sCap) (cs : List Value) (hn : cs.length = Nat.min sLen dLen)
    (hsrc : ∀ j v, cs[j]? = some v → w.cell? (ad.add j) = some v) (hc : ∀ j, j < cs.length → (w.cell? ⟨b, off + j, none⟩).isSome = true) (hf : ∀ j, j < cs.length → w.frozen? ⟨b, off + j, none⟩ = false) (h1 : ∀ v ∈ cs, v.oneCell' = true)
    (h : K (a.put o.dst (goInt cs.length)) (w.setCells b off cs)) :
    if Region.wanted o (yielded ops a.tmps) = true then Oper.wp P o a w K Q else E := by
  have hw : Region.wanted o (yielded ops a.tmps) = true := by simp [Region.wanted, hgd]
  rw [if_pos hw]
  have hrun := run_copy_cells (P := P) w dT sT o.type elem b off dLen dCap ad sLen sCap cs hu hsz hn hsrc hc hf h1
  unfold Oper.wp
  simp [execOp, ho, resolve, invoke, builtin, hd, hs, hrun, Result.andThen]
  exact h
theorem step_copy0 {P : Program} {ops : Array Oper} {o : Oper} {a : Act} {w : World} {K : Act → World → Prop} {Q : Exit → Act → World → Prop} {E : Prop} (hgd : o.guard = none) (d s : Operand) (dT sT : TypeId)
    (ho : o.op = .call { callee := .builtin .copy, args := #[d, s], argTypes := #[dT, sT] }) (elem : TypeId) (hu : P.underlying dT = some (.slice elem)) (hsz : (P.info? elem).map (·.size) = some 1)
    (dp sp : Option Addr) (dCap sCap : Nat) (hd : a.eval d = .slice dp 0 dCap) (hs : a.eval s = .slice sp 0 sCap)
    (h : K (a.put o.dst (goInt 0)) w) :
    if Region.wanted o (yielded ops a.tmps) = true then Oper.wp P o a w K Q else E := by
  have hw : Region.wanted o (yielded ops a.tmps) = true := by simp [Region.wanted, hgd]
  rw [if_pos hw]
  have hrun := run_copy_none (P := P) w dT sT o.type elem dp sp 0 dCap 0 sCap hu hsz rfl
  unfold Oper.wp
  simp [execOp, ho, resolve, invoke, builtin, hd, hs, hrun, Result.andThen]
  exact h

/-- What Copy says. -/
def copyE (own : Nat → Nat) (C K : Nat) (to fr n : Int) : Int :=
  if inB (C * K) to n = true ∧ inB (C * K) fr n = true then (if anyFree own K to.toNat n.toNat = true ∨ anyFree own K fr.toNat n.toNat = true then 17 else 0) else 3
/-- The words behind it. -/
def cpWd (wd : Nat → Nat) (to fr n q : Nat) : Nat := if to ≤ q ∧ q < to + n then wd (fr + (q - to)) else wd q

section
variable {w w' : World} {B : SB} {C K : Nat} {own wd : Nat → Nat}
theorem StAt.copied (h : StAt w B C K own wd) (t f m : Nat) (ht : t + m ≤ C * K) :
    OnlyIn [B.o, B.c, B.v] w (w.setCells B.v t ((List.range m).map fun i => .int .u64 (wd (f + i) : Nat))) ∧ StAt (w.setCells B.v t ((List.range m).map fun i => .int .u64 (wd (f + i) : Nat))) B C K own (cpWd wd t f m) := by
  obtain ⟨⟨n1, n2, n3, n4⟩, ⟨n5, n6, n7⟩, n8, n9⟩ := h.ne
  have ha := OnlyAt.setCells B.v ((List.range m).map fun i => .int .u64 (wd (f + i) : Nat)) t w
  have hO : OnlyIn [B.o, B.c, B.v] w (w.setCells B.v t ((List.range m).map fun i => .int .u64 (wd (f + i) : Nat))) := OnlyIn.of_at ha (by simp)
  obtain ⟨ws, hm, hq⟩ := h.map
  refine ⟨hO, h.turn hO ?_ (h.orow.block (ha.block _ (Ne.symm n5))) ⟨ws, hm.blocks (ha.block _ (Ne.symm n6)) (ha.block _ (Ne.symm n7)), hq⟩ (fun q => ?_) h.olt h.opast⟩
  · have := h.wrow.storedMany (g := fun q => wd (f + (q - t))) t ((List.range m).map fun i => .int .u64 (wd (f + i) : Nat)) (by simpa using ht) (fun j v hv => by
      simp only [List.getElem?_map, Option.map_eq_some_iff] at hv
      obtain ⟨i, hi, rfl⟩ := hv
      have hlt : j < m := by
        rcases Nat.lt_or_ge j m with h | h
        · exact h
        · rw [List.getElem?_eq_none (by simpa using h)] at hi; cases hi
      rw [List.getElem?_range hlt] at hi
      injection hi with hi
      subst hi
      rw [show t + j - t = j by omega])
    refine this.congr fun q hq => ?_
    simp only [List.length_map, List.length_range]
    rfl
  · unfold cpWd
    split
    · exact h.wlt _
    · exact h.wlt _
end
end Go.Proofs.YteencfldehcbbaaDoor
