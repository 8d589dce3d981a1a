/- Contracts of add, drop, Cut, Put. -/
import Derived.Test.YtehkcflbdmkjpaaRsCol
import Derived.Deep.RegionHeld3
import Derived.StillTailTactics
import Derived.WalkSpells
namespace Go.Proofs.Ytehkcflbdmkjpaa
open Go.RowKit Go.Maps

section
variable {w w' : World} {g c c' k : Nat} {I : List Nat} {mem mem' : Int → List RM.R} {z : Int} {r : RM.R} {G : Int → Option Nat}
/-- One group has turned, and is there still. -/
theorem Grp.turn (h : Grp w g c I mem) (h1 : OutMap w' g c G) (h2 : ∀ z k, I64ok z → G z = some k → k ∈ I ∧ InMap w k (mem z) ∧ mem z ≠ []) (h3 : ∀ z, I64ok z → G z = none → mem z = [])
    (h4 : ∀ z y k, I64ok z → I64ok y → G z = some k → G y = some k → z = y) (hz : I64ok z) (hG : G z = some k) (hk : InMap w' k (mem' z)) (hne : mem' z ≠ []) (ho : ∀ y, y ≠ z → mem' y = mem y)
    (hs : ∀ x, x < w.heap.size → x ≠ k → x ∈ I → w'.heap[x]? = w.heap[x]?) : Grp w' g c I mem' := by
  have mk := hk.mapB
  refine ⟨⟨G, h1, fun y q hy hq => ?_, fun y hy hq => ?_, h4⟩, fun x hx => ?_, h.out⟩
  · by_cases e : y = z
    · subst e
      rw [hG] at hq
      injection hq with hq
      subst hq
      exact ⟨(h2 y k hz hG).1, hk, hne⟩
    · obtain ⟨h5, h6, h7⟩ := h2 y q hy hq
      rw [ho y e]
      exact ⟨h5, h6.keep (hs q h6.mapB.lt (fun e2 => e (h4 y z k hy hz (e2 ▸ hq) hG)) h5), h7⟩
  · by_cases e : y = z
    · subst e
      rw [hG] at hq
      cases hq
    · rw [ho y e]; exact h3 y hy hq
  · by_cases e : x = k
    · subst e; exact mk
    · exact (h.maps x hx).keep (hs x (h.maps x hx).lt e hx)
end

/-- What is left by a call that writes a map of groups. -/
def GrpE (g c : Nat) (I : List Nat) (mem : Int → List RM.R) (w : World) (e : Ending) (w' : World) : Prop :=
  e = .returned (.tuple #[]) ∧ ∃ I', Grp w' g c I' mem ∧ (∀ x ∈ I, x ∈ I') ∧ (∀ x ∈ I', x ∈ I ∨ w.heap.size ≤ x) ∧ Aft (g :: I) w w'

section
variable {w : World} {g c : Nat} {I : List Nat} {mem mem' : Int → List RM.R} {z : Int} {r : RM.R}
set_option maxHeartbeats 1000000 in
theorem gadd_any (h : Grp w g c I mem) (hz : I64ok z) (hr : RefOk r) (hc : c < 1000000) (hl : (mem z).length < 1000000) (hm : ∀ x, x ∈ mem' z ↔ x ∈ mem z ∨ x = r) (hn : (mem' z).Nodup) (ho : ∀ y, y ≠ z → mem' y = mem y) :
    Calls Try.prog 25 #[.map (some g), .int .i64 z, refV r] w (GrpE g (c + 1) I mem' w) := by
  have hmm := @run_makeMap Try.prog
  have hne : mem' z ≠ [] := fun e => by have := (hm r).2 (.inr rfl); rw [e] at this; cases this
  obtain ⟨r1, r2⟩ := r
  have hb1 := (Below.refl w.heap.size w).alloc (Nat.le_refl _) (.cells #[.int .i64 r1, .int .i64 r2] 24)
  have hx := Whole.fresh w 24 #[.int .i64 r1, .int .i64 r2]
  have hs1 : (w.alloc (.cells #[.int .i64 r1, .int .i64 r2] 24)).heap.size = w.heap.size + 1 := by simp
  have hG1 := h.below hb1
  obtain ⟨G, h1, h2, h3, h4⟩ := hG1.ex
  have hlk1 := h1.look hz
  cases hG : G z with
  | some k =>
    rw [hG] at hlk1
    obtain ⟨h5, h6, h7⟩ := h2 z k hz hG
    have hkg : k ≠ g := fun e => hG1.out (e ▸ h5)
    obtain ⟨w4, hrun, hk4, ha4, hs4⟩ := h6.put (l' := mem' z) hr hl hm hn
    have hG4 : Grp w4 g c I mem' := hG1.turn (h1.keep (ha4.block g h1.mapB.lt (by simpa using hkg.symm))) h2 h3 h4 hz hG hk4 hne ho (fun x hx hxk _ => ha4.block x hx (by simpa using hxk))
    have x0 := hx.cell 0
    have x1 := hx.cell 1
    simp only [List.getElem?_toArray, List.getElem?_cons_zero, List.getElem?_cons_succ] at x0 x1
    have HE := Lib.hid (show GrpE g (c + 1) I mem' w (.returned (.tuple #[])) w4 from ⟨rfl, I, by
      obtain ⟨⟨G', ⟨D, hD, hD2⟩, q1, q2, q3⟩, q4, q5⟩ := hG4
      exact ⟨⟨G', ⟨D, hD.mono (by omega), hD2⟩, q1, q2, q3⟩, q4, q5⟩, fun x hx => hx, fun x hx => .inl hx, (Aft.of_below hb1).trans (ha4.sub (by simp [h5]))⟩)
    clear h hG1 h1 h2 h3 h4 h6 h7 hk4 ha4 hG4 hm hn ho hne hl hc hb1 hx hr hG
    unfold refV at *
    have heq : ∀ w', (binOp .eql 58 (.map (some k)) (.map none)).run Try.prog w' = .ok (.bool false) w' := fun w' => run_eql_map_nil w' _ _ _ (some k) Try.underlying58
    go_enter Try.func25, Try.ntmps25
    go_wp2
    go_end0
    exact HE.out
  | none =>
    rw [hG] at hlk1
    have hmz := h3 z hz hG
    have hG2' : Grp ((w.alloc (.cells #[.int .i64 r1, .int .i64 r2] 24)).alloc (.map #[] 0)) g c I mem := hG1.below ((Below.refl _ _).alloc (Nat.le_refl _) _)
    have hnk : w.heap.size + 1 ∉ g :: I := fun e => by have := (hG1.mapB _ e).lt; omega
    have hin : InMap ((w.alloc (.cells #[.int .i64 r1, .int .i64 r2] 24)).alloc (.map #[] 0)) (w.heap.size + 1) [] := by
      have := InMap.made (w.alloc (.cells #[.int .i64 r1, .int .i64 r2] 24))
      rwa [hs1] at this
    have hb2 : Below w.heap.size w ((w.alloc (.cells #[.int .i64 r1, .int .i64 r2] 24)).alloc (.map #[] 0)) := hb1.alloc (by simp) _
    have hx2 : Whole ((w.alloc (.cells #[.int .i64 r1, .int .i64 r2] 24)).alloc (.map #[] 0)) w.heap.size 24 #[.int .i64 r1, .int .i64 r2] := hx.alloc _
    have h1' : OutMap ((w.alloc (.cells #[.int .i64 r1, .int .i64 r2] 24)).alloc (.map #[] 0)) g c G := h1.keep (Below.heap_alloc _ _ _ h1.mapB.lt)
    obtain ⟨w3, hrun3, ho3, ha3, hs3⟩ := h1'.put hz hc (w.heap.size + 1)
    have hlk3 := ho3.look hz
    have hup : updG G z (some (w.heap.size + 1)) z = some (w.heap.size + 1) := if_pos rfl
    rw [hup] at hlk3
    have hin3 : InMap w3 (w.heap.size + 1) [] := hin.keep (ha3.block _ (by simp) (by simp; intro e; exact hnk (by simp [e])))
    obtain ⟨w4, hrun4, hk4, ha4, hs4⟩ := hin3.put (l' := mem' z) hr (by simp) (fun x => by rw [hm, hmz]) hn
    have hx3 : Whole w3 w.heap.size 24 #[.int .i64 r1, .int .i64 r2] := ha3.whole hx2 (by simp; intro e; have := (h.mapB g (by simp)).lt; omega)
    have x0 := hx3.cell 0
    have x1 := hx3.cell 1
    simp only [List.getElem?_toArray, List.getElem?_cons_zero, List.getElem?_cons_succ] at x0 x1
    have ho4 : OutMap w4 g (c + 1) (updG G z (some (w.heap.size + 1))) := ho3.keep (ha4.block g ho3.mapB.lt (by simp; intro e; exact hnk (by simp [e])))
    have hold : ∀ x ∈ I, w4.heap[x]? = w.heap[x]? := fun x hx => by
      have hlt := (h.maps x hx).lt
      have hs2 := hb2.size
      rw [ha4.block x (by omega) (by simp; omega), ha3.block x (by omega) (by simp; intro e; exact h.out (e ▸ hx)), hb2.block x hlt]
    have HE := Lib.hid (show GrpE g (c + 1) I mem' w (.returned (.tuple #[])) w4 from ⟨rfl, (w.heap.size + 1) :: I, by
      refine ⟨⟨_, ho4, fun y q hy hq => ?_, fun y hy hq => ?_, fun y y' q hy hy' hq hq' => ?_⟩, fun x hx => ?_, hnk ∘ fun e => by
        rcases List.mem_cons.1 e with e | e
        · simp [← e]
        · exact (h.out e).elim⟩
      · unfold updG at hq
        by_cases e : y = z
        · subst e
          rw [if_pos rfl] at hq
          injection hq with hq
          subst hq
          exact ⟨by simp, hk4, hne⟩
        · rw [if_neg e] at hq
          obtain ⟨h5, h6, h7⟩ := h2 y q hy hq
          rw [ho y e]
          refine ⟨by simp [h5], h6.keep ((hold q h5).trans (hb1.block q (h.maps q h5).lt).symm), h7⟩
      · unfold updG at hq
        by_cases e : y = z
        · rw [if_pos e] at hq; cases hq
        · rw [if_neg e] at hq
          rw [ho y e]
          exact h3 y hy hq
      · unfold updG at hq hq'
        by_cases e : y = z <;> by_cases e' : y' = z
        · rw [e, e']
        · rw [if_pos e] at hq
          rw [if_neg e'] at hq'
          injection hq with hq
          subst hq
          exact (hnk (List.mem_cons_of_mem _ (h2 y' _ hy' hq').1)).elim
        · rw [if_neg e] at hq
          rw [if_pos e'] at hq'
          injection hq' with hq'
          subst hq'
          exact (hnk (List.mem_cons_of_mem _ (h2 y _ hy hq).1)).elim
        · rw [if_neg e] at hq
          rw [if_neg e'] at hq'
          exact h4 y y' q hy hy' hq hq'
      · rcases List.mem_cons.1 hx with rfl | hx
        · exact hk4.mapB
        · exact (h.maps x hx).keep (hold x hx), fun x hx => by simp [hx], fun x hx => by
        rcases List.mem_cons.1 hx with rfl | hx
        · exact .inr (by omega)
        · exact .inl hx, by
        have a1 : Aft (g :: I) w _ := Aft.of_below hb2
        have a2 := a1.trans (ha3.sub (T := g :: I) (by simp))
        exact Aft.less (c := w.heap.size + 1) ((a2.sub (T := (w.heap.size + 1) :: g :: I) (fun x hx => List.mem_cons_of_mem _ hx)).trans (ha4.sub (by simp))) (by omega)⟩)
    clear h hG1 h1 h2 h3 h4 hG2' hin hin3 hb2 hx2 h1' ho3 ha3 hk4 ha4 ho4 hold hup hnk hm hn ho hne hl hc hb1 hx hx3 hr hG hmz hs3 hs4
    unfold refV at *
    have heq : ∀ w', (binOp .eql 58 (.map none) (.map none)).run Try.prog w' = .ok (.bool true) w' := fun w' => run_eql_map_nil w' _ _ _ none Try.underlying58
    go_enter Try.func25, Try.ntmps25
    go_wp2
    go_end0
    exact HE.out
end
end Go.Proofs.Ytehkcflbdmkjpaa
