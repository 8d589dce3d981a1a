/- Contracts of drop, Cut. -/
import Derived.Test.YtehkcflbdmkjpaaRsTurn
namespace Go.Proofs.Ytehkcflbdmkjpaa
open Go.RowKit Go.Maps

/-- What is left by a call that takes out of a group. -/
def GrpD (g c : Nat) (I : List Nat) (mem : Int → List RM.R) (w : World) (e : Ending) (w' : World) : Prop :=
  e = .returned (.tuple #[]) ∧ Grp w' g c I mem ∧ Aft (g :: I) w w'
section
variable {w : World} {g c : Nat} {I : List Nat} {mem mem' : Int → List RM.R} {z : Int} {r : RM.R}
set_option maxHeartbeats 1000000 in
theorem gdrop_any (h : Grp w g c I mem) (hz : I64ok z) (hr : RefOk r) (hin : r ∈ mem z) (hm : ∀ x, x ∈ mem' z ↔ x ∈ mem z ∧ x ≠ r) (hn : (mem' z).Nodup) (ho : ∀ y, y ≠ z → mem' y = mem y) :
    Calls Try.prog 26 #[.map (some g), .int .i64 z, refV r] w (GrpD g c I mem' w) := by
  obtain ⟨r1, r2⟩ := r
  have hb1 := (Below.refl w.heap.size w).alloc (Nat.le_refl _) (.cells #[.int .i64 r1, .int .i64 r2] 24)
  have hx := Whole.fresh w 24 #[.int .i64 r1, .int .i64 r2]
  have hG1 := h.below hb1
  obtain ⟨G, h1, h2, h3, h4⟩ := hG1.ex
  have hlk1 := h1.look hz
  cases hG : G z with
  | none =>
    have := h3 z hz hG
    rw [this] at hin
    cases hin
  | some k =>
    rw [hG] at hlk1
    obtain ⟨h5, h6, h7⟩ := h2 z k hz hG
    have hkg : k ≠ g := fun e => hG1.out (e ▸ h5)
    obtain ⟨w2, hrun, hk2, ha2, hs2⟩ := h6.del (l' := mem' z) hr hm hn 0
    have ho2 : OutMap w2 g c G := h1.keep (ha2.block g h1.mapB.lt (by simpa using hkg.symm))
    have hlk2 := ho2.look hz
    rw [hG] at hlk2
    have hlen := hk2.len 3
    have x0 := hx.cell 0
    have x1 := hx.cell 1
    simp only [List.getElem?_toArray, List.getElem?_cons_zero, List.getElem?_cons_succ] at x0 x1
    by_cases he : mem' z = []
    · obtain ⟨w3, hrun3, ho3, ha3, hs3⟩ := ho2.del hz 0
      have hold : ∀ x ∈ I, x ≠ k → w3.heap[x]? = (w.alloc (.cells #[.int .i64 r1, .int .i64 r2] 24)).heap[x]? := fun x hx hxk => by
        have hlt := (hG1.maps x hx).lt
        rw [ha3.block x (by omega) (by simp; intro e; exact h.out (e ▸ hx)), ha2.block x hlt (by simpa using hxk)]
      have hmk : MapB w3 k := hk2.mapB.keep (ha3.block k hk2.mapB.lt (by simpa using hkg))
      have HE := Lib.hid (show GrpD g c I mem' w (.returned (.tuple #[])) w3 from ⟨rfl, ⟨⟨_, ho3, fun y q hy hq => by
          unfold updG at hq
          by_cases e : y = z
          · rw [if_pos e] at hq; cases hq
          · rw [if_neg e] at hq
            obtain ⟨h8, h9, h10⟩ := h2 y q hy hq
            rw [ho y e]
            exact ⟨h8, h9.keep (hold q h8 (fun e2 => e (h4 y z k hy hz (e2 ▸ hq) hG))), h10⟩, fun y hy hq => by
          unfold updG at hq
          by_cases e : y = z
          · rw [e]; exact he
          · rw [if_neg e] at hq
            rw [ho y e]
            exact h3 y hy hq, fun y y' q hy hy' hq hq' => by
          unfold updG at hq hq'
          by_cases e : y = z
          · rw [if_pos e] at hq; cases hq
          · by_cases e' : y' = z
            · rw [if_pos e'] at hq'; cases hq'
            · rw [if_neg e] at hq
              rw [if_neg e'] at hq'
              exact h4 y y' q hy hy' hq hq'⟩, fun x hx => by
          by_cases e : x = k
          · subst e; exact hmk
          · exact (hG1.maps x hx).keep (hold x hx e), h.out⟩, ((Aft.of_below hb1).trans (ha2.sub (by simp [h5]))).trans (ha3.sub (by simp))⟩)
      rw [he] at hlen
      clear h hG1 h1 h2 h3 h4 h6 h7 hk2 ha2 ho2 ho3 ha3 hold hmk hm hn ho hb1 hx hr hG hin he
      unfold refV at *
      go_enter Try.func26, Try.ntmps26
      go_wp2
      go_end0
      exact HE.out
    · have hG4 : Grp w2 g c I mem' := hG1.turn ho2 h2 h3 h4 hz hG hk2 he ho (fun x hx hxk _ => ha2.block x hx (by simpa using hxk))
      have HE := Lib.hid (show GrpD g c I mem' w (.returned (.tuple #[])) w2 from ⟨rfl, hG4, (Aft.of_below hb1).trans (ha2.sub (by simp [h5]))⟩)
      have hpos : 0 < (mem' z).length := List.length_pos_iff.2 he
      generalize (mem' z).length = d at *
      have hd : (((d : Nat) : Int) == 0) = false := by simp; omega
      clear h hG1 h1 h2 h3 h4 h6 h7 hk2 ha2 ho2 hm hn ho hb1 hx hr hG hin he hG4
      unfold refV at *
      go_enter Try.func26, Try.ntmps26
      go_wp2
      go_end0
      exact HE.out
end
end Go.Proofs.Ytehkcflbdmkjpaa
