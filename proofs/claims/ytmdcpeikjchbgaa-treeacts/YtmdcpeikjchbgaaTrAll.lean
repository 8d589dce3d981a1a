/- Contract of the tree's own all: the live regions, rising. -/
import Derived.Test.YtmdcpeikjchbgaaTrLeaf
import Derived.Test.YtmdcpeikjchbgaaTrShelf
namespace Go.Proofs.Ytmdcpeikjchbgaa
open Go.RowKit Go.Maps Go.Sort Go.Shelf

namespace TR
theorem all_sorted (n : Nat) (f : F) : (zs (all n f)).mergeSort leI = zs (all n f) := by
  refine List.mergeSort_of_pairwise ?_
  unfold zs
  refine List.pairwise_map.2 ?_
  have : (all n f).Pairwise (· < ·) := List.Pairwise.sublist List.filter_sublist List.pairwise_lt_range
  exact this.imp fun h => by simp [leI]; omega
end TR
theorem trSorts (k : Nat) : AnyZI.SortsIn Try.prog Try.sortedT_ren Fence.wide k :=
  ⟨fun blk off cap ss W hH hblk hsz => callsIn_wide.2 (Any.slices_Sort_int Try.l189t blk off cap ss W hH hblk hsz),
   fun p cap W => callsIn_wide.2 (Any.slices_Sort_int_none Try.l189t p cap W)⟩

/-- What is left by a call that tells a new row of numbers. -/
def RowP (l : List Nat) (w : World) (e : Ending) (w' : World) : Prop := ∃ v, e = .returned v ∧ NewR w.heap.size w' v l ∧ Below w.heap.size w w'

set_option maxHeartbeats 1000000 in
theorem tall_any {w : World} {b m n : Nat} {f : TR.F} (h : TrAt w b m n f) : Calls Try.prog 27 #[.pointer (some ⟨b, 0, none⟩)] w (RowP (TR.all n f) w) := by
  refine (callsIn_wide (n := 6)).1 ?_
  obtain ⟨D, hown, hD⟩ := h.map
  have hperm := MapT.perm hown hD h.good
  have hsize := MapT.size hown hD h.good
  have hl : (TR.all n f).length ≤ n + 1 := by
    have := List.length_filter_le (TR.live f) (List.range (n + 1))
    rw [List.length_range] at this
    exact this
  have hn := h.few
  have c0 := h.c0
  have hmax : Maps.size D ≤ maxLen := by unfold maxLen; omega
  have hbytes : Maps.size D * 8 ≤ 140737488355328 := by omega
  have hbl := hown.lt
  have hseq : SeqGives Fence.wide 2 Try.prog 41 #[.pointer (some ⟨w.heap.size, 0, none⟩)] encZ (fun ss => ss.Perm (intKeys D)) (Maps.size D) (w.alloc (.cells #[.map (some m)] 50)) :=
    AnyZI.keys_gives (ρ := Try.keysT_ren) { Try.keysT with } Fence.wide _ trivial rfl (by omega) w.heap.size m (Maps.size D) D _ (by simp) (by simp) (by
      obtain ⟨es, clock, hb, Ft, hs, hD⟩ := hown
      exact ⟨es, clock, (Below.heap_alloc _ _ m hbl).trans hb, Ft, hs, hD⟩)
  have cK : ∀ mb W, CallsIn Fence.wide 5 Try.prog 36 #[.map mb] W fun e w' => e = .returned (.func (.func 41) #[] #[.pointer (some ⟨W.heap.size, 0, none⟩)]) ∧ w' = W.alloc (.cells #[.map mb] 50) := fun mb W => AnyZI.keys_in Try.keysT Fence.wide 5 trivial rfl mb W
  have cS := AnyZI.sorted_in Try.sortedT Fence.wide 5 trivial trivial trivial trivial rfl (by omega) (trSorts _) (enters_of Try.func40 (by kernel_rfl) rfl) 41 #[.pointer (some ⟨w.heap.size, 0, none⟩)] trivial (enters_of Try.func41 (by kernel_rfl) rfl) _ _ hmax hbytes _ hseq
  change CallsIn _ _ Try.prog 35 _ _ _ at cS
  have hfK : Fence.wide.fn 36 := trivial
  have hfS : Fence.wide.fn 35 := trivial
  have HP := Lib.hid hperm
  clear hsize hperm hseq hbl hmax hbytes hn hl hD hown h
  refine callsIn_of_wp Try.func27 rfl trivial ?_ rfl
  simp only [Try.ntmps27, List.size_toArray, List.length_cons, List.length_nil, Nat.reduceAdd, Nat.reduceSub, Array.replicate_succ, Array.replicate_zero, List.push_toArray, List.append_toArray, List.nil_append, List.cons_append]
  gi_wp2_with (first
    | (gi_at_call 36; refine (cK _ _).mono ?_; rintro e w' ⟨rfl, rfl⟩)
    | (gi_at_call 35; refine cS.mono ?_; rintro e w' ⟨v, ss, rfl, hS, hrow, hnil, hb⟩))
  go_ret
  have e1 : ss.mergeSort leI = TR.zs (TR.all n f) := by rw [mergeSort_of_perm_i (hS.trans HP.out.symm), TR.all_sorted]
  have e2 : ss.length = (TR.all n f).length := by rw [← TR.zs_len, ← e1, List.length_mergeSort]
  refine ⟨v, rfl, ?_, ((Below.refl _ w).alloc (Nat.le_refl _) _).trans (hb.mono (by simp))⟩
  have hr : w'.ownsRow (w.alloc (.cells #[.map (some m)] 50)).heap.size 3 1 v ss.length ((ss.mergeSort leI).map encZ) := hrow
  rw [e1, e2] at hr
  exact World.ownsRow.mono hr (by simp)
end Go.Proofs.Ytmdcpeikjchbgaa
