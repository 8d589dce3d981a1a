/- The contract of the law package's alive. -/
import Derived.Test.YtmmclccghlmfmaaGrRef
namespace Go.Proofs.Ytmmclccghlmfmaa
open Go.RowKit Go.Lib Go.Sort Go.Maps

theorem zs_block {w : World} {g n : Nat} {t : TypeId} {cs : Array Value} {xs : List Int} (h : Whole w g t cs) (hn : xs.length = n) (hc : cs.toList = xs.map (Value.int .i64)) : ZS w (some ⟨g, 0, none⟩) n xs :=
  ⟨hn, fun _ => ⟨g, 0, rfl, h.lt, fun j hj => by
    rw [Nat.zero_add, h.cell, ← Array.getElem?_toList, hc, List.getElem?_map, List.getElem?_eq_getElem hj]
    rfl⟩⟩
theorem es_block {w : World} {g n : Nat} {t : TypeId} {cs : Array Value} {es : List (Int × Int)} (h : Whole w g t cs) (hn : es.length = n) (hc : cs.toList = flatE es) : ES w (some ⟨g, 0, none⟩) n es :=
  ⟨hn, fun _ => ⟨g, 0, rfl, h.lt, fun j hj => by
    have hq := flatE_get es j es[j] (List.getElem?_eq_getElem hj)
    rw [Nat.zero_add, h.cell, h.cell, ← Array.getElem?_toList, ← Array.getElem?_toList, hc]
    exact hq⟩⟩
theorem alive_ord : GM.ord [(2, 7), (5, 1), (1, 5), (9, 3)] [5, 2] = [5, 2, 1, 7] := by decide

set_option maxHeartbeats 1000000 in
theorem alive_any (w : World) : Calls Try.prog 9 #[] w fun e w' => e = .returned (.bool true) ∧ Below w.heap.size w w' := by
  have hz : ZS ((w.alloc (.cells #[.int .i64 5, .int .i64 2] 3)).alloc (.cells #[.int .i64 2, .int .i64 7, .int .i64 5, .int .i64 1, .int .i64 1, .int .i64 5, .int .i64 9, .int .i64 3] 37)) (some ⟨w.heap.size, 0, none⟩) 2 [5, 2] := zs_block ((Whole.fresh w _ _).alloc _) rfl rfl
  have he : ES ((w.alloc (.cells #[.int .i64 5, .int .i64 2] 3)).alloc (.cells #[.int .i64 2, .int .i64 7, .int .i64 5, .int .i64 1, .int .i64 1, .int .i64 5, .int .i64 9, .int .i64 3] 37)) (some ⟨w.heap.size + 1, 0, none⟩) 4 [(2, 7), (5, 1), (1, 5), (9, 3)] := es_block (Whole.fresh' (by simp)) rfl rfl
  have HO := order_any (c := 2) (d := 4) hz he (by intro x hx; unfold I64; simp at hx; omega) (by
    intro x hx
    simp at hx
    rcases hx with rfl | rfl | rfl | rfl <;> (unfold I64; simp)) (by decide) (by decide)
  rw [alive_ord] at HO
  have HO := Lib.hid HO
  clear hz he
  go_enter Try.func9, Try.ntmps9
  go_wp2_with fail
  refine HO.out.mono ?_
  rintro e w1 ⟨v, rfl, hv, hb⟩
  obtain ⟨A, c, rfl, _⟩ := hv.slice
  have B1 := Lib.hid ((((Below.refl w.heap.size w).alloc (Nat.le_refl _) _).alloc (by simp) _).trans (hb.mono (by simp; omega)))
  have hs := same_any (c := c) (d := 4) (hv.alloc (.cells #[.int .i64 5, .int .i64 2, .int .i64 1, .int .i64 7] 3)).zs (zs_block (Whole.fresh w1 _ #[.int .i64 5, .int .i64 2, .int .i64 1, .int .i64 7]) rfl rfl) (by decide)
  have HS := Lib.hid hs
  clear hv hb HO hs
  go_wp2_with fail
  refine HS.out.mono ?_
  rintro e w2 ⟨rfl, q, rfl⟩
  go_wp2
  go_ret
  exact ⟨rfl, bdrewN (B1.out.alloc B1.out.size _) q⟩
end Go.Proofs.Ytmmclccghlmfmaa
