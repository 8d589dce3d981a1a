/- The start of graph's laws: are the lengths great? -/
import Derived.Test.YtmmclccghlmfmaaGrAlive
namespace Go.Proofs.Ytmmclccghlmfmaa
open Go.RowKit Go.Lib Go.Sort Go.Maps

/-- Two lengths in a block: are they great? -/
theorem great2 (W : World) (n m : Nat) : Calls Try.prog 10 #[.slice (some ⟨W.heap.size, 0, none⟩) 2 2] (W.alloc (.cells #[.int .i64 n, .int .i64 m] 3)) fun e w' => e = .returned (.bool (decide (80 < n ∨ 80 < m))) ∧ (W.alloc (.cells #[.int .i64 n, .int .i64 m] 3)) = w' := by
  have h := great_any (w := W.alloc (.cells #[.int .i64 n, .int .i64 m] 3)) (c := 2) (zs_block (xs := [(n : Int), (m : Int)]) (Whole.fresh W _ _) rfl rfl) (by simp)
  refine h.mono ?_
  rintro e w' ⟨rfl, hw⟩
  refine ⟨?_, hw⟩
  have : ([(n : Int), (m : Int)].any fun x => decide (80 < x)) = decide (80 < n ∨ 80 < m) := by
    rw [Bool.eq_iff_iff]
    simp
    omega
  rw [this]
theorem great3 (W : World) (n m k : Nat) : Calls Try.prog 10 #[.slice (some ⟨W.heap.size, 0, none⟩) 3 3] (W.alloc (.cells #[.int .i64 n, .int .i64 m, .int .i64 k] 3)) fun e w' => e = .returned (.bool (decide (80 < n ∨ 80 < m ∨ 80 < k))) ∧ (W.alloc (.cells #[.int .i64 n, .int .i64 m, .int .i64 k] 3)) = w' := by
  have h := great_any (w := W.alloc (.cells #[.int .i64 n, .int .i64 m, .int .i64 k] 3)) (c := 3) (zs_block (xs := [(n : Int), (m : Int), (k : Int)]) (Whole.fresh W _ _) rfl rfl) (by simp)
  refine h.mono ?_
  rintro e w' ⟨rfl, hw⟩
  refine ⟨?_, hw⟩
  have : ([(n : Int), (m : Int), (k : Int)].any fun x => decide (80 < x)) = decide (80 < n ∨ 80 < m ∨ 80 < k) := by
    rw [Bool.eq_iff_iff]
    simp
    omega
  rw [this]
theorem rises_at {l : List Int} (h : BG.Rises l) {i : Nat} {x y : Int} (h1 : l[i]? = some x) (h2 : l[i + 1]? = some y) : x < y := by
  obtain ⟨a, e⟩ := List.getElem?_eq_some_iff.1 h1
  obtain ⟨b, f⟩ := List.getElem?_eq_some_iff.1 h2
  have := List.pairwise_iff_getElem.1 h i (i + 1) a b (by omega)
  rw [e, f] at this
  exact this
theorem ZS.get {w : World} {A : Option Addr} {n : Nat} {xs : List Int} (h : ZS w A n xs) {k : Nat} {x : Int} (hk : xs[k]? = some x) : ∃ b off, A = some ⟨b, off, none⟩ ∧ b < w.heap.size ∧ k < n ∧ w.cell? ⟨b, off + k, none⟩ = some (.int .i64 x) := by
  obtain ⟨hl, e⟩ := List.getElem?_eq_some_iff.1 hk
  obtain ⟨b, off, ea, hb, hc⟩ := h.at_ (k := k) (by rw [← h.len]; exact hl)
  exact ⟨b, off, ea, hb, by rw [← h.len]; exact hl, by rw [hc, e]⟩
/-- A row, opened: its length is a letter. -/
theorem NewZ.op {base : Nat} {w : World} {v : Value} {l : List Int} (h : NewZ base w v l) : ∃ A n c, v = .slice A n c ∧ l.length = n ∧ ZS w A n l := by
  obtain ⟨A, c, rfl, _⟩ := h.slice
  exact ⟨A, l.length, c, rfl, rfl, h.zs⟩
theorem NewE.op {T : TypeId} {base : Nat} {w : World} {v : Value} {l : List (Int × Int)} (h : NewE T base w v l) : ∃ A n c, v = .slice A n c ∧ l.length = n ∧ ES w A n l := by
  obtain ⟨A, c, rfl, _⟩ := h.slice
  exact ⟨A, l.length, c, rfl, rfl, h.es⟩
end Go.Proofs.Ytmmclccghlmfmaa
