/- Contract of the law package's great. -/
import Derived.Test.YtfmcgejoobbiiaaBgRef2
import Derived.Test.YtfmcgejoobbiiaaBgOpen
namespace Go.Proofs.Ytfmcgejoobbiiaa
open Go.RowKit Go.Lib Go.Sort

set_option maxRecDepth 100000 in
set_option maxHeartbeats 2000000 in
theorem great_any (A : Option Addr) (n c : Nat) (ls : List Ac) (w : World) (h : AS w A n ls) :
    Calls Try.prog 18 #[.slice A n c] w fun e w' => ∃ d, e = .returned (.bool d) ∧ (d = false → n ≤ 50 ∧ ∀ a ∈ ls, a.n ≤ 50) ∧ Below w.heap.size w w' := by
  have HL := Lib.hid h
  have hlen := h.1
  have HLen := Lib.hid hlen
  clear h hlen
  by_cases hn : n ≤ 50
  · have d0 : ¬ (50 : Int) < (n : Int) := by omega
    go_enter Try.func18, Try.ntmps18
    go_wp2
    go_loopg [10] n (fun g i wr => ∃ k : Nat, k ≤ n ∧ Hid (n - k ≤ g) ∧ i = .int .i64 k ∧ Hid (∀ a ∈ ls.take k, a.n ≤ 50) ∧ Hid (Below w.heap.size w wr))
    case atStart => exact ⟨0, Nat.zero_le _, Lib.hid (Nat.le_refl _), rfl, Lib.hid (by simp), Lib.hid (Below.refl _ _)⟩
    case round =>
      obtain ⟨k, hk, HG, rfl, HS, HB⟩ := hrel
      have hbs := HB.out.size
      by_cases hkl : k < n
      · obtain ⟨b, off, hkx, rfl, hblt, p0, p1, p2, _⟩ := (HL.out.below HB.out).at_ hkl
        have HT : Hid (ls.take (k + 1) = ls.take k ++ [ls[k]]) := Lib.hid (List.take_succ_eq_append_getElem hkx)
        generalize ls[k] = a at p0 p1 p2 HT
        by_cases h50 : a.n ≤ 50
        · have d1 : ¬ (50 : Int) < (a.n : Int) := by omega
          have S2 : Hid (∀ y ∈ ls.take (k + 1), y.n ≤ 50) := Lib.hid (by
            rw [HT.out]
            intro y hy
            rcases List.mem_append.1 hy with hy | hy
            · exact HS.out y hy
            · have : y = a := by simpa using hy
              rw [this]; exact h50)
          go_wp2
          go_roundg (n - (k + 1))
          case measure => have := HG.out; omega
          case rel => exact ⟨k + 1, by omega, Lib.hid (Nat.le_refl _), by go_num, S2, Lib.hid (HB.out.alloc hbs _)⟩
        · have d1 : (50 : Int) < (a.n : Int) := by omega
          go_wp2
          go_ret
          exact ⟨true, rfl, (fun e => by cases e), HB.out.alloc hbs _⟩
      · go_wp2
        go_ret
        have hS := HS.out
        rw [List.take_of_length_le (by have := HLen.out; omega)] at hS
        exact ⟨false, rfl, fun _ => ⟨hn, hS⟩, HB.out⟩
  · have d0 : (50 : Int) < (n : Int) := by omega
    go_enter Try.func18, Try.ntmps18
    go_wp2
    go_ret
    exact ⟨true, rfl, (fun e => by cases e), Below.refl _ _⟩
end Go.Proofs.Ytfmcgejoobbiiaa
