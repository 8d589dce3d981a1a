/- The law package's great. -/
import Derived.Test.YteencfldehcbbaaDoorBmAct
import Derived.Test.YteencfldehcbbaaDoorBpRow
namespace Go.Proofs.YteencfldehcbbaaDoor
open Go.RowKit
set_option linter.unusedVariables false

/-- It isn't great: few acts, no great pieces. -/
def Small (n : Nat) (l : List (Int × Int × Int × Bool)) : Prop := n ≤ 60 ∧ ∀ (i : Nat) (f : Int × Int × Int × Bool), l[i]? = some f → f.1 = 0 → f.2.2.1 ≤ 100000
theorem FA.get {w : World} {B n k : Nat} {A : Option Addr} {l : List (Int × Int × Int × Bool)} (h : FA w B A n l) (hk : k < n) : ∃ b off f, A = some ⟨b, off, none⟩ ∧ b < B ∧ l[k]? = some f ∧
    w.cell? ⟨b, off + k * 4, none⟩ = some (.int .i64 f.1) ∧ w.cell? ⟨b, off + k * 4 + 1, none⟩ = some (.int .i64 f.2.1) ∧ w.cell? ⟨b, off + k * 4 + 2, none⟩ = some (.int .i64 f.2.2.1) ∧ w.cell? ⟨b, off + k * 4 + 3, none⟩ = some (.bool f.2.2.2) ∧ ActOk f := by
  obtain ⟨b, off, e, hlt, hc⟩ := h.2.1 (by omega)
  have hl : k < l.length := by have := h.1; omega
  obtain ⟨h0, h1, h2, h3⟩ := hc k l[k] (List.getElem?_eq_getElem hl)
  exact ⟨b, off, l[k], e, hlt, List.getElem?_eq_getElem hl, h0, h1, h2, h3, h.2.2 _ (List.getElem_mem hl)⟩
set_option maxHeartbeats 4000000 in
set_option maxRecDepth 100000 in
theorem great_any (A : Option Addr) (n c : Nat) (l : List (Int × Int × Int × Bool)) (w : World) (hl : FA w w.heap.size A n l) :
    Calls Tryd.prog 10 #[.slice A n c] w fun e w' => (∃ b, e = .returned (.bool b) ∧ (b = false → Small n l)) ∧ Below w.heap.size w w' := by
  have HL := Lib.hid hl
  clear hl
  by_cases h60 : 60 < n
  · have d : (60 : Int) < (n : Int) := by omega
    go_enter Tryd.func10, Tryd.ntmps10
    go_wp2
    go_ret
    exact ⟨⟨_, rfl, by simp⟩, Below.refl _ _⟩
  · have d : decide ((60 : Int) < (n : Int)) = false := by simp; omega
    go_enter Tryd.func10, Tryd.ntmps10
    go_wp2_with fail
    go_loopw [10] (fun x wr => ∃ k : Nat, k ≤ n ∧ x = .int .i64 k ∧ Hid (Below w.heap.size w wr) ∧ Hid (∀ (i : Nat) (f : Int × Int × Int × Bool), i < k → l[i]? = some f → f.1 = 0 → f.2.2.1 ≤ 100000)) (fun x _ => n - (intOf x).toNat)
    case atStart => exact ⟨0, Nat.zero_le _, rfl, Lib.hid (Below.refl _ _), Lib.hid (fun i _ h => absurd h (by omega))⟩
    case round =>
      obtain ⟨k, hk, rfl, HB, HA⟩ := hrel
      by_cases hlt : k < n
      · obtain ⟨b, off, f, rfl, hb, hf, a0, a1, a2, a3, hok⟩ := (HL.out.below HB.out).get hlt
        obtain ⟨x0, x1, x2, x3⟩ := f
        simp only at a0 a1 a2 a3
        have HB2 := Lib.hid (HB.out.alloc HB.out.size (.cells #[.int .i64 x0, .int .i64 x1, .int .i64 x2, .bool x3] 36))
        have hcs : (x0 = 0 ∧ 100000 < x2) ∨ (x0 = 0 ∧ x2 ≤ 100000) ∨ (¬ x0 = 0 ∧ (x0 == 0) = false) := by
          by_cases h1 : x0 = 0
          · rcases Int.lt_or_le 100000 x2 with h2 | h2
            · exact .inl ⟨h1, h2⟩
            · exact .inr (.inl ⟨h1, h2⟩)
          · exact .inr (.inr ⟨h1, by simpa using h1⟩)
        have HF := Lib.hid hf
        clear hf hok
        rcases hcs with ⟨rfl, h2⟩ | ⟨rfl, h2⟩ | ⟨h1, h2⟩
        · go_wp2
          go_ret
          exact ⟨⟨_, rfl, by simp⟩, HB2.out⟩
        all_goals
          have HNX := Lib.hid (show ∀ (i : Nat) (f : Int × Int × Int × Bool), i < k + 1 → l[i]? = some f → f.1 = 0 → f.2.2.1 ≤ 100000 from fun i f hi hf h0 => by
            by_cases e : i = k
            · subst e
              rw [HF.out] at hf
              injection hf with hf
              subst hf
              first
              | exact h2
              | exact absurd h0 h1
            · exact HA.out i f (by omega) hf h0)
          try have H1 := Lib.hid h1
          try clear h1
          go_wp2
          go_roundw
          case rel => exact ⟨k + 1, by omega, by go_num, HB2, HNX⟩
          case measure => simp [intOf]; omega
      · obtain rfl : k = n := by omega
        go_wp2
        go_ret
        exact ⟨⟨_, rfl, fun _ => ⟨by omega, fun i f hf => HA.out i f (by have := (List.getElem?_eq_some_iff.1 hf).1; have := HL.out.1; omega) hf⟩⟩, HB.out⟩
end Go.Proofs.YteencfldehcbbaaDoor
