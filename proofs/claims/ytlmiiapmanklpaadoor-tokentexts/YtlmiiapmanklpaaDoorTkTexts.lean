/- The walk of TokenTexts. -/
import Derived.Test.YtlmiiapmanklpaaDoorTkBox
namespace Go.Proofs.YtlmiiapmanklpaaDoor
open Go.RowKit

theorem parseVal_some {t : Int × Int} : parseVal (some t) = .tuple #[.agg #[.int .i64 t.1, .int .i64 t.2], .int .i64 0] := rfl
/-- Behind the first test: what is told of the text. -/
def TextsPost (w : World) (e : Ending) (w' : World) : Prop := e = .returned (.bool true) ∧ Below w.heap.size w w'

set_option maxRecDepth 100000 in
set_option maxHeartbeats 4000000 in
theorem texts_core (a b x y F : Int) (ok : Bool) (s X : ByteArray) (E : Int) (r : Bool) (w : World) (hT : Tk w)
    (H1 : Hid (∀ W, Tk W → Calls Tryd.prog 8 #[.agg #[.int .i64 a, .int .i64 b]] W fun e w' => e = .returned (.tuple #[.string X, .int .i64 E]) ∧ Below W.heap.size W w'))
    (H2 : Hid (∀ W, Calls Tryd.prog 9 #[.agg #[.int .i64 a, .int .i64 b]] W fun e w' => e = .returned (.bool r) ∧ Below W.heap.size W w'))
    (H3 : Hid (∀ W, Calls Tryd.prog 10 #[.agg #[.int .i64 a, .int .i64 b]] W fun e w' => e = .returned (.bool r) ∧ Below W.heap.size W w'))
    (H4 : Hid (r = true → ∀ W, Calls Tryd.prog 11 #[.agg #[.int .i64 a, .int .i64 b]] W fun e w' => e = .returned (.string X) ∧ Below W.heap.size W w'))
    (H5 : Hid (∀ W, Tk W → Calls Tryd.prog 12 #[.string s] W fun e w' => e = .returned (.tuple #[.agg #[.int .i64 x, .int .i64 y], .int .i64 F]) ∧ Below W.heap.size W w'))
    (H6 : Hid (∀ W, Calls Tryd.prog 13 #[.string s] W fun e w' => e = .returned (.tuple #[.agg #[.int .i64 x, .int .i64 y], .bool ok]) ∧ Below W.heap.size W w'))
    (N1 : Hid (r = true ∧ E = 0 ∨ r = false ∧ E = 3 ∧ X = ⟨#[]⟩)) (N2 : Hid (ok = true ∧ F = 0 ∨ ok = false ∧ F = 4)) :
    Calls Tryd.prog 3 #[.agg #[.int .i64 a, .int .i64 b], .string s] w (TextsPost w) := by
  have HT := Lib.hid hT
  clear hT
  go_enter Tryd.func3, Tryd.ntmps3
  go_wp2_with fail
  have K0 := Lib.hid (TBox.first w a b)
  refine (H1.out _ (HT.out.onB K0.out.bel HT.out.six)).mono ?_
  rintro e w1 ⟨rfl, hb⟩
  have K1 := Lib.hid (K0.out.step hb)
  clear hb K0
  obtain ⟨c0, c1⟩ := K1.out.cells
  go_wp2_with fail
  clear c0 c1
  refine (H2.out _).mono ?_
  rintro e w2 ⟨rfl, hb⟩
  have K2 := Lib.hid (K1.out.step hb)
  clear hb K1
  obtain ⟨c0, c1⟩ := K2.out.cells
  go_wp2_with fail
  clear c0 c1
  refine (H3.out _).mono ?_
  rintro e w3 ⟨rfl, hb⟩
  have K3 := Lib.hid (K2.out.step hb)
  clear hb K2
  obtain ⟨c0, c1⟩ := K3.out.cells
  rcases N1.out with ⟨rfl, rfl⟩ | ⟨rfl, rfl, rfl⟩
  · go_wp2_with fail
    clear c0 c1
    refine (H4.out (by first | exact rfl | exact trivial) _).mono ?_
    rintro e w4 ⟨rfl, hb⟩
    have K4 := Lib.hid (K3.out.step hb)
    clear hb K3
    go_wp2_with fail
    refine (H5.out _ (HT.out.onB K4.out.bel HT.out.six)).mono ?_
    rintro e w5 ⟨rfl, hb⟩
    have K5 := Lib.hid (K4.out.step hb)
    clear hb K4
    go_wp2_with fail
    have J5 := Lib.hid (TBox.next K5.out.bel x y)
    clear K5
    refine (H6.out _).mono ?_
    rintro e w6 ⟨rfl, hb⟩
    have J6 := Lib.hid (J5.out.step hb)
    clear hb J5
    go_wp2_with fail
    have L6 := Lib.hid (TBox.next J6.out.bel x y)
    have J7 := Lib.hid (J6.out.alloc (.cells #[.int .i64 x, .int .i64 y] 23))
    clear J6
    refine (alive_any _ (HT.out.onB L6.out.bel HT.out.six)).mono ?_
    rintro e w7 ⟨rfl, hb⟩
    have L7 := Lib.hid (L6.out.step hb)
    have J8 := Lib.hid (J7.out.step hb)
    clear hb L6 J7
    obtain ⟨c0, c1⟩ := L7.out.cells
    obtain ⟨d0, d1⟩ := J8.out.cells
    rcases N2.out with ⟨rfl, rfl⟩ | ⟨rfl, rfl⟩
    all_goals
      clear N1 N2
      go_wp2
      go_ret
      exact ⟨rfl, L7.out.bel⟩
  · go_wp2_with fail
    clear c0 c1
    refine (H5.out _ (HT.out.onB K3.out.bel HT.out.six)).mono ?_
    rintro e w5 ⟨rfl, hb⟩
    have K5 := Lib.hid (K3.out.step hb)
    clear hb K3
    go_wp2_with fail
    have J5 := Lib.hid (TBox.next K5.out.bel x y)
    clear K5
    refine (H6.out _).mono ?_
    rintro e w6 ⟨rfl, hb⟩
    have J6 := Lib.hid (J5.out.step hb)
    clear hb J5
    go_wp2_with fail
    have L6 := Lib.hid (TBox.next J6.out.bel x y)
    have J7 := Lib.hid (J6.out.alloc (.cells #[.int .i64 x, .int .i64 y] 23))
    clear J6
    refine (alive_any _ (HT.out.onB L6.out.bel HT.out.six)).mono ?_
    rintro e w7 ⟨rfl, hb⟩
    have L7 := Lib.hid (L6.out.step hb)
    have J8 := Lib.hid (J7.out.step hb)
    clear hb L6 J7
    obtain ⟨c0, c1⟩ := L7.out.cells
    obtain ⟨d0, d1⟩ := J8.out.cells
    rcases N2.out with ⟨rfl, rfl⟩ | ⟨rfl, rfl⟩
    all_goals
      clear N1 N2
      go_wp2
      go_ret
      exact ⟨rfl, L7.out.bel⟩

theorem texts_walk (a b : Int) (s : ByteArray) (w : World) (hs : s.size ≤ 281474976710656) (hT : Tk w) :
    Calls Tryd.prog 3 #[.agg #[.int .i64 a, .int .i64 b], .string s] w fun e w' => e = .returned (.bool true) ∧ Below w.heap.size w w' := by
  have hp := fun W hW => parse_any s hs W hW
  have hr := fun W => rparse_any s W
  rw [TM.parse_eq] at hp
  have N1 : TM.right a b = true ∧ TM.txtE a b = 0 ∨ TM.right a b = false ∧ TM.txtE a b = 3 ∧ (⟨(TM.txt a b).toArray⟩ : ByteArray) = ⟨#[]⟩ := by
    unfold TM.txtE TM.txt
    by_cases h : TM.right a b = true
    · rw [if_pos h]; exact Or.inl ⟨h, rfl⟩
    · rw [if_neg h, if_neg h]; exact Or.inr ⟨by simpa using h, rfl, rfl⟩
  have H4 : TM.right a b = true → ∀ W, Calls Tryd.prog 11 #[.agg #[.int .i64 a, .int .i64 b]] W fun e w' => e = .returned (.string ⟨(TM.txt a b).toArray⟩) ∧ Below W.heap.size W w' := fun h W => by
    have := rtext_any a b h W
    unfold TM.txt
    rwa [if_pos h]
  cases h : TM.rparse s.data.toList with
  | none =>
    rw [h] at hp hr
    exact texts_core a b 0 0 4 false s _ _ _ w hT (Lib.hid fun W hW => ttext_any a b W hW) (Lib.hid fun W => rright_below a b W) (Lib.hid fun W => tright_below a b W) (Lib.hid H4) (Lib.hid hp) (Lib.hid hr) (Lib.hid N1) (Lib.hid (Or.inr ⟨rfl, rfl⟩))
  | some t =>
    obtain ⟨x, y⟩ := t
    rw [h] at hp hr
    exact texts_core a b x y 0 true s _ _ _ w hT (Lib.hid fun W hW => ttext_any a b W hW) (Lib.hid fun W => rright_below a b W) (Lib.hid fun W => tright_below a b W) (Lib.hid H4) (Lib.hid hp) (Lib.hid hr) (Lib.hid N1) (Lib.hid (Or.inl ⟨rfl, rfl⟩))
end Go.Proofs.YtlmiiapmanklpaaDoor
