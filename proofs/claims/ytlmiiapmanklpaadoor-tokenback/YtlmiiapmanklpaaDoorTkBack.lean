/- The walk of TokenBack. -/
import Derived.Test.YtlmiiapmanklpaaDoorTkBox
namespace Go.Proofs.YtlmiiapmanklpaaDoor
open Go.RowKit

set_option maxRecDepth 100000 in
set_option maxHeartbeats 4000000 in
theorem tback_core (a b x y F : Int) (s X : ByteArray) (E : Int) (w : World) (hT : Tk w)
    (H1 : Hid (∀ W, Tk W → Calls Tryd.prog 8 #[.agg #[.int .i64 a, .int .i64 b]] W fun e w' => e = .returned (.tuple #[.string X, .int .i64 E]) ∧ Below W.heap.size W w'))
    (H2 : Hid (E = 0 → ∀ W, Tk W → Calls Tryd.prog 12 #[.string X] W fun e w' => e = .returned (.tuple #[.agg #[.int .i64 a, .int .i64 b], .int .i64 0]) ∧ Below W.heap.size W w'))
    (H3 : Hid (∀ W, Tk W → Calls Tryd.prog 12 #[.string s] W fun e w' => e = .returned (.tuple #[.agg #[.int .i64 x, .int .i64 y], .int .i64 F]) ∧ Below W.heap.size W w'))
    (H4 : Hid (F = 0 → ∀ W, Tk W → Calls Tryd.prog 8 #[.agg #[.int .i64 x, .int .i64 y]] W fun e w' => e = .returned (.tuple #[.string s, .int .i64 0]) ∧ Below W.heap.size W w')) :
    Calls Tryd.prog 4 #[.agg #[.int .i64 a, .int .i64 b], .string s] w fun e w' => e = .returned (.bool true) ∧ Below w.heap.size w w' := by
  have HT := Lib.hid hT
  clear hT
  go_enter Tryd.func4, Tryd.ntmps4
  go_wp2_with fail
  have K0 := Lib.hid (TBox.first w a b)
  refine (H1.out _ (HT.out.onB K0.out.bel HT.out.six)).mono ?_
  rintro e w1 ⟨rfl, hb⟩
  have K1 := Lib.hid (K0.out.step hb)
  clear hb K0
  by_cases hE : E = 0
  · have h2 := H2.out hE
    subst hE
    go_wp2_with fail
    refine (h2 _ (HT.out.onB K1.out.bel HT.out.six)).mono ?_
    rintro e w2 ⟨rfl, hb⟩
    have K2 := Lib.hid (K1.out.step hb)
    clear hb K1
    obtain ⟨c0, c1⟩ := K2.out.cells
    have hlt := K2.out.lt
    go_wp2_with fail
    have B3 := Lib.hid (K2.out.alloc (.cells #[.int .i64 a, .int .i64 b] 23)).bel
    clear K2 c0 c1 hlt h2
    refine (H3.out _ (HT.out.onB B3.out HT.out.six)).mono ?_
    rintro e w3 ⟨rfl, hb⟩
    have B4 := Lib.hid (B3.out.trans (hb.mono B3.out.size))
    clear hb B3
    by_cases hF : F = 0
    · have h4 := H4.out hF
      subst hF
      go_wp2_with fail
      have B5 := Lib.hid (B4.out.alloc B4.out.size (.cells #[.int .i64 x, .int .i64 y] 23))
      refine (h4 _ (HT.out.onB B5.out HT.out.six)).mono ?_
      rintro e w4 ⟨rfl, hb⟩
      have B6 := Lib.hid (B5.out.trans (hb.mono B5.out.size))
      clear hb B5 B4
      go_wp2_with fail
      refine (alive_any _ (HT.out.onB B6.out HT.out.six)).mono ?_
      rintro e w5 ⟨rfl, hb⟩
      have B7 := Lib.hid (B6.out.trans (hb.mono B6.out.size))
      clear hb B6
      go_wp2
      go_ret
      exact ⟨rfl, B7.out⟩
    · have hF' : (F == 0) = false := by simpa using hF
      clear hF
      go_wp2_with fail
      have B6 := Lib.hid (B4.out.alloc B4.out.size (.cells #[.int .i64 x, .int .i64 y] 23))
      refine (alive_any _ (HT.out.onB B6.out HT.out.six)).mono ?_
      rintro e w5 ⟨rfl, hb⟩
      have B7 := Lib.hid (B6.out.trans (hb.mono B6.out.size))
      clear hb B6
      go_wp2
      go_ret
      exact ⟨rfl, B7.out⟩
  · have hE' : (E == 0) = false := by simpa using hE
    clear hE
    go_wp2_with fail
    have B3 := Lib.hid K1.out.bel
    clear K1
    refine (H3.out _ (HT.out.onB B3.out HT.out.six)).mono ?_
    rintro e w3 ⟨rfl, hb⟩
    have B4 := Lib.hid (B3.out.trans (hb.mono B3.out.size))
    clear hb B3
    by_cases hF : F = 0
    · have h4 := H4.out hF
      subst hF
      go_wp2_with fail
      have B5 := Lib.hid (B4.out.alloc B4.out.size (.cells #[.int .i64 x, .int .i64 y] 23))
      refine (h4 _ (HT.out.onB B5.out HT.out.six)).mono ?_
      rintro e w4 ⟨rfl, hb⟩
      have B6 := Lib.hid (B5.out.trans (hb.mono B5.out.size))
      clear hb B5 B4
      go_wp2_with fail
      refine (alive_any _ (HT.out.onB B6.out HT.out.six)).mono ?_
      rintro e w5 ⟨rfl, hb⟩
      have B7 := Lib.hid (B6.out.trans (hb.mono B6.out.size))
      clear hb B6
      go_wp2
      go_ret
      exact ⟨rfl, B7.out⟩
    · have hF' : (F == 0) = false := by simpa using hF
      clear hF
      go_wp2_with fail
      have B6 := Lib.hid (B4.out.alloc B4.out.size (.cells #[.int .i64 x, .int .i64 y] 23))
      refine (alive_any _ (HT.out.onB B6.out HT.out.six)).mono ?_
      rintro e w5 ⟨rfl, hb⟩
      have B7 := Lib.hid (B6.out.trans (hb.mono B6.out.size))
      clear hb B6
      go_wp2
      go_ret
      exact ⟨rfl, B7.out⟩

theorem tback_walk (a b : Int) (s : ByteArray) (w : World) (hs : s.size ≤ 281474976710656) (hT : Tk w) :
    Calls Tryd.prog 4 #[.agg #[.int .i64 a, .int .i64 b], .string s] w fun e w' => e = .returned (.bool true) ∧ Below w.heap.size w w' := by
  have hp := fun W hW => parse_any s hs W hW
  have H2 : TM.txtE a b = 0 → ∀ W, Tk W → Calls Tryd.prog 12 #[.string ⟨(TM.txt a b).toArray⟩] W fun e w' => e = .returned (.tuple #[.agg #[.int .i64 a, .int .i64 b], .int .i64 0]) ∧ Below W.heap.size W w' := fun h W hW => by
    have hr : TM.right a b = true := by
      by_cases hk : TM.right a b = true
      · exact hk
      · unfold TM.txtE at h
        rw [if_neg hk] at h
        exact absurd h (by decide)
    have he : TM.txt a b = TM.text a b := if_pos hr
    rw [he]
    have hl := TM.text_len hr
    have hq := parse_any ⟨(TM.text a b).toArray⟩ (by rw [size_list]; omega) W hW
    have e : TM.parse (TM.text a b) = some (a, b) := TM.parse_iff.2 ⟨hr, rfl⟩
    have hq' : Calls Tryd.prog 12 #[.string ⟨(TM.text a b).toArray⟩] W fun e w' => e = .returned (parseVal (TM.parse (TM.text a b))) ∧ Below W.heap.size W w' := hq
    rw [e] at hq'
    exact hq'
  cases h : TM.parse s.data.toList with
  | none =>
    rw [h] at hp
    exact tback_core a b 0 0 4 s _ _ w hT (Lib.hid fun W hW => ttext_any a b W hW) (Lib.hid H2) (Lib.hid hp) (Lib.hid fun e => absurd e (by decide))
  | some t =>
    obtain ⟨x, y⟩ := t
    rw [h] at hp
    obtain ⟨hr, hl⟩ := TM.parse_iff.1 h
    refine tback_core a b x y 0 s _ _ w hT (Lib.hid fun W hW => ttext_any a b W hW) (Lib.hid H2) (Lib.hid hp) (Lib.hid fun _ W hW => ?_)
    have := ttext_ok x y hr W hW
    rw [← hl] at this
    exact this
end Go.Proofs.YtlmiiapmanklpaaDoor
