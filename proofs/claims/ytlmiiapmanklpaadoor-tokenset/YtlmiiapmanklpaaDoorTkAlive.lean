/- The document's example: alive. -/
import Derived.Test.YtlmiiapmanklpaaDoorTkSrt
import Derived.Test.YtlmiiapmanklpaaDoorTkParse
namespace Go.Proofs.YtlmiiapmanklpaaDoor
open Go.RowKit

theorem TM.text_12_3 : TM.text 12 3 = [35, 49, 50, 46, 51] := by
  unfold TM.text
  rw [TM.itoa_nat 12 (by decide), TM.itoa_nat 3 (by decide)]
  show 35 :: (Lib.decDigits 12 ++ 46 :: Lib.decDigits 3) = _
  rw [Lib.decDigits_two (by decide) (by decide), Lib.decDigits_one (by decide)]
  rfl
theorem text_12_3 (w : World) (hT : Tk w) : Calls Tryd.prog 8 #[.agg #[.int .i64 12, .int .i64 3]] w fun e w' => e = .returned (.tuple #[.string ⟨#[35, 49, 50, 46, 51]⟩, .int .i64 0]) ∧ Below w.heap.size w w' := by
  have h := ttext_ok 12 3 (by decide) w hT
  rw [TM.text_12_3] at h
  exact h
theorem parse_12_3 (w : World) (hT : Tk w) : Calls Tryd.prog 12 #[.string ⟨#[35, 49, 50, 46, 51]⟩] w fun e w' => e = .returned (.tuple #[.agg #[.int .i64 12, .int .i64 3], .int .i64 0]) ∧ Below w.heap.size w w' := by
  have h := parse_any ⟨#[35, 49, 50, 46, 51]⟩ (by show 5 ≤ 281474976710656; decide) w hT
  have e : TM.parse ([35, 49, 50, 46, 51] : List UInt8) = some (12, 3) := TM.parse_iff.2 ⟨by decide, TM.text_12_3.symm⟩
  have h' : Calls Tryd.prog 12 #[.string ⟨#[35, 49, 50, 46, 51]⟩] w fun e w' => e = .returned (parseVal (TM.parse ([35, 49, 50, 46, 51] : List UInt8))) ∧ Below w.heap.size w w' := h
  rw [e] at h'
  exact h'

/-- A slice over a block of the call's own that is known whole. -/
theorem TS.of_whole {w : World} {g : Nat} {t : TypeId} {l : List (Int × Int)} (h : Whole w g t (flatT l).toArray) : TS w w.heap.size (some ⟨g, 0, none⟩) l.length l.length l := by
  refine ⟨⟨rfl, fun _ => ⟨g, 0, rfl, h.lt, fun i f hi => ?_⟩⟩, (fun e => by cases e), Nat.le_refl _⟩
  have hg := flatT_get l i f hi
  simp only [Nat.zero_add]
  exact ⟨(h.cell (i * 2)).trans (by simpa using hg.1), (h.cell (i * 2 + 1)).trans (by simpa using hg.2)⟩

theorem sort_212 (g : Nat) (w : World) (h : Whole w g 23 #[.int .i64 2, .int .i64 1, .int .i64 1, .int .i64 9, .int .i64 2, .int .i64 1]) :
    Calls Tryd.prog 17 #[.slice (some ⟨g, 0, none⟩) 3 3] w fun e w' => ∃ b off c, e = .returned (.tuple #[.slice (some ⟨b, off, none⟩) 2 c, .int .i64 0]) ∧ w'.cell? ⟨b, off, none⟩ = some (.int .i64 1) ∧ w'.cell? ⟨b, off + 2, none⟩ = some (.int .i64 2) ∧ Below w.heap.size w w' := by
  have h0 : TS w w.heap.size (some ⟨g, 0, none⟩) 3 3 [(2, 1), (1, 9), (2, 1)] := TS.of_whole (l := [(2, 1), (1, 9), (2, 1)]) h
  have h1 := sort_any (some ⟨g, 0, none⟩) 3 3 [(2, 1), (1, 9), (2, 1)] w (by decide) h0
  have eE : TM.sortE [(2, 1), (1, 9), (2, 1)] = 0 := by decide
  have eL : TM.sortL [(2, 1), (1, 9), (2, 1)] = [(1, 9), (2, 1)] := by unfold TM.sortL; rw [if_pos eE, TM.sort_example]
  rw [eE, eL] at h1
  refine h1.mono ?_
  rintro e w' ⟨A, c, he, hts, hb⟩
  obtain ⟨b, off, rfl, _, hc⟩ := hts.fs.2 (by decide)
  exact ⟨b, off, c, he, (hc 0 (1, 9) rfl).1, (hc 1 (2, 1) rfl).1, hb⟩

set_option maxHeartbeats 2000000 in
set_option maxRecDepth 100000 in
theorem alive_any (w : World) (hT : Tk w) : Calls Tryd.prog 14 #[] w fun e w' => e = .returned (.bool true) ∧ Below w.heap.size w w' := by
  have HT := Lib.hid hT
  clear hT
  go_enter Tryd.func14, Tryd.ntmps14
  go_wp2_with fail
  refine (text_12_3 _ HT.out).mono ?_
  rintro e w1 ⟨rfl, hb1⟩
  have T1 := Lib.hid (HT.out.on hb1)
  have B1 := Lib.hid hb1
  clear hb1
  go_wp2_with fail
  refine (parse_12_3 _ T1.out).mono ?_
  rintro e w2 ⟨rfl, hb2⟩
  have B2 := Lib.hid (B1.out.trans (hb2.mono B1.out.size))
  clear hb2
  go_wp2_with fail
  refine (sort_212 _ _ (Whole.fresh' (by simp))).mono ?_
  rintro e w3 ⟨b, off, c, rfl, c0, c1, hb3⟩
  obtain ⟨d0, d1⟩ := (((Whole.fresh w2 23 #[.int .i64 12, .int .i64 3]).alloc _).below hb3 (by simp; omega)).cells2
  have B3 := Lib.hid (((B2.out.alloc B2.out.size _).alloc (by have := B2.out.size; simp; omega) _).trans (hb3.mono (by have := B2.out.size; simp; omega)))
  clear hb3
  go_wp2
  go_ret
  exact ⟨rfl, B3.out⟩
end Go.Proofs.YtlmiiapmanklpaaDoor
