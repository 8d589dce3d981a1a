/- Contract of Parse of package token. -/
import Derived.Test.YtlmiiapmanklpaaDoorTkNum
namespace Go.Proofs.YtlmiiapmanklpaaDoor
open Go.RowKit Go.Sort

/-- What Parse answers. -/
def parseVal : Option (Int × Int) → Value
  | some t => .tuple #[.agg #[.int .i64 t.1, .int .i64 t.2], .int .i64 0]
  | none => .tuple #[.agg #[.int .i64 0, .int .i64 0], .int .i64 4]

set_option maxHeartbeats 2000000 in
theorem parse_core (s T : ByteArray) (x y E : Int) (r : Option (Int × Int)) (w : World) (hT : Tk w)
    (H1 : Hid (∀ W, Tk W → Calls Tryd.prog 20 #[.string s] W fun e w' => e = .returned (.tuple #[.agg #[.int .i64 x, .int .i64 y], .bool true]) ∧ Below W.heap.size W w'))
    (H2 : Hid (∀ W, Tk W → Calls Tryd.prog 8 #[.agg #[.int .i64 x, .int .i64 y]] W fun e w' => e = .returned (.tuple #[.string T, .int .i64 E]) ∧ Below W.heap.size W w'))
    (N1 : Hid (E ≠ 0 ∨ T.toList ≠ s.toList → r = none)) (N2 : Hid (E = 0 → T.toList = s.toList → r = some (x, y))) :
    Calls Tryd.prog 12 #[.string s] w fun e w' => e = .returned (parseVal r) ∧ Below w.heap.size w w' := by
  have HT := Lib.hid hT
  clear hT
  go_enter Tryd.func12, Tryd.ntmps12
  go_wp2_with fail
  have b0 : Below w.heap.size w (w.alloc (.cells #[.int .i64 0, .int .i64 0] 23)) := (Below.refl _ _).alloc (Nat.le_refl _) _
  refine (H1.out _ (HT.out.on b0)).mono ?_
  rintro e w1 ⟨rfl, hb⟩
  have b1 : Below w.heap.size w w1 := b0.trans (hb.mono (by simp))
  have W1 := (Whole.fresh w 23 #[.int .i64 0, .int .i64 0]).below hb (by simp)
  have T1 := Lib.hid (HT.out.on b1)
  have B1 := Lib.hid b1
  have HW1 := Lib.hid W1
  clear b0 b1 hb W1
  go_wp2_with fail
  have b2 : Below w1.heap.size w1 (w1.alloc (.cells #[.int .i64 x, .int .i64 y] 23)) := (Below.refl _ _).alloc (Nat.le_refl _) _
  refine (H2.out _ (T1.out.on b2)).mono ?_
  rintro e w2 ⟨rfl, hb⟩
  have b3 : Below w1.heap.size w1 w2 := b2.trans (hb.mono (by simp))
  have W2 := HW1.out.below b3 HW1.out.lt
  have V2 := (Whole.fresh w1 23 #[.int .i64 x, .int .i64 y]).below hb (by simp)
  have B2 := Lib.hid (B1.out.trans (b3.mono B1.out.size))
  obtain ⟨c0, c1⟩ := W2.cells2
  have q0 := W2.free 0
  have q1 := W2.free 1
  obtain ⟨d0, d1⟩ := V2.cells2
  have hlt := HW1.out.lt
  clear b2 b3 hb W2 V2 B1 T1 HW1
  by_cases hE : E = 0
  · by_cases hS : T.toList = s.toList
    · have hr := N2.out hE hS
      subst hr hE
      have hS' : (T.toList == s.toList) = true := by simpa using hS
      clear N1 N2 hS
      go_wp2_with fail
      refine bodyPost_ret (v := .tuple #[.agg #[.int .i64 x, .int .i64 y], .int .i64 0]) (by simp [results, Tryd.results12, go_sem, c0, c1]) rfl ⟨rfl, ?_⟩
      exact set2_below B2.out (Nat.le_refl _)
    · have hr := N1.out (Or.inr hS)
      subst hr hE
      have hS' : (T.toList == s.toList) = false := by simpa using hS
      clear N1 N2 hS
      go_wp2_with fail
      refine bodyPost_ret (v := .tuple #[.agg #[.int .i64 0, .int .i64 0], .int .i64 4]) (by simp [results, Tryd.results12, go_sem, c0, c1]) rfl ⟨rfl, ?_⟩
      exact set2_below B2.out (Nat.le_refl _)
  · have hr := N1.out (Or.inl hE)
    subst hr
    have hE' : (E != 0) = true := by simpa using hE
    clear N1 N2 hE
    go_wp2_with fail
    refine bodyPost_ret (v := .tuple #[.agg #[.int .i64 0, .int .i64 0], .int .i64 4]) (by simp [results, Tryd.results12, go_sem, c0, c1]) rfl ⟨rfl, ?_⟩
    exact set2_below B2.out (Nat.le_refl _)

set_option maxHeartbeats 2000000 in
theorem parse_none (s : ByteArray) (w : World) (hT : Tk w)
    (H1 : Hid (∀ W, Tk W → Calls Tryd.prog 20 #[.string s] W fun e w' => e = .returned (.tuple #[.agg #[.int .i64 0, .int .i64 0], .bool false]) ∧ Below W.heap.size W w')) :
    Calls Tryd.prog 12 #[.string s] w fun e w' => e = .returned (parseVal none) ∧ Below w.heap.size w w' := by
  have HT := Lib.hid hT
  clear hT
  go_enter Tryd.func12, Tryd.ntmps12
  go_wp2_with fail
  have b0 : Below w.heap.size w (w.alloc (.cells #[.int .i64 0, .int .i64 0] 23)) := (Below.refl _ _).alloc (Nat.le_refl _) _
  refine (H1.out _ (HT.out.on b0)).mono ?_
  rintro e w1 ⟨rfl, hb⟩
  have b1 : Below w.heap.size w w1 := b0.trans (hb.mono (by simp))
  have W1 := (Whole.fresh w 23 #[.int .i64 0, .int .i64 0]).below hb (by simp)
  have B1 := Lib.hid b1
  have hlt := W1.lt
  obtain ⟨c0, c1⟩ := W1.cells2
  have q0 := W1.free 0
  have q1 := W1.free 1
  clear b0 b1 hb W1
  go_wp2_with fail
  refine bodyPost_ret (v := .tuple #[.agg #[.int .i64 0, .int .i64 0], .int .i64 4]) (by simp [results, Tryd.results12, go_sem, c0, c1, World.cell?_alloc_lt, hlt]) rfl ⟨rfl, ?_⟩
  exact (set2_below B1.out (Nat.le_refl _)).alloc (by have := B1.out.size; simp; omega) _

theorem parse_any (s : ByteArray) (hs : s.size ≤ 281474976710656) (w : World) (hT : Tk w) :
    Calls Tryd.prog 12 #[.string s] w fun e w' => e = .returned (parseVal (TM.parse s.data.toList)) ∧ Below w.heap.size w w' := by
  have hn := fun W hW => numbers_any s hs W hW
  cases h : TM.nums s.data.toList with
  | none =>
    have : TM.parse s.data.toList = none := by unfold TM.parse; rw [h]
    rw [this]
    rw [h] at hn
    exact parse_none s w hT (Lib.hid hn)
  | some t =>
    obtain ⟨x, y⟩ := t
    rw [h] at hn
    have e1 : ∀ a b : List UInt8, (⟨a.toArray⟩ : ByteArray).toList = a := fun a _ => by rw [Lib.toList_data]
    refine parse_core s ⟨(TM.txt x y).toArray⟩ x y (TM.txtE x y) _ w hT (Lib.hid hn) (Lib.hid fun W hW => ttext_any x y W hW) (Lib.hid fun hh => ?_) (Lib.hid fun h1 h2 => ?_)
    · unfold TM.parse
      rw [h]
      refine if_neg ?_
      rintro ⟨k1, k2⟩
      rcases hh with hh | hh
      · exact hh (if_pos k1)
      · refine hh ?_
        rw [e1 _ [], Lib.toList_data]
        unfold TM.txt
        rw [if_pos k1, k2]
    · have k1 : TM.right x y = true := by
        by_cases hk : TM.right x y = true
        · exact hk
        · unfold TM.txtE at h1
          rw [if_neg hk] at h1
          exact absurd h1 (by decide)
      rw [e1 _ [], Lib.toList_data] at h2
      unfold TM.txt at h2
      rw [if_pos k1] at h2
      unfold TM.parse
      rw [h]
      exact if_pos ⟨k1, h2⟩
end Go.Proofs.YtlmiiapmanklpaaDoor
