/- Contracts of numbers and Parse of package token. -/
import Derived.Test.YtlmiiapmanklpaaDoorTkCut
import Derived.Test.YtlmiiapmanklpaaDoorBlk
namespace Go.Proofs.YtlmiiapmanklpaaDoor
open Go.RowKit Go.Sort

theorem cut_le (l : List UInt8) : (Lib.cut l [46]).1.length ≤ l.length ∧ (Lib.cut l [46]).2.1.length ≤ l.length := by
  unfold Lib.cut
  split
  · simp
    omega
  · simp
theorem trim_le (l : List UInt8) : (Lib.trimPrefix l [35]).length ≤ l.length := by
  unfold Lib.trimPrefix
  split <;> simp
theorem size_list (l : List UInt8) : (⟨l.toArray⟩ : ByteArray).size = l.length := by simp [ByteArray.size]
theorem Whole.cells2 {w : World} {g : Nat} {t : TypeId} {a b : Value} (h : Whole w g t #[a, b]) : w.cell? ⟨g, 0, none⟩ = some a ∧ w.cell? ⟨g, 1, none⟩ = some b := ⟨h.cell 0, h.cell 1⟩
theorem set2_below {w W : World} {k : Nat} {u0 u1 : Value} (h : Below k w W) {g : Nat} (hg : k ≤ g) : Below k w ((W.setCell ⟨g, 0, none⟩ u0).setCell ⟨g, 1, none⟩ u1) :=
  (h.setCell (p := ⟨g, 0, none⟩) hg u0).setCell (p := ⟨g, 1, none⟩) hg u1

/-- What numbers answers. -/
def numsVal : Option (Int × Int) → Value
  | some t => .tuple #[.agg #[.int .i64 t.1, .int .i64 t.2], .bool true]
  | none => .tuple #[.agg #[.int .i64 0, .int .i64 0], .bool false]

set_option maxHeartbeats 2000000 in
theorem numbers_core (s t p q : ByteArray) (m f : Bool) (r : Option (Int × Int)) (w : World) (hT : Tk w)
    (H1 : Hid (∀ W, Calls Tryd.prog 25 #[.string s, .string ⟨#[35]⟩] W fun e w' => e = .returned (.tuple #[.string t, .bool m]) ∧ w' = W))
    (H2 : Hid (∀ W, Calls Tryd.prog 26 #[.string t, .string ⟨#[46]⟩] W fun e w' => e = .returned (.tuple #[.string p, .string q, .bool f]) ∧ Below W.heap.size W w'))
    (H3 : Hid (∀ W, Tk W → Calls Tryd.prog 27 #[.string p] W (AtoiIs p W)))
    (H4 : Hid (∀ W, Tk W → Calls Tryd.prog 27 #[.string q] W (AtoiIs q W)))
    (N1 : Hid (m = false ∨ f = false → r = none)) (N2 : Hid (∀ x y, m = true → f = true → Lib.atoiAll p.data.toList = .ok x → Lib.atoiAll q.data.toList = .ok y → r = some (x, y)))
    (N3 : Hid ((∀ v, Lib.atoiAll p.data.toList ≠ .ok v) ∨ (∀ v, Lib.atoiAll q.data.toList ≠ .ok v) → r = none)) :
    Calls Tryd.prog 20 #[.string s] w fun e w' => e = .returned (numsVal r) ∧ Below w.heap.size w w' := by
  have HT := Lib.hid hT
  clear hT
  go_enter Tryd.func20, Tryd.ntmps20
  go_wp2_with fail
  refine (H1.out _).mono ?_
  rintro e w' ⟨rfl, rfl⟩
  go_wp2_with fail
  refine (H2.out _).mono ?_
  rintro e w1 ⟨rfl, hb⟩
  have b1 : Below w.heap.size w w1 := ((Below.refl _ _).alloc (Nat.le_refl _) _).trans (hb.mono (by simp))
  have W1 := Lib.hid ((Whole.fresh w 23 #[.int .i64 0, .int .i64 0]).below hb (by simp))
  have T1 := Lib.hid (HT.out.on b1)
  have B1 := Lib.hid b1
  clear b1 hb
  by_cases hmf : m = false ∨ f = false
  · have hr := N1.out hmf
    subst hr
    obtain ⟨c0, c1⟩ := W1.out.cells2
    have q0 := W1.out.free 0
    have q1 := W1.out.free 1
    rcases hmf with rfl | rfl
    · clear N1 N2 N3
      go_wp2_with fail
      refine bodyPost_ret (v := .tuple #[.agg #[.int .i64 0, .int .i64 0], .bool false]) (by simp [results, Tryd.results20, go_sem, c0, c1]) rfl ⟨rfl, ?_⟩
      exact set2_below B1.out (Nat.le_refl _)
    · clear N1 N2 N3
      cases m
      · go_wp2_with fail
        refine bodyPost_ret (v := .tuple #[.agg #[.int .i64 0, .int .i64 0], .bool false]) (by simp [results, Tryd.results20, go_sem, c0, c1]) rfl ⟨rfl, ?_⟩
        exact set2_below B1.out (Nat.le_refl _)
      · go_wp2_with fail
        refine bodyPost_ret (v := .tuple #[.agg #[.int .i64 0, .int .i64 0], .bool false]) (by simp [results, Tryd.results20, go_sem, c0, c1]) rfl ⟨rfl, ?_⟩
        exact set2_below B1.out (Nat.le_refl _)
  · have hm : m = true := by cases m <;> simp_all
    have hf : f = true := by cases f <;> simp_all
    subst hm hf
    have N2' : Hid (∀ x y, Lib.atoiAll p.data.toList = .ok x → Lib.atoiAll q.data.toList = .ok y → r = some (x, y)) := Lib.hid fun x y => N2.out x y rfl rfl
    clear hmf N1 N2
    go_wp2_with fail
    refine (H3.out _ T1.out).mono ?_
    rintro e w2 ⟨x, ev, rfl, hb2, hx⟩
    have W2 := Lib.hid (W1.out.below hb2 W1.out.lt)
    have T2 := Lib.hid (T1.out.on hb2)
    have B2 := Lib.hid (B1.out.trans (hb2.mono B1.out.size))
    clear hb2 W1 T1 B1
    go_wp2_with fail
    refine (H4.out _ T2.out).mono ?_
    rintro e w3 ⟨y, ev', rfl, hb3, hy⟩
    have W3 := W2.out.below hb3 W2.out.lt
    have B3 := Lib.hid (B2.out.trans (hb3.mono B2.out.size))
    clear hb3 W2 T2 B2
    obtain ⟨c0, c1⟩ := W3.cells2
    have q0 := W3.free 0
    have q1 := W3.free 1
    have HW := Lib.hid W3
    clear W3
    rcases hx with ⟨rfl, hx⟩ | ⟨⟨N, rfl⟩, hx⟩
    · rcases hy with ⟨rfl, hy⟩ | ⟨⟨N', rfl⟩, hy⟩
      · have hr := N2'.out x y hx.out hy.out
        subst hr
        clear N2' N3
        go_wp2_with fail
        refine bodyPost_ret (v := .tuple #[.agg #[.int .i64 x, .int .i64 y], .bool true]) (by simp [results, Tryd.results20, go_sem, c0, c1]) rfl ⟨rfl, ?_⟩
        exact set2_below B3.out (Nat.le_refl _)
      · have hr := N3.out (Or.inr hy.out)
        subst hr
        clear N2' N3
        go_wp2_with fail
        refine bodyPost_ret (v := .tuple #[.agg #[.int .i64 0, .int .i64 0], .bool false]) (by simp [results, Tryd.results20, go_sem, c0, c1]) rfl ⟨rfl, ?_⟩
        exact set2_below B3.out (Nat.le_refl _)
    · have hr := N3.out (Or.inl hx.out)
      subst hr
      clear N2' N3 hy
      go_wp2_with fail
      refine bodyPost_ret (v := .tuple #[.agg #[.int .i64 0, .int .i64 0], .bool false]) (by simp [results, Tryd.results20, go_sem, c0, c1]) rfl ⟨rfl, ?_⟩
      exact set2_below B3.out (Nat.le_refl _)

theorem below_drewN {B : Nat} {w w' : World} (h : Below B w w') (n : Nat) : Below B w (w'.drewN n) := ⟨h.os, h.tape, h.output, h.size, h.block⟩

theorem numbers_any (s : ByteArray) (hs : s.size ≤ 281474976710656) (w : World) (hT : Tk w) :
    Calls Tryd.prog 20 #[.string s] w fun e w' => e = .returned (numsVal (TM.nums s.data.toList)) ∧ Below w.heap.size w w' := by
  have l0 : s.data.toList.length = s.size := rfl
  have l1 := trim_le s.data.toList
  have l2 := cut_le (Lib.trimPrefix s.data.toList [35])
  refine numbers_core s ⟨(Lib.trimPrefix s.data.toList [35]).toArray⟩ ⟨(Lib.cut (Lib.trimPrefix s.data.toList [35]) [46]).1.toArray⟩ ⟨(Lib.cut (Lib.trimPrefix s.data.toList [35]) [46]).2.1.toArray⟩ (Lib.hasPrefix s.data.toList [35]) (Lib.cut (Lib.trimPrefix s.data.toList [35]) [46]).2.2 _ w hT
    (Lib.hid fun W => cutPrefix_any s W)
    (Lib.hid fun W => ?_) (Lib.hid fun W hW => atoi_any _ (by rw [size_list]; omega) W hW) (Lib.hid fun W hW => atoi_any _ (by rw [size_list]; omega) W hW) (Lib.hid fun h => ?_) (Lib.hid fun x y h1 h2 h3 h4 => ?_) (Lib.hid fun h => ?_)
  · have := cut_any ⟨(Lib.trimPrefix s.data.toList [35]).toArray⟩ W (by rw [size_list]; omega)
    exact this.mono fun _ _ ⟨he, n, hn⟩ => ⟨he, by rw [hn]; exact below_drewN (Below.refl _ _) n⟩
  · unfold TM.nums
    rw [if_neg]
    rintro ⟨h1, h2⟩
    rcases h with h | h
    · rw [h] at h1; cases h1
    · rw [h] at h2; cases h2
  · unfold TM.nums
    have h3' : Lib.atoiAll (Lib.cut (Lib.trimPrefix s.data.toList [35]) [46]).1 = .ok x := h3
    have h4' : Lib.atoiAll (Lib.cut (Lib.trimPrefix s.data.toList [35]) [46]).2.1 = .ok y := h4
    rw [if_pos ⟨h1, h2⟩, h3', h4']
  · unfold TM.nums
    split
    · split
      · next e1 e2 =>
        rcases h with h | h
        · exact absurd e1 (h _)
        · exact absurd e2 (h _)
      · rfl
    · rfl
end Go.Proofs.YtlmiiapmanklpaaDoor
