/- A law's list that waits: made since the law began; its calls; the law package's alive. -/
import Derived.Test.YtomjaieplpjcpaaGyPut
import Derived.Test.YtomjaieplpjcpaaGyDone
import Derived.Test.YtomjaieplpjcpaaGrSort
namespace Go.Proofs.Ytomjaieplpjcpaa
open Go.RowKit Go.Lib Go.Sort Go.Maps

/-- A list that waits, all of it made since w0. -/
structure Gl (w0 w : World) (b : Nat) (s : GY.S) : Prop where
  gy : Gy w w0.heap.size b s
  bel : Below w0.heap.size w0 w
section
variable {w0 w w' w1 : World} {b base lo n c : Nat} {s : GY.S} {v : Value} {x : Int} {l xs : List Int} {A : Option Addr}
theorem Gy.less (h : Gy w base b s) (hl : lo ≤ base) : Gy w lo b s := by
  obtain ⟨m, e, P, bf, bh, h⟩ := h
  have h1 := h.lo
  exact ⟨m, e, P, bf, bh, h.good, h.ok, h.ring, h.map, h.done, ⟨by omega, by omega, by omega, fun x hx => by have := h1.2.2.2 x hx; omega⟩⟩
theorem Gy.lt (h : Gy w base b s) : b < w.heap.size := by obtain ⟨m, e, P, bf, bh, h⟩ := h; exact h.ring.box.lt
theorem Gl.below (h : Gl w0 w b s) (k : Below w.heap.size w w') : Gl w0 w' b s := ⟨h.gy.below k, h.bel.trans (k.mono h.bel.size)⟩
theorem Gl.alloc (h : Gl w0 w b s) (o : Obj) : Gl w0 (w.alloc o) b s := h.below ((Below.refl _ w).alloc (Nat.le_refl _) o)
theorem Gl.drewN (h : Gl w0 w b s) (n : Nat) : Gl w0 (w.drewN n) b s := h.below (bdrewN (Below.refl _ w) n)
/-- A row of the law's own has grown. -/
theorem Gl.grown (h : Gl w0 w b s) (hv : NewZ w0.heap.size w v l) (k : w.grownBy w' v.ownBlock) : Gl w0 w' b s :=
  ⟨h.gy.grown k hv.notmine, h.bel.grown k h.bel.size fun g hg => (hv.own.lt g hg).1⟩
theorem Gl.ok (h : Gl w0 w b s) (hc : GY.col s x ≠ 0) : I64 x := by obtain ⟨⟨m, e, P, bf, bh, h⟩, _⟩ := h; exact h.ok x hc
theorem Gl.good (h : Gl w0 w b s) : GY.Good s := h.gy.good
/-- What a call leaves that turns a law's list. -/
def GlE (w0 : World) (b : Nat) (s : GY.S) (v : Value) (w : World) (e : Ending) (w' : World) : Prop := e = .returned v ∧ Gl w0 w' b s ∧ Gt w0.heap.size w w'
theorem Gl.of (h : Gl w0 w b s) {s' : GY.S} (h1 : Gy w' w0.heap.size b s') (h2 : Gt w0.heap.size w w') : Gl w0 w' b s' ∧ Gt w0.heap.size w w' := ⟨⟨h1, h.bel.trans (h2.below h.bel.size (Nat.le_refl _))⟩, h2⟩
theorem lnew_any (hb : Below w0.heap.size w0 w) : Calls Try.prog 9 #[] w fun e w' => ∃ b, e = .returned (pv b) ∧ Gl w0 w' b GY.S.nil ∧ Below w.heap.size w w' := by
  refine (gnew_any w).mono ?_
  rintro e w' ⟨b, rfl, h1, h2⟩
  exact ⟨b, rfl, ⟨h1.less hb.size, hb.trans (h2.mono hb.size)⟩, h2⟩
theorem lput_any (h : Gl w0 w b s) (hz : ∀ w', Gt w0.heap.size w w' → ZS w' A n xs) (hi : ZI xs) (hn : GY.num s + n < 1000000) : Calls Try.prog 11 #[pv b, .slice A n c] w (GlE w0 b (GY.puts s xs) (.int .i64 ((GY.cnt s xs : Nat) : Int)) w) := by
  refine (gput_any h.gy hz hi hn).mono ?_
  rintro e w' ⟨rfl, h1, h2⟩
  exact ⟨rfl, h.of h1 h2⟩
theorem lagain_any (h : Gl w0 w b s) (hx : I64 x) (hn : GY.num s ≤ 1000000) : Calls Try.prog 12 #[pv b, .int .i64 x] w (GlE w0 b (GY.again s x) (.bool (decide (GY.col s x = 2))) w) := by
  refine (gagain_any h.gy hx hn).mono ?_
  rintro e w' ⟨rfl, h1, h2⟩
  exact ⟨rfl, h.of h1 h2⟩
theorem lpaint_any (h : Gl w0 w b s) (hx : I64 x) (hn : GY.num s < 1000000) : Calls Try.prog 16 #[pv b, .int .i64 x] w (GlE w0 b (GY.paint s x) (.bool (decide (GY.col s x ≠ 2))) w) := by
  refine (gpaint_any h.gy hx hn).mono ?_
  rintro e w' ⟨rfl, h1, h2⟩
  exact ⟨rfl, h.of h1 h2⟩
theorem lnext_any (h : Gl w0 w b s) (hn : GY.num s ≤ 1000000) : Calls Try.prog 8 #[pv b] w (GlE w0 b (GY.next s) (.tuple #[.int .i64 (GY.hd s), .bool (decide (s.W ≠ []))]) w) := by
  refine (gnext_any h.gy hn).mono ?_
  rintro e w' ⟨rfl, h1, h2⟩
  exact ⟨rfl, h.of h1 h2⟩
/-- Numbers in a block of the caller's own stay while a list turns. -/
theorem zs_gt {g : Nat} {cs : Array Value} (h : Whole w g 3 cs) (hn : xs.length = n) (hc : cs.toList = xs.map (Value.int .i64)) : ∀ w', Gt base w w' → ZS w' (some ⟨g, 0, none⟩) n xs :=
  fun _ k => zs_block (k.whole h (by decide) (by decide)) hn hc
/-- Numbers that came in stay. -/
theorem Gl.zs (h : Gl w0 w b s) (hz : ZS w0 A n xs) : ∀ w', Gt w0.heap.size w w' → ZS w' A n xs :=
  fun _ k => hz.below (h.bel.trans (k.below h.bel.size (Nat.le_refl _)))
/-- A row of the law's own stays. -/
theorem NewZ.zs_gt {B : Nat} (h : NewZ B w (.slice A n c) l) : ∀ w', Gt base w w' → ZS w' A n l := fun _ k => (h.gt k).zs
theorem lput_one (h : Gl w0 w b s) (hx : I64 x) (hn : GY.num s + 1 < 1000000) : Calls Try.prog 11 #[pv b, .slice (some ⟨w.heap.size, 0, none⟩) 1 1] (w.alloc (.cells #[.int .i64 x] 3)) fun e w' => e = .returned (.int .i64 (if GY.col s x = 0 then 1 else 0)) ∧ Gl w0 w' b (GY.put s x) ∧ Gt w0.heap.size w w' := by
  refine (lput_any (xs := [x]) (h.alloc (.cells #[.int .i64 x] 3)) (zs_gt (Whole.fresh w _ _) rfl rfl) (fun y hy => by rw [List.mem_singleton] at hy; exact hy ▸ hx) hn).mono ?_
  rintro e w' ⟨rfl, h1, h2⟩
  refine ⟨?_, h1, (Gt.of_below ((Below.refl _ w).alloc (Nat.le_refl _) _)).trans h2⟩
  unfold GY.cnt GY.cnt
  by_cases hc : GY.col s x = 0
  · rw [if_pos hc, if_pos hc]; rfl
  · rw [if_neg hc, if_neg hc]; rfl
end

theorem alive1 : GY.puts GY.S.nil [4, 7, 4] = ⟨[4, 7], []⟩ := by rfl
theorem alive2 : GY.cnt GY.S.nil [4, 7, 4] = 2 := by rfl
theorem alive3 : GY.again ⟨[7], [4]⟩ 4 = ⟨[7, 4], []⟩ := by rfl
set_option maxHeartbeats 1000000 in
theorem galive_any (w : World) : Calls Try.prog 10 #[] w fun e w' => e = .returned (.bool true) ∧ Below w.heap.size w w' := by
  go_enter Try.func10, Try.ntmps10
  go_wp2_with fail
  refine (lnew_any (Below.refl _ w)).mono ?_
  rintro e w1 ⟨b, rfl, h1, _⟩
  have H2 := lput_any (xs := [4, 7, 4]) (n := 3) (c := 3) (h1.alloc (.cells #[.int .i64 4, .int .i64 7, .int .i64 4] 3)) (zs_gt (Whole.fresh w1 _ _) rfl rfl) (by intro x hx; unfold I64; simp at hx; omega) (by decide)
  rw [alive1, alive2] at H2
  have H2 := Lib.hid H2
  clear h1
  go_wp2_with fail
  refine H2.out.mono ?_
  rintro e w2 ⟨rfl, h2, _⟩
  have H3 := Lib.hid (lnext_any h2 (by decide))
  clear H2 h2
  go_wp2_with fail
  refine H3.out.mono ?_
  rintro e w3 ⟨rfl, h3, _⟩
  have h3 : Gl w w3 b ⟨[7], [4]⟩ := h3
  have H4 := Lib.hid (lput_one (x := 4) h3 (by unfold I64; omega) (by decide))
  clear H3 h3
  go_wp2_with fail
  refine H4.out.mono ?_
  rintro e w4 ⟨rfl, h4, _⟩
  have h4 : Gl w w4 b ⟨[7], [4]⟩ := h4
  have H5 := lagain_any (x := 4) h4 (by unfold I64; omega) (by decide)
  rw [alive3] at H5
  have H5 := Lib.hid H5
  clear H4 h4
  go_wp2_with fail
  refine H5.out.mono ?_
  rintro e w5 ⟨rfl, h5, _⟩
  have H6 := Lib.hid (lnext_any h5 (by decide))
  clear H5 h5
  go_wp2_with fail
  refine H6.out.mono ?_
  rintro e w6 ⟨rfl, h6, _⟩
  have h6 : Gl w w6 b ⟨[4], [7]⟩ := h6
  have C1 := Lib.hid (gcolor_any (x := 4) h6.gy (by unfold I64; omega))
  have C2 := Lib.hid (gcolor_any (x := 7) h6.gy (by unfold I64; omega))
  have C3 := Lib.hid (gcolor_any (x := 9) h6.gy (by unfold I64; omega))
  have HB := Lib.hid h6.bel
  clear H6 h6
  go_wp2_with fail
  refine C1.out.mono ?_
  rintro e w6 ⟨rfl, rfl⟩
  go_wp2_with fail
  refine C2.out.mono ?_
  rintro e w6 ⟨rfl, rfl⟩
  go_wp2_with fail
  refine C3.out.mono ?_
  rintro e w6 ⟨rfl, rfl⟩
  go_wp2
  go_ret
  exact ⟨rfl, HB.out⟩
end Go.Proofs.Ytomjaieplpjcpaa
