/- Contract of slices.Concat over two rows of numbers. -/
import Derived.Test.YtfmcgejoobbiiaaBgComp
import Derived.Test.YtfmcgejoobbiiaaBgShelf3
import Derived.Laws.AppendOwnNone
import Derived.Maps.AppendAt
namespace Go.Proofs.Ytfmcgejoobbiiaa
open Go.RowKit Go.Lib Go.Sort

theorem infoInt : (Try.prog.info? 3).map (fun i => (i.zero, i.size, i.bytes)) = some (some (.int .i64 0), 1, 8) := by kernel_rfl
theorem infoInt_parts : ∃ i, Try.prog.info? 3 = some i ∧ i.zero = some (.int .i64 0) ∧ i.size = 1 ∧ i.bytes = 8 := by
  have h := infoInt
  cases hh : Try.prog.info? 3 with
  | none => rw [hh] at h; cases h
  | some i =>
    rw [hh] at h
    simp at h
    exact ⟨i, rfl, h.1, h.2.1, h.2.2⟩

theorem grow_any (n : Nat) (w : World) (hn : n ≤ 1000000) :
    Calls Try.prog 52 #[.slice none 0 0, .int .i64 (n : Nat)] w fun e w' => ∃ v', e = .returned v' ∧ w'.ownsRow w.heap.size 3 1 v' 0 [] ∧ Below w.heap.size w w' := by
  rcases Nat.eq_zero_or_pos n with h0 | h0
  · subst h0
    refine Calls.mono (Any8.slices_Grow_room Try.lgrow none 0 0 0 w (Nat.le_refl _) (by decide) (by decide) (Nat.le_refl _)) ?_
    rintro e w' ⟨rfl, rfl⟩
    exact ⟨_, rfl, World.ownsRow_nil _ _ _ _, Below.refl _ _⟩
  · obtain ⟨i0, hi0, hz0, hz1, hz2⟩ := infoInt_parts
    refine Calls.mono (Any8.slices_Grow_grow Try.lgrow i0 (.int .i64 0) hi0 hz0 (by omega) none 0 0 n [] w (Nat.le_refl _) (by omega) (by rw [hz2]; omega) (by omega) (by simp) (fun _ => rfl) (fun a e => by cases e)) ?_
    rintro e w' ⟨rfl, rfl⟩
    have g1 := grownCap_ge w (0 + n) 0 (Try.lgrow_ren.t 25)
    have g2 := grownCap_le_maxLen w (0 + n) 0 (Try.lgrow_ren.t 25) (by unfold maxLen; omega)
    generalize grownCap w (0 + n) 0 (Try.lgrow_ren.t 25) = C at g1 g2
    refine ⟨_, rfl, World.ownsRow_made w.drew _ C (Nat.le_refl _) g2 (by simp [Builtin.zeroCells, Value.cells]; omega), ((Below.refl _ w).drew).alloc (Nat.le_refl _) _⟩

set_option maxRecDepth 10000 in
theorem wpList_append_rowI (w : World) {ops : Array Oper} {rest : List Oper} {o : Oper} {a : Act} {Q : Exit → Act → World → Prop} (hgd : o.guard = none) (s x : Operand)
    (ho : o.op = .call { callee := .builtin .append, args := #[s, x], argTypes := #[22, 22] })
    (base : Nat) (v : Value) (n : Nat) (xs : List Int) (hs : a.eval s = v) (hown : w.ownsRow base 3 1 v n (xs.map (Value.int .i64)))
    (r : Nat) (u : Value) (ys : List Int) (hx : a.eval x = u) (hr : Row 3 (Value.int .i64) w r u ys)
    (h63 : n + ys.length ≤ 3000000) (hbase : base ≤ w.heap.size)
    (h : ∀ v' w', w'.ownsRow base 3 1 v' (n + ys.length) ((xs ++ ys).map (Value.int .i64)) → w.grownBy w' v.ownBlock → wpList Try.prog ops Q rest (a.put o.dst v') w') : wpList Try.prog ops Q (o :: rest) a w := by
  obtain ⟨i0, hi0, hz0, hz1, hz2⟩ := infoInt_parts
  rcases hr.form with ⟨rfl, rfl⟩ | ⟨cap, cur, rfl, hh, hn, hm, hs', hc⟩
  · refine wpList_append_own_none hgd s x 22 ho base 3 i0 1 Try.underlying22 hi0 v n (xs.map (Value.int .i64)) hs hown hx ?_
    exact h v w (by simpa using hown) (World.grownBy.refl w _)
  · refine wpList_append_own_at w hgd s x 22 ho base 3 i0 _ 1 8 Try.underlying22 hi0 hz0 hz1 hz2 rfl (by decide) v n (xs.map (Value.int .i64)) hs hown ⟨r, 0, none⟩ ys.length cap (ys.map (Value.int .i64)) hx (by simp) ?_ (oneI ys) (by unfold maxLen; omega) (by omega) hbase ?_
    · intro j u hu
      have hj : j < ys.length := by have := (List.getElem?_eq_some_iff.1 hu).1; simpa using this
      rw [Addr.add_lit, Nat.zero_add, hh.cell, hc j hj, hu]
    · intro v' w' h1 h2 _ _
      refine h v' w' ?_ h2
      rw [List.map_append]
      exact h1

/-- Behind k of two slices. -/
def sz2 (n m k : Nat) : Nat := if k = 0 then 0 else if k = 1 then n else n + m
def pre2 (xs ys : List Int) (k : Nat) : List Int := if k = 0 then [] else if k = 1 then xs else xs ++ ys

set_option maxHeartbeats 1000000 in
theorem concat_any (s r1 r2 : Nat) (v1 v2 : Value) (xs ys : List Int) (w : World) (hs : Whole w s 22 #[v1, v2]) (h1 : Row 3 (Value.int .i64) w r1 v1 xs) (h2 : Row 3 (Value.int .i64) w r2 v2 ys) (hl1 : xs.length ≤ 400000) (hl2 : ys.length ≤ 400000) :
    Calls Try.prog 35 #[.slice (some ⟨s, 0, none⟩) 2 2] w fun e w' => ∃ v', e = .returned v' ∧ w'.ownsRow w.heap.size 3 1 v' (xs ++ ys).length ((xs ++ ys).map (Value.int .i64)) ∧ Below w.heap.size w w' := by
  obtain ⟨A1, c1, rfl, _⟩ := h1.slice
  obtain ⟨A2, c2, rfl, _⟩ := h2.slice
  have HW := Lib.hid hs
  have H1 := Lib.hid h1
  have H2 := Lib.hid h2
  have s0 : w.cell? ⟨s, 0, none⟩ = some (.slice A1 xs.length c1) := by rw [hs.cell]; rfl
  have s1 : w.cell? ⟨s, 1, none⟩ = some (.slice A2 ys.length c2) := by rw [hs.cell]; rfl
  clear hs h1 h2
  go_enter Try.func35, Try.ntmps35
  go_wp2
  go_loopg [3, 11] 2 (fun g z i wr => ∃ k : Nat, k ≤ 2 ∧ Hid (2 - k ≤ g) ∧ i = .int .i64 k ∧ z = .int .i64 (sz2 xs.length ys.length k : Nat) ∧ w = wr)
  case atStart => exact ⟨0, by omega, Lib.hid (by omega), rfl, rfl, rfl⟩
  case round =>
    obtain ⟨k, hk, HG, rfl, rfl, rfl⟩ := hrel
    have hk3 : k = 0 ∨ k = 1 ∨ k = 2 := by omega
    rcases hk3 with rfl | rfl | rfl
    · have e0 : sz2 xs.length ys.length 0 = 0 := by simp [sz2]
      rw [e0]
      clear e0
      go_wp2
      go_roundg 1
      case measure => have := HG.out; omega
      case rel => exact ⟨1, by omega, Lib.hid (by omega), by go_num, by simp [sz2], rfl⟩
    · have e1 : sz2 xs.length ys.length 1 = xs.length := by simp [sz2]
      rw [e1]
      clear e1
      go_wp2
      go_roundg 0
      case measure => have := HG.out; omega
      case rel => exact ⟨2, by omega, Lib.hid (by omega), by go_num, by simp [sz2], rfl⟩
    · have e2 : sz2 xs.length ys.length 2 = xs.length + ys.length := by simp [sz2]
      rw [e2]
      clear e2
      go_wp2_with fail
      refine (grow_any (xs.length + ys.length) w (by omega)).mono ?_
      rintro e w1 ⟨v0, rfl, ho, hb⟩
      have HO := Lib.hid ho
      have HB := Lib.hid hb
      have b0 := (hb.cell (p := ⟨s, 0, none⟩) HW.out.lt).trans s0
      have b1 := (hb.cell (p := ⟨s, 1, none⟩) HW.out.lt).trans s1
      clear ho hb s0 s1
      go_wp2
      go_loopg [6, 27] 2 (fun g nv i wr => ∃ k : Nat, k ≤ 2 ∧ Hid (2 - k ≤ g) ∧ i = .int .i64 k ∧ Hid (wr.ownsRow w.heap.size 3 1 nv (pre2 xs ys k).length ((pre2 xs ys k).map (Value.int .i64))) ∧ Hid (Below w.heap.size w wr))
      case atStart => exact ⟨0, by omega, Lib.hid (by omega), rfl, Lib.hid HO.out, HB⟩
      case round =>
        obtain ⟨k, hk, HG, rfl, HO, HB⟩ := hrel
        clear b0 b1
        have b0 := (HB.out.cell (p := ⟨s, 0, none⟩) HW.out.lt).trans (by rw [HW.out.cell]; rfl : w.cell? ⟨s, 0, none⟩ = some (.slice A1 xs.length c1))
        have b1 := (HB.out.cell (p := ⟨s, 1, none⟩) HW.out.lt).trans (by rw [HW.out.cell]; rfl : w.cell? ⟨s, 1, none⟩ = some (.slice A2 ys.length c2))
        have hbs := HB.out.size
        have hk3 : k = 0 ∨ k = 1 ∨ k = 2 := by omega
        rcases hk3 with rfl | rfl | rfl
        · go_wp2_with (first
            | (at_builtin
               refine wpList_append_rowI _ rfl _ _ rfl w.heap.size _ _ [] rfl HO.out r1 _ xs rfl (H1.out.below HB.out) (by simp [pre2]; omega) hbs ?_
               intro v2 w2 ho2 hg2
               have HO2 := Lib.hid ho2
               have HB2 := Lib.hid (HB.out.grown hg2 hbs (fun k hk => (HO.out.lt k hk).1))
               clear ho2 hg2))
          go_roundg 1
          case measure => have := HG.out; omega
          case rel => exact ⟨1, by omega, Lib.hid (by omega), by go_num, Lib.hid (by have := HO2.out; simpa [pre2] using this), HB2⟩
        · go_wp2_with (first
            | (at_builtin
               refine wpList_append_rowI _ rfl _ _ rfl w.heap.size _ _ xs rfl HO.out r2 _ ys rfl (H2.out.below HB.out) (by simp [pre2]; omega) hbs ?_
               intro v2 w2 ho2 hg2
               have HO2 := Lib.hid ho2
               have HB2 := Lib.hid (HB.out.grown hg2 hbs (fun k hk => (HO.out.lt k hk).1))
               clear ho2 hg2))
          go_roundg 0
          case measure => have := HG.out; omega
          case rel => exact ⟨2, by omega, Lib.hid (by omega), by go_num, Lib.hid (by have := HO2.out; simpa [pre2] using this), HB2⟩
        · go_wp2
          go_ret
          exact ⟨_, rfl, by have := HO.out; simpa [pre2] using this, HB.out⟩
end Go.Proofs.Ytfmcgejoobbiiaa
