/- The document's set of references: its box and its list of pairs; contracts of To, Of, From, Same. -/
import Derived.Test.YtehkcflbdmkjpaaRsForget
import Derived.Laws.StructEq
namespace Go.Proofs.Ytehkcflbdmkjpaa
open Go.RowKit Go.Maps Go.Sort

theorem eql_ref (a b : RM.R) (w : World) : (binOp .eql 24 (.agg #[.int .i64 a.1, .int .i64 a.2]) (.agg #[.int .i64 b.1, .int .i64 b.2])).run Try.prog w = .ok (.bool (a == b)) w := by
  have u3 := Try.underlying3
  have a3 := Try.isAgg3
  have z3 := Try.sizeOf3
  have hS : Try.prog.underlying 24 = some (.struct (Try.prog.fieldsOf 24)) := by kernel_rfl
  have hp : Try.prog.stoodInHeld 24 = false := by kernel_rfl
  have e : (a == b) = (a.1 == b.1 && a.2 == b.2) := rfl
  rw [e, run_eql_struct, show (10000 : Nat) = 9999 + 1 from rfl, run_equalIn_agg w 9999 24 _ _ hS hp]
  simp only [Program.fieldsOf, Try.underlying24]
  go_simp
  by_cases h1 : a.1 = b.1 <;> by_cases h2 : a.2 = b.2 <;> simp [h1, h2]
theorem neq_ref (a b : RM.R) (w : World) : (binOp .neq 24 (.agg #[.int .i64 a.1, .int .i64 a.2]) (.agg #[.int .i64 b.1, .int .i64 b.2])).run Try.prog w = .ok (.bool (!(a == b))) w := by
  have u3 := Try.underlying3
  have a3 := Try.isAgg3
  have z3 := Try.sizeOf3
  have hS : Try.prog.underlying 24 = some (.struct (Try.prog.fieldsOf 24)) := by kernel_rfl
  have hp : Try.prog.stoodInHeld 24 = false := by kernel_rfl
  have e : (a == b) = (a.1 == b.1 && a.2 == b.2) := rfl
  rw [e, run_neq_struct, show (10000 : Nat) = 9999 + 1 from rfl, run_equalIn_agg w 9999 24 _ _ hS hp]
  simp only [Program.fieldsOf, Try.underlying24]
  go_simp
  by_cases h1 : a.1 = b.1 <;> by_cases h2 : a.2 = b.2 <;> simp [h1, h2]

/-- A pair's three cells. -/
def encP (x : RM.R × Int) : List Value := [.int .i64 x.1.1, .int .i64 x.1.2, .int .i64 x.2]
def flatP (l : RM.L) : List Value := l.flatMap encP
theorem flatP_len (l : RM.L) : (flatP l).length = l.length * 3 := by
  induction l with
  | nil => rfl
  | cons x l ih => simp [flatP, encP] at *; omega
theorem flatP_app (xs ys : RM.L) : flatP (xs ++ ys) = flatP xs ++ flatP ys := by simp [flatP]
theorem flatP_get : ∀ (l : RM.L) (j : Nat) (x : RM.R × Int), l[j]? = some x → (flatP l)[j * 3]? = some (.int .i64 x.1.1) ∧ (flatP l)[j * 3 + 1]? = some (.int .i64 x.1.2) ∧ (flatP l)[j * 3 + 2]? = some (.int .i64 x.2)
  | [], j, x, h => by simp at h
  | y :: l, 0, x, h => by
    simp at h
    subst h
    exact ⟨rfl, rfl, rfl⟩
  | y :: l, j + 1, x, h => by
    have ih := flatP_get l j x (by simpa using h)
    have e : flatP (y :: l) = .int .i64 y.1.1 :: .int .i64 y.1.2 :: .int .i64 y.2 :: flatP l := rfl
    rw [e, show (j + 1) * 3 = j * 3 + 1 + 1 + 1 by omega]
    exact ⟨ih.1, ih.2.1, ih.2.2⟩
theorem infoPair : ∃ i, Try.prog.info? 57 = some i ∧ i.zero = some (.agg #[.int .i64 0, .int .i64 0, .int .i64 0]) ∧ i.size = 3 ∧ i.bytes = 24 := by
  have h : (Try.prog.info? 57).map (fun i => (i.zero, i.size, i.bytes)) = some (some (.agg #[.int .i64 0, .int .i64 0, .int .i64 0]), 3, 24) := by kernel_rfl
  cases hh : Try.prog.info? 57 with
  | none => rw [hh] at h; cases h
  | some i =>
    rw [hh] at h
    simp at h
    exact ⟨i, rfl, h.1, h.2.1, h.2.2⟩
/-- A row of pairs, its memory from block base on. -/
def NewP (base : Nat) (w : World) (v : Value) (l : RM.L) : Prop := w.ownsRow base 57 3 v l.length (flatP l)
section
variable {w w' : World} {base b : Nat} {v : Value} {l : RM.L} {S : List Nat}
theorem NewP.own (h : NewP base w v l) : w.ownsRow base 57 3 v l.length (flatP l) := h
theorem NewP.nil (base : Nat) (w : World) : NewP base w (.slice none 0 0) [] := World.ownsRow_nil _ _ _ _
theorem NewP.keep (h : NewP base w v l) (e : ∀ g, v.ownBlock = some g → base ≤ g → (∃ cs, Whole w g 57 cs) → w'.heap[g]? = w.heap[g]?) : NewP base w' v l := by
  rcases h with ⟨h1, h2⟩
  refine ⟨h1, ?_⟩
  rcases h2 with h2 | ⟨g, cap, cur, rfl, hg, hh, r⟩
  · exact .inl h2
  · exact .inr ⟨g, cap, cur, rfl, hg, (e g rfl hg ⟨cur, hh⟩).trans hh, r⟩
theorem NewP.below (h : NewP base w v l) (k : Below w.heap.size w w') : NewP base w' v l := h.keep fun g _ _ ⟨_, hg⟩ => k.block g hg.lt
theorem NewP.aft (h : NewP base w v l) (k : Aft S w w') (hS : ∀ x ∈ S, MapB w x) : NewP base w' v l := h.keep fun g _ _ ⟨_, hg⟩ =>
  k.block g hg.lt fun hx => (hS g hx).ne hg rfl
theorem NewP.less (h : NewP base w v l) {base' : Nat} (hb : base' ≤ base) : NewP base' w v l := World.ownsRow.mono h hb
theorem NewP.slice (h : NewP base w v l) : ∃ A c, v = .slice A l.length c ∧ l.length ≤ c := by
  rcases h.2 with ⟨rfl, h0⟩ | ⟨g, cap, cur, rfl, _, _, hn, _⟩
  · exact ⟨none, 0, by rw [h0], by omega⟩
  · exact ⟨_, cap, rfl, hn⟩
theorem NewP.cell (h : NewP base w v l) {k : Nat} (hk : k < l.length) : ∃ g cap, v = .slice (some ⟨g, 0, none⟩) l.length cap ∧ base ≤ g ∧ g < w.heap.size ∧ w.cell? ⟨g, k * 3, none⟩ = some (.int .i64 l[k].1.1) ∧ w.cell? ⟨g, k * 3 + 1, none⟩ = some (.int .i64 l[k].1.2) ∧ w.cell? ⟨g, k * 3 + 2, none⟩ = some (.int .i64 l[k].2) := by
  rcases h.2 with ⟨rfl, h0⟩ | ⟨g, cap, cur, rfl, hg, hh, hn, hm, hs, ht⟩
  · omega
  · have hq := flatP_get l k l[k] (List.getElem?_eq_getElem hk)
    have hc : ∀ q, q < l.length * 3 → cur[q]? = (flatP l)[q]? := fun q hq => by
      rw [← ht, List.getElem?_take, if_pos hq]
      simp
    refine ⟨g, cap, rfl, hg, (Array.getElem?_eq_some_iff.1 hh).1, ?_, ?_, ?_⟩
    · simp [World.cell?, hh, hc (k * 3) (by omega), hq.1]
    · simp [World.cell?, hh, hc (k * 3 + 1) (by omega), hq.2.1]
    · simp [World.cell?, hh, hc (k * 3 + 2) (by omega), hq.2.2]
theorem NewP.snoc {x : RM.R × Int} (h : w.ownsRow base 57 3 v (l.length + 1) (flatP l ++ [.int .i64 x.1.1, .int .i64 x.1.2, .int .i64 x.2])) : NewP base w v (l ++ [x]) := by
  unfold NewP
  rw [flatP_app, List.length_append]
  exact h
theorem NewT.snoc {rs : List RM.R} {x : RM.R} (h : w.ownsRow base 24 2 v (rs.length + 1) (flatT rs ++ [.int .i64 x.1, .int .i64 x.2])) : NewT base w v (rs ++ [x]) := by
  unfold NewT
  rw [flatT_app, List.length_append]
  exact h
end
theorem cell_three_new (w : World) (a b c : Value) (t : TypeId) : ∀ j u, [a, b, c][j]? = some u → (w.alloc (.cells #[a, b, c] t)).cell? ((⟨w.heap.size, 0, none⟩ : Addr).add j) = some u := by
  intro j u hj
  have hw := Whole.fresh w t #[a, b, c]
  match j, hj with
  | 0, hj => simp at hj; subst hj; have := hw.cell 0; simp [Addr.add]
  | 1, hj => simp at hj; subst hj; have := hw.cell 1; simp [Addr.add]
  | 2, hj => simp at hj; subst hj; have := hw.cell 2; simp [Addr.add]

/-- The document's set: its box, its pairs. -/
structure DocAt (w : World) (r lo : Nat) (L : RM.L) : Prop where
  box : ∃ v, Whole w r 39 #[v] ∧ NewP lo w v L
  up : RM.Up L
section
variable {w w' : World} {r lo : Nat} {L : RM.L} {S : List Nat}
theorem DocAt.below (h : DocAt w r lo L) (k : Below w.heap.size w w') : DocAt w' r lo L := by
  obtain ⟨v, h1, h2⟩ := h.box
  exact ⟨⟨v, h1.below k h1.lt, h2.below k⟩, h.up⟩
theorem DocAt.aft (h : DocAt w r lo L) (k : Aft S w w') (hS : ∀ x ∈ S, MapB w x) : DocAt w' r lo L := by
  obtain ⟨v, h1, h2⟩ := h.box
  exact ⟨⟨v, k.whole h1 (fun hx => (hS r hx).ne h1 rfl), h2.aft k hS⟩, h.up⟩
theorem DocAt.lt (h : DocAt w r lo L) : r < w.heap.size := by obtain ⟨v, h1, _⟩ := h.box; exact h1.lt
theorem DocAt.rd (h : DocAt w r lo L) : ∃ A c, w.cell? ⟨r, 0, none⟩ = some (.slice A L.length c) ∧ Whole w r 39 #[.slice A L.length c] ∧ NewP lo w (.slice A L.length c) L := by
  obtain ⟨v, h1, h2⟩ := h.box
  obtain ⟨A, c, rfl, _⟩ := h2.slice
  exact ⟨A, c, by rw [h1.cell]; rfl, h1, h2⟩
end

namespace RM
theorem take_len {α : Type} {l : List α} {k : Nat} (h : k ≤ l.length) : (l.take k).length = k := by simp; omega
theorem of_take_yes {l : L} {k : Nat} (h : k < l.length) {t : Int} (e : l[k].2 = t) : of (l.take (k + 1)) t = of (l.take k) t ++ [l[k].1] := by
  unfold of
  rw [List.take_succ_eq_append_getElem h, List.filter_append, List.map_append]
  simp [e]
theorem of_take_no {l : L} {k : Nat} (h : k < l.length) {t : Int} (e : l[k].2 ≠ t) : of (l.take (k + 1)) t = of (l.take k) t := by
  unfold of
  rw [List.take_succ_eq_append_getElem h, List.filter_append, List.map_append]
  simp [e]
theorem frm_take_yes {l : L} {k : Nat} (h : k < l.length) {t : Int} (e : l[k].1.1 = t) : frm (l.take (k + 1)) t = frm (l.take k) t ++ [l[k].1] := by
  unfold frm
  rw [List.take_succ_eq_append_getElem h, List.filter_append, List.map_append]
  simp [e]
theorem frm_take_no {l : L} {k : Nat} (h : k < l.length) {t : Int} (e : l[k].1.1 ≠ t) : frm (l.take (k + 1)) t = frm (l.take k) t := by
  unfold frm
  rw [List.take_succ_eq_append_getElem h, List.filter_append, List.map_append]
  simp [e]
theorem cut_take_yes {l : L} {k : Nat} (h : k < l.length) {r : R} (e : l[k].1 ≠ r) : cut (l.take (k + 1)) r = cut (l.take k) r ++ [l[k]] := by
  unfold cut
  rw [List.take_succ_eq_append_getElem h, List.filter_append]
  simp [e]
theorem cut_take_no {l : L} {k : Nat} (h : k < l.length) {r : R} (e : l[k].1 = r) : cut (l.take (k + 1)) r = cut (l.take k) r := by
  unfold cut
  rw [List.take_succ_eq_append_getElem h, List.filter_append]
  simp [e]
theorem to_take_no {l : L} {k : Nat} (h : k < l.length) {r : R} (e : l[k].1 ≠ r) (ih : to (l.take k) r = none) : to (l.take (k + 1)) r = none := by
  unfold to at *
  rw [List.take_succ_eq_append_getElem h, List.find?_append]
  rw [Option.map_eq_none_iff] at *
  rw [ih]
  simp [e]
theorem to_take_yes {l : L} {k : Nat} (h : k < l.length) {r : R} (e : l[k].1 = r) (ih : to (l.take k) r = none) : to l r = some l[k].2 := by
  unfold to at *
  rw [Option.map_eq_none_iff] at ih
  have : l = l.take k ++ l[k] :: l.drop (k + 1) := by rw [← List.drop_eq_getElem_cons h, List.take_append_drop]
  have h2 : l.find? (fun p => p.1 == r) = some l[k] := by
    conv => lhs; rw [this]
    rw [List.find?_append, ih, List.find?_cons_of_pos (by simpa using e)]
    rfl
  rw [h2]
  rfl
theorem take_le {l : L} (k : Nat) (f : L → List R) (hf : ∀ m : L, (f m).length ≤ m.length) : (f (l.take k)).length ≤ l.length := by
  have := hf (l.take k)
  simp at this
  omega
end RM

section
variable {w : World} {r lo : Nat} {L : RM.L}
set_option maxHeartbeats 1000000 in
theorem dof_any (h : DocAt w r lo L) (hl : L.length ≤ 1000000) (t : Int) : Calls Try.prog 21 #[.pointer (some ⟨r, 0, none⟩), .int .i64 t] w (RowT (RM.of L t) w) := by
  obtain ⟨i0, hi, hz0, hz1, hz2⟩ := infoRef
  have HT := Lib.hid h
  clear h
  go_enter Try.func21, Try.ntmps21
  go_wp2
  go_loopw [5, 6] (fun u i wr => ∃ k : Nat, k ≤ L.length ∧ i = .int .i64 k ∧ NewT w.heap.size wr u (RM.of (L.take k) t) ∧ Below w.heap.size w wr) (fun _ i _ => L.length - (intOf i).toNat)
  case atStart => exact ⟨0, Nat.zero_le _, rfl, by simpa [RM.of] using NewT.nil _ _, Below.refl _ _⟩
  case round =>
    obtain ⟨k, hk, rfl, hu, hbw⟩ := hrel
    have ht := HT.out.below hbw
    obtain ⟨A, c, c0, _, hrow⟩ := ht.rd
    have hs := hbw.size
    by_cases hlt : k < L.length
    · obtain ⟨g, cap, e1, _, _, c1, c2, c3⟩ := hrow.cell hlt
      injection e1 with e1 _ e1'
      subst e1 e1'
      have hul := RM.take_le (l := L) k (fun m => RM.of m t) (fun m => RM.of_len m t)
      by_cases e : L[k].2 = t
      · have HST := Lib.hid (RM.of_take_yes hlt e)
        rw [e] at c3
        generalize RM.of (L.take k) t = l at *
        have HU := Lib.hid hu.own
        have HUB := Lib.hid hu.lt
        obtain ⟨x, hx⟩ : ∃ x, x = L[k].1 := ⟨_, rfl⟩
        rw [← hx] at c1 c2 HST
        obtain ⟨x1, x2⟩ := x
        dsimp only at c1 c2
        clear hu ht hrow e hx
        go_wp2_with (first
          | (at_builtin; refine wpList_append_own _ rfl _ _ 32 rfl w.heap.size 24 i0 _ 2 16 Try.underlying32 hi hz0 hz1 hz2 rfl (by decide) _ _ _ rfl (HU.out.alloc _) ⟨wr.heap.size, 0, none⟩ 1 1 [.int .i64 x1, .int .i64 x2] rfl rfl (cell_two_new _ _ _ _) (by simp [Value.oneCell']) (by unfold maxLen; omega) (by omega) (by simp; omega) ?_; intro v' w2 hown' hgrow _; have HO2 := Lib.hid hown'; have HG := Lib.hid hgrow; clear hown' hgrow))
        go_roundw
        case rel => exact ⟨k + 1, by omega, by go_num, by rw [HST.out]; exact NewT.snoc HO2.out, (hbw.alloc hs _).grown HG.out (by simp; omega) (fun g hg => (HUB.out g hg).1)⟩
        case measure => simp [intOf]; omega
      · have HST := Lib.hid (RM.of_take_no hlt e)
        have HU := Lib.hid hu
        obtain ⟨y, hy⟩ : ∃ y, y = L[k].2 := ⟨_, rfl⟩
        rw [← hy] at c3 e
        have d0 : (y == t) = false := by simpa using e
        clear hu ht hrow hy
        go_wp2
        go_roundw
        case rel => exact ⟨k + 1, by omega, by go_num, by rw [HST.out]; exact HU.out, hbw⟩
        case measure => simp [intOf]; omega
    · obtain rfl : k = L.length := by omega
      rw [List.take_length] at hu
      have HU := Lib.hid hu
      clear hu ht hrow
      go_wp2
      go_ret
      exact ⟨_, rfl, HU.out, hbw⟩
set_option maxHeartbeats 1000000 in
theorem dfrom_any (h : DocAt w r lo L) (hl : L.length ≤ 1000000) (t : Int) : Calls Try.prog 22 #[.pointer (some ⟨r, 0, none⟩), .int .i64 t] w (RowT (RM.frm L t) w) := by
  obtain ⟨i0, hi, hz0, hz1, hz2⟩ := infoRef
  have HT := Lib.hid h
  clear h
  go_enter Try.func22, Try.ntmps22
  go_wp2
  go_loopw [5, 6] (fun u i wr => ∃ k : Nat, k ≤ L.length ∧ i = .int .i64 k ∧ NewT w.heap.size wr u (RM.frm (L.take k) t) ∧ Below w.heap.size w wr) (fun _ i _ => L.length - (intOf i).toNat)
  case atStart => exact ⟨0, Nat.zero_le _, rfl, by simpa [RM.frm] using NewT.nil _ _, Below.refl _ _⟩
  case round =>
    obtain ⟨k, hk, rfl, hu, hbw⟩ := hrel
    have ht := HT.out.below hbw
    obtain ⟨A, c, c0, _, hrow⟩ := ht.rd
    have hs := hbw.size
    by_cases hlt : k < L.length
    · obtain ⟨g, cap, e1, _, _, c1, c2, c3⟩ := hrow.cell hlt
      injection e1 with e1 _ e1'
      subst e1 e1'
      have hul := RM.take_le (l := L) k (fun m => RM.frm m t) (fun m => RM.frm_len m t)
      by_cases e : L[k].1.1 = t
      · have HST := Lib.hid (RM.frm_take_yes hlt e)
        generalize RM.frm (L.take k) t = l at *
        have HU := Lib.hid hu.own
        have HUB := Lib.hid hu.lt
        obtain ⟨x, hx⟩ : ∃ x, x = L[k].1 := ⟨_, rfl⟩
        rw [← hx] at c1 c2 HST e
        obtain ⟨x1, x2⟩ := x
        dsimp only at c1 c2 e
        subst e
        clear hu ht hrow hx
        go_wp2_with (first
          | (at_builtin; refine wpList_append_own _ rfl _ _ 32 rfl w.heap.size 24 i0 _ 2 16 Try.underlying32 hi hz0 hz1 hz2 rfl (by decide) _ _ _ rfl (HU.out.alloc _) ⟨wr.heap.size, 0, none⟩ 1 1 [.int .i64 x1, .int .i64 x2] rfl rfl (cell_two_new _ _ _ _) (by simp [Value.oneCell']) (by unfold maxLen; omega) (by omega) (by simp; omega) ?_; intro v' w2 hown' hgrow _; have HO2 := Lib.hid hown'; have HG := Lib.hid hgrow; clear hown' hgrow))
        go_roundw
        case rel => exact ⟨k + 1, by omega, by go_num, by rw [HST.out]; exact NewT.snoc HO2.out, (hbw.alloc hs _).grown HG.out (by simp; omega) (fun g hg => (HUB.out g hg).1)⟩
        case measure => simp [intOf]; omega
      · have HST := Lib.hid (RM.frm_take_no hlt e)
        have HU := Lib.hid hu
        obtain ⟨y, hy⟩ : ∃ y, y = L[k].1.1 := ⟨_, rfl⟩
        rw [← hy] at c1 e
        have d0 : (y == t) = false := by simpa using e
        clear hu ht hrow hy
        go_wp2
        go_roundw
        case rel => exact ⟨k + 1, by omega, by go_num, by rw [HST.out]; exact HU.out, hbw⟩
        case measure => simp [intOf]; omega
    · obtain rfl : k = L.length := by omega
      rw [List.take_length] at hu
      have HU := Lib.hid hu
      clear hu ht hrow
      go_wp2
      go_ret
      exact ⟨_, rfl, HU.out, hbw⟩
set_option maxHeartbeats 1000000 in
theorem dto_any (h : DocAt w r lo L) (hl : L.length ≤ 1000000) (x : RM.R) : Calls Try.prog 23 #[.pointer (some ⟨r, 0, none⟩), refV x] w fun e w' => e = .returned (.tuple #[.int .i64 (RM.toV L x), .bool (RM.has L x)]) ∧ Below w.heap.size w w' := by
  have hb1 := (Below.refl w.heap.size w).alloc (Nat.le_refl _) (.cells #[.int .i64 x.1, .int .i64 x.2] 24)
  have HT := Lib.hid (h.below hb1)
  have HX := Lib.hid (Whole.fresh w 24 #[.int .i64 x.1, .int .i64 x.2])
  have HB1 := Lib.hid hb1
  obtain ⟨x1, x2⟩ := x
  unfold refV
  clear h hb1
  go_enter Try.func23, Try.ntmps23
  go_wp2
  go_loopw [6] (fun i wr => ∃ k : Nat, k ≤ L.length ∧ i = .int .i64 k ∧ RM.to (L.take k) (x1, x2) = none ∧ Below (w.heap.size + 1) (w.alloc (.cells #[.int .i64 x1, .int .i64 x2] 24)) wr) (fun i _ => L.length - (intOf i).toNat)
  case atStart => exact ⟨0, Nat.zero_le _, rfl, by simp [RM.to], Below.refl _ _⟩
  case round =>
    obtain ⟨k, hk, rfl, hto, hbw⟩ := hrel
    have ht := HT.out.below (hbw.mono (by simp))
    obtain ⟨A, c, c0, _, hrow⟩ := ht.rd
    have hx2 := HX.out.below hbw (by simp)
    have x0 := hx2.cell 0
    have x1c := hx2.cell 1
    simp only [List.getElem?_toArray, List.getElem?_cons_zero, List.getElem?_cons_succ] at x0 x1c
    have HBW := Lib.hid hbw
    by_cases hlt : k < L.length
    · obtain ⟨g, cap, e1, _, _, c1, c2, c3⟩ := hrow.cell hlt
      injection e1 with e1 _ e1'
      subst e1 e1'
      obtain ⟨p, hp⟩ : ∃ p, p = L[k] := ⟨_, rfl⟩
      rw [← hp] at c1 c2 c3
      by_cases e : p.1 = (x1, x2)
      · have h1 := RM.to_take_yes hlt (hp ▸ e) hto
        rw [← hp] at h1
        have e2 : RM.toV L (x1, x2) = p.2 := by unfold RM.toV; rw [h1]; rfl
        have e3 : RM.has L (x1, x2) = true := by unfold RM.has; rw [h1]; rfl
        rw [e] at c1 c2
        generalize p.2 = pt at *
        have E2 := Lib.hid e2
        have E3 := Lib.hid e3
        have heq : ∀ w', (binOp .eql 24 (.agg #[.int .i64 x1, .int .i64 x2]) (.agg #[.int .i64 x1, .int .i64 x2])).run Try.prog w' = .ok (.bool true) w' := fun w' => by
          have := eql_ref (x1, x2) (x1, x2) w'
          simpa using this
        clear hto ht hrow hp e h1 e2 e3 hx2 hbw
        go_wp2
        go_quiet (fail)
        go_wp2
        go_ret2
        exact ⟨by rw [E2.out, E3.out]; rfl, HB1.out.trans ((HBW.out.mono (by simp)).trans ⟨rfl, rfl, rfl, Nat.le_refl _, fun _ _ => rfl⟩)⟩
      · have HTO := Lib.hid (RM.to_take_no hlt (hp ▸ e) hto)
        obtain ⟨⟨p1, p2⟩, pt⟩ := p
        have heq : ∀ w', (binOp .eql 24 (.agg #[.int .i64 p1, .int .i64 p2]) (.agg #[.int .i64 x1, .int .i64 x2])).run Try.prog w' = .ok (.bool false) w' := fun w' => by
          have := eql_ref (p1, p2) (x1, x2) w'
          rw [show ((p1, p2) == (x1, x2)) = false by simpa using e] at this
          exact this
        dsimp only at c1 c2 c3
        clear hto ht hrow hp e hx2 hbw
        go_wp2
        go_quiet (fail)
        go_wp2
        go_roundw
        case rel => exact ⟨k + 1, by omega, by go_num, HTO.out, HBW.out.trans ⟨rfl, rfl, rfl, Nat.le_refl _, fun _ _ => rfl⟩⟩
        case measure => simp [intOf]; omega
    · obtain rfl : k = L.length := by omega
      rw [List.take_length] at hto
      have e2 : RM.toV L (x1, x2) = 0 := by unfold RM.toV; rw [hto]; rfl
      have e3 : RM.has L (x1, x2) = false := by unfold RM.has; rw [hto]; rfl
      have E2 := Lib.hid e2
      have E3 := Lib.hid e3
      clear hto ht hrow e2 e3 hx2 hbw
      go_wp2
      go_ret2
      exact ⟨by rw [E2.out, E3.out]; rfl, HB1.out.trans (HBW.out.mono (by simp))⟩
end
end Go.Proofs.Ytehkcflbdmkjpaa
