/- The iterator that All hands out tells the things, in their order; the contract of the law package's all. -/
import Derived.Test.YtfmcgejoobbiiaaBgLess
import Derived.RangeFuncNested
import Derived.RangeFuncBound
import Derived.RangeFuncCalls
import Derived.RangeFuncLeaves
import Derived.RangeFuncBox
import Derived.Shelf.Abstract
import Derived.Shelf.RegionOpen
import Derived.OwnWalkIn
import Derived.TacticsInMore
import Derived.LoopNIn
import Derived.LoopIn
import Derived.Deep.Onto
namespace Go.Proofs.Ytfmcgejoobbiiaa
open Go.RowKit Go.Shelf
attribute [local go_sem] Oper.semAt_some

def Kept (lo hi : Nat) (w w' : World) : Prop := ∀ g, lo ≤ g → g < hi → w'.heap[g]? = w.heap[g]?
theorem Kept.refl (lo hi : Nat) (w : World) : Kept lo hi w w := fun _ _ _ => rfl
theorem Kept.trans {lo hi : Nat} {a b c : World} (h : Kept lo hi a b) (k : Kept lo hi b c) : Kept lo hi a c := fun g h1 h2 => (k g h1 h2).trans (h g h1 h2)
theorem Kept.mono {lo hi lo' hi' : Nat} {a b : World} (h : Kept lo hi a b) (h1 : lo ≤ lo') (h2 : hi' ≤ hi) : Kept lo' hi' a b := fun g a b => h g (by omega) (by omega)
theorem Kept.of_below {B lo hi : Nat} {a b : World} (h : Below B a b) (hh : hi ≤ B) : Kept lo hi a b := fun g _ h2 => h.block g (by omega)
theorem Kept.setCell {lo hi : Nat} {a w : World} (h : Kept lo hi a w) {p : Addr} (hp : p.block < lo ∨ hi ≤ p.block) (u : Value) : Kept lo hi a (w.setCell p u) := fun g h1 h2 =>
  (Below.heap_setCell w p u g (by rintro rfl; omega)).trans (h g h1 h2)
theorem Kept.alloc {lo hi : Nat} {a w : World} (h : Kept lo hi a w) (hh : hi ≤ w.heap.size) (o : Obj) : Kept lo hi a (w.alloc o) := fun g h1 h2 => (Below.heap_alloc w o g (by omega)).trans (h g h1 h2)
theorem Kept.grown {lo hi : Nat} {a w w' : World} {row : Option Nat} (h : Kept lo hi a w) (hg : w.grownBy w' row) (hh : hi ≤ w.heap.size) (hr : ∀ k, row = some k → k < lo ∨ hi ≤ k) : Kept lo hi a w' := fun g h1 h2 =>
  (hg.block g (by omega) (fun e => by have := hr g e.symm; omega)).trans (h g h1 h2)

theorem kept_b {lo hi : Nat} {w : World} (hh : hi ≤ w.heap.size) (W : World) (l : Nat) (o o' : Obj) (hl : w.heap.size ≤ l) (_ : W.heap[l]? = some o) (_ : o.isCells = false) (_ : o.isWalk = false) : Kept lo hi W (W.putObj l o') := fun g _ hg =>
  World.putObj_heap_other (by omega)

/-- 'out = append(out, x)', out boxed at B, ahead of the blocks from lo on and below hi, its row from hi on. -/
theorem appended_far {W w1 : World} {n₀ lo hi B : Nat} {t e : TypeId} {size : Nat} {v v' : Value} {k m : Nat} {xs ys : List Value} {tmp : Obj}
    (hv : Boxed W B t v) (hte : t ≠ e) (hrow : W.ownsRow hi e size v k xs) (hh : hi ≤ W.heap.size) (hB : B < lo) (hn : n₀ ≤ B) (hnh : n₀ ≤ hi)
    (hown' : w1.ownsRow hi e size v' m ys) (hgrow : (W.alloc tmp).grownBy w1 v.ownBlock) :
    Boxed w1 B t v ∧ Boxed (w1.setCell ⟨B, 0, none⟩ v') B t v' ∧ (w1.setCell ⟨B, 0, none⟩ v').ownsRow hi e size v' m ys ∧ KeepsOthers W (w1.setCell ⟨B, 0, none⟩ v') ∧ Kept lo hi W (w1.setCell ⟨B, 0, none⟩ v') ∧ Below n₀ W (w1.setCell ⟨B, 0, none⟩ v') := by
  have hv1 : Boxed w1 B t v := (hv.alloc tmp).kept hgrow (hv.not_row hte hrow)
  have hr : ∀ k, v.ownBlock = some k → hi ≤ k := fun k hk => (hrow.lt k hk).1
  refine ⟨hv1, hv1.set v', hown'.kept (grownBy_setCell' w1 B v') (.inr (hv1.not_row hte hown').symm), ?_, ?_, ?_⟩
  · refine ((KeepsOthers.alloc W tmp).trans (KeepsOthers.of_grownBy hgrow fun j o ej hj => ?_)).trans (KeepsOthers.setCell _ _ _)
    rcases (hrow.alloc tmp).2 with ⟨rfl, _⟩ | ⟨g, cap, cur, rfl, _, hgb, _⟩
    · simp [Value.ownBlock] at ej
    · obtain rfl : g = j := by simpa [Value.ownBlock] using ej
      rw [hgb] at hj; cases hj; rfl
  · exact (((Kept.refl lo hi W).alloc hh tmp).grown hgrow (by simp; omega) (fun k hk => .inr (hr k hk))).setCell (p := ⟨B, 0, none⟩) (.inl hB) v'
  · exact (((Below.refl n₀ W).alloc (by omega) tmp).grown hgrow (by simp; omega) (fun k hk => by have := hr k hk; omega)).setCell (p := ⟨B, 0, none⟩) hn v'


theorem take_snoc_at {xs : List Int} {k : Nat} (h : k < xs.length) : xs.take (k + 1) = xs.take k ++ [xs[k]] := List.take_succ_eq_append_getElem h

/-- What a round leaves. -/
def RoundPost (lo hi : Nat) (J Jx : List Int → World → Prop) (pre : List Int) (x : Int) (W : World) (e : Ending) (W' : World) : Prop :=
  (e = .returned (.bool true) ∧ J (pre ++ [x]) W' ∧ Kept lo hi W W') ∨ (e = .returned (.bool false) ∧ Jx (pre ++ [x]) W')
/-- What the iterator has captured: a slice's box; the slice's row. -/
structure IterSt (TS T : TypeId) (enc : Int → Value) (W : World) (lo hi bo r : Nat) (v : Value) (xs : List Int) : Prop where
  box : Boxed W bo TS v
  row : Row T enc W r v xs
  b1 : lo ≤ bo
  b2 : bo < hi
  r1 : lo ≤ r
  r2 : r < hi
theorem IterSt.kept {TS T : TypeId} {enc : Int → Value} {W W' : World} {lo hi bo r : Nat} {v : Value} {xs : List Int} (h : IterSt TS T enc W lo hi bo r v xs) (k : Kept lo hi W W') : IterSt TS T enc W' lo hi bo r v xs :=
  ⟨(k bo h.b1 h.b2).trans h.box, h.row.keep fun _ => k r h.r1 h.r2, h.b1, h.b2, h.r1, h.r2⟩
def It1 (TS T : TypeId) (enc : Int → Value) (lo hi bo r : Nat) (v : Value) (xs : List Int) (J : List Int → World → Prop) (x : Value) (wr : World) : Prop :=
  ∃ k : Nat, k ≤ xs.length ∧ x = .int .i64 k ∧ J (xs.take k) wr ∧ IterSt TS T enc wr lo hi bo r v xs

set_option maxRecDepth 100000 in
set_option maxHeartbeats 2000000 in
theorem iter_in (q : Nat) (hq : 1 ≤ q) (l lo hi bo r : Nat) (v : Value) (xs : List Int) (J Jx : List Int → World → Prop) (hn : xs.length ≤ 1000000)
    (hY : ∀ pre x W, J pre W → pre.length < xs.length → YieldAt Fence.wide (q - 1) Try.prog l #[.int .i64 x] W (RoundPost lo hi J Jx pre x W))
    (W : World) (hI : IterSt 22 3 (Value.int .i64) W lo hi bo r v xs) (h0 : J [] W) :
    CallsIn Fence.wide q Try.prog 64 #[.func (.yield l) #[] #[], .pointer (some ⟨bo, 0, none⟩)] W fun e W' => (∃ v, e = .returned v) ∧
      ((∃ zs, zs = xs ∧ J zs W') ∨ (∃ pre, True ∧ Jx pre W')) := by
  have HY := Lib.hid hY
  clear hY
  obtain ⟨A, c, rfl, _⟩ := hI.row.slice
  have c1 : W.cell? ⟨bo, 0, none⟩ = some (.slice A xs.length c) := hI.box.cell
  refine callsIn_of_wp Try.func64 rfl trivial ?_ rfl
  simp only [Try.ntmps64, List.size_toArray, List.length_cons, List.length_nil, Nat.reduceAdd, Nat.reduceSub, Array.replicate_succ, Array.replicate_zero, List.push_toArray, List.append_toArray, List.nil_append, List.cons_append]
  gi_wp2
  gi_loopw [7] (It1 22 3 (Value.int .i64) lo hi bo r (.slice A xs.length c) xs J) (fun x _ => xs.length - (intOf x).toNat)
  case atStart => exact ⟨0, Nat.zero_le _, rfl, by simpa using h0, hI⟩
  case round =>
    clear c1 h0 hI
    obtain ⟨k, hk, rfl, hJ, hI⟩ := hrel
    by_cases hlt : k < xs.length
    · obtain ⟨cap, e0, _, hc⟩ := hI.row.cell hlt
      injection e0 with e1 _ e2
      subst e1 e2
      have HT := Lib.hid (take_snoc_at hlt)
      have hlen : (xs.take k).length < xs.length := by rw [List.length_take]; omega
      obtain ⟨p, hp⟩ : ∃ p, p = xs[k] := ⟨_, rfl⟩
      rw [← hp] at hc HT
      obtain ⟨fn, tmps, assign, body, hy, hR⟩ := HY.out _ p wr hJ hlen
      have HI := Lib.hid hI
      clear hI hlen hp
      gi_wp2
      refine hR.mono ?_
      rintro e W3 (⟨rfl, hJ3, hk3⟩ | ⟨rfl, hJx3⟩)
      · gi_wp2
        go_roundw
        case rel => exact ⟨k + 1, by omega, by go_num, by rw [HT.out]; exact hJ3, HI.out.kept hk3⟩
        case measure => simp [intOf]; omega
      · gi_wp2
        refine bodyPost_ret (results_none rfl _ _ _) rfl ?_
        exact ⟨⟨_, rfl⟩, .inr ⟨_, trivial, hJx3⟩⟩
    · rw [List.take_of_length_le (by omega)] at hJ
      gi_wp2
      go_end0
      exact ⟨⟨_, rfl⟩, .inl ⟨_, rfl, hJ⟩⟩

/-- What a range over a function of ints is handed: these numbers, while the blocks from lo on and below hi stay. -/
def SeqTells (n gf : Nat) (lb : Array Value) (lo hi : Nat) (zs : List Int) (w : World) : Prop :=
  SeqStopsK Fence.wide n Try.prog gf lb (fun x : Int => #[Value.int .i64 x]) (Kept lo hi) (fun ys => ys = zs) (fun _ => True) zs.length w
theorem iter_tells (q : Nat) (hq : 1 ≤ q) (lo hi bo r : Nat) (v : Value) (xs : List Int) (hn : xs.length ≤ 1000000) (w : World) (hw : hi ≤ w.heap.size) (hI : IterSt 22 3 (Value.int .i64) w lo hi bo r v xs) :
    SeqTells q 64 #[.pointer (some ⟨bo, 0, none⟩)] lo hi xs w :=
  fun l J Jx W hW _ _ hY h0 => iter_in q hq l lo hi bo r v xs J Jx hn hY W (hI.kept (Kept.of_below hW hw)) h0

/-- What All leaves for a range over it. -/
def SeqPost (zs : List Int) (w : World) (e : Ending) (w' : World) : Prop :=
  ∃ bo, e = .returned (.func (.func 64) #[] #[.pointer (some ⟨bo, 0, none⟩)]) ∧ SeqTells 2 64 #[.pointer (some ⟨bo, 0, none⟩)] w.heap.size w'.heap.size zs w' ∧ Below w.heap.size w w' ∧ w.heap.size < w'.heap.size

theorem values_any (A : Option Addr) (n c : Nat) (w : World) : Calls Try.prog 46 #[.slice A n c] w fun e w' => e = .returned (.func (.func 64) #[] #[.pointer (some ⟨w.heap.size, 0, none⟩)]) ∧ w.alloc (.cells #[.slice A n c] 22) = w' := by
  go_enter Try.func46, Try.ntmps46
  go_wp2
  go_ret
  exact ⟨rfl, rfl⟩
set_option maxHeartbeats 1000000 in
theorem allm_of (p : Option Addr) (r : Nat) (v : Value) (l : List Int) (w : World) (h : Has w p v) (hr : IRow w r v l) (hl : l.length ≤ 1000000) : Calls Try.prog 31 #[.pointer p] w (SeqPost l w) := by
  obtain ⟨A, c, rfl, _⟩ := hr.slice
  have HA := Lib.hid (ball_any p _ w h)
  have HC := Lib.hid (clone_any A l.length c l w hr.reads hl)
  clear h hr
  go_enter Try.func31, Try.ntmps31
  go_wp2_with fail
  refine HA.out.mono ?_
  rintro e w1 ⟨rfl, rfl⟩
  go_wp2_with fail
  refine HC.out.mono ?_
  rintro e w1 ⟨v1, rfl, h1, hb1⟩
  obtain ⟨A1, c1, rfl⟩ : ∃ A1 c1, v1 = .slice A1 l.length c1 := by
    rcases h1.2 with ⟨e, e0⟩ | ⟨g, cap, cur, e, _⟩
    · exact ⟨none, 0, by rw [e, e0]⟩
    · exact ⟨_, cap, e⟩
  have H1 := Lib.hid h1
  have B1 := Lib.hid hb1
  clear h1 hb1
  go_wp2_with fail
  refine (values_any A1 l.length c1 _).mono ?_
  rintro e w2 ⟨rfl, rfl⟩
  go_wp2
  go_ret
  have hs := B1.out.size
  refine ⟨w1.heap.size, rfl, ?_, B1.out.alloc hs _, by simp; omega⟩
  have hbx : Boxed (w1.alloc (.cells #[.slice A1 l.length c1] 22)) w1.heap.size 22 (.slice A1 l.length c1) := Boxed.new _ _ _
  rcases H1.out.2 with ⟨e, e0⟩ | ⟨g, cap, cur, e, hg, hh, _⟩
  · exact iter_tells 2 (by decide) _ _ w1.heap.size w1.heap.size _ l hl _ (Nat.le_refl _) ⟨hbx, (Row.of_own H1.out rfl (fun k hk => by rw [e] at hk; simp [Value.ownBlock] at hk)).alloc _, hs, by simp, hs, by simp⟩
  · have hgl := (Array.getElem?_eq_some_iff.1 hh).1
    exact iter_tells 2 (by decide) _ _ w1.heap.size g _ l hl _ (Nat.le_refl _) ⟨hbx, (Row.of_own H1.out rfl (fun k hk => by rw [e] at hk; simp [Value.ownBlock] at hk; omega)).alloc _, hs, by simp, hg, by simp; omega⟩

/-- What is left by a call that makes a slice of these numbers. -/
def RowI (xs : List Int) (w : World) (e : Ending) (w' : World) : Prop :=
  ∃ v, e = .returned v ∧ w'.ownsRow w.heap.size 3 1 v xs.length (xs.map (Value.int .i64)) ∧ Below w.heap.size w w'

set_option maxRecDepth 100000 in
set_option maxHeartbeats 2000000 in
theorem all_of (p : Option Addr) (zs : List Int) (w : World) (hlen : zs.length ≤ 1000000)
    (hseq : ∀ W : World, Below w.heap.size w W → Calls Try.prog 31 #[.pointer p] W (SeqPost zs W)) :
    Calls Try.prog 17 #[.pointer p] w (RowI zs w) := by
  obtain ⟨i0, hi0, hz0, hz1, hz2⟩ := infoInt_parts
  have HS := Lib.hid (hseq (w.alloc (.cells #[.slice none 0 0] 22)) ((Below.refl _ _).alloc (Nat.le_refl _) _))
  clear hseq
  refine (callsIn_wide (n := 3)).1 ?_
  refine callsIn_of_wp_marks Try.func17 rfl trivial ?_ rfl
  simp only [Try.ntmps17, List.size_toArray, List.length_cons, List.length_nil, Nat.reduceAdd, Nat.reduceSub, Array.replicate_succ, Array.replicate_zero, List.push_toArray, List.append_toArray, List.nil_append, List.cons_append]
  have bO := Boxed.new w 22 (.slice none 0 0)
  have HBO := Lib.hid bO
  clear bO
  gi_wp2_with fail
  refine ⟨trivial, ?_⟩
  refine (callsIn_wide.2 HS.out).mono ?_
  rintro e w3 ⟨bo, rfl, htell, hb, hgt⟩
  have hs3 := hb.size
  simp at hs3 hgt
  have hB3 : Below w.heap.size w w3 := ((Below.refl _ _).alloc (Nat.le_refl _) _).trans (hb.mono (by simp))
  have bO3 : Boxed w3 w.heap.size 22 (.slice none 0 0) := (hb.block w.heap.size (by simp)).trans HBO.out
  have HTELL := Lib.hid htell
  clear htell hb
  rw [World.size_alloc] at HTELL
  gi_wp2
  refine wpIn_rangeFunc_ownG rfl (by decide) (gf := 64) (lb := #[.pointer (some ⟨bo, 0, none⟩)]) rfl trivial (enters_of Try.func64 (by kernel_rfl) rfl) HTELL.out Kept.trans (kept_b (Nat.le_refl _)) (Below.refl _ _) (fun _ => rfl)
    (fun pre W => (∃ v, Boxed W w.heap.size 22 v ∧ W.ownsRow w3.heap.size 3 1 v pre.length (pre.map (Value.int .i64)) ∧ True) ∧ (Below w.heap.size w W ∧ w3.heap.size ≤ W.heap.size))
    (fun _ _ _ => False)
    (OwnFrom.and (Own.from (holdsRow_own w3.heap.size w.heap.size 22 3 1 (fun pre : List Int => pre.length) (fun pre => pre.map (Value.int .i64)) (fun _ _ => True)) _) (OwnFrom.and (ownFrom_below (Nat.le_refl _) (by omega)) (fun _ _ _ _ hs hg _ => Nat.le_trans hs hg.size)))
    (fun _ _ _ _ _ hs _ _ => hs)
    ⟨⟨_, bO3, World.ownsRow_nil _ _ _ _, trivial⟩, hB3, Nat.le_refl _⟩
    (fun x => { tmps := #[.pointer p, undef, .slice none 0 0, .pointer (some ⟨w.heap.size, 0, none⟩), .int .i64 x, .pointer p, .func (.func 64) #[] #[.pointer (some ⟨bo, 0, none⟩)], .int .i64 x, undef, undef, undef, undef, undef], defers := [] }) ?assign ?body ?done ?stop
  case assign =>
    intro l x W K hK
    gi_wp2
    exact hK
  case body =>
    rintro l pre x W ⟨⟨v, hv, hrow, _⟩, hB, hW⟩ hlt
    have hc := hv.cell
    have hM : pre.length + 1 ≤ maxLen := by unfold maxLen; omega
    gi_wp2_with (gi_at_builtin; refine wpListIn_append_own _ rfl _ _ 22 rfl w3.heap.size 3 i0 (.int .i64 0) 1 8 Try.underlying22 hi0 hz0 hz1 hz2 rfl (by decide) _ _ _ rfl (hrow.alloc _) ⟨W.heap.size, 0, none⟩ 1 1 [.int .i64 x] rfl rfl (cell_one_new _ _ _) (by simp [Value.oneCell']) hM (by omega) (by simp; omega) ?_; intro v' w1 hown' hgrow _; obtain ⟨g', cap', rfl⟩ := ownsRow_succ hown'; obtain ⟨hv1, hv2, hr2, hk2, hkk, hb2⟩ := appended_far (n₀ := w.heap.size) (lo := w.heap.size + 1) hv (by decide) hrow hW (by omega) (by omega) (by omega) hown' hgrow; have hc1 := hv1.cell; have hf1 := hv1.frozen)
    exact ⟨hk2.from _, hkk, ⟨_, hv2, by rw [List.map_append, List.length_append]; exact hr2, trivial⟩, hB.trans hb2, Nat.le_trans hW hk2.size⟩
  case done =>
    rintro Dn ys W hD rfl ⟨⟨v, hv, hrow, _⟩, hB, _⟩ hK
    have hc := hv.cell
    gi_wp2
    refine ⟨by simp, .inl ⟨_, _, rfl, run_takeDeferred hK, ?_⟩⟩
    exact ⟨_, results_tmp rfl _ _ _, v, rfl, (ownsRow_putObj hrow _ hK rfl).mono (by omega), hB.trans (belowK_b (w := w) (Nat.le_refl _) W Dn _ _ (by omega) hK rfl rfl)⟩
  case stop =>
    rintro D c pre W _ _ h _
    exact h.elim
theorem all_any {w : World} {b r : Nat} {l : List Int} (h : IBag w b r l) (hl : l.length ≤ 1000000) : Calls Try.prog 17 #[.pointer (some ⟨b, 0, none⟩)] w (RowI l w) :=
  all_of _ l w hl fun W hW => by
    have h' := h.below hW
    obtain ⟨v, h1, h2⟩ := h'.box
    exact allm_of _ r v l W (.inr ⟨b, rfl, h1⟩) h2 hl
theorem all_nil (w : World) : Calls Try.prog 17 #[.pointer none] w (RowI [] w) :=
  all_of _ [] w (by decide) fun W _ => allm_of none 0 _ [] W (Has.none W) (Row.nil _ _ W 0) (by decide)
end Go.Proofs.Ytfmcgejoobbiiaa
