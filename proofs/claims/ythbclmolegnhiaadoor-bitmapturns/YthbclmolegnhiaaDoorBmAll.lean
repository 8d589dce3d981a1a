/- The contract of the law package's all: a slice of the places that are on. -/
import Derived.Test.YthbclmolegnhiaaDoorBmIter
namespace Go.Proofs.YthbclmolegnhiaaDoor
open Go.RowKit Go.Shelf
attribute [local go_sem] Oper.semAt_some

theorem kq_t {n Bn : Nat} {p0 : Option Addr} {A B C : World} (h : Kq n Bn p0 A B) (k : Kq n Bn p0 B C) : Kq n Bn p0 A C := ⟨h.1.trans k.1, fun x => k.2 (h.2 x)⟩
theorem kq_b {n Bn : Nat} {p0 : Option Addr} {w : World} (hn : n ≤ w.heap.size) (hB : Bn < w.heap.size) (W : World) (l : Nat) (o o' : Obj) (hl : w.heap.size ≤ l) (h : W.heap[l]? = some o) (h1 : o.isCells = false) (h2 : o.isWalk = false) : Kq n Bn p0 W (W.putObj l o') :=
  ⟨belowK_b hn W l o o' hl h h1 h2, fun x => x.kept (grownBy_putObj' W l o') (by intro e; cases e; omega)⟩

set_option maxRecDepth 100000 in
set_option maxHeartbeats 2000000 in
theorem all_of (p0 : Option Addr) (xs : List Nat) (w : World) (hlen : xs.length ≤ 1048576)
    (hseq : ∀ W : World, Boxed W (w.heap.size + 1) 22 (.pointer p0) → Below w.heap.size w W → w.heap.size ≤ W.heap.size → Tells 2 w.heap.size (w.heap.size + 1) p0 xs W) :
    Calls Tryd.prog 17 #[.pointer p0] w (RowPost xs w) := by
  obtain ⟨i0, hi, hz0, hz1, hz2⟩ := info_parts infoInt
  have HS := Lib.hid hseq
  clear hseq
  refine (callsIn_wide (n := 3)).1 ?_
  refine callsIn_of_wp_marks Tryd.func17 rfl trivial ?_ rfl
  simp only [Tryd.ntmps17, List.size_toArray, List.length_cons, List.length_nil, Nat.reduceAdd, Nat.reduceSub, Array.replicate_succ, Array.replicate_zero, List.push_toArray, List.append_toArray, List.nil_append, List.cons_append]
  gi_wp2_with (first
    | (refine ⟨trivial, ?_⟩; gi_at_call 27; refine (all_in _ _ _).mono ?_; rintro e w' ⟨rfl, rfl⟩)
    | (gi_at_call 27; refine (all_in _ _ _).mono ?_; rintro e w' ⟨rfl, rfl⟩))
  have bO := Boxed.new w 31 (.slice none 0 0)
  have bN := Boxed.new (w.alloc (.cells #[.slice none 0 0] 31)) 22 (.pointer p0)
  rw [World.size_alloc] at bN
  have hB0 : Below w.heap.size w ((w.alloc (.cells #[.slice none 0 0] 31)).alloc (.cells #[.pointer p0] 22)) := ((Below.refl _ w).alloc (Nat.le_refl _) _).alloc (by simp) _
  refine wpIn_rangeFunc_ownG rfl (by decide) (gf := 32) (lb := #[.pointer (some ⟨w.heap.size + 1, 0, none⟩)]) rfl trivial (enters_of Tryd.func32 (by kernel_rfl) rfl)
    (HS.out _ bN hB0 (by simp; omega)) kq_t (kq_b (by simp; omega) (by simp)) (Below.refl _ _) (fun _ => rfl)
    (fun pre W => (∃ v, Boxed W w.heap.size 31 v ∧ W.ownsRow w.heap.size 3 1 v pre.length (vals pre) ∧ True) ∧ (Boxed W (w.heap.size + 1) 22 (.pointer p0) ∧ Below w.heap.size w W))
    (fun _ _ _ => False)
    (OwnFrom.and (Own.from (holdsRow_own w.heap.size w.heap.size 31 3 1 (fun pre : List Nat => pre.length) (fun pre => vals pre) (fun _ _ => True)) _) (OwnFrom.and (Own.from (boxed_own _ _ _) _) (ownFrom_below (Nat.le_refl _) (by simp; omega))))
    (fun _ _ _ _ _ hs _ _ => hs)
    ⟨⟨_, bO.alloc _, World.ownsRow_nil _ _ _ _, trivial⟩, bN, hB0⟩
    (fun x => { tmps := #[.pointer p0, undef, .slice none 0 0, .pointer (some ⟨w.heap.size, 0, none⟩), .int .i64 (x : Nat), .pointer p0, .func (.func 32) #[] #[.pointer (some ⟨w.heap.size + 1, 0, none⟩)], .int .i64 (x : Nat), undef, undef, undef, undef, undef], defers := [] }) ?assign ?body ?done ?stop
  case assign =>
    intro l x W K hK
    gi_wp2
    exact hK
  case body =>
    rintro l pre x W ⟨⟨v, hv, hrow, _⟩, hp, hB⟩ hlt
    have hc := hv.cell
    have hM : pre.length + 1 ≤ maxLen := by unfold maxLen; omega
    have hsz := hB.size
    gi_wp2_with (gi_at_builtin; refine wpListIn_append_own _ rfl _ _ 31 rfl w.heap.size 3 i0 (.int .i64 0) 1 8 Tryd.underlying31 hi hz0 hz1 hz2 rfl (by decide) _ _ _ rfl (hrow.alloc _) ⟨W.heap.size, 0, none⟩ 1 1 [.int .i64 (x : Nat)] rfl rfl (cell_one_new _ _ _) (by simp [Value.oneCell']) hM (by omega) (by simp; omega) ?_; intro v' w1 hown' hgrow _; obtain ⟨g', cap', rfl⟩ := ownsRow_succ hown'; obtain ⟨hv1, hv2, hr2, hk2, hb2⟩ := hv.appended (by decide) hrow hB.size (Nat.le_refl _) hown' hgrow; have hp1 := (hp.alloc _).kept hgrow (hp.not_row (by decide) hrow); have hc1 := hv1.cell; have hf1 := hv1.frozen)
    have hp2 := hp1.kept (grownBy_setCell' w1 w.heap.size (.slice (some ⟨g', 0, none⟩) (pre.length + 1) cap')) (by simp)
    exact ⟨hk2.from _, ⟨hb2, fun _ => hp2⟩, ⟨_, hv2, by rw [vals_snoc, List.length_append]; exact hr2, trivial⟩, hp2, hB.trans hb2⟩
  case done =>
    rintro D ys W hD rfl ⟨⟨v, hv, hrow, _⟩, _, hB⟩ hK
    have hc := hv.cell
    gi_wp2
    refine ⟨by simp, .inl ⟨_, _, rfl, run_takeDeferred hK, ?_⟩⟩
    exact ⟨_, results_tmp rfl _ _ _, v, rfl, ownsRow_putObj hrow _ hK rfl, hB.trans (belowK_b (w := w) (Nat.le_refl _) W D _ _ (by simp at hD; omega) hK rfl rfl)⟩
  case stop =>
    rintro D c pre W _ _ h _
    exact h.elim

theorem all_map (b c N : Nat) (ws : Nat → Nat) (w : World) (hM : MapAt w b c N ws) (hT : Tab w) (hb : b < w.heap.size) (hc : c < w.heap.size) :
    Calls Tryd.prog 17 #[.pointer (some ⟨b, 0, none⟩)] w (RowPost (BM.ons (BM.on ws) N) w) := by
  refine all_of _ _ w (by rw [BM.ons_len]; have := BM.cnt_le (BM.on ws) N; have := hM.n2; omega) fun W hB hW hsz => ?_
  exact all_tells 2 (by decide) _ _ b c N ws W hB hsz (hM.below hW hb hc) (hT.below hW (by omega)) hb hc
theorem all_none (w : World) : Calls Tryd.prog 17 #[.pointer none] w (RowPost [] w) :=
  all_of _ _ w (by simp) fun W hB _ _ => all_tells_nil 2 (by decide) _ _ W hB
end Go.Proofs.YthbclmolegnhiaaDoor
