/- The contract of the law package's slots: a slice of all places that are told. -/
import Derived.Test.YtaffceodcfgeeaaDoorLyIter
import Derived.Deep.Onto
namespace Go.Proofs.YtaffceodcfgeeaaDoor
open Go.RowKit Go.Shelf
attribute [local go_sem] Oper.semAt_some

/-- What is left by a call that makes a slice of these numbers. -/
def RowI (xs : List Int) (w : World) (e : Ending) (w' : World) : Prop :=
  ∃ v, e = .returned v ∧ w'.ownsRow w.heap.size 3 1 v xs.length (ivals xs) ∧ Below w.heap.size w w'

theorem kept_b {lo hi : Nat} {w : World} (hh : hi ≤ w.heap.size) (W : World) (l : Nat) (o o' : Obj) (hl : w.heap.size ≤ l) (_ : W.heap[l]? = some o) (_ : o.isCells = false) (_ : o.isWalk = false) : Kept lo hi W (W.putObj l o') := fun g _ hg =>
  World.putObj_heap_other (by omega)

/-- 'out = append(out, x)', out boxed at B, ahead of the blocks from lo on and below hi, its row from hi on. -/
theorem appended_far {W w1 : World} {n₀ lo hi B : Nat} {t e : TypeId} {size : Nat} {v v' : Value} {k m : Nat} {xs ys : List Value} {tmp : Obj}
    (hv : Boxed W B t v) (hte : t ≠ e) (hrow : W.ownsRow hi e size v k xs) (hh : hi ≤ W.heap.size) (hB : B < lo) (hn : n₀ ≤ B) (hnh : n₀ ≤ hi)
    (hown' : w1.ownsRow hi e size v' m ys) (hgrow : (W.alloc tmp).grownBy w1 v.ownBlock) :
    Boxed w1 B t v ∧ Boxed (w1.setCell ⟨B, 0, none⟩ v') B t v' ∧ (w1.setCell ⟨B, 0, none⟩ v').ownsRow hi e size v' m ys ∧ KeepsOthers W (w1.setCell ⟨B, 0, none⟩ v') ∧ Kept lo hi W (w1.setCell ⟨B, 0, none⟩ v') ∧ Below n₀ W (w1.setCell ⟨B, 0, none⟩ v') := by
  have hv1 : Boxed w1 B t v := (hv.alloc tmp).kept hgrow (hv.not_row hte hrow)
  have hr : ∀ k, v.ownBlock = some k → hi ≤ k := fun k hk => (hrow.lt k hk).1
  refine ⟨hv1, hv1.set v', hown'.kept (grownBy_setCell' w1 B v') (.inr (hv1.not_row hte hown').symm), ?_, ?_, ?_⟩
  · refine ((KeepsOthers.alloc W tmp).trans (KeepsOthers.of_grownBy hgrow fun j o ej hj => ?_)).trans (KeepsOthers.setCell _ _ _)
    rcases (hrow.alloc tmp).2 with ⟨rfl, _⟩ | ⟨g, cap, cur, rfl, _, hgb, _⟩
    · simp [Value.ownBlock] at ej
    · obtain rfl : g = j := by simpa [Value.ownBlock] using ej
      rw [hgb] at hj; cases hj; rfl
  · exact (((Kept.refl lo hi W).alloc hh tmp).grown hgrow (by simp; omega) (fun k hk => .inr (hr k hk))).setCell (p := ⟨B, 0, none⟩) (.inl hB) v'
  · exact (((Below.refl n₀ W).alloc (by omega) tmp).grown hgrow (by simp; omega) (fun k hk => by have := hr k hk; omega)).setCell (p := ⟨B, 0, none⟩) hn v'

/-- What Slots leaves for a range over it. -/
def SeqPost (zs : List Int) (w : World) (e : Ending) (w' : World) : Prop :=
  ∃ gf lb lo hi, e = .returned (.func (.func gf) #[] lb) ∧ (∀ args w, (callFunc gf args).run Tryd.prog w = .ok (.enter gf args) w) ∧ w.heap.size ≤ lo ∧ hi ≤ w'.heap.size ∧ SeqTells 2 gf lb lo hi zs w' ∧ Below w.heap.size w w'

set_option maxRecDepth 100000 in
set_option maxHeartbeats 2000000 in
theorem slots_of (F R : Int) (A : Option Addr) (n c : Nat) (D : Option Addr) (m d : Nat) (C : Int) (zs : List Int) (w : World) (hlen : zs.length ≤ 1048576)
    (hseq : ∀ W : World, Below w.heap.size w W → w.heap.size + 2 ≤ W.heap.size → Calls Tryd.prog 27 #[.agg #[.int .i64 F, .slice A n c, .int .i64 R, .slice D m d], .int .i64 C] W (SeqPost zs W)) :
    Calls Tryd.prog 16 #[.agg #[.int .i64 F, .slice A n c, .int .i64 R, .slice D m d], .int .i64 C] w (RowI zs w) := by
  obtain ⟨i0, hi0, hz0, hz1, hz2⟩ := info_parts infoInt
  have HS := Lib.hid (hseq ((w.alloc (.cells #[.int .i64 F, .slice A n c, .int .i64 R, .slice D m d] 24)).alloc (.cells #[.slice none 0 0] 22)) (((Below.refl _ _).alloc (Nat.le_refl _) _).alloc (by simp) _) (by simp))
  clear hseq
  refine (callsIn_wide (n := 3)).1 ?_
  refine callsIn_of_wp_marks Tryd.func16 rfl trivial ?_ rfl
  simp only [Tryd.ntmps16, List.size_toArray, List.length_cons, List.length_nil, Nat.reduceAdd, Nat.reduceSub, Array.replicate_succ, Array.replicate_zero, List.push_toArray, List.append_toArray, List.nil_append, List.cons_append]
  have bO := Boxed.new (w.alloc (.cells #[.int .i64 F, .slice A n c, .int .i64 R, .slice D m d] 24)) 22 (.slice none 0 0)
  rw [World.size_alloc] at bO
  have HBO := Lib.hid bO
  clear bO
  gi_wp2_with fail
  refine ⟨trivial, ?_⟩
  refine (callsIn_wide.2 HS.out).mono ?_
  rintro e w3 ⟨gf, lb, lo, hi, rfl, hent, hlo, hhi, htell, hb⟩
  simp at hlo
  have hs3 := hb.size
  simp at hs3
  have hB3 : Below w.heap.size w w3 := (((Below.refl _ _).alloc (Nat.le_refl _) _).alloc (by simp) _).trans (hb.mono (by simp; omega))
  have bO3 : Boxed w3 (w.heap.size + 1) 22 (.slice none 0 0) := (hb.block (w.heap.size + 1) (by simp)).trans HBO.out
  have HENT := Lib.hid hent
  have HTELL := Lib.hid htell
  clear hent htell hb
  gi_wp2
  refine wpIn_rangeFunc_ownG rfl (by decide) (gf := gf) (lb := lb) rfl trivial HENT.out HTELL.out Kept.trans (kept_b hhi) (Below.refl _ _) (fun _ => rfl)
    (fun pre W => (∃ v, Boxed W (w.heap.size + 1) 22 v ∧ W.ownsRow w3.heap.size 3 1 v pre.length (ivals pre) ∧ True) ∧ (Below w.heap.size w W ∧ w3.heap.size ≤ W.heap.size))
    (fun _ _ _ => False)
    (OwnFrom.and (Own.from (holdsRow_own w3.heap.size (w.heap.size + 1) 22 3 1 (fun pre : List Int => pre.length) (fun pre => ivals pre) (fun _ _ => True)) _) (OwnFrom.and (ownFrom_below (Nat.le_refl _) (by omega)) (fun _ _ _ _ hs hg _ => Nat.le_trans hs hg.size)))
    (fun _ _ _ _ _ hs _ _ => hs)
    ⟨⟨_, bO3, World.ownsRow_nil _ _ _ _, trivial⟩, hB3, Nat.le_refl _⟩
    (fun x => { tmps := #[.agg #[.int .i64 F, .slice A n c, .int .i64 R, .slice D m d], .int .i64 C, .pointer (some ⟨w.heap.size, 0, none⟩), undef, .slice none 0 0, .pointer (some ⟨w.heap.size + 1, 0, none⟩), .int .i64 x, .agg #[.int .i64 F, .slice A n c, .int .i64 R, .slice D m d], .int .i64 C, .func (.func gf) #[] lb, .int .i64 x, undef, undef, undef, undef, undef], defers := [] }) ?assign ?body ?done ?stop
  case assign =>
    intro l x W K hK
    gi_wp2
    exact hK
  case body =>
    rintro l pre x W ⟨⟨v, hv, hrow, _⟩, hB, hW⟩ hlt
    have hc := hv.cell
    have hM : pre.length + 1 ≤ maxLen := by unfold maxLen; omega
    gi_wp2_with (gi_at_builtin; refine wpListIn_append_own _ rfl _ _ 22 rfl w3.heap.size 3 i0 (.int .i64 0) 1 8 Tryd.underlying22 hi0 hz0 hz1 hz2 rfl (by decide) _ _ _ rfl (hrow.alloc _) ⟨W.heap.size, 0, none⟩ 1 1 [.int .i64 x] rfl rfl (cell_one_new _ _ _) (by simp [Value.oneCell']) hM (by omega) (by simp; omega) ?_; intro v' w1 hown' hgrow _; obtain ⟨g', cap', rfl⟩ := ownsRow_succ hown'; obtain ⟨hv1, hv2, hr2, hk2, hkk, hb2⟩ := appended_far (n₀ := w.heap.size) (lo := lo) hv (by decide) hrow hW (by omega) (by omega) (by omega) hown' hgrow; have hc1 := hv1.cell; have hf1 := hv1.frozen)
    exact ⟨hk2.from _, hkk.mono (Nat.le_refl _) hhi, ⟨_, hv2, by rw [ivals_snoc, List.length_append]; exact hr2, trivial⟩, hB.trans hb2, Nat.le_trans hW hk2.size⟩
  case done =>
    rintro Dn ys W hD rfl ⟨⟨v, hv, hrow, _⟩, hB, _⟩ hK
    have hc := hv.cell
    gi_wp2
    refine ⟨by simp, .inl ⟨_, _, rfl, run_takeDeferred hK, ?_⟩⟩
    exact ⟨_, results_tmp rfl _ _ _, v, rfl, (ownsRow_putObj hrow _ hK rfl).mono (by omega), hB.trans (belowK_b (w := w) (Nat.le_refl _) W Dn _ _ (by omega) hK rfl rfl)⟩
  case stop =>
    rintro D c pre W _ _ h _
    exact h.elim
end Go.Proofs.YtaffceodcfgeeaaDoor
