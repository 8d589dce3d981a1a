/- slices.Collect and slices.SortedFunc over references; contracts of all, Of, From. -/
import Derived.Test.YtehkcflbdmkjpaaRsIter
import Derived.RangeFuncBox
namespace Go.Proofs.Ytehkcflbdmkjpaa
open Go.RowKit Go.Maps Go.Sort Go.Shelf
attribute [local go_sem] Oper.semAt_some

/-- Between two rounds: the box holds a row of what has come. -/
def ColI (w0 : World) (pre : List RM.R) (W : World) : Prop :=
  (∃ v, Boxed W w0.heap.size 32 v ∧ W.ownsRow w0.heap.size 24 2 v pre.length (flatT pre) ∧ True) ∧ Below w0.heap.size w0 W
theorem ColI.own {w0 : World} {hi : Nat} (h : w0.heap.size ≤ hi) : OwnFrom hi (ColI w0) :=
  OwnFrom.and (Own.from (holdsRow_own w0.heap.size w0.heap.size 32 24 2 (fun pre : List RM.R => pre.length) flatT (fun _ _ => True)) _) (ownFrom_below (Nat.le_refl _) h)
/-- A reference's box. -/
def Boxed2 (W : World) (p : Nat) (x : RM.R) : Prop := W.heap[p]? = some (.cells #[.int .i64 x.1, .int .i64 x.2] 24 (0, 0))
/-- The loop variable's box. -/
def ColA (g : Nat) (lb : Array Value) (w0 : World) (x : RM.R) (a : Act) (W : World) : Prop := ∃ p, Boxed2 W p x ∧ w0.heap.size < p ∧
  a = { tmps := #[.slice none 0 0, .func (.func g) #[] lb, .pointer (some ⟨w0.heap.size, 0, none⟩), undef, .slice none 0 0, .pointer (some ⟨p, 0, none⟩), .func (.func g) #[] lb, .agg #[.int .i64 x.1, .int .i64 x.2], undef, undef, undef, undef, undef], defers := [] }

/-- Behind an append to the boxed row, and the store of what it told. -/
theorem appended_col {W w1 : World} {n₀ B : Nat} {t e : TypeId} {size : Nat} {v v' : Value} {k m : Nat} {xs ys : List Value} {tmp : Obj}
    (hv : Boxed W B t v) (hte : t ≠ e) (hrow : W.ownsRow n₀ e size v k xs) (hh : n₀ ≤ W.heap.size) (hn : n₀ ≤ B)
    (hown' : w1.ownsRow n₀ e size v' m ys) (hgrow : (W.alloc tmp).grownBy w1 v.ownBlock) :
    Boxed w1 B t v ∧ Boxed (w1.setCell ⟨B, 0, none⟩ v') B t v' ∧ (w1.setCell ⟨B, 0, none⟩ v').ownsRow n₀ e size v' m ys ∧ KeepsOthers W (w1.setCell ⟨B, 0, none⟩ v') ∧ Below n₀ W (w1.setCell ⟨B, 0, none⟩ v') := by
  have nr : ∀ {X : World} {u : Value} {j : Nat} {zs : List Value}, Boxed X B t v → X.ownsRow n₀ e size u j zs → some B ≠ u.ownBlock := fun {X u j zs} hb hr => by
    rcases hr.2 with ⟨rfl, _⟩ | ⟨g, cap, cur, rfl, _, hgb, _⟩
    · simp [Value.ownBlock]
    · intro e'
      have : B = g := by simpa [Value.ownBlock] using e'
      subst this
      rw [show X.heap[B]? = _ from hb] at hgb
      injection hgb with hgb
      injection hgb with _ hgb
      exact hte hgb
  have hv1 : Boxed w1 B t v := (hv.alloc tmp).kept hgrow (nr hv hrow)
  have hr : ∀ k, v.ownBlock = some k → n₀ ≤ k := fun k hk => (hrow.lt k hk).1
  refine ⟨hv1, hv1.set v', hown'.kept (grownBy_setCell' w1 B v') (.inr (fun h => nr hv1 hown' h.symm)), ?_, ?_⟩
  · refine ((KeepsOthers.alloc W tmp).trans (KeepsOthers.of_grownBy hgrow fun j o ej hj => ?_)).trans (KeepsOthers.setCell _ _ _)
    rcases (hrow.alloc tmp).2 with ⟨rfl, _⟩ | ⟨g, cap, cur, rfl, _, hgb, _⟩
    · simp [Value.ownBlock] at ej
    · obtain rfl : g = j := by simpa [Value.ownBlock] using ej
      rw [hgb] at hj; cases hj; rfl
  · exact (((Below.refl n₀ W).alloc (by omega) tmp).grown hgrow (by simp; omega) (fun k hk => hr k hk)).setCell (p := ⟨B, 0, none⟩) hn v'

set_option maxRecDepth 100000 in
set_option maxHeartbeats 2000000 in
theorem rappend_in (n : Nat) (hn : 2 ≤ n) (g : Nat) (lb : Array Value) (eg : ∀ args w, (callFunc g args).run Try.prog w = .ok (.enter g args) w) (S : List RM.R → Prop) (N : Nat) (hN : N ≤ 1000000) (w : World)
    (hseq : SeqStopsK Fence.wide (n - 1) Try.prog g lb (fun r : RM.R => #[refV r]) KeepsWalks S (fun _ => True) N w) :
    CallsIn Fence.wide n Try.prog 36 #[.slice none 0 0, .func (.func g) #[] lb] w fun e w' => ∃ v ss, e = .returned v ∧ S ss ∧ NewT w.heap.size w' v ss ∧ Below w.heap.size w w' := by
  obtain ⟨i0, hi, hz0, hz1, hz2⟩ := infoRef
  refine callsIn_of_wp_marks Try.func36 rfl trivial ?_ rfl
  simp only [Try.ntmps36, List.size_toArray, List.length_cons, List.length_nil, Nat.reduceAdd, Nat.reduceSub, Array.replicate_succ, Array.replicate_zero, List.push_toArray, List.append_toArray, List.nil_append, List.cons_append]
  gi_wp2
  obtain ⟨W0, hW0⟩ : ∃ W0, W0 = w.alloc (.cells #[.slice none 0 0] 32) := ⟨_, rfl⟩
  have hs0 : W0.heap.size = w.heap.size + 1 := by rw [hW0]; simp
  have hb0 : Below w.heap.size w W0 := by rw [hW0]; exact (Below.refl _ w).alloc (Nat.le_refl _) _
  have hx0 : Boxed W0 w.heap.size 32 (.slice none 0 0) := by rw [hW0]; exact Boxed.new _ _ _
  have hI0 : ColI w [] W0 := ⟨⟨_, hx0, World.ownsRow_nil _ _ _ _, trivial⟩, hb0⟩
  rw [← hW0]
  clear hW0
  refine wpIn_rangeFunc_ownH rfl (by omega) (gf := g) (lb := lb) rfl trivial eg hseq (fun h k => h.trans k) (fun W l o o' _ hl _ hw => KeepsWalks.putObj o' hl hw) hb0 (fun _ => rfl) (ColI w) (fun _ _ _ => False) (ColI.own (by omega)) (fun _ _ _ _ _ hs _ _ => hs) hI0
    (ColA g lb w) ?own ?assign ?body ?done ?stop
  case own =>
    rintro x a' s A B row ⟨p, h1, h2, h3⟩ hg hr
    refine ⟨p, (hg.block p (Array.getElem?_eq_some_iff.1 h1).1 fun e => ?_).trans h1, h2, h3⟩
    obtain ⟨_, o, ho, hc⟩ := hr p e.symm
    rw [h1] at ho
    cases ho
    cases hc
  case assign =>
    rintro l pre ⟨x1, x2⟩ W K hI hK
    have hI' : ColI w pre (W.alloc (.cells #[.int .i64 x1, .int .i64 x2] 24)) := ColI.own (hi := w.heap.size) (Nat.le_refl _) pre W _ none hI (World.grownBy_alloc W _ none) (fun r e => by cases e)
    have HK := Lib.hid fun a' h => hK a' (W.alloc (.cells #[.int .i64 x1, .int .i64 x2] 24)) ⟨by simp, fun k o _ hk _ => (Below.heap_alloc _ _ _ (Array.getElem?_eq_some_iff.1 hk).1).trans hk⟩ (KeepsWalks.alloc _ _) hI' h
    have hs : w.heap.size ≤ W.heap.size := hI.2.size
    have hlt : w.heap.size < W.heap.size := by obtain ⟨⟨v, hv, _⟩, _⟩ := hI; exact hv.lt
    clear hK hI hI' hb0 hx0 hI0
    unfold refV
    gi_wp2
    refine HK.out _ ⟨W.heap.size, World.alloc_heap_new W _, hlt, ?_⟩
    rfl
  case body =>
    rintro l pre ⟨x1, x2⟩ _ W _ _ ⟨⟨v, hv, hrow, _⟩, hB⟩ ⟨p, h1, h2, rfl⟩ hlen
    obtain ⟨A, cp, rfl, _⟩ := NewT.slice hrow
    have cv := hv.cell
    have x0 : W.cell? ⟨p, 0, none⟩ = some (.int .i64 x1) := by have := Whole.cell (w := W) h1 0; simpa using this
    have y0 : W.cell? ⟨p, 1, none⟩ = some (.int .i64 x2) := by have := Whole.cell (w := W) h1 1; simpa using this
    have hs := hB.size
    have HV := Lib.hid hv
    have HR := Lib.hid hrow
    have HB := Lib.hid hB
    clear hv hrow hB h1 hI0 hx0 hb0
    gi_wp2_with (first
      | (gi_at_builtin; refine wpListIn_append_own _ rfl _ _ 32 rfl w.heap.size 24 i0 _ 2 16 Try.underlying32 hi hz0 hz1 hz2 rfl (by decide) (.slice A pre.length cp) pre.length (flatT pre) rfl (HR.out.alloc _) ⟨W.heap.size, 0, none⟩ 1 1 [.int .i64 x1, .int .i64 x2] rfl rfl (cell_two_new _ _ _ _) (by simp [Value.oneCell']) (by unfold maxLen; omega) (by omega) (by simp; omega) ?_; intro v' w3 hown' hg3 _
         obtain ⟨hv1, hv2, hr2, hk2, hb2⟩ := appended_col (n₀ := w.heap.size) HV.out (by decide) HR.out (by omega) (Nat.le_refl _) hown' hg3
         obtain ⟨g', cap', rfl⟩ := ownsRow_succ hown'
         have c3 := hv1.cell
         have f3 := hv1.frozen
         have H2 := Lib.hid hv2
         have R2 := Lib.hid hr2
         have K2 := Lib.hid hk2
         have B2 := Lib.hid hb2
         clear hv2 hr2 hk2 hb2 hown' hg3 hv1)
      | gi_in)
    refine ⟨K2.out.from _, K2.out.walks, ⟨_, H2.out, ?_, trivial⟩, HB.out.trans B2.out⟩
    rw [flatT_app, List.length_append]
    exact R2.out
  case done =>
    rintro D ss W hD hS ⟨⟨v, hv, hrow, _⟩, hB⟩ hK
    obtain ⟨A, cp, rfl, _⟩ := NewT.slice hrow
    have cv := hv.cell
    have hg3 : W.grownBy (W.putObj D (.deferred none)) (some D) := grownBy_putObj' _ _ _
    have hne : ∀ k, (Value.slice A ss.length cp).ownBlock = some k → k ≠ D := fun k hk e => by
      rcases hrow.2 with ⟨e0, _⟩ | ⟨g', cap, cur, e0, _, hgb, _⟩
      · rw [e0] at hk
        simp [Value.ownBlock] at hk
      · rw [e0] at hk
        simp [Value.ownBlock] at hk
        subst hk e
        rw [hgb] at hK
        cases hK
    have hrow3 : NewT w.heap.size (W.putObj D (.deferred none)) (.slice A ss.length cp) ss := NewT.keep hrow fun k hk _ ⟨_, hw⟩ => hg3.block k hw.lt (by intro e; cases e; exact hne _ hk rfl)
    have hB3 : Below w.heap.size w (W.putObj D (.deferred none)) := hB.grown hg3 hB.size (fun k e => by cases e; omega)
    have HR := Lib.hid hrow3
    have HB := Lib.hid hB3
    clear hrow hv hB hg3 hne hrow3 hB3 hI0 hx0 hb0
    gi_wp2
    refine ⟨by simp, .inl ⟨_, _, rfl, run_takeDeferred hK, ?_⟩⟩
    refine ⟨_, results_tmp (t := 4) rfl _ _ _, ?_⟩
    exact ⟨.slice A ss.length cp, ss, rfl, hS, HR.out, HB.out⟩
  case stop =>
    rintro D c pre W _ _ h
    exact h.elim

/-- slices.Collect. -/
theorem rcollect_in (n : Nat) (hn : 3 ≤ n) (g : Nat) (lb : Array Value) (eg : ∀ args w, (callFunc g args).run Try.prog w = .ok (.enter g args) w) (S : List RM.R → Prop) (N : Nat) (hN : N ≤ 1000000) (w : World)
    (hseq : SeqStopsK Fence.wide (n - 1 - 1) Try.prog g lb (fun r : RM.R => #[refV r]) KeepsWalks S (fun _ => True) N w) :
    CallsIn Fence.wide n Try.prog 32 #[.func (.func g) #[] lb] w fun e w' => ∃ v ss, e = .returned v ∧ S ss ∧ NewT w.heap.size w' v ss ∧ Below w.heap.size w w' := by
  have C := Lib.hid (rappend_in (n - 1) (by omega) g lb eg S N hN w hseq)
  have h1 : 1 ≤ n := by omega
  have hf1 : Fence.wide.fn 36 := trivial
  clear hseq
  refine callsIn_of_wp Try.func32 rfl trivial ?_ rfl
  simp only [Try.ntmps32, List.size_toArray, List.length_cons, List.length_nil, Nat.reduceAdd, Nat.reduceSub, Array.replicate_succ, Array.replicate_zero, List.push_toArray, List.append_toArray, List.nil_append, List.cons_append]
  gi_wp2_with (gi_at_call 36; refine C.out.mono ?_; rintro e w' ⟨v, ss, rfl, hS, hrow, hb⟩)
  go_ret
  exact ⟨v, ss, rfl, hS, hrow, hb⟩

/-- slices.SortedFunc. -/
theorem rsorted_in (n : Nat) (hn : 4 ≤ n) (g : Nat) (lb : Array Value) (eg : ∀ args w, (callFunc g args).run Try.prog w = .ok (.enter g args) w) (l : List RM.R) (hl : l.length ≤ 1000000) (w : World)
    (hseq : SeqStopsK Fence.wide (n - 1 - 1 - 1) Try.prog g lb (fun r : RM.R => #[refV r]) KeepsWalks (fun ss => ss.Perm l) (fun _ => True) l.length w) :
    CallsIn Fence.wide n Try.prog 29 #[.func (.func g) #[] lb, .func (.func 31) #[] #[]] w fun e w' => ∃ v ss, e = .returned v ∧ ss.Perm l ∧ NewT w.heap.size w' v (TM.row ss) ∧ Below w.heap.size w w' := by
  have C := Lib.hid (rcollect_in (n - 1) (by omega) g lb eg _ l.length hl w hseq)
  have h1 : 1 ≤ n := by omega
  have hf1 : Fence.wide.fn 32 := trivial
  have hf2 : Fence.wide.fn 33 := trivial
  clear hseq
  refine callsIn_of_wp Try.func29 rfl trivial ?_ rfl
  simp only [Try.ntmps29, List.size_toArray, List.length_cons, List.length_nil, Nat.reduceAdd, Nat.reduceSub, Array.replicate_succ, Array.replicate_zero, List.push_toArray, List.append_toArray, List.nil_append, List.cons_append]
  gi_wp2_with (gi_at_call 32; refine C.out.mono ?_; rintro e W ⟨v, ss, rfl, hS, hrow, hb⟩)
  have hlen := hS.length_eq
  have SR := Lib.hid (callsIn_wide (n := n - 1).2 (sortRow_any w.heap.size v ss W hrow (by omega) hb.size))
  obtain ⟨A, cp, rfl, _⟩ := hrow.slice
  have HB := Lib.hid hb
  have HS := Lib.hid hS
  clear hb hS hrow hlen hl
  gi_wp2_with (gi_at_call 33; refine SR.out.mono ?_; rintro e w' ⟨rfl, h2, hb2⟩)
  go_ret
  exact ⟨_, ss, rfl, HS.out, h2, HB.out.trans hb2⟩

/-- In order, whatever the order in which they came. -/
theorem row_of_perm {ss l : List RM.R} (h : ss.Perm l) (hl : l.Pairwise TM.Lt) : TM.row ss = l := by
  refine TM.same _ _ ?_ hl fun x => ?_
  · have h1 := TM.row_sorted ss
    have h2 : (TM.row ss).Nodup := ((TM.row_perm ss).trans h).nodup_iff.2 (RM.rise_nodup hl)
    refine (h1.and h2).imp fun {x y} hh => ?_
    obtain ⟨a, b⟩ := hh
    rcases TM.Lt.tri x y with e | e | e
    · exact e
    · exact (b e).elim
    · exact (a e).elim
  · rw [((TM.row_perm ss).trans h).mem_iff]

/-- What is left by a call that tells a new row of references. -/
def RowT (l : List RM.R) (w : World) (e : Ending) (w' : World) : Prop := ∃ v, e = .returned v ∧ NewT w.heap.size w' v l ∧ Below w.heap.size w w'
theorem RowT.nil (w : World) : RowT [] w (.returned (.slice none 0 0)) w := ⟨_, rfl, NewT.nil _ _, Below.refl _ _⟩

set_option maxHeartbeats 1000000 in
theorem rall_any {w : World} {g c : Nat} {I : List Nat} {mem : Int → List RM.R} (h : Grp w g c I mem) {z : Int} (hz : I64ok z) (hl : (mem z).length ≤ 1000000) (hu : (mem z).Pairwise TM.Lt) :
    Calls Try.prog 27 #[.map (some g), .int .i64 z] w (RowT (mem z) w) := by
  obtain ⟨o, hlk, ho⟩ := h.at_ hz
  have hV : InV (w.alloc (.cells #[.map o] 58)) o (mem z) := by
    rcases ho with ⟨h1, h2⟩ | ⟨k, h1, _, h2, _⟩
    · exact .inl ⟨h1, h2⟩
    · exact .inr ⟨k, h1, h2.keep (Below.heap_alloc _ _ _ h2.mapB.lt)⟩
  have hseq := rkeys_stops 2 (by omega) w.heap.size o (mem z) _ (by simp) (by have := Whole.fresh w 58 #[.map o]; have := this.cell 0; simp) hV
  have CS := Lib.hid (rsorted_in 5 (by omega) 34 _ (enters_of Try.func34 (by kernel_rfl) rfl) (mem z) hl _ hseq)
  have CK := Lib.hid (rkeys_in o w)
  have hf1 : Fence.wide.fn 30 := trivial
  have hf2 : Fence.wide.fn 29 := trivial
  clear hseq hV ho h hl
  generalize mem z = l at *
  refine (callsIn_wide (n := 6)).1 ?_
  refine callsIn_of_wp Try.func27 rfl trivial ?_ rfl
  simp only [Try.ntmps27, List.size_toArray, List.length_cons, List.length_nil, Nat.reduceAdd, Nat.reduceSub, Array.replicate_succ, Array.replicate_zero, List.push_toArray, List.append_toArray, List.nil_append, List.cons_append]
  gi_wp2_with (first
    | (gi_at_call 30; refine CK.out.mono ?_; rintro e w' ⟨rfl, rfl⟩)
    | (gi_at_call 29; refine CS.out.mono ?_; rintro e w' ⟨v, ss, rfl, hS, hrow, hb⟩))
  go_ret
  rw [row_of_perm hS hu] at hrow
  refine ⟨v, rfl, hrow.less (by simp), ((Below.refl _ w).alloc (Nat.le_refl _) _).trans (hb.mono (by simp))⟩

section
variable {w : World} {B : RB} {c : Nat} {L : RM.L}
theorem rof_any (h : RsAt w B c L) {t : Int} (ht : I64ok t) (hl : L.length ≤ 1000000) : Calls Try.prog 13 #[.pointer (some ⟨B.b, 0, none⟩), .int .i64 t] w (RowT (RM.of L t) w) := by
  have HA := Lib.hid (rall_any h.of ht (Nat.le_trans (RM.of_len L t) hl) (RM.of_up h.up t))
  have c1 := h.c1
  clear h
  generalize RM.of L t = l at *
  go_enter Try.func13, Try.ntmps13
  go_wp2_with fail
  refine HA.out.mono ?_
  rintro e w1 ⟨v, rfl, hv, hb⟩
  have HV := Lib.hid hv
  have HB := Lib.hid hb
  obtain ⟨A, cp, rfl, _⟩ := hv.slice
  clear hv hb
  go_wp2
  go_ret
  exact ⟨_, rfl, HV.out, HB.out⟩
theorem rfrom_any (h : RsAt w B c L) {s : Int} (hs : I64ok s) (hl : L.length ≤ 1000000) : Calls Try.prog 14 #[.pointer (some ⟨B.b, 0, none⟩), .int .i64 s] w (RowT (RM.frm L s) w) := by
  have HA := Lib.hid (rall_any h.frm hs (Nat.le_trans (RM.frm_len L s) hl) (RM.frm_up h.up s))
  have c1 := h.c2
  clear h
  generalize RM.frm L s = l at *
  go_enter Try.func14, Try.ntmps14
  go_wp2_with fail
  refine HA.out.mono ?_
  rintro e w1 ⟨v, rfl, hv, hb⟩
  have HV := Lib.hid hv
  have HB := Lib.hid hb
  obtain ⟨A, cp, rfl, _⟩ := hv.slice
  clear hv hb
  go_wp2
  go_ret
  exact ⟨_, rfl, HV.out, HB.out⟩
end
theorem rof_nil (t : Int) (w : World) : Calls Try.prog 13 #[.pointer none, .int .i64 t] w fun e w' => e = .returned (.slice none 0 0) ∧ w = w' := by
  go_enter Try.func13, Try.ntmps13
  go_wp2
  go_ret
  exact ⟨rfl, rfl⟩
theorem rfrom_nil (t : Int) (w : World) : Calls Try.prog 14 #[.pointer none, .int .i64 t] w fun e w' => e = .returned (.slice none 0 0) ∧ w = w' := by
  go_enter Try.func14, Try.ntmps14
  go_wp2
  go_ret
  exact ⟨rfl, rfl⟩
end Go.Proofs.Ytehkcflbdmkjpaa
