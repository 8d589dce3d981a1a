/- The law ImageNews: images are made of a store and a book; of none nothing is told. -/
import Derived.Test.YteneadimchhhhaaDoorImNil
import Derived.Test.YteneadimchhhhaaDoorAdLaw
namespace Go.Proofs.YteneadimchhhhaaDoor
open Go.RowKit Go.Shelf
attribute [local go_sem] Oper.semAt_some

theorem ilinks_in (n : Nat) (p0 : Option Addr) (a : Int) (w : World) :
    CallsIn Fence.wide n Tryd.prog 12 #[.pointer p0, .int .i64 a] w fun e w' => e = .returned (.func (.func 31) #[] #[.pointer (some ⟨w.heap.size, 0, none⟩), .pointer (some ⟨w.heap.size + 1, 0, none⟩)]) ∧ (w.alloc (.cells #[.pointer p0] 23)).alloc (.cells #[.int .i64 a] 3) = w' := by
  refine callsIn_of_wp Tryd.func12 rfl trivial ?_ rfl
  simp only [Tryd.ntmps12, List.size_toArray, List.length_cons, List.length_nil, Nat.reduceAdd, Nat.reduceSub, Array.replicate_succ, Array.replicate_zero, List.push_toArray, List.append_toArray, List.nil_append, List.cons_append]
  gi_wp2
  go_ret
  exact ⟨rfl, rfl⟩
/-- A reference, as Links tells it. -/
structure LkE where
  p : Int
  K : Int
  I : Int
  G : Int
def LkE.v (x : LkE) : Array Value := #[.int .i64 x.p, .agg #[.int .i64 x.K, .int .i64 x.I, .int .i64 x.G]]
/-- The iterator tells nothing where objectAt answers an error. -/
theorem links_none {α : Type} {encs : α → Array Value} {Kp : World → World → Prop} (n b1 b2 : Nat) (P : Option Addr) (a E L C S N : Int) (D : List LD) (w : World) (hE : E ≠ 0) (hB1 : Boxed w b1 23 (.pointer P)) (hB2 : Boxed w b2 3 (.int .i64 a))
    (HO : ∀ W, Below w.heap.size w W → Calls Tryd.prog 27 #[.pointer P, .int .i64 a] W (ObjIs D L C S N E W)) : SeqOwn n Tryd.prog 31 #[.pointer (some ⟨b1, 0, none⟩), .pointer (some ⟨b2, 0, none⟩)] encs Kp [] w := fun l J Jx W hW _ hJ _ _ h0 => by
  have hd : (E != 0) = true := by simpa using hE
  have hB1' : Boxed W b1 23 (.pointer P) := (hW.block b1 hB1.lt).trans hB1
  have hB2' : Boxed W b2 3 (.int .i64 a) := (hW.block b2 hB2.lt).trans hB2
  have c1 := (hB1'.alloc (.cells #[.func (.yield l) #[] #[]] 89)).cell
  have c2 := (hB2'.alloc (.cells #[.func (.yield l) #[] #[]] 89)).cell
  have hb1 : Below W.heap.size W (W.alloc (.cells #[.func (.yield l) #[] #[]] 89)) := (Below.refl _ _).alloc (Nat.le_refl _) _
  have CO := HO _ (hW.trans (hb1.mono hW.size))
  have HC := Lib.hid CO
  have HB := Lib.hid hb1
  have HJ := Lib.hid (fun W' (hb : Below W.heap.size W W') => hJ [] W W' none h0 ⟨hb.os, hb.tape, hb.output, hb.size, fun k hk _ => hb.block k hk⟩ (fun r e => by cases e))
  clear CO hb1 hE
  refine callsIn_of_wp_marks Tryd.func31 rfl trivial ?_ rfl
  simp only [Tryd.ntmps31, List.size_toArray, List.length_cons, List.length_nil, Nat.reduceAdd, Nat.reduceSub, Array.replicate_succ, Array.replicate_zero, List.push_toArray, List.append_toArray, List.nil_append, List.cons_append]
  gi_wp2_with fail
  refine ⟨trivial, fun h => (by cases h), ?_⟩
  refine (callsIn_wide.2 HC.out).mono ?_
  rintro e w2 ⟨k, rfl, -, hb2⟩
  have hb3 := HB.out.trans ((hb2.alloc hb2.size (.cells #[.int .i64 L, .int .i64 C, .int .i64 S, .int .i64 k.F, .slice k.A k.n k.c, .int .i64 k.R, .slice k.D k.m k.d, .int .i64 N] 79)).mono HB.out.size)
  have HJ3 := Lib.hid (HJ.out _ hb3)
  clear hb2 hb3 HJ HC
  gi_wp2_with fail
  exact ⟨_, results_none rfl _ _ _, ⟨_, rfl⟩, .inl HJ3.out⟩

/-- What the walk carries behind the loop: the result's box, the block for deferred calls. -/
structure INewsAt (w W : World) (D : Nat) : Prop where
  box : Boxed W w.heap.size 4 (.bool false)
  bel : Below w.heap.size w W
  dd : W.heap[D]? = some (.deferred (some []))
  dlt : w.heap.size ≤ D
theorem INewsAt.later {w W W' : World} {D : Nat} (h : INewsAt w W D) (hb : Below W.heap.size W W') : INewsAt w W' D :=
  ⟨(hb.block _ h.box.lt).trans h.box, h.bel.trans (hb.mono h.bel.size), (hb.block D (Array.getElem?_eq_some_iff.1 h.dd).1).trans h.dd, h.dlt⟩
theorem INewsAt.tab {w W : World} {D : Nat} (h : INewsAt w W D) (hT : Tab w) : Tab W := hT.below h.bel hT.pos
theorem boxed_b {w w' : World} {b : Nat} {t : TypeId} {v : Value} (h : Boxed w b t v) (hb : Below w.heap.size w w') : Boxed w' b t v := (hb.block b h.lt).trans h
set_option maxRecDepth 100000 in
set_option maxHeartbeats 8000000 in
theorem inews_walk (a p : Int) (w : World) (hT : Tab w) :
    Calls Tryd.prog 3 #[.int .i64 a, .int .i64 p] w fun e w' => e = .returned (.bool true) ∧ Below w.heap.size w w' := by
  have h0 := hT.pos
  have hb0 := (Below.refl w.heap.size w).alloc (Nat.le_refl _) (.cells #[.bool false] 4)
  have T0 := hT.below hb0 hT.pos
  have AL := Lib.hid (ialive_any _ T0)
  have HR := Lib.hid (Boxed.new w 4 (.bool false))
  have HB0 := Lib.hid hb0
  clear hb0 T0
  refine (callsIn_wide (n := 4)).1 ?_
  refine callsIn_of_wp_marks Tryd.func3 rfl trivial ?_ rfl
  simp only [Tryd.ntmps3, List.size_toArray, List.length_cons, List.length_nil, Nat.reduceAdd, Nat.reduceSub, Array.replicate_succ, Array.replicate_zero, List.push_toArray, List.append_toArray, List.nil_append, List.cons_append]
  gi_wp2_with fail
  refine ⟨trivial, ?_⟩
  refine (callsIn_wide.2 AL.out).mono ?_
  rintro e w1 ⟨rfl, hb1⟩
  have HB1 := Lib.hid hb1
  clear hb1 AL
  gi_wp2_with fail
  refine ⟨trivial, ?_⟩
  refine (callsIn_wide.2 (imake_nil a _ 1 0 0 rfl _)).mono ?_
  rintro e w2 ⟨rfl, hb2⟩
  have HB2 := Lib.hid (HB1.out.trans (hb2.mono HB1.out.size))
  clear hb2 HB1
  gi_wp2_with fail
  refine ⟨trivial, ?_⟩
  refine (callsIn_wide.2 (iat_nil a _)).mono ?_
  rintro e w3 ⟨rfl, hb3⟩
  have HB3 := Lib.hid (HB2.out.trans ((hb3.alloc hb3.size (.cells #[.int .i64 0, .int .i64 0, .int .i64 0] 28)).mono HB2.out.size))
  clear hb3 HB2
  gi_wp2_with fail
  refine ⟨trivial, ?_⟩
  refine (callsIn_wide.2 (imove_nil a p _)).mono ?_
  rintro e w4 ⟨rfl, hb4⟩
  have HB4 := Lib.hid (HB3.out.trans (hb4.mono HB3.out.size))
  clear hb4 HB3
  gi_wp2_with fail
  refine ⟨trivial, ?_⟩
  refine (callsIn_wide.2 (iload_nil a p _)).mono ?_
  rintro e w4' ⟨rfl, rfl⟩
  gi_wp2_with fail
  refine ⟨trivial, ?_⟩
  refine (callsIn_wide.2 (ifollow_nil a p _)).mono ?_
  rintro e w5 ⟨rfl, hb5⟩
  have HB5 := Lib.hid (HB4.out.trans ((hb5.alloc hb5.size (.cells #[.int .i64 0, .int .i64 0, .int .i64 0] 38)).mono HB4.out.size))
  obtain ⟨W5, hW5⟩ : ∃ W5, W5 = w5.alloc (.cells #[.int .i64 0, .int .i64 0, .int .i64 0] 38) := ⟨_, rfl⟩
  rw [← hW5] at HB5
  have HW5 := Lib.hid hW5
  clear hb5 HB4 hW5
  gi_wp2_with fail
  refine ⟨trivial, ?_⟩
  rw [← HW5.out]
  refine (ilinks_in _ none a W5).mono ?_
  rintro e w6 ⟨rfl, rfl⟩
  have b1 : Boxed ((W5.alloc (.cells #[.pointer none] 23)).alloc (.cells #[.int .i64 a] 3)) W5.heap.size 23 (.pointer none) := (Boxed.new W5 _ _).alloc _
  have b2 : Boxed ((W5.alloc (.cells #[.pointer none] 23)).alloc (.cells #[.int .i64 a] 3)) (W5.heap.size + 1) 3 (.int .i64 a) := by
    have := Boxed.new (W5.alloc (.cells #[.pointer none] 23)) 3 (.int .i64 a)
    rwa [World.size_alloc] at this
  have hb6 : Below W5.heap.size W5 ((W5.alloc (.cells #[.pointer none] 23)).alloc (.cells #[.int .i64 a] 3)) := ((Below.refl _ _).alloc (Nat.le_refl _) _).alloc (by simp) _
  obtain ⟨W6, hW6⟩ : ∃ W6, W6 = (W5.alloc (.cells #[.pointer none] 23)).alloc (.cells #[.int .i64 a] 3) := ⟨_, rfl⟩
  rw [← hW6] at b1 b2 hb6
  have hBx := HB5.out.trans (hb6.mono HB5.out.size)
  have hBel : Below w.heap.size w W6 := HB0.out.trans (hBx.mono HB0.out.size)
  have hBox : Boxed W6 w.heap.size 4 (.bool false) := (hBx.block _ HR.out.lt).trans HR.out
  have HW6 := Lib.hid hW6
  clear hW6 hBx hb6 HB5
  gi_wp2_with fail
  rw [← HW6.out]
  refine wpIn_range_far (by decide) (gf := 31) (lb := #[.pointer (some ⟨W5.heap.size, 0, none⟩), .pointer (some ⟨W5.heap.size + 1, 0, none⟩)]) rfl (enters_of Tryd.func31 (by kernel_rfl) rfl)
    (links_none (encs := LkE.v) (Kp := fun _ _ => True) _ _ _ none a 1 0 0 0 0 [] W6 (by decide) b1 b2 (fun W _ => objectAt_nil a W)) (fun _ _ => trivial) (fun _ _ _ _ => trivial) (Below.refl _ _) ?hps
    (fun _ W => Boxed W w.heap.size 4 (.bool false) ∧ Below w.heap.size w W) (fun _ _ _ => False) (OwnFrom.and (Own.from (boxed_own _ _ _) _) (ownFrom_below (Nat.le_refl _) hBel.size)) (fun _ _ _ _ _ hs _ _ => hs) ⟨hBox, hBel⟩ (fun _ _ _ => True) (fun _ _ _ _ _ _ _ _ _ => trivial) ?assign ?body ?done ?stop
  case hps => intro x; rfl
  case assign =>
    intro l pre x W K hI hpre _
    have := hpre.length_le
    simp at this
  case body =>
    intro l pre x a' W _ _ hpre
    have := hpre.length_le
    simp at this
  case stop =>
    rintro D c pre W _ h _
    exact h.elim
  case done =>
    rintro D W hD ⟨hBx, hBl⟩ hK
    have hA : INewsAt w W D := ⟨hBx, hBl, hK, Nat.le_trans hBel.size hD⟩
    have HA := Lib.hid hA
    have CN : Calls Tryd.prog 13 #[.int .i64 1, .int .i64 1] W (SNewPost 1 1 W) := snew_ok 1 1 W (by decide) (by decide) (by decide) (by decide)
    have HN := Lib.hid CN
    clear hA hBx hBl hK hD hBel hBox b1 b2 HW5 HW6 HR HB0 CN
    gi_wp2_with fail
    refine ⟨trivial, ?_⟩
    refine (callsIn_wide.2 HN.out).mono ?_
    rintro e w7 ⟨B, rfl, -, hb7, -⟩
    have HA7 := Lib.hid (HA.out.later hb7)
    clear hb7 HA HN
    gi_wp2_with fail
    refine ⟨trivial, ?_⟩
    refine (callsIn_wide.2 (newBook_any w7)).mono ?_
    rintro e w8 ⟨rfl, rfl⟩
    have hA8 := HA7.out.later ((Below.refl _ _).alloc (Nat.le_refl _) (.cells #[.slice none 0 0] 99))
    obtain ⟨w8, hw8⟩ : ∃ w8, w8 = w7.alloc (.cells #[.slice none 0 0] 99) := ⟨_, rfl⟩
    rw [← hw8] at hA8
    have HA8 := Lib.hid hA8
    have AL := Lib.hid (ialive_any w8 (hA8.tab hT))
    have HW8 := Lib.hid hw8
    clear hA8 HA7 hw8
    gi_wp2_with fail
    refine ⟨trivial, ?_⟩
    refine (callsIn_wide.2 (inew_none _ _)).mono ?_
    rintro e w' ⟨rfl, rfl⟩
    gi_wp2_with fail
    refine ⟨trivial, ?_⟩
    refine (callsIn_wide.2 (inew_none2 _ _)).mono ?_
    rintro e w' ⟨rfl, rfl⟩
    rw [← HW8.out]
    gi_wp2_with fail
    refine ⟨trivial, ?_⟩
    refine (callsIn_wide.2 AL.out).mono ?_
    rintro e w9 ⟨rfl, hb9⟩
    have HA9 := Lib.hid (HA8.out.later hb9)
    clear hb9 AL HA8 HW8
    gi_wp2_with fail
    refine ⟨trivial, ?_⟩
    refine (callsIn_wide.2 (isave_nil a p 1 _)).mono ?_
    rintro e w' ⟨rfl, rfl⟩
    gi_wp2_with fail
    refine ⟨trivial, ?_⟩
    refine (callsIn_wide.2 (itie_nil a p 0 0 0 _)).mono ?_
    rintro e w10 ⟨rfl, hb10⟩
    have hA10 := HA9.out.later hb10
    have c0 := hA10.box.cell
    have f0 := hA10.box.frozen
    have HA10 := Lib.hid hA10
    clear hb10 hA10 HA9
    gi_wp2_with fail
    have hK2 := (KeepsOthers.setCell w10 ⟨w.heap.size, 0, none⟩ (.bool true)).same D _ HA10.out.dd rfl
    refine ⟨by simp, .inl ⟨_, _, rfl, run_takeDeferred hK2, ?_⟩⟩
    have hc1 : (w10.setCell ⟨w.heap.size, 0, none⟩ (.bool true)).cell? ⟨w.heap.size, 0, none⟩ = some (.bool true) := World.cell?_setCell_same' _ _ _ (by rw [HA10.out.box.cell]; rfl)
    have hc5 := cell_kept hc1 (grownBy_putObj' _ D (.deferred none)) (fun r e => by cases e; exact ⟨_, hK2, rfl⟩)
    refine ⟨.bool true, ?_, rfl, ?_⟩
    · simp [results, Tryd.f3, go_sem, hc5]
    · exact (HA10.out.bel.setCell (p := ⟨w.heap.size, 0, none⟩) (Nat.le_refl _) _).trans (belowK_b (w := w) (Nat.le_refl _) _ D _ _ HA10.out.dlt hK2 rfl rfl)
end Go.Proofs.YteneadimchhhhaaDoor
