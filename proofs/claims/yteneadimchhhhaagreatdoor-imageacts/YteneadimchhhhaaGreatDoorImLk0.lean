/- Links of images: the function that it hands out; its iterator where At answers an error. -/
import Derived.Test.YteneadimchhhhaaGreatDoorMgImObj
import Derived.Test.YteneadimchhhhaaGreatDoorAdLaw
namespace Go.Proofs.YteneadimchhhhaaGreatDoor
open Go.RowKit Go.Shelf
attribute [local go_sem] Oper.semAt_some

theorem ilinks_in (n : Nat) (p0 : Option Addr) (a : Int) (w : World) :
    CallsIn Fence.wide n Tryz.prog 11 #[.pointer p0, .int .i64 a] w fun e w' => e = .returned (.func (.func 40) #[] #[.pointer (some ⟨w.heap.size, 0, none⟩), .pointer (some ⟨w.heap.size + 1, 0, none⟩)]) ∧ (w.alloc (.cells #[.pointer p0] 27)).alloc (.cells #[.int .i64 a] 3) = w' := by
  refine callsIn_of_wp Tryz.func11 rfl trivial ?_ rfl
  simp only [Tryz.ntmps11, List.size_toArray, List.length_cons, List.length_nil, Nat.reduceAdd, Nat.reduceSub, Array.replicate_succ, Array.replicate_zero, List.push_toArray, List.append_toArray, List.nil_append, List.cons_append]
  gi_wp2
  go_ret
  exact ⟨rfl, rfl⟩
/-- A reference, as Links tells it. -/
structure LkE where
  p : Int
  K : Int
  I : Int
  G : Int
def LkE.v (x : LkE) : Array Value := #[.int .i64 x.p, .agg #[.int .i64 x.K, .int .i64 x.I, .int .i64 x.G]]
/-- The iterator tells nothing where objectAt answers an error. -/
theorem links_none {α : Type} {encs : α → Array Value} {Kp : World → World → Prop} (n b1 b2 : Nat) (P : Option Addr) (a E L C S N : Int) (D : List LD) (w : World) (hE : E ≠ 0) (hB1 : Boxed w b1 27 (.pointer P)) (hB2 : Boxed w b2 3 (.int .i64 a))
    (HO : ∀ W, Below w.heap.size w W → Calls Tryz.prog 37 #[.pointer P, .int .i64 a] W (ObjIs D L C S N E W)) : SeqOwn n Tryz.prog 40 #[.pointer (some ⟨b1, 0, none⟩), .pointer (some ⟨b2, 0, none⟩)] encs Kp [] w := fun l J Jx W hW _ hJ _ _ h0 => by
  have hd : (E != 0) = true := by simpa using hE
  have hB1' : Boxed W b1 27 (.pointer P) := (hW.block b1 hB1.lt).trans hB1
  have hB2' : Boxed W b2 3 (.int .i64 a) := (hW.block b2 hB2.lt).trans hB2
  have c1 := (hB1'.alloc (.cells #[.func (.yield l) #[] #[]] 102)).cell
  have c2 := (hB2'.alloc (.cells #[.func (.yield l) #[] #[]] 102)).cell
  have hb1 : Below W.heap.size W (W.alloc (.cells #[.func (.yield l) #[] #[]] 102)) := (Below.refl _ _).alloc (Nat.le_refl _) _
  have CO := HO _ (hW.trans (hb1.mono hW.size))
  have HC := Lib.hid CO
  have HB := Lib.hid hb1
  have HJ := Lib.hid (fun W' (hb : Below W.heap.size W W') => hJ [] W W' none h0 ⟨hb.os, hb.tape, hb.output, hb.size, fun k hk _ => hb.block k hk⟩ (fun r e => by cases e))
  clear CO hb1 hE
  refine callsIn_of_wp_marks Tryz.func40 rfl trivial ?_ rfl
  simp only [Tryz.ntmps40, List.size_toArray, List.length_cons, List.length_nil, Nat.reduceAdd, Nat.reduceSub, Array.replicate_succ, Array.replicate_zero, List.push_toArray, List.append_toArray, List.nil_append, List.cons_append]
  gi_wp2_with fail
  refine ⟨trivial, fun h => (by cases h), ?_⟩
  refine (callsIn_wide.2 HC.out).mono ?_
  rintro e w2 ⟨k, rfl, -, hb2⟩
  have hb3 := HB.out.trans ((hb2.alloc hb2.size (.cells #[.int .i64 L, .int .i64 C, .int .i64 S, .int .i64 k.F, .slice k.A k.n k.c, .int .i64 k.R, .slice k.D k.m k.d, .int .i64 N] 96)).mono HB.out.size)
  have HJ3 := Lib.hid (HJ.out _ hb3)
  clear hb2 hb3 HJ HC
  gi_wp2_with fail
  exact ⟨_, results_none rfl _ _ _, ⟨_, rfl⟩, .inl HJ3.out⟩
end Go.Proofs.YteneadimchhhhaaGreatDoor
