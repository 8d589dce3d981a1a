/- The iterator of (*Table).All, of no table. -/
import Derived.Test.YtldlolgdglmocaaDoorTbNil
import Derived.Test.YtldlolgdglmocaaDoorBmIter
namespace Go.Proofs.YtldlolgdglmocaaDoor
open Go.RowKit Go.Shelf
attribute [local go_sem] Oper.semAt_some

/-- A token and its entry, as All tells them. -/
structure TE where
  i : Int
  g : Int
  e : En
def TE.v (x : TE) : Array Value := #[.agg #[.int .i64 x.i, .int .i64 x.g], .agg #[.int .i64 x.e.a, .int .i64 x.e.r, .bool x.e.h, .bool x.e.p]]
set_option maxHeartbeats 1000000 in
theorem tall_in (n : Nat) (p0 : Option Addr) (w : World) :
    CallsIn Fence.wide n Tryd.prog 17 #[.pointer p0] w fun e w' => e = .returned (.func (.func 35) #[] #[.pointer (some ⟨w.heap.size, 0, none⟩)]) ∧ w.alloc (.cells #[.pointer p0] 23) = w' := by
  refine callsIn_of_wp Tryd.func17 rfl trivial ?_ rfl
  simp only [Tryd.ntmps17, List.size_toArray, List.length_cons, List.length_nil, Nat.reduceAdd, Nat.reduceSub, Array.replicate_succ, Array.replicate_zero, List.push_toArray, List.append_toArray, List.nil_append, List.cons_append]
  gi_wp2
  go_ret
  exact ⟨rfl, rfl⟩
set_option maxRecDepth 100000 in
set_option maxHeartbeats 1000000 in
theorem tall_nil (n Bn : Nat) (w : World) (hB : Boxed w Bn 23 (.pointer none)) :
    SeqStopsK Fence.wide n Tryd.prog 35 #[.pointer (some ⟨Bn, 0, none⟩)] TE.v (fun _ _ => True) (fun ys => ys = []) (fun _ => True) 0 w := fun l J Jx W hW hJ _ _ h0 => by
  have hB1 : Boxed W Bn 23 (.pointer none) := (hW.block Bn hB.lt).trans hB
  have c0 := (hB1.alloc (.cells #[.func (.yield l) #[] #[]] 82)).cell
  have h1 : J [] (W.alloc (.cells #[.func (.yield l) #[] #[]] 82)) := hJ [] W _ none h0 (World.grownBy_alloc W _ none) (fun r e => by cases e)
  have H1 := Lib.hid h1
  clear h1
  refine callsIn_of_wp Tryd.func35 rfl trivial ?_ rfl
  simp only [Tryd.ntmps35, List.size_toArray, List.length_cons, List.length_nil, Nat.reduceAdd, Nat.reduceSub, Array.replicate_succ, Array.replicate_zero, List.push_toArray, List.append_toArray, List.nil_append, List.cons_append]
  gi_wp2
  refine bodyPost_ret (results_none rfl _ _ _) rfl ?_
  exact ⟨⟨_, rfl⟩, .inl H1.out⟩
end Go.Proofs.YtldlolgdglmocaaDoor
