/- The iterator of (*Map).All: it tells the places that are on, rising, while the map stays. -/
import Derived.Test.YtldlolgdglmocaaDoorBmRow
import Derived.RangeFuncNested
import Derived.RangeFuncBound
import Derived.RangeFuncCalls
import Derived.RangeFuncLeaves
import Derived.RangeFuncBox
import Derived.Shelf.Abstract
import Derived.Shelf.RegionOpen
import Derived.OwnWalkIn
import Derived.TacticsInMore
import Derived.LoopNIn
import Derived.LoopIn
namespace Go.Proofs.YtldlolgdglmocaaDoor
open Go.RowKit Go.Shelf
attribute [local go_sem] Oper.semAt_some

/-- What a round that goes on keeps: what lay below n, and the box that the iterator has captured. -/
def Kq (n Bn : Nat) (p0 : Option Addr) (W W' : World) : Prop := Below n W W' ∧ (Boxed W Bn 62 (.pointer p0) → Boxed W' Bn 62 (.pointer p0))

theorem ons_lt (f : Nat → Bool) (n p : Nat) (hp : p < n) (h : f p = true) : (BM.ons f p).length < (BM.ons f n).length := by
  rw [BM.ons_len, BM.ons_len]
  obtain ⟨d, rfl⟩ : ∃ d, n = (p + 1) + d := ⟨n - (p + 1), by omega⟩
  rw [BM.cnt_add, BM.cnt, h]
  simp
  omega

/-- Where the iterator's loop stands. -/
def IterAt (n₀ Bn b c N : Nat) (ws : Nat → Nat) (J : List Nat → World → Prop) (x : Value) (wr : World) : Prop :=
  ∃ p : Nat, p ≤ N ∧ x = .int .i64 p ∧ (p < N → BM.on ws p = true) ∧ J (BM.ons (BM.on ws) p) wr ∧ Boxed wr Bn 62 (.pointer (some ⟨b, 0, none⟩)) ∧ MapAt wr b c N ws ∧ Tab wr ∧ b < n₀ ∧ c < n₀

set_option maxRecDepth 100000 in
set_option maxHeartbeats 1000000 in
theorem all1_in (n : Nat) (hn : 1 ≤ n) (l Bn n₀ b c N : Nat) (ws : Nat → Nat) (J Jx : List Nat → World → Prop)
    (hY : ∀ pre x W, x < N → BM.on ws x = true → pre = BM.ons (BM.on ws) x → J pre W → pre.length < (BM.ons (BM.on ws) N).length → YieldAt Fence.wide (n - 1) Tryd.prog l #[.int .i64 (x : Nat)] W fun e W' =>
      (e = .returned (.bool true) ∧ J (pre ++ [x]) W' ∧ Kq n₀ Bn (some ⟨b, 0, none⟩) W W') ∨ (e = .returned (.bool false) ∧ Jx (pre ++ [x]) W'))
    (W : World) (hB : Boxed W Bn 62 (.pointer (some ⟨b, 0, none⟩))) (hM : MapAt W b c N ws) (hT : Tab W) (hb : b < n₀) (hc : c < n₀) (h0 : J [] W) :
    CallsIn Fence.wide n Tryd.prog 41 #[.func (.yield l) #[] #[], .pointer (some ⟨Bn, 0, none⟩)] W fun e W' => (∃ v, e = .returned v) ∧
      ((∃ ys, ys = BM.ons (BM.on ws) N ∧ J ys W') ∨ (∃ pre, True ∧ Jx pre W')) := by
  have HY := Lib.hid hY
  clear hY
  have h1 := hM.n1
  have h2 := hM.n2
  have c0 := hB.cell
  have c1 := hM.len
  have hle := BM.nx_le (BM.on ws) N true 0
  refine callsIn_of_wp Tryd.func41 rfl trivial ?_ rfl
  simp only [Tryd.ntmps41, List.size_toArray, List.length_cons, List.length_nil, Nat.reduceAdd, Nat.reduceSub, Array.replicate_succ, Array.replicate_zero, List.push_toArray, List.append_toArray, List.nil_append, List.cons_append]
  gi_wp2_with (first
    | (refine ⟨trivial, ?_⟩; gi_at_call 39; refine (callsIn_wide.2 (next_any b c N 0 ws true _ hM hT (by omega))).mono ?_; rintro e w' ⟨rfl, rfl⟩)
    | (gi_at_call 39; refine (callsIn_wide.2 (next_any b c N 0 ws true _ hM hT (by omega))).mono ?_; rintro e w' ⟨rfl, rfl⟩))
  gi_loopw [3] (IterAt n₀ Bn b c N ws J) (fun x _ => N - (intOf x).toNat)
  case atStart =>
    refine ⟨_, BM.nx_le _ _ _ _, rfl, fun h => (BM.nx_is _ _ _ _ h).2, ?_, hB, hM, hT, hb, hc⟩
    rw [BM.ons_skip _ 0 _ (by omega) (fun q a h => by simpa using BM.nx_not (BM.on ws) N true 0 q a h)]
    exact h0
  case round =>
    clear hB hM hT c0 c1 hb hc
    obtain ⟨p, hp, rfl, hon, hJ, hB, hM, hT, hb, hc⟩ := hrel
    have c0 := hB.cell
    have c1 := hM.len
    by_cases hlt : p < N
    · have hf := hon hlt
      have hlen := ons_lt (BM.on ws) N p hlt hf
      have hys := BM.ons_yes (BM.on ws) p hf
      have HS := Lib.hid hys
      obtain ⟨fn, tmps, assign, body, hy, hR⟩ := HY.out _ p wr hlt hf rfl hJ hlen
      clear hon hf hys
      gi_wp2_with (first
        | (refine ⟨trivial, ?_⟩; gi_at_call 38; refine (callsIn_wide.2 (len_any b N _ c1)).mono ?_; rintro e w' ⟨rfl, rfl⟩)
        | (gi_at_call 38; refine (callsIn_wide.2 (len_any b N _ c1)).mono ?_; rintro e w' ⟨rfl, rfl⟩))
      refine hR.mono ?_
      rintro e W3 (⟨rfl, hJ3, hk3⟩ | ⟨rfl, hJx3⟩)
      · have hB3 := hk3.2 hB
        have hM3 := hM.below hk3.1 hb hc
        have hT3 := hT.below hk3.1 (by omega)
        have c3 := hB3.cell
        have nx1 := next_any b c N (p + 1) ws true W3 hM3 hT3 (by omega)
        rw [show ((p + 1 : Nat) : Int) = (p : Int) + 1 by omega] at nx1
        have NX := Lib.hid nx1
        clear nx1
        have hge := BM.nx_ge (BM.on ws) N true (p + 1) (by omega)
        have hle1 := BM.nx_le (BM.on ws) N true (p + 1)
        have HK := Lib.hid hk3
        clear hk3
        gi_wp2_with (first
          | (refine ⟨trivial, ?_⟩; gi_at_call 39; refine (callsIn_wide.2 NX.out).mono ?_; rintro e w' ⟨rfl, rfl⟩)
          | (gi_at_call 39; refine (callsIn_wide.2 NX.out).mono ?_; rintro e w' ⟨rfl, rfl⟩))
        go_roundw
        case rel =>
          refine ⟨_, hle1, rfl, fun h => (BM.nx_is _ _ _ _ h).2, ?_, hB3, hM3, hT3, hb, hc⟩
          rw [BM.ons_skip _ (p + 1) _ hge (fun q a h => by simpa using BM.nx_not (BM.on ws) N true (p + 1) q a h), HS.out]
          exact hJ3
        case measure => simp [intOf]; omega
      · gi_wp2
        refine bodyPost_ret (results_none rfl _ _ _) rfl ?_
        exact ⟨⟨_, rfl⟩, .inr ⟨_, trivial, hJx3⟩⟩
    · obtain rfl : p = N := by omega
      gi_wp2_with (first
        | (refine ⟨trivial, ?_⟩; gi_at_call 38; refine (callsIn_wide.2 (len_any b p _ c1)).mono ?_; rintro e w' ⟨rfl, rfl⟩)
        | (gi_at_call 38; refine (callsIn_wide.2 (len_any b p _ c1)).mono ?_; rintro e w' ⟨rfl, rfl⟩))
      go_end0
      exact ⟨⟨_, rfl⟩, .inl ⟨_, rfl, hJ⟩⟩
set_option maxRecDepth 100000 in
set_option maxHeartbeats 1000000 in
theorem all1_nil (n : Nat) (hn : 1 ≤ n) (l Bn : Nat) (J : List Nat → World → Prop) (W : World) (hB : Boxed W Bn 62 (.pointer none)) (h0 : J [] W) :
    CallsIn Fence.wide n Tryd.prog 41 #[.func (.yield l) #[] #[], .pointer (some ⟨Bn, 0, none⟩)] W fun e W' => (∃ v, e = .returned v) ∧ J [] W' := by
  have c0 := hB.cell
  refine callsIn_of_wp Tryd.func41 rfl trivial ?_ rfl
  simp only [Tryd.ntmps41, List.size_toArray, List.length_cons, List.length_nil, Nat.reduceAdd, Nat.reduceSub, Array.replicate_succ, Array.replicate_zero, List.push_toArray, List.append_toArray, List.nil_append, List.cons_append]
  gi_wp2_with (first
    | (refine ⟨trivial, ?_⟩; gi_at_call 39; refine (callsIn_wide.2 (next_nil _ _ _ (by omega))).mono ?_; rintro e w' ⟨rfl, rfl⟩)
    | (gi_at_call 39; refine (callsIn_wide.2 (next_nil _ _ _ (by omega))).mono ?_; rintro e w' ⟨rfl, rfl⟩))
  gi_loopw [3] (fun x wr => x = .int .i64 0 ∧ wr = W) (fun _ _ => 0)
  case atStart => exact ⟨rfl, rfl⟩
  case round =>
    obtain ⟨rfl, rfl⟩ := hrel
    gi_wp2_with (first
        | (refine ⟨trivial, ?_⟩; gi_at_call 38; refine (callsIn_wide.2 (len_nil _)).mono ?_; rintro e w' ⟨rfl, rfl⟩)
        | (gi_at_call 38; refine (callsIn_wide.2 (len_nil _)).mono ?_; rintro e w' ⟨rfl, rfl⟩))
    go_end0
    exact ⟨⟨_, rfl⟩, h0⟩

set_option maxHeartbeats 1000000 in
theorem all_in (n : Nat) (p0 : Option Addr) (w : World) :
    CallsIn Fence.wide n Tryd.prog 36 #[.pointer p0] w fun e w' => e = .returned (.func (.func 41) #[] #[.pointer (some ⟨w.heap.size, 0, none⟩)]) ∧ w.alloc (.cells #[.pointer p0] 62) = w' := by
  refine callsIn_of_wp Tryd.func36 rfl trivial ?_ rfl
  simp only [Tryd.ntmps36, List.size_toArray, List.length_cons, List.length_nil, Nat.reduceAdd, Nat.reduceSub, Array.replicate_succ, Array.replicate_zero, List.push_toArray, List.append_toArray, List.nil_append, List.cons_append]
  gi_wp2
  go_ret
  exact ⟨rfl, rfl⟩

/-- What a range over All is handed: these places. -/
def Tells (n n₀ Bn : Nat) (p0 : Option Addr) (xs : List Nat) (w : World) : Prop :=
  SeqStopsK Fence.wide n Tryd.prog 41 #[.pointer (some ⟨Bn, 0, none⟩)] (fun x : Nat => #[Value.int .i64 (x : Nat)]) (Kq n₀ Bn p0) (fun ys => ys = xs) (fun _ => True) xs.length w
theorem all_tells (n : Nat) (hn : 1 ≤ n) (Bn n₀ b c N : Nat) (ws : Nat → Nat) (w : World) (hB : Boxed w Bn 62 (.pointer (some ⟨b, 0, none⟩))) (hn₀ : n₀ ≤ w.heap.size) (hM : MapAt w b c N ws) (hT : Tab w) (hb : b < n₀) (hc : c < n₀) :
    Tells n n₀ Bn (some ⟨b, 0, none⟩) (BM.ons (BM.on ws) N) w := fun l J Jx W hW _ _ hY h0 =>
  all1_in n hn l Bn n₀ b c N ws J Jx (fun pre x W1 _ _ _ => hY pre x W1) W ((hW.block Bn hB.lt).trans hB) (hM.below hW (by omega) (by omega)) (hT.below hW (by omega)) hb hc h0
theorem all_tells_nil (n : Nat) (hn : 1 ≤ n) (Bn n₀ : Nat) (w : World) (hB : Boxed w Bn 62 (.pointer none)) : Tells n n₀ Bn none [] w := fun l J _ W hW _ _ _ h0 =>
  (all1_nil n hn l Bn J W ((hW.block Bn hB.lt).trans hB) h0).mono fun _ _ ⟨h1, h2⟩ => ⟨h1, .inl ⟨[], rfl, h2⟩⟩
end Go.Proofs.YtldlolgdglmocaaDoor
