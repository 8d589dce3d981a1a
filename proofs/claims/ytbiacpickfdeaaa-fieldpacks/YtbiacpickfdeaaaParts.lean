/- The contract of the law package's parts: the places and the widths of some fields. -/
import Derived.Test.YtbiacpickfdeaaaPack
import Derived.Test.YtbiacpickfdeaaaTwo
namespace Go.Proofs.Ytbiacpickfdeaaa
open Go.RowKit

theorem infoInt : (Try.prog.info? 3).map (fun i => (i.zero, i.size, i.bytes)) = some (some (.int .i64 0), 1, 8) := by kernel_rfl

def ints (l : List Int) : List Value := l.map (Value.int .i64)
theorem ints_snoc (l : List Int) (a : Int) : ints (l ++ [a]) = ints l ++ [.int .i64 a] := by simp [ints]
theorem ints_len (l : List Int) : (ints l).length = l.length := by simp [ints]

theorem take_next {α : Type} {l r : List α} {x : α} {k : Nat} (h : l.drop k = x :: r) : l.take (k + 1) = l.take k ++ [x] := by
  have : l[k]? = some x := by
    have h0 : (l.drop k)[0]? = some x := by rw [h]; rfl
    simpa using h0
  rw [List.take_add_one, this]
  rfl

def PartsPost (n : Nat) (fs : List (Int × Int)) (w : World) (e : Ending) (w' : World) : Prop :=
  ∃ u v, e = .returned (.tuple #[u, v]) ∧ Two w w.heap.size 3 3 1 1 u n (ints (fs.map (·.1))) v n (ints (fs.map (·.2))) w'

set_option maxRecDepth 100000 in
set_option maxHeartbeats 8000000 in
theorem parts_any (A : Option Addr) (n c : Nat) (fs : List (Int × Int)) (w : World) (hn : n ≤ 1000000) (hf : FS w w.heap.size A n fs) :
    Calls Try.prog 10 #[.slice A n c] w (PartsPost n fs w) := by
  obtain ⟨i0, hi, hz0, hz1, hz2⟩ := info_parts infoInt
  have HF := Lib.hid hf
  clear hf
  go_enter Try.func10, Try.ntmps10
  go_wp2
  go_loopw [4, 5, 10] (fun u v i wr => ∃ (k : Nat), k ≤ n ∧ i = .int .i64 k ∧ Two w w.heap.size 3 3 1 1 u k (ints ((fs.take k).map (·.1))) v k (ints ((fs.take k).map (·.2))) wr) (fun _ _ i _ => n - (intOf i).toNat)
  case atStart => exact ⟨0, Nat.zero_le _, rfl, World.ownsRow_nil _ _ _ _, World.ownsRow_nil _ _ _ _, (fun g h => by simp [Value.ownBlock] at h), Below.refl _ _, Nat.le_refl _⟩
  case round =>
    obtain ⟨k, hk, rfl, hT⟩ := hrel
    by_cases hlt : k < n
    · obtain ⟨b, off, a, d, rfl, hbB, hd, hc0, hc1⟩ := (HF.out.below hT.2.2.2.1).at_ hlt
      have HD := Lib.hid hd
      clear hd
      have hbs : w.heap.size ≤ wr.heap.size := hT.2.2.2.2
      have hua := fun g h => (hT.1.lt g h).2
      have hub := fun g h => (hT.2.1.lt g h).2
      have HT := Lib.hid hT
      have HUa := Lib.hid hua
      have HUb := Lib.hid hub
      clear hT hua hub
      go_wp2_with fail
      have hk6 : k ≤ 1000000 := by omega
      have h8 : 8 ≤ 1000 := by omega
      have h01 : 0 < 1 := by omega
      have ho1 : ∀ y ∈ (#[Value.int .i64 a] : Array Value).toList, y.oneCell' = true := by simp [Value.oneCell']
      have ho2 : ∀ y ∈ (#[Value.int .i64 d] : Array Value).toList, y.oneCell' = true := by simp [Value.oneCell']
      have HO1 := Lib.hid ho1
      have HO2 := Lib.hid ho2
      clear ho1 ho2
      go_region_held3 (fun w' => w'.cell? ⟨wr.heap.size, 0, none⟩ = some (.int .i64 a) ∧ w'.cell? ⟨wr.heap.size, 1, none⟩ = some (.int .i64 d))
        (first | go_keep | (have hX : Whole w1 wr.heap.size 24 #[.int .i64 a, .int .i64 d] := (by repeat (first | (with_reducible refine Whole.fresh' ?_; simp; done) | with_reducible refine Whole.drew ?_ | with_reducible refine Whole.alloc ?_ _ | with_reducible refine hwA _ _ _ (by omega) ?_ | with_reducible refine hwB _ _ _ (by omega) ?_)); exact ⟨(hX.cell 0).trans rfl, (hX.cell 1).trans rfl⟩) | (have hX : Whole w2 wr.heap.size 24 #[.int .i64 a, .int .i64 d] := (by repeat (first | (with_reducible refine Whole.fresh' ?_; simp; done) | with_reducible refine Whole.drew ?_ | with_reducible refine Whole.alloc ?_ _ | with_reducible refine hwA _ _ _ (by omega) ?_ | with_reducible refine hwB _ _ _ (by omega) ?_)); exact ⟨(hX.cell 0).trans rfl, (hX.cell 1).trans rfl⟩))
        (first
          | (refine step_first (u := u4) (m := k) (by rfl) (.tmp 14) (.tmp 17) _ (by rfl) i0 _ 8 Try.underlying26 hi hz0 hz1 hz2 rfl h01 (by rfl) _ (by rfl) #[.int .i64 a] rfl HO1.out hk6 h8 wr.heap.size HUa.out (by repeat (first | with_reducible exact HT.out | with_reducible assumption | with_reducible apply Two.drew | with_reducible apply Two.alloc)) (by repeat (first | (with_reducible refine Whole.fresh' ?_; simp; done) | with_reducible refine Whole.drew ?_ | with_reducible refine Whole.alloc ?_ _ | with_reducible refine hwA _ _ _ (by omega) ?_ | with_reducible refine hwB _ _ _ (by omega) ?_)) ?_; intro g cap w1 hT1 hsz1 hwA)
          | (refine step_second (v := u5) (n := k) (by rfl) (.tmp 19) (.tmp 22) _ (by rfl) i0 _ 8 Try.underlying26 hi hz0 hz1 hz2 rfl h01 (by rfl) _ (by rfl) #[.int .i64 d] rfl HO2.out hk6 h8 wr.heap.size HUb.out (by repeat (first | with_reducible exact HT.out | with_reducible assumption | with_reducible apply Two.drew | with_reducible apply Two.alloc)) (by repeat (first | (with_reducible refine Whole.fresh' ?_; simp; done) | with_reducible refine Whole.drew ?_ | with_reducible refine Whole.alloc ?_ _ | with_reducible refine hwA _ _ _ (by omega) ?_ | with_reducible refine hwB _ _ _ (by omega) ?_)) ?_; intro g2 cap2 w2 hT2 hsz2 hwB))
      all_goals
        have hT3 : Two w w.heap.size 3 3 1 1 (.slice (some ⟨g, 0, none⟩) (k + 1) cap) (k + 1) (ints ((fs.take (k + 1)).map (·.1))) (.slice (some ⟨g2, 0, none⟩) (k + 1) cap2) (k + 1) (ints ((fs.take (k + 1)).map (·.2))) w2 := by
          rw [take_next HD.out, List.map_append, List.map_append]
          simpa [ints] using hT2
        clear hwA hwB hT1 hT2
        go_wp2
        go_roundw
        case rel => exact ⟨k + 1, by omega, by go_num, hT3⟩
        case measure => simp [intOf]; omega
    · go_wp2
      go_ret2
      have hl := HF.out.1
      obtain rfl : k = n := by omega
      rw [List.take_of_length_le (by omega)] at hT
      exact ⟨_, _, rfl, hT⟩
end Go.Proofs.Ytbiacpickfdeaaa
