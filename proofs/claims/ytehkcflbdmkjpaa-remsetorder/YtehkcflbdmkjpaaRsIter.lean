/- maps.Keys over references; its iterator. -/
import Derived.Test.YtehkcflbdmkjpaaRsLeaf
import Derived.Sort.MapsRangeIn
import Derived.RangeFuncNested
import Derived.RangeFuncBound
import Derived.Shelf.RegionOpen
import Derived.OwnWalkIn
import Derived.TacticsInMore
import Derived.RegionIn
import Derived.LoopNIn
import Derived.LoopIn
namespace Go.Proofs.Ytehkcflbdmkjpaa
open Go.RowKit Go.Maps Go.Sort Go.Shelf

/-- A group's map, or nil: these references. -/
def InV (w : World) (o : Option Nat) (l : List RM.R) : Prop := (o = none ∧ l = []) ∨ ∃ k, o = some k ∧ InMap w k l
/-- The references met so far. -/
def CollR (D0 : DataW Unit) (left : Lit → Bool) (ss : List RM.R) : Prop := ss.Nodup ∧ ∀ x, x ∈ ss ↔ (RefOk x ∧ has D0 (refL x) = true ∧ left (refL x) = false)
section
variable {D0 : DataW Unit} {left : Lit → Bool} {ss l : List RM.R}
theorem CollR.start (D0 : DataW Unit) : CollR D0 (has D0) [] := ⟨List.nodup_nil, fun x => by cases has D0 (refL x) <;> simp⟩
theorem CollR.step (h : CollR D0 left ss) {x : RM.R} (hx : RefOk x) {y : DataW Unit} (hlk : left (refL x) = true) (hat : ∀ zd, D0.atKey (refL x) zd = y) : CollR D0 (fun z => left z && !z.sameKey (refL x)) (ss ++ [x]) := by
  have hhas : has D0 (refL x) = true := has_true_of_atKey hat
  have hnew : x ∉ ss := fun hx' => by have := ((h.2 x).1 hx').2.2; rw [hlk] at this; cases this
  refine ⟨List.nodup_append.2 ⟨h.1, by simp, fun a ha b hb => by simp at hb; subst hb; exact fun e => hnew (e ▸ ha)⟩, fun y => ?_⟩
  by_cases hy : y = x
  · subst hy
    simp only [List.mem_append, List.mem_singleton, or_true, true_iff]
    exact ⟨hx, hhas, by simp [WideAt.sameKey_self (refL_key y)]⟩
  · rw [List.mem_append, List.mem_singleton, h.2 y]
    constructor
    · rintro (⟨h1, h2, h3⟩ | h)
      · exact ⟨h1, h2, by simp [h3]⟩
      · exact (hy h).elim
    · rintro ⟨h1, h2, h3⟩
      refine .inl ⟨h1, h2, ?_⟩
      cases hl : left (refL y)
      · rfl
      · have hs : (refL y).sameKey (refL x) = true := by simpa [hl] using h3
        exact absurd (refL_inj h1 hx (WideAt.sameKey_eq hs)) hy
theorem CollR.perm (h : CollR D0 left ss) (hD : RefD D0 l) (hl : ∀ kl, left kl = false) : ss.Perm l := by
  refine (List.perm_ext_iff_of_nodup h.1 hD.once).2 fun x => ?_
  rw [h.2 x]
  constructor
  · rintro ⟨h1, h2, _⟩
    rw [hD.has x h1] at h2
    simpa using h2
  · intro hx
    have hk := hD.ok x hx
    exact ⟨hk, by rw [hD.has x hk]; simpa using hx, hl _⟩
end

theorem rkeys_in (o : Option Nat) (w : World) : CallsIn Fence.wide 5 Try.prog 30 #[.map o] w fun e w' =>
    e = .returned (.func (.func 34) #[] #[.pointer (some ⟨w.heap.size, 0, none⟩)]) ∧ w' = w.alloc (.cells #[.map o] 58) := by
  refine callsIn_of_wp Try.func30 rfl trivial ?_ rfl
  simp only [Try.ntmps30, List.size_toArray, List.length_cons, List.length_nil, Nat.reduceAdd, Nat.reduceSub, Array.replicate_succ, Array.replicate_zero, List.push_toArray, List.append_toArray, List.nil_append, List.cons_append]
  gi_wp2
  go_ret
  exact ⟨rfl, rfl⟩

set_option maxRecDepth 100000 in
set_option maxHeartbeats 1000000 in
theorem rkeys1_nil (n l Bm : Nat) (J : List RM.R → World → Prop) (W : World) (hJ : AbidesFrom W.heap.size J) (hm : W.cell? ⟨Bm, 0, none⟩ = some (.map none)) (h0 : J [] W) :
    CallsIn Fence.wide n Try.prog 34 #[.func (.yield l) #[] #[], .pointer (some ⟨Bm, 0, none⟩)] W fun e W' => (∃ v, e = .returned v) ∧ J [] W' := by
  refine callsIn_of_wp Try.func34 rfl trivial ?_ rfl
  simp only [Try.ntmps34, List.size_toArray, List.length_cons, List.length_nil, Nat.reduceAdd, Nat.reduceSub, Array.replicate_succ, Array.replicate_zero, List.push_toArray, List.append_toArray, List.nil_append, List.cons_append]
  have hrg := run_range_nilMap (P := Try.prog) W 58 24 4 Try.underlying58
  have hnx : ∀ ty, (Instr.next (.pointer (some ⟨W.heap.size, 0, none⟩)) false ty).run Try.prog (W.alloc (.mapIter none 0 #[] 0)) = _ := fun ty => run_next_nilMap _ ty 0 0 #[]
  gi_wp2
  refine wpIn_loop_rounds 1 ?_
  rw [roundsIn_succ]
  gi_wp2
  go_end0
  exact ⟨⟨_, rfl⟩, hJ [] W _ none h0 (World.grownBy_alloc W _ none) (fun r e => by cases e)⟩

set_option maxRecDepth 100000 in
set_option maxHeartbeats 1000000 in
theorem rkeys1_some (n : Nat) (hn : 1 ≤ n) (l Bm b : Nat) (D0 : DataW Unit) (rs : List RM.R) (hD : RefD D0 rs) (J Jx : List RM.R → World → Prop)
    (hY : ∀ pre x W, J pre W → pre.length < rs.length → YieldAt Fence.wide (n - 1) Try.prog l #[refV x] W fun e W' => (e = .returned (.bool true) ∧ J (pre ++ [x]) W' ∧ KeepsWalks W W') ∨ (e = .returned (.bool false) ∧ Jx (pre ++ [x]) W'))
    (W : World) (hJ : AbidesFrom W.heap.size J) (hm : W.cell? ⟨Bm, 0, none⟩ = some (.map (some b))) (hown : W.ownsMap Try.prog 24 (plainElem Try.prog 4) b (Maps.size D0) D0) (h0 : J [] W) :
    CallsIn Fence.wide n Try.prog 34 #[.func (.yield l) #[] #[], .pointer (some ⟨Bm, 0, none⟩)] W fun e W' => (∃ v, e = .returned v) ∧
      ((∃ ss : List RM.R, ss.Perm rs ∧ J ss W') ∨ (∃ pre : List RM.R, True ∧ Jx pre W')) := by
  have HS := Lib.hid (hD.size hown)
  refine callsIn_of_wp Try.func34 rfl trivial ?_ rfl
  simp only [Try.ntmps34, List.size_toArray, List.length_cons, List.length_nil, Nat.reduceAdd, Nat.reduceSub, Array.replicate_succ, Array.replicate_zero, List.push_toArray, List.append_toArray, List.nil_append, List.cons_append]
  gi_wp2_with (first
    | (gi_at_range; refine wpListIn_range_own _ rfl _ 58 rfl 24 4 law_ref Try.underlying58 _ b (Maps.size D0) _ rfl hown ?_; intro w0 hrg0 hg0 hs0)
    | gi_in)
  go_frame
  gi_loopw [3] (fun _ wr => ∃ (left : Lit → Bool) (cnt : Nat) (ss : List RM.R), wr.ranges Try.prog 24 (plainElem Try.prog 4) b W.heap.size (Maps.size D0) D0 left cnt ∧ ss.length + cnt ≤ Maps.size D0 ∧ CollR D0 left ss ∧ J ss wr)
    (fun _ wr => wr.rangeLeft b W.heap.size)
  case atStart =>
    exact ⟨_, _, [], hrg0, by simp, CollR.start D0, hJ [] W w0 none h0 hg0 (fun r e => by cases e)⟩
  case round =>
    obtain ⟨left, cnt, ss, hrg, hcs, hC, hJs⟩ := hrel
    gi_wp2_with (first
      | (gi_at_next; refine wpListIn_next_ranges _ rfl _ rfl 24 law_ref (plainElem Try.prog 4) refV id (fun key kl hk => by obtain ⟨x, hx, _⟩ := key_ref_inv hk; exact ⟨x, hx⟩) (fun v _ _ => ⟨v, rfl⟩) b W.heap.size (Maps.size D0) _ _ _ rfl hrg ?_ ?_)
      | gi_in)
    · intro hc0 hl0
      gi_wp2
      go_end0
      exact ⟨⟨_, rfl⟩, .inl ⟨ss, hC.perm hD hl0, hJs⟩⟩
    · intro x1 x2 c kl yd yp w2 cnt2 hkey hlk hv hat hrg2 hlt hg2 hs2 hen
      obtain ⟨x', ex, rfl, hxo⟩ := key_ref_inv hkey
      obtain rfl := refV_inj ex
      have hJ2 : J ss w2 := hJ ss wr w2 (some W.heap.size) hJs hg2 (fun r e => by cases e; exact ⟨Nat.le_refl _, hrg.iter_walk⟩)
      have hJ3 : J ss (w2.alloc (.cells #[.int .i64 x1, .int .i64 x2] 24)) := hJ ss w2 _ none hJ2 (World.grownBy_alloc w2 _ none) (fun r e => by cases e)
      obtain ⟨fn, tmps, assign, body, hy, hR⟩ := hY ss (x1, x2) _ hJ3 (by have := HS.out; omega)
      have hk2 : KeepsWalks w2 (w2.alloc (.cells #[.int .i64 x1, .int .i64 x2] 24)) := KeepsWalks.alloc _ _
      unfold refV at hen hy
      have hC2 := hC.step hxo hlk hat
      clear hs2 hJ2 hJ3
      gi_wp2
      refine hR.mono ?_
      rintro e W3 (⟨rfl, hJ3, hk3⟩ | ⟨rfl, hJx3⟩)
      · gi_wp2
        have hrg3 := hrg2.of_walks (hk2.trans hk3)
        go_roundw
        case rel => exact ⟨_, cnt2, ss ++ [(x1, x2)], hrg3, by simp; omega, hC2, hJ3⟩
        case measure => rw [hrg3.left_eq, hrg.left_eq]; exact hlt
      · gi_wp2
        refine bodyPost_ret (results_none rfl _ _ _) rfl ?_
        exact ⟨⟨_, rfl⟩, .inr ⟨_, trivial, hJx3⟩⟩

/-- maps.Keys hands back an iterator over a group's references, each once, in some order. -/
theorem rkeys_stops (n : Nat) (hn : 1 ≤ n) (Bm : Nat) (o : Option Nat) (l : List RM.R) (w : World) (hBm : Bm < w.heap.size) (hm : w.cell? ⟨Bm, 0, none⟩ = some (.map o)) (hV : InV w o l) :
    SeqStopsK Fence.wide n Try.prog 34 #[.pointer (some ⟨Bm, 0, none⟩)] (fun r : RM.R => #[refV r]) KeepsWalks (fun ss => ss.Perm l) (fun _ => True) l.length w := by
  intro li J Jx W hW hJ _ hY h0
  have hm' : W.cell? ⟨Bm, 0, none⟩ = some (.map o) := (hW.cell (p := ⟨Bm, 0, none⟩) hBm).trans hm
  rcases hV with ⟨rfl, rfl⟩ | ⟨k, rfl, D, hown, hD⟩
  · refine (rkeys1_nil n li Bm J W hJ hm' h0).mono ?_
    rintro e W' ⟨hv, hj⟩
    exact ⟨hv, .inl ⟨[], List.Perm.refl _, hj⟩⟩
  · exact rkeys1_some n hn li Bm k D l hD J Jx hY W hJ hm' (own_keep hown (hW.block k hown.lt)) h0
end Go.Proofs.Ytehkcflbdmkjpaa
