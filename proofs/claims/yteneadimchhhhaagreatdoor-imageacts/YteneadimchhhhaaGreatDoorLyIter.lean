/- The iterator that Slots hands out: it tells the places of references, in their order, while what it has captured stays. -/
import Derived.Test.YteneadimchhhhaaGreatDoorLySlots
import Derived.RangeFuncNested
import Derived.RangeFuncBound
import Derived.RangeFuncCalls
import Derived.RangeFuncLeaves
import Derived.RangeFuncBox
import Derived.Shelf.Abstract
import Derived.Shelf.RegionOpen
import Derived.OwnWalkIn
import Derived.TacticsInMore
import Derived.LoopNIn
import Derived.LoopIn
namespace Go.Proofs.YteneadimchhhhaaGreatDoor
open Go.RowKit Go.Shelf
attribute [local go_sem] Oper.semAt_some

theorem take_snoc_of_drop {α : Type} {xs : List α} {k : Nat} {x : α} (h : xs.drop k = x :: xs.drop (k + 1)) : xs.take (k + 1) = xs.take k ++ [x] := by
  have hx : xs[k]? = some x := by rw [← List.head?_drop, h]; rfl
  rw [List.take_add_one, hx]; rfl

theorem recs_len_le (F R : Int) (ys : List Int) {a b : Nat} (h : a ≤ b) : (LM.recs F R ys a).length ≤ (LM.recs F R ys b).length := by
  rw [LM.recs_len, LM.recs_len]
  exact Nat.mul_le_mul_right _ h

/-- How far the records' loop is, as a list. -/
def partRec (F R : Int) (xs ys : List Int) (j i : Nat) : List Int := LM.slots F R xs ys j ++ (ys.take i).map fun p => F + j * R + p
theorem partRec_zero (F R : Int) (xs ys : List Int) (j : Nat) : partRec F R xs ys j 0 = LM.slots F R xs ys j := by simp [partRec]
theorem partRec_all (F R : Int) (xs ys : List Int) (j i : Nat) (h : ys.length ≤ i) : partRec F R xs ys j i = LM.slots F R xs ys (j + 1) := by
  rw [LM.slots_succ, partRec, List.take_of_length_le h]
theorem partRec_snoc (F R : Int) (xs ys : List Int) (j i : Nat) (p : Int) (h : ys.drop i = p :: ys.drop (i + 1)) : partRec F R xs ys j (i + 1) = partRec F R xs ys j i ++ [F + j * R + p] := by
  simp [partRec, take_snoc_of_drop h]
theorem partRec_len (F R : Int) (xs ys : List Int) (j i c : Nat) (hj : j < c) (hi : i < ys.length) : (partRec F R xs ys j i).length < (LM.slots F R xs ys c).length := by
  have h1 : (j + 1) * ys.length ≤ c * ys.length := Nat.mul_le_mul_right _ hj
  rw [Nat.add_mul] at h1
  simp [partRec, LM.slots_len, Nat.min_eq_left (Nat.le_of_lt hi)]
  omega

/-- The first loop's place. -/
def It1 (lo hi bo bs : Nat) (F R : Int) (A : Option Addr) (n c : Nat) (xs : List Int) (D : Option Addr) (m d : Nat) (ys : List Int) (sz : Int) (J : List Int → World → Prop) (x : Value) (wr : World) : Prop :=
  ∃ k : Nat, k ≤ n ∧ x = .int .i64 k ∧ J (xs.take k) wr ∧ IterSt wr lo hi bo bs F R A n c xs D m d ys sz
/-- The records' loop's place. -/
def It2 (lo hi bo bs : Nat) (F R : Int) (A : Option Addr) (n c : Nat) (xs : List Int) (D : Option Addr) (m d : Nat) (ys : List Int) (sz : Int) (cnt : Nat) (J : List Int → World → Prop) (x : Value) (wr : World) : Prop :=
  ∃ (j : Nat) (st : Int), j ≤ cnt ∧ Hid (st = F + j * R) ∧ x = .int .i64 st ∧ J (LM.slots F R xs ys j) wr ∧ IterSt wr lo hi bo bs F R A n c xs D m d ys sz
/-- The inner loop's place. -/
def It3 (lo hi bo bs : Nat) (F R : Int) (A : Option Addr) (n c : Nat) (xs : List Int) (D : Option Addr) (m d : Nat) (ys : List Int) (sz : Int) (j : Nat) (J : List Int → World → Prop) (x : Value) (wr : World) : Prop :=
  ∃ i : Nat, i ≤ m ∧ x = .int .i64 i ∧ J (partRec F R xs ys j i) wr ∧ IterSt wr lo hi bo bs F R A n c xs D m d ys sz

/-- What a round leaves. -/
def RoundPost (lo hi : Nat) (J Jx : List Int → World → Prop) (pre : List Int) (x : Int) (W : World) (e : Ending) (W' : World) : Prop :=
  (e = .returned (.bool true) ∧ J (pre ++ [x]) W' ∧ Kept lo hi W W') ∨ (e = .returned (.bool false) ∧ Jx (pre ++ [x]) W')

set_option maxRecDepth 100000 in
set_option maxHeartbeats 2000000 in
theorem iter_in (q : Nat) (hq : 1 ≤ q) (l lo hi bo bs : Nat) (F R : Int) (A : Option Addr) (n c : Nat) (xs : List Int) (D : Option Addr) (m d : Nat) (ys : List Int) (cnt : Nat) (J Jx : List Int → World → Prop)
    (hn : n ≤ 1000000) (hm : m ≤ 1000000) (hF0 : 0 ≤ F) (hF1 : F ≤ 64) (hR0 : 0 ≤ R) (hR1 : R ≤ 64) (hsz : F + cnt * R ≤ 8192) (hz : R = 0 → cnt = 0) (hys : ∀ p ∈ ys, 0 ≤ p ∧ p < 64)
    (hY : ∀ pre x W, J pre W → pre.length < (LM.slots F R xs ys cnt).length → YieldAt Fence.wide (q - 1) Tryz.prog l #[.int .i64 x] W (RoundPost lo hi J Jx pre x W))
    (W : World) (hI : IterSt W lo hi bo bs F R A n c xs D m d ys (F + cnt * R)) (h0 : J [] W) :
    CallsIn Fence.wide q Tryz.prog 72 #[.func (.yield l) #[] #[], .pointer (some ⟨bo, 0, none⟩), .pointer (some ⟨bs, 0, none⟩)] W fun e W' => (∃ v, e = .returned v) ∧
      ((∃ zs, zs = LM.slots F R xs ys cnt ∧ J zs W') ∨ (∃ pre, True ∧ Jx pre W')) := by
  have HY := Lib.hid hY
  have HP := Lib.hid hys
  have HZ := Lib.hid hz
  clear hY hys hz
  obtain ⟨sz, he⟩ : ∃ sz, sz = F + (cnt : Int) * R := ⟨_, rfl⟩
  rw [← he] at hI hsz
  have hsF : F ≤ sz := by have := LM.mul_pos' cnt R hR0; omega
  have HE := Lib.hid he
  clear he
  have hs0 : 0 ≤ sz := by omega
  have c1 : W.cell? ⟨bo, 1, none⟩ = some (.slice A n c) := hI.box.cell 1
  refine callsIn_of_wp Tryz.func72 rfl trivial ?_ rfl
  simp only [Tryz.ntmps72, List.size_toArray, List.length_cons, List.length_nil, Nat.reduceAdd, Nat.reduceSub, Array.replicate_succ, Array.replicate_zero, List.push_toArray, List.append_toArray, List.nil_append, List.cons_append]
  gi_wp2
  gi_loopw [12] (It1 lo hi bo bs F R A n c xs D m d ys sz J) (fun x _ => n - (intOf x).toNat)
  case atStart => exact ⟨0, Nat.zero_le _, rfl, by simpa using h0, hI⟩
  case round =>
    clear c1 h0 hI
    obtain ⟨k, hk, rfl, hJ, hI⟩ := hrel
    by_cases hlt : k < n
    · obtain ⟨b, off, p, rfl, hbB, hd, hwf, hc⟩ := hI.lists.fst.ns.at_ hlt
      have hl := hI.lists.fst.len
      obtain ⟨fn, tmps, assign, body, hy, hR⟩ := HY.out _ p wr hJ (by rw [LM.slots_len, List.length_take, hl]; omega)
      have HD := Lib.hid hd
      have HI := Lib.hid hI
      clear hd hwf hl hI
      gi_wp2
      refine hR.mono ?_
      rintro e W3 (⟨rfl, hJ3, hk3⟩ | ⟨rfl, hJx3⟩)
      · gi_wp2
        go_roundw
        case rel => exact ⟨k + 1, by omega, by go_num, by rw [take_snoc_of_drop HD.out]; exact hJ3, HI.out.kept hk3⟩
        case measure => simp [intOf]; omega
      · gi_wp2
        refine bodyPost_ret (results_none rfl _ _ _) rfl ?_
        exact ⟨⟨_, rfl⟩, .inr ⟨_, trivial, hJx3⟩⟩
    · have hl := hI.lists.fst.len
      have c0 : wr.cell? ⟨bo, 0, none⟩ = some (.int .i64 F) := hI.box.cell 0
      rw [List.take_of_length_le (by omega)] at hJ
      have HL := Lib.hid hl
      clear hl
      gi_wp2
      gi_loopw [6] (It2 lo hi bo bs F R A n c xs D m d ys sz cnt J) (fun x _ => (sz - intOf x).toNat)
      case atStart => exact ⟨0, F, Nat.zero_le _, by exact (show F = F + ((0 : Nat) : Int) * R by simp), rfl, by rw [LM.slots_zero]; exact hJ, hI⟩
      case round =>
        clear hJ hI c0 hk hlt
        obtain ⟨j, st, hj, HS, rfl, hJ, hI⟩ := hrel
        have hst0 : F ≤ st := by have h1 := HS.out; have := LM.mul_pos' j R hR0; omega
        have b0 : wr.cell? ⟨bs, 0, none⟩ = some (.int .i64 sz) := hI.num.cell 0
        have b2 : wr.cell? ⟨bo, 2, none⟩ = some (.int .i64 R) := hI.box.cell 2
        have b3 : wr.cell? ⟨bo, 3, none⟩ = some (.slice D m d) := hI.box.cell 3
        by_cases hc : j < cnt
        · have hRp : 0 < R := by
            rcases Int.lt_or_eq_of_le hR0 with h | h
            · exact h
            · have := HZ.out h.symm; omega
          have hstep : st + R ≤ sz := by have h1 := HS.out; have h2 := HE.out; have := LM.mul_step j cnt R hR0 hc; omega
          have d0 : decide (st < sz) = true := by simp; omega
          gi_wp2
          gi_loopw [33] (It3 lo hi bo bs F R A n c xs D m d ys sz j J) (fun x _ => m - (intOf x).toNat)
          case atStart => exact ⟨0, Nat.zero_le _, rfl, by rw [partRec_zero]; exact hJ, hI⟩
          case round =>
            clear hJ hI b0 b2 b3
            obtain ⟨i, hi', rfl, hJ, hI⟩ := hrel
            have hl := hI.lists.snd.len
            by_cases hlt : i < m
            · obtain ⟨b, off, p, rfl, hbB, hd, hwf, hcp⟩ := hI.lists.snd.ns.at_ hlt
              have hp := HP.out p (List.mem_of_mem_drop (by rw [hd]; exact List.mem_cons_self))
              obtain ⟨hp0, hp1⟩ := hp
              obtain ⟨fn, tmps, assign, body, hy, hR⟩ := HY.out _ (st + p) wr hJ (partRec_len F R xs ys j i cnt hc (by omega))
              have HD := Lib.hid hd
              have HI := Lib.hid hI
              have HL2 := Lib.hid hl
              clear hd hwf hl hI
              gi_wp2
              refine hR.mono ?_
              rintro e W3 (⟨rfl, hJ3, hk3⟩ | ⟨rfl, hJx3⟩)
              · gi_wp2
                go_roundw
                case rel => exact ⟨i + 1, by omega, by go_num, by rw [partRec_snoc F R xs ys j i p HD.out, ← HS.out]; exact hJ3, HI.out.kept hk3⟩
                case measure => simp [intOf]; omega
              · gi_wp2
                refine bodyPost_ret (results_none rfl _ _ _) rfl ?_
                exact ⟨⟨_, rfl⟩, .inr ⟨_, trivial, hJx3⟩⟩
            · have b2 : wr.cell? ⟨bo, 2, none⟩ = some (.int .i64 R) := hI.box.cell 2
              have HL2 := Lib.hid hl
              clear hl
              gi_wp2
              go_roundw
              case rel => exact ⟨j + 1, st + R, by omega, (by have h1 := HS.out; exact (show st + R = F + ((j + 1 : Nat) : Int) * R by rw [h1]; simp [Int.add_mul]; omega)), rfl, by rw [← partRec_all F R xs ys j i (by have := HL2.out; omega)]; exact hJ, hI⟩
              case measure => simp [intOf]; omega
        · obtain rfl : j = cnt := by omega
          have d0 : decide (st < sz) = false := by have h1 := HS.out; have h2 := HE.out; simp; omega
          gi_wp2
          go_end0
          exact ⟨⟨_, rfl⟩, .inl ⟨_, rfl, hJ⟩⟩

set_option maxRecDepth 100000 in
theorem iter_none (q : Nat) (v : Value) (J : List Int → World → Prop) (W : World) (h0 : J [] W) :
    CallsIn Fence.wide q Tryz.prog 71 #[v] W fun e W' => (∃ v, e = .returned v) ∧ J [] W' := by
  refine callsIn_of_wp Tryz.func71 rfl trivial ?_ rfl
  simp only [Tryz.ntmps71, List.size_toArray, List.length_cons, List.length_nil, Nat.reduceAdd, Nat.reduceSub, Array.replicate_succ, Array.replicate_zero, List.push_toArray, List.append_toArray, List.nil_append, List.cons_append]
  gi_wp2
  go_end0
  exact ⟨⟨_, rfl⟩, h0⟩

/-- What a range over a function of ints is handed: these numbers, while the blocks from lo on and below hi stay. -/
def SeqTells (n gf : Nat) (lb : Array Value) (lo hi : Nat) (zs : List Int) (w : World) : Prop :=
  SeqStopsK Fence.wide n Tryz.prog gf lb (fun x : Int => #[Value.int .i64 x]) (Kept lo hi) (fun ys => ys = zs) (fun _ => True) zs.length w
theorem iter_tells (q : Nat) (hq : 1 ≤ q) (lo hi bo bs : Nat) (F R : Int) (A : Option Addr) (n c : Nat) (xs : List Int) (D : Option Addr) (m d : Nat) (ys : List Int) (cnt : Nat)
    (hn : n ≤ 1000000) (hm : m ≤ 1000000) (hF0 : 0 ≤ F) (hF1 : F ≤ 64) (hR0 : 0 ≤ R) (hR1 : R ≤ 64) (hsz : F + cnt * R ≤ 8192) (hz : R = 0 → cnt = 0) (hys : ∀ p ∈ ys, 0 ≤ p ∧ p < 64)
    (w : World) (hw : hi ≤ w.heap.size) (hI : IterSt w lo hi bo bs F R A n c xs D m d ys (F + cnt * R)) : SeqTells q 72 #[.pointer (some ⟨bo, 0, none⟩), .pointer (some ⟨bs, 0, none⟩)] lo hi (LM.slots F R xs ys cnt) w :=
  fun l J Jx W hW _ _ hY h0 => iter_in q hq l lo hi bo bs F R A n c xs D m d ys cnt J Jx hn hm hF0 hF1 hR0 hR1 hsz hz hys hY W (hI.kept (Kept.of_below hW hw)) h0
theorem none_tells (q lo hi : Nat) (w : World) : SeqTells q 71 #[] lo hi [] w :=
  fun l J _ W _ _ _ _ h0 => (iter_none q (.func (.yield l) #[] #[]) J W h0).mono fun _ _ ⟨h1, h2⟩ => ⟨h1, .inl ⟨[], rfl, h2⟩⟩
end Go.Proofs.YteneadimchhhhaaGreatDoor
