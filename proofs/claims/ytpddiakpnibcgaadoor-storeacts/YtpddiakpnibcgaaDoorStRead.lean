/- Contracts of usable, Read, within, touchesFree, Owned of package store. -/
import Derived.Test.YtpddiakpnibcgaaDoorStLeaf
namespace Go.Proofs.YtpddiakpnibcgaaDoor
open Go.RowKit

/-- What is wrong with an address. -/
def addrE (own : Nat → Nat) (C K : Nat) (a : Int) : Int := if 0 ≤ a ∧ a < (C * K : Nat) then (if own (a.toNat / K) = 0 then 17 else 0) else 3
theorem addrE_in {own : Nat → Nat} {C K j : Nat} (hj : j < C * K) : addrE own C K (j : Int) = if own (j / K) = 0 then 17 else 0 := by
  unfold addrE
  rw [if_pos (by omega), Int.toNat_natCast]
theorem addrE_out {own : Nat → Nat} {C K : Nat} {k : Int} (h : k < 0 ∨ ((C * K : Nat) : Int) ≤ k) : addrE own C K k = 3 := by
  unfold addrE
  rw [if_neg (by omega)]
theorem addrE_ok {own : Nat → Nat} {C K : Nat} {k : Int} (h : addrE own C K k = 0) : ∃ j : Nat, k = j ∧ j < C * K ∧ own (j / K) ≠ 0 := by
  unfold addrE at h
  split at h
  · refine ⟨k.toNat, by omega, by omega, fun e => ?_⟩
    rw [if_pos e] at h
    omega
  · omega
theorem div_lt {C K j : Nat} (hj : j < C * K) : j / K < C := by
  rw [Nat.mul_comm] at hj
  exact Nat.div_lt_of_lt_mul hj

section
variable {w : World} {B : SB} {C K : Nat} {own wd : Nat → Nat}
set_option maxHeartbeats 400000 in
theorem usable_any (h : StAt w B C K own wd) (k : Int) : Calls Tryd.prog 39 #[.pointer (some ⟨B.s, 0, none⟩), .int .i64 k] w fun e w' => e = .returned (.int .i64 (addrE own C K k)) ∧ w = w' := by
  have c0 := h.size
  have c1 := h.words
  have hM := h.all
  have hK := h.K1
  have hK2 := h.K2
  by_cases h0 : k < 0
  · rw [addrE_out (.inl h0)]
    go_enter Tryd.func39, Tryd.ntmps39
    go_wp2
    go_ret
    exact ⟨rfl, rfl⟩
  · have g0 : 0 ≤ k := by omega
    by_cases h1 : ((C * K : Nat) : Int) ≤ k
    · rw [addrE_out (.inr h1)]
      generalize C * K = M at *
      go_enter Tryd.func39, Tryd.ntmps39
      go_wp2
      go_ret
      exact ⟨rfl, rfl⟩
    · obtain ⟨j, rfl⟩ := Int.eq_ofNat_of_zero_le g0
      have hj : j < C * K := by omega
      have hd := div_lt hj
      have hs := Lib.hid (somebodys_any h ((j / K : Nat) : Int))
      have e : addrE own C K (j : Int) = chunkE own C ((j / K : Nat) : Int) := by
        rw [addrE_in hj, chunkE_in hd]
      have ep : (j : Int) / (K : Int) = ((j / K : Nat) : Int) := by simp
      have hC := h.C2
      rw [e]
      clear h0 g0 h1 e
      generalize C * K = M at *
      generalize j / K = q at *
      have hkz : ((K : Int) == 0) = false := by simp; omega
      go_enter Tryd.func39, Tryd.ntmps39
      go_wp2_with (first
        | (go_at_call 40; refine hs.out.mono ?_; rintro e w' ⟨rfl, rfl⟩))
      go_ret
      exact ⟨rfl, rfl⟩
theorem usable_nil (w : World) (k : Int) : Calls Tryd.prog 39 #[.pointer none, .int .i64 k] w fun e w' => e = .returned (.int .i64 1) ∧ w = w' := by
  go_enter Tryd.func39, Tryd.ntmps39
  go_wp2
  go_ret
  exact ⟨rfl, rfl⟩

/-- The word that is told of an address. -/
def readV (own wd : Nat → Nat) (C K : Nat) (a : Int) : Nat := if addrE own C K a = 0 then wd a.toNat else 0
set_option maxHeartbeats 400000 in
theorem read_any (h : StAt w B C K own wd) (k : Int) : Calls Tryd.prog 18 #[.pointer (some ⟨B.s, 0, none⟩), .int .i64 k] w fun e w' => e = .returned (.tuple #[.int .u64 (readV own wd C K k : Nat), .int .i64 (addrE own C K k)]) ∧ w = w' := by
  have c1 := h.words
  have hM := h.all
  have hu := Lib.hid (usable_any h k)
  unfold readV
  by_cases hz : addrE own C K k = 0
  · obtain ⟨j, rfl, hj, _⟩ := addrE_ok hz
    rw [if_pos hz, hz, Int.toNat_natCast]
    rw [hz] at hu
    have c4 := h.word j hj
    clear hz
    generalize C * K = M at *
    go_enter Tryd.func18, Tryd.ntmps18
    go_wp2_with (first
      | (go_at_call 39; refine hu.out.mono ?_; rintro e w' ⟨rfl, rfl⟩))
    go_ret2
    exact ⟨rfl, rfl⟩
  · rw [if_neg hz]
    generalize addrE own C K k = x at *
    have d : (x != 0) = true := by simp; omega
    go_enter Tryd.func18, Tryd.ntmps18
    go_wp2_with (first
      | (go_at_call 39; refine hu.out.mono ?_; rintro e w' ⟨rfl, rfl⟩))
    go_ret2
    exact ⟨rfl, rfl⟩
theorem read_nil (w : World) (k : Int) : Calls Tryd.prog 18 #[.pointer none, .int .i64 k] w fun e w' => e = .returned (.tuple #[.int .u64 0, .int .i64 1]) ∧ w = w' := by
  go_enter Tryd.func18, Tryd.ntmps18
  go_wp2_with (first
    | (go_at_call 39; refine (usable_nil _ _).mono ?_; rintro e w' ⟨rfl, rfl⟩))
  go_ret2
  exact ⟨rfl, rfl⟩

set_option maxHeartbeats 400000 in
theorem within_any (h : StAt w B C K own wd) (i k : Int) : Calls Tryd.prog 42 #[.pointer (some ⟨B.s, 0, none⟩), .int .i64 i, .int .i64 k] w fun e w' => e = .returned (.bool (inB (C * K) i k)) ∧ w = w' := by
  have c1 := h.words
  have hM := h.all
  generalize C * K = M at *
  cases e : inB M i k
  · rcases (inB_not M i k).1 e with a | ⟨a, a2⟩ | ⟨a, a2, a3⟩ | ⟨a, a2, a3, a4⟩
    all_goals
      clear e
      go_enter Tryd.func42, Tryd.ntmps42
      go_wp2
      go_ret
      exact ⟨ret_bool (by simp; try omega), rfl⟩
  · obtain ⟨a, a2, a3, a4⟩ := (inB_iff M i k).1 e
    clear e
    go_enter Tryd.func42, Tryd.ntmps42
    go_wp2
    go_ret
    exact ⟨ret_bool (by simp; try omega), rfl⟩

/-- Is one of n words from a on in a free chunk? -/
def anyFree (own : Nat → Nat) (K a n : Nat) : Bool := (List.range n).any fun i => own ((a + i) / K) == 0
theorem anyFree_iff (own : Nat → Nat) (K a n : Nat) : anyFree own K a n = true ↔ ∃ i, i < n ∧ own ((a + i) / K) = 0 := by
  unfold anyFree
  simp [List.any_eq_true]
theorem anyFree_not (own : Nat → Nat) (K a n : Nat) : anyFree own K a n = false ↔ ∀ i, i < n → own ((a + i) / K) ≠ 0 := by
  constructor
  · intro h i hi e
    have := (anyFree_iff own K a n).2 ⟨i, hi, e⟩
    rw [h] at this
    cases this
  · intro h
    cases e : anyFree own K a n
    · rfl
    · obtain ⟨i, hi, ei⟩ := (anyFree_iff own K a n).1 e
      exact absurd ei (h i hi)
/-- By chunks. -/
theorem anyFree_chunks (own : Nat → Nat) (K a n : Nat) (_hK : 1 ≤ K) (hn : 1 ≤ n) (h : ∀ c, a / K ≤ c → c ≤ (a + n - 1) / K → own c ≠ 0) : anyFree own K a n = false :=
  (anyFree_not own K a n).2 fun i hi => h _ (Nat.div_le_div_right (by omega)) (Nat.div_le_div_right (by omega))
theorem anyFree_chunk (own : Nat → Nat) (K a n c : Nat) (hK : 1 ≤ K) (hn : 1 ≤ n) (h1 : a / K ≤ c) (h2 : c ≤ (a + n - 1) / K) (h : own c = 0) : anyFree own K a n = true := by
  have h3 : c * K ≤ a + n - 1 := by
    have := Nat.mul_le_mul_right K h2
    exact Nat.le_trans this (Nat.div_mul_le_self _ _)
  have h4 : a < (c + 1) * K := by
    have := Nat.lt_succ_of_le h1
    have h5 := (Nat.div_lt_iff_lt_mul (show 0 < K by omega)).1 this
    exact h5
  rw [Nat.add_mul, Nat.one_mul] at h4
  refine (anyFree_iff own K a n).2 ?_
  by_cases hc : c * K ≤ a
  · refine ⟨0, by omega, ?_⟩
    rw [Nat.add_zero, show a / K = c from Nat.div_eq_of_lt_le hc (by rw [Nat.add_mul, Nat.one_mul]; exact h4)]
    exact h
  · refine ⟨c * K - a, by omega, ?_⟩
    rw [show a + (c * K - a) = c * K by omega, Nat.mul_div_cancel _ (show 0 < K by omega)]
    exact h
def TouchAt (own : Nat → Nat) (p q : Nat) (x : Value) : Prop := ∃ c : Nat, p ≤ c ∧ c ≤ q + 1 ∧ x = .int .i64 c ∧ ∀ d, p ≤ d → d < c → own d ≠ 0
set_option maxHeartbeats 1000000 in
theorem touches_any (h : StAt w B C K own wd) (a n : Nat) (hn : a + n ≤ C * K) : Calls Tryd.prog 43 #[.pointer (some ⟨B.s, 0, none⟩), .int .i64 a, .int .i64 n] w fun e w' => e = .returned (.bool (anyFree own K a n)) ∧ w = w' := by
  have c0 := h.size
  have c2 := h.owners
  have hM := h.all
  have hC := h.C2
  have hK := h.K1
  have hK2 := h.K2
  by_cases h0 : n = 0
  · subst h0
    have e : anyFree own K a 0 = false := by simp [anyFree]
    rw [e]
    go_enter Tryd.func43, Tryd.ntmps43
    go_wp2
    go_ret
    exact ⟨rfl, rfl⟩
  · have hq : (a + n - 1) / K < C := div_lt (by omega)
    have hpq : a / K ≤ (a + n - 1) / K := Nat.div_le_div_right (by omega)
    have hf := Lib.hid (fun c => anyFree_chunk own K a n c hK (by omega))
    have hg := Lib.hid (anyFree_chunks own K a n hK (by omega))
    have ep : (a : Int) / (K : Int) = ((a / K : Nat) : Int) := by simp
    have eq : ((a : Int) + (n : Int) - 1) / (K : Int) = (((a + n - 1) / K : Nat) : Int) := by
      rw [show (a : Int) + (n : Int) - 1 = ((a + n - 1 : Nat) : Int) by omega]; simp
    generalize anyFree own K a n = r at *
    generalize (a + n - 1) / K = q at *
    generalize a / K = p at *
    generalize C * K = M at *
    have d0 : ((n : Int) == 0) = false := by simp; omega
    have hkz : ((K : Int) == 0) = false := by simp; omega
    go_enter Tryd.func43, Tryd.ntmps43
    go_wp2
    go_loop [7] (TouchAt own p q) (fun x => q + 1 - (intOf x).toNat)
    case atStart => exact ⟨p, Nat.le_refl _, by omega, by go_num, fun d a b => absurd a (by omega)⟩
    case round =>
      obtain ⟨c, h1, h2, rfl, h3⟩ := hrel
      have H3 := Lib.hid h3
      clear h3
      by_cases hlt : c ≤ q
      · have c4 := h.owner c (by omega)
        by_cases hz : own c = 0
        · rw [hz] at c4
          have hr := hf.out c h1 hlt hz
          subst hr
          clear hz
          go_wp2
          go_ret
          exact ⟨rfl, rfl⟩
        · have HZ := Lib.hid hz
          clear hz
          generalize hx : own c = x at *
          have d : ((x : Int) == 0) = false := by have := HZ.out; simp; omega
          have HX := Lib.hid hx
          clear hx
          go_wp2
          go_round
          case rel =>
            refine ⟨c + 1, by omega, by omega, by go_num, fun d a b => ?_⟩
            by_cases e : d = c
            · subst e; rw [HX.out]; exact HZ.out
            · exact H3.out d a (by omega)
          case measure => simp [intOf]; omega
      · have hr := hg.out fun d a b => H3.out d a (by omega)
        subst hr
        go_wp2
        go_ret
        exact ⟨rfl, rfl⟩

/-- Whose it is. -/
def hers (own : Nat → Nat) (o : Int) (k : Nat) : Bool := decide (1 ≤ o) && decide ((own k : Int) = o)
theorem hers_none (own : Nat → Nat) (o : Int) (h : o < 1) (n : Nat) : BM.ons (hers own o) n = [] := by
  unfold BM.ons
  rw [List.filter_eq_nil_iff]
  intro a _
  unfold hers
  simp
  omega
set_option maxHeartbeats 1000000 in
theorem owned_any (h : StAt w B C K own wd) (o : Int) {lo : Nat} (hB : B.within lo w.heap.size) : Calls Tryd.prog 14 #[.pointer (some ⟨B.s, 0, none⟩), .int .i64 o] w (RowPost (BM.ons (hers own o) C) w) := by
  by_cases h1 : o < 1
  · rw [hers_none own o h1]
    go_enter Tryd.func14, Tryd.ntmps14
    go_wp2
    go_ret
    exact ⟨_, rfl, World.ownsRow_nil _ _ _ _, Below.refl _ _⟩
  · obtain ⟨i0, hi, hz0, hz1, hz2⟩ := info_parts infoInt
    have c2 := h.owners
    have hC := h.C2
    have ho := hB.2.2.1.2
    have H := Lib.hid h.owner
    have h2 : 1 ≤ o := by omega
    clear h hB
    go_enter Tryd.func14, Tryd.ntmps14
    go_wp2
    go_loopw [5, 19] (fun u x wr => ∃ k : Nat, k ≤ C ∧ x = .int .i64 k ∧ wr.ownsRow w.heap.size 3 1 u (BM.ons (hers own o) k).length (vals (BM.ons (hers own o) k)) ∧ Below w.heap.size w wr) (fun _ x _ => C - (intOf x).toNat)
    case atStart => exact ⟨0, Nat.zero_le _, rfl, World.ownsRow_nil _ _ _ _, Below.refl _ _⟩
    case round =>
      obtain ⟨k, hk, rfl, hown, hbw⟩ := hrel
      by_cases hlt : k < C
      · have c0 := (hbw.cell (p := ⟨B.o, k, none⟩) ho).trans (H.out k hlt)
        have hs := hbw.size
        have hlen : (BM.ons (hers own o) k).length ≤ k := by rw [BM.ons_len]; exact BM.cnt_le _ k
        by_cases hf : (own k : Int) = o
        · have hy := BM.ons_yes (hers own o) k (by unfold hers; simp [hf]; omega)
          have HY := Lib.hid hy
          have HO := Lib.hid hown
          have hub := Lib.hid hown.lt
          rw [hf] at c0
          clear hf hy hown
          go_wp2_with (first
            | (at_builtin; refine wpList_append_own _ rfl _ _ 34 rfl w.heap.size 3 i0 _ 1 8 Tryd.underlying34 hi hz0 hz1 hz2 rfl (by decide) _ _ _ rfl (HO.out.alloc _) ⟨wr.heap.size, 0, none⟩ 1 1 [.int .i64 (k : Nat)] rfl rfl (cell_one_new _ _ _) (by simp [Value.oneCell']) (by unfold maxLen; omega) (by omega) (by simp; omega) ?_; intro v' w1 hown' hgrow _; have HO2 := Lib.hid hown'; have HG := Lib.hid hgrow; clear hown' hgrow))
          go_roundw
          case rel =>
            refine ⟨k + 1, by omega, by go_num, ?_, (hbw.alloc hs _).grown HG.out (by simp; omega) (fun g hg => (hub.out g hg).1)⟩
            rw [HY.out, vals_snoc, List.length_append]
            exact HO2.out
          case measure => simp [intOf]; omega
        · have hy := BM.ons_no (hers own o) k (by unfold hers; simp; exact fun _ => hf)
          have HY := Lib.hid hy
          have HO := Lib.hid hown
          generalize own k = x at *
          have d : ((x : Int) == o) = false := by simpa using hf
          clear hf hy hown
          go_wp2
          go_roundw
          case rel => exact ⟨k + 1, by omega, by go_num, by rw [HY.out]; exact HO.out, hbw⟩
          case measure => simp [intOf]; omega
      · obtain rfl : k = C := by omega
        go_wp2
        go_ret
        exact ⟨_, rfl, hown, hbw⟩
theorem owned_nil (w : World) : Calls Tryd.prog 14 #[.pointer none, .int .i64 1] w fun e w' => e = .returned (.slice none 0 0) ∧ w = w' := by
  go_enter Tryd.func14, Tryd.ntmps14
  go_wp2
  go_ret
  exact ⟨rfl, rfl⟩
end
end Go.Proofs.YtpddiakpnibcgaaDoor
