/- The law BitmapAll: what is told rises, each is on, and there are as many as the count. -/
import Derived.Test.YthbclmolegnhiaaDoorBmGrown
namespace Go.Proofs.YthbclmolegnhiaaDoor
open Go.RowKit

theorem ons_at (f : Nat → Bool) (n i x : Nat) (h : (BM.ons f n)[i]? = some x) : x < n ∧ f x = true := by
  have hm : x ∈ BM.ons f n := List.mem_of_getElem? h
  unfold BM.ons at hm
  rw [List.mem_filter] at hm
  exact ⟨List.mem_range.1 hm.1, hm.2⟩
theorem ons_rise (f : Nat → Bool) (n i x y : Nat) (h1 : (BM.ons f n)[i]? = some x) (h2 : (BM.ons f n)[i + 1]? = some y) : x < y := by
  have hp : (BM.ons f n).Pairwise (· < ·) := List.Pairwise.filter f List.pairwise_lt_range
  rw [List.pairwise_iff_getElem] at hp
  obtain ⟨l1, e1⟩ := List.getElem?_eq_some_iff.1 h1
  obtain ⟨l2, e2⟩ := List.getElem?_eq_some_iff.1 h2
  have := hp i (i + 1) l1 l2 (by omega)
  rw [e1, e2] at this
  exact this
theorem IS.at_ {w : World} {A : Option Addr} {c i x : Nat} {xs : List Nat} (h : IS w (.slice A xs.length c) xs) (hx : xs[i]? = some x) : ∃ g off, A = some ⟨g, off, none⟩ ∧ w.cell? ⟨g, off + i, none⟩ = some (.int .i64 (x : Nat)) := by
  obtain ⟨A', c', e, hc⟩ := h
  cases e
  exact hc i x hx

set_option maxRecDepth 100000 in
set_option maxHeartbeats 4000000 in
theorem all_walk (n : Int) (A : Option Addr) (m c0 : Nat) (l : List (Int × Int × Int × Bool)) (w : World) (hn : -9223372036854775808 ≤ n ∧ n ≤ 9223372036854775807) (hl : FA w w.heap.size A m l) (hc0 : m ≤ c0) (hT : Tab w) :
    Calls Tryd.prog 8 #[.int .i64 n, .slice A m c0] w fun e w' => e = .returned (.bool true) ∧ Below w.heap.size w w' := by
  have h0 := hT.pos
  obtain ⟨N, hN1, hN2, hG⟩ := grown_any n A m c0 l w hn hl hc0
  have HG := Lib.hid hG
  clear hG hl hn
  go_enter Tryd.func8, Tryd.ntmps8
  go_wp2_with fail
  refine HG.out.mono ?_
  rintro e w1 ⟨b, c, r, ws, rfl, hm1, hr1, hb1, _, _, _, p1, p2, p3, _, _⟩
  have hT1 := hT.below hb1 h0
  have HM1 := Lib.hid hm1
  clear hm1 hr1 HG
  go_wp2_with fail
  refine (alive_any w1 hT1).mono ?_
  rintro e w2 ⟨rfl, hb2⟩
  have HM2 := Lib.hid (HM1.out.below hb2 p1 p2)
  have hT2 := hT1.below hb2 hT1.pos
  have B2 : Below w.heap.size w w2 := hb1.trans (hb2.mono hb1.size)
  have p4 : b < w2.heap.size := by have := hb2.size; omega
  have p5 : c < w2.heap.size := by have := hb2.size; omega
  clear HM1 hT1 hb1 hb2 p1 p2 p3 hT
  have hxl : (BM.ons (BM.on ws) N).length ≤ 300 := by rw [BM.ons_len]; have := BM.cnt_le (BM.on ws) N; omega
  have fall := all_map b c N ws w2 HM2.out hT2 p4 p5
  have fcnt := fun W => count_any b c N ws W
  rw [← BM.ons_len] at fcnt
  have hat := ons_at (BM.on ws) N
  have hrise := ons_rise (BM.on ws) N
  have hcl := BM.ons_len (BM.on ws) N
  generalize BM.ons (BM.on ws) N = xs at *
  have HAT := Lib.hid hat
  have HRI := Lib.hid hrise
  have HCL := Lib.hid hcl
  have HC := Lib.hid fcnt
  have HAL := Lib.hid fall
  clear fall fcnt hat hrise hcl
  go_wp2_with fail
  refine HAL.out.mono ?_
  intro e w3 hp
  obtain ⟨A1, c1, rfl, i1, b3, _⟩ := hp.use
  have HM3 := Lib.hid (HM2.out.below b3 p4 p5)
  have I1 := Lib.hid i1
  have B3 : Below w.heap.size w w3 := B2.trans (b3.mono B2.size)
  have hlen := HM3.out.len
  obtain ⟨M, hM⟩ : ∃ M, M = xs.length := ⟨_, rfl⟩
  rw [← hM] at hxl ⊢
  have HMM := Lib.hid hM
  clear hp i1 HM2 B2 b3 hT2 p4 p5 HAL hM
  go_wp2_with fail
  go_loop [30] (fun x => ∃ k : Nat, k ≤ M ∧ x = .int .i64 (k : Nat)) (fun x => M - (intOf x).toNat)
  case atStart => exact ⟨0, Nat.zero_le _, rfl⟩
  case round =>
    obtain ⟨k, hk, rfl⟩ := hrel
    by_cases hlt : k < M
    · obtain ⟨x, hx⟩ : ∃ x, xs[k]? = some x := ⟨xs[k]'(by rw [← HMM.out]; exact hlt), by simp⟩
      obtain ⟨g, off, rfl, hcell⟩ := I1.out.at_ hx
      obtain ⟨hxN, hon⟩ := HAT.out k x hx
      have hh := has_in b c N x ws w3 HM3.out hxN
      rw [hon] at hh
      have HH := Lib.hid hh
      have d1 : decide ((N : Int) ≤ (x : Int)) = false := by simp; omega
      have d2 : decide (N ≤ x) = false := by simp; omega
      clear hh hon
      cases k with
      | zero =>
        rw [Nat.add_zero] at hcell
        have HX := Lib.hid hx
        clear hx
        go_wp2_with (first
          | (go_at_call 13; refine HH.out.mono ?_; rintro e w' ⟨rfl, rfl⟩))
        go_round
        case rel => exact ⟨1, by omega, by rfl⟩
        case measure => simp [intOf]; omega
      | succ k =>
        obtain ⟨y, hy⟩ : ∃ y, xs[k]? = some y := ⟨xs[k]'(by rw [← HMM.out]; omega), by simp⟩
        obtain ⟨g', off', e, hcell2⟩ := I1.out.at_ hy
        cases e
        have hyx := HRI.out k y x hy hx
        have d3 : decide ((x : Int) ≤ (y : Int)) = false := by simp; omega
        have d4 : decide (x ≤ y) = false := by simp; omega
        have d5 : ((k + 1 : Nat) : Int) - 1 = (k : Int) := by omega
        have HX := Lib.hid hx
        have HY := Lib.hid hy
        clear hx hy
        go_wp2_with (first
          | (go_at_call 13; refine HH.out.mono ?_; rintro e w' ⟨rfl, rfl⟩))
        go_round
        case rel => exact ⟨k + 1 + 1, by omega, by go_num⟩
        case measure => simp [intOf]; omega
    · go_wp2_with fail
      go_loop [11, 65] (fun s x => ∃ k : Nat, k ≤ N ∧ x = .int .i64 (k : Nat) ∧ s = .int .i64 (BM.cnt (BM.on ws) k : Nat)) (fun _ x => N - (intOf x).toNat)
      case atStart => exact ⟨0, Nat.zero_le _, rfl, rfl⟩
      case round =>
        obtain ⟨j, hj, rfl, rfl⟩ := hrel
        by_cases hjl : j < N
        · have hh := has_in b c N j ws w3 HM3.out hjl
          have hcj : BM.cnt (BM.on ws) (j + 1) = BM.cnt (BM.on ws) j + (BM.on ws j).toNat := rfl
          have hle := BM.cnt_le (BM.on ws) j
          generalize BM.on ws j = v at hh hcj
          have HCJ := Lib.hid hcj
          clear hcj
          generalize BM.cnt (BM.on ws) j = q at *
          have HH := Lib.hid hh
          clear hh
          cases v
          all_goals
            go_wp2_with (first
              | (go_at_call 13; refine HH.out.mono ?_; rintro e w' ⟨rfl, rfl⟩))
            go_round
            case rel => exact ⟨j + 1, by omega, by go_num, by rw [HCJ.out]; simp⟩
            case measure => simp [intOf]; omega
        · obtain rfl : j = N := by omega
          rw [← HCL.out, ← HMM.out]
          have hc := HC.out w3 HM3.out
          rw [← HMM.out] at hc
          have HC2 := Lib.hid hc
          clear hc
          go_wp2_with (first
            | (go_at_call 16; refine HC2.out.mono ?_; rintro e w' ⟨rfl, rfl⟩))
          go_ret
          exact ⟨rfl, B3⟩
end Go.Proofs.YthbclmolegnhiaaDoor
