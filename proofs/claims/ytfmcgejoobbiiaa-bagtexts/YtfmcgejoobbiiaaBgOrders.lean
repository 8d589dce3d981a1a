/- BagOrders, walked. -/
import Derived.Test.YtfmcgejoobbiiaaBgRises
namespace Go.Proofs.Ytfmcgejoobbiiaa
open Go.RowKit Go.Lib Go.Sort

/-- Three bags of the law's own, apart from each other. -/
def O3 (B : Nat) (w : World) (a b c : Nat) (la lb lc : List Int) : Prop :=
  ∃ ra rb rc, IBag w a ra la ∧ IBag w b rb lb ∧ IBag w c rc lc ∧ (B ≤ a ∧ B ≤ ra) ∧ (B ≤ b ∧ B ≤ rb) ∧ (B ≤ c ∧ B ≤ rc) ∧ (a ≠ b ∧ a ≠ rb ∧ ra ≠ b ∧ ra ≠ rb) ∧ (b ≠ c ∧ b ≠ rc ∧ rb ≠ c ∧ rb ≠ rc) ∧ (c ≠ a ∧ c ≠ ra ∧ rc ≠ a ∧ rc ≠ ra)
section
variable {B a b c : Nat} {w w' : World} {la lb lc l : List Int}
theorem O3.rot (h : O3 B w a b c la lb lc) : O3 B w b c a lb lc la := by
  obtain ⟨ra, rb, rc, h1, h2, h3, h4, h5, h6, h7, h8, h9⟩ := h
  exact ⟨rb, rc, ra, h2, h3, h1, h5, h6, h4, h8, h9, h7⟩
theorem O3.below (h : O3 B w a b c la lb lc) (k : Below w.heap.size w w') : O3 B w' a b c la lb lc := by
  obtain ⟨ra, rb, rc, h1, h2, h3, h4⟩ := h
  exact ⟨ra, rb, rc, h1.below k, h2.below k, h3.below k, h4⟩
theorem O3.one (h : O3 B w a b c la lb lc) : OB B w a la := by
  obtain ⟨ra, rb, rc, h1, h2, h3, h4, h5⟩ := h
  exact ⟨h4.1, ra, h1, h4.2⟩
theorem O3.put (h : O3 B w a b c la lb lc) (hl : la.length ≤ 999999) (hB : B ≤ w.heap.size) (x : Int) :
    Calls Try.prog 13 #[.pointer (some ⟨a, 0, none⟩), .int .i64 x] w fun e w' => e = .returned (.bool (decide (x ∉ la))) ∧ O3 B w' a b c (BG.put x la) lb lc ∧ Below B w w' := by
  obtain ⟨ra, rb, rc, h1, h2, h3, h4, h5, h6, h7, h8, h9⟩ := h
  refine (put_any h1 hl x).mono ?_
  rintro e w' ⟨rfl, r', k1, k2, k3⟩
  have b1 := h2.blt
  have b2 := h2.lt
  have b3 := h3.blt
  have b4 := h3.lt
  refine ⟨rfl, ⟨r', rb, rc, k1, h2.aft k3 (by simp; omega) (by simp; omega), h3.aft k3 (by simp; omega) (by simp; omega), ⟨h4.1, by omega⟩, h5, h6, by omega, h8, by omega⟩, k3.below (by simp; exact h4) hB⟩
end

namespace BG
/-- The places from behind, turned by t. -/
def at_ (M t k : Nat) : Nat := (M - 1 - k + t) % M
def picks (ls : List Int) (t k : Nat) : List Int := (List.range k).map fun i => ls.getD (at_ ls.length t i) 0
theorem at_lt {M t k : Nat} (h : k < M) : at_ M t k < M := Nat.mod_lt _ (by omega)
theorem picks_snoc (ls : List Int) (t k : Nat) : picks ls t (k + 1) = picks ls t k ++ [ls.getD (at_ ls.length t k) 0] := by simp [picks, List.range_succ]
theorem picks_len (ls : List Int) (t k : Nat) : (picks ls t k).length = k := by simp [picks]
theorem at_back {M t j : Nat} (hj : j < M) (ht : t < M) : ∃ i, i < M ∧ at_ M t i = j := by
  refine ⟨(M - 1 - j + t) % M, Nat.mod_lt _ (by omega), ?_⟩
  unfold at_
  by_cases h : M - 1 - j + t < M
  · rw [Nat.mod_eq_of_lt h, show M - 1 - (M - 1 - j + t) + t = j by omega]
    exact Nat.mod_eq_of_lt hj
  · have e : (M - 1 - j + t) % M = M - 1 - j + t - M := by
      rw [Nat.mod_eq_sub_mod (by omega), Nat.mod_eq_of_lt (by omega)]
    rw [e, show M - 1 - (M - 1 - j + t - M) + t = j + M by omega, Nat.add_mod_right]
    exact Nat.mod_eq_of_lt hj
theorem picks_all {ls : List Int} {t : Nat} (ht : t < ls.length) : norm (picks ls t ls.length) = norm ls := norm_eq fun y => by
  unfold picks
  rw [List.mem_map]
  constructor
  · rintro ⟨i, hi, rfl⟩
    have h := at_lt (t := t) (List.mem_range.1 hi)
    rw [List.getD_eq_getElem?_getD, List.getElem?_eq_getElem h]
    exact List.getElem_mem h
  · intro hy
    obtain ⟨j, hj, rfl⟩ := List.getElem_of_mem hy
    obtain ⟨i, hi, e⟩ := at_back hj ht
    exact ⟨i, List.mem_range.2 hi, by rw [e, List.getD_eq_getElem?_getD, List.getElem?_eq_getElem hj]; rfl⟩
end BG
theorem uint_mod (c : Int) (C : Nat) (hC : 1 ≤ C) (hC2 : C ≤ 1000) : ∃ q : Nat, q < C ∧ RowKit.wrap64 ((IntKind.u64.wrap c).tmod (C : Int)) = (q : Int) := by
  refine ⟨((c % 18446744073709551616) % (C : Int)).toNat, ?_, ?_⟩
  · have := Int.emod_nonneg (c % 18446744073709551616) (b := (C : Int)) (by omega)
    have := Int.emod_lt_of_pos (c % 18446744073709551616) (b := (C : Int)) (by omega)
    omega
  · rw [IntKind.wrap_u64, Int.tmod_eq_emod_of_nonneg (Int.emod_nonneg _ (by decide))]
    have := Int.emod_nonneg (c % 18446744073709551616) (b := (C : Int)) (by omega)
    have := Int.emod_lt_of_pos (c % 18446744073709551616) (b := (C : Int)) (by omega)
    unfold RowKit.wrap64
    omega
theorem new_none (w : World) : Calls Try.prog 19 #[.slice none 0 0] w (NewPost 59 3 (Value.int .i64) [] w) := by
  have h := new_any none 0 0 [] w ⟨rfl, fun h => absurd h (by omega)⟩ (by decide)
  rwa [BG.norm_nil] at h

set_option maxRecDepth 100000 in
set_option maxHeartbeats 4000000 in
theorem orders_any (A : Option Addr) (n c : Nat) (xs : List Int) (tn : Int) (w : World) (hx : NS .i64 w w.heap.size A n xs) (hnc : n ≤ c) (_htn : -9223372036854775808 ≤ tn ∧ tn ≤ 9223372036854775807) :
    Calls Try.prog 8 #[.slice A n c, .int .i64 tn] w fun e w' => e = .returned (.bool true) ∧ Below w.heap.size w w' := by
  obtain ⟨M, hM1, hM2, hM3⟩ := cut_num n 100
  have HX := Lib.hid (hx.reads.take hM1)
  have HM3 := Lib.hid hM3
  clear hM3 hx
  generalize xs.take M = ls at HX
  have HLL : Hid (ls.length = M) := Lib.hid HX.out.1
  go_enter Try.func8, Try.ntmps8
  go_upto_region 1 with (fail)
  go_cut [0] (fun s wc => s = .slice A M c ∧ w = wc)
  case first =>
    rcases HM3.out with ⟨h1, h2⟩ | ⟨h1, h2⟩
    · subst h2
      have hn' : ¬ (100 : Int) < (M : Int) := by omega
      go_wp2
      go_meet
      exact ⟨by congr 1; omega, rfl⟩
    · subst h2
      have hn' : (100 : Int) < (n : Int) := by omega
      go_wp2
      go_meet
      exact ⟨by congr 1; omega, rfl⟩
  case rest =>
    obtain ⟨rfl, rfl⟩ := hcut
    clear HM3 hM1 hnc
    go_wp2_with fail
    refine (new_any A M c ls w HX.out (by omega)).mono ?_
    rintro e w1 ⟨a, ra, rfl, h1, ga, gra, hB1⟩
    have H1 := Lib.hid h1
    have B1 := Lib.hid hB1
    have ha1 := h1.blt
    have ha2 := h1.lt
    clear h1 hB1
    go_wp2_with fail
    refine (new_none w1).mono ?_
    rintro e w2 ⟨b, rb, rfl, h2, gb, grb, hB2⟩
    have H2 := Lib.hid h2
    have H1' := Lib.hid (H1.out.below hB2)
    have hs1 := B1.out.size
    have B2 := Lib.hid (B1.out.trans (hB2.mono hs1))
    have hb1 := h2.blt
    have hb2 := h2.lt
    clear h2 hB2 H1 B1
    go_wp2_with fail
    refine (new_none w2).mono ?_
    rintro e w3 ⟨cc, rc, rfl, h3, gc, grc, hB3⟩
    have hs2 := B2.out.size
    have H3 : Hid (O3 w.heap.size w3 a b cc (BG.norm ls) [] []) := Lib.hid ⟨ra, rb, rc, H1'.out.below hB3, H2.out.below hB3, h3, ⟨ga, gra⟩, ⟨by omega, by omega⟩, ⟨by omega, by omega⟩, by omega, by omega, by omega⟩
    have B3 := Lib.hid (B2.out.trans (hB3.mono hs2))
    clear h3 hB3 H1' H2 B2 ga gra gb grb gc grc ha1 ha2 hb1 hb2 hs1 hs2
    go_wp2_with fail
    refine (alive_any w3).mono ?_
    rintro e w4 ⟨rfl, hB4⟩
    have H4 := Lib.hid (H3.out.below hB4)
    have B4 := Lib.hid (B3.out.trans (hB4.mono B3.out.size))
    clear hB4 H3 B3
    obtain ⟨t, ht⟩ : ∃ t : Nat, M = 0 ∨ (t < M ∧ RowKit.wrap64 ((IntKind.u64.wrap tn).tmod (M : Int)) = (t : Int)) := by
      by_cases h0 : M = 0
      · exact ⟨0, .inl h0⟩
      · obtain ⟨t, h1, h2⟩ := uint_mod tn M (by omega) (by omega)
        exact ⟨t, .inr ⟨h1, h2⟩⟩
    have HT := Lib.hid ht
    clear ht
    go_wp2
    go_loopg [35] M (fun g i wr => ∃ k : Nat, k ≤ M ∧ Hid (M - k ≤ g) ∧ i = .int .i64 k ∧ Hid (O3 w.heap.size wr a b cc (BG.norm ls) (BG.norm (ls.take k)) (BG.norm (BG.picks ls t k))) ∧ Hid (Below w.heap.size w wr))
    case atStart => exact ⟨0, Nat.zero_le _, Lib.hid (Nat.le_refl _), rfl, Lib.hid (by simpa [BG.picks, BG.norm_nil] using H4.out), B4⟩
    case round =>
      clear H4 B4
      obtain ⟨k, hk, HG, rfl, HO, HB⟩ := hrel
      have hbs := HB.out.size
      by_cases hkl : k < M
      · obtain ⟨bo, off, hkx, rfl, hblt, hcw⟩ := HX.out.at_ hkl
        have hc0 := (HB.out.cell (p := ⟨bo, off + k, none⟩) hblt).trans hcw
        clear hcw
        have HTk := Lib.hid (take_snoc_at hkx)
        have hl1 : (BG.norm (ls.take k)).length ≤ 999999 := by have := BG.norm_len (ls.take k); rw [List.length_take] at this; omega
        have HP := Lib.hid (HO.out.rot.put hl1 hbs ls[k])
        generalize ls[k] = x at hc0 HTk HP
        obtain ⟨ht1, ht2⟩ : t < M ∧ RowKit.wrap64 ((IntKind.u64.wrap tn).tmod (M : Int)) = (t : Int) := by
          rcases HT.out with h0 | h0
          · omega
          · exact h0
        have hp := BG.at_lt (M := M) (t := t) hkl
        obtain ⟨bo', off', hpx, e9, _, hcp⟩ := HX.out.at_ hp
        injection e9 with e9
        injection e9 with e9 e10
        subst e9 e10
        have e11 : ((M : Int) - 1 - (k : Int) + (t : Int)) % (M : Int) = (BG.at_ M t k : Nat) := by
          unfold BG.at_
          rw [show (M : Int) - 1 - (k : Int) + (t : Int) = ((M - 1 - k + t : Nat) : Int) by omega]
          omega
        have e12 : ((M : Int) - 1 - (k : Int) + (t : Int)).tmod (M : Int) = (BG.at_ M t k : Nat) := by
          rw [Int.tmod_eq_emod_of_nonneg (by omega)]
          exact e11
        have HPK : Hid (BG.picks ls t (k + 1) = BG.picks ls t k ++ [ls[BG.at_ M t k]]) := Lib.hid (by
          rw [BG.picks_snoc, HLL.out, List.getD_eq_getElem?_getD, List.getElem?_eq_getElem hpx]; rfl)
        have hl2 : (BG.norm (BG.picks ls t k)).length ≤ 999999 := by have := BG.norm_len (BG.picks ls t k); rw [BG.picks_len] at this; omega
        generalize ls[BG.at_ M t k] = y at hcp HPK
        generalize BG.at_ M t k = p at hp hcp e11 e12
        have dz : ((M : Int) == 0) = false := by simp; omega
        have yM : IntKind.u64.wrap (M : Int) = (M : Int) := by rw [IntKind.wrap_u64]; omega
        have yM0 : ¬ (M : Int) = 0 := by omega
        have yM1 : ¬ M = 0 := by omega
        go_wp2_with fail
        refine HP.out.mono ?_
        rintro e w5 ⟨rfl, h5, b5⟩
        have hb5 := HB.out.trans b5
        have hc5 := (hb5.cell (p := ⟨bo, off + p, none⟩) hblt).trans hcp
        have H5 := Lib.hid h5
        have B5 := Lib.hid hb5
        have HP2 := Lib.hid (h5.rot.put hl2 hb5.size y)
        clear h5 b5 hb5 HP hcp hc0
        go_wp2_with fail
        refine HP2.out.mono ?_
        rintro e w6 ⟨rfl, h6, b6⟩
        have e6 : BG.put x (BG.norm (ls.take k)) = BG.norm (ls.take (k + 1)) := by rw [HTk.out, BG.norm_snoc]
        have e7 : BG.put y (BG.norm (BG.picks ls t k)) = BG.norm (BG.picks ls t (k + 1)) := by rw [HPK.out, BG.norm_snoc]
        rw [e6, e7] at h6
        have H6 := Lib.hid h6.rot
        have B6 := Lib.hid (B5.out.trans b6)
        clear h6 b6 e6 e7 e11 e12 dz yM yM0 yM1 ht2
        go_wp2
        go_roundg (M - (k + 1))
        case measure => have := HG.out; omega
        case rel => exact ⟨k + 1, by omega, Lib.hid (Nat.le_refl _), by go_num, H6, B6⟩
      · obtain rfl : k = M := by omega
        have e1 : ls.take k = ls := List.take_of_length_le (by have := HLL.out; omega)
        have e2 : BG.norm (BG.picks ls t k) = BG.norm ls := by
          have e0 := HLL.out
          rcases HT.out with h0 | h0
          · have : ls = [] := List.eq_nil_of_length_eq_zero (by omega)
            subst h0
            rw [this]
            rfl
          · rw [← e0]
            exact BG.picks_all (by rw [e0]; exact h0.1)
        rw [e1, e2] at HO
        have hLl : (BG.norm ls).length ≤ 1000000 := by have := BG.norm_len ls; have := HLL.out; omega
        clear e1 e2 HG hk hkl
        generalize BG.norm ls = L at *
        go_wp2_with fail
        refine (HO.out.one.all hLl).mono ?_
        rintro e w5 ⟨v5, rfl, h5, b5⟩
        obtain ⟨r5, hr5, _⟩ := row_of h5
        have R5 := Lib.hid hr5
        have H5 := Lib.hid (HO.out.below b5)
        have B5 := Lib.hid (HB.out.trans (b5.mono hbs))
        clear h5 b5 hr5 HO HB hbs
        go_wp2_with fail
        refine (H5.out.rot.one.all hLl).mono ?_
        rintro e w6 ⟨v6, rfl, h6, b6⟩
        obtain ⟨r6, hr6, _⟩ := row_of h6
        have R6 := Lib.hid hr6
        have R5' := Lib.hid (R5.out.below b6)
        have H6 := Lib.hid (H5.out.below b6)
        have B6 := Lib.hid (B5.out.trans (b6.mono B5.out.size))
        clear h6 b6 hr6 H5 B5 R5
        go_wp2_with fail
        refine (sameI_any r5 r6 v5 v6 L w6 hLl R5'.out R6.out).mono ?_
        rintro e w7 ⟨rfl, q7, rfl⟩
        have H7 := Lib.hid (H6.out.below (Below.drewN (Below.refl _ _) q7))
        have B7 := Lib.hid (Below.drewN B6.out q7)
        clear H6 B6 R5' R6
        generalize w6.drewN q7 = w7 at *
        go_wp2_with fail
        refine (H7.out.one.all hLl).mono ?_
        rintro e w5 ⟨v8, rfl, h5, b5⟩
        obtain ⟨r8, hr5, _⟩ := row_of h5
        have R5 := Lib.hid hr5
        have H5 := Lib.hid (H7.out.below b5)
        have B5 := Lib.hid (B7.out.trans (b5.mono B7.out.size))
        clear h5 b5 hr5 H7 B7
        go_wp2_with fail
        refine (H5.out.rot.rot.one.all hLl).mono ?_
        rintro e w6 ⟨v9, rfl, h6, b6⟩
        obtain ⟨r9, hr6, _⟩ := row_of h6
        have R6 := Lib.hid hr6
        have R5' := Lib.hid (R5.out.below b6)
        have B6 := Lib.hid (B5.out.trans (b6.mono B5.out.size))
        clear h6 b6 hr6 H5 B5 R5
        go_wp2_with fail
        refine (sameI_any r8 r9 v8 v9 L w6 hLl R5'.out R6.out).mono ?_
        rintro e w8 ⟨rfl, q8, rfl⟩
        go_wp2
        go_ret
        exact ⟨rfl, Below.drewN B6.out q8⟩
end Go.Proofs.Ytfmcgejoobbiiaa
