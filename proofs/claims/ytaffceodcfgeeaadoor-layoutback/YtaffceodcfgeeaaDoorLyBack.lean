/- The walk of LayoutBack. -/
import Derived.Test.YtaffceodcfgeeaaDoorLyWords
namespace Go.Proofs.YtaffceodcfgeeaaDoor
open Go.RowKit

set_option maxRecDepth 100000 in
set_option maxHeartbeats 1000000 in
theorem back_long (F R : Int) (A : Option Addr) (n c : Nat) (D : Option Addr) (m d : Nat) (Z : Option Addr) (p q : Nat) (w : World) (h : ¬ (n ≤ 100 ∧ m ≤ 100)) :
    Calls Tryd.prog 4 #[.agg #[.int .i64 F, .slice A n c, .int .i64 R, .slice D m d], .slice Z p q] w fun e w' => e = .returned (.bool true) ∧ Below w.heap.size w w' := by
  have H1 := Lib.hid (short_no F R A n c D m d (w.alloc (.cells #[.int .i64 F, .slice A n c, .int .i64 R, .slice D m d] 24)) h)
  clear h
  go_enter Tryd.func4, Tryd.ntmps4
  go_wp2_with fail
  refine H1.out.mono ?_
  rintro e w1 ⟨rfl, rfl⟩
  go_wp2_with fail
  refine (alive_any _).mono ?_
  rintro e w2 ⟨rfl, hb⟩
  go_wp2
  go_ret
  exact ⟨rfl, (((Below.refl _ _).alloc (Nat.le_refl _) _).alloc (by simp) _).trans (hb.mono (by simp; omega))⟩

section
variable {w : World} {F R : Int} {A : Option Addr} {n c : Nat} {xs : List Int} {D : Option Addr} {m d : Nat} {ys : List Int} {W : World}
/-- Decode upon the words of the law's own layout tells it. -/
def KBack (w : World) (F R : Int) (A : Option Addr) (n c : Nat) (xs : List Int) (D : Option Addr) (m d : Nat) (ys : List Int) (W : World) (e : Ending) (W' : World) : Prop :=
  ∃ A' c' D' d', e = .returned (.tuple #[.agg #[.int .i64 F, .slice A' n c', .int .i64 R, .slice D' m d'], .int .i64 0]) ∧ Lists W' W.heap.size W'.heap.size A' n c' xs D' m d' ys ∧ LayK w F R A n c xs D m d ys W'
theorem LayK.backK (h : LayK w F R A n c xs D m d ys W) (hr : LM.right F R xs ys = true) {g : Nat} (hG : Whole W g 32 #[.int .u64 (F + 256 * R), .int .u64 (orAll 0 xs), .int .u64 (orAll 0 ys)]) (hT : Tab w) (h0 : 0 < w.heap.size) :
    Calls Tryd.prog 11 #[.slice (some ⟨g, 0, none⟩) 3 3] W (KBack w F R A n c xs D m d ys W) := by
  obtain ⟨⟨g1, g2, g3, g4, g5⟩, r1, r2⟩ := LM.right_parts hr
  have b1 := orAll_lt xs 0 (by omega) fun p hp => by have := (LM.rise_all xs 0 F r1).2 p hp; omega
  have b2 := orAll_lt ys 0 (by omega) fun p hp => by have := (LM.rise_all ys 0 R r2).2 p hp; omega
  have hs := h.size
  refine (decS_any _ 3 3 [F + 256 * R, (orAll 0 xs : Nat), (orAll 0 ys : Nat)] W.heap.size W (Nat.le_refl _) (ns_three hG (of_word ⟨by omega, by omega⟩) (of_word ⟨by omega, by omega⟩) (of_word ⟨by omega, by omega⟩)) (hT.below h.bel h0) (by omega)).mono ?_
  rintro e W' (⟨F', R', b, c', hd, A', k1, D', k2, he, hL, hb⟩ | ⟨hd, _⟩)
  · rw [LM.dec_of hr] at hd
    simp only [Option.some.injEq, Prod.mk.injEq] at hd
    obtain ⟨rfl, rfl, rfl, rfl⟩ := hd
    rw [bl_orAll xs F g2 r1, bl_orAll ys R g4 r2, Int.toNat_of_nonneg g1, Int.toNat_of_nonneg g3, h.lists.fst.ns.1, h.lists.snd.ns.1] at he
    rw [bl_orAll xs F g2 r1, bl_orAll ys R g4 r2, h.lists.fst.ns.1, h.lists.snd.ns.1] at hL
    exact ⟨A', k1, D', k2, he, hL, h.later hb⟩
  · rw [LM.dec_of hr] at hd
    cases hd
end
theorem no_right (w : World) : Calls Tryd.prog 9 #[.agg #[.int .i64 0, .slice none 0 0, .int .i64 0, .slice none 0 0]] w fun e w' => e = .returned (.bool false) ∧ Below w.heap.size w w' :=
  (lright_any 0 0 none 0 0 [] none 0 0 [] 0 w (Nat.zero_le _) (by omega) (by omega) (i64s (by omega) (by omega)) (i64s (by omega) (by omega)) (no_ni w 0 0).ns (no_ni w 0 0).ns).mono fun _ _ ⟨a, b⟩ => ⟨a, by rw [← b]; exact (Below.refl _ _).alloc (Nat.le_refl _) _⟩
theorem right_of (F R : Nat) (A : Option Addr) (n c : Nat) (xs : List Int) (D : Option Addr) (m d : Nat) (ys : List Int) (lo hi : Nat) (w : World) (hB : hi ≤ w.heap.size) (hn : n ≤ 1000000) (hm : m ≤ 1000000) (h : Lists w lo hi A n c xs D m d ys) (hr : LM.right F R xs ys = true) :
    Calls Tryd.prog 9 #[.agg #[.int .i64 F, .slice A n c, .int .i64 R, .slice D m d]] w fun e w' => e = .returned (.bool true) ∧ Below w.heap.size w w' := by
  obtain ⟨⟨g1, g2, g3, g4, g5⟩, -, -⟩ := LM.right_parts hr
  exact (lright_any F R A n c xs D m d ys hi w hB hn hm ⟨by omega, by omega⟩ ⟨by omega, by omega⟩ h.fst.ns h.snd.ns).mono fun _ _ ⟨a, b⟩ => ⟨by rw [a, hr], by rw [← b]; exact (Below.refl _ _).alloc (Nat.le_refl _) _⟩
theorem enc_of (F R b c' : Nat) (A : Option Addr) (c : Nat) (D : Option Addr) (d : Nat) (lo hi : Nat) (w : World) (hB : hi ≤ w.heap.size) (hb : b < 18446744073709551616) (hc : c' < 18446744073709551616) (h : Lists w lo hi A (LM.bl b).length c (LM.bl b) D (LM.bl c').length d (LM.bl c')) (hr : LM.right F R (LM.bl b) (LM.bl c') = true) :
    Calls Tryd.prog 8 #[.agg #[.int .i64 F, .slice A (LM.bl b).length c, .int .i64 R, .slice D (LM.bl c').length d]] w (EncPost (F + 256 * R) b c' w) := by
  obtain ⟨⟨g1, g2, g3, g4, g5⟩, -, -⟩ := LM.right_parts hr
  have h1 := LM.bl_len b
  have h2 := LM.bl_len c'
  have := encode_ok F R A _ c (LM.bl b) D _ d (LM.bl c') hi w hB (by omega) (by omega) ⟨by omega, by omega⟩ ⟨by omega, by omega⟩ h.fst.ns h.snd.ns hr
  rw [orAll_bl b hb, orAll_bl c' hc] at this
  exact this

set_option maxRecDepth 100000 in
set_option maxHeartbeats 4000000 in
theorem back_no (F R : Int) (A : Option Addr) (n c : Nat) (xs : List Int) (D : Option Addr) (m d : Nat) (ys : List Int) (Z : Option Addr) (p q : Nat) (zs : List Int) (w : World) (hF : I64 F) (hR : I64 R) (hL : Lists w 0 w.heap.size A n c xs D m d ys) (hZ : WordsK w Z p zs) (h1 : n ≤ 100) (h2 : m ≤ 100) (hr : LM.right F R xs ys = false) :
    Calls Tryd.prog 4 #[.agg #[.int .i64 F, .slice A n c, .int .i64 R, .slice D m d], .slice Z p q] w fun e w' => e = .returned (.bool true) ∧ Below w.heap.size w w' := by
  have k0 := LayK.first hL hF hR (by omega : n ≤ 1000000) (by omega : m ≤ 1000000)
  have HR := Lib.hid hr
  have HZ := Lib.hid hZ
  have K0 := Lib.hid (k0.shortK h1 h2)
  clear hL hF hR hr k0 hZ
  go_enter Tryd.func4, Tryd.ntmps4
  go_wp2_with fail
  refine K0.out.mono ?_
  rintro e w1 ⟨rfl, b1, k1⟩
  obtain ⟨p0, p1, p2, p3⟩ := k1.cells
  have C := k1.refRightK
  rw [HR.out] at C
  have K1 := Lib.hid C
  clear k1 b1 C
  go_wp2_with fail
  refine K1.out.mono ?_
  rintro e w5 ⟨rfl, b5, k5⟩
  clear p0 p1 p2 p3
  have K5 := Lib.hid k5
  clear k5 b5
  go_wp2_with fail
  refine (HZ.out.decK K5.out.bel).mono ?_
  rintro e w6 hS
  have hs5 := K5.out.size
  rcases hS with ⟨F', R', b', c', hd, A6, n6, D6, m6, rfl, hL6, hb6⟩ | ⟨hd, rfl, hb6⟩
  · have B6 : Below w.heap.size w w6 := K5.out.bel.trans (hb6.mono (by exact Nat.le_of_lt hs5))
    obtain ⟨hr', hb', hc', hzs⟩ := LM.dec_parts (ns_words HZ.out.ns) hd
    have hla := LM.bl_len b'
    have hlc := LM.bl_len c'
    obtain ⟨W6, hW6⟩ : ∃ W6, W6 = w6.alloc (.cells #[.int .i64 F', .slice A6 (LM.bl b').length n6, .int .i64 R', .slice D6 (LM.bl c').length m6] 24) := ⟨_, rfl⟩
    have X6 : Whole W6 w6.heap.size 24 #[.int .i64 F', .slice A6 (LM.bl b').length n6, .int .i64 R', .slice D6 (LM.bl c').length m6] := by rw [hW6]; exact Whole.fresh _ _ _
    have Q6 : Below w6.heap.size w6 W6 := by rw [hW6]; exact (Below.refl _ _).alloc (Nat.le_refl _) _
    have t0 : W6.cell? ⟨w6.heap.size, 0, none⟩ = some (.int .i64 F') := X6.cell 0
    have t1 : W6.cell? ⟨w6.heap.size, 1, none⟩ = some (.slice A6 (LM.bl b').length n6) := X6.cell 1
    have t2 : W6.cell? ⟨w6.heap.size, 2, none⟩ = some (.int .i64 R') := X6.cell 2
    have t3 : W6.cell? ⟨w6.heap.size, 3, none⟩ = some (.slice D6 (LM.bl c').length m6) := X6.cell 3
    rw [hW6] at t0 t1 t2 t3
    have HX6 := Lib.hid X6
    have hs6 := Q6.size
    have L6 := hL6.kept (Kept.of_below Q6 (Nat.le_refl _))
    have CE := enc_of F' R' b' c' A6 n6 D6 m6 _ _ W6 hs6 hb' hc' L6 hr'
    rw [hW6] at CE
    have HE := Lib.hid CE
    have HL6 := Lib.hid L6
    have HB6 := Lib.hid (B6.trans (Q6.mono B6.size))
    have HR' := Lib.hid hr'
    have HZS := Lib.hid hzs
    have HW6 := Lib.hid hW6
    have hp3 : p = 3 := by rw [← HZ.out.ns.1, hzs]; rfl
    subst hp3
    clear hd hL6 hb6 B6 X6 Q6 hW6 CE L6 hr' hzs
    go_wp2_with fail
    refine HE.out.mono ?_
    rw [← HW6.out]
    rintro e w7 ⟨g7, rfl, hg7, hG7, hb7⟩
    clear t0 t1 t2 t3
    have X7 := HX6.out.below hb7 HX6.out.lt
    have HL7 := Lib.hid (HL6.out.kept (Kept.of_below hb7 hs6))
    have B7 := HB6.out.trans (hb7.mono HB6.out.size)
    have N7 := HZ.out.ns.below B7
    rw [HZS.out] at N7
    obtain ⟨bz, oz, rfl, hlz, hcz⟩ := N7.2.2 (by omega)
    obtain ⟨x0, hx0⟩ : ∃ x0, x0 = (F' : Int) + 256 * (R' : Int) := ⟨_, rfl⟩
    have HN7 := Lib.hid (N7.2.1)
    rw [← hx0] at hG7 hcz
    have a0 : w7.cell? ⟨g7, 0, none⟩ = some (.int .u64 x0) := hG7.cell 0
    have a1 : w7.cell? ⟨g7, 1, none⟩ = some (.int .u64 b') := hG7.cell 1
    have a2 : w7.cell? ⟨g7, 2, none⟩ = some (.int .u64 c') := hG7.cell 2
    have z0 : w7.cell? ⟨bz, oz, none⟩ = some (.int .u64 x0) := hcz 0 _ rfl
    have z1 : w7.cell? ⟨bz, oz + 1, none⟩ = some (.int .u64 b') := hcz 1 _ rfl
    have z2 : w7.cell? ⟨bz, oz + 2, none⟩ = some (.int .u64 c') := hcz 2 _ rfl
    have AT : ∀ k : Nat, k < 3 → ∃ v : Int, w7.cell? ⟨g7, k, none⟩ = some (.int .u64 v) ∧ w7.cell? ⟨bz, oz + k, none⟩ = some (.int .u64 v) := by
      intro k hk
      match k, hk with
      | 0, _ => exact ⟨_, a0, z0⟩
      | 1, _ => exact ⟨_, a1, z1⟩
      | 2, _ => exact ⟨_, a2, z2⟩
    have HAT := Lib.hid AT
    have hs7 := hb7.size
    have HX7 := Lib.hid X7
    have HB7 := Lib.hid B7
    clear X7 B7 N7 hG7 hcz hx0 a0 a1 a2 z0 z1 z2 hb7 AT
    go_wp2_with fail
    go_loopw [71] (fun x wr => ∃ k j : Nat, k ≤ 3 ∧ x = .int .i64 k ∧ wr = w7.drewN j) (fun x _ => 3 - (intOf x).toNat)
    case atStart => exact ⟨0, 0, Nat.zero_le _, rfl, rfl⟩
    case round =>
      obtain ⟨k, j, hk, rfl, rfl⟩ := hrel
      by_cases hlt : k < 3
      · obtain ⟨v, e1, e2⟩ := HAT.out k hlt
        have e1 : (w7.drewN j).cell? ⟨g7, k, none⟩ = some (.int .u64 v) := e1
        have e2 : (w7.drewN j).cell? ⟨bz, oz + k, none⟩ = some (.int .u64 v) := e2
        go_wp2
        go_quiet (fail)
        go_wp2
        go_roundw
        case rel => exact ⟨k + 1, _, by omega, by go_num, rfl⟩
        case measure => simp [intOf]; omega
      · have B7' := below_drewN HB7.out j
        have X7' := HX7.out.drewN j
        have L7' := HL7.out.kept (Kept.of_below (below_drewN (Below.refl w7.heap.size w7) j) (Nat.le_trans hs6 hs7))
        have HB7' := Lib.hid B7'
        have HX7' := Lib.hid X7'
        have HL7' := Lib.hid L7'
        clear B7' X7' L7'
        go_wp2_with fail
        refine (alive_any _).mono ?_
        rintro e w8 ⟨rfl, hb8⟩
        have X8 := HX7'.out.below hb8 HX7'.out.lt
        have L8 := HL7'.out.kept (Kept.of_below hb8 (by exact Nat.le_trans hs6 hs7))
        have B8 := HB7'.out.trans (hb8.mono HB7'.out.size)
        have t0 : w8.cell? ⟨w6.heap.size, 0, none⟩ = some (.int .i64 F') := X8.cell 0
        have t1 : w8.cell? ⟨w6.heap.size, 1, none⟩ = some (.slice A6 (LM.bl b').length n6) := X8.cell 1
        have t2 : w8.cell? ⟨w6.heap.size, 2, none⟩ = some (.int .i64 R') := X8.cell 2
        have t3 : w8.cell? ⟨w6.heap.size, 3, none⟩ = some (.slice D6 (LM.bl c').length m6) := X8.cell 3
        have lt8 := X8.lt
        have HC := Lib.hid (right_of F' R' A6 _ n6 (LM.bl b') D6 _ m6 (LM.bl c') _ _ w8 (Nat.le_of_lt lt8) (by omega) (by omega) L8 HR'.out)
        have HB8 := Lib.hid B8
        clear X8 L8 B8 hb8 lt8
        go_wp2_with fail
        refine HC.out.mono ?_
        rintro e w9 ⟨rfl, hb9⟩
        go_wp2
        go_ret
        exact ⟨rfl, HB8.out.trans (hb9.mono HB8.out.size)⟩
  · have B6 : Below w.heap.size w w6 := K5.out.bel.trans (hb6.mono (by exact Nat.le_of_lt hs5))
    obtain ⟨W6, hW6⟩ : ∃ W6, W6 = w6.alloc (.cells #[.int .i64 0, .slice none 0 0, .int .i64 0, .slice none 0 0] 24) := ⟨_, rfl⟩
    have X6 : Whole W6 w6.heap.size 24 #[.int .i64 0, .slice none 0 0, .int .i64 0, .slice none 0 0] := by rw [hW6]; exact Whole.fresh _ _ _
    have Q6 : Below w6.heap.size w6 W6 := by rw [hW6]; exact (Below.refl _ _).alloc (Nat.le_refl _) _
    have HX6 := Lib.hid X6
    have HB6 := Lib.hid (B6.trans (Q6.mono B6.size))
    have HW6 := Lib.hid hW6
    clear hd hb6 B6 X6 Q6 hW6
    go_wp2_with fail
    rw [← HW6.out]
    refine (alive_any _).mono ?_
    rintro e w8 ⟨rfl, hb8⟩
    have X8 := HX6.out.below hb8 HX6.out.lt
    have B8 := HB6.out.trans (hb8.mono HB6.out.size)
    have t0 : w8.cell? ⟨w6.heap.size, 0, none⟩ = some (.int .i64 0) := X8.cell 0
    have t1 : w8.cell? ⟨w6.heap.size, 1, none⟩ = some (.slice none 0 0) := X8.cell 1
    have t2 : w8.cell? ⟨w6.heap.size, 2, none⟩ = some (.int .i64 0) := X8.cell 2
    have t3 : w8.cell? ⟨w6.heap.size, 3, none⟩ = some (.slice none 0 0) := X8.cell 3
    have HB8 := Lib.hid B8
    clear X8 B8 hb8
    go_wp2_with fail
    refine (no_right _).mono ?_
    rintro e w9 ⟨rfl, hb9⟩
    go_wp2
    go_ret
    exact ⟨rfl, HB8.out.trans (hb9.mono HB8.out.size)⟩

set_option maxRecDepth 100000 in
set_option maxHeartbeats 4000000 in
theorem back_yes (F R : Int) (A : Option Addr) (n c : Nat) (xs : List Int) (D : Option Addr) (m d : Nat) (ys : List Int) (Z : Option Addr) (p q : Nat) (zs : List Int) (w : World) (hF : I64 F) (hR : I64 R) (hL : Lists w 0 w.heap.size A n c xs D m d ys) (hZ : WordsK w Z p zs) (h1 : n ≤ 100) (h2 : m ≤ 100) (hr : LM.right F R xs ys = true) :
    Calls Tryd.prog 4 #[.agg #[.int .i64 F, .slice A n c, .int .i64 R, .slice D m d], .slice Z p q] w fun e w' => e = .returned (.bool true) ∧ Below w.heap.size w w' := by
  have k0 := LayK.first hL hF hR (by omega : n ≤ 1000000) (by omega : m ≤ 1000000)
  have HR := Lib.hid hr
  have HZ := Lib.hid hZ
  have K0 := Lib.hid (k0.shortK h1 h2)
  clear hL hF hR hr k0 hZ
  go_enter Tryd.func4, Tryd.ntmps4
  go_wp2_with fail
  refine K0.out.mono ?_
  rintro e w1 ⟨rfl, b1, k1⟩
  obtain ⟨p0, p1, p2, p3⟩ := k1.cells
  have C := k1.refRightK
  rw [HR.out] at C
  have K1 := Lib.hid C
  clear k1 b1 C
  go_wp2_with fail
  refine K1.out.mono ?_
  rintro e w2 ⟨rfl, b2, k2⟩
  clear p0 p1 p2 p3
  obtain ⟨p0, p1, p2, p3⟩ := k2.cells
  have K2 := Lib.hid (k2.encK HR.out)
  clear k2 b2
  go_wp2_with fail
  refine K2.out.mono ?_
  rintro e w3 ⟨g, rfl, hg, hG, k3⟩
  clear p0 p1 p2 p3
  have K3 := Lib.hid (k3.backK HR.out hG HZ.out.tab HZ.out.pos)
  have hs3 := k3.size
  clear k3 hG
  go_wp2_with fail
  refine K3.out.mono ?_
  rintro e w4 ⟨A', c', D', d', rfl, hL', k4⟩
  obtain ⟨W4, hW4⟩ : ∃ W4, W4 = w4.alloc (.cells #[.int .i64 F, .slice A' n c', .int .i64 R, .slice D' m d'] 24) := ⟨_, rfl⟩
  have X4 : Whole W4 w4.heap.size 24 #[.int .i64 F, .slice A' n c', .int .i64 R, .slice D' m d'] := by rw [hW4]; exact Whole.fresh _ _ _
  have Q4 : Below w4.heap.size w4 W4 := by rw [hW4]; exact (Below.refl _ _).alloc (Nat.le_refl _) _
  have k4' := k4.later Q4
  obtain ⟨p0, p1, p2, p3⟩ := k4'.cells
  have t0 : W4.cell? ⟨w4.heap.size, 0, none⟩ = some (.int .i64 F) := X4.cell 0
  have t1 : W4.cell? ⟨w4.heap.size, 1, none⟩ = some (.slice A' n c') := X4.cell 1
  have t2 : W4.cell? ⟨w4.heap.size, 2, none⟩ = some (.int .i64 R) := X4.cell 2
  have t3 : W4.cell? ⟨w4.heap.size, 3, none⟩ = some (.slice D' m d') := X4.cell 3
  rw [hW4] at p0 p1 p2 p3 t0 t1 t2 t3
  have hs4 := Q4.size
  have hs4' := k4'.size
  have CS := words_same F R A n c D m d A' c' D' d' xs ys _ _ _ _ W4 (by omega) hs4 (by omega) (by omega) k4'.lists (hL'.kept (Kept.of_below Q4 (Nat.le_refl _)))
  rw [hW4] at CS
  have HCS := Lib.hid CS
  have K4 := Lib.hid k4'
  have HW4 := Lib.hid hW4
  clear CS k4 k4' Q4 X4 hL' hW4 hs4 hs4' hs3
  go_wp2_with fail
  refine HCS.out.mono ?_
  rw [← HW4.out]
  rintro e w5 ⟨rfl, b5⟩
  clear p0 p1 p2 p3 t0 t1 t2 t3
  have K5 := Lib.hid (K4.out.later b5)
  clear b5
  go_wp2_with fail
  refine (HZ.out.decK K5.out.bel).mono ?_
  rintro e w6 hS
  have hs5 := K5.out.size
  rcases hS with ⟨F', R', b', c', hd, A6, n6, D6, m6, rfl, hL6, hb6⟩ | ⟨hd, rfl, hb6⟩
  · have B6 : Below w.heap.size w w6 := K5.out.bel.trans (hb6.mono (by exact Nat.le_of_lt hs5))
    obtain ⟨hr', hb', hc', hzs⟩ := LM.dec_parts (ns_words HZ.out.ns) hd
    have hla := LM.bl_len b'
    have hlc := LM.bl_len c'
    obtain ⟨W6, hW6⟩ : ∃ W6, W6 = w6.alloc (.cells #[.int .i64 F', .slice A6 (LM.bl b').length n6, .int .i64 R', .slice D6 (LM.bl c').length m6] 24) := ⟨_, rfl⟩
    have X6 : Whole W6 w6.heap.size 24 #[.int .i64 F', .slice A6 (LM.bl b').length n6, .int .i64 R', .slice D6 (LM.bl c').length m6] := by rw [hW6]; exact Whole.fresh _ _ _
    have Q6 : Below w6.heap.size w6 W6 := by rw [hW6]; exact (Below.refl _ _).alloc (Nat.le_refl _) _
    have t0 : W6.cell? ⟨w6.heap.size, 0, none⟩ = some (.int .i64 F') := X6.cell 0
    have t1 : W6.cell? ⟨w6.heap.size, 1, none⟩ = some (.slice A6 (LM.bl b').length n6) := X6.cell 1
    have t2 : W6.cell? ⟨w6.heap.size, 2, none⟩ = some (.int .i64 R') := X6.cell 2
    have t3 : W6.cell? ⟨w6.heap.size, 3, none⟩ = some (.slice D6 (LM.bl c').length m6) := X6.cell 3
    rw [hW6] at t0 t1 t2 t3
    have HX6 := Lib.hid X6
    have hs6 := Q6.size
    have L6 := hL6.kept (Kept.of_below Q6 (Nat.le_refl _))
    have CE := enc_of F' R' b' c' A6 n6 D6 m6 _ _ W6 hs6 hb' hc' L6 hr'
    rw [hW6] at CE
    have HE := Lib.hid CE
    have HL6 := Lib.hid L6
    have HB6 := Lib.hid (B6.trans (Q6.mono B6.size))
    have HR' := Lib.hid hr'
    have HZS := Lib.hid hzs
    have HW6 := Lib.hid hW6
    have hp3 : p = 3 := by rw [← HZ.out.ns.1, hzs]; rfl
    subst hp3
    clear hd hL6 hb6 B6 X6 Q6 hW6 CE L6 hr' hzs
    go_wp2_with fail
    refine HE.out.mono ?_
    rw [← HW6.out]
    rintro e w7 ⟨g7, rfl, hg7, hG7, hb7⟩
    clear t0 t1 t2 t3
    have X7 := HX6.out.below hb7 HX6.out.lt
    have HL7 := Lib.hid (HL6.out.kept (Kept.of_below hb7 hs6))
    have B7 := HB6.out.trans (hb7.mono HB6.out.size)
    have N7 := HZ.out.ns.below B7
    rw [HZS.out] at N7
    obtain ⟨bz, oz, rfl, hlz, hcz⟩ := N7.2.2 (by omega)
    obtain ⟨x0, hx0⟩ : ∃ x0, x0 = (F' : Int) + 256 * (R' : Int) := ⟨_, rfl⟩
    have HN7 := Lib.hid (N7.2.1)
    rw [← hx0] at hG7 hcz
    have a0 : w7.cell? ⟨g7, 0, none⟩ = some (.int .u64 x0) := hG7.cell 0
    have a1 : w7.cell? ⟨g7, 1, none⟩ = some (.int .u64 b') := hG7.cell 1
    have a2 : w7.cell? ⟨g7, 2, none⟩ = some (.int .u64 c') := hG7.cell 2
    have z0 : w7.cell? ⟨bz, oz, none⟩ = some (.int .u64 x0) := hcz 0 _ rfl
    have z1 : w7.cell? ⟨bz, oz + 1, none⟩ = some (.int .u64 b') := hcz 1 _ rfl
    have z2 : w7.cell? ⟨bz, oz + 2, none⟩ = some (.int .u64 c') := hcz 2 _ rfl
    have AT : ∀ k : Nat, k < 3 → ∃ v : Int, w7.cell? ⟨g7, k, none⟩ = some (.int .u64 v) ∧ w7.cell? ⟨bz, oz + k, none⟩ = some (.int .u64 v) := by
      intro k hk
      match k, hk with
      | 0, _ => exact ⟨_, a0, z0⟩
      | 1, _ => exact ⟨_, a1, z1⟩
      | 2, _ => exact ⟨_, a2, z2⟩
    have HAT := Lib.hid AT
    have hs7 := hb7.size
    have HX7 := Lib.hid X7
    have HB7 := Lib.hid B7
    clear X7 B7 N7 hG7 hcz hx0 a0 a1 a2 z0 z1 z2 hb7 AT
    go_wp2_with fail
    go_loopw [71] (fun x wr => ∃ k j : Nat, k ≤ 3 ∧ x = .int .i64 k ∧ wr = w7.drewN j) (fun x _ => 3 - (intOf x).toNat)
    case atStart => exact ⟨0, 0, Nat.zero_le _, rfl, rfl⟩
    case round =>
      obtain ⟨k, j, hk, rfl, rfl⟩ := hrel
      by_cases hlt : k < 3
      · obtain ⟨v, e1, e2⟩ := HAT.out k hlt
        have e1 : (w7.drewN j).cell? ⟨g7, k, none⟩ = some (.int .u64 v) := e1
        have e2 : (w7.drewN j).cell? ⟨bz, oz + k, none⟩ = some (.int .u64 v) := e2
        go_wp2
        go_quiet (fail)
        go_wp2
        go_roundw
        case rel => exact ⟨k + 1, _, by omega, by go_num, rfl⟩
        case measure => simp [intOf]; omega
      · have B7' := below_drewN HB7.out j
        have X7' := HX7.out.drewN j
        have L7' := HL7.out.kept (Kept.of_below (below_drewN (Below.refl w7.heap.size w7) j) (Nat.le_trans hs6 hs7))
        have HB7' := Lib.hid B7'
        have HX7' := Lib.hid X7'
        have HL7' := Lib.hid L7'
        clear B7' X7' L7'
        go_wp2_with fail
        refine (alive_any _).mono ?_
        rintro e w8 ⟨rfl, hb8⟩
        have X8 := HX7'.out.below hb8 HX7'.out.lt
        have L8 := HL7'.out.kept (Kept.of_below hb8 (by exact Nat.le_trans hs6 hs7))
        have B8 := HB7'.out.trans (hb8.mono HB7'.out.size)
        have t0 : w8.cell? ⟨w6.heap.size, 0, none⟩ = some (.int .i64 F') := X8.cell 0
        have t1 : w8.cell? ⟨w6.heap.size, 1, none⟩ = some (.slice A6 (LM.bl b').length n6) := X8.cell 1
        have t2 : w8.cell? ⟨w6.heap.size, 2, none⟩ = some (.int .i64 R') := X8.cell 2
        have t3 : w8.cell? ⟨w6.heap.size, 3, none⟩ = some (.slice D6 (LM.bl c').length m6) := X8.cell 3
        have lt8 := X8.lt
        have HC := Lib.hid (right_of F' R' A6 _ n6 (LM.bl b') D6 _ m6 (LM.bl c') _ _ w8 (Nat.le_of_lt lt8) (by omega) (by omega) L8 HR'.out)
        have HB8 := Lib.hid B8
        clear X8 L8 B8 hb8 lt8
        go_wp2_with fail
        refine HC.out.mono ?_
        rintro e w9 ⟨rfl, hb9⟩
        go_wp2
        go_ret
        exact ⟨rfl, HB8.out.trans (hb9.mono HB8.out.size)⟩
  · have B6 : Below w.heap.size w w6 := K5.out.bel.trans (hb6.mono (by exact Nat.le_of_lt hs5))
    obtain ⟨W6, hW6⟩ : ∃ W6, W6 = w6.alloc (.cells #[.int .i64 0, .slice none 0 0, .int .i64 0, .slice none 0 0] 24) := ⟨_, rfl⟩
    have X6 : Whole W6 w6.heap.size 24 #[.int .i64 0, .slice none 0 0, .int .i64 0, .slice none 0 0] := by rw [hW6]; exact Whole.fresh _ _ _
    have Q6 : Below w6.heap.size w6 W6 := by rw [hW6]; exact (Below.refl _ _).alloc (Nat.le_refl _) _
    have HX6 := Lib.hid X6
    have HB6 := Lib.hid (B6.trans (Q6.mono B6.size))
    have HW6 := Lib.hid hW6
    clear hd hb6 B6 X6 Q6 hW6
    go_wp2_with fail
    rw [← HW6.out]
    refine (alive_any _).mono ?_
    rintro e w8 ⟨rfl, hb8⟩
    have X8 := HX6.out.below hb8 HX6.out.lt
    have B8 := HB6.out.trans (hb8.mono HB6.out.size)
    have t0 : w8.cell? ⟨w6.heap.size, 0, none⟩ = some (.int .i64 0) := X8.cell 0
    have t1 : w8.cell? ⟨w6.heap.size, 1, none⟩ = some (.slice none 0 0) := X8.cell 1
    have t2 : w8.cell? ⟨w6.heap.size, 2, none⟩ = some (.int .i64 0) := X8.cell 2
    have t3 : w8.cell? ⟨w6.heap.size, 3, none⟩ = some (.slice none 0 0) := X8.cell 3
    have HB8 := Lib.hid B8
    clear X8 B8 hb8
    go_wp2_with fail
    refine (no_right _).mono ?_
    rintro e w9 ⟨rfl, hb9⟩
    go_wp2
    go_ret
    exact ⟨rfl, HB8.out.trans (hb9.mono HB8.out.size)⟩

theorem back_any (F R : Int) (A : Option Addr) (n c : Nat) (xs : List Int) (D : Option Addr) (m d : Nat) (ys : List Int) (Z : Option Addr) (p q : Nat) (zs : List Int) (w : World) (hF : I64 F) (hR : I64 R) (hL : Lists w 0 w.heap.size A n c xs D m d ys) (hZ : NS .u64 w w.heap.size Z p zs) (_ : p ≤ q) (hT : Tab w) :
    Calls Tryd.prog 4 #[.agg #[.int .i64 F, .slice A n c, .int .i64 R, .slice D m d], .slice Z p q] w fun e w' => e = .returned (.bool true) ∧ Below w.heap.size w w' := by
  have h0 : 0 < w.heap.size := cell_lt (hT 0 (by omega))
  by_cases hs : n ≤ 100 ∧ m ≤ 100
  · cases hr : LM.right F R xs ys
    · exact back_no F R A n c xs D m d ys Z p q zs w hF hR hL ⟨hZ, hT, h0⟩ hs.1 hs.2 hr
    · exact back_yes F R A n c xs D m d ys Z p q zs w hF hR hL ⟨hZ, hT, h0⟩ hs.1 hs.2 hr
  · exact back_long F R A n c D m d Z p q w hs
end Go.Proofs.YtaffceodcfgeeaaDoor
