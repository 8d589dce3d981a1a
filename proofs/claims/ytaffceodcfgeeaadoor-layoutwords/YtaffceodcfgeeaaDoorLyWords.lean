/- The walk of LayoutWords. -/
import Derived.Test.YtaffceodcfgeeaaDoorLyDecS
import Derived.Deep.RegionHeld3
namespace Go.Proofs.YtaffceodcfgeeaaDoor
open Go.RowKit

set_option maxRecDepth 100000 in
set_option maxHeartbeats 1000000 in
theorem words_long (F R : Int) (A : Option Addr) (n c : Nat) (D : Option Addr) (m d : Nat) (Z : Option Addr) (p q : Nat) (w : World) (h : ¬ (n ≤ 100 ∧ m ≤ 100)) :
    Calls Tryd.prog 3 #[.agg #[.int .i64 F, .slice A n c, .int .i64 R, .slice D m d], .slice Z p q] w fun e w' => e = .returned (.bool true) ∧ Below w.heap.size w w' := by
  have H1 := Lib.hid (short_no F R A n c D m d (w.alloc (.cells #[.int .i64 F, .slice A n c, .int .i64 R, .slice D m d] 24)) h)
  clear h
  go_enter Tryd.func3, Tryd.ntmps3
  go_wp2_with fail
  refine H1.out.mono ?_
  rintro e w1 ⟨rfl, rfl⟩
  go_wp2_with fail
  refine (alive_any _).mono ?_
  rintro e w2 ⟨rfl, hb⟩
  go_wp2
  go_ret
  exact ⟨rfl, (((Below.refl _ _).alloc (Nat.le_refl _) _).alloc (by simp) _).trans (hb.mono (by simp; omega))⟩

section
variable {w : World} {F R : Int} {A : Option Addr} {n c : Nat} {xs : List Int} {D : Option Addr} {m d : Nat} {ys : List Int} {W : World}
/-- Encode upon the law's layout. -/
def KEnc (w : World) (F R : Int) (A : Option Addr) (n c : Nat) (xs : List Int) (D : Option Addr) (m d : Nat) (ys : List Int) (e : Ending) (W' : World) : Prop :=
  ∃ g, e = .returned (.tuple #[.slice (some ⟨g, 0, none⟩) 3 3, .int .i64 0]) ∧ w.heap.size < g ∧ Whole W' g 32 #[.int .u64 (F + 256 * R), .int .u64 (orAll 0 xs), .int .u64 (orAll 0 ys)] ∧ LayK w F R A n c xs D m d ys W'
theorem LayK.encK (h : LayK w F R A n c xs D m d ys W) (hr : LM.right F R xs ys = true) : Calls Tryd.prog 8 #[.agg #[.int .i64 F, .slice A n c, .int .i64 R, .slice D m d]] W (KEnc w F R A n c xs D m d ys) :=
  (encode_ok F R A n c xs D m d ys w.heap.size W (Nat.le_of_lt h.size) h.hn h.hm h.hF h.hR h.lists.fst.ns h.lists.snd.ns hr).mono fun _ _ ⟨g, a, hg, hG, b⟩ => ⟨g, a, Nat.lt_of_lt_of_le h.size hg, hG, h.later b⟩
theorem LayK.encNoK (h : LayK w F R A n c xs D m d ys W) (hr : LM.right F R xs ys = false) : Calls Tryd.prog 8 #[.agg #[.int .i64 F, .slice A n c, .int .i64 R, .slice D m d]] W (KPost w F R A n c xs D m d ys W (.tuple #[.slice none 0 0, .int .i64 2])) :=
  (encode_no F R A n c xs D m d ys w.heap.size W (Nat.le_of_lt h.size) h.hn h.hm h.hF h.hR h.lists.fst.ns h.lists.snd.ns hr).mono fun _ _ ⟨a, b⟩ => ⟨a, b, h.later b⟩
/-- The document's Encode upon it, beside words that were there. -/
def KREnc (w : World) (F R : Int) (A : Option Addr) (n c : Nat) (xs : List Int) (D : Option Addr) (m d : Nat) (ys : List Int) (W : World) (e : Ending) (W' : World) : Prop :=
  ∃ g, e = .returned (.slice (some ⟨g, 0, none⟩) 3 3) ∧ Whole W' g 32 #[.int .u64 (F + 256 * R), .int .u64 (orAll 0 xs), .int .u64 (orAll 0 ys)] ∧ Below W.heap.size W W' ∧ LayK w F R A n c xs D m d ys W'
theorem LayK.refEncK (h : LayK w F R A n c xs D m d ys W) (hr : LM.right F R xs ys = true) : Calls Tryd.prog 10 #[.agg #[.int .i64 F, .slice A n c, .int .i64 R, .slice D m d]] W (KREnc w F R A n c xs D m d ys W) :=
  (refEncode_any F R A n c xs D m d ys w.heap.size W (Nat.le_of_lt h.size) h.hn h.hm h.lists.fst.ns h.lists.snd.ns hr).mono fun _ _ ⟨g, a, _, hG, b⟩ => ⟨g, a, hG, b, h.later b⟩
end

/-- Words among a law's arguments, the table of bits beside them. -/
structure WordsK (w : World) (Z : Option Addr) (p : Nat) (zs : List Int) : Prop where
  ns : NS .u64 w w.heap.size Z p zs
  tab : Tab w
  pos : 0 < w.heap.size
theorem WordsK.decK {w W : World} {Z : Option Addr} {p q : Nat} {zs : List Int} (h : WordsK w Z p zs) (hb : Below w.heap.size w W) : Calls Tryd.prog 11 #[.slice Z p q] W (DecS zs W) :=
  decS_any Z p q zs w.heap.size W hb.size (h.ns.below hb) (h.tab.below hb h.pos) (Nat.lt_of_lt_of_le h.pos hb.size)
theorem WordsK.rdecK {w W : World} {Z : Option Addr} {p q : Nat} {zs : List Int} (h : WordsK w Z p zs) (hb : Below w.heap.size w W) : Calls Tryd.prog 12 #[.slice Z p q] W (RDecS zs W) :=
  rdecS_any Z p q zs w.heap.size W hb.size (h.ns.below hb)

theorem no_ni (w : World) (lo hi : Nat) : NI w lo hi none 0 0 [] := ⟨⟨rfl, by simp, fun h => absurd h (by omega)⟩, (fun a e => by cases e), fun _ => rfl⟩
theorem no_lists (w : World) (lo hi : Nat) : Lists w lo hi none 0 0 [] none 0 0 [] := ⟨no_ni w lo hi, no_ni w lo hi⟩
/-- Two layouts, each told by the same words, are the same. -/
theorem words_same (F R : Int) (A : Option Addr) (n c : Nat) (D : Option Addr) (m d : Nat) (A' : Option Addr) (c' : Nat) (D' : Option Addr) (d' : Nat) (xs ys : List Int) (lo hi lo' hi' : Nat) (w : World) (hB : hi ≤ w.heap.size) (hB' : hi' ≤ w.heap.size) (hn : n ≤ 1000000) (hm : m ≤ 1000000)
    (h1 : Lists w lo hi A n c xs D m d ys) (h2 : Lists w lo' hi' A' n c' xs D' m d' ys) :
    Calls Tryd.prog 13 #[.agg #[.int .i64 F, .slice A n c, .int .i64 R, .slice D m d], .agg #[.int .i64 F, .slice A' n c', .int .i64 R, .slice D' m d']] w fun e w' => e = .returned (.bool true) ∧ Below w.heap.size w w' :=
  rsame_any F R A n c D m d A' c' D' d' xs ys hi hi' w hB hB' hn hm h1.fst.ns h1.snd.ns h2.fst.ns h2.snd.ns

set_option maxRecDepth 100000 in
set_option maxHeartbeats 4000000 in
theorem words_yes (F R : Int) (A : Option Addr) (n c : Nat) (xs : List Int) (D : Option Addr) (m d : Nat) (ys : List Int) (Z : Option Addr) (p q : Nat) (zs : List Int) (w : World) (hF : I64 F) (hR : I64 R) (hL : Lists w 0 w.heap.size A n c xs D m d ys) (hZ : WordsK w Z p zs) (h1 : n ≤ 100) (h2 : m ≤ 100) (hr : LM.right F R xs ys = true) :
    Calls Tryd.prog 3 #[.agg #[.int .i64 F, .slice A n c, .int .i64 R, .slice D m d], .slice Z p q] w fun e w' => e = .returned (.bool true) ∧ Below w.heap.size w w' := by
  have k0 := LayK.first hL hF hR (by omega : n ≤ 1000000) (by omega : m ≤ 1000000)
  have HR := Lib.hid hr
  have HZ := Lib.hid hZ
  have K0 := Lib.hid (k0.shortK h1 h2)
  clear hL hF hR hr k0 hZ
  go_enter Tryd.func3, Tryd.ntmps3
  go_wp2_with fail
  refine K0.out.mono ?_
  rintro e w1 ⟨rfl, b1, k1⟩
  obtain ⟨p0, p1, p2, p3⟩ := k1.cells
  have C := k1.refRightK
  rw [HR.out] at C
  have K1 := Lib.hid C
  clear k1 b1 C
  go_wp2_with fail
  refine K1.out.mono ?_
  rintro e w2 ⟨rfl, b2, k2⟩
  clear p0 p1 p2 p3
  obtain ⟨p0, p1, p2, p3⟩ := k2.cells
  have K2 := Lib.hid (k2.encK HR.out)
  clear k2 b2
  go_wp2_with fail
  refine K2.out.mono ?_
  rintro e w3 ⟨g, rfl, hg, hG, k3⟩
  clear p0 p1 p2 p3
  obtain ⟨p0, p1, p2, p3⟩ := k3.cells
  have C := k3.rightK
  rw [HR.out] at C
  have K3 := Lib.hid C
  have HG := Lib.hid hG
  clear k3 C hG
  go_wp2_with fail
  refine K3.out.mono ?_
  rintro e w4 ⟨rfl, b4, k4⟩
  clear p0 p1 p2 p3
  obtain ⟨p0, p1, p2, p3⟩ := k4.cells
  have G4 := Lib.hid (HG.out.below b4 HG.out.lt)
  have K4 := Lib.hid (k4.refEncK HR.out)
  clear k4 b4
  go_wp2_with fail
  refine K4.out.mono ?_
  rintro e w5 ⟨g', rfl, hG', b5, k5⟩
  clear p0 p1 p2 p3
  have hG := G4.out.below b5 G4.out.lt
  obtain ⟨x0, hx0⟩ : ∃ x0, x0 = F + 256 * R := ⟨_, rfl⟩
  obtain ⟨x1, hx1⟩ : ∃ x1, x1 = ((orAll 0 xs : Nat) : Int) := ⟨_, rfl⟩
  obtain ⟨x2, hx2⟩ : ∃ x2, x2 = ((orAll 0 ys : Nat) : Int) := ⟨_, rfl⟩
  rw [← hx0, ← hx1, ← hx2] at hG hG'
  have a0 : w5.cell? ⟨g, 0, none⟩ = some (.int .u64 x0) := hG.cell 0
  have a1 : w5.cell? ⟨g, 1, none⟩ = some (.int .u64 x1) := hG.cell 1
  have a2 : w5.cell? ⟨g, 2, none⟩ = some (.int .u64 x2) := hG.cell 2
  have c0 : w5.cell? ⟨g', 0, none⟩ = some (.int .u64 x0) := hG'.cell 0
  have c1 : w5.cell? ⟨g', 1, none⟩ = some (.int .u64 x1) := hG'.cell 1
  have c2 : w5.cell? ⟨g', 2, none⟩ = some (.int .u64 x2) := hG'.cell 2
  have K5 := Lib.hid k5
  clear hG hG' b5 k5 hx0 hx1 hx2
  go_wp2_with fail
  go_quiet (fail)
  have K5 := Lib.hid (K5.out.later (below_drewN (Below.refl _ _) nq))
  go_wp2_with fail
  refine (HZ.out.decK K5.out.bel).mono ?_
  rintro e w6 hS
  have hs5 := K5.out.size
  rcases hS with ⟨F', R', b', c', hd, A6, n6, D6, m6, rfl, hL6, hb6⟩ | ⟨hd, rfl, hb6⟩
  · have B6 : Below w.heap.size w w6 := K5.out.bel.trans (hb6.mono (by exact Nat.le_of_lt hs5))
    have hla := LM.bl_len b'
    have hlc := LM.bl_len c'
    obtain ⟨W6, hW6⟩ : ∃ W6, W6 = w6.alloc (.cells #[.int .i64 F', .slice A6 (LM.bl b').length n6, .int .i64 R', .slice D6 (LM.bl c').length m6] 24) := ⟨_, rfl⟩
    have X6 : Whole W6 w6.heap.size 24 #[.int .i64 F', .slice A6 (LM.bl b').length n6, .int .i64 R', .slice D6 (LM.bl c').length m6] := by rw [hW6]; exact Whole.fresh _ _ _
    have Q6 : Below w6.heap.size w6 W6 := by rw [hW6]; exact (Below.refl _ _).alloc (Nat.le_refl _) _
    have HX6 := Lib.hid X6
    have HB6 := Lib.hid (B6.trans (Q6.mono B6.size))
    have HL6 := Lib.hid (hL6.kept (Kept.of_below Q6 (Nat.le_refl _)))
    have hs6 := Q6.size
    have HD := Lib.hid hd
    have HW6 := Lib.hid hW6
    clear hd hL6 hb6 B6 X6 Q6 hW6
    go_wp2_with fail
    rw [← HW6.out]
    refine (HZ.out.rdecK HB6.out).mono ?_
    rintro e w7 hS7
    rcases hS7 with ⟨F7, R7, b7, c7, hd7, A7, n7, D7, m7, rfl, hL7, hb7⟩ | ⟨hd7, _⟩
    · rw [HD.out] at hd7
      simp only [Option.some.injEq, Prod.mk.injEq] at hd7
      obtain ⟨rfl, rfl, rfl, rfl⟩ := hd7
      obtain ⟨W7, hW7⟩ : ∃ W7, W7 = w7.alloc (.cells #[.int .i64 F', .slice A7 (LM.bl b').length n7, .int .i64 R', .slice D7 (LM.bl c').length m7] 24) := ⟨_, rfl⟩
      have X7 : Whole W7 w7.heap.size 24 #[.int .i64 F', .slice A7 (LM.bl b').length n7, .int .i64 R', .slice D7 (LM.bl c').length m7] := by rw [hW7]; exact Whole.fresh _ _ _
      have Q7 : Below w7.heap.size w7 W7 := by rw [hW7]; exact (Below.refl _ _).alloc (Nat.le_refl _) _
      have hs7 := hb7.size
      have hs7' := Q7.size
      have x6lt := HX6.out.lt
      have HX7 := Lib.hid X7
      have B67 := hb7.trans (Q7.mono hs7)
      have HY7 := Lib.hid (HX6.out.below B67 x6lt)
      have HB7 := Lib.hid (HB6.out.trans (B67.mono HB6.out.size))
      have HL7 := Lib.hid (hL7.kept (Kept.of_below Q7 (Nat.le_refl _)))
      have HM7 := Lib.hid (HL6.out.kept (Kept.of_below B67 hs6))
      have HW7 := Lib.hid hW7
      clear hL7 hb7 X7 Q7 hW7 B67
      go_wp2_with fail
      rw [← HW7.out]
      refine (alive_any _).mono ?_
      rintro e w8 ⟨rfl, hb8⟩
      have X8 := HX7.out.below hb8 HX7.out.lt
      have Y8 := HY7.out.below hb8 HY7.out.lt
      have s0 : w8.cell? ⟨w7.heap.size, 0, none⟩ = some (.int .i64 F') := X8.cell 0
      have s1 : w8.cell? ⟨w7.heap.size, 1, none⟩ = some (.slice A7 (LM.bl b').length n7) := X8.cell 1
      have s2 : w8.cell? ⟨w7.heap.size, 2, none⟩ = some (.int .i64 R') := X8.cell 2
      have s3 : w8.cell? ⟨w7.heap.size, 3, none⟩ = some (.slice D7 (LM.bl c').length m7) := X8.cell 3
      have t0 : w8.cell? ⟨w6.heap.size, 0, none⟩ = some (.int .i64 F') := Y8.cell 0
      have t1 : w8.cell? ⟨w6.heap.size, 1, none⟩ = some (.slice A6 (LM.bl b').length n6) := Y8.cell 1
      have t2 : w8.cell? ⟨w6.heap.size, 2, none⟩ = some (.int .i64 R') := Y8.cell 2
      have t3 : w8.cell? ⟨w6.heap.size, 3, none⟩ = some (.slice D6 (LM.bl c').length m6) := Y8.cell 3
      have hs8 := hb8.size
      have CS := words_same F' R' A6 _ n6 D6 _ m6 A7 n7 D7 m7 (LM.bl b') (LM.bl c') _ _ _ _ w8 (by omega) (by omega) (by omega) (by omega) (HM7.out.kept (Kept.of_below hb8 (by omega))) (HL7.out.kept (Kept.of_below hb8 hs7'))
      have HCS := Lib.hid CS
      have HB8 := Lib.hid (HB7.out.trans (hb8.mono HB7.out.size))
      clear CS X8 Y8 hb8
      go_wp2_with fail
      refine HCS.out.mono ?_
      rintro e w9 ⟨rfl, hb9⟩
      go_wp2
      go_ret
      exact ⟨rfl, HB8.out.trans (hb9.mono HB8.out.size)⟩
    · rw [HD.out] at hd7
      cases hd7
  · have B6 : Below w.heap.size w w6 := K5.out.bel.trans (hb6.mono (by exact Nat.le_of_lt hs5))
    obtain ⟨W6, hW6⟩ : ∃ W6, W6 = w6.alloc (.cells #[.int .i64 0, .slice none 0 0, .int .i64 0, .slice none 0 0] 24) := ⟨_, rfl⟩
    have X6 : Whole W6 w6.heap.size 24 #[.int .i64 0, .slice none 0 0, .int .i64 0, .slice none 0 0] := by rw [hW6]; exact Whole.fresh _ _ _
    have Q6 : Below w6.heap.size w6 W6 := by rw [hW6]; exact (Below.refl _ _).alloc (Nat.le_refl _) _
    have HX6 := Lib.hid X6
    have HB6 := Lib.hid (B6.trans (Q6.mono B6.size))
    have hs6 := Q6.size
    have HD := Lib.hid hd
    have HW6 := Lib.hid hW6
    clear hd hb6 B6 X6 Q6 hW6
    go_wp2_with fail
    rw [← HW6.out]
    refine (HZ.out.rdecK HB6.out).mono ?_
    rintro e w7 hS7
    rcases hS7 with ⟨F7, R7, b7, c7, hd7, _⟩ | ⟨_, rfl, hb7⟩
    · rw [HD.out] at hd7
      cases hd7
    · obtain ⟨W7, hW7⟩ : ∃ W7, W7 = w7.alloc (.cells #[.int .i64 0, .slice none 0 0, .int .i64 0, .slice none 0 0] 24) := ⟨_, rfl⟩
      have X7 : Whole W7 w7.heap.size 24 #[.int .i64 0, .slice none 0 0, .int .i64 0, .slice none 0 0] := by rw [hW7]; exact Whole.fresh _ _ _
      have Q7 : Below w7.heap.size w7 W7 := by rw [hW7]; exact (Below.refl _ _).alloc (Nat.le_refl _) _
      have hs7 := hb7.size
      have hs7' := Q7.size
      have x6lt := HX6.out.lt
      have HX7 := Lib.hid X7
      have B67 := hb7.trans (Q7.mono hs7)
      have HY7 := Lib.hid (HX6.out.below B67 x6lt)
      have HB7 := Lib.hid (HB6.out.trans (B67.mono HB6.out.size))
      have HW7 := Lib.hid hW7
      clear hb7 X7 Q7 hW7 B67
      go_wp2_with fail
      rw [← HW7.out]
      refine (alive_any _).mono ?_
      rintro e w8 ⟨rfl, hb8⟩
      have X8 := HX7.out.below hb8 HX7.out.lt
      have Y8 := HY7.out.below hb8 HY7.out.lt
      have s0 : w8.cell? ⟨w7.heap.size, 0, none⟩ = some (.int .i64 0) := X8.cell 0
      have s1 : w8.cell? ⟨w7.heap.size, 1, none⟩ = some (.slice none 0 0) := X8.cell 1
      have s2 : w8.cell? ⟨w7.heap.size, 2, none⟩ = some (.int .i64 0) := X8.cell 2
      have s3 : w8.cell? ⟨w7.heap.size, 3, none⟩ = some (.slice none 0 0) := X8.cell 3
      have t0 : w8.cell? ⟨w6.heap.size, 0, none⟩ = some (.int .i64 0) := Y8.cell 0
      have t1 : w8.cell? ⟨w6.heap.size, 1, none⟩ = some (.slice none 0 0) := Y8.cell 1
      have t2 : w8.cell? ⟨w6.heap.size, 2, none⟩ = some (.int .i64 0) := Y8.cell 2
      have t3 : w8.cell? ⟨w6.heap.size, 3, none⟩ = some (.slice none 0 0) := Y8.cell 3
      have hs8 := hb8.size
      have CS := words_same 0 0 none 0 0 none 0 0 none 0 none 0 [] [] 0 0 0 0 w8 (by omega) (by omega) (by omega) (by omega) (no_lists _ _ _) (no_lists _ _ _)
      have HCS := Lib.hid CS
      have HB8 := Lib.hid (HB7.out.trans (hb8.mono HB7.out.size))
      clear CS X8 Y8 hb8
      go_wp2_with fail
      refine HCS.out.mono ?_
      rintro e w9 ⟨rfl, hb9⟩
      go_wp2
      go_ret
      exact ⟨rfl, HB8.out.trans (hb9.mono HB8.out.size)⟩

set_option maxRecDepth 100000 in
set_option maxHeartbeats 4000000 in
theorem words_no (F R : Int) (A : Option Addr) (n c : Nat) (xs : List Int) (D : Option Addr) (m d : Nat) (ys : List Int) (Z : Option Addr) (p q : Nat) (zs : List Int) (w : World) (hF : I64 F) (hR : I64 R) (hL : Lists w 0 w.heap.size A n c xs D m d ys) (hZ : WordsK w Z p zs) (h1 : n ≤ 100) (h2 : m ≤ 100) (hr : LM.right F R xs ys = false) :
    Calls Tryd.prog 3 #[.agg #[.int .i64 F, .slice A n c, .int .i64 R, .slice D m d], .slice Z p q] w fun e w' => e = .returned (.bool true) ∧ Below w.heap.size w w' := by
  have k0 := LayK.first hL hF hR (by omega : n ≤ 1000000) (by omega : m ≤ 1000000)
  have HR := Lib.hid hr
  have HZ := Lib.hid hZ
  have K0 := Lib.hid (k0.shortK h1 h2)
  clear hL hF hR hr k0 hZ
  go_enter Tryd.func3, Tryd.ntmps3
  go_wp2_with fail
  refine K0.out.mono ?_
  rintro e w1 ⟨rfl, b1, k1⟩
  obtain ⟨p0, p1, p2, p3⟩ := k1.cells
  have C := k1.refRightK
  rw [HR.out] at C
  have K1 := Lib.hid C
  clear k1 b1 C
  go_wp2_with fail
  refine K1.out.mono ?_
  rintro e w2 ⟨rfl, b2, k2⟩
  clear p0 p1 p2 p3
  obtain ⟨p0, p1, p2, p3⟩ := k2.cells
  have K2 := Lib.hid (k2.encNoK HR.out)
  clear k2 b2
  go_wp2_with fail
  refine K2.out.mono ?_
  rintro e w3 ⟨rfl, b3, k3⟩
  clear p0 p1 p2 p3
  obtain ⟨p0, p1, p2, p3⟩ := k3.cells
  have C := k3.rightK
  rw [HR.out] at C
  have K3 := Lib.hid C
  clear k3 C b3
  go_wp2_with fail
  refine K3.out.mono ?_
  rintro e w5 ⟨rfl, b5, k5⟩
  clear p0 p1 p2 p3
  have K5 := Lib.hid k5
  clear k5 b5
  go_wp2_with fail
  refine (HZ.out.decK K5.out.bel).mono ?_
  rintro e w6 hS
  have hs5 := K5.out.size
  rcases hS with ⟨F', R', b', c', hd, A6, n6, D6, m6, rfl, hL6, hb6⟩ | ⟨hd, rfl, hb6⟩
  · have B6 : Below w.heap.size w w6 := K5.out.bel.trans (hb6.mono (by exact Nat.le_of_lt hs5))
    have hla := LM.bl_len b'
    have hlc := LM.bl_len c'
    obtain ⟨W6, hW6⟩ : ∃ W6, W6 = w6.alloc (.cells #[.int .i64 F', .slice A6 (LM.bl b').length n6, .int .i64 R', .slice D6 (LM.bl c').length m6] 24) := ⟨_, rfl⟩
    have X6 : Whole W6 w6.heap.size 24 #[.int .i64 F', .slice A6 (LM.bl b').length n6, .int .i64 R', .slice D6 (LM.bl c').length m6] := by rw [hW6]; exact Whole.fresh _ _ _
    have Q6 : Below w6.heap.size w6 W6 := by rw [hW6]; exact (Below.refl _ _).alloc (Nat.le_refl _) _
    have HX6 := Lib.hid X6
    have HB6 := Lib.hid (B6.trans (Q6.mono B6.size))
    have HL6 := Lib.hid (hL6.kept (Kept.of_below Q6 (Nat.le_refl _)))
    have hs6 := Q6.size
    have HD := Lib.hid hd
    have HW6 := Lib.hid hW6
    clear hd hL6 hb6 B6 X6 Q6 hW6
    go_wp2_with fail
    rw [← HW6.out]
    refine (HZ.out.rdecK HB6.out).mono ?_
    rintro e w7 hS7
    rcases hS7 with ⟨F7, R7, b7, c7, hd7, A7, n7, D7, m7, rfl, hL7, hb7⟩ | ⟨hd7, _⟩
    · rw [HD.out] at hd7
      simp only [Option.some.injEq, Prod.mk.injEq] at hd7
      obtain ⟨rfl, rfl, rfl, rfl⟩ := hd7
      obtain ⟨W7, hW7⟩ : ∃ W7, W7 = w7.alloc (.cells #[.int .i64 F', .slice A7 (LM.bl b').length n7, .int .i64 R', .slice D7 (LM.bl c').length m7] 24) := ⟨_, rfl⟩
      have X7 : Whole W7 w7.heap.size 24 #[.int .i64 F', .slice A7 (LM.bl b').length n7, .int .i64 R', .slice D7 (LM.bl c').length m7] := by rw [hW7]; exact Whole.fresh _ _ _
      have Q7 : Below w7.heap.size w7 W7 := by rw [hW7]; exact (Below.refl _ _).alloc (Nat.le_refl _) _
      have hs7 := hb7.size
      have hs7' := Q7.size
      have x6lt := HX6.out.lt
      have HX7 := Lib.hid X7
      have B67 := hb7.trans (Q7.mono hs7)
      have HY7 := Lib.hid (HX6.out.below B67 x6lt)
      have HB7 := Lib.hid (HB6.out.trans (B67.mono HB6.out.size))
      have HL7 := Lib.hid (hL7.kept (Kept.of_below Q7 (Nat.le_refl _)))
      have HM7 := Lib.hid (HL6.out.kept (Kept.of_below B67 hs6))
      have HW7 := Lib.hid hW7
      clear hL7 hb7 X7 Q7 hW7 B67
      go_wp2_with fail
      rw [← HW7.out]
      refine (alive_any _).mono ?_
      rintro e w8 ⟨rfl, hb8⟩
      have X8 := HX7.out.below hb8 HX7.out.lt
      have Y8 := HY7.out.below hb8 HY7.out.lt
      have s0 : w8.cell? ⟨w7.heap.size, 0, none⟩ = some (.int .i64 F') := X8.cell 0
      have s1 : w8.cell? ⟨w7.heap.size, 1, none⟩ = some (.slice A7 (LM.bl b').length n7) := X8.cell 1
      have s2 : w8.cell? ⟨w7.heap.size, 2, none⟩ = some (.int .i64 R') := X8.cell 2
      have s3 : w8.cell? ⟨w7.heap.size, 3, none⟩ = some (.slice D7 (LM.bl c').length m7) := X8.cell 3
      have t0 : w8.cell? ⟨w6.heap.size, 0, none⟩ = some (.int .i64 F') := Y8.cell 0
      have t1 : w8.cell? ⟨w6.heap.size, 1, none⟩ = some (.slice A6 (LM.bl b').length n6) := Y8.cell 1
      have t2 : w8.cell? ⟨w6.heap.size, 2, none⟩ = some (.int .i64 R') := Y8.cell 2
      have t3 : w8.cell? ⟨w6.heap.size, 3, none⟩ = some (.slice D6 (LM.bl c').length m6) := Y8.cell 3
      have hs8 := hb8.size
      have CS := words_same F' R' A6 _ n6 D6 _ m6 A7 n7 D7 m7 (LM.bl b') (LM.bl c') _ _ _ _ w8 (by omega) (by omega) (by omega) (by omega) (HM7.out.kept (Kept.of_below hb8 (by omega))) (HL7.out.kept (Kept.of_below hb8 hs7'))
      have HCS := Lib.hid CS
      have HB8 := Lib.hid (HB7.out.trans (hb8.mono HB7.out.size))
      clear CS X8 Y8 hb8
      go_wp2_with fail
      refine HCS.out.mono ?_
      rintro e w9 ⟨rfl, hb9⟩
      go_wp2
      go_ret
      exact ⟨rfl, HB8.out.trans (hb9.mono HB8.out.size)⟩
    · rw [HD.out] at hd7
      cases hd7
  · have B6 : Below w.heap.size w w6 := K5.out.bel.trans (hb6.mono (by exact Nat.le_of_lt hs5))
    obtain ⟨W6, hW6⟩ : ∃ W6, W6 = w6.alloc (.cells #[.int .i64 0, .slice none 0 0, .int .i64 0, .slice none 0 0] 24) := ⟨_, rfl⟩
    have X6 : Whole W6 w6.heap.size 24 #[.int .i64 0, .slice none 0 0, .int .i64 0, .slice none 0 0] := by rw [hW6]; exact Whole.fresh _ _ _
    have Q6 : Below w6.heap.size w6 W6 := by rw [hW6]; exact (Below.refl _ _).alloc (Nat.le_refl _) _
    have HX6 := Lib.hid X6
    have HB6 := Lib.hid (B6.trans (Q6.mono B6.size))
    have hs6 := Q6.size
    have HD := Lib.hid hd
    have HW6 := Lib.hid hW6
    clear hd hb6 B6 X6 Q6 hW6
    go_wp2_with fail
    rw [← HW6.out]
    refine (HZ.out.rdecK HB6.out).mono ?_
    rintro e w7 hS7
    rcases hS7 with ⟨F7, R7, b7, c7, hd7, _⟩ | ⟨_, rfl, hb7⟩
    · rw [HD.out] at hd7
      cases hd7
    · obtain ⟨W7, hW7⟩ : ∃ W7, W7 = w7.alloc (.cells #[.int .i64 0, .slice none 0 0, .int .i64 0, .slice none 0 0] 24) := ⟨_, rfl⟩
      have X7 : Whole W7 w7.heap.size 24 #[.int .i64 0, .slice none 0 0, .int .i64 0, .slice none 0 0] := by rw [hW7]; exact Whole.fresh _ _ _
      have Q7 : Below w7.heap.size w7 W7 := by rw [hW7]; exact (Below.refl _ _).alloc (Nat.le_refl _) _
      have hs7 := hb7.size
      have hs7' := Q7.size
      have x6lt := HX6.out.lt
      have HX7 := Lib.hid X7
      have B67 := hb7.trans (Q7.mono hs7)
      have HY7 := Lib.hid (HX6.out.below B67 x6lt)
      have HB7 := Lib.hid (HB6.out.trans (B67.mono HB6.out.size))
      have HW7 := Lib.hid hW7
      clear hb7 X7 Q7 hW7 B67
      go_wp2_with fail
      rw [← HW7.out]
      refine (alive_any _).mono ?_
      rintro e w8 ⟨rfl, hb8⟩
      have X8 := HX7.out.below hb8 HX7.out.lt
      have Y8 := HY7.out.below hb8 HY7.out.lt
      have s0 : w8.cell? ⟨w7.heap.size, 0, none⟩ = some (.int .i64 0) := X8.cell 0
      have s1 : w8.cell? ⟨w7.heap.size, 1, none⟩ = some (.slice none 0 0) := X8.cell 1
      have s2 : w8.cell? ⟨w7.heap.size, 2, none⟩ = some (.int .i64 0) := X8.cell 2
      have s3 : w8.cell? ⟨w7.heap.size, 3, none⟩ = some (.slice none 0 0) := X8.cell 3
      have t0 : w8.cell? ⟨w6.heap.size, 0, none⟩ = some (.int .i64 0) := Y8.cell 0
      have t1 : w8.cell? ⟨w6.heap.size, 1, none⟩ = some (.slice none 0 0) := Y8.cell 1
      have t2 : w8.cell? ⟨w6.heap.size, 2, none⟩ = some (.int .i64 0) := Y8.cell 2
      have t3 : w8.cell? ⟨w6.heap.size, 3, none⟩ = some (.slice none 0 0) := Y8.cell 3
      have hs8 := hb8.size
      have CS := words_same 0 0 none 0 0 none 0 0 none 0 none 0 [] [] 0 0 0 0 w8 (by omega) (by omega) (by omega) (by omega) (no_lists _ _ _) (no_lists _ _ _)
      have HCS := Lib.hid CS
      have HB8 := Lib.hid (HB7.out.trans (hb8.mono HB7.out.size))
      clear CS X8 Y8 hb8
      go_wp2_with fail
      refine HCS.out.mono ?_
      rintro e w9 ⟨rfl, hb9⟩
      go_wp2
      go_ret
      exact ⟨rfl, HB8.out.trans (hb9.mono HB8.out.size)⟩

theorem words_any (F R : Int) (A : Option Addr) (n c : Nat) (xs : List Int) (D : Option Addr) (m d : Nat) (ys : List Int) (Z : Option Addr) (p q : Nat) (zs : List Int) (w : World) (hF : I64 F) (hR : I64 R) (hL : Lists w 0 w.heap.size A n c xs D m d ys) (hZ : NS .u64 w w.heap.size Z p zs) (_ : p ≤ q) (hT : Tab w) :
    Calls Tryd.prog 3 #[.agg #[.int .i64 F, .slice A n c, .int .i64 R, .slice D m d], .slice Z p q] w fun e w' => e = .returned (.bool true) ∧ Below w.heap.size w w' := by
  have h0 : 0 < w.heap.size := cell_lt (hT 0 (by omega))
  by_cases hs : n ≤ 100 ∧ m ≤ 100
  · cases hr : LM.right F R xs ys
    · exact words_no F R A n c xs D m d ys Z p q zs w hF hR hL ⟨hZ, hT, h0⟩ hs.1 hs.2 hr
    · exact words_yes F R A n c xs D m d ys Z p q zs w hF hR hL ⟨hZ, hT, h0⟩ hs.1 hs.2 hr
  · exact words_long F R A n c D m d Z p q w hs
end Go.Proofs.YtaffceodcfgeeaaDoor
