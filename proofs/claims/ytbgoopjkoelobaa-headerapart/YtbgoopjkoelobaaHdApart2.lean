/- The walk of HeaderApart. -/
import Derived.Test.YtbgoopjkoelobaaHdApart
namespace Go.Proofs.Ytbgoopjkoelobaa
open Go.RowKit

structure Box3 (w : World) (L C S A B D p q r u v z : Int) (W : World) : Prop where
  one : Box w w.heap.size 23 L C S W
  two : Box w (w.heap.size + 1) 23 A B D W
  six : Whole W (w.heap.size + 2) 49 #[.int .i64 p, .int .i64 q, .int .i64 r, .int .i64 u, .int .i64 v, .int .i64 z]
section
variable {w : World} {L C S A B D p q r u v z : Int} {W W' : World}
theorem Box3.step (h : Box3 w L C S A B D p q r u v z W) (hb : Below W.heap.size W W') : Box3 w L C S A B D p q r u v z W' := ⟨h.one.step hb, h.two.step hb, h.six.below hb h.six.lt⟩
theorem Box3.alloc (h : Box3 w L C S A B D p q r u v z W) (o : Obj) : Box3 w L C S A B D p q r u v z (W.alloc o) := ⟨h.one.alloc o, h.two.alloc o, h.six.alloc o⟩
theorem Box3.first : Box3 w L C S A B D p q r u v z (((w.alloc (.cells #[.int .i64 L, .int .i64 C, .int .i64 S] 23)).alloc (.cells #[.int .i64 A, .int .i64 B, .int .i64 D] 23)).alloc (.cells #[.int .i64 p, .int .i64 q, .int .i64 r, .int .i64 u, .int .i64 v, .int .i64 z] 49)) :=
  ⟨((Box.first w _ L C S).alloc _).alloc _, Box.alloc ⟨Whole.fresh' (by simp), ((Box.first w _ L C S).alloc _).bel⟩ _, Whole.fresh' (by simp)⟩
theorem Box3.cells (h : Box3 w L C S A B D p q r u v z W) : W.cell? ⟨w.heap.size + 2, 0, none⟩ = some (.int .i64 p) ∧ W.cell? ⟨w.heap.size + 2, 1, none⟩ = some (.int .i64 q) ∧ W.cell? ⟨w.heap.size + 2, 2, none⟩ = some (.int .i64 r) ∧ W.cell? ⟨w.heap.size + 2, 3, none⟩ = some (.int .i64 u) ∧ W.cell? ⟨w.heap.size + 2, 4, none⟩ = some (.int .i64 v) ∧ W.cell? ⟨w.heap.size + 2, 5, none⟩ = some (.int .i64 z) := ⟨h.six.cell 0, h.six.cell 1, h.six.cell 2, h.six.cell 3, h.six.cell 4, h.six.cell 5⟩
end

set_option maxRecDepth 100000 in
set_option maxHeartbeats 4000000 in
theorem apart_core (L C S A B D p q r u v z a E b F x M y N : Int)
    (HE : Hid (∀ w, Calls Try.prog 9 #[.agg #[.int .i64 L, .int .i64 C, .int .i64 S]] w (EncIs a E w)))
    (HF : Hid (∀ w, Calls Try.prog 9 #[.agg #[.int .i64 A, .int .i64 B, .int .i64 D]] w (EncIs b F w)))
    (HL : Hid (E = 0 → ∃ k i g, ∀ w, Calls Try.prog 18 #[.int .u64 a] w (LinkIs k i g 4 w)))
    (HI : Hid (E = 0 → F = 0 → (a = b ↔ (L = A ∧ C = B ∧ S = D))))
    (HX : Hid (∀ w, Calls Try.prog 15 #[.agg #[.int .i64 p, .int .i64 q, .int .i64 r]] w (EncIs x M w)))
    (HY : Hid (∀ w, Calls Try.prog 15 #[.agg #[.int .i64 u, .int .i64 v, .int .i64 z]] w (EncIs y N w)))
    (HJ : Hid (M = 0 → N = 0 → (x = y ↔ (p = u ∧ q = v ∧ r = z)))) (w : World) :
    Calls Try.prog 6 #[.agg #[.int .i64 L, .int .i64 C, .int .i64 S], .agg #[.int .i64 A, .int .i64 B, .int .i64 D], .agg #[.int .i64 p, .int .i64 q, .int .i64 r, .int .i64 u, .int .i64 v, .int .i64 z]] w (IsBool true w) := by
  go_enter Try.func6, Try.ntmps6
  go_wp2_with fail
  refine (HE.out _).mono ?_
  rintro e w1 ⟨rfl, hb1⟩
  have K1 := Lib.hid ((Box3.first (w := w) (L := L) (C := C) (S := S) (A := A) (B := B) (D := D) (p := p) (q := q) (r := r) (u := u) (v := v) (z := z)).step hb1)
  obtain ⟨c0, c1, c2⟩ := K1.out.two.cells
  clear hb1
  go_wp2_with fail
  refine (HF.out _).mono ?_
  rintro e w2 ⟨rfl, hb2⟩
  have K2 := Lib.hid (K1.out.step hb2)
  clear hb2 c0 c1 c2
  go_upto_if 28 with (fail)
  go_cut [6] (fun s wc => s = .bool false ∧ Box3 w L C S A B D p q r u v z wc)
  case first =>
    by_cases hE : E = 0
    · subst hE
      obtain ⟨k, i, g, HK⟩ := HL.out (by first | exact rfl | exact trivial)
      have HK' := Lib.hid HK
      clear HK
      go_wp2_with fail
      refine (HK'.out _).mono ?_
      rintro e w3 ⟨rfl, hb3⟩
      have K3 := Lib.hid (K2.out.step hb3)
      clear hb3
      go_wp2_with fail
      go_meet
      exact ⟨rfl, K3.out.alloc _⟩
    · go_wp2_with fail
      go_meet
      exact ⟨rfl, K2.out⟩
  case rest =>
    obtain ⟨rfl, K3'⟩ := hcut
    have K3 := Lib.hid K3'
    obtain ⟨c0, c1, c2⟩ := K3.out.one.cells
    obtain ⟨d0, d1, d2⟩ := K3.out.two.cells
    clear K1 K2 K3'
    go_upto_region 7 with (fail)
    go_cut [50] (fun s wd => s = .bool false ∧ wc = wd)
    case first =>
      by_cases hE : E = 0
      · subst hE
        by_cases hF : F = 0
        · subst hF
          have HI' := Lib.hid (HI.out (by first | exact rfl | exact trivial) (by first | exact rfl | exact trivial))
          by_cases hab : L = A ∧ C = B ∧ S = D
          · have e1 : a = b := HI'.out.2 hab
            obtain ⟨rfl, rfl, rfl⟩ := hab
            subst e1
            go_wp2_with fail
            all_goals (go_meet; exact ⟨rfl, rfl⟩)
          · have e1 : (a == b) = false := by have := fun h => hab (HI'.out.1 h); simpa using this
            by_cases h1 : L = A
            · subst h1
              by_cases h2 : C = B
              · subst h2
                have h3 : ¬ S = D := fun h => hab ⟨rfl, rfl, h⟩
                have h4 : (S == D) = false := by simpa using h3
                clear hab h3
                go_wp2_with fail
                all_goals (go_meet; exact ⟨rfl, rfl⟩)
              · have h4 : (C == B) = false := by simpa using h2
                clear hab h2
                go_wp2_with fail
                all_goals (go_meet; exact ⟨rfl, rfl⟩)
            · have h4 : (L == A) = false := by simpa using h1
              clear hab h1
              go_wp2_with fail
              all_goals (go_meet; exact ⟨rfl, rfl⟩)
        · go_wp2_with fail
          all_goals (go_meet; exact ⟨rfl, rfl⟩)
      · go_wp2_with fail
        all_goals (go_meet; exact ⟨rfl, rfl⟩)
    case rest =>
      obtain ⟨rfl, rfl⟩ := hcut
      clear c0 c1 c2 d0 d1 d2 HI HL HE HF
      obtain ⟨c0, c1, c2, c3, c4, c5⟩ := K3.out.cells
      go_wp2_with fail
      refine (HX.out _).mono ?_
      rintro e w4 ⟨rfl, hb4⟩
      have K4 := Lib.hid (K3.out.step hb4)
      clear hb4 c0 c1 c2 c3 c4 c5
      obtain ⟨c0, c1, c2, c3, c4, c5⟩ := K4.out.cells
      go_wp2_with fail
      refine (HY.out _).mono ?_
      rintro e w5 ⟨rfl, hb5⟩
      have K5 := Lib.hid (K4.out.step hb5)
      clear hb5 c0 c1 c2 c3 c4 c5
      go_wp2_with fail
      refine (halive_any _).mono ?_
      rintro e w6 ⟨rfl, hb6⟩
      have K6 := Lib.hid (K5.out.step hb6)
      obtain ⟨c0, c1, c2, c3, c4, c5⟩ := K6.out.cells
      clear hb6
      by_cases hE : M = 0
      · subst hE
        by_cases hF : N = 0
        · subst hF
          have HJ' := Lib.hid (HJ.out (by first | exact rfl | exact trivial) (by first | exact rfl | exact trivial))
          by_cases hab : p = u ∧ q = v ∧ r = z
          · have e1 : x = y := HJ'.out.2 hab
            obtain ⟨rfl, rfl, rfl⟩ := hab
            subst e1
            go_wp2_with fail
            all_goals (go_ret; exact ⟨rfl, K6.out.one.bel⟩)
          · have e1 : (x == y) = false := by have := fun h => hab (HJ'.out.1 h); simpa using this
            have HN := Lib.hid hab
            clear hab
            go_wp2_with fail
            all_goals first
              | (exfalso; have := HN.out; omega)
              | (go_ret; exact ⟨rfl, K6.out.one.bel⟩)
        · go_wp2_with fail
          all_goals (go_ret; exact ⟨rfl, K6.out.one.bel⟩)
      · go_wp2_with fail
        all_goals (go_ret; exact ⟨rfl, K6.out.one.bel⟩)

theorem apartL_any (L C S A B D p q r u v z : Int) (w : World) :
    Calls Try.prog 6 #[.agg #[.int .i64 L, .int .i64 C, .int .i64 S], .agg #[.int .i64 A, .int .i64 B, .int .i64 D], .agg #[.int .i64 p, .int .i64 q, .int .i64 r, .int .i64 u, .int .i64 v, .int .i64 z]] w fun e w' => e = .returned (.bool true) ∧ Below w.heap.size w w' :=
  apart_core L C S A B D p q r u v z (HM.eW L C S) (HM.eE L C S) (HM.eW A B D) (HM.eE A B D) (HM.wW p q r) (HM.wE p q r) (HM.wW u v z) (HM.wE u v z) (Lib.hid (hencode_any L C S)) (Lib.hid (hencode_any A B D))
    (Lib.hid fun h => ⟨_, _, _, fun W => by have H := hlink_any (HM.eW L C S) (HM.eW_word L C S) W; rw [HM.enc_lnk h] at H; exact H⟩) (Lib.hid HM.enc_inj) (Lib.hid (hword_any p q r)) (Lib.hid (hword_any u v z)) (Lib.hid HM.word_inj) w
end Go.Proofs.Ytbgoopjkoelobaa
