/- A law's own tree; contracts of the law package's alive and grown. -/
import Derived.Test.YtmdcpeikjchbgaaTrOpen
import Derived.Test.YtmdcpeikjchbgaaTrRef
namespace Go.Proofs.Ytmdcpeikjchbgaa
open Go.RowKit Go.Maps

/-- A tree made since w0. -/
structure Tm (w0 w : World) (b m n : Nat) (f : TR.F) : Prop where
  at_ : TrAt w b m n f
  hb : w0.heap.size ≤ b
  hm : w0.heap.size ≤ m
  bel : Below w0.heap.size w0 w
section
variable {w0 w w' : World} {b m n n' : Nat} {f f' : TR.F}
theorem Tm.later (h : Tm w0 w b m n f) (k : Below w.heap.size w w') : Tm w0 w' b m n f := ⟨h.at_.below k, h.hb, h.hm, h.bel.trans (k.mono h.bel.size)⟩
theorem Tm.step (h : Tm w0 w b m n f) (t : TrAt w' b m n' f') (k : Aft [b, m] w w') : Tm w0 w' b m n' f' :=
  ⟨t, h.hb, h.hm, h.bel.trans (k.below (by simp; exact ⟨h.hb, h.hm⟩) h.bel.size)⟩
theorem Tm.alloc (h : Tm w0 w b m n f) (o : Obj) : Tm w0 (w.alloc o) b m n f := h.later ((Below.refl _ _).alloc (Nat.le_refl _) _)
theorem Tm.drewN (h : Tm w0 w b m n f) (k : Nat) : Tm w0 (w.drewN k) b m n f := h.later (below_drewN (Below.refl _ _) k)
theorem Tm.heap (h : Tm w0 w b m n f) (k : Below w.heap.size w w') : Tm w0 w' b m n f := h.later k
end

/-- The example's parents. -/
def aPa (k : Nat) : Nat := if k = 0 then 0 else if k = 3 then 2 else 1
def aSt : Nat → TR.F
  | 0 => fun _ => none
  | k + 1 => TR.addF k (aSt k) (aPa k)
theorem aSt_err : ∀ k, k < 4 → TR.addErr k (aSt k) (aPa k : Nat) = 0 := by decide
theorem aSt_merge : TR.mergErr (aSt 4) 2 = 0 ∧ TR.mergV (aSt 4) 2 = 1 := by decide
theorem aSt_kids : TR.mayErr (TR.mergS (aSt 4) 2) 1 = 0 ∧ TR.kidsI 4 (TR.mergS (aSt 4) 2) 1 = [3, 4] := by decide
theorem aPa_at : ∀ k, k < 4 → (#[Value.int .i64 0, .int .i64 1, .int .i64 1, .int .i64 2] : Array Value)[k]? = some (.int .i64 (aPa k : Nat)) := by
  intro k hk
  have : k = 0 ∨ k = 1 ∨ k = 2 ∨ k = 3 := by omega
  rcases this with rfl | rfl | rfl | rfl <;> rfl

set_option maxHeartbeats 1000000 in
theorem talive_any (w : World) : Calls Try.prog 16 #[] w fun e w' => e = .returned (.bool true) ∧ Below w.heap.size w w' := by
  have HN := Lib.hid (tnew_any w)
  go_enter Try.func16, Try.ntmps16
  go_wp2_with fail
  refine HN.out.mono ?_
  rintro e w1 ⟨b, m, rfl, ht, hb, hm, bel⟩
  have HT := Lib.hid (show Tm w w1 b m 0 (fun _ => none) from ⟨ht, hb, hm, bel⟩)
  clear ht hb hm bel HN
  go_wp2_with fail
  go_loopw [15] (fun i wr => ∃ k : Nat, k ≤ 4 ∧ i = .int .i64 k ∧ Tm w wr b m k (aSt k) ∧ Whole wr w1.heap.size 3 #[.int .i64 0, .int .i64 1, .int .i64 1, .int .i64 2]) (fun i _ => 4 - (intOf i).toNat)
  case atStart => exact ⟨0, by omega, rfl, HT.out.alloc _, Whole.fresh _ _ _⟩
  case round =>
    obtain ⟨k, hk, rfl, ht, hw⟩ := hrel
    by_cases hlt : k < 4
    · have c1 : wr.cell? ⟨w1.heap.size, k, none⟩ = some (.int .i64 (aPa k : Nat)) := by rw [hw.cell, aPa_at k hlt]
      have hle : aPa k ≤ 2 := by unfold aPa; split <;> (try split) <;> omega
      have HA := tadd_any ht.at_ (by omega) (aPa k : Nat) (I64.nat (by omega))
      have he := aSt_err k hlt
      have h1 : TR.addV k (aSt k) (aPa k : Nat) = k + 1 := by unfold TR.addV; rw [if_pos he]
      have h2 : TR.addN k (aSt k) (aPa k : Nat) = k + 1 := by unfold TR.addN; rw [if_pos he]
      have h3 : TR.addS k (aSt k) (aPa k : Nat) = aSt (k + 1) := by unfold TR.addS; rw [if_pos he]; rfl
      rw [h1, h2, h3, he] at HA
      have HA2 := Lib.hid HA
      have HTk := Lib.hid ht
      have HW := Lib.hid hw
      have hbl := Lib.hid (show b ≠ w1.heap.size ∧ m ≠ w1.heap.size from ⟨fun e => by have := HT.out.at_.box.lt; omega, fun e => by have := HT.out.at_.map.lt; omega⟩)
      clear HA he h1 h2 h3 ht hw
      generalize aPa k = p at *
      go_wp2_with fail
      refine HA2.out.mono ?_
      rintro e w2 ⟨rfl, ht2, ha2⟩
      have HT2 := Lib.hid (HTk.out.step ht2 ha2)
      have HW2 := Lib.hid (ha2.whole HW.out (by have := hbl.out; simp; omega))
      clear ht2 ha2
      go_wp2
      go_roundw
      case rel => exact ⟨k + 1, by omega, by go_num, HT2.out, HW2.out⟩
      case measure => simp [intOf]; omega
    · obtain rfl : k = 4 := by omega
      have HM := tmerge_any ht.at_ 2 (I64.nat (i := 2) (by omega))
      rw [aSt_merge.1, aSt_merge.2] at HM
      have HM2 := Lib.hid HM
      have HTk := Lib.hid ht
      clear HM ht hw
      go_wp2_with fail
      refine HM2.out.mono ?_
      rintro e w2 ⟨rfl, ht2, ha2⟩
      have HK := tkids_any ht2 1 (I64.nat (i := 1) (by omega))
      rw [aSt_kids.1, aSt_kids.2] at HK
      have HK2 := Lib.hid HK
      have HT2 := Lib.hid (HTk.out.step ht2 ha2)
      clear ht2 ha2 HK HM2 HTk
      go_wp2_with fail
      refine HK2.out.mono ?_
      rintro e w3 ⟨v, rfl, hv, hb3⟩
      have HT3 := Lib.hid (HT2.out.later hb3)
      have HV := hv.below ((Below.refl w3.heap.size w3).alloc (Nat.le_refl _) (.cells #[.int .i64 3, .int .i64 4] 3))
      have hlit : NewR w3.heap.size (w3.alloc (.cells #[.int .i64 3, .int .i64 4] 3)) (.slice (some ⟨w3.heap.size, 0, none⟩) 2 2) [3, 4] :=
        ⟨by simp [TR.zs], .inr ⟨w3.heap.size, 2, _, rfl, Nat.le_refl _, Whole.fresh w3 _ _, by simp, by unfold maxLen; omega, by simp, by simp [TR.zs]⟩⟩
      have HS := Lib.hid (trSame v _ [3, 4] _ (by simp) HV hlit)
      clear hv hb3 HV hlit HK2 HT2
      go_wp2_with fail
      refine HS.out.mono ?_
      rintro e w4 ⟨rfl, q, rfl⟩
      go_wp2
      go_ret
      exact ⟨rfl, ((HT3.out.alloc _).drewN q).bel⟩

/-- What grown leaves. -/
def GrP (len : Nat) (w : World) (e : Ending) (w' : World) : Prop :=
  (120 < len ∧ e = .returned (.tuple #[.pointer none, .int .i64 0]) ∧ Below w.heap.size w w') ∨
  (len ≤ 120 ∧ ∃ b m n f, e = .returned (.tuple #[.pointer (some ⟨b, 0, none⟩), .int .i64 (n : Nat)]) ∧ Tm w w' b m n f ∧ n ≤ 120)
set_option maxHeartbeats 2000000 in
theorem tgrown_any (A : Option Addr) (n c : Nat) (ls : List (Int × Int)) (w : World) (hl : AcS w w.heap.size A n ls) :
    Calls Try.prog 23 #[.slice A n c] w (GrP n w) := by
  have HN := Lib.hid (tnew_any w)
  have HL := Lib.hid hl
  clear hl
  by_cases h120 : 120 < n
  · go_enter Try.func23, Try.ntmps23
    go_wp2_with fail
    refine HN.out.mono ?_
    rintro e w1 ⟨b, m, rfl, ht, hb, hm, bel⟩
    clear ht HN
    go_wp2
    go_ret2
    exact .inl ⟨h120, rfl, bel⟩
  · go_enter Try.func23, Try.ntmps23
    go_wp2_with fail
    refine HN.out.mono ?_
    rintro e w1 ⟨b, m, rfl, ht, hb, hm, bel⟩
    have HT := Lib.hid (show Tm w w1 b m 0 (fun _ => none) from ⟨ht, hb, hm, bel⟩)
    clear ht hb hm bel HN
    go_wp2_with fail
    go_loopw [5, 20] (fun u i wr => ∃ (k j : Nat) (f : TR.F), k ≤ n ∧ j ≤ k ∧ i = .int .i64 k ∧ u = .int .i64 j ∧ Tm w wr b m j f) (fun _ i _ => n - (intOf i).toNat)
    case atStart => exact ⟨0, 0, _, by omega, Nat.le_refl _, rfl, rfl, HT.out⟩
    case round =>
      obtain ⟨k, j, f, hk, hj, rfl, rfl, ht⟩ := hrel
      by_cases hlt : k < n
      · obtain ⟨ab, off, K, x, rfl, hab, hK, hx, c0, c1⟩ := (HL.out.below ht.bel).at_ hlt
        have hI := Lib.hid hx
        have hT2 := ht.alloc (.cells #[.int .i64 K, .int .i64 x] 37)
        have HT2 := Lib.hid hT2
        have HTk := Lib.hid ht
        unfold I64 at hx hK
        by_cases k0 : K = 0
        · subst k0
          have HA := tadd_any hT2.at_ (by omega) x hI.out
          by_cases he : TR.addErr j f x = 0
          · have h1 : TR.addN j f x = j + 1 := by unfold TR.addN; rw [if_pos he]
            rw [he, h1] at HA
            have HA2 := Lib.hid HA
            clear HA he h1 ht hT2
            generalize TR.addV j f x = av at *
            generalize TR.addS j f x = f2 at *
            go_wp2_with fail
            refine HA2.out.mono ?_
            rintro e w2 ⟨rfl, ht2, ha2⟩
            have HT3 := Lib.hid (HT2.out.step ht2 ha2)
            clear ht2 ha2
            go_wp2
            go_roundw
            case rel => exact ⟨k + 1, j + 1, f2, by omega, by omega, by go_num, by go_num, HT3.out⟩
            case measure => simp [intOf]; omega
          · have h1 : TR.addN j f x = j := by unfold TR.addN; rw [if_neg he]
            rw [h1] at HA
            have HA2 := Lib.hid HA
            have d0 : (TR.addErr j f x == 0) = false := by simpa using he
            clear HA he h1 ht hT2
            generalize TR.addErr j f x = er at *
            generalize TR.addV j f x = av at *
            generalize TR.addS j f x = f2 at *
            go_wp2_with fail
            refine HA2.out.mono ?_
            rintro e w2 ⟨rfl, ht2, ha2⟩
            have HT3 := Lib.hid (HT2.out.step ht2 ha2)
            clear ht2 ha2
            go_wp2
            go_roundw
            case rel => exact ⟨k + 1, j, f2, by omega, by omega, by go_num, rfl, HT3.out⟩
            case measure => simp [intOf]; omega
        · by_cases k1 : K = 1
          · subst k1
            have HA2 := Lib.hid (tfree_any hT2.at_ x hI.out)
            clear ht hT2 k0
            generalize TR.liveErr f x = er at *
            generalize TR.underI j f x = ul at *
            generalize TR.freeS j f x = f2 at *
            go_wp2_with fail
            refine HA2.out.mono ?_
            rintro e w2 ⟨v, rfl, hv, ht2, ha2⟩
            have HT3 := Lib.hid (HT2.out.step ht2 ha2)
            clear hv ht2 ha2
            go_wp2
            go_roundw
            case rel => exact ⟨k + 1, j, f2, by omega, by omega, by go_num, rfl, HT3.out⟩
            case measure => simp [intOf]; omega
          · by_cases k2 : K = 2
            · subst k2
              have HA2 := Lib.hid (tmerge_any hT2.at_ x hI.out)
              clear ht hT2 k0 k1
              generalize TR.mergErr f x = er at *
              generalize TR.mergV f x = mv at *
              generalize TR.mergS f x = f2 at *
              go_wp2_with fail
              refine HA2.out.mono ?_
              rintro e w2 ⟨rfl, ht2, ha2⟩
              have HT3 := Lib.hid (HT2.out.step ht2 ha2)
              clear ht2 ha2
              go_wp2
              go_roundw
              case rel => exact ⟨k + 1, j, f2, by omega, by omega, by go_num, rfl, HT3.out⟩
              case measure => simp [intOf]; omega
            · have d0 : (K == 0) = false := by simpa using k0
              have d1 : (K == 1) = false := by simpa using k1
              have d2 : (K == 2) = false := by simpa using k2
              clear ht hT2 k0 k1 k2
              go_wp2
              go_roundw
              case rel => exact ⟨k + 1, j, f, by omega, by omega, by go_num, rfl, HT2.out⟩
              case measure => simp [intOf]; omega
      · have HTk := Lib.hid ht
        clear ht
        go_wp2
        go_ret2
        exact .inr ⟨by omega, b, m, j, f, rfl, HTk.out, by omega⟩
end Go.Proofs.Ytmdcpeikjchbgaa
