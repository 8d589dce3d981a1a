/- The contracts of Decode, of package layout and of the document's answers, for every words; a layout in a law's box beside the words. -/
import Derived.Test.YtaffceodcfgeeaaDoorLyDec3
import Derived.Test.YtaffceodcfgeeaaDoorLyDec4
namespace Go.Proofs.YtaffceodcfgeeaaDoor
open Go.RowKit

namespace LM
/-- The layout that raw words tell: Fixed, Record, and the words of the references. -/
def dec : List Int → Option (Nat × Nat × Nat × Nat)
  | [a, b, c] => if a < 65536 ∧ right (a.toNat % 256 : Nat) (a.toNat / 256 : Nat) (bl b.toNat) (bl c.toNat) = true then some (a.toNat % 256, a.toNat / 256, b.toNat, c.toNat) else none
  | _ => none
theorem dec_len {xs : List Int} (h : xs.length ≠ 3) : dec xs = none := by
  match xs, h with
  | [], _ => rfl
  | [_], _ => rfl
  | [_, _], _ => rfl
  | [_, _, _], h => exact absurd rfl h
  | _ :: _ :: _ :: _ :: _, _ => rfl
theorem dec_three (a b c : Nat) : dec [(a : Int), (b : Int), (c : Int)] = if (decide (a < 65536) && right (a % 256 : Nat) (a / 256 : Nat) (bl b) (bl c)) = true then some (a % 256, a / 256, b, c) else none := by
  simp only [dec, Int.toNat_natCast, Bool.and_eq_true, decide_eq_true_eq]
  have : ((a : Int) < 65536) = (a < 65536) := by simp; omega
  simp only [this]
theorem dec_parts {xs : List Int} {F R b c : Nat} (hw : ∀ x ∈ xs, 0 ≤ x ∧ x < 18446744073709551616) (h : dec xs = some (F, R, b, c)) : right F R (bl b) (bl c) = true ∧ b < 18446744073709551616 ∧ c < 18446744073709551616 ∧ xs = [(F : Int) + 256 * R, (b : Int), (c : Int)] := by
  match xs, h with
  | [x, y, z], h =>
    have hx := hw x (by simp)
    have hy := hw y (by simp)
    have hz := hw z (by simp)
    by_cases h1 : x < 65536 ∧ right (x.toNat % 256 : Nat) (x.toNat / 256 : Nat) (bl y.toNat) (bl z.toNat) = true
    · rw [dec, if_pos h1] at h
      simp only [Option.some.injEq, Prod.mk.injEq] at h
      obtain ⟨rfl, rfl, rfl, rfl⟩ := h
      refine ⟨h1.2, by omega, by omega, ?_⟩
      congr 1
      · omega
      · congr 1
        · omega
        · congr 1
          omega
    · rw [dec, if_neg h1] at h
      cases h
theorem dec_of {F R : Int} {xs ys : List Int} (h : right F R xs ys = true) : dec [F + 256 * R, (orAll 0 xs : Nat), (orAll 0 ys : Nat)] = some (F.toNat, R.toNat, orAll 0 xs, orAll 0 ys) := by
  obtain ⟨⟨g1, g2, g3, g4, g5⟩, r1, r2⟩ := right_parts h
  obtain ⟨f, rfl⟩ := Int.eq_ofNat_of_zero_le g1
  obtain ⟨r, rfl⟩ := Int.eq_ofNat_of_zero_le g3
  have e1 : ((f : Int) + 256 * (r : Int)).toNat % 256 = f := by omega
  have e2 : ((f : Int) + 256 * (r : Int)).toNat / 256 = r := by omega
  unfold dec
  simp only [e1, e2, Int.toNat_natCast, bl_orAll xs f (by omega) r1, bl_orAll ys r (by omega) r2]
  rw [if_pos ⟨by omega, h⟩]
end LM

theorem ns_words {w : World} {B n : Nat} {A : Option Addr} {xs : List Int} (h : NS .u64 w B A n xs) : ∀ x ∈ xs, 0 ≤ x ∧ x < 18446744073709551616 := fun x hx => by
  have := h.2.1 x hx
  have := bounds_u64 this
  omega

/-- What Decode leaves of words. -/
def DecS (xs : List Int) (w : World) (e : Ending) (w' : World) : Prop := (∃ F R b c, LM.dec xs = some (F, R, b, c) ∧ DecPost F R b c w e w') ∨ (LM.dec xs = none ∧ DecErr w e w')
def RDecS (xs : List Int) (w : World) (e : Ending) (w' : World) : Prop := (∃ F R b c, LM.dec xs = some (F, R, b, c) ∧ RDecPost F R b c w e w') ∨ (LM.dec xs = none ∧ RDecErr w e w')

theorem three_words {w : World} {B : Nat} {A : Option Addr} {xs : List Int} (h : NS .u64 w B A 3 xs) : ∃ (a b c bw off : Nat), xs = [(a : Int), (b : Int), (c : Int)] ∧ a < 18446744073709551616 ∧ b < 18446744073709551616 ∧ c < 18446744073709551616 ∧ A = some ⟨bw, off, none⟩ ∧ bw < B ∧ w.cell? ⟨bw, off, none⟩ = some (.int .u64 a) ∧ w.cell? ⟨bw, off + 1, none⟩ = some (.int .u64 b) ∧ w.cell? ⟨bw, off + 2, none⟩ = some (.int .u64 c) := by
  have hw := ns_words h
  obtain ⟨bw, off, rfl, hlt, hc⟩ := h.2.2 (by omega)
  have hl := h.1
  match xs, hl, hw, hc with
  | [x, y, z], _, hw, hc =>
    have hx := hw x (by simp)
    have hy := hw y (by simp)
    have hz := hw z (by simp)
    obtain ⟨a, rfl⟩ := Int.eq_ofNat_of_zero_le hx.1
    obtain ⟨b, rfl⟩ := Int.eq_ofNat_of_zero_le hy.1
    obtain ⟨c, rfl⟩ := Int.eq_ofNat_of_zero_le hz.1
    exact ⟨a, b, c, bw, off, rfl, by omega, by omega, by omega, rfl, hlt, hc 0 _ rfl, hc 1 _ rfl, hc 2 _ rfl⟩

theorem decS_any (A : Option Addr) (n c : Nat) (xs : List Int) (B : Nat) (w : World) (hB : B ≤ w.heap.size) (h : NS .u64 w B A n xs) (hT : Tab w) (h0 : 0 < w.heap.size) :
    Calls Tryd.prog 11 #[.slice A n c] w (DecS xs w) := by
  by_cases hn : n = 3
  · subst hn
    obtain ⟨x, y, z, bw, off, rfl, hx, hy, hz, rfl, hlt, c0, c1, c2⟩ := three_words h
    refine (decode_any bw off c x y z (x % 256) (x / 256 % 256) (x / 65536) w hx hy hz c0 c1 c2 (by omega) hT h0 rfl rfl rfl).mono ?_
    rintro e w' hr
    unfold DecS
    rw [LM.dec_three]
    rcases hr with ⟨ok, hp⟩ | ⟨ok, hp⟩
    · rw [Bool.and_eq_true, decide_eq_true_eq] at ok
      have e1 : x / 256 % 256 = x / 256 := by omega
      rw [e1] at ok hp
      have e2 : (decide (x < 65536) && LM.right (x % 256 : Nat) (x / 256 : Nat) (LM.bl y) (LM.bl z)) = true := by
        rw [Bool.and_eq_true, decide_eq_true_eq]
        exact ⟨by omega, ok.2⟩
      exact .inl ⟨_, _, _, _, by rw [if_pos e2], hp⟩
    · refine .inr ⟨?_, hp⟩
      rw [if_neg]
      intro e2
      rw [Bool.and_eq_true, decide_eq_true_eq] at e2
      have e1 : x / 256 % 256 = x / 256 := by omega
      have e3 : x / 65536 = 0 := by omega
      rw [e1, e3, e2.2] at ok
      cases ok
  · exact (decode_short A n c w hn).mono fun e w' hr => .inr ⟨LM.dec_len (by rw [h.1]; exact hn), hr⟩
theorem rdecS_any (A : Option Addr) (n c : Nat) (xs : List Int) (B : Nat) (w : World) (hB : B ≤ w.heap.size) (h : NS .u64 w B A n xs) :
    Calls Tryd.prog 12 #[.slice A n c] w (RDecS xs w) := by
  by_cases hn : n = 3
  · subst hn
    obtain ⟨x, y, z, bw, off, rfl, hx, hy, hz, rfl, hlt, c0, c1, c2⟩ := three_words h
    refine (rdecode_any bw off c x y z (x % 256) (x / 256) w hx hy hz c0 c1 c2 (by omega) rfl rfl).mono ?_
    rintro e w' hr
    unfold RDecS
    rw [LM.dec_three]
    rcases hr with ⟨ok, hp⟩ | ⟨ok, hp⟩
    · exact .inl ⟨_, _, _, _, by rw [if_pos ok], hp⟩
    · exact .inr ⟨by rw [if_neg]; rw [ok]; simp, hp⟩
  · exact (rdecode_short A n c w hn).mono fun e w' hr => .inr ⟨LM.dec_len (by rw [h.1]; exact hn), hr⟩
end Go.Proofs.YtaffceodcfgeeaaDoor
