/- Contracts of firstWord, bitsAt and Encode of package layout. -/
import Derived.Test.YteneadimchhhhaaDoorLyIsRef
import Derived.Test.YteneadimchhhhaaDoorMgBase
import Derived.Deep.DeepCutAuto
namespace Go.Proofs.YteneadimchhhhaaDoor
open Go.RowKit

/-- The word with a bit on for each place. -/
def orAll (W : Nat) : List Int → Nat
  | [] => W
  | p :: t => orAll (W ||| 2 ^ p.toNat) t
theorem orAll_lt (xs : List Int) : ∀ W, W < 18446744073709551616 → (∀ p ∈ xs, 0 ≤ p ∧ p < 64) → orAll W xs < 18446744073709551616 := by
  induction xs with
  | nil => intro W h _; exact h
  | cons p t ih =>
    intro W h hp
    refine ih _ ?_ fun q hq => hp q (List.mem_cons_of_mem _ hq)
    have h1 := hp p List.mem_cons_self
    have h2 : 2 ^ p.toNat < 2 ^ 64 := Nat.pow_lt_pow_right (by decide) (by omega)
    rw [← FM.pow64] at h ⊢
    exact Nat.or_lt_two_pow h h2
theorem or_step (W : Nat) (p : Int) (h : W < 18446744073709551616) (h1 : p < 64) : bits .or .u64 (W : Int) (IntKind.u64.wrap (2 ^ p.toNat)) = ((W ||| 2 ^ p.toNat : Nat) : Int) ∧ W ||| 2 ^ p.toNat < 18446744073709551616 := by
  have h2 : 2 ^ p.toNat < 2 ^ 64 := Nat.pow_lt_pow_right (by decide) (by omega)
  have hp : (2 : Int) ^ p.toNat = ((2 ^ p.toNat : Nat) : Int) := by simp
  refine ⟨?_, ?_⟩
  · rw [FM.wrap_pow p (by omega), hp]
    exact u64_or_nat W _ h (by rw [FM.pow64] at h2; exact h2)
  · rw [← FM.pow64] at h ⊢
    exact Nat.or_lt_two_pow h h2

/-- The fields of the first word. -/
def fw : List (Int × Int) := [(0, 8), (8, 8), (16, 48)]
theorem fw_apart : FM.apart fw = true := by decide
theorem fw_fs {W : World} {a : Nat} (h : Whole W a 131 #[.int .i64 0, .int .i64 8, .int .i64 8, .int .i64 8, .int .i64 16, .int .i64 48]) : FS W W.heap.size (some ⟨a, 0, none⟩) 3 fw := by
  refine ⟨rfl, fun _ => ⟨a, 0, rfl, h.lt, fun i f hi => ?_⟩⟩
  rw [Nat.zero_add, h.cell, h.cell]
  match i, hi with
  | 0, hi => simp [fw] at hi; subst hi; exact ⟨rfl, rfl⟩
  | 1, hi => simp [fw] at hi; subst hi; exact ⟨rfl, rfl⟩
  | 2, hi => simp [fw] at hi; subst hi; exact ⟨rfl, rfl⟩
theorem ns_three {k : IntKind} {W : World} {b : Nat} {t : TypeId} {x y z : Int} (h : Whole W b t #[.int k x, .int k y, .int k z]) (hx : (Lit.int k x).wf = true) (hy : (Lit.int k y).wf = true) (hz : (Lit.int k z).wf = true) : NS k W W.heap.size (some ⟨b, 0, none⟩) 3 [x, y, z] := by
  refine ⟨rfl, by simp [hx, hy, hz], fun _ => ⟨b, 0, rfl, h.lt, fun i f hi => ?_⟩⟩
  rw [Nat.zero_add, h.cell]
  match i, hi with
  | 0, hi => simp at hi; subst hi; rfl
  | 1, hi => simp at hi; subst hi; rfl
  | 2, hi => simp at hi; subst hi; rfl
theorem fw_pack (F R : Int) (h1 : 0 ≤ F) (h2 : F ≤ 64) (h3 : 0 ≤ R) (h4 : R ≤ 64) : FM.packGo 0 fw [F, R, 0] = some (F + 256 * R).toNat := by
  obtain ⟨a, rfl⟩ := Int.eq_ofNat_of_zero_le h1
  obtain ⟨b, rfl⟩ := Int.eq_ofNat_of_zero_le h3
  have e1 : FM.fits (a : Int) 8 = true := (FM.fits_iff _ _ (by omega)).2 (by simp; omega)
  have e2 : FM.fits (b : Int) 8 = true := (FM.fits_iff _ _ (by omega)).2 (by simp; omega)
  have e3 : FM.fits 0 48 = true := by decide
  unfold fw
  rw [FM.pack_next _ _ _ _ _ e1, FM.pack_next _ _ _ _ _ e2, FM.pack_next _ _ _ _ _ e3]
  show some _ = _
  have e : (0 ||| a * 2 ^ 0 ||| b * 2 ^ 8 ||| 0 * 2 ^ 16) = a + 256 * b := by
    have := Nat.two_pow_add_eq_or_of_lt (i := 8) (show a < 2 ^ 8 by omega) b
    rw [show (2 : Nat) ^ 8 = 256 from rfl] at this
    simp
    rw [Nat.or_comm, Nat.mul_comm b 256]
    omega
  have e' : ((a : Int) + 256 * (b : Int)).toNat = a + 256 * b := by omega
  rw [e']
  exact congrArg some e
theorem pack_first (F R : Int) (h1 : 0 ≤ F) (h2 : F ≤ 64) (h3 : 0 ≤ R) (h4 : R ≤ 64) (W : World) (a b : Nat) (ha : Whole W a 131 #[.int .i64 0, .int .i64 8, .int .i64 8, .int .i64 8, .int .i64 16, .int .i64 48])
    (hb : Whole W b 32 #[.int .u64 F, .int .u64 R, .int .u64 0]) :
    Calls Tryd.prog 44 #[.slice (some ⟨a, 0, none⟩) 3 3, .slice (some ⟨b, 0, none⟩) 3 3] W fun e w' => e = .returned (.tuple #[.int .u64 (F + 256 * R), .int .i64 0]) ∧ Below W.heap.size W w' := by
  refine (pack_any _ 3 3 fw _ 3 [F, R, 0] W (by omega) (fw_fs ha) (ns_three hb (of_word ⟨h1, by omega⟩) (of_word ⟨h3, by omega⟩) (by decide)) fw_apart).mono ?_
  rintro e w' ⟨h, hb⟩
  rw [fw_pack F R h1 h2 h3 h4] at h
  rcases h with ⟨V, hV, _, he⟩ | ⟨h, _⟩
  · injection hV with hV
    subst hV
    rw [Int.toNat_of_nonneg (by omega)] at he
    exact ⟨he, hb⟩
  · cases h
end Go.Proofs.YteneadimchhhhaaDoor
