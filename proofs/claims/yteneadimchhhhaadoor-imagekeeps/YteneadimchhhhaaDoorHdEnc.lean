/- The contract of Encode of package header. -/
import Derived.Test.YteneadimchhhhaaDoorHdDec
namespace Go.Proofs.YteneadimchhhhaaDoor
open Go.RowKit

theorem ns_five {k : IntKind} {W : World} {b : Nat} {t : TypeId} {x y z u v : Int} (h : Whole W b t #[.int k x, .int k y, .int k z, .int k u, .int k v]) (hx : (Lit.int k x).wf = true) (hy : (Lit.int k y).wf = true) (hz : (Lit.int k z).wf = true) (hu : (Lit.int k u).wf = true) (hv : (Lit.int k v).wf = true) : NS k W W.heap.size (some ⟨b, 0, none⟩) 5 [x, y, z, u, v] := by
  refine ⟨rfl, by simp [hx, hy, hz, hu, hv], fun _ => ⟨b, 0, rfl, h.lt, fun i f hi => ?_⟩⟩
  rw [Nat.zero_add, h.cell]
  match i, hi with
  | 0, hi => simp at hi; subst hi; rfl
  | 1, hi => simp at hi; subst hi; rfl
  | 2, hi => simp at hi; subst hi; rfl
  | 3, hi => simp at hi; subst hi; rfl
  | 4, hi => simp at hi; subst hi; rfl

/-- A number below and one above it, by bits, are their sum. -/
theorem or_add (a b i : Nat) (h : a < 2 ^ i) : a ||| b * 2 ^ i = a + b * 2 ^ i := by
  have := Nat.two_pow_add_eq_or_of_lt h b
  rw [Nat.mul_comm] at this
  rw [Nat.or_comm, ← this]
  omega

theorem hfs_pack (s c l : Int) (h1 : 0 ≤ s) (h2 : s < 65536) (h3 : 0 ≤ c) (h4 : c < 65536) (h5 : 0 ≤ l) (h6 : l < 256) : FM.packGo 0 hfs [s, c, l, 0, 165] = some (HM.word l c s).toNat := by
  obtain ⟨s, rfl⟩ := Int.eq_ofNat_of_zero_le h1
  obtain ⟨c, rfl⟩ := Int.eq_ofNat_of_zero_le h3
  obtain ⟨l, rfl⟩ := Int.eq_ofNat_of_zero_le h5
  have e1 : FM.fits (s : Int) 16 = true := (FM.fits_iff _ _ (by omega)).2 (by simp; omega)
  have e2 : FM.fits (c : Int) 16 = true := (FM.fits_iff _ _ (by omega)).2 (by simp; omega)
  have e3 : FM.fits (l : Int) 8 = true := (FM.fits_iff _ _ (by omega)).2 (by simp; omega)
  have e4 : FM.fits 0 16 = true := by decide
  have e5 : FM.fits 165 8 = true := by decide
  unfold hfs
  rw [FM.pack_next _ _ _ _ _ e1, FM.pack_next _ _ _ _ _ e2, FM.pack_next _ _ _ _ _ e3, FM.pack_next _ _ _ _ _ e4, FM.pack_next _ _ _ _ _ e5]
  show some _ = _
  have f1 : s ||| c * 2 ^ 16 = s + c * 65536 := or_add s c 16 (by omega)
  have f2 : (s + c * 65536) ||| l * 2 ^ 32 = s + c * 65536 + l * 4294967296 := or_add _ l 32 (by omega)
  have f3 : (s + c * 65536 + l * 4294967296) ||| 165 * 2 ^ 56 = s + c * 65536 + l * 4294967296 + 165 * 72057594037927936 := or_add _ 165 56 (by omega)
  have e : (0 ||| s * 2 ^ 0 ||| c * 2 ^ 16 ||| l * 2 ^ 32 ||| 0 * 2 ^ 40 ||| 165 * 2 ^ 56) = s + c * 65536 + l * 4294967296 + 165 * 72057594037927936 := by
    rw [Nat.zero_or, Nat.pow_zero, Nat.mul_one, f1, f2, Nat.zero_mul, Nat.or_zero, f3]
  refine (congrArg some e).trans (congrArg some ?_)
  unfold HM.word
  omega

def PackIs (W : Int) (w : World) (e : Ending) (w' : World) : Prop := e = .returned (.tuple #[.int .u64 W, .int .i64 0]) ∧ Below w.heap.size w w'

theorem pack_head (s c l : Int) (h1 : 0 ≤ s) (h2 : s < 65536) (h3 : 0 ≤ c) (h4 : c < 65536) (h5 : 0 ≤ l) (h6 : l < 256) (W : World) (a b : Nat)
    (ha : Whole W a 131 #[.int .i64 0, .int .i64 16, .int .i64 16, .int .i64 16, .int .i64 32, .int .i64 8, .int .i64 40, .int .i64 16, .int .i64 56, .int .i64 8])
    (hb : Whole W b 32 #[.int .u64 s, .int .u64 c, .int .u64 l, .int .u64 0, .int .u64 165]) :
    Calls Tryd.prog 44 #[.slice (some ⟨a, 0, none⟩) 5 5, .slice (some ⟨b, 0, none⟩) 5 5] W (PackIs (HM.word l c s) W) := by
  refine (pack_any _ 5 5 hfs _ 5 [s, c, l, 0, 165] W (by omega) (hfs_fs ha) (ns_five hb (of_word ⟨h1, by omega⟩) (of_word ⟨h3, by omega⟩) (of_word ⟨h5, by omega⟩) (by decide) (by decide)) hfs_apart).mono ?_
  rintro e w' ⟨h, hb⟩
  rw [hfs_pack s c l h1 h2 h3 h4 h5 h6] at h
  rcases h with ⟨V, hV, _, he⟩ | ⟨h, _⟩
  · injection hV with hV
    subst hV
    rw [Int.toNat_of_nonneg (by unfold HM.word; omega)] at he
    exact ⟨he, hb⟩
  · cases h

theorem pack_h1 (s c l : Int) (h1 : 0 ≤ s) (h2 : s < 65536) (h3 : 0 ≤ c) (h4 : c < 65536) (h5 : 0 ≤ l) (h6 : l < 256) (W : World) :
    Calls Tryd.prog 44 #[.slice (some ⟨W.heap.size, 0, none⟩) 5 5, .slice (some ⟨W.heap.size + 1, 0, none⟩) 5 5] ((W.alloc (.cells #[.int .i64 0, .int .i64 16, .int .i64 16, .int .i64 16, .int .i64 32, .int .i64 8, .int .i64 40, .int .i64 16, .int .i64 56, .int .i64 8] 131)).alloc (.cells #[.int .u64 s, .int .u64 c, .int .u64 l, .int .u64 0, .int .u64 165] 32)).drew (PackIs (HM.word l c s) W) :=
  (pack_head s c l h1 h2 h3 h4 h5 h6 _ _ _ ((Whole.fresh _ _ _).alloc _).drew (Whole.fresh' (by simp)).drew).mono fun _ _ ⟨h, hb⟩ => ⟨h, (((Below.refl _ _).alloc (Nat.le_refl _) _).alloc (by simp) _).drew.trans (hb.mono (by simp; omega))⟩
theorem pack_h2 (s c l : Int) (h1 : 0 ≤ s) (h2 : s < 65536) (h3 : 0 ≤ c) (h4 : c < 65536) (h5 : 0 ≤ l) (h6 : l < 256) (W : World) :
    Calls Tryd.prog 44 #[.slice (some ⟨W.heap.size + 1, 0, none⟩) 5 5, .slice (some ⟨W.heap.size, 0, none⟩) 5 5] ((W.alloc (.cells #[.int .u64 s, .int .u64 c, .int .u64 l, .int .u64 0, .int .u64 165] 32)).alloc (.cells #[.int .i64 0, .int .i64 16, .int .i64 16, .int .i64 16, .int .i64 32, .int .i64 8, .int .i64 40, .int .i64 16, .int .i64 56, .int .i64 8] 131)).drew (PackIs (HM.word l c s) W) :=
  (pack_head s c l h1 h2 h3 h4 h5 h6 _ _ _ (Whole.fresh' (by simp)).drew ((Whole.fresh _ _ _).alloc _).drew).mono fun _ _ ⟨h, hb⟩ => ⟨h, (((Below.refl _ _).alloc (Nat.le_refl _) _).alloc (by simp) _).drew.trans (hb.mono (by simp; omega))⟩
end Go.Proofs.YteneadimchhhhaaDoor
