/- The contract of Encode of package layout. -/
import Derived.Test.YteneadimchhhhaaDoorLyEnc
namespace Go.Proofs.YteneadimchhhhaaDoor
open Go.RowKit

/-- What Encode leaves of a right layout. -/
def EncPost (a b c : Int) (w : World) (e : Ending) (w' : World) : Prop :=
  ∃ g, e = .returned (.tuple #[.slice (some ⟨g, 0, none⟩) 3 3, .int .i64 0]) ∧ w.heap.size ≤ g ∧ Whole w' g 32 #[.int .u64 a, .int .u64 b, .int .u64 c] ∧ Below w.heap.size w w'

theorem pack_ord1 (F R : Int) (h1 : 0 ≤ F) (h2 : F ≤ 64) (h3 : 0 ≤ R) (h4 : R ≤ 64) (W : World) :
    Calls Tryd.prog 44 #[.slice (some ⟨W.heap.size, 0, none⟩) 3 3, .slice (some ⟨W.heap.size + 1, 0, none⟩) 3 3] ((W.alloc (.cells #[.int .i64 0, .int .i64 8, .int .i64 8, .int .i64 8, .int .i64 16, .int .i64 48] 131)).alloc (.cells #[.int .u64 F, .int .u64 R, .int .u64 0] 32)).drew fun e w' => e = .returned (.tuple #[.int .u64 (F + 256 * R), .int .i64 0]) ∧ Below W.heap.size W w' :=
  (pack_first F R h1 h2 h3 h4 _ _ _ ((Whole.fresh _ _ _).alloc _).drew (Whole.fresh' (by simp)).drew).mono fun _ _ ⟨h, hb⟩ => ⟨h, (((Below.refl _ _).alloc (Nat.le_refl _) _).alloc (by simp) _).drew.trans (hb.mono (by simp; omega))⟩
theorem pack_ord2 (F R : Int) (h1 : 0 ≤ F) (h2 : F ≤ 64) (h3 : 0 ≤ R) (h4 : R ≤ 64) (W : World) :
    Calls Tryd.prog 44 #[.slice (some ⟨W.heap.size + 1, 0, none⟩) 3 3, .slice (some ⟨W.heap.size, 0, none⟩) 3 3] ((W.alloc (.cells #[.int .u64 F, .int .u64 R, .int .u64 0] 32)).alloc (.cells #[.int .i64 0, .int .i64 8, .int .i64 8, .int .i64 8, .int .i64 16, .int .i64 48] 131)).drew fun e w' => e = .returned (.tuple #[.int .u64 (F + 256 * R), .int .i64 0]) ∧ Below W.heap.size W w' :=
  (pack_first F R h1 h2 h3 h4 _ _ _ (Whole.fresh' (by simp)).drew ((Whole.fresh _ _ _).alloc _).drew).mono fun _ _ ⟨h, hb⟩ => ⟨h, (((Below.refl _ _).alloc (Nat.le_refl _) _).alloc (by simp) _).drew.trans (hb.mono (by simp; omega))⟩

end Go.Proofs.YteneadimchhhhaaDoor
