/- The contract of Link of package header. -/
import Derived.Test.YteneadimchhhhaaDoorHdDec
namespace Go.Proofs.YteneadimchhhhaaDoor
open Go.RowKit

/-- The numbers that Unpack lays of a token's word. -/
theorem tcells {W : World} {B g : Nat} {x : Int} (hx : FM.Word x) (h : NS .u64 W B (some ⟨g, 0, none⟩) 2 (tfs.map fun f => FM.num x f.1 f.2)) :
    W.cell? ⟨g, 0, none⟩ = some (.int .u64 (x % 4294967296)) ∧ W.cell? ⟨g, 1, none⟩ = some (.int .u64 (x / 4294967296)) := by
  obtain ⟨b, off, e, hlt, hc⟩ := h.2.2 (by omega)
  cases e
  have e0 : FM.num x 0 32 = x % 4294967296 := by have := num_lit x hx 0 32 1 4294967296 (by decide) (by decide); simpa using this
  have e1 : FM.num x 32 32 = x / 4294967296 := by
    have := num_lit x hx 32 32 4294967296 4294967296 (by decide) (by decide)
    have e2 : x / 4294967296 % 4294967296 = x / 4294967296 := by have := hx.1; have := hx.2; omega
    rw [e2] at this
    exact this
  refine ⟨?_, ?_⟩
  · have := hc 0 (FM.num x 0 32) rfl; rw [e0] at this; exact this
  · have := hc 1 (FM.num x 32 32) rfl; rw [e1] at this; exact this

theorem Whole.cells2 {W : World} {g : Nat} {t : TypeId} {a b : Value} (h : Whole W g t #[a, b]) : W.cell? ⟨g, 0, none⟩ = some a ∧ W.cell? ⟨g, 1, none⟩ = some b := ⟨h.cell 0, h.cell 1⟩

/-- What Link leaves. -/
def LinkIs (K I G E : Int) (w : World) (e : Ending) (w' : World) : Prop :=
  e = .returned (.tuple #[.agg #[.int .i64 K, .int .i64 I, .int .i64 G], .int .i64 E]) ∧ Below w.heap.size w w'

set_option maxHeartbeats 1000000 in
theorem link_zero (w : World) : Calls Tryd.prog 52 #[.int .u64 0] w (LinkIs 0 0 0 0 w) := by
  go_enter Tryd.func52, Tryd.ntmps52
  go_wp2
  refine bodyPost_ret (v := .tuple #[.agg #[.int .i64 0, .int .i64 0, .int .i64 0], .int .i64 0]) (by simp [results, Tryd.results52, go_sem]) rfl ⟨rfl, ?_⟩
  exact (Below.refl _ _).alloc (Nat.le_refl _) _
set_option maxHeartbeats 1000000 in
theorem link_one (w : World) : Calls Tryd.prog 52 #[.int .u64 1] w (LinkIs 1 0 0 0 w) := by
  go_enter Tryd.func52, Tryd.ntmps52
  go_wp2
  refine bodyPost_ret (v := .tuple #[.agg #[.int .i64 1, .int .i64 0, .int .i64 0], .int .i64 0]) (by simp [results, Tryd.results52, go_sem]) rfl ⟨rfl, ?_⟩
  exact (Below.refl _ _).alloc (Nat.le_refl _) _

def LinkTok (ok : Bool) (ix gn : Int) (w : World) (e : Ending) (w' : World) : Prop := (ok = true ∧ LinkIs 2 ix gn 0 w e w') ∨ (ok = false ∧ LinkIs 0 0 0 4 w e w')

set_option maxHeartbeats 2000000 in
theorem link_more (x lo ix gn : Int) (hx : FM.Word x) (h0 : x ≠ 0) (h1 : x ≠ 1) (hlo : lo = x % 4294967296) (hix : ix = lo - 2) (hgn : gn = x / 4294967296) (w : World) :
    Calls Tryd.prog 52 #[.int .u64 x] w (LinkTok (HM.tok x) ix gn w) := by
  have d0 : (x == 0) = false := by simpa using h0
  have d1 : (x == 1) = false := by simpa using h1
  have a0 : 0 ≤ lo ∧ lo < 4294967296 := by omega
  have a1 : 0 ≤ gn ∧ gn < 4294967296 := by have := hx.1; have := hx.2; omega
  have hok : HM.tok x = decide (0 ≤ ix ∧ ix ≤ 4095 ∧ 1 ≤ gn ∧ gn ≤ 255) := by
    unfold HM.tok
    rw [Bool.eq_iff_iff]
    simp
    omega
  obtain ⟨ok, hk⟩ : ∃ ok, ok = HM.tok x := ⟨_, rfl⟩
  rw [← hk]
  have HOk := Lib.hid (hk.trans hok)
  have H1 := Lib.hid (show ∀ W : World, ∀ B g : Nat, NS .u64 W B (some ⟨g, 0, none⟩) 2 (tfs.map fun f => FM.num x f.1 f.2) → g < B ∧ W.cell? ⟨g, 0, none⟩ = some (.int .u64 lo) ∧ W.cell? ⟨g, 1, none⟩ = some (.int .u64 gn) from fun W B g h => by
    have := tcells hx h
    rw [← hlo, ← hgn] at this
    exact ⟨ns_lt h (by omega), this⟩)
  have HX := Lib.hid hx
  have u0 : IntKind.i64.wrap (IntKind.i64.wrap lo - 2) = ix := by rw [IntKind.wrap_i64, IntKind.wrap_i64]; omega
  have u1 : IntKind.i64.wrap gn = gn := by rw [IntKind.wrap_i64]; omega
  have U := Lib.hid (And.intro u0 u1)
  clear hx hk hok hlo hix hgn u0 u1 h0 h1 a0 a1
  go_enter Tryd.func52, Tryd.ntmps52
  go_wp2_with (first
    | (go_at_call 67; refine (tokenFields_any _).mono ?_; rintro e w' ⟨rfl, rfl⟩)
    | (go_at_call 64; refine (unpack_ok x HX.out _ 2 2 tfs _ (by omega) (tfs_fs (Whole.fresh' (by simp))) tfs_apart).mono ?_; rintro e w1 ⟨g, rfl, hns, hb1⟩))
  obtain ⟨hg, c0, c1⟩ := H1.out _ _ _ hns
  have hs1 := hb1.size
  simp at hs1
  have hbx : Below w.heap.size w w1 := (((Below.refl _ _).alloc (Nat.le_refl _) _).alloc (by simp) _).trans (hb1.mono (by simp; omega))
  have R1 := Lib.hid ((((Whole.fresh w 38 #[.int .i64 0, .int .i64 0, .int .i64 0]).alloc _).below hb1 (by simp; omega)))
  clear H1 hns hb1
  go_region_held3 (fun w' => w'.cell? ⟨g, 0, none⟩ = some (.int .u64 lo) ∧ w'.cell? ⟨g, 1, none⟩ = some (.int .u64 gn)) (first | exact ⟨c0, c1⟩ | (simp [go_sem, World.cell?_alloc_lt, hg, c0, c1])) (fail)
  rw [U.out.1, U.out.2]
  rename_i hH
  clear hH
  cases ok
  · go_wp2_with (first
      | (go_at_call 68; refine (tokenMayBe_any _ _ _).mono ?_; rw [← HOk.out]; rintro e w2 ⟨rfl, hb2⟩; have R2 := ((R1.out.alloc _).drew.below hb2 (by simp; omega)); obtain ⟨r0, r1, r2⟩ := R2.cells3; have q0 := R2.free 0; have q1 := R2.free 1; have q2 := R2.free 2; have hb3 : Below w.heap.size w w2 := (hbx.alloc hbx.size _).drew.trans (hb2.mono (by simp; omega)); clear hb2))
    refine bodyPost_ret (v := .tuple #[.agg #[.int .i64 0, .int .i64 0, .int .i64 0], .int .i64 4]) (by simp [results, Tryd.results52, go_sem, r0, r1, r2]) rfl (.inr ⟨rfl, rfl, ?_⟩)
    exact set3_below hb3 (Nat.le_refl _)
  · go_wp2_with (first
      | (go_at_call 68; refine (tokenMayBe_any _ _ _).mono ?_; rw [← HOk.out]; rintro e w2 ⟨rfl, hb2⟩; have R2 := ((R1.out.alloc _).drew.below hb2 (by simp; omega)); obtain ⟨r0, r1, r2⟩ := R2.cells3; have q0 := R2.free 0; have q1 := R2.free 1; have q2 := R2.free 2; obtain ⟨t0, t1⟩ := ((Whole.fresh w1 36 #[.int .i64 ix, .int .i64 gn]).drew.below hb2 (by simp)).cells2; have hb3 : Below w.heap.size w w2 := (hbx.alloc hbx.size _).drew.trans (hb2.mono (by simp; omega)); clear hb2))
    refine bodyPost_ret (v := .tuple #[.agg #[.int .i64 2, .int .i64 ix, .int .i64 gn], .int .i64 0]) (by simp [results, Tryd.results52, go_sem, r0, r1, r2]) rfl (.inl ⟨rfl, rfl, ?_⟩)
    exact set3_below hb3 (Nat.le_refl _)

theorem hlink_any (x : Int) (hx : FM.Word x) (w : World) : Calls Tryd.prog 52 #[.int .u64 x] w (LinkIs (HM.kK x) (HM.kI x) (HM.kG x) (HM.kE x) w) := by
  by_cases h0 : x = 0
  · subst h0
    exact link_zero w
  · by_cases h1 : x = 1
    · subst h1
      exact link_one w
    · refine (link_more x _ _ _ hx h0 h1 rfl rfl rfl w).mono ?_
      unfold HM.kK HM.kI HM.kG HM.kE
      rintro e w' (⟨ht, h⟩ | ⟨ht, h⟩)
      · rw [if_pos ht, if_pos ht, if_pos ht, if_pos ht]
        exact h
      · have hn : ¬ HM.tok x = true := by rw [ht]; decide
        rw [if_neg hn, if_neg hn, if_neg hn, if_neg hn, if_neg h1, if_neg h1, if_neg h0]
        exact h
end Go.Proofs.YteneadimchhhhaaDoor
