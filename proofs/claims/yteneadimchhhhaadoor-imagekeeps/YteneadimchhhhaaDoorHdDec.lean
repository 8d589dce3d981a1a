/- The contract of Decode of package header. -/
import Derived.Test.YteneadimchhhhaaDoorHdLeaf
namespace Go.Proofs.YteneadimchhhhaaDoor
open Go.RowKit

theorem num_lit (x : Int) (hx : FM.Word x) (a b : Nat) (A B : Int) (hA : (2 : Int) ^ a = A) (hB : (2 : Int) ^ b = B) : FM.num x a b = x / A % B := by
  obtain ⟨X, rfl⟩ := Int.eq_ofNat_of_zero_le hx.1
  unfold FM.num FM.numN
  rw [← hA, ← hB]
  simp
/-- The numbers that Unpack lays of a header's word. -/
theorem hcells {W : World} {B g : Nat} {x : Int} (hx : FM.Word x) (h : NS .u64 W B (some ⟨g, 0, none⟩) 5 (hfs.map fun f => FM.num x f.1 f.2)) :
    W.cell? ⟨g, 0, none⟩ = some (.int .u64 (x % 65536)) ∧ W.cell? ⟨g, 1, none⟩ = some (.int .u64 (x / 65536 % 65536)) ∧ W.cell? ⟨g, 2, none⟩ = some (.int .u64 (x / 4294967296 % 256)) ∧ W.cell? ⟨g, 3, none⟩ = some (.int .u64 (x / 1099511627776 % 65536)) ∧ W.cell? ⟨g, 4, none⟩ = some (.int .u64 (x / 72057594037927936 % 256)) := by
  obtain ⟨b, off, e, hlt, hc⟩ := h.2.2 (by omega)
  cases e
  have e0 : FM.num x 0 16 = x % 65536 := by have := num_lit x hx 0 16 1 65536 (by decide) (by decide); simpa using this
  have e1 : FM.num x 16 16 = x / 65536 % 65536 := num_lit x hx 16 16 _ _ (by decide) (by decide)
  have e2 : FM.num x 32 8 = x / 4294967296 % 256 := num_lit x hx 32 8 _ _ (by decide) (by decide)
  have e3 : FM.num x 40 16 = x / 1099511627776 % 65536 := num_lit x hx 40 16 _ _ (by decide) (by decide)
  have e4 : FM.num x 56 8 = x / 72057594037927936 % 256 := num_lit x hx 56 8 _ _ (by decide) (by decide)
  refine ⟨?_, ?_, ?_, ?_, ?_⟩
  · have := hc 0 (FM.num x 0 16) rfl; rw [e0] at this; exact this
  · have := hc 1 (FM.num x 16 16) rfl; rw [e1] at this; exact this
  · have := hc 2 (FM.num x 32 8) rfl; rw [e2] at this; exact this
  · have := hc 3 (FM.num x 40 16) rfl; rw [e3] at this; exact this
  · have := hc 4 (FM.num x 56 8) rfl; rw [e4] at this; exact this

theorem ns_lt {k : IntKind} {W : World} {B g n : Nat} {xs : List Int} (h : NS k W B (some ⟨g, 0, none⟩) n xs) (hn : 0 < n) : g < B := by
  obtain ⟨b, off, e, hlt, hc⟩ := h.2.2 hn
  cases e
  exact hlt

theorem Whole.cells3 {W : World} {g : Nat} {t : TypeId} {a b c : Value} (h : Whole W g t #[a, b, c]) : W.cell? ⟨g, 0, none⟩ = some a ∧ W.cell? ⟨g, 1, none⟩ = some b ∧ W.cell? ⟨g, 2, none⟩ = some c := ⟨h.cell 0, h.cell 1, h.cell 2⟩

theorem set3_below {w W : World} {k : Nat} {u0 u1 u2 : Value} (h : Below k w W) {g : Nat} (hg : k ≤ g) : Below k w (((W.setCell ⟨g, 0, none⟩ u0).setCell ⟨g, 1, none⟩ u1).setCell ⟨g, 2, none⟩ u2) :=
  ((h.setCell (p := ⟨g, 0, none⟩) hg u0).setCell (p := ⟨g, 1, none⟩) hg u1).setCell (p := ⟨g, 2, none⟩) hg u2

def DecIs (L C S E : Int) (w : World) (e : Ending) (w' : World) : Prop :=
  e = .returned (.tuple #[.agg #[.int .i64 L, .int .i64 C, .int .i64 S], .int .i64 E]) ∧ Below w.heap.size w w'

set_option maxHeartbeats 2000000 in
theorem hdecode_yes (x ly cn sl : Int) (hx : FM.Word x) (hk : HM.hok x = true) (hsl : sl = x % 65536) (hcn : cn = x / 65536 % 65536) (hly : ly = x / 4294967296 % 256) (w : World) :
    Calls Tryd.prog 46 #[.int .u64 x] w (DecIs ly cn sl 0 w) := by
  obtain ⟨b1, b2, b3, b4, b5⟩ := (HM.hok_iff x).1 hk
  have z3 : x / 1099511627776 % 65536 = 0 := by omega
  have z4 : x / 72057594037927936 % 256 = 165 := by omega
  have a0 : 0 ≤ sl := by omega
  have a1 : 0 ≤ cn := by omega
  rw [← hsl] at b4
  rw [← hcn] at b3
  rw [← hly] at b1 b2
  have hm : HM.may ly cn sl = true := by rw [HM.may_iff]; omega
  have H1 := Lib.hid (show ∀ W : World, ∀ B g : Nat, NS .u64 W B (some ⟨g, 0, none⟩) 5 (hfs.map fun f => FM.num x f.1 f.2) → g < B ∧ W.cell? ⟨g, 0, none⟩ = some (.int .u64 sl) ∧ W.cell? ⟨g, 1, none⟩ = some (.int .u64 cn) ∧ W.cell? ⟨g, 2, none⟩ = some (.int .u64 ly) ∧ W.cell? ⟨g, 3, none⟩ = some (.int .u64 0) ∧ W.cell? ⟨g, 4, none⟩ = some (.int .u64 165) from fun W B g h => by
    have := hcells hx h
    rw [z3, z4, ← hsl, ← hcn, ← hly] at this
    exact ⟨ns_lt h (by omega), this⟩)
  have HX := Lib.hid hx
  have HM' := Lib.hid hm
  have u0 : IntKind.i64.wrap sl = sl := by rw [IntKind.wrap_i64]; omega
  have u1 : IntKind.i64.wrap cn = cn := by rw [IntKind.wrap_i64]; omega
  have u2 : IntKind.i64.wrap ly = ly := by rw [IntKind.wrap_i64]; omega
  have U := Lib.hid (And.intro u0 (And.intro u1 u2))
  clear hx hk hm z3 z4 b5 hsl hcn hly u0 u1 u2
  go_enter Tryd.func46, Tryd.ntmps46
  go_wp2_with (first
    | (go_at_call 45; refine (headerFields_any _).mono ?_; rintro e w' ⟨rfl, rfl⟩)
    | (go_at_call 64; refine (unpack_ok x HX.out _ 5 5 hfs _ (by omega) (hfs_fs (Whole.fresh' (by simp))) hfs_apart).mono ?_; rintro e w1 ⟨g, rfl, hns, hb1⟩))
  obtain ⟨hg, c0, c1, c2, c3, c4⟩ := H1.out _ _ _ hns
  have hs1 := hb1.size
  simp at hs1
  have hbx : Below w.heap.size w w1 := (((Below.refl _ _).alloc (Nat.le_refl _) _).alloc (by simp) _).trans (hb1.mono (by simp; omega))
  have R1 := Lib.hid ((((Whole.fresh w 28 #[.int .i64 0, .int .i64 0, .int .i64 0]).alloc _).below hb1 (by simp; omega)))
  clear H1 hns hb1
  go_region_held3 (fun w' => w'.cell? ⟨g, 0, none⟩ = some (.int .u64 sl) ∧ w'.cell? ⟨g, 1, none⟩ = some (.int .u64 cn) ∧ w'.cell? ⟨g, 2, none⟩ = some (.int .u64 ly)) (first | exact ⟨c0, c1, c2⟩ | (simp [go_sem, World.cell?_alloc_lt, hg, c0, c1, c2])) (fail)
  rw [U.out.1, U.out.2.1, U.out.2.2]
  rename_i hH
  clear hH
  go_wp2_with (first
    | (go_at_call 65; refine (headerMayBe_any _ _ _ _).mono ?_; rw [HM'.out]; rintro e w2 ⟨rfl, hb2⟩; have R2 := ((R1.out.alloc _).drew.below hb2 (by simp; omega)); obtain ⟨r0, r1, r2⟩ := R2.cells3; have q0 := R2.free 0; have q1 := R2.free 1; have q2 := R2.free 2; obtain ⟨t0, t1, t2⟩ := ((Whole.fresh w1 28 #[.int .i64 ly, .int .i64 cn, .int .i64 sl]).drew.below hb2 (by simp)).cells3; have hb3 : Below w.heap.size w w2 := (hbx.alloc hbx.size _).drew.trans (hb2.mono (by simp; omega)); clear hb2))
  refine bodyPost_ret (v := .tuple #[.agg #[.int .i64 ly, .int .i64 cn, .int .i64 sl], .int .i64 0]) (by simp [results, Tryd.results46, go_sem, r0, r1, r2]) rfl ⟨rfl, ?_⟩
  exact set3_below hb3 (Nat.le_refl _)

set_option maxHeartbeats 4000000 in
theorem hdecode_no (x ly cn sl z m : Int) (hx : FM.Word x) (hk : HM.hok x = false) (hsl : sl = x % 65536) (hcn : cn = x / 65536 % 65536) (hly : ly = x / 4294967296 % 256) (hz : z = x / 1099511627776 % 65536) (hm : m = x / 72057594037927936 % 256) (w : World) :
    Calls Tryd.prog 46 #[.int .u64 x] w (DecIs 0 0 0 4 w) := by
  have hbad : z = 0 → m = 165 → HM.may ly cn sl = false := by
    intro e1 e2
    rw [HM.hok_not] at hk
    rw [HM.may_not]
    have := hx.1
    have := hx.2
    omega
  have a0 : 0 ≤ sl ∧ sl < 65536 := by omega
  have a1 : 0 ≤ cn ∧ cn < 65536 := by omega
  have a2 : 0 ≤ ly ∧ ly < 256 := by omega
  have H1 := Lib.hid (show ∀ W : World, ∀ B g : Nat, NS .u64 W B (some ⟨g, 0, none⟩) 5 (hfs.map fun f => FM.num x f.1 f.2) → g < B ∧ W.cell? ⟨g, 0, none⟩ = some (.int .u64 sl) ∧ W.cell? ⟨g, 1, none⟩ = some (.int .u64 cn) ∧ W.cell? ⟨g, 2, none⟩ = some (.int .u64 ly) ∧ W.cell? ⟨g, 3, none⟩ = some (.int .u64 z) ∧ W.cell? ⟨g, 4, none⟩ = some (.int .u64 m) from fun W B g h => by
    have := hcells hx h
    rw [← hz, ← hm, ← hsl, ← hcn, ← hly] at this
    exact ⟨ns_lt h (by omega), this⟩)
  have HX := Lib.hid hx
  have HBad := Lib.hid hbad
  have u0 : IntKind.i64.wrap sl = sl := by rw [IntKind.wrap_i64]; omega
  have u1 : IntKind.i64.wrap cn = cn := by rw [IntKind.wrap_i64]; omega
  have u2 : IntKind.i64.wrap ly = ly := by rw [IntKind.wrap_i64]; omega
  have U := Lib.hid (And.intro u0 (And.intro u1 u2))
  clear hx hk hbad hsl hcn hly u0 u1 u2 hz hm a0 a1 a2
  go_enter Tryd.func46, Tryd.ntmps46
  go_wp2_with (first
    | (go_at_call 45; refine (headerFields_any _).mono ?_; rintro e w' ⟨rfl, rfl⟩)
    | (go_at_call 64; refine (unpack_ok x HX.out _ 5 5 hfs _ (by omega) (hfs_fs (Whole.fresh' (by simp))) hfs_apart).mono ?_; rintro e w1 ⟨g, rfl, hns, hb1⟩))
  obtain ⟨hg, c0, c1, c2, c3, c4⟩ := H1.out _ _ _ hns
  have hs1 := hb1.size
  simp at hs1
  have hbx : Below w.heap.size w w1 := (((Below.refl _ _).alloc (Nat.le_refl _) _).alloc (by simp) _).trans (hb1.mono (by simp; omega))
  have R1 := Lib.hid ((((Whole.fresh w 28 #[.int .i64 0, .int .i64 0, .int .i64 0]).alloc _).below hb1 (by simp; omega)))
  clear H1 hns hb1
  go_region_held3 (fun w' => w'.cell? ⟨g, 0, none⟩ = some (.int .u64 sl) ∧ w'.cell? ⟨g, 1, none⟩ = some (.int .u64 cn) ∧ w'.cell? ⟨g, 2, none⟩ = some (.int .u64 ly)) (first | exact ⟨c0, c1, c2⟩ | (simp [go_sem, World.cell?_alloc_lt, hg, c0, c1, c2])) (fail)
  rw [U.out.1, U.out.2.1, U.out.2.2]
  rename_i hH
  clear hH
  obtain ⟨r0, r1, r2⟩ := R1.out.cells3
  have q0 := R1.out.free 0
  have q1 := R1.out.free 1
  have q2 := R1.out.free 2
  have hgr : w.heap.size < w1.heap.size := by omega
  by_cases h1 : z = 0
  · by_cases h2 : m = 165
    · subst h1 h2
      have hm := HBad.out rfl rfl
      clear HBad r0 r1 r2 q0 q1 q2
      go_wp2_with (first
        | (go_at_call 65; refine (headerMayBe_any _ _ _ _).mono ?_; rw [hm]; rintro e w2 ⟨rfl, hb2⟩; have R2 := ((R1.out.alloc _).drew.below hb2 (by simp; omega)); obtain ⟨r0, r1, r2⟩ := R2.cells3; have q0 := R2.free 0; have q1 := R2.free 1; have q2 := R2.free 2; have hb3 : Below w.heap.size w w2 := (hbx.alloc hbx.size _).drew.trans (hb2.mono (by simp; omega)); clear hb2))
      refine bodyPost_ret (v := .tuple #[.agg #[.int .i64 0, .int .i64 0, .int .i64 0], .int .i64 4]) (by simp [results, Tryd.results46, go_sem, r0, r1, r2]) rfl ⟨rfl, ?_⟩
      exact set3_below hb3 (Nat.le_refl _)
    · subst h1
      have hm : (m != 165) = true := by simpa using h2
      clear HBad
      go_wp2_with fail
      refine bodyPost_ret (v := .tuple #[.agg #[.int .i64 0, .int .i64 0, .int .i64 0], .int .i64 4]) (by simp [results, Tryd.results46, go_sem, r0, r1, r2, World.cell?_alloc_lt, hgr]) rfl ⟨rfl, ?_⟩
      exact ((set3_below hbx (Nat.le_refl _)).alloc (by simp; omega) _).drew
  · have hz : (z != 0) = true := by simpa using h1
    clear HBad
    go_wp2_with fail
    refine bodyPost_ret (v := .tuple #[.agg #[.int .i64 0, .int .i64 0, .int .i64 0], .int .i64 4]) (by simp [results, Tryd.results46, go_sem, r0, r1, r2, World.cell?_alloc_lt, hgr]) rfl ⟨rfl, ?_⟩
    exact ((set3_below hbx (Nat.le_refl _)).alloc (by simp; omega) _).drew

theorem hdecode_any (x : Int) (hx : FM.Word x) (w : World) : Calls Tryd.prog 46 #[.int .u64 x] w (DecIs (HM.dL x) (HM.dC x) (HM.dS x) (HM.dE x) w) := by
  unfold HM.dL HM.dC HM.dS HM.dE
  by_cases h : HM.hok x = true
  · rw [if_pos h, if_pos h, if_pos h, if_pos h]
    exact hdecode_yes x _ _ _ hx h rfl rfl rfl w
  · rw [if_neg h, if_neg h, if_neg h, if_neg h]
    exact hdecode_no x _ _ _ _ _ hx (by simpa using h) rfl rfl rfl rfl rfl w
end Go.Proofs.YteneadimchhhhaaDoor
