/- The contracts of linkWord and Word of package header. -/
import Derived.Test.YteneadimchhhhaaDoorHdLink
import Derived.Test.YteneadimchhhhaaDoorHdEnc
namespace Go.Proofs.YteneadimchhhhaaDoor
open Go.RowKit

theorem ns_two {k : IntKind} {W : World} {b : Nat} {t : TypeId} {x y : Int} (h : Whole W b t #[.int k x, .int k y]) (hx : (Lit.int k x).wf = true) (hy : (Lit.int k y).wf = true) : NS k W W.heap.size (some ⟨b, 0, none⟩) 2 [x, y] := by
  refine ⟨rfl, by simp [hx, hy], fun _ => ⟨b, 0, rfl, h.lt, fun i f hi => ?_⟩⟩
  rw [Nat.zero_add, h.cell]
  match i, hi with
  | 0, hi => simp at hi; subst hi; rfl
  | 1, hi => simp at hi; subst hi; rfl
theorem tfs_pack (a b : Int) (h1 : 0 ≤ a) (h2 : a < 4294967296) (h3 : 0 ≤ b) (h4 : b < 4294967296) : FM.packGo 0 tfs [a, b] = some (a + b * 4294967296).toNat := by
  obtain ⟨a, rfl⟩ := Int.eq_ofNat_of_zero_le h1
  obtain ⟨b, rfl⟩ := Int.eq_ofNat_of_zero_le h3
  have e1 : FM.fits (a : Int) 32 = true := (FM.fits_iff _ _ (by omega)).2 (by simp; omega)
  have e2 : FM.fits (b : Int) 32 = true := (FM.fits_iff _ _ (by omega)).2 (by simp; omega)
  unfold tfs
  rw [FM.pack_next _ _ _ _ _ e1, FM.pack_next _ _ _ _ _ e2]
  show some _ = _
  have f1 : a ||| b * 2 ^ 32 = a + b * 4294967296 := or_add a b 32 (by omega)
  have e : (0 ||| a * 2 ^ 0 ||| b * 2 ^ 32) = a + b * 4294967296 := by
    rw [Nat.zero_or, Nat.pow_zero, Nat.mul_one, f1]
  refine (congrArg some e).trans (congrArg some ?_)
  omega
theorem pack_tok (a b : Int) (h1 : 0 ≤ a) (h2 : a < 4294967296) (h3 : 0 ≤ b) (h4 : b < 4294967296) (W : World) (f g : Nat)
    (hf : Whole W f 131 #[.int .i64 0, .int .i64 32, .int .i64 32, .int .i64 32]) (hg : Whole W g 32 #[.int .u64 a, .int .u64 b]) :
    Calls Tryd.prog 44 #[.slice (some ⟨f, 0, none⟩) 2 2, .slice (some ⟨g, 0, none⟩) 2 2] W (PackIs (a + b * 4294967296) W) := by
  refine (pack_any _ 2 2 tfs _ 2 [a, b] W (by omega) (tfs_fs hf) (ns_two hg (of_word ⟨h1, by omega⟩) (of_word ⟨h3, by omega⟩)) tfs_apart).mono ?_
  rintro e w' ⟨h, hb⟩
  rw [tfs_pack a b h1 h2 h3 h4] at h
  rcases h with ⟨V, hV, _, he⟩ | ⟨h, _⟩
  · injection hV with hV
    subst hV
    rw [Int.toNat_of_nonneg (by omega)] at he
    exact ⟨he, hb⟩
  · cases h
theorem pack_t1 (a b : Int) (h1 : 0 ≤ a) (h2 : a < 4294967296) (h3 : 0 ≤ b) (h4 : b < 4294967296) (W : World) :
    Calls Tryd.prog 44 #[.slice (some ⟨W.heap.size, 0, none⟩) 2 2, .slice (some ⟨W.heap.size + 1, 0, none⟩) 2 2] ((W.alloc (.cells #[.int .i64 0, .int .i64 32, .int .i64 32, .int .i64 32] 131)).alloc (.cells #[.int .u64 a, .int .u64 b] 32)).drew (PackIs (a + b * 4294967296) W) :=
  (pack_tok a b h1 h2 h3 h4 _ _ _ ((Whole.fresh _ _ _).alloc _).drew (Whole.fresh' (by simp)).drew).mono fun _ _ ⟨h, hb⟩ => ⟨h, (((Below.refl _ _).alloc (Nat.le_refl _) _).alloc (by simp) _).drew.trans (hb.mono (by simp; omega))⟩
theorem pack_t2 (a b : Int) (h1 : 0 ≤ a) (h2 : a < 4294967296) (h3 : 0 ≤ b) (h4 : b < 4294967296) (W : World) :
    Calls Tryd.prog 44 #[.slice (some ⟨W.heap.size + 1, 0, none⟩) 2 2, .slice (some ⟨W.heap.size, 0, none⟩) 2 2] ((W.alloc (.cells #[.int .u64 a, .int .u64 b] 32)).alloc (.cells #[.int .i64 0, .int .i64 32, .int .i64 32, .int .i64 32] 131)).drew (PackIs (a + b * 4294967296) W) :=
  (pack_tok a b h1 h2 h3 h4 _ _ _ (Whole.fresh' (by simp)).drew ((Whole.fresh _ _ _).alloc _).drew).mono fun _ _ ⟨h, hb⟩ => ⟨h, (((Below.refl _ _).alloc (Nat.le_refl _) _).alloc (by simp) _).drew.trans (hb.mono (by simp; omega))⟩

def EncIs (W E : Int) (w : World) (e : Ending) (w' : World) : Prop := e = .returned (.tuple #[.int .u64 W, .int .i64 E]) ∧ Below w.heap.size w w'

set_option maxHeartbeats 2000000 in
theorem linkWord_tok (I G a b : Int) (ha : a = (I + 2) % 4294967296) (hb : b = G % 4294967296) (w : World) :
    Calls Tryd.prog 69 #[.agg #[.int .i64 2, .int .i64 I, .int .i64 G]] w (EncIs (a + b * 4294967296) 0 w) := by
  have a1 : 0 ≤ a := by omega
  have a2 : a < 4294967296 := by omega
  have a3 : 0 ≤ b := by omega
  have a4 : b < 4294967296 := by omega
  have u1 : IntKind.u64.wrap (IntKind.u32.wrap (IntKind.i64.wrap (I + 2))) = a := by rw [IntKind.wrap_u64, IntKind.wrap_u32, IntKind.wrap_i64]; omega
  have u2 : IntKind.u64.wrap (IntKind.u32.wrap G) = b := by rw [IntKind.wrap_u64, IntKind.wrap_u32]; omega
  clear ha hb
  go_enter Tryd.func69, Tryd.ntmps69
  go_upto_region 7 with fail
  obtain ⟨w1, hw1⟩ : ∃ w1, w1 = w.alloc (.cells #[.int .i64 2, .int .i64 I, .int .i64 G] 38) := ⟨_, rfl⟩
  have hb1 : Below w.heap.size w w1 := by rw [hw1]; exact (Below.refl _ _).alloc (Nat.le_refl _) _
  have hw : Whole w1 w.heap.size 38 #[.int .i64 2, .int .i64 I, .int .i64 G] := by rw [hw1]; exact Whole.fresh _ _ _
  rw [← hw1]
  have HW := Lib.hid hw
  clear hw1 hw
  obtain ⟨c0, c1, c2⟩ := HW.out.cells3
  have hlt := HW.out.lt
  have hz := hb1.size
  go_region_held3 (fun w' => w'.cell? ⟨w.heap.size, 1, none⟩ = some (.int .i64 I) ∧ w'.cell? ⟨w.heap.size, 2, none⟩ = some (.int .i64 G)) (first | exact ⟨hx1, hx2⟩ | (simp [go_sem, World.cell?_alloc_lt, hlt, Nat.lt_succ_of_lt, c1, c2]))
      (first
        | (go_at_call 67; refine (tokenFields_any _).mono ?_; rintro e w' ⟨rfl, rfl⟩)
        | (go_at_call 44; (with_reducible refine (pack_t1 a b a1 a2 a3 a4 _).mono ?_); rintro e w2 ⟨rfl, hb2⟩; have hb3 : Below w1.heap.size w1 w2 := hb2; have hx1 := (hb3.cell (p := ⟨w.heap.size, 1, none⟩) hlt).trans c1; have hx2 := (hb3.cell (p := ⟨w.heap.size, 2, none⟩) hlt).trans c2)
        | (go_at_call 44; (with_reducible refine (pack_t2 a b a1 a2 a3 a4 _).mono ?_); rintro e w2 ⟨rfl, hb2⟩; have hb3 : Below w1.heap.size w1 w2 := hb2; have hx1 := (hb3.cell (p := ⟨w.heap.size, 1, none⟩) hlt).trans c1; have hx2 := (hb3.cell (p := ⟨w.heap.size, 2, none⟩) hlt).trans c2))
  all_goals (go_wp2_with fail; go_ret2; exact ⟨rfl, by first | exact hb1.trans (hb3.mono hb1.size) | exact (hb1.trans (hb3.mono hb1.size)).drew⟩)

set_option maxHeartbeats 1000000 in
theorem linkWord_low (K I G : Int) (h : K = 0 ∨ K = 1) (w : World) : Calls Tryd.prog 69 #[.agg #[.int .i64 K, .int .i64 I, .int .i64 G]] w (EncIs K 0 w) := by
  rcases h with rfl | rfl
  · go_enter Tryd.func69, Tryd.ntmps69
    go_wp2_with fail
    go_ret2
    exact ⟨rfl, (Below.refl _ _).alloc (Nat.le_refl _) _⟩
  · go_enter Tryd.func69, Tryd.ntmps69
    go_wp2_with fail
    go_ret2
    exact ⟨rfl, (Below.refl _ _).alloc (Nat.le_refl _) _⟩

set_option maxHeartbeats 1000000 in
theorem linkWord_no (K I G : Int) (h0 : K ≠ 0) (h1 : K ≠ 1) (h2 : K ≠ 2) (w : World) : Calls Tryd.prog 69 #[.agg #[.int .i64 K, .int .i64 I, .int .i64 G]] w (EncIs 0 3 w) := by
  have d0 : (K == 0) = false := by simpa using h0
  have d1 : (K == 1) = false := by simpa using h1
  have d2 : (K == 2) = false := by simpa using h2
  go_enter Tryd.func69, Tryd.ntmps69
  go_wp2_with fail
  go_ret2
  exact ⟨rfl, (Below.refl _ _).alloc (Nat.le_refl _) _⟩

/-- The word that a link has, as far as there is room for it. -/
def HM.rough (K I G : Int) : Int := if K = 2 then (I + 2) % 4294967296 + G % 4294967296 * 4294967296 else K
theorem linkWord_any (K I G : Int) (h : K = 0 ∨ K = 1 ∨ K = 2) (w : World) : Calls Tryd.prog 69 #[.agg #[.int .i64 K, .int .i64 I, .int .i64 G]] w (EncIs (HM.rough K I G) 0 w) := by
  unfold HM.rough
  by_cases h2 : K = 2
  · subst h2
    exact linkWord_tok I G _ _ rfl rfl w
  · rw [if_neg h2]
    exact linkWord_low K I G (by omega) w
theorem HM.rough_word (K I G : Int) (h : K = 0 ∨ K = 1 ∨ K = 2) : FM.Word (HM.rough K I G) := by
  unfold HM.rough FM.Word
  split <;> omega
theorem word_bad {K I G : Int} (h : ¬ (HM.kE (HM.rough K I G) = 0 ∧ HM.kK (HM.rough K I G) = K ∧ HM.kI (HM.rough K I G) = I ∧ HM.kG (HM.rough K I G) = G)) : HM.wW K I G = 0 ∧ HM.wE K I G = 3 := by
  have hm : ¬ HM.lmay K I G = true := by
    intro hm
    have e : HM.rough K I G = HM.lword K I G := by
      have h1 := (HM.lmay_iff _ _ _).1 hm
      unfold HM.rough HM.lword
      split <;> omega
    rw [e] at h
    exact h (HM.link_word hm)
  unfold HM.wW HM.wE
  rw [if_neg hm, if_neg hm]
  exact ⟨rfl, rfl⟩
theorem word_good {K I G x : Int} (h1 : HM.kE x = 0) (h2 : HM.kK x = K) (h3 : HM.kI x = I) (h4 : HM.kG x = G) : HM.wW K I G = x ∧ HM.wE K I G = 0 := by
  have hm := HM.word_link h1
  rw [h2, h3, h4] at hm
  unfold HM.wW HM.wE
  rw [if_pos hm.1, if_pos hm.1]
  exact ⟨hm.2, rfl⟩

set_option maxHeartbeats 2000000 in
theorem hword_in (K I G x k i g er : Int) (h : K = 0 ∨ K = 1 ∨ K = 2) (hx : x = HM.rough K I G) (hk : k = HM.kK x) (hi : i = HM.kI x) (hg : g = HM.kG x) (he : er = HM.kE x) (w : World) :
    Calls Tryd.prog 56 #[.agg #[.int .i64 K, .int .i64 I, .int .i64 G]] w (EncIs (HM.wW K I G) (HM.wE K I G) w) := by
  have C1 : ∀ W, Calls Tryd.prog 69 #[.agg #[.int .i64 K, .int .i64 I, .int .i64 G]] W (EncIs x 0 W) := by rw [hx]; exact linkWord_any K I G h
  have C2 : ∀ W, Calls Tryd.prog 52 #[.int .u64 x] W (LinkIs k i g er W) := by rw [hk, hi, hg, he]; exact hlink_any x (by rw [hx]; exact HM.rough_word K I G h)
  have HC1 := Lib.hid C1
  have HC2 := Lib.hid C2
  have HB := Lib.hid (show ¬ (er = 0 ∧ k = K ∧ i = I ∧ g = G) → HM.wW K I G = 0 ∧ HM.wE K I G = 3 from fun hn => word_bad (by rw [← hx, ← hk, ← hi, ← hg, ← he]; exact hn))
  have HG := Lib.hid (show er = 0 → k = K → i = I → g = G → HM.wW K I G = x ∧ HM.wE K I G = 0 from fun h1 h2 h3 h4 => word_good (he.symm.trans h1) (hk.symm.trans h2) (hi.symm.trans h3) (hg.symm.trans h4))
  clear C1 C2 h hx hk hi hg he
  go_enter Tryd.func56, Tryd.ntmps56
  go_wp2_with (first
    | (go_at_call 69; refine (HC1.out _).mono ?_; rintro e w1 ⟨rfl, hb1⟩; have hW := Lib.hid ((Whole.fresh w 38 #[.int .i64 K, .int .i64 I, .int .i64 G]).below hb1 (by simp)); have hbx : Below w.heap.size w w1 := ((Below.refl _ _).alloc (Nat.le_refl _) _).trans (hb1.mono (by simp)); clear hb1; have hlt := hW.out.lt)
    | (go_at_call 52; refine (HC2.out _).mono ?_; rintro e w2 ⟨rfl, hb2⟩; obtain ⟨c0, c1, c2⟩ := (hW.out.below hb2 hlt).cells3; have hb5 := hbx.trans (hb2.mono hbx.size); have hlt3 : w.heap.size < w2.heap.size := by have := hb2.size; omega))
  all_goals first
    | (have E := HG.out (by assumption) (by assumption) (by assumption) (by assumption); rw [E.1, E.2]; go_ret2; exact ⟨rfl, hb5.alloc hb5.size _⟩)
    | (have E := HB.out (by omega); rw [E.1, E.2]; go_ret2; first | exact ⟨rfl, hb5.alloc hb5.size _⟩ | exact ⟨rfl, hb5⟩)

set_option maxHeartbeats 1000000 in
theorem hword_no (K I G : Int) (h0 : K ≠ 0) (h1 : K ≠ 1) (h2 : K ≠ 2) (w : World) :
    Calls Tryd.prog 56 #[.agg #[.int .i64 K, .int .i64 I, .int .i64 G]] w (EncIs 0 3 w) := by
  have HC := Lib.hid (linkWord_no K I G h0 h1 h2)
  clear h0 h1 h2
  go_enter Tryd.func56, Tryd.ntmps56
  go_wp2_with fail
  refine (HC.out _).mono ?_
  rintro e w1 ⟨rfl, hb1⟩
  go_wp2_with fail
  go_ret2
  exact ⟨rfl, ((Below.refl _ _).alloc (Nat.le_refl _) _).trans (hb1.mono (by simp))⟩

theorem hword_any (K I G : Int) (w : World) : Calls Tryd.prog 56 #[.agg #[.int .i64 K, .int .i64 I, .int .i64 G]] w (EncIs (HM.wW K I G) (HM.wE K I G) w) := by
  by_cases h : K = 0 ∨ K = 1 ∨ K = 2
  · exact hword_in K I G _ _ _ _ _ h rfl rfl rfl rfl rfl w
  · have hm : ¬ HM.lmay K I G = true := by rw [HM.lmay_iff]; omega
    unfold HM.wW HM.wE
    rw [if_neg hm, if_neg hm]
    exact hword_no K I G (by omega) (by omega) (by omega) w
end Go.Proofs.YteneadimchhhhaaDoor
