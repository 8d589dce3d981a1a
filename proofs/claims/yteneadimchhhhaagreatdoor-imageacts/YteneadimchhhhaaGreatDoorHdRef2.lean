/- Contracts of the document's answers for layer 5: Decode, MayLink, Word, Link. -/
import Derived.Test.YteneadimchhhhaaGreatDoorHdRef
import Derived.Test.YteneadimchhhhaaGreatDoorMgBase
namespace Go.Proofs.YteneadimchhhhaaGreatDoor
open Go.RowKit

theorem bal {w W : World} (h : Below w.heap.size w W) (o : Obj) : Below w.heap.size w (W.alloc o) := h.alloc h.size o

/-- What the document's Decode and Link leave: three numbers, and whether there is one. -/
def ThreeB (a b c : Int) (ok : Bool) (w : World) (e : Ending) (w' : World) : Prop :=
  e = .returned (.tuple #[.agg #[.int .i64 a, .int .i64 b, .int .i64 c], .bool ok]) ∧ Below w.heap.size w w'

theorem HM.wr64 (x : Int) (h0 : -9223372036854775808 ≤ x) (h1 : x ≤ 9223372036854775807) : IntKind.i64.wrap x = x := by rw [IntKind.wrap_i64]; omega
theorem HM.tq (x A B : Int) (hx : 0 ≤ x) (hA : 0 < A) : (x.tdiv A).tmod B = x / A % B := by
  rw [Int.tdiv_eq_ediv_of_nonneg hx, Int.tmod_eq_emod_of_nonneg (Int.ediv_nonneg hx (by omega))]
theorem HM.tm (x B : Int) (hx : 0 ≤ x) : x.tmod B = x % B := Int.tmod_eq_emod_of_nonneg hx

theorem HM.w64 (n : Int) : wrap64 n = IntKind.i64.wrap n := (IntWalk.i64_left n).symm
theorem HM.lmay2 (I G : Int) : HM.lmay 2 I G = decide (0 ≤ I ∧ I ≤ 4095 ∧ 1 ≤ G ∧ G ≤ 255) := by
  unfold HM.lmay
  rw [Bool.eq_iff_iff]
  simp
theorem HM.lmayK (K I G : Int) (h : K ≠ 2) : HM.lmay K I G = decide ((K = 0 ∨ K = 1) ∧ I = 0 ∧ G = 0) := by
  unfold HM.lmay
  rw [Bool.eq_iff_iff]
  simp [h]

set_option maxHeartbeats 1000000 in
theorem rmayLink_any (K I G : Int) (w : World) : Calls Tryz.prog 63 #[.agg #[.int .i64 K, .int .i64 I, .int .i64 G]] w fun e w' => e = .returned (.bool (HM.lmay K I G)) ∧ w.alloc (.cells #[.int .i64 K, .int .i64 I, .int .i64 G] 37) = w' := by
  by_cases hK : K = 2
  · subst hK
    rw [HM.lmay2]
    go_enter Tryz.func63, Tryz.ntmps63
    go_wp2
    all_goals go_ret
    all_goals refine ⟨ret_bool ?_, rfl⟩
    all_goals (rw [Bool.eq_iff_iff]; simp [*]; try omega)
  · rw [HM.lmayK K I G hK]
    have hk : (K == 2) = false := by simpa using hK
    go_enter Tryz.func63, Tryz.ntmps63
    go_wp2
    all_goals go_ret
    all_goals refine ⟨ret_bool ?_, by first | rfl | simp [*]⟩
    all_goals (rw [Bool.eq_iff_iff]; simp [*]; try omega)

theorem HM.rlword {I G : Int} (h : HM.lmay 2 I G = true) : IntKind.u64.wrap (IntKind.u64.wrap (IntKind.u64.wrap (IntKind.u64.wrap G * 4294967296) + IntKind.u64.wrap I) + 2) = HM.lword 2 I G := by
  rw [HM.lmay_iff] at h
  simp only [IntKind.wrap_u64]
  unfold HM.lword
  rw [if_pos rfl]
  omega

set_option maxHeartbeats 1000000 in
theorem rword_any (K I G : Int) (h : HM.lmay K I G = true) (w : World) : Calls Tryz.prog 64 #[.agg #[.int .i64 K, .int .i64 I, .int .i64 G]] w fun e w' => e = .returned (.int .u64 (HM.lword K I G)) ∧ w.alloc (.cells #[.int .i64 K, .int .i64 I, .int .i64 G] 37) = w' := by
  have H := Lib.hid h
  clear h
  by_cases hK : K = 2
  · subst hK
    go_enter Tryz.func64, Tryz.ntmps64
    go_wp2
    go_ret
    exact ⟨ret_int (HM.rlword H.out), rfl⟩
  · have hk : (K == 2) = false := by simpa using hK
    go_enter Tryz.func64, Tryz.ntmps64
    go_wp2
    go_ret
    refine ⟨ret_int ?_, rfl⟩
    have h := (HM.lmay_iff _ _ _).1 H.out
    unfold HM.lword
    rw [if_neg hK, IntKind.wrap_u64]
    omega

set_option maxHeartbeats 2000000 in
theorem rdecode_any (x ly cn sl : Int) (hx : FM.Word x) (hsl : sl = x % 65536) (hcn : cn = x / 65536 % 65536) (hly : ly = x / 4294967296 % 256) (w : World) :
    Calls Tryz.prog 38 #[.int .u64 x] w (fun e w' => (HM.hok x = true ∧ ThreeB ly cn sl true w e w') ∨ (HM.hok x = false ∧ ThreeB 0 0 0 false w e w')) := by
  have hx0 := hx.1
  have hx1 := hx.2
  have v0 : IntKind.i64.wrap (x.tmod 65536) = sl := by rw [HM.tm x _ hx0, ← hsl]; exact HM.wr64 _ (by omega) (by omega)
  have v1 : IntKind.i64.wrap ((IntKind.u64.wrap (x.tdiv 65536)).tmod 65536) = cn := by
    have e : IntKind.u64.wrap (x.tdiv 65536) = x / 65536 := by rw [Int.tdiv_eq_ediv_of_nonneg hx0, IntKind.wrap_u64]; omega
    rw [e, HM.tm _ _ (by omega), ← hcn]; exact HM.wr64 _ (by omega) (by omega)
  have v2 : IntKind.i64.wrap ((IntKind.u64.wrap (x.tdiv 4294967296)).tmod 256) = ly := by
    have e : IntKind.u64.wrap (x.tdiv 4294967296) = x / 4294967296 := by rw [Int.tdiv_eq_ediv_of_nonneg hx0, IntKind.wrap_u64]; omega
    rw [e, HM.tm _ _ (by omega), ← hly]; exact HM.wr64 _ (by omega) (by omega)
  have hk : HM.hok x = (HM.may ly cn sl && decide (HM.word ly cn sl = x)) := by
    rw [Bool.eq_iff_iff, HM.hok_iff, Bool.and_eq_true, HM.may_iff, decide_eq_true_eq]
    unfold HM.word
    omega
  rw [← HM.w64] at v0 v1 v2
  have V := Lib.hid (And.intro v0 (And.intro v1 v2))
  clear v0 v1 v2 hx hx0 hx1 hsl hcn hly
  go_enter Tryz.func38, Tryz.ntmps38
  go_wp2_with fail
  rw [V.out.1, V.out.2.1, V.out.2.2]
  refine (rmay_any _ _ _ _).mono ?_
  by_cases hm : HM.may ly cn sl = true
  · rw [hm] at hk ⊢
    have HMy := Lib.hid hm
    clear hm
    by_cases hw : HM.word ly cn sl = x
    · have hk' : HM.hok x = true := by rw [hk]; simpa using hw
      have HK := Lib.hid hk'
      have hd : (HM.word ly cn sl != x) = false := by simpa using hw
      clear hk hk' hw
      rintro e w' ⟨rfl, rfl⟩
      go_wp2_with (first
        | (go_at_call 59; refine (rencode_any _ _ _ HMy.out _).mono ?_; rintro e w' ⟨rfl, rfl⟩))
      refine bodyPost_ret (v := .tuple #[.agg #[.int .i64 ly, .int .i64 cn, .int .i64 sl], .bool true]) (by simp [results, Tryz.results38, go_sem]) rfl (.inl ⟨HK.out, rfl, ?_⟩)
      exact bal (bal (bal (bal (Below.refl _ _) _) _) _) _
    · have hk' : HM.hok x = false := by rw [hk]; simpa using hw
      have HK := Lib.hid hk'
      have hd : (HM.word ly cn sl != x) = true := by simpa using hw
      clear hk hk' hw
      rintro e w' ⟨rfl, rfl⟩
      go_wp2_with (first
        | (go_at_call 59; refine (rencode_any _ _ _ HMy.out _).mono ?_; rintro e w' ⟨rfl, rfl⟩))
      refine bodyPost_ret (v := .tuple #[.agg #[.int .i64 0, .int .i64 0, .int .i64 0], .bool false]) (by simp [results, Tryz.results38, go_sem]) rfl (.inr ⟨HK.out, rfl, ?_⟩)
      exact bal (bal (bal (bal (Below.refl _ _) _) _) _) _
  · have hm' : HM.may ly cn sl = false := by simpa using hm
    rw [hm'] at hk ⊢
    have HK := Lib.hid (show HM.hok x = false from hk)
    clear hk hm hm'
    rintro e w' ⟨rfl, rfl⟩
    go_wp2_with fail
    refine bodyPost_ret (v := .tuple #[.agg #[.int .i64 0, .int .i64 0, .int .i64 0], .bool false]) (by simp [results, Tryz.results38, go_sem]) rfl (.inr ⟨HK.out, rfl, ?_⟩)
    exact bal (bal (bal (Below.refl _ _) _) _) _

set_option maxHeartbeats 1000000 in
theorem rlink_low (x : Int) (h0 : 0 ≤ x) (h1 : x ≤ 1) (w : World) : Calls Tryz.prog 43 #[.int .u64 x] w (ThreeB x 0 0 true w) := by
  have hl : x < 2 := by omega
  have v0 : wrap64 x = x := by rw [HM.w64]; exact HM.wr64 _ (by omega) (by omega)
  have V := Lib.hid v0
  clear v0
  go_enter Tryz.func43, Tryz.ntmps43
  go_wp2
  refine bodyPost_ret (v := .tuple #[.agg #[.int .i64 x, .int .i64 0, .int .i64 0], .bool true]) (by simp [results, Tryz.results43, go_sem]) rfl ⟨rfl, ?_⟩
  exact bal (Below.refl _ _) _

set_option maxHeartbeats 1000000 in
theorem rlink_small (x : Int) (h1 : 2 ≤ x) (h2 : x % 4294967296 < 2) (w : World) : Calls Tryz.prog 43 #[.int .u64 x] w (ThreeB 0 0 0 false w) := by
  go_enter Tryz.func43, Tryz.ntmps43
  go_wp2
  refine bodyPost_ret (v := .tuple #[.agg #[.int .i64 0, .int .i64 0, .int .i64 0], .bool false]) (by simp [results, Tryz.results43, go_sem]) rfl ⟨rfl, ?_⟩
  exact bal (Below.refl _ _) _

set_option maxHeartbeats 2000000 in
theorem rlink_more (x ix gn : Int) (hx : FM.Word x) (h1 : 2 ≤ x) (h2 : 2 ≤ x % 4294967296) (hix : ix = x % 4294967296 - 2) (hgn : gn = x / 4294967296) (w : World) : Calls Tryz.prog 43 #[.int .u64 x] w
    (fun e w' => (HM.lmay 2 ix gn = true ∧ ThreeB 2 ix gn true w e w') ∨ (HM.lmay 2 ix gn = false ∧ ThreeB 0 0 0 false w e w')) := by
  have hx0 := hx.1
  have hx1 := hx.2
  have v0 : x % 4294967296 - 2 = ix := by omega
  have v1 : wrap64 (IntKind.u64.wrap (x.tdiv 4294967296)) = gn := by rw [Int.tdiv_eq_ediv_of_nonneg hx0, ← hgn, HM.w64, IntKind.wrap_u64, IntKind.wrap_i64]; omega
  have V := Lib.hid (And.intro v0 v1)
  clear v0 v1 hx hx0 hx1 hix hgn
  go_enter Tryz.func43, Tryz.ntmps43
  go_wp2_with fail
  rw [V.out.1, V.out.2]
  refine (rmayLink_any _ _ _ _).mono ?_
  by_cases hm : HM.lmay 2 ix gn = true
  · rw [hm]
    rintro e w' ⟨rfl, rfl⟩
    go_wp2_with fail
    refine bodyPost_ret (v := .tuple #[.agg #[.int .i64 2, .int .i64 ix, .int .i64 gn], .bool true]) (by simp [results, Tryz.results43, go_sem]) rfl (.inl ⟨hm, rfl, ?_⟩)
    exact bal (bal (bal (Below.refl _ _) _) _) _
  · have hm' : HM.lmay 2 ix gn = false := by simpa using hm
    rw [hm']
    rintro e w' ⟨rfl, rfl⟩
    go_wp2_with fail
    refine bodyPost_ret (v := .tuple #[.agg #[.int .i64 0, .int .i64 0, .int .i64 0], .bool false]) (by simp [results, Tryz.results43, go_sem]) rfl (.inr ⟨hm', rfl, ?_⟩)
    exact bal (bal (bal (Below.refl _ _) _) _) _

theorem rdecodeD_any (x : Int) (hx : FM.Word x) (w : World) : Calls Tryz.prog 38 #[.int .u64 x] w (ThreeB (HM.dL x) (HM.dC x) (HM.dS x) (HM.hok x) w) := by
  refine (rdecode_any x _ _ _ hx rfl rfl rfl w).mono ?_
  unfold HM.dL HM.dC HM.dS
  rintro e w' (⟨h, hh⟩ | ⟨h, hh⟩)
  · rw [h, if_pos rfl, if_pos rfl, if_pos rfl]
    exact hh
  · rw [h]
    exact hh
theorem rlink_any (x : Int) (hx : FM.Word x) (w : World) : Calls Tryz.prog 43 #[.int .u64 x] w (ThreeB (HM.kK x) (HM.kI x) (HM.kG x) (HM.kE x == 0) w) := by
  by_cases h1 : x ≤ 1
  · have h0 := hx.1
    have ht : HM.tok x = false := by rw [HM.tok_not]; omega
    have hx01 : x = 0 ∨ x = 1 := by omega
    refine (rlink_low x h0 h1 w).mono ?_
    rintro e w' h
    unfold HM.kK HM.kI HM.kG HM.kE
    rw [ht]
    rcases hx01 with rfl | rfl <;> exact h
  · by_cases h2 : x % 4294967296 < 2
    · have ht : HM.tok x = false := by rw [HM.tok_not]; omega
      refine (rlink_small x (by omega) h2 w).mono ?_
      rintro e w' h
      unfold HM.kK HM.kI HM.kG HM.kE
      rw [ht]
      have e1 : ¬ x = 1 := by omega
      have e0 : ¬ x = 0 := by omega
      simp only [e1, e0, if_false, Bool.false_eq_true]
      exact h
    · refine (rlink_more x _ _ hx (by omega) (by omega) rfl rfl w).mono ?_
      have hl : HM.lmay 2 (x % 4294967296 - 2) (x / 4294967296) = HM.tok x := by
        rw [HM.lmay2]
        unfold HM.tok
        rw [Bool.eq_iff_iff]
        simp
        omega
      rw [hl]
      unfold HM.kK HM.kI HM.kG HM.kE
      rintro e w' (⟨h, hh⟩ | ⟨h, hh⟩)
      · rw [h, if_pos rfl, if_pos rfl, if_pos rfl, if_pos rfl]
        exact hh
      · rw [h]
        have e1 : ¬ x = 1 := by omega
        have e0 : ¬ x = 0 := by omega
        simp only [e1, e0, if_false, Bool.false_eq_true]
        exact hh
end Go.Proofs.YteneadimchhhhaaGreatDoor
