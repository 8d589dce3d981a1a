/- The contract of the law package's alive: the document's example holds. -/
import Derived.Test.YteneadimchhhhaaGreatDoorImMade
namespace Go.Proofs.YteneadimchhhhaaGreatDoor
open Go.RowKit

def exD : List LD := [⟨2, 0, [1], []⟩]
theorem ex_make : IM.mkE (cf5 exD) 8 1 0 3 = 0 ∧ IM.mkN (cf5 exD) 8 1 0 3 = 3 := by constructor <;> decide
/-- The words behind the example's Make. -/
def exW : Nat → Nat := IM.mkW (cf5 exD) wd0 8 1 0 3
theorem ex_load : IM.ldE (cf5 exD) exW 8 0 = 0 ∧ IM.ldV (cf5 exD) exW 8 0 = 0 := by constructor <;> decide
theorem ex_follow0 : IM.flE (cf5 exD) exW 8 0 = 9 ∧ IM.flK (cf5 exD) exW 8 0 = 0 ∧ IM.flI (cf5 exD) exW 8 0 = 0 ∧ IM.flG (cf5 exD) exW 8 0 = 0 := by refine ⟨?_, ?_, ?_, ?_⟩ <;> decide
theorem ex_follow1 : IM.flE (cf5 exD) exW 8 1 = 0 ∧ IM.flK (cf5 exD) exW 8 1 = 0 ∧ IM.flI (cf5 exD) exW 8 1 = 0 ∧ IM.flG (cf5 exD) exW 8 1 = 0 := by refine ⟨?_, ?_, ?_, ?_⟩ <;> decide
def exL (a : Nat) : LV := ⟨2, 0, some ⟨a, 0, none⟩, 1, 1, [1], none, 0, 0, []⟩
theorem ex_pick (a : Nat) : (pick 6 [exL a]).map LV.ld = exD := by
  unfold pick
  have : (exL a).right = true := by show LM.right 2 0 [1] [] = true; decide
  rw [show ([exL a] : List LV).take 6 = [exL a] from rfl, List.filter_cons_of_pos this]
  rfl
theorem ex_ls (w : World) (t : TypeId) : LS ((w.alloc (.cells #[.int .i64 1] 3)).alloc (.cells #[.int .i64 2, .slice (some ⟨w.heap.size, 0, none⟩) 1 1, .int .i64 0, .slice none 0 0] t)) ((w.alloc (.cells #[.int .i64 1] 3)).alloc (.cells #[.int .i64 2, .slice (some ⟨w.heap.size, 0, none⟩) 1 1, .int .i64 0, .slice none 0 0] t)).heap.size (some ⟨w.heap.size + 1, 0, none⟩) 1 [exL w.heap.size] := by
  have h1 := ns_list (xs := [1]) ((Whole.fresh w 3 #[.int .i64 1]).alloc (.cells #[.int .i64 2, .slice (some ⟨w.heap.size, 0, none⟩) 1 1, .int .i64 0, .slice none 0 0] t)) (by simp [wf_small])
  have h2 := Whole.fresh' (w := w.alloc (.cells #[.int .i64 1] 3)) (b := w.heap.size + 1) (t := t) (cs := #[.int .i64 2, .slice (some ⟨w.heap.size, 0, none⟩) 1 1, .int .i64 0, .slice none 0 0]) (by simp)
  refine ⟨rfl, fun _ => ⟨w.heap.size + 1, 0, rfl, by simp, fun i l j hi hj => ?_⟩, fun l hl => ?_⟩
  · match i, hi with
    | 0, hi =>
      simp at hi
      subst hi
      rw [show 0 + 0 * 4 + j = j by omega, h2.cell]
      match j, hj with
      | 0, _ => rfl
      | 1, _ => rfl
      | 2, _ => rfl
      | 3, _ => rfl
  · rw [List.mem_singleton] at hl
    subst hl
    refine ⟨⟨⟨h1, fun a _ => Nat.zero_le _, (fun e => by cases e)⟩, ⟨⟨rfl, by simp [exL], fun h => absurd h (Nat.lt_irrefl 0)⟩, (fun a e => by cases e), fun _ => rfl⟩⟩, ?_, ?_⟩
    · show I64 2; unfold I64; omega
    · show I64 0; unfold I64; omega

set_option maxRecDepth 100000 in
set_option maxHeartbeats 2000000 in
theorem ialive_any (w : World) (hT : Tab w) : Calls Tryz.prog 5 #[] w fun e w' => e = .returned (.bool true) ∧ Below w.heap.size w w' := by
  have hb0 : Below w.heap.size w ((w.alloc (.cells #[.int .i64 1] 3)).alloc (.cells #[.int .i64 2, .slice (some ⟨w.heap.size, 0, none⟩) 1 1, .int .i64 0, .slice none 0 0] 70)) := ((Below.refl _ _).alloc (Nat.le_refl _) _).alloc (by simp) _
  have M := made_any (some ⟨w.heap.size + 1, 0, none⟩) 1 1 [exL w.heap.size] _ (ex_ls w 70) (by intro l hl; rw [List.mem_singleton] at hl; subst hl; exact ⟨show 1 ≤ 1000000 by decide, show 0 ≤ 1000000 by decide⟩) (by omega) (hT.below hb0 hT.pos)
  have HM := Lib.hid M
  have HB0 := Lib.hid hb0
  clear M hb0 hT
  go_enter Tryz.func5, Tryz.ntmps5
  go_wp2_with fail
  refine HM.out.mono ?_
  rintro e w1 ⟨I, J, rfl, -, hm⟩
  rw [ex_pick] at hm
  have C1 := imake_any hm.im 8 1 0 3 (by unfold I64; omega)
  rw [ex_make.1, ex_make.2] at C1
  have HC1 := Lib.hid C1
  have HM1 := Lib.hid hm
  clear C1 hm HM
  go_wp2_with fail
  refine HC1.out.mono ?_
  rintro e w2 ⟨rfl, hi, ha⟩
  have hm2 := HM1.out.code hi ha
  have C2 := iload_any hm2.im 8 0
  change Calls _ _ _ _ (fun e w' => e = .returned (.tuple #[.int .u64 (IM.ldV (cf5 exD) exW 8 0 : Nat), .int .i64 (IM.ldE (cf5 exD) exW 8 0)]) ∧ Below w2.heap.size w2 w') at C2
  rw [ex_load.1, ex_load.2] at C2
  have HC2 := Lib.hid C2
  have HM2 := Lib.hid hm2
  clear C2 hm2 HC1 HM1 hi ha
  go_wp2_with fail
  refine HC2.out.mono ?_
  rintro e w3 ⟨rfl, hb3⟩
  have hm3 := HM2.out.later hb3
  have C3 := ifollow_any hm3.im 8 0
  change Calls _ _ _ _ (LinkIs (IM.flK (cf5 exD) exW 8 0) (IM.flI (cf5 exD) exW 8 0) (IM.flG (cf5 exD) exW 8 0) (IM.flE (cf5 exD) exW 8 0) w3) at C3
  rw [ex_follow0.1, ex_follow0.2.1, ex_follow0.2.2.1, ex_follow0.2.2.2] at C3
  have HC3 := Lib.hid C3
  have HM3 := Lib.hid hm3
  clear C3 hm3 HC2 HM2 hb3
  go_wp2_with fail
  refine HC3.out.mono ?_
  rintro e w4 ⟨rfl, hb4⟩
  have hm4 := (HM3.out.later hb4).later ((Below.refl _ _).alloc (Nat.le_refl _) (.cells #[.int .i64 0, .int .i64 0, .int .i64 0] 37))
  have C4 := ifollow_any hm4.im 8 1
  change Calls _ _ _ _ (LinkIs (IM.flK (cf5 exD) exW 8 1) (IM.flI (cf5 exD) exW 8 1) (IM.flG (cf5 exD) exW 8 1) (IM.flE (cf5 exD) exW 8 1) _) at C4
  rw [ex_follow1.1, ex_follow1.2.1, ex_follow1.2.2.1, ex_follow1.2.2.2] at C4
  have HC4 := Lib.hid C4
  have HM4 := Lib.hid hm4
  clear C4 hm4 HC3 HM3 hb4
  go_wp2_with fail
  refine HC4.out.mono ?_
  rintro e w5 ⟨rfl, hb5⟩
  have hm5 := HM4.out.later hb5
  have HB := Lib.hid (HB0.out.trans ((hm5.bel.alloc hm5.bel.size (.cells #[.int .i64 0, .int .i64 0, .int .i64 0] 37)).mono HB0.out.size))
  clear hm5 HC4 HM4 hb5
  go_wp2_with fail
  go_ret
  exact ⟨rfl, HB.out⟩
end Go.Proofs.YteneadimchhhhaaGreatDoor
