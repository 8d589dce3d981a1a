/- Contract of Retired of package table. -/
import Derived.Test.YtldlolgdglmocaaDoorTbNew
namespace Go.Proofs.YtldlolgdglmocaaDoor
open Go.RowKit
section
variable {w : World} {B : TB} {N : Nat} {S : Nat → Sl}
set_option maxHeartbeats 400000 in
theorem retired_any (h : TbAt w B N S) : Calls Tryd.prog 22 #[.pointer (some ⟨B.t, 0, none⟩)] w fun e w' => e = .returned (.int .i64 ((BM.cnt (isTaken S) N - BM.cnt (isUsed S) N : Nat) : Nat)) ∧ ∃ m, w' = w.drewN m := by
  have c0 := h.used
  have c1 := h.taken
  have hN := h.N2
  have hN1 := h.N1
  obtain ⟨ws, hm, hq⟩ := h.kmap
  obtain ⟨us, hu, hq2⟩ := h.umap
  have hle := BM.cnt_le (isTaken S) N
  have hle2 := cnt_mono (isUsed S) (isTaken S) N (fun i h => by unfold isUsed at h; unfold isTaken; rw [h]; rfl)
  have hc := fun (W : World) (hW : W.heap = w.heap) => count_any B.kb B.kc N ws W (hm.heap hW)
  have hc2 := fun (W : World) (hW : W.heap = w.heap) => count_any B.ub B.uc N us W (hu.heap hW)
  rw [hq] at hc
  rw [hq2] at hc2
  have HC := Lib.hid hc
  have HC2 := Lib.hid hc2
  clear hc hc2 hm hu hq hq2 h
  generalize B.ub = ub at *
  generalize B.kb = kb at *
  generalize BM.cnt (isTaken S) N = n at *
  generalize BM.cnt (isUsed S) N = n2 at *
  have J1 : ∀ n' : Nat, Calls Tryd.prog 37 #[.pointer (some ⟨kb, 0, none⟩)] (w.drewN n') fun e w'' => e = .returned (.int .i64 (n : Nat)) ∧ ∃ m, w'' = w.drewN m := fun n' => Calls.quiet_of_same ((HC.out (w.drewN n') rfl).mono fun _ _ ⟨he, hw⟩ => ⟨he, hw.symm⟩)
  have J2 : ∀ n' : Nat, Calls Tryd.prog 37 #[.pointer (some ⟨ub, 0, none⟩)] (w.drewN n') fun e w'' => e = .returned (.int .i64 (n2 : Nat)) ∧ ∃ m, w'' = w.drewN m := fun n' => Calls.quiet_of_same ((HC2.out (w.drewN n') rfl).mono fun _ _ ⟨he, hw⟩ => ⟨he, hw.symm⟩)
  have HJ1 := Lib.hid J1
  have HJ2 := Lib.hid J2
  clear J1 J2
  clear HC HC2
  go_enter Tryd.func22, Tryd.ntmps22
  go_wp2
  go_quiet (first
    | (go_at_call 37; with_reducible exact HJ1.out _)
    | (go_at_call 37; with_reducible exact HJ2.out _))
  go_wp2
  go_ret
  exact ⟨ret_int (by omega), _, rfl⟩
end
end Go.Proofs.YtldlolgdglmocaaDoor
