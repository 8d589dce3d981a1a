/- Contracts of Forget, and of all calls of a nil Set. -/
import Derived.Test.YtehkcflbdmkjpaaRsPut
namespace Go.Proofs.Ytehkcflbdmkjpaa
open Go.RowKit Go.Maps

section
variable {w w' : World} {B : RB} {c : Nat} {L : RM.L} {r : RM.R}
theorem RsAt.okOf (h : RsAt w B c L) {t : Int} : ∀ x ∈ RM.of L t, RefOk x := fun _ hx => h.map.ok _ (RM.mem_of.1 hx)
theorem RsAt.okFrm (h : RsAt w B c L) {s : Int} : ∀ x ∈ RM.frm L s, RefOk x := fun x hx => by
  obtain ⟨⟨t, ht⟩, _⟩ := RM.mem_frm.1 hx
  exact h.map.ok _ ht
set_option maxHeartbeats 2000000 in
theorem rforget_any (h : RsAt w B c L) {s : Int} (hs : I64ok s) (hl : L.length ≤ 1000000) :
    Calls Try.prog 15 #[.pointer (some ⟨B.b, 0, none⟩), .int .i64 s] w (RsC B c (RM.forget L s) (.int .i64 ((RM.frm L s).length : Nat)) w) := by
  have HFR := Lib.hid (rfrom_any h hs hl)
  have HOK := Lib.hid (h.okFrm (s := s))
  have HL := Lib.hid (RM.frm_len L s)
  have HCF := Lib.hid (RM.cuts_frm h.up s)
  have HMB := Lib.hid h.mapB
  have H := Lib.hid h
  clear h
  generalize RM.frm L s = l at *
  go_enter Try.func15, Try.ntmps15
  go_wp2_with fail
  refine HFR.out.mono ?_
  rintro e w1 ⟨v, rfl, hv, hb⟩
  obtain ⟨A, cp, rfl, _⟩ := hv.slice
  have HV := Lib.hid hv
  have HB := Lib.hid hb
  have H1 := Lib.hid (H.out.below hb)
  clear hv hb HFR
  have hlen : l.length ≤ 1000000 := Nat.le_trans HL.out hl
  go_wp2_with fail
  go_loopw [13] (fun i wr => ∃ k : Nat, k ≤ l.length ∧ i = .int .i64 k ∧ RsAt wr B c (RM.cuts L (l.take k)) ∧ Aft B.wr w1 wr) (fun i _ => l.length - (intOf i).toNat)
  case atStart => exact ⟨0, Nat.zero_le _, rfl, by simpa [RM.cuts] using H1.out, Aft.refl _ _⟩
  case round =>
    obtain ⟨k, hk, rfl, hm, hbw⟩ := hrel
    have hvr : NewT w.heap.size wr (.slice A l.length cp) l := HV.out.aft hbw H1.out.mapB
    by_cases hlt : k < l.length
    · obtain ⟨g, cap, e1, _, hgl, c1, c2⟩ := hvr.cell hlt
      injection e1 with e1 _ e1'
      subst e1 e1'
      obtain ⟨y, hy⟩ : ∃ y, l[k] = y := ⟨_, rfl⟩
      have hyo := HOK.out y (hy ▸ List.getElem_mem hlt)
      rw [hy] at c1 c2
      obtain ⟨y1, y2⟩ := y
      have hb2 := (Below.refl wr.heap.size wr).alloc (Nat.le_refl _) (.cells #[.int .i64 y1, .int .i64 y2] 24)
      have HC := Lib.hid (rcut_any (hm.below hb2) hyo)
      rw [show RM.cut (RM.cuts L (l.take k)) (y1, y2) = RM.cuts L (l.take (k + 1)) by rw [List.take_succ_eq_append_getElem hlt, RM.cuts_snoc, hy]] at HC
      have HB2 := Lib.hid (hbw.trans (Aft.of_below hb2))
      unfold refV at HC
      dsimp only at c1 c2
      clear hm hb2 hy hvr hyo hbw
      go_wp2_with fail
      refine HC.out.mono ?_
      rintro e w3 ⟨rfl, hm3, ha3⟩
      have HM3 := Lib.hid hm3
      have HA3 := Lib.hid (HB2.out.trans ha3)
      clear hm3 ha3
      go_wp2
      go_roundw
      case rel => exact ⟨k + 1, by omega, by go_num, HM3.out, HA3.out⟩
      case measure => simp [intOf]; omega
    · obtain rfl : k = l.length := by omega
      rw [List.take_length, HCF.out] at hm
      have HM := Lib.hid hm
      have HA := Lib.hid ((Aft.of_below HB.out).trans (hbw.sub (fun x hx => hx)))
      clear hm hvr hbw
      go_wp2
      go_ret
      exact ⟨rfl, HM.out, HA.out⟩
end
theorem rput_nil (r : RM.R) (t : Int) (w : World) : Calls Try.prog 11 #[.pointer none, refV r, .int .i64 t] w fun e w' => e = .returned (.bool false) ∧ Below w.heap.size w w' := by
  obtain ⟨r1, r2⟩ := r
  have HW := Lib.hid ((Below.refl w.heap.size w).alloc (Nat.le_refl _) (.cells #[.int .i64 r1, .int .i64 r2] 24))
  unfold refV
  go_enter Try.func11, Try.ntmps11
  go_wp2
  go_ret
  exact ⟨rfl, HW.out⟩
theorem rcut_nil (r : RM.R) (w : World) : Calls Try.prog 12 #[.pointer none, refV r] w fun e w' => e = .returned (.bool false) ∧ Below w.heap.size w w' := by
  obtain ⟨r1, r2⟩ := r
  have HW := Lib.hid ((Below.refl w.heap.size w).alloc (Nat.le_refl _) (.cells #[.int .i64 r1, .int .i64 r2] 24))
  have HT := Lib.hid (rto_nil (r := (r1, r2)) (w.alloc (.cells #[.int .i64 r1, .int .i64 r2] 24)))
  unfold refV at *
  have hx := Whole.fresh w 24 #[.int .i64 r1, .int .i64 r2]
  have x0 := hx.cell 0
  have x1 := hx.cell 1
  simp only [List.getElem?_toArray, List.getElem?_cons_zero, List.getElem?_cons_succ] at x0 x1
  clear hx
  go_enter Try.func12, Try.ntmps12
  go_wp2_with fail
  refine HT.out.mono ?_
  rintro e w1 ⟨rfl, hb⟩
  go_wp2
  go_ret
  exact ⟨rfl, HW.out.trans (hb.mono (by simp))⟩
theorem rforget_nil (s : Int) (w : World) : Calls Try.prog 15 #[.pointer none, .int .i64 s] w fun e w' => e = .returned (.int .i64 0) ∧ w = w' := by
  have HF := Lib.hid (rfrom_nil s w)
  go_enter Try.func15, Try.ntmps15
  go_wp2_with fail
  refine HF.out.mono ?_
  rintro e w1 ⟨rfl, rfl⟩
  go_wp2_with fail
  refine wp_loop_rounds 1 ?_
  rw [rounds_succ]
  go_wp2
  go_ret
  exact ⟨rfl, rfl⟩
end Go.Proofs.Ytehkcflbdmkjpaa
