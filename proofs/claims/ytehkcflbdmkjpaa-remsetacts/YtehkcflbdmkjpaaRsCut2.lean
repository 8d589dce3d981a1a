/- Contract of Cut. -/
import Derived.Test.YtehkcflbdmkjpaaRsCut
namespace Go.Proofs.Ytehkcflbdmkjpaa
open Go.RowKit Go.Maps

/-- What is left by a call that takes references out. -/
def RsC (B : RB) (c : Nat) (L : RM.L) (v : Value) (w : World) (e : Ending) (w' : World) : Prop := e = .returned v ∧ RsAt w' B c L ∧ Aft B.wr w w'
/-- A world in which an order has been drawn, as the walk spells it. -/
theorem drew_is (w : World) : ({ heap := w.heap, tape := w.tape, drawn := w.drawn + 1, os := w.os, output := w.output } : World) = w.drew := rfl
section
variable {w w' : World} {B : RB} {c : Nat} {L : RM.L} {r : RM.R}
theorem RsAt.drew (h : RsAt w B c L) : RsAt w.drew B c L := h.keep fun _ _ => rfl
theorem Grp.drew {g : Nat} {I : List Nat} {mem : Int → List RM.R} (h : Grp w g c I mem) : Grp w.drew g c I mem := h.keep fun _ _ => rfl
theorem RMap.drew {m : Nat} (h : RMap w m L) : RMap w.drew m L := h.keep rfl
theorem RsAt.notIn (h : RsAt w B c L) : (∀ x ∈ B.o :: B.I, x ∉ [B.m]) ∧ (∀ x ∈ B.f :: B.J, x ∉ [B.m]) ∧ (∀ x ∈ B.f :: B.J, x ∉ B.o :: B.I) ∧ (∀ x ∈ B.o :: B.I, x ∉ B.f :: B.J) ∧ B.m ∉ B.o :: B.I ∧ B.m ∉ B.f :: B.J := by
  obtain ⟨⟨n1, n2, n3⟩, ⟨n4, n5⟩, n6, n7, n8⟩ := h.ne
  refine ⟨fun x hx => ?_, fun x hx => ?_, fun x hx => ?_, fun x hx => ?_, ?_, ?_⟩
  · simp at hx ⊢
    rcases hx with rfl | hx
    · exact n1.symm
    · exact fun e => n4 (e ▸ hx)
  · simp at hx ⊢
    rcases hx with rfl | hx
    · exact n2.symm
    · exact fun e => n5 (e ▸ hx)
  · simp at hx ⊢
    rcases hx with rfl | hx
    · exact ⟨n3.symm, n7⟩
    · exact ⟨fun e => n6 (e ▸ hx), fun hi => n8 x hi hx⟩
  · simp at hx ⊢
    rcases hx with rfl | hx
    · exact ⟨n3, n6⟩
    · exact ⟨fun e => n7 (e ▸ hx), n8 x hx⟩
  · simp; exact ⟨n1, n4⟩
  · simp; exact ⟨n2, n5⟩
theorem RsAt.tgt (h : RsAt w B c L) (hh : RM.has L r = true) : I64ok (RM.toV L r) := by
  have := (RM.to_iff h.up).1 (RM.to_some hh)
  exact h.val _ this

set_option maxHeartbeats 2000000 in
theorem rcut_any (h : RsAt w B c L) (hr : RefOk r) : Calls Try.prog 12 #[.pointer (some ⟨B.b, 0, none⟩), refV r] w (RsC B c (RM.cut L r) (.bool (RM.has L r)) w) := by
  have hb1 := (Below.refl w.heap.size w).alloc (Nat.le_refl _) (.cells #[.int .i64 r.1, .int .i64 r.2] 24)
  have hx := Whole.fresh w 24 #[.int .i64 r.1, .int .i64 r.2]
  have h1 := h.below hb1
  have HT := Lib.hid (rto_any h1 hr)
  have htg := fun hh => h.tgt (r := r) hh
  obtain ⟨r1, r2⟩ := r
  have HB1 := Lib.hid hb1
  have HX := Lib.hid hx
  have H1 := Lib.hid h1
  have hu := h.up
  have HNI := Lib.hid h.notIn
  have x0 := hx.cell 0
  have x1 := hx.cell 1
  simp only [List.getElem?_toArray, List.getElem?_cons_zero, List.getElem?_cons_succ] at x0 x1
  have HNB := Lib.hid h.notBox
  have HLT := Lib.hid h.lt
  clear h h1 hb1 hx
  cases hh : RM.has L (r1, r2) with
  | false =>
    rw [RM.cut_none hu hh]
    rw [hh] at HT
    clear htg hh
    generalize RM.toV L (r1, r2) = tv at HT
    unfold refV at *
    go_enter Try.func12, Try.ntmps12
    go_wp2_with fail
    refine HT.out.mono ?_
    rintro e w1 ⟨rfl, hb⟩
    go_wp2
    go_ret
    exact ⟨rfl, H1.out.below hb, Aft.of_below (HB1.out.trans (hb.mono (by simp)))⟩
  | true =>
    have ht := htg hh
    have hto := RM.to_some hh
    rw [hh] at HT
    have HIN : Hid ((r1, r2) ∈ RM.of L (RM.toV L (r1, r2)) ∧ (r1, r2) ∈ RM.frm L r1) := Lib.hid ⟨RM.mem_of.2 ((RM.to_iff hu).1 hto), RM.mem_frm.2 ⟨⟨_, (RM.to_iff hu).1 hto⟩, rfl⟩⟩
    have HTO := Lib.hid hto
    clear htg hh hto
    obtain ⟨tv, htv⟩ : ∃ tv, RM.toV L (r1, r2) = tv := ⟨_, rfl⟩
    rw [htv] at HT HIN ht HTO
    clear htv
    unfold refV at HT ⊢
    go_enter Try.func12, Try.ntmps12
    go_wp2_with fail
    refine HT.out.mono ?_
    rintro e w1 ⟨rfl, hb⟩
    have hs1 := hb.size
    simp only [World.size_alloc] at hs1
    have h2 := H1.out.below hb
    have hx2 : Whole w1 w.heap.size 24 #[.int .i64 r1, .int .i64 r2] := HX.out.below hb (by simp)
    have HA1 : Hid (Aft B.wr w w1) := Lib.hid (Aft.of_below (HB1.out.trans (hb.mono (by simp))))
    obtain ⟨wd, hwd⟩ : ∃ wd, wd = w1.drew := ⟨_, rfl⟩
    have HWD := Lib.hid ((drew_is w1).trans hwd.symm)
    have hd1 : RsAt wd B c L := by rw [hwd]; exact h2.drew
    have hxd : Whole wd w.heap.size 24 #[.int .i64 r1, .int .i64 r2] := by rw [hwd]; exact hx2
    have HAd : Hid (Aft B.wr w wd) := Lib.hid (by rw [hwd]; exact HA1.out.drew)
    have c0 := hd1.c0
    obtain ⟨w2, hrun, hm2, ha2, hs2⟩ := hd1.map.del hu hr 0
    have d0 := hxd.cell 0
    have d1 := hxd.cell 1
    simp only [List.getElem?_toArray, List.getElem?_cons_zero, List.getElem?_cons_succ] at d0 d1
    have HD1 := Lib.hid hd1
    have HXD := Lib.hid hxd
    have HM2 := Lib.hid hm2
    have HA2 := Lib.hid ha2
    unfold refV at hrun
    clear hwd h2 hx2 hd1 hxd hm2 ha2 hb x0 x1 hs2 hs1
    go_wp2_with fail
    refine wp_region_still_tail 5 (by kernel_rfl) (by kernel_rfl) ?_
    simp only [List.take_succ_cons, List.take_zero, List.drop_succ_cons, List.drop_zero]
    rw [HWD.out]
    repeat still_step
    refine wpStill_nil ?_
    go_wp2_with fail
    have hlt := HLT.out
    have hxn : w.heap.size ∉ B.m :: B.o :: B.f :: (B.I ++ B.J) := fun hx => by have := hlt _ (List.mem_cons_of_mem _ hx); omega
    obtain ⟨n1, n2, n3, n4, n5, n6⟩ := HNI.out
    have hbm : B.b ∉ [B.m] := fun hx => HNB.out (by simp at hx; simp [RB.wr, hx])
    have hbo : B.b ∉ B.o :: B.I := fun hx => HNB.out (by simp at hx; rcases hx with e | e <;> simp [RB.wr, e])
    have hbf : B.b ∉ B.f :: B.J := fun hx => HNB.out (by simp at hx; rcases hx with e | e <;> simp [RB.wr, e])
    have hxm : w.heap.size ∉ [B.m] := fun hx => hxn (by simp at hx; simp [hx])
    have hxo : w.heap.size ∉ B.o :: B.I := fun hx => hxn (by simp at hx; rcases hx with e | e <;> simp [e])
    have hb2 := HA2.out.whole HD1.out.box hbm
    have hx2 := HA2.out.whole HXD.out hxm
    have hg2 := HD1.out.of.aft HA2.out n1
    have hf2 := HD1.out.frm.aft HA2.out n2
    obtain ⟨wd2, hwd2⟩ : ∃ wd, wd = w2.drew := ⟨_, rfl⟩
    have HWD2 := Lib.hid ((drew_is w2).trans hwd2.symm)
    have hb2' : Whole wd2 B.b 53 #[.map (some B.m), .map (some B.o), .map (some B.f)] := by rw [hwd2]; exact hb2
    have hx2' : Whole wd2 w.heap.size 24 #[.int .i64 r1, .int .i64 r2] := by rw [hwd2]; exact hx2
    have hg2' : Grp wd2 B.o c B.I (RM.of L) := by rw [hwd2]; exact hg2.drew
    have HF2 : Hid (Grp wd2 B.f c B.J (RM.frm L)) := Lib.hid (by rw [hwd2]; exact hf2.drew)
    have HM2' : Hid (RMap wd2 B.m (RM.cut L (r1, r2))) := Lib.hid (by rw [hwd2]; exact HM2.out.drew)
    have HAd2 : Hid (Aft B.wr w wd2) := Lib.hid (by rw [hwd2]; exact (HAd.out.trans (HA2.out.sub (by simp [RB.wr]))).drew)
    have HDR := Lib.hid (gdrop_any (mem' := RM.of (RM.cut L (r1, r2))) hg2' ht hr HIN.out.1 (fun x => by rw [RM.of_cut, List.mem_filter]; simp) (RM.rise_nodup (RM.of_up (RM.cut_up hu _) _)) (fun y hy => RM.of_cut_other hu HTO.out hy))
    have e1 : wd2.cell? ⟨B.b, 1, none⟩ = some (.map (some B.o)) := by rw [hb2'.cell]; rfl
    have d0 := hx2'.cell 0
    have d1 := hx2'.cell 1
    simp only [List.getElem?_toArray, List.getElem?_cons_zero, List.getElem?_cons_succ] at d0 d1
    have HB2 := Lib.hid hb2'
    have HX2 := Lib.hid hx2'
    unfold refV at HDR
    have HNS := Lib.hid (And.intro n3 (And.intro n4 (And.intro n5 (And.intro n6 (And.intro hbo (And.intro hbf hxo))))))
    clear hwd2 hb2 hx2 hg2 hf2 hb2' hx2' hg2' hlt hxn n1 n2 n3 n4 n5 n6 hbm hbo hbf hxm hxo
    refine wp_region_still_tail 6 (by kernel_rfl) (by kernel_rfl) ?_
    simp only [List.take_succ_cons, List.take_zero, List.drop_succ_cons, List.drop_zero]
    rw [HWD2.out]
    repeat still_step
    refine wpStill_nil ?_
    go_wp2_with fail
    refine HDR.out.mono ?_
    rintro e w3 ⟨rfl, hg3, ha3⟩
    obtain ⟨n3, n4, n5, n6, hbo, hbf, hxo⟩ := HNS.out
    have hb3 := ha3.whole HB2.out hbo
    have hx3 := ha3.whole HX2.out hxo
    have hf3 := HF2.out.aft ha3 n3
    have hm3 := HM2'.out.keep (ha3.block _ HM2'.out.mapB.lt n5)
    obtain ⟨wd3, hwd3⟩ : ∃ wd, wd = w3.drew := ⟨_, rfl⟩
    have HWD3 := Lib.hid ((drew_is w3).trans hwd3.symm)
    have hb3' : Whole wd3 B.b 53 #[.map (some B.m), .map (some B.o), .map (some B.f)] := by rw [hwd3]; exact hb3
    have hx3' : Whole wd3 w.heap.size 24 #[.int .i64 r1, .int .i64 r2] := by rw [hwd3]; exact hx3
    have HG3 : Hid (Grp wd3 B.o c B.I (RM.of (RM.cut L (r1, r2)))) := Lib.hid (by rw [hwd3]; exact hg3.drew)
    have hf3' : Grp wd3 B.f c B.J (RM.frm L) := by rw [hwd3]; exact hf3.drew
    have HM3 : Hid (RMap wd3 B.m (RM.cut L (r1, r2))) := Lib.hid (by rw [hwd3]; exact hm3.drew)
    have HAd3 : Hid (Aft B.wr w wd3) := Lib.hid (by rw [hwd3]; exact (HAd2.out.trans (ha3.sub (by intro x hx; simp at hx; rcases hx with e | e <;> simp [RB.wr, e]))).drew)
    have HDS := Lib.hid (gdrop_any (mem' := RM.frm (RM.cut L (r1, r2))) (z := r1) hf3' hr.1 hr HIN.out.2 (fun x => by rw [RM.frm_cut, List.mem_filter]; simp) (RM.rise_nodup (RM.frm_up (RM.cut_up hu _) _)) (fun y hy => RM.frm_cut_other hy))
    have e2 : wd3.cell? ⟨B.b, 2, none⟩ = some (.map (some B.f)) := by rw [hb3'.cell]; rfl
    have d0 := hx3'.cell 0
    have d1 := hx3'.cell 1
    simp only [List.getElem?_toArray, List.getElem?_cons_zero, List.getElem?_cons_succ] at d0 d1
    have HB3 := Lib.hid hb3'
    unfold refV at HDS
    clear hwd3 hb3 hx3 hg3 hf3 hm3 hb3' hx3' hf3' n3 n4 n5 n6 hbo hbf hxo ha3
    go_wp2_with fail
    refine wp_region_still_tail 7 (by kernel_rfl) (by kernel_rfl) ?_
    simp only [List.take_succ_cons, List.take_zero, List.drop_succ_cons, List.drop_zero]
    rw [HWD3.out]
    repeat still_step
    refine wpStill_nil ?_
    go_wp2_with fail
    refine HDS.out.mono ?_
    rintro e w4 ⟨rfl, hg4, ha4⟩
    have HG4 := Lib.hid hg4
    have HA4 := Lib.hid ha4
    clear hg4 ha4
    go_wp2
    go_ret
    obtain ⟨n3, n4, n5, n6, hbo, hbf, hxo⟩ := HNS.out
    refine ⟨rfl, ⟨HA4.out.whole HB3.out hbf, HM3.out.keep (HA4.out.block _ HM3.out.mapB.lt n6), HG3.out.aft HA4.out n4, HG4.out, RM.cut_up hu _, fun p hp => HD1.out.val p (RM.mem_cut.1 hp).1, HD1.out.ne⟩, HAd3.out.trans (HA4.out.sub (by intro x hx; simp at hx; rcases hx with e | e <;> simp [RB.wr, e]))⟩
end
end Go.Proofs.Ytehkcflbdmkjpaa
