/- Contract of Put. -/
import Derived.Test.YtehkcflbdmkjpaaRsCut2
namespace Go.Proofs.Ytehkcflbdmkjpaa
open Go.RowKit Go.Maps

namespace RM
theorem mem_of_put {l : L} {r x : R} {t u : Int} : x ∈ of (put l r t) u ↔ x ∈ of (cut l r) u ∨ (x = r ∧ u = t) := by
  rw [mem_of, mem_of, mem_put, mem_cut]
  simp only [Prod.mk.injEq]
theorem mem_frm_put {l : L} {r x : R} {t s : Int} : x ∈ frm (put l r t) s ↔ x ∈ frm (cut l r) s ∨ (x = r ∧ s = r.1) := by
  rw [mem_frm, mem_frm]
  constructor
  · rintro ⟨⟨u, hu⟩, rfl⟩
    rcases mem_put.1 hu with h | h
    · exact .inl ⟨⟨u, mem_cut.2 h⟩, rfl⟩
    · injection h with h1 h2
      exact .inr ⟨h1, by rw [h1]⟩
  · rintro (⟨⟨u, hu⟩, rfl⟩ | ⟨rfl, rfl⟩)
    · exact ⟨⟨u, mem_put.2 (.inl (mem_cut.1 hu))⟩, rfl⟩
    · exact ⟨⟨t, mem_put.2 (.inr rfl)⟩, rfl⟩
theorem of_put_other {l : L} (h : Up l) {r : R} {t u : Int} (hu : u ≠ t) : of (put l r t) u = of (cut l r) u :=
  TM.same _ _ (of_up (put_up h r t) u) (of_up (cut_up h r) u) fun x => by rw [mem_of_put]; simp [hu]
theorem frm_put_other {l : L} (h : Up l) {r : R} {t s : Int} (hs : s ≠ r.1) : frm (put l r t) s = frm (cut l r) s :=
  TM.same _ _ (frm_up (put_up h r t) s) (frm_up (cut_up h r) s) fun x => by rw [mem_frm_put]; simp [hs]
theorem cut_le (l : L) (r : R) : (cut l r).length ≤ l.length := List.length_filter_le _ _
end RM
/-- What is left by a call that puts a reference. -/
def RsP (B : RB) (c : Nat) (L : RM.L) (v : Value) (w : World) (e : Ending) (w' : World) : Prop :=
  e = .returned v ∧ ∃ B', B'.b = B.b ∧ RsAt w' B' c L ∧ (∀ x ∈ B.wr, x ∈ B'.wr) ∧ (∀ x ∈ B'.wr, x ∈ B.wr ∨ w.heap.size ≤ x) ∧ Aft B.wr w w'
section
variable {w w' : World} {B : RB} {c : Nat} {L : RM.L} {r : RM.R}
set_option maxHeartbeats 2000000 in
theorem rput_any (h : RsAt w B c L) (hr : RefOk r) {t : Int} (ht : I64ok t) (hc : c < 1000000) (hl : L.length < 1000000) :
    Calls Try.prog 11 #[.pointer (some ⟨B.b, 0, none⟩), refV r, .int .i64 t] w (RsP B (c + 1) (RM.put L r t) (.bool (!RM.has L r)) w) := by
  have hb1 := (Below.refl w.heap.size w).alloc (Nat.le_refl _) (.cells #[.int .i64 r.1, .int .i64 r.2] 24)
  have hx := Whole.fresh w 24 #[.int .i64 r.1, .int .i64 r.2]
  have h1 := h.below hb1
  have HC := Lib.hid (rcut_any h1 hr)
  have hu := h.up
  have hcl := RM.cut_le L r
  obtain ⟨r1, r2⟩ := r
  have HB1 := Lib.hid hb1
  have HX := Lib.hid hx
  have HLT := Lib.hid h.lt
  have HNB := Lib.hid h.notBox
  have HNE := Lib.hid h.ne
  have HNI := Lib.hid h.notIn
  have HMB := Lib.hid h1.mapB
  have x0 := hx.cell 0
  have x1 := hx.cell 1
  simp only [List.getElem?_toArray, List.getElem?_cons_zero, List.getElem?_cons_succ] at x0 x1
  have HVAL := Lib.hid (show ∀ p ∈ RM.put L (r1, r2) t, I64ok p.2 from fun p hp => by
    rcases RM.mem_put.1 hp with ⟨hp, _⟩ | rfl
    · exact h.val p hp
    · exact ht)
  clear h h1 hb1 hx
  generalize RM.has L (r1, r2) = hd at *
  unfold refV at HC ⊢
  go_enter Try.func11, Try.ntmps11
  go_wp2_with fail
  refine HC.out.mono ?_
  rintro e w1 ⟨rfl, h2, ha1⟩
  have hs1 := ha1.size
  simp only [World.size_alloc] at hs1
  have hlt := HLT.out
  have hxn : w.heap.size ∉ B.m :: B.o :: B.f :: (B.I ++ B.J) := fun hx => by have := hlt _ (List.mem_cons_of_mem _ hx); omega
  have hx2 : Whole w1 w.heap.size 24 #[.int .i64 r1, .int .i64 r2] := ha1.whole HX.out hxn
  have HA1 : Hid (Aft B.wr w w1) := Lib.hid ((Aft.of_below HB1.out).trans ha1)
  obtain ⟨wd, hwd⟩ : ∃ wd, wd = w1.drew := ⟨_, rfl⟩
  have HWD := Lib.hid ((drew_is w1).trans hwd.symm)
  have hd1 : RsAt wd B c (RM.cut L (r1, r2)) := by rw [hwd]; exact h2.drew
  have hxd : Whole wd w.heap.size 24 #[.int .i64 r1, .int .i64 r2] := by rw [hwd]; exact hx2
  have HAd : Hid (Aft B.wr w wd) := Lib.hid (by rw [hwd]; exact HA1.out.drew)
  have c0 := hd1.c0
  obtain ⟨w2, hrun, hm2, ha2, hs2⟩ := hd1.map.put hd1.up hr ht (by omega) (RM.cut_not (r1, r2))
  have hm2 : RMap w2 B.m (RM.put L (r1, r2) t) := hm2
  have d0 := hxd.cell 0
  have d1 := hxd.cell 1
  simp only [List.getElem?_toArray, List.getElem?_cons_zero, List.getElem?_cons_succ] at d0 d1
  have HD1 := Lib.hid hd1
  have HXD := Lib.hid hxd
  have HM2 := Lib.hid hm2
  have HA2 := Lib.hid ha2
  have HXN := Lib.hid hxn
  unfold refV at hrun
  clear hwd h2 hx2 hd1 hxd hm2 ha2 x0 x1 hs2 hlt hxn ha1
  go_wp2_with fail
  refine wp_region_still_tail 6 (by kernel_rfl) (by kernel_rfl) ?_
  simp only [List.take_succ_cons, List.take_zero, List.drop_succ_cons, List.drop_zero]
  rw [HWD.out]
  repeat still_step
  refine wpStill_nil ?_
  go_wp2_with fail
  have hxn := HXN.out
  obtain ⟨n1, n2, n3, n4, n5, n6⟩ := HNI.out
  have hbm : B.b ∉ [B.m] := fun hx => HNB.out (by simp at hx; simp [RB.wr, hx])
  have hbo : B.b ∉ B.o :: B.I := fun hx => HNB.out (by simp at hx; rcases hx with e | e <;> simp [RB.wr, e])
  have hbf : B.b ∉ B.f :: B.J := fun hx => HNB.out (by simp at hx; rcases hx with e | e <;> simp [RB.wr, e])
  have hxm : w.heap.size ∉ [B.m] := fun hx => hxn (by simp at hx; simp [hx])
  have hxo : w.heap.size ∉ B.o :: B.I := fun hx => hxn (by simp at hx; rcases hx with e | e <;> simp [e])
  have hb2 := HA2.out.whole HD1.out.box hbm
  have hx2 := HA2.out.whole HXD.out hxm
  have hg2 := HD1.out.of.aft HA2.out n1
  have hf2 := HD1.out.frm.aft HA2.out n2
  have hlo := Nat.le_trans (RM.of_len (RM.cut L (r1, r2)) t) hcl
  have hlf := Nat.le_trans (RM.frm_len (RM.cut L (r1, r2)) r1) hcl
  obtain ⟨wd2, hwd2⟩ : ∃ wd, wd = w2.drew := ⟨_, rfl⟩
  have HWD2 := Lib.hid ((drew_is w2).trans hwd2.symm)
  have hb2' : Whole wd2 B.b 53 #[.map (some B.m), .map (some B.o), .map (some B.f)] := by rw [hwd2]; exact hb2
  have hx2' : Whole wd2 w.heap.size 24 #[.int .i64 r1, .int .i64 r2] := by rw [hwd2]; exact hx2
  have hg2' : Grp wd2 B.o c B.I (RM.of (RM.cut L (r1, r2))) := by rw [hwd2]; exact hg2.drew
  have HF2 : Hid (Grp wd2 B.f c B.J (RM.frm (RM.cut L (r1, r2)))) := Lib.hid (by rw [hwd2]; exact hf2.drew)
  have HM2' : Hid (RMap wd2 B.m (RM.put L (r1, r2) t)) := Lib.hid (by rw [hwd2]; exact HM2.out.drew)
  have HAd2 : Hid (Aft B.wr w wd2) := Lib.hid (by rw [hwd2]; exact (HAd.out.trans (HA2.out.sub (by simp [RB.wr]))).drew)
  have HDR := Lib.hid (gadd_any (mem' := RM.of (RM.put L (r1, r2) t)) hg2' ht hr hc (by omega) (fun x => by rw [RM.mem_of_put]; simp) (RM.rise_nodup (RM.of_up (RM.put_up hu _ _) _)) (fun y hy => RM.of_put_other hu hy))
  have e1 : wd2.cell? ⟨B.b, 1, none⟩ = some (.map (some B.o)) := by rw [hb2'.cell]; rfl
  have d0 := hx2'.cell 0
  have d1 := hx2'.cell 1
  simp only [List.getElem?_toArray, List.getElem?_cons_zero, List.getElem?_cons_succ] at d0 d1
  have HB2 := Lib.hid hb2'
  have HX2 := Lib.hid hx2'
  have HSZ2 : Hid (w.heap.size + 1 ≤ wd2.heap.size) := Lib.hid (by have := HX2.out.lt; omega)
  unfold refV at HDR
  have HNS := Lib.hid (And.intro n3 (And.intro n4 (And.intro n5 (And.intro n6 (And.intro hbo (And.intro hbf hxo))))))
  clear hwd2 hb2 hx2 hg2 hf2 hb2' hx2' hg2' hxn n1 n2 n3 n4 n5 n6 hbm hbo hbf hxm hxo hlo
  refine wp_region_still_tail 6 (by kernel_rfl) (by kernel_rfl) ?_
  simp only [List.take_succ_cons, List.take_zero, List.drop_succ_cons, List.drop_zero]
  rw [HWD2.out]
  repeat still_step
  refine wpStill_nil ?_
  go_wp2_with fail
  refine HDR.out.mono ?_
  rintro e w3 ⟨rfl, I', hg3, hI1, hI2, ha3⟩
  obtain ⟨n3, n4, n5, n6, hbo, hbf, hxo⟩ := HNS.out
  have hb3 := ha3.whole HB2.out hbo
  have hx3 := ha3.whole HX2.out hxo
  have hf3 := HF2.out.aft ha3 n3
  have hm3 := HM2'.out.keep (ha3.block _ HM2'.out.mapB.lt n5)
  obtain ⟨wd3, hwd3⟩ : ∃ wd, wd = w3.drew := ⟨_, rfl⟩
  have HWD3 := Lib.hid ((drew_is w3).trans hwd3.symm)
  have hb3' : Whole wd3 B.b 53 #[.map (some B.m), .map (some B.o), .map (some B.f)] := by rw [hwd3]; exact hb3
  have hx3' : Whole wd3 w.heap.size 24 #[.int .i64 r1, .int .i64 r2] := by rw [hwd3]; exact hx3
  have HG3 : Hid (Grp wd3 B.o (c + 1) I' (RM.of (RM.put L (r1, r2) t))) := Lib.hid (by rw [hwd3]; exact hg3.drew)
  have hf3' : Grp wd3 B.f c B.J (RM.frm (RM.cut L (r1, r2))) := by rw [hwd3]; exact hf3.drew
  have HM3 : Hid (RMap wd3 B.m (RM.put L (r1, r2) t)) := Lib.hid (by rw [hwd3]; exact hm3.drew)
  have HAd3 : Hid (Aft B.wr w wd3) := Lib.hid (by rw [hwd3]; exact (HAd2.out.trans (ha3.sub (by intro x hx; simp at hx; rcases hx with e | e <;> simp [RB.wr, e]))).drew)
  have HSZ3 : Hid (wd2.heap.size ≤ wd3.heap.size) := Lib.hid (by rw [hwd3]; exact ha3.size)
  have HDS := Lib.hid (gadd_any (mem' := RM.frm (RM.put L (r1, r2) t)) (z := r1) hf3' hr.1 hr hc (by omega) (fun x => by rw [RM.mem_frm_put]; simp) (RM.rise_nodup (RM.frm_up (RM.put_up hu _ _) _)) (fun y hy => RM.frm_put_other hu hy))
  have e2 : wd3.cell? ⟨B.b, 2, none⟩ = some (.map (some B.f)) := by rw [hb3'.cell]; rfl
  have d0 := hx3'.cell 0
  have d1 := hx3'.cell 1
  simp only [List.getElem?_toArray, List.getElem?_cons_zero, List.getElem?_cons_succ] at d0 d1
  have HB3 := Lib.hid hb3'
  have HI1 := Lib.hid hI1
  have HI2 := Lib.hid hI2
  unfold refV at HDS
  clear hwd3 hb3 hx3 hg3 hf3 hm3 hb3' hx3' hf3' n3 n4 n5 n6 hbo hbf hxo ha3 hI1 hI2
  go_wp2_with fail
  refine wp_region_still_tail 7 (by kernel_rfl) (by kernel_rfl) ?_
  simp only [List.take_succ_cons, List.take_zero, List.drop_succ_cons, List.drop_zero]
  rw [HWD3.out]
  repeat still_step
  refine wpStill_nil ?_
  go_wp2_with fail
  refine HDS.out.mono ?_
  rintro e w4 ⟨rfl, J', hg4, hJ1, hJ2, ha4⟩
  have HG4 := Lib.hid hg4
  have HA4 := Lib.hid ha4
  have HJ1 := Lib.hid hJ1
  have HJ2 := Lib.hid hJ2
  clear hg4 ha4 hJ1 hJ2
  go_wp2
  go_ret
  obtain ⟨n3, n4, n5, n6, hbo, hbf, hxo⟩ := HNS.out
  obtain ⟨⟨a1, a2, a3⟩, ⟨a4, a5⟩, a6, a7, a8⟩ := HNE.out
  have s2 := HSZ2.out
  have s3 := HSZ3.out
  have lo : ∀ x ∈ B.wr, x < w.heap.size := fun x hx => HLT.out x (List.mem_cons_of_mem _ hx)
  have lI : ∀ x ∈ I', x < wd3.heap.size := fun x hx => (HG3.out.maps x hx).lt
  have om : B.m < w.heap.size := lo _ (by simp [RB.wr])
  have oo : B.o < w.heap.size := lo _ (by simp [RB.wr])
  have of' : B.f < w.heap.size := lo _ (by simp [RB.wr])
  have oI : ∀ x ∈ B.I, x < w.heap.size := fun x hx => lo _ (by simp [RB.wr, hx])
  have oJ : ∀ x ∈ B.J, x < w.heap.size := fun x hx => lo _ (by simp [RB.wr, hx])
  have keyI : ∀ x ∈ I', x ∈ B.I ∨ wd2.heap.size ≤ x := HI2.out
  have keyJ : ∀ x ∈ J', x ∈ B.J ∨ wd3.heap.size ≤ x := HJ2.out
  refine ⟨rfl, ⟨B.b, B.m, B.o, B.f, I', J'⟩, rfl, ⟨HA4.out.whole HB3.out hbf, HM3.out.keep (HA4.out.block _ HM3.out.mapB.lt n6), HG3.out.aft HA4.out (fun x hx => ?_), HG4.out, RM.put_up hu _ _, HVAL.out,
    ⟨⟨a1, a2, a3⟩, ⟨fun hx => ?_, fun hx => ?_⟩, fun hx => ?_, fun hx => ?_, fun x hx hx' => ?_⟩⟩, fun x hx => ?_, fun x hx => ?_, HAd3.out.trans (HA4.out.sub (by intro x hx; simp at hx; rcases hx with e | e <;> simp [RB.wr, e]))⟩
  · rcases List.mem_cons.1 hx with rfl | hx
    · exact n4 _ (by simp)
    · rcases keyI x hx with h | h
      · exact n4 _ (by simp [h])
      · intro e
        rcases List.mem_cons.1 e with e | e
        · omega
        · have := oJ x e; omega
  · rcases keyI B.m hx with h | h
    · exact a4 h
    · omega
  · rcases keyJ B.m hx with h | h
    · exact a5 h
    · omega
  · rcases keyJ B.o hx with h | h
    · exact a6 h
    · omega
  · rcases keyI B.f hx with h | h
    · exact a7 h
    · omega
  · rcases keyI _ hx with h | h <;> rcases keyJ _ hx' with h' | h'
    · exact a8 x h h'
    · have := oI x h; omega
    · have := oJ x h'; omega
    · have := lI x hx; omega
  · simp only [RB.wr, List.mem_cons, List.mem_append] at hx ⊢
    rcases hx with h | h | h | h | h
    · exact .inl h
    · exact .inr (.inl h)
    · exact .inr (.inr (.inl h))
    · exact .inr (.inr (.inr (.inl (HI1.out x h))))
    · exact .inr (.inr (.inr (.inr (HJ1.out x h))))
  · simp only [RB.wr, List.mem_cons, List.mem_append] at hx ⊢
    rcases hx with h | h | h | h | h
    · exact .inl (.inl h)
    · exact .inl (.inr (.inl h))
    · exact .inl (.inr (.inr (.inl h)))
    · rcases keyI x h with h | h
      · exact .inl (.inr (.inr (.inr (.inl h))))
      · exact .inr (by omega)
    · rcases keyJ x h with h | h
      · exact .inl (.inr (.inr (.inr (.inr h))))
      · exact .inr (by omega)
end
end Go.Proofs.Ytehkcflbdmkjpaa
