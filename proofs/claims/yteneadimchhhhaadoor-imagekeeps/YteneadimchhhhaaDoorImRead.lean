/- Contracts of Load, Follow of images. -/
import Derived.Test.YteneadimchhhhaaDoorImAtH
import Derived.Test.YteneadimchhhhaaDoorHdLink
namespace Go.Proofs.YteneadimchhhhaaDoor
open Go.RowKit

section
variable {w : World} {I : IB} {q : Cf} {wd : Nat → Nat}
set_option maxHeartbeats 1000000 in
theorem readAtU_any (h : ImAt w I q wd) (a p : Int) :
    Calls Tryd.prog 28 #[.pointer (some ⟨I.p, 0, none⟩), .int .i64 a, .int .i64 p, .bool false, .func (.func 21) #[.pointer (some ⟨I.B.s, 0, none⟩)] #[]] w fun e w' => e = .returned (.tuple #[.int .u64 (IM.ldV q wd a p : Nat), .int .i64 (IM.ldE q wd a p)]) ∧ Below w.heap.size w w' := by
  have CA := addressOf_any h a p false
  have HA : ∀ w', Below w.heap.size w w' → Calls Tryd.prog 21 #[.pointer (some ⟨I.B.s, 0, none⟩), .int .i64 (a + 1 + p)] w' fun e w'' => e = .returned (.tuple #[.int .u64 (readV q.own wd q.C q.K (a + 1 + p) : Nat), .int .i64 (addrE q.own q.C q.K (a + 1 + p))]) ∧ w' = w'' := fun w' hb => read_any (h.below hb).st (a + 1 + p)
  by_cases hz : IM.plE q wd a p false = 0
  · have hE : IM.ldE q wd a p = IM.adE q (a + 1 + p) := by unfold IM.ldE; rw [if_pos hz]
    have hV : IM.ldV q wd a p = readV q.own wd q.C q.K (a + 1 + p) := by unfold IM.ldV readV; rw [hE]; rfl
    have hP : IM.plA q wd a p false = a + 1 + p := by unfold IM.plA; rw [if_pos hz]
    rw [hE, hV]
    unfold IM.adE
    rw [hP, hz] at CA
    clear hE hV hP hz h
    generalize a + 1 + p = i at *
    generalize readV q.own wd q.C q.K i = x at *
    generalize addrE q.own q.C q.K i = er at *
    have HC := Lib.hid CA
    have HR := Lib.hid HA
    clear CA HA
    go_enter Tryd.func28, Tryd.ntmps28
    go_wp2_with fail
    refine HC.out.mono ?_
    rintro e w2 ⟨rfl, hb⟩
    have HR2 := Lib.hid (HR.out _ hb)
    clear HR HC
    go_wp2_with fail
    refine HR2.out.mono ?_
    rintro e w3 ⟨rfl, rfl⟩
    go_wp2_with fail
    go_ret2
    exact ⟨rfl, hb⟩
  · have hE : IM.ldE q wd a p = IM.plE q wd a p false := by unfold IM.ldE; rw [if_neg hz]
    have hV : IM.ldV q wd a p = 0 := by unfold IM.ldV; rw [hE, if_neg hz]
    rw [hE, hV]
    generalize IM.plA q wd a p false = i at *
    generalize IM.plE q wd a p false = er at *
    have hd : (er != 0) = true := by simpa using hz
    have HC := Lib.hid CA
    clear CA HA hz hE hV h
    go_enter Tryd.func28, Tryd.ntmps28
    go_wp2_with fail
    refine HC.out.mono ?_
    rintro e w2 ⟨rfl, hb⟩
    go_wp2_with fail
    go_ret2
    exact ⟨rfl, hb⟩
set_option maxHeartbeats 1000000 in
theorem iload_any (h : ImAt w I q wd) (a p : Int) :
    Calls Tryd.prog 10 #[.pointer (some ⟨I.p, 0, none⟩), .int .i64 a, .int .i64 p] w fun e w' => e = .returned (.tuple #[.int .u64 (IM.ldV q wd a p : Nat), .int .i64 (IM.ldE q wd a p)]) ∧ Below w.heap.size w w' := by
  have HC := Lib.hid (readAtU_any h a p)
  have p0 : w.cell? ⟨I.p, 0, none⟩ = some (.pointer (some ⟨I.B.s, 0, none⟩)) := h.box.cell 0
  generalize IM.ldV q wd a p = x at *
  generalize IM.ldE q wd a p = er at *
  clear h
  go_enter Tryd.func10, Tryd.ntmps10
  go_wp2_with fail
  refine HC.out.mono ?_
  rintro e w2 ⟨rfl, hb⟩
  go_wp2_with fail
  go_ret2
  exact ⟨rfl, hb⟩

/-- What the word at an address tells, as a link. -/
def rlE (q : Cf) (wd : Nat → Nat) (i : Int) : Int := if IM.adE q i = 0 then HM.kE (IM.hd wd i) else IM.adE q i
theorem k_zero {x : Int} (h : HM.kE x ≠ 0) : HM.kK x = 0 ∧ HM.kI x = 0 ∧ HM.kG x = 0 := by
  unfold HM.kE at h
  unfold HM.kK HM.kI HM.kG
  by_cases ht : HM.tok x = true
  · rw [if_pos ht] at h
    exact absurd rfl h
  · rw [if_neg ht, if_neg ht, if_neg ht]
    rw [if_neg ht] at h
    by_cases h1 : x = 1
    · rw [if_pos h1] at h
      exact absurd rfl h
    · rw [if_neg h1]
      exact ⟨rfl, rfl, rfl⟩
set_option maxHeartbeats 1000000 in
theorem readLink_any (h : ImAt w I q wd) (i : Int) :
    Calls Tryd.prog 30 #[.pointer (some ⟨I.p, 0, none⟩), .int .i64 i] w (LinkIs (zE (rlE q wd i) (HM.kK (IM.hd wd i))) (zE (rlE q wd i) (HM.kI (IM.hd wd i))) (zE (rlE q wd i) (HM.kG (IM.hd wd i))) (rlE q wd i) w) := by
  obtain ⟨w1, hw1⟩ : ∃ w1, w1 = w.alloc (.cells #[.int .i64 0, .int .i64 0, .int .i64 0] 38) := ⟨_, rfl⟩
  have hb1 : Below w.heap.size w w1 := by rw [hw1]; exact (Below.refl _ _).alloc (Nat.le_refl _) _
  have Y1 : Whole w1 w.heap.size 38 #[.int .i64 0, .int .i64 0, .int .i64 0] := by rw [hw1]; exact Whole.fresh _ _ _
  have H1 := h.below hb1
  have p0 : w1.cell? ⟨I.p, 0, none⟩ = some (.pointer (some ⟨I.B.s, 0, none⟩)) := H1.box.cell 0
  have CR := read_any H1.st i
  by_cases hz : IM.adE q i = 0
  · have CL := fun W => hlink_any (IM.hd wd i) (h.word i) W
    have hE : rlE q wd i = HM.kE (IM.hd wd i) := by unfold rlE; rw [if_pos hz]
    have hx : readV q.own wd q.C q.K i = wd i.toNat := by unfold readV; rw [if_pos (show addrE q.own q.C q.K i = 0 from hz)]
    have hK : zE (rlE q wd i) (HM.kK (IM.hd wd i)) = HM.kK (IM.hd wd i) ∧ zE (rlE q wd i) (HM.kI (IM.hd wd i)) = HM.kI (IM.hd wd i) ∧ zE (rlE q wd i) (HM.kG (IM.hd wd i)) = HM.kG (IM.hd wd i) := by
      rw [hE]
      unfold zE
      by_cases hk : HM.kE (IM.hd wd i) = 0
      · rw [if_pos hk, if_pos hk, if_pos hk]
        exact ⟨rfl, rfl, rfl⟩
      · obtain ⟨k1, k2, k3⟩ := k_zero hk
        rw [k1, k2, k3]
        simp
    rw [hK.1, hK.2.1, hK.2.2, hE]
    rw [hx, show addrE q.own q.C q.K i = 0 from hz] at CR
    unfold IM.hd at *
    generalize wd i.toNat = x at *
    generalize HM.kK (x : Nat) = k1 at *
    generalize HM.kI (x : Nat) = k2 at *
    generalize HM.kG (x : Nat) = k3 at *
    generalize HM.kE (x : Nat) = er at *
    have HR := Lib.hid CR
    have HL := Lib.hid CL
    have HB1 := Lib.hid hb1
    have HY := Lib.hid Y1
    clear CR CL hE hx hK hz h H1 hb1 Y1
    go_enter Tryd.func30, Tryd.ntmps30
    go_upto_region 1 with fail
    rw [← hw1]
    clear hw1
    go_wp2_with fail
    refine HR.out.mono ?_
    rintro e w' ⟨rfl, rfl⟩
    go_wp2_with fail
    refine (HL.out _).mono ?_
    rintro e w2 ⟨rfl, hb2⟩
    have Y := HY.out.below hb2 HY.out.lt
    obtain ⟨y0, y1, y2⟩ := Y.cells3
    have f0 := Y.free 0
    have f1 := Y.free 1
    have f2 := Y.free 2
    have HB2 := Lib.hid (HB1.out.trans (hb2.mono HB1.out.size))
    clear hb2 Y
    go_wp2_with fail
    refine bodyPost_ret (v := .tuple #[.agg #[.int .i64 k1, .int .i64 k2, .int .i64 k3], .int .i64 er]) (by simp [results, Tryd.results30, go_sem, y0, y1, y2]) rfl ⟨rfl, ?_⟩
    exact ((HB2.out.setCell (p := ⟨w.heap.size, 0, none⟩) (Nat.le_refl _) _).setCell (p := ⟨w.heap.size, 1, none⟩) (Nat.le_refl _) _).setCell (p := ⟨w.heap.size, 2, none⟩) (Nat.le_refl _) _
  · have hE : rlE q wd i = IM.adE q i := by unfold rlE; rw [if_neg hz]
    have hx : readV q.own wd q.C q.K i = 0 := by unfold readV; rw [if_neg (show ¬ addrE q.own q.C q.K i = 0 from hz)]
    rw [hE]
    unfold zE
    rw [if_neg hz, if_neg hz, if_neg hz]
    rw [hx] at CR
    unfold IM.adE at *
    generalize addrE q.own q.C q.K i = er at *
    have hd : (er != 0) = true := by simpa using hz
    obtain ⟨y0, y1, y2⟩ := Y1.cells3
    have f0 := Y1.free 0
    have f1 := Y1.free 1
    have f2 := Y1.free 2
    have HR := Lib.hid CR
    have HB1 := Lib.hid hb1
    clear CR hE hx hz h H1 hb1 Y1
    go_enter Tryd.func30, Tryd.ntmps30
    go_upto_region 1 with fail
    rw [← hw1]
    clear hw1
    go_wp2_with fail
    refine HR.out.mono ?_
    rintro e w' ⟨rfl, rfl⟩
    go_wp2_with fail
    refine bodyPost_ret (v := .tuple #[.agg #[.int .i64 0, .int .i64 0, .int .i64 0], .int .i64 er]) (by simp [results, Tryd.results30, go_sem, y0, y1, y2]) rfl ⟨rfl, ?_⟩
    exact ((HB1.out.setCell (p := ⟨w.heap.size, 0, none⟩) (Nat.le_refl _) _).setCell (p := ⟨w.heap.size, 1, none⟩) (Nat.le_refl _) _).setCell (p := ⟨w.heap.size, 2, none⟩) (Nat.le_refl _) _

/-- What Follow answers. -/
def FolIs (q : Cf) (wd : Nat → Nat) (a p : Int) : World → Ending → World → Prop := LinkIs (IM.flK q wd a p) (IM.flI q wd a p) (IM.flG q wd a p) (IM.flE q wd a p)
set_option maxHeartbeats 1000000 in
theorem readAtL_any (h : ImAt w I q wd) (a p : Int) :
    Calls Tryd.prog 29 #[.pointer (some ⟨I.p, 0, none⟩), .int .i64 a, .int .i64 p, .bool true, .func (.func 30) #[.pointer (some ⟨I.p, 0, none⟩)] #[]] w (FolIs q wd a p w) := by
  obtain ⟨w1, hw1⟩ : ∃ w1, w1 = w.alloc (.cells #[.int .i64 0, .int .i64 0, .int .i64 0] 38) := ⟨_, rfl⟩
  have hb1 : Below w.heap.size w w1 := by rw [hw1]; exact (Below.refl _ _).alloc (Nat.le_refl _) _
  have Y1 : Whole w1 w.heap.size 38 #[.int .i64 0, .int .i64 0, .int .i64 0] := by rw [hw1]; exact Whole.fresh _ _ _
  have H1 := h.below hb1
  have CA := addressOf_any H1 a p true
  have CR := fun w' (hb : Below w1.heap.size w1 w') => readLink_any (H1.below hb) (a + 1 + p)
  unfold FolIs IM.flK IM.flI IM.flG
  by_cases hz : IM.plE q wd a p true = 0
  · have hE : IM.flE q wd a p = rlE q wd (a + 1 + p) := by unfold IM.flE rlE; rw [if_pos hz]
    have hP : IM.plA q wd a p true = a + 1 + p := by unfold IM.plA; rw [if_pos hz]
    rw [hE]
    rw [hP, hz] at CA
    clear hE hP hz h H1
    generalize a + 1 + p = i at *
    unfold zE at CR
    generalize rlE q wd i = er at *
    generalize (if er = 0 then HM.kK (IM.hd wd i) else 0) = k1 at *
    generalize (if er = 0 then HM.kI (IM.hd wd i) else 0) = k2 at *
    generalize (if er = 0 then HM.kG (IM.hd wd i) else 0) = k3 at *
    have HC := Lib.hid CA
    have HR := Lib.hid CR
    have HB1 := Lib.hid hb1
    have HY := Lib.hid Y1
    clear CA CR hb1 Y1
    go_enter Tryd.func29, Tryd.ntmps29
    go_upto_region 1 with fail
    rw [← hw1]
    clear hw1
    go_wp2_with fail
    refine HC.out.mono ?_
    rintro e w2 ⟨rfl, hb⟩
    have HR2 := Lib.hid (HR.out _ hb)
    have HB := Lib.hid hb
    clear HR HC hb
    go_wp2_with fail
    refine HR2.out.mono ?_
    rintro e w3 ⟨rfl, hb2⟩
    have hb3 := HB.out.trans (hb2.mono HB.out.size)
    have Y := HY.out.below hb3 HY.out.lt
    obtain ⟨y0, y1, y2⟩ := Y.cells3
    have f0 := Y.free 0
    have f1 := Y.free 1
    have f2 := Y.free 2
    have HB2 := Lib.hid (HB1.out.trans (hb3.mono HB1.out.size))
    clear hb2 hb3 Y
    go_wp2_with fail
    refine bodyPost_ret (v := .tuple #[.agg #[.int .i64 k1, .int .i64 k2, .int .i64 k3], .int .i64 er]) (by simp [results, Tryd.results29, go_sem, y0, y1, y2]) rfl ⟨rfl, ?_⟩
    exact ((HB2.out.setCell (p := ⟨w.heap.size, 0, none⟩) (Nat.le_refl _) _).setCell (p := ⟨w.heap.size, 1, none⟩) (Nat.le_refl _) _).setCell (p := ⟨w.heap.size, 2, none⟩) (Nat.le_refl _) _
  · have hE : IM.flE q wd a p = IM.plE q wd a p true := by unfold IM.flE; rw [if_neg hz]
    rw [hE, if_neg hz, if_neg hz, if_neg hz]
    generalize IM.plA q wd a p true = i at *
    generalize IM.plE q wd a p true = er at *
    have hd : (er != 0) = true := by simpa using hz
    have HC := Lib.hid CA
    have HB1 := Lib.hid hb1
    have HY := Lib.hid Y1
    clear CA CR hz hE h H1 hb1 Y1
    go_enter Tryd.func29, Tryd.ntmps29
    go_upto_region 1 with fail
    rw [← hw1]
    clear hw1
    go_wp2_with fail
    refine HC.out.mono ?_
    rintro e w2 ⟨rfl, hb⟩
    have hb3 := hb.alloc hb.size (.cells #[.int .i64 0, .int .i64 0, .int .i64 0] 38)
    have Y := HY.out.below hb3 HY.out.lt
    have HB2 := Lib.hid (HB1.out.trans (hb3.mono HB1.out.size))
    go_upto_region 4 with fail
    obtain ⟨w3, hw3⟩ : ∃ w3, w3 = w2.alloc (.cells #[.int .i64 0, .int .i64 0, .int .i64 0] 38) := ⟨_, rfl⟩
    obtain ⟨z0, z1, z2⟩ := (Whole.fresh w2 38 #[.int .i64 0, .int .i64 0, .int .i64 0]).cells3
    rw [← hw3] at Y HB2 z0 z1 z2 ⊢
    obtain ⟨y0, y1, y2⟩ := Y.cells3
    have f0 := Y.free 0
    have f1 := Y.free 1
    have f2 := Y.free 2
    clear hb hb3 Y hw3
    go_wp2_with fail
    refine bodyPost_ret (v := .tuple #[.agg #[.int .i64 0, .int .i64 0, .int .i64 0], .int .i64 er]) (by simp [results, Tryd.results29, go_sem, y0, y1, y2]) rfl ⟨rfl, ?_⟩
    exact ((HB2.out.setCell (p := ⟨w.heap.size, 0, none⟩) (Nat.le_refl _) _).setCell (p := ⟨w.heap.size, 1, none⟩) (Nat.le_refl _) _).setCell (p := ⟨w.heap.size, 2, none⟩) (Nat.le_refl _) _
set_option maxHeartbeats 1000000 in
theorem ifollow_any (h : ImAt w I q wd) (a p : Int) :
    Calls Tryd.prog 11 #[.pointer (some ⟨I.p, 0, none⟩), .int .i64 a, .int .i64 p] w (FolIs q wd a p w) := by
  obtain ⟨w1, hw1⟩ : ∃ w1, w1 = w.alloc (.cells #[.int .i64 0, .int .i64 0, .int .i64 0] 38) := ⟨_, rfl⟩
  have hb1 : Below w.heap.size w w1 := by rw [hw1]; exact (Below.refl _ _).alloc (Nat.le_refl _) _
  have Y1 : Whole w1 w.heap.size 38 #[.int .i64 0, .int .i64 0, .int .i64 0] := by rw [hw1]; exact Whole.fresh _ _ _
  have CR := readAtL_any (h.below hb1) a p
  unfold FolIs at *
  generalize IM.flK q wd a p = k1 at *
  generalize IM.flI q wd a p = k2 at *
  generalize IM.flG q wd a p = k3 at *
  generalize IM.flE q wd a p = er at *
  have HR := Lib.hid CR
  have HB1 := Lib.hid hb1
  have HY := Lib.hid Y1
  clear CR h hb1 Y1
  go_enter Tryd.func11, Tryd.ntmps11
  go_upto_region 1 with fail
  rw [← hw1]
  clear hw1
  go_wp2_with fail
  refine HR.out.mono ?_
  rintro e w3 ⟨rfl, hb3⟩
  have Y := HY.out.below hb3 HY.out.lt
  obtain ⟨y0, y1, y2⟩ := Y.cells3
  have f0 := Y.free 0
  have f1 := Y.free 1
  have f2 := Y.free 2
  have HB2 := Lib.hid (HB1.out.trans (hb3.mono HB1.out.size))
  clear hb3 Y
  go_wp2_with fail
  refine bodyPost_ret (v := .tuple #[.agg #[.int .i64 k1, .int .i64 k2, .int .i64 k3], .int .i64 er]) (by simp [results, Tryd.results11, go_sem, y0, y1, y2]) rfl ⟨rfl, ?_⟩
  exact ((HB2.out.setCell (p := ⟨w.heap.size, 0, none⟩) (Nat.le_refl _) _).setCell (p := ⟨w.heap.size, 1, none⟩) (Nat.le_refl _) _).setCell (p := ⟨w.heap.size, 2, none⟩) (Nat.le_refl _) _
end
end Go.Proofs.YteneadimchhhhaaDoor
