/- Contract of Drop of package table. -/
import Derived.Test.YtldlolgdglmocaaDoorTbWrite
namespace Go.Proofs.YtldlolgdglmocaaDoor
open Go.RowKit

section
variable {w w' : World} {B : TB} {N : Nat} {S : Nat → Sl}
/-- Behind Drop of a slot that isn't retired. -/
theorem TbAt.dropped (h : TbAt w B N S) (k : Nat) (hk : k < N) (hg : (S k).gen < 255) (ws vs : Nat → Nat) (hq : BM.on ws = isUsed S) (hq2 : BM.on vs = isTaken S) {w1 w2 : World} (h1 : Turned w B.ub B.uc N ws k (k + 1) false w1) (h2 : Turned w1 B.kb B.kc N vs k (k + 1) false w2) :
    Aft B.wr w (set4 (w2.setCell ⟨B.s, k * 5, none⟩ (.int .i64 (((S k).gen + 1 : Nat) : Int))) B.s (k * 5 + 1) (.int .i64 0) (.int .i64 0) (.bool false) (.bool false)) ∧
    TbAt (set4 (w2.setCell ⟨B.s, k * 5, none⟩ (.int .i64 (((S k).gen + 1 : Nat) : Int))) B.s (k * 5 + 1) (.int .i64 0) (.int .i64 0) (.bool false) (.bool false)) B N (dropS S k) := by
  obtain ⟨⟨n1, n2, n3⟩, ⟨n4, n5, n6, n7⟩, n8, n9, n10⟩ := h.ne
  obtain ⟨o1, ws', m1, q1⟩ := h1
  obtain ⟨o2, vs', m2, q2⟩ := h2
  have eg : (S k).gen + 1 = tg ((S k).gen + 1) := by unfold tg; rw [if_neg (by omega)]
  have o3 := ((OnlyAt.refl B.s w2).setCell (k * 5) (.int .i64 (((S k).gen + 1 : Nat) : Int))).trans (set4_only (w2.setCell ⟨B.s, k * 5, none⟩ (.int .i64 (((S k).gen + 1 : Nat) : Int))) B.s (k * 5 + 1) (.int .i64 0) (.int .i64 0) (.bool false) (.bool false))
  have hf := ((h.half.only o1 n2 n5).only o2 n3 n7).five n1 k hk ((S k).gen + 1)
  rw [← eg] at hf
  have g := h.gen k
  refine ⟨((Aft.of_at o1 (by simp [TB.wr])).trans (Aft.of_at o2 (by simp [TB.wr]))).trans (Aft.of_at o3 (by simp [TB.wr])), h.anew k hk _ hf ⟨ws', (m1.only o2 (Ne.symm n10) n9).only o3 (Ne.symm n4) (Ne.symm n5), isUsed_upd S k _ fun q => ?_⟩ ⟨vs', m2.only o3 (Ne.symm n6) (Ne.symm n7), isTaken_upd S k _ fun q => ?_⟩ (show 1 ≤ (S k).gen + 1 ∧ (S k).gen + 1 ≤ 256 by omega) (fun h => by cases h)⟩
  · rw [q1 q, hq]
  · rw [q2 q, hq2]
    show _ = if k ≤ q ∧ q < k + 1 then (false || decide ((S k).gen + 1 = 256)) else isTaken S q
    rw [show decide ((S k).gen + 1 = 256) = false by simp; omega]
    rfl
/-- Behind Drop of a slot that is retired. -/
theorem TbAt.retired (h : TbAt w B N S) (k : Nat) (hk : k < N) (hu : (S k).used = true) (hg : (S k).gen = 255) (ws : Nat → Nat) (hq : BM.on ws = isUsed S) {w1 : World} (h1 : Turned w B.ub B.uc N ws k (k + 1) false w1) :
    Aft B.wr w (set4 (w1.setCell ⟨B.s, k * 5, none⟩ (.int .i64 0)) B.s (k * 5 + 1) (.int .i64 0) (.int .i64 0) (.bool false) (.bool false)) ∧
    TbAt (set4 (w1.setCell ⟨B.s, k * 5, none⟩ (.int .i64 0)) B.s (k * 5 + 1) (.int .i64 0) (.int .i64 0) (.bool false) (.bool false)) B N (dropS S k) := by
  obtain ⟨⟨n1, n2, n3⟩, ⟨n4, n5, n6, n7⟩, n8, n9, n10⟩ := h.ne
  obtain ⟨o1, ws', m1, q1⟩ := h1
  obtain ⟨vs, m2, hq2⟩ := h.kmap
  have o3 := ((OnlyAt.refl B.s w1).setCell (k * 5) (.int .i64 0)).trans (set4_only (w1.setCell ⟨B.s, k * 5, none⟩ (.int .i64 0)) B.s (k * 5 + 1) (.int .i64 0) (.int .i64 0) (.bool false) (.bool false))
  have hf := (h.half.only o1 n2 n5).five n1 k hk ((S k).gen + 1)
  rw [hg] at hf
  change Half (set4 (w1.setCell ⟨B.s, k * 5, none⟩ (.int .i64 0)) B.s (k * 5 + 1) (.int .i64 0) (.int .i64 0) (.bool false) (.bool false)) B N _ at hf
  have g := h.gen k
  unfold dropS
  rw [hg]
  refine ⟨(Aft.of_at o1 (by simp [TB.wr])).trans (Aft.of_at o3 (by simp [TB.wr])), h.anew k hk _ hf ⟨ws', m1.only o3 (Ne.symm n4) (Ne.symm n5), isUsed_upd S k _ fun q => ?_⟩ ⟨vs, (m2.only o1 (Ne.symm n8) (Ne.symm n9)).only o3 (Ne.symm n6) (Ne.symm n7), isTaken_upd S k _ fun q => ?_⟩ ⟨by decide, by decide⟩ (fun h => by cases h)⟩
  · rw [q1 q, hq]
  · rw [hq2]
    by_cases e : k ≤ q ∧ q < k + 1
    · obtain rfl : q = k := by omega
      rw [if_pos e]
      simp [isTaken, hu]
    · rw [if_neg e]

set_option maxRecDepth 100000 in
set_option maxHeartbeats 2000000 in
theorem drop_all (h : TbAt w B N S) (i g : Int) : Calls Tryd.prog 19 #[.pointer (some ⟨B.t, 0, none⟩), .agg #[.int .i64 i, .int .i64 g]] w (TbPost w B N (staleE (freshB S N i g)) (dropSt S N i g)) := by
  have hb0 := (Below.refl w.heap.size w).alloc (Nat.le_refl _) (.cells #[.int .i64 i, .int .i64 g] 33)
  have k1 := h.on hb0
  have A1 := fresh_any k1 i g
  have HB := Lib.hid hb0
  have W0 := Lib.hid (Whole.fresh w 33 #[.int .i64 i, .int .i64 g])
  unfold dropSt
  cases hx : freshB S N i g
  · rw [hx] at A1
    have HA := Lib.hid A1
    have K1 := Lib.hid h
    clear A1 hb0 hx h k1
    have e0 : staleE false = 8 := rfl
    rw [e0] at HA ⊢
    simp only [Bool.false_eq_true, if_false]
    go_enter Tryd.func19, Tryd.ntmps19
    go_wp2_with fail
    refine HA.out.mono ?_
    rintro e w2 ⟨rfl, hb2⟩
    have HB2 := Lib.hid (HB.out.trans (hb2.mono (by simp)))
    clear hb2 HA
    go_wp2
    go_ret
    exact ⟨rfl, Aft.of_below HB2.out, K1.out.on HB2.out⟩
  · obtain ⟨k, rfl, hk, hu, rfl⟩ := freshB_iff.1 hx
    rw [hx] at A1
    have HA := Lib.hid A1
    have hN := h.N2
    have hlive := h.live k hu
    clear A1 hb0 hx k1
    have e0 : staleE true = 0 := rfl
    rw [e0] at HA ⊢
    simp only [if_true, Int.toNat_natCast]
    have HU := Lib.hid hu
    have HH := Lib.hid h
    clear h hu
    obtain ⟨y, hy⟩ : ∃ y, y = (S k).gen := ⟨_, rfl⟩
    rw [← hy] at hlive HA W0 HB ⊢
    have HY := Lib.hid hy
    clear hy
    go_enter Tryd.func19, Tryd.ntmps19
    go_wp2_with fail
    refine HA.out.mono ?_
    rintro e w2 ⟨rfl, hb2⟩
    have X2 := W0.out.below hb2 (by simp)
    obtain ⟨t0, t1⟩ := X2.two
    have hbb := HB.out.trans (hb2.mono (by simp))
    have k2 := HH.out.on hbb
    have l1 := k2.lt
    have l2 := HH.out.lt
    have m0 := k2.row
    have m1 := k2.used
    have m2 := k2.taken
    obtain ⟨⟨n1, n2, n3⟩, ⟨n4, n5, n6, n7⟩, n8, n9, n10⟩ := k2.ne
    obtain ⟨ws, hm, hq⟩ := k2.umap
    obtain ⟨vs, hv, hq2⟩ := k2.kmap
    have S1 := set_ok B.ub B.uc N k ws false
    have LU := Lib.hid l2
    have HM := Lib.hid hm
    have HQ := Lib.hid hq
    have HV := Lib.hid hv
    have HQ2 := Lib.hid hq2
    have HX2 := Lib.hid X2
    have HK2 := Lib.hid k2
    have HB2 := Lib.hid hbb
    have hub : w.heap.size ≠ B.uc ∧ w.heap.size ≠ B.kc ∧ w.heap.size ≠ B.s := by
      obtain ⟨b1, b2, b3, b4, b5, b6⟩ := l2
      omega
    have HUB := Lib.hid hub
    have NE := Lib.hid (show B.t ≠ B.uc ∧ B.t ≠ B.kc ∧ B.s ≠ B.uc ∧ B.s ≠ B.kc ∧ B.kb ≠ B.uc ∧ B.kc ≠ B.uc from ⟨n2, n3, n5, n7, Ne.symm n8, Ne.symm n9⟩)
    clear hb2 HA k2 hbb HB X2 hq hq2 hm hv l1 l2 hub n1 n2 n3 n4 n5 n6 n7 n8 n9 n10
    go_wp2_with fail
    go_region_held3 (fun w' => w'.cell? ⟨w.heap.size, 0, none⟩ = some (.int .i64 (k : Nat)) ∧ w'.cell? ⟨B.t, 1, none⟩ = some (.pointer (some ⟨B.ub, 0, none⟩))) (simp [go_sem, *])
      (first
        | (go_at_call 33; refine (S1 _ (by exact HM.out.heap rfl) hk).mono ?_; rintro e w3 ⟨rfl, ht3⟩; have x3 := (ht3.1.block _ HUB.out.1).trans HX2.out; obtain ⟨u0, u1⟩ := Whole.two x3; have v1 := (ht3.1.cell (p := ⟨B.t, 1, none⟩) NE.out.1).trans m1; have HT3 := Lib.hid ht3; clear ht3))
    have h3 : Half w3 B N S := (HK2.out.half.heap (w' := w2.drew) rfl).only HT3.out.1 NE.out.1 NE.out.2.2.1
    have r0 := h3.row
    have r2 := h3.taken
    obtain ⟨p0, p1, p2, p3, p4⟩ := h3.slot k hk
    have q0 := h3.thaw (k * 5) (by omega)
    have q1 := h3.thaw (k * 5 + 1) (by omega)
    have q2 := h3.thaw (k * 5 + 2) (by omega)
    have q3 := h3.thaw (k * 5 + 3) (by omega)
    have q4 := h3.thaw (k * 5 + 4) (by omega)
    have HX3 := Lib.hid x3
    have H3 := Lib.hid h3
    rename_i hHeld
    clear x3 h3 hHeld v1 S1
    by_cases hy : y = 255
    · subst hy
      have FIN := Lib.hid ((HK2.out.heap (w' := w2.drew) rfl).retired k hk HU.out HY.out.symm ws HQ.out HT3.out)
      go_wp2_with fail
      go_region
      go_wp2
      go_ret
      exact ⟨rfl, ((Aft.of_below HB2.out).drew.trans FIN.out.1).drew, FIN.out.2.heap rfl⟩
    · have d : ((y : Int) == 255) = false := by simp; omega
      have hv3 : MapAt w3 B.kb B.kc N vs := (HV.out.heap (w' := w2.drew) rfl).only HT3.out.1 NE.out.2.2.2.2.1 NE.out.2.2.2.2.2
      have HV3 := Lib.hid hv3
      have S2 := set_ok B.kb B.kc N k vs false
      clear hv3
      go_wp2_with fail
      go_region_held3 (fun w' => w'.cell? ⟨w.heap.size, 0, none⟩ = some (.int .i64 (k : Nat)) ∧ w'.cell? ⟨B.t, 2, none⟩ = some (.pointer (some ⟨B.kb, 0, none⟩))) (simp [go_sem, *])
        (first
          | (go_at_call 33; refine (S2 _ (by exact HV3.out.heap rfl) hk).mono ?_; rintro e w4 ⟨rfl, ht4⟩; have x4 := (ht4.1.block _ HUB.out.2.1).trans HX3.out; obtain ⟨uu0, uu1⟩ := Whole.two x4; have v1 := (ht4.1.cell (p := ⟨B.t, 2, none⟩) NE.out.2.1).trans r2; have HT4 := Lib.hid ht4; clear ht4))
      have h4 : Half w4 B N S := (H3.out.heap (w' := w3.drew) rfl).only HT4.out.1 NE.out.2.1 NE.out.2.2.2.1
      have T3 : Turned w2.drew B.ub B.uc N ws k (k + 1) false w3.drew := by
        obtain ⟨o, ws', m, q⟩ := HT3.out
        exact ⟨⟨o.os, o.tape, o.output, o.size, o.block⟩, ws', m.heap rfl, q⟩
      have FIN := (HK2.out.heap (w' := w2.drew) rfl).dropped k hk (by have := HY.out; omega) ws vs HQ.out HQ2.out T3 HT4.out
      unfold dropS at FIN
      rw [← HY.out] at FIN
      have HF := Lib.hid FIN
      clear FIN T3 r0 r2 p0 p1 p2 p3 p4 q0 q1 q2 q3 q4 u0 u1
      have r0 := h4.row
      obtain ⟨p0, p1, p2, p3, p4⟩ := h4.slot k hk
      have q0 := h4.thaw (k * 5) (by omega)
      have q1 := h4.thaw (k * 5 + 1) (by omega)
      have q2 := h4.thaw (k * 5 + 2) (by omega)
      have q3 := h4.thaw (k * 5 + 3) (by omega)
      have q4 := h4.thaw (k * 5 + 4) (by omega)
      clear h4
      rename_i hHeld
      clear hHeld
      go_wp2_with fail
      go_region
      go_wp2
      go_ret
      unfold dropS
      rw [← HY.out]
      exact ⟨rfl, ((Aft.of_below HB2.out).drew.trans HF.out.1).drew, HF.out.2.heap rfl⟩
end
end Go.Proofs.YtldlolgdglmocaaDoor
