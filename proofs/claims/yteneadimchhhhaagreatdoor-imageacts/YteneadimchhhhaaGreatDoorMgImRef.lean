/- Texts of this claim, laid into one file. -/
import Derived.Test.YteneadimchhhhaaGreatDoorImDoc
import Derived.Test.YteneadimchhhhaaGreatDoorMgImObj
import Derived.Test.YteneadimchhhhaaGreatDoorHdRef
import Derived.Test.YteneadimchhhhaaGreatDoorHdRef2
import Derived.Deep.RegionHeld3
/- The document's images: how many words an object has. -/
namespace Go.Proofs.YteneadimchhhhaaGreatDoor
open Go.RowKit

theorem DcAt.more {w : World} {J : DB} {q : Cf} {wc : Nat → Nat} (h : DcAt w J q wc) : ∃ A c, J.v = .slice A J.ls.length c ∧
    (0 < J.ls.length → ∃ g, A = some ⟨g, 0, none⟩ ∧ g < w.heap.size ∧ ∀ i l j, J.ls[i]? = some l → j < 4 → w.cell? ⟨g, i * 4 + j, none⟩ = l.vals[j]?) := by
  rcases h.row.2 with ⟨h0, h1⟩ | ⟨g, cap, cur, hv, hg, hh, hn, hm, hs, ht⟩
  · exact ⟨none, 0, by rw [h0, h1], fun hp => by omega⟩
  · refine ⟨_, cap, hv, fun hp => ⟨g, rfl, (Array.getElem?_eq_some_iff.1 hh).1, fun i l j hi hj => ?_⟩⟩
    have hil : i < J.ls.length := (List.getElem?_eq_some_iff.1 hi).1
    rw [← flatV_at J.ls i j l hi hj, ← ht, List.getElem?_take, if_pos (by omega)]
    simp [World.cell?, hh]
theorem rsize_any {w : World} {J : DB} {q : Cf} {wc : Nat → Nat} (h : DcAt w J q wc) (L C S : Int) (hL : 1 ≤ L) (hC : I64 C) :
    Calls Tryz.prog 39 #[.pointer (some ⟨J.m, 0, none⟩), .agg #[.int .i64 L, .int .i64 C, .int .i64 S]] w fun e w' => e = .returned (.tuple #[.int .i64 (IM.szN q.D L C), .int .i64 (IM.szE q.D L C)]) ∧ Below w.heap.size w w' := by
  obtain ⟨A, c, hv, hr⟩ := h.more
  obtain ⟨w1, hw1⟩ : ∃ w1, w1 = w.alloc (.cells #[.int .i64 L, .int .i64 C, .int .i64 S] 32) := ⟨_, rfl⟩
  have hb1 : Below w.heap.size w w1 := by rw [hw1]; exact (Below.refl _ _).alloc (Nat.le_refl _) _
  have Y1 : Whole w1 w.heap.size 32 #[.int .i64 L, .int .i64 C, .int .i64 S] := by rw [hw1]; exact Whole.fresh _ _ _
  have hbx := h.box
  rw [hv] at hbx
  have j1 : w1.cell? ⟨J.m, 1, none⟩ = some (.slice A J.ls.length c) := (hbx.below hb1 hbx.lt).cell 1
  obtain ⟨y0, y1, y2⟩ := Y1.cells3
  have hlay := h.lays
  have HW1 := Lib.hid hw1
  have HB1 := Lib.hid hb1
  by_cases hlt : (J.ls.length : Int) < L
  · have hlay2 : IM.lay q.D L = none := by
      rw [← hlay, lay_at _ hL, List.getElem?_eq_none_iff.2 (by omega)]
      rfl
    have e1 : IM.szE q.D L C = 6 := by unfold IM.szE; rw [hlay2]
    have e2 : IM.szN q.D L C = 0 := by unfold IM.szN; rw [e1]; rfl
    rw [e1, e2]
    have d : decide ((J.ls.length : Int) < L) = true := by simpa using hlt
    obtain ⟨nl, hnl⟩ : ∃ x, x = J.ls.length := ⟨_, rfl⟩
    rw [← hnl] at j1 d hlt
    clear h hv hr hbx hlay hlay2 e1 e2 hw1 hb1 Y1 hnl
    go_enter Tryz.func39, Tryz.ntmps39
    go_upto_region 1 with fail
    rw [← HW1.out]
    go_quiet (fail)
    go_wp2_with fail
    go_ret2
    exact ⟨rfl, below_drewN HB1.out _⟩
  · obtain ⟨i, rfl⟩ : ∃ i : Nat, L = (i : Int) + 1 := ⟨(L - 1).toNat, by omega⟩
    have hil : i < J.ls.length := by omega
    obtain ⟨l, hl⟩ : ∃ l, J.ls[i]? = some l := ⟨_, List.getElem?_eq_getElem hil⟩
    obtain ⟨g, rfl, hg, hcell⟩ := hr (by omega)
    have hc1 : ∀ j, j < 4 → w1.cell? ⟨g, i * 4 + j, none⟩ = l.vals[j]? := fun j hj => (hb1.cell (p := ⟨g, i * 4 + j, none⟩) hg).trans (hcell i l j hl hj)
    have e0 : w1.cell? ⟨g, i * 4, none⟩ = some (.int .i64 l.F) := hc1 0 (by omega)
    have e1 : w1.cell? ⟨g, i * 4 + 1, none⟩ = some (.slice l.A l.n l.c) := hc1 1 (by omega)
    have e2 : w1.cell? ⟨g, i * 4 + 2, none⟩ = some (.int .i64 l.R) := hc1 2 (by omega)
    have e3 : w1.cell? ⟨g, i * 4 + 3, none⟩ = some (.slice l.D l.m l.d) := hc1 3 (by omega)
    have hlay2 : IM.lay q.D ((i : Int) + 1) = some l.ld := by
      rw [← hlay, lay_at _ hL, show ((i : Int) + 1 - 1).toNat = i by omega, hl]
      rfl
    obtain ⟨hll, hf⟩ := h.each l (List.mem_of_getElem? hl)
    have hL1 := Lists.kept hll (Kept.of_below hb1 (Nat.le_refl _))
    have CS := fun (W : World) (hW : Below w1.heap.size w1 W) =>
      have hL2 := Lists.kept hL1 (Kept.of_below hW hb1.size)
      refSize_any l.F l.R l.A l.n l.c l.xs l.D l.m l.d l.ys C w.heap.size W (Nat.le_trans hb1.size hW.size) hf.hn hf.hm hf.hF hf.hR hL2.fst.ns hL2.snd.ns hC
    have z1 : IM.szE q.D ((i : Int) + 1) C = LM.code l.F l.R l.xs l.ys C := by unfold IM.szE; rw [hlay2]; rfl
    have z2 : IM.szN q.D ((i : Int) + 1) C = if LM.code l.F l.R l.xs l.ys C = 0 then 1 + LM.size l.F l.R l.xs l.ys C else 0 := by unfold IM.szN; rw [z1, hlay2]; rfl
    have hsz := LM.size_bd l.F l.R l.xs l.ys C
    rw [z1, z2]
    obtain ⟨sz, hse⟩ : ∃ x, x = LM.size l.F l.R l.xs l.ys C := ⟨_, rfl⟩
    obtain ⟨er, hre⟩ : ∃ x, x = LM.code l.F l.R l.xs l.ys C := ⟨_, rfl⟩
    simp only [← hse, ← hre] at CS
    rw [← hse] at hsz
    rw [← hse, ← hre]
    have HCS := Lib.hid CS
    have hlen := h.len
    have hjm : J.m < w1.heap.size := Nat.lt_of_lt_of_le hbx.lt hb1.size
    have hws : w.heap.size < w1.heap.size := Y1.lt
    have hgs : g < w1.heap.size := Nat.lt_of_lt_of_le hg hb1.size
    obtain ⟨nl, hnl⟩ : ∃ x, x = J.ls.length := ⟨_, rfl⟩
    rw [← hnl] at j1 hlt hil hlen
    have d0 : decide ((nl : Int) < (i : Int) + 1) = false := by simp; omega
    have ws1 : IntKind.i64.wrap ((i : Int) + 1 - 1) = (i : Int) := by rw [IntKind.wrap_i64]; omega
    have ws2 : IntKind.i64.wrap (i : Int) = (i : Int) := by rw [IntKind.wrap_i64]; omega
    have bi0 : (0 : Int) ≤ (i : Int) := by omega
    have bi1 : (i : Int) < (nl : Int) := by omega
    clear h hv hr hbx hlay hlay2 z1 z2 hw1 hb1 Y1 CS hse hre hll hf hL1 hcell hc1 hl hnl
    go_enter Tryz.func39, Tryz.ntmps39
    go_upto_region 1 with fail
    rw [← HW1.out]
    go_quiet (fail)
    go_wp2_with fail
    have HCE := Lib.hid (show ∀ W : World, Below w1.heap.size w1 W → W.cell? ⟨J.m, 1, none⟩ = some (.slice (some ⟨g, 0, none⟩) nl c) ∧ W.cell? ⟨w.heap.size, 0, none⟩ = some (.int .i64 ((i : Int) + 1)) ∧ W.cell? ⟨w.heap.size, 1, none⟩ = some (.int .i64 C) ∧
        W.cell? ⟨g, i * 4, none⟩ = some (.int .i64 l.F) ∧ W.cell? ⟨g, i * 4 + 1, none⟩ = some (.slice l.A l.n l.c) ∧ W.cell? ⟨g, i * 4 + 2, none⟩ = some (.int .i64 l.R) ∧ W.cell? ⟨g, i * 4 + 3, none⟩ = some (.slice l.D l.m l.d) from fun W hb =>
      ⟨(hb.cell (p := ⟨J.m, 1, none⟩) hjm).trans j1, (hb.cell (p := ⟨w.heap.size, 0, none⟩) hws).trans y0, (hb.cell (p := ⟨w.heap.size, 1, none⟩) hws).trans y1, (hb.cell (p := ⟨g, i * 4, none⟩) hgs).trans e0, (hb.cell (p := ⟨g, i * 4 + 1, none⟩) hgs).trans e1, (hb.cell (p := ⟨g, i * 4 + 2, none⟩) hgs).trans e2, (hb.cell (p := ⟨g, i * 4 + 3, none⟩) hgs).trans e3⟩)
    go_region_held3 (fun w' => w'.cell? ⟨J.m, 1, none⟩ = some (.slice (some ⟨g, 0, none⟩) nl c) ∧ w'.cell? ⟨w.heap.size, 0, none⟩ = some (.int .i64 ((i : Int) + 1)) ∧ w'.cell? ⟨w.heap.size, 1, none⟩ = some (.int .i64 C) ∧
        w'.cell? ⟨g, i * 4, none⟩ = some (.int .i64 l.F) ∧ w'.cell? ⟨g, i * 4 + 1, none⟩ = some (.slice l.A l.n l.c) ∧ w'.cell? ⟨g, i * 4 + 2, none⟩ = some (.int .i64 l.R) ∧ w'.cell? ⟨g, i * 4 + 3, none⟩ = some (.slice l.D l.m l.d))
      (first | (with_reducible exact HX) | (with_reducible exact ⟨j1, y0, y1, e0, e1, e2, e3⟩) | exact ⟨j1, y0, y1, e0, e1, e2, e3⟩ | fail)
      (first | (go_at_call 69; (with_reducible refine (HCS.out _ (by exact below_drewN (Below.refl _ _) _)).mono ?_); rintro e w2 ⟨rfl, hb2⟩; have hb3 : Below w1.heap.size w1 w2 := ⟨hb2.os, hb2.tape, hb2.output, hb2.size, hb2.block⟩; have HX := HCE.out _ hb3; have HB2 := Lib.hid hb3; clear hb2 hb3))
    have HB3 := Lib.hid (HB1.out.trans (HB2.out.mono HB1.out.size))
    clear HB2 HX HCE HCS
    by_cases hz : er = 0
    · subst hz
      go_wp2_with fail
      go_ret2
      exact ⟨(show Ending.returned (.tuple #[.int .i64 (sz + 1), .int .i64 0]) = _ by simp [Int.add_comm]), HB3.out⟩
    · have d1 : (er != 0) = true := by simpa using hz
      go_wp2_with fail
      go_ret2
      exact ⟨(show Ending.returned (.tuple #[.int .i64 0, .int .i64 er]) = _ by simp), HB3.out⟩
end Go.Proofs.YteneadimchhhhaaGreatDoor
/- The document's images: At. -/
namespace Go.Proofs.YteneadimchhhhaaGreatDoor
open Go.RowKit

set_option maxHeartbeats 1000000 in
theorem rimat_any {w : World} {J : DB} {q : Cf} {wc : Nat → Nat} (h : DcAt w J q wc) (a : Int) (ha : I64 a) (hwl : ∀ k, wc k < 18446744073709551616) :
    Calls Tryz.prog 10 #[.pointer (some ⟨J.m, 0, none⟩), .int .i64 a] w fun e w' => e = .returned (.tuple #[.agg #[.int .i64 (IM.atL q wc a), .int .i64 (IM.atC q wc a), .int .i64 (IM.atS q wc a)], .int .i64 (IM.atN q wc a), .int .i64 (IM.atE q wc a)]) ∧ Below w.heap.size w w' := by
  obtain ⟨w1, hw1⟩ : ∃ w1, w1 = w.alloc (.cells #[.int .i64 0, .int .i64 0, .int .i64 0] 32) := ⟨_, rfl⟩
  have hb1 : Below w.heap.size w w1 := by rw [hw1]; exact (Below.refl _ _).alloc (Nat.le_refl _) _
  have Y1 : Whole w1 w.heap.size 32 #[.int .i64 0, .int .i64 0, .int .i64 0] := by rw [hw1]; exact Whole.fresh _ _ _
  have H1 := h.below hb1
  have j0 : w1.cell? ⟨J.m, 0, none⟩ = some (.pointer (some ⟨J.R.m, 0, none⟩)) := H1.box.cell 0
  have CA0 := rat_any H1.rf a (by unfold I64 at ha; exact ha)
  obtain ⟨ae, hae⟩ : ∃ x, x = addrE q.own q.C q.K a := ⟨_, rfl⟩
  have had : IM.adE q a = ae := hae.symm
  rw [← hae] at CA0
  have CA := Lib.hid CA0
  have HW1 := Lib.hid hw1
  have HB1 := Lib.hid hb1
  have HY1 := Lib.hid Y1
  have HH1 := Lib.hid H1
  obtain ⟨y0, y1, y2⟩ := Y1.cells3
  have f0 := Y1.free 0
  have f1 := Y1.free 1
  have f2 := Y1.free 2
  clear CA0 hw1 hb1 Y1 H1 h
  by_cases hz : ae = 0
  · subst hz
    obtain ⟨j, rfl, hj, hjo⟩ := addrE_ok hae.symm
    clear hae
    have k0 : w1.cell? ⟨J.R.m, 0, none⟩ = some (.slice (some ⟨J.R.p, 0, none⟩) (q.C * q.K) (q.C * q.K)) := HH1.out.rf.words
    have k1 : w1.cell? ⟨J.R.p, j, none⟩ = some (.int .u64 (wc j : Nat)) := HH1.out.rf.wrow.cell j hj
    go_enter Tryz.func10, Tryz.ntmps10
    go_upto_region 1 with fail
    rw [← HW1.out]
    go_wp2_with fail
    refine CA.out.mono ?_
    rintro e w2 ⟨rfl, rfl⟩
    have hx : FM.Word ((wc j : Nat) : Int) := by have := hwl j; unfold FM.Word; omega
    have HD := Lib.hid (rdecodeD_any ((wc j : Nat) : Int) hx w1)
    have HHD := Lib.hid (show IM.hd wc ((j : Nat) : Int) = ((wc j : Nat) : Int) by unfold IM.hd; rw [Int.toNat_natCast])
    clear CA hx
    go_wp2_with fail
    refine HD.out.mono ?_
    rintro e w3 ⟨rfl, hb3⟩
    obtain ⟨w4, hw4⟩ : ∃ w4, w4 = w3.alloc (.cells #[.int .i64 (HM.dL ((wc j : Nat) : Int)), .int .i64 (HM.dC ((wc j : Nat) : Int)), .int .i64 (HM.dS ((wc j : Nat) : Int))] 32) := ⟨_, rfl⟩
    have hb4 : Below w1.heap.size w1 w4 := by rw [hw4]; exact hb3.alloc hb3.size _
    by_cases ho : HM.hok ((wc j : Nat) : Int) = true
    · rw [ho]
      go_wp2_with fail
      rw [← hw4]
      have hdE : HM.dE (IM.hd wc ((j : Nat) : Int)) = 0 := by rw [HHD.out]; unfold HM.dE; rw [if_pos ho]
      have hbd := (HM.hok_iff _).1 ho
      have eL : HM.dL ((wc j : Nat) : Int) = ((wc j : Nat) : Int) / 4294967296 % 256 := by unfold HM.dL; rw [if_pos ho]
      have eC : HM.dC ((wc j : Nat) : Int) = ((wc j : Nat) : Int) / 65536 % 65536 := by unfold HM.dC; rw [if_pos ho]
      have hC4 : I64 (HM.dC ((wc j : Nat) : Int)) := by rw [eC]; unfold I64; omega
      have hL4 : 1 ≤ HM.dL ((wc j : Nat) : Int) := by rw [eL]; omega
      have hat := at_size (q := q) (wd := wc) (a := ((j : Nat) : Int)) had hdE
      rw [HHD.out] at hat
      have CZ0 := rsize_any (HH1.out.below hb4) (HM.dL ((wc j : Nat) : Int)) (HM.dC ((wc j : Nat) : Int)) (HM.dS ((wc j : Nat) : Int)) hL4 hC4
      have hnz : IM.szE q.D (HM.dL ((wc j : Nat) : Int)) (HM.dC ((wc j : Nat) : Int)) ≠ 0 → IM.szN q.D (HM.dL ((wc j : Nat) : Int)) (HM.dC ((wc j : Nat) : Int)) = 0 := fun h => by unfold IM.szN; rw [if_neg h]
      obtain ⟨er, her⟩ : ∃ x, x = IM.szE q.D (HM.dL ((wc j : Nat) : Int)) (HM.dC ((wc j : Nat) : Int)) := ⟨_, rfl⟩
      obtain ⟨nz, hnn⟩ : ∃ x, x = IM.szN q.D (HM.dL ((wc j : Nat) : Int)) (HM.dC ((wc j : Nat) : Int)) := ⟨_, rfl⟩
      rw [← her, ← hnn] at CZ0 hnz
      have hat2 : IM.atE q wc ((j : Nat) : Int) = er ∧ IM.atL q wc ((j : Nat) : Int) = zE er (HM.dL ((wc j : Nat) : Int)) ∧ IM.atC q wc ((j : Nat) : Int) = zE er (HM.dC ((wc j : Nat) : Int)) ∧ IM.atS q wc ((j : Nat) : Int) = zE er (HM.dS ((wc j : Nat) : Int)) ∧ IM.atN q wc ((j : Nat) : Int) = nz := by
        obtain ⟨t1, t2, t3, t4, t5⟩ := hat
        rw [t1, ← her] at t2 t3 t4
        exact ⟨t1.trans her.symm, t2, t3, t4, t5.trans hnn.symm⟩
      have HAT2 := Lib.hid hat2
      have CZ := Lib.hid CZ0
      have O4 : Whole w4 w3.heap.size 32 #[.int .i64 (HM.dL ((wc j : Nat) : Int)), .int .i64 (HM.dC ((wc j : Nat) : Int)), .int .i64 (HM.dS ((wc j : Nat) : Int))] := by rw [hw4]; exact Whole.fresh _ _ _
      have HO4 := Lib.hid O4
      have HB4 := Lib.hid hb4
      clear her hnn hat2 CZ0 hdE hbd eL eC hC4 hL4 hat O4 hb4 hw4 hb3 ho had k0 k1 y0 y1 y2 f0 f1 f2
      refine CZ.out.mono ?_
      rintro e w5 ⟨rfl, hb5⟩
      have hb15 := HB4.out.trans (hb5.mono HB4.out.size)
      have hY5 := HY1.out.below hb15 HY1.out.lt
      have hO5 := HO4.out.below hb5 HO4.out.lt
      obtain ⟨y0, y1, y2⟩ := hY5.cells3
      obtain ⟨o0, o1, o2⟩ := hO5.cells3
      have f0 := hY5.free 0
      have f1 := hY5.free 1
      have f2 := hY5.free 2
      have HB5 := Lib.hid (HB1.out.trans (hb15.mono HB1.out.size))
      clear hb5 hb15 hY5 hO5 CZ HO4 HB4
      by_cases hze : er = 0
      · subst hze
        go_wp2_with fail
        refine bodyPost_ret (v := .tuple #[.agg #[.int .i64 (HM.dL ((wc j : Nat) : Int)), .int .i64 (HM.dC ((wc j : Nat) : Int)), .int .i64 (HM.dS ((wc j : Nat) : Int))], .int .i64 nz, .int .i64 0]) (by simp [results, Tryz.results10, go_sem, y0, y1, y2]) rfl ⟨by rw [HAT2.out.1, HAT2.out.2.1, HAT2.out.2.2.1, HAT2.out.2.2.2.1, HAT2.out.2.2.2.2]; rfl, ?_⟩
        exact ((HB5.out.setCell (p := ⟨w.heap.size, 0, none⟩) (Nat.le_refl _) _).setCell (p := ⟨w.heap.size, 1, none⟩) (Nat.le_refl _) _).setCell (p := ⟨w.heap.size, 2, none⟩) (Nat.le_refl _) _
      · have d := hnz hze
        subst d
        have d1 : (er != 0) = true := by simpa using hze
        have z1 : ∀ x, zE er x = 0 := fun x => by unfold zE; rw [if_neg hze]
        have HZ1 := Lib.hid z1
        clear z1 hnz
        go_wp2_with fail
        refine bodyPost_ret (v := .tuple #[.agg #[.int .i64 0, .int .i64 0, .int .i64 0], .int .i64 0, .int .i64 er]) (by simp [results, Tryz.results10, go_sem, y0, y1, y2]) rfl ⟨by rw [HAT2.out.1, HAT2.out.2.1, HAT2.out.2.2.1, HAT2.out.2.2.2.1, HAT2.out.2.2.2.2, HZ1.out, HZ1.out, HZ1.out], ?_⟩
        exact ((HB5.out.setCell (p := ⟨w.heap.size, 0, none⟩) (Nat.le_refl _) _).setCell (p := ⟨w.heap.size, 1, none⟩) (Nat.le_refl _) _).setCell (p := ⟨w.heap.size, 2, none⟩) (Nat.le_refl _) _
    · have hdE : HM.dE (IM.hd wc ((j : Nat) : Int)) ≠ 0 := by rw [HHD.out]; unfold HM.dE; rw [if_neg ho]; decide
      obtain ⟨t1, t2, t3, t4, t5⟩ := at_form (q := q) (wd := wc) (a := ((j : Nat) : Int)) had hdE
      have HT := Lib.hid (And.intro t1 (And.intro t2 (And.intro t3 (And.intro t4 t5))))
      rw [show HM.hok ((wc j : Nat) : Int) = false by simpa using ho]
      have hY4 := HY1.out.below hb4 HY1.out.lt
      have HB4 := Lib.hid (HB1.out.trans (hb4.mono HB1.out.size))
      rw [hw4] at hY4 HB4
      clear y0 y1 y2 f0 f1 f2
      obtain ⟨y0, y1, y2⟩ := hY4.cells3
      have f0 := hY4.free 0
      have f1 := hY4.free 1
      have f2 := hY4.free 2
      clear t1 t2 t3 t4 t5 hdE hY4 hb4 hw4 hb3 ho had k0 k1
      go_wp2_with fail
      refine bodyPost_ret (v := .tuple #[.agg #[.int .i64 0, .int .i64 0, .int .i64 0], .int .i64 0, .int .i64 4]) (by simp [results, Tryz.results10, go_sem, y0, y1, y2]) rfl ⟨by rw [HT.out.1, HT.out.2.1, HT.out.2.2.1, HT.out.2.2.2.1, HT.out.2.2.2.2], ?_⟩
      exact ((HB4.out.setCell (p := ⟨w.heap.size, 0, none⟩) (Nat.le_refl _) _).setCell (p := ⟨w.heap.size, 1, none⟩) (Nat.le_refl _) _).setCell (p := ⟨w.heap.size, 2, none⟩) (Nat.le_refl _) _
  · obtain ⟨b1, b2, b3, b4, b5⟩ := at_bad (q := q) (wd := wc) (a := a) (by rw [had]; exact hz)
    rw [b1, b2, b3, b4, b5, had]
    have d : (ae != 0) = true := by simpa using hz
    clear b1 b2 b3 b4 b5 had hae
    go_enter Tryz.func10, Tryz.ntmps10
    go_upto_region 1 with fail
    rw [← HW1.out]
    go_wp2_with fail
    refine CA.out.mono ?_
    rintro e w2 ⟨rfl, rfl⟩
    clear CA
    go_wp2_with fail
    refine bodyPost_ret (v := .tuple #[.agg #[.int .i64 0, .int .i64 0, .int .i64 0], .int .i64 0, .int .i64 ae]) (by simp [results, Tryz.results10, go_sem, y0, y1, y2]) rfl ⟨rfl, ?_⟩
    exact ((HB1.out.setCell (p := ⟨w.heap.size, 0, none⟩) (Nat.le_refl _) _).setCell (p := ⟨w.heap.size, 1, none⟩) (Nat.le_refl _) _).setCell (p := ⟨w.heap.size, 2, none⟩) (Nat.le_refl _) _
end Go.Proofs.YteneadimchhhhaaGreatDoor
/- The document's images: place, Word. -/
namespace Go.Proofs.YteneadimchhhhaaGreatDoor
open Go.RowKit

/-- What place says is wrong. -/
def IM.pcE (q : Cf) (wd : Nat → Nat) (a p : Int) : Int := if IM.atE q wd a = 0 then (if p < 0 ∨ IM.atN q wd a - 1 ≤ p then 3 else 0) else IM.atE q wd a
def IM.pcB (q : Cf) (wd : Nat → Nat) (a p : Int) : Bool := if IM.pcE q wd a p = 0 then IM.isR q.D (IM.atL q wd a) p else false
theorem pc_pl {q : Cf} {wd : Nat → Nat} {a p : Int} (r : Bool) : IM.plE q wd a p r = if IM.pcE q wd a p = 0 then (if IM.pcB q wd a p = r then 0 else 9) else IM.pcE q wd a p := by
  unfold IM.pcB IM.pcE IM.plE
  by_cases h : IM.atE q wd a = 0
  · rw [if_pos h, if_pos h]
    by_cases h2 : p < 0 ∨ IM.atN q wd a - 1 ≤ p
    · rw [if_pos h2, if_pos h2]; rfl
    · rw [if_neg h2, if_neg h2]; rfl
  · rw [if_neg h, if_neg h, if_neg h]
set_option maxHeartbeats 1000000 in
theorem rword_at {w : World} {J : DB} {q : Cf} {wc : Nat → Nat} (h : DcAt w J q wc) (a p : Int) (r : Bool)
    (HP : ∀ W, Below w.heap.size w W → Calls Tryz.prog 73 #[.pointer (some ⟨J.m, 0, none⟩), .int .i64 a, .int .i64 p] W fun e w' => e = .returned (.tuple #[.bool (IM.pcB q wc a p), .int .i64 (IM.pcE q wc a p)]) ∧ Below W.heap.size W w') :
    Calls Tryz.prog 42 #[.pointer (some ⟨J.m, 0, none⟩), .int .i64 a, .int .i64 p, .bool r] w fun e w' => e = .returned (.tuple #[.int .i64 (IM.plA q wc a p r), .int .i64 (IM.plE q wc a p r)]) ∧ Below w.heap.size w w' := by
  have HC := Lib.hid (HP w (Below.refl _ _))
  have hpl := pc_pl (q := q) (wd := wc) (a := a) (p := p) r
  have hpa : IM.plA q wc a p r = if IM.plE q wc a p r = 0 then a + 1 + p else 0 := rfl
  rw [hpa, hpl]
  have hbd : IM.plE q wc a p r = 0 → (0 ≤ a ∧ a < 1048576) ∧ 0 ≤ p ∧ p < 8192 := fun hz => by
    obtain ⟨h1, h2, h3⟩ := pl_bd hz
    have h4 := (at_ok h1).1
    have h5 := ad_bd h.rf.C2 h.rf.K2 h4
    have h6 := atN_bd q wc a
    omega
  rw [hpl] at hbd
  obtain ⟨pe, hpe⟩ : ∃ x, x = IM.pcE q wc a p := ⟨_, rfl⟩
  obtain ⟨pb, hpb⟩ : ∃ x, x = IM.pcB q wc a p := ⟨_, rfl⟩
  rw [← hpe, ← hpb] at HC
  rw [← hpe, ← hpb] at hbd ⊢
  clear hpl hpa hpe hpb HP h
  by_cases hz : pe = 0
  · subst hz
    rw [if_pos rfl] at hbd
    by_cases hb : pb = r
    · subst hb
      rw [if_pos rfl] at hbd
      obtain ⟨⟨a0, a1⟩, p0, p1⟩ := hbd rfl
      have db : (pb != pb) = false := by simp
      clear hbd
      go_enter Tryz.func42, Tryz.ntmps42
      go_wp2_with fail
      refine HC.out.mono ?_
      rintro e w2 ⟨rfl, hb2⟩
      have HB2 := Lib.hid hb2
      clear hb2 HC
      go_wp2_with fail
      go_ret2
      exact ⟨(by simp), HB2.out⟩
    · have hb2 : (pb = true ∧ r = false) ∨ (pb = false ∧ r = true) := by cases pb <;> cases r <;> simp_all
      clear hbd hb
      rcases hb2 with ⟨rfl, rfl⟩ | ⟨rfl, rfl⟩
      all_goals
        go_enter Tryz.func42, Tryz.ntmps42
        go_wp2_with fail
        refine HC.out.mono ?_
        rintro e w2 ⟨rfl, hb2⟩
        have HB2 := Lib.hid hb2
        clear hb2 HC
        go_wp2_with fail
        go_ret2
        exact ⟨(by simp), HB2.out⟩
  · have d : (pe != 0) = true := by simpa using hz
    clear hbd
    go_enter Tryz.func42, Tryz.ntmps42
    go_wp2_with fail
    refine HC.out.mono ?_
    rintro e w2 ⟨rfl, hb2⟩
    have HB2 := Lib.hid hb2
    clear hb2 HC
    go_wp2_with fail
    go_ret2
    exact ⟨(by simp), HB2.out⟩
end Go.Proofs.YteneadimchhhhaaGreatDoor
/- The document's images: place. -/
namespace Go.Proofs.YteneadimchhhhaaGreatDoor
open Go.RowKit

set_option maxHeartbeats 1000000 in
theorem rplace_any {w : World} {J : DB} {q : Cf} {wc : Nat → Nat} (h : DcAt w J q wc) (a p : Int) (ha : I64 a) (hwl : ∀ k, wc k < 18446744073709551616) :
    Calls Tryz.prog 73 #[.pointer (some ⟨J.m, 0, none⟩), .int .i64 a, .int .i64 p] w fun e w' => e = .returned (.tuple #[.bool (IM.pcB q wc a p), .int .i64 (IM.pcE q wc a p)]) ∧ Below w.heap.size w w' := by
  have CA := rimat_any h a ha hwl
  have hN := atN_bd q wc a
  have eE : IM.pcE q wc a p = if IM.atE q wc a = 0 then (if p < 0 ∨ IM.atN q wc a - 1 ≤ p then 3 else 0) else IM.atE q wc a := rfl
  have eB : IM.pcB q wc a p = if IM.pcE q wc a p = 0 then IM.isR q.D (IM.atL q wc a) p else false := rfl
  by_cases hz : IM.atE q wc a = 0
  · rw [if_pos hz] at eE
    rw [hz] at CA
    obtain ⟨-, hdz, tL, tC, tS, tz, tN⟩ := at_ok hz
    obtain ⟨L, hL⟩ : ∃ x, x = IM.atL q wc a := ⟨_, rfl⟩
    obtain ⟨C, hC⟩ : ∃ x, x = IM.atC q wc a := ⟨_, rfl⟩
    obtain ⟨S, hS⟩ : ∃ x, x = IM.atS q wc a := ⟨_, rfl⟩
    obtain ⟨N, hNn⟩ : ∃ x, x = IM.atN q wc a := ⟨_, rfl⟩
    rw [← hL, ← hC, ← hS, ← hNn] at CA
    rw [← hNn] at eE hN
    rw [← hL] at eB
    have HC := Lib.hid CA
    by_cases hp : p < 0 ∨ N - 1 ≤ p
    · rw [if_pos hp] at eE
      have eB2 : IM.pcB q wc a p = false := by rw [eB, eE]; rfl
      rw [eE, eB2]
      have hpp : decide (p < 0) = true ∨ (decide (p < 0) = false ∧ decide (N - 1 ≤ p) = true) := by
        by_cases h0 : p < 0
        · exact .inl (by simpa using h0)
        · exact .inr ⟨by simpa using h0, by simp; omega⟩
      clear eE eB eB2 CA hL hC hS hNn tL tC tS tz tN hdz hz h hwl hp
      rcases hpp with dp0 | ⟨dp0, dp1⟩
      all_goals
        go_enter Tryz.func73, Tryz.ntmps73
        go_wp2_with fail
        refine HC.out.mono ?_
        rintro e w2 ⟨rfl, hb2⟩
        have HB2 := Lib.hid hb2
        clear hb2 HC
        go_wp2_with fail
        go_ret2
        exact ⟨rfl, HB2.out.alloc HB2.out.size _⟩
    · rw [if_neg hp] at eE
      rw [eE] at eB
      rw [eE, eB]
      rw [← hL, ← hC] at tz
      have hg : IM.gE (J.ls.map LV.ld) L = 0 := by
        rw [h.lays]
        unfold IM.gE
        cases hl : IM.lay q.D L with
        | none => unfold IM.szE at tz; rw [hl] at tz; exact absurd tz (show ¬ (6 : Int) = 0 by decide)
        | some l => rfl
      obtain ⟨i, l, rfl, hl, hlay⟩ := lay_some hg
      rw [h.lays] at hlay
      rw [hL] at hlay
      obtain ⟨k1, k2, k3⟩ := at_got hz hlay
      rw [← hL] at k3
      rw [k3 p]
      rw [← hC] at k1 k2
      rw [← hNn, LM.size_ok k1] at k2
      obtain ⟨hr, ⟨q1, q2, q3⟩, q4⟩ := LM.code_zero k1
      obtain ⟨⟨r1, r2, r3, r4, -⟩, -, -⟩ := LM.right_parts hr
      have hil : i < J.ls.length := (List.getElem?_eq_some_iff.1 hl).1
      have hpb : 0 ≤ p ∧ p < l.F + C * l.R ∧ p ≤ 100000 := by omega
      have hpR : p < l.F ∨ 0 < l.R := by
        by_cases h0 : 0 < l.R
        · exact .inr h0
        · have e0 : l.R = 0 := by omega
          have := hpb.2.1
          rw [e0, Int.mul_zero] at this
          exact .inl (by omega)
      obtain ⟨A, c, hv, hrw⟩ := h.more
      have hbx := h.box
      rw [hv] at hbx
      obtain ⟨g, rfl, hgl, hcell⟩ := hrw (by omega)
      obtain ⟨hll, hf⟩ := h.each l (List.mem_of_getElem? hl)
      have CI := Lib.hid (fun (W : World) (hW : Below w.heap.size w W) =>
        have hL2 := Lists.kept hll (Kept.of_below hW (Nat.le_refl _))
        refIsRef_any l.F l.R l.A l.n l.c l.xs l.D l.m l.d l.ys p w.heap.size W hW.size hf.hn hf.hm hf.hR hL2.fst.ns hL2.snd.ns r1 r2 hpb.1 hpb.2.2 hpR)
      have hlen := h.len
      have HCE := Lib.hid (show ∀ W : World, Below w.heap.size w W → W.cell? ⟨J.m, 1, none⟩ = some (.slice (some ⟨g, 0, none⟩) J.ls.length c) ∧
          W.cell? ⟨g, i * 4, none⟩ = some (.int .i64 l.F) ∧ W.cell? ⟨g, i * 4 + 1, none⟩ = some (.slice l.A l.n l.c) ∧ W.cell? ⟨g, i * 4 + 2, none⟩ = some (.int .i64 l.R) ∧ W.cell? ⟨g, i * 4 + 3, none⟩ = some (.slice l.D l.m l.d) from fun W hb =>
        ⟨(hbx.below hb hbx.lt).cell 1, (hb.cell (p := ⟨g, i * 4, none⟩) hgl).trans (hcell i l 0 hl (by omega)), (hb.cell (p := ⟨g, i * 4 + 1, none⟩) hgl).trans (hcell i l 1 hl (by omega)), (hb.cell (p := ⟨g, i * 4 + 2, none⟩) hgl).trans (hcell i l 2 hl (by omega)), (hb.cell (p := ⟨g, i * 4 + 3, none⟩) hgl).trans (hcell i l 3 hl (by omega))⟩)
      obtain ⟨v, hvv⟩ : ∃ x, x = LM.isRef l.F l.R l.xs l.ys p := ⟨_, rfl⟩
      simp only [← hvv] at CI
      rw [if_pos rfl, ← hvv]
      obtain ⟨nl, hnl⟩ : ∃ x, x = J.ls.length := ⟨_, rfl⟩
      rw [← hnl] at HCE hil hlen
      have ws2 : IntKind.i64.wrap (i : Int) = (i : Int) := by rw [IntKind.wrap_i64]; omega
      have bi0 : (0 : Int) ≤ (i : Int) := by omega
      have bi1 : (i : Int) < (nl : Int) := by omega
      have dp0 : decide (p < 0) = false := by simp; omega
      have dp1 : decide (N - 1 ≤ p) = false := by simp; omega
      clear eE eB CA hL hC hS hNn tL tC tS tz tN hdz hz h hwl hg hl hlay k1 k2 k3 hr q1 q2 q3 q4 r1 r2 r3 r4 hv hrw hbx hcell hll hf hvv hnl hpR
      go_enter Tryz.func73, Tryz.ntmps73
      go_wp2_with fail
      refine HC.out.mono ?_
      rintro e w2 ⟨rfl, hb2⟩
      obtain ⟨w3, hw3⟩ : ∃ w3, w3 = w2.alloc (.cells #[.int .i64 ((i : Int) + 1), .int .i64 C, .int .i64 S] 32) := ⟨_, rfl⟩
      have hb3 : Below w.heap.size w w3 := by rw [hw3]; exact hb2.alloc hb2.size _
      have Y3 : Whole w3 w2.heap.size 32 #[.int .i64 ((i : Int) + 1), .int .i64 C, .int .i64 S] := by rw [hw3]; exact Whole.fresh _ _ _
      have hyl := Y3.lt
      obtain ⟨y0, y1, y2⟩ := Y3.cells3
      obtain ⟨j1, e0, e1, e2, e3⟩ := HCE.out w3 hb3
      have HCX := Lib.hid (show ∀ W : World, Below w3.heap.size w3 W → W.cell? ⟨w2.heap.size, 0, none⟩ = some (.int .i64 ((i : Int) + 1)) ∧ W.cell? ⟨J.m, 1, none⟩ = some (.slice (some ⟨g, 0, none⟩) nl c) ∧
          W.cell? ⟨g, i * 4, none⟩ = some (.int .i64 l.F) ∧ W.cell? ⟨g, i * 4 + 1, none⟩ = some (.slice l.A l.n l.c) ∧ W.cell? ⟨g, i * 4 + 2, none⟩ = some (.int .i64 l.R) ∧ W.cell? ⟨g, i * 4 + 3, none⟩ = some (.slice l.D l.m l.d) from fun W hb =>
        ⟨(hb.cell (p := ⟨w2.heap.size, 0, none⟩) hyl).trans y0, HCE.out W (hb3.trans (hb.mono hb3.size))⟩)
      have HB3 := Lib.hid hb3
      have HW3 := Lib.hid hw3
      clear hb2 hb3 hw3 Y3 hyl HC HCE
      go_upto_region 6 with fail
      rw [← HW3.out]
      clear HW3
      go_region_held3 (fun w' => w'.cell? ⟨w2.heap.size, 0, none⟩ = some (.int .i64 ((i : Int) + 1)) ∧ w'.cell? ⟨J.m, 1, none⟩ = some (.slice (some ⟨g, 0, none⟩) nl c) ∧
          w'.cell? ⟨g, i * 4, none⟩ = some (.int .i64 l.F) ∧ w'.cell? ⟨g, i * 4 + 1, none⟩ = some (.slice l.A l.n l.c) ∧ w'.cell? ⟨g, i * 4 + 2, none⟩ = some (.int .i64 l.R) ∧ w'.cell? ⟨g, i * 4 + 3, none⟩ = some (.slice l.D l.m l.d))
        (first | (with_reducible exact HX) | (with_reducible exact ⟨y0, j1, e0, e1, e2, e3⟩) | exact ⟨y0, j1, e0, e1, e2, e3⟩ | fail)
        (first | (go_at_call 75; (with_reducible refine (CI.out _ (by first | exact below_drewN HB3.out _ | exact HB3.out.drew)).mono ?_); rintro e w5 ⟨rfl, hb5⟩; have hb6 : Below w3.heap.size w3 w5 := ⟨hb5.os, hb5.tape, hb5.output, hb5.size, hb5.block⟩; have HX := HCX.out _ hb6; have HB6 := Lib.hid (HB3.out.trans (hb6.mono HB3.out.size)); clear hb5 hb6))
      go_wp2_with fail
      go_ret2
      exact ⟨rfl, HB6.out⟩
  · rw [if_neg hz] at eE
    have eB2 : IM.pcB q wc a p = false := by rw [eB, eE, if_neg hz]
    rw [eE, eB2]
    obtain ⟨er, her⟩ : ∃ x, x = IM.atE q wc a := ⟨_, rfl⟩
    rw [← her] at CA hz ⊢
    have d : (er != 0) = true := by simpa using hz
    have HC := Lib.hid CA
    clear CA eE eB eB2 her h hwl hN
    go_enter Tryz.func73, Tryz.ntmps73
    go_wp2_with fail
    refine HC.out.mono ?_
    rintro e w2 ⟨rfl, hb2⟩
    have HB2 := Lib.hid hb2
    clear hb2 HC
    go_wp2_with fail
    go_ret2
    exact ⟨rfl, HB2.out.alloc HB2.out.size _⟩
end Go.Proofs.YteneadimchhhhaaGreatDoor
/- The document's images: Load. -/
namespace Go.Proofs.YteneadimchhhhaaGreatDoor
open Go.RowKit

theorem rword2_any {w : World} {J : DB} {q : Cf} {wc : Nat → Nat} (h : DcAt w J q wc) (a p : Int) (r : Bool) (ha : I64 a) (hwl : ∀ k, wc k < 18446744073709551616) :
    Calls Tryz.prog 42 #[.pointer (some ⟨J.m, 0, none⟩), .int .i64 a, .int .i64 p, .bool r] w fun e w' => e = .returned (.tuple #[.int .i64 (IM.plA q wc a p r), .int .i64 (IM.plE q wc a p r)]) ∧ Below w.heap.size w w' :=
  rword_at h a p r fun _ hW => rplace_any (h.below hW) a p ha hwl
/-- Where a place's word is: a number that may be. -/
theorem plA_i64 {q : Cf} {wd : Nat → Nat} {a p : Int} {r : Bool} (hC : q.C ≤ 1024) (hK : q.K ≤ 1024) : I64 (IM.plA q wd a p r) := by
  unfold IM.plA I64
  by_cases hz : IM.plE q wd a p r = 0
  · rw [if_pos hz]
    obtain ⟨h1, h2, h3⟩ := pl_bd hz
    have h5 := ad_bd hC hK (at_ok h1).1
    have h6 := atN_bd q wd a
    omega
  · rw [if_neg hz]
    omega
set_option maxHeartbeats 1000000 in
theorem rload_any {w : World} {J : DB} {q : Cf} {wc : Nat → Nat} (h : DcAt w J q wc) (a p : Int) (ha : I64 a) (hwl : ∀ k, wc k < 18446744073709551616) :
    Calls Tryz.prog 28 #[.pointer (some ⟨J.m, 0, none⟩), .int .i64 a, .int .i64 p] w fun e w' => e = .returned (.tuple #[.int .u64 (IM.ldV q wc a p : Nat), .int .i64 (IM.ldE q wc a p)]) ∧ Below w.heap.size w w' := by
  have CW := rword2_any h a p false ha hwl
  have hai := plA_i64 (q := q) (wd := wc) (a := a) (p := p) (r := false) h.rf.C2 h.rf.K2
  have eE : IM.ldE q wc a p = if IM.plE q wc a p false = 0 then IM.adE q (a + 1 + p) else IM.plE q wc a p false := rfl
  have eV : IM.ldV q wc a p = if IM.ldE q wc a p = 0 then wc (a + 1 + p).toNat else 0 := rfl
  have eA : IM.plA q wc a p false = if IM.plE q wc a p false = 0 then a + 1 + p else 0 := rfl
  obtain ⟨x, hx⟩ : ∃ x, x = IM.plA q wc a p false := ⟨_, rfl⟩
  obtain ⟨pe, hpe⟩ : ∃ x, x = IM.plE q wc a p false := ⟨_, rfl⟩
  rw [← hx, ← hpe] at CW
  rw [← hx] at hai
  rw [← hpe] at eE
  rw [← hx, ← hpe] at eA
  have HC := Lib.hid CW
  by_cases hz : pe = 0
  · subst hz
    rw [if_pos rfl] at eE eA
    rw [← eA] at eE eV
    have CR := Lib.hid (fun (W : World) (hb : Below w.heap.size w W) => rat_any (h.below hb).rf x (by unfold I64 at hai; exact hai))
    have HD := Lib.hid h
    have hjl := h.box.lt
    clear CW hai hx hpe eA h hwl
    by_cases hz2 : IM.adE q x = 0
    · have hv : IM.ldV q wc a p = wc x.toNat := by rw [eV, eE, if_pos hz2]
      rw [hv, eE, hz2]
      have hz3 : addrE q.own q.C q.K x = 0 := hz2
      obtain ⟨j, rfl, hj, hjo⟩ := addrE_ok hz3
      rw [Int.toNat_natCast]
      rw [hz3] at CR
      clear eE eV hv hz2 hz3
      go_enter Tryz.func28, Tryz.ntmps28
      go_wp2_with fail
      refine HC.out.mono ?_
      rintro e w2 ⟨rfl, hb2⟩
      have hd2 := HD.out.below hb2
      have j0 : w2.cell? ⟨J.m, 0, none⟩ = some (.pointer (some ⟨J.R.m, 0, none⟩)) := hd2.box.cell 0
      have k0 : w2.cell? ⟨J.R.m, 0, none⟩ = some (.slice (some ⟨J.R.p, 0, none⟩) (q.C * q.K) (q.C * q.K)) := hd2.rf.words
      have k1 : w2.cell? ⟨J.R.p, j, none⟩ = some (.int .u64 (wc j : Nat)) := hd2.rf.wrow.cell j hj
      have C2 := Lib.hid (CR.out w2 hb2)
      have HB2 := Lib.hid hb2
      clear hb2 hd2 HC CR HD
      go_wp2_with fail
      refine C2.out.mono ?_
      rintro e w4 ⟨rfl, rfl⟩
      go_wp2_with fail
      go_ret2
      exact ⟨rfl, HB2.out⟩
    · have hv : IM.ldV q wc a p = 0 := by rw [eV, eE, if_neg hz2]
      rw [hv, eE]
      obtain ⟨ae, hae⟩ : ∃ y, y = IM.adE q x := ⟨_, rfl⟩
      have hae2 : addrE q.own q.C q.K x = ae := hae.symm
      rw [hae2] at CR
      rw [← hae] at hz2 ⊢
      have d : (ae != 0) = true := by simpa using hz2
      clear eE eV hv hae hae2
      go_enter Tryz.func28, Tryz.ntmps28
      go_wp2_with fail
      refine HC.out.mono ?_
      rintro e w2 ⟨rfl, hb2⟩
      have hd2 := HD.out.below hb2
      have j0 : w2.cell? ⟨J.m, 0, none⟩ = some (.pointer (some ⟨J.R.m, 0, none⟩)) := hd2.box.cell 0
      have C2 := Lib.hid (CR.out w2 hb2)
      have HB2 := Lib.hid hb2
      clear hb2 hd2 HC CR HD
      go_wp2_with fail
      refine C2.out.mono ?_
      rintro e w4 ⟨rfl, rfl⟩
      go_wp2_with fail
      go_ret2
      exact ⟨rfl, HB2.out⟩
  · rw [if_neg hz] at eE
    rw [eE, if_neg hz] at eV
    rw [eE, eV]
    have d : (pe != 0) = true := by simpa using hz
    clear CW hai hx hpe eA eE eV h hwl
    go_enter Tryz.func28, Tryz.ntmps28
    go_wp2_with fail
    refine HC.out.mono ?_
    rintro e w2 ⟨rfl, hb2⟩
    have HB2 := Lib.hid hb2
    clear hb2 HC
    go_wp2_with fail
    go_ret2
    exact ⟨rfl, HB2.out⟩
end Go.Proofs.YteneadimchhhhaaGreatDoor
/- The document's images: Save. -/
namespace Go.Proofs.YteneadimchhhhaaGreatDoor
open Go.RowKit

/-- What a call of the document's leaves that writes: these words. -/
def DwPost (v : Value) (J : DB) (q : Cf) (wd' : Nat → Nat) (w : World) (e : Ending) (w' : World) : Prop :=
  e = .returned v ∧ ∃ w2, Below w.heap.size w w2 ∧ OnlyIn [J.R.p, J.R.q] w2 w' ∧ RfAt w' J.R q.C q.K q.own wd'
set_option maxHeartbeats 1000000 in
theorem rsave_any {w : World} {J : DB} {q : Cf} {wc : Nat → Nat} (h : DcAt w J q wc) (a p : Int) (x : Nat) (ha : I64 a) (hwl : ∀ k, wc k < 18446744073709551616) :
    Calls Tryz.prog 30 #[.pointer (some ⟨J.m, 0, none⟩), .int .i64 a, .int .i64 p, .int .u64 x] w (DwPost (.int .i64 (IM.ldE q wc a p)) J q (IM.svW q wc a p x) w) := by
  have CW := rword2_any h a p false ha hwl
  have hai := plA_i64 (q := q) (wd := wc) (a := a) (p := p) (r := false) h.rf.C2 h.rf.K2
  have eE : IM.ldE q wc a p = if IM.plE q wc a p false = 0 then IM.adE q (a + 1 + p) else IM.plE q wc a p false := rfl
  have eV : IM.svW q wc a p x = if IM.ldE q wc a p = 0 then IM.upd wc (a + 1 + p).toNat x else wc := rfl
  have eA : IM.plA q wc a p false = if IM.plE q wc a p false = 0 then a + 1 + p else 0 := rfl
  obtain ⟨y, hy⟩ : ∃ y, y = IM.plA q wc a p false := ⟨_, rfl⟩
  obtain ⟨pe, hpe⟩ : ∃ x, x = IM.plE q wc a p false := ⟨_, rfl⟩
  rw [← hy, ← hpe] at CW
  rw [← hy] at hai
  rw [← hpe] at eE
  rw [← hy, ← hpe] at eA
  have HC := Lib.hid CW
  have HD := Lib.hid h
  by_cases hz : pe = 0
  · subst hz
    rw [if_pos rfl] at eE eA
    rw [← eA] at eE eV
    have CR := Lib.hid (fun (W : World) (hb : Below w.heap.size w W) => rat_any (h.below hb).rf y (by unfold I64 at hai; exact hai))
    clear CW hai hy hpe eA h hwl
    by_cases hz2 : IM.adE q y = 0
    · have hv : IM.svW q wc a p x = IM.upd wc y.toNat x := by rw [eV, eE, if_pos hz2]
      rw [hv, eE, hz2]
      have hz3 : addrE q.own q.C q.K y = 0 := hz2
      obtain ⟨j, rfl, hj, hjo⟩ := addrE_ok hz3
      rw [Int.toNat_natCast]
      rw [hz3] at CR
      clear eE eV hv hz2 hz3
      go_enter Tryz.func30, Tryz.ntmps30
      go_wp2_with fail
      refine HC.out.mono ?_
      rintro e w2 ⟨rfl, hb2⟩
      have hd2 := HD.out.below hb2
      have j0 : w2.cell? ⟨J.m, 0, none⟩ = some (.pointer (some ⟨J.R.m, 0, none⟩)) := hd2.box.cell 0
      have k0 : w2.cell? ⟨J.R.m, 0, none⟩ = some (.slice (some ⟨J.R.p, 0, none⟩) (q.C * q.K) (q.C * q.K)) := hd2.rf.words
      have k1 : w2.cell? ⟨J.R.p, j, none⟩ = some (.int .u64 (wc j : Nat)) := hd2.rf.wrow.cell j hj
      have k2 := hd2.rf.wrow.thaw j hj
      have C2 := Lib.hid (CR.out w2 hb2)
      have HB2 := Lib.hid hb2
      have HD2 := Lib.hid hd2
      clear hb2 hd2 HC CR HD
      go_wp2_with fail
      refine C2.out.mono ?_
      rintro e w4 ⟨rfl, rfl⟩
      go_wp2_with fail
      go_ret
      exact ⟨rfl, _, HB2.out, (OnlyIn.refl _ _).setCell (by simp) _ _, HD2.out.rf.wrote j x⟩
    · have hv : IM.svW q wc a p x = wc := by rw [eV, eE, if_neg hz2]
      rw [hv, eE]
      obtain ⟨ae, hae⟩ : ∃ y', y' = IM.adE q y := ⟨_, rfl⟩
      have hae2 : addrE q.own q.C q.K y = ae := hae.symm
      rw [hae2] at CR
      rw [← hae] at hz2 ⊢
      have d : (ae == 0) = false := by simpa using hz2
      clear eE eV hv hae hae2
      go_enter Tryz.func30, Tryz.ntmps30
      go_wp2_with fail
      refine HC.out.mono ?_
      rintro e w2 ⟨rfl, hb2⟩
      have hd2 := HD.out.below hb2
      have j0 : w2.cell? ⟨J.m, 0, none⟩ = some (.pointer (some ⟨J.R.m, 0, none⟩)) := hd2.box.cell 0
      have C2 := Lib.hid (CR.out w2 hb2)
      have HB2 := Lib.hid hb2
      have HD2 := Lib.hid hd2
      clear hb2 hd2 HC CR HD
      go_wp2_with fail
      refine C2.out.mono ?_
      rintro e w4 ⟨rfl, rfl⟩
      go_wp2_with fail
      go_ret
      exact ⟨rfl, _, HB2.out, OnlyIn.refl _ _, HD2.out.rf⟩
  · rw [if_neg hz] at eE
    rw [eE, if_neg hz] at eV
    rw [eE, eV]
    have d : (pe != 0) = true := by simpa using hz
    clear CW hai hy hpe eA eE eV h hwl
    go_enter Tryz.func30, Tryz.ntmps30
    go_wp2_with fail
    refine HC.out.mono ?_
    rintro e w2 ⟨rfl, hb2⟩
    have HB2 := Lib.hid hb2
    clear hb2 HC
    go_wp2_with fail
    go_ret
    exact ⟨rfl, _, HB2.out, OnlyIn.refl _ _, (HD.out.below HB2.out).rf⟩
end Go.Proofs.YteneadimchhhhaaGreatDoor
/- The document's images: Tie. -/
namespace Go.Proofs.YteneadimchhhhaaGreatDoor
open Go.RowKit

theorem HM.wE_ok {K I G : Int} (h : HM.wE K I G = 0) : HM.lmay K I G = true ∧ HM.wW K I G = HM.lword K I G := by
  unfold HM.wE at h
  by_cases hl : HM.lmay K I G = true
  · exact ⟨hl, by unfold HM.wW; rw [if_pos hl]⟩
  · rw [if_neg hl] at h
    exact absurd h (by decide)
theorem HM.wE_no {K I G : Int} (h : HM.wE K I G ≠ 0) : HM.lmay K I G = false := by
  cases hl : HM.lmay K I G with
  | false => rfl
  | true => exact absurd (show HM.wE K I G = 0 by unfold HM.wE; rw [if_pos hl]) h
theorem DcAt.mp {w : World} {J : DB} {q : Cf} {wc : Nat → Nat} (h : DcAt w J q wc) : J.m ≠ J.R.p := fun e => by
  have h1 : w.cell? ⟨J.m, 0, none⟩ = some (.pointer (some ⟨J.R.m, 0, none⟩)) := h.box.cell 0
  have h2 := h.rf.wrow.cell 0 (Nat.mul_pos h.rf.C1 h.rf.K1)
  rw [e, h2] at h1
  cases h1
/-- What a call of the document's leaves that writes: but for the store's words and owners all is as it was. -/
def DaPost (v : Value) (J : DB) (q : Cf) (wd' : Nat → Nat) (w : World) (e : Ending) (w' : World) : Prop :=
  e = .returned v ∧ Aft [J.R.p, J.R.q] w w' ∧ RfAt w' J.R q.C q.K q.own wd'
theorem DwPost.da {v : Value} {J : DB} {q : Cf} {wd' : Nat → Nat} {w w' : World} {e : Ending} (h : DwPost v J q wd' w e w') : DaPost v J q wd' w e w' := by
  obtain ⟨h1, w2, h2, h3, h4⟩ := h
  exact ⟨h1, (Aft.of_below h2).trans (Aft.of_only h3), h4⟩
theorem six_set {W : World} {m r b p j : Nat} {v0 v1 a0 a1 a2 : Value} (h : W.cell? ⟨m, 0, none⟩ = some v0 ∧ W.cell? ⟨r, 0, none⟩ = some v1 ∧ W.cell? ⟨b, 0, none⟩ = some a0 ∧ W.cell? ⟨b, 1, none⟩ = some a1 ∧ W.cell? ⟨b, 2, none⟩ = some a2 ∧ W.frozen? ⟨p, j, none⟩ = false) (hm : m ≠ p) (hr : r ≠ p) (hb : b ≠ p) (u : Value) :
    (W.setCell ⟨p, j, none⟩ u).cell? ⟨m, 0, none⟩ = some v0 ∧ (W.setCell ⟨p, j, none⟩ u).cell? ⟨r, 0, none⟩ = some v1 ∧ (W.setCell ⟨p, j, none⟩ u).cell? ⟨b, 0, none⟩ = some a0 ∧ (W.setCell ⟨p, j, none⟩ u).cell? ⟨b, 1, none⟩ = some a1 ∧ (W.setCell ⟨p, j, none⟩ u).cell? ⟨b, 2, none⟩ = some a2 ∧ (W.setCell ⟨p, j, none⟩ u).frozen? ⟨p, j, none⟩ = false := by
  obtain ⟨g0, g1, g2, g3, g4, g5⟩ := h
  exact ⟨(cell_set hm).trans g0, (cell_set hr).trans g1, (cell_set hb).trans g2, (cell_set hb).trans g3, (cell_set hb).trans g4, by rw [World.frozen?_setCell]; exact g5⟩
set_option maxHeartbeats 1000000 in
theorem rtie_any {w : World} {J : DB} {q : Cf} {wc : Nat → Nat} (h : DcAt w J q wc) (a p K I G : Int) (ha : I64 a) (hwl : ∀ k, wc k < 18446744073709551616) :
    Calls Tryz.prog 32 #[.pointer (some ⟨J.m, 0, none⟩), .int .i64 a, .int .i64 p, .agg #[.int .i64 K, .int .i64 I, .int .i64 G]] w (DaPost (.int .i64 (IM.tiE q wc a p K I G)) J q (IM.tiW q wc a p K I G) w) := by
  obtain ⟨w1, hw1⟩ : ∃ w1, w1 = w.alloc (.cells #[.int .i64 K, .int .i64 I, .int .i64 G] 37) := ⟨_, rfl⟩
  have hb1 : Below w.heap.size w w1 := by rw [hw1]; exact (Below.refl _ _).alloc (Nat.le_refl _) _
  have Y1 : Whole w1 w.heap.size 37 #[.int .i64 K, .int .i64 I, .int .i64 G] := by rw [hw1]; exact Whole.fresh _ _ _
  have hpw : J.R.p < w.heap.size := h.win.2.1.2
  replace h := h.below hb1
  have HW1 := Lib.hid hw1
  have HB1 := Lib.hid hb1
  have HY1 := Lib.hid Y1
  clear hw1 hb1 Y1
  have CW := rword2_any h a p true ha hwl
  have hai := plA_i64 (q := q) (wd := wc) (a := a) (p := p) (r := true) h.rf.C2 h.rf.K2
  have eE : IM.tiE q wc a p K I G = if IM.plE q wc a p true = 0 then (if HM.wE K I G = 0 then IM.adE q (a + 1 + p) else 2) else IM.plE q wc a p true := rfl
  have eV : IM.tiW q wc a p K I G = if IM.tiE q wc a p K I G = 0 then IM.upd wc (a + 1 + p).toNat (HM.wW K I G).toNat else wc := rfl
  have eA : IM.plA q wc a p true = if IM.plE q wc a p true = 0 then a + 1 + p else 0 := rfl
  obtain ⟨y, hy⟩ : ∃ y, y = IM.plA q wc a p true := ⟨_, rfl⟩
  obtain ⟨pe, hpe⟩ : ∃ x, x = IM.plE q wc a p true := ⟨_, rfl⟩
  rw [← hy, ← hpe] at CW
  rw [← hy] at hai
  rw [← hpe] at eE
  rw [← hy, ← hpe] at eA
  have HC := Lib.hid CW
  have HD := Lib.hid h
  have hjm := h.box.lt
  have hws : w.heap.size < w1.heap.size := HY1.out.lt
  by_cases hz : pe = 0
  · subst hz
    rw [if_pos rfl] at eE eA
    rw [← eA] at eE eV
    have CR := Lib.hid (fun (W : World) (hb : Below w1.heap.size w1 W) => rat_any (h.below hb).rf y (by unfold I64 at hai; exact hai))
    clear CW hai hy hpe eA h hwl
    by_cases hl : HM.wE K I G = 0
    · rw [if_pos hl] at eE
      obtain ⟨hlm, hlw⟩ := HM.wE_ok hl
      rw [hlw] at eV
      have CM := Lib.hid (fun W => rmayLink_any K I G W)
      have CO := Lib.hid (fun W => rword_any K I G hlm W)
      rw [hlm] at CM
      obtain ⟨x, hx⟩ := Int.eq_ofNat_of_zero_le (HM.lword_lt hlm).1
      rw [hx] at CO eV
      rw [Int.toNat_natCast] at eV
      clear hlm hlw hx hl
      by_cases hz2 : IM.adE q y = 0
      · have hv : IM.tiW q wc a p K I G = IM.upd wc y.toNat x := by rw [eV, eE, if_pos hz2]
        rw [hv, eE, hz2]
        have hz3 : addrE q.own q.C q.K y = 0 := hz2
        obtain ⟨j, rfl, hj, hjo⟩ := addrE_ok hz3
        rw [Int.toNat_natCast]
        rw [hz3] at CR
        clear eE eV hv hz2 hz3
        go_enter Tryz.func32, Tryz.ntmps32
        go_upto_region 1 with fail
        rw [← HW1.out]
        go_wp2_with fail
        refine HC.out.mono ?_
        rintro e w2 ⟨rfl, hb2⟩
        obtain ⟨y0, y1, y2⟩ := (HY1.out.below hb2 HY1.out.lt).cells3
        have hjm2 := Nat.lt_of_lt_of_le hjm hb2.size
        have hws2 := Nat.lt_of_lt_of_le hws hb2.size
        have HB2 := Lib.hid hb2
        clear hb2 HC
        go_wp2_with fail
        refine (CM.out w2).mono ?_
        rintro e w3 ⟨rfl, hw3⟩
        have hb3 : Below w1.heap.size w1 w3 := HB2.out.trans (by rw [← hw3]; exact ((Below.refl _ _).alloc (Nat.le_refl _) _).mono HB2.out.size)
        have hd3 := HD.out.below hb3
        have hs3 : w2.heap.size < w3.heap.size := by rw [← hw3]; simp
        have j0 : w3.cell? ⟨J.m, 0, none⟩ = some (.pointer (some ⟨J.R.m, 0, none⟩)) := hd3.box.cell 0
        have k0 : w3.cell? ⟨J.R.m, 0, none⟩ = some (.slice (some ⟨J.R.p, 0, none⟩) (q.C * q.K) (q.C * q.K)) := hd3.rf.words
        have k2 : w3.frozen? ⟨J.R.p, j, none⟩ = false := hd3.rf.wrow.thaw j hj
        obtain ⟨y0, y1, y2⟩ := (HY1.out.below hb3 HY1.out.lt).cells3
        have C2 := Lib.hid (CR.out w3 hb3)
        have HB3 := Lib.hid hb3
        have HD3 := Lib.hid hd3
        clear hb3 hd3 HD CR CM HB2 hw3
        go_wp2_with fail
        refine C2.out.mono ?_
        rintro e w4 ⟨rfl, rfl⟩
        go_upto_region 9 with fail
        have hnR := HD3.out.rf.ne.1
        have hnm := HD3.out.mp
        have hnw : w.heap.size ≠ J.R.p := by omega
        have hmR : J.R.m < w3.heap.size := HD3.out.win.1.2
        have hpR : J.R.p < w3.heap.size := HD3.out.win.2.1.2
        have hjm3 : J.m < w3.heap.size := HD3.out.box.lt
        have hws3 : w.heap.size < w3.heap.size := by omega
        have HCE := Lib.hid (show ∀ W : World, Below w3.heap.size w3 W → W.cell? ⟨J.m, 0, none⟩ = some (.pointer (some ⟨J.R.m, 0, none⟩)) ∧ W.cell? ⟨J.R.m, 0, none⟩ = some (.slice (some ⟨J.R.p, 0, none⟩) (q.C * q.K) (q.C * q.K)) ∧ W.cell? ⟨w.heap.size, 0, none⟩ = some (.int .i64 K) ∧ W.cell? ⟨w.heap.size, 1, none⟩ = some (.int .i64 I) ∧ W.cell? ⟨w.heap.size, 2, none⟩ = some (.int .i64 G) ∧ W.frozen? ⟨J.R.p, j, none⟩ = false from fun W hb =>
          ⟨(hb.cell (p := ⟨J.m, 0, none⟩) hjm3).trans j0, (hb.cell (p := ⟨J.R.m, 0, none⟩) hmR).trans k0, (hb.cell (p := ⟨w.heap.size, 0, none⟩) hws3).trans y0, (hb.cell (p := ⟨w.heap.size, 1, none⟩) hws3).trans y1, (hb.cell (p := ⟨w.heap.size, 2, none⟩) hws3).trans y2, (hb.frozen (p := ⟨J.R.p, j, none⟩) hpR).trans k2⟩)
        have HJ := Lib.hid hj
        obtain ⟨M, hM⟩ : ∃ M, M = q.C * q.K := ⟨_, rfl⟩
        rw [← hM] at k0 HCE hj
        clear hM
        go_region_held3 (fun w' => w'.cell? ⟨J.m, 0, none⟩ = some (.pointer (some ⟨J.R.m, 0, none⟩)) ∧ w'.cell? ⟨J.R.m, 0, none⟩ = some (.slice (some ⟨J.R.p, 0, none⟩) M M) ∧ w'.cell? ⟨w.heap.size, 0, none⟩ = some (.int .i64 K) ∧ w'.cell? ⟨w.heap.size, 1, none⟩ = some (.int .i64 I) ∧ w'.cell? ⟨w.heap.size, 2, none⟩ = some (.int .i64 G) ∧ w'.frozen? ⟨J.R.p, j, none⟩ = false)
          (first | (with_reducible exact HX2) | (with_reducible exact ⟨g0, g1, g2, g3, g4, g5⟩) | (with_reducible exact ⟨j0, k0, y0, y1, y2, k2⟩) | exact ⟨j0, k0, y0, y1, y2, k2⟩ | fail)
          (first | (go_at_call 64; (with_reducible refine (CO.out _).mono ?_); rintro e w5 ⟨rfl, hw5⟩; have hb5 : Below w3.heap.size w3 w5 := (by rw [← hw5]; exact (Below.refl _ _).drew.alloc (Nat.le_refl _) _); have HX := HCE.out _ hb5; have HX1 := (HD3.out.below hb5).rf.wrow.cell j HJ.out; have HXX := HX; obtain ⟨g0, g1, g2, g3, g4, g5⟩ := HX; have HX2 := six_set HXX hnm hnR hnw (.int .u64 (x : Nat)); have HB5 := Lib.hid hb5; clear hw5 hb5))
        go_wp2_with fail
        go_ret
        exact ⟨rfl, (Aft.of_below (HB1.out.trans (HB3.out.trans ((HB5.out.mono HB3.out.size)) |>.mono HB1.out.size))).setCell (by simp) _ _, (HD3.out.below HB5.out).rf.wrote j x⟩
      · have hv : IM.tiW q wc a p K I G = wc := by rw [eV, eE, if_neg hz2]
        rw [hv, eE]
        obtain ⟨ae, hae⟩ : ∃ y', y' = IM.adE q y := ⟨_, rfl⟩
        have hae2 : addrE q.own q.C q.K y = ae := hae.symm
        rw [hae2] at CR
        rw [← hae] at hz2 ⊢
        have d : (ae == 0) = false := by simpa using hz2
        clear eE eV hv hae hae2 CO
        go_enter Tryz.func32, Tryz.ntmps32
        go_upto_region 1 with fail
        rw [← HW1.out]
        go_wp2_with fail
        refine HC.out.mono ?_
        rintro e w2 ⟨rfl, hb2⟩
        obtain ⟨y0, y1, y2⟩ := (HY1.out.below hb2 HY1.out.lt).cells3
        have HB2 := Lib.hid hb2
        clear hb2 HC
        go_wp2_with fail
        refine (CM.out w2).mono ?_
        rintro e w3 ⟨rfl, hw3⟩
        have hb3 : Below w1.heap.size w1 w3 := HB2.out.trans (by rw [← hw3]; exact ((Below.refl _ _).alloc (Nat.le_refl _) _).mono HB2.out.size)
        have hd3 := HD.out.below hb3
        have j0 : w3.cell? ⟨J.m, 0, none⟩ = some (.pointer (some ⟨J.R.m, 0, none⟩)) := hd3.box.cell 0
        have C2 := Lib.hid (CR.out w3 hb3)
        have HB3 := Lib.hid hb3
        have HD3 := Lib.hid hd3
        clear hb3 hd3 HD CR CM HB2 hw3
        go_wp2_with fail
        refine C2.out.mono ?_
        rintro e w4 ⟨rfl, rfl⟩
        go_wp2_with fail
        go_ret
        exact ⟨rfl, Aft.of_below (HB1.out.trans (HB3.out.mono HB1.out.size)), HD3.out.rf⟩
    · rw [if_neg hl] at eE
      have hv : IM.tiW q wc a p K I G = wc := by rw [eV, eE]; rfl
      rw [hv, eE]
      have CM := Lib.hid (fun W => rmayLink_any K I G W)
      rw [HM.wE_no hl] at CM
      clear eE eV hv hl CR
      go_enter Tryz.func32, Tryz.ntmps32
      go_upto_region 1 with fail
      rw [← HW1.out]
      go_wp2_with fail
      refine HC.out.mono ?_
      rintro e w2 ⟨rfl, hb2⟩
      obtain ⟨y0, y1, y2⟩ := (HY1.out.below hb2 HY1.out.lt).cells3
      have HB2 := Lib.hid hb2
      clear hb2 HC
      go_wp2_with fail
      refine (CM.out w2).mono ?_
      rintro e w3 ⟨rfl, hw3⟩
      have hb3 : Below w1.heap.size w1 w3 := HB2.out.trans (by rw [← hw3]; exact ((Below.refl _ _).alloc (Nat.le_refl _) _).mono HB2.out.size)
      have HB3 := Lib.hid hb3
      clear hb3 CM HB2 hw3
      go_wp2_with fail
      go_ret
      exact ⟨rfl, Aft.of_below (HB1.out.trans (HB3.out.mono HB1.out.size)), (HD.out.below HB3.out).rf⟩
  · rw [if_neg hz] at eE
    have hv : IM.tiW q wc a p K I G = wc := by rw [eV, eE, if_neg hz]
    rw [hv, eE]
    have d : (pe != 0) = true := by simpa using hz
    clear CW hai hy hpe eA eE eV hv h hwl
    go_enter Tryz.func32, Tryz.ntmps32
    go_upto_region 1 with fail
    rw [← HW1.out]
    go_wp2_with fail
    refine HC.out.mono ?_
    rintro e w2 ⟨rfl, hb2⟩
    have HB2 := Lib.hid hb2
    clear hb2 HC
    go_wp2_with fail
    go_ret
    exact ⟨rfl, Aft.of_below (HB1.out.trans (HB2.out.mono HB1.out.size)), (HD.out.below HB2.out).rf⟩
end Go.Proofs.YteneadimchhhhaaGreatDoor
/- The document's images: Make. -/
namespace Go.Proofs.YteneadimchhhhaaGreatDoor
open Go.RowKit

theorem sz_bd (D : List LD) (L C : Int) (h : IM.szE D L C = 0) : 1 ≤ IM.szN D L C ∧ IM.szN D L C ≤ 8192 := by
  unfold IM.szN
  rw [if_pos h]
  unfold IM.szE at h
  cases hl : IM.lay D L with
  | none => rw [hl] at h; exact absurd h (show ¬ (6 : Int) = 0 by decide)
  | some l =>
    have := LM.size_bd l.F l.R l.xs l.ys C
    show 1 ≤ 1 + LM.size l.F l.R l.xs l.ys C ∧ 1 + LM.size l.F l.R l.xs l.ys C ≤ 8192
    omega
theorem zeroed_none (wd : Nat → Nat) (a : Nat) : zeroed wd a 0 = wd := by
  funext k
  unfold zeroed
  rw [if_neg (by omega)]
theorem zeroed_next (wd : Nat → Nat) (a j : Nat) : (fun q => if q = a + j then 0 else zeroed wd a j q) = zeroed wd a (j + 1) := by
  funext k
  unfold zeroed
  by_cases h : k = a + j
  · rw [if_pos h, if_pos (by omega)]
  · rw [if_neg h]
    by_cases h2 : a ≤ k ∧ k < a + j
    · rw [if_pos h2, if_pos (by omega)]
    · rw [if_neg h2, if_neg (by omega)]
theorem zeroed_laid (wd : Nat → Nat) (a n x : Nat) : (fun q => if q = a then x else zeroed wd a n q) = IM.laid wd a n x := by
  funext k
  unfold zeroed IM.laid
  by_cases h : k = a
  · rw [if_pos h, if_pos h]
  · rw [if_neg h, if_neg h]
    by_cases h2 : a < k ∧ k < a + n
    · rw [if_pos h2, if_pos (by omega)]
    · rw [if_neg h2, if_neg (by omega)]
theorem copy_self_out {own : Nat → Nat} {C K : Nat} {a n : Int} (h : ¬ inB (C * K) a n = true) : copyE own C K a a n = 3 := by
  unfold copyE
  rw [if_neg (fun k => h k.1)]
theorem copy_self_in {own : Nat → Nat} {C K i m : Nat} (h : i + m ≤ C * K) : copyE own C K i i m = if anyFree own K i m = true then 17 else 0 := by
  unfold copyE
  rw [if_pos ⟨(inB_iff _ _ _).2 (by omega), (inB_iff _ _ _).2 (by omega)⟩]
  simp
/-- Where the first loop is: so many words are in no free chunk. -/
def MkA (q : Cf) (i m : Nat) (v : Value) : Prop := ∃ j : Nat, j ≤ m ∧ v = .int .i64 j ∧ ∀ k, k < j → q.own ((i + k) / q.K) ≠ 0
/-- Where the second one is: so many words are 0. -/
def MkB (w3 : World) (J : DB) (q : Cf) (wc : Nat → Nat) (i m : Nat) (v : Value) (wr : World) : Prop := ∃ j : Nat, j ≤ m ∧ v = .int .i64 j ∧ RfAt wr J.R q.C q.K q.own (zeroed wc i j) ∧ Aft [J.R.p, J.R.q] w3 wr
/-- What a call that ends early leaves. -/
theorem da_same {v : Value} {J : DB} {q : Cf} {wd : Nat → Nat} {w w' : World} (h : DcAt w J q wd) (hb : Below w.heap.size w w') : DaPost v J q wd w (.returned v) w' := ⟨rfl, Aft.of_below hb, (h.below hb).rf⟩
set_option maxHeartbeats 2000000 in
theorem rmake_any {w : World} {J : DB} {q : Cf} {wc : Nat → Nat} (h : DcAt w J q wc) (a L C S : Int) (ha : I64 a) (hC : I64 C) :
    Calls Tryz.prog 27 #[.pointer (some ⟨J.m, 0, none⟩), .int .i64 a, .agg #[.int .i64 L, .int .i64 C, .int .i64 S]] w (DaPost (.tuple #[.int .i64 (IM.mkN q a L C S), .int .i64 (IM.mkE q a L C S)]) J q (IM.mkW q wc a L C S) w) := by
  obtain ⟨w1, hw1⟩ : ∃ w1, w1 = w.alloc (.cells #[.int .i64 L, .int .i64 C, .int .i64 S] 32) := ⟨_, rfl⟩
  have hb1 : Below w.heap.size w w1 := by rw [hw1]; exact (Below.refl _ _).alloc (Nat.le_refl _) _
  have Y1 : Whole w1 w.heap.size 32 #[.int .i64 L, .int .i64 C, .int .i64 S] := by rw [hw1]; exact Whole.fresh _ _ _
  obtain ⟨w2, hw2⟩ : ∃ w2, w1.alloc (.cells #[.int .i64 L, .int .i64 C, .int .i64 S] 32) = w2 := ⟨_, rfl⟩
  have hb2 : Below w1.heap.size w1 w2 := by rw [← hw2]; exact (Below.refl _ _).alloc (Nat.le_refl _) _
  have hb12 := hb1.trans (hb2.mono hb1.size)
  have CM := rmay_any L C S w1
  rw [hw2] at CM
  have hpw : J.R.p < w.heap.size := h.win.2.1.2
  have hpq : J.R.q < w.heap.size := h.win.2.2.2
  obtain ⟨y0, y1, y2⟩ := Y1.cells3
  have Y2 := Y1.below hb2 Y1.lt
  obtain ⟨z0, z1, z2⟩ := Y2.cells3
  have HW1 := Lib.hid hw1
  have HB12 := Lib.hid hb12
  have HB1 := Lib.hid hb1
  have HH := Lib.hid h
  have HY2 := Lib.hid Y2
  cases hm : HM.may L C S with
  | false =>
    have hE : IM.mkE q a L C S = 3 := by unfold IM.mkE HM.eE; rw [hm]; rfl
    have hN : IM.mkN q a L C S = 0 := by unfold IM.mkN; rw [hE]; rfl
    have hV : IM.mkW q wc a L C S = wc := by unfold IM.mkW; rw [hE]; rfl
    rw [hE, hN, hV]
    rw [hm] at CM
    have HM := Lib.hid CM
    clear hE hN hV CM hw1 hw2 hb1 hb2 hb12 Y1 Y2 hm h
    go_enter Tryz.func27, Tryz.ntmps27
    go_upto_region 1 with fail
    rw [← HW1.out]
    go_wp2_with fail
    refine HM.out.mono ?_
    rintro e w3 ⟨rfl, rfl⟩
    go_wp2_with fail
    go_ret2
    exact da_same HH.out HB12.out
  | true =>
    rw [hm] at CM
    have hL : 1 ≤ L := ((HM.may_iff _ _ _).1 hm).1
    have he : HM.eE L C S = 0 := by unfold HM.eE; rw [if_pos hm]
    have CZ := rsize_any (h.below hb12) L C S hL hC
    by_cases hz : IM.szE q.D L C = 0
    · obtain ⟨hn1, hn2⟩ := sz_bd q.D L C hz
      have hE : IM.mkE q a L C S = copyE q.own q.C q.K a a (IM.szN q.D L C) := by unfold IM.mkE; rw [if_pos he, if_pos hz]
      have hN : IM.mkN q a L C S = if copyE q.own q.C q.K a a (IM.szN q.D L C) = 0 then IM.szN q.D L C else 0 := by unfold IM.mkN; rw [hE]
      have hV : IM.mkW q wc a L C S = if copyE q.own q.C q.K a a (IM.szN q.D L C) = 0 then IM.laid wc a.toNat (IM.szN q.D L C).toNat (HM.eW L C S).toNat else wc := by unfold IM.mkW; rw [hE]
      rw [hE, hN, hV]
      rw [hz] at CZ
      have HCM := Lib.hid CM
      have HCZ := Lib.hid CZ
      have CO := Lib.hid (fun W => rencode_any L C S hm W)
      have heW : HM.eW L C S = HM.word L C S := by unfold HM.eW; rw [if_pos hm]
      rw [heW]
      obtain ⟨x, hx⟩ := Int.eq_ofNat_of_zero_le (HM.word_lt hm).1
      rw [hx] at CO ⊢
      rw [Int.toNat_natCast]
      have hM := h.rf.all
      have hj0 := (h.below hb12).box.cell 0
      change w2.cell? ⟨J.m, 0, none⟩ = some (.pointer (some ⟨J.R.m, 0, none⟩)) at hj0
      have hk0 : w2.cell? ⟨J.R.m, 0, none⟩ = some (.slice (some ⟨J.R.p, 0, none⟩) (q.C * q.K) (q.C * q.K)) := (h.below hb12).rf.words
      generalize IM.szN q.D L C = n at *
      obtain ⟨m, rfl⟩ := Int.eq_ofNat_of_zero_le (show 0 ≤ n by omega)
      clear hE hN hV CM CZ hw1 hw2 hb1 hb2 hb12 Y1 Y2 hm h he hz heW hx hL
      by_cases hin : inB (q.C * q.K) a m = true
      · have hin2 := (inB_iff _ _ _).1 hin
        obtain ⟨i, rfl⟩ := Int.eq_ofNat_of_zero_le hin2.2.1
        have him : i + m ≤ q.C * q.K := by omega
        rw [copy_self_in him]
        obtain ⟨er, her⟩ : ∃ z : Int, z = (if anyFree q.own q.K i m = true then 17 else 0) := ⟨_, rfl⟩
        rw [← her]
        obtain ⟨nn, hnn⟩ : ∃ z : Int, z = (if er = 0 then (m : Int) else 0) := ⟨_, rfl⟩
        rw [← hnn]
        obtain ⟨wd2, hwd2⟩ : ∃ f : Nat → Nat, f = (if er = 0 then IM.laid wc i m x else wc) := ⟨_, rfl⟩
        rw [Int.toNat_natCast, Int.toNat_natCast, ← hwd2]
        have HER := Lib.hid her
        have HNN := Lib.hid hnn
        have HWD := Lib.hid hwd2
        have HCO := CO
        have him2 : (i : Int) + m ≤ 1048576 := by omega
        have HIM := Lib.hid him
        obtain ⟨M, hM2⟩ : ∃ M, M = q.C * q.K := ⟨_, rfl⟩
        rw [← hM2] at hM hk0 hin2 him
        have d0 : decide ((i : Int) < 0) = false := by simp
        have d1 : decide ((M : Int) < (i : Int)) = false := by simp; omega
        have d2 : decide ((M : Int) - (i : Int) < (m : Int)) = false := by simp; omega
        have d1n : decide (M < i) = false := by simp; omega
        have CA := Lib.hid (fun (W : World) (hb : Below w.heap.size w W) (j : Nat) (hj : j < m) => (show Calls Tryz.prog 35 #[.pointer (some ⟨J.R.m, 0, none⟩), .int .i64 ((i : Int) + (j : Int))] W fun e w' => e = .returned (.int .i64 (if q.own ((i + j) / q.K) = 0 then 17 else 0)) ∧ W = w' from by
          have := rat_any (HH.out.below hb).rf ((i : Int) + (j : Int)) (by omega)
          rw [show (i : Int) + (j : Int) = ((i + j : Nat) : Int) by simp, addrE_in (by have := HIM.out; omega)] at this
          rw [show (i : Int) + (j : Int) = ((i + j : Nat) : Int) by simp]
          exact this))
        have HM2 := Lib.hid hM2
        clear hin2 hM2 CO her hnn hwd2 hin
        go_enter Tryz.func27, Tryz.ntmps27
        go_upto_region 1 with fail
        rw [← HW1.out]
        go_wp2_with fail
        refine HCM.out.mono ?_
        rintro e w3 ⟨rfl, rfl⟩
        go_wp2_with fail
        refine HCZ.out.mono ?_
        rintro e w3 ⟨rfl, hb3⟩
        have hb4 := HB12.out.trans (hb3.mono HB12.out.size)
        have hj1 : w3.cell? ⟨J.m, 0, none⟩ = some (.pointer (some ⟨J.R.m, 0, none⟩)) := (HH.out.below hb4).box.cell 0
        have hmR : J.R.m < w2.heap.size := Nat.lt_of_lt_of_le HH.out.win.1.2 HB12.out.size
        have hk1 := (hb3.cell (p := ⟨J.R.m, 0, none⟩) hmR).trans hk0
        have HB4 := Lib.hid hb4
        have HY3 := Lib.hid (HY2.out.below hb3 HY2.out.lt)
        clear hb3 hb4 HCM HCZ hj0 hk0 y0 y1 y2 z0 z1 z2
        go_wp2_with fail
        go_loop [11] (MkA q i m) (fun v => m - (intOf v).toNat)
        case atStart => exact ⟨0, Nat.zero_le _, rfl, fun k hk => absurd hk (by omega)⟩
        case round =>
          obtain ⟨j, hj, rfl, hall⟩ := hrel
          have HALL := Lib.hid hall
          clear hall
          by_cases hlt : j < m
          · have C2 := CA.out w3 HB4.out j hlt
            by_cases ho : q.own ((i + j) / q.K) = 0
            · rw [if_pos ho] at C2
              have HC2 := Lib.hid C2
              have hany : anyFree q.own q.K i m = true := by
                unfold anyFree
                rw [List.any_eq_true]
                exact ⟨j, List.mem_range.2 hlt, by simpa using ho⟩
              have HE := Lib.hid (show er = 17 by rw [HER.out, if_pos hany])
              clear C2 ho hany
              go_wp2_with fail
              refine HC2.out.mono ?_
              rintro e w4 ⟨rfl, rfl⟩
              go_wp2_with fail
              go_ret2
              exact ⟨by rw [HNN.out, HE.out]; rfl, Aft.of_below HB4.out, by rw [HWD.out, HE.out]; exact (HH.out.below HB4.out).rf⟩
            · rw [if_neg ho] at C2
              have HC2 := Lib.hid C2
              have HO := Lib.hid ho
              clear C2 ho
              go_wp2_with fail
              refine HC2.out.mono ?_
              rintro e w4 ⟨rfl, rfl⟩
              go_wp2_with fail
              go_round
              case rel => exact ⟨j + 1, by omega, by go_num, fun k hk => by
                by_cases e : k = j
                · subst e; exact HO.out
                · exact HALL.out k (by omega)⟩
              case measure => simp [intOf]; omega
          · obtain rfl : j = m := by omega
            have hany : ¬ anyFree q.own q.K i j = true := by
              rw [(anyFree_not q.own q.K i j).2 fun k hk => HALL.out k hk]
              decide
            have HE := Lib.hid (show er = 0 by rw [HER.out, if_neg hany])
            clear hany hlt
            go_wp2_with fail
            go_loopw [13] (MkB w3 J q wc i j) (fun v _ => j - (intOf v).toNat)
            case atStart => exact ⟨0, Nat.zero_le _, rfl, by rw [zeroed_none]; exact (HH.out.below HB4.out).rf, Aft.refl _ _⟩
            case round =>
              obtain ⟨k, hk, rfl, hr, haf⟩ := hrel
              have hsz := HB4.out.size
              have hjm := HH.out.box.lt
              have hmp := HH.out.mp
              have hmq : J.m ≠ J.R.q := fun e => by
                have h1 : w.cell? ⟨J.m, 0, none⟩ = some (.pointer (some ⟨J.R.m, 0, none⟩)) := HH.out.box.cell 0
                have h2 := HH.out.rf.orow.cell 0 HH.out.rf.C1
                rw [e, h2] at h1
                cases h1
              have j0 : wr.cell? ⟨J.m, 0, none⟩ = some (.pointer (some ⟨J.R.m, 0, none⟩)) := (haf.cell (p := ⟨J.m, 0, none⟩) (by show J.m < _; omega) (by simp; exact ⟨hmp, hmq⟩)).trans hj1
              have k0 : wr.cell? ⟨J.R.m, 0, none⟩ = some (.slice (some ⟨J.R.p, 0, none⟩) M M) := by have := hr.words; rw [← HM2.out] at this; exact this
              by_cases hlt : k < j
              · have hik : i + k < q.C * q.K := by have := HIM.out; omega
                have k1 : wr.cell? ⟨J.R.p, i + k, none⟩ = some (.int .u64 (zeroed wc i k (i + k) : Nat)) := hr.wrow.cell (i + k) hik
                have k2 := hr.wrow.thaw (i + k) hik
                have hr2 := hr.wrote (i + k) 0
                rw [zeroed_next] at hr2
                have HR2 := Lib.hid hr2
                have HA2 := Lib.hid (haf.setCell (c := J.R.p) (by simp) (i + k) (.int .u64 0))
                clear hr haf hr2 hik
                go_wp2_with fail
                go_roundw
                case rel => exact ⟨k + 1, by omega, by go_num, HR2.out, HA2.out⟩
                case measure => simp [intOf]; omega
              · obtain rfl : k = j := by omega
                have hk1' : 1 ≤ k := by omega
                have hik : i < q.C * q.K := by have := HIM.out; omega
                have hiM : i < M := by omega
                have hYr := haf.whole HY3.out (by simp; omega)
                obtain ⟨y0, y1, y2⟩ := hYr.cells3
                have k2 : wr.frozen? ⟨J.R.p, i, none⟩ = false := hr.wrow.thaw i hik
                have hnR := hr.ne.1
                have hnw : w.heap.size ≠ J.R.p := by omega
                have hjmr : J.m < wr.heap.size := by have := haf.size; omega
                have hmRr : J.R.m < wr.heap.size := by have := haf.size; have := HH.out.win.1.2; omega
                have hpRr : J.R.p < wr.heap.size := by have := haf.size; omega
                have hwsr : w.heap.size < wr.heap.size := hYr.lt
                have HCE := Lib.hid (show ∀ W : World, Below wr.heap.size wr W → W.cell? ⟨J.m, 0, none⟩ = some (.pointer (some ⟨J.R.m, 0, none⟩)) ∧ W.cell? ⟨J.R.m, 0, none⟩ = some (.slice (some ⟨J.R.p, 0, none⟩) M M) ∧ W.cell? ⟨w.heap.size, 0, none⟩ = some (.int .i64 L) ∧ W.cell? ⟨w.heap.size, 1, none⟩ = some (.int .i64 C) ∧ W.cell? ⟨w.heap.size, 2, none⟩ = some (.int .i64 S) ∧ W.frozen? ⟨J.R.p, i, none⟩ = false from fun W hb =>
                  ⟨(hb.cell (p := ⟨J.m, 0, none⟩) hjmr).trans j0, (hb.cell (p := ⟨J.R.m, 0, none⟩) hmRr).trans k0, (hb.cell (p := ⟨w.heap.size, 0, none⟩) hwsr).trans y0, (hb.cell (p := ⟨w.heap.size, 1, none⟩) hwsr).trans y1, (hb.cell (p := ⟨w.heap.size, 2, none⟩) hwsr).trans y2, (hb.frozen (p := ⟨J.R.p, i, none⟩) hpRr).trans k2⟩)
                have HRB := Lib.hid (fun (W : World) (hb : Below wr.heap.size wr W) => hr.below (lo := 0) hb ⟨⟨Nat.zero_le _, hmRr⟩, ⟨Nat.zero_le _, hpRr⟩, ⟨Nat.zero_le _, by have := haf.size; omega⟩⟩)
                have HA2 := Lib.hid (Aft.trans (Aft.of_below HB4.out) haf)
                have HIK := Lib.hid hik
                clear hr haf hYr hik CA
                go_upto_region 19 with fail
                go_region_held3 (fun w' => w'.cell? ⟨J.m, 0, none⟩ = some (.pointer (some ⟨J.R.m, 0, none⟩)) ∧ w'.cell? ⟨J.R.m, 0, none⟩ = some (.slice (some ⟨J.R.p, 0, none⟩) M M) ∧ w'.cell? ⟨w.heap.size, 0, none⟩ = some (.int .i64 L) ∧ w'.cell? ⟨w.heap.size, 1, none⟩ = some (.int .i64 C) ∧ w'.cell? ⟨w.heap.size, 2, none⟩ = some (.int .i64 S) ∧ w'.frozen? ⟨J.R.p, i, none⟩ = false)
                  (first | (with_reducible exact HX2) | (with_reducible exact ⟨g0, g1, g2, g3, g4, g5⟩) | (with_reducible exact ⟨j0, k0, y0, y1, y2, k2⟩) | exact ⟨j0, k0, y0, y1, y2, k2⟩ | fail)
                  (first | (go_at_call 59; (with_reducible refine (HCO.out _).mono ?_); rintro e w5 ⟨rfl, hw5⟩; have hb5 : Below wr.heap.size wr w5 := (by rw [← hw5]; exact (Below.refl _ _).drew.alloc (Nat.le_refl _) _); have HXX := HCE.out _ hb5; obtain ⟨g0, g1, g2, g3, g4, g5⟩ := HXX; have HXX := HCE.out _ hb5; have HX1 := (HRB.out _ hb5).wrow.cell i HIK.out; have HX2 := six_set HXX hmp hnR hnw (.int .u64 (x : Nat)); have HB5 := Lib.hid hb5; clear hw5 hb5))
                go_wp2_with fail
                go_ret2
                exact ⟨by rw [HNN.out, HE.out]; rfl, (HA2.out.trans (Aft.of_below HB5.out)).setCell (by simp) _ _, by rw [HWD.out, HE.out, if_pos rfl, ← zeroed_laid]; exact (HRB.out _ HB5.out).wrote i x⟩
      · rw [copy_self_out hin]
        rw [inB_iff] at hin
        have hneg : ¬ (0 ≤ a ∧ a ≤ (q.C * q.K : Nat) ∧ (m : Int) ≤ (q.C * q.K : Nat) - a) := fun k => hin ⟨by omega, k.1, k.2.1, k.2.2⟩
        have HCO := CO
        obtain ⟨M, hM2⟩ : ∃ M, M = q.C * q.K := ⟨_, rfl⟩
        rw [← hM2] at hM hk0 hneg
        clear hin hM2 CO
        have hways : (decide (a < 0) = true) ∨ (decide (a < 0) = false ∧ decide ((M : Int) < a) = true) ∨ (0 ≤ a ∧ decide (a < 0) = false ∧ a ≤ M ∧ decide ((M : Int) < a) = false ∧ decide ((M : Int) - a < (m : Int)) = true) := by
          by_cases h0 : a < 0
          · exact .inl (by simpa using h0)
          · by_cases h1 : (M : Int) < a
            · exact .inr (.inl ⟨by simpa using h0, by simpa using h1⟩)
            · exact .inr (.inr ⟨by omega, by simpa using h0, by omega, by simpa using h1, by simp; omega⟩)
        clear hneg
        rcases hways with d0 | ⟨d0, d1⟩ | ⟨a0, d0, a1, d1, d2⟩
        all_goals
          go_enter Tryz.func27, Tryz.ntmps27
          go_upto_region 1 with fail
          rw [← HW1.out]
          go_wp2_with fail
          refine HCM.out.mono ?_
          rintro e w3 ⟨rfl, rfl⟩
          go_wp2_with fail
          refine HCZ.out.mono ?_
          rintro e w3 ⟨rfl, hb3⟩
          have hb4 := HB12.out.trans (hb3.mono HB12.out.size)
          have hj1 : w3.cell? ⟨J.m, 0, none⟩ = some (.pointer (some ⟨J.R.m, 0, none⟩)) := (HH.out.below hb4).box.cell 0
          have hmR : J.R.m < w2.heap.size := Nat.lt_of_lt_of_le HH.out.win.1.2 HB12.out.size
          have hk1 := (hb3.cell (p := ⟨J.R.m, 0, none⟩) hmR).trans hk0
          have HB4 := Lib.hid hb4
          clear hb3 hb4
          go_wp2_with fail
          go_ret2
          exact da_same HH.out HB4.out
    · have hE : IM.mkE q a L C S = IM.szE q.D L C := by unfold IM.mkE; rw [if_pos he, if_neg hz]
      have hN : IM.mkN q a L C S = 0 := by unfold IM.mkN; rw [hE, if_neg hz]
      have hV : IM.mkW q wc a L C S = wc := by unfold IM.mkW; rw [hE, if_neg hz]
      rw [hE, hN, hV]
      generalize IM.szE q.D L C = er at *
      generalize IM.szN q.D L C = n at *
      have hd : (er != 0) = true := by simpa using hz
      have HCM := Lib.hid CM
      have HCZ := Lib.hid CZ
      clear hE hN hV CM CZ hw1 hw2 hb1 hb2 hb12 Y1 Y2 hm h he hz
      go_enter Tryz.func27, Tryz.ntmps27
      go_upto_region 1 with fail
      rw [← HW1.out]
      go_wp2_with fail
      refine HCM.out.mono ?_
      rintro e w3 ⟨rfl, rfl⟩
      go_wp2_with fail
      refine HCZ.out.mono ?_
      rintro e w3 ⟨rfl, hb3⟩
      go_wp2_with fail
      go_ret2
      exact da_same HH.out (HB12.out.trans (hb3.mono HB12.out.size))
end Go.Proofs.YteneadimchhhhaaGreatDoor
/- The document's images: Move. -/
namespace Go.Proofs.YteneadimchhhhaaGreatDoor
open Go.RowKit

set_option maxHeartbeats 1000000 in
theorem rmove_any {w : World} {J : DB} {q : Cf} {wc : Nat → Nat} (h : DcAt w J q wc) (t f : Int) (hf : I64 f) (hwl : ∀ k, wc k < 18446744073709551616) :
    Calls Tryz.prog 34 #[.pointer (some ⟨J.m, 0, none⟩), .int .i64 t, .int .i64 f] w (DwPost (.tuple #[.int .i64 (IM.mvN q wc t f), .int .i64 (IM.mvE q wc t f)]) J q (IM.mvW q wc t f) w) := by
  have CA := rimat_any h f hf hwl
  have CR : ∀ W, Below w.heap.size w W → Calls Tryz.prog 65 #[.pointer (some ⟨J.R.m, 0, none⟩), .int .i64 t, .int .i64 f, .int .i64 (IM.atN q wc f)] W (RfPost (.int .i64 (copyE q.own q.C q.K t f (IM.atN q wc f))) J.R q.C q.K q.own (cpWdA q.own wc q.C q.K t f (IM.atN q wc f)) W) := fun W hb => rcopy_all (h.below hb).rf t f (IM.atN q wc f) (h.below hb).win
  have eE : IM.mvE q wc t f = if IM.atE q wc f = 0 then copyE q.own q.C q.K t f (IM.atN q wc f) else IM.atE q wc f := rfl
  have eN : IM.mvN q wc t f = if IM.mvE q wc t f = 0 then IM.atN q wc f else 0 := rfl
  have eV : IM.mvW q wc t f = if IM.mvE q wc t f = 0 then cpWd wc t.toNat f.toNat (IM.atN q wc f).toNat else wc := rfl
  have eC : cpWdA q.own wc q.C q.K t f (IM.atN q wc f) = if copyE q.own q.C q.K t f (IM.atN q wc f) = 0 then cpWd wc t.toNat f.toNat (IM.atN q wc f).toNat else wc := rfl
  have HD := Lib.hid h
  by_cases hz : IM.atE q wc f = 0
  · rw [if_pos hz] at eE
    rw [eE, ← eC] at eV
    rw [eE] at eN
    rw [eE, eN, eV]
    rw [hz] at CA
    clear hz eE eN eV eC h hwl
    generalize IM.atL q wc f = l1 at *
    generalize IM.atC q wc f = l2 at *
    generalize IM.atS q wc f = l3 at *
    generalize IM.atN q wc f = n at *
    generalize cpWdA q.own wc q.C q.K t f n = wd2 at *
    generalize copyE q.own q.C q.K t f n = er at *
    obtain ⟨nn, hnn⟩ : ∃ z : Int, z = (if er = 0 then n else 0) := ⟨_, rfl⟩
    rw [← hnn]
    have HN := Lib.hid hnn
    have HA := Lib.hid CA
    have HR := Lib.hid CR
    clear CA CR hnn
    go_enter Tryz.func34, Tryz.ntmps34
    go_wp2_with fail
    refine HA.out.mono ?_
    rintro e w2 ⟨rfl, hb2⟩
    obtain ⟨w3, hw3⟩ : ∃ w3, w3 = w2.alloc (.cells #[.int .i64 l1, .int .i64 l2, .int .i64 l3] 32) := ⟨_, rfl⟩
    have hb3 : Below w.heap.size w w3 := by rw [hw3]; exact hb2.alloc hb2.size _
    have j0 : w3.cell? ⟨J.m, 0, none⟩ = some (.pointer (some ⟨J.R.m, 0, none⟩)) := (HD.out.below hb3).box.cell 0
    have C2 := Lib.hid (HR.out w3 hb3)
    have HW3 := Lib.hid hw3
    have HB3 := Lib.hid hb3
    clear hw3 hb2 hb3 HR HA HD
    go_upto_region 2 with fail
    rw [← HW3.out]
    go_wp2_with fail
    refine C2.out.mono ?_
    rintro e w4 ⟨rfl, w5, hb5, ho, hr⟩
    have HP := Lib.hid (And.intro (HB3.out.trans (hb5.mono HB3.out.size)) (And.intro ho hr))
    clear hb5 ho hr
    by_cases he : er = 0
    · subst he
      go_wp2_with fail
      go_ret2
      exact ⟨by rw [HN.out]; rfl, _, HP.out.1, HP.out.2.1, HP.out.2.2⟩
    · have hd : (er != 0) = true := by simpa using he
      have HZ := Lib.hid (show nn = 0 from HN.out.trans (if_neg he))
      clear he
      go_wp2_with fail
      go_ret2
      exact ⟨by rw [HZ.out]; rfl, _, HP.out.1, HP.out.2.1, HP.out.2.2⟩
  · rw [if_neg hz] at eE
    rw [eE, if_neg hz] at eN eV
    rw [eE, eN, eV]
    clear eE eN eV eC h hwl CR
    generalize IM.atL q wc f = l1 at *
    generalize IM.atC q wc f = l2 at *
    generalize IM.atS q wc f = l3 at *
    generalize IM.atN q wc f = n at *
    generalize IM.atE q wc f = er at *
    have HA := Lib.hid CA
    have hd : (er != 0) = true := by simpa using hz
    clear CA hz
    go_enter Tryz.func34, Tryz.ntmps34
    go_wp2_with fail
    refine HA.out.mono ?_
    rintro e w2 ⟨rfl, hb2⟩
    have HB2 := Lib.hid hb2
    clear hb2
    go_wp2_with fail
    go_ret2
    have hb3 := HB2.out.alloc HB2.out.size (.cells #[.int .i64 l1, .int .i64 l2, .int .i64 l3] 32)
    exact ⟨rfl, _, hb3, OnlyIn.refl _ _, (HD.out.below hb3).rf⟩
end Go.Proofs.YteneadimchhhhaaGreatDoor
/- The document's images: Follow. -/
namespace Go.Proofs.YteneadimchhhhaaGreatDoor
open Go.RowKit

set_option maxHeartbeats 1000000 in
theorem rfollow_any {w : World} {J : DB} {q : Cf} {wc : Nat → Nat} (h : DcAt w J q wc) (a p : Int) (ha : I64 a) (hwl : ∀ k, wc k < 18446744073709551616) :
    Calls Tryz.prog 12 #[.pointer (some ⟨J.m, 0, none⟩), .int .i64 a, .int .i64 p] w (FolIs q wc a p w) := by
  obtain ⟨w1, hw1⟩ : ∃ w1, w1 = w.alloc (.cells #[.int .i64 0, .int .i64 0, .int .i64 0] 37) := ⟨_, rfl⟩
  have hb1 : Below w.heap.size w w1 := by rw [hw1]; exact (Below.refl _ _).alloc (Nat.le_refl _) _
  have Y1 : Whole w1 w.heap.size 37 #[.int .i64 0, .int .i64 0, .int .i64 0] := by rw [hw1]; exact Whole.fresh _ _ _
  replace h := h.below hb1
  have HW1 := Lib.hid hw1
  have HB1 := Lib.hid hb1
  have HY1 := Lib.hid Y1
  clear hw1 hb1 Y1
  have CW := rword2_any h a p true ha hwl
  have hai := plA_i64 (q := q) (wd := wc) (a := a) (p := p) (r := true) h.rf.C2 h.rf.K2
  have eE : IM.flE q wc a p = if IM.plE q wc a p true = 0 then (if IM.adE q (a + 1 + p) = 0 then HM.kE (IM.hd wc (a + 1 + p)) else IM.adE q (a + 1 + p)) else IM.plE q wc a p true := rfl
  have eK : IM.flK q wc a p = if IM.flE q wc a p = 0 then HM.kK (IM.hd wc (a + 1 + p)) else 0 := rfl
  have eI : IM.flI q wc a p = if IM.flE q wc a p = 0 then HM.kI (IM.hd wc (a + 1 + p)) else 0 := rfl
  have eG : IM.flG q wc a p = if IM.flE q wc a p = 0 then HM.kG (IM.hd wc (a + 1 + p)) else 0 := rfl
  have eA : IM.plA q wc a p true = if IM.plE q wc a p true = 0 then a + 1 + p else 0 := rfl
  unfold FolIs
  obtain ⟨y, hy⟩ : ∃ y, y = IM.plA q wc a p true := ⟨_, rfl⟩
  obtain ⟨pe, hpe⟩ : ∃ x, x = IM.plE q wc a p true := ⟨_, rfl⟩
  rw [← hy, ← hpe] at CW
  rw [← hy] at hai
  rw [← hpe] at eE
  rw [← hy, ← hpe] at eA
  have HC := Lib.hid CW
  have HD := Lib.hid h
  by_cases hz : pe = 0
  · subst hz
    rw [if_pos rfl] at eE eA
    rw [← eA] at eE eK eI eG
    have CR := Lib.hid (fun (W : World) (hb : Below w1.heap.size w1 W) => rat_any (h.below hb).rf y (by unfold I64 at hai; exact hai))
    have hw := hwl y.toNat
    clear CW hai hy hpe eA h hwl
    by_cases hz2 : IM.adE q y = 0
    · rw [if_pos hz2] at eE
      have hz3 : addrE q.own q.C q.K y = 0 := hz2
      obtain ⟨j, rfl, hj, hjo⟩ := addrE_ok hz3
      have hh : IM.hd wc ((j : Nat) : Int) = ((wc j : Nat) : Int) := by unfold IM.hd; rw [Int.toNat_natCast]
      rw [Int.toNat_natCast] at hw
      rw [hh] at eE eK eI eG
      rw [hz3] at CR
      have fK : IM.flK q wc a p = HM.kK ((wc j : Nat) : Int) ∧ IM.flI q wc a p = HM.kI ((wc j : Nat) : Int) ∧ IM.flG q wc a p = HM.kG ((wc j : Nat) : Int) := by
        by_cases he : IM.flE q wc a p = 0
        · rw [if_pos he] at eK eI eG
          exact ⟨eK, eI, eG⟩
        · rw [if_neg he] at eK eI eG
          rw [eE] at he
          obtain ⟨z1, z2, z3⟩ := k_zero he
          exact ⟨eK.trans z1.symm, eI.trans z2.symm, eG.trans z3.symm⟩
      rw [eE, fK.1, fK.2.1, fK.2.2]
      have hx : FM.Word ((wc j : Nat) : Int) := by unfold FM.Word; omega
      have CL := Lib.hid (fun W => rlink_any ((wc j : Nat) : Int) hx W)
      have hkc : HM.kE ((wc j : Nat) : Int) = 0 ∨ (HM.kE ((wc j : Nat) : Int) = 4 ∧ HM.kK ((wc j : Nat) : Int) = 0 ∧ HM.kI ((wc j : Nat) : Int) = 0 ∧ HM.kG ((wc j : Nat) : Int) = 0) := by
        by_cases he : HM.kE ((wc j : Nat) : Int) = 0
        · exact .inl he
        · refine .inr ⟨?_, k_zero he⟩
          unfold HM.kE at he ⊢
          split at he <;> simp_all
      obtain ⟨kk, hkk⟩ : ∃ x, x = HM.kK ((wc j : Nat) : Int) := ⟨_, rfl⟩
      obtain ⟨ki, hki⟩ : ∃ x, x = HM.kI ((wc j : Nat) : Int) := ⟨_, rfl⟩
      obtain ⟨kg, hkg⟩ : ∃ x, x = HM.kG ((wc j : Nat) : Int) := ⟨_, rfl⟩
      obtain ⟨ke, hke⟩ : ∃ x, x = HM.kE ((wc j : Nat) : Int) := ⟨_, rfl⟩
      rw [← hkk, ← hki, ← hkg, ← hke] at CL
      rw [← hkk, ← hki, ← hkg, ← hke] at hkc ⊢
      clear eE eK eI eG hz2 hz3 fK hkk hki hkg hke hh hx hw
      go_enter Tryz.func12, Tryz.ntmps12
      go_upto_region 1 with fail
      rw [← HW1.out]
      go_wp2_with fail
      refine HC.out.mono ?_
      rintro e w2 ⟨rfl, hb2⟩
      have hd2 := HD.out.below hb2
      have j0 : w2.cell? ⟨J.m, 0, none⟩ = some (.pointer (some ⟨J.R.m, 0, none⟩)) := hd2.box.cell 0
      have k0 : w2.cell? ⟨J.R.m, 0, none⟩ = some (.slice (some ⟨J.R.p, 0, none⟩) (q.C * q.K) (q.C * q.K)) := hd2.rf.words
      have k1 : w2.cell? ⟨J.R.p, j, none⟩ = some (.int .u64 (wc j : Nat)) := hd2.rf.wrow.cell j hj
      have C2 := Lib.hid (CR.out w2 hb2)
      have HB2 := Lib.hid hb2
      clear hb2 hd2 HC CR HD
      go_wp2_with fail
      refine C2.out.mono ?_
      rintro e w4 ⟨rfl, rfl⟩
      go_wp2_with fail
      refine (CL.out _).mono ?_
      rintro e w5 ⟨rfl, hb5⟩
      obtain ⟨w6, hw6⟩ : ∃ w6, w6 = w5.alloc (.cells #[.int .i64 kk, .int .i64 ki, .int .i64 kg] 37) := ⟨_, rfl⟩
      have hb6 : Below w2.heap.size w2 w6 := by rw [hw6]; exact hb5.alloc hb5.size _
      have hb16 := HB2.out.trans (hb6.mono HB2.out.size)
      have hO : Whole w6 w5.heap.size 37 #[.int .i64 kk, .int .i64 ki, .int .i64 kg] := by rw [hw6]; exact Whole.fresh _ _ _
      have hYz := HY1.out.below hb16 HY1.out.lt
      obtain ⟨y0, y1, y2⟩ := hYz.cells3
      obtain ⟨o0, o1, o2⟩ := hO.cells3
      have f0 := hYz.free 0
      have f1 := hYz.free 1
      have f2 := hYz.free 2
      have HW6 := Lib.hid hw6
      have HB6 := Lib.hid (HB1.out.trans (hb16.mono HB1.out.size))
      clear hYz hO hw6 hb6 hb5 hb16 CL C2 j0 k0 k1
      go_upto_region 8 with fail
      rw [← HW6.out]
      rcases hkc with rfl | ⟨rfl, rfl, rfl, rfl⟩
      · go_wp2_with fail
        refine bodyPost_ret (v := .tuple #[.agg #[.int .i64 kk, .int .i64 ki, .int .i64 kg], .int .i64 0]) (by simp [results, Tryz.results12, go_sem, y0, y1, y2]) rfl ⟨rfl, ?_⟩
        exact ((HB6.out.setCell (p := ⟨w.heap.size, 0, none⟩) (Nat.le_refl _) _).setCell (p := ⟨w.heap.size, 1, none⟩) (Nat.le_refl _) _).setCell (p := ⟨w.heap.size, 2, none⟩) (Nat.le_refl _) _
      · go_wp2_with fail
        refine bodyPost_ret (v := .tuple #[.agg #[.int .i64 0, .int .i64 0, .int .i64 0], .int .i64 4]) (by simp [results, Tryz.results12, go_sem, y0, y1, y2]) rfl ⟨rfl, ?_⟩
        exact ((HB6.out.setCell (p := ⟨w.heap.size, 0, none⟩) (Nat.le_refl _) _).setCell (p := ⟨w.heap.size, 1, none⟩) (Nat.le_refl _) _).setCell (p := ⟨w.heap.size, 2, none⟩) (Nat.le_refl _) _
    · rw [if_neg hz2] at eE
      have hne : IM.flE q wc a p ≠ 0 := by rw [eE]; exact hz2
      rw [if_neg hne] at eK eI eG
      rw [eE, eK, eI, eG]
      obtain ⟨ae, hae⟩ : ∃ y', y' = IM.adE q y := ⟨_, rfl⟩
      have hae2 : addrE q.own q.C q.K y = ae := hae.symm
      rw [hae2] at CR
      rw [← hae] at hz2 ⊢
      have d : (ae != 0) = true := by simpa using hz2
      clear eE eK eI eG hne hae hae2 hw
      go_enter Tryz.func12, Tryz.ntmps12
      go_upto_region 1 with fail
      rw [← HW1.out]
      go_wp2_with fail
      refine HC.out.mono ?_
      rintro e w2 ⟨rfl, hb2⟩
      have hd2 := HD.out.below hb2
      have j0 : w2.cell? ⟨J.m, 0, none⟩ = some (.pointer (some ⟨J.R.m, 0, none⟩)) := hd2.box.cell 0
      have C2 := Lib.hid (CR.out w2 hb2)
      have hYz := HY1.out.below hb2 HY1.out.lt
      obtain ⟨y0, y1, y2⟩ := hYz.cells3
      have f0 := hYz.free 0
      have f1 := hYz.free 1
      have f2 := hYz.free 2
      clear hYz
      have HBz := Lib.hid (HB1.out.trans (hb2.mono HB1.out.size))
      clear hb2 hd2 HC CR HD
      go_wp2_with fail
      refine C2.out.mono ?_
      rintro e w4 ⟨rfl, rfl⟩
      go_wp2_with fail
      refine bodyPost_ret (v := .tuple #[.agg #[.int .i64 0, .int .i64 0, .int .i64 0], .int .i64 ae]) (by simp [results, Tryz.results12, go_sem, y0, y1, y2]) rfl ⟨rfl, ?_⟩
      exact ((HBz.out.setCell (p := ⟨w.heap.size, 0, none⟩) (Nat.le_refl _) _).setCell (p := ⟨w.heap.size, 1, none⟩) (Nat.le_refl _) _).setCell (p := ⟨w.heap.size, 2, none⟩) (Nat.le_refl _) _
  · rw [if_neg hz] at eE
    have hne : IM.flE q wc a p ≠ 0 := by rw [eE]; exact hz
    rw [if_neg hne] at eK eI eG
    rw [eE, eK, eI, eG]
    have d : (pe != 0) = true := by simpa using hz
    clear CW hai hy hpe eA eE eK eI eG hne h hwl
    go_enter Tryz.func12, Tryz.ntmps12
    go_upto_region 1 with fail
    rw [← HW1.out]
    go_wp2_with fail
    refine HC.out.mono ?_
    rintro e w2 ⟨rfl, hb2⟩
    have hYz := HY1.out.below hb2 HY1.out.lt
    obtain ⟨y0, y1, y2⟩ := hYz.cells3
    have f0 := hYz.free 0
    have f1 := hYz.free 1
    have f2 := hYz.free 2
    clear hYz
    have HBz := Lib.hid (HB1.out.trans (hb2.mono HB1.out.size))
    clear hb2 HC
    go_wp2_with fail
    refine bodyPost_ret (v := .tuple #[.agg #[.int .i64 0, .int .i64 0, .int .i64 0], .int .i64 pe]) (by simp [results, Tryz.results12, go_sem, y0, y1, y2]) rfl ⟨rfl, ?_⟩
    exact ((HBz.out.setCell (p := ⟨w.heap.size, 0, none⟩) (Nat.le_refl _) _).setCell (p := ⟨w.heap.size, 1, none⟩) (Nat.le_refl _) _).setCell (p := ⟨w.heap.size, 2, none⟩) (Nat.le_refl _) _
end Go.Proofs.YteneadimchhhhaaGreatDoor
