/- An act of the laws: a word that is written past images, and all kinds together. -/
import Derived.Test.YteneadimchhhhaaGreatDoorImAct
namespace Go.Proofs.YteneadimchhhhaaGreatDoor
open Go.RowKit

theorem five_set {W : World} {m r b p j : Nat} {v0 v1 a0 a1 : Value} (h : W.cell? ⟨m, 0, none⟩ = some v0 ∧ W.cell? ⟨r, 0, none⟩ = some v1 ∧ W.cell? ⟨b, 1, none⟩ = some a0 ∧ W.cell? ⟨b, 6, none⟩ = some a1 ∧ W.frozen? ⟨p, j, none⟩ = false) (hm : m ≠ p) (hr : r ≠ p) (hb : b ≠ p) (u : Value) :
    (W.setCell ⟨p, j, none⟩ u).cell? ⟨m, 0, none⟩ = some v0 ∧ (W.setCell ⟨p, j, none⟩ u).cell? ⟨r, 0, none⟩ = some v1 ∧ (W.setCell ⟨p, j, none⟩ u).cell? ⟨b, 1, none⟩ = some a0 ∧ (W.setCell ⟨p, j, none⟩ u).cell? ⟨b, 6, none⟩ = some a1 ∧ (W.setCell ⟨p, j, none⟩ u).frozen? ⟨p, j, none⟩ = false := by
  obtain ⟨g0, g1, g2, g3, g5⟩ := h
  exact ⟨(cell_set hm).trans g0, (cell_set hr).trans g1, (cell_set hb).trans g2, (cell_set hb).trans g3, by rw [World.frozen?_setCell]; exact g5⟩
theorem five_drew {W : World} {m r b p j : Nat} {v0 v1 a0 a1 : Value} (h : W.cell? ⟨m, 0, none⟩ = some v0 ∧ W.cell? ⟨r, 0, none⟩ = some v1 ∧ W.cell? ⟨b, 1, none⟩ = some a0 ∧ W.cell? ⟨b, 6, none⟩ = some a1 ∧ W.frozen? ⟨p, j, none⟩ = false) :
    W.drew.cell? ⟨m, 0, none⟩ = some v0 ∧ W.drew.cell? ⟨r, 0, none⟩ = some v1 ∧ W.drew.cell? ⟨b, 1, none⟩ = some a0 ∧ W.drew.cell? ⟨b, 6, none⟩ = some a1 ∧ W.drew.frozen? ⟨p, j, none⟩ = false := h
section
variable {w0 w : World} {I : IB} {J : DB} {q : Cf} {wd : Nat → Nat}
set_option maxRecDepth 100000 in
set_option maxHeartbeats 2000000 in
theorem do_poke (h : Ms w0 w I J q wd wd) (a p L C S K I2 G : Int) (x : Nat) (ha : I64 a) (hx : x < 18446744073709551616) :
    Calls Tryz.prog 8 #[.agg #[.int .i64 6, .int .i64 a, .int .i64 p, .int .i64 L, .int .i64 C, .int .i64 S, .int .u64 (x : Nat), .int .i64 K, .int .i64 I2, .int .i64 G], .pointer (some ⟨I.B.s, 0, none⟩), .pointer (some ⟨I.p, 0, none⟩), .pointer (some ⟨J.m, 0, none⟩)] w (DoIs w0 w I J q (if IM.adE q a = 0 then IM.upd wd a.toNat x else wd)) := by
  obtain ⟨w1, hw1⟩ : ∃ w1, w1 = w.alloc (.cells #[.int .i64 6, .int .i64 a, .int .i64 p, .int .i64 L, .int .i64 C, .int .i64 S, .int .u64 (x : Nat), .int .i64 K, .int .i64 I2, .int .i64 G] 39) := ⟨_, rfl⟩
  have hb1 : Below w.heap.size w w1 := by rw [hw1]; exact (Below.refl _ _).alloc (Nat.le_refl _) _
  have Y1 : Whole w1 w.heap.size 39 #[.int .i64 6, .int .i64 a, .int .i64 p, .int .i64 L, .int .i64 C, .int .i64 S, .int .u64 (x : Nat), .int .i64 K, .int .i64 I2, .int .i64 G] := by rw [hw1]; exact Whole.fresh _ _ _
  have HN := Lib.hid (h.new (Nat.le_refl _))
  have HB1 := Lib.hid (Aft.drew (Aft.of_below (S := Both I J) hb1))
  have H1 := h.later hb1
  have c0 : w1.cell? ⟨w.heap.size, 0, none⟩ = some (.int .i64 6) := Y1.cell 0
  have c1 : w1.cell? ⟨w.heap.size, 1, none⟩ = some (.int .i64 a) := Y1.cell 1
  have j0 : w1.cell? ⟨J.m, 0, none⟩ = some (.pointer (some ⟨J.R.m, 0, none⟩)) := H1.dc.box.cell 0
  have CA := rat_any H1.drew.dc.rf a (by unfold I64 at ha; exact ha)
  have hM1 := H1.drew
  have hY1 := Y1.drew
  have HW1 := Lib.hid hw1
  have HY1 := Lib.hid hY1
  have HM1 := Lib.hid hM1
  obtain ⟨er, her⟩ : ∃ z, z = addrE q.own q.C q.K a := ⟨_, rfl⟩
  have hae : IM.adE q a = er := her.symm
  rw [← her] at CA
  rw [hae]
  have HCA := Lib.hid CA
  clear hw1 hb1 Y1 H1 h CA hM1 hY1 hae
  by_cases hz : er = 0
  · subst hz
    obtain ⟨j, rfl, hj, hjo⟩ := addrE_ok her.symm
    rw [if_pos rfl, Int.toNat_natCast]
    have CW := write_all HM1.out.im.st (j : Int) x hx
    rw [← her] at CW
    have hwd : wrWd q.own wd q.C q.K (j : Int) x = IM.upd wd j x := by
      unfold wrWd
      rw [if_pos her.symm, Int.toNat_natCast]
      rfl
    rw [hwd] at CW
    have HCW := Lib.hid CW
    clear CW hwd her hjo
    go_enter Tryz.func8, Tryz.ntmps8
    go_upto_region 1 with fail
    rw [← HW1.out]
    go_upto_region 23 with fail
    go_region_held3 (fun w' => w'.cell? ⟨J.m, 0, none⟩ = some (.pointer (some ⟨J.R.m, 0, none⟩)) ∧ w'.cell? ⟨w.heap.size, 1, none⟩ = some (.int .i64 (j : Int)))
      (first | (with_reducible exact ⟨j0, c1⟩) | exact ⟨j0, c1⟩ | fail)
      (first | (go_at_call 35; (with_reducible refine HCA.out.mono ?_); rintro e w2 ⟨rfl, rfl⟩; have HX := j0))
    have c1 : w1.drew.cell? ⟨w.heap.size, 1, none⟩ = some (.int .i64 (j : Int)) := HY1.out.cell 1
    have c6 : w1.drew.cell? ⟨w.heap.size, 6, none⟩ = some (.int .u64 (x : Nat)) := HY1.out.cell 6
    generalize w1.drew = w2 at *
    go_wp2_with fail
    refine HCW.out.mono ?_
    rintro e w3 hp
    have hp2 := HM1.out.im.wrote (Below.refl _ _) hp
    have hM3 := HM1.out.iw hp2
    have hY3 := hp2.2.2.whole HY1.out HN.out.1
    have HF2 := Lib.hid (HB1.out.trans (Aft.both_l (J := J) hp2.2.2))
    obtain ⟨rfl, -, -⟩ := hp
    have d3 := hM3.dc
    have hmp := hM3.jm.1
    have hnR := d3.rf.ne.1
    have hnw : w.heap.size ≠ J.R.p := fun e => HN.out.2 (by simp; exact .inl e)
    have h3 : w3.cell? ⟨J.m, 0, none⟩ = some (.pointer (some ⟨J.R.m, 0, none⟩)) ∧ w3.cell? ⟨J.R.m, 0, none⟩ = some (.slice (some ⟨J.R.p, 0, none⟩) (q.C * q.K) (q.C * q.K)) ∧ w3.cell? ⟨w.heap.size, 1, none⟩ = some (.int .i64 (j : Int)) ∧ w3.cell? ⟨w.heap.size, 6, none⟩ = some (.int .u64 (x : Nat)) ∧ w3.frozen? ⟨J.R.p, j, none⟩ = false :=
      ⟨d3.box.cell 0, d3.rf.words, hY3.cell 1, hY3.cell 6, d3.rf.wrow.thaw j hj⟩
    have k1 : w3.drew.cell? ⟨J.R.p, j, none⟩ = some (.int .u64 (wd j : Nat)) := d3.rf.wrow.cell j hj
    have HD3 := Lib.hid (show DaPost (.bool true) J q (IM.upd wd j x) w3 (.returned (.bool true)) (w3.setCell ⟨J.R.p, j, none⟩ (.int .u64 (x : Nat))).drew from ⟨rfl, ((Aft.refl _ _).setCell (by simp) _ _).drew, (hM3.dc.rf.wrote j x).heap rfl⟩)
    have HM3 := Lib.hid hM3
    clear d3 hM3 hY3 hp2 HM1 HY1 j0 c0 c1 c6 HCW HCA
    obtain ⟨M, hM⟩ : ∃ M, M = q.C * q.K := ⟨_, rfl⟩
    rw [← hM] at h3 hj
    clear hM
    obtain ⟨j0, k0, c1, c6, k2⟩ := h3
    have HX2 := five_drew (five_set (W := w3) ⟨j0, k0, c1, c6, k2⟩ hmp hnR hnw (.int .u64 (x : Nat)))
    go_upto_region 25 with fail
    go_region_held3 (fun w' => w'.cell? ⟨J.m, 0, none⟩ = some (.pointer (some ⟨J.R.m, 0, none⟩)) ∧ w'.cell? ⟨J.R.m, 0, none⟩ = some (.slice (some ⟨J.R.p, 0, none⟩) M M) ∧ w'.cell? ⟨w.heap.size, 1, none⟩ = some (.int .i64 (j : Int)) ∧ w'.cell? ⟨w.heap.size, 6, none⟩ = some (.int .u64 (x : Nat)) ∧ w'.frozen? ⟨J.R.p, j, none⟩ = false)
      (first | (with_reducible exact HX2) | (with_reducible exact ⟨j0, k0, c1, c6, k2⟩) | exact ⟨j0, k0, c1, c6, k2⟩ | fail)
      (fail)
    go_wp2_with fail
    go_ret
    exact ⟨rfl, HM3.out.docA HD3.out, HF2.out.trans (Aft.both_r HD3.out.2.1)⟩
  · rw [if_neg hz]
    have hd : (er == 0) = false := by simpa using hz
    clear hz her
    go_enter Tryz.func8, Tryz.ntmps8
    go_upto_region 1 with fail
    rw [← HW1.out]
    go_upto_region 23 with fail
    go_region_held3 (fun w' => w'.cell? ⟨J.m, 0, none⟩ = some (.pointer (some ⟨J.R.m, 0, none⟩)) ∧ w'.cell? ⟨w.heap.size, 1, none⟩ = some (.int .i64 a))
      (first | (with_reducible exact ⟨j0, c1⟩) | exact ⟨j0, c1⟩ | fail)
      (first | (go_at_call 35; (with_reducible refine HCA.out.mono ?_); rintro e w2 ⟨rfl, rfl⟩; have HX := j0))
    go_wp2_with fail
    go_ret
    exact ⟨rfl, HM1.out, HB1.out⟩
/-- An act of any kind. -/
theorem do_any (h : Ms w0 w I J q wd wd) (f : IAc) (hf : f.ok) :
    Calls Tryz.prog 8 #[.agg #[.int .i64 f.k, .int .i64 f.a, .int .i64 f.p, .int .i64 f.L, .int .i64 f.C, .int .i64 f.S, .int .u64 f.x, .int .i64 f.K, .int .i64 f.J, .int .i64 f.G], .pointer (some ⟨I.B.s, 0, none⟩), .pointer (some ⟨I.p, 0, none⟩), .pointer (some ⟨J.m, 0, none⟩)] w (DoIs w0 w I J q (acW q wd f)) := by
  obtain ⟨k, a, p, L, C, S, x, K, I2, G⟩ := f
  obtain ⟨hk, ha, hp, hL, hC, hS, hx, hK, hI, hG⟩ := hf
  dsimp only at *
  obtain ⟨y, rfl⟩ := Int.eq_ofNat_of_zero_le hx.1
  have hy : y < 18446744073709551616 := by have := hx.2; omega
  unfold acW
  dsimp only
  rw [Int.toNat_natCast]
  by_cases h0 : k = 0
  · subst h0; exact do_make h a p L C S K I2 G y ha hC
  · rw [if_neg h0]
    by_cases h2 : k = 2
    · subst h2; exact do_save h a p L C S K I2 G y ha hy
    · rw [if_neg h2]
      by_cases h4 : k = 4
      · subst h4; exact do_tie h a p L C S K I2 G y ha
      · rw [if_neg h4]
        by_cases h5 : k = 5
        · subst h5; exact do_move h a p L C S K I2 G y hp
        · rw [if_neg h5]
          by_cases h6 : k = 6
          · subst h6; exact do_poke h a p L C S K I2 G y ha hy
          · rw [if_neg h6]
            by_cases h1 : k = 1
            · subst h1; exact do_load h a p L C S K I2 G y ha
            · by_cases h3 : k = 3
              · subst h3; exact do_follow h a p L C S K I2 G y ha
              · exact do_none h k a p L C S K I2 G y ⟨h0, h1, h2, h3, h4, h5, h6⟩
end
end Go.Proofs.YteneadimchhhhaaGreatDoor
