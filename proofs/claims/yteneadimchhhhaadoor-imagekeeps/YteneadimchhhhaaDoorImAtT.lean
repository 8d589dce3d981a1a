/- Contracts of objectAt and At of images. -/
import Derived.Test.YteneadimchhhhaaDoorImObj
import Derived.Test.YteneadimchhhhaaDoorHdDec
namespace Go.Proofs.YteneadimchhhhaaDoor
open Go.RowKit

theorem at_bad {q : Cf} {wd : Nat → Nat} {a : Int} (h : IM.adE q a ≠ 0) : IM.atE q wd a = IM.adE q a ∧ IM.atL q wd a = 0 ∧ IM.atC q wd a = 0 ∧ IM.atS q wd a = 0 ∧ IM.atN q wd a = 0 := by
  have e : IM.atE q wd a = IM.adE q a := by unfold IM.atE; rw [if_neg h]
  unfold IM.atL IM.atC IM.atS IM.atN
  rw [e, if_neg h, if_neg h, if_neg h, if_neg h]
  exact ⟨rfl, rfl, rfl, rfl, rfl⟩
theorem at_form {q : Cf} {wd : Nat → Nat} {a : Int} (h : IM.adE q a = 0) (h2 : HM.dE (IM.hd wd a) ≠ 0) : IM.atE q wd a = 4 ∧ IM.atL q wd a = 0 ∧ IM.atC q wd a = 0 ∧ IM.atS q wd a = 0 ∧ IM.atN q wd a = 0 := by
  have e : IM.atE q wd a = 4 := by unfold IM.atE; rw [if_pos h, if_neg h2]
  unfold IM.atL IM.atC IM.atS IM.atN
  rw [e]
  exact ⟨rfl, rfl, rfl, rfl, rfl⟩
theorem at_size {q : Cf} {wd : Nat → Nat} {a : Int} (h : IM.adE q a = 0) (h2 : HM.dE (IM.hd wd a) = 0) :
    IM.atE q wd a = IM.szE q.D (HM.dL (IM.hd wd a)) (HM.dC (IM.hd wd a)) ∧ IM.atL q wd a = zE (IM.atE q wd a) (HM.dL (IM.hd wd a)) ∧ IM.atC q wd a = zE (IM.atE q wd a) (HM.dC (IM.hd wd a)) ∧ IM.atS q wd a = zE (IM.atE q wd a) (HM.dS (IM.hd wd a)) ∧
      IM.atN q wd a = IM.szN q.D (HM.dL (IM.hd wd a)) (HM.dC (IM.hd wd a)) := by
  have e : IM.atE q wd a = IM.szE q.D (HM.dL (IM.hd wd a)) (HM.dC (IM.hd wd a)) := by unfold IM.atE; rw [if_pos h, if_pos h2]
  refine ⟨e, rfl, rfl, rfl, ?_⟩
  unfold IM.atN
  rw [e]
  unfold IM.szN
  split
  · rfl
  · rfl
theorem dE_cases (x : Int) : HM.dE x = 0 ∨ HM.dE x = 4 := by unfold HM.dE; split <;> simp
theorem dL_bd (x : Int) : 0 ≤ HM.dL x ∧ HM.dL x ≤ 64 := by
  unfold HM.dL
  split
  · rename_i h; have := (HM.hok_iff x).1 h; omega
  · omega
theorem dC_bd (x : Int) : 0 ≤ HM.dC x ∧ HM.dC x ≤ 1024 ∨ ¬ 0 ≤ x := by
  by_cases h0 : 0 ≤ x
  · left
    unfold HM.dC
    split
    · rename_i h; have := (HM.hok_iff x).1 h; omega
    · omega
  · exact .inr h0
theorem dS_bd (x : Int) : 0 ≤ HM.dS x ∧ HM.dS x ≤ 4095 ∨ ¬ 0 ≤ x := by
  by_cases h0 : 0 ≤ x
  · left
    unfold HM.dS
    split
    · rename_i h; have := (HM.hok_iff x).1 h; omega
    · omega
  · exact .inr h0
theorem GotIs.to {D : List LD} {L E : Int} {k : LV} {w w' : World} (L' E' : Int) (h : GotIs D L E k w w') (hE : E' = E) (hL : E' = 0 → L' = L) : GotIs D L' E' k w w' := fun e => by
  obtain ⟨h1, h2, h3⟩ := h (hE ▸ e)
  exact ⟨by rw [hL e]; exact h1, h2, h3⟩

theorem GotIs.set8 {D : List LD} {L E : Int} {k : LV} {w W w3 : World} {b : Nat} {u0 u1 u2 u3 u4 u5 u6 u7 : Value} (h : GotIs D L E k W w3) (hb : b < W.heap.size) (hs : w.heap.size ≤ W.heap.size) :
    GotIs D L E k w ((((((((w3.setCell ⟨b, 0, none⟩ u0).setCell ⟨b, 1, none⟩ u1).setCell ⟨b, 2, none⟩ u2).setCell ⟨b, 3, none⟩ u3).setCell ⟨b, 4, none⟩ u4).setCell ⟨b, 5, none⟩ u5).setCell ⟨b, 6, none⟩ u6).setCell ⟨b, 7, none⟩ u7) := fun e => by
  obtain ⟨h1, h2, h3⟩ := h e
  exact ⟨h1, h2, Lists.mono (Lists.kept h3 (set8_kept (Kept.refl _ _ _) (.inl hb))) hs (by simp)⟩
set_option maxHeartbeats 2000000 in
theorem objectAt_any {w : World} {I : IB} {q : Cf} {wd : Nat → Nat} (h : ImAt w I q wd) (a : Int) :
    Calls Tryd.prog 27 #[.pointer (some ⟨I.p, 0, none⟩), .int .i64 a] w (ObjIs q.D (IM.atL q wd a) (IM.atC q wd a) (IM.atS q wd a) (IM.atN q wd a) (IM.atE q wd a) w) := by
  obtain ⟨w1, hw1⟩ : ∃ w1, w1 = w.alloc (.cells #[.int .i64 0, .int .i64 0, .int .i64 0, .int .i64 0, .slice none 0 0, .int .i64 0, .slice none 0 0, .int .i64 0] 79) := ⟨_, rfl⟩
  have hb1 : Below w.heap.size w w1 := by rw [hw1]; exact (Below.refl _ _).alloc (Nat.le_refl _) _
  have Y1 : Whole w1 w.heap.size 79 #[.int .i64 0, .int .i64 0, .int .i64 0, .int .i64 0, .slice none 0 0, .int .i64 0, .slice none 0 0, .int .i64 0] := by rw [hw1]; exact Whole.fresh _ _ _
  have H1 := h.below hb1
  have p0 : w1.cell? ⟨I.p, 0, none⟩ = some (.pointer (some ⟨I.B.s, 0, none⟩)) := H1.box.cell 0
  have CR := read_any H1.st a
  have HW := Lib.hid (h.word a)
  have hs1 : w1.heap.size = w.heap.size + 1 := by rw [hw1]; simp
  have HS := Lib.hid hs1
  clear hs1
  by_cases h1 : IM.adE q a = 0
  · have hx : readV q.own wd q.C q.K a = wd a.toNat := by unfold readV; rw [if_pos (show addrE q.own q.C q.K a = 0 from h1)]
    rw [hx, show addrE q.own q.C q.K a = 0 from h1] at CR
    have CD := fun W => hdecode_any (IM.hd wd a) (h.word a) W
    unfold IM.hd at CD
    have CO := fun (W : World) (hW : Below w1.heap.size w1 W) => objectOf_any (H1.below hW) (HM.dL (IM.hd wd a)) (HM.dC (IM.hd wd a)) (HM.dS (IM.hd wd a)) (by rcases dC_bd (IM.hd wd a) with hd | hd; · unfold I64; omega
                                                                                                                                                               · exact absurd (h.word a).1 hd)
    unfold IM.hd at CO
    have H2 := Lib.hid h1
    obtain ⟨x, hx2⟩ : ∃ x : Nat, x = wd a.toNat := ⟨_, rfl⟩
    rw [← hx2] at CR CD CO
    have HX := Lib.hid hx2
    by_cases h3 : HM.dE (IM.hd wd a) = 0
    · have HAT := Lib.hid (at_size h1 h3)
      unfold IM.hd at h3
      rw [← hx2] at h3
      rw [h3] at CD
      obtain ⟨dl, hdl⟩ : ∃ dl, dl = HM.dL (x : Nat) := ⟨_, rfl⟩
      obtain ⟨dc, hdc⟩ : ∃ dc, dc = HM.dC (x : Nat) := ⟨_, rfl⟩
      obtain ⟨ds, hds⟩ : ∃ ds, ds = HM.dS (x : Nat) := ⟨_, rfl⟩
      rw [← hdl, ← hdc, ← hds] at CD CO
      have HLT := Lib.hid (And.intro hdl (And.intro hdc hds))
      have HR := Lib.hid CR
      have HD := Lib.hid CD
      have HO := Lib.hid CO
      have HB1 := Lib.hid hb1
      have HY := Lib.hid Y1
      have plt := H1.box.lt
      have HP := Lib.hid p0
      clear CR CD CO hb1 Y1 H1 h1 h3 hdl hdc hds hx hx2 h
      go_enter Tryd.func27, Tryd.ntmps27
      go_upto_region 3 with fail
      rw [← hw1]
      clear hw1
      go_wp2_with fail
      refine HR.out.mono ?_
      rintro e w' ⟨rfl, rfl⟩
      go_wp2_with fail
      refine (HD.out _).mono ?_
      rintro e w2 ⟨rfl, hb2⟩
      have hb3 := hb2.alloc hb2.size (.cells #[.int .i64 dl, .int .i64 dc, .int .i64 ds] 28)
      have HCO := Lib.hid (HO.out _ hb3)
      have HB3 := Lib.hid hb3
      clear hb2 hb3
      go_wp2_with fail
      refine HCO.out.mono ?_
      rintro e w3 ⟨k, rfl, hk, hb4⟩
      have Y := HY.out.below (HB3.out.trans (hb4.mono HB3.out.size)) HY.out.lt
      have y0 : w3.cell? ⟨w.heap.size, 0, none⟩ = some (.int .i64 0) := Y.cell 0
      have y1 : w3.cell? ⟨w.heap.size, 1, none⟩ = some (.int .i64 0) := Y.cell 1
      have y2 : w3.cell? ⟨w.heap.size, 2, none⟩ = some (.int .i64 0) := Y.cell 2
      have y3 : w3.cell? ⟨w.heap.size, 3, none⟩ = some (.int .i64 0) := Y.cell 3
      have y4 : w3.cell? ⟨w.heap.size, 4, none⟩ = some (.slice none 0 0) := Y.cell 4
      have y5 : w3.cell? ⟨w.heap.size, 5, none⟩ = some (.int .i64 0) := Y.cell 5
      have y6 : w3.cell? ⟨w.heap.size, 6, none⟩ = some (.slice none 0 0) := Y.cell 6
      have y7 : w3.cell? ⟨w.heap.size, 7, none⟩ = some (.int .i64 0) := Y.cell 7
      have f0 := Y.free 0
      have f1 := Y.free 1
      have f2 := Y.free 2
      have f3 := Y.free 3
      have f4 := Y.free 4
      have f5 := Y.free 5
      have f6 := Y.free 6
      have f7 := Y.free 7
      obtain ⟨er, her⟩ : ∃ er, er = IM.szE q.D dl dc := ⟨_, rfl⟩
      obtain ⟨n, hn⟩ : ∃ n, n = IM.szN q.D dl dc := ⟨_, rfl⟩
      obtain ⟨l1, hl1⟩ : ∃ n, n = zE er dl := ⟨_, rfl⟩
      obtain ⟨l2, hl2⟩ : ∃ n, n = zE er dc := ⟨_, rfl⟩
      obtain ⟨l3, hl3⟩ : ∃ n, n = zE er ds := ⟨_, rfl⟩
      rw [← her, ← hn, ← hl1, ← hl2, ← hl3]
      rw [← her] at hk
      have HE := Lib.hid (And.intro her (And.intro hn (And.intro hl1 (And.intro hl2 hl3))))
      have HB4 := Lib.hid hb4
      have HK := Lib.hid hk
      clear her hn hl1 hl2 hl3 hb4 hk Y
      go_wp2_with fail
      refine bodyPost_ret (v := .tuple #[.agg #[.int .i64 l1, .int .i64 l2, .int .i64 l3, .int .i64 k.F, .slice k.A k.n k.c, .int .i64 k.R, .slice k.D k.m k.d, .int .i64 n], .int .i64 er]) (by simp [results, Tryd.results27, go_sem, y0, y1, y2, y3, y4, y5, y6, y7]) rfl ?_
      obtain ⟨a1, a2, a3, a4, a5⟩ := HAT.out
      obtain ⟨e1, e2, e3, e4, e5⟩ := HE.out
      have hxx : IM.hd wd a = (x : Int) := by unfold IM.hd; rw [HX.out]
      rw [hxx, ← HLT.out.1, ← HLT.out.2.1] at a1 a5
      rw [hxx, a1, ← e1, ← HLT.out.1, ← e3] at a2
      rw [hxx, a1, ← e1, ← HLT.out.2.1, ← e4] at a3
      rw [hxx, a1, ← e1, ← HLT.out.2.2, ← e5] at a4
      rw [a2, a3, a4, a5, a1, ← e1, ← e2]
      have hs8 := HB3.out.size
      rw [HS.out] at hs8
      refine ⟨k, rfl, ?_, set8_below (HB1.out.trans ((HB3.out.trans (HB4.out.mono HB3.out.size)).mono HB1.out.size)) (Nat.le_refl _)⟩
      rw [e3]
      exact GotIs.set8 HK.out (by omega) (by omega)
    · obtain ⟨a1, a2, a3, a4, a5⟩ := at_form h1 h3
      have h4 : HM.dE (IM.hd wd a) = 4 := by rcases dE_cases (IM.hd wd a) with h | h <;> first | exact absurd h h3 | exact h
      have HAT := Lib.hid (at_form h1 h3)
      unfold IM.hd at h4
      rw [← hx2] at h4
      rw [h4] at CD
      obtain ⟨dl, hdl⟩ : ∃ dl, dl = HM.dL (x : Nat) := ⟨_, rfl⟩
      obtain ⟨dc, hdc⟩ : ∃ dc, dc = HM.dC (x : Nat) := ⟨_, rfl⟩
      obtain ⟨ds, hds⟩ : ∃ ds, ds = HM.dS (x : Nat) := ⟨_, rfl⟩
      rw [← hdl, ← hdc, ← hds] at CD
      have HR := Lib.hid CR
      have HD := Lib.hid CD
      have HB1 := Lib.hid hb1
      have HY := Lib.hid Y1
      clear CR CD CO hb1 Y1 H1 h1 h3 hdl hdc hds hx hx2 h a1 a2 a3 a4 a5 h4
      go_enter Tryd.func27, Tryd.ntmps27
      go_upto_region 3 with fail
      rw [← hw1]
      clear hw1
      go_wp2_with fail
      refine HR.out.mono ?_
      rintro e w' ⟨rfl, rfl⟩
      go_wp2_with fail
      refine (HD.out _).mono ?_
      rintro e w2 ⟨rfl, hb2⟩
      have hb3 := hb2.alloc hb2.size (.cells #[.int .i64 dl, .int .i64 dc, .int .i64 ds] 28)
      have HB3 := Lib.hid hb3
      have Y := HY.out.below hb3 HY.out.lt
      clear hb2 hb3
      go_upto_region 7 with fail
      obtain ⟨w3, hw3⟩ : ∃ w3, w3 = w2.alloc (.cells #[.int .i64 dl, .int .i64 dc, .int .i64 ds] 28) := ⟨_, rfl⟩
      rw [← hw3] at Y HB3 ⊢
      have y0 : w3.cell? ⟨w.heap.size, 0, none⟩ = some (.int .i64 0) := Y.cell 0
      have y1 : w3.cell? ⟨w.heap.size, 1, none⟩ = some (.int .i64 0) := Y.cell 1
      have y2 : w3.cell? ⟨w.heap.size, 2, none⟩ = some (.int .i64 0) := Y.cell 2
      have y3 : w3.cell? ⟨w.heap.size, 3, none⟩ = some (.int .i64 0) := Y.cell 3
      have y4 : w3.cell? ⟨w.heap.size, 4, none⟩ = some (.slice none 0 0) := Y.cell 4
      have y5 : w3.cell? ⟨w.heap.size, 5, none⟩ = some (.int .i64 0) := Y.cell 5
      have y6 : w3.cell? ⟨w.heap.size, 6, none⟩ = some (.slice none 0 0) := Y.cell 6
      have y7 : w3.cell? ⟨w.heap.size, 7, none⟩ = some (.int .i64 0) := Y.cell 7
      have f0 := Y.free 0
      have f1 := Y.free 1
      have f2 := Y.free 2
      have f3 := Y.free 3
      have f4 := Y.free 4
      have f5 := Y.free 5
      have f6 := Y.free 6
      have f7 := Y.free 7
      clear hw3 Y
      go_wp2_with fail
      refine bodyPost_ret (v := .tuple #[.agg #[.int .i64 0, .int .i64 0, .int .i64 0, .int .i64 0, .slice none 0 0, .int .i64 0, .slice none 0 0, .int .i64 0], .int .i64 4]) (by simp [results, Tryd.results27, go_sem, y0, y1, y2, y3, y4, y5, y6, y7]) rfl ?_
      obtain ⟨a1, a2, a3, a4, a5⟩ := HAT.out
      rw [a1, a2, a3, a4, a5]
      exact ⟨zLV, rfl, fun e => absurd e (by decide), set8_below (HB1.out.trans (HB3.out.mono HB1.out.size)) (Nat.le_refl _)⟩
  · have HAT := Lib.hid (at_bad (wd := wd) h1)
    have hx : readV q.own wd q.C q.K a = 0 := by unfold readV; rw [if_neg (show ¬ addrE q.own q.C q.K a = 0 from h1)]
    rw [hx] at CR
    obtain ⟨ad, had⟩ : ∃ ad, ad = IM.adE q a := ⟨_, rfl⟩
    rw [show addrE q.own q.C q.K a = ad from had.symm] at CR
    rw [← had] at h1
    have HA := Lib.hid had
    have hd : (ad != 0) = true := by simpa using h1
    have HN := Lib.hid h1
    have HR := Lib.hid CR
    have HB1 := Lib.hid hb1
    have Y := Y1
    have y0 : w1.cell? ⟨w.heap.size, 0, none⟩ = some (.int .i64 0) := Y.cell 0
    have y1 : w1.cell? ⟨w.heap.size, 1, none⟩ = some (.int .i64 0) := Y.cell 1
    have y2 : w1.cell? ⟨w.heap.size, 2, none⟩ = some (.int .i64 0) := Y.cell 2
    have y3 : w1.cell? ⟨w.heap.size, 3, none⟩ = some (.int .i64 0) := Y.cell 3
    have y4 : w1.cell? ⟨w.heap.size, 4, none⟩ = some (.slice none 0 0) := Y.cell 4
    have y5 : w1.cell? ⟨w.heap.size, 5, none⟩ = some (.int .i64 0) := Y.cell 5
    have y6 : w1.cell? ⟨w.heap.size, 6, none⟩ = some (.slice none 0 0) := Y.cell 6
    have y7 : w1.cell? ⟨w.heap.size, 7, none⟩ = some (.int .i64 0) := Y.cell 7
    have f0 := Y.free 0
    have f1 := Y.free 1
    have f2 := Y.free 2
    have f3 := Y.free 3
    have f4 := Y.free 4
    have f5 := Y.free 5
    have f6 := Y.free 6
    have f7 := Y.free 7
    clear CR hb1 Y1 H1 h1 hx h had Y
    go_enter Tryd.func27, Tryd.ntmps27
    go_upto_region 3 with fail
    rw [← hw1]
    clear hw1
    go_wp2_with fail
    refine HR.out.mono ?_
    rintro e w' ⟨rfl, rfl⟩
    go_wp2_with fail
    refine bodyPost_ret (v := .tuple #[.agg #[.int .i64 0, .int .i64 0, .int .i64 0, .int .i64 0, .slice none 0 0, .int .i64 0, .slice none 0 0, .int .i64 0], .int .i64 ad]) (by simp [results, Tryd.results27, go_sem, y0, y1, y2, y3, y4, y5, y6, y7]) rfl ?_
    obtain ⟨a1, a2, a3, a4, a5⟩ := HAT.out
    rw [a1, a2, a3, a4, a5, ← HA.out]
    exact ⟨zLV, rfl, fun e => absurd e HN.out, set8_below HB1.out (Nat.le_refl _)⟩
end Go.Proofs.YteneadimchhhhaaDoor
