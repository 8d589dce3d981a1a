/- Contracts of takeChunk and takeRun. -/
import Derived.Test.YteencfldehcbbaaDoorBpRel
namespace Go.Proofs.YteencfldehcbbaaDoor
open Go.RowKit Go.Sort BP
set_option linter.unusedVariables false

theorem tab_heap {w W : World} (h : Tab w) (e : W.heap = w.heap) : Tab W := fun j hj => (World.cell?_of_block (by rw [e])).trans (h j hj)
section
variable {w0 w : World} {B : SB} {C K o o' p p' : Nat} {v v' : Value} {D : Dt}
theorem i64_nat {x : Nat} (h : x < 9223372036854775808) : I64 (x : Int) := by unfold I64; omega
theorem tk_no {own wd : Nat → Nat} {x n : Int} (h : tkE own C x n ≠ 0) : tkOwnA own C x n = own ∧ tkWdA own wd C K x n = wd ∧ tkP own C x n = 0 := by
  unfold tkOwnA tkWdA tkP
  rw [if_neg h, if_neg h, if_neg h]
  exact ⟨rfl, rfl, rfl⟩
set_option maxHeartbeats 4000000 in
theorem takeChunk_no (h : Co w0 w B C K o o' p p' v v' D) (hT : Tab w0) (ho2 : o < 9223372036854775808) (hE : tkE D.own C o 1 ≠ 0) :
    Calls Tryd.prog 49 #[.pointer (some ⟨p, 0, none⟩)] w (CoPost (.int .i64 (tkE D.own C o 1)) w0 B C K o o' p p' v v' D w) := by
  have p0 := h.a.c0
  have p1 := h.a.c1
  have F1 := Lib.hid (fun (W : World) (hW : W.heap = w.heap) => take1_all (h.held.st.heap hW) (tab_heap h.held.tab hW) (o : Int) (i64_nat ho2))
  have HH := Lib.hid h
  have HE := Lib.hid hE
  generalize hEE : tkE D.own C o 1 = E at *
  have HEE := Lib.hid hEE
  have d : (E != 0) = true := by simpa using hE
  clear h hE hEE
  go_enter Tryd.func49, Tryd.ntmps49
  go_wp2_with fail
  go_region_held3 (fun w' => w'.cell? ⟨p, 0, none⟩ = some (.pointer (some ⟨B.s, 0, none⟩)) ∧ w'.cell? ⟨p, 1, none⟩ = some (.int .i64 (o : Nat))) (simp [go_sem, *])
    (first | (go_at_call 65; refine (F1.out _ (by exact rfl)).mono ?_; rintro e w2 ⟨rfl, ho2', hs2⟩; have HC2 := Lib.hid (HH.out.store hT ⟨ho2'.os, ho2'.tape, ho2'.output, ho2'.size, ho2'.block⟩ hs2); have HO2 := Lib.hid (Co.turn_store (B := B) (p := p) (p' := p') (v := v) (v' := v') (w := w) ⟨ho2'.os, ho2'.tape, ho2'.output, ho2'.size, ho2'.block⟩); have k0 := HC2.out.a.c0; have k1 := HC2.out.a.c1; clear ho2' hs2))
  all_goals
    go_wp2
    go_ret
    refine ⟨rfl, v, ?_, HO2.out⟩
    have := HC2.out
    obtain ⟨e1, e2, _⟩ := tk_no (K := K) (wd := D.wd) (own := D.own) (C := C) (x := (o : Int)) (n := 1) (by rw [HEE.out]; exact HE.out)
    rw [e1, e2] at this
    exact this
set_option maxHeartbeats 4000000 in
set_option maxRecDepth 100000 in
theorem takeChunk_ok (h : Co w0 w B C K o o' p p' v v' D) (hT : Tab w0) (ho2 : o < 9223372036854775808) (hlen : D.S.parts.length ≤ 5000) (hE : tkE D.own C o 1 = 0) :
    Calls Tryd.prog 49 #[.pointer (some ⟨p, 0, none⟩)] w (CoPost (.int .i64 0) w0 B C K o o' p p' v v' ⟨tkOwnA D.own C o 1, tkWdA D.own D.wd C K o 1, ⟨D.S.parts ++ [(tkP D.own C o 1, 1)], (tkP D.own C o 1, 1), 0⟩, D.T⟩ w) := by
  obtain ⟨i0, hi0, hz0, hz1, hz2⟩ := infoPart_parts
  obtain ⟨A, cp, rfl⟩ := h.a.row.slice
  have p0 := h.a.c0
  have p1 := h.a.c1
  have F1 := fun (W : World) (hW : W.heap = w.heap) => take1_all (h.held.st.heap hW) (tab_heap h.held.tab hW) (o : Int) (i64_nat ho2)
  rw [hE] at F1
  have HF1 := Lib.hid F1
  obtain ⟨own, wd, ⟨P, ⟨pa, pb⟩, fl⟩, T⟩ := D
  simp only at h HF1 hlen ⊢
  have HH := Lib.hid h
  obtain ⟨n, hn⟩ : ∃ n, n = P.length := ⟨_, rfl⟩
  rw [← hn] at HH hlen ⊢
  have HN := Lib.hid hn
  have HR := Lib.hid h.a.row
  generalize tkP own C o 1 = c at *
  generalize tkOwnA own C o 1 = own2 at *
  generalize tkWdA own wd C K o 1 = wd2 at *
  clear h hE F1 hn
  go_enter Tryd.func49, Tryd.ntmps49
  go_wp2_with fail
  go_region_held3 (fun w' => w'.cell? ⟨p, 0, none⟩ = some (.pointer (some ⟨B.s, 0, none⟩)) ∧ w'.cell? ⟨p, 1, none⟩ = some (.int .i64 (o : Nat))) (simp [go_sem, *])
    (first | (go_at_call 65; refine (HF1.out _ (by exact rfl)).mono ?_; rintro e w2 ⟨rfl, ho2', hs2⟩; have HC2 := Lib.hid (HH.out.store hT ⟨ho2'.os, ho2'.tape, ho2'.output, ho2'.size, ho2'.block⟩ hs2); have HO2 := Lib.hid (Co.turn_store (B := B) (p := p) (p' := p') (v := .slice A n cp) (v' := v') (w := w) ⟨ho2'.os, ho2'.tape, ho2'.output, ho2'.size, ho2'.block⟩); have k0 := HC2.out.a.c0; have k1 := HC2.out.a.c1; clear ho2' hs2))
  all_goals
    clear p0 p1 k0 k1
    go_wp2_with fail
    have hb3 := (Below.refl w2.heap.size w2).alloc (Nat.le_refl _) (.cells #[.int .i64 (c : Nat), .int .i64 1] 77)
    have hco3 := HC2.out.later hT hb3
    have hx3 := Whole.fresh w2 77 #[.int .i64 (c : Nat), .int .i64 1]
    have hnF : w2.heap.size ∉ coF B p p' (.slice A n cp) v' := fun hx => by have := (HC2.out.win _ hx).2; omega
    obtain ⟨W, hW⟩ : ∃ W, W = w2.alloc (.cells #[.int .i64 (c : Nat), .int .i64 1] 77) := ⟨_, rfl⟩
    rw [← hW] at hb3 hco3 hx3 ⊢
    have HCO := Lib.hid hco3
    have HX := Lib.hid hx3
    have HNF := Lib.hid hnF
    have HB3 := Lib.hid hb3
    have x0 := hx3.p0
    have x1 := hx3.p1
    have p2 := hco3.a.c2
    have p2a := fun ob => bcellB ((Below.refl W.heap.size W).alloc (Nat.le_refl _) ob) p2
    have hbs : w0.heap.size ≤ W.heap.size := hco3.bel.size
    clear hb3 hco3 hx3 hnF hW
    go_region_law (first
      | (refine step_append_lies _ rfl (.tmp 27) (.tmp 29) 75 rfl w0.heap.size 77 i0 _ 2 16 Tryd.underlying75 hi0 hz0 hz1 hz2 rfl (by decide) (.slice A n cp) n (flatP P) (by simp [Act.eval]) (own_drew ((show W.ownsRow w0.heap.size 77 2 (.slice A n cp) n (flatP P) by have := HCO.out.a.row; unfold PR at this; rw [← HN.out] at this; exact this).alloc _)) ⟨W.heap.size, 0, none⟩ 1 1 [.int .i64 (c : Nat), .int .i64 1] (by simp [Act.eval]) rfl (World.news_of_block (heap_new_drew W _)) (by simp [Value.oneCell']) (by decide) (by unfold maxLen; omega) (by omega) (by simp; omega) (W.heap.size + 1) (by simp) ?_; intro g' cap w3 hown hgr hat hlt3; obtain ⟨q0, q1, q2, HPM⟩ := push_mid HCO.out hT HN.out (W := W.drew) ((Below.refl _ _).drew) rfl hown ⟨hgr.os, hgr.tape, hgr.output, hgr.size, hgr.block⟩ hat; have z3 := HPM.out.1.a.c3; have z4 := HPM.out.1.a.c4; have z5 := HPM.out.1.a.c5; have zf := HPM.out.1.a.box.free; have hxw := HPM.out.2.aft.whole HX.out HNF.out; have zx := hxw.p0; have zy := hxw.p1; clear hown hgr hat hxw))
    all_goals
      go_wp2
      go_ret
      obtain ⟨hc, ht⟩ := HPM.out
      have hd := hc.done hT (a := c) (b := 1) (fl := 0) (Aft.refl _ _) hc.a.row (fun g hg => .inl hg) ((((OnlyAt.refl p _).setCell 3 _).setCell 4 _).setCell 5 _) (((hc.a.box.set 3 (.int .i64 (c : Nat))).set 4 (.int .i64 1)).set 5 (.int .i64 0))
      exact ⟨rfl, _, hd.1, ((HO2.out.trans (Turn.of_below HB3.out)).trans ht).trans hd.2⟩
theorem quo_need {m K : Nat} (hm : 1 ≤ m) : ((m : Int) - 1) / (K : Int) = (((m - 1) / K : Nat) : Int) := by
  rw [show (m : Int) - 1 = ((m - 1 : Nat) : Int) by omega]
  simp
theorem need_le {m K : Nat} (hm : 1 ≤ m) (hm2 : m < 9223372036854775808) : (m - 1) / K + 1 < 9223372036854775808 := by
  have := Nat.div_le_self (m - 1) K
  omega
theorem need_int (K m : Nat) : ((m - 1 : Nat) : Int) / (K : Int) + 1 = ((need K m : Nat) : Int) := by unfold need; simp
set_option maxHeartbeats 4000000 in
theorem takeRun_no (h : Co w0 w B C K o o' p p' v v' D) (hT : Tab w0) (ho2 : o < 9223372036854775808) (m : Nat) (hm : 1 ≤ m) (hm2 : m < 9223372036854775808) (hE : tkE D.own C o (need K m : Nat) ≠ 0) :
    Calls Tryd.prog 48 #[.pointer (some ⟨p, 0, none⟩), .int .i64 (m : Nat)] w (CoPost (.tuple #[.int .i64 0, .int .i64 (tkE D.own C o (need K m : Nat))]) w0 B C K o o' p p' v v' D w) := by
  have p0 := h.a.c0
  have p1 := h.a.c1
  have hK1 := h.held.st.K1
  have hnl : need K m < 9223372036854775808 := need_le hm hm2
  have F1 := Lib.hid (fun (W : World) (hW : W.heap = w.heap) => take_all (h.held.st.heap hW) (tab_heap h.held.tab hW) (o : Int) (need K m : Nat) (i64_nat ho2) (i64_nat hnl))
  have FW := Lib.hid (words_of h.held.st.size)
  have HH := Lib.hid h
  have HE := Lib.hid hE
  have hq := quo_need (K := K) hm
  have hqe := need_int K m
  have y1 := wrapOk ((m : Int) - 1) (by omega) (by omega)
  have y2 : IntKind.i64.wrap ((((m - 1) / K : Nat) : Int) + 1) = ((need K m : Nat) : Int) := by rw [show (((m - 1) / K : Nat) : Int) + 1 = ((need K m : Nat) : Int) by unfold need; simp]; exact wrapOk _ (by omega) (by omega)
  have y3 : (0 : Int) ≤ (m : Int) - 1 := by omega
  have y4 : ((K : Int) == 0) = false := by simp; omega
  have HQ := Lib.hid hqe
  generalize hEE : tkE D.own C o (need K m : Nat) = E at *
  have HEE := Lib.hid hEE
  have d : (E != 0) = true := by simpa using hE
  clear h hE hEE hqe
  go_enter Tryd.func48, Tryd.ntmps48
  go_wp2_with (first | (go_at_call 40; refine FW.out.mono ?_; rintro e w' ⟨rfl, rfl⟩))
  rw [HQ.out, show wrap64 ((need K m : Nat) : Int) = ((need K m : Nat) : Int) by unfold wrap64; omega]
  generalize hkk : need K m = k at *
  have HKK := Lib.hid hkk
  clear hkk hq y1 y2 y3 y4
  go_region_held3 (fun w' => w'.cell? ⟨p, 0, none⟩ = some (.pointer (some ⟨B.s, 0, none⟩)) ∧ w'.cell? ⟨p, 1, none⟩ = some (.int .i64 (o : Nat))) (simp [go_sem, *])
    (first | (go_at_call 64; refine (F1.out _ (by exact rfl)).mono ?_; rintro e w2 ⟨rfl, ho2', hs2⟩; have HC2 := Lib.hid (HH.out.store hT ⟨ho2'.os, ho2'.tape, ho2'.output, ho2'.size, ho2'.block⟩ hs2); have HO2 := Lib.hid (Co.turn_store (B := B) (p := p) (p' := p') (v := v) (v' := v') (w := w) ⟨ho2'.os, ho2'.tape, ho2'.output, ho2'.size, ho2'.block⟩); have k0 := HC2.out.a.c0; have k1 := HC2.out.a.c1; clear ho2' hs2))
  all_goals
    go_wp2
    go_ret2
    refine ⟨rfl, v, ?_, HO2.out⟩
    have := HC2.out
    obtain ⟨e1, e2, _⟩ := tk_no (K := K) (wd := D.wd) (own := D.own) (C := C) (x := (o : Int)) (n := (k : Nat)) (by rw [HEE.out]; exact HE.out)
    rw [e1, e2] at this
    exact this
set_option maxHeartbeats 4000000 in
set_option maxRecDepth 100000 in
theorem takeRun_ok (h : Co w0 w B C K o o' p p' v v' D) (hT : Tab w0) (ho2 : o < 9223372036854775808) (hlen : D.S.parts.length ≤ 5000) (m : Nat) (hm : 1 ≤ m) (hm2 : m < 9223372036854775808) (hE : tkE D.own C o (need K m : Nat) = 0) :
    Calls Tryd.prog 48 #[.pointer (some ⟨p, 0, none⟩), .int .i64 (m : Nat)] w (CoPost (.tuple #[.int .i64 (tkP D.own C o (need K m : Nat) * K : Nat), .int .i64 0]) w0 B C K o o' p p' v v' ⟨tkOwnA D.own C o (need K m : Nat), tkWdA D.own D.wd C K o (need K m : Nat), ⟨D.S.parts ++ [(tkP D.own C o (need K m : Nat), need K m)], D.S.pr, D.S.fl⟩, D.T⟩ w) := by
  obtain ⟨i0, hi0, hz0, hz1, hz2⟩ := infoPart_parts
  obtain ⟨A, cp, rfl⟩ := h.a.row.slice
  have p0 := h.a.c0
  have p1 := h.a.c1
  have hK1 := h.held.st.K1
  have hK2 := h.held.st.K2
  have hC2 := h.held.st.C2
  have hnl : need K m < 9223372036854775808 := need_le hm hm2
  have hcle : tkP D.own C o (need K m : Nat) ≤ 1024 := by have := (tk_parts hE).2.2.1; omega
  have F1 := fun (W : World) (hW : W.heap = w.heap) => take_all (h.held.st.heap hW) (tab_heap h.held.tab hW) (o : Int) (need K m : Nat) (i64_nat ho2) (i64_nat hnl)
  rw [hE] at F1
  have HF1 := Lib.hid F1
  have FW := Lib.hid (words_of h.held.st.size)
  have hq := quo_need (K := K) hm
  have HQ := Lib.hid (need_int K m)
  have y1 := wrapOk ((m : Int) - 1) (by omega) (by omega)
  have y2 : IntKind.i64.wrap ((((m - 1) / K : Nat) : Int) + 1) = ((need K m : Nat) : Int) := by rw [show (((m - 1) / K : Nat) : Int) + 1 = ((need K m : Nat) : Int) by unfold need; simp]; exact wrapOk _ (by omega) (by omega)
  have y3 : (0 : Int) ≤ (m : Int) - 1 := by omega
  have y4 : ((K : Int) == 0) = false := by simp; omega
  obtain ⟨own, wd, ⟨P, ⟨pa, pb⟩, fl⟩, T⟩ := D
  simp only at h HF1 hlen hcle ⊢
  have HH := Lib.hid h
  obtain ⟨n, hn⟩ : ∃ n, n = P.length := ⟨_, rfl⟩
  rw [← hn] at HH hlen ⊢
  have HN := Lib.hid hn
  generalize tkP own C o (need K m : Nat) = c at *
  generalize tkOwnA own C o (need K m : Nat) = own2 at *
  generalize tkWdA own wd C K o (need K m : Nat) = wd2 at *
  clear h hE F1 hn
  go_enter Tryd.func48, Tryd.ntmps48
  go_wp2_with (first | (go_at_call 40; refine FW.out.mono ?_; rintro e w' ⟨rfl, rfl⟩))
  rw [HQ.out, show wrap64 ((need K m : Nat) : Int) = ((need K m : Nat) : Int) by unfold wrap64; omega]
  generalize hkk : need K m = k at *
  clear hkk hq y1 y2 y3 y4
  go_region_held3 (fun w' => w'.cell? ⟨p, 0, none⟩ = some (.pointer (some ⟨B.s, 0, none⟩)) ∧ w'.cell? ⟨p, 1, none⟩ = some (.int .i64 (o : Nat))) (simp [go_sem, *])
    (first | (go_at_call 64; refine (HF1.out _ (by exact rfl)).mono ?_; rintro e w2 ⟨rfl, ho2', hs2⟩; have HC2 := Lib.hid (HH.out.store hT ⟨ho2'.os, ho2'.tape, ho2'.output, ho2'.size, ho2'.block⟩ hs2); have HO2 := Lib.hid (Co.turn_store (B := B) (p := p) (p' := p') (v := .slice A n cp) (v' := v') (w := w) ⟨ho2'.os, ho2'.tape, ho2'.output, ho2'.size, ho2'.block⟩); have k0 := HC2.out.a.c0; have k1 := HC2.out.a.c1; clear ho2' hs2))
  all_goals
    clear p0 p1 k0 k1
    go_wp2_with fail
    have hb3 := (Below.refl w2.heap.size w2).alloc (Nat.le_refl _) (.cells #[.int .i64 (c : Nat), .int .i64 (k : Nat)] 77)
    have hco3 := HC2.out.later hT hb3
    have hx3 := Whole.fresh w2 77 #[.int .i64 (c : Nat), .int .i64 (k : Nat)]
    have hnF : w2.heap.size ∉ coF B p p' (.slice A n cp) v' := fun hx => by have := (HC2.out.win _ hx).2; omega
    obtain ⟨W, hW⟩ : ∃ W, W = w2.alloc (.cells #[.int .i64 (c : Nat), .int .i64 (k : Nat)] 77) := ⟨_, rfl⟩
    rw [← hW] at hb3 hco3 hx3 ⊢
    have HCO := Lib.hid hco3
    have HX := Lib.hid hx3
    have HNF := Lib.hid hnF
    have HB3 := Lib.hid hb3
    have x0 := hx3.p0
    have x1 := hx3.p1
    have p2 := hco3.a.c2
    have p2a := fun ob => bcellB ((Below.refl W.heap.size W).alloc (Nat.le_refl _) ob) p2
    have hbs : w0.heap.size ≤ W.heap.size := hco3.bel.size
    clear hb3 hco3 hx3 hnF hW
    go_region_law (first
      | (refine step_append_lies _ rfl (.tmp 42) (.tmp 44) 75 rfl w0.heap.size 77 i0 _ 2 16 Tryd.underlying75 hi0 hz0 hz1 hz2 rfl (by decide) (.slice A n cp) n (flatP P) (by simp [Act.eval]) (own_drew ((show W.ownsRow w0.heap.size 77 2 (.slice A n cp) n (flatP P) by have := HCO.out.a.row; unfold PR at this; rw [← HN.out] at this; exact this).alloc _)) ⟨W.heap.size, 0, none⟩ 1 1 [.int .i64 (c : Nat), .int .i64 (k : Nat)] (by simp [Act.eval]) rfl (World.news_of_block (heap_new_drew W _)) (by simp [Value.oneCell']) (by decide) (by unfold maxLen; omega) (by omega) (by simp; omega) (W.heap.size + 1) (by simp) ?_; intro g' cap w3 hown hgr hat hlt3; obtain ⟨q0, q1, q2, HPM⟩ := push_mid HCO.out hT HN.out (W := W.drew) ((Below.refl _ _).drew) rfl hown ⟨hgr.os, hgr.tape, hgr.output, hgr.size, hgr.block⟩ hat; have hxw := HPM.out.2.aft.whole HX.out HNF.out; have zx := hxw.p0; have zy := hxw.p1; clear hown hgr hat hxw))
    all_goals
      go_wp2_with (first | (go_at_call 50; refine (address_any HPM.out.1.a.c0 HPM.out.1.held.st.size c k hcle hK2).mono ?_; rintro e w5 ⟨rfl, hb5⟩; have HB5 := Lib.hid hb5; clear hb5))
      go_ret2
      obtain ⟨hc, ht⟩ := HPM.out
      exact ⟨rfl, _, hc.later hT HB5.out, ((HO2.out.trans (Turn.of_below HB3.out)).trans ht).trans (Turn.of_below HB5.out)⟩
end
end Go.Proofs.YteencfldehcbbaaDoor
