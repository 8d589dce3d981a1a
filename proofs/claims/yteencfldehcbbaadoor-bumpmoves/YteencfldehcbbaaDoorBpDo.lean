/- The law package's do. -/
import Derived.Test.YteencfldehcbbaaDoorBpYd
import Derived.Deep.DeepCutAuto
namespace Go.Proofs.YteencfldehcbbaaDoor
open Go.RowKit Go.Sort BP
set_option linter.unusedVariables false

theorem RowPost.got {xs : List Nat} {w w' : World} {e : Ending} (h : RowPost xs w e w') : ∃ A c, e = .returned (.slice A xs.length c) ∧ IS w' (.slice A xs.length c) xs ∧ Below w.heap.size w w' ∧ (∀ a, A = some a → w.heap.size ≤ a.block ∧ a.block < w'.heap.size) := by
  obtain ⟨v, rfl, hown, hb⟩ := h
  obtain ⟨A, c, rfl, hc⟩ := IS.of_owns hown
  refine ⟨A, c, rfl, ⟨A, c, rfl, hc⟩, hb, fun a ha => ?_⟩
  rcases hown.2 with ⟨e, _⟩ | ⟨g, cap, cur, e, hg, hh, _⟩
  · injection e with e1
    rw [e1] at ha; cases ha
  · injection e with e1
    rw [e1] at ha
    injection ha with ha
    subst ha
    exact ⟨hg, (Array.getElem?_eq_some_iff.1 hh).1⟩
theorem Ro.chunks {w0 w : World} {R : RB} {C K o o' p p' : Nat} {v v' : Value} {D : Dt} (h : Ro w0 w R C K o o' p p' v v' D) (hG : BP.Good C K o D.own D.S) : Calls Tryd.prog 17 #[.pointer (some ⟨p, 0, none⟩)] w (RowPost (chunks D.S.parts) w) := by
  have hC := h.rf.C2
  obtain ⟨h1, h2⟩ := parts_le hG hC
  exact rchunks_any h.a h1 h2 (by have := hG.clen; omega)
section
variable {w0 w : World} {B : SB} {R : RB} {C K o o' p p' r r' : Nat} {s s' t t' : Value} {D : Dt}
set_option maxHeartbeats 8000000 in
set_option maxRecDepth 100000 in
theorem bdo_any (h : Yd w0 w B R C K o o' p p' r r' s s' t t' D D) (hT : Tab w0) (hG : Good2 C K o o' D) (ho : o < 9223372036854775808) (ho' : o' < 9223372036854775808) (k a n : Int) (raw : Bool) (a0 a1 b0 b1 : Nat)
    (hi : (a % 2 = 0 ∧ a0 = p ∧ a1 = p' ∧ b0 = r ∧ b1 = r') ∨ (a % 2 = 1 ∧ a0 = p' ∧ a1 = p ∧ b0 = r' ∧ b1 = r)) (hn : -9223372036854775808 ≤ n ∧ n ≤ 9223372036854775807) (hk : k = 0 → n ≤ 100000) :
    Calls Tryd.prog 14 #[.agg #[.int .i64 k, .int .i64 a, .int .i64 n, .bool raw], .agg #[.pointer (some ⟨a0, 0, none⟩), .pointer (some ⟨a1, 0, none⟩)], .agg #[.pointer (some ⟨b0, 0, none⟩), .pointer (some ⟨b1, 0, none⟩)]] w (YdPost w0 B R C K o o' p p' r r' s s' t t' w) := by
  have hx0 := Whole.fresh w 36 #[.int .i64 k, .int .i64 a, .int .i64 n, .bool raw]
  obtain ⟨w1, hw1⟩ : ∃ w1, w1 = w.alloc (.cells #[.int .i64 k, .int .i64 a, .int .i64 n, .bool raw] 36) := ⟨_, rfl⟩
  have hs1 : w1.heap.size = w.heap.size + 1 := by rw [hw1]; simp
  obtain ⟨w2, hw2⟩ : ∃ w2, w2 = w1.alloc (.cells #[.pointer (some ⟨a0, 0, none⟩), .pointer (some ⟨a1, 0, none⟩)] 27) := ⟨_, rfl⟩
  have hs2 : w2.heap.size = w.heap.size + 2 := by rw [hw2]; simp; omega
  obtain ⟨w3, hw3⟩ : ∃ w3, w3 = w2.alloc (.cells #[.pointer (some ⟨b0, 0, none⟩), .pointer (some ⟨b1, 0, none⟩)] 34) := ⟨_, rfl⟩
  have hx1 : Whole w2 (w.heap.size + 1) 27 #[.pointer (some ⟨a0, 0, none⟩), .pointer (some ⟨a1, 0, none⟩)] := by rw [hw2]; exact Whole.fresh' hs1.symm
  have hx2 : Whole w3 (w.heap.size + 2) 34 #[.pointer (some ⟨b0, 0, none⟩), .pointer (some ⟨b1, 0, none⟩)] := by rw [hw3]; exact Whole.fresh' hs2.symm
  rw [← hw1] at hx0
  have hy0 : Whole w3 w.heap.size 36 #[.int .i64 k, .int .i64 a, .int .i64 n, .bool raw] := by rw [hw3, hw2]; exact (hx0.alloc _).alloc _
  have hy1 : Whole w3 (w.heap.size + 1) 27 #[.pointer (some ⟨a0, 0, none⟩), .pointer (some ⟨a1, 0, none⟩)] := by rw [hw3]; exact hx1.alloc _
  have hb : Below w.heap.size w w3 := by rw [hw3, hw2, hw1]; exact (((Below.refl _ _).alloc (Nat.le_refl _) _).alloc (by simp) _).alloc (by simp; omega) _
  have x0 := (hy0.cell 0).trans rfl
  have x1 := (hy0.cell 1).trans rfl
  have x2 := (hy0.cell 2).trans rfl
  have x3 := (hy0.cell 3).trans rfl
  have z0 := hy1.p0
  have z1 := hy1.p1
  have y0 := hx2.p0
  have y1 := hx2.p1
  have HH := Lib.hid h
  have HG := Lib.hid hG
  have HK := Lib.hid hk
  have HX := Lib.hid (show Yd w0 w3 B R C K o o' p p' r r' s s' t t' D D ∧ Turn (ydF B R p p' r r' s s' t t') (ydF B R p p' r r' s s' t t') w w3 ∧ Whole w3 w.heap.size 36 #[.int .i64 k, .int .i64 a, .int .i64 n, .bool raw] from ⟨h.later hT hb, Turn.of_below hb, hy0⟩)
  clear h hG hk hx0 hx1 hx2 hy0 hy1 hb hs1 hs2
  go_enter Tryd.func14, Tryd.ntmps14
  go_upto_region 2 with (fail)
  rw [← hw1, ← hw2, ← hw3]
  clear hw1 hw2 hw3
  have e1 := and_one a
  go_cut [8, 9] (fun x y wc => x = .pointer (some ⟨p, 0, none⟩) ∧ y = .pointer (some ⟨p', 0, none⟩) ∧ ∃ m, wc = w3.drewN m)
  case first =>
    rcases hi with ⟨ha, rfl, rfl, rfl, rfl⟩ | ⟨ha, rfl, rfl, rfl, rfl⟩
    all_goals
      rw [ha] at e1
      clear ha HH HG HK HX
      go_quiet (fail)
      go_wp2
      go_meet
      exact ⟨rfl, rfl, _, rfl⟩
  case rest =>
    obtain ⟨rfl, rfl, m, rfl⟩ := hcut
    go_upto_region 3 with (fail)
    go_cut [10, 11] (fun x y wc => x = .pointer (some ⟨r, 0, none⟩) ∧ y = .pointer (some ⟨r', 0, none⟩) ∧ ∃ m2, wc = (w3.drewN m).drewN m2)
    case first =>
      have y0' : (w3.drewN m).cell? ⟨w.heap.size + 2, 0, none⟩ = some (.pointer (some ⟨b0, 0, none⟩)) := y0
      have y1' : (w3.drewN m).cell? ⟨w.heap.size + 2, 1, none⟩ = some (.pointer (some ⟨b1, 0, none⟩)) := y1
      rcases hi with ⟨ha, rfl, rfl, rfl, rfl⟩ | ⟨ha, rfl, rfl, rfl, rfl⟩
      all_goals
        rw [ha] at e1
        clear ha HH HG HK HX
        go_quiet (fail)
        go_wp2
        go_meet
        exact ⟨rfl, rfl, _, rfl⟩
    case rest =>
      obtain ⟨rfl, rfl, m2, rfl⟩ := hcut
      have hb4 : Below w3.heap.size w3 ((w3.drewN m).drewN m2) := below_drewN (below_drewN (Below.refl _ _) m) m2
      have hx4 := HX.out.2.2.below hb4 HX.out.2.2.lt
      have HY4 := Lib.hid (show Yd w0 ((w3.drewN m).drewN m2) B R C K o o' p p' r r' s s' t t' D D ∧ Turn (ydF B R p p' r r' s s' t t') (ydF B R p p' r r' s s' t t') w ((w3.drewN m).drewN m2) from ⟨HX.out.1.later hT hb4, HX.out.2.1.trans (Turn.of_below hb4)⟩)
      obtain ⟨w4, hw4⟩ : ∃ w4, w4 = (w3.drewN m).drewN m2 := ⟨_, rfl⟩
      rw [← hw4] at hx4 HY4 ⊢
      clear x0 x1 x2 x3 y0 y1 z0 z1 HX hi e1 hb4 hw4
      have x2 := (hx4.cell 2).trans rfl
      have HX4 := Lib.hid hx4
      have HCH := Lib.hid (HY4.out.1.ro.chunks HG.out.a)
      clear hx4
      go_wp2_with fail
      refine HCH.out.mono ?_
      intro e w5 hrow
      obtain ⟨A, cA, rfl, hIS, hb5, hA⟩ := hrow.got
      have hx5 := HX4.out.below hb5 HX4.out.lt
      have HX5 := Lib.hid hx5
      have HY5 := Lib.hid (show Yd w0 w5 B R C K o o' p p' r r' s s' t t' D D ∧ Turn (ydF B R p p' r r' s s' t t') (ydF B R p p' r r' s s' t t') w w5 from ⟨HY4.out.1.later hT hb5, HY4.out.2.trans (Turn.of_below hb5)⟩)
      have hcl := HG.out.a.clen
      have hC2 := HY5.out.1.ro.rf.C2
      have hcb : ∀ (i x : Nat), (chunks D.S.parts)[i]? = some x → x ≤ 1024 := fun i x hx => by have := (HG.out.a.has x (List.mem_of_getElem? hx)).1; omega
      obtain ⟨N, hN⟩ : ∃ N, N = (chunks D.S.parts).length := ⟨_, rfl⟩
      have hIS' := hIS
      rw [← hN] at hIS hcl ⊢
      have HN := Lib.hid hN
      have HIS := Lib.hid hIS
      have HCB := Lib.hid hcb
      have x0 := (hx5.cell 0).trans rfl
      have x3 := (hx5.cell 3).trans rfl
      clear x2 HCH HX4 HY4 hrow hA hb5 hx5 hcb hIS hIS' hN
      have x2 := (HX5.out.cell 2).trans rfl
      go_upto_region 6 with (fail)
      go_cut [51] (fun x wc => (∃ c : Bool, x = .bool c ∧ (c = true → 0 < N)) ∧ w5 = wc)
      case first =>
        have hcs : (raw = true) ∨ (raw = false ∧ k ≤ 1) ∨ (raw = false ∧ 1 < k ∧ N = 0) ∨ (raw = false ∧ 1 < k ∧ 0 < N) := by
          cases raw
          · by_cases h1 : 1 < k
            · rcases Nat.eq_zero_or_pos N with h2 | h2
              · exact .inr (.inr (.inl ⟨rfl, h1, h2⟩))
              · exact .inr (.inr (.inr ⟨rfl, h1, h2⟩))
            · exact .inr (.inl ⟨rfl, by omega⟩)
          · exact .inl rfl
        clear HIS HCB HN HX5 HY5 HG HH HK
        rcases hcs with rfl | ⟨rfl, h1⟩ | ⟨rfl, h1, rfl⟩ | ⟨rfl, h1, h2⟩
        · go_wp2
          go_meet
          exact ⟨⟨_, rfl, by simp⟩, rfl⟩
        · go_wp2
          go_meet
          exact ⟨⟨_, rfl, by simp⟩, rfl⟩
        · go_wp2
          go_meet
          exact ⟨⟨_, rfl, by simp⟩, rfl⟩
        · go_wp2
          go_meet
          exact ⟨⟨_, rfl, fun _ => h2⟩, rfl⟩
      case rest =>
        obtain ⟨⟨c, rfl, hc⟩, rfl⟩ := hcut
        go_upto_if 51 with (fail)
        go_cut [12] (fun x wc => (∃ z : Int, x = .int .i64 z ∧ -9223372036854775808 ≤ z ∧ z ≤ 9223372036854775807) ∧ w5 = wc)
        case first =>
          cases c
          · go_wp2
            go_meet
            exact ⟨⟨n, rfl, hn⟩, rfl⟩
          · have h0 := hc rfl
            obtain ⟨q, hq1, hq2⟩ := uint_rem n N h0 (by omega)
            obtain ⟨x, hx⟩ : ∃ x, (chunks D.S.parts)[q]? = some x := ⟨(chunks D.S.parts)[q]'(by rw [← HN.out]; exact hq1), by simp⟩
            obtain ⟨A2, c2, e2, hcell⟩ := HIS.out
            injection e2 with e2 e3 e4
            subst e2 e4
            obtain ⟨g, off, rfl, r0⟩ := hcell q x hx
            have hxb := HCB.out q x hx
            have dz : ((N : Int) == 0) = false := by simp; omega
            have yN : IntKind.u64.wrap (N : Int) = (N : Int) := by rw [IntKind.wrap_u64]; omega
            have yN0 : ¬ (N : Int) = 0 := by omega
            have yN1 : ¬ N = 0 := by omega
            clear hx hcell e3 HIS HCB HN hc HK HX5 HY5
            go_wp2
            go_meet
            exact ⟨⟨x, rfl, by omega, by omega⟩, rfl⟩
        case rest =>
          obtain ⟨⟨z, rfl, hz1, hz2⟩, rfl⟩ := hcut
          have hnF : w.heap.size ∉ ydF B R p p' r r' s s' t t' := HH.out.not (Nat.le_refl _)
          have HNF := Lib.hid hnF
          have hkc : k = 0 ∨ k = 1 ∨ k = 2 ∨ k = 3 ∨ k = 4 ∨ (k < 0 ∨ 4 < k) := by omega
          have HBN := Lib.hid hn
          clear hc hnF HIS HCB HN x3 hn
          have hK1 := HY5.out.1.ro.rf.K1
          rcases hkc with rfl | rfl | rfl | rfl | rfl | hk9
          · have HA := Lib.hid (alloc_any HY5.out.1.co hT HG.out ho n HBN.out.2)
            have HB := Lib.hid (fun W t1 t1' (h : Ro w0 W R C K o o' r r' t1 t1' D) => ralloc_any h HG.out ho n (HK.out rfl))
            have HG1 := Lib.hid (alloc_good hK1 HG.out n)
            generalize alA C K o D n = xA at *
            generalize alE C K o D n = eA at *
            generalize alD C K o D n = D1 at *
            clear HK
            go_wp2_with (first
              | (go_at_call 26; refine HA.out.mono ?_; rintro e w6 ⟨rfl, u6, hc6, ht6⟩; have hy6 := HY5.out.1.code hc6 ht6; have hx6 := hy6.2.keep HX5.out HNF.out; have k2 := (hx6.cell 2).trans rfl; have HY6 := Lib.hid hy6; have HB6 := Lib.hid (HB.out _ _ _ hy6.1.ro); clear hc6 ht6 hy6 hx6)
              | (go_at_call 34; refine HB6.out.mono ?_; rintro e w7 ⟨rfl, u7, hc7, ht7⟩; have HY7 := Lib.hid (HY6.out.1.doc hT hc7 ht7); clear hc7 ht7))
            go_ret
            exact ⟨rfl, _, _, _, _, D1, HY7.out.1, HG1.out, (HY5.out.2.trans HY6.out.2).trans HY7.out.2⟩
          · have HB := Lib.hid (rjoin_any HY5.out.1.ro HG.out ho)
            have HA := Lib.hid (fun W t1 t1' (h : Co w0 W B C K o o' p p' t1 t1' D) => join_any h hT HG.out ho)
            have HG1 := Lib.hid (join_good HG.out)
            generalize joinD o D = D1 at *
            clear HK
            go_wp2_with (first
              | (go_at_call 35; refine HB.out.mono ?_; rintro e w6 ⟨rfl, u6, v6, hc6, ht6⟩; have hy6 := HY5.out.1.doc hT hc6 ht6; have HY6 := Lib.hid hy6; have HA6 := Lib.hid (HA.out _ _ _ hy6.1.co); clear hc6 ht6 hy6)
              | (go_at_call 28; refine HA6.out.mono ?_; rintro e w7 ⟨rfl, u7, v7, hc7, ht7⟩; have HY7 := Lib.hid (HY6.out.1.code hc7 ht7); clear hc7 ht7))
            go_ret
            exact ⟨rfl, _, _, _, _, D1, HY7.out.1, HG1.out, (HY5.out.2.trans HY6.out.2).trans HY7.out.2⟩
          · have HA := Lib.hid (hand_any HY5.out.1.co hT HG.out ho' z)
            have HB := Lib.hid (fun W t1 t1' (h : Ro w0 W R C K o o' r r' t1 t1' D) => rhand_any h HG.out ho' z)
            have HG1 := Lib.hid (hand_good HG.out z)
            generalize handE D z = eA at *
            generalize handD o' D z = D1 at *
            clear HK
            go_wp2_with (first
              | (go_at_call 29; refine HA.out.mono ?_; rintro e w6 ⟨rfl, u6, v6, hc6, ht6⟩; have hy6 := HY5.out.1.code hc6 ht6; have HY6 := Lib.hid hy6; have HB6 := Lib.hid (HB.out _ _ _ hy6.1.ro); clear hc6 ht6 hy6)
              | (go_at_call 36; refine HB6.out.mono ?_; rintro e w7 ⟨rfl, u7, v7, hc7, ht7⟩; have HY7 := Lib.hid (HY6.out.1.doc hT hc7 ht7); clear hc7 ht7))
            go_ret
            exact ⟨rfl, _, _, _, _, D1, HY7.out.1, HG1.out, (HY5.out.2.trans HY6.out.2).trans HY7.out.2⟩
          · have HA := Lib.hid (drop_any HY5.out.1.co hT HG.out.a HG.out.o1 z)
            have HB := Lib.hid (fun W t1 t1' (h : Ro w0 W R C K o o' r r' t1 t1' D) => rdrop_any h HG.out.a HG.out.o1 z)
            have HG1 := Lib.hid (drop_good HG.out z)
            generalize dropE D z = eA at *
            generalize dropD D z = D1 at *
            clear HK
            go_wp2_with (first
              | (go_at_call 30; refine HA.out.mono ?_; rintro e w6 ⟨rfl, u6, hc6, ht6⟩; have hy6 := HY5.out.1.code hc6 ht6; have HY6 := Lib.hid hy6; have HB6 := Lib.hid (HB.out _ _ _ hy6.1.ro); clear hc6 ht6 hy6)
              | (go_at_call 37; refine HB6.out.mono ?_; rintro e w7 ⟨rfl, u7, hc7, ht7⟩; have HY7 := Lib.hid (HY6.out.1.doc hT hc7 ht7); clear hc7 ht7))
            go_ret
            exact ⟨rfl, _, _, _, _, D1, HY7.out.1, HG1.out, (HY5.out.2.trans HY6.out.2).trans HY7.out.2⟩
          · have HA := Lib.hid (clear_any' HY5.out.1.co hT HG.out.a HG.out.o1)
            have HB := Lib.hid (fun W t1 t1' (h : Ro w0 W R C K o o' r r' t1 t1' D) => rclear_any h HG.out)
            have HG1 := Lib.hid (clear_good HG.out)
            generalize clearD D = D1 at *
            clear HK
            go_wp2_with (first
              | (go_at_call 25; refine HA.out.mono ?_; rintro e w6 ⟨rfl, u6, hc6, ht6⟩; have hy6 := HY5.out.1.code hc6 ht6; have HY6 := Lib.hid hy6; have HB6 := Lib.hid (HB.out _ _ _ hy6.1.ro); clear hc6 ht6 hy6)
              | (go_at_call 38; refine HB6.out.mono ?_; rintro e w7 ⟨rfl, u7, hc7, ht7⟩; have HY7 := Lib.hid (HY6.out.1.doc hT hc7 ht7); clear hc7 ht7))
            go_ret
            exact ⟨rfl, _, _, _, _, D1, HY7.out.1, HG1.out, (HY5.out.2.trans HY6.out.2).trans HY7.out.2⟩
          · have d0 : (k == 0) = false := by simp; omega
            have d1 : (k == 1) = false := by simp; omega
            have d2 : (k == 2) = false := by simp; omega
            have d3 : (k == 3) = false := by simp; omega
            have d4 : (k == 4) = false := by simp; omega
            clear HK hk9
            go_wp2
            go_ret
            exact ⟨rfl, _, _, _, _, D, HY5.out.1, HG.out, HY5.out.2⟩
end
end Go.Proofs.YteencfldehcbbaaDoor
