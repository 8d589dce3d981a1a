/- The law BumpNews. -/
import Derived.Test.YteencfldehcbbaaDoorBpNewW
import Derived.Test.YteencfldehcbbaaDoorBpSl
namespace Go.Proofs.YteencfldehcbbaaDoor
open Go.RowKit Go.Sort BP
set_option linter.unusedVariables false

theorem own_mono {w : World} {base base' n k : Nat} {t : TypeId} {v : Value} {xs : List Value} (h : w.ownsRow base t k v n xs) (hb : base' ≤ base) : w.ownsRow base' t k v n xs := by
  refine ⟨h.1, ?_⟩
  rcases h.2 with h0 | ⟨g, cap, cur, rfl, hg, hh, hn, hm, hs, ht⟩
  · exact .inl h0
  · exact .inr ⟨g, cap, cur, rfl, Nat.le_trans hb hg, hh, hn, hm, hs, ht⟩
section
variable {w0 w : World} {B : SB} {C K o o' p p' : Nat} {v v' : Value} {D : Dt}
theorem Co.base {w1 : World} (h : Co w1 w B C K o o' p p' v v' D) (hT : Tab w0) (hb : Below w0.heap.size w0 w1) : Co w0 w B C K o o' p p' v v' D := by
  have hs := hb.size
  obtain ⟨⟨a1, a2⟩, ⟨b1, b2⟩, ⟨c1, c2⟩, ⟨d1, d2⟩, e1, e2⟩ := h.held.win
  exact ⟨⟨h.held.st, hb.trans (h.held.bel.mono hs), ⟨⟨by omega, a2⟩, ⟨by omega, b2⟩, ⟨by omega, c2⟩, ⟨by omega, d2⟩, by omega, e2⟩, h.held.tab⟩, ⟨h.a.box, own_mono h.a.row hs, Nat.le_trans hs h.a.lo⟩, ⟨h.b.box, own_mono h.b.row hs, Nat.le_trans hs h.b.lo⟩, h.ne, h.rows, h.out⟩
end
/-- What BumpNews looks at. -/
structure Nw (w0 w : World) (B B2 : SB) (p p' q q' bx by_ : Nat) : Prop where
  co : Co w0 w B 4 4 1 2 p p' (.slice none 0 0) (.slice none 0 0) d0
  co2 : Co w0 w B2 4 4 1 2 q q' (.slice none 0 0) (.slice none 0 0) d0
  s : ∃ cs, Whole w B.s 84 cs
  t : ∃ cs, Whole w B2.s 84 cs
  st : B2.s ≠ B.s
  pq : q ≠ p
  pq' : q' ≠ p
  x : Whole w bx 27 #[.pointer (some ⟨p, 0, none⟩), .pointer (some ⟨p', 0, none⟩)]
  y : Whole w by_ 27 #[.pointer (some ⟨q, 0, none⟩), .pointer (some ⟨q', 0, none⟩)]
  nox : bx ∉ coF B p p' (.slice none 0 0) (.slice none 0 0)
section
variable {w0 w w' : World} {B B2 : SB} {p p' q q' bx by_ : Nat}
theorem Nw.later (h : Nw w0 w B B2 p p' q q' bx by_) (hT : Tab w0) (hb : Below w.heap.size w w') : Nw w0 w' B B2 p p' q q' bx by_ := by
  obtain ⟨cs, hs⟩ := h.s
  obtain ⟨ct, ht⟩ := h.t
  exact ⟨h.co.later hT hb, h.co2.later hT hb, ⟨cs, hs.below hb hs.lt⟩, ⟨ct, ht.below hb ht.lt⟩, h.st, h.pq, h.pq', h.x.below hb h.x.lt, h.y.below hb h.y.lt, h.nox⟩
theorem Nw.join_far (h : Nw w0 w B B2 p p' q q' bx by_) : Calls Tryd.prog 28 #[.pointer (some ⟨p, 0, none⟩), .pointer (some ⟨q, 0, none⟩)] w fun e w' => e = .returned (.int .i64 2) ∧ Below w.heap.size w w' := by
  obtain ⟨cs, hs⟩ := h.s
  obtain ⟨ct, ht⟩ := h.t
  exact join_err _ _ 2 (by decide) w (may_far h.co.a.c0 h.co2.a.c0 h.pq h.co.a.box h.co2.a.box hs ht h.st)
theorem Nw.hand_far (h : Nw w0 w B B2 p p' q q' bx by_) : Calls Tryd.prog 29 #[.pointer (some ⟨p, 0, none⟩), .pointer (some ⟨q', 0, none⟩), .int .i64 0] w fun e w' => e = .returned (.int .i64 2) ∧ Below w.heap.size w w' := by
  obtain ⟨cs, hs⟩ := h.s
  obtain ⟨ct, ht⟩ := h.t
  exact hand_err _ _ 0 2 (by decide) w (may_far h.co.a.c0 h.co2.b.c0 h.pq' h.co.a.box h.co2.b.box hs ht h.st)
end
theorem chunksNil_below (w : World) : Calls Tryd.prog 16 #[.pointer none] w fun e w' => e = .returned (.slice none 0 0) ∧ Below w.heap.size w w' :=
  (chunks_nil' w).mono fun _ _ ⟨e, h⟩ => ⟨e, by subst h; exact Below.refl _ _⟩
theorem d0_hand : handE d0 0 = 6 ∧ handD 2 d0 0 = d0 := ⟨rfl, rfl⟩
theorem d0_drop : dropE d0 0 = 6 ∧ dropD d0 0 = d0 := ⟨rfl, rfl⟩
set_option maxHeartbeats 16000000 in
set_option maxRecDepth 100000 in
theorem news_walk (o : Int) (w : World) (ho : -9223372036854775808 ≤ o ∧ o ≤ 9223372036854775807) (hT : Tab w) :
    Calls Tryd.prog 4 #[.int .i64 o] w fun e w' => e = .returned (.bool true) ∧ Below w.heap.size w w' := by
  have HM := Lib.hid (fun W (hb : Below w.heap.size w W) => (show Calls Tryd.prog 11 #[.int .i64 4, .int .i64 4] W (BMadePostW 4 4 W) from madeW_ok 4 4 W (hT.below hb hT.pos) (by decide) (by decide) (by decide) (by decide)))
  have HAL := Lib.hid (fun W (hb : Below w.heap.size w W) => balive_any W (hT.below hb hT.pos))
  go_enter Tryd.func4, Tryd.ntmps4
  go_wp2_with fail
  refine (clear_nil w).mono ?_
  rintro e w1 ⟨rfl, hb1⟩
  have B1 := Lib.hid hb1
  clear hb1
  go_wp2_with fail
  refine (alloc_nil w1 1).mono ?_
  rintro e w2 ⟨rfl, hb2⟩
  have B2' := Lib.hid (B1.out.trans (hb2.mono B1.out.size))
  clear hb2
  go_wp2_with fail
  refine (bnew_nil w2 1).mono ?_
  rintro e w3 ⟨rfl, hb3⟩
  have B3 := Lib.hid (B2'.out.trans (hb3.mono B2'.out.size))
  clear hb3 B1 B2'
  go_wp2_with fail
  refine (HM.out w3 B3.out).mono ?_
  rintro e w4 ⟨B, p, p', rfl, hcs, hc4⟩
  obtain ⟨wa, ha⟩ : ∃ wa, wa = w4.alloc (.cells #[.pointer (some ⟨p, 0, none⟩), .pointer (some ⟨p', 0, none⟩)] 27) := ⟨_, rfl⟩
  have hba : Below w4.heap.size w4 wa := by rw [ha]; exact (Below.refl _ _).alloc (Nat.le_refl _) _
  have hxa : Whole wa w4.heap.size 27 #[.pointer (some ⟨p, 0, none⟩), .pointer (some ⟨p', 0, none⟩)] := by rw [ha]; exact Whole.fresh _ _ _
  have HC4 := Lib.hid (hc4.base hT B3.out)
  have HNO := Lib.hid (hc4.not (Nat.le_refl _))
  have HCS := Lib.hid hcs
  have HBA := Lib.hid hba
  have HXA := Lib.hid hxa
  have HA := Lib.hid ha
  clear hba hxa hc4 hcs ha
  go_wp2_with fail
  rw [← HA.out]
  refine (HM.out wa (HC4.out.bel.trans (HBA.out.mono HC4.out.bel.size))).mono ?_
  rintro e w5 ⟨B2, q, q', rfl, hct, hc5⟩
  have hN : Nw w (w5.alloc (.cells #[.pointer (some ⟨q, 0, none⟩), .pointer (some ⟨q', 0, none⟩)] 27)) B B2 p p' q q' w4.heap.size w5.heap.size := by
    have hbl := HC4.out.bel.trans (HBA.out.mono HC4.out.bel.size)
    have h45 : Below w4.heap.size w4 w5 := HBA.out.trans (hc5.bel.mono HBA.out.size)
    have hb5 := (Below.refl w5.heap.size w5).alloc (Nat.le_refl _) (.cells #[.pointer (some ⟨q, 0, none⟩), .pointer (some ⟨q', 0, none⟩)] 27)
    have h46 := h45.trans (hb5.mono h45.size)
    have hwas := HBA.out.size
    obtain ⟨cs, hs⟩ := HCS.out
    obtain ⟨ct, ht⟩ := hct
    have ls := hs.lt
    have lp := HC4.out.a.box.lt
    have l2 := (hc5.held.win.mem (x := B2.s) (by simp [SB.bl])).1
    have l3 := hc5.a.lo
    have l4 := hc5.b.lo
    have hx5 := HXA.out.below hc5.bel HXA.out.lt
    exact ⟨HC4.out.later hT h46, (hc5.base hT hbl).later hT hb5, ⟨cs, hs.below h46 ls⟩, ⟨ct, ht.below hb5 ht.lt⟩, by omega, by omega, by omega, hx5.below hb5 hx5.lt, Whole.fresh _ _ _, HNO.out⟩
  have HN := Lib.hid hN
  have y0 := hN.x.p0
  have y1 := hN.x.p1
  have z0 := hN.y.p0
  have z1 := hN.y.p1
  have hbs : B.s < B.s + 1 := Nat.lt_succ_self _
  clear hN hc5 hct HM HC4 HNO HCS HBA HXA HA
  go_wp2_with (first
    | (go_at_call 9; with_reducible refine (HAL.out _ HN.out.co.bel).mono ?_; rintro e wx ⟨rfl, hbx⟩; have HN := Lib.hid (HN.out.later hT hbx); have y0 := HN.out.x.p0; have y1 := HN.out.x.p1; have z0 := HN.out.y.p0; have z1 := HN.out.y.p1; clear hbx)
    | (go_at_call 28; with_reducible refine (join_err none _ 1 (by decide) _ (may_nil _ _)).mono ?_; rintro e wx ⟨rfl, hbx⟩; have HN := Lib.hid (HN.out.later hT hbx); have y0 := HN.out.x.p0; have y1 := HN.out.x.p1; have z0 := HN.out.y.p0; have z1 := HN.out.y.p1; clear hbx)
    | (go_at_call 29; with_reducible refine (hand_err none _ 0 1 (by decide) _ (may_nil _ _)).mono ?_; rintro e wx ⟨rfl, hbx⟩; have HN := Lib.hid (HN.out.later hT hbx); have y0 := HN.out.x.p0; have y1 := HN.out.x.p1; have z0 := HN.out.y.p0; have z1 := HN.out.y.p1; clear hbx)
    | (go_at_call 30; with_reducible refine (drop_nil _ 0).mono ?_; rintro e wx ⟨rfl, hbx⟩; have HN := Lib.hid (HN.out.later hT hbx); have y0 := HN.out.x.p0; have y1 := HN.out.x.p1; have z0 := HN.out.y.p0; have z1 := HN.out.y.p1; clear hbx)
    | (go_at_call 18; with_reducible refine (room_nil _).mono ?_; rintro e wx ⟨rfl, hbx⟩; have HN := Lib.hid (HN.out.later hT hbx); have y0 := HN.out.x.p0; have y1 := HN.out.x.p1; have z0 := HN.out.y.p0; have z1 := HN.out.y.p1; clear hbx)
    | (go_at_call 16; with_reducible refine (chunksNil_below _).mono ?_; rintro e wx ⟨rfl, hbx⟩; have HN := Lib.hid (HN.out.later hT hbx); have y0 := HN.out.x.p0; have y1 := HN.out.x.p1; have z0 := HN.out.y.p0; have z1 := HN.out.y.p1; clear hbx)
    | (go_at_call 21; with_reducible refine (big_nil 0 _).mono ?_; rintro e wx ⟨rfl, hbx⟩; have HN := Lib.hid (HN.out.later hT hbx); have y0 := HN.out.x.p0; have y1 := HN.out.x.p1; have z0 := HN.out.y.p0; have z1 := HN.out.y.p1; clear hbx)
    | (go_at_call 28; with_reducible refine (join_err (some ⟨p, 0, none⟩) none 2 (by decide) _ (may_none _ _)).mono ?_; rintro e wx ⟨rfl, hbx⟩; have HN := Lib.hid (HN.out.later hT hbx); have y0 := HN.out.x.p0; have y1 := HN.out.x.p1; have z0 := HN.out.y.p0; have z1 := HN.out.y.p1; clear hbx)
    | (go_at_call 28; with_reducible refine (join_err (some ⟨p, 0, none⟩) (some ⟨p, 0, none⟩) 2 (by decide) _ (may_same _ _)).mono ?_; rintro e wx ⟨rfl, hbx⟩; have HN := Lib.hid (HN.out.later hT hbx); have y0 := HN.out.x.p0; have y1 := HN.out.x.p1; have z0 := HN.out.y.p0; have z1 := HN.out.y.p1; clear hbx)
    | (go_at_call 28; with_reducible refine (HN.out.join_far).mono ?_; rintro e wx ⟨rfl, hbx⟩; have HN := Lib.hid (HN.out.later hT hbx); have y0 := HN.out.x.p0; have y1 := HN.out.x.p1; have z0 := HN.out.y.p0; have z1 := HN.out.y.p1; clear hbx)
    | (go_at_call 29; with_reducible refine (hand_err (some ⟨p, 0, none⟩) none 0 2 (by decide) _ (may_none _ _)).mono ?_; rintro e wx ⟨rfl, hbx⟩; have HN := Lib.hid (HN.out.later hT hbx); have y0 := HN.out.x.p0; have y1 := HN.out.x.p1; have z0 := HN.out.y.p0; have z1 := HN.out.y.p1; clear hbx)
    | (go_at_call 29; with_reducible refine (hand_err (some ⟨p, 0, none⟩) (some ⟨p, 0, none⟩) 0 2 (by decide) _ (may_same _ _)).mono ?_; rintro e wx ⟨rfl, hbx⟩; have HN := Lib.hid (HN.out.later hT hbx); have y0 := HN.out.x.p0; have y1 := HN.out.x.p1; have z0 := HN.out.y.p0; have z1 := HN.out.y.p1; clear hbx)
    | (go_at_call 29; with_reducible refine (HN.out.hand_far).mono ?_; rintro e wx ⟨rfl, hbx⟩; have HN := Lib.hid (HN.out.later hT hbx); have y0 := HN.out.x.p0; have y1 := HN.out.x.p1; have z0 := HN.out.y.p0; have z1 := HN.out.y.p1; clear hbx)
    | fail)
  have hh := hand_any HN.out.co hT (d0_good 4 4) (by decide) 0
  rw [d0_hand.1, d0_hand.2] at hh
  have HH := Lib.hid hh
  have HX := Lib.hid HN.out.x
  have HNX := Lib.hid HN.out.nox
  clear hh HN
  refine HH.out.mono ?_
  rintro e w8 ⟨rfl, u, u', hc8, ht8⟩
  have HC8 := Lib.hid hc8
  have hx8 := ht8.keep HX.out HNX.out
  have x0 := hx8.p0
  have hdd := drop_any hc8 hT (d0_good 4 4).a (by decide) 0
  rw [d0_drop.1, d0_drop.2] at hdd
  have HD := Lib.hid hdd
  clear hc8 ht8 hx8 hdd HH HX HNX
  go_wp2_with fail
  refine HD.out.mono ?_
  rintro e w9 ⟨rfl, u9, hc9, ht9⟩
  have HC9 := Lib.hid hc9
  have k0 := hc9.held.st.size
  clear hc9 ht9 HD HC8
  by_cases h1 : o < 1
  · have d1 : decide (o < 1) = true := by simpa using h1
    go_wp2_with fail
    refine (bnew_arg w9 B.s o h1).mono ?_
    rintro e w10 ⟨rfl, hb10⟩
    have HB := Lib.hid (HC9.out.bel.trans (hb10.mono HC9.out.bel.size))
    clear h1 hb10
    go_wp2
    go_ret
    exact ⟨rfl, HB.out⟩
  · obtain ⟨N, rfl⟩ := Int.eq_ofNat_of_zero_le (show 0 ≤ o by omega)
    have d1 : decide ((N : Int) < 1) = false := by simp; omega
    have hN1 : 1 ≤ N := by omega
    clear h1
    go_wp2_with fail
    refine (bnew_ok w9 B.s N hN1).mono ?_
    rintro e w10 ⟨r, rfl, hs10, hb10⟩
    have HB := Lib.hid (HC9.out.bel.trans (hb10.mono HC9.out.bel.size))
    have HCK := Lib.hid (chunks_any' hs10 (fun x hx => by cases hx) (by decide) (by decide))
    have HRM := Lib.hid (fun W (hb : Below w10.heap.size w10 W) => room_any (K := 4) (hs10.later hb) (bcellB hb (bcellB hb10 k0)) (by decide) (by decide))
    clear hs10 hb10
    go_wp2_with (first
      | (go_at_call 16; refine HCK.out.mono ?_; intro e w11 hrp; obtain ⟨A, c, he, hb11⟩ := hrp.sl; subst he; have HB11 := Lib.hid hb11; clear hrp hb11)
      | (go_at_call 18; refine (HRM.out _ HB11.out).mono ?_; rintro e w12 ⟨rfl, hb12⟩; have HB12 := Lib.hid (HB11.out.trans (hb12.mono HB11.out.size)); clear hb12))
    go_ret
    exact ⟨rfl, HB.out.trans (HB12.out.mono HB.out.size)⟩
end Go.Proofs.YteencfldehcbbaaDoor
