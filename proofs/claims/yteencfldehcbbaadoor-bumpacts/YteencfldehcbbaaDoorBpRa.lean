/- The document's Alloc. -/
import Derived.Test.YteencfldehcbbaaDoorBpRc
import Derived.Test.YteencfldehcbbaaDoorBpTake
namespace Go.Proofs.YteencfldehcbbaaDoor
open Go.RowKit Go.Sort BP
set_option linter.unusedVariables false

theorem need_lt {K m k : Nat} (hK : 1 ≤ K) (hm : 1 ≤ m) : k * K < m ↔ k < need K m := by
  unfold need
  have := Nat.le_div_iff_mul_le (x := k) (y := m - 1) (k := K) (by omega)
  generalize (m - 1) / K = q at *
  generalize k * K = y at *
  omega
theorem need_le2 {K m : Nat} (hK : 1 ≤ K) (hm : 1 ≤ m) : need K m ≤ m ∧ need K m * K ≤ m - 1 + K := by
  unfold need
  have h1 : (m - 1) / K ≤ m - 1 := Nat.div_le_self _ _
  have h2 : (m - 1) / K * K ≤ m - 1 := Nat.div_mul_le_self _ _
  rw [Nat.add_mul, Nat.one_mul]
  generalize (m - 1) / K * K = y at *
  generalize (m - 1) / K = q at *
  omega
section
variable {w0 w : World} {R : RB} {C K o o' p p' : Nat} {v v' : Value} {D : Dt}
theorem ralloc_arg (h : Ro w0 w R C K o o' p p' v v' D) (n : Int) (hn : n < 1) : Calls Tryd.prog 34 #[.pointer (some ⟨p, 0, none⟩), .int .i64 n] w (RoPost (.tuple #[.int .i64 0, .int .i64 2]) w0 R C K o o' p p' v v' D w) := by
  have HH := Lib.hid h
  clear h
  have d : decide (n < 1) = true := by simpa using hn
  clear hn
  go_enter Tryd.func34, Tryd.ntmps34
  go_wp2
  go_ret2
  exact ⟨rfl, v, HH.out, Turn.refl _ _⟩
set_option maxHeartbeats 4000000 in
set_option maxRecDepth 100000 in
/-- It fits. -/
theorem ralloc_fit (h : Ro w0 w R C K o o' p p' v v' D) (hG : BP.Good C K o D.own D.S) (m : Nat) (hm : 1 ≤ m) (hr : m ≤ room K D.S) :
    Calls Tryd.prog 34 #[.pointer (some ⟨p, 0, none⟩), .int .i64 (m : Nat)] w (RoPost (.tuple #[.int .i64 (D.S.pr.1 * K + D.S.fl : Nat), .int .i64 0]) w0 R C K o o' p p' v v' ⟨D.own, D.wd, ⟨D.S.parts, D.S.pr, D.S.fl + m⟩, D.T⟩ w) := by
  have hK2 := h.rf.K2
  have hC2 := h.rf.C2
  have hfl := hG.fl
  have hrm := rroom_any h.a h.rf.size hK2 hfl
  have HH := Lib.hid h
  obtain ⟨own, wd, ⟨P, ⟨a, b⟩, fl⟩, T⟩ := D
  simp only at HH hrm hr hfl hG ⊢
  have hz : (a, b) ≠ (0, 0) := fun e => by unfold room at hr; rw [if_pos e] at hr; omega
  have ha : a ≤ 1024 ∧ m ≤ K - fl := by
    unfold room at hr
    rw [if_neg hz] at hr
    rcases hG.prlt.2 with e | e
    · exact absurd e hz
    · exact ⟨by simp at e; omega, hr⟩
  have haK : a * K ≤ 1024 * 1024 := Nat.mul_le_mul ha.1 hK2
  have haKe : ((a * K : Nat) : Int) = (a : Int) * (K : Int) := by simp
  generalize hR : room K ⟨P, (a, b), fl⟩ = Q at *
  have HRM := Lib.hid hrm
  have hpi : prI (a, b) = (a : Int) := by unfold prI; rw [if_neg hz]
  have HZ := Lib.hid hz
  clear h hG hrm hR hz
  go_enter Tryd.func34, Tryd.ntmps34
  go_wp2_with (first
    | (go_at_call 19; refine HRM.out.mono ?_; rintro e w2 ⟨rfl, hb2⟩; have hc2 := HH.out.later hb2; obtain ⟨z, hzf, hbx⟩ := hc2.a.box; obtain rfl := hzf HZ.out; simp only at hbx; rw [hpi] at hbx; have q3 := (hbx.cell 3).trans rfl; have q4 := (hbx.cell 4).trans rfl; have q0 := (hbx.cell 0).trans rfl; have qf := hbx.free; have r1 := hc2.rf.size; have hne := (hc2.out R.m (by simp [RB.bl])).1; have HBX := Lib.hid hbx; have HC2 := Lib.hid hc2; have HB2 := Lib.hid hb2; clear hb2 hc2 hzf hbx))
  have hd := HC2.out.box_set (P := P) (pr := (a, b)) (fl := z + m) (z := z + m) rfl ((OnlyAt.refl p w2).setCell 4 (.int .i64 ((z + m : Nat) : Int))) (fun _ => rfl) (by rw [hpi]; exact HBX.out.set 4 (.int .i64 ((z + m : Nat) : Int)))
  rw [show ((z + m : Nat) : Int) = (z : Int) + (m : Int) by omega] at hd
  have HD := Lib.hid hd
  obtain ⟨y, hy, hyb⟩ := hd.1.a.box
  obtain rfl := hy HZ.out
  simp only at hyb
  rw [hpi] at hyb
  obtain ⟨W, hW⟩ : ∃ W, W = w2.setCell ⟨p, 4, none⟩ (.int .i64 ((z : Int) + (m : Int))) := ⟨_, rfl⟩
  rw [← hW] at hyb HD ⊢
  have g0 := (hyb.cell 0).trans rfl
  have g3 := (hyb.cell 3).trans rfl
  have g4 : W.cell? ⟨p, 4, none⟩ = some (.int .i64 ((z + m : Nat) : Int)) := (hyb.cell 4).trans rfl
  have g5 : W.cell? ⟨R.m, 1, none⟩ = some (.int .i64 (K : Nat)) := HD.out.1.rf.size
  rw [show ((z + m : Nat) : Int) = (z : Int) + (m : Int) by omega] at g4
  have y1 := wrapOk ((a : Int) * (K : Int)) (by omega) (by omega)
  have y2 := wrapOk ((a : Int) * (K : Int) + ((z : Int) + (m : Int))) (by omega) (by omega)
  have y3 := wrapOk ((a : Int) * (K : Int) + ((z : Int) + (m : Int)) - (m : Int)) (by omega) (by omega)
  clear hd hy hyb hW q3 q4 q0 qf r1 hne
  go_quiet (fail)
  go_wp2
  go_ret2
  refine ⟨?_, v, HD.out.1.same rfl rfl rfl rfl, ((Turn.of_below HB2.out).trans HD.out.2).trans (Turn.same rfl rfl rfl rfl)⟩
  show Ending.returned (.tuple #[.int .i64 ((a : Int) * (K : Int) + ((z : Int) + (m : Int)) - (m : Int)), .int .i64 0]) = .returned (.tuple #[.int .i64 ((a * K + z : Nat) : Int), .int .i64 0])
  rw [show (a : Int) * (K : Int) + ((z : Int) + (m : Int)) - (m : Int) = ((a * K + z : Nat) : Int) by omega]
theorem tk_le {own : Nat → Nat} {C o k : Nat} (h : tkE own C o (k : Nat) = 0) (hC : C ≤ 1024) : tkP own C o (k : Nat) ≤ 1024 ∧ k ≤ 1024 := by
  have := (tk_parts h).2.2.1
  omega
/-- Behind TakeRun. -/
theorem Ro.rf_post {own wd : Nat → Nat} {w1 : World} (h : Ro w0 w R C K o o' p p' v v' D) {val : Value} {e : Ending} (hp : RfPost val R C K own wd w e w1) : e = .returned val ∧ Ro w0 w1 R C K o o' p p' v v' ⟨own, wd, D.S, D.T⟩ ∧ Turn (roF R p p' v v') (roF R p p' v v') w w1 := by
  obtain ⟨e, wm, hb, ho, hr⟩ := hp
  have hs := (h.later hb).store ho hr
  exact ⟨e, hs.1, (Turn.of_below hb).trans hs.2⟩
theorem wpList_append_rr {w : World} {ops : Array Oper} {rest : List Oper} {o : Oper} {a : Act} {Q : Exit → Act → World → Prop} (hgd : o.guard = none) (s x : Operand)
    (ho : o.op = .call { callee := .builtin .append, args := #[s, x], argTypes := #[67, 67] })
    (base base' : Nat) (L L' : List (Nat × Nat)) (v u : Value) (hs : a.eval s = v) (hx : a.eval x = u) (hv : RR w base v L) (hu : RR w base' u L') (hlen : L.length + L'.length ≤ 10000) (hbase : base ≤ w.heap.size)
    (h : ∀ v' w', RR w' base v' (L ++ L') → Aft (ob v) w w' → (∀ g, v'.ownBlock = some g → v.ownBlock = some g ∨ w.heap.size ≤ g) → wpList Tryd.prog ops Q rest (a.put o.dst v') w') :
    wpList Tryd.prog ops Q (o :: rest) a w := by
  refine wpList_plain hgd fun K hK => ?_
  obtain ⟨v', w', hr, h2, h3, h4⟩ := run_append_rr (ty := o.type) hv hu hlen hbase
  unfold Oper.wp execOp
  simp only [ho, resolve, invoke, builtin, Sem.run_bind, Sem.run_pure, Result.andThen_ok, List.map_toArray, List.map_cons, List.map_nil, hs, hx, hr]
  exact hK _ _ (h v' w' h2 h3 h4)
/-- What is read behind an append. -/
theorem Ro.pushed2 {w3 : World} {u : Value} {L : List (Nat × Nat)} (h : Ro w0 w R C K o o' p p' v v' D) (hr : RR w3 w0.heap.size u L) (ha : Aft (ob v) w w3) (hu : ∀ g, u.ownBlock = some g → v.ownBlock = some g ∨ w.heap.size ≤ g) :
    w3.cell? ⟨p, 2, none⟩ = some v ∧ w3.frozen? ⟨p, 2, none⟩ = false ∧ p < w3.heap.size ∧ ∃ y : Nat,
    (w3.setCell ⟨p, 2, none⟩ u).cell? ⟨p, 0, none⟩ = some (.pointer (some ⟨R.m, 0, none⟩)) ∧ (w3.setCell ⟨p, 2, none⟩ u).cell? ⟨p, 3, none⟩ = some (.int .i64 (prI D.S.pr)) ∧ (w3.setCell ⟨p, 2, none⟩ u).cell? ⟨p, 4, none⟩ = some (.int .i64 (y : Nat)) ∧
    (∀ i, (w3.setCell ⟨p, 2, none⟩ u).frozen? ⟨p, i, none⟩ = false) ∧ (w3.setCell ⟨p, 2, none⟩ u).cell? ⟨R.m, 1, none⟩ = some (.int .i64 (K : Nat)) ∧ R.m ≠ p ∧
    Hid (Ro w0 (w3.setCell ⟨p, 2, none⟩ u) R C K o o' p p' u v' ⟨D.own, D.wd, ⟨L, D.S.pr, D.S.fl⟩, D.T⟩ ∧ Turn (roF R p p' v v') (roF R p p' u v') w (w3.setCell ⟨p, 2, none⟩ u)) ∧
    Hid (Whole (w3.setCell ⟨p, 2, none⟩ u) p 69 #[.pointer (some ⟨R.m, 0, none⟩), .int .i64 (o : Nat), u, .int .i64 (prI D.S.pr), .int .i64 (y : Nat)]) := by
  obtain ⟨q0, q1, q2, HP⟩ := h.pushed hr ha hu
  obtain ⟨y, hy, hyb⟩ := HP.out.1.a.box
  exact ⟨q0, q1, q2, y, (hyb.cell 0).trans rfl, (hyb.cell 3).trans rfl, (hyb.cell 4).trans rfl, hyb.free, HP.out.1.rf.size, (HP.out.1.out R.m (by simp [RB.bl])).1, HP, Lib.hid hyb⟩
set_option maxHeartbeats 4000000 in
set_option maxRecDepth 100000 in
/-- So many chunks more. -/
theorem ralloc_take (h : Ro w0 w R C K o o' p p' v v' D) (hG : BP.Good C K o D.own D.S) (ho : 1 ≤ o) (ho2 : o < 9223372036854775808) (m : Nat) (hm : 1 ≤ m) (hm2 : m ≤ 100000) (hr : ¬ m ≤ room K D.S) :
    Calls Tryd.prog 34 #[.pointer (some ⟨p, 0, none⟩), .int .i64 (m : Nat)] w (RoPost (.tuple #[.int .i64 (tkP D.own C o (need K m : Nat) * K : Nat), .int .i64 (tkE D.own C o (need K m : Nat))]) w0 R C K o o' p p' v v'
      (if tkE D.own C o (need K m : Nat) = 0 then ⟨tkOwnA D.own C o (need K m : Nat), tkWdA D.own D.wd C K o (need K m : Nat),
      ⟨D.S.parts ++ [(tkP D.own C o (need K m : Nat), need K m)], if need K m = 1 then (tkP D.own C o (need K m : Nat), 1) else D.S.pr, if need K m = 1 then m else D.S.fl⟩, D.T⟩ else D) w) := by
  have hK1 := h.rf.K1
  have hK2 := h.rf.K2
  have hC2 := h.rf.C2
  have hfl := hG.fl
  have hl := hG.len
  have hrm := rroom_any h.a h.rf.size hK2 hfl
  have hnl := fun k => need_lt (k := k) hK1 hm
  have hnp := need_pos K m
  have hnk := need_le2 hK1 hm
  generalize hk : need K m = k at *
  have hT := fun (w1 : World) (hb : Below w.heap.size w w1) (W : World) (e1 : W.heap = w1.heap) (e2 : W.os = w1.os) (e3 : W.tape = w1.tape) (e4 : W.output = w1.output) =>
    (rtake_all (((h.later hb).same e1 e2 e3 e4).rf) (o : Int) (k : Int) (by unfold I64; omega) (by unfold I64; omega)).mono fun e w2 hp => ((h.later hb).same e1 e2 e3 e4).rf_post hp
  have HTK := Lib.hid hT
  have HH := Lib.hid h
  have HNL := Lib.hid hnl
  generalize hQ : room K D.S = Q at *
  have HRM := Lib.hid hrm
  have hr2 : Q < m := by omega
  generalize hJ : (if tkE D.own C o (k : Nat) = 0 then (⟨tkOwnA D.own C o (k : Nat), tkWdA D.own D.wd C K o (k : Nat),
      ⟨D.S.parts ++ [(tkP D.own C o (k : Nat), k)], if k = 1 then (tkP D.own C o (k : Nat), 1) else D.S.pr, if k = 1 then m else D.S.fl⟩, D.T⟩ : Dt) else D) = J
  have HJ := Lib.hid hJ
  have HCP := Lib.hid (fun hh => tk_le (own := D.own) (C := C) (o := o) (k := k) hh hC2)
  have HNO := Lib.hid (fun hh => tk_no (own := D.own) (wd := D.wd) (C := C) (K := K) (x := (o : Int)) (n := (k : Int)) hh)
  generalize tkP D.own C o (k : Nat) = c at *
  generalize tkE D.own C o (k : Nat) = E at *
  generalize tkOwnA D.own C o (k : Nat) = own2 at *
  generalize tkWdA D.own D.wd C K o (k : Nat) = wd2 at *
  clear h hG hrm hQ hT hnl hr hJ
  go_enter Tryd.func34, Tryd.ntmps34
  go_wp2_with (first
    | (go_at_call 19; refine HRM.out.mono ?_; rintro e w2 ⟨rfl, hb2⟩; have HT2 := Lib.hid (HTK.out w2 hb2); have HC2 := Lib.hid (HH.out.later hb2); have HB2 := Lib.hid hb2; have q0 := HC2.out.a.c0; have q1 := HC2.out.a.c1; have r1 := HC2.out.rf.size; clear hb2))
  go_loop [7] (fun x => ∃ j : Nat, 1 ≤ j ∧ j ≤ k ∧ x = .int .i64 j) (fun x => k - (intOf x).toNat)
  case atStart => exact ⟨1, by omega, hnp, rfl⟩
  case round =>
    obtain ⟨j, hj1, hj, rfl⟩ := hrel
    have hjm : j * K ≤ 102000 := by have := Nat.mul_le_mul_right K hj; omega
    have hje : ((j * K : Nat) : Int) = (j : Int) * (K : Int) := by simp
    have y1 := wrapOk ((j : Int) * (K : Int)) (by omega) (by omega)
    by_cases hlt : j < k
    · have hjn := (HNL.out j).2 hlt
      have d2 : decide ((j : Int) * (K : Int) < (m : Int)) = true := by simp; omega
      clear hje
      go_wp2
      go_round
      case rel => exact ⟨j + 1, by omega, by omega, by go_num⟩
      case measure => simp [intOf]; omega
    · obtain rfl : j = k := by omega
      have hjn : ¬ j * K < m := fun hh => hlt ((HNL.out j).1 hh)
      have d2 : decide ((j : Int) * (K : Int) < (m : Int)) = false := by simp; omega
      clear hje hnk
      go_wp2_with fail
      go_region_held3 (fun w' => w'.cell? ⟨p, 0, none⟩ = some (.pointer (some ⟨R.m, 0, none⟩)) ∧ w'.cell? ⟨p, 1, none⟩ = some (.int .i64 (o : Nat))) (simp [go_sem, *])
        (first | (go_at_call 57; refine (HT2.out _ (by exact rfl) (by exact rfl) (by exact rfl) (by exact rfl)).mono ?_; rintro e w3 ⟨rfl, hr3, ht3⟩; have s0 := hr3.a.c0; have s1 := hr3.a.c1; have HR3 := Lib.hid hr3; have HT3 := Lib.hid (show Turn (roF R p p' v v') (roF R p p' v v') w2 w3 from ht3.back rfl rfl rfl rfl); clear hr3 ht3))
      all_goals
        clear q0 q1 r1 s0 s1
        by_cases hE : E = 0
        · subst hE
          have hcp := HCP.out rfl
          have hj := HJ.out
          rw [if_pos rfl] at hj
          have haK : c * K ≤ 1024 * 1024 := Nat.mul_le_mul hcp.1 hK2
          have haKe : ((c * K : Nat) : Int) = (c : Int) * (K : Int) := by simp
          have y8 := wrapOk ((c : Int) * (K : Int)) (by omega) (by omega)
          have HKE := Lib.hid haKe
          clear haKe
          rcases Nat.lt_or_ge 1 j with h1 | h1
          · rw [if_neg (by omega), if_neg (by omega)] at hj
            have HJ2 := Lib.hid hj
            have H1 := Lib.hid (show decide (1 < j) = true by simpa using h1)
            have h1' : (1 : Int) < (j : Int) := by omega
            have d3 : ((j : Int) == 1) = false := by simp; omega
            clear hj
            have p2 := HR3.out.a.c2
            have p2a := fun ob => bcellB ((Below.refl w3.heap.size w3).alloc (Nat.le_refl _) ob) p2
            have hbs : w0.heap.size ≤ w3.heap.size := HR3.out.bel.size
            obtain ⟨A5, cp5, e5, _⟩ := HR3.out.a.row.rd
            subst e5
            obtain ⟨tmp, htmp⟩ : ∃ tmp : Obj, tmp = .cells #[.int .i64 (c : Nat), .int .i64 (j : Nat), .bool true] 81 := ⟨_, rfl⟩
            have HV := Lib.hid (HR3.out.alloc tmp)
            have HT4 := Lib.hid (((Turn.of_below HB2.out).trans HT3.out).trans (Turn.of_below ((Below.refl w3.heap.size w3).alloc (Nat.le_refl _) tmp)))
            have HU := Lib.hid (show RR (w3.alloc tmp) 0 (.slice (some ⟨w3.heap.size, 0, none⟩) 1 1) [(c, j)] from RR.one (show Whole (w3.alloc tmp) w3.heap.size 81 (part3 (c, j)) by subst htmp; unfold part3; simp only; rw [H1.out]; exact Whole.fresh w3 _ _) (Nat.zero_le _))
            rw [htmp] at HV HT4 HU
            clear htmp
            go_wp2_with (first
              | (at_builtin; refine wpList_append_rr rfl (.tmp 77) (.tmp 83) rfl w0.heap.size 0 D.S.parts [(c, j)] _ _ (by simp [Act.eval]) (by simp [Act.eval]) HV.out.a.row HU.out (by simp; omega) (by simp; omega) ?_; intro v4 w4 hr4 ha4 hu4; obtain ⟨A6, cp6, e6, _⟩ := hr4.rd; rw [List.length_append, List.length_singleton] at e6; subst e6; obtain ⟨t0, t1, t2, y, g0, g3, g4, gf, g5, hne, HP4, HW4⟩ := HV.out.pushed2 hr4 ha4 hu4; clear hr4 ha4 hu4))
            go_ret2
            have hj := HJ2.out
            subst hj
            refine ⟨?_, _, HP4.out.1, HT4.out.trans HP4.out.2⟩
            show Ending.returned (.tuple #[.int .i64 ((c : Int) * (K : Int)), .int .i64 0]) = .returned (.tuple #[.int .i64 ((c * K : Nat) : Int), .int .i64 0])
            rw [HKE.out]
          · obtain rfl : j = 1 := by omega
            rw [if_pos rfl, if_pos rfl] at hj
            have HJ2 := Lib.hid hj
            clear hj
            have p2 := HR3.out.a.c2
            have p2a := fun ob => bcellB ((Below.refl w3.heap.size w3).alloc (Nat.le_refl _) ob) p2
            have hbs : w0.heap.size ≤ w3.heap.size := HR3.out.bel.size
            obtain ⟨A5, cp5, e5, _⟩ := HR3.out.a.row.rd
            subst e5
            obtain ⟨tmp, htmp⟩ : ∃ tmp : Obj, tmp = .cells #[.int .i64 (c : Nat), .int .i64 1, .bool false] 81 := ⟨_, rfl⟩
            have HV := Lib.hid (HR3.out.alloc tmp)
            have HT4 := Lib.hid (((Turn.of_below HB2.out).trans HT3.out).trans (Turn.of_below ((Below.refl w3.heap.size w3).alloc (Nat.le_refl _) tmp)))
            have HU := Lib.hid (show RR (w3.alloc tmp) 0 (.slice (some ⟨w3.heap.size, 0, none⟩) 1 1) [(c, 1)] from RR.one (show Whole (w3.alloc tmp) w3.heap.size 81 (part3 (c, 1)) by subst htmp; unfold part3; simp only; rw [show decide (1 < 1) = false from rfl]; exact Whole.fresh w3 _ _) (Nat.zero_le _))
            rw [htmp] at HV HT4 HU
            clear htmp
            go_wp2_with (first
              | (at_builtin; refine wpList_append_rr rfl (.tmp 77) (.tmp 83) rfl w0.heap.size 0 D.S.parts [(c, 1)] _ _ (by simp [Act.eval]) (by simp [Act.eval]) HV.out.a.row HU.out (by simp; omega) (by simp; omega) ?_; intro v4 w4 hr4 ha4 hu4; obtain ⟨A6, cp6, e6, _⟩ := hr4.rd; rw [List.length_append, List.length_singleton] at e6; subst e6; obtain ⟨t0, t1, t2, y, g0, g3, g4, gf, g5, hne, HP4, HW4⟩ := HV.out.pushed2 hr4 ha4 hu4; clear hr4 ha4 hu4))
            go_ret2
            have hj := HJ2.out
            subst hj
            have hbs := HP4.out.1.box_set (P := D.S.parts ++ [(c, 1)]) (pr := (c, 1)) (fl := m) (z := m) rfl (((OnlyAt.refl p _).setCell 3 (.int .i64 (c : Nat))).setCell 4 (.int .i64 (m : Nat))) (fun _ => rfl) (by
              rw [show prI (c, 1) = (c : Int) by unfold prI; rw [if_neg (by simp)]]
              exact (HW4.out.set 3 (.int .i64 (c : Nat))).set 4 (.int .i64 (m : Nat)))
            refine ⟨?_, _, hbs.1, (HT4.out.trans HP4.out.2).trans hbs.2⟩
            show Ending.returned (.tuple #[.int .i64 ((c : Int) * (K : Int)), .int .i64 0]) = .returned (.tuple #[.int .i64 ((c * K : Nat) : Int), .int .i64 0])
            rw [HKE.out]
        · have dE : (E != 0) = true := by simpa using hE
          have hj := HJ.out
          rw [if_neg hE] at hj
          have HJ2 := Lib.hid hj
          have HNO2 := Lib.hid (HNO.out hE)
          clear hj hE
          go_wp2
          go_ret2
          obtain ⟨e1, e2, e3⟩ := HNO2.out
          have hj := HJ2.out
          subst hj e1 e2 e3
          refine ⟨?_, v, HR3.out, (Turn.of_below HB2.out).trans HT3.out⟩
          rw [Nat.zero_mul]
          rfl
/-- Alloc, whatever comes. -/
theorem ralloc_any (h : Ro w0 w R C K o o' p p' v v' D) (hG : Good2 C K o o' D) (ho2 : o < 9223372036854775808) (n : Int) (hn : n ≤ 100000) :
    Calls Tryd.prog 34 #[.pointer (some ⟨p, 0, none⟩), .int .i64 n] w (RoPost (.tuple #[.int .i64 (alA C K o D n : Nat), .int .i64 (alE C K o D n)]) w0 R C K o o' p p' v v' (alD C K o D n) w) := by
  unfold alA alE alD
  by_cases h1 : n < 1
  · rw [if_pos h1, if_pos h1, if_pos h1]
    exact ralloc_arg h n h1
  · rw [if_neg h1, if_neg h1, if_neg h1]
    obtain ⟨m, rfl⟩ := Int.eq_ofNat_of_zero_le (show 0 ≤ n by omega)
    rw [Int.toNat_natCast]
    by_cases h2 : m ≤ room K D.S
    · rw [if_pos h2, if_pos h2, if_pos h2]
      exact ralloc_fit h hG.a m (by omega) h2
    · rw [if_neg h2, if_neg h2, if_neg h2]
      exact ralloc_take h hG.a hG.o1 ho2 m (by omega) (by omega) h2
end
end Go.Proofs.YteencfldehcbbaaDoor
