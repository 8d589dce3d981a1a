/- The document's Hand. -/
import Derived.Test.YteencfldehcbbaaDoorBpRj
namespace Go.Proofs.YteencfldehcbbaaDoor
open Go.RowKit Go.Sort BP
set_option linter.unusedVariables false

/-- A row of one part. -/
theorem RR.one {w : World} {base g : Nat} {x : Nat × Nat} (h : Whole w g 81 (part3 x)) (hb : base ≤ g) : RR w base (.slice (some ⟨g, 0, none⟩) 1 1) [x] :=
  ⟨rfl, .inr ⟨g, 1, part3 x, rfl, hb, h, Nat.le_refl _, by unfold maxLen; omega, rfl, rfl⟩⟩
theorem parts_le {C K o : Nat} {own : Nat → Nat} {S : Sp} (hG : BP.Good C K o own S) (hC : C ≤ 1024) : (∀ x ∈ S.parts, x.1 ≤ 1024 ∧ x.2 ≤ 1024) ∧ S.parts.length ≤ 5000 :=
  ⟨fun x hx => by have := hG.part hx; omega, by have := hG.len; omega⟩
section
variable {w0 w : World} {R : RB} {C K o o' p p' : Nat} {v v' : Value} {D : Dt}
theorem Ro.alloc (h : Ro w0 w R C K o o' p p' v v' D) (ob : Obj) : Ro w0 (w.alloc ob) R C K o o' p p' v v' D := h.later ((Below.refl _ _).alloc (Nat.le_refl _) ob)
set_option maxHeartbeats 4000000 in
set_option maxRecDepth 100000 in
theorem rhand_any (h : Ro w0 w R C K o o' p p' v v' D) (hG : Good2 C K o o' D) (ho2 : o' < 9223372036854775808) (first : Int) :
    Calls Tryd.prog 36 #[.pointer (some ⟨p, 0, none⟩), .pointer (some ⟨p', 0, none⟩), .int .i64 first] w (RoPost2 (.int .i64 (handE D first)) w0 R C K o o' p p' v v' (handD o' D first) w) := by
  have hC := h.rf.C2
  obtain ⟨hall, hlen⟩ := parts_le hG.a hC
  have hl2 := hG.b.len
  have ho1 := hG.o2
  have htk := rtake_part h hall hlen first true
  unfold handE handD
  rcases tk_hand (f := first) hG.a.nod hG.a.one with ⟨hz, hb0, hl0⟩ | ⟨hz, hmem, hfe, hb0, hl0, hx0⟩
  · rw [if_pos hz, if_pos hz]
    rw [hb0, hl0] at htk
    have HTK := Lib.hid htk
    generalize tkX first true D.S.parts = X at *
    obtain ⟨a, b⟩ := X
    simp only [part3] at HTK
    generalize decide (1 < b) = c at HTK
    clear h hG hall hlen htk hz hb0 hl0
    go_enter Tryd.func36, Tryd.ntmps36
    go_wp2_with (first | (go_at_call 59; refine HTK.out.mono ?_; rintro e w1 ⟨rfl, u, hr1, ht1⟩; have HR1 := Lib.hid hr1; have HT1 := Lib.hid ht1; clear hr1 ht1))
    go_ret
    exact ⟨rfl, u, v', HR1.out.alloc _, HT1.out.trans (Turn.of_below ((Below.refl _ _).alloc (Nat.le_refl _) _))⟩
  · have hpt := hG.a.part hmem
    rw [if_neg (by omega), if_neg (by omega)]
    rw [hb0, hl0, hx0] at htk
    have hown : ∀ c, (fromP D.S.parts first).1 ≤ c → c < (fromP D.S.parts first).1 + (fromP D.S.parts first).2 → D.own c ≠ 0 := fun c h1 h2 => by
      rw [(hG.a.has c (cs_sub hmem (cs_mem.2 ⟨h1, h2⟩))).2]
      have := hG.o1
      omega
    have hpr : fromP D.S.parts first ≠ D.S.pr := fun e => by
      have := hG.a.prlt.1
      rw [← e] at this
      omega
    have HRM := Lib.hid (show rmS D.S (fromP D.S.parts first) = ⟨D.S.parts.filter (fun y => decide (y ≠ fromP D.S.parts first)), D.S.pr, D.S.fl⟩ by unfold rmS; rw [if_neg hpr, if_neg hpr])
    have HTK := Lib.hid htk
    generalize hx : fromP D.S.parts first = x at *
    obtain ⟨a, b⟩ := x
    simp only [part3] at HTK hpt hown
    have HOW := Lib.hid hown
    have HPT := Lib.hid hpt
    have d : decide (1 < b) = true := by simpa using hz
    rw [d] at HTK
    have HD := Lib.hid d
    have HH := Lib.hid h
    have hl2' : D.T.parts.length ≤ 1024 := by omega
    clear h hG hall hlen htk hz hb0 hl0 hx0 hx hmem hfe hown hpr d hl2 hpt
    go_enter Tryd.func36, Tryd.ntmps36
    go_wp2_with (first | (go_at_call 59; refine HTK.out.mono ?_; rintro e w1 ⟨rfl, u, hr1, ht1⟩; have HX1 := Lib.hid (Whole.fresh w1 81 #[.int .i64 (a : Nat), .int .i64 (b : Nat), .bool true]); have HN1 := Lib.hid (hr1.not (Nat.le_refl _)); have HR1 := Lib.hid (hr1.alloc (.cells #[.int .i64 (a : Nat), .int .i64 (b : Nat), .bool true] 81)); have HT1 := Lib.hid (ht1.trans (Turn.of_below ((Below.refl _ _).alloc (Nat.le_refl _) (.cells #[.int .i64 (a : Nat), .int .i64 (b : Nat), .bool true] 81)))); clear hr1 ht1))
    obtain ⟨wa, ha⟩ : ∃ wa, wa = w1.alloc (.cells #[.int .i64 (a : Nat), .int .i64 (b : Nat), .bool true] 81) := ⟨_, rfl⟩
    rw [← ha] at HX1 HR1 HT1 ⊢
    clear ha
    have x0 := HX1.out.q0
    have x1 := HX1.out.q1
    have x2 := HX1.out.q2
    have p1 := HR1.out.b.c1
    have HC := Lib.hid (fun (W : World) (e1 : W.heap = wa.heap) (e2 : W.os = wa.os) (e3 : W.tape = wa.tape) (e4 : W.output = wa.output) => rgivep_any (HR1.out.same e1 e2 e3 e4) a b true o' ho1 ho2 HPT.out.2 HOW.out)
    go_region_held3 (fun w' => w'.cell? ⟨p', 1, none⟩ = some (.int .i64 (o' : Nat)) ∧ w'.cell? ⟨w1.heap.size, 0, none⟩ = some (.int .i64 (a : Nat)) ∧ w'.cell? ⟨w1.heap.size, 1, none⟩ = some (.int .i64 (b : Nat)) ∧ w'.cell? ⟨w1.heap.size, 2, none⟩ = some (.bool true)) (simp [go_sem, *])
      (first | (go_at_call 58; refine (HC.out _ (by exact rfl) (by exact rfl) (by exact rfl) (by exact rfl)).mono ?_; rintro e w2 ⟨rfl, hr2, ht2⟩; have hx2 := turn_keep ht2 (w := wa.drew) HX1.out HN1.out; have s0 := hx2.q0; have s1 := hx2.q1; have s2 := hx2.q2; have s4 := hr2.b.c1; have HR2 := Lib.hid hr2; have HX2 := Lib.hid hx2; have HT2 := Lib.hid (show Turn (roF R p p' u v') (roF R p p' u v') wa w2 from ht2.back rfl rfl rfl rfl); clear hr2 ht2 hx2))
    all_goals
      clear x0 x1 x2 p1 s4
      have p2 := HR2.out.b.c2
      have p2a := fun ob => bcellB ((Below.refl w2.heap.size w2).alloc (Nat.le_refl _) ob) p2
      have hbs : w0.heap.size ≤ w2.heap.size := HR2.out.bel.size
      obtain ⟨A5, cp5, rfl, _⟩ := HR2.out.b.row.rd
      obtain ⟨tmp, htmp⟩ : ∃ tmp : Obj, tmp = .cells #[.int .i64 (a : Nat), .int .i64 (b : Nat), .bool true] 81 := ⟨_, rfl⟩
      have HV := Lib.hid ((HR2.out.alloc tmp).same (W := (w2.alloc tmp).drew) rfl rfl rfl rfl)
      have HT3 := Lib.hid ((HT1.out.trans HT2.out).trans ((Turn.of_below ((Below.refl w2.heap.size w2).alloc (Nat.le_refl _) tmp)).trans (Turn.same (W := (w2.alloc tmp).drew) rfl rfl rfl rfl)))
      have HU := Lib.hid (show RR (w2.alloc tmp).drew 0 (.slice (some ⟨w2.heap.size, 0, none⟩) 1 1) [(a, b)] from RR.one (show Whole (w2.alloc tmp).drew w2.heap.size 81 (part3 (a, b)) by subst htmp; unfold part3; simp only; rw [HD.out]; exact Whole.fresh w2 _ _) (Nat.zero_le _))
      rw [htmp] at HV HT3 HU
      clear htmp
      go_wp2_with fail
      go_region_law (first
        | (refine step_append_rr rfl (.tmp 28) (.tmp 30) rfl w0.heap.size 0 D.T.parts [(a, b)] _ _ (by simp [Act.eval]) (by simp [Act.eval]) HV.out.b.row HU.out (by simp; omega) (by simp; omega) ?_; intro v3 w3 hr3 ha3 hu3; obtain ⟨A6, cp6, e6, _⟩ := hr3.rd; rw [List.length_append, List.length_singleton] at e6; subst e6; obtain ⟨q0, q1, q2, HP3⟩ := HV.out.swap.pushed hr3 ha3 hu3; clear hr3 ha3 hu3))
      all_goals
        go_wp2
        go_ret
        refine ⟨rfl, _, _, ?_, HT3.out.trans (rturn_swap HP3.out.2)⟩
        rw [HRM.out]
        exact HP3.out.1.swap
end
end Go.Proofs.YteencfldehcbbaaDoor
