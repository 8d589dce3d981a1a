/- The document's Join, its walk. -/
import Derived.Test.YteencfldehcbbaaDoorBpRj
namespace Go.Proofs.YteencfldehcbbaaDoor
open Go.RowKit Go.Sort BP
set_option linter.unusedVariables false

section
variable {w0 w : World} {R : RB} {C K o o' p p' : Nat} {v v' : Value} {D : Dt}
set_option maxHeartbeats 4000000 in
set_option maxRecDepth 100000 in
theorem rjoin_any (h : Ro w0 w R C K o o' p p' v v' D) (hG : Good2 C K o o' D) (ho2 : o < 9223372036854775808) :
    Calls Tryd.prog 35 #[.pointer (some ⟨p, 0, none⟩), .pointer (some ⟨p', 0, none⟩)] w (RoPost2 (.tuple #[]) w0 R C K o o' p p' v v' (joinD o D) w) := by
  have hC := h.rf.C2
  have hl := hG.a.len
  have hl2 := hG.b.len
  have ho1 := hG.o1
  have HH := Lib.hid h
  have HG := Lib.hid hG
  obtain ⟨A, cp, rfl, hcp, _⟩ := h.b.row.rd
  obtain ⟨own, wd, ⟨P, pr, fl⟩, ⟨Q, ⟨qa, qb⟩, ql⟩⟩ := D
  simp only at HH HG hl hl2 hcp
  generalize hJ : joinD o ⟨own, wd, ⟨P, pr, fl⟩, ⟨Q, (qa, qb), ql⟩⟩ = J
  unfold joinD at hJ
  simp only at hJ
  have HJ := Lib.hid hJ
  clear hJ
  obtain ⟨n, hn⟩ : ∃ n, n = Q.length := ⟨_, rfl⟩
  rw [← hn] at HH hl2 hcp ⊢
  have HN := Lib.hid hn
  have hpp : p ≠ p' := h.ne
  clear h hG hn
  go_enter Tryd.func35, Tryd.ntmps35
  go_wp2_with fail
  go_loopw [4] (fun x wr => ∃ j : Nat, j ≤ n ∧ x = .int .i64 j ∧ Hid (Ro w0 wr R C K o o' p p' v (.slice A n cp) ⟨setO own (chunks (Q.take j)) o, wd, ⟨P, pr, fl⟩, ⟨Q, (qa, qb), ql⟩⟩ ∧ Turn (roF R p p' v (.slice A n cp)) (roF R p p' v (.slice A n cp)) w wr)) (fun x _ => n - (intOf x).toNat)
  case atStart => exact ⟨0, Nat.zero_le _, rfl, Lib.hid ⟨by rw [List.take_zero]; show Ro w0 w R C K o o' p p' _ _ ⟨setO own [] o, wd, _, _⟩; rw [setO_nil]; exact HH.out, Turn.refl _ _⟩⟩
  case round =>
    obtain ⟨j, hj, rfl, HR⟩ := hrel
    have d2 := HR.out.1.b.c2
    have d1 := HR.out.1.a.c1
    by_cases hlt : j < n
    · obtain ⟨x, hx⟩ : ∃ x, Q[j]? = some x := ⟨Q[j]'(by have := HN.out; omega), by simp⟩
      obtain ⟨A2, cp2, e2, _, hrd⟩ := HR.out.1.b.row.rd
      injection e2 with e2 e3 e4
      subst e2 e4
      obtain ⟨g, rfl, hg1, hg2, r0, r1, r2⟩ := hrd j x hx
      have hmem := List.mem_of_getElem? hx
      have hpt := HG.out.b.part hmem
      obtain ⟨a, b⟩ := x
      simp only at r0 r1 r2
      obtain ⟨c, hcc⟩ : ∃ c, c = decide (1 < b) := ⟨_, rfl⟩
      rw [← hcc] at r2
      have hgv := fun (W : World) (e1 : W.heap = wr.heap) (e2 : W.os = wr.os) (e3 : W.tape = wr.tape) (e4 : W.output = wr.output) => rgivep_any (HR.out.1.same e1 e2 e3 e4) a b c o ho1 ho2 hpt.2 (fun q h1 h2 => by
        show setO own (chunks (Q.take j)) o q ≠ 0
        rw [setO_out (chunks_new HG.out.b.nod hx (cs_mem.2 ⟨h1, h2⟩))]
        have h3 : own q = o' := (HG.out.b.has q (cs_sub hmem (cs_mem.2 ⟨h1, h2⟩))).2
        have := HG.out.o2
        omega)
      have HC := Lib.hid hgv
      have HTK := Lib.hid (chunks_take hx)
      have HRW := Lib.hid (show ∀ (W : World), RR W w0.heap.size (.slice (some ⟨g, 0, none⟩) n cp) Q → W.cell? ⟨g, j * 3, none⟩ = some (.int .i64 (a : Nat)) ∧ W.cell? ⟨g, j * 3 + 1, none⟩ = some (.int .i64 (b : Nat)) ∧ W.cell? ⟨g, j * 3 + 2, none⟩ = some (.bool c) from fun W hW => by
        obtain ⟨A3, cp3, e5, _, hrd3⟩ := hW.rd
        injection e5 with e5 e6 e7
        subst e5
        obtain ⟨g', e8, _, _, s0, s1, s2⟩ := hrd3 j (a, b) hx
        injection e8 with e8
        injection e8 with e8
        subst e8
        rw [hcc]
        exact ⟨s0, s1, s2⟩)
      clear hgv hrd hx hmem e3 hg1 hg2 hpt hcc
      go_wp2_with fail
      go_region_held3 (fun w' => w'.cell? ⟨p', 2, none⟩ = some (.slice (some ⟨g, 0, none⟩) n cp) ∧ w'.cell? ⟨p, 1, none⟩ = some (.int .i64 (o : Nat)) ∧ w'.cell? ⟨g, j * 3, none⟩ = some (.int .i64 (a : Nat)) ∧ w'.cell? ⟨g, j * 3 + 1, none⟩ = some (.int .i64 (b : Nat)) ∧ w'.cell? ⟨g, j * 3 + 2, none⟩ = some (.bool c)) (simp [go_sem, *])
        (first | (go_at_call 58; refine (HC.out _ (by exact rfl) (by exact rfl) (by exact rfl) (by exact rfl)).mono ?_; rintro e w2 ⟨rfl, hr2, ht2⟩; obtain ⟨s0, s1, s2⟩ := HRW.out w2 hr2.b.row; have s3 := hr2.b.c2; have s4 := hr2.a.c1; have HR2 := Lib.hid hr2; have HT2 := Lib.hid (show Turn (roF R p p' v (.slice (some ⟨g, 0, none⟩) n cp)) (roF R p p' v (.slice (some ⟨g, 0, none⟩) n cp)) wr w2 from ht2.back rfl rfl rfl rfl); clear hr2 ht2))
      all_goals
        go_wp2
        go_roundw
        case rel => exact ⟨j + 1, by omega, by go_num, Lib.hid ⟨by rw [HTK.out, ← setO_append]; exact HR2.out, HR.out.2.trans HT2.out⟩⟩
        case measure => simp [intOf]; omega
    · obtain rfl : j = n := by omega
      have e9 : Q.take j = Q := by rw [HN.out, List.take_length]
      have hco := HR.out.1.same (W := wr.drew) rfl rfl rfl rfl
      have HTN := Lib.hid (HR.out.2.trans (Turn.same (W := wr.drew) rfl rfl rfl rfl))
      rw [e9] at hco
      have HCO := Lib.hid hco
      have hbs : w0.heap.size ≤ wr.heap.size := HCO.out.bel.size
      have a2 : wr.cell? ⟨p, 2, none⟩ = some v := hco.a.c2
      have b2 : wr.cell? ⟨p', 2, none⟩ = some (.slice A j cp) := hco.b.c2
      obtain ⟨A5, cp5, rfl, _⟩ := HCO.out.a.row.rd
      clear d1 d2 e9 HR hco
      go_wp2_with fail
      go_region_law (first
        | (refine step_append_rr rfl (.tmp 31) (.tmp 35) rfl w0.heap.size w0.heap.size P Q _ _ (by simp [Act.eval]) (by simp [Act.eval]) HCO.out.a.row HCO.out.b.row (by have := HN.out; omega) hbs ?_; intro v3 w3 hr3 ha3 hu3; obtain ⟨A6, cp6, e6, _⟩ := hr3.rd; rw [List.length_append] at e6; subst e6; obtain ⟨q0, q1, q2, HP3⟩ := HCO.out.pushed hr3 ha3 hu3; clear hr3 ha3 hu3))
      all_goals
        have hp := HP3.out.1
        have HTP := Lib.hid HP3.out.2
        obtain ⟨z, hz, hb⟩ := hp.b.box
        obtain ⟨y, hy, hc⟩ := hp.a.box
        simp only at hz hb hy hc
        have HPO := Lib.hid hp
        obtain ⟨W, hW⟩ : ∃ W, W = w3.setCell ⟨p, 2, none⟩ (.slice A6 (P.length + Q.length) cp6) := ⟨_, rfl⟩
        rw [← hW] at hb hc HPO HTP ⊢
        have bf := hb.free
        have cf := hc.free
        have b2 := (hb.cell 2).trans rfl
        have b3 := (hb.cell 3).trans rfl
        have b4 := (hb.cell 4).trans rfl
        have c3 := (hc.cell 3).trans rfl
        have c4 := (hc.cell 4).trans rfl
        have hpp' := hpp.symm
        clear hW hp HP3 q0 q1 q2 hb hc
        by_cases hq : (qa, qb) = (0, 0)
        · have HE := Lib.hid HPO.out.emptied
          have hj := HJ.out
          rw [if_pos hq, if_pos hq] at hj
          have HJ2 := Lib.hid hj
          unfold prI at b3
          rw [if_pos hq] at b3
          clear hj hz hy hq
          go_wp2
          go_end0
          have hj := HJ2.out
          subst hj
          exact ⟨rfl, _, _, HE.out.1, (HTN.out.trans HTP.out).trans HE.out.2⟩
        · have HE := Lib.hid (HPO.out.taken (f := ql) hq)
          obtain rfl := hz hq
          have hj := HJ.out
          rw [if_neg hq, if_neg hq] at hj
          have HJ2 := Lib.hid hj
          unfold prI at b3
          rw [if_neg hq] at b3
          simp only at b3
          have d : decide ((qa : Int) ≥ 0) = true := by simp
          clear hj hz hy hq
          go_wp2
          go_end0
          have hj := HJ2.out
          subst hj
          exact ⟨rfl, _, _, HE.out.1, (HTN.out.trans HTP.out).trans HE.out.2⟩
end
end Go.Proofs.YteencfldehcbbaaDoor
