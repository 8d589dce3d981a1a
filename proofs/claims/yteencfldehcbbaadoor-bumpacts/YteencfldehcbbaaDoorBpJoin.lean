/- Contract of Join. -/
import Derived.Test.YteencfldehcbbaaDoorBpHand
import Derived.Test.YteencfldehcbbaaDoorBpClear
namespace Go.Proofs.YteencfldehcbbaaDoor
open Go.RowKit Go.Sort BP
set_option linter.unusedVariables false

theorem zero_cases (a b : Nat) : (a = 0 ∧ b = 0) ∨ ((a, b) ≠ (0, 0) ∧ ((a : Int) == 0) = false) ∨ ((a, b) ≠ (0, 0) ∧ a = 0 ∧ ((b : Int) == 0) = false) := by
  by_cases e : a = 0
  · by_cases e2 : b = 0
    · exact .inl ⟨e, e2⟩
    · exact .inr (.inr ⟨by simp [e2], e, by simp; omega⟩)
  · exact .inr (.inl ⟨by simp [e], by simp; omega⟩)
section
variable {w0 w : World} {B : SB} {C K o o' p p' : Nat} {v v' : Value} {D : Dt}
/-- The other one's box is emptied. -/
theorem Co.emptied {own wd : Nat → Nat} {S T : Sp} {w1 : World} (h : Co w0 w1 B C K o o' p p' v v' ⟨own, wd, S, T⟩) (hT : Tab w0) :
    Co w0 ((((w1.setCell ⟨p', 2, none⟩ (.slice none 0 0)).setCell ⟨p', 3, none⟩ (.int .i64 0)).setCell ⟨p', 4, none⟩ (.int .i64 0)).setCell ⟨p', 5, none⟩ (.int .i64 0)) B C K o o' p p' v (.slice none 0 0) ⟨own, wd, S, ⟨[], (0, 0), 0⟩⟩ ∧
      Turn (coF B p p' v v') (coF B p p' v (.slice none 0 0)) w1 ((((w1.setCell ⟨p', 2, none⟩ (.slice none 0 0)).setCell ⟨p', 3, none⟩ (.int .i64 0)).setCell ⟨p', 4, none⟩ (.int .i64 0)).setCell ⟨p', 5, none⟩ (.int .i64 0)) := by
  have hc := h.swap
  have hd := hc.done hT (u := .slice none 0 0) (P := []) (a := 0) (b := 0) (fl := 0) (Aft.refl _ _) (PR.nil _ _) (fun g hg => by simp [Value.ownBlock] at hg) (((((OnlyAt.refl p' _).setCell 2 _).setCell 3 _).setCell 4 _).setCell 5 _) ((((hc.a.box.set 2 (.slice none 0 0)).set 3 (.int .i64 0)).set 4 (.int .i64 0)).set 5 (.int .i64 0))
  exact ⟨hd.1.swap, turn_swap hd.2⟩
/-- The first one's present chunk. -/
theorem Co.present {own wd : Nat → Nat} {P : List (Nat × Nat)} {pa pb fl a b f : Nat} {T : Sp} {w1 : World} (h : Co w0 w1 B C K o o' p p' v v' ⟨own, wd, ⟨P, (pa, pb), fl⟩, T⟩) (hT : Tab w0) :
    Co w0 (((w1.setCell ⟨p, 3, none⟩ (.int .i64 (a : Nat))).setCell ⟨p, 4, none⟩ (.int .i64 (b : Nat))).setCell ⟨p, 5, none⟩ (.int .i64 (f : Nat))) B C K o o' p p' v v' ⟨own, wd, ⟨P, (a, b), f⟩, T⟩ ∧
      Turn (coF B p p' v v') (coF B p p' v v') w1 (((w1.setCell ⟨p, 3, none⟩ (.int .i64 (a : Nat))).setCell ⟨p, 4, none⟩ (.int .i64 (b : Nat))).setCell ⟨p, 5, none⟩ (.int .i64 (f : Nat))) :=
  h.done hT (Aft.refl _ _) h.a.row (fun g hg => .inl hg) ((((OnlyAt.refl p _).setCell 3 _).setCell 4 _).setCell 5 _) (((h.a.box.set 3 (.int .i64 (a : Nat))).set 4 (.int .i64 (b : Nat))).set 5 (.int .i64 (f : Nat)))
theorem Co.drew (h : Co w0 w B C K o o' p p' v v' D) (hT : Tab w0) : Co w0 w.drew B C K o o' p p' v v' D := h.later hT ((Below.refl _ _).drew)
set_option maxHeartbeats 4000000 in
set_option maxRecDepth 100000 in
theorem join_any (h : Co w0 w B C K o o' p p' v v' D) (hT : Tab w0) (hG : Good2 C K o o' D) (ho2 : o < 9223372036854775808) :
    Calls Tryd.prog 28 #[.pointer (some ⟨p, 0, none⟩), .pointer (some ⟨p', 0, none⟩)] w (CoPost2 (.int .i64 0) w0 B C K o o' p p' v v' (joinD o D) w) := by
  have hC := h.held.st.C2
  have hl := hG.a.len
  have hl2 := hG.b.len
  have ho1 := hG.o1
  have HMAY := Lib.hid h.may
  have HH := Lib.hid h
  have HG := Lib.hid hG
  obtain ⟨A, cp, rfl, hcp, _⟩ := h.b.row.rd
  obtain ⟨own, wd, ⟨P, ⟨pa, pb⟩, fl⟩, ⟨Q, ⟨qa, qb⟩, ql⟩⟩ := D
  simp only at HH HG hl hl2 hcp
  generalize hJ : joinD o ⟨own, wd, ⟨P, (pa, pb), fl⟩, ⟨Q, (qa, qb), ql⟩⟩ = J
  unfold joinD at hJ
  simp only at hJ
  have HJ := Lib.hid hJ
  clear hJ
  obtain ⟨n, hn⟩ : ∃ n, n = Q.length := ⟨_, rfl⟩
  rw [← hn] at HH hl2 hcp ⊢
  have HN := Lib.hid hn
  clear h hG hn
  go_enter Tryd.func28, Tryd.ntmps28
  go_wp2_with (first
    | (go_at_call 51; refine HMAY.out.mono ?_; rintro e w1 ⟨rfl, hb1⟩; have HC1 := Lib.hid (HH.out.later hT hb1); have c2 := HC1.out.b.c2; have HB1 := Lib.hid hb1; clear hb1))
  go_loopw [19] (fun x wr => ∃ j : Nat, j ≤ n ∧ x = .int .i64 j ∧ Hid (∃ u, Co w0 wr B C K o o' p p' u (.slice A n cp) ⟨setO own (chunks (Q.take j)) o, wd, ⟨P ++ Q.take j, (pa, pb), fl⟩, ⟨Q, (qa, qb), ql⟩⟩ ∧ Turn (coF B p p' v (.slice A n cp)) (coF B p p' u (.slice A n cp)) w wr)) (fun x _ => n - (intOf x).toNat)
  case atStart => exact ⟨0, Nat.zero_le _, rfl, Lib.hid ⟨v, by rw [List.take_zero, List.append_nil]; show Co w0 w1 B C K o o' p p' _ _ ⟨setO own [] o, wd, _, _⟩; rw [setO_nil]; exact HC1.out, Turn.of_below HB1.out⟩⟩
  case round =>
    obtain ⟨j, hj, rfl, HR⟩ := hrel
    obtain ⟨u, hco, htn⟩ := HR.out
    have HCO := Lib.hid hco
    have HTN := Lib.hid htn
    clear HR htn
    by_cases hlt : j < n
    · obtain ⟨x, hx⟩ : ∃ x, Q[j]? = some x := ⟨Q[j]'(by have := HN.out; omega), by simp⟩
      obtain ⟨A2, cp2, e2, _, hrd⟩ := hco.b.row.rd
      injection e2 with e2 e3 e4
      subst e2 e4
      obtain ⟨g, rfl, hg1, hg2, r0, r1⟩ := hrd j x hx
      have hmem := List.mem_of_getElem? hx
      have hpt := HG.out.b.part hmem
      obtain ⟨a, b⟩ := x
      have hb := (Below.refl wr.heap.size wr).alloc (Nat.le_refl _) (.cells #[.int .i64 a, .int .i64 b] 77)
      have hadd := add_any (HCO.out.later hT hb) hT a b hpt.2 ho1 ho2 (by show (P ++ Q.take j).length ≤ 5000; rw [List.length_append, List.length_take]; omega) (fun c h1 h2 => by
        show setO own (chunks (Q.take j)) o c ≠ 0
        rw [setO_out (chunks_new HG.out.b.nod hx (cs_mem.2 ⟨h1, h2⟩))]
        have h3 : own c = o' := (HG.out.b.has c (cs_sub hmem (cs_mem.2 ⟨h1, h2⟩))).2
        have := HG.out.o2
        omega)
      have HA := Lib.hid hadd
      have HB := Lib.hid hb
      have HTK := Lib.hid (chunks_take hx)
      have HTL := Lib.hid (show Q.take (j + 1) = Q.take j ++ [(a, b)] by rw [List.take_add_one, hx]; rfl)
      clear hadd hb hrd hx hmem e3 hg1 hg2 hpt hco c2
      go_wp2_with (first | (go_at_call 52; refine HA.out.mono ?_; rintro e w2 ⟨rfl, u2, hc2, ht2⟩; have HC2 := Lib.hid hc2; have HT2 := Lib.hid ht2; clear hc2 ht2))
      go_roundw
      case rel =>
        refine ⟨j + 1, by omega, by go_num, Lib.hid ⟨u2, ?_, (HTN.out.trans (Turn.of_below HB.out)).trans HT2.out⟩⟩
        rw [HTK.out, HTL.out, ← setO_append, ← List.append_assoc]
        exact HC2.out
      case measure => simp [intOf]; omega
    · obtain rfl : j = n := by omega
      have e9 : Q.take j = Q := by rw [HN.out, List.take_length]
      rw [e9] at HCO
      clear hco e9 c2
      have y3 := HCO.out.b.c3
      have y4 := HCO.out.b.c4
      have y5 := HCO.out.b.c5
      rcases zero_cases qa qb with ⟨rfl, rfl⟩ | ⟨hq, hq1⟩ | ⟨hq, -, hq1⟩
      · have HE := Lib.hid (HCO.out.emptied hT)
        have y2 := HCO.out.b.c2
        have yf := HCO.out.b.box.free
        go_wp2
        go_ret
        have hj := HJ.out
        rw [if_pos trivial, if_pos trivial] at hj
        subst hj
        exact ⟨rfl, u, .slice none 0 0, HE.out.1, HTN.out.trans HE.out.2⟩
      all_goals
        have HQ := Lib.hid hq
        have z3 := HCO.out.a.c3
        have z4 := HCO.out.a.c4
        have z5 := HCO.out.a.c5
        have zf := HCO.out.a.box.free
        clear hq
        go_wp2_with fail
        go_region
        all_goals
          have hp := HCO.out.present (a := qa) (b := qb) (f := ql) hT
          have hdr := hp.1.drew hT
          have HP := Lib.hid hp.2
          have HE := Lib.hid (hdr.emptied hT)
          have x2 := hdr.b.c2
          have x3 := hdr.b.c3
          have x4 := hdr.b.c4
          have x5 := hdr.b.c5
          have xf := hdr.b.box.free
          have HDR := Lib.hid (Turn.of_below (F := coF B p p' u (.slice A j cp)) ((Below.refl (((wr.setCell ⟨p, 3, none⟩ (.int .i64 (qa : Nat))).setCell ⟨p, 4, none⟩ (.int .i64 (qb : Nat))).setCell ⟨p, 5, none⟩ (.int .i64 (ql : Nat))).heap.size _).drew))
          generalize hW : ((((wr.setCell ⟨p, 3, none⟩ (.int .i64 (qa : Nat))).setCell ⟨p, 4, none⟩ (.int .i64 (qb : Nat))).setCell ⟨p, 5, none⟩ (.int .i64 (ql : Nat))).drew) = W at *
          clear y3 y4 y5 z3 z4 z5 zf hp hdr hW
          go_wp2
          go_ret
          have hj := HJ.out
          rw [if_neg HQ.out, if_neg HQ.out] at hj
          subst hj
          exact ⟨rfl, u, .slice none 0 0, HE.out.1, ((HTN.out.trans HP.out).trans HDR.out).trans HE.out.2⟩
end
end Go.Proofs.YteencfldehcbbaaDoor
