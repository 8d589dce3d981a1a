/- Contracts of Clear, Drop. -/
import Derived.Test.YteencfldehcbbaaDoorBpAlloc
namespace Go.Proofs.YteencfldehcbbaaDoor
open Go.RowKit Go.Sort BP
set_option linter.unusedVariables false

theorem setO_append {own : Nat → Nat} {l l' : List Nat} {x : Nat} : setO (setO own l x) l' x = setO own (l ++ l') x := by
  funext q
  unfold setO
  by_cases h1 : q ∈ l'
  · rw [if_pos h1, if_pos (List.mem_append.2 (.inr h1))]
  · rw [if_neg h1]
    by_cases h2 : q ∈ l
    · rw [if_pos h2, if_pos (List.mem_append.2 (.inl h2))]
    · rw [if_neg h2, if_neg fun h => by rcases List.mem_append.1 h with h | h <;> contradiction]
theorem chunks_take {P : List (Nat × Nat)} {j : Nat} {x : Nat × Nat} (hx : P[j]? = some x) : chunks (P.take (j + 1)) = chunks (P.take j) ++ cs x := by
  rw [List.take_add_one, hx, chunks_app]; simp [chunks_one]
/-- A part's chunks are none of those ahead of it. -/
theorem chunks_new {P : List (Nat × Nat)} (hn : (chunks P).Nodup) {j : Nat} {x : Nat × Nat} (hx : P[j]? = some x) {c : Nat} (hc : c ∈ cs x) : c ∉ chunks (P.take j) := by
  intro h
  have e : P = P.take (j + 1) ++ P.drop (j + 1) := (List.take_append_drop _ _).symm
  rw [e, chunks_app, chunks_take hx] at hn
  exact (List.nodup_append.1 ((List.nodup_append.1 hn).1)).2.2 c h c hc rfl
section
variable {w0 w : World} {B : SB} {C K o o' p p' : Nat} {v v' : Value} {D : Dt}
theorem clear_nil (w : World) : Calls Tryd.prog 25 #[.pointer none] w fun e w' => e = .returned (.tuple #[]) ∧ Below w.heap.size w w' := by
  go_enter Tryd.func25, Tryd.ntmps25
  go_wp2
  refine bodyPost_ret (results_none rfl _ _ _) rfl ?_
  exact ⟨rfl, Below.refl _ _⟩
set_option maxHeartbeats 4000000 in
set_option maxRecDepth 100000 in
theorem clear_any' (h : Co w0 w B C K o o' p p' v v' D) (hT : Tab w0) (hG : BP.Good C K o D.own D.S) (ho1 : 1 ≤ o) :
    Calls Tryd.prog 25 #[.pointer (some ⟨p, 0, none⟩)] w (CoPost (.tuple #[]) w0 B C K o o' p p' v v' (clearD D) w) := by
  have hC := h.held.st.C2
  have hl := hG.len
  have HH := Lib.hid h
  have HG := Lib.hid hG
  obtain ⟨A, cp, rfl, hcp, _⟩ := h.a.row.rd
  have p2 := h.a.c2
  obtain ⟨own, wd, ⟨P, ⟨pa, pb⟩, fl⟩, T⟩ := D
  simp only at HH HG hl p2 hcp ⊢
  unfold clearD
  simp only
  obtain ⟨n, hn⟩ : ∃ n, n = P.length := ⟨_, rfl⟩
  rw [← hn] at HH hl p2 hcp ⊢
  have HN := Lib.hid hn
  clear h hG hn
  go_enter Tryd.func25, Tryd.ntmps25
  go_wp2_with fail
  go_loopw [11] (fun x wr => ∃ j : Nat, j ≤ n ∧ x = .int .i64 j ∧ Hid (Co w0 wr B C K o o' p p' (.slice A n cp) v' ⟨setO own (chunks (P.take j)) 0, wd, ⟨P, (pa, pb), fl⟩, T⟩ ∧ Turn (coF B p p' (.slice A n cp) v') (coF B p p' (.slice A n cp) v') w wr)) (fun x _ => n - (intOf x).toNat)
  case atStart => exact ⟨0, Nat.zero_le _, rfl, Lib.hid ⟨by rw [List.take_zero]; show Co w0 w B C K o o' p p' _ v' ⟨setO own [] 0, wd, _, T⟩; rw [setO_nil]; exact HH.out, Turn.refl _ _⟩⟩
  case round =>
    obtain ⟨j, hj, rfl, HR⟩ := hrel
    by_cases hlt : j < n
    · obtain ⟨x, hx⟩ : ∃ x, P[j]? = some x := ⟨P[j]'(by have := HN.out; omega), by simp⟩
      obtain ⟨A2, cp2, e2, _, hrd⟩ := HR.out.1.a.row.rd
      injection e2 with e2 e3 e4
      subst e2 e4
      obtain ⟨g, rfl, hg1, hg2, r0, r1⟩ := hrd j x hx
      have hmem := List.mem_of_getElem? hx
      have hpt := HG.out.part hmem
      obtain ⟨a, b⟩ := x
      have hb := (Below.refl wr.heap.size wr).alloc (Nat.le_refl _) (.cells #[.int .i64 a, .int .i64 b] 77)
      have hrel := release_any (HR.out.1.later hT hb) hT a b hpt.2 (fun c h1 h2 => by
        show setO own (chunks (P.take j)) 0 c ≠ 0
        rw [setO_out (chunks_new HG.out.nod hx (cs_mem.2 ⟨h1, h2⟩)), (HG.out.has c (cs_sub hmem (cs_mem.2 ⟨h1, h2⟩))).2]
        omega)
      have HC := Lib.hid hrel
      have HB := Lib.hid hb
      have HTK := Lib.hid (chunks_take hx)
      clear hrel hb hrd hx hmem e3 hg1 hg2 hpt
      go_wp2_with (first | (go_at_call 47; refine HC.out.mono ?_; rintro e w2 ⟨rfl, hc2, ht2⟩; have HC2 := Lib.hid hc2; have HT2 := Lib.hid ht2; clear hc2 ht2))
      go_roundw
      case rel =>
        refine ⟨j + 1, by omega, by go_num, Lib.hid ⟨?_, (HR.out.2.trans (Turn.of_below HB.out)).trans HT2.out⟩⟩
        rw [HTK.out, ← setO_append]
        exact HC2.out
      case measure => simp [intOf]; omega
    · obtain rfl : j = n := by omega
      have z2 := HR.out.1.a.c2
      have z3 := HR.out.1.a.c3
      have z4 := HR.out.1.a.c4
      have z5 := HR.out.1.a.c5
      have zf := HR.out.1.a.box.free
      go_wp2
      go_end0
      have hc := HR.out.1
      have hd := hc.done hT (u := .slice none 0 0) (P := []) (a := 0) (b := 0) (fl := 0) (Aft.refl _ _) (PR.nil _ _) (fun g hg => by simp [Value.ownBlock] at hg) (((((OnlyAt.refl p _).setCell 2 _).setCell 3 _).setCell 4 _).setCell 5 _) ((((hc.a.box.set 2 (.slice none 0 0)).set 3 (.int .i64 0)).set 4 (.int .i64 0)).set 5 (.int .i64 0))
      rw [show P.take j = P by rw [HN.out, List.take_length]] at hd
      exact ⟨rfl, _, hd.1, HR.out.2.trans hd.2⟩
end
end Go.Proofs.YteencfldehcbbaaDoor
