/- The document's Clear. -/
import Derived.Test.YteencfldehcbbaaDoorBpRd
namespace Go.Proofs.YteencfldehcbbaaDoor
open Go.RowKit Go.Sort BP
set_option linter.unusedVariables false

/-- The length of the slice in a box's third cell. -/
def lenAt (p : Nat) (w : World) : Nat := match w.cell? ⟨p, 2, none⟩ with
  | some (.slice _ n _) => n
  | _ => 0
theorem lenAt_eq {p n c : Nat} {A : Option Addr} {w : World} (h : w.cell? ⟨p, 2, none⟩ = some (.slice A n c)) : lenAt p w = n := by unfold lenAt; rw [h]
/-- So many parts are dropped. -/
structure Cl (C K o o' : Nat) (D E : Dt) (j : Nat) : Prop where
  good : Good2 C K o o' E
  parts : E.S.parts = D.S.parts.drop j
  own : E.own = setO D.own (chunks (D.S.parts.take j)) 0
  wd : E.wd = D.wd
  T : E.T = D.T
theorem Cl.next {C K o o' j : Nat} {D E : Dt} (h : Cl C K o o' D E j) (hj : j < D.S.parts.length) : ∃ x, E.S.parts[0]? = some x ∧ Cl C K o o' D (dropD E (x.1 : Nat)) (j + 1) := by
  obtain ⟨x, hx⟩ : ∃ x, D.S.parts[j]? = some x := ⟨D.S.parts[j], by simp [hj]⟩
  have he : E.S.parts = x :: D.S.parts.drop (j + 1) := by
    rw [h.parts, List.drop_eq_getElem_cons hj]
    congr 1
    rw [List.getElem?_eq_getElem hj] at hx
    injection hx
  have hmem : x ∈ E.S.parts := by rw [he]; simp
  have hone := h.good.a.one
  have hnod := h.good.a.nod
  have hf : fromP E.S.parts (x.1 : Nat) = x := by
    rw [he]
    unfold fromP
    simp
  have hnz : fromP E.S.parts (x.1 : Nat) ≠ (0, 0) := fun e => by
    have := hone x hmem
    rw [hf] at e
    rw [e] at this
    simp at this
  refine ⟨x, by rw [he]; rfl, drop_good h.good _, ?_, ?_, ?_, ?_⟩
  · unfold dropD
    rw [if_neg hnz, hf]
    show E.S.parts.filter (fun y => decide (y ≠ x)) = _
    have hn2 := hnod
    rw [he] at hn2 ⊢
    rw [List.filter_cons, if_neg (by simp)]
    refine List.filter_eq_self.2 fun y hy => ?_
    simp
    rintro rfl
    rw [chunks_cons] at hn2
    have h1 := hone y hmem
    have hc : y.1 ∈ cs y := cs_mem.2 (by omega)
    exact (List.nodup_append.1 hn2).2.2 y.1 hc y.1 (cs_sub hy hc) rfl
  · unfold dropD
    rw [if_neg hnz, hf]
    show setO E.own (cs x) 0 = _
    rw [h.own, setO_append, chunks_take hx]
  · unfold dropD
    rw [if_neg hnz]
    exact h.wd
  · unfold dropD
    rw [if_neg hnz]
    exact h.T
section
variable {w0 w : World} {R : RB} {C K o o' p p' : Nat} {v v' : Value} {D : Dt}
/-- None has a present chunk: what is filled is of no matter. -/
theorem RSp.unfilled {base m fl fl' : Nat} {P : List (Nat × Nat)} (h : RSp w base p v m o ⟨P, (0, 0), fl⟩) : RSp w base p v m o ⟨P, (0, 0), fl'⟩ := by
  obtain ⟨z, hz, hb⟩ := h.box
  exact ⟨⟨z, fun hh => absurd rfl hh, hb⟩, h.row, h.lo⟩
set_option maxHeartbeats 4000000 in
set_option maxRecDepth 100000 in
theorem rclear_any (h : Ro w0 w R C K o o' p p' v v' D) (hG : Good2 C K o o' D) :
    Calls Tryd.prog 38 #[.pointer (some ⟨p, 0, none⟩)] w (RoPost (.tuple #[]) w0 R C K o o' p p' v v' (clearD D) w) := by
  have HH := Lib.hid h
  have HG := Lib.hid hG
  obtain ⟨n, hn⟩ : ∃ n, n = D.S.parts.length := ⟨_, rfl⟩
  have HN := Lib.hid hn
  clear h hG hn
  go_enter Tryd.func38, Tryd.ntmps38
  go_wp2_with fail
  go_loopw [2] (fun _ wr => Hid (∃ (j : Nat) (u : Value) (E : Dt), j ≤ n ∧ Ro w0 wr R C K o o' p p' u v' E ∧ Turn (roF R p p' v v') (roF R p p' u v') w wr ∧ Cl C K o o' D E j)) (fun _ wr => lenAt p wr)
  case atStart => exact Lib.hid ⟨0, v, D, Nat.zero_le _, HH.out, Turn.refl _ _, HG.out, by simp, by simp [setO_nil, chunks], rfl, rfl⟩
  case round =>
    have HR := hrel
    clear hrel
    obtain ⟨j, u, E, hj, hro, htn, hcl⟩ := HR.out
    obtain ⟨A, cp, rfl, hcp, hrd⟩ := hro.a.row.rd
    have c2 := hro.a.c2
    have hle : E.S.parts.length = n - j := by rw [hcl.parts, List.length_drop, HN.out]
    have hC := hro.rf.C2
    have hl := hcl.good.a.len
    rw [hle] at c2 hcp
    by_cases hlt : j < n
    · obtain ⟨x, hx, hnx⟩ := hcl.next (by rw [← HN.out]; exact hlt)
      obtain ⟨g, rfl, hg1, hg2, r0, r1, r2⟩ := hrd 0 x hx
      have hd := rdrop_any hro hcl.good.a hcl.good.o1 (x.1 : Nat)
      have HD := Lib.hid hd
      have HNX := Lib.hid hnx
      have HTN := Lib.hid htn
      have HLE := Lib.hid hle
      obtain ⟨a, b⟩ := x
      simp only at r0 HD HNX
      rw [Nat.zero_mul] at r0
      obtain ⟨k, hk⟩ : ∃ k, k = n - j := ⟨_, rfl⟩
      rw [← hk] at c2 hcp
      have hk0 : 0 < k := by omega
      have hk1 : k ≤ 1024 := by rw [hk, ← hle]; omega
      have HK := Lib.hid hk
      clear HR hro htn hcl hrd hx hnx hd hg1 hg2 r1 r2 hle hl hk
      go_wp2_with (first | (go_at_call 37; refine HD.out.mono ?_; rintro e w2 ⟨rfl, u2, hr2, ht2⟩; have HR2 := Lib.hid hr2; have HT2 := Lib.hid ht2; clear hr2 ht2))
      go_roundw
      case rel => exact Lib.hid ⟨j + 1, u2, _, by omega, HR2.out, HTN.out.trans HT2.out, HNX.out⟩
      case measure =>
        obtain ⟨A7, cp7, e7, _⟩ := HR2.out.a.row.rd
        have z2 := HR2.out.a.c2
        rw [e7, HNX.out.parts, List.length_drop] at z2
        rw [lenAt_eq c2, lenAt_eq z2]
        have := HN.out
        have := HK.out
        omega
    · obtain rfl : j = n := by omega
      rw [Nat.sub_self] at c2
      have HE := Lib.hid (show Ro w0 wr R C K o o' p p' (.slice A E.S.parts.length cp) v' (clearD D) ∧ Turn (roF R p p' v v') (roF R p p' (.slice A E.S.parts.length cp) v') w wr from by
        refine ⟨?_, htn⟩
        obtain ⟨own, wd, ⟨P, pr, fl⟩, T⟩ := E
        have h1 : P = [] := by have := hcl.parts; simp only at this; rw [this, HN.out]; simp
        have h2 : pr = (0, 0) := by
          rcases hcl.good.a.pr with e | ⟨e, _⟩
          · exact e
          · simp only at e; rw [h1] at e; cases e
        have h3 : own = setO D.own (chunks D.S.parts) 0 := by have := hcl.own; simp only at this; rw [this, HN.out, List.take_length]
        have h4 : wd = D.wd := hcl.wd
        have h5 : T = D.T := hcl.T
        subst h1 h2 h3 h4 h5
        exact ⟨hro.rf, hro.bel, hro.rwin, hro.a.unfilled, hro.b, hro.ne, hro.rows, hro.out⟩)
      clear HR hro htn hcl hrd hle hl hcp
      go_wp2
      go_end0
      exact ⟨rfl, _, HE.out⟩
end
end Go.Proofs.YteencfldehcbbaaDoor
