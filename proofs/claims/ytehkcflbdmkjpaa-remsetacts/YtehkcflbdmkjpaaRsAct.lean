/- Slices of acts; grown. -/
import Derived.Test.YtehkcflbdmkjpaaRsLs
namespace Go.Proofs.Ytehkcflbdmkjpaa
open Go.RowKit Go.Maps Go.Sort

/-- An act's four cells. -/
def ActAt (w : World) (b o : Nat) (a : RM.Act) : Prop :=
  w.cell? ⟨b, o, none⟩ = some (.int .i64 a.k) ∧ w.cell? ⟨b, o + 1, none⟩ = some (.int .i64 a.s) ∧ w.cell? ⟨b, o + 2, none⟩ = some (.int .i64 a.p) ∧ w.cell? ⟨b, o + 3, none⟩ = some (.int .i64 a.n)
def ActOk (a : RM.Act) : Prop := I64ok a.k ∧ I64ok a.s ∧ I64ok a.p ∧ I64ok a.n
/-- A slice of acts that reads as the list ls, its memory below block B. -/
def ActS (w : World) (B : Nat) (A : Option Addr) (n : Nat) (ls : List RM.Act) : Prop :=
  ls.length = n ∧ (∀ a ∈ ls, ActOk a) ∧ (0 < n → ∃ b off, A = some ⟨b, off, none⟩ ∧ b < B ∧ ∀ i a, ls[i]? = some a → ActAt w b (off + i * 4) a)
theorem ActS.below {w w' : World} {B n : Nat} {A : Option Addr} {ls : List RM.Act} (h : ActS w B A n ls) (hb : Below B w w') : ActS w' B A n ls := by
  refine ⟨h.1, h.2.1, fun hn => ?_⟩
  obtain ⟨b, off, e, hlt, hc⟩ := h.2.2 hn
  refine ⟨b, off, e, hlt, fun i a hi => ?_⟩
  obtain ⟨h0, h1, h2, h3⟩ := hc i a hi
  exact ⟨(hb.cell (p := ⟨b, _, none⟩) hlt).trans h0, (hb.cell (p := ⟨b, _, none⟩) hlt).trans h1, (hb.cell (p := ⟨b, _, none⟩) hlt).trans h2, (hb.cell (p := ⟨b, _, none⟩) hlt).trans h3⟩
theorem ActS.more {w : World} {B B' n : Nat} {A : Option Addr} {ls : List RM.Act} (h : ActS w B A n ls) (hb : B ≤ B') : ActS w B' A n ls := by
  refine ⟨h.1, h.2.1, fun hn => ?_⟩
  obtain ⟨b, off, e, hlt, hc⟩ := h.2.2 hn
  exact ⟨b, off, e, by omega, hc⟩
theorem ActS.at_ {w : World} {B n k : Nat} {A : Option Addr} {ls : List RM.Act} (h : ActS w B A n ls) (hk : k < n) : ∃ b off, ∃ hl : k < ls.length, A = some ⟨b, off, none⟩ ∧ b < B ∧ ActAt w b (off + k * 4) ls[k] ∧ ActOk ls[k] := by
  obtain ⟨b, off, e, hlt, hc⟩ := h.2.2 (by omega)
  have hl : k < ls.length := by have := h.1; omega
  exact ⟨b, off, hl, e, hlt, hc k _ (List.getElem?_eq_getElem hl), h.2.1 _ (List.getElem_mem hl)⟩
theorem ActOk.r {a : RM.Act} (h : ActOk a) : RefOk a.r := ⟨h.2.1, h.2.2.1⟩
theorem RM.step_put {L : RM.L} {a : RM.Act} (h : a.k = 0) : RM.step L a = RM.put L a.r a.n := by unfold RM.step; rw [if_pos h]
theorem RM.step_cut {L : RM.L} {a : RM.Act} (h : a.k = 1) : RM.step L a = RM.cut L a.r := by unfold RM.step; rw [if_neg (by omega), if_pos h]
theorem RM.step_forget {L : RM.L} {a : RM.Act} (h : a.k = 2) : RM.step L a = RM.forget L a.n := by unfold RM.step; rw [if_neg (by omega), if_neg (by omega), if_pos h]
theorem RM.step_none {L : RM.L} {a : RM.Act} (h0 : a.k ≠ 0) (h1 : a.k ≠ 1) (h2 : a.k ≠ 2) : RM.step L a = L := by unfold RM.step; rw [if_neg h0, if_neg h1, if_neg h2]
theorem RM.run_take {l : List RM.Act} {k : Nat} (h : k < l.length) : RM.run (l.take (k + 1)) = RM.step (RM.run (l.take k)) l[k] := by
  rw [List.take_succ_eq_append_getElem h, RM.run_snoc]

/-- What grown leaves. -/
def GrE (ls : List RM.Act) (w : World) (e : Ending) (w' : World) : Prop := ∃ p, e = .returned (.pointer (some ⟨p, 0, none⟩)) ∧ Cs w w' p 200 (RM.run ls)
set_option maxHeartbeats 4000000 in
set_option maxRecDepth 100000 in
theorem grown_any (A : Option Addr) (n c : Nat) (ls : List RM.Act) (w : World) (h : ActS w w.heap.size A n ls) (hn : n ≤ 100) : Calls Try.prog 24 #[.slice A n c] w (GrE ls w) := by
  have HN := Lib.hid (cnew w)
  have HS := Lib.hid h
  have hlen := h.1
  clear h
  go_enter Try.func24, Try.ntmps24
  go_wp2_with fail
  refine HN.out.mono ?_
  rintro e w1 ⟨p, rfl, h1⟩
  have H1 := Lib.hid h1
  clear h1
  go_wp2_with fail
  go_loopw [16] (fun i wr => ∃ k : Nat, k ≤ n ∧ i = .int .i64 k ∧ Cs w wr p k (RM.run (ls.take k))) (fun i _ => n - (intOf i).toNat)
  case atStart => exact ⟨0, Nat.zero_le _, rfl, by simpa [RM.run] using H1.out⟩
  case round =>
    obtain ⟨k, hk, rfl, hm⟩ := hrel
    by_cases hlt : k < n
    · obtain ⟨b, off, hl, rfl, hbl, ⟨a0, a1, a2, a3⟩, hok⟩ := (HS.out.below hm.bel).at_ hlt
      have HT := Lib.hid (RM.run_take hl)
      obtain ⟨a, ha⟩ : ∃ a, a = ls[k] := ⟨_, rfl⟩
      rw [← ha] at a0 a1 a2 a3 HT hok
      obtain ⟨ak, sa, ap, an⟩ := a
      dsimp only at a0 a1 a2 a3
      have hbx := (Below.refl wr.heap.size wr).alloc (Nat.le_refl _) (.cells #[.int .i64 ak, .int .i64 sa, .int .i64 ap, .int .i64 an] 42)
      have h2 := hm.below hbx
      by_cases e0 : ak = 0
      · subst e0
        have HP := Lib.hid (cput h2 hok.r hok.2.2.2 (by omega))
        rw [← RM.step_put (a := ⟨0, sa, ap, an⟩) rfl, ← HT.out] at HP
        unfold refV RM.Act.r at HP
        dsimp only at HP
        clear hm ha hbx h2 hok
        go_wp2_with fail
        refine HP.out.mono ?_
        rintro e w3 ⟨rfl, h3, _⟩
        have H3 := Lib.hid h3
        clear h3
        go_wp2
        go_roundw
        case rel => exact ⟨k + 1, by omega, by go_num, H3.out⟩
        case measure => simp [intOf]; omega
      · by_cases e1 : ak = 1
        · subst e1
          have HP := Lib.hid (ccut h2 hok.r)
          rw [← RM.step_cut (a := ⟨1, sa, ap, an⟩) rfl, ← HT.out] at HP
          unfold refV RM.Act.r at HP
          dsimp only at HP
          clear hm ha hbx h2 hok
          go_wp2_with fail
          refine HP.out.mono ?_
          rintro e w3 ⟨rfl, h3, _⟩
          have H3 := Lib.hid h3
          clear h3
          go_wp2
          go_roundw
          case rel => exact ⟨k + 1, by omega, by go_num, H3.out.more (by omega)⟩
          case measure => simp [intOf]; omega
        · by_cases e2 : ak = 2
          · subst e2
            have HP := Lib.hid (cforget h2 hok.2.2.2 (by omega))
            rw [← RM.step_forget (a := ⟨2, sa, ap, an⟩) rfl, ← HT.out] at HP
            dsimp only at HP
            clear hm ha hbx h2 hok
            go_wp2_with fail
            refine HP.out.mono ?_
            rintro e w3 ⟨rfl, h3, _⟩
            have H3 := Lib.hid h3
            clear h3
            go_wp2
            go_roundw
            case rel => exact ⟨k + 1, by omega, by go_num, H3.out.more (by omega)⟩
            case measure => simp [intOf]; omega
          · rw [RM.step_none (a := ⟨ak, sa, ap, an⟩) e0 e1 e2] at HT
            have H3 : Hid (Cs w (wr.alloc (.cells #[.int .i64 ak, .int .i64 sa, .int .i64 ap, .int .i64 an] 42)) p k (RM.run (ls.take (k + 1)))) := Lib.hid (by rw [HT.out]; exact h2)
            have d0 : (ak == 0) = false := by simpa using e0
            have d1 : (ak == 1) = false := by simpa using e1
            have d2 : (ak == 2) = false := by simpa using e2
            clear hm ha hbx h2 hok
            go_wp2
            go_roundw
            case rel => exact ⟨k + 1, by omega, by go_num, H3.out.more (by omega)⟩
            case measure => simp [intOf]; omega
    · obtain rfl : k = n := by omega
      rw [List.take_of_length_le (by omega)] at hm
      have HM := Lib.hid hm
      clear hm
      go_wp2
      go_ret
      exact ⟨p, rfl, HM.out.more (by omega)⟩
theorem grown_big (A : Option Addr) (n c : Nat) (w : World) (hn : 100 < n) : Calls Try.prog 24 #[.slice A n c] w fun e w' => e = .returned (.pointer none) ∧ Below w.heap.size w w' := by
  have HN := Lib.hid (cnew w)
  go_enter Try.func24, Try.ntmps24
  go_wp2_with fail
  refine HN.out.mono ?_
  rintro e w1 ⟨p, rfl, h1⟩
  have H1 := Lib.hid h1.bel
  clear h1
  go_wp2
  go_ret
  exact ⟨rfl, H1.out⟩
end Go.Proofs.Ytehkcflbdmkjpaa
