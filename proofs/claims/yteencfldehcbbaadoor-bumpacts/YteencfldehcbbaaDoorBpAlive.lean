/- Contract of the law package's alive: the document's example holds. -/
import Derived.Test.YteencfldehcbbaaDoorBpMade
namespace Go.Proofs.YteencfldehcbbaaDoor
open Go.RowKit Go.Sort BP
set_option linter.unusedVariables false

def alN : Nat → Nat
  | 0 => 3
  | 1 => 6
  | 2 => 2
  | _ => 20
def alX : Nat → Nat
  | 0 => 0
  | 1 => 8
  | 2 => 14
  | _ => 16
def alvD : Nat → Dt
  | 0 => d0
  | j + 1 => alD 10 8 1 (alvD j) (alN j : Nat)
set_option maxRecDepth 100000 in
theorem alv_ok (j : Nat) (h : j < 4) : alE 10 8 1 (alvD j) (alN j : Nat) = 0 ∧ alA 10 8 1 (alvD j) (alN j : Nat) = alX j := by
  have : j = 0 ∨ j = 1 ∨ j = 2 ∨ j = 3 := by omega
  rcases this with rfl | rfl | rfl | rfl
  all_goals exact ⟨by decide +kernel, by decide +kernel⟩
theorem alv_good : ∀ j, Good2 10 8 1 2 (alvD j)
  | 0 => d0_good 10 8
  | j + 1 => alloc_good (by decide) (alv_good j) _
theorem alv_end : room 8 (alvD 4).S = 0 ∧ isBig (alvD 4).S.parts 3 = true ∧ isBig (alvD 4).S.parts 1 = false := ⟨by decide +kernel, by decide +kernel, by decide +kernel⟩
theorem Turn.keep {F F' : List Nat} {w w' : World} (h : Turn F F' w w') {g : Nat} {t : TypeId} {cs : Array Value} (hw : Whole w g t cs) (hg : g ∉ F) : Whole w' g t cs := h.aft.whole hw hg
section
variable {w0 w : World} {B : SB} {C K o o' p p' : Nat} {v v' : Value} {D : Dt}
theorem Co.not (h : Co w0 w B C K o o' p p' v v' D) {g : Nat} (hg : w.heap.size ≤ g) : g ∉ coF B p p' v v' := fun hx => by have := (h.win g hx).2; omega
theorem Co.room (h : Co w0 w B C K o o' p p' v v' D) (hf : D.S.fl ≤ K) : Calls Tryd.prog 18 #[.pointer (some ⟨p, 0, none⟩)] w fun e w' => e = .returned (.int .i64 (BP.room K D.S : Nat)) ∧ Below w.heap.size w w' := room_any h.a h.held.st.size h.held.st.K2 hf
theorem Co.big (h : Co w0 w B C K o o' p p' v v' D) (hG : BP.Good C K o D.own D.S) (k : Int) (hk : -9223372036854775808 ≤ k ∧ k ≤ 9223372036854775807) : Calls Tryd.prog 21 #[.pointer (some ⟨p, 0, none⟩), .int .i64 k] w fun e w' => e = .returned (.bool (isBig D.S.parts k)) ∧ Below w.heap.size w w' := by
  have hC := h.held.st.C2
  exact big_any h.a (fun x hx => by have := hG.part hx; omega) (by have := hG.len; omega) k hk
theorem Co.chunks (h : Co w0 w B C K o o' p p' v v' D) (hG : BP.Good C K o D.own D.S) : Calls Tryd.prog 16 #[.pointer (some ⟨p, 0, none⟩)] w (RowPost (chunks D.S.parts) w) := by
  have hC := h.held.st.C2
  exact chunks_any' h.a (fun x hx => by have := hG.part hx; omega) (by have := hG.len; omega) (by have := hG.clen; omega)
end
set_option maxHeartbeats 4000000 in
set_option maxRecDepth 100000 in
theorem balive_any (w : World) (hT : Tab w) : Calls Tryd.prog 9 #[] w fun e w' => e = .returned (.bool true) ∧ Below w.heap.size w w' := by
  have HM := Lib.hid (show Calls Tryd.prog 11 #[.int .i64 10, .int .i64 8] w (BMadePost 10 8 w) from made_ok 10 8 w hT (by decide) (by decide) (by decide) (by decide))
  go_enter Tryd.func9, Tryd.ntmps9
  go_wp2_with fail
  refine HM.out.mono ?_
  rintro e w1 ⟨B, p, p', rfl, hc1⟩
  have HC1 := Lib.hid hc1
  clear hc1 HM
  go_wp2_with fail
  obtain ⟨wE, hE⟩ : ∃ wE, wE = (w1.alloc (.cells #[.pointer (some ⟨p, 0, none⟩), .pointer (some ⟨p', 0, none⟩)] 27)).alloc (.cells #[.int .i64 3, .int .i64 0, .int .i64 6, .int .i64 8, .int .i64 2, .int .i64 14, .int .i64 20, .int .i64 16] 63) := ⟨_, rfl⟩
  have hbE : Below w1.heap.size w1 wE := by rw [hE]; exact ((Below.refl _ _).alloc (Nat.le_refl _) _).alloc (by simp) _
  have hx1 : Whole wE w1.heap.size 27 #[.pointer (some ⟨p, 0, none⟩), .pointer (some ⟨p', 0, none⟩)] := by rw [hE]; exact (Whole.fresh _ _ _).alloc _
  have hx2 : Whole wE (w1.heap.size + 1) 63 #[.int .i64 3, .int .i64 0, .int .i64 6, .int .i64 8, .int .i64 2, .int .i64 14, .int .i64 20, .int .i64 16] := by rw [hE]; exact Whole.fresh' (by simp)
  have hcE := HC1.out.later hT hbE
  have HX1 := Lib.hid hx1
  have HX2 := Lib.hid hx2
  have HCE := Lib.hid hcE
  have HNO := Lib.hid (fun g (hg : w1.heap.size ≤ g) => HC1.out.not hg)
  rw [← hE]
  clear hbE hx1 hx2 hcE hE
  go_loopw [5, 6, 20] (fun _ _ x wr => ∃ j : Nat, j ≤ 4 ∧ x = .int .i64 j ∧ Hid (∃ u, Co w wr B 10 8 1 2 p p' u (.slice none 0 0) (alvD j) ∧ Turn (coF B p p' (.slice none 0 0) (.slice none 0 0)) (coF B p p' u (.slice none 0 0)) wE wr)) (fun _ _ x _ => 4 - (intOf x).toNat)
  case atStart => exact ⟨0, by decide, rfl, Lib.hid ⟨_, HCE.out, Turn.refl _ _⟩⟩
  case round =>
    obtain ⟨j, hj, rfl, HR⟩ := hrel
    obtain ⟨u, hco, htn⟩ := HR.out
    have HCO := Lib.hid hco
    have HTN := Lib.hid htn
    have hw1 := htn.keep HX1.out (HNO.out _ (Nat.le_refl _))
    have hw2 := htn.keep HX2.out (HNO.out _ (by omega))
    clear HR htn hco
    by_cases hlt : j < 4
    · have HW1 := Lib.hid hw1
      have b0 := fun ob => ((hw1.alloc ob).p0)
      have hcells : wr.cell? ⟨w1.heap.size + 1, j * 2, none⟩ = some (.int .i64 (alN j : Nat)) ∧ wr.cell? ⟨w1.heap.size + 1, j * 2 + 1, none⟩ = some (.int .i64 (alX j : Nat)) := by
        have : j = 0 ∨ j = 1 ∨ j = 2 ∨ j = 3 := by omega
        rcases this with rfl | rfl | rfl | rfl
        all_goals exact ⟨(hw2.cell _).trans rfl, (hw2.cell _).trans rfl⟩
      obtain ⟨k0, k1⟩ := hcells
      have hb := (Below.refl wr.heap.size wr).alloc (Nat.le_refl _) (.cells #[.int .i64 (alN j : Nat), .int .i64 (alX j : Nat)] 63)
      have hx3 := Whole.fresh wr 63 #[.int .i64 (alN j : Nat), .int .i64 (alX j : Nat)]
      have x0 := hx3.p0
      have hNle : alN j < 9223372036854775808 := by
        have : j = 0 ∨ j = 1 ∨ j = 2 ∨ j = 3 := by omega
        rcases this with rfl | rfl | rfl | rfl <;> decide
      have hal := alloc_any (HCO.out.later hT hb) hT (alv_good j) (by decide) (alN j : Nat) (by omega)
      rw [(alv_ok j hlt).1, (alv_ok j hlt).2] at hal
      rw [show alD 10 8 1 (alvD j) (alN j : Nat) = alvD (j + 1) from rfl] at hal
      have HAL := Lib.hid hal
      have HX3 := Lib.hid hx3
      have HB := Lib.hid hb
      have HNX := Lib.hid (HCO.out.not (Nat.le_refl _))
      clear hal hw1 hw2 hx3 hb
      generalize alN j = N at *
      generalize alX j = X at *
      go_wp2_with (first | (go_at_call 26; refine HAL.out.mono ?_; rintro e w3 ⟨rfl, u3, hc3, ht3⟩; have hx4 := ht3.keep HX3.out HNX.out; have y1 := hx4.p1; have HC3 := Lib.hid hc3; have HT3 := Lib.hid ht3; clear hc3 ht3 hx4))
      go_roundw
      case rel => exact ⟨j + 1, by omega, by go_num, Lib.hid ⟨u3, HC3.out, (HTN.out.trans (Turn.of_below HB.out)).trans HT3.out⟩⟩
      case measure => simp [intOf]; omega
    · obtain rfl : j = 4 := by omega
      have b0 := hw1.p0
      have hG := (alv_good 4).a
      have hrm := HCO.out.room hG.fl
      rw [alv_end.1] at hrm
      have HRM := Lib.hid hrm
      have HW1 := Lib.hid hw1
      have hb3 := fun w2 (hb : Below wr.heap.size wr w2) => (HCO.out.later hT hb).big hG 3 (by decide)
      have hb1 := fun w2 (hb : Below wr.heap.size wr w2) => (HCO.out.later hT hb).big hG 1 (by decide)
      rw [alv_end.2.1] at hb3
      rw [alv_end.2.2] at hb1
      have H3 := Lib.hid hb3
      have H1 := Lib.hid hb1
      clear hrm hw1 hw2 hG hb3 hb1
      go_wp2_with (first
        | (go_at_call 18; refine HRM.out.mono ?_; rintro e w2 ⟨rfl, hb2⟩; have b1 := bcellB hb2 b0; have HB2 := Lib.hid hb2; clear hb2)
        | (go_at_call 21; refine (H3.out _ HB2.out).mono ?_; rintro e w3 ⟨rfl, hb3⟩; have b2 := bcellB hb3 b1; have HB3 := Lib.hid (HB2.out.trans (hb3.mono HB2.out.size)); clear hb3 H3)
        | (go_at_call 21; refine (H1.out _ HB3.out).mono ?_; rintro e w4 ⟨rfl, hb4⟩; have HB4 := Lib.hid (HB3.out.trans (hb4.mono HB3.out.size)); clear hb4 H1))
      go_ret
      exact ⟨rfl, HCO.out.bel.trans (HB4.out.mono HCO.out.bel.size)⟩
end Go.Proofs.YteencfldehcbbaaDoor
