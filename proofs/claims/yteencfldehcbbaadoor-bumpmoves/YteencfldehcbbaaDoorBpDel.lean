/- Contracts of slices.IndexFunc, ContainsFunc, DeleteFunc over parts; Big. -/
import Derived.Test.YteencfldehcbbaaDoorBpRead
import Derived.Deep.LoopGhost
import Derived.Shelf.Abstract
namespace Go.Proofs.YteencfldehcbbaaDoor
open Go.RowKit Go.Sort BP
set_option linter.unusedVariables false

/-- A predicate: function g, bound to lb; it hangs on block c alone. -/
def Pred (g : FuncId) (lb : Array Value) (q : Nat × Nat → Bool) (c : Nat) (w : World) : Prop :=
  ∀ (W : World) (a b : Nat), a ≤ 1024 → W.heap[c]? = w.heap[c]? → Calls Tryd.prog g (#[.agg #[.int .i64 a, .int .i64 b]] ++ lb) W fun e w' => e = .returned (.bool (q (a, b))) ∧ Below W.heap.size W w'
/-- The first place at which it holds. -/
def IdxIs (q : Nat × Nat → Bool) (P : List (Nat × Nat)) (r : Int) : Prop :=
  (r = -1 ∧ ∀ (i : Nat) (x : Nat × Nat), P[i]? = some x → q x = false) ∨ ∃ k : Nat, r = k ∧ k < P.length ∧ (∀ x, P[k]? = some x → q x = true) ∧ ∀ (i : Nat) (x : Nat × Nat), i < k → P[i]? = some x → q x = false
set_option maxHeartbeats 2000000 in
theorem indexFunc_any {w : World} {base : Nat} {v : Value} {P : List (Nat × Nat)} (h : PR w base v P) (hlen : P.length ≤ 5000) (hall : ∀ x ∈ P, x.1 ≤ 1024) {g : FuncId} {lb : Array Value} {q : Nat × Nat → Bool} {c : Nat} (eg : ∀ args w, (callFunc g args).run Tryd.prog w = .ok (.enter g args) w) (hc : c < w.heap.size) (hp : Pred g lb q c w) :
    Calls Tryd.prog 61 #[v, .func (.func g) #[] lb] w fun e w' => (∃ r, e = .returned (.int .i64 r) ∧ IdxIs q P r) ∧ Below w.heap.size w w' := by
  obtain ⟨A, cp, rfl, hcp, hrd⟩ := h.rd
  have HRD := Lib.hid hrd
  have HP := Lib.hid hp
  have HALLP := Lib.hid hall
  obtain ⟨n, hn⟩ : ∃ n, n = P.length := ⟨_, rfl⟩
  rw [← hn] at hcp hlen ⊢
  have HN := Lib.hid hn
  clear hrd hp h hn hall
  go_enter Tryd.func61, Tryd.ntmps61
  go_wp2
  go_loopw [5, 8] (fun _ x wr => ∃ j : Nat, j ≤ n ∧ x = .int .i64 j ∧ Hid (Below w.heap.size w wr) ∧ Hid (∀ (i : Nat) (y : Nat × Nat), i < j → P[i]? = some y → q y = false)) (fun _ x _ => n - (intOf x).toNat)
  case atStart => exact ⟨0, Nat.zero_le _, rfl, Lib.hid (Below.refl _ _), Lib.hid (fun i _ hi => absurd hi (by omega))⟩
  case round =>
    obtain ⟨j, hj, rfl, HBW, HALL⟩ := hrel
    by_cases hlt : j < n
    · obtain ⟨x, hx⟩ : ∃ x, P[j]? = some x := ⟨P[j]'(by have := HN.out; omega), by simp⟩
      obtain ⟨gg, rfl, hg1, hg2, k0, k1⟩ := HRD.out j x hx
      have r0 := bcellB HBW.out k0
      have r1 := bcellB HBW.out k1
      have hle := HALLP.out x (List.mem_of_getElem? hx)
      obtain ⟨a, b⟩ := x
      have hcall := HP.out wr a b hle (HBW.out.block c hc)
      have HXX := Lib.hid hx
      have HW0 := Lib.hid HBW.out.size
      clear k0 k1 hx hg1 hg2 hle
      cases hq : q (a, b) with
      | true =>
        rw [hq] at hcall
        have HQ := Lib.hid hq
        have HC := Lib.hid hcall
        clear hq hcall
        go_wp2_with (first | (go_at_fn g; refine HC.out.mono ?_; rintro e w' ⟨rfl, hb2⟩; have HB2 := Lib.hid hb2; clear hb2))
        go_ret
        refine ⟨⟨_, rfl, .inr ⟨j, rfl, by have := HN.out; omega, fun x hx => ?_, HALL.out⟩⟩, HBW.out.trans (HB2.out.mono HW0.out)⟩
        have := HXX.out
        rw [this] at hx
        injection hx with hx
        rw [← hx]
        exact HQ.out
      | false =>
        rw [hq] at hcall
        have HQ := Lib.hid hq
        have HC := Lib.hid hcall
        clear hq hcall
        go_wp2_with (first | (go_at_fn g; refine HC.out.mono ?_; rintro e w' ⟨rfl, hb2⟩; have HB2 := Lib.hid hb2; clear hb2))
        go_roundw
        case rel =>
          refine ⟨j + 1, by omega, by go_num, Lib.hid (HBW.out.trans (HB2.out.mono HW0.out)), Lib.hid (fun i y hi hy => ?_)⟩
          by_cases e : i = j
          · subst e
            have := HXX.out
            rw [this] at hy
            injection hy with hy
            rw [← hy]
            exact HQ.out
          · exact HALL.out i y (by omega) hy
        case measure => simp [intOf]; omega
    · obtain rfl : j = n := by omega
      go_wp2
      go_ret
      exact ⟨⟨_, rfl, .inl ⟨rfl, fun i y hy => HALL.out i y (by have := (List.getElem?_eq_some_iff.1 hy).1; have := HN.out; omega) hy⟩⟩, HBW.out⟩
theorem IdxIs.any {q : Nat × Nat → Bool} {P : List (Nat × Nat)} {r : Int} (h : IdxIs q P r) : decide (0 ≤ r) = P.any q := by
  rcases h with ⟨rfl, h⟩ | ⟨k, rfl, hk, h1, _⟩
  · symm
    simp
    intro a b hm
    obtain ⟨i, hi⟩ := List.mem_iff_getElem?.1 hm
    exact h i (a, b) hi
  · symm
    have : P.any q = true := List.any_eq_true.2 ⟨P[k], List.getElem_mem hk, h1 _ (List.getElem?_eq_getElem hk)⟩
    rw [this]
    simp
theorem containsFunc_any {w : World} {base : Nat} {v : Value} {P : List (Nat × Nat)} (h : PR w base v P) (hlen : P.length ≤ 5000) (hall : ∀ x ∈ P, x.1 ≤ 1024) {g : FuncId} {lb : Array Value} {q : Nat × Nat → Bool} {c : Nat} (eg : ∀ args w, (callFunc g args).run Tryd.prog w = .ok (.enter g args) w) (hc : c < w.heap.size) (hp : Pred g lb q c w) :
    Calls Tryd.prog 42 #[v, .func (.func g) #[] lb] w fun e w' => e = .returned (.bool (P.any q)) ∧ Below w.heap.size w w' := by
  have HI := Lib.hid (indexFunc_any h hlen hall eg hc hp)
  clear h hp hall
  go_enter Tryd.func42, Tryd.ntmps42
  go_wp2_with (first | (go_at_call 61; refine HI.out.mono ?_; rintro e w' ⟨⟨r, rfl, hr⟩, hb2⟩; have HB2 := Lib.hid hb2; have HR := Lib.hid hr; clear hb2 hr))
  go_ret
  exact ⟨ret_bool HR.out.any, HB2.out⟩
set_option maxHeartbeats 1000000 in
theorem big1_any {W : World} {cb : Nat} {k : Int} (hk : -9223372036854775808 ≤ k ∧ k ≤ 9223372036854775807) (hcell : W.cell? ⟨cb, 0, none⟩ = some (.int .i64 k)) (a b : Nat) (ha : a ≤ 1024) :
    Calls Tryd.prog 43 #[.agg #[.int .i64 a, .int .i64 b], .pointer (some ⟨cb, 0, none⟩)] W fun e w' => e = .returned (.bool (decide (1 < b) && (decide ((a : Int) ≤ k) && decide (k - a < b)))) ∧ Below W.heap.size W w' := by
  have hb := (Below.refl W.heap.size W).alloc (Nat.le_refl _) (.cells #[.int .i64 a, .int .i64 b] 77)
  have hX := Whole.fresh W 77 #[.int .i64 a, .int .i64 b]
  have d0 := hX.p0
  have d1 := hX.p1
  have d2 := bcellB hb hcell
  have HB := Lib.hid hb
  have HS := Lib.hid (show W.heap.size ≤ (W.alloc (.cells #[.int .i64 a, .int .i64 b] 77)).heap.size by simp)
  have HR := Lib.hid (isRun_any a b)
  have HH := Lib.hid (fun w => has_any a b k w ha hk)
  clear hX hb hcell
  cases hq : decide (1 < b)
  all_goals
    rw [hq] at HR
    clear hq
    go_enter Tryd.func43, Tryd.ntmps43
    go_wp2_with (first
      | (go_at_call 44; refine (HR.out _).mono ?_; rintro e w2 ⟨rfl, hb2⟩; have e0 := bcellB hb2 d0; have e1 := bcellB hb2 d1; have e2 := bcellB hb2 d2; have HB2 := Lib.hid (HB.out.trans (hb2.mono HS.out)); clear hb2)
      | (go_at_call 45; refine (HH.out _).mono ?_; rintro e w3 ⟨rfl, hb3⟩; have HB3 := Lib.hid (HB2.out.trans (hb3.mono HB2.out.size)); clear hb3))
    go_ret
    first
    | exact ⟨rfl, HB3.out⟩
    | exact ⟨rfl, HB2.out⟩
theorem big_enters : ∀ args w, (callFunc 43 args).run Tryd.prog w = .ok (.enter 43 args) w := enters_of Tryd.func43 (by kernel_rfl) rfl
theorem big_any {w : World} {base p s o : Nat} {v : Value} {S : Sp} (h : SpAt w base p v s o S) (hall : ∀ x ∈ S.parts, x.1 ≤ 1024) (hlen : S.parts.length ≤ 5000) (k : Int) (hk : -9223372036854775808 ≤ k ∧ k ≤ 9223372036854775807) :
    Calls Tryd.prog 21 #[.pointer (some ⟨p, 0, none⟩), .int .i64 k] w fun e w' => e = .returned (.bool (isBig S.parts k)) ∧ Below w.heap.size w w' := by
  have hb := (Below.refl w.heap.size w).alloc (Nat.le_refl _) (.cells #[.int .i64 k] 3)
  have h1 := h.later hb
  have hX := Whole.fresh w 3 #[.int .i64 k]
  have c2 := h1.c2
  have hp : Pred 43 #[.pointer (some ⟨w.heap.size, 0, none⟩)] (fun x => decide (1 < x.2) && (decide ((x.1 : Int) ≤ k) && decide (k - x.1 < x.2))) w.heap.size (w.alloc (.cells #[.int .i64 k] 3)) := fun W a b ha hW =>
    big1_any hk ((World.cell?_of_block (a := ⟨w.heap.size, 0, none⟩) hW).trans ((hX.cell 0).trans rfl)) a b ha
  have HC := Lib.hid (containsFunc_any h1.row hlen hall big_enters (by simp) hp)
  have HB := Lib.hid hb
  have HS := Lib.hid (show w.heap.size ≤ (w.alloc (.cells #[.int .i64 k] 3)).heap.size by simp)
  clear hp hX h1 h hb
  unfold isBig
  go_enter Tryd.func21, Tryd.ntmps21
  go_wp2_with (first | (go_at_call 42; refine HC.out.mono ?_; rintro e w' ⟨rfl, hb2⟩; have HB2 := Lib.hid (HB.out.trans (hb2.mono HS.out)); clear hb2))
  go_ret
  exact ⟨rfl, HB2.out⟩
theorem big_nil (k : Int) (w : World) : Calls Tryd.prog 21 #[.pointer none, .int .i64 k] w fun e w' => e = .returned (.bool false) ∧ Below w.heap.size w w' := by
  have HB := Lib.hid ((Below.refl w.heap.size w).alloc (Nat.le_refl _) (.cells #[.int .i64 k] 3))
  go_enter Tryd.func21, Tryd.ntmps21
  go_wp2
  go_ret
  exact ⟨rfl, HB.out⟩
end Go.Proofs.YteencfldehcbbaaDoor
