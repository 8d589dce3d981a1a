/- Contracts of New, Live, isLive, mayHaveKids, Len, Parent. -/
import Derived.Test.YtmdcpeikjchbgaaTrRow
import Derived.WalkSmall
import Derived.Deep.QuietTactic
import Derived.BigQuiet
namespace Go.Proofs.Ytmdcpeikjchbgaa
open Go.RowKit Go.Maps

def I64 (x : Int) : Prop := -9223372036854775808 ≤ x ∧ x ≤ 9223372036854775807
theorem I64.wf {x : Int} (h : I64 x) : (Lit.int .i64 x).wf = true := WalkArith.wf_i64 (by unfold I64 at h; omega)
theorem I64.nat {i : Nat} (h : i ≤ 1000000) : I64 (i : Int) := by unfold I64; omega
namespace TR
/-- A parent as Parent tells it. -/
def parI (f : F) (x : Int) : Int := if liveI f x then (match f x.toNat with | some p => (p : Int) | none => 0) else 0
theorem parI_ok {f : F} {i p : Nat} (h : f i = some p) : parI f i = p := by
  unfold parI
  rw [liveI_nat, live_iff.2 ⟨p, h⟩, if_pos rfl, Int.toNat_natCast, h]
theorem parI_no {f : F} {x : Int} (h : liveI f x = false) : parI f x = 0 := by unfold parI; rw [h]; rfl
theorem good_empty : Good 0 (fun _ => none) := ⟨rfl, fun i p h => by simp at h, fun i p h => by simp at h⟩
end TR

/-- What New leaves. -/
def NewPost (w : World) (e : Ending) (w' : World) : Prop :=
  ∃ b m, e = .returned (.pointer (some ⟨b, 0, none⟩)) ∧ TrAt w' b m 0 (fun _ => none) ∧ w.heap.size ≤ b ∧ w.heap.size ≤ m ∧ Below w.heap.size w w'
theorem tnew_any (w : World) : Calls Try.prog 15 #[] w (NewPost w) := by
  have hmm := @run_makeMap Try.prog
  go_enter Try.func15, Try.ntmps15
  go_wp2
  go_ret
  have hw : Whole ((w.alloc (.map #[] 0)).alloc (.cells #[.map (some w.heap.size), .int .i64 0] 52)) (w.heap.size + 1) 52 #[.map (some w.heap.size), .int .i64 0] := Whole.fresh' (by simp)
  exact ⟨w.heap.size + 1, w.heap.size, by simp, ⟨hw, (MapT.made w).keep (Below.heap_alloc _ _ _ (by simp)), TR.good_empty, by omega⟩, by omega, Nat.le_refl _, ((Below.refl _ _).alloc (Nat.le_refl _) _).alloc (by simp) _⟩

section
variable {w : World} {b m n : Nat} {f : TR.F}
theorem tlive_any (h : TrAt w b m n f) (x : Int) (hx : I64 x) : Calls Try.prog 17 #[.pointer (some ⟨b, 0, none⟩), .int .i64 x] w fun e w' => e = .returned (.bool (TR.liveI f x)) ∧ w = w' := by
  obtain ⟨c, hrun⟩ := h.map.look_ok x hx.wf
  have c0 := h.c0
  clear h hx
  generalize TR.liveI f x = d at hrun ⊢
  go_enter Try.func17, Try.ntmps17
  go_wp2
  go_ret
  exact ⟨rfl, rfl⟩
theorem tisLive_any (h : TrAt w b m n f) (x : Int) (hx : I64 x) : Calls Try.prog 26 #[.pointer (some ⟨b, 0, none⟩), .int .i64 x] w fun e w' => e = .returned (.int .i64 (TR.liveErr f x)) ∧ w = w' := by
  have H := Lib.hid (tlive_any h x hx)
  unfold TR.liveErr
  clear h hx
  generalize TR.liveI f x = d at H ⊢
  cases d
  · go_enter Try.func26, Try.ntmps26
    go_wp2_with fail
    refine H.out.mono ?_
    rintro e w1 ⟨rfl, rfl⟩
    go_wp2
    go_ret
    exact ⟨rfl, rfl⟩
  · go_enter Try.func26, Try.ntmps26
    go_wp2_with fail
    refine H.out.mono ?_
    rintro e w1 ⟨rfl, rfl⟩
    go_wp2
    go_ret
    exact ⟨rfl, rfl⟩
theorem tmay_any (h : TrAt w b m n f) (x : Int) (hx : I64 x) : Calls Try.prog 25 #[.pointer (some ⟨b, 0, none⟩), .int .i64 x] w fun e w' => e = .returned (.int .i64 (TR.mayErr f x)) ∧ w = w' := by
  have H := Lib.hid (tisLive_any h x hx)
  clear h hx
  unfold TR.mayErr
  by_cases h0 : x = 0
  · subst h0
    rw [if_pos rfl]
    go_enter Try.func25, Try.ntmps25
    go_wp2
    go_ret
    exact ⟨rfl, rfl⟩
  · rw [if_neg h0]
    have d0 : (x == 0) = false := by simpa using h0
    generalize TR.liveErr f x = d at H ⊢
    go_enter Try.func25, Try.ntmps25
    go_wp2_with fail
    refine H.out.mono ?_
    rintro e w1 ⟨rfl, rfl⟩
    go_wp2
    go_ret
    exact ⟨rfl, rfl⟩
theorem tlen_any (h : TrAt w b m n f) : Calls Try.prog 18 #[.pointer (some ⟨b, 0, none⟩)] w fun e w' => e = .returned (.int .i64 ((TR.all n f).length : Nat)) ∧ w = w' := by
  have hl := h.map.len h.good 3
  have c0 := h.c0
  clear h
  generalize (TR.all n f).length = d at hl ⊢
  go_enter Try.func18, Try.ntmps18
  go_wp2
  go_ret
  exact ⟨rfl, rfl⟩
theorem tparent_any (h : TrAt w b m n f) (x : Int) (hx : I64 x) : Calls Try.prog 10 #[.pointer (some ⟨b, 0, none⟩), .int .i64 x] w fun e w' => e = .returned (.tuple #[.int .i64 (TR.parI f x), .int .i64 (TR.liveErr f x)]) ∧ w = w' := by
  have H := Lib.hid (tisLive_any h x hx)
  cases hl : TR.liveI f x
  · rw [TR.parI_no hl]
    have e1 : TR.liveErr f x = 6 := by unfold TR.liveErr; rw [hl]; rfl
    rw [e1] at H ⊢
    clear h hx hl e1
    go_enter Try.func10, Try.ntmps10
    go_wp2_with fail
    refine H.out.mono ?_
    rintro e w1 ⟨rfl, rfl⟩
    go_wp2
    go_ret2
    exact ⟨rfl, rfl⟩
  · have e1 : TR.liveErr f x = 0 := by unfold TR.liveErr; rw [hl]; rfl
    rw [e1] at H ⊢
    obtain ⟨i, p, rfl, hp⟩ := TR.liveI_iff.1 hl
    rw [TR.parI_ok hp]
    have hi := (h.good.le i p hp).2.1
    have hn := h.few
    have hlk := h.map.look (by omega) hp
    have c0 := h.c0
    clear h hx hl e1 hp hi hn
    go_enter Try.func10, Try.ntmps10
    go_wp2_with fail
    refine H.out.mono ?_
    rintro e w1 ⟨rfl, rfl⟩
    go_wp2
    go_ret2
    exact ⟨rfl, rfl⟩
end

/-! Of a nil tree. -/
section
variable (w : World) (x : Int)
theorem tlive_nil : Calls Try.prog 17 #[.pointer none, .int .i64 x] w fun e w' => e = .returned (.bool false) ∧ w = w' := by
  go_enter Try.func17, Try.ntmps17
  go_wp2
  go_ret
  exact ⟨rfl, rfl⟩
theorem tisLive_nil : Calls Try.prog 26 #[.pointer none, .int .i64 x] w fun e w' => e = .returned (.int .i64 1) ∧ w = w' := by
  go_enter Try.func26, Try.ntmps26
  go_wp2
  go_ret
  exact ⟨rfl, rfl⟩
theorem tmay_nil : Calls Try.prog 25 #[.pointer none, .int .i64 x] w fun e w' => e = .returned (.int .i64 1) ∧ w = w' := by
  have H := Lib.hid (tisLive_nil w x)
  go_enter Try.func25, Try.ntmps25
  go_wp2_with fail
  refine H.out.mono ?_
  rintro e w1 ⟨rfl, rfl⟩
  go_wp2
  go_ret
  exact ⟨rfl, rfl⟩
theorem tlen_nil : Calls Try.prog 18 #[.pointer none] w fun e w' => e = .returned (.int .i64 0) ∧ w = w' := by
  go_enter Try.func18, Try.ntmps18
  go_wp2
  go_ret
  exact ⟨rfl, rfl⟩
theorem tparent_nil : Calls Try.prog 10 #[.pointer none, .int .i64 x] w fun e w' => e = .returned (.tuple #[.int .i64 0, .int .i64 1]) ∧ w = w' := by
  have H := Lib.hid (tisLive_nil w x)
  go_enter Try.func10, Try.ntmps10
  go_wp2_with fail
  refine H.out.mono ?_
  rintro e w1 ⟨rfl, rfl⟩
  go_wp2
  go_ret2
  exact ⟨rfl, rfl⟩
theorem tkids_nil : Calls Try.prog 11 #[.pointer none, .int .i64 x] w fun e w' => e = .returned (.tuple #[.slice none 0 0, .int .i64 1]) ∧ w = w' := by
  have H := Lib.hid (tmay_nil w x)
  go_enter Try.func11, Try.ntmps11
  go_wp2_with fail
  refine H.out.mono ?_
  rintro e w1 ⟨rfl, rfl⟩
  go_wp2
  go_ret2
  exact ⟨rfl, rfl⟩
theorem tunder_nil : Calls Try.prog 12 #[.pointer none, .int .i64 x] w fun e w' => e = .returned (.tuple #[.slice none 0 0, .int .i64 1]) ∧ w = w' := by
  have H := Lib.hid (tisLive_nil w x)
  go_enter Try.func12, Try.ntmps12
  go_wp2_with fail
  refine H.out.mono ?_
  rintro e w1 ⟨rfl, rfl⟩
  go_wp2
  go_ret2
  exact ⟨rfl, rfl⟩
theorem tfree_nil : Calls Try.prog 13 #[.pointer none, .int .i64 x] w fun e w' => e = .returned (.tuple #[.slice none 0 0, .int .i64 1]) ∧ w = w' := by
  have H := Lib.hid (tunder_nil w x)
  go_enter Try.func13, Try.ntmps13
  go_wp2_with fail
  refine H.out.mono ?_
  rintro e w1 ⟨rfl, rfl⟩
  go_wp2
  go_ret2
  exact ⟨rfl, rfl⟩
theorem tmerge_nil : Calls Try.prog 14 #[.pointer none, .int .i64 x] w fun e w' => e = .returned (.tuple #[.int .i64 0, .int .i64 1]) ∧ w = w' := by
  have H := Lib.hid (tparent_nil w x)
  go_enter Try.func14, Try.ntmps14
  go_wp2_with fail
  refine H.out.mono ?_
  rintro e w1 ⟨rfl, rfl⟩
  go_wp2
  go_ret2
  exact ⟨rfl, rfl⟩
theorem tadd_nil : Calls Try.prog 9 #[.pointer none, .int .i64 x] w fun e w' => e = .returned (.tuple #[.int .i64 0, .int .i64 1]) ∧ w = w' := by
  have H := Lib.hid (tmay_nil w x)
  go_enter Try.func9, Try.ntmps9
  go_wp2_with fail
  refine H.out.mono ?_
  rintro e w1 ⟨rfl, rfl⟩
  go_wp2
  go_ret2
  exact ⟨rfl, rfl⟩
end
end Go.Proofs.Ytmdcpeikjchbgaa
