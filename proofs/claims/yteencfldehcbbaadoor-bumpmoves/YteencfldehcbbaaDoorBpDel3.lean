/- The walk of slices.DeleteFunc over parts; remove. -/
import Derived.Test.YteencfldehcbbaaDoorBpDel2
namespace Go.Proofs.YteencfldehcbbaaDoor
open Go.RowKit Go.Sort BP
set_option linter.unusedVariables false

def DelPost (w : World) (base : Nat) (v : Value) (P : List (Nat × Nat)) (e : Ending) (w' : World) : Prop :=
  ∃ v', e = .returned v' ∧ PR w' base v' P ∧ Aft (ob v) w w' ∧ v'.ownBlock = v.ownBlock
set_option maxHeartbeats 4000000 in
set_option maxRecDepth 100000 in
theorem deleteFunc_any {w : World} {base : Nat} {v : Value} {P : List (Nat × Nat)} (h : PR w base v P) (hlen : P.length ≤ 5000) (hall : ∀ x ∈ P, x.1 ≤ 1024) {gf : FuncId} {lb : Array Value} {q : Nat × Nat → Bool} {c : Nat} (eg : ∀ args w, (callFunc gf args).run Tryd.prog w = .ok (.enter gf args) w) (hc : c < w.heap.size) (hcv : v.ownBlock ≠ some c) (hp : Pred gf lb q c w) :
    Calls Tryd.prog 67 #[v, .func (.func gf) #[] lb] w (DelPost w base v (P.filter fun x => !q x)) := by
  have HI := Lib.hid (indexFunc_any h hlen hall eg hc hp)
  rcases h.form with ⟨rfl, rfl⟩ | ⟨g, cap, rfl, hcap, hg1, hg2, _⟩
  · clear h hp hall hcv
    go_enter Tryd.func67, Tryd.ntmps67
    go_wp2_with fail
    refine HI.out.mono ?_
    rintro e w' ⟨⟨r, rfl, hr⟩, hb2⟩
    obtain rfl : r = -1 := by
      rcases hr with ⟨e, _⟩ | ⟨k, _, hk, _⟩
      · exact e
      · simp at hk
    have HB2 := Lib.hid hb2
    clear hb2 hr HI
    go_wp2_with fail
    go_ret
    exact ⟨_, rfl, PR.nil _ _, Aft.of_below HB2.out, rfl⟩
  · have hgc : g ≠ c := fun e => hcv (by rw [e]; rfl)
    have HP := Lib.hid h
    have HPR := Lib.hid hp
    have HALLP := Lib.hid hall
    obtain ⟨n, hn⟩ : ∃ n, n = P.length := ⟨_, rfl⟩
    rw [← hn] at hcap hlen HI HP ⊢
    have HN := Lib.hid hn
    clear hp h hn hall hcv
    go_enter Tryd.func67, Tryd.ntmps67
    go_wp2_with fail
    refine HI.out.mono ?_
    rintro e w1 ⟨⟨r, rfl, hr⟩, hb1⟩
    rcases hr with ⟨rfl, hmiss⟩ | ⟨k, rfl, hk, hhit, hmiss⟩
    · have HB1 := Lib.hid hb1
      have HM := Lib.hid hmiss
      clear hb1 hmiss HI
      go_wp2_with fail
      go_ret
      refine ⟨_, rfl, ?_, Aft.of_below HB1.out, rfl⟩
      rw [filter_all HM.out]
      exact HP.out.keep fun g' hg' => HB1.out.block g' (HP.out.lt g' hg').2
    · have hk' : k < n := by rw [HN.out]; exact hk
      have d1 : ((k : Int) == -1) = false := beq_eq_false_iff_ne.2 (by omega)
      have hgs : g < w1.heap.size := Nat.lt_of_lt_of_le hg2 hb1.size
      have HST := Lib.hid (KI.start hk hhit hmiss)
      have HP1 := Lib.hid (HP.out.keep fun g' hg' => hb1.block g' (HP.out.lt g' hg').2)
      have HA1 := Lib.hid (Aft.of_below (S := ob (.slice (some ⟨g, 0, none⟩) n cap)) hb1)
      have HC1 := Lib.hid (hb1.block c hc)
      clear hb1 hhit hmiss HI hk HP
      go_wp2_with fail
      go_loopw [5, 6, 7] (fun x y _ wr => ∃ i j : Nat, i < j ∧ j ≤ n ∧ x = .int .i64 i ∧ y = .int .i64 j ∧ Hid (KI q P i j) ∧ Hid (PR wr base (.slice (some ⟨g, 0, none⟩) n cap) (keptP q P i j)) ∧ Hid (Aft (ob (.slice (some ⟨g, 0, none⟩) n cap)) w wr ∧ wr.heap[c]? = w.heap[c]? ∧ g < wr.heap.size)) (fun _ y _ _ => n - (intOf y).toNat)
      case atStart => exact ⟨k, k + 1, by omega, by omega, rfl, by go_num, Lib.hid HST.out.1, Lib.hid (by rw [HST.out.2]; exact HP1.out), Lib.hid ⟨HA1.out, HC1.out, hgs⟩⟩
      case round =>
        obtain ⟨i, j, hij, hj, rfl, rfl, HK, HR, HW⟩ := hrel
        have hform := HR.out.form
        rcases hform with ⟨e, _⟩ | ⟨g', cap', e, _, _, _, hrd⟩
        · cases e
        · injection e with e1 e2 e3
          injection e1 with e1
          injection e1 with e1
          subst e1 e3
          clear e2
          by_cases hlt : j < n
          · obtain ⟨x, hx⟩ : ∃ x, P[j]? = some x := ⟨P[j]'(by have := HN.out; omega), by simp⟩
            obtain ⟨k0, k1, _, _⟩ := hrd j x (by rw [HK.out.get (by omega)]; exact hx)
            obtain ⟨y, hy⟩ : ∃ y, (keptP q P i j)[i]? = some y := ⟨(keptP q P i j)[i]'(by rw [HK.out.plen]; have := HN.out; omega), by simp⟩
            obtain ⟨k2, k3, f2, f3⟩ := hrd i y hy
            have hle := HALLP.out x (List.mem_of_getElem? hx)
            obtain ⟨a, b⟩ := x
            obtain ⟨a', b'⟩ := y
            have hbb := (Below.refl wr.heap.size wr).alloc (Nat.le_refl _) (.cells #[.int .i64 a, .int .i64 b] 77)
            have hcall := HPR.out (wr.alloc (.cells #[.int .i64 a, .int .i64 b] 77)) a b hle ((hbb.block c (Nat.lt_of_lt_of_le hc HW.out.1.size)).trans HW.out.2.1)
            have hX := Whole.fresh wr 77 #[.int .i64 a, .int .i64 b]
            have x0 := hX.p0
            have x1 := hX.p1
            have m2 := bcellB hbb k2
            have m3 := bcellB hbb k3
            have n2 : (wr.alloc (.cells #[.int .i64 a, .int .i64 b] 77)).frozen? ⟨g, i * 2, none⟩ = false := (World.frozen?_of_block (a := ⟨g, i * 2, none⟩) (hbb.block g HW.out.2.2)).trans f2
            have n3 : (wr.alloc (.cells #[.int .i64 a, .int .i64 b] 77)).frozen? ⟨g, i * 2 + 1, none⟩ = false := (World.frozen?_of_block (a := ⟨g, i * 2 + 1, none⟩) (hbb.block g HW.out.2.2)).trans f3
            have HBB := Lib.hid hbb
            have HXX := Lib.hid hx
            clear hx hy hrd hbb hX k2 k3 f2 f3 hle
            cases hq : q (a, b) with
            | true =>
              rw [hq] at hcall
              have HQ := Lib.hid hq
              have HC := Lib.hid hcall
              clear hq hcall
              go_wp2_with (first | (go_at_fn gf; refine HC.out.mono ?_; rintro e w2 ⟨rfl, hb2⟩; have HB2 := Lib.hid (HBB.out.trans (hb2.mono (by simp))); clear hb2))
              go_roundw
              case rel =>
                refine ⟨i, j + 1, by omega, by omega, rfl, by go_num, Lib.hid (HK.out.skip HXX.out HQ.out).1, Lib.hid ?_, Lib.hid ⟨HW.out.1.trans (Aft.of_below HB2.out), (HB2.out.block c (Nat.lt_of_lt_of_le hc HW.out.1.size)).trans HW.out.2.1, Nat.lt_of_lt_of_le HW.out.2.2 HB2.out.size⟩⟩
                rw [(HK.out.skip HXX.out HQ.out).2]
                exact HR.out.keep fun g' hg' => HB2.out.block g' (HR.out.lt g' hg').2
              case measure => simp [intOf]; omega
            | false =>
              rw [hq] at hcall
              have HQ := Lib.hid hq
              have HC := Lib.hid hcall
              clear hq hcall
              go_wp2_with (first | (go_at_fn gf; refine HC.out.mono ?_; rintro e w2 ⟨rfl, hb2⟩; have y0 := bcellB hb2 x0; have y1 := bcellB hb2 x1; have y2 := bcellB hb2 m2; have y3 := bcellB hb2 m3; have z2 : w2.frozen? ⟨g, i * 2, none⟩ = false := (World.frozen?_of_block (a := ⟨g, i * 2, none⟩) (hb2.block g (Nat.lt_of_lt_of_le HW.out.2.2 HBB.out.size))).trans n2; have z3 : w2.frozen? ⟨g, i * 2 + 1, none⟩ = false := (World.frozen?_of_block (a := ⟨g, i * 2 + 1, none⟩) (hb2.block g (Nat.lt_of_lt_of_le HW.out.2.2 HBB.out.size))).trans n3; have HB2 := Lib.hid (HBB.out.trans (hb2.mono (by simp))); clear hb2))
              go_roundw
              case rel =>
                refine ⟨i + 1, j + 1, by omega, by omega, by go_num, by go_num, Lib.hid (HK.out.keep HXX.out HQ.out).1, Lib.hid ?_, Lib.hid ⟨(HW.out.1.trans (Aft.of_below HB2.out)).setCell (by simp [ob, Value.ownBlock]) _ _ |>.setCell (by simp [ob, Value.ownBlock]) _ _, ?_, ?_⟩⟩
                · rw [(HK.out.keep HXX.out HQ.out).2]
                  exact (HR.out.keep fun g' hg' => HB2.out.block g' (HR.out.lt g' hg').2).set_ i (a, b) (by rw [HK.out.plen]; have := HN.out; omega)
                · rw [Below.heap_setCell _ _ _ _ (fun e => hgc e.symm), Below.heap_setCell _ _ _ _ (fun e => hgc e.symm)]
                  exact (HB2.out.block c (Nat.lt_of_lt_of_le hc HW.out.1.size)).trans HW.out.2.1
                · simp [World.setCell]
                  exact Nat.lt_of_lt_of_le HW.out.2.2 HB2.out.size
              case measure => simp [intOf]; omega
          · obtain rfl : j = n := by omega
            have hcell : ∀ t, t < (j - i) * 2 → (wr.cell? ⟨g, i * 2 + t, none⟩).isSome = true ∧ wr.frozen? ⟨g, i * 2 + t, none⟩ = false := fun t ht => by
              obtain ⟨y, hy⟩ : ∃ y, (keptP q P i j)[i + t / 2]? = some y := ⟨(keptP q P i j)[i + t / 2]'(by rw [HK.out.plen]; have := HN.out; omega), by simp⟩
              obtain ⟨k2, k3, f2, f3⟩ := hrd _ y hy
              rcases Nat.mod_two_eq_zero_or_one t with e | e
              · rw [show i * 2 + t = (i + t / 2) * 2 by omega]
                exact ⟨by rw [k2]; rfl, f2⟩
              · rw [show i * 2 + t = (i + t / 2) * 2 + 1 by omega]
                exact ⟨by rw [k3]; rfl, f3⟩
            obtain ⟨vs, hcl⟩ := clearP wr 0 g (i * 2) (j - i) (cap - i) (by omega) (fun t ht => (hcell t ht).1) (fun t ht => (hcell t ht).2)
            have hkc2 : ¬ i = cap := by omega
            clear hcell hrd
            go_wp2
            go_ret
            have e : P.filter (fun x => !q x) = (P.take j).filter (fun x => !q x) := by rw [HN.out, List.take_length]
            have hl := HK.out.len
            refine ⟨_, rfl, ?_, HW.out.1.trans (Aft.of_at (OnlyAt.setCells g vs _ wr) (by simp [ob, Value.ownBlock])), rfl⟩
            have hcut := HR.out.cut i (by rw [HK.out.plen]; have := HN.out; omega)
            have e2 : (keptP q P i j).take i = P.filter (fun x => !q x) := by
              unfold keptP
              rw [List.take_append_of_le_length (by omega), e, List.take_of_length_le (by omega)]
            rw [e2] at hcut
            exact PR.setsFar vs (i * 2) hcut (by rw [e, hl]; omega)
set_option maxHeartbeats 1000000 in
theorem remove1_any {W : World} {cb f k : Nat} (h0 : W.cell? ⟨cb, 0, none⟩ = some (.int .i64 f)) (h1 : W.cell? ⟨cb, 1, none⟩ = some (.int .i64 k)) (a b : Nat) :
    Calls Tryd.prog 68 #[.agg #[.int .i64 a, .int .i64 b], .pointer (some ⟨cb, 0, none⟩)] W fun e w' => e = .returned (.bool (decide ((a, b) = (f, k)))) ∧ Below W.heap.size W w' := by
  have hb := (Below.refl W.heap.size W).alloc (Nat.le_refl _) (.cells #[.int .i64 a, .int .i64 b] 77)
  have hX := Whole.fresh W 77 #[.int .i64 a, .int .i64 b]
  have d0 := hX.p0
  have d1 := hX.p1
  have d2 := bcellB hb h0
  have d3 := bcellB hb h1
  have HB := Lib.hid hb
  clear hX hb h0 h1
  have hor : (decide ((a, b) = (f, k)) = true ∧ a = f ∧ b = k) ∨ (decide ((a, b) = (f, k)) = false ∧ ((a : Int) == (f : Int)) = false) ∨ (decide ((a, b) = (f, k)) = false ∧ a = f ∧ ((b : Int) == (k : Int)) = false) := by
    by_cases e : a = f
    · by_cases e2 : b = k
      · exact .inl ⟨by simp [e, e2], e, e2⟩
      · exact .inr (.inr ⟨by simp [e2], e, by simp; omega⟩)
    · exact .inr (.inl ⟨by simp [e], by simp; omega⟩)
  rcases hor with ⟨e, rfl, rfl⟩ | ⟨e, e1⟩ | ⟨e, rfl, e1⟩
  all_goals
    rw [e]
    clear e
    go_enter Tryd.func68, Tryd.ntmps68
    go_wp2
    go_ret
    exact ⟨rfl, HB.out⟩
theorem remove_enters : ∀ args w, (callFunc 68 args).run Tryd.prog w = .ok (.enter 68 args) w := enters_of Tryd.func68 (by kernel_rfl) rfl
end Go.Proofs.YteencfldehcbbaaDoor
