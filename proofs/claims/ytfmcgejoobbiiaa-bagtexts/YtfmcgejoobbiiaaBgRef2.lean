/- Contracts of First and All of the document's bag. -/
import Derived.Test.YtfmcgejoobbiiaaBgRef
namespace Go.Proofs.Ytfmcgejoobbiiaa
open Go.RowKit Go.Lib Go.Sort

namespace BG
/-- First of a list without order. -/
def nf (l : List Int) (x : Int) : Option Int := fst (norm l) x
theorem nf_some {l : List Int} {x z : Int} : nf l x = some z ↔ z ∈ l ∧ x ≤ z ∧ ∀ u ∈ l, x ≤ u → z ≤ u := by
  unfold nf
  rw [fst_some (norm_rises l)]
  simp only [mem_norm]
theorem nf_none {l : List Int} {x : Int} : nf l x = none ↔ ∀ u ∈ l, u < x := by
  unfold nf
  rw [fst_none (norm_rises l)]
  simp only [mem_norm]
theorem nf_low {l : List Int} {x y : Int} (h : y < x) : nf (l ++ [y]) x = nf l x := by
  cases e : nf l x with
  | none =>
    rw [nf_none] at e ⊢
    intro u hu
    rcases List.mem_append.1 hu with hu | hu
    · exact e u hu
    · have : u = y := by simpa using hu
      omega
  | some z =>
    rw [nf_some] at e ⊢
    refine ⟨List.mem_append_left _ e.1, e.2.1, fun u hu hx => ?_⟩
    rcases List.mem_append.1 hu with hu | hu
    · exact e.2.2 u hu hx
    · have : u = y := by simpa using hu
      omega
theorem nf_new {l : List Int} {x y : Int} (h : x ≤ y) (e : nf l x = none) : nf (l ++ [y]) x = some y := by
  rw [nf_none] at e
  rw [nf_some]
  refine ⟨by simp, h, fun u hu hx => ?_⟩
  rcases List.mem_append.1 hu with hu | hu
  · have := e u hu; omega
  · have : u = y := by simpa using hu
    omega
theorem nf_less {l : List Int} {x y z : Int} (h : x ≤ y) (e : nf l x = some z) (hz : y < z) : nf (l ++ [y]) x = some y := by
  rw [nf_some] at e ⊢
  refine ⟨by simp, h, fun u hu hx => ?_⟩
  rcases List.mem_append.1 hu with hu | hu
  · have := e.2.2 u hu hx; omega
  · have : u = y := by simpa using hu
    omega
theorem nf_more {l : List Int} {x y z : Int} (e : nf l x = some z) (hz : ¬ y < z) : nf (l ++ [y]) x = some z := by
  rw [nf_some] at e ⊢
  refine ⟨List.mem_append_left _ e.1, e.2.1, fun u hu hx => ?_⟩
  rcases List.mem_append.1 hu with hu | hu
  · exact e.2.2 u hu hx
  · have : u = y := by simpa using hu
    omega
theorem nf_nil (x : Int) : nf [] x = none := by rw [nf_none]; simp
theorem norm_min {R : List Int} {m : Int} (h : m ∈ R) (hm : ∀ y ∈ R, m ≤ y) : norm R = m :: norm (del m R) := by
  refine ext _ _ (norm_rises R) (List.pairwise_cons.2 ⟨fun y hy => ?_, norm_rises _⟩) fun y => ?_
  · have := mem_del.1 (mem_norm.1 hy)
    have := hm y this.1
    omega
  · rw [mem_norm, List.mem_cons, mem_norm, mem_del]
    constructor
    · intro hy
      by_cases e : y = m
      · exact Or.inl e
      · exact Or.inr ⟨hy, e⟩
    · rintro (e | e)
      · rw [e]; exact h
      · exact e.1
theorem del_less {R : List Int} {m : Int} (h : m ∈ R) : (del m R).length < R.length := by
  unfold del
  rcases Nat.lt_or_ge (R.filter fun y => decide (y ≠ m)).length R.length with hh | hh
  · exact hh
  · have e := List.length_filter_eq_length_iff.1 (Nat.le_antisymm (List.length_filter_le _ _) hh) m h
    simp at e
end BG

set_option maxHeartbeats 2000000 in
theorem rfirst_any {w : World} {b r : Nat} {l : List Int} (h : RBag w b r l) (hl : l.length ≤ 1000000) (x : Int) : Calls Try.prog 22 #[.pointer (some ⟨b, 0, none⟩), .int .i64 x] w fun e w' => e = .returned (.tuple #[.int .i64 (BG.fstV (BG.norm l) x), .bool (BG.fstB (BG.norm l) x)]) ∧ w = w' := by
  obtain ⟨v, h1, h2⟩ := h.box
  have c0 : w.cell? ⟨b, 0, none⟩ = some v := by rw [h1.cell]; rfl
  obtain ⟨A, c, rfl, _⟩ := h2.slice
  have H2 := Lib.hid h2
  clear h1 h2 h
  go_enter Try.func22, Try.ntmps22
  go_wp2
  go_loopg [6, 7, 8] l.length (fun g bv sv i wr => ∃ (k : Nat) (o : Option Int), k ≤ l.length ∧ Hid (l.length - k ≤ g) ∧ i = .int .i64 k ∧ Hid (BG.nf (l.take k) x = o) ∧ bv = .int .i64 (o.getD 0) ∧ sv = .bool o.isSome ∧ w = wr)
  case atStart => exact ⟨0, none, Nat.zero_le _, Lib.hid (Nat.le_refl _), rfl, Lib.hid (by rw [List.take_zero]; exact BG.nf_nil x), rfl, rfl, rfl⟩
  case round =>
    obtain ⟨k, o, hk, HG, rfl, HN, rfl, rfl, rfl⟩ := hrel
    by_cases hkl : k < l.length
    · obtain ⟨cap, e0, _, hc⟩ := H2.out.cell hkl
      injection e0 with e1 _ e2
      subst e1 e2
      have HT := Lib.hid (take_snoc_at hkl)
      generalize l[k] = y at hc HT
      by_cases hyx : y < x
      · have N2 : Hid (BG.nf (l.take (k + 1)) x = o) := Lib.hid (by rw [HT.out, BG.nf_low hyx]; exact HN.out)
        have d1 : ¬ x ≤ y := by omega
        generalize hbv : o.getD 0 = bv
        generalize hsv : o.isSome = sv
        have HBV := Lib.hid (And.intro hbv hsv)
        clear hbv hsv
        go_wp2
        go_roundg (l.length - (k + 1))
        case measure => have := HG.out; omega
        case rel => exact ⟨k + 1, o, by omega, Lib.hid (Nat.le_refl _), by go_num, N2, by rw [HBV.out.1], by rw [HBV.out.2], rfl⟩
      · have d1 : x ≤ y := by omega
        clear hyx
        cases o with
        | none =>
          have N2 : Hid (BG.nf (l.take (k + 1)) x = some y) := Lib.hid (by rw [HT.out]; exact BG.nf_new d1 HN.out)
          simp only [Option.getD_none, Option.isSome_none]
          go_wp2
          go_roundg (l.length - (k + 1))
          case measure => have := HG.out; omega
          case rel => exact ⟨k + 1, some y, by omega, Lib.hid (Nat.le_refl _), by go_num, N2, rfl, rfl, rfl⟩
        | some z =>
          simp only [Option.getD_some, Option.isSome_some]
          by_cases hyz : y < z
          · have N2 : Hid (BG.nf (l.take (k + 1)) x = some y) := Lib.hid (by rw [HT.out]; exact BG.nf_less d1 HN.out hyz)
            go_wp2
            go_roundg (l.length - (k + 1))
            case measure => have := HG.out; omega
            case rel => exact ⟨k + 1, some y, by omega, Lib.hid (Nat.le_refl _), by go_num, N2, rfl, rfl, rfl⟩
          · have N2 : Hid (BG.nf (l.take (k + 1)) x = some z) := Lib.hid (by rw [HT.out]; exact BG.nf_more HN.out hyz)
            go_wp2
            go_roundg (l.length - (k + 1))
            case measure => have := HG.out; omega
            case rel => exact ⟨k + 1, some z, by omega, Lib.hid (Nat.le_refl _), by go_num, N2, rfl, rfl, rfl⟩
    · generalize hbv : o.getD 0 = bv
      generalize hsv : o.isSome = sv
      have HBV := Lib.hid (And.intro hbv hsv)
      clear hbv hsv
      go_wp2
      go_ret2
      have hN := HN.out
      rw [List.take_of_length_le (by omega)] at hN
      unfold BG.nf at hN
      refine ⟨?_, rfl⟩
      rw [← HBV.out.1, ← HBV.out.2]
      unfold BG.fstV BG.fstB
      rw [hN]
      rfl

/-- The loop of All: what is told, and what is left, apart from each other. -/
def AllAt (B : Nat) (w : World) (b : Nat) (v : Value) (R O : List Int) : Prop :=
  ∃ r, RBag w b r R ∧ w.ownsRow B 3 1 v O.length (O.map (Value.int .i64)) ∧ B ≤ b ∧ B ≤ r ∧ ∀ j, v.ownBlock = some j → j ≠ b ∧ j ≠ r

set_option maxRecDepth 10000 in
set_option maxHeartbeats 4000000 in
theorem rall_any {w : World} {b r : Nat} {l : List Int} (h : RBag w b r l) (hl : l.length ≤ 1000000) : Calls Try.prog 24 #[.pointer (some ⟨b, 0, none⟩)] w (RowI (BG.norm l) w) := by
  obtain ⟨v, h1, h2⟩ := h.box
  have hb := h1.lt
  obtain ⟨A, c, rfl, _⟩ := h2.slice
  have c0 : w.cell? ⟨b, 0, none⟩ = some (.slice A l.length c) := by rw [h1.cell]; rfl
  have H2 := Lib.hid h2
  have hg0 : (w.alloc (.cells #[] 3)).ownsRow w.heap.size 3 1 (.slice (some ⟨w.heap.size, 0, none⟩) 0 0) 0 (([] : List Int).map (Value.int .i64)) := World.ownsRow_made w #[] 0 (Nat.le_refl _) (by decide) rfl
  have HG0 := Lib.hid hg0
  have C0 : Hid (Below w.heap.size w (w.alloc (.cells #[] 3))) := Lib.hid ((Below.refl _ _).alloc (Nat.le_refl _) _)
  clear h1 h2 h hg0
  go_enter Try.func24, Try.ntmps24
  go_wp2_with (first
    | (at_builtin
       refine wpList_append_rowI _ rfl _ _ rfl w.heap.size _ 0 [] rfl HG0.out r _ l rfl (H2.out.alloc _) (by omega) (by simp) ?_
       intro v6 w6 ho6 hg6
       rw [Nat.zero_add, List.nil_append] at ho6
       obtain ⟨A6, c6, rfl⟩ := own_slice ho6
       have HO6 := Lib.hid ho6
       have C6 := Lib.hid (C0.out.grown hg6 (by simp) (fun k hk => (HG0.out.lt k hk).1))
       clear ho6 hg6))
  have hs6 := C6.out.size
  have S0 : Hid (AllAt w.heap.size (w6.alloc (.cells #[.slice A6 l.length c6] 36)) w6.heap.size (.slice none 0 0) l []) := Lib.hid (by
    rcases HO6.out.2 with ⟨e, e0⟩ | ⟨g, cap, cur, e, hg, hh, _⟩
    · refine ⟨w6.heap.size, ⟨⟨_, Whole.fresh _ _ _, (Row.of_own HO6.out rfl (fun k hk => by rw [e] at hk; simp [Value.ownBlock] at hk)).alloc _⟩, by simp⟩, World.ownsRow_nil _ _ _ _, hs6, hs6, fun j hj => by simp [Value.ownBlock] at hj⟩
    · have hgl := (Array.getElem?_eq_some_iff.1 hh).1
      exact ⟨g, ⟨⟨_, Whole.fresh _ _ _, (Row.of_own HO6.out rfl (fun k hk => by rw [e] at hk; simp [Value.ownBlock] at hk; omega)).alloc _⟩, by simp; omega⟩, World.ownsRow_nil _ _ _ _, hs6, hg, fun j hj => by simp [Value.ownBlock] at hj⟩)
  have B0 := Lib.hid (C6.out.alloc hs6 (.cells #[.slice A6 l.length c6] 36))
  clear HO6 C6 HG0 C0 hs6
  go_loopg [4] l.length (fun g ov wr => ∃ R O : List Int, Hid (R.length ≤ g) ∧ R.length ≤ 1000000 ∧ Hid (BG.norm l = O ++ BG.norm R) ∧ Hid (AllAt w.heap.size wr w6.heap.size ov R O) ∧ Hid (Below w.heap.size w wr))
  case atStart => exact ⟨l, [], Lib.hid (Nat.le_refl _), hl, Lib.hid rfl, S0, B0⟩
  case round =>
    obtain ⟨R, O, HG, hRl, HN, HA, HB⟩ := hrel
    have hbs := HB.out.size
    obtain ⟨r1, k1, k2, k3, k4, k5⟩ := HA.out
    obtain ⟨v1, kw, kr⟩ := k1.box
    obtain ⟨A1, c1, rfl, _⟩ := kr.slice
    have c1' : wr.cell? ⟨w6.heap.size, 0, none⟩ = some (.slice A1 R.length c1) := by rw [kw.cell]; rfl
    by_cases hR : R = []
    · subst hR
      go_wp2
      go_ret
      refine ⟨_, rfl, ?_, HB.out⟩
      have e := HN.out
      rw [BG.norm_nil, List.append_nil] at e
      rw [e]
      exact k2
    · have hR0 : 0 < R.length := List.length_pos_iff.2 hR
      obtain ⟨cap, e0, _, hc0⟩ := kr.cell hR0
      injection e0 with e1 _ e2
      subst e1 e2
      have HM0 : Hid (R[0] ∈ R.take 1 ∧ ∀ y ∈ R.take 1, R[0] ≤ y) := Lib.hid (by
        match R, hR0 with
        | z :: R', _ => simp)
      have hOl : O.length ≤ 1000000 := by
        have h1 := congrArg List.length HN.out
        rw [List.length_append] at h1
        have := BG.norm_len l
        omega
      have K1 := Lib.hid k1
      have K2 := Lib.hid k2
      have K3 := Lib.hid (And.intro k3 (And.intro k4 k5))
      have KR := Lib.hid kr
      generalize R[0] = z at hc0 HM0
      clear k1 k2 k3 k4 k5 kw kr hR HA
      go_wp2
      go_loopg [5, 6] R.length (fun g lv i wr' => ∃ (k : Nat) (m : Int), 1 ≤ k ∧ k ≤ R.length ∧ Hid (R.length - k ≤ g) ∧ i = .int .i64 k ∧ lv = .int .i64 m ∧ Hid (m ∈ R.take k ∧ ∀ y ∈ R.take k, m ≤ y) ∧ wr = wr')
      case atStart => exact ⟨1, z, Nat.le_refl _, hR0, Lib.hid (by omega), rfl, rfl, HM0, rfl⟩
      case round =>
        obtain ⟨k, m, hk1, hk, HGk, rfl, rfl, HM, hww⟩ := hrel
        subst hww
        by_cases hkl : k < R.length
        · obtain ⟨_, _, _, hck⟩ := KR.out.cell hkl
          have HT := Lib.hid (take_snoc_at hkl)
          generalize R[k] = y at hck HT
          by_cases hym : y < m
          · have M2 : Hid (y ∈ R.take (k + 1) ∧ ∀ u ∈ R.take (k + 1), y ≤ u) := Lib.hid (by
              rw [HT.out]
              refine ⟨by simp, fun u hu => ?_⟩
              rcases List.mem_append.1 hu with hu | hu
              · have := HM.out.2 u hu; omega
              · have : u = y := by simpa using hu
                omega)
            go_wp2
            go_roundg (R.length - (k + 1))
            case measure => have := HGk.out; omega
            case rel => exact ⟨k + 1, y, by omega, by omega, Lib.hid (Nat.le_refl _), by go_num, rfl, M2, rfl⟩
          · have M2 : Hid (m ∈ R.take (k + 1) ∧ ∀ u ∈ R.take (k + 1), m ≤ u) := Lib.hid (by
              rw [HT.out]
              refine ⟨List.mem_append_left _ HM.out.1, fun u hu => ?_⟩
              rcases List.mem_append.1 hu with hu | hu
              · exact HM.out.2 u hu
              · have : u = y := by simpa using hu
                omega)
            go_wp2
            go_roundg (R.length - (k + 1))
            case measure => have := HGk.out; omega
            case rel => exact ⟨k + 1, m, by omega, by omega, Lib.hid (Nat.le_refl _), by go_num, rfl, M2, rfl⟩
        · have hM := HM.out
          rw [List.take_of_length_le (by omega)] at hM
          have HMn := Lib.hid (BG.norm_min hM.1 hM.2)
          have HMl := Lib.hid (BG.del_less hM.1)
          clear hM HM
          go_wp2_with (first
            | (at_builtin
               refine wpList_append_one _ rfl _ _ rfl w.heap.size _ _ O rfl (K2.out.alloc _) wr.heap.size m rfl (Whole.fresh wr _ _) (by omega) (by simp; omega) ?_
               intro v2 w3 ho2 hg2 hat2
               have HO2 := Lib.hid ho2
               have HAT := Lib.hid hat2
               have HGR := Lib.hid hg2
               have HB2 := Lib.hid ((HB.out.alloc hbs _).grown hg2 (by simp; omega) (fun k hk => (K2.out.lt k hk).1))
               clear ho2 hg2 hat2))
          have D3 : Hid (RBag w3 w6.heap.size r1 R) := Lib.hid (by
            have hA3 : Aft (u4.ownBlock.toList) (wr.alloc (.cells #[.int .i64 m] 3)) w3 := Aft.of_grown HGR.out (fun k hk => by
              have hk' : u4.ownBlock = some k := hk
              simp [hk'])
            refine (K1.out.below ((Below.refl _ _).alloc (Nat.le_refl _) _)).aft hA3 ?_ ?_
            · intro hh
              have := K3.out.2.2 _ (by simpa using hh)
              omega
            · intro hh
              have := K3.out.2.2 _ (by simpa using hh)
              omega)
          refine (rdel_any D3.out hRl m).mono ?_
          rintro e w5 ⟨rfl, r5, d5, g5, a5⟩
          have hb3 := HB2.out.size
          have hr1 := K1.out.lt
          have hr2 := K1.out.blt
          have h3s := HGR.out.size
          simp at h3s
          have S5 : Hid (AllAt w.heap.size w5 w6.heap.size v2 (BG.del m R) (O ++ [m])) := Lib.hid (by
            have hat : ∀ j, v2.ownBlock = some j → j ≠ w6.heap.size ∧ j ≠ r1 ∧ j < w3.heap.size := fun j hj => by
              have hj3 := (HO2.out.lt j hj).2
              rcases HAT.out with e | e
              · have := K3.out.2.2 j (e.symm.trans hj)
                exact ⟨this.1, this.2, hj3⟩
              · rw [e] at hj
                simp at hj
                omega
            refine ⟨r5, d5, ?_, K3.out.1, by have := K3.out.2.1; omega, fun j hj => by have := hat j hj; omega⟩
            rw [List.length_append]
            rcases (row_of HO2.out) with ⟨r8, hr8, _⟩
            have := hr8.aft' a5 (fun j hj => by have := hat j hj; simp; omega)
            exact ⟨HO2.out.1, by
              rcases HO2.out.2 with h0 | ⟨g, cap, cur, e, hg, hh, hrest⟩
              · exact .inl h0
              · have hgj := hat g (by rw [e]; rfl)
                exact .inr ⟨g, cap, cur, e, hg, (a5.block g hgj.2.2 (by simp; omega)).trans hh, hrest⟩⟩)
          have B5 := Lib.hid (HB2.out.trans (a5.below (B := w.heap.size) (by simp; exact ⟨K3.out.1, K3.out.2.1⟩) hb3))
          clear d5 g5 a5 hb3 hr1 hr2 h3s
          go_wp2
          go_roundg (BG.del m R).length
          case measure => have := HG.out; have := HMl.out; omega
          case rel => exact ⟨BG.del m R, O ++ [m], Lib.hid (Nat.le_refl _), by have := HMl.out; omega, Lib.hid (by rw [HN.out, HMn.out]; simp), S5, B5⟩
end Go.Proofs.Ytfmcgejoobbiiaa
