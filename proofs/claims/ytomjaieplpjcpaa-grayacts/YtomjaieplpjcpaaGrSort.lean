/- The contract of the document's Sorted. -/
import Derived.Test.YtomjaieplpjcpaaGrRef
namespace Go.Proofs.Ytomjaieplpjcpaa
open Go.RowKit Go.Lib Go.Sort Go.Maps

namespace GM
/-- With x at place k. -/
def ins (M : List Int) (k : Nat) (x : Int) : List Int := M.take k ++ x :: M.drop k
section
variable {M : List Int} {k : Nat} {x : Int}
theorem ins_len (h : k ≤ M.length) : (ins M k x).length = M.length + 1 := by unfold ins; simp; omega
theorem ins_full (M : List Int) (x : Int) : ins M M.length x = M ++ [x] := by unfold ins; simp
theorem ins_at (h : k ≤ M.length) : (ins M k x)[k]? = some x := by
  unfold ins
  rw [List.getElem?_append_right (by simp; omega)]
  simp [Nat.min_eq_left h]
theorem ins_pre (h : k < M.length) : (ins M (k + 1) x)[k]? = some M[k] := by
  unfold ins
  rw [List.getElem?_append_left (by simp; omega), List.getElem?_take, if_pos (by omega), List.getElem?_eq_getElem h]
theorem ins_swap (h : k < M.length) : ((ins M (k + 1) x).set (k + 1) M[k]).set k x = ins M k x := by
  unfold ins
  have e1 : M.take (k + 1) = M.take k ++ [M[k]] := List.take_succ_eq_append_getElem h
  have e2 : M.drop k = M[k] :: M.drop (k + 1) := List.drop_eq_getElem_cons h
  have hl : (M.take k).length = k := by simp; omega
  rw [e1, e2, List.append_assoc, List.set_append_right _ _ (by omega), hl, show k + 1 - k = 1 by omega, List.set_append_right _ _ (by omega), hl, Nat.sub_self]
  rfl
theorem ins_norm {xs : List Int} (hM : M = BG.norm xs) (hd : ∀ y ∈ M.drop k, x < y) (ht : ∀ y ∈ M.take k, y < x) : ins M k x = BG.norm (xs ++ [x]) := by
  have hr : BG.Rises M := by rw [hM]; exact BG.norm_rises xs
  refine BG.ext _ _ ?_ (BG.norm_rises _) fun y => ?_
  · unfold ins BG.Rises
    rw [List.pairwise_append]
    refine ⟨List.Pairwise.sublist (List.take_sublist _ _) hr, List.pairwise_cons.2 ⟨hd, List.Pairwise.sublist (List.drop_sublist _ _) hr⟩, fun a ha b hb => ?_⟩
    have h1 := ht a ha
    rcases List.mem_cons.1 hb with rfl | hb
    · exact h1
    · have := hd b hb
      omega
  · rw [BG.mem_norm, List.mem_append, List.mem_singleton]
    have : y ∈ M ↔ y ∈ xs := by rw [hM, BG.mem_norm]
    rw [← this]
    unfold ins
    rw [List.mem_append, List.mem_cons]
    have hp : y ∈ M ↔ y ∈ M.take k ∨ y ∈ M.drop k := by rw [← List.mem_append, List.take_append_drop]
    rw [hp]
    constructor
    · rintro (h | h | h)
      · exact .inl (.inl h)
      · exact .inr h
      · exact .inl (.inr h)
    · rintro ((h | h) | h)
      · exact .inl h
      · exact .inr (.inr h)
      · exact .inr (.inl h)
theorem rises_take (h : BG.Rises M) (hk : k < M.length) : ∀ y ∈ M.take (k + 1), y ≤ M[k] := fun y hy => by
  rw [List.take_succ_eq_append_getElem hk, List.mem_append, List.mem_singleton] at hy
  rcases hy with hy | rfl
  · obtain ⟨i, hi, rfl⟩ := List.getElem_of_mem hy
    rw [List.length_take] at hi
    rw [List.getElem_take]
    have := List.pairwise_iff_getElem.1 h i k (by omega) hk (by omega)
    omega
  · exact Int.le_refl _
theorem rises_drop (h : BG.Rises M) (hk : k < M.length) : ∀ y ∈ M.drop k, M[k] ≤ y := fun y hy => by
  rw [List.drop_eq_getElem_cons hk] at hy
  rcases List.mem_cons.1 hy with rfl | hy
  · exact Int.le_refl _
  · obtain ⟨i, hi, rfl⟩ := List.getElem_of_mem hy
    rw [List.length_drop] at hi
    rw [List.getElem_drop]
    have := List.pairwise_iff_getElem.1 h k (k + 1 + i) hk (by omega) (by omega)
    omega
end
end GM

section
variable {base : Nat} {w : World} {g n cap : Nat} {l : List Int}
theorem NewZ.known (h : NewZ base w (.slice (some ⟨g, 0, none⟩) n cap) l) : n = l.length ∧ ∃ cur, base ≤ g ∧ Whole w g 3 cur ∧ l.length ≤ cap ∧ cap ≤ maxLen ∧ cur.size = cap ∧ ∀ j, j < l.length → cur[j]? = (l.map (Value.int .i64))[j]? := by
  rcases h.form with ⟨e, _⟩ | ⟨r, cap', cur, e, hb, hh, hn, hm, hs, hc⟩
  · cases e
  · injection e with e1 e2 e3
    injection e1 with e1
    injection e1 with e1
    subst e1 e2 e3
    exact ⟨rfl, cur, hb, hh, hn, hm, hs, hc⟩
theorem NewZ.get (h : NewZ base w (.slice (some ⟨g, 0, none⟩) n cap) l) {i : Nat} {y : Int} (hi : l[i]? = some y) : w.cell? ⟨g, i, none⟩ = some (.int .i64 y) := by
  obtain ⟨_, cur, _, hh, _, _, _, hc⟩ := h.known
  have hl : i < l.length := (List.getElem?_eq_some_iff.1 hi).1
  rw [hh.cell, hc i hl, List.getElem?_map, hi]
  rfl
theorem NewZ.free (h : NewZ base w (.slice (some ⟨g, 0, none⟩) n cap) l) (i : Nat) : w.frozen? ⟨g, i, none⟩ = false := by
  obtain ⟨_, cur, _, hh, _⟩ := h.known
  exact hh.free i
theorem NewZ.set (h : NewZ base w (.slice (some ⟨g, 0, none⟩) n cap) l) (i : Nat) (y : Int) (hi : i < l.length) : NewZ base (w.setCell ⟨g, i, none⟩ (.int .i64 y)) (.slice (some ⟨g, 0, none⟩) n cap) (l.set i y) := by
  obtain ⟨e, cur, hb, hh, hn, hm, hs, hc⟩ := h.known
  have hl : (l.set i y).length = n := by rw [List.length_set, e]
  rw [← hl]
  refine NewZ.mk' hb (hh.set i _) (by omega) hm (by simp [hs]) (fun j hj => ?_)
  rw [List.length_set] at hj
  rw [Array.getElem?_setIfInBounds, List.getElem?_map, List.getElem?_set]
  by_cases c : i = j
  · subst c
    have : i < cur.size := by omega
    simp [this, hi]
  · rw [if_neg c, if_neg c, hc j hj, List.getElem?_map]
end
theorem bset {B : Nat} {a b : World} (h : Below B a b) {p : Addr} (hp : B ≤ p.block) (u : Value) : Below B a (b.setCell p u) :=
  ⟨h.os, h.tape, h.output, by simpa [World.setCell] using h.size, fun k hk => (Below.heap_setCell b p u k (by omega)).trans (h.block k hk)⟩

set_option maxHeartbeats 4000000 in
set_option maxRecDepth 100000 in
theorem sorted_any {w : World} {A : Option Addr} {n c : Nat} {xs : List Int} (h : ZS w A n xs) (hn : n ≤ 100000) :
    Calls Try.prog 24 #[.slice A n c] w fun e w' => ∃ v, e = .returned v ∧ NewZ w.heap.size w' v (BG.norm xs) ∧ Below w.heap.size w w' := by
  obtain ⟨i0, hi0, hz0, hz1, hz2⟩ := info_parts infoZ
  have HZ := Lib.hid h
  have hl := h.len
  clear h
  go_enter Try.func24, Try.ntmps24
  go_wp2
  go_loopw [3, 4] (fun u i wr => ∃ k : Nat, k ≤ n ∧ i = .int .i64 k ∧ Hid (NewZ w.heap.size wr u (BG.norm (xs.take k))) ∧ Hid (Below w.heap.size w wr)) (fun _ i _ => n - (intOf i).toNat)
  case atStart => exact ⟨0, Nat.zero_le _, rfl, Lib.hid (by rw [List.take_zero, BG.norm_nil]; exact NewZ.nil _ _), Lib.hid (Below.refl _ _)⟩
  case round =>
    obtain ⟨i, hi, rfl, HU, HB⟩ := hrel
    by_cases hlt : i < n
    · obtain ⟨b, off, rfl, hb, c0⟩ := HZ.out.at_ hlt
      have d0 := (HB.out.cell (p := ⟨b, _, none⟩) hb).trans c0
      have hst : xs.take (i + 1) = xs.take i ++ [xs[i]'(by omega)] := List.take_succ_eq_append_getElem (by omega)
      obtain ⟨x, hx⟩ : ∃ x, x = xs[i]'(by omega) := ⟨_, rfl⟩
      rw [← hx] at d0 hst
      obtain ⟨X, hX⟩ : ∃ X, X = xs.take i := ⟨_, rfl⟩
      have hXl : X.length ≤ 100000 := by rw [hX, List.length_take]; omega
      rw [← hX] at hst HU
      obtain ⟨M, hM⟩ : ∃ M, M = BG.norm X := ⟨_, rfl⟩
      have hMl : M.length ≤ 100000 := by rw [hM]; have := BG.norm_len X; omega
      rw [← hM] at HU
      have HX := Lib.hid hst
      have HM := Lib.hid hM
      have hlo := HB.out.size
      obtain ⟨A2, c2, rfl, hc2⟩ := HU.out.slice
      have HH := Lib.hid (has_any (c := c2) HU.out.zs (by omega) x)
      clear c0 hx hX hst hM
      by_cases hin : x ∈ X
      · have hmem : decide (x ∈ M) = true := by rw [HM.out]; exact decide_eq_true (BG.mem_norm.2 hin)
        have hnx : BG.norm (X ++ [x]) = M := by rw [HM.out]; exact BG.norm_eq fun y => by rw [List.mem_append, List.mem_singleton]; exact ⟨fun h => h.elim id fun e => e ▸ hin, .inl⟩
        have HME := Lib.hid hmem
        have HNX := Lib.hid hnx
        clear hmem hnx hin
        go_wp2_with fail
        refine HH.out.mono ?_
        rintro e w2 ⟨rfl, rfl⟩
        rw [HME.out]
        clear HH
        go_wp2
        go_roundw
        case rel => exact ⟨i + 1, by omega, by go_num, by rw [HX.out, HNX.out]; exact HU, HB⟩
        case measure => simp [intOf]; omega
      · have hmem : decide (x ∈ M) = false := by rw [HM.out]; exact decide_eq_false (fun h => hin (BG.mem_norm.1 h))
        have HME := Lib.hid hmem
        have HIN := Lib.hid hin
        clear hmem hin
        go_wp2_with fail
        refine HH.out.mono ?_
        rintro e w2 ⟨rfl, rfl⟩
        rw [HME.out]
        clear HH
        go_wp2_with (first
          | (at_builtin; refine wpList_append_lies _ rfl _ _ 33 rfl w.heap.size 3 i0 _ 1 8 Try.underlying33 hi0 hz0 hz1 hz2 rfl (by decide) _ M.length (M.map (Value.int .i64)) rfl (HU.out.own.alloc _) ⟨wr.heap.size, 0, none⟩ 1 1 [.int .i64 x] rfl rfl (cell_one_new _ _ _) (by simp [Value.oneCell']) (by decide) (by unfold maxLen; omega) (by omega) (by simp; omega) (wr.heap.size + 1) (by simp) ?_; intro g cap w3 hown' hgrow hat hgl; have HO := Lib.hid (NewZ.snoc hown'); have HB3 := Lib.hid ((HB.out.alloc hlo _).grown hgrow (by simp; omega) (fun j hj => (HU.out.own.lt j hj).1)); clear hown' hgrow hat))
        go_loopw [6] (fun k wi => ∃ j : Nat, j ≤ M.length ∧ k = .int .i64 j ∧ Hid (NewZ w.heap.size wi (.slice (some ⟨g, 0, none⟩) (M.length + 1) cap) (GM.ins M j x)) ∧ Hid (Below w.heap.size w wi) ∧ Hid (∀ y ∈ M.drop j, x < y)) (fun k _ => (intOf k).toNat)
        case atStart => exact ⟨M.length, Nat.le_refl _, rfl, Lib.hid (by rw [GM.ins_full]; exact HO.out), HB3, Lib.hid (by simp)⟩
        case round =>
          obtain ⟨j, hj, rfl, HI, HBI, HD⟩ := hrel
          rcases Nat.eq_zero_or_pos j with h0 | h0
          · subst h0
            have hgd : decide ((0 : Int) < ((0 : Nat) : Int)) = false := by decide
            go_wp2_with fail
            go_quiet (fail)
            go_wp2
            go_roundw
            case rel =>
              refine ⟨i + 1, by omega, by go_num, ?_, Lib.hid (bdrewN HBI.out _)⟩
              rw [HX.out, ← GM.ins_norm HM.out HD.out (by simp)]
              exact Lib.hid (HI.out.drewN _)
            case measure => simp [intOf]; omega
          · obtain ⟨k, rfl⟩ : ∃ k, j = k + 1 := ⟨j - 1, by omega⟩
            have hk : k < M.length := by omega
            have g0 := HI.out.get (GM.ins_pre (x := x) hk)
            have g1 := HI.out.get (GM.ins_at (x := x) hj)
            have f0 := HI.out.free k
            have f1 := HI.out.free (k + 1)
            have hsw := GM.ins_swap (x := x) hk
            obtain ⟨y, hy⟩ : ∃ y, y = M[k] := ⟨_, rfl⟩
            rw [← hy] at g0 hsw
            have HY := Lib.hid hy
            have HSW := Lib.hid hsw
            have hk0 : (0 : Int) ≤ (k : Int) := by omega
            have hkL : (k : Int) + 1 < ((M.length + 1 : Nat) : Int) := by omega
            clear hy hsw h0
            by_cases hgt : x < y
            · have HGT := Lib.hid hgt
              go_wp2_with fail
              go_quiet (fail)
              go_wp2
              go_roundw
              case rel =>
                obtain ⟨_, _, hbg, _⟩ := HI.out.known
                refine ⟨k, by omega, rfl, Lib.hid ?_, Lib.hid (bset (bset (bdrewN HBI.out _) hbg _) hbg _), Lib.hid fun z hz => ?_⟩
                · rw [← HSW.out]
                  exact ((HI.out.drewN _).set (k + 1) y (by rw [GM.ins_len hj]; omega)).set k x (by rw [List.length_set, GM.ins_len hj]; omega)
                · have h1 := GM.rises_drop (by rw [HM.out]; exact BG.norm_rises X) hk z hz
                  have := HGT.out
                  rw [HY.out] at this
                  omega
              case measure => simp [intOf]
            · have HGT := Lib.hid hgt
              go_wp2_with fail
              go_quiet (fail)
              go_wp2
              go_roundw
              case rel =>
                refine ⟨i + 1, by omega, by go_num, ?_, Lib.hid (bdrewN HBI.out _)⟩
                rw [HX.out, ← GM.ins_norm HM.out HD.out (fun z hz => ?_)]
                · exact Lib.hid (HI.out.drewN _)
                · have h1 := GM.rises_take (by rw [HM.out]; exact BG.norm_rises X) hk z hz
                  have h2 := HGT.out
                  rw [HY.out] at h2
                  have h3 : z ≠ x := by
                    rintro rfl
                    refine HIN.out ?_
                    have := List.mem_of_mem_take hz
                    rw [HM.out] at this
                    exact BG.mem_norm.1 this
                  omega
              case measure => simp [intOf]; omega
    · obtain rfl : i = n := by omega
      go_wp2
      go_ret
      have hu := HU.out
      rw [List.take_of_length_le (by omega)] at hu
      exact ⟨_, rfl, hu, HB.out⟩
end Go.Proofs.Ytomjaieplpjcpaa
