/- BagWalks, walked. -/
import Derived.Test.YtfmcgejoobbiiaaBgAlive
import Derived.Test.YtfmcgejoobbiiaaSl
import Derived.Deep.DeepCutAuto
namespace Go.Proofs.Ytfmcgejoobbiiaa
open Go.RowKit Go.Lib Go.Sort

theorem NS.reads {w : World} {A : Option Addr} {n : Nat} {xs : List Int} (h : NS .i64 w w.heap.size A n xs) : Reads (Value.int .i64) w A n xs :=
  ⟨h.1, fun hn => by
    obtain ⟨b, off, e, hlt, hc⟩ := h.2.2 hn
    exact ⟨b, off, e, hlt, fun j hj => hc j xs[j] (List.getElem?_eq_getElem hj)⟩⟩
theorem Reads.take {enc : Int → Value} {w : World} {A : Option Addr} {n M : Nat} {xs : List Int} (h : Reads enc w A n xs) (hM : M ≤ n) : Reads enc w A M (xs.take M) := by
  have e := h.1
  refine ⟨by rw [List.length_take]; omega, fun h0 => ?_⟩
  obtain ⟨b, off, e, hlt, hc⟩ := h.2 (by omega)
  exact ⟨b, off, e, hlt, fun j hj => by
    have hj' : j < xs.length := by rw [List.length_take] at hj; omega
    rw [hc j hj', List.getElem_take]⟩
theorem Reads.at_ {enc : Int → Value} {w : World} {A : Option Addr} {n k : Nat} {xs : List Int} (h : Reads enc w A n xs) (hk : k < n) : ∃ b off, ∃ hl : k < xs.length, A = some ⟨b, off, none⟩ ∧ b < w.heap.size ∧ w.cell? ⟨b, off + k, none⟩ = some (enc xs[k]) := by
  have e := h.1
  obtain ⟨b, off, e', hlt, hc⟩ := h.2 (by omega)
  exact ⟨b, off, by omega, e', hlt, hc k (by omega)⟩
theorem cut_num (n K : Nat) : ∃ M : Nat, M ≤ n ∧ M ≤ K ∧ (n ≤ K ∧ M = n ∨ K < n ∧ M = K) := by
  by_cases h : n ≤ K
  · exact ⟨n, Nat.le_refl _, h, .inl ⟨h, rfl⟩⟩
  · exact ⟨K, by omega, Nat.le_refl _, .inr ⟨by omega, rfl⟩⟩

namespace BG
/-- From where First is asked, the k-th time. -/
def walkAt (L : List Int) (k : Nat) : Int := if k = 0 then -1000001 else L.getD (k - 1) 0 + 1
theorem walkAt_zero (L : List Int) : walkAt L 0 = -1000001 := rfl
theorem walkAt_succ (L : List Int) (k : Nat) (hk : k < L.length) : walkAt L (k + 1) = L[k] + 1 := by
  unfold walkAt
  rw [if_neg (by omega)]
  simp [hk]
theorem le_at {L : List Int} (h : Rises L) {i j : Nat} (hij : i ≤ j) (hj : j < L.length) : L[i] ≤ L[j] := by
  by_cases e : i = j
  · subst e; exact Int.le_refl _
  · have := List.pairwise_iff_getElem.1 h i j (by omega) hj (by omega)
    omega
theorem walk_first {L : List Int} (h : Rises L) (hlo : ∀ z ∈ L, -1000001 ≤ z) {k : Nat} (hk : k < L.length) : fst L (walkAt L k) = some L[k] := by
  rw [fst_some h]
  refine ⟨List.getElem_mem hk, ?_, fun z hz hle => ?_⟩
  · match k, hk with
    | 0, hk => exact hlo _ (List.getElem_mem hk)
    | k + 1, hk =>
      rw [walkAt_succ L k (by omega)]
      have := List.pairwise_iff_getElem.1 h k (k + 1) (by omega) hk (by omega)
      omega
  · obtain ⟨j, hj, rfl⟩ := List.getElem_of_mem hz
    rcases Nat.lt_or_ge j k with hjk | hjk
    · match k, hk with
      | k + 1, hk =>
        rw [walkAt_succ L k (by omega)] at hle
        have := le_at h (show j ≤ k by omega) (by omega)
        omega
    · exact le_at h hjk hj
theorem walk_end {L : List Int} (h : Rises L) : fst L (walkAt L L.length) = none := by
  rw [fst_none h]
  intro z hz
  obtain ⟨j, hj, rfl⟩ := List.getElem_of_mem hz
  obtain ⟨n, hn⟩ : ∃ n, L.length = n + 1 := ⟨L.length - 1, by omega⟩
  rw [hn, walkAt_succ L n (by omega)]
  have := le_at h (show j ≤ n by omega) (by omega)
  omega
/-- What is left of each, cut. -/
def mods (xs : List Int) : List Int := xs.map fun x => x.tmod 1000000
theorem mods_len (xs : List Int) : (mods xs).length = xs.length := by simp [mods]
theorem mods_bd {xs : List Int} {y : Int} (h : y ∈ mods xs) : -1000000 < y ∧ y < 1000000 := by
  obtain ⟨x, _, rfl⟩ := List.mem_map.1 h
  have h1 := Int.tmod_lt_of_pos x (show (0 : Int) < 1000000 by decide)
  have h2 : -1000000 < x.tmod 1000000 := by
    have := Int.tmod_lt_of_pos (-x) (show (0 : Int) < 1000000 by decide)
    rw [Int.neg_tmod] at this
    omega
  exact ⟨h2, h1⟩
end BG

set_option maxRecDepth 100000 in
set_option maxHeartbeats 4000000 in
theorem walks_any (A : Option Addr) (n c : Nat) (xs : List Int) (w : World) (hx : NS .i64 w w.heap.size A n xs) (hnc : n ≤ c) :
    Calls Try.prog 7 #[.slice A n c] w fun e w' => e = .returned (.bool true) ∧ Below w.heap.size w w' := by
  obtain ⟨M, hM1, hM2, hM3⟩ := cut_num n 100
  have HM3 := Lib.hid hM3
  have HX := Lib.hid (hx.reads.take hM1)
  have HW : Hid (∀ x ∈ xs.take M, (Lit.int .i64 x).wf = true) := Lib.hid (fun x hh => hx.2.1 x (List.mem_of_mem_take hh))
  clear hM3 hx
  generalize xs.take M = ys at HX HW
  have hlen : ys.length = M := HX.out.1
  go_enter Try.func7, Try.ntmps7
  go_upto_region 2 with (fail)
  go_cut [18, 19, 20] (fun s k i wc => s = .slice A M c ∧ k = .int .i64 (M : Nat) ∧ i = .int .i64 0 ∧ w = wc)
  case first =>
    rcases HM3.out with ⟨h1, h2⟩ | ⟨h1, h2⟩
    · subst h2
      have hn' : ¬ (100 : Int) < (M : Int) := by omega
      go_wp2
      go_meet
      exact ⟨by congr 1; omega, by congr 1; omega, rfl, rfl⟩
    · subst h2
      have hn' : (100 : Int) < (n : Int) := by omega
      go_wp2
      go_meet
      exact ⟨by congr 1; omega, by congr 1; omega, rfl, rfl⟩
  case rest =>
    obtain ⟨rfl, rfl, rfl, rfl⟩ := hcut
    clear HM3 hM1 hnc
    go_wp2_with fail
    go_loopg [3, 20] M (fun g ov i wr => ∃ k : Nat, k ≤ M ∧ Hid (M - k ≤ g) ∧ i = .int .i64 k ∧ Hid (wr.ownsRow w.heap.size 3 1 ov ((BG.mods ys).take k).length (((BG.mods ys).take k).map (Value.int .i64))) ∧ Hid (Below w.heap.size w wr))
    case atStart => exact ⟨0, Nat.zero_le _, Lib.hid (Nat.le_refl _), rfl, Lib.hid (World.ownsRow_nil _ _ _ _), Lib.hid (Below.refl _ _)⟩
    case round =>
      obtain ⟨k, hk, HG, rfl, HL, HB⟩ := hrel
      have hbs := HB.out.size
      by_cases hkl : k < M
      · obtain ⟨b, off, hkx, rfl, hblt, hc0⟩ := (HX.out.below HB.out).at_ hkl
        have hml : (BG.mods ys).length = ys.length := BG.mods_len ys
        have E3 : Hid ((BG.mods ys).take (k + 1) = (BG.mods ys).take k ++ [ys[k].tmod 1000000]) := Lib.hid (by rw [take_snoc_at (by omega)]; simp [BG.mods])
        have hwf := bounds_i64 (HW.out _ (List.getElem_mem hkx))
        have hbd := BG.mods_bd (List.mem_map_of_mem (f := fun x : Int => x.tmod 1000000) (List.getElem_mem hkx))
        have hlen2 : ((BG.mods ys).take k).length ≤ 100 := by rw [List.length_take]; omega
        generalize ys[k] = x at hc0 E3 hwf hbd
        go_wp2_with (first
          | (at_builtin
             refine wpList_append_rowI _ rfl _ _ rfl w.heap.size _ _ ((BG.mods ys).take k) rfl (HL.out.alloc _) wr.heap.size (.slice (some ⟨wr.heap.size, 0, none⟩) 1 1) [x.tmod 1000000] rfl (Row.mk' (l := [x.tmod 1000000]) (Whole.fresh wr _ _) (Nat.le_refl _) (by decide) rfl (fun j hj => by (obtain rfl : j = 0 := by simpa using hj); rfl)) (by simp; omega) (by simp; omega) ?_
             intro v2 w3 ho2 hg2
             have HO2 := Lib.hid ho2
             have HB2 := Lib.hid ((HB.out.alloc hbs _).grown hg2 (by simp; omega) (fun k hk => (HL.out.lt k hk).1))
             clear ho2 hg2))
        go_roundg (M - (k + 1))
        case measure => have := HG.out; omega
        case rel => exact ⟨k + 1, by omega, Lib.hid (Nat.le_refl _), by go_num, Lib.hid (by rw [E3.out, List.length_append]; exact HO2.out), HB2⟩
      · obtain rfl : k = M := by omega
        have hown := HL.out
        have hml : (BG.mods ys).length = ys.length := BG.mods_len ys
        rw [List.take_of_length_le (by omega)] at hown
        obtain ⟨r0, hr0, _⟩ := row_of hown
        obtain ⟨A0, c0, rfl, _⟩ := hr0.slice
        have HN := Lib.hid (new_any A0 (BG.mods ys).length c0 (BG.mods ys) wr hr0.reads (by omega))
        have HLB : Hid (∀ z ∈ BG.norm (BG.mods ys), -1000000 < z ∧ z < 1000000) := Lib.hid (fun z hz => BG.mods_bd (BG.mem_norm.1 hz))
        have hLl : (BG.norm (BG.mods ys)).length ≤ 100 := by have := BG.norm_len (BG.mods ys); omega
        have HUP := Lib.hid (BG.norm_rises (BG.mods ys))
        generalize BG.norm (BG.mods ys) = L at HN HLB hLl HUP
        clear hown hr0 HL HG hml hlen
        go_wp2_with fail
        refine HN.out.mono ?_
        rintro e w1 ⟨b, r, rfl, h1, hb1, hr1, hB1⟩
        have H1 := Lib.hid h1
        have B1 := Lib.hid (HB.out.trans (hB1.mono hbs))
        clear h1 hB1 HN HB
        go_wp2_with fail
        refine (alive_any w1).mono ?_
        rintro e w2 ⟨rfl, hB2⟩
        have H2 := Lib.hid (H1.out.below hB2)
        have B2 := Lib.hid (B1.out.trans (hB2.mono B1.out.size))
        clear hB2 H1 B1
        go_wp2_with fail
        refine (all_any H2.out (by omega)).mono ?_
        rintro e w3 ⟨v3, rfl, h3, hb3⟩
        obtain ⟨r3, hr3, _⟩ := row_of h3
        obtain ⟨A3, c3, rfl, _⟩ := hr3.slice
        have R3 := Lib.hid hr3
        have H3 := Lib.hid (H2.out.below hb3)
        have B3 := Lib.hid (B2.out.trans (hb3.mono B2.out.size))
        clear h3 hb3 hr3 H2 B2
        go_wp2
        go_loopg [7, 41] L.length (fun g av i wr => ∃ k : Nat, k ≤ L.length ∧ Hid (L.length - k ≤ g) ∧ i = .int .i64 k ∧ av = .int .i64 (BG.walkAt L k) ∧ Hid (IBag wr b r L) ∧ Hid (IRow wr r3 (.slice A3 L.length c3) L) ∧ Hid (Below w.heap.size w wr))
        case atStart => exact ⟨0, Nat.zero_le _, Lib.hid (Nat.le_refl _), rfl, rfl, H3, R3, B3⟩
        case round =>
          clear H3 R3 B3
          obtain ⟨j, hj, HG, rfl, rfl, HBag, HRow, HB⟩ := hrel
          by_cases hjl : j < L.length
          · obtain ⟨cap, e0, _, hcell⟩ := HRow.out.cell hjl
            injection e0 with e1 _ e2
            subst e1 e2
            have hf := first_any HBag.out (by omega) (BG.walkAt L j)
            have hfs := BG.walk_first HUP.out (fun z hz => by have := HLB.out z hz; omega) hjl
            rw [show BG.fstV L (BG.walkAt L j) = L[j] by simp [BG.fstV, hfs], show BG.fstB L (BG.walkAt L j) = true by simp [BG.fstB, hfs]] at hf
            have HF := Lib.hid hf
            have HS := Lib.hid (BG.walkAt_succ L j hjl)
            have hbd := HLB.out _ (List.getElem_mem hjl)
            clear hf hfs
            generalize L[j] = x at *
            generalize BG.walkAt L j = at0 at HF
            go_wp2_with fail
            refine HF.out.mono ?_
            rintro e w4 ⟨rfl, q, rfl⟩
            have HBag1 := Lib.hid (HBag.out.drewN q)
            have HRow1 := Lib.hid (HRow.out.drewN q)
            have HB1 := Lib.hid (show Below w.heap.size w (World.drewN _ q) from ⟨HB.out.os, HB.out.tape, HB.out.output, HB.out.size, HB.out.block⟩)
            go_wp2
            go_roundg (L.length - (j + 1))
            case measure => have := HG.out; omega
            case rel => exact ⟨j + 1, by omega, Lib.hid (Nat.le_refl _), by go_num, by rw [HS.out], HBag1, HRow1, HB1⟩
          · obtain rfl : j = L.length := by omega
            have hf := first_any HBag.out (by omega) (BG.walkAt L L.length)
            have hfs := BG.walk_end HUP.out
            rw [show BG.fstB L (BG.walkAt L L.length) = false by simp [BG.fstB, hfs]] at hf
            have HF := Lib.hid hf
            clear hf hfs
            generalize BG.fstV L (BG.walkAt L L.length) = y at HF
            generalize BG.walkAt L L.length = at0 at *
            go_wp2_with fail
            refine HF.out.mono ?_
            rintro e w4 ⟨rfl, q, rfl⟩
            go_wp2
            go_ret
            exact ⟨rfl, HB.out.os, HB.out.tape, HB.out.output, HB.out.size, HB.out.block⟩
end Go.Proofs.Ytfmcgejoobbiiaa
