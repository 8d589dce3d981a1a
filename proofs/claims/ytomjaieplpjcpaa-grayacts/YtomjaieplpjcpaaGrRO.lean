/- The contracts of the document's Order and Lost. -/
import Derived.Test.YtomjaieplpjcpaaGrSort
namespace Go.Proofs.Ytomjaieplpjcpaa
open Go.RowKit Go.Lib Go.Sort Go.Maps

namespace GM
theorem adds_take {o xs : List Int} {i : Nat} (h : i < xs.length) : adds o (xs.take (i + 1)) = add (adds o (xs.take i)) xs[i] := by rw [List.take_succ_eq_append_getElem h, adds_snoc]
theorem adds_tg_take {o : List Int} {es : List (Int × Int)} {i : Nat} (h : i < es.length) (x : Int) : adds o (tg (es.take (i + 1)) x) = if es[i].1 = x then add (adds o (tg (es.take i) x)) es[i].2 else adds o (tg (es.take i) x) := by
  rw [List.take_succ_eq_append_getElem h, show es[i] = (es[i].1, es[i].2) from rfl, tg_snoc, adds_append]
  by_cases c : es[i].1 = x
  · rw [if_pos c, if_pos c]
    rfl
  · rw [if_neg c, if_neg c]
    rfl
theorem adds_get {o xs : List Int} {k : Nat} {x : Int} (h : o[k]? = some x) : (adds o xs)[k]? = some x := by
  obtain ⟨s, hs, _⟩ := adds_ext xs o
  rw [hs, List.getElem?_append_left (List.getElem?_eq_some_iff.1 h).1, h]
end GM
theorem NewZ.get' {base : Nat} {w : World} {A : Option Addr} {n c : Nat} {l : List Int} (h : NewZ base w (.slice A n c) l) {k : Nat} {x : Int} (hk : l[k]? = some x) : ∃ g, A = some ⟨g, 0, none⟩ ∧ k < n ∧ n = l.length ∧ w.cell? ⟨g, k, none⟩ = some (.int .i64 x) := by
  have hl : k < l.length := (List.getElem?_eq_some_iff.1 hk).1
  obtain ⟨g, cap, e, _, _, hc⟩ := h.cell hl
  injection e with e1 e2 e3
  subst e1 e2
  rw [List.getElem?_eq_getElem hl] at hk
  injection hk with hk
  exact ⟨g, rfl, hl, rfl, by rw [hc, hk]⟩

set_option maxHeartbeats 4000000 in
set_option maxRecDepth 100000 in
theorem rorder_any {w : World} {A B : Option Addr} {n m c d : Nat} {rs : List Int} {es : List (Int × Int)} (h : ZS w A n rs) (he : ES w B m es) (hn : n ≤ 1000) (hm : m ≤ 1000) :
    Calls Try.prog 26 #[.slice A n c, .slice B m d] w fun e w' => ∃ v, e = .returned v ∧ NewZ w.heap.size w' v (GM.ord es rs) ∧ Below w.heap.size w w' := by
  obtain ⟨i0, hi0, hz0, hz1, hz2⟩ := info_parts infoZ
  have HZ := Lib.hid h
  have HE := Lib.hid he
  have hl1 := h.len
  have hl2 := he.len
  clear h he
  go_enter Try.func26, Try.ntmps26
  go_wp2
  go_loopw [5, 6] (fun u i wr => ∃ k : Nat, k ≤ n ∧ i = .int .i64 k ∧ Hid (NewZ w.heap.size wr u (GM.adds [] (rs.take k))) ∧ Hid (Below w.heap.size w wr)) (fun _ i _ => n - (intOf i).toNat)
  case atStart => exact ⟨0, Nat.zero_le _, rfl, Lib.hid (by rw [List.take_zero]; exact NewZ.nil _ _), Lib.hid (Below.refl _ _)⟩
  case round =>
    obtain ⟨i, hi, rfl, HU, HB⟩ := hrel
    by_cases hlt : i < n
    · obtain ⟨b, off, rfl, hb, c0⟩ := HZ.out.at_ hlt
      have d0 := (HB.out.cell (p := ⟨b, _, none⟩) hb).trans c0
      have hst := GM.adds_take (o := []) (xs := rs) (i := i) (by omega)
      obtain ⟨x, hx⟩ : ∃ x, x = rs[i]'(by omega) := ⟨_, rfl⟩
      rw [← hx] at d0 hst
      have hL : (GM.adds [] (rs.take i)).length ≤ 1000 := by have := GM.adds_len [] (rs.take i); rw [List.length_take] at this; simp at this; omega
      obtain ⟨L, hLe⟩ : ∃ L, L = GM.adds [] (rs.take i) := ⟨_, rfl⟩
      rw [← hLe] at hL hst HU
      have hlo := HB.out.size
      obtain ⟨A2, c2, rfl, hc2⟩ := HU.out.slice
      have HH := Lib.hid (has_any (c := c2) HU.out.zs (by omega) x)
      clear c0 hx hLe
      by_cases hin : x ∈ L
      · rw [GM.add_in hin] at hst
        have HST := Lib.hid hst
        have HME := Lib.hid (decide_eq_true hin)
        clear hst hin
        go_wp2_with fail
        refine HH.out.mono ?_
        rintro e w2 ⟨rfl, rfl⟩
        rw [HME.out]
        clear HH
        go_wp2
        go_roundw
        case rel => exact ⟨i + 1, by omega, by go_num, by rw [HST.out]; exact HU, HB⟩
        case measure => simp [intOf]; omega
      · rw [GM.add_out hin] at hst
        have HST := Lib.hid hst
        have HME := Lib.hid (decide_eq_false hin)
        clear hst hin
        go_wp2_with fail
        refine HH.out.mono ?_
        rintro e w2 ⟨rfl, rfl⟩
        rw [HME.out]
        clear HH
        go_wp2_with (first
          | (at_builtin; refine wpList_append_own _ rfl _ _ 33 rfl w.heap.size 3 i0 _ 1 8 Try.underlying33 hi0 hz0 hz1 hz2 rfl (by decide) _ _ _ rfl (HU.out.own.alloc _) ⟨wr.heap.size, 0, none⟩ 1 1 [.int .i64 x] rfl rfl (cell_one_new _ _ _) (by simp [Value.oneCell']) (by unfold maxLen; omega) (by omega) (by simp; omega) ?_; intro v' w3 hown' hgrow _; have HO := Lib.hid hown'; have HG := Lib.hid hgrow; clear hown' hgrow))
        go_roundw
        case rel => exact ⟨i + 1, by omega, by go_num, by rw [HST.out]; exact Lib.hid (NewZ.snoc HO.out), Lib.hid ((HB.out.alloc hlo _).grown HG.out (by simp; omega) (fun g hg => (HU.out.own.lt g hg).1))⟩
        case measure => simp [intOf]; omega
    · obtain rfl : i = n := by omega
      have hu := HU.out
      rw [List.take_of_length_le (by omega)] at hu
      have HU0 := Lib.hid hu
      clear hu
      go_wp2_with fail
      go_loopw [5, 8] (fun u a wk => ∃ k : Nat, k ≤ (GM.walk es rs k).length ∧ a = .int .i64 k ∧ Hid (NewZ w.heap.size wk u (GM.walk es rs k)) ∧ Hid (Below w.heap.size w wk)) (fun _ a _ => i + m + 1 - (intOf a).toNat)
      case atStart => exact ⟨0, Nat.zero_le _, rfl, HU0, HB⟩
      case round =>
        obtain ⟨k, hk, rfl, HK, HBk⟩ := hrel
        have hwl : (GM.walk es rs k).length ≤ i + m := by have := GM.walk_len es rs k; omega
        obtain ⟨O, hO⟩ : ∃ O, O = GM.walk es rs k := ⟨_, rfl⟩
        rw [← hO] at hwl HK hk
        obtain ⟨A2, c2, rfl, hc2⟩ := HK.out.slice
        have HOE := Lib.hid hO
        by_cases hend : k < O.length
        · rw [hO] at hend
          obtain ⟨x, hx⟩ : ∃ x, (GM.walk es rs k)[k]? = some x := ⟨_, List.getElem?_eq_getElem hend⟩
          have HX := Lib.hid hx
          have HW := Lib.hid (GM.walk_succ hx)
          rw [← hO] at HX HW hend
          have hfe : ∀ j, (GM.adds O (GM.tg (es.take j) x)).length ≤ i + m := fun j => by
            obtain ⟨s, hs, _⟩ := GM.adds_ext (GM.tg (es.drop j) x) (GM.adds O (GM.tg (es.take j) x))
            have e : GM.adds O (GM.tg es x) = GM.adds (GM.adds O (GM.tg (es.take j) x)) (GM.tg (es.drop j) x) := by rw [← GM.adds_append, ← GM.tg_append, List.take_append_drop]
            rw [← HW.out] at e
            have h1 := GM.walk_len es rs (k + 1)
            rw [e, hs, List.length_append] at h1
            omega
          have HFE := Lib.hid hfe
          clear hx hO hfe
          go_wp2_with fail
          go_loopw [5, 9] (fun u a wk => ∃ j : Nat, j ≤ m ∧ a = .int .i64 j ∧ Hid (NewZ w.heap.size wk u (GM.adds O (GM.tg (es.take j) x))) ∧ Hid (Below w.heap.size w wk)) (fun _ a _ => m - (intOf a).toNat)
          case atStart => exact ⟨0, Nat.zero_le _, rfl, HK, HBk⟩
          case round =>
            obtain ⟨j, hj, rfl, HJ, HBj⟩ := hrel
            by_cases hlt : j < m
            · obtain ⟨b, off, rfl, hb, c0, c1⟩ := HE.out.at_ hlt
              have d0 := (HBj.out.cell (p := ⟨b, _, none⟩) hb).trans c0
              have d1 := (HBj.out.cell (p := ⟨b, _, none⟩) hb).trans c1
              have hst := GM.adds_tg_take (o := O) (es := es) (i := j) (by omega) x
              obtain ⟨e, he⟩ : ∃ e, e = es[j]'(by omega) := ⟨_, rfl⟩
              obtain ⟨f, t⟩ := e
              rw [← he] at d0 d1 hst
              have hL := HFE.out j
              have hxL := GM.adds_get (xs := GM.tg (es.take j) x) HX.out
              obtain ⟨L, hLe⟩ : ∃ L, L = GM.adds O (GM.tg (es.take j) x) := ⟨_, rfl⟩
              rw [← hLe] at hL hst HJ hxL
              have hlo := HBj.out.size
              obtain ⟨A3, c3, rfl, hc3⟩ := HJ.out.slice
              obtain ⟨g, rfl, hkL, _, d2⟩ := HJ.out.get' hxL
              have hi1 : (k : Int) < ((L.length : Nat) : Int) := by omega
              have hi2 : (j : Int) < ((m : Nat) : Int) := by omega
              have hi3 : (0 : Int) ≤ (k : Int) := by omega
              have hi4 : (0 : Int) ≤ (j : Int) := by omega
              clear c0 c1 he hLe hxL
              by_cases hfx : f = x
              · rw [if_pos hfx] at hst
                subst hfx
                have HZ3 := HJ.out.zs
                have HH := Lib.hid (fun (q : Nat) => has_any (w := wr.drewN q) (c := c3) (HZ3.below (bdrewN (Below.refl _ _) q)) (by omega) t)
                have d3 : ∀ q, (wr.drewN q).cell? ⟨b, off + j * 2 + 1, none⟩ = some (.int .i64 t) := fun _ => d1
                clear HZ3
                by_cases hin : t ∈ L
                · rw [GM.add_in hin] at hst
                  have HST := Lib.hid hst
                  have HME := Lib.hid (decide_eq_true hin)
                  clear hst hin
                  go_wp2_with fail
                  go_quiet (fail)
                  go_wp2_with fail
                  refine (HH.out _).mono ?_
                  rintro e w2 ⟨rfl, rfl⟩
                  rw [HME.out]
                  clear HH
                  go_wp2
                  go_roundw
                  case rel => exact ⟨j + 1, by omega, by go_num, by rw [HST.out]; exact Lib.hid (HJ.out.drewN _), Lib.hid (bdrewN HBj.out _)⟩
                  case measure => simp [intOf]; omega
                · rw [GM.add_out hin] at hst
                  have HST := Lib.hid hst
                  have HME := Lib.hid (decide_eq_false hin)
                  clear hst hin
                  go_wp2_with fail
                  go_quiet (fail)
                  go_wp2_with fail
                  refine (HH.out _).mono ?_
                  rintro e w2 ⟨rfl, rfl⟩
                  rw [HME.out]
                  clear HH
                  go_wp2_with (first
                    | (at_builtin; refine wpList_append_own _ rfl _ _ 33 rfl w.heap.size 3 i0 _ 1 8 Try.underlying33 hi0 hz0 hz1 hz2 rfl (by decide) _ _ _ rfl ((HJ.out.drewN _).own.alloc _) ⟨wr.heap.size, 0, none⟩ 1 1 [.int .i64 t] rfl rfl (cell_one_new _ _ _) (by simp [Value.oneCell']) (by unfold maxLen; omega) (by omega) (by simp; omega) ?_; intro v' w3 hown' hgrow _; have HO := Lib.hid hown'; have HG := Lib.hid hgrow; clear hown' hgrow))
                  go_roundw
                  case rel => exact ⟨j + 1, by omega, by go_num, by rw [HST.out]; exact Lib.hid (NewZ.snoc HO.out), Lib.hid (((bdrewN HBj.out _).alloc (by simpa using hlo) _).grown HG.out (by simp; omega) (fun g hg => (HJ.out.own.lt g hg).1))⟩
                  case measure => simp [intOf]; omega
              · rw [if_neg hfx] at hst
                have HST := Lib.hid hst
                have hD : (f == x) = false := by simpa using hfx
                clear hst hfx
                go_wp2_with fail
                go_quiet (fail)
                go_wp2
                go_roundw
                case rel => exact ⟨j + 1, by omega, by go_num, by rw [HST.out]; exact Lib.hid (HJ.out.drewN _), Lib.hid (bdrewN HBj.out _)⟩
                case measure => simp [intOf]; omega
            · obtain rfl : j = m := by omega
              have hj := HJ.out
              rw [List.take_of_length_le (by omega), ← HW.out] at hj
              have HJ2 := Lib.hid hj
              have hlen : O.length ≤ (GM.walk es rs (k + 1)).length := by
                rw [HOE.out]
                obtain ⟨s, hs⟩ := GM.walk_mono (es := es) (rs := rs) (k := k) (j := k + 1) (by omega)
                rw [hs, List.length_append]
                omega
              clear hj
              go_wp2
              go_roundw
              case rel => exact ⟨k + 1, by omega, by go_num, HJ2, HBj⟩
              case measure => simp [intOf]; omega
        · have hfin : GM.ord es rs = O := by rw [hO]; exact GM.ord_end (by rw [← hO]; omega)
          have HF := Lib.hid hfin
          clear hO hfin
          go_wp2
          go_ret
          exact ⟨_, rfl, by rw [HF.out]; exact HK.out, HBk.out⟩
end Go.Proofs.Ytomjaieplpjcpaa
