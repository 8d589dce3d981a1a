/- The law GrayWalks. -/
import Derived.Test.YtomjaieplpjcpaaGyAlive
import Derived.Test.YtomjaieplpjcpaaGrRO
namespace Go.Proofs.Ytomjaieplpjcpaa
open Go.RowKit Go.Lib Go.Sort Go.Maps
set_option linter.unusedVariables false

namespace GY
/-- All that a list knows, in the order of a walk. -/
theorem put_adds {s : S} (x : Int) : (put s x).D = s.D ∧ (put s x).D ++ (put s x).W = GM.add (s.D ++ s.W) x := by
  by_cases h : col s x = 0
  · have h1 := no_col h
    rw [put_0 h, GM.add_out (by simp; exact ⟨h1.2, h1.1⟩)]
    exact ⟨rfl, by simp⟩
  · rw [put_no h]
    refine ⟨rfl, (GM.add_in ?_).symm⟩
    rcases Decidable.em (x ∈ s.D) with k | k
    · simp [k]
    · rcases Decidable.em (x ∈ s.W) with k2 | k2
      · simp [k2]
      · exact absurd (col_0 k2 k) h
theorem puts_adds {s : S} : ∀ (xs : List Int), (puts s xs).D = s.D ∧ (puts s xs).D ++ (puts s xs).W = GM.adds (s.D ++ s.W) xs := by
  intro xs
  induction xs generalizing s with
  | nil => exact ⟨rfl, rfl⟩
  | cons x xs ih =>
    rw [puts_cons, GM.adds_cons]
    have h := put_adds (s := s) x
    have k := ih (s := put s x)
    rw [h.2] at k
    exact ⟨k.1.trans h.1, k.2⟩
/-- A walk at its k-th: those ahead are done, the rest waits. -/
def at_ (O : List Int) (k : Nat) : S := ⟨O.drop k, O.take k⟩
theorem at_puts {O xs : List Int} {k : Nat} (h : k ≤ O.length) : puts (at_ O k) xs = at_ (GM.adds O xs) k := by
  have h1 := puts_adds (s := at_ O k) xs
  have e : (at_ O k).D ++ (at_ O k).W = O := List.take_append_drop k O
  rw [e] at h1
  obtain ⟨r, hr, _⟩ := GM.adds_ext xs O
  have h2 : (puts (at_ O k) xs).D = (GM.adds O xs).take k := by rw [h1.1, hr, List.take_append_of_le_length h]; rfl
  have h3 : (puts (at_ O k) xs).W = (GM.adds O xs).drop k := by
    have h4 := h1.2
    rw [h2] at h4
    exact List.append_cancel_left (h4.trans (List.take_append_drop k _).symm)
  obtain ⟨W, hW⟩ : ∃ W, W = (puts (at_ O k) xs).W := ⟨_, rfl⟩
  show (⟨(puts (at_ O k) xs).W, (puts (at_ O k) xs).D⟩ : S) = _
  rw [h2, h3]
  rfl
theorem at_next {O : List Int} {k : Nat} {x : Int} (h : O[k]? = some x) : (at_ O k).W = x :: O.drop (k + 1) ∧ next (at_ O k) = at_ O (k + 1) := by
  obtain ⟨hk, e⟩ := List.getElem?_eq_some_iff.1 h
  have h1 : (at_ O k).W = x :: O.drop (k + 1) := by
    show O.drop k = _
    rw [List.drop_eq_getElem_cons hk, e]
  refine ⟨h1, ?_⟩
  rw [next_cons h1]
  show (⟨O.drop (k + 1), O.take k ++ [x]⟩ : S) = ⟨O.drop (k + 1), O.take (k + 1)⟩
  rw [List.take_succ_eq_append_getElem hk, e]
theorem at_nil {O : List Int} {k : Nat} (h : O.length ≤ k) : (at_ O k).W = [] := List.drop_eq_nil_of_le h
theorem at_num (O : List Int) (k : Nat) : num (at_ O k) = O.length := by
  show (O.drop k).length + (O.take k).length = _
  rw [List.length_drop, List.length_take]
  omega
theorem puts_nil_at (xs : List Int) : puts S.nil xs = at_ (GM.adds [] xs) 0 := at_puts (O := []) (k := 0) (Nat.zero_le _)
end GY

set_option maxHeartbeats 4000000 in
set_option maxRecDepth 100000 in
theorem walks_walk (A : Option Addr) (n c : Nat) (xs : List Int) (B : Option Addr) (m d : Nat) (es : List (Int × Int)) (w : World) (hz : ZS w A n xs ∧ ZI xs ∧ n ≤ c) (he : ES w B m es ∧ EI es ∧ m ≤ d) :
    Calls Try.prog 5 #[.slice A n c, .slice B m d] w fun e w' => e = .returned (.bool true) ∧ Below w.heap.size w w' := by
  obtain ⟨hz1, hzi, hnc⟩ := hz
  obtain ⟨he1, hei, hmd⟩ := he
  obtain ⟨i0, hi0, hz0, hzz1, hz2⟩ := info_parts infoZ
  have hlx := hz1.len
  have hle := he1.len
  have HZ := Lib.hid hz1
  have HZI := Lib.hid hzi
  have HE := Lib.hid he1
  have HEI := Lib.hid hei
  clear hz1 hzi he1 hei
  go_enter Try.func5, Try.ntmps5
  go_wp2_with fail
  refine (lnew_any (Below.refl _ w)).mono ?_
  rintro e w1 ⟨b, rfl, h1, _⟩
  have G1 := Lib.hid h1
  clear h1
  go_wp2_with fail
  refine (galive_any _).mono ?_
  rintro e w2 ⟨rfl, hb2⟩
  have G2 := Lib.hid (G1.out.below hb2)
  clear G1 hb2
  by_cases hgr : 60 < n ∨ 60 < m
  · have hend : ∀ w3, Below w2.heap.size w2 w3 → Below w.heap.size w w3 := fun w3 h3 => (G2.out.below h3).bel
    have HEND := Lib.hid hend
    clear hend G2
    rcases hgr with hg | hg
    · go_wp2_with fail
      refine (galive_any _).mono ?_
      rintro e w3 ⟨rfl, hb3⟩
      go_wp2
      go_ret
      exact ⟨rfl, HEND.out _ hb3⟩
    · by_cases hg2 : 60 < n
      · go_wp2_with fail
        refine (galive_any _).mono ?_
        rintro e w3 ⟨rfl, hb3⟩
        go_wp2
        go_ret
        exact ⟨rfl, HEND.out _ hb3⟩
      · go_wp2_with fail
        refine (galive_any _).mono ?_
        rintro e w3 ⟨rfl, hb3⟩
        go_wp2
        go_ret
        exact ⟨rfl, HEND.out _ hb3⟩
  · have hn : n ≤ 60 := by omega
    have hm : m ≤ 60 := by omega
    have hg1 : ¬ 60 < n := by omega
    have hg2 : ¬ 60 < m := by omega
    have hP := lput_any (c := c) G2.out (G2.out.zs HZ.out) HZI.out (by simp [GY.num, GY.S.nil]; omega)
    rw [GY.puts_nil_at] at hP
    have HP := Lib.hid hP
    clear hP hgr
    go_wp2_with fail
    refine HP.out.mono ?_
    rintro e w3 ⟨rfl, h3, _⟩
    have G3 := Lib.hid h3
    clear h3 HP G2
    have hwl : ∀ k, (GM.walk es xs k).length ≤ 120 := fun k => by have := GM.walk_len es xs k; omega
    have HWL := Lib.hid hwl
    have hol : (GM.ord es xs).length ≤ 120 := by have := GM.ord_len es xs; omega
    clear hwl
    go_wp2_with fail
    go_loopw [6, 36] (fun u i wr => ∃ k : Nat, k ≤ (GM.walk es xs k).length ∧ i = .int .i64 k ∧ Hid (NewZ w.heap.size wr u ((GM.walk es xs k).take k)) ∧ Hid (Gl w wr b (GY.at_ (GM.walk es xs k) k))) (fun _ i _ => 200 - (intOf i).toNat)
    case atStart => exact ⟨0, Nat.zero_le _, rfl, Lib.hid (NewZ.nil _ _), G3⟩
    case round =>
      obtain ⟨k, hk, rfl, HU, HG⟩ := hrel
      have hkl := HWL.out k
      have hk2 : k ≤ 120 := by omega
      have hk3 : (k : Int) < 200 := by omega
      obtain ⟨A3, c3, rfl, hc3⟩ := HU.out.slice
      obtain ⟨O, hO⟩ : ∃ O, O = GM.walk es xs k := ⟨_, rfl⟩
      rw [← hO] at HU HG hk hkl hc3 ⊢
      have HOE := Lib.hid hO
      have hlt0 : (O.take k).length = k := by rw [List.length_take]; omega
      rw [hlt0] at hc3 HU ⊢
      rcases Nat.lt_or_ge k O.length with hend | hend
      · obtain ⟨x, hx⟩ : ∃ x, O[k]? = some x := ⟨_, List.getElem?_eq_getElem hend⟩
        have hxe := (List.getElem?_eq_some_iff.1 hx).2
        have hnx := GY.at_next hx
        have hN := lnext_any HG.out (by rw [GY.at_num]; omega)
        rw [GY.hd_cons hnx.1, hnx.1, hnx.2, decide_eq_true (show x :: O.drop (k + 1) ≠ [] by simp)] at hN
        have HN := Lib.hid hN
        have hst : O.take (k + 1) = O.take k ++ [x] := by rw [List.take_succ_eq_append_getElem hend, hxe]
        have hW := GM.walk_succ (es := es) (rs := xs) (k := k) (x := x) (by rw [← hO]; exact hx)
        rw [← hO] at hW
        have HST := Lib.hid hst
        have HW := Lib.hid hW
        have HWK := Lib.hid (HWL.out (k + 1))
        clear hN hnx hx hO hst hW hxe hlt0
        go_wp2_with fail
        refine HN.out.mono ?_
        rintro e w4 ⟨rfl, h4, g4⟩
        have HU4 := Lib.hid (HU.out.gt g4)
        have H4 := Lib.hid h4
        have hsz := h4.bel.size
        clear HN h4 g4 HU HG
        go_wp2_with (first
          | (at_builtin; refine wpList_append_own _ rfl _ _ 33 rfl w.heap.size 3 i0 _ 1 8 Try.underlying33 hi0 hz0 hzz1 hz2 rfl (by decide) _ _ _ rfl (HU4.out.own.alloc _) ⟨w4.heap.size, 0, none⟩ 1 1 [.int .i64 x] rfl rfl (cell_one_new _ _ _) (by simp [Value.oneCell']) (by unfold maxLen; simp; omega) (by simp; omega) (by simp; omega) ?_; intro v' w5 hown' hgrow _; have HO := Lib.hid hown'; have HG3 := Lib.hid hgrow; clear hown' hgrow))
        have hv5 := NewZ.snoc HO.out
        rw [← HST.out] at hv5
        have HU5 := Lib.hid hv5
        have H5 := Lib.hid ((H4.out.alloc (.cells #[.int .i64 x] 3)).grown (HU4.out.alloc (.cells #[.int .i64 x] 3)) HG3.out)
        clear HO HG3 hv5 HU4 H4 HST hsz
        go_loopw [51] (fun i wj => ∃ j : Nat, j ≤ m ∧ i = .int .i64 j ∧ Hid (NewZ w.heap.size wj v' (O.take (k + 1))) ∧ Hid (Gl w wj b (GY.at_ (GM.adds O (GM.tg (es.take j) x)) (k + 1)))) (fun i _ => m - (intOf i).toNat)
        case atStart => exact ⟨0, Nat.zero_le _, rfl, HU5, H5⟩
        case round =>
          obtain ⟨j, hj, rfl, HUj, HGj⟩ := hrel
          by_cases hlt : j < m
          · obtain ⟨r, off, rfl, hb, c0, c1⟩ := HE.out.at_ hlt
            have d0 := (HGj.out.bel.cell (p := ⟨r, _, none⟩) hb).trans c0
            have d1 := (HGj.out.bel.cell (p := ⟨r, _, none⟩) hb).trans c1
            have hst := GM.adds_tg_take (o := O) (es := es) (i := j) (by omega) x
            have hei := HEI.out _ (List.getElem_mem (l := es) (n := j) (by omega))
            have hfe : (GM.adds O (GM.tg (es.take j) x)).length ≤ 120 := by
              obtain ⟨s, hs, _⟩ := GM.adds_ext (GM.tg (es.drop j) x) (GM.adds O (GM.tg (es.take j) x))
              have e : GM.adds O (GM.tg es x) = GM.adds (GM.adds O (GM.tg (es.take j) x)) (GM.tg (es.drop j) x) := by rw [← GM.adds_append, ← GM.tg_append, List.take_append_drop]
              rw [← HW.out] at e
              have h1 := HWK.out
              rw [e, hs, List.length_append] at h1
              omega
            obtain ⟨s, hs, _⟩ := GM.adds_ext (GM.tg (es.take j) x) O
            have hle2 : k + 1 ≤ (GM.adds O (GM.tg (es.take j) x)).length := by rw [hs, List.length_append]; omega
            obtain ⟨e, he⟩ : ∃ e, e = es[j]'(by omega) := ⟨_, rfl⟩
            obtain ⟨f, t⟩ := e
            rw [← he] at d0 d1 hst hei
            obtain ⟨L, hL⟩ : ∃ L, L = GM.adds O (GM.tg (es.take j) x) := ⟨_, rfl⟩
            rw [← hL] at hst HGj hfe hle2
            clear c0 c1 he hL hs
            have HUa := Lib.hid (HUj.out.alloc (.cells #[.int .i64 f, .int .i64 t] 48))
            have HGa := Lib.hid (HGj.out.alloc (.cells #[.int .i64 f, .int .i64 t] 48))
            by_cases hfx : f = x
            · rw [if_pos hfx] at hst
              subst hfx
              have hP := lput_one (x := t) HGa.out hei.2 (by rw [GY.at_num]; omega)
              rw [show GY.put (GY.at_ L (k + 1)) t = GY.at_ (GM.add L t) (k + 1) from GY.at_puts (xs := [t]) hle2, ← hst, World.size_alloc] at hP
              have HP := Lib.hid hP
              clear hP hst hei hfe hle2 HUj HGj
              go_wp2_with fail
              refine HP.out.mono ?_
              rintro e w6 ⟨rfl, h6, g6⟩
              have H6 := Lib.hid h6
              have HU6 := Lib.hid (HUa.out.gt g6)
              clear HP h6 g6 HUa HGa
              go_wp2
              go_roundw
              case rel => exact ⟨j + 1, by omega, by go_num, HU6, H6⟩
              case measure => simp [intOf]; omega
            · rw [if_neg hfx] at hst
              rw [← hst] at HGa
              clear hst hei hfe hle2 HUj HGj
              go_wp2
              go_roundw
              case rel => exact ⟨j + 1, by omega, by go_num, HUa, HGa⟩
              case measure => simp [intOf]; omega
          · obtain rfl : j = m := by omega
            have hg := HGj.out
            rw [List.take_of_length_le (by omega), ← HW.out] at hg
            have hu := HUj.out
            obtain ⟨s, hs, _⟩ := GM.adds_ext (GM.tg es x) O
            have e : (GM.walk es xs (k + 1)).take (k + 1) = O.take (k + 1) := by rw [HW.out, hs, List.take_append_of_le_length (by omega)]
            have e2 : k + 1 ≤ (GM.walk es xs (k + 1)).length := by rw [HW.out, hs, List.length_append]; omega
            rw [← e] at hu
            have HG6 := Lib.hid hg
            have HU6 := Lib.hid hu
            have HE2 := Lib.hid e2
            clear hg hu e hs HGj HUj e2
            go_wp2
            go_roundw
            case rel => exact ⟨k + 1, HE2.out, by go_num, HU6, HG6⟩
            case measure => simp [intOf]; omega
      · have hO2 : O.length ≤ k := hend
        have hne := GY.at_nil hO2
        have hN := lnext_any HG.out (by rw [GY.at_num]; omega)
        rw [GY.hd_nil hne, GY.next_nil hne, hne, decide_eq_false (show ¬ (([] : List Int) ≠ []) by simp)] at hN
        have HN := Lib.hid hN
        have hto : O.take k = GM.ord es xs := by
          rw [List.take_of_length_le hO2, hO]
          exact (GM.ord_end (by rw [← hO]; exact hO2)).symm
        rw [hto] at HU hlt0
        clear hN hne hto hO hO2 hend hk hkl
        go_wp2_with fail
        refine HN.out.mono ?_
        rintro e w4 ⟨rfl, h4, g4⟩
        have HU4 := Lib.hid (HU.out.gt g4)
        have HB4 := Lib.hid h4.bel
        have HR := Lib.hid (rorder_any (c := c) (d := d) (HZ.out.below h4.bel) (HE.out.below h4.bel) (by omega) (by omega))
        clear HN h4 g4 HU HG
        go_wp2_with fail
        refine HR.out.mono ?_
        rintro e w5 ⟨v, rfl, hv, hb5⟩
        obtain ⟨A5, n5, c5, rfl, hn5, hz5⟩ := hv.op
        have hs := same_any (c := c3) (d := c5) (HU4.out.below hb5).zs hz5 (by omega)
        have HS := Lib.hid hs
        have HB5 := Lib.hid (HB4.out.trans (hb5.mono HB4.out.size))
        clear hs hv hz5 hb5 HR
        go_wp2_with fail
        refine HS.out.mono ?_
        rintro e w6 ⟨rfl, q, rfl⟩
        go_wp2
        go_ret
        exact ⟨rfl, bdrewN HB5.out q⟩
end Go.Proofs.Ytomjaieplpjcpaa
