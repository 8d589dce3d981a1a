/- The law GraphGrows. -/
import Derived.Test.YtmmclccghlmfmaaGrApp
import Derived.Test.YtmmclccghlmfmaaGrLost
import Derived.IntWalk
namespace Go.Proofs.Ytmmclccghlmfmaa
open Go.RowKit Go.Lib Go.Sort Go.Maps
set_option linter.unusedVariables false

theorem EI.app {es fs : List (Int × Int)} (h : EI es) (k : EI fs) : EI (es ++ fs) := fun e he => (List.mem_append.1 he).elim (h e) (k e)

set_option maxHeartbeats 4000000 in
set_option maxRecDepth 100000 in
theorem grows_walk (A : Option Addr) (n c : Nat) (xs : List Int) (B : Option Addr) (m d : Nat) (es : List (Int × Int)) (C : Option Addr) (t z : Nat) (fs : List (Int × Int)) (w : World) (hz : ZS w A n xs ∧ ZI xs ∧ n ≤ c) (he : ES w B m es ∧ EI es ∧ m ≤ d) (hf : ES w C t fs ∧ EI fs ∧ t ≤ z) :
    Calls Try.prog 7 #[.slice A n c, .slice B m d, .slice C t z] w fun e w' => e = .returned (.bool true) ∧ Below w.heap.size w w' := by
  obtain ⟨hz1, hzi, hnc⟩ := hz
  obtain ⟨he1, hei, hmd⟩ := he
  obtain ⟨hf1, hfi, htz⟩ := hf
  have hlx := hz1.len
  have hle := he1.len
  have hlf := hf1.len
  have HZ := Lib.hid hz1
  have HZI := Lib.hid hzi
  have HE := Lib.hid he1
  have HF := Lib.hid hf1
  have HEI := Lib.hid hei
  have HFI := Lib.hid (hei.app hfi)
  clear hz1 hzi he1 hei hf1 hfi
  go_enter Try.func7, Try.ntmps7
  go_wp2_with fail
  refine (alive_any _).mono ?_
  rintro e w1 ⟨rfl, hb1⟩
  have B1 := Lib.hid hb1
  clear hb1
  go_wp2_with fail
  refine (great3 w1 n m t).mono ?_
  rintro e w2 ⟨rfl, rfl⟩
  have hb2 := (Below.refl w1.heap.size w1).alloc (Nat.le_refl _) (.cells #[.int .i64 n, .int .i64 m, .int .i64 t] 3)
  obtain ⟨w2, hw2⟩ : ∃ w2, w2 = w1.alloc (.cells #[.int .i64 n, .int .i64 m, .int .i64 t] 3) := ⟨_, rfl⟩
  rw [← hw2] at hb2 ⊢
  have B2 := Lib.hid (B1.out.trans (hb2.mono B1.out.size))
  clear B1 hb2 hw2
  by_cases hgr : 80 < n ∨ 80 < m ∨ 80 < t
  · have hg : decide (80 < n ∨ 80 < m ∨ 80 < t) = true := decide_eq_true hgr
    rw [hg]
    clear hgr hg
    go_wp2_with fail
    refine (alive_any _).mono ?_
    rintro e w3 ⟨rfl, hb3⟩
    go_wp2
    go_ret
    exact ⟨rfl, B2.out.trans (hb3.mono B2.out.size)⟩
  · have hg : decide (80 < n ∨ 80 < m ∨ 80 < t) = false := decide_eq_false hgr
    rw [hg]
    have ht : t ≤ 80 := by omega
    have hn : n ≤ 80 := by omega
    have hm : m ≤ 80 := by omega
    clear hgr hg
    have HR := Lib.hid (reach_any (c := c) (d := d) (HZ.out.below B2.out) (HE.out.below B2.out) HZI.out HEI.out (by omega) (by omega))
    go_wp2_with fail
    refine HR.out.mono ?_
    rintro e w3 ⟨v, rfl, hv, hb3⟩
    obtain ⟨R, hR⟩ : ∃ R, R = GM.rch es xs := ⟨_, rfl⟩
    rw [← hR] at hv
    obtain ⟨A3, c3, rfl, hc3⟩ := hv.slice
    have hrl : R.length ≤ 160 := by have := GM.rch_len es xs; rw [hR]; omega
    obtain ⟨r, hr⟩ : ∃ r, r = R.length := ⟨_, rfl⟩
    have hv' := hv.zs
    rw [← hr] at hv' hrl hc3 ⊢
    have HV3 := Lib.hid hv'
    have HRE := Lib.hid hR
    have B3 := Lib.hid (B2.out.trans (hb3.mono B2.out.size))
    have hba := (Below.refl w3.heap.size w3).alloc (Nat.le_refl _) (.cells #[] 37)
    have HBA := Lib.hid hba
    have HE3 := Lib.hid (HE.out.below (B3.out.trans (hba.mono B3.out.size)))
    have HE0 := Lib.hid (NewE.empty w3)
    clear hv hv' hR hr hb3 HR B2 hba
    go_wp2_with (first
      | (at_builtin; refine wpList_append_es rfl _ _ rfl w3.heap.size es fs v1 C t z rfl rfl HR1.out HF4.out (by omega) B4.out.size ?_; intro v2 w5 hr2 hg2; have HR2 := Lib.hid hr2; have B5 := Lib.hid (B4.out.grown hg2 B4.out.size (fun g hg => (HR1.out.own.lt g hg).1)); clear hr2 hg2; obtain ⟨A5, c5, e5, hc5⟩ := HR2.out.slice; obtain ⟨q, hq⟩ : ∃ q, q = (es ++ fs).length := ⟨_, rfl⟩; rw [← hq] at e5 hc5; subst e5; have hqq : q ≤ 160 := (by rw [hq, List.length_append]; omega); have hes := HR2.out.es; have HR3 := Lib.hid (reach_any (c := c) (d := c5) (HZ.out.below (B3.out.trans (B5.out.mono B3.out.size))) hes HZI.out HFI.out (by omega) (by omega)); clear hq hes)
      | (at_builtin; refine wpList_append_es rfl _ _ rfl w3.heap.size [] es (.slice (some ⟨w3.heap.size, 0, none⟩) 0 0) B m d rfl rfl HE0.out HE3.out (by simp; omega) (by simp) ?_; intro v1 w4 hr1 hg1; rw [List.nil_append] at hr1; have HR1 := Lib.hid hr1; have B4 := Lib.hid (HBA.out.grown hg1 (by simp) (fun g hg => (HE0.out.own.lt g hg).1)); have HF4 := Lib.hid (HF.out.below (B3.out.trans (B4.out.mono B3.out.size))); clear hr1 hg1))
    refine HR3.out.mono ?_
    rintro e w6 ⟨v, rfl, hv, hb6⟩
    have B6 := Lib.hid (B5.out.trans (hb6.mono B5.out.size))
    obtain ⟨S, hS⟩ : ∃ S, S = GM.rch (es ++ fs) xs := ⟨_, rfl⟩
    rw [← hS] at hv
    obtain ⟨A6, c6, rfl, hc6⟩ := hv.slice
    have hsl : S.length ≤ 240 := by have := GM.rch_len (es ++ fs) xs; rw [List.length_append] at this; rw [hS]; omega
    obtain ⟨s, hs⟩ : ∃ s, s = S.length := ⟨_, rfl⟩
    have hv' := hv.zs
    rw [← hs] at hv' hsl hc6 ⊢
    have HV6 := Lib.hid hv'
    have HR6 := Lib.hid (HV3.out.below B6.out)
    have HSE := Lib.hid hS
    have HRI := Lib.hid (show BG.Rises S by rw [hS]; exact GM.rch_rises _ _)
    have HF6 := Lib.hid (HF.out.below (B3.out.trans (B6.out.mono B3.out.size)))
    have HSUB := Lib.hid (show ∀ x ∈ R, x ∈ S by
      intro x hx
      rw [HRE.out] at hx
      rw [hS]
      exact GM.mem_rch.2 (GM.ord_grows (fun _ h => h) (fun _ _ h => List.mem_append.2 (.inl h)) x (GM.mem_rch.1 hx)))
    clear hv hv' hS hs hb6 B4 B5 HR1 HR2 HR3 HE0 HBA HE3 HF4 hc5
    have HH := Lib.hid (fun (W : World) (hb : Below w6.heap.size w6 W) (y : Int) => has_any (c := c6) (HV6.out.below hb) (by omega) y)
    have HK := Lib.hid (fun (W : World) (hb : Below w6.heap.size w6 W) (y : Int) => has_any (c := c3) (HR6.out.below hb) (by omega) y)
    go_wp2_with fail
    go_loop [39] (fun i => ∃ k : Nat, k ≤ r ∧ i = .int .i64 k) (fun i => r - (intOf i).toNat)
    case atStart => exact ⟨0, Nat.zero_le _, rfl⟩
    case round =>
      obtain ⟨k, hk, rfl⟩ := hrel
      by_cases hlt : k < r
      · have hlR := HR6.out.len
        obtain ⟨x, hx⟩ : ∃ x, R[k]? = some x := ⟨_, List.getElem?_eq_getElem (by omega)⟩
        obtain ⟨b, off, rfl, hb, _, c0⟩ := HR6.out.get hx
        have hh := HH.out w6 (Below.refl _ _) x
        rw [decide_eq_true (HSUB.out x (List.mem_of_getElem? hx))] at hh
        have H1 := Lib.hid hh
        clear hx hh hlR
        go_wp2_with fail
        refine H1.out.mono ?_
        rintro e w7 ⟨rfl, rfl⟩
        go_wp2
        go_round
        case rel => exact ⟨k + 1, by omega, by go_num⟩
        case measure => simp [intOf]; omega
      · obtain rfl : k = r := by omega
        go_wp2_with fail
        go_loopw [50] (fun i wr => ∃ k : Nat, k ≤ t ∧ i = .int .i64 k ∧ Hid (Below w6.heap.size w6 wr)) (fun i _ => t - (intOf i).toNat)
        case atStart => exact ⟨0, Nat.zero_le _, rfl, Lib.hid (Below.refl _ _)⟩
        case round =>
          obtain ⟨j, hj, rfl, HB⟩ := hrel
          by_cases hlt : j < t
          · obtain ⟨b, off, rfl, hb, c0, c1⟩ := HF6.out.at_ hlt
            have d0 := (HB.out.cell (p := ⟨b, _, none⟩) hb).trans c0
            have d1 := (HB.out.cell (p := ⟨b, _, none⟩) hb).trans c1
            have hmem : fs[j]'(by omega) ∈ fs := List.getElem_mem _
            obtain ⟨e, he⟩ : ∃ e, e = fs[j]'(by omega) := ⟨_, rfl⟩
            obtain ⟨f, u⟩ := e
            rw [← he] at d0 d1 hmem
            have hba := HB.out.alloc HB.out.size (.cells #[.int .i64 f, .int .i64 u] 37)
            have h1 := HK.out _ hba f
            have h2 := HH.out _ hba u
            by_cases hf : f ∈ R
            · have hu : u ∈ S := by
                have h3 := HSUB.out f hf
                rw [HSE.out] at h3 ⊢
                exact GM.mem_rch.2 (GM.ord_edge (GM.mem_rch.1 h3) (List.mem_append.2 (.inr hmem)))
              rw [decide_eq_true hf] at h1
              rw [decide_eq_true hu] at h2
              have H1 := Lib.hid h1
              have H2 := Lib.hid h2
              have HBA := Lib.hid hba
              clear c0 c1 he hf hu h1 h2 hmem hba
              go_wp2_with fail
              refine H1.out.mono ?_
              rintro e w7 ⟨rfl, rfl⟩
              go_wp2_with fail
              refine H2.out.mono ?_
              rintro e w7 ⟨rfl, rfl⟩
              go_wp2
              go_roundw
              case rel => exact ⟨j + 1, by omega, by go_num, HBA⟩
              case measure => simp [intOf]; omega
            · rw [decide_eq_false hf] at h1
              have H1 := Lib.hid h1
              have HBA := Lib.hid hba
              clear c0 c1 he hf h1 h2 hmem hba
              go_wp2_with fail
              refine H1.out.mono ?_
              rintro e w7 ⟨rfl, rfl⟩
              go_wp2
              go_roundw
              case rel => exact ⟨j + 1, by omega, by go_num, HBA⟩
              case measure => simp [intOf]; omega
          · obtain rfl : j = t := by omega
            have HV7 := Lib.hid (HV6.out.below HB.out)
            go_wp2_with fail
            go_loopw [13] (fun i wq => ∃ k : Nat, k ≤ s ∧ i = .int .i64 ((k : Int) + 1) ∧ ∃ q, wq = wr.drewN q) (fun i _ => s + 1 - (intOf i).toNat)
            case atStart => exact ⟨0, Nat.zero_le _, rfl, 0, rfl⟩
            case round =>
              obtain ⟨k, hk, rfl, q2, rfl⟩ := hrel
              by_cases hlt : k + 1 < s
              · have hlS := HV7.out.len
                obtain ⟨x, hx⟩ : ∃ x, S[k]? = some x := ⟨_, List.getElem?_eq_getElem (by omega)⟩
                obtain ⟨y, hy⟩ : ∃ y, S[k + 1]? = some y := ⟨_, List.getElem?_eq_getElem (by omega)⟩
                have hxy : x < y := rises_at HRI.out hx hy
                obtain ⟨b, off, e0, hb, _, c0⟩ := HV7.out.get hx
                obtain ⟨b', off', e1, hb', _, c1⟩ := HV7.out.get hy
                rw [e0] at e1
                injection e1 with e1
                injection e1 with e1 e2
                subst e1 e2
                subst e0
                have c2 : (wr.drewN q2).cell? ⟨b, off + k, none⟩ = some (.int .i64 x) := c0
                have c3 : (wr.drewN q2).cell? ⟨b, off + (k + 1), none⟩ = some (.int .i64 y) := c1
                have hk0 : (0 : Int) ≤ (k : Int) := by omega
                have hk1 : (k : Int) + 1 < ((s : Nat) : Int) := by omega
                have hk2 : (k : Int) < ((s : Nat) : Int) := by omega
                clear hx hy hlS
                have hwr : IntKind.i64.wrap (k : Int) = (k : Int) := IntWalk.i64_in _ (by omega)
                go_wp2_with fail
                go_quiet (fail)
                clear hwr
                go_wp2
                go_roundw
                case rel => exact ⟨k + 1, by omega, by go_num, _, rfl⟩
                case measure => simp [intOf]; omega
              · go_wp2
                go_ret
                exact ⟨rfl, B3.out.trans ((B6.out.trans ((bdrewN HB.out _).mono B6.out.size)).mono B3.out.size)⟩
end Go.Proofs.Ytmmclccghlmfmaa
