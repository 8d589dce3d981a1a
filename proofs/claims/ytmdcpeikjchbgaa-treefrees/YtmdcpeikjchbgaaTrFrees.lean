/- The law TreeFrees: what is freed is what was under it; others stay. -/
import Derived.Test.YtmdcpeikjchbgaaTrWays
namespace Go.Proofs.Ytmdcpeikjchbgaa
open Go.RowKit Go.Maps
namespace TR
def parN (f : F) (i : Nat) : Nat := match f i with | some p => p | none => 0
theorem parI_nat (f : F) (i : Nat) : parI f (i : Int) = (parN f i : Int) := by
  unfold parN
  cases h : f i with
  | none => rw [parI_no (by rw [liveI_nat]; exact live_not.2 h)]; rfl
  | some p => rw [parI_ok h]
theorem parN_le {n : Nat} {f : F} (h : Good n f) (i : Nat) : parN f i ≤ n := by
  unfold parN
  cases e : f i with
  | none => exact Nat.zero_le _
  | some p => have := h.le i p e; show p ≤ n; omega
def pars (f : F) (k : Nat) : List Nat := (List.range k).map (parN f)
theorem pars_len (f : F) (k : Nat) : (pars f k).length = k := by simp [pars]
theorem pars_snoc (f : F) (k : Nat) : pars f (k + 1) = pars f k ++ [parN f k] := by simp [pars, List.range_succ]
theorem pars_at (f : F) {k i : Nat} (h : i < (pars f k).length) : (pars f k)[i] = parN f i := by simp [pars]
theorem frees_len (n : Nat) (f : F) (x : Int) : (all n (freeS n f x)).length + (underI n f x).length = (all n f).length := by
  unfold freeS underI
  cases h : liveI f x
  · simp
  · simpa using free_all (n := n) (f := f) x.toNat
theorem frees_dead (n : Nat) (f : F) (x : Int) : ∀ y ∈ underI n f x, liveI (freeS n f x) (y : Int) = false := by
  intro y hy
  cases h : liveI f x
  · rw [underI_no h] at hy; cases hy
  · unfold underI at hy
    rw [h, if_pos rfl] at hy
    unfold freeS
    rw [h, if_pos rfl, liveI_nat]
    refine live_not.2 ?_
    unfold freeF
    rw [if_pos hy]
theorem frees_of {n : Nat} {f : F} {x : Int} {i p : Nat} (h : freeS n f x i = some p) : f i = some p := by
  unfold freeS at h
  split at h
  · exact (free_of h).1
  · exact h
theorem frees_keep {n : Nat} {f : F} {x : Int} {i : Nat} (h : live (freeS n f x) i = true) : parI (freeS n f x) (i : Int) = (parN f i : Int) := by
  obtain ⟨p, hp⟩ := live_iff.1 h
  rw [parI_ok hp, ← parI_nat, parI_ok (frees_of hp)]
theorem frees_again {n : Nat} {f : F} (hg : Good n f) (x : Int) : liveI (freeS n f x) x = false := by
  cases h : liveI f x
  · unfold freeS
    rw [h]
    exact h
  · obtain ⟨i, p, rfl, hp⟩ := liveI_iff.1 h
    have hl := hg.le i p hp
    refine frees_dead n f i i ?_
    rw [underI_ok hp]
    exact mem_under.2 ⟨hl.2.1, live_iff.2 ⟨p, hp⟩, below_self (by omega)⟩
theorem underI_len (n : Nat) (f : F) (x : Int) : (underI n f x).length ≤ n + 1 := by
  unfold underI
  split
  · exact under_len_le n f _
  · simp
theorem underI_le (n : Nat) (f : F) (x : Int) : ∀ y ∈ underI n f x, y ≤ n := by
  intro y hy
  unfold underI at hy
  split at hy
  · exact (mem_under.1 hy).1
  · cases hy
theorem liveErr_zero (f : F) (x : Int) : (liveErr f x == 0) = liveI f x := by
  cases h : liveI f x
  · rw [liveErr_no h]; rfl
  · rw [liveErr_ok h]; rfl
end TR

set_option maxRecDepth 100000 in
set_option maxHeartbeats 4000000 in
theorem frees_walk (A : Option Addr) (n0 c : Nat) (ls : List (Int × Int)) (z : Int) (w : World) (hl : AcS w w.heap.size A n0 ls) (_hz : I64 z) :
    Calls Try.prog 5 #[.slice A n0 c, .int .i64 z] w fun e w' => e = .returned (.bool true) ∧ Below w.heap.size w w' := by
  obtain ⟨i0, hi, hz0, hz1, hz2⟩ := info_parts trInfo
  have HG := Lib.hid (tgrown_any A n0 c ls w hl)
  clear hl
  go_enter Try.func5, Try.ntmps5
  go_wp2_with fail
  refine HG.out.mono ?_
  rintro e w1 (⟨h120, rfl, hb⟩ | ⟨h120, b, m, n, f, rfl, ht, hn⟩)
  · have d : (120 : Int) < (n0 : Int) := by omega
    have HB := Lib.hid hb
    have HA := Lib.hid (talive_any w1)
    clear hb HG
    go_wp2_with fail
    refine HA.out.mono ?_
    rintro e w2 ⟨rfl, hb2⟩
    have HB2 := Lib.hid (HB.out.trans (hb2.mono HB.out.size))
    have HA2 := Lib.hid (talive_any w2)
    clear hb2 HA HB
    go_wp2_with fail
    refine HA2.out.mono ?_
    rintro e w3 ⟨rfl, hb3⟩
    have HB3 := Lib.hid (HB2.out.trans (hb3.mono HB2.out.size))
    clear hb3 HA2 HB2
    go_wp2
    go_ret
    exact ⟨rfl, HB3.out⟩
  · have HT := Lib.hid ht
    have HA := Lib.hid (talive_any w1)
    clear ht HG
    go_wp2_with fail
    refine HA.out.mono ?_
    rintro e w2 ⟨rfl, hb2⟩
    have HT2 := Lib.hid (HT.out.later hb2)
    clear hb2 HA HT
    go_upto_region 4 with (fail)
    go_cut [1] (fun s wc => IdV n s ∧ w2 = wc)
    case first =>
      by_cases h0 : n = 0
      · subst h0
        go_wp2
        go_meet
        exact ⟨idV z 0 (by omega), rfl⟩
      · go_wp2
        go_meet
        exact ⟨idV z n (by omega), rfl⟩
    case rest =>
      obtain ⟨⟨x, rfl, hx1, hx2⟩, rfl⟩ := hcut
      have HX := Lib.hid (show I64 (x : Int) from I64.nat (by omega))
      have HU := tunder_any HT2.out.at_ (x : Int) HX.out
      obtain ⟨U, hU⟩ : ∃ U, U = TR.underI n f (x : Int) := ⟨_, rfl⟩
      have hlen := TR.underI_len n f (x : Int)
      have hule := TR.underI_le n f (x : Int)
      have hdead := TR.frees_dead n f (x : Int)
      have hfl := TR.frees_len n f (x : Int)
      have hag := TR.frees_again HT2.out.at_.good (x : Int)
      have hke : ∀ i, TR.live (TR.freeS n f (x : Int)) i = true → TR.parI (TR.freeS n f (x : Int)) (i : Int) = (TR.parN f i : Int) := fun i h => TR.frees_keep h
      have hz := TR.liveErr_zero f (x : Int)
      have HF1 : ∀ W, TrAt W b m n f → Calls Try.prog 13 #[.pointer (some ⟨b, 0, none⟩), .int .i64 (x : Int)] W (FrE b m n (TR.freeS n f (x : Int)) (TR.underI n f (x : Int)) (TR.liveErr f (x : Int)) W) := fun W h => tfree_any h _ HX.out
      have HL1 : ∀ W, TrAt W b m n f → Calls Try.prog 17 #[.pointer (some ⟨b, 0, none⟩), .int .i64 (x : Int)] W fun e w' => e = .returned (.bool (TR.liveI f (x : Int))) ∧ W = w' := fun W h => tlive_any h _ HX.out
      rw [← hU] at HU hlen hule hdead hfl HF1
      have HUU := Lib.hid HU
      have HLE := Lib.hid hule
      have HDE := Lib.hid hdead
      have HFL := Lib.hid hfl
      have HAG := Lib.hid hag
      have HKE := Lib.hid hke
      have HZ := Lib.hid hz
      have HF1' := Lib.hid HF1
      have HL1' := Lib.hid HL1
      clear HU hule hdead hfl hag hke hz HF1 HL1 hU
      generalize TR.freeS n f (x : Int) = f2 at *
      generalize TR.liveErr f (x : Int) = er at *
      generalize TR.liveI f (x : Int) = was at *
      go_wp2_with fail
      refine HUU.out.mono ?_
      rintro e w3 ⟨v, rfl, hv, hb3⟩
      have HT3 := Lib.hid (HT2.out.later hb3)
      obtain ⟨A3, c3, rfl, _⟩ := hv.slice
      have HV3 := Lib.hid hv
      clear hv hb3 HUU HT2
      go_wp2_with fail
      go_loopw [9, 10] (fun u i wr => ∃ k : Nat, k ≤ n + 1 ∧ i = .int .i64 k ∧ NewR w3.heap.size wr u (TR.pars f k) ∧ Below w3.heap.size w3 wr) (fun _ i _ => n + 1 - (intOf i).toNat)
      case atStart => exact ⟨0, Nat.zero_le _, rfl, NewR.nil _ _, Below.refl _ _⟩
      case round =>
        obtain ⟨k, hk, rfl, hu, hbw⟩ := hrel
        have hs := hbw.size
        by_cases hlt : k ≤ n
        · have HP := tparent_any (HT3.out.later hbw).at_ (k : Int) (I64.nat (by omega))
          rw [TR.parI_nat] at HP
          have HP' := Lib.hid HP
          have HS := Lib.hid (TR.pars_snoc f k)
          have HLN := TR.pars_len f k
          clear HP
          generalize TR.parN f k = y at *
          generalize TR.liveErr f (k : Int) = e9 at *
          generalize TR.pars f k = L at *
          subst HLN
          have HO := Lib.hid hu.own
          have HUB := Lib.hid hu.lt
          clear hu
          go_wp2_with fail
          refine HP'.out.mono ?_
          rintro e w4 ⟨rfl, rfl⟩
          go_wp2_with (first
            | (at_builtin; refine wpList_append_own _ rfl _ _ 27 rfl w3.heap.size 3 i0 _ 1 8 Try.underlying27 hi hz0 hz1 hz2 rfl (by decide) _ _ _ rfl (HO.out.alloc _) ⟨wr.heap.size, 0, none⟩ 1 1 [.int .i64 (y : Nat)] rfl rfl (cell_one_new _ _ _) (by simp [Value.oneCell']) (by unfold maxLen; omega) (by omega) (by simp; omega) ?_; intro v' w2 hown' hgrow _; have HO2 := Lib.hid hown'; have HG := Lib.hid hgrow; clear hown' hgrow))
          go_roundw
          case rel => exact ⟨L.length + 1, by omega, by go_num, by rw [HS.out]; exact NewR.snoc HO2.out, (hbw.alloc hs _).grown HG.out (by simp; omega) (fun g hg => (HUB.out g hg).1)⟩
          case measure => simp [intOf]; omega
        · obtain rfl : k = n + 1 := by omega
          have HT4 := Lib.hid (HT3.out.later hbw)
          have HV4 := Lib.hid (HV3.out.below hbw)
          have hpl := TR.pars_len f (n + 1)
          have HPA := Lib.hid (fun (i : Nat) (h : i < (TR.pars f (n + 1)).length) => TR.pars_at f h)
          obtain ⟨L, hL⟩ : ∃ L, L = TR.pars f (n + 1) := ⟨_, rfl⟩
          rw [← hL] at hu hpl
          have HPL := Lib.hid hpl
          have HLL := Lib.hid hL
          obtain ⟨A4, c4, rfl, _⟩ := hu.slice
          have HW4 := Lib.hid hu
          have HL4 := Lib.hid (HL1'.out _ HT4.out.at_)
          have HN4 := Lib.hid (tlen_any HT4.out.at_)
          have HF4 := Lib.hid (HF1'.out _ HT4.out.at_)
          clear hu hpl hL hbw HT3 HV3 HL1' HF1'
          go_wp2_with fail
          refine HL4.out.mono ?_
          rintro e w4 ⟨rfl, rfl⟩
          go_wp2_with fail
          refine HN4.out.mono ?_
          rintro e w4 ⟨rfl, rfl⟩
          go_wp2_with fail
          refine HF4.out.mono ?_
          rintro e w5 ⟨v5, rfl, hv5, ht5, ha5⟩
          have HT5 := Lib.hid (HT4.out.step ht5 ha5)
          have HV5 := Lib.hid (HV4.out.tree HT4.out.at_ ha5)
          have HW5 := Lib.hid (HW4.out.tree HT4.out.at_ ha5)
          obtain ⟨A5, c5, rfl, _⟩ := hv5.slice
          have HSM := Lib.hid (trSame _ _ U w5 (by omega) hv5 HV5.out)
          clear hv5 ht5 ha5 HT4 HV4 HW4 HF4 HN4 HL4
          go_wp2_with fail
          refine HSM.out.mono ?_
          rintro e w6 ⟨rfl, q, rfl⟩
          have HT6 := Lib.hid (HT5.out.drewN q)
          have HV6 := Lib.hid (HV5.out.below (below_drewN (Below.refl _ _) q))
          have HW6 := Lib.hid (HW5.out.below (below_drewN (Below.refl _ _) q))
          have HN6 := Lib.hid (tlen_any HT6.out.at_)
          have hzz := HZ.out
          have hfl := HFL.out
          have hal := TR.all_len n f
          generalize (TR.all n f2).length = N2 at *
          generalize (TR.all n f).length = N1 at *
          have dl : ((N2 : Int) != (N1 : Int) - (U.length : Int)) = false := by simp; omega
          have hNU : U.length ≤ N1 := by omega
          clear hfl HFL
          go_wp2_with fail
          refine HN6.out.mono ?_
          rintro e w7 ⟨rfl, rfl⟩
          go_wp2_with fail
          clear dl hzz
          go_loop [105] (fun i => ∃ k : Nat, k ≤ U.length ∧ i = .int .i64 k) (fun i => U.length - (intOf i).toNat)
          case atStart => exact ⟨0, Nat.zero_le _, rfl⟩
          case round =>
            obtain ⟨k, hk, rfl⟩ := hrel
            by_cases hlt : k < U.length
            · obtain ⟨g, cap, e1', _, _, c1'⟩ := HV6.out.cell hlt
              injection e1' with e1' _ e1''
              subst e1' e1''
              have hdy := HDE.out U[k] (List.getElem_mem hlt)
              have hyn := HLE.out U[k] (List.getElem_mem hlt)
              obtain ⟨y, hy⟩ : ∃ y, U[k] = y := ⟨_, rfl⟩
              rw [hy] at c1' hdy hyn
              have HL := tlive_any HT6.out.at_ (y : Int) (I64.nat (by omega))
              rw [hdy] at HL
              have HL' := Lib.hid HL
              clear HL hdy hy
              go_wp2_with fail
              refine HL'.out.mono ?_
              rintro e w9 ⟨rfl, rfl⟩
              go_wp2
              go_round
              case rel => exact ⟨k + 1, by omega, by go_num⟩
              case measure => simp [intOf]; omega
            · obtain rfl : k = U.length := by omega
              go_wp2_with fail
              go_loop [19] (fun i => ∃ k : Nat, 1 ≤ k ∧ k ≤ n + 1 ∧ i = .int .i64 k) (fun i => n + 1 - (intOf i).toNat)
              case atStart => exact ⟨1, Nat.le_refl _, by omega, rfl⟩
              case round =>
                obtain ⟨k, hk1, hk, rfl⟩ := hrel
                by_cases hlt : k ≤ n
                · have HP := Lib.hid (tparent_any HT6.out.at_ (k : Int) (I64.nat (by omega)))
                  have HL := tlive_any HT6.out.at_ (k : Int) (I64.nat (by omega))
                  rw [TR.liveI_nat] at HL
                  cases hlk : TR.live f2 k
                  · rw [hlk] at HL
                    have HL' := Lib.hid HL
                    clear HL hlk
                    generalize TR.parI f2 (k : Int) = y at *
                    generalize TR.liveErr f2 (k : Int) = e9 at *
                    go_wp2_with fail
                    refine HP.out.mono ?_
                    rintro e w9 ⟨rfl, rfl⟩
                    go_wp2_with fail
                    refine HL'.out.mono ?_
                    rintro e w9 ⟨rfl, rfl⟩
                    go_wp2
                    go_round
                    case rel => exact ⟨k + 1, by omega, by omega, by go_num⟩
                    case measure => simp [intOf]; omega
                  · rw [hlk] at HL
                    have HL' := Lib.hid HL
                    rw [HKE.out k hlk, TR.liveErr_ok (by rw [TR.liveI_nat]; exact hlk)] at HP
                    have hkl : k < L.length := by have := HPL.out; omega
                    obtain ⟨g, cap, e1', _, _, c1'⟩ := HW6.out.cell hkl
                    injection e1' with e1' _ e1''
                    subst e1' e1''
                    have hpy : L[k] = TR.parN f k := by
                      have := HLL.out
                      subst this
                      exact HPA.out k hkl
                    rw [hpy] at c1'
                    clear HL hlk hpy
                    generalize TR.parN f k = y at *
                    go_wp2_with fail
                    refine HP.out.mono ?_
                    rintro e w9 ⟨rfl, rfl⟩
                    go_wp2_with fail
                    refine HL'.out.mono ?_
                    rintro e w9 ⟨rfl, rfl⟩
                    go_wp2
                    go_round
                    case rel => exact ⟨k + 1, by omega, by omega, by go_num⟩
                    case measure => simp [intOf]; omega
                · obtain rfl : k = n + 1 := by omega
                  have HF := tfree_any HT6.out.at_ (x : Int) HX.out
                  rw [TR.liveErr_no HAG.out] at HF
                  have HF' := Lib.hid HF
                  clear HF
                  generalize TR.freeS n f2 (x : Int) = f3 at *
                  go_wp2_with fail
                  refine HF'.out.mono ?_
                  rintro e w9 ⟨v9, rfl, hv9, ht9, ha9⟩
                  have HT9 := Lib.hid (HT6.out.step ht9 ha9)
                  clear hv9 ht9 ha9
                  go_wp2
                  go_ret
                  exact ⟨rfl, HT9.out.bel⟩
end Go.Proofs.Ytmdcpeikjchbgaa
