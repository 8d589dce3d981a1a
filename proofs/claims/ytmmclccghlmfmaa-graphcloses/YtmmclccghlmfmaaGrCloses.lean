/- The law GraphCloses. -/
import Derived.Test.YtmmclccghlmfmaaGrAlive
import Derived.Test.YtmmclccghlmfmaaGrLost
namespace Go.Proofs.Ytmmclccghlmfmaa
open Go.RowKit Go.Lib Go.Sort Go.Maps
set_option linter.unusedVariables false

namespace GM
/-- Why is one come to: a root, or an edge from one ahead. -/
def why (xs O : List Int) (i : Nat) (x : Int) (es : List (Int × Int)) : Bool := decide (x ∈ xs) || es.any fun e => decide (e.2 = x) && decide (e.1 ∈ O.take i)
theorem why_take {xs O : List Int} {i : Nat} {x : Int} {es : List (Int × Int)} {k : Nat} (h : k < es.length) : why xs O i x (es.take (k + 1)) = (why xs O i x (es.take k) || (decide (es[k].2 = x) && decide (es[k].1 ∈ O.take i))) := by
  unfold why
  rw [List.take_succ_eq_append_getElem h, List.any_append, Bool.or_assoc]
  simp
theorem why_ord {xs O : List Int} {i : Nat} {x : Int} {es : List (Int × Int)} (hO : O = ord es xs) (h : O[i]? = some x) : why xs O i x es = true := by
  unfold why
  subst hO
  rcases ord_why h with h1 | ⟨f, h1, h2⟩
  · rw [decide_eq_true h1]; rfl
  · rw [Bool.or_eq_true, List.any_eq_true]
    exact .inr ⟨(f, x), h1, by simp [h2]⟩
theorem not_ahead {O : List Int} {i : Nat} {x : Int} (hn : O.Nodup) (h : O[i]? = some x) : x ∉ O.take i := by
  intro hx
  obtain ⟨j, hj, e⟩ := List.getElem_of_mem hx
  rw [List.length_take] at hj
  rw [List.getElem_take] at e
  obtain ⟨hi, e2⟩ := List.getElem?_eq_some_iff.1 h
  have := (List.pairwise_iff_getElem.1 hn) j i (by omega) hi (by omega)
  exact this (by rw [e, e2])
end GM
/-- Two lengths in a block: are they great? -/
theorem great2 (W : World) (n m : Nat) : Calls Try.prog 10 #[.slice (some ⟨W.heap.size, 0, none⟩) 2 2] (W.alloc (.cells #[.int .i64 n, .int .i64 m] 3)) fun e w' => e = .returned (.bool (decide (80 < n ∨ 80 < m))) ∧ (W.alloc (.cells #[.int .i64 n, .int .i64 m] 3)) = w' := by
  have h := great_any (w := W.alloc (.cells #[.int .i64 n, .int .i64 m] 3)) (c := 2) (zs_block (xs := [(n : Int), (m : Int)]) (Whole.fresh W _ _) rfl rfl) (by simp)
  refine h.mono ?_
  rintro e w' ⟨rfl, hw⟩
  refine ⟨?_, hw⟩
  have : ([(n : Int), (m : Int)].any fun x => decide (80 < x)) = decide (80 < n ∨ 80 < m) := by
    rw [Bool.eq_iff_iff]
    simp
    omega
  rw [this]
theorem great3 (W : World) (n m k : Nat) : Calls Try.prog 10 #[.slice (some ⟨W.heap.size, 0, none⟩) 3 3] (W.alloc (.cells #[.int .i64 n, .int .i64 m, .int .i64 k] 3)) fun e w' => e = .returned (.bool (decide (80 < n ∨ 80 < m ∨ 80 < k))) ∧ (W.alloc (.cells #[.int .i64 n, .int .i64 m, .int .i64 k] 3)) = w' := by
  have h := great_any (w := W.alloc (.cells #[.int .i64 n, .int .i64 m, .int .i64 k] 3)) (c := 3) (zs_block (xs := [(n : Int), (m : Int), (k : Int)]) (Whole.fresh W _ _) rfl rfl) (by simp)
  refine h.mono ?_
  rintro e w' ⟨rfl, hw⟩
  refine ⟨?_, hw⟩
  have : ([(n : Int), (m : Int), (k : Int)].any fun x => decide (80 < x)) = decide (80 < n ∨ 80 < m ∨ 80 < k) := by
    rw [Bool.eq_iff_iff]
    simp
    omega
  rw [this]

set_option maxHeartbeats 4000000 in
set_option maxRecDepth 100000 in
theorem closes_walk (A : Option Addr) (n c : Nat) (xs : List Int) (B : Option Addr) (m d : Nat) (es : List (Int × Int)) (w : World) (hz : ZS w A n xs ∧ ZI xs ∧ n ≤ c) (he : ES w B m es ∧ EI es ∧ m ≤ d) :
    Calls Try.prog 4 #[.slice A n c, .slice B m d] w fun e w' => e = .returned (.bool true) ∧ Below w.heap.size w w' := by
  obtain ⟨hz1, hzi, hnc⟩ := hz
  obtain ⟨he1, hei, hmd⟩ := he
  have hlx := hz1.len
  have hle := he1.len
  have HZ := Lib.hid hz1
  have HZI := Lib.hid hzi
  have HE := Lib.hid he1
  have HEI := Lib.hid hei
  clear hz1 hzi he1 hei
  go_enter Try.func4, Try.ntmps4
  go_wp2_with fail
  refine (alive_any _).mono ?_
  rintro e w1 ⟨rfl, hb1⟩
  have B1 := Lib.hid hb1
  clear hb1
  go_wp2_with fail
  refine (great2 w1 n m).mono ?_
  rintro e w2 ⟨rfl, rfl⟩
  have hb2 := (Below.refl w1.heap.size w1).alloc (Nat.le_refl _) (.cells #[.int .i64 n, .int .i64 m] 3)
  obtain ⟨w2, hw2⟩ : ∃ w2, w2 = w1.alloc (.cells #[.int .i64 n, .int .i64 m] 3) := ⟨_, rfl⟩
  rw [← hw2] at hb2 ⊢
  have B2 := Lib.hid (B1.out.trans (hb2.mono B1.out.size))
  clear B1 hb2 hw2
  by_cases hgr : 80 < n ∨ 80 < m
  · have hg : decide (80 < n ∨ 80 < m) = true := decide_eq_true hgr
    rw [hg]
    clear hgr hg
    go_wp2_with fail
    refine (alive_any _).mono ?_
    rintro e w3 ⟨rfl, hb3⟩
    go_wp2
    go_ret
    exact ⟨rfl, B2.out.trans (hb3.mono B2.out.size)⟩
  · have hg : decide (80 < n ∨ 80 < m) = false := decide_eq_false hgr
    rw [hg]
    have hn : n ≤ 80 := by omega
    have hm : m ≤ 80 := by omega
    have HC := Lib.hid (order_any (c := c) (d := d) (HZ.out.below B2.out) (HE.out.below B2.out) HZI.out HEI.out (by omega) (by omega))
    clear hgr hg
    go_wp2_with fail
    refine HC.out.mono ?_
    rintro e w3 ⟨v, rfl, hv, hb3⟩
    obtain ⟨O, hO⟩ : ∃ O, O = GM.ord es xs := ⟨_, rfl⟩
    rw [← hO] at hv
    obtain ⟨A3, c3, rfl, hc3⟩ := hv.slice
    have hol : O.length ≤ 160 := by have := GM.ord_len es xs; rw [hO]; omega
    obtain ⟨o, ho⟩ : ∃ o, o = O.length := ⟨_, rfl⟩
    have hv' := hv.zs
    rw [← ho] at hv' hol hc3 ⊢
    have HV := Lib.hid hv'
    have HO := Lib.hid hO
    have B3 := Lib.hid (B2.out.trans (hb3.mono B2.out.size))
    have HZ3 := Lib.hid (HZ.out.below B3.out)
    have HE3 := Lib.hid (HE.out.below B3.out)
    clear hv hv' hO ho hb3 HC B2 HZ HE
    have HH := Lib.hid (fun (W : World) (hb : Below w3.heap.size w3 W) (y : Int) => has_any (c := c3) (HV.out.below hb) (by omega) y)
    go_wp2_with fail
    go_loop [31] (fun i => ∃ k : Nat, k ≤ n ∧ i = .int .i64 k) (fun i => n - (intOf i).toNat)
    case atStart => exact ⟨0, Nat.zero_le _, rfl⟩
    case round =>
      obtain ⟨k, hk, rfl⟩ := hrel
      by_cases hlt : k < n
      · obtain ⟨b, off, rfl, hb, c0⟩ := HZ3.out.at_ hlt
        obtain ⟨x, hx⟩ : ∃ x, x = xs[k]'(by omega) := ⟨_, rfl⟩
        rw [← hx] at c0
        have hin : x ∈ O := by rw [HO.out, hx]; exact GM.ord_root (List.getElem_mem _)
        have hh := HH.out w3 (Below.refl _ _) x
        rw [decide_eq_true hin] at hh
        have H1 := Lib.hid hh
        clear hx hin hh
        go_wp2_with fail
        refine H1.out.mono ?_
        rintro e w4 ⟨rfl, rfl⟩
        go_wp2
        go_round
        case rel => exact ⟨k + 1, by omega, by go_num⟩
        case measure => simp [intOf]; omega
      · obtain rfl : k = n := by omega
        go_wp2_with fail
        go_loopw [42] (fun i wr => ∃ k : Nat, k ≤ m ∧ i = .int .i64 k ∧ Hid (Below w3.heap.size w3 wr)) (fun i _ => m - (intOf i).toNat)
        case atStart => exact ⟨0, Nat.zero_le _, rfl, Lib.hid (Below.refl _ _)⟩
        case round =>
          obtain ⟨j, hj, rfl, HB⟩ := hrel
          by_cases hlt : j < m
          · obtain ⟨b, off, rfl, hb, c0, c1⟩ := HE3.out.at_ hlt
            have d0 := (HB.out.cell (p := ⟨b, _, none⟩) hb).trans c0
            have d1 := (HB.out.cell (p := ⟨b, _, none⟩) hb).trans c1
            have hmem : es[j]'(by omega) ∈ es := List.getElem_mem _
            obtain ⟨e, he⟩ : ∃ e, e = es[j]'(by omega) := ⟨_, rfl⟩
            obtain ⟨f, t⟩ := e
            rw [← he] at d0 d1 hmem
            have hba := HB.out.alloc HB.out.size (.cells #[.int .i64 f, .int .i64 t] 37)
            have h1 := HH.out _ hba f
            have h2 := HH.out _ hba t
            by_cases hf : f ∈ O
            · have ht : t ∈ O := by rw [HO.out] at hf ⊢; exact GM.ord_edge hf hmem
              rw [decide_eq_true hf] at h1
              rw [decide_eq_true ht] at h2
              have H1 := Lib.hid h1
              have H2 := Lib.hid h2
              have HBA := Lib.hid hba
              clear c0 c1 he hf ht h1 h2 hmem hba
              go_wp2_with fail
              refine H1.out.mono ?_
              rintro e w4 ⟨rfl, rfl⟩
              go_wp2_with fail
              refine H2.out.mono ?_
              rintro e w4 ⟨rfl, rfl⟩
              go_wp2
              go_roundw
              case rel => exact ⟨j + 1, by omega, by go_num, HBA⟩
              case measure => simp [intOf]; omega
            · rw [decide_eq_false hf] at h1
              have H1 := Lib.hid h1
              have HBA := Lib.hid hba
              clear c0 c1 he hf h1 h2 hmem hba
              go_wp2_with fail
              refine H1.out.mono ?_
              rintro e w4 ⟨rfl, rfl⟩
              go_wp2
              go_roundw
              case rel => exact ⟨j + 1, by omega, by go_num, HBA⟩
              case measure => simp [intOf]; omega
          · obtain rfl : j = m := by omega
            go_wp2_with fail
            go_loopw [60] (fun i wr => ∃ k : Nat, k ≤ o ∧ i = .int .i64 k ∧ Hid (Below w3.heap.size w3 wr)) (fun i _ => o - (intOf i).toNat)
            case atStart => exact ⟨0, Nat.zero_le _, rfl, HB⟩
            case round =>
              obtain ⟨i, hi, rfl, HB⟩ := hrel
              by_cases hlt : i < o
              · obtain ⟨b, off, rfl, hb, c0⟩ := HV.out.at_ hlt
                have d0 := (HB.out.cell (p := ⟨b, _, none⟩) hb).trans c0
                have hlO := HV.out.len
                have hxi : O[i]? = some (O[i]'(by omega)) := List.getElem?_eq_getElem _
                obtain ⟨x, hx⟩ : ∃ x, x = O[i]'(by omega) := ⟨_, rfl⟩
                rw [← hx] at d0 hxi
                have HX := Lib.hid hxi
                have H1 := Lib.hid (has_any (c := c) (HZ3.out.below HB.out) (by omega) x)
                have hlt' := hlt
                have hi1 : (i : Int) ≤ ((o : Nat) : Int) := by omega
                have hi2 : ((o : Nat) : Int) ≤ ((c3 : Nat) : Int) := by omega
                clear c0 hx hxi hlO
                go_wp2_with fail
                refine H1.out.mono ?_
                rintro e w4 ⟨rfl, rfl⟩
                go_wp2_with fail
                go_loopw [12, 70] (fun u jv wj => ∃ k : Nat, k ≤ j ∧ jv = .int .i64 k ∧ u = .bool (GM.why xs O i x (es.take k)) ∧ Hid (Below w3.heap.size w3 wj)) (fun _ jv _ => j - (intOf jv).toNat)
                case atStart => exact ⟨0, Nat.zero_le _, rfl, by simp [GM.why], HB⟩
                case round =>
                  obtain ⟨k, hk, rfl, rfl, HBk⟩ := hrel
                  by_cases hlt : k < j
                  · obtain ⟨b2, off2, rfl, hb2, c0, c1⟩ := HE3.out.at_ hlt
                    have d1 := (HBk.out.cell (p := ⟨b2, _, none⟩) hb2).trans c0
                    have d2 := (HBk.out.cell (p := ⟨b2, _, none⟩) hb2).trans c1
                    have hst := GM.why_take (xs := xs) (O := O) (i := i) (x := x) (es := es) (k := k) (by omega)
                    obtain ⟨e, he⟩ : ∃ e, e = es[k]'(by omega) := ⟨_, rfl⟩
                    obtain ⟨f, t⟩ := e
                    rw [← he] at d1 d2 hst
                    obtain ⟨y, hy⟩ : ∃ y, y = GM.why xs O i x (es.take k) := ⟨_, rfl⟩
                    rw [← hy] at hst ⊢
                    have hba := HBk.out.alloc HBk.out.size (.cells #[.int .i64 f, .int .i64 t] 37)
                    have hh := fun q => has_any (c := c3) ((HV.out.take (Nat.le_of_lt hlt')).below (bdrewN hba q)) (by omega) f
                    have HBA := Lib.hid hba
                    have HS := Lib.hid hst
                    clear c0 c1 he hy hst hba
                    cases y with
                    | true =>
                      clear hh
                      go_wp2_with fail
                      go_quiet (fail)
                      go_wp2
                      go_roundw
                      case rel => exact ⟨k + 1, by omega, by go_num, by rw [HS.out]; rfl, Lib.hid (bdrewN HBA.out _)⟩
                      case measure => simp [intOf]; omega
                    | false =>
                      by_cases htx : t = x
                      · subst htx
                        have HH1 := Lib.hid hh
                        clear hh
                        go_wp2_with fail
                        go_quiet ((go_at_call 19; exact Calls.quiet_of_same ((HH1.out _).mono fun _ _ ⟨he, hw⟩ => ⟨he, hw.symm⟩)))
                        go_wp2
                        go_roundw
                        case rel => exact ⟨k + 1, by omega, by go_num, by rw [HS.out]; simp, Lib.hid (bdrewN HBA.out _)⟩
                        case measure => simp [intOf]; omega
                      · have htx' : (t == x) = false := by simpa using htx
                        clear hh
                        go_wp2_with fail
                        go_quiet (fail)
                        go_wp2
                        go_roundw
                        case rel => exact ⟨k + 1, by omega, by go_num, by rw [HS.out]; simp [htx], Lib.hid (bdrewN HBA.out _)⟩
                        case measure => simp [intOf]; omega
                  · obtain rfl : k = j := by omega
                    have hfin : GM.why xs O i x (es.take k) = true := by
                      rw [List.take_of_length_le (by omega)]
                      exact GM.why_ord HO.out HX.out
                    have hnot : x ∉ O.take i := GM.not_ahead (by rw [HO.out]; exact GM.ord_nodup _ _) HX.out
                    have hh := has_any (c := c3) ((HV.out.take (Nat.le_of_lt hlt')).below HBk.out) (by omega) x
                    rw [decide_eq_false hnot] at hh
                    rw [hfin]
                    have H2 := Lib.hid hh
                    clear hfin hnot hh
                    go_wp2_with fail
                    refine H2.out.mono ?_
                    rintro e w5 ⟨rfl, rfl⟩
                    go_wp2
                    go_roundw
                    case rel => exact ⟨i + 1, by omega, by go_num, HBk⟩
                    case measure => simp [intOf]; omega
              · obtain rfl : i = o := by omega
                go_wp2
                go_ret
                exact ⟨rfl, B3.out.trans (HB.out.mono B3.out.size)⟩
