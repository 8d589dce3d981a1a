/- The walk of TokenSorts. -/
import Derived.Test.YtlmiiapmanklpaaDoorTkBox
import Derived.Deep.DeepCutAuto
import Derived.Lib.QuietBelow
namespace Go.Proofs.YtlmiiapmanklpaaDoor
open Go.RowKit Go.Sort

/-- A token is among the first k. -/
def TM.inT (t : Int × Int) (l : List (Int × Int)) (k : Nat) : Bool := decide (t ∈ l.take k)
theorem TM.inT_zero (t : Int × Int) (l : List (Int × Int)) : TM.inT t l 0 = false := by simp [TM.inT]
theorem TM.inT_yes {t : Int × Int} {l : List (Int × Int)} {k : Nat} (h : TM.inT t l k = true) : TM.inT t l (k + 1) = true := by
  simp only [TM.inT, decide_eq_true_iff] at *
  rw [List.take_add_one]
  exact List.mem_append_left _ h
theorem TM.inT_here {t : Int × Int} {l : List (Int × Int)} {k : Nat} (h : l[k]? = some t) : TM.inT t l (k + 1) = true := by
  simp only [TM.inT, decide_eq_true_iff]
  rw [List.take_add_one, h]
  simp
theorem TM.inT_no {t x : Int × Int} {l : List (Int × Int)} {k : Nat} (h : l[k]? = some x) (hx : x ≠ t) (hk : TM.inT t l k = false) : TM.inT t l (k + 1) = false := by
  simp only [TM.inT, decide_eq_false_iff_not] at *
  rw [List.take_add_one, h]
  simp only [Option.toList_some, List.mem_append, List.mem_singleton]
  rintro (e | e)
  · exact hk e
  · exact hx e.symm
theorem TM.inT_all {t : Int × Int} {l : List (Int × Int)} {k : Nat} (h : l.length ≤ k) : TM.inT t l k = decide (t ∈ l) := by
  simp only [TM.inT]
  rw [List.take_of_length_le h]
theorem drop_get {l : List (Int × Int)} {k : Nat} {x : Int × Int} (h : l.drop k = x :: l.drop (k + 1)) : l[k]? = some x := by
  have := congrArg (fun m => m[0]?) h
  simpa using this
theorem ne_ways {a b c d : Int} (h : (a, b) ≠ (c, d)) : ((a == c) = false ∨ a = c ∧ (b == d) = false) := by
  by_cases h3 : a = c
  · right
    subst h3
    exact ⟨rfl, by rw [beq_eq_false_iff_ne]; intro e; exact h (by rw [e])⟩
  · left
    rw [beq_eq_false_iff_ne]; exact h3
theorem TM.allR_step {l : List (Int × Int)} {k : Nat} {a b : Int} (hd : l.drop k = (a, b) :: l.drop (k + 1)) : TM.allR (l.take (k + 1)) = (TM.allR (l.take k) && TM.right a b) := by
  unfold TM.allR
  rw [List.take_add_one, List.all_append, drop_get hd]
  simp
theorem q_false {p r : Bool} (h : false = !p) : (!r) = !(p && r) := by cases p <;> cases r <;> first | rfl | cases h
theorem q_true {p r : Bool} (h : true = !p) : true = !(p && r) := by cases p <;> cases r <;> first | rfl | cases h
theorem own_empty {w : World} {g : Nat} (B : Nat) (hB : B ≤ g) (h : Whole w g 23 #[]) : w.ownsRow B 23 2 (.slice (some ⟨g, 0, none⟩) 0 0) 0 (flatT []) :=
  ⟨rfl, .inr ⟨g, 0, #[], rfl, hB, h, Nat.le_refl _, by unfold maxLen; omega, rfl, rfl⟩⟩

/-- A token's box, through the rounds of an inner loop. -/
structure In3 (w : World) (g : Nat) (x y : Int) (W : World) : Prop where
  bel : Below w.heap.size w W
  box : Whole W g 23 #[.int .i64 x, .int .i64 y]
theorem In3.alloc {w : World} {g : Nat} {x y : Int} {W : World} (h : In3 w g x y W) (o : Obj) : In3 w g x y (W.alloc o) := ⟨h.bel.alloc h.bel.size o, h.box.alloc o⟩

set_option maxRecDepth 100000 in
set_option maxHeartbeats 8000000 in
theorem sorts_walk (A : Option Addr) (n c : Nat) (l : List (Int × Int)) (w : World) (hl : TS w w.heap.size A n c l) (hT : Tk w) :
    Calls Tryd.prog 6 #[.slice A n c] w fun e w' => e = .returned (.bool true) ∧ Below w.heap.size w w' := by
  have HT := Lib.hid hT
  have HL := Lib.hid hl
  have hnc := hl.le
  clear hT hl
  go_enter Tryd.func6, Tryd.ntmps6
  go_upto_region 1 with (fail)
  obtain ⟨M, hM1, hM2, hM3⟩ : ∃ M : Nat, M ≤ n ∧ M ≤ 100 ∧ (n ≤ 100 ∧ M = n ∨ 100 < n ∧ M = 100) := by
    by_cases h : n ≤ 100
    · exact ⟨n, Nat.le_refl _, h, .inl ⟨h, rfl⟩⟩
    · exact ⟨100, by omega, Nat.le_refl _, .inr ⟨by omega, rfl⟩⟩
  have HM3 := Lib.hid hM3
  have HLM := Lib.hid (HL.out.take hM1)
  clear hM3 HL
  generalize l.take M = ls at HLM
  have hA : (A = none ∧ n = 0 ∧ M = 0 ∧ c = 0) ∨ ∃ ad, A = some ad := by
    rcases A with _ | ad
    · have := HLM.out.nil rfl
      exact Or.inl ⟨rfl, by omega, by omega, this⟩
    · exact Or.inr ⟨ad, rfl⟩
  have HA := Lib.hid hA
  clear hA
  go_cut [0] (fun s w1 => ∃ A1 c1, s = .slice A1 M c1 ∧ TS w1 w1.heap.size A1 M c1 ls ∧ Below w.heap.size w w1)
  case first =>
    have hg0 := (own_empty w.heap.size (Nat.le_refl _) (Whole.fresh w 23 #[]))
    have b0 : Below w.heap.size w (w.alloc (.cells #[] 23)) := (Below.refl _ _).alloc (Nat.le_refl _) _
    have hown0 : ∀ k, (Value.slice (some ⟨w.heap.size, 0, none⟩) 0 0).ownBlock = some k → w.heap.size ≤ k := fun k e => by cases e; exact Nat.le_refl _
    rcases HA.out with ⟨rfl, rfl, rfl, rfl⟩ | ⟨ad, rfl⟩
    · go_wp2_with (first
        | (at_builtin
           refine wpList_append_ts _ rfl _ _ rfl w.heap.size _ 0 [] rfl hg0 w.heap.size none 0 0 ls rfl (HLM.out.below b0) (by omega) (by simp) ?_
           intro v2 w2 ho2 hg2
           rw [Nat.zero_add, List.nil_append] at ho2
           obtain ⟨A2, c2, rfl, hlen, hts, hrow⟩ := own_ts ho2
           have HO := Lib.hid hts
           have HB2 := Lib.hid (b0.grown hg2 (by simp) hown0)
           clear ho2 hg2 hts hrow))
      go_meet
      exact ⟨A2, c2, rfl, HO.out, HB2.out⟩
    rcases HM3.out with ⟨h1, h2⟩ | ⟨h1, h2⟩
    · subst h2
      have hn' : min (M : Int) 100 = M := by omega
      go_wp2_with (first
        | (at_builtin
           refine wpList_append_ts _ rfl _ _ rfl w.heap.size _ 0 [] rfl hg0 w.heap.size (some ad) M c ls rfl (HLM.out.below b0) (by omega) (by simp) ?_
           intro v2 w2 ho2 hg2
           rw [Nat.zero_add, List.nil_append] at ho2
           obtain ⟨A2, c2, rfl, hlen, hts, hrow⟩ := own_ts ho2
           have HO := Lib.hid hts
           have HB2 := Lib.hid (b0.grown hg2 (by simp) hown0)
           clear ho2 hg2 hts hrow))
      go_meet
      exact ⟨A2, c2, rfl, HO.out, HB2.out⟩
    · subst h2
      have hn' : min (n : Int) 100 = 100 := by omega
      go_wp2_with (first
        | (at_builtin
           refine wpList_append_ts _ rfl _ _ rfl w.heap.size _ 0 [] rfl hg0 w.heap.size (some ad) 100 c ls rfl (HLM.out.below b0) (by omega) (by simp) ?_
           intro v2 w2 ho2 hg2
           rw [Nat.zero_add, List.nil_append] at ho2
           obtain ⟨A2, c2, rfl, hlen, hts, hrow⟩ := own_ts ho2
           have HO := Lib.hid hts
           have HB2 := Lib.hid (b0.grown hg2 (by simp) hown0)
           clear ho2 hg2 hts hrow))
      go_meet
      exact ⟨A2, c2, rfl, HO.out, HB2.out⟩
  case rest =>
    obtain ⟨A1, c1, rfl, hts1, hb1⟩ := hcut
    have H1 := Lib.hid hts1
    have B1 := Lib.hid hb1
    clear hts1 hb1 HLM HM3 HA hM1 hnc
    have hg0 := (own_empty wc.heap.size (Nat.le_refl _) (Whole.fresh wc 23 #[]))
    have b0 : Below wc.heap.size wc (wc.alloc (.cells #[] 23)) := (Below.refl _ _).alloc (Nat.le_refl _) _
    have hown0 : ∀ k, (Value.slice (some ⟨wc.heap.size, 0, none⟩) 0 0).ownBlock = some k → wc.heap.size ≤ k := fun k e => by cases e; exact Nat.le_refl _
    go_wp2_with (first
      | (at_builtin
         refine wpList_append_ts _ rfl _ _ rfl wc.heap.size _ 0 [] rfl hg0 wc.heap.size A1 M c1 ls rfl (H1.out.below b0) (by omega) (by simp) ?_
         intro v2 w2 ho2 hg2
         rw [Nat.zero_add, List.nil_append] at ho2
         obtain ⟨A2, c2, rfl, hlen, hts, hrow⟩ := own_ts ho2
         have H2 := Lib.hid hts
         have b12 := b0.grown hg2 (by simp) hown0
         have H12 := Lib.hid (H1.out.on b12)
         have B2 := Lib.hid (B1.out.trans (b12.mono B1.out.size))
         clear ho2 hg2 hts hrow b12))
    clear hg0 b0 hown0 H1 B1
    refine (sort_any A1 M c1 ls _ (by omega) H12.out).mono ?_
    rintro e w3 ⟨A3, c3, rfl, hts3, hb3⟩
    have H3 := Lib.hid hts3
    have L3 := Lib.hid (H12.out.on hb3)
    have W3 := Lib.hid (H2.out.on hb3)
    have B3 := Lib.hid (B2.out.trans (hb3.mono B2.out.size))
    have T3 := Lib.hid (HT.out.onB B3.out HT.out.six)
    clear hts3 hb3 H12 H2 B2 HT
    have hE : (TM.allR ls = false ∧ TM.sortE ls = 3 ∧ TM.sortL ls = []) ∨ (TM.allR ls = true ∧ 64 < M ∧ TM.sortE ls = 18 ∧ TM.sortL ls = []) ∨ (TM.allR ls = true ∧ M ≤ 64 ∧ TM.sortE ls = 0 ∧ TM.sortL ls = TM.sort ls) := by
      have hl := W3.out.len
      by_cases h : TM.allR ls = true
      · by_cases h2 : M ≤ 64
        · have e : TM.sortE ls = 0 := by unfold TM.sortE; rw [if_pos h, if_pos (by omega)]
          exact Or.inr (Or.inr ⟨h, h2, e, by unfold TM.sortL; rw [if_pos e]⟩)
        · have e : TM.sortE ls = 18 := by unfold TM.sortE; rw [if_pos h, if_neg (by omega)]
          exact Or.inr (Or.inl ⟨h, by omega, e, by unfold TM.sortL; rw [e]; rfl⟩)
      · have e : TM.sortE ls = 3 := by unfold TM.sortE; rw [if_neg h]
        exact Or.inl ⟨by simpa using h, e, by unfold TM.sortL; rw [e]; rfl⟩
    have HE := Lib.hid hE
    clear hE
    generalize TM.sortE ls = E at HE
    generalize TM.sortL ls = r at HE H3
    have hr100 : r.length ≤ 100 := by
      rcases HE.out with ⟨_, _, e⟩ | ⟨_, _, _, e⟩ | ⟨_, _, _, e⟩
      · rw [e]; simp
      · rw [e]; simp
      · rw [e]; have := (TM.sort_is ls).2.2; have := W3.out.len; omega
    go_wp2_with fail
    go_loopg [6, 36] M (fun g q i wr => ∃ (k : Nat) (b : Bool), k ≤ M ∧ i = .int .i64 k ∧ q = .bool b ∧ Hid (M - k ≤ g) ∧ Hid (b = !TM.allR (ls.take k)) ∧ Hid (Below w3.heap.size w3 wr))
    case atStart => exact ⟨0, false, Nat.zero_le _, rfl, rfl, Lib.hid (Nat.le_refl _), Lib.hid rfl, Lib.hid (Below.refl _ _)⟩
    case round =>
      obtain ⟨k, b, hk, rfl, rfl, HG, HQ, HB⟩ := hrel
      by_cases hlt : k < M
      · obtain ⟨b2, off2, x, y, rfl, hbB, hd, hc0, hc1⟩ := (W3.out.fs.below HB.out).at_ hlt
        obtain ⟨b1, off1, x', y', rfl, hbB', hd', hd0, hd1⟩ := (L3.out.fs.below HB.out).at_ hlt
        have hxy : x' = x ∧ y' = y := by
          rw [hd] at hd'
          injection hd' with e1 e2
          injection e1 with e3 e4
          exact ⟨e3.symm, e4.symm⟩
        obtain ⟨rfl, rfl⟩ := hxy
        have HD := Lib.hid hd
        have l1 : b1 < wr.heap.size := Nat.lt_of_lt_of_le hbB' HB.out.size
        have l2 : b2 < wr.heap.size := Nat.lt_of_lt_of_le hbB HB.out.size
        clear hd hd'
        have hb5 := Lib.hid (HB.out.alloc HB.out.size (.cells #[.int .i64 x', .int .i64 y'] 23))
        cases b
        · have hrr := rright_below x' y'
          go_wp2_with fail
          refine (hrr _).mono ?_
          rintro e w5 ⟨rfl, hb⟩
          have V5 := (Whole.fresh wr 23 #[.int .i64 x', .int .i64 y']).below hb (by simp)
          obtain ⟨e0, e1⟩ := V5.cells2
          have f0 := (hb.cell (p := ⟨b1, off1 + k * 2, none⟩) (by simp; omega)).trans ((World.cell?_alloc_lt _ _ _ l1).trans hd0)
          have f1 := (hb.cell (p := ⟨b1, off1 + k * 2 + 1, none⟩) (by simp; omega)).trans ((World.cell?_alloc_lt _ _ _ l1).trans hd1)
          have B5 := Lib.hid (hb5.out.trans (hb.mono (by have := HB.out.size; simp; omega)))
          clear hb V5 hrr hb5 hc0 hc1 hd0 hd1
          go_wp2_with fail
          go_quiet (fail)
          go_wp2
          go_roundg (M - (k + 1))
          case measure => have := HG.out; omega
          case rel => exact ⟨k + 1, _, by omega, by go_num, rfl, Lib.hid (Nat.le_refl _), Lib.hid (by rw [TM.allR_step HD.out]; exact q_false HQ.out), Lib.hid ⟨B5.out.os, B5.out.tape, B5.out.output, B5.out.size, B5.out.block⟩⟩
        · go_wp2_with fail
          go_quiet (fail)
          go_wp2
          go_roundg (M - (k + 1))
          case measure => have := HG.out; omega
          case rel => exact ⟨k + 1, true, by omega, by go_num, rfl, Lib.hid (Nat.le_refl _), Lib.hid (by rw [TM.allR_step HD.out]; exact q_true HQ.out), Lib.hid ⟨hb5.out.os, hb5.out.tape, hb5.out.output, hb5.out.size, hb5.out.block⟩⟩
      · rename World => w4
        have hbq : b = !TM.allR ls := by
          have := HQ.out
          rwa [List.take_of_length_le (by rw [W3.out.len]; omega)] at this
        have BB := Lib.hid (B3.out.trans (HB.out.mono B3.out.size))
        have TT := Lib.hid (T3.out.on HB.out)
        have HS := Lib.hid (H3.out.on HB.out)
        have HW := Lib.hid (W3.out.on HB.out)
        clear HQ HG H3 W3 L3 B3 T3 HB
        rcases HE.out with ⟨h1, rfl, rfl⟩ | ⟨h1, h2, rfl, rfl⟩ | ⟨h1, h2, rfl, rfl⟩
        · rw [h1] at hbq
          subst hbq
          clear HE h1
          go_wp2_with fail
          refine (alive_any _ TT.out).mono ?_
          rintro e w5 ⟨rfl, hb⟩
          have B5 := Lib.hid (BB.out.trans (hb.mono BB.out.size))
          clear hb
          go_wp2
          go_ret
          exact ⟨rfl, B5.out⟩
        · rw [h1] at hbq
          subst hbq
          clear HE h1
          go_wp2_with fail
          refine (alive_any _ TT.out).mono ?_
          rintro e w5 ⟨rfl, hb⟩
          have B5 := Lib.hid (BB.out.trans (hb.mono BB.out.size))
          clear hb
          go_wp2
          go_ret
          exact ⟨rfl, B5.out⟩
        · rw [h1] at hbq
          subst hbq
          obtain ⟨s1, s2, s3⟩ := TM.sort_is ls
          have S1 := Lib.hid s1
          have S2 := Lib.hid s2
          clear HE h1 s1 s2 s3
          generalize TM.sort ls = r at *
          have Hwr := Lib.hid (Below.refl w4.heap.size w4)
          go_wp2_with fail
          go_loopg [82] r.length (fun g i wk => ∃ k : Nat, k ≤ r.length ∧ i = .int .i64 k ∧ Hid (r.length - k ≤ g) ∧ Hid (Below w4.heap.size w4 wk))
          case atStart => exact ⟨0, Nat.zero_le _, rfl, Lib.hid (Nat.le_refl _), Hwr⟩
          case round =>
            clear Hwr
            obtain ⟨k, hk, rfl, HG, HB⟩ := hrel
            by_cases hlt : k < r.length
            · rename World => w5
              obtain ⟨b3, off3, x, y, rfl, hbB, hd, hc0, hc1⟩ := (HS.out.fs.below HB.out).at_ hlt
              have HX := Lib.hid (drop_get hd)
              have X0 : Hid (In3 w4 w5.heap.size x y (w5.alloc (.cells #[.int .i64 x, .int .i64 y] 23))) := Lib.hid ⟨HB.out.alloc HB.out.size _, Whole.fresh _ _ _⟩
              clear hd
              go_wp2_with fail
              clear hc0 hc1
              go_loopg [11, 89] M (fun g q i wk => ∃ (j : Nat) (b : Bool), j ≤ M ∧ i = .int .i64 j ∧ q = .bool b ∧ Hid (M - j ≤ g) ∧ Hid (b = TM.inT (x, y) ls j) ∧ Hid (In3 w4 w5.heap.size x y wk))
              case atStart => exact ⟨0, false, Nat.zero_le _, rfl, rfl, Lib.hid (Nat.le_refl _), Lib.hid (TM.inT_zero _ _).symm, X0⟩
              case round =>
                clear X0
                obtain ⟨j, b, hj, rfl, rfl, HG2, HQ, HI⟩ := hrel
                by_cases hlt2 : j < M
                · obtain ⟨b2, off2, u, v, rfl, hbB2, hd2, hu0, hu1⟩ := (HW.out.fs.below HI.out.bel).at_ hlt2
                  have HU := Lib.hid (drop_get hd2)
                  have l2 : b2 < wr.heap.size := Nat.lt_of_lt_of_le hbB2 HI.out.bel.size
                  obtain ⟨x0, x1⟩ := HI.out.box.cells2
                  have l3 := HI.out.box.lt
                  clear hd2
                  cases b
                  · by_cases huv : (u, v) = (x, y)
                    · injection huv with e1 e2
                      subst e1 e2
                      go_wp2
                      go_roundg (M - (j + 1))
                      case measure => have := HG2.out; omega
                      case rel => exact ⟨j + 1, true, by omega, by go_num, rfl, Lib.hid (Nat.le_refl _), Lib.hid (TM.inT_here HU.out).symm, Lib.hid (HI.out.alloc _)⟩
                    · have HUV := Lib.hid huv
                      have hor := ne_ways huv
                      clear huv
                      rcases hor with h3 | ⟨h3, h4⟩
                      · go_wp2
                        go_roundg (M - (j + 1))
                        case measure => have := HG2.out; omega
                        case rel => exact ⟨j + 1, false, by omega, by go_num, rfl, Lib.hid (Nat.le_refl _), Lib.hid (TM.inT_no HU.out HUV.out HQ.out.symm).symm, Lib.hid (HI.out.alloc _)⟩
                      · subst h3
                        go_wp2
                        go_roundg (M - (j + 1))
                        case measure => have := HG2.out; omega
                        case rel => exact ⟨j + 1, false, by omega, by go_num, rfl, Lib.hid (Nat.le_refl _), Lib.hid (TM.inT_no HU.out HUV.out HQ.out.symm).symm, Lib.hid (HI.out.alloc _)⟩
                  · go_wp2
                    go_roundg (M - (j + 1))
                    case measure => have := HG2.out; omega
                    case rel => exact ⟨j + 1, true, by omega, by go_num, rfl, Lib.hid (Nat.le_refl _), Lib.hid (TM.inT_yes HQ.out.symm).symm, Lib.hid (HI.out.alloc _)⟩
                · have hbt : b = true := by
                    have := HQ.out
                    rw [TM.inT_all (by rw [HW.out.len]; omega)] at this
                    rw [this]
                    simp only [decide_eq_true_iff]
                    exact (S2.out _).1 (List.mem_of_getElem? HX.out)
                  subst hbt
                  rename World => w6
                  obtain ⟨x0, x1⟩ := HI.out.box.cells2
                  have BI := Lib.hid HI.out.bel
                  rcases Nat.eq_zero_or_pos k with hk0 | hk0
                  · subst hk0
                    go_wp2_with fail
                    go_quiet (fail)
                    go_wp2
                    go_roundg (r.length - 1)
                    case measure => have := HG.out; omega
                    case rel => exact ⟨1, by omega, by go_num, Lib.hid (Nat.le_refl _), Lib.hid ⟨BI.out.os, BI.out.tape, BI.out.output, BI.out.size, BI.out.block⟩⟩
                  · obtain ⟨b3', off3', x', y', e3, hbB3, hd3, hp0, hp1⟩ := (HS.out.fs.below BI.out).at_ (show k - 1 < r.length by omega)
                    injection e3 with e3
                    injection e3 with e4 e5
                    subst e4 e5
                    have hcmp : TM.cmp (x', y') (x, y) = -1 := by
                      have hp := S1.out
                      have g1 := drop_get hd3
                      have g2 := HX.out
                      have hk1 : k < r.length := hlt
                      rw [List.getElem?_eq_getElem (by omega)] at g1 g2
                      injection g1 with g1
                      injection g2 with g2
                      have := List.pairwise_iff_getElem.1 hp (k - 1) k (by omega) hk1 (by omega)
                      rw [g1, g2] at this
                      rcases TM.cmp_cases (x', y') (x, y) with ⟨e, _⟩ | ⟨e, h⟩ | ⟨e, h⟩
                      · exact e
                      · rw [h] at this; exact this.irrefl.elim
                      · exact (this.asymm h).elim
                    have kc := fun W => rcompare_any x' y' x y W
                    rw [hcmp] at kc
                    have i1 : ((k : Int) - 1).toNat = k - 1 := by omega
                    have hkp : (0 : Int) < (k : Int) := by omega
                    have p1 : (1 : Int) ≤ (k : Int) := by omega
                    have p2 : (k : Int) - 1 < (r.length : Int) := by omega
                    have p3 : IntKind.i64.wrap ((k : Int) - 1) = (k : Int) - 1 := by rw [IntKind.wrap_i64]; omega
                    have q0 : ∀ d os, (grow (redrawn w6 d) os).cell? ⟨w5.heap.size, 0, none⟩ = some (.int .i64 x) := fun d os => cell_regrown x0 d os
                    have q1 : ∀ d os, (grow (redrawn w6 d) os).cell? ⟨w5.heap.size, 1, none⟩ = some (.int .i64 y) := fun d os => cell_regrown x1 d os
                    have q2 : ∀ d os, (grow (redrawn w6 d) os).cell? ⟨b3, off3 + (k - 1) * 2, none⟩ = some (.int .i64 x') := fun d os => cell_regrown hp0 d os
                    have q3 : ∀ d os, (grow (redrawn w6 d) os).cell? ⟨b3, off3 + (k - 1) * 2 + 1, none⟩ = some (.int .i64 y') := fun d os => cell_regrown hp1 d os
                    clear hd3 hcmp x0 x1 hp0 hp1
                    go_wp2_with fail
                    refine wp_region_quiet_below mixedO (by kernel_rfl) ?_
                    repeat (quiet_step (first
                      | (go_at_call 16; (with_reducible refine Calls.regrown_of (kc _)))))
                    refine wpQuiet_nil ?_
                    intro _ hw'
                    obtain ⟨⟨nq, osq⟩, hw''⟩ := hw'
                    subst hw''
                    have B7 := Lib.hid (BI.out.trans ((below_regrown w6 nq osq).mono BI.out.size))
                    go_wp2
                    go_roundg (r.length - (k + 1))
                    case measure => have := HG.out; omega
                    case rel => exact ⟨k + 1, by omega, by go_num, Lib.hid (Nat.le_refl _), B7⟩
            · rename World => w5
              have TT5 := Lib.hid (TT.out.on HB.out)
              have BB5 := Lib.hid (BB.out.trans (HB.out.mono BB.out.size))
              have HS5 := Lib.hid (HS.out.on HB.out)
              have HW5 := Lib.hid (HW.out.on HB.out)
              have Hwr := Lib.hid (Below.refl w5.heap.size w5)
              clear TT BB HS HW HB HG
              go_wp2_with fail
              go_loopg [119] M (fun g i wk => ∃ k : Nat, k ≤ M ∧ i = .int .i64 k ∧ Hid (M - k ≤ g) ∧ Hid (Below w5.heap.size w5 wk))
              case atStart => exact ⟨0, Nat.zero_le _, rfl, Lib.hid (Nat.le_refl _), Hwr⟩
              case round =>
                clear Hwr
                obtain ⟨p, hp, rfl, HG, HB⟩ := hrel
                by_cases hlt3 : p < M
                · rename World => w6
                  obtain ⟨b2, off2, x, y, rfl, hbB, hd, hc0, hc1⟩ := (HW5.out.fs.below HB.out).at_ hlt3
                  have HX := Lib.hid (drop_get hd)
                  have X0 : Hid (In3 w5 w6.heap.size x y (w6.alloc (.cells #[.int .i64 x, .int .i64 y] 23))) := Lib.hid ⟨HB.out.alloc HB.out.size _, Whole.fresh _ _ _⟩
                  clear hd
                  go_wp2_with fail
                  clear hc0 hc1
                  go_loopg [16, 125] r.length (fun g q i wk => ∃ (j : Nat) (b : Bool), j ≤ r.length ∧ i = .int .i64 j ∧ q = .bool b ∧ Hid (r.length - j ≤ g) ∧ Hid (b = TM.inT (x, y) r j) ∧ Hid (In3 w5 w6.heap.size x y wk))
                  case atStart => exact ⟨0, false, Nat.zero_le _, rfl, rfl, Lib.hid (Nat.le_refl _), Lib.hid (TM.inT_zero _ _).symm, X0⟩
                  case round =>
                    clear X0
                    obtain ⟨j, b, hj, rfl, rfl, HG2, HQ, HI⟩ := hrel
                    by_cases hlt2 : j < r.length
                    · obtain ⟨b3, off3, u, v, rfl, hbB2, hd2, hu0, hu1⟩ := (HS5.out.fs.below HI.out.bel).at_ hlt2
                      have HU := Lib.hid (drop_get hd2)
                      have l2 : b3 < wr.heap.size := Nat.lt_of_lt_of_le hbB2 HI.out.bel.size
                      obtain ⟨x0, x1⟩ := HI.out.box.cells2
                      have l3 := HI.out.box.lt
                      clear hd2
                      cases b
                      · by_cases huv : (x, y) = (u, v)
                        · injection huv with e1 e2
                          subst e1 e2
                          go_wp2
                          go_roundg (r.length - (j + 1))
                          case measure => have := HG2.out; omega
                          case rel => exact ⟨j + 1, true, by omega, by go_num, rfl, Lib.hid (Nat.le_refl _), Lib.hid (TM.inT_here HU.out).symm, Lib.hid (HI.out.alloc _)⟩
                        · have HUV := Lib.hid (Ne.symm huv)
                          have hor := ne_ways huv
                          clear huv
                          rcases hor with h3 | ⟨h3, h4⟩
                          · go_wp2
                            go_roundg (r.length - (j + 1))
                            case measure => have := HG2.out; omega
                            case rel => exact ⟨j + 1, false, by omega, by go_num, rfl, Lib.hid (Nat.le_refl _), Lib.hid (TM.inT_no HU.out HUV.out HQ.out.symm).symm, Lib.hid (HI.out.alloc _)⟩
                          · subst h3
                            go_wp2
                            go_roundg (r.length - (j + 1))
                            case measure => have := HG2.out; omega
                            case rel => exact ⟨j + 1, false, by omega, by go_num, rfl, Lib.hid (Nat.le_refl _), Lib.hid (TM.inT_no HU.out HUV.out HQ.out.symm).symm, Lib.hid (HI.out.alloc _)⟩
                      · go_wp2
                        go_roundg (r.length - (j + 1))
                        case measure => have := HG2.out; omega
                        case rel => exact ⟨j + 1, true, by omega, by go_num, rfl, Lib.hid (Nat.le_refl _), Lib.hid (TM.inT_yes HQ.out.symm).symm, Lib.hid (HI.out.alloc _)⟩
                    · have hbt : b = true := by
                        have := HQ.out
                        rw [TM.inT_all (by omega)] at this
                        rw [this]
                        simp only [decide_eq_true_iff]
                        exact (S2.out _).2 (List.mem_of_getElem? HX.out)
                      subst hbt
                      have BI := Lib.hid HI.out.bel
                      go_wp2
                      go_roundg (M - (p + 1))
                      case measure => have := HG.out; omega
                      case rel => exact ⟨p + 1, by omega, by go_num, Lib.hid (Nat.le_refl _), BI⟩
                · have TT6 := Lib.hid (TT5.out.on HB.out)
                  have BB6 := Lib.hid (BB5.out.trans (HB.out.mono BB5.out.size))
                  go_wp2_with fail
                  refine (alive_any _ TT6.out).mono ?_
                  rintro e w7 ⟨rfl, hb⟩
                  have B7 := Lib.hid (BB6.out.trans (hb.mono BB6.out.size))
                  clear hb
                  go_wp2
                  go_ret
                  exact ⟨rfl, B7.out⟩
end Go.Proofs.YtlmiiapmanklpaaDoor
