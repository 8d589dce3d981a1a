/- The law TableSets: an entry that is set is got, and no other one changes. -/
import Derived.Test.YtldlolgdglmocaaDoorTbLs
import Derived.BigQuiet
namespace Go.Proofs.YtldlolgdglmocaaDoor
open Go.RowKit

section
variable {w : World} {base n g cap k : Nat}
theorem TR.get {l : List (Int × Int)} (h : TR w base (.slice (some ⟨g, 0, none⟩) n cap) l) (hk : k < n) : ∃ yi yg, l[k]? = some (yi, yg) ∧ w.cell? ⟨g, k * 2, none⟩ = some (.int .i64 yi) ∧ w.cell? ⟨g, k * 2 + 1, none⟩ = some (.int .i64 yg) := by
  obtain ⟨A, c, e⟩ := h.slice
  injection e with e1 e2 e3
  subst e2
  obtain ⟨g', cap', e', _, _, c0, c1⟩ := h.at_ hk
  injection e' with e4 e5 e6
  injection e4 with e4
  injection e4 with e7
  subst e7
  exact ⟨_, _, List.getElem?_eq_getElem hk, c0, c1⟩
theorem TR.head {v : Value} {l : List (Int × Int)} (h : TR w base v l) (h0 : 0 < l.length) : ∃ g cap, v = .slice (some ⟨g, 0, none⟩) l.length cap := by
  obtain ⟨g, cap, e, _⟩ := h.at_ h0
  exact ⟨g, cap, e⟩
theorem ER.head {v : Value} {l : List En} (h : ER w base v l) (h0 : 0 < l.length) : ∃ g cap, v = .slice (some ⟨g, 0, none⟩) l.length cap := by
  obtain ⟨g, cap, e, _⟩ := h.at_ h0
  exact ⟨g, cap, e⟩
theorem ER.get {l : List En} (h : ER w base (.slice (some ⟨g, 0, none⟩) n cap) l) (hn : l.length = n) (hk : k < n) : ∃ z : En, l[k]? = some z ∧ w.cell? ⟨g, k * 4, none⟩ = some (.int .i64 z.a) ∧ w.cell? ⟨g, k * 4 + 1, none⟩ = some (.int .i64 z.r) ∧ w.cell? ⟨g, k * 4 + 2, none⟩ = some (.bool z.h) ∧ w.cell? ⟨g, k * 4 + 3, none⟩ = some (.bool z.p) := by
  subst hn
  obtain ⟨g', cap', e', _, _, c0, c1, c2, c3⟩ := h.at_ hk
  injection e' with e4 e5 e6
  injection e4 with e4
  injection e4 with e7
  subst e7
  exact ⟨_, List.getElem?_eq_getElem hk, c0, c1, c2, c3⟩
end
/-- The entries that Get tells of tokens. -/
def gots (S : Nat → Sl) (N : Nat) (l : List (Int × Int)) : List En := l.map fun y => getE S N y.1 y.2
theorem gots_snoc {S : Nat → Sl} {N : Nat} {l : List (Int × Int)} {k : Nat} {yi yg : Int} {z : En} (h : l[k]? = some (yi, yg)) (hz : getE S N yi yg = z) : gots S N (l.take (k + 1)) = gots S N (l.take k) ++ [z] := by
  unfold gots
  rw [List.take_add_one, h, List.map_append]
  simp [hz]
theorem gots_at {S : Nat → Sl} {N : Nat} {l : List (Int × Int)} {k : Nat} {yi yg : Int} {z : En} (h : l[k]? = some (yi, yg)) (hz : (gots S N l)[k]? = some z) : getE S N yi yg = z := by
  unfold gots at hz
  rw [List.getElem?_map, h] at hz
  simpa using hz
theorem gots_len (S : Nat → Sl) (N : Nat) (l : List (Int × Int)) : (gots S N l).length = l.length := by simp [gots]

set_option maxRecDepth 100000 in
set_option maxHeartbeats 8000000 in
theorem sets_walk (m : Int) (A : Option Addr) (n c : Nat) (la : List Ac) (ea er : Int) (eh ep : Bool) (w : World) (hl : TA w w.heap.size A n la) (hT : Tab w) :
    Calls Tryd.prog 8 #[.int .i64 m, .slice A n c, .agg #[.int .i64 ea, .int .i64 er, .bool eh, .bool ep]] w fun e w' => e = .returned (.bool true) ∧ Below w.heap.size w w' := by
  have hb0 := (Below.refl w.heap.size w).alloc (Nat.le_refl _) (.cells #[.int .i64 ea, .int .i64 er, .bool eh, .bool ep] 35)
  have T0 := hT.below hb0 hT.pos
  have G := Lib.hid (grown_any m A n c la _ ((hl.below hb0).up (by simp)) T0)
  have W0 := Lib.hid (Whole.fresh w 35 #[.int .i64 ea, .int .i64 er, .bool eh, .bool ep])
  have HB0 := Lib.hid hb0
  have HT0 := Lib.hid T0
  clear hb0 T0 hl
  go_enter Tryd.func8, Tryd.ntmps8
  go_wp2_with fail
  refine G.out.mono ?_
  rintro e w1 (⟨hn, rfl, hb1⟩ | ⟨hn, B, N, S, base, v, l, rfl, hN, hll, hL, _⟩)
  · have d : (100 : Int) < (n : Int) := by omega
    have AL := Lib.hid (alive_any w1 (HT0.out.below hb1 HT0.out.pos))
    have HB1 := Lib.hid hb1
    clear hb1 G
    go_wp2_with fail
    refine AL.out.mono ?_
    rintro e w2 ⟨rfl, hb2⟩
    have hb12 := HB1.out.trans (hb2.mono HB1.out.size)
    have AL2 := Lib.hid (alive_any w2 (HT0.out.below hb12 HT0.out.pos))
    have HB2 := Lib.hid hb12
    clear hb2 hb12 AL HB1
    go_wp2_with fail
    refine AL2.out.mono ?_
    rintro e w3 ⟨rfl, hb3⟩
    have HB3 := Lib.hid hb3
    clear hb3 AL2
    go_wp2
    go_ret
    exact ⟨rfl, HB0.out.trans ((HB2.out.trans (HB3.out.mono HB2.out.size)).mono (by simp))⟩
  · have AL := Lib.hid (alive_any w1 hL.ht.tab)
    have HL := Lib.hid hL
    obtain ⟨Av, cv, rfl⟩ := hL.tr.slice
    clear hL G
    by_cases h0 : l.length = 0
    · rw [h0] at HL ⊢
      go_wp2_with fail
      refine AL.out.mono ?_
      rintro e w2 ⟨rfl, hb2⟩
      have HL2 := Lib.hid (HL.out.later HT0.out hb2)
      have AL2 := Lib.hid (alive_any w2 HL2.out.ht.tab)
      clear hb2 AL HL
      go_wp2_with fail
      refine AL2.out.mono ?_
      rintro e w3 ⟨rfl, hb3⟩
      have HL3 := Lib.hid (HL2.out.later HT0.out hb3)
      clear hb3 AL2 HL2
      go_wp2
      go_ret
      exact ⟨rfl, HB0.out.trans (HL3.out.ht.bel.mono (by simp))⟩
    · obtain ⟨gt, ct, e0⟩ := HL.out.tr.head (by omega)
      injection e0 with e1 e2 e3
      subst e1 e3
      obtain ⟨q, hq, hqe⟩ := len_half (show 0 < l.length by omega) (by omega)
      obtain ⟨nl, hnl⟩ : ∃ nl, nl = l.length := ⟨_, rfl⟩
      rw [← hnl] at HL h0 hll hq hqe ⊢
      have HNL := Lib.hid hnl
      clear hnl
      have d0 : ((nl : Int) == 0) = false := by simp; omega
      go_wp2_with fail
      refine AL.out.mono ?_
      rintro e w2 ⟨rfl, hb2⟩
      have hL2 := HL.out.later HT0.out hb2
      obtain ⟨xi, xg, hx, c0, c1⟩ := hL2.tr.get hq
      have HX := Lib.hid hx
      have S2 := Lib.hid (ls_new hL2 HT0.out (xi, xg))
      clear hb2 AL HL hL2 hx
      go_wp2
      rename World => w3
      go_loopw [10, 63] (fun u x wr => ∃ k : Nat, k ≤ nl ∧ x = .int .i64 k ∧ Ls _ wr B N S base _ l _ (xi, xg) _ u (gots S N (l.take k))) (fun _ x _ => nl - (intOf x).toNat)
      case atStart => exact ⟨0, Nat.zero_le _, rfl, S2.out⟩
      case round =>
        obtain ⟨k, hk, rfl, hS⟩ := hrel
        by_cases hlt : k < nl
        · obtain ⟨yi, yg, hy, y0, y1⟩ := hS.lt.tr.get hlt
          obtain ⟨⟨za, zr, zh, zp⟩, hz⟩ : ∃ z, getE S N yi yg = z := ⟨_, rfl⟩
          have hS1 := hS.alloc HT0.out (.cells #[.int .i64 yi, .int .i64 yg] 33)
          have GA := Lib.hid (get_at hS1.lt.ht.st hz rfl)
          have HS1 := Lib.hid hS1
          have HY := Lib.hid hy
          have HZ := Lib.hid hz
          have HLN := Lib.hid (show (gots S N (l.take k)).length ≤ 1000 by rw [gots_len, List.length_take]; omega)
          clear hS1 hy hz hS S2
          go_wp2_with fail
          refine GA.out.mono ?_
          rintro e w4 ⟨rfl, hb4⟩
          have hS4 := (HS1.out.later HT0.out hb4).alloc HT0.out (.cells #[.int .i64 za, .int .i64 zr, .bool zh, .bool zp] 35)
          have HS4 := Lib.hid hS4
          have HS5 := Lib.hid (hS4.alloc HT0.out (.cells #[.int .i64 za, .int .i64 zr, .bool zh, .bool zp] 35))
          obtain ⟨k0, k1, k2, k3⟩ := (Whole.fresh w4 35 #[.int .i64 za, .int .i64 zr, .bool zh, .bool zp]).four
          clear hS4 hb4 GA HS1
          go_wp2_with (first
            | (at_builtin; refine append_ent _ rfl _ _ rfl _ _ _ rfl HS5.out.er _ _ ⟨za, zr, zh, zp⟩ rfl (Whole.fresh' (by simp)) (by have := HLN.out; omega) HS5.out.le ?_; intro v' w6 hr6 hg6; have HR6 := Lib.hid hr6; have HG6 := Lib.hid hg6; clear hr6 hg6))
          go_roundw
          case rel =>
            refine ⟨k + 1, by omega, by go_num, ?_⟩
            rw [gots_snoc HY.out HZ.out]
            exact HS4.out.grown HT0.out HR6.out HG6.out
          case measure => simp [intOf]; omega
        · obtain rfl : nl = k := by omega
          rw [List.take_of_length_le (by have := HNL.out; omega)] at hS
          obtain ⟨ge, ce, he⟩ := hS.er.head (by rw [gots_len]; have := HNL.out; omega)
          rw [gots_len, ← HNL.out] at he
          subst he
          obtain ⟨F, hF⟩ : ∃ F, staleE (freshB S N xi xg) = F := ⟨_, rfl⟩
          obtain ⟨⟨za, zr, zh, zp⟩, hz⟩ : ∃ z, getE S N xi xg = z := ⟨_, rfl⟩
          have GA := Lib.hid (get_at hS.lt.ht.st hz hF)
          have HS := Lib.hid hS
          have HF := Lib.hid hF
          obtain ⟨b0, b1⟩ := hS.box.two
          clear hS hz hF S2 c0 c1
          dsimp only at b0 b1
          go_wp2_with fail
          refine GA.out.mono ?_
          rintro e w4 ⟨rfl, hb4⟩
          have hS4 := (HS.out.later HT0.out hb4).alloc HT0.out (.cells #[.int .i64 za, .int .i64 zr, .bool zh, .bool zp] 35)
          have SA := set_all hS4.lt.ht.st xi xg ⟨ea, er, eh, ep⟩
          rw [HF.out] at SA
          have SA' : Calls Tryd.prog 18 #[.pointer (some ⟨B.t, 0, none⟩), .agg #[.int .i64 xi, .int .i64 xg], .agg #[.int .i64 ea, .int .i64 er, .bool eh, .bool ep]] _ _ := SA
          have HSA := Lib.hid SA'
          have HS4 := Lib.hid hS4
          obtain ⟨b0, b1⟩ := hS4.box.two
          obtain ⟨e0, e1, e2, e3⟩ := (W0.out.below hS4.lt.ht.bel (by simp)).four
          clear hb4 GA HS SA SA' hS4
          dsimp only at b0 b1
          go_wp2_with fail
          refine HSA.out.mono ?_
          rintro e w5 ⟨rfl, ho5, hs5⟩
          have HS5 := Lib.hid (HS4.out.step HT0.out ho5 hs5)
          obtain ⟨S5, hS5⟩ : ∃ S5, S5 = setSt S N xi xg ⟨ea, er, eh, ep⟩ := ⟨_, rfl⟩
          rw [← hS5] at HS5
          have HE5 := Lib.hid hS5
          clear ho5 hs5 HSA HS4 hS5 b0 b1 e0 e1 e2 e3
          go_wp2
          go_loopw [93] (fun x wr => ∃ k : Nat, k ≤ nl ∧ x = .int .i64 k ∧ Ls _ wr B N S5 base _ l _ (xi, xg) _ (.slice (some ⟨ge, 0, none⟩) nl ce) (gots S N l)) (fun x _ => nl - (intOf x).toNat)
          case atStart => exact ⟨0, Nat.zero_le _, rfl, HS5.out⟩
          case round =>
            clear hk hlt
            obtain ⟨k, hk, rfl, hS⟩ := hrel
            by_cases hlt : k < nl
            · obtain ⟨yi, yg, hy, y0, y1⟩ := hS.lt.tr.get hlt
              obtain ⟨⟨za, zr, zh, zp⟩, hz⟩ : ∃ z, getE S5 N yi yg = z := ⟨_, rfl⟩
              have hS1 := hS.alloc HT0.out (.cells #[.int .i64 yi, .int .i64 yg] 33)
              have GA := Lib.hid (get_at hS1.lt.ht.st hz rfl)
              have HS1 := Lib.hid hS1
              have HZ := Lib.hid hz
              have HY := Lib.hid hy
              have HBX := Lib.hid (Whole.fresh wr 33 #[.int .i64 yi, .int .i64 yg])
              clear hS1 hz hS HS5 hy
              go_wp2_with fail
              refine GA.out.mono ?_
              rintro e w6 ⟨rfl, hb6⟩
              have hS6 := (HS1.out.later HT0.out hb6).alloc HT0.out (.cells #[.int .i64 za, .int .i64 zr, .bool zh, .bool zp] 35)
              have HS6 := Lib.hid hS6
              obtain ⟨b0, b1⟩ := hS6.box.two
              obtain ⟨e0, e1, e2, e3⟩ := (W0.out.below hS6.lt.ht.bel (by simp)).four
              obtain ⟨x0, x1⟩ := ((HBX.out.below hb6 (by simp)).alloc (.cells #[.int .i64 za, .int .i64 zr, .bool zh, .bool zp] 35)).two
              obtain ⟨⟨pa, pr, ph, pp⟩, hp, p0, p1, p2, p3⟩ := hS6.er.get (by rw [gots_len, ← HNL.out]) hlt
              obtain ⟨k0, k1, k2, k3⟩ := (Whole.fresh w6 35 #[.int .i64 za, .int .i64 zr, .bool zh, .bool zp]).four
              have HP := Lib.hid (gots_at HY.out hp)
              clear hS6 hb6 GA HS1 hp HBX HY y0 y1
              dsimp only at b0 b1 p0 p1 p2 p3
              have i1 : (k : Int) < (nl : Int) := by omega
              by_cases hxy : yi = xi ∧ yg = xg
              · obtain ⟨rfl, rfl⟩ := hxy
                by_cases hF0 : F = 0
                · subst hF0
                  have hz := HZ.out
                  rw [HE5.out, get_set_same S N yi yg _ (staleE_ok.1 HF.out)] at hz
                  injection hz with z1 z2 z3 z4
                  subst z1 z2 z3 z4
                  clear HZ HP HF
                  go_wp2_with fail
                  go_quiet (fail)
                  go_wp2
                  go_roundw
                  case rel => exact ⟨k + 1, by omega, by go_num, HS6.out.drewN _⟩
                  case measure => simp [intOf]; omega
                · have d1 : (F == 0) = false := by simpa using hF0
                  go_wp2_with fail
                  go_quiet (fail)
                  go_wp2
                  go_roundw
                  case rel => exact ⟨k + 1, by omega, by go_num, HS6.out.drewN _⟩
                  case measure => simp [intOf]; omega
              · have hz := HZ.out
                rw [HE5.out, get_set_other S N xi xg _ yi yg hxy, HP.out] at hz
                injection hz with z1 z2 z3 z4
                subst z1 z2 z3 z4
                clear HZ HP
                by_cases hx0 : yi = xi
                · subst hx0
                  have d2 : (yg == xg) = false := by simp; exact fun e => hxy ⟨rfl, e⟩
                  clear hxy
                  go_wp2_with fail
                  go_quiet (fail)
                  go_wp2
                  go_roundw
                  case rel => exact ⟨k + 1, by omega, by go_num, HS6.out.drewN _⟩
                  case measure => simp [intOf]; omega
                · have d2 : (yi == xi) = false := by simpa using hx0
                  clear hxy
                  go_wp2_with fail
                  go_quiet (fail)
                  go_wp2
                  go_roundw
                  case rel => exact ⟨k + 1, by omega, by go_num, HS6.out.drewN _⟩
                  case measure => simp [intOf]; omega
            · obtain ⟨b0, b1⟩ := hS.box.two
              dsimp only at b0 b1
              have DA := Lib.hid (drop_all hS.lt.ht.st xi xg)
              have HS := Lib.hid hS
              clear hS HS5
              go_wp2_with fail
              refine DA.out.mono ?_
              rintro e w7 ⟨rfl, ho7, hs7⟩
              have HS7 := Lib.hid (HS.out.step HT0.out ho7 hs7)
              obtain ⟨S7, hS7⟩ : ∃ S7, S7 = dropSt S5 N xi xg := ⟨_, rfl⟩
              rw [← hS7] at HS7
              have HE7 := Lib.hid hS7
              clear ho7 hs7 DA HS hS7 b0 b1
              go_wp2
              go_loopw [135] (fun x wr => ∃ k : Nat, k ≤ nl ∧ x = .int .i64 k ∧ Ls _ wr B N S7 base _ l _ (xi, xg) _ (.slice (some ⟨ge, 0, none⟩) nl ce) (gots S N l)) (fun x _ => nl - (intOf x).toNat)
              case atStart => exact ⟨0, Nat.zero_le _, rfl, HS7.out⟩
              case round =>
                clear hk hlt
                obtain ⟨k, hk, rfl, hS⟩ := hrel
                by_cases hlt : k < nl
                · obtain ⟨yi, yg, hy, y0, y1⟩ := hS.lt.tr.get hlt
                  obtain ⟨⟨za, zr, zh, zp⟩, hz⟩ : ∃ z, getE S7 N yi yg = z := ⟨_, rfl⟩
                  have hS1 := hS.alloc HT0.out (.cells #[.int .i64 yi, .int .i64 yg] 33)
                  have GA := Lib.hid (get_at hS1.lt.ht.st hz rfl)
                  have HS1 := Lib.hid hS1
                  have HZ := Lib.hid hz
                  have HY := Lib.hid hy
                  have HBX := Lib.hid (Whole.fresh wr 33 #[.int .i64 yi, .int .i64 yg])
                  clear hS1 hz hS HS7 hy
                  go_wp2_with fail
                  refine GA.out.mono ?_
                  rintro e w6 ⟨rfl, hb6⟩
                  have hS6 := (HS1.out.later HT0.out hb6).alloc HT0.out (.cells #[.int .i64 za, .int .i64 zr, .bool zh, .bool zp] 35)
                  have HS6 := Lib.hid hS6
                  obtain ⟨b0, b1⟩ := hS6.box.two
                  obtain ⟨x0, x1⟩ := ((HBX.out.below hb6 (by simp)).alloc (.cells #[.int .i64 za, .int .i64 zr, .bool zh, .bool zp] 35)).two
                  obtain ⟨⟨pa, pr, ph, pp⟩, hp, p0, p1, p2, p3⟩ := hS6.er.get (by rw [gots_len, ← HNL.out]) hlt
                  obtain ⟨k0, k1, k2, k3⟩ := (Whole.fresh w6 35 #[.int .i64 za, .int .i64 zr, .bool zh, .bool zp]).four
                  have HP := Lib.hid (gots_at HY.out hp)
                  clear hS6 hb6 GA HS1 hp HBX HY y0 y1
                  dsimp only at b0 b1 p0 p1 p2 p3
                  have i1 : (k : Int) < (nl : Int) := by omega
                  by_cases hxy : yi = xi ∧ yg = xg
                  · obtain ⟨rfl, rfl⟩ := hxy
                    go_wp2_with fail
                    go_quiet (fail)
                    go_wp2
                    go_roundw
                    case rel => exact ⟨k + 1, by omega, by go_num, HS6.out.drewN _⟩
                    case measure => simp [intOf]; omega
                  · have hz := HZ.out
                    rw [HE7.out, get_drop_other S5 N xi xg yi yg hxy, HE5.out, get_set_other S N xi xg _ yi yg hxy, HP.out] at hz
                    injection hz with z1 z2 z3 z4
                    subst z1 z2 z3 z4
                    clear HZ HP
                    by_cases hx0 : yi = xi
                    · subst hx0
                      have d2 : (yg == xg) = false := by simp; exact fun e => hxy ⟨rfl, e⟩
                      clear hxy
                      go_wp2_with fail
                      go_quiet (fail)
                      go_wp2
                      go_roundw
                      case rel => exact ⟨k + 1, by omega, by go_num, HS6.out.drewN _⟩
                      case measure => simp [intOf]; omega
                    · have d2 : (yi == xi) = false := by simpa using hx0
                      clear hxy
                      go_wp2_with fail
                      go_quiet (fail)
                      go_wp2
                      go_roundw
                      case rel => exact ⟨k + 1, by omega, by go_num, HS6.out.drewN _⟩
                      case measure => simp [intOf]; omega
                · obtain ⟨b0, b1⟩ := hS.box.two
                  dsimp only at b0 b1
                  obtain ⟨⟨za, zr, zh, zp⟩, hz⟩ : ∃ z, getE S7 N xi xg = z := ⟨_, rfl⟩
                  have GA := Lib.hid (get_at (E := 8) hS.lt.ht.st hz (by rw [HE7.out, fresh_drop]; rfl))
                  have HS := Lib.hid hS
                  clear hS HS7 hz
                  go_wp2_with fail
                  refine GA.out.mono ?_
                  rintro e w8 ⟨rfl, hb8⟩
                  have HS8 := Lib.hid ((HS.out.later HT0.out hb8).alloc HT0.out (.cells #[.int .i64 za, .int .i64 zr, .bool zh, .bool zp] 35))
                  clear hb8 GA HS
                  go_wp2
                  go_ret
                  exact ⟨rfl, HB0.out.trans (HS8.out.lt.ht.bel.mono (by simp))⟩
end Go.Proofs.YtldlolgdglmocaaDoor
