/- The law TableOnce: no token is told twice; one that was dropped is stale for ever. -/
import Derived.Test.YtldlolgdglmocaaDoorTbOnceM
namespace Go.Proofs.YtldlolgdglmocaaDoor
open Go.RowKit

set_option maxRecDepth 100000 in
set_option maxHeartbeats 16000000 in
theorem once_walk (m : Int) (A : Option Addr) (n c : Nat) (la : List Ac) (w : World) (hl : TA w w.heap.size A n la) (hT : Tab w) :
    Calls Tryd.prog 5 #[.int .i64 m, .slice A n c] w fun e w' => e = .returned (.bool true) ∧ Below w.heap.size w w' := by
  obtain ⟨N, N1, N2, hN⟩ := size6 m
  have HN := Lib.hid hN
  have HL := Lib.hid hl
  clear hN hl
  go_enter Tryd.func5, Tryd.ntmps5
  go_upto_region 1 with (fail)
  go_cut [5] (fun s wc => s = .int .i64 (N : Nat) ∧ w = wc)
  case first =>
    by_cases h1 : m < 0
    all_goals
      go_wp2
      all_goals go_meet
      all_goals
        refine ⟨congrArg (Value.int .i64) ?_, rfl⟩
        have := HN.out
        split at this <;> omega
  case rest =>
    obtain ⟨rfl, rfl⟩ := hcut
    clear HN
    have NW := Lib.hid (tnew_ok N w N1 (by omega))
    go_wp2_with fail
    refine NW.out.mono ?_
    rintro e w1 ⟨B, rfl, hs1, hb1, hw1⟩
    have k1 := ht_new hT hs1 hb1 hw1
    have AL := Lib.hid (alive_any w1 k1.tab)
    have HK1 := Lib.hid k1
    clear k1 hs1 hb1 hw1 NW
    by_cases h100 : 100 < n
    · have d : (100 : Int) < (n : Int) := by omega
      go_wp2_with fail
      refine AL.out.mono ?_
      rintro e w2 ⟨rfl, hb2⟩
      have HK2 := Lib.hid (HK1.out.later hT hb2)
      have AL2 := Lib.hid (alive_any w2 HK2.out.tab)
      clear hb2 AL HK1
      go_wp2_with fail
      refine AL2.out.mono ?_
      rintro e w3 ⟨rfl, hb3⟩
      have HK3 := Lib.hid (HK2.out.later hT hb3)
      clear hb3 AL2 HK2
      go_wp2
      go_ret
      exact ⟨rfl, HK3.out.bel⟩
    · have d : decide ((100 : Int) < (n : Int)) = false := by simp; omega
      go_wp2_with fail
      refine AL.out.mono ?_
      rintro e w2 ⟨rfl, hb2⟩
      have HK2 := Lib.hid (HK1.out.later hT hb2)
      obtain ⟨base, hbase⟩ : ∃ base, base = w2.heap.size := ⟨_, rfl⟩
      have HO := Lib.hid (lo_new HK2.out)
      rw [← hbase] at HO
      clear hb2 AL HK1 hbase
      go_wp2
      go_loopw [8, 9, 56] (fun v u x wr => ∃ (k : Nat) (S : Nat → Sl) (l lg : List (Int × Int)), k ≤ n ∧ x = .int .i64 k ∧ l.length ≤ k ∧ lg.length ≤ k ∧ Lo w wr B N S base v l u lg ∧ OnceI S N l lg) (fun _ _ x _ => n - (intOf x).toNat)
      case atStart => exact ⟨0, _, [], [], Nat.zero_le _, rfl, Nat.le_refl _, Nat.le_refl _, HO.out, once_new N⟩
      case round =>
        clear HO HK2
        obtain ⟨k, S, l, lg, hk, rfl, hlk, hgk, hO, hI⟩ := hrel
        by_cases hlt : k < n
        · obtain ⟨b, off, f, rfl, hb, hf⟩ := (HL.out.below hO.lt.ht.bel).at_ hlt
          obtain ⟨kd, wh, rw, ti, tg, ⟨ea, er, eh, ep⟩⟩ := f
          obtain ⟨f0, f1, f2, f3, f4, f5, f6, f7, f8⟩ := hf
          dsimp only at f0 f1 f2 f3 f4 f5 f6 f7 f8
          have g0 : wr.cell? ⟨b, off + k * 9, none⟩ = some (.int .i64 kd) := f0
          clear f0
          have hO1 := hO.alloc hT (.cells #[.int .i64 kd, .int .i64 wh, .bool rw, .int .i64 ti, .int .i64 tg, .int .i64 ea, .int .i64 er, .bool eh, .bool ep] 37)
          have TK := token_of ⟨kd, wh, rw, ti, tg, ⟨ea, er, eh, ep⟩⟩ _ l _ _ hO1.lt.tr (by omega)
          unfold Ac.cells at TK
          dsimp only at TK
          have HTK := Lib.hid TK
          have HO1 := Lib.hid hO1
          have HX1 := Lib.hid (Whole.fresh wr 37 #[.int .i64 kd, .int .i64 wh, .bool rw, .int .i64 ti, .int .i64 tg, .int .i64 ea, .int .i64 er, .bool eh, .bool ep])
          have NB0 := hO.lt.not (g := wr.heap.size) hO.lt.le
          have HI0 := Lib.hid hI
          have d5 : decide ((k : Int) < (n : Int)) = true := by simp; omega
          have d6 : decide (k < n) = true := by simp; omega
          clear TK hO1 hO hI
          go_wp2_with fail
          refine HTK.out.mono ?_
          rintro e w3 ⟨⟨xi, xg⟩, rfl, _, hb3⟩
          have hO3 := (HO1.out.later hT hb3).alloc hT (.cells #[.int .i64 xi, .int .i64 xg] 33)
          have x3 := (HX1.out.below hb3 HX1.out.lt).alloc (.cells #[.int .i64 xi, .int .i64 xg] 33)
          have y3 := Whole.fresh w3 33 #[.int .i64 xi, .int .i64 xg]
          obtain ⟨ba, hba⟩ : ∃ ba, ba = wr.heap.size := ⟨_, rfl⟩
          rw [← hba] at x3 NB0 ⊢
          have NB := Lib.hid NB0
          have NX := Lib.hid (HO1.out.later hT hb3).lt
          have a0 : (w3.alloc (.cells #[.int .i64 xi, .int .i64 xg] 33)).cell? ⟨ba, 0, none⟩ = some (.int .i64 kd) := x3.cell 0
          have a5 : (w3.alloc (.cells #[.int .i64 xi, .int .i64 xg] 33)).cell? ⟨ba, 5, none⟩ = some (.int .i64 ea) := x3.cell 5
          have a6 : (w3.alloc (.cells #[.int .i64 xi, .int .i64 xg] 33)).cell? ⟨ba, 6, none⟩ = some (.int .i64 er) := x3.cell 6
          have a7 : (w3.alloc (.cells #[.int .i64 xi, .int .i64 xg] 33)).cell? ⟨ba, 7, none⟩ = some (.bool eh) := x3.cell 7
          have a8 : (w3.alloc (.cells #[.int .i64 xi, .int .i64 xg] 33)).cell? ⟨ba, 8, none⟩ = some (.bool ep) := x3.cell 8
          obtain ⟨b0, b1⟩ := y3.two
          have HO3 := Lib.hid hO3
          have HX3 := Lib.hid x3
          have HY3 := Lib.hid y3
          clear hb3 HTK HO1 HX1 x3 y3 g0 f1 f2 f3 f4 f5 f6 f7 f8 NB0 hba
          by_cases k0 : kd = 0
          · subst k0
            obtain ⟨S', hS'⟩ : ∃ S', S' = addSt S N ⟨ea, er, eh, ep⟩ := ⟨_, rfl⟩
            by_cases hfr : freeAt S N < N
            · have A1 := add_at hO3.lt.ht.st hO3.lt.ht.tab ⟨ea, er, eh, ep⟩ ⟨rfl, rfl, (show addE S N = 0 by unfold addE; rw [if_pos hfr])⟩
              rw [← hS'] at A1
              have HA1 := Lib.hid A1
              have HNW := Lib.hid (fun j i g (hx : l[j]? = some (i, g)) => HI0.out.new hfr hx)
              have HI := Lib.hid (HI0.out.add hfr ⟨ea, er, eh, ep⟩)
              rw [← hS'] at HI
              clear A1 hO3 hfr hS' HI0
              obtain ⟨yi, hyi⟩ : ∃ yi : Nat, yi = addI S N := ⟨_, rfl⟩
              obtain ⟨yg, hyg⟩ : ∃ yg : Nat, yg = addG S N := ⟨_, rfl⟩
              rw [← hyi, ← hyg] at HA1 HI HNW
              clear hyi hyg
              go_wp2_with fail
              refine HA1.out.mono ?_
              rintro e w4 ⟨rfl, ho4, hs4⟩
              have hO4' := HO3.out.step hT ho4 hs4
              have hO4 := hO4'.alloc hT (.cells #[.int .i64 (yi : Nat), .int .i64 (yg : Nat)] 33)
              have x4 := (ho4.whole HX3.out NB.out).alloc (.cells #[.int .i64 (yi : Nat), .int .i64 (yg : Nat)] 33)
              have y4 := Whole.fresh w4 33 #[.int .i64 (yi : Nat), .int .i64 (yg : Nat)]
              have HO4 := Lib.hid hO4
              have HX4 := Lib.hid x4
              have HY4 := Lib.hid y4
              obtain ⟨At, ct, hte⟩ := hO4.lt.tr.slice
              subst hte
              obtain ⟨nt, hnt⟩ : ∃ nt, nt = l.length := ⟨_, rfl⟩
              rw [← hnt] at HO4 ⊢
              have hntb : nt ≤ 1000 := by omega
              have HNT := Lib.hid hnt
              clear hO4 hO4' x4 y4 ho4 hs4 HA1 hnt HO3 HX3 HY3 NX a0 a5 a6 a7 a8 b0 b1
              go_wp2
              go_loopw [78] (fun x wq => ∃ j : Nat, j ≤ nt ∧ x = .int .i64 j ∧ Lo w wq B N S' base (.slice At nt ct) l _ lg ∧ Whole wq ba 37 #[.int .i64 0, .int .i64 wh, .bool rw, .int .i64 ti, .int .i64 tg, .int .i64 ea, .int .i64 er, .bool eh, .bool ep] ∧ Whole wq w4.heap.size 33 #[.int .i64 (yi : Nat), .int .i64 (yg : Nat)]) (fun x _ => nt - (intOf x).toNat)
              case atStart => exact ⟨0, Nat.zero_le _, rfl, HO4.out, HX4.out, HY4.out⟩
              case round =>
                obtain ⟨j, hj, rfl, hP, hX, hY⟩ := hrel
                rename World => wq
                clear HO4 HX4 HY4
                by_cases hjl : j < nt
                · obtain ⟨gg, cgg, e0⟩ := hP.lt.tr.head (by rw [← HNT.out]; omega)
                  injection e0 with e1 e2 e3
                  subst e1
                  clear e2 e3
                  obtain ⟨zi, zg, hz, z0, z1⟩ := hP.lt.tr.get hjl
                  have hnw := HNW.out j zi zg hz
                  have HP1 := Lib.hid (hP.alloc hT (.cells #[.int .i64 zi, .int .i64 zg] 33))
                  have HX1 := Lib.hid (hX.alloc (.cells #[.int .i64 zi, .int .i64 zg] 33))
                  have HY1 := Lib.hid (hY.alloc (.cells #[.int .i64 zi, .int .i64 zg] 33))
                  obtain ⟨t0, t1⟩ := (Whole.fresh wq 33 #[.int .i64 zi, .int .i64 zg]).two
                  obtain ⟨s0, s1⟩ := (hY.alloc (.cells #[.int .i64 zi, .int .i64 zg] 33)).two
                  have d7 : decide ((j : Int) < (nt : Int)) = true := by simp; omega
                  have d8 : decide (j < nt) = true := by simp; omega
                  clear hP hX hY hz
                  by_cases hx0 : zi = (yi : Int)
                  · subst hx0
                    have d2 : (zg == (yg : Int)) = false := by simp; exact fun e => hnw ⟨rfl, e⟩
                    clear hnw
                    go_wp2
                    go_roundw
                    case rel => exact ⟨j + 1, by omega, by go_num, HP1.out, HX1.out, HY1.out⟩
                    case measure => simp [intOf]; omega
                  · have d2 : (zi == (yi : Int)) = false := by simpa using hx0
                    clear hnw
                    go_wp2
                    go_roundw
                    case rel => exact ⟨j + 1, by omega, by go_num, HP1.out, HX1.out, HY1.out⟩
                    case measure => simp [intOf]; omega
                · have HP1 := Lib.hid hP
                  have HP2 := Lib.hid (hP.alloc hT (.cells #[.int .i64 (yi : Nat), .int .i64 (yg : Nat)] 33))
                  have HX2 := Lib.hid hX
                  obtain ⟨s0, s1⟩ := hY.two
                  obtain ⟨Ag, cg, hge⟩ := hP.tr.slice
                  subst hge
                  obtain ⟨ng, hng⟩ : ∃ ng, ng = lg.length := ⟨_, rfl⟩
                  rw [← hng] at HP1 HP2 ⊢
                  have HNG := Lib.hid hng
                  have hnb : ng ≤ 1000 := by omega
                  clear hP hX hY hng
                  go_wp2_with (first
                    | (at_builtin; refine append_tok2 _ rfl _ _ rfl _ _ l rfl HP2.out.lt.tr _ _ _ _ rfl (Whole.fresh' (by simp)) (by have := HNT.out; omega) HP2.out.lt.le ?_; intro v' w6 hr6 hg6 ha6; have HR6 := Lib.hid hr6; have HG6 := Lib.hid hg6; have HA6 := Lib.hid ha6; clear hr6 hg6 ha6))
                  have HP := Lib.hid (HP1.out.told hT HR6.out HG6.out HA6.out)
                  have HX := Lib.hid (HX2.out.kept HG6.out (HX2.out.apart HP1.out.lt.tr (by decide)))
                  have HLL := Lib.hid (show (l ++ [((yi : Int), (yg : Int))]).length ≤ k + 1 by simp; omega)
                  have HLG := Lib.hid (show lg.length ≤ k + 1 by omega)
                  clear HP1 HP2 HX2 HR6 HG6 HA6 s0 s1
                  go_loopw [102] (fun x wq => ∃ j : Nat, j ≤ ng ∧ x = .int .i64 j ∧ Lo w wq B N S' base _ (l ++ [((yi : Int), (yg : Int))]) (.slice Ag ng cg) (lg) ∧ Whole wq ba 37 #[.int .i64 0, .int .i64 wh, .bool rw, .int .i64 ti, .int .i64 tg, .int .i64 ea, .int .i64 er, .bool eh, .bool ep]) (fun x _ => ng - (intOf x).toNat)
                  case atStart => exact ⟨0, Nat.zero_le _, rfl, HP.out, HX.out⟩
                  case round =>
                    obtain ⟨j, hj, rfl, hP, hX⟩ := hrel
                    rename World => wq
                    clear HP HX
                    by_cases hjl : j < ng
                    · obtain ⟨gg, cgg, e0⟩ := hP.tr.head (by rw [← HNG.out]; omega)
                      injection e0 with e1 e2 e3
                      subst e1
                      clear e2 e3
                      obtain ⟨zi, zg, hz, z0, z1⟩ := hP.tr.get hjl
                      have hst := HI.out.stale hz
                      have hP1 := hP.alloc hT (.cells #[.int .i64 zi, .int .i64 zg] 33)
                      have GA := Lib.hid (get_at (E := 8) (z := ⟨0, 0, false, false⟩) hP1.lt.ht.st (stale_get hst) (by rw [hst]; rfl))
                      have HST := Lib.hid hst
                      have HP1 := Lib.hid hP1
                      have HX1 := Lib.hid (hX.alloc (.cells #[.int .i64 zi, .int .i64 zg] 33))
                      have HY1 := Lib.hid (Whole.fresh wq 33 #[.int .i64 zi, .int .i64 zg])
                      have NY := Lib.hid (hP.lt.not (g := wq.heap.size) hP.lt.le)
                      have d7 : decide ((j : Int) < (ng : Int)) = true := by simp; omega
                      have d8 : decide (j < ng) = true := by simp; omega
                      clear hP1 hP hX hz hst
                      go_wp2_with fail
                      refine GA.out.mono ?_
                      rintro e w7 ⟨rfl, hb7⟩
                      have hP7 := (HP1.out.later hT hb7).alloc hT (.cells #[.int .i64 0, .int .i64 0, .bool false, .bool false] 35)
                      have x7 := (HX1.out.below hb7 HX1.out.lt).alloc (.cells #[.int .i64 0, .int .i64 0, .bool false, .bool false] 35)
                      have y7 := (HY1.out.below hb7 HY1.out.lt).alloc (.cells #[.int .i64 0, .int .i64 0, .bool false, .bool false] 35)
                      have SA : Calls Tryd.prog 18 #[.pointer (some ⟨B.t, 0, none⟩), .agg #[.int .i64 zi, .int .i64 zg], .agg #[.int .i64 ea, .int .i64 er, .bool eh, .bool ep]] (w7.alloc (.cells #[.int .i64 0, .int .i64 0, .bool false, .bool false] 35)) (TbPost (w7.alloc (.cells #[.int .i64 0, .int .i64 0, .bool false, .bool false] 35)) B N 8 S') := by
                        have := set_all hP7.lt.ht.st zi zg ⟨ea, er, eh, ep⟩
                        rw [stale_set HST.out, HST.out] at this
                        exact this
                      have HSA := Lib.hid SA
                      have HP7 := Lib.hid hP7
                      have HX7 := Lib.hid x7
                      have HY7 := Lib.hid y7
                      obtain ⟨t0, t1⟩ := y7.two
                      have a5 : World.cell? _ ⟨ba, 5, none⟩ = some (.int .i64 ea) := x7.cell 5
                      have a6 : World.cell? _ ⟨ba, 6, none⟩ = some (.int .i64 er) := x7.cell 6
                      have a7 : World.cell? _ ⟨ba, 7, none⟩ = some (.bool eh) := x7.cell 7
                      have a8 : World.cell? _ ⟨ba, 8, none⟩ = some (.bool ep) := x7.cell 8
                      clear SA GA HP1 HX1 HY1 hP7 x7 y7 hb7 z0 z1
                      go_wp2_with fail
                      refine HSA.out.mono ?_
                      rintro e w8 ⟨rfl, ho8, hs8⟩
                      have hP8 := HP7.out.step hT ho8 hs8
                      have x8 := ho8.whole HX7.out NB.out
                      have y8 := ho8.whole HY7.out NY.out
                      have DA : Calls Tryd.prog 19 #[.pointer (some ⟨B.t, 0, none⟩), .agg #[.int .i64 zi, .int .i64 zg]] w8 (TbPost w8 B N 8 S') := by
                        have := drop_all hP8.lt.ht.st zi zg
                        rw [stale_drop HST.out, HST.out] at this
                        exact this
                      have HDA := Lib.hid DA
                      have HP8 := Lib.hid hP8
                      have HX8 := Lib.hid x8
                      obtain ⟨t0, t1⟩ := y8.two
                      clear DA HSA HP7 HX7 HY7 hP8 x8 y8 ho8 hs8 a5 a6 a7 a8
                      go_wp2_with fail
                      refine HDA.out.mono ?_
                      rintro e w9 ⟨rfl, ho9, hs9⟩
                      have HP9 := Lib.hid (HP8.out.step hT ho9 hs9)
                      have HX9 := Lib.hid (ho9.whole HX8.out NB.out)
                      clear HDA HP8 HX8 ho9 hs9 t0 t1
                      go_wp2
                      go_roundw
                      case rel => exact ⟨j + 1, by omega, by go_num, HP9.out, HX9.out⟩
                      case measure => simp [intOf]; omega
                    · clear hX
                      go_wp2
                      go_roundw
                      case rel => exact ⟨k + 1, S', l ++ [((yi : Int), (yg : Int))], lg, by omega, by go_num, HLL.out, HLG.out, hP, HI.out⟩
                      case measure => simp [intOf]; omega
            · have A1 := add_at hO3.lt.ht.st hO3.lt.ht.tab ⟨ea, er, eh, ep⟩ ⟨rfl, rfl, (show addE S N = 12 by unfold addE; rw [if_neg hfr])⟩
              have e9 : addSt S N ⟨ea, er, eh, ep⟩ = S := by unfold addSt; rw [if_neg hfr]
              rw [e9] at A1
              have HA1 := Lib.hid A1
              clear A1 hO3 hfr hS' e9
              go_wp2_with fail
              refine HA1.out.mono ?_
              rintro e w4 ⟨rfl, ho4, hs4⟩
              have HO4 := Lib.hid ((HO3.out.step hT ho4 hs4).alloc hT (.cells #[.int .i64 (addI S N : Nat), .int .i64 (addG S N : Nat)] 33))
              clear ho4 hs4 HA1
              go_wp2
              go_roundw
              case rel => exact ⟨k + 1, S, l, lg, by omega, by go_num, by omega, by omega, HO4.out, HI0.out⟩
              case measure => simp [intOf]; omega
          · have d0 : (kd == 0) = false := by simpa using k0
            by_cases k3 : kd = 3
            · subst k3
              obtain ⟨S', hS'⟩ : ∃ S', S' = dropSt S N xi xg := ⟨_, rfl⟩
              have DA := drop_all hO3.lt.ht.st xi xg
              rw [← hS'] at DA
              cases hfr : freshB S N xi xg
              · rw [hfr] at DA
                have DA' : Calls Tryd.prog 19 #[.pointer (some ⟨B.t, 0, none⟩), .agg #[.int .i64 xi, .int .i64 xg]] (w3.alloc (.cells #[.int .i64 xi, .int .i64 xg] 33)) (TbPost (w3.alloc (.cells #[.int .i64 xi, .int .i64 xg] 33)) B N 8 S') := DA
                have HDA := Lib.hid DA'
                have HI := HI0.out.nodrop hfr
                rw [← hS'] at HI
                have HI := Lib.hid HI
                clear DA DA' hfr hS' HI0 hO3
                go_wp2_with fail
                refine HDA.out.mono ?_
                rintro e w4 ⟨rfl, ho4, hs4⟩
                have HP := Lib.hid (HO3.out.step hT ho4 hs4)
                have HX := Lib.hid (ho4.whole HX3.out NB.out)
                have HLL := Lib.hid (show l.length ≤ k + 1 by omega)
                have HLG := Lib.hid (show lg.length ≤ k + 1 by omega)
                clear HDA ho4 hs4 HO3 HX3 HY3 NX a0 a5 a6 a7 a8 b0 b1
                obtain ⟨Ag, cg, hge⟩ := HP.out.tr.slice
                subst hge
                obtain ⟨ng, hng⟩ : ∃ ng, ng = (lg).length := ⟨_, rfl⟩
                rw [← hng] at HP ⊢
                have HNG := Lib.hid hng
                have hnb : ng ≤ 1000 := by
                  rw [hng]
                  have := HLG.out
                  omega
                clear hng
                go_wp2
                go_loopw [102] (fun x wq => ∃ j : Nat, j ≤ ng ∧ x = .int .i64 j ∧ Lo w wq B N S' base _ (l) (.slice Ag ng cg) (lg) ∧ Whole wq ba 37 #[.int .i64 3, .int .i64 wh, .bool rw, .int .i64 ti, .int .i64 tg, .int .i64 ea, .int .i64 er, .bool eh, .bool ep]) (fun x _ => ng - (intOf x).toNat)
                case atStart => exact ⟨0, Nat.zero_le _, rfl, HP.out, HX.out⟩
                case round =>
                  obtain ⟨j, hj, rfl, hP, hX⟩ := hrel
                  rename World => wq
                  clear HP HX
                  by_cases hjl : j < ng
                  · obtain ⟨gg, cgg, e0⟩ := hP.tr.head (by rw [← HNG.out]; omega)
                    injection e0 with e1 e2 e3
                    subst e1
                    clear e2 e3
                    obtain ⟨zi, zg, hz, z0, z1⟩ := hP.tr.get hjl
                    have hst := HI.out.stale hz
                    have hP1 := hP.alloc hT (.cells #[.int .i64 zi, .int .i64 zg] 33)
                    have GA := Lib.hid (get_at (E := 8) (z := ⟨0, 0, false, false⟩) hP1.lt.ht.st (stale_get hst) (by rw [hst]; rfl))
                    have HST := Lib.hid hst
                    have HP1 := Lib.hid hP1
                    have HX1 := Lib.hid (hX.alloc (.cells #[.int .i64 zi, .int .i64 zg] 33))
                    have HY1 := Lib.hid (Whole.fresh wq 33 #[.int .i64 zi, .int .i64 zg])
                    have NY := Lib.hid (hP.lt.not (g := wq.heap.size) hP.lt.le)
                    have d7 : decide ((j : Int) < (ng : Int)) = true := by simp; omega
                    have d8 : decide (j < ng) = true := by simp; omega
                    clear hP1 hP hX hz hst
                    go_wp2_with fail
                    refine GA.out.mono ?_
                    rintro e w7 ⟨rfl, hb7⟩
                    have hP7 := (HP1.out.later hT hb7).alloc hT (.cells #[.int .i64 0, .int .i64 0, .bool false, .bool false] 35)
                    have x7 := (HX1.out.below hb7 HX1.out.lt).alloc (.cells #[.int .i64 0, .int .i64 0, .bool false, .bool false] 35)
                    have y7 := (HY1.out.below hb7 HY1.out.lt).alloc (.cells #[.int .i64 0, .int .i64 0, .bool false, .bool false] 35)
                    have SA : Calls Tryd.prog 18 #[.pointer (some ⟨B.t, 0, none⟩), .agg #[.int .i64 zi, .int .i64 zg], .agg #[.int .i64 ea, .int .i64 er, .bool eh, .bool ep]] (w7.alloc (.cells #[.int .i64 0, .int .i64 0, .bool false, .bool false] 35)) (TbPost (w7.alloc (.cells #[.int .i64 0, .int .i64 0, .bool false, .bool false] 35)) B N 8 S') := by
                      have := set_all hP7.lt.ht.st zi zg ⟨ea, er, eh, ep⟩
                      rw [stale_set HST.out, HST.out] at this
                      exact this
                    have HSA := Lib.hid SA
                    have HP7 := Lib.hid hP7
                    have HX7 := Lib.hid x7
                    have HY7 := Lib.hid y7
                    obtain ⟨t0, t1⟩ := y7.two
                    have a5 : World.cell? _ ⟨ba, 5, none⟩ = some (.int .i64 ea) := x7.cell 5
                    have a6 : World.cell? _ ⟨ba, 6, none⟩ = some (.int .i64 er) := x7.cell 6
                    have a7 : World.cell? _ ⟨ba, 7, none⟩ = some (.bool eh) := x7.cell 7
                    have a8 : World.cell? _ ⟨ba, 8, none⟩ = some (.bool ep) := x7.cell 8
                    clear SA GA HP1 HX1 HY1 hP7 x7 y7 hb7 z0 z1
                    go_wp2_with fail
                    refine HSA.out.mono ?_
                    rintro e w8 ⟨rfl, ho8, hs8⟩
                    have hP8 := HP7.out.step hT ho8 hs8
                    have x8 := ho8.whole HX7.out NB.out
                    have y8 := ho8.whole HY7.out NY.out
                    have DA : Calls Tryd.prog 19 #[.pointer (some ⟨B.t, 0, none⟩), .agg #[.int .i64 zi, .int .i64 zg]] w8 (TbPost w8 B N 8 S') := by
                      have := drop_all hP8.lt.ht.st zi zg
                      rw [stale_drop HST.out, HST.out] at this
                      exact this
                    have HDA := Lib.hid DA
                    have HP8 := Lib.hid hP8
                    have HX8 := Lib.hid x8
                    obtain ⟨t0, t1⟩ := y8.two
                    clear DA HSA HP7 HX7 HY7 hP8 x8 y8 ho8 hs8 a5 a6 a7 a8
                    go_wp2_with fail
                    refine HDA.out.mono ?_
                    rintro e w9 ⟨rfl, ho9, hs9⟩
                    have HP9 := Lib.hid (HP8.out.step hT ho9 hs9)
                    have HX9 := Lib.hid (ho9.whole HX8.out NB.out)
                    clear HDA HP8 HX8 ho9 hs9 t0 t1
                    go_wp2
                    go_roundw
                    case rel => exact ⟨j + 1, by omega, by go_num, HP9.out, HX9.out⟩
                    case measure => simp [intOf]; omega
                  · clear hX
                    go_wp2
                    go_roundw
                    case rel => exact ⟨k + 1, S', l, lg, by omega, by go_num, HLL.out, HLG.out, hP, HI.out⟩
                    case measure => simp [intOf]; omega
              · rw [hfr] at DA
                have DA' : Calls Tryd.prog 19 #[.pointer (some ⟨B.t, 0, none⟩), .agg #[.int .i64 xi, .int .i64 xg]] (w3.alloc (.cells #[.int .i64 xi, .int .i64 xg] 33)) (TbPost (w3.alloc (.cells #[.int .i64 xi, .int .i64 xg] 33)) B N 0 S') := DA
                have HDA := Lib.hid DA'
                have HI := HI0.out.drop hfr
                rw [← hS'] at HI
                have HI := Lib.hid HI
                clear DA DA' hfr hS' HI0 hO3
                go_wp2_with fail
                refine HDA.out.mono ?_
                rintro e w4 ⟨rfl, ho4, hs4⟩
                have hO4 := HO3.out.step hT ho4 hs4
                have HO4 := Lib.hid hO4
                have HO5 := Lib.hid (hO4.alloc hT (.cells #[.int .i64 xi, .int .i64 xg] 33))
                have HX4 := Lib.hid (ho4.whole HX3.out NB.out)
                obtain ⟨s0, s1⟩ := (ho4.whole HY3.out (NX.out.not NX.out.le)).two
                clear HDA ho4 hs4 HO3 HX3 HY3 NX hO4 a0 a5 a6 a7 a8 b0 b1
                go_wp2_with (first
                  | (at_builtin; refine append_tok2 _ rfl _ _ rfl _ _ lg rfl HO5.out.tr _ _ _ _ rfl (Whole.fresh' (by simp)) (by omega) HO5.out.lt.le ?_; intro v' w6 hr6 hg6 ha6; obtain ⟨Ag, cg, hge⟩ := hr6.slice; subst hge; obtain ⟨ng, hng⟩ : ∃ ng, ng = (lg ++ [(xi, xg)]).length := ⟨_, rfl⟩; rw [← hng] at hr6 ha6 ⊢; have hnb : ng ≤ 1000 := (by rw [hng]; simp; omega); have HNG := Lib.hid hng; have HR6 := Lib.hid hr6; have HG6 := Lib.hid hg6; have HA6 := Lib.hid ha6; clear hr6 hg6 ha6 hng))
                have HP := Lib.hid (HO4.out.gone hT HR6.out HG6.out HA6.out)
                have HX := Lib.hid (HX4.out.kept HG6.out (HX4.out.apart HO4.out.tr (by decide)))
                have HLL := Lib.hid (show l.length ≤ k + 1 by omega)
                have HLG := Lib.hid (show (lg ++ [(xi, xg)]).length ≤ k + 1 by simp; omega)
                clear HO4 HO5 HX4 HR6 HG6 HA6 s0 s1
                go_loopw [102] (fun x wq => ∃ j : Nat, j ≤ ng ∧ x = .int .i64 j ∧ Lo w wq B N S' base _ (l) (.slice Ag ng cg) (lg ++ [(xi, xg)]) ∧ Whole wq ba 37 #[.int .i64 3, .int .i64 wh, .bool rw, .int .i64 ti, .int .i64 tg, .int .i64 ea, .int .i64 er, .bool eh, .bool ep]) (fun x _ => ng - (intOf x).toNat)
                case atStart => exact ⟨0, Nat.zero_le _, rfl, HP.out, HX.out⟩
                case round =>
                  obtain ⟨j, hj, rfl, hP, hX⟩ := hrel
                  rename World => wq
                  clear HP HX
                  by_cases hjl : j < ng
                  · obtain ⟨gg, cgg, e0⟩ := hP.tr.head (by rw [← HNG.out]; omega)
                    injection e0 with e1 e2 e3
                    subst e1
                    clear e2 e3
                    obtain ⟨zi, zg, hz, z0, z1⟩ := hP.tr.get hjl
                    have hst := HI.out.stale hz
                    have hP1 := hP.alloc hT (.cells #[.int .i64 zi, .int .i64 zg] 33)
                    have GA := Lib.hid (get_at (E := 8) (z := ⟨0, 0, false, false⟩) hP1.lt.ht.st (stale_get hst) (by rw [hst]; rfl))
                    have HST := Lib.hid hst
                    have HP1 := Lib.hid hP1
                    have HX1 := Lib.hid (hX.alloc (.cells #[.int .i64 zi, .int .i64 zg] 33))
                    have HY1 := Lib.hid (Whole.fresh wq 33 #[.int .i64 zi, .int .i64 zg])
                    have NY := Lib.hid (hP.lt.not (g := wq.heap.size) hP.lt.le)
                    have d7 : decide ((j : Int) < (ng : Int)) = true := by simp; omega
                    have d8 : decide (j < ng) = true := by simp; omega
                    clear hP1 hP hX hz hst
                    go_wp2_with fail
                    refine GA.out.mono ?_
                    rintro e w7 ⟨rfl, hb7⟩
                    have hP7 := (HP1.out.later hT hb7).alloc hT (.cells #[.int .i64 0, .int .i64 0, .bool false, .bool false] 35)
                    have x7 := (HX1.out.below hb7 HX1.out.lt).alloc (.cells #[.int .i64 0, .int .i64 0, .bool false, .bool false] 35)
                    have y7 := (HY1.out.below hb7 HY1.out.lt).alloc (.cells #[.int .i64 0, .int .i64 0, .bool false, .bool false] 35)
                    have SA : Calls Tryd.prog 18 #[.pointer (some ⟨B.t, 0, none⟩), .agg #[.int .i64 zi, .int .i64 zg], .agg #[.int .i64 ea, .int .i64 er, .bool eh, .bool ep]] (w7.alloc (.cells #[.int .i64 0, .int .i64 0, .bool false, .bool false] 35)) (TbPost (w7.alloc (.cells #[.int .i64 0, .int .i64 0, .bool false, .bool false] 35)) B N 8 S') := by
                      have := set_all hP7.lt.ht.st zi zg ⟨ea, er, eh, ep⟩
                      rw [stale_set HST.out, HST.out] at this
                      exact this
                    have HSA := Lib.hid SA
                    have HP7 := Lib.hid hP7
                    have HX7 := Lib.hid x7
                    have HY7 := Lib.hid y7
                    obtain ⟨t0, t1⟩ := y7.two
                    have a5 : World.cell? _ ⟨ba, 5, none⟩ = some (.int .i64 ea) := x7.cell 5
                    have a6 : World.cell? _ ⟨ba, 6, none⟩ = some (.int .i64 er) := x7.cell 6
                    have a7 : World.cell? _ ⟨ba, 7, none⟩ = some (.bool eh) := x7.cell 7
                    have a8 : World.cell? _ ⟨ba, 8, none⟩ = some (.bool ep) := x7.cell 8
                    clear SA GA HP1 HX1 HY1 hP7 x7 y7 hb7 z0 z1
                    go_wp2_with fail
                    refine HSA.out.mono ?_
                    rintro e w8 ⟨rfl, ho8, hs8⟩
                    have hP8 := HP7.out.step hT ho8 hs8
                    have x8 := ho8.whole HX7.out NB.out
                    have y8 := ho8.whole HY7.out NY.out
                    have DA : Calls Tryd.prog 19 #[.pointer (some ⟨B.t, 0, none⟩), .agg #[.int .i64 zi, .int .i64 zg]] w8 (TbPost w8 B N 8 S') := by
                      have := drop_all hP8.lt.ht.st zi zg
                      rw [stale_drop HST.out, HST.out] at this
                      exact this
                    have HDA := Lib.hid DA
                    have HP8 := Lib.hid hP8
                    have HX8 := Lib.hid x8
                    obtain ⟨t0, t1⟩ := y8.two
                    clear DA HSA HP7 HX7 HY7 hP8 x8 y8 ho8 hs8 a5 a6 a7 a8
                    go_wp2_with fail
                    refine HDA.out.mono ?_
                    rintro e w9 ⟨rfl, ho9, hs9⟩
                    have HP9 := Lib.hid (HP8.out.step hT ho9 hs9)
                    have HX9 := Lib.hid (ho9.whole HX8.out NB.out)
                    clear HDA HP8 HX8 ho9 hs9 t0 t1
                    go_wp2
                    go_roundw
                    case rel => exact ⟨j + 1, by omega, by go_num, HP9.out, HX9.out⟩
                    case measure => simp [intOf]; omega
                  · clear hX
                    go_wp2
                    go_roundw
                    case rel => exact ⟨k + 1, S', l, lg ++ [(xi, xg)], by omega, by go_num, HLL.out, HLG.out, hP, HI.out⟩
                    case measure => simp [intOf]; omega
            · have d3 : (kd == 3) = false := by simpa using k3
              obtain ⟨S', hS'⟩ : ∃ S', S' = S := ⟨_, rfl⟩
              rw [← hS'] at HO3 HI0
              have HP := Lib.hid HO3.out
              have HX := Lib.hid HX3.out
              have HI := Lib.hid HI0.out
              have HLL := Lib.hid (show l.length ≤ k + 1 by omega)
              have HLG := Lib.hid (show lg.length ≤ k + 1 by omega)
              clear hS' hO3 HO3 HX3 HI0 HY3 NX a5 a6 a7 a8 b0 b1
              obtain ⟨Ag, cg, hge⟩ := HP.out.tr.slice
              subst hge
              obtain ⟨ng, hng⟩ : ∃ ng, ng = (lg).length := ⟨_, rfl⟩
              rw [← hng] at HP ⊢
              have HNG := Lib.hid hng
              have hnb : ng ≤ 1000 := by
                rw [hng]
                have := HLG.out
                omega
              clear hng
              go_wp2
              go_loopw [102] (fun x wq => ∃ j : Nat, j ≤ ng ∧ x = .int .i64 j ∧ Lo w wq B N S' base _ (l) (.slice Ag ng cg) (lg) ∧ Whole wq ba 37 #[.int .i64 kd, .int .i64 wh, .bool rw, .int .i64 ti, .int .i64 tg, .int .i64 ea, .int .i64 er, .bool eh, .bool ep]) (fun x _ => ng - (intOf x).toNat)
              case atStart => exact ⟨0, Nat.zero_le _, rfl, HP.out, HX.out⟩
              case round =>
                obtain ⟨j, hj, rfl, hP, hX⟩ := hrel
                rename World => wq
                clear HP HX
                by_cases hjl : j < ng
                · obtain ⟨gg, cgg, e0⟩ := hP.tr.head (by rw [← HNG.out]; omega)
                  injection e0 with e1 e2 e3
                  subst e1
                  clear e2 e3
                  obtain ⟨zi, zg, hz, z0, z1⟩ := hP.tr.get hjl
                  have hst := HI.out.stale hz
                  have hP1 := hP.alloc hT (.cells #[.int .i64 zi, .int .i64 zg] 33)
                  have GA := Lib.hid (get_at (E := 8) (z := ⟨0, 0, false, false⟩) hP1.lt.ht.st (stale_get hst) (by rw [hst]; rfl))
                  have HST := Lib.hid hst
                  have HP1 := Lib.hid hP1
                  have HX1 := Lib.hid (hX.alloc (.cells #[.int .i64 zi, .int .i64 zg] 33))
                  have HY1 := Lib.hid (Whole.fresh wq 33 #[.int .i64 zi, .int .i64 zg])
                  have NY := Lib.hid (hP.lt.not (g := wq.heap.size) hP.lt.le)
                  have d7 : decide ((j : Int) < (ng : Int)) = true := by simp; omega
                  have d8 : decide (j < ng) = true := by simp; omega
                  clear hP1 hP hX hz hst
                  go_wp2_with fail
                  refine GA.out.mono ?_
                  rintro e w7 ⟨rfl, hb7⟩
                  have hP7 := (HP1.out.later hT hb7).alloc hT (.cells #[.int .i64 0, .int .i64 0, .bool false, .bool false] 35)
                  have x7 := (HX1.out.below hb7 HX1.out.lt).alloc (.cells #[.int .i64 0, .int .i64 0, .bool false, .bool false] 35)
                  have y7 := (HY1.out.below hb7 HY1.out.lt).alloc (.cells #[.int .i64 0, .int .i64 0, .bool false, .bool false] 35)
                  have SA : Calls Tryd.prog 18 #[.pointer (some ⟨B.t, 0, none⟩), .agg #[.int .i64 zi, .int .i64 zg], .agg #[.int .i64 ea, .int .i64 er, .bool eh, .bool ep]] (w7.alloc (.cells #[.int .i64 0, .int .i64 0, .bool false, .bool false] 35)) (TbPost (w7.alloc (.cells #[.int .i64 0, .int .i64 0, .bool false, .bool false] 35)) B N 8 S') := by
                    have := set_all hP7.lt.ht.st zi zg ⟨ea, er, eh, ep⟩
                    rw [stale_set HST.out, HST.out] at this
                    exact this
                  have HSA := Lib.hid SA
                  have HP7 := Lib.hid hP7
                  have HX7 := Lib.hid x7
                  have HY7 := Lib.hid y7
                  obtain ⟨t0, t1⟩ := y7.two
                  have a5 : World.cell? _ ⟨ba, 5, none⟩ = some (.int .i64 ea) := x7.cell 5
                  have a6 : World.cell? _ ⟨ba, 6, none⟩ = some (.int .i64 er) := x7.cell 6
                  have a7 : World.cell? _ ⟨ba, 7, none⟩ = some (.bool eh) := x7.cell 7
                  have a8 : World.cell? _ ⟨ba, 8, none⟩ = some (.bool ep) := x7.cell 8
                  clear SA GA HP1 HX1 HY1 hP7 x7 y7 hb7 z0 z1
                  go_wp2_with fail
                  refine HSA.out.mono ?_
                  rintro e w8 ⟨rfl, ho8, hs8⟩
                  have hP8 := HP7.out.step hT ho8 hs8
                  have x8 := ho8.whole HX7.out NB.out
                  have y8 := ho8.whole HY7.out NY.out
                  have DA : Calls Tryd.prog 19 #[.pointer (some ⟨B.t, 0, none⟩), .agg #[.int .i64 zi, .int .i64 zg]] w8 (TbPost w8 B N 8 S') := by
                    have := drop_all hP8.lt.ht.st zi zg
                    rw [stale_drop HST.out, HST.out] at this
                    exact this
                  have HDA := Lib.hid DA
                  have HP8 := Lib.hid hP8
                  have HX8 := Lib.hid x8
                  obtain ⟨t0, t1⟩ := y8.two
                  clear DA HSA HP7 HX7 HY7 hP8 x8 y8 ho8 hs8 a5 a6 a7 a8
                  go_wp2_with fail
                  refine HDA.out.mono ?_
                  rintro e w9 ⟨rfl, ho9, hs9⟩
                  have HP9 := Lib.hid (HP8.out.step hT ho9 hs9)
                  have HX9 := Lib.hid (ho9.whole HX8.out NB.out)
                  clear HDA HP8 HX8 ho9 hs9 t0 t1
                  go_wp2
                  go_roundw
                  case rel => exact ⟨j + 1, by omega, by go_num, HP9.out, HX9.out⟩
                  case measure => simp [intOf]; omega
                · clear hX
                  go_wp2
                  go_roundw
                  case rel => exact ⟨k + 1, S', l, lg, by omega, by go_num, HLL.out, HLG.out, hP, HI.out⟩
                  case measure => simp [intOf]; omega
        · have hst := hO.lt.ht.st
          obtain ⟨cu, hcu⟩ : ∃ cu, BM.cnt (isUsed S) N = cu := ⟨_, rfl⟩
          obtain ⟨ct, hct⟩ : ∃ ct, BM.cnt (isTaken S) N = ct := ⟨_, rfl⟩
          have hle2 := cnt_mono (isUsed S) (isTaken S) N (fun i h => by unfold isUsed at h; unfold isTaken; rw [h]; rfl)
          have hle1 := BM.cnt_le (isTaken S) N
          have hcn := hI.cnt
          have U1 := fun m => used_any (hO.drewN m).lt.ht.st
          have L1 := fun m => left_any (hO.drewN m).lt.ht.st
          have R1 := fun m => retired_any (hO.drewN m).lt.ht.st
          rw [hcu] at U1 hle2 hcn
          rw [hct] at L1 hle2 hle1
          rw [hct, hcu] at R1
          have U0 : Calls Tryd.prog 20 #[.pointer (some ⟨B.t, 0, none⟩)] wr fun e w' => e = .returned (.int .i64 (cu : Nat)) ∧ wr = w' := U1 0
          have L0 : Calls Tryd.prog 21 #[.pointer (some ⟨B.t, 0, none⟩)] wr fun e w' => e = .returned (.int .i64 ((N - ct : Nat) : Nat)) ∧ ∃ m, w' = wr.drewN m := L1 0
          rw [show ((N - ct : Nat) : Int) = (N : Int) - (ct : Int) by omega] at L0
          rw [show ((ct - cu : Nat) : Int) = (ct : Int) - (cu : Int) by omega] at R1
          have HU := Lib.hid U0
          have HL0 := Lib.hid L0
          have HR := Lib.hid R1
          obtain ⟨Ag, cg, hge⟩ := hO.tr.slice
          subst hge
          obtain ⟨At, cct, hte⟩ := hO.lt.tr.slice
          subst hte
          have HBE := Lib.hid hO.lt.ht.bel
          obtain ⟨nt, hnt⟩ : ∃ nt, nt = l.length := ⟨_, rfl⟩
          obtain ⟨ng, hng⟩ : ∃ ng, ng = lg.length := ⟨_, rfl⟩
          rw [← hnt, ← hng] at hcn
          rw [← hnt, ← hng]
          have hcz : (nt : Int) - (ng : Int) = (cu : Int) := by omega
          clear U1 L1 R1 U0 L0 hO hI hst hcu hct hnt hng
          go_wp2_with fail
          refine HU.out.mono ?_
          rintro e w' ⟨rfl, rfl⟩
          go_wp2_with fail
          refine HU.out.mono ?_
          rintro e w' ⟨rfl, rfl⟩
          go_wp2_with fail
          refine HL0.out.mono ?_
          rintro e w' ⟨rfl, m1, rfl⟩
          go_wp2_with fail
          refine (HR.out m1).mono ?_
          rintro e w' ⟨rfl, m2, rfl⟩
          go_wp2
          go_ret
          exact ⟨ret_bool (by rw [beq_iff_eq]; omega), below_drewN HBE.out _⟩
end Go.Proofs.YtldlolgdglmocaaDoor
