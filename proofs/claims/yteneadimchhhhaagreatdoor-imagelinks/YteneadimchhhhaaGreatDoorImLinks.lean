/- The walk of ImageLinks. -/
import Derived.Test.YteneadimchhhhaaGreatDoorImAlive
import Derived.Test.YteneadimchhhhaaGreatDoorImGreat
import Derived.Test.YteneadimchhhhaaGreatDoorImOpen
import Derived.Test.YteneadimchhhhaaGreatDoorImAct2
import Derived.Test.YteneadimchhhhaaGreatDoorImLi2
namespace Go.Proofs.YteneadimchhhhaaGreatDoor
open Go.RowKit Go.Shelf
attribute [local go_sem] Oper.semAt_some

theorem uint_mod48 (c : Int) : ∃ q : Nat, q < 48 ∧ RowKit.wrap64 ((IntKind.u64.wrap c).tmod (48 : Int)) = (q : Int) := by
  have h := Int.emod_nonneg ((IntKind.u64.wrap c)) (show (48 : Int) ≠ 0 by decide)
  have h2 := Int.emod_lt_of_pos ((IntKind.u64.wrap c)) (show (0 : Int) < 48 by decide)
  have h0 : 0 ≤ IntKind.u64.wrap c := by rw [IntKind.wrap_u64]; omega
  refine ⟨((IntKind.u64.wrap c) % 48).toNat, by omega, ?_⟩
  rw [Int.tmod_eq_emod_of_nonneg h0, HM.w64, HM.wr64 _ (by omega) (by omega)]
  omega
set_option maxRecDepth 100000 in
set_option maxHeartbeats 8000000 in
theorem links_walk (A : Option Addr) (n c : Nat) (ls : List LV) (A1 : Option Addr) (n1 c1 : Nat) (la : List IAc) (x : Int) (w : World) (hc : n ≤ c ∧ c ≤ 9223372036854775807) (hL : LS w w.heap.size A n ls) (hA : FI w w.heap.size A1 n1 la) (hT : Tab w) :
    Calls Tryz.prog 4 #[.slice A n c, .slice A1 n1 c1, .int .i64 x] w fun e w' => e = .returned (.bool true) ∧ Below w.heap.size w w' := by
  have hn : n ≤ 9223372036854775807 := by omega
  have AL0 := Lib.hid (ialive_any w hT)
  have HL := Lib.hid hL
  have HA := Lib.hid hA
  have HT := Lib.hid hT
  have HC := Lib.hid hc.1
  clear hL hA hT hc
  refine (callsIn_wide (n := 5)).1 ?_
  refine callsIn_of_wp_marks Tryz.func4 rfl trivial ?_ rfl
  simp only [Tryz.ntmps4, List.size_toArray, List.length_cons, List.length_nil, Nat.reduceAdd, Nat.reduceSub, Array.replicate_succ, Array.replicate_zero, List.push_toArray, List.append_toArray, List.nil_append, List.cons_append]
  refine wpIn_wide.2 ?_
  go_wp2_with fail
  refine AL0.out.mono ?_
  rintro e w1 ⟨rfl, hb1⟩
  have HL1 := Lib.hid (show LS w1 w1.heap.size A n ls from by
    refine ⟨HL.out.1, fun h0 => ?_, fun l hl => ?_⟩
    · obtain ⟨b, off, e, hlt, hcc⟩ := HL.out.2.1 h0
      exact ⟨b, off, e, Nat.lt_of_lt_of_le hlt hb1.size, fun i l j hi hj => (hb1.cell (p := ⟨b, _, none⟩) hlt).trans (hcc i l j hi hj)⟩
    · obtain ⟨h1, h2, h3⟩ := HL.out.2.2 l hl
      exact ⟨Lists.mono (Lists.kept h1 (Kept.of_below hb1 (Nat.le_refl _))) (Nat.le_refl _) hb1.size, h2, h3⟩)
  have HG := Lib.hid (great_any A n c ls w1 HL1.out hn)
  have HA1 := Lib.hid (HA.out.below hb1)
  have HT1 := Lib.hid (HT.out.below hb1 HT.out.pos)
  have HB1 := Lib.hid hb1
  clear hb1 HL HA HT AL0
  go_wp2_with fail
  refine HG.out.mono ?_
  rintro e w2 ⟨rfl, hb2⟩
  have HB2 := Lib.hid (HB1.out.trans (hb2.mono HB1.out.size))
  have HT2 := Lib.hid (HT1.out.below hb2 HT1.out.pos)
  by_cases hg : ls.any wide = true ∨ 60 < n1
  · have AL := Lib.hid (ialive_any w2 HT2.out)
    obtain ⟨gb, hgb⟩ : ∃ gb : Bool, gb = ls.any wide := ⟨_, rfl⟩
    rw [← hgb] at hg ⊢
    clear hgb HG hb2
    have hg2 : gb = true ∨ (gb = false ∧ 60 < n1) := by cases gb <;> simp_all
    clear hg
    rcases hg2 with rfl | ⟨rfl, hn1⟩
    · go_wp2_with fail
      refine AL.out.mono ?_
      rintro e w3 ⟨rfl, hb3⟩
      have HB3 := Lib.hid (HB2.out.trans (hb3.mono HB2.out.size))
      go_wp2_with fail
      exact ⟨_, results_tmp rfl _ _ _, rfl, HB3.out⟩
    · have d1 : decide ((60 : Int) < (n1 : Int)) = true := by simp; omega
      go_wp2_with fail
      refine AL.out.mono ?_
      rintro e w3 ⟨rfl, hb3⟩
      have HB3 := Lib.hid (HB2.out.trans (hb3.mono HB2.out.size))
      go_wp2_with fail
      exact ⟨_, results_tmp rfl _ _ _, rfl, HB3.out⟩
  · have hg1 : ls.any wide = false := by
      cases h : ls.any wide
      · rfl
      · exact absurd (.inl h) hg
    have hn1 : n1 ≤ 60 := by
      rcases Nat.lt_or_ge 60 n1 with h | h
      · exact absurd (.inr h) hg
      · exact h
    have hnm := not_wide hg1
    rw [hg1]
    have d1 : decide ((60 : Int) < (n1 : Int)) = false := by simp; omega
    have CM := made_any A n c ls w2 (by
      refine ⟨HL1.out.1, fun h0 => ?_, fun l hl => ?_⟩
      · obtain ⟨b, off, e, hlt, hcc⟩ := HL1.out.2.1 h0
        exact ⟨b, off, e, Nat.lt_of_lt_of_le hlt hb2.size, fun i l j hi hj => (hb2.cell (p := ⟨b, _, none⟩) hlt).trans (hcc i l j hi hj)⟩
      · obtain ⟨h1, h2, h3⟩ := HL1.out.2.2 l hl
        exact ⟨Lists.mono (Lists.kept h1 (Kept.of_below hb2 (Nat.le_refl _))) (Nat.le_refl _) hb2.size, h2, h3⟩) (fun l hl => by have := hnm l hl; omega) HC.out HT2.out
    have HCM := Lib.hid CM
    have HA2 := Lib.hid (HA1.out.below (hb2.mono HB1.out.size))
    clear hg hg1 hnm HG hb2 CM HL1 HA1 HT1 HB1
    go_wp2_with fail
    refine HCM.out.mono ?_
    rintro e w4 ⟨I, J, rfl, -, hM4⟩
    obtain ⟨Dl, hDl⟩ : ∃ Dl : List LD, Dl = (pick 6 ls).map LV.ld := ⟨_, rfl⟩
    rw [← hDl] at hM4
    have HM4 := Lib.hid hM4
    clear hM4 hDl HCM
    go_wp2_with fail
    go_loopw [47] (fun v wr => ∃ (j : Nat) (f : Nat → Nat), j ≤ n1 ∧ v = .int .i64 j ∧ Ms w2 wr I J (cf5 Dl) f f) (fun v _ => n1 - (intOf v).toNat)
    case atStart => exact ⟨0, _, Nat.zero_le _, rfl, HM4.out⟩
    case round =>
      clear HM4
      obtain ⟨j, f, hj, rfl, hM⟩ := hrel
      by_cases hlt : j < n1
      · obtain ⟨ba, oa, v, rfl, hba, hjl, hvo, e0, e1, e2, e3, e4, e5, e6, e7, e8, e9⟩ := HA2.out.at_ hlt
        have hba2 : ba < w2.heap.size := by have := HB2.out.size; omega
        have c0 := (hM.bel.cell (p := ⟨ba, oa + j * 10, none⟩) hba2).trans e0
        have c1 := (hM.bel.cell (p := ⟨ba, oa + j * 10 + 1, none⟩) hba2).trans e1
        have c2 := (hM.bel.cell (p := ⟨ba, oa + j * 10 + 2, none⟩) hba2).trans e2
        have c3 := (hM.bel.cell (p := ⟨ba, oa + j * 10 + 3, none⟩) hba2).trans e3
        have c4 := (hM.bel.cell (p := ⟨ba, oa + j * 10 + 4, none⟩) hba2).trans e4
        have c5 := (hM.bel.cell (p := ⟨ba, oa + j * 10 + 5, none⟩) hba2).trans e5
        have c6 := (hM.bel.cell (p := ⟨ba, oa + j * 10 + 6, none⟩) hba2).trans e6
        have c7 := (hM.bel.cell (p := ⟨ba, oa + j * 10 + 7, none⟩) hba2).trans e7
        have c8 := (hM.bel.cell (p := ⟨ba, oa + j * 10 + 8, none⟩) hba2).trans e8
        have c9 := (hM.bel.cell (p := ⟨ba, oa + j * 10 + 9, none⟩) hba2).trans e9
        obtain ⟨wb, hwb⟩ : ∃ wb, wb = wr.alloc (.cells #[.int .i64 v.k, .int .i64 v.a, .int .i64 v.p, .int .i64 v.L, .int .i64 v.C, .int .i64 v.S, .int .u64 v.x, .int .i64 v.K, .int .i64 v.J, .int .i64 v.G] 39) := ⟨_, rfl⟩
        have hbb : Below wr.heap.size wr wb := by rw [hwb]; exact (Below.refl _ _).alloc (Nat.le_refl _) _
        have XA : Whole wb wr.heap.size 39 #[.int .i64 v.k, .int .i64 v.a, .int .i64 v.p, .int .i64 v.L, .int .i64 v.C, .int .i64 v.S, .int .u64 v.x, .int .i64 v.K, .int .i64 v.J, .int .i64 v.G] := by rw [hwb]; exact Whole.fresh _ _ _
        have CD := do_any (hM.later hbb) v hvo
        have k0 : wb.cell? ⟨wr.heap.size, 0, none⟩ = some (.int .i64 v.k) := XA.cell 0
        have k1 : wb.cell? ⟨wr.heap.size, 1, none⟩ = some (.int .i64 v.a) := XA.cell 1
        have k2 : wb.cell? ⟨wr.heap.size, 2, none⟩ = some (.int .i64 v.p) := XA.cell 2
        have k3 : wb.cell? ⟨wr.heap.size, 3, none⟩ = some (.int .i64 v.L) := XA.cell 3
        have k4 : wb.cell? ⟨wr.heap.size, 4, none⟩ = some (.int .i64 v.C) := XA.cell 4
        have k5 : wb.cell? ⟨wr.heap.size, 5, none⟩ = some (.int .i64 v.S) := XA.cell 5
        have k6 : wb.cell? ⟨wr.heap.size, 6, none⟩ = some (.int .u64 v.x) := XA.cell 6
        have k7 : wb.cell? ⟨wr.heap.size, 7, none⟩ = some (.int .i64 v.K) := XA.cell 7
        have k8 : wb.cell? ⟨wr.heap.size, 8, none⟩ = some (.int .i64 v.J) := XA.cell 8
        have k9 : wb.cell? ⟨wr.heap.size, 9, none⟩ = some (.int .i64 v.G) := XA.cell 9
        have HCD := Lib.hid CD
        have HWB := Lib.hid hwb
        clear e0 e1 e2 e3 e4 e5 e6 e7 e8 e9 hM hbb XA hwb hjl hvo CD hba hba2
        go_upto_region 9 with fail
        rw [← HWB.out]
        clear HWB c0 c1 c2 c3 c4 c5 c6 c7 c8 c9
        go_wp2_with fail
        refine HCD.out.mono ?_
        rintro e w6 ⟨rfl, hM6⟩
        have HM6 := Lib.hid hM6
        clear hM6 HCD k0 k1 k2 k3 k4 k5 k6 k7 k8 k9
        go_wp2_with fail
        go_roundw
        case rel => exact ⟨j + 1, _, by omega, by go_num, HM6.out⟩
        case measure => simp [intOf]; omega
      · have HM := Lib.hid hM
        clear hM HA2
        obtain ⟨z, hz, hze⟩ := uint_mod48 x
        have HZ := Lib.hid hze
        clear hze
        go_upto_region 11 with fail
        clear hlt hj
        go_cut [2] from 57 to 60 (fun s wx => s = .int .i64 (z : Int) ∧ wr = wx)
        case first =>
          go_wp2_with fail
          go_meet
          exact ⟨by rw [← HZ.out], rfl⟩
        case rest =>
        obtain ⟨rfl, rfl⟩ := hcut
        clear HZ
        obtain ⟨wA, hwA⟩ : ∃ wA, wA = (wr.alloc (.cells #[.slice none 0 0] 42)).alloc (.cells #[.slice none 0 0] 64) := ⟨_, rfl⟩
        have bA : Below wr.heap.size wr wA := by rw [hwA]; exact ((Below.refl _ _).alloc (Nat.le_refl _) _).alloc (by simp) _
        have sA : wA.heap.size = wr.heap.size + 2 := by rw [hwA]; simp
        have x12 : Boxed wA wr.heap.size 42 (.slice none 0 0) := by rw [hwA]; exact (Boxed.new _ _ _).alloc _
        have x13 : Boxed wA (wr.heap.size + 1) 64 (.slice none 0 0) := by
          have := Boxed.new (wr.alloc (.cells #[.slice none 0 0] 42)) 64 (.slice none 0 0)
          rw [World.size_alloc, ← hwA] at this
          exact this
        obtain ⟨wB, hwB⟩ : ∃ wB, wB = (wA.alloc (.cells #[.pointer (some ⟨I.p, 0, none⟩)] 27)).alloc (.cells #[.int .i64 (z : Int)] 3) := ⟨_, rfl⟩
        have bB : Below wA.heap.size wA wB := by rw [hwB]; exact ((Below.refl _ _).alloc (Nat.le_refl _) _).alloc (by simp) _
        have sB : wB.heap.size = wr.heap.size + 4 := by rw [hwB]; simp; omega
        have x1 : Boxed wB wA.heap.size 27 (.pointer (some ⟨I.p, 0, none⟩)) := by rw [hwB]; exact (Boxed.new _ _ _).alloc _
        have x2 : Boxed wB (wA.heap.size + 1) 3 (.int .i64 (z : Int)) := by
          have := Boxed.new (wA.alloc (.cells #[.pointer (some ⟨I.p, 0, none⟩)] 27)) 3 (.int .i64 (z : Int))
          rw [World.size_alloc, ← hwB] at this
          exact this
        have bBr : Below wr.heap.size wr wB := bA.trans (bB.mono bA.size)
        have MB := HM.out.later bBr
        have SQ := links_ownH 4 (by decide) wA.heap.size (wA.heap.size + 1) wr.heap.size I (cf5 Dl) f (z : Int) wB x1 x2 MB.im HM.out.im.under (by omega)
        have hLI : ∀ hi, LiI wr wr.heap.size (wr.heap.size + 1) hi [] wB := fun hi =>
          ⟨⟨_, (bB.block _ x12.lt).trans x12, World.ownsRow_nil _ _ _ _, trivial⟩, ⟨_, (bB.block _ x13.lt).trans x13, World.ownsRow_nil _ _ _ _, trivial⟩, bBr⟩
        have HWA := Lib.hid hwA
        have HWB := Lib.hid hwB
        have HSQ := Lib.hid SQ
        have HLI := Lib.hid hLI
        have HSZ := Lib.hid (And.intro sA sB)
        clear hwA hwB SQ hLI x12 x13 x1 x2 MB bA bB bBr sA sB
        go_upto_region 14 with fail
        rw [← HWA.out]
        go_wp2_with fail
        refine ((callsIn_wide (n := 5)).1 (ilinks_in 5 _ _ _)).mono ?_
        rintro e w6 ⟨rfl, rfl⟩
        rw [← HWB.out]
        clear HWA HWB
        go_wp2_with fail
        refine (wpIn_wide (n := 5)).1 ?_
        have hsz := HSZ.out
        rw [hsz.1] at HSQ
        rw [hsz.2] at HSQ
        refine wpIn_range_farH (by decide) (gf := 40) (lb := #[.pointer (some ⟨wr.heap.size + 2, 0, none⟩), .pointer (some ⟨wr.heap.size + 2 + 1, 0, none⟩)]) (by rw [hsz.1]; rfl) (enters_of Tryz.func40 (by kernel_rfl) rfl)
          HSQ.out (fun _ _ _ _ h k => kh_t h k) (by rw [hsz.2]; exact fun hi W r r' h => kh_b (by omega) (by omega) (by omega) W r r' h) (Below.refl _ _) (fun _ => rfl) (LiI wr wr.heap.size (wr.heap.size + 1)) (fun _ _ _ _ => False) (fun _ => li_own (by omega)) (fun _ _ _ _ _ _ hs _ _ => hs) HLI.out
          (LiA wr.heap.size (wr.heap.size + 1)) lia_own ?assign ?body ?done ?stop
        case stop =>
          rintro D hi c pre W _ h _
          exact h.elim
        case assign =>
          rintro l2 hi pre ⟨xp, xK, xI, xG⟩ W K hlo hup hI hpre hK
          have hb : Below W.heap.size W (W.alloc (.cells #[.int .i64 xK, .int .i64 xI, .int .i64 xG] 37)) := (Below.refl _ _).alloc (Nat.le_refl _) _
          have HK := Lib.hid (fun a' => hK a' _ (keeps_b hb) (Kh.of_below hb (by omega) hup) (hI.later hb))
          have HW := Lib.hid (Whole.fresh W 37 #[.int .i64 xK, .int .i64 xI, .int .i64 xG])
          clear hK hI hb
          dsimp only [LkE.v]
          gi_wp2
          exact HK.out _ ⟨_, HW.out, by simp, rfl, rfl, rfl, rfl⟩
        case body =>
          rintro l2 hi pre x a' W hlo hup hI hA hpre
          have hlen : pre.length ≤ 1000000 := by
            have h1 := hpre.length_le
            have h2 := refs_len (cf5 Dl) f (z : Int)
            unfold allLk at h1
            simp at h1
            omega
          refine wpIn_block ?_
          rw [hsz.2] at hlo ⊢
          exact li_round rfl hlo hup (by omega) (by omega) ⟨by omega, by omega, by omega, by omega⟩ ⟨by omega, by omega, by omega, by omega⟩ hI hA hlen
        case done =>
          rintro D hi W hD hI hK
          have hlr : (allLk (cf5 Dl) f (z : Int)).length = (IM.refs (cf5 Dl) f (z : Int)).length := by unfold allLk; simp
          obtain ⟨M, hMe⟩ : ∃ M, M = allLk (cf5 Dl) f (z : Int) := ⟨_, rfl⟩
          rw [← hMe] at hI hlr
          have hP : ∃ u1 u2, LiP w2 I J (cf5 Dl) f wr.heap.size (wr.heap.size + 1) hi D u1 u2 M W := by
            obtain ⟨⟨u1, q1, q2, -⟩, ⟨u2, q3, q4, -⟩, hbw⟩ := hI
            exact ⟨u1, u2, HM.out.later hbw, q1, q2, q3, q4, hK⟩
          obtain ⟨u1, u2, hP⟩ := hP
          obtain ⟨B1, e1, rfl, -⟩ := row_cells hP.r1
          obtain ⟨B2, e2, rfl, -⟩ := row_cells hP.r2
          have CA := Lib.hid (iat_any hP.ms.im (z : Int))
          have HP := Lib.hid hP
          have HME := Lib.hid (And.intro hMe hlr)
          have hbase : Below w.heap.size w w2 := HB2.out
          have HDl := Lib.hid (show wr.heap.size + 4 ≤ D by omega)
          have hwW := hK
          clear hI hK hP hMe hlr HSQ HLI hwW hD
          go_wp2_with fail
          refine CA.out.mono ?_
          rintro e w8 ⟨rfl, hb8⟩
          by_cases hze : IM.atE (cf5 Dl) f (z : Int) = 0
          · have hN := atN_bd (cf5 Dl) f (z : Int)
            have hpk := refs_picks hze
            have hps := fun (p : Int) (h0 : 0 ≤ p) (h1 : p < IM.atN (cf5 Dl) f (z : Int) - 1) => place_says hze h0 h1
            have hN1 : 1 ≤ IM.atN (cf5 Dl) f (z : Int) := by
              obtain ⟨-, -, -, -, -, t6, t7⟩ := at_ok hze
              rw [t7]
              exact (sz_bd _ _ _ t6).1
            obtain ⟨rf, hrf⟩ : ∃ rf : Int → Bool, rf = fun p => IM.isR (cf5 Dl).D (IM.atL (cf5 Dl) f (z : Int)) p := ⟨_, rfl⟩
            rw [← hrf] at hpk
            have hps2 : ∀ p : Int, 0 ≤ p → p < IM.atN (cf5 Dl) f (z : Int) - 1 → (rf p = true → IM.flE (cf5 Dl) f z p ≠ 9 ∧ IM.ldE (cf5 Dl) f z p = 9) ∧ (rf p = false → IM.flE (cf5 Dl) f z p = 9 ∧ IM.ldE (cf5 Dl) f z p ≠ 9) := fun p h0 h1 => by rw [hrf]; exact hps p h0 h1
            rw [hze]
            clear hps hrf hze
            generalize IM.atN (cf5 Dl) f (z : Int) = nn at *
            generalize IM.atL (cf5 Dl) f (z : Int) = l1 at *
            generalize IM.atC (cf5 Dl) f (z : Int) = l2 at *
            generalize IM.atS (cf5 Dl) f (z : Int) = l3 at *
            obtain ⟨N, rfl⟩ : ∃ N : Nat, nn = (N : Int) + 1 := ⟨(nn - 1).toNat, by omega⟩
            have hN2 : N ≤ 8192 := by omega
            rw [show ((N : Int) + 1 - 1).toNat = N by omega] at hpk
            have hMp : M = (LM.picks rf N).map (lkAt (cf5 Dl) f (z : Int)) := by rw [HME.out.1]; unfold allLk; rw [hpk]
            obtain ⟨m, hm⟩ : ∃ m, m = M.length := ⟨_, rfl⟩
            have hml : m = (LM.picks rf N).length := by rw [hm, hMp]; simp
            have hm8 : m ≤ 8192 := by have := LM.picks_len rf N; omega
            rw [← hm] at HP
            obtain ⟨w9, hw9⟩ : ∃ w9, w9 = w8.alloc (.cells #[.int .i64 l1, .int .i64 l2, .int .i64 l3] 32) := ⟨_, rfl⟩
            have P9 := HP.out.later (show Below W.heap.size W w9 by rw [hw9]; exact hb8.alloc hb8.size _)
            have HP9 := Lib.hid P9
            have HW9 := Lib.hid hw9
            have HPS := Lib.hid hps2
            have HMP := Lib.hid hMp
            have HML := Lib.hid hml
            clear hb8 hw9 P9 HP CA hpk hps2 hMp hml hm HME hN hN1
            go_upto_region 19 with fail
            rw [← HW9.out]
            go_wp2_with fail
            go_loopw [19, 88] (fun kk pp wq => ∃ p : Nat, p ≤ N ∧ pp = .int .i64 p ∧ kk = .int .i64 ((LM.picks rf p).length : Nat) ∧ LiP w2 I J (cf5 Dl) f wr.heap.size (wr.heap.size + 1) hi D (.slice B1 m e1) (.slice B2 m e2) M wq) (fun _ pp _ => N - (intOf pp).toNat)
            case atStart => exact ⟨0, Nat.zero_le _, rfl, rfl, HP9.out⟩
            case round =>
              clear HP9 HW9
              obtain ⟨p, hp, rfl, rfl, hP⟩ := hrel
              have hkl := LM.picks_len rf p
              obtain ⟨k, hk⟩ : ∃ k, k = (LM.picks rf p).length := ⟨_, rfl⟩
              rw [← hk] at hkl ⊢
              by_cases hlt : p < N
              · have hpsp := HPS.out (p : Int) (by omega) (by omega)
                have CF := ifollow_any hP.ms.im (z : Int) (p : Int)
                have CL := fun (W' : World) (hb : Below wr.heap.size wr W') => iload_any (hP.later hb).ms.im (z : Int) (p : Int)
                unfold FolIs LinkIs at CF
                have hle : p ≤ 8192 := by omega
                by_cases hr : rf p = true
                · obtain ⟨hf9, hg9⟩ := hpsp.1 hr
                  have hMk : M[k]? = some (lkAt (cf5 Dl) f (z : Int) (p : Int)) := by rw [HMP.out, List.getElem?_map, hk, picks_at rf hlt hr]; rfl
                  have hkm : k < m := by
                    have := (List.getElem?_eq_some_iff.1 (picks_at rf hlt hr)).1
                    rw [HML.out, hk]; exact this
                  have HK2 := Lib.hid (show (LM.picks rf (p + 1)).length = k + 1 by rw [LM.picks_yes hr, List.length_append, hk]; rfl)
                  rw [hg9] at CL
                  unfold lkAt at hMk
                  have HPP := Lib.hid hP
                  clear hpsp hg9 hr hk hP
                  generalize IM.flK (cf5 Dl) f (z : Int) (p : Int) = fK at *
                  generalize IM.flI (cf5 Dl) f (z : Int) (p : Int) = fI at *
                  generalize IM.flG (cf5 Dl) f (z : Int) (p : Int) = fG at *
                  generalize IM.flE (cf5 Dl) f (z : Int) (p : Int) = fE at *
                  generalize IM.ldV (cf5 Dl) f (z : Int) (p : Int) = lV at *
                  have d9 : (fE == 9) = false := by simpa using hf9
                  have HCF := Lib.hid CF
                  have HCL := Lib.hid CL
                  have HMK := Lib.hid hMk
                  clear CF CL hMk hf9
                  go_wp2_with fail
                  refine HCF.out.mono ?_
                  rintro e w10 ⟨rfl, hb10⟩
                  obtain ⟨w11, hw11⟩ : ∃ w11, w11 = w10.alloc (.cells #[.int .i64 fK, .int .i64 fI, .int .i64 fG] 37) := ⟨_, rfl⟩
                  have hb11 : Below wr.heap.size wr w11 := by rw [hw11]; exact hb10.alloc hb10.size _
                  have O11 := Lib.hid (show Whole w11 w10.heap.size 37 #[.int .i64 fK, .int .i64 fI, .int .i64 fG] by rw [hw11]; exact Whole.fresh _ _ _)
                  have HB11 := Lib.hid hb11
                  have HW11 := Lib.hid hw11
                  have C2 := Lib.hid (HCL.out w11 hb11)
                  clear hb10 hb11 hw11 HCF HCL
                  go_upto_region 26 with fail
                  rw [← HW11.out]
                  clear HW11
                  go_wp2_with fail
                  refine C2.out.mono ?_
                  rintro e w12 ⟨rfl, hb12⟩
                  have P12 := HPP.out.later (HB11.out.trans (hb12.mono HB11.out.size))
                  obtain ⟨o0, o1, o2⟩ := (O11.out.below hb12 O11.out.lt).cells3
                  obtain ⟨g1, g2, rfl, rfl, g1l, g2l, i0, j0, j1, j2⟩ := P12.at_ HMK.out
                  have x12 := P12.x1.cell
                  have x13 := P12.x2.cell
                  have HP12 := Lib.hid P12
                  have dk : decide ((m : Int) ≤ (k : Int)) = false := by simp; omega
                  have dk2 : decide (m ≤ k) = false := by simp; omega
                  dsimp only at i0 j0 j1 j2
                  clear hb12 P12 HPP HB11 O11 C2 g1l g2l
                  go_upto_region 30 with fail
                  go_quiet (fail)
                  go_wp2_with fail
                  go_roundw
                  case rel => exact ⟨p + 1, by omega, by go_num, by rw [HK2.out]; go_num, HP12.out.later (below_drewN (Below.refl _ _) _)⟩
                  case measure => simp [intOf]; omega
                · have hr0 : rf p = false := by simpa using hr
                  obtain ⟨hf9, hg9⟩ := hpsp.2 hr0
                  have HK2 := Lib.hid (show (LM.picks rf (p + 1)).length = k by rw [LM.picks_no hr0, hk])
                  rw [hf9] at CF
                  have HPP := Lib.hid hP
                  clear hpsp hf9 hr hr0 hk hP
                  generalize IM.flK (cf5 Dl) f (z : Int) (p : Int) = fK at *
                  generalize IM.flI (cf5 Dl) f (z : Int) (p : Int) = fI at *
                  generalize IM.flG (cf5 Dl) f (z : Int) (p : Int) = fG at *
                  generalize IM.ldE (cf5 Dl) f (z : Int) (p : Int) = gE at *
                  generalize IM.ldV (cf5 Dl) f (z : Int) (p : Int) = lV at *
                  have d9 : (gE == 9) = false := by simpa using hg9
                  have HCF := Lib.hid CF
                  have HCL := Lib.hid CL
                  clear CF CL hg9
                  go_wp2_with fail
                  refine HCF.out.mono ?_
                  rintro e w10 ⟨rfl, hb10⟩
                  obtain ⟨w11, hw11⟩ : ∃ w11, w11 = w10.alloc (.cells #[.int .i64 fK, .int .i64 fI, .int .i64 fG] 37) := ⟨_, rfl⟩
                  have hb11 : Below wr.heap.size wr w11 := by rw [hw11]; exact hb10.alloc hb10.size _
                  have HB11 := Lib.hid hb11
                  have HW11 := Lib.hid hw11
                  have C2 := Lib.hid (HCL.out w11 hb11)
                  clear hb10 hb11 hw11 HCF HCL
                  go_upto_region 26 with fail
                  rw [← HW11.out]
                  clear HW11
                  go_wp2_with fail
                  refine C2.out.mono ?_
                  rintro e w12 ⟨rfl, hb12⟩
                  have HP12 := Lib.hid (HPP.out.later (HB11.out.trans (hb12.mono HB11.out.size)))
                  clear hb12 HPP HB11 C2
                  go_wp2_with fail
                  go_roundw
                  case rel => exact ⟨p + 1, by omega, by go_num, by rw [HK2.out], HP12.out⟩
                  case measure => simp [intOf]; omega
              · obtain rfl : p = N := by omega
                have hkm : k = m := by rw [HML.out, hk]
                have x12 := hP.x1.cell
                have HP12 := Lib.hid hP
                clear hP hk HPS
                subst hkm
                go_wp2_with fail
                have hK9 := HP12.out.dd
                refine ⟨by simp, .inl ⟨_, _, rfl, run_takeDeferred hK9, ?_⟩⟩
                exact ⟨_, results_tmp rfl _ _ _, rfl, HP12.out.fin hbase (by have := HDl.out; have := HM.out.bel.size; omega)⟩
          · have hM0 : M.length = 0 := by rw [HME.out.2, refs_no hze]; rfl
            generalize IM.atE (cf5 Dl) f (z : Int) = ee at *
            generalize IM.atN (cf5 Dl) f (z : Int) = nn at *
            generalize IM.atL (cf5 Dl) f (z : Int) = l1 at *
            generalize IM.atC (cf5 Dl) f (z : Int) = l2 at *
            generalize IM.atS (cf5 Dl) f (z : Int) = l3 at *
            obtain ⟨w9, hw9⟩ : ∃ w9, w9 = w8.alloc (.cells #[.int .i64 l1, .int .i64 l2, .int .i64 l3] 32) := ⟨_, rfl⟩
            have P9 := HP.out.later (show Below W.heap.size W w9 by rw [hw9]; exact hb8.alloc hb8.size _)
            have x12 := P9.x1.cell
            rw [hM0] at x12
            have hd : (ee != 0) = true := by simpa using hze
            have HP9 := Lib.hid P9
            have HW9 := Lib.hid hw9
            clear hb8 hw9 P9 hze HP CA hM0
            go_upto_region 19 with fail
            rw [← HW9.out]
            go_wp2_with fail
            have hK9 := HP9.out.dd
            refine ⟨by simp, .inl ⟨_, _, rfl, run_takeDeferred hK9, ?_⟩⟩
            exact ⟨_, results_tmp rfl _ _ _, rfl, HP9.out.fin hbase (by have := HDl.out; have := HM.out.bel.size; omega)⟩
end Go.Proofs.YteneadimchhhhaaGreatDoor
