/- The law TableActs: of any row of calls each answer is the document's, and, in the end, all that is told. -/
import Derived.Test.YtldlolgdglmocaaDoorTbDo
import Derived.Test.YtldlolgdglmocaaDoorTbSame
namespace Go.Proofs.YtldlolgdglmocaaDoor
open Go.RowKit

theorem at_out {w : World} {B : TB} {N : Nat} {S : Nat → Sl} (h : TbAt w B N S) (i : Int) (hi : i < 0 ∨ (N : Int) ≤ i) :
    Calls Tryd.prog 13 #[.pointer (some ⟨B.t, 0, none⟩), .int .i64 i] w fun e w' => e = .returned (.tuple #[.agg #[.int .i64 0, .int .i64 0], .bool false]) ∧ Below w.heap.size w w' := by
  have := at_any h i
  unfold atVal at this
  rw [if_neg (by rw [atB_iff]; rintro ⟨k, rfl, hk, _⟩; omega)] at this
  exact this
set_option maxRecDepth 100000 in
set_option maxHeartbeats 8000000 in
theorem acts_walk (m : Int) (A : Option Addr) (n c : Nat) (la : List Ac) (w : World) (hl : TA w w.heap.size A n la) (hT : Tab w) :
    Calls Tryd.prog 3 #[.int .i64 m, .slice A n c] w fun e w' => e = .returned (.bool true) ∧ Below w.heap.size w w' := by
  obtain ⟨N, N1, N2, hN⟩ := size8 m
  have HN := Lib.hid hN
  have HL := Lib.hid hl
  clear hN hl
  go_enter Tryd.func3, Tryd.ntmps3
  go_upto_region 1 with (fail)
  go_cut [5] (fun s wc => s = .int .i64 (N : Nat) ∧ w = wc)
  case first =>
    by_cases h1 : m < 0
    all_goals
      go_wp2
      all_goals go_meet
      all_goals
        refine ⟨congrArg (Value.int .i64) ?_, rfl⟩
        have := HN.out
        split at this <;> omega
  case rest =>
    obtain ⟨rfl, rfl⟩ := hcut
    clear HN
    have NW := Lib.hid (tnew_ok N w N1 (by omega))
    go_wp2_with fail
    refine NW.out.mono ?_
    rintro e w1 ⟨B, rfl, hs1, hb1, hw1⟩
    have k1 := ht_new hT hs1 hb1 hw1
    have AL := Lib.hid (alive_any w1 k1.tab)
    have HK1 := Lib.hid k1
    clear k1 hs1 hb1 hw1 NW
    by_cases h100 : 100 < n
    · have d : (100 : Int) < (n : Int) := by omega
      go_wp2_with fail
      refine AL.out.mono ?_
      rintro e w2 ⟨rfl, hb2⟩
      have HK2 := Lib.hid (HK1.out.later hT hb2)
      have AL2 := Lib.hid (alive_any w2 HK2.out.tab)
      clear hb2 AL HK1
      go_wp2_with fail
      refine AL2.out.mono ?_
      rintro e w3 ⟨rfl, hb3⟩
      have HK3 := Lib.hid (HK2.out.later hT hb3)
      clear hb3 AL2 HK2
      go_wp2
      go_ret
      exact ⟨rfl, HK3.out.bel⟩
    · have d : decide ((100 : Int) < (n : Int)) = false := by simp; omega
      go_wp2_with fail
      refine AL.out.mono ?_
      rintro e w2 ⟨rfl, hb2⟩
      have HK2 := Lib.hid (HK1.out.later hT hb2)
      have RN := Lib.hid (rnew_ok N w2 (by omega))
      clear hb2 AL HK1
      go_wp2_with fail
      refine RN.out.mono ?_
      rintro e w3 ⟨r, rfl, hrf, hb3, hr1, hr2⟩
      have hk3 := HK2.out.later hT hb3
      obtain ⟨base, hbase⟩ : ∃ base, base = w3.heap.size := ⟨_, rfl⟩
      have hLd : Ld w w3 B N (fun _ => Sl.first) (fun _ => Sl.first) base (.slice none 0 0) [] r := by
        rw [hbase]
        exact ⟨lt_new hk3, hrf, HK2.out.win.more hr1, hr2⟩
      have HO := Lib.hid hLd
      clear hb3 hrf hk3 hLd hbase RN
      go_wp2
      go_loopw [9, 54] (fun v x wr => ∃ (k : Nat) (S : Nat → Sl) (l : List (Int × Int)), k ≤ n ∧ x = .int .i64 k ∧ l.length ≤ k ∧ Ld w wr B N S S base v l r) (fun _ x _ => n - (intOf x).toNat)
      case atStart => exact ⟨0, _, [], Nat.zero_le _, rfl, Nat.le_refl _, HO.out⟩
      case round =>
        clear HO HK2
        obtain ⟨k, S, l, hk, rfl, hlk, hO⟩ := hrel
        by_cases hlt : k < n
        · obtain ⟨b, off, f, rfl, hb, hf⟩ := (HL.out.below hO.lt.ht.bel).at_ hlt
          obtain ⟨kd, wh, rw, ti, tg, ⟨ea, er, eh, ep⟩⟩ := f
          obtain ⟨f0, f1, f2, f3, f4, f5, f6, f7, f8⟩ := hf
          dsimp only at f0 f1 f2 f3 f4 f5 f6 f7 f8
          have g0 : wr.cell? ⟨b, off + k * 9, none⟩ = some (.int .i64 kd) := f0
          clear f0
          have hO1 := hO.alloc hT (.cells #[.int .i64 kd, .int .i64 wh, .bool rw, .int .i64 ti, .int .i64 tg, .int .i64 ea, .int .i64 er, .bool eh, .bool ep] 37)
          have DA := do_any w _ hT B N base r S _ l ⟨kd, wh, rw, ti, tg, ⟨ea, er, eh, ep⟩⟩ hO1 (by omega)
          unfold Ac.cells at DA
          dsimp only at DA
          have HDA := Lib.hid DA
          clear DA hO1 hO
          go_wp2_with fail
          refine HDA.out.mono ?_
          rintro e w4 ⟨v', l', S', rfl, hL', hlen⟩
          have HL' := Lib.hid hL'
          have HLEN := Lib.hid hlen
          clear hL' hlen HDA g0 f1 f2 f3 f4 f5 f6 f7 f8
          go_wp2
          go_roundw
          case rel => exact ⟨k + 1, S', l', by omega, by go_num, by have := HLEN.out; omega, HL'.out⟩
          case measure => simp [intOf]; omega
        · have A1 := Lib.hid (at_out hO.lt.ht.st (-1) (by omega))
          have HO := Lib.hid hO
          clear hO
          go_wp2_with fail
          refine A1.out.mono ?_
          rintro e w4 ⟨rfl, hb4⟩
          have hO4 := (HO.out.later hT hb4).alloc hT (.cells #[.int .i64 0, .int .i64 0] 33)
          have A2 := Lib.hid (at_out hO4.lt.ht.st (N : Int) (by omega))
          have HO4 := Lib.hid hO4
          clear hb4 A1 HO hO4
          go_wp2_with fail
          refine A2.out.mono ?_
          rintro e w5 ⟨rfl, hb5⟩
          have hO5 := (HO4.out.later hT hb5).alloc hT (.cells #[.int .i64 0, .int .i64 0] 33)
          have A3 := Lib.hid (same_any _ hO5.lt.ht.tab B N r S hO5.lt.ht.st hO5.rf hO5.rl)
          have HO5 := Lib.hid hO5
          clear hb5 A2 HO4 hO5
          go_wp2_with fail
          refine A3.out.mono ?_
          rintro e w6 ⟨rfl, hb6⟩
          have HO6 := Lib.hid (HO5.out.later hT hb6)
          clear hb6 A3 HO5
          go_wp2
          go_ret
          exact ⟨rfl, HO6.out.lt.ht.bel⟩
end Go.Proofs.YtldlolgdglmocaaDoor
