/- The contract of the law package's grown: the map and the document's, behind the acts, say the same. -/
import Derived.Test.YthbclmolegnhiaaDoorBmAlive
import Derived.Test.YthbclmolegnhiaaDoorBmAct
import Derived.Deep.RegionHeld3
import Derived.Deep.DeepCutAuto
namespace Go.Proofs.YthbclmolegnhiaaDoor
open Go.RowKit

theorem MapAt.heap {b c n : Nat} {w w' : World} {ws : Nat → Nat} (h : MapAt w b c n ws) (e : w'.heap = w.heap) : MapAt w' b c n ws :=
  ⟨h.n1, h.n2, (World.cell?_of_block (by rw [e])).trans h.len, (World.cell?_of_block (by rw [e])).trans h.row, fun k hk => (World.cell?_of_block (by rw [e])).trans (h.word k hk),
    fun k hk => (World.frozen?_of_block (by rw [e])).trans (h.thaw k hk), h.lt, h.past, h.ne⟩
theorem RefAt.heap {r n : Nat} {w w' : World} {f : Nat → Bool} (h : RefAt w r n f) (e : w'.heap = w.heap) : RefAt w' r n f :=
  ⟨fun k hk => (World.cell?_of_block (by rw [e])).trans (h.cell k hk), fun k hk => (World.frozen?_of_block (by rw [e])).trans (h.thaw k hk)⟩
/-- Where the loop of grown stands. -/
def GrownAt (w : World) (b c r N m : Nat) (x : Value) (wr : World) : Prop :=
  ∃ (k : Nat) (ws : Nat → Nat), k ≤ m ∧ x = .int .i64 k ∧ MapAt wr b c N ws ∧ RefAt wr r N (BM.on ws) ∧ Below w.heap.size w wr ∧ b < wr.heap.size ∧ c < wr.heap.size ∧ r < wr.heap.size

/-- What a round leaves that has turned nothing: its act in a box of its own. -/
theorem grown_kept {w wr w' : World} {b c r N m k : Nat} {ws : Nat → Nat} (hk : k < m) (hm : MapAt wr b c N ws) (hf : RefAt wr r N (BM.on ws)) (hB : Below w.heap.size w wr) (p1 : b < wr.heap.size) (p2 : c < wr.heap.size) (p3 : r < wr.heap.size)
    (hb : Below wr.heap.size wr w') : GrownAt w b c r N m (.int .i64 ((k : Int) + 1)) w' :=
  ⟨k + 1, ws, by omega, by rw [show ((k + 1 : Nat) : Int) = (k : Int) + 1 by omega], hm.below hb p1 p2, hf.below hb p3, hB.trans (hb.mono hB.size), by have := hb.size; omega, by have := hb.size; omega, by have := hb.size; omega⟩
/-- What a round leaves that has turned places, in both maps. -/
theorem grown_turned {w wr w2 w3 w4 : World} {b c r N m k i j s : Nat} {ws : Nat → Nat} {v : Bool} (hk : k < m) (hB : Below w.heap.size w wr) (p1 : b < wr.heap.size) (p2 : c < wr.heap.size) (p3 : r < wr.heap.size) (q2 : w.heap.size ≤ c) (q3 : w.heap.size ≤ r) (n1 : b ≠ r) (n2 : c ≠ r)
    (hb : Below wr.heap.size wr w2) (hs : wr.heap.size ≤ s) (ho : OnlyAt c w2 w3) (hm3 : ∃ ws', MapAt w3 b c N ws' ∧ ∀ q, BM.on ws' q = if i ≤ q ∧ q < j then v else BM.on ws q)
    (hs3 : OnlyAt s w3 w4) (w5 : World) (ho5 : OnlyAt r w4 w5) (hr5 : RefAt w5 r N (fun q => if i ≤ q ∧ q < j then v else BM.on ws q)) : GrownAt w b c r N m (.int .i64 ((k : Int) + 1)) w5 := by
  obtain ⟨ws', h1, h2⟩ := hm3
  have z1 := hb.size
  have z2 := ho.size
  have z3 := hs3.size
  have z4 := ho5.size
  refine ⟨k + 1, ws', by omega, by rw [show ((k + 1 : Nat) : Int) = (k : Int) + 1 by omega], (h1.only hs3 (by omega) (by omega)).only ho5 n1 n2, hr5.congr fun q => (h2 q).symm, ?_, by omega, by omega, by omega⟩
  exact (hB.trans (hb.mono hB.size)).trans ((ho.below q2).trans ((hs3.below (by have := hB.size; omega)).trans (ho5.below q3)))

/-- What grown leaves. -/
def GrownPost (N : Nat) (w : World) (e : Ending) (w' : World) : Prop :=
  ∃ (b c r : Nat) (ws : Nat → Nat), e = .returned (.tuple #[.pointer (some ⟨b, 0, none⟩), .slice (some ⟨r, 0, none⟩) N N, .bool true]) ∧ MapAt w' b c N ws ∧ RefAt w' r N (BM.on ws) ∧ Below w.heap.size w w' ∧
    w.heap.size ≤ b ∧ w.heap.size ≤ c ∧ w.heap.size ≤ r ∧ b < w'.heap.size ∧ c < w'.heap.size ∧ r < w'.heap.size ∧ b ≠ r ∧ c ≠ r

theorem size_of (n : Int) : ∃ N : Nat, 1 ≤ N ∧ N ≤ 300 ∧ 1 + (if n < 0 then 0 else n) % 300 = (N : Int) := by
  refine ⟨(1 + (if n < 0 then 0 else n) % 300).toNat, ?_⟩
  split <;> omega

set_option maxRecDepth 100000 in
set_option maxHeartbeats 4000000 in
theorem grown_any (n : Int) (A : Option Addr) (m c0 : Nat) (l : List (Int × Int × Int × Bool)) (w : World) (hn : -9223372036854775808 ≤ n ∧ n ≤ 9223372036854775807) (hl : FA w w.heap.size A m l) (hc0 : m ≤ c0) :
    ∃ N : Nat, 1 ≤ N ∧ N ≤ 300 ∧ Calls Tryd.prog 19 #[.int .i64 n, .slice A m c0] w (GrownPost N w) := by
  obtain ⟨N, hN1, hN2, hN⟩ := size_of n
  refine ⟨N, hN1, hN2, ?_⟩
  have HL := Lib.hid hl
  have HN := Lib.hid hN
  clear hl hN
  go_enter Tryd.func19, Tryd.ntmps19
  go_upto_region 1 with (fail)
  go_cut [0] (fun s wc => s = .int .i64 (N : Nat) ∧ w = wc)
  case first =>
    go_wp2
    all_goals go_meet
    all_goals
      refine ⟨congrArg (Value.int .i64) ?_, rfl⟩
      have := HN.out
      split at this <;> omega
  case rest =>
    obtain ⟨rfl, rfl⟩ := hcut
    clear HN
    go_wp2_with fail
    refine (new_ok N _ hN1 (by omega)).mono ?_
    rintro e w1 ⟨rfl, hm1, hb1, hs1⟩
    obtain ⟨b, hb⟩ : ∃ b, b = w.heap.size + 1 := ⟨_, rfl⟩
    obtain ⟨c, hc⟩ : ∃ c, c = w.heap.size := ⟨_, rfl⟩
    rw [← hb] at hm1 ⊢
    rw [← hc] at hm1
    have q1 : w.heap.size ≤ b := by omega
    have q2 : w.heap.size ≤ c := by omega
    have q4 : b < w1.heap.size := by omega
    have q5 : c < w1.heap.size := by omega
    clear hb hc hs1
    go_wp2_with fail
    refine (refNew_any N _ (by omega)).mono ?_
    rintro e w2 ⟨rfl, hr2, hb2, hs2⟩
    obtain ⟨r, hr⟩ : ∃ r, r = w1.heap.size := ⟨_, rfl⟩
    rw [← hr] at hr2 ⊢
    have hm2 := hm1.below hb2 (by omega) (by omega)
    have B2 : Below w.heap.size w w2 := hb1.trans (hb2.mono hb1.size)
    have q3 : w.heap.size ≤ r := by have := hb1.size; omega
    have q7 : b < r := by omega
    have q8 : c < r := by omega
    have q6 : r < w2.heap.size := by omega
    have hf2 : RefAt w2 r N (BM.on fun _ => 0) := hr2.congr fun q => by simp [BM.on]
    have HM2 := Lib.hid hm2
    have HF2 := Lib.hid hf2
    clear hm1 hm2 hr2 hf2 hs2 hb1 hb2 hr q4 q5 w1
    go_upto_region 6 with (fail)
    obtain ⟨M, hM1, hM2, hM3⟩ : ∃ M : Nat, M ≤ m ∧ M ≤ 60 ∧ (m ≤ 60 ∧ M = m ∨ 60 < m ∧ M = 60) := by
      by_cases h : m ≤ 60
      · exact ⟨m, Nat.le_refl _, h, .inl ⟨h, rfl⟩⟩
      · exact ⟨60, by omega, Nat.le_refl _, .inr ⟨by omega, rfl⟩⟩
    have HM3 := Lib.hid hM3
    clear hM3
    go_cut [35, 36, 37] (fun s k i wc => s = .slice A M c0 ∧ k = .int .i64 (M : Nat) ∧ i = .int .i64 0 ∧ w2 = wc)
    case first =>
      rcases HM3.out with ⟨h1, h2⟩ | ⟨h1, h2⟩
      · subst h2
        have hn' : ¬ (60 : Int) < (M : Int) := by omega
        go_wp2
        go_meet
        exact ⟨rfl, rfl, rfl, rfl⟩
      · subst h2
        have hn' : (60 : Int) < (m : Int) := by omega
        go_wp2
        go_meet
        exact ⟨rfl, rfl, rfl, rfl⟩
    case rest =>
      obtain ⟨rfl, rfl, rfl, rfl⟩ := hcut
      go_wp2_with fail
      go_loopw [37] (GrownAt w b c r N M) (fun x _ => M - (intOf x).toNat)
      case atStart => exact ⟨0, _, Nat.zero_le _, rfl, HM2.out, HF2.out, B2, by omega, by omega, q6⟩
      case round =>
        obtain ⟨k, ws, hk, rfl, hm, hf, hB, p1, p2, p3⟩ := hrel
        have HM := Lib.hid hm
        have HF := Lib.hid hf
        clear hm hf
        by_cases hlt : k < M
        · obtain ⟨ba, oa, x0, x1, x2, x3, rfl, hba, a0, a1, a2, a3, hok⟩ := (HL.out.below hB).at_ (show k < m by omega)
          have s0 := hB.size
          by_cases k0 : x0 = 0
          · subst k0
            cases hin : inB N x1 1
            · have hout : x1 < 0 ∨ (N : Int) ≤ x1 := by
                rcases (inB_not N x1 1).1 hin with a | ⟨a, a2⟩ | ⟨a, a2, a3⟩ | ⟨a, a2, a3, a4⟩ <;> omega
              have hin1 := in_any (some ⟨r, 0, none⟩) N N x1 1
              rw [hin] at hin1
              have HIN := Lib.hid hin1
              have HOUT := Lib.hid hout
              have hlen := HM.out.len
              have HW := Lib.hid (Whole.fresh wr 61 #[.int .i64 0, .int .i64 x1, .int .i64 x2, .bool x3])
              have hla := (((Below.refl wr.heap.size wr).alloc (Nat.le_refl _) (.cells #[.int .i64 0, .int .i64 x1, .int .i64 x2, .bool x3] 61)).cell (p := ⟨b, 0, none⟩) p1).trans hlen
              clear hin hin1 hout
              go_wp2_with fail
              go_region_held3 (fun w' => w'.cell? ⟨wr.heap.size, 1, none⟩ = some (.int .i64 x1) ∧ w'.cell? ⟨wr.heap.size, 3, none⟩ = some (.bool x3)) (simp [go_sem, *])
                (first
                  | (go_at_call 29; refine (HIN.out _ (by omega)).mono ?_; rintro e w' ⟨rfl, rfl⟩)
                  | (go_at_call 14; refine (set_no b N x1 x3 _ (by exact hla) HOUT.out).mono ?_; rintro e w' ⟨rfl, rfl⟩))
              all_goals
                go_wp2
                go_roundw
                case rel => exact grown_kept hlt HM.out HF.out hB p1 p2 p3 ((Below.refl _ _).alloc (Nat.le_refl _) _).drew
                case measure => simp [intOf]; omega
            · obtain ⟨_, g1, g2, g3⟩ := (inB_iff N x1 1).1 hin
              obtain ⟨j, rfl⟩ := Int.eq_ofNat_of_zero_le g1
              have hj : j < N := by omega
              have hin1 := in_any (some ⟨r, 0, none⟩) N N j 1
              rw [hin] at hin1
              have HIN := Lib.hid hin1
              have bel : Below wr.heap.size wr (wr.alloc (.cells #[.int .i64 0, .int .i64 (j : Nat), .int .i64 x2, .bool x3] 61)) := (Below.refl wr.heap.size wr).alloc (Nat.le_refl _) _
              have HMA := Lib.hid (HM.out.below bel p1 p2)
              have HW := Lib.hid (Whole.fresh wr 61 #[.int .i64 0, .int .i64 (j : Nat), .int .i64 x2, .bool x3])
              have HFA := Lib.hid (HF.out.below bel p3)
              have HBE := Lib.hid bel
              clear hin hin1 bel g1 g2 g3
              go_wp2_with fail
              go_region_held3 (fun w' => w'.cell? ⟨wr.heap.size, 1, none⟩ = some (.int .i64 (j : Nat)) ∧ w'.cell? ⟨wr.heap.size, 3, none⟩ = some (.bool x3)) (simp [go_sem, *])
                (first
                  | (go_at_call 29; refine (HIN.out _ (by omega)).mono ?_; rintro e w' ⟨rfl, rfl⟩)
                  | (go_at_call 14; refine (set_ok b c N j ws x3 _ (by exact HMA.out.heap rfl) hj).mono ?_; rintro e w3 ⟨rfl, ho3, hm3⟩; have hw3 : Whole w3 wr.heap.size 61 #[.int .i64 0, .int .i64 (j : Nat), .int .i64 x2, .bool x3] := (ho3.block _ (by omega)).trans HW.out; have hk1 := (hw3.cell 1).trans rfl; have hk2 := (hw3.cell 2).trans rfl; have hk3 := (hw3.cell 3).trans rfl; have hz2 := hw3.free 2; have HM3 := Lib.hid hm3; clear hm3))
              all_goals
                have hr3 : RefAt w3 r N (BM.on ws) := RefAt.only (c := c) (by exact HFA.out.heap rfl) ho3 (by omega)
                have hr4 : RefAt (w3.setCell ⟨wr.heap.size, 2, none⟩ (.int .i64 1)) r N (BM.on ws) := hr3.only (c := wr.heap.size) ((OnlyAt.refl wr.heap.size w3).setCell 2 (.int .i64 1)) (by omega)
                have F1 : Calls Tryd.prog 30 #[.slice (some ⟨r, 0, none⟩) N N, .int .i64 (j : Nat), .int .i64 1, .bool x3] _ _ := refFill_any r N j 1 _ x3 _ (by omega) hr4 (by omega)
                have HF1 := Lib.hid F1
                clear F1 hr3 hr4
                go_wp2_with fail
                refine HF1.out.mono ?_
                rintro e w5 ⟨⟨xx, rfl⟩, ho5, hr5⟩
                have HR5 := Lib.hid hr5
                clear hr5
                go_wp2
                go_roundw
                case rel => exact grown_turned hlt hB p1 p2 p3 q2 q3 (by omega) (by omega) HBE.out.drew (Nat.le_refl _) ho3 HM3.out ((OnlyAt.refl wr.heap.size w3).setCell 2 (.int .i64 1)) _ ho5 HR5.out
                case measure => simp [intOf]; omega
          · have d0 : (x0 == 0) = false := by simpa using k0
            by_cases k1 : x0 = 1
            · subst k1
              clear k0
              cases hin : inB N x1 x2
              · have hin1 := in_any (some ⟨r, 0, none⟩) N N x1 x2
                rw [hin] at hin1
                have HIN := Lib.hid hin1
                have HOUT := Lib.hid hin
                have hlen := HM.out.len
                have HW := Lib.hid (Whole.fresh wr 61 #[.int .i64 1, .int .i64 x1, .int .i64 x2, .bool x3])
                have hla := (((Below.refl wr.heap.size wr).alloc (Nat.le_refl _) (.cells #[.int .i64 1, .int .i64 x1, .int .i64 x2, .bool x3] 61)).cell (p := ⟨b, 0, none⟩) p1).trans hlen
                clear hin hin1
                go_wp2_with fail
                go_region_held3 (fun w' => w'.cell? ⟨wr.heap.size, 1, none⟩ = some (.int .i64 x1) ∧ w'.cell? ⟨wr.heap.size, 2, none⟩ = some (.int .i64 x2) ∧ w'.cell? ⟨wr.heap.size, 3, none⟩ = some (.bool x3)) (simp [go_sem, *])
                  (first
                    | (go_at_call 29; refine (HIN.out _ (by omega)).mono ?_; rintro e w' ⟨rfl, rfl⟩)
                    | (go_at_call 15; refine (fill_no b N x1 x2 x3 _ (by exact hla) (by omega) HOUT.out).mono ?_; rintro e w' ⟨rfl, rfl⟩))
                all_goals
                  go_wp2
                  go_roundw
                  case rel => exact grown_kept hlt HM.out HF.out hB p1 p2 p3 ((Below.refl _ _).alloc (Nat.le_refl _) _).drew
                  case measure => simp [intOf]; omega
              · obtain ⟨g0, g1, g2, g3⟩ := (inB_iff N x1 x2).1 hin
                obtain ⟨j, rfl⟩ := Int.eq_ofNat_of_zero_le g1
                obtain ⟨i, rfl⟩ := Int.eq_ofNat_of_zero_le g0
                have hj : j + i ≤ N := by omega
                have hin1 := in_any (some ⟨r, 0, none⟩) N N j i
                rw [hin] at hin1
                have HIN := Lib.hid hin1
                have bel : Below wr.heap.size wr (wr.alloc (.cells #[.int .i64 1, .int .i64 (j : Nat), .int .i64 (i : Nat), .bool x3] 61)) := (Below.refl wr.heap.size wr).alloc (Nat.le_refl _) _
                have HMA := Lib.hid (HM.out.below bel p1 p2)
                have HW := Lib.hid (Whole.fresh wr 61 #[.int .i64 1, .int .i64 (j : Nat), .int .i64 (i : Nat), .bool x3])
                have HFA := Lib.hid (HF.out.below bel p3)
                have HBE := Lib.hid bel
                clear hin hin1 bel g0 g1 g2 g3
                go_wp2_with fail
                go_region_held3 (fun w' => w'.cell? ⟨wr.heap.size, 1, none⟩ = some (.int .i64 (j : Nat)) ∧ w'.cell? ⟨wr.heap.size, 2, none⟩ = some (.int .i64 (i : Nat)) ∧ w'.cell? ⟨wr.heap.size, 3, none⟩ = some (.bool x3)) (simp [go_sem, *])
                  (first
                    | (go_at_call 29; refine (HIN.out _ (by omega)).mono ?_; rintro e w' ⟨rfl, rfl⟩)
                    | (go_at_call 15; refine (fill_ok b c N j i ws x3 _ (by exact HMA.out.heap rfl) hj).mono ?_; rintro e w3 ⟨rfl, ho3, hm3⟩; have hw3 : Whole w3 wr.heap.size 61 #[.int .i64 1, .int .i64 (j : Nat), .int .i64 (i : Nat), .bool x3] := (ho3.block _ (by omega)).trans HW.out; have hk1 := (hw3.cell 1).trans rfl; have hk2 := (hw3.cell 2).trans rfl; have hk3 := (hw3.cell 3).trans rfl; have HM3 := Lib.hid hm3; clear hm3))
                all_goals
                  have hr3 : RefAt w3 r N (BM.on ws) := RefAt.only (c := c) (by exact HFA.out.heap rfl) ho3 (by omega)
                  have F1 := refFill_any r N j i _ x3 _ (by omega) hr3 hj
                  have HF1 := Lib.hid F1
                  clear F1 hr3
                  go_wp2_with fail
                  refine HF1.out.mono ?_
                  rintro e w5 ⟨⟨xx, rfl⟩, ho5, hr5⟩
                  have HR5 := Lib.hid hr5
                  clear hr5
                  go_wp2
                  go_roundw
                  case rel => exact grown_turned hlt hB p1 p2 p3 q2 q3 (by omega) (by omega) HBE.out.drew (Nat.le_refl _) ho3 HM3.out (OnlyAt.refl wr.heap.size w3) _ ho5 HR5.out
                  case measure => simp [intOf]; omega
            · have d1 : (x0 == 1) = false := by simpa using k1
              go_wp2
              go_roundw
              case rel => exact grown_kept hlt HM.out HF.out hB p1 p2 p3 ((Below.refl _ _).alloc (Nat.le_refl _) _)
              case measure => simp [intOf]; omega
        · obtain rfl : k = M := by omega
          go_wp2
          go_ret3
          exact ⟨b, c, r, ws, rfl, HM.out, HF.out, hB, q1, q2, q3, p1, p2, p3, by omega, by omega⟩
end Go.Proofs.YthbclmolegnhiaaDoor
