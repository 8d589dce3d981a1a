/- Contracts of TakeRun and Copy of the document's store. -/
import Derived.Test.YteencfldehcbbaaDoorStRef
namespace Go.Proofs.YteencfldehcbbaaDoor
open Go.RowKit

theorem infoU64 : (Tryd.prog.info? 57).map (fun i => (i.zero, i.size, i.bytes)) = some (some (.int .u64 0), 1, 8) := by kernel_rfl

section
variable {w w' : World} {R : RB} {C K : Nat} {own wd : Nat → Nat}
theorem rtake_arg (a : Addr) (x n : Int) (w : World) (h : x < 1 ∨ n < 1) :
    Calls Tryd.prog 57 #[.pointer (some a), .int .i64 x, .int .i64 n] w fun e w' => e = .returned (.tuple #[.int .i64 0, .int .i64 2]) ∧ w = w' := by
  have h' : x < 1 ∨ (1 ≤ x ∧ n < 1) := by omega
  clear h
  rcases h' with h | ⟨h, h2⟩
  all_goals
    go_enter Tryd.func57, Tryd.ntmps57
    go_wp2
    go_ret2
    exact ⟨rfl, rfl⟩
set_option maxHeartbeats 400000 in
theorem rtake_full (h : RfAt w R C K own wd) (x : Int) (k : Nat) (hx : 1 ≤ x) (hk : 1 ≤ k) (hk2 : k ≤ 9223372036854775807) (hr : ¬ BM.rn (busy own) C k < C + 1 - k) :
    Calls Tryd.prog 57 #[.pointer (some ⟨R.m, 0, none⟩), .int .i64 x, .int .i64 k] w fun e w' => e = .returned (.tuple #[.int .i64 0, .int .i64 11]) ∧ w = w' := by
  have hrun := rrun_any h k hk hk2
  rw [show rrunV own C k = -1 by unfold rrunV; rw [if_neg hr]] at hrun
  have HRUN := Lib.hid hrun
  clear hrun hr h
  have d1 : decide ((k : Int) < 1) = false := by simp; omega
  go_enter Tryd.func57, Tryd.ntmps57
  go_wp2_with (first
    | (go_at_call 70; refine HRUN.out.mono ?_; rintro e w' ⟨rfl, rfl⟩))
  go_ret2
  exact ⟨rfl, rfl⟩

def RTakePost (w : World) (R : RB) (C K : Nat) (own wd : Nat → Nat) (p : Nat) (e : Ending) (w' : World) : Prop :=
  e = .returned (.tuple #[.int .i64 p, .int .i64 0]) ∧ OnlyIn [R.p, R.q] w w' ∧ RfAt w' R C K own wd
def RTakeAt (w : World) (R : RB) (C K p k x : Nat) (own wd : Nat → Nat) (v : Value) (wr : World) : Prop :=
  ∃ i : Nat, p ≤ i ∧ i ≤ p + k ∧ v = .int .i64 i ∧ OnlyIn [R.p, R.q] w wr ∧ RfAt wr R C K (tkOwn own p (i - p) x) (tkWd wd K p (i - p))
/-- Some words of one chunk that are 0. -/
def zeroed (wd : Nat → Nat) (a j q : Nat) : Nat := if a ≤ q ∧ q < a + j then 0 else wd q
def RTakeIn (w : World) (R : RB) (C K : Nat) (own wd : Nat → Nat) (a : Nat) (v : Value) (wr : World) : Prop :=
  ∃ j : Nat, j ≤ K ∧ v = .int .i64 j ∧ OnlyIn [R.p, R.q] w wr ∧ RfAt wr R C K own (zeroed wd a j)
theorem RfAt.congr {own' wd' : Nat → Nat} (h : RfAt w R C K own wd) (e1 : ∀ q, own q = own' q) (e2 : ∀ q, wd q = wd' q) : RfAt w R C K own' wd' := by
  obtain rfl : own = own' := funext e1
  obtain rfl : wd = wd' := funext e2
  exact h
set_option maxHeartbeats 4000000 in
theorem rtake_ok (h : RfAt w R C K own wd) (x k p : Nat) (hx0 : 0 < x) (hx : x < 9223372036854775808) (hk : 1 ≤ k) (hr : BM.rn (busy own) C k = p) (hp : p < C + 1 - k) :
    Calls Tryd.prog 57 #[.pointer (some ⟨R.m, 0, none⟩), .int .i64 x, .int .i64 k] w (RTakePost w R C K (tkOwn own p k x) (tkWd wd K p k) p) := by
  have hC := h.C2
  have hM := h.all
  have hK := h.K1
  have hK2 := h.K2
  have hrun := rrun_any h k hk (by omega)
  rw [show rrunV own C k = p by unfold rrunV; rw [hr, if_pos hp]] at hrun
  have HRUN := Lib.hid hrun
  have HH := Lib.hid h
  have d0 : decide ((x : Int) < 1) = false := by simp; omega
  have d1 : decide ((k : Int) < 1) = false := by simp; omega
  clear hrun hr h
  go_enter Tryd.func57, Tryd.ntmps57
  go_wp2_with fail
  refine HRUN.out.mono ?_
  rintro e w' ⟨rfl, rfl⟩
  go_wp2_with fail
  go_loopw [9] (RTakeAt w R C K p k x own wd) (fun v _ => p + k - (intOf v).toNat)
  case atStart => exact ⟨p, Nat.le_refl _, by omega, rfl, OnlyIn.refl _ _, HH.out.congr (fun q => by unfold tkOwn; rw [if_neg (by omega)]) (fun q => by unfold tkWd; rw [Nat.sub_self, Nat.add_zero, if_neg (by omega)])⟩
  case round =>
    obtain ⟨i, hi1, hi2, rfl, ho, hr⟩ := hrel
    by_cases hlt : i < p + k
    · have c2 := hr.owners
      have c4 := hr.orow.cell i (by omega)
      have c5 := hr.orow.thaw i (by omega)
      have hg := hr.gave i x
      have hO := ho.setCell (c := R.q) (by simp) i (.int .i64 x)
      obtain ⟨w1, hw1⟩ : ∃ w1, w1 = wr.setCell ⟨R.q, i, none⟩ (.int .i64 x) := ⟨_, rfl⟩
      rw [← hw1] at hg hO
      have HG := Lib.hid hg
      have HO := Lib.hid hO
      have HW1 := Lib.hid hw1
      clear hr hg hO hw1
      go_wp2_with fail
      rw [← HW1.out]
      have ea : (i : Int) * (K : Int) = ((i * K : Nat) : Int) := by simp
      have hm2 : i * K + K ≤ C * K := by
        have := Nat.mul_le_mul_right K (show i + 1 ≤ C by omega)
        rw [Nat.add_mul, Nat.one_mul] at this
        exact this
      have hfin := Lib.hid (show ∀ q, zeroed (tkWd wd K p (i - p)) (i * K) K q = tkWd wd K p (i + 1 - p) q from fun q => by
        unfold zeroed tkWd
        have e1 : (p + (i - p)) * K = i * K := by rw [show p + (i - p) = i by omega]
        have e2 : (p + (i + 1 - p)) * K = i * K + K := by rw [show p + (i + 1 - p) = i + 1 by omega, Nat.add_mul, Nat.one_mul]
        have e3 : p * K ≤ i * K := Nat.mul_le_mul_right K hi1
        rw [e1, e2]
        by_cases a1 : i * K ≤ q ∧ q < i * K + K
        · rw [if_pos a1, if_pos (by omega)]
        · rw [if_neg a1]
          by_cases a2 : p * K ≤ q ∧ q < i * K
          · rw [if_pos a2, if_pos (by omega)]
          · rw [if_neg a2, if_neg (by omega)])
      generalize tkWd wd K p (i - p) = wd1 at *
      generalize hA : i * K = a at *
      generalize hMM : C * K = M at *
      have HMM := Lib.hid hMM
      have HA := Lib.hid hA
      clear hA hMM
      go_loopw [10] (RTakeIn w R C K (fun q => if q = i then x else tkOwn own p (i - p) x q) wd1 a) (fun v _ => K - (intOf v).toNat)
      case atStart => exact ⟨0, Nat.zero_le _, rfl, HO.out, HG.out.congr (fun q => rfl) (fun q => by unfold zeroed; rw [if_neg (by omega)])⟩
      case round =>
        obtain ⟨j, hj, rfl, ho2, hr2⟩ := hrel
        have b1 := hr2.size
        by_cases hl2 : j < K
        · have b0 := hr2.words
          have b2 := hr2.wrow
          rw [HMM.out] at b0 b2
          have b3 := b2.cell (a + j) (by omega)
          have b4 := b2.thaw (a + j) (by omega)
          have y1 := wrapOk (a : Int) (by omega) (by omega)
          have y2 := wrapOk ((a : Int) + (j : Int)) (by omega) (by omega)
          have y3 : ((a : Int) + (j : Int)).toNat = a + j := by omega
          have y4 : (0 : Int) ≤ (a : Int) + (j : Int) := by omega
          have y5 : (a : Int) + (j : Int) < (M : Int) := by omega
          have hs := hr2.wrote (a + j) 0
          have HS := Lib.hid hs
          have HO2 := Lib.hid ho2
          clear hs hr2 b2 ho2
          go_wp2_with fail
          go_region
          all_goals
            go_wp2
            go_roundw
            case rel =>
              refine ⟨j + 1, by omega, by go_num, (HO2.out.setCell (c := R.p) (by simp) _ _).drew, (HS.out.congr (fun q => rfl) (fun q => ?_)).heap rfl⟩
              show (if q = a + j then 0 else zeroed wd1 a j q) = zeroed wd1 a (j + 1) q
              unfold zeroed
              by_cases e : q = a + j
              · rw [if_pos e, if_pos (by omega)]
              · rw [if_neg e]
                by_cases e2 : a ≤ q ∧ q < a + j
                · rw [if_pos e2, if_pos (by omega)]
                · rw [if_neg e2, if_neg (by omega)]
            case measure => simp [intOf]; omega
        · obtain rfl : j = K := by omega
          have HR2 := Lib.hid hr2
          clear hr2
          go_wp2
          go_roundw
          case rel =>
            refine ⟨i + 1, by omega, by omega, by go_num, ho2, HR2.out.congr (fun q => ?_) hfin.out⟩
            show (if q = i then x else tkOwn own p (i - p) x q) = tkOwn own p (i + 1 - p) x q
            unfold tkOwn
            by_cases e : q = i
            · rw [if_pos e, if_pos (by omega)]
            · rw [if_neg e]
              by_cases e2 : p ≤ q ∧ q < p + (i - p)
              · rw [if_pos e2, if_pos (by omega)]
              · rw [if_neg e2, if_neg (by omega)]
          case measure => simp [intOf]; omega
    · obtain rfl : i = p + k := by omega
      rw [show p + k - p = k by omega] at hr
      have HR := Lib.hid hr
      clear hr
      go_wp2
      go_ret2
      exact ⟨rfl, ho, HR.out⟩

end
end Go.Proofs.YteencfldehcbbaaDoor
