/- The contract of field.Apart, over a slice of fields that reads as a list. -/
import Derived.Test.YtbiacpickfdeaaaPut
namespace Go.Proofs.Ytbiacpickfdeaaa
open Go.RowKit

/-- A slice of fields that reads as the list fs, its memory below block B. -/
def FS (w : World) (B : Nat) (A : Option Addr) (n : Nat) (fs : List (Int × Int)) : Prop :=
  fs.length = n ∧ n ≤ 1000000 ∧ (0 < n → ∃ b off, A = some ⟨b, off, none⟩ ∧ b < B ∧ ∀ i f, fs[i]? = some f → w.cell? ⟨b, off + i * 2, none⟩ = some (.int .i64 f.1) ∧ w.cell? ⟨b, off + i * 2 + 1, none⟩ = some (.int .i64 f.2))

theorem FS.below {w w' : World} {B n : Nat} {A : Option Addr} {fs : List (Int × Int)} (h : FS w B A n fs) (hb : Below B w w') : FS w' B A n fs := by
  refine ⟨h.1, h.2.1, fun hn => ?_⟩
  obtain ⟨b, off, e, hlt, hc⟩ := h.2.2 hn
  exact ⟨b, off, e, hlt, fun i f hi => ⟨(hb.cell (p := ⟨b, _, none⟩) hlt).trans (hc i f hi).1, (hb.cell (p := ⟨b, _, none⟩) hlt).trans (hc i f hi).2⟩⟩
theorem FS.more {w : World} {B B' n : Nat} {A : Option Addr} {fs : List (Int × Int)} (h : FS w B A n fs) (hB : B ≤ B') : FS w B' A n fs := by
  refine ⟨h.1, h.2.1, fun hn => ?_⟩
  obtain ⟨b, off, e, hlt, hc⟩ := h.2.2 hn
  exact ⟨b, off, e, by omega, hc⟩
theorem FS.at_ {w : World} {B n k : Nat} {A : Option Addr} {fs : List (Int × Int)} (h : FS w B A n fs) (hk : k < n) : ∃ b off a c, A = some ⟨b, off, none⟩ ∧ b < B ∧ fs.drop k = (a, c) :: fs.drop (k + 1) ∧
    w.cell? ⟨b, off + k * 2, none⟩ = some (.int .i64 a) ∧ w.cell? ⟨b, off + k * 2 + 1, none⟩ = some (.int .i64 c) := by
  obtain ⟨b, off, e, hlt, hc⟩ := h.2.2 (by omega)
  have hl : k < fs.length := by have := h.1; omega
  have := hc k fs[k] (List.getElem?_eq_getElem hl)
  exact ⟨b, off, fs[k].1, fs[k].2, e, hlt, FM.drop_cons fs k hl, this.1, this.2⟩

set_option maxHeartbeats 1000000 in
theorem apart_any (A : Option Addr) (n c : Nat) (fs : List (Int × Int)) (w : World) (hf : FS w w.heap.size A n fs) :
    Calls Try.prog 15 #[.slice A n c] w fun e w' => e = .returned (.bool (FM.apart fs)) ∧ Below w.heap.size w w' := by
  have hn := hf.2.1
  have HF := Lib.hid hf
  clear hf
  go_enter Try.func15, Try.ntmps15
  go_wp2
  go_loopw [3, 8] (fun t i wr => ∃ k T : Nat, k ≤ n ∧ T < 18446744073709551616 ∧ i = .int .i64 k ∧ t = .int .u64 T ∧ Hid (FM.apart fs = FM.apartGo T (fs.drop k)) ∧ Below w.heap.size w wr) (fun _ i _ => n - (intOf i).toNat)
  case atStart => exact ⟨0, 0, Nat.zero_le _, by omega, rfl, rfl, rfl, Below.refl _ _⟩
  case round =>
    obtain ⟨k, T, hk, hT, rfl, rfl, HA, hbw⟩ := hrel
    by_cases hlt : k < n
    · obtain ⟨b, off, a, d, rfl, hbB, hd, hc0, hc1⟩ := (HF.out.below hbw).at_ hlt
      have HD := Lib.hid hd
      clear hd
      by_cases hr : FM.right a d = true
      · by_cases hz : T &&& FM.boN a.toNat d.toNat = 0
        · have hz' : (bits BinOp.and IntKind.u64 (T : Int) (FM.bo a d) != 0) = false := by rw [FM.and_bo T a d hT hr, hz]; rfl
          have HZ := Lib.hid hz
          clear hz
          go_wp2_with (first
            | (go_at_call 14; refine (right_any a d _).mono ?_; rintro e w' ⟨rfl, rfl⟩)
            | (go_at_call 24; refine (bitsOf_any a d hr _).mono ?_; rintro e w' ⟨rfl, hb⟩; obtain ⟨hc, hfz⟩ := bcell hb))
          rename_i w1 hb1 hc2 hf2
          have hs := hbw.size
          have hs1 := hb1.size
          simp at hs1
          go_roundw
          case rel => exact ⟨k + 1, T ||| FM.boN a.toNat d.toNat, by omega, FM.or_bo_lt T a d hT hr, by go_num, by rw [FM.or_bo T a d hT hr], by rw [HA.out, HD.out, FM.go_next T (a, d) _ hr HZ.out]; exact rfl, ((((hbw.alloc hs _).alloc (by simp; omega) _).trans (hb1.mono (by simp; omega))).trans (hb.mono (by omega)))⟩
          case measure => simp [intOf]; omega
        · have hz' : (bits BinOp.and IntKind.u64 (T : Int) (FM.bo a d) != 0) = true := by rw [FM.and_bo T a d hT hr]; simp; omega
          have HZ := Lib.hid hz
          clear hz
          go_wp2_with (first
            | (go_at_call 14; refine (right_any a d _).mono ?_; rintro e w' ⟨rfl, rfl⟩)
            | (go_at_call 24; refine (bitsOf_any a d hr _).mono ?_; rintro e w' ⟨rfl, hb⟩; obtain ⟨hc, hfz⟩ := bcell hb))
          have hs := hbw.size
          go_ret
          exact ⟨ret_bool (by rw [HA.out, HD.out, FM.go_share T (a, d) _ HZ.out]), (((hbw.alloc hs _).alloc (by simp; omega) _).trans (hb.mono (by simp; omega)))⟩
      · have hr' : FM.right a d = false := by simpa using hr
        clear hr
        go_wp2_with (first
            | (go_at_call 14; refine (right_any a d _).mono ?_; rintro e w' ⟨rfl, rfl⟩))
        have hs := hbw.size
        go_ret
        exact ⟨ret_bool (by rw [HA.out, HD.out, FM.go_wrong T (a, d) _ hr']), ((hbw.alloc hs _).alloc (by simp; omega) _)⟩
    · go_wp2
      go_ret
      have hl := HF.out.1
      exact ⟨ret_bool (by rw [HA.out, List.drop_eq_nil_of_le (by omega)]; rfl), hbw⟩
end Go.Proofs.Ytbiacpickfdeaaa
