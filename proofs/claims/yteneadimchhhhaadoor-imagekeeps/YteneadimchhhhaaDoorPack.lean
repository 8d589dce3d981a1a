/- The contract of field.Pack, over a slice of fields and one of words. -/
import Derived.Test.YteneadimchhhhaaDoorApart
import Derived.Deep.QuietTactic
import Derived.BigQuiet
namespace Go.Proofs.YteneadimchhhhaaDoor
open Go.RowKit

theorem below_drewN {B : Nat} {a w : World} (h : Below B a w) (n : Nat) : Below B a (w.drewN n) := ⟨h.os, h.tape, h.output, h.size, h.block⟩

set_option maxHeartbeats 1000000 in
theorem pack_arg (A : Option Addr) (n c : Nat) (fs : List (Int × Int)) (X : Option Addr) (m d : Nat) (w : World) (hn : n ≤ 1000000) (hf : FS w w.heap.size A n fs)
    (h : FM.apart fs = false ∨ ¬ m = n) :
    Calls Tryd.prog 44 #[.slice A n c, .slice X m d] w fun e w' => e = .returned (.tuple #[.int .u64 0, .int .i64 2]) ∧ Below w.heap.size w w' := by
  by_cases ha : FM.apart fs = true
  · have hne : ¬ m = n := by rcases h with h | h; (rw [ha] at h; cases h); exact h
    have hne' : ((m : Int) != (n : Int)) = true := by simp; omega
    clear h
    have HF := Lib.hid hf
    clear hf
    go_enter Tryd.func44, Tryd.ntmps44
    go_wp2_with (first
      | (go_at_call 62; refine (apart_any A n c fs _ hn HF.out).mono ?_; rintro e w' ⟨rfl, hb⟩))
    go_ret2
    exact ⟨rfl, hb⟩
  · have ha' : FM.apart fs = false := by simpa using ha
    clear h ha
    have HF := Lib.hid hf
    clear hf
    go_enter Tryd.func44, Tryd.ntmps44
    go_wp2_with (first
      | (go_at_call 62; refine (apart_any A n c fs _ hn HF.out).mono ?_; rintro e w' ⟨rfl, hb⟩))
    go_ret2
    exact ⟨rfl, hb⟩

/-- What field.Pack answers of fields that are apart, and as many numbers. -/
def PackPost (r : Option Nat) (w : World) (e : Ending) (w' : World) : Prop :=
  ((∃ W : Nat, r = some W ∧ W < 18446744073709551616 ∧ e = .returned (.tuple #[.int .u64 (W : Int), .int .i64 0])) ∨ (r = none ∧ e = .returned (.tuple #[.int .u64 0, .int .i64 3]))) ∧ Below w.heap.size w w'

set_option maxHeartbeats 2000000 in
theorem pack_any (A : Option Addr) (n c : Nat) (fs : List (Int × Int)) (X : Option Addr) (d : Nat) (xs : List Int) (w : World) (hn : n ≤ 1000000) (hf : FS w w.heap.size A n fs) (hx : NS .u64 w w.heap.size X n xs) (ha : FM.apart fs = true) :
    Calls Tryd.prog 44 #[.slice A n c, .slice X n d] w (PackPost (FM.packGo 0 fs xs) w) := by
  have hne' : ((n : Int) != (n : Int)) = false := by simp
  have HF := Lib.hid hf
  clear hf
  have HX := Lib.hid hx
  clear hx
  have HR := Lib.hid (FM.apart_right 0 fs ha)
  go_enter Tryd.func44, Tryd.ntmps44
  go_wp2_with (first
      | (go_at_call 62; refine (apart_any A n c fs _ hn HF.out).mono ?_; rintro e w0 ⟨rfl, hb0⟩))
  go_loopw [6, 21] (fun t i wr => ∃ k T : Nat, k ≤ n ∧ T < 18446744073709551616 ∧ i = .int .i64 k ∧ t = .int .u64 T ∧ Hid (FM.packGo 0 fs xs = FM.packGo T (fs.drop k) (xs.drop k)) ∧ Below w.heap.size w wr) (fun _ i _ => n - (intOf i).toNat)
  case atStart => exact ⟨0, 0, Nat.zero_le _, by omega, rfl, rfl, rfl, hb0⟩
  case round =>
    obtain ⟨k, T, hk, hT, rfl, rfl, HA, hbw⟩ := hrel
    by_cases hlt : k < n
    · obtain ⟨b, off, a, e, rfl, hbB, hd, hc0, hc1⟩ := (HF.out.below hbw).at_ hlt
      obtain ⟨bx, ox, x, rfl, hbX, hdx, hxw0, hcx⟩ := (HX.out.below hbw).at_ hlt
      have hxw := word_of hxw0
      clear hxw0
      have hr : FM.right a e = true := HR.out (a, e) (List.mem_of_mem_drop (by rw [hd]; exact List.mem_cons_self))
      have HD := Lib.hid hd
      have HDX := Lib.hid hdx
      clear hd hdx
      obtain ⟨h1, h2, h3, h4⟩ := (FM.right_iff a e).1 hr
      have h5 : e ≤ 64 := by omega
      have hs := hbw.size
      have hbw' : b < wr.heap.size := by omega
      have hbX' : bx < wr.heap.size := by omega
      by_cases hfit : FM.fits x e = true
      · have h6 : x ≤ FM.gr e := by unfold FM.fits at hfit; simpa using hfit
        have h6' : decide (FM.gr e < x) = false := by simp; omega
        have HFit := Lib.hid hfit
        clear hfit
        go_wp2
        go_region_held3 (fun w' => w'.cell? ⟨wr.heap.size, 0, none⟩ = some (.int .i64 a) ∧ w'.cell? ⟨wr.heap.size, 1, none⟩ = some (.int .i64 e) ∧ w'.cell? ⟨bx, ox + k, none⟩ = some (.int .u64 x)) (simp [go_sem, World.cell?_alloc_past, *])
          (first
            | (go_at_call 63; refine (greatest_any a e h3 h5 _).mono ?_; rintro e w' ⟨rfl, rfl⟩))
        go_wp2
        go_quiet (fail)
        go_wp2
        have P := FM.pack_or T x a e hT hxw.1 hr HFit.out
        go_roundw
        case rel => exact ⟨k + 1, T ||| x.toNat * 2 ^ a.toNat, by omega, P.2, by go_num, by rw [P.1], by rw [HA.out, HD.out, HDX.out, FM.pack_next T (a, e) _ x _ HFit.out]; exact rfl, below_drewN ((hbw.alloc hs _).alloc (by simp; omega) _) _⟩
        case measure => simp [intOf]; omega
      · have h6 : FM.gr e < x := by unfold FM.fits at hfit; simpa using hfit
        have h6' : decide (FM.gr e < x) = true := by simp; omega
        have hfit' : FM.fits x e = false := by simpa using hfit
        have HFit := Lib.hid hfit'
        clear hfit hfit'
        go_wp2
        go_region_held3 (fun w' => w'.cell? ⟨wr.heap.size, 0, none⟩ = some (.int .i64 a) ∧ w'.cell? ⟨wr.heap.size, 1, none⟩ = some (.int .i64 e) ∧ w'.cell? ⟨bx, ox + k, none⟩ = some (.int .u64 x)) (simp [go_sem, World.cell?_alloc_past, *])
          (first
            | (go_at_call 63; refine (greatest_any a e h3 h5 _).mono ?_; rintro e w' ⟨rfl, rfl⟩))
        go_wp2
        go_ret2
        exact ⟨.inr ⟨by rw [HA.out, HD.out, HDX.out, FM.pack_stop T (a, e) _ x _ HFit.out], rfl⟩, ((hbw.alloc hs _).alloc (by simp; omega) _).drew⟩
    · go_wp2
      go_ret2
      have hl := HF.out.1
      exact ⟨.inl ⟨T, by rw [HA.out, List.drop_eq_nil_of_le (by omega)]; rfl, hT, rfl⟩, hbw⟩
end Go.Proofs.YteneadimchhhhaaDoor
