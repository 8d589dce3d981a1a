/- The contract of Put. -/
import Derived.Test.YtomjaieplpjcpaaGyCall
namespace Go.Proofs.Ytomjaieplpjcpaa
open Go.RowKit Go.Lib Go.Sort Go.Maps

set_option maxHeartbeats 1000000 in
theorem gput_any {w : World} {base b : Nat} {s : GY.S} {A : Option Addr} {n c : Nat} {xs : List Int} (h : Gy w base b s) (hz : ∀ w', Gt base w w' → ZS w' A n xs) (hi : ZI xs) (hn : GY.num s + n < 1000000) :
    Calls Try.prog 11 #[pv b, .slice A n c] w (GyE base b (GY.puts s xs) (.int .i64 ((GY.cnt s xs : Nat) : Int)) w) := by
  have hl := (hz w (Gt.refl _ _)).len
  have HZ := Lib.hid hz
  have HI := Lib.hid hi
  have HG0 := Lib.hid h
  clear hz hi h
  go_enter Try.func11, Try.ntmps11
  go_wp2
  go_loopw [5, 12] (fun u i wr => ∃ k : Nat, k ≤ n ∧ i = .int .i64 k ∧ u = .int .i64 ((GY.cnt s (xs.take k) : Nat) : Int) ∧ Hid (Gy wr base b (GY.puts s (xs.take k))) ∧ Hid (Gt base w wr)) (fun _ i _ => n - (intOf i).toNat)
  case atStart => exact ⟨0, Nat.zero_le _, rfl, rfl, HG0, Lib.hid (Gt.refl _ _)⟩
  case round =>
    obtain ⟨i, hi, rfl, rfl, HU, HB⟩ := hrel
    by_cases hlt : i < n
    · obtain ⟨r, off, rfl, hb, d0⟩ := (HZ.out wr HB.out).at_ hlt
      have hst := GY.puts_take (s := s) (xs := xs) (i := i) (by omega)
      have hct := GY.cnt_take (s := s) (xs := xs) (i := i) (by omega)
      have hx := HI.out _ (List.getElem_mem (l := xs) (n := i) (by omega))
      obtain ⟨x, hxe⟩ : ∃ x, x = xs[i]'(by omega) := ⟨_, rfl⟩
      rw [← hxe] at d0 hst hct hx
      have hnum := GY.num_puts s (xs.take i)
      have hcl := GY.cnt_le s (xs.take i)
      rw [List.length_take] at hnum hcl
      obtain ⟨S, hS⟩ : ∃ S, S = GY.puts s (xs.take i) := ⟨_, rfl⟩
      rw [← hS] at hnum HU hst hct
      have hnS : GY.num S < 1000000 := by omega
      obtain ⟨m, e, P, bf, bh, h⟩ := HU.out
      have c0 := h.c0
      clear hS hxe hb hnum
      by_cases hc : GY.col S x = 0
      · have hlk := h.look_no hx hc
        have HA := Lib.hid (gadd_gy h hc hx hnS)
        rw [if_pos hc] at hct
        have HST := Lib.hid hst
        have HCT := Lib.hid hct
        obtain ⟨k, hk⟩ : ∃ k, k = GY.cnt s (xs.take i) := ⟨_, rfl⟩
        rw [← hk] at HCT hcl ⊢
        clear h hst hct hc hx hk HU
        go_wp2_with fail
        refine HA.out.mono ?_
        rintro ex w1 ⟨P', rfl, h1, h2⟩
        have HW := Lib.hid (gwait_new h1 (by omega))
        have H2 := Lib.hid h2
        clear HA h1 h2
        generalize P' x = g at HW
        go_wp2_with fail
        refine HW.out.mono ?_
        rintro ex w2 ⟨rfl, h3, h4⟩
        have H3 := Lib.hid h3
        have H4 := Lib.hid (HB.out.trans (H2.out.trans h4))
        clear HW h3 h4 H2 HB
        go_wp2
        go_roundw
        case rel => exact ⟨i + 1, by omega, by go_num, by rw [HCT.out]; rfl, by rw [HST.out]; exact H3, H4⟩
        case measure => simp [intOf]; omega
      · have hlk := h.look_yes hx hc
        rw [if_neg hc] at hct
        rw [GY.put_no hc] at hst
        have HST := Lib.hid hst
        have HCT := Lib.hid hct
        generalize P x = g at hlk
        clear h hst hct hc hx
        go_wp2
        go_roundw
        case rel => exact ⟨i + 1, by omega, by go_num, by rw [HCT.out]; rfl, by rw [HST.out]; exact HU, HB⟩
        case measure => simp [intOf]; omega
    · obtain rfl : i = n := by omega
      rw [List.take_of_length_le (by omega)] at HU ⊢
      go_wp2
      go_ret
      exact ⟨rfl, HU.out, HB.out⟩
end Go.Proofs.Ytomjaieplpjcpaa
