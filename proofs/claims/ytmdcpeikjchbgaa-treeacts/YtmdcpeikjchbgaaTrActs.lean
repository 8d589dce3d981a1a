/- The law TreeActs: of any regions each answer is the document's, and all that is told. -/
import Derived.Test.YtmdcpeikjchbgaaTrDo
namespace Go.Proofs.Ytmdcpeikjchbgaa
open Go.RowKit Go.Maps

set_option maxRecDepth 100000 in
set_option maxHeartbeats 8000000 in
theorem acts_walk (A : Option Addr) (n0 c : Nat) (ls : List (Int × Int)) (z : Int) (w : World) (hl : AcS w w.heap.size A n0 ls) (hz : I64 z) :
    Calls Try.prog 3 #[.slice A n0 c, .int .i64 z] w fun e w' => e = .returned (.bool true) ∧ Below w.heap.size w w' := by
  have HL := Lib.hid hl
  have HZ := Lib.hid hz
  have N1 := Lib.hid (tadd_nil w 0)
  have N2 := Lib.hid (tparent_nil w 1)
  have N3 := Lib.hid (tkids_nil w 0)
  have N4 := Lib.hid (tunder_nil w 1)
  have N5 := Lib.hid (tfree_nil w 1)
  have N6 := Lib.hid (tmerge_nil w 1)
  have HN := Lib.hid (tnew_any w)
  clear hl hz
  go_enter Try.func3, Try.ntmps3
  go_wp2_with fail
  refine N1.out.mono ?_
  rintro e w1 ⟨rfl, rfl⟩
  go_wp2_with fail
  refine N2.out.mono ?_
  rintro e w1 ⟨rfl, rfl⟩
  go_wp2_with fail
  refine N3.out.mono ?_
  rintro e w1 ⟨rfl, rfl⟩
  go_wp2_with fail
  refine N4.out.mono ?_
  rintro e w1 ⟨rfl, rfl⟩
  go_wp2_with fail
  refine N5.out.mono ?_
  rintro e w1 ⟨rfl, rfl⟩
  go_wp2_with fail
  refine N6.out.mono ?_
  rintro e w1 ⟨rfl, rfl⟩
  go_wp2_with fail
  refine HN.out.mono ?_
  rintro e w1 ⟨b, m, rfl, ht, hb, hm, bel⟩
  have HT := Lib.hid (show Tm w w1 b m 0 (fun _ => none) from ⟨ht, hb, hm, bel⟩)
  have HA := Lib.hid (talive_any w1)
  clear ht hb hm bel HN N1 N2 N3 N4 N5 N6
  go_wp2_with fail
  refine HA.out.mono ?_
  rintro e w2 ⟨rfl, hb2⟩
  have HT2 := Lib.hid (HT.out.later hb2)
  have NL := Lib.hid (tlive_nil w2 1)
  have NN := Lib.hid (tlen_nil w2)
  clear hb2 HA HT
  go_wp2_with fail
  refine NL.out.mono ?_
  rintro e w3 ⟨rfl, rfl⟩
  go_wp2_with fail
  refine NN.out.mono ?_
  rintro e w3 ⟨rfl, rfl⟩
  by_cases h120 : 120 < n0
  · go_wp2
    go_ret
    exact ⟨rfl, HT2.out.bel⟩
  · have d : decide ((120 : Int) < (n0 : Int)) = false := by simp; omega
    have HR := Lib.hid (rtnew_any w2)
    go_wp2_with fail
    refine HR.out.mono ?_
    rintro e w3 ⟨r, g, rfl, hd, hr, hg, hb3⟩
    have HS := Lib.hid (show Ls w w3 b m r g 0 (fun _ => none) from ⟨HT2.out.later hb3, hd, Nat.le_trans HT2.out.bel.size hr, Nat.le_trans HT2.out.bel.size hg⟩)
    clear hd hr hg hb3 HR HT2 NL NN
    go_wp2_with fail
    go_loopw [104] (fun i wr => ∃ (k n : Nat) (f : TR.F) (g' : Nat), k ≤ n0 ∧ n ≤ k ∧ i = .int .i64 k ∧ Ls w wr b m r g' n f) (fun i _ => n0 - (intOf i).toNat)
    case atStart => exact ⟨0, 0, _, _, by omega, Nat.le_refl _, rfl, HS.out⟩
    case round =>
      obtain ⟨k, n, f, g2, hk, hn, rfl, hs⟩ := hrel
      by_cases hlt : k < n0
      · obtain ⟨ab, off, K, x, rfl, hab, hK, hx, c0, c1⟩ := (HL.out.below hs.t.bel).at_ hlt
        have hs2 := hs.later ((Below.refl wr.heap.size wr).alloc (Nat.le_refl _) (.cells #[.int .i64 K, .int .i64 x] 37))
        have HD := Lib.hid (tdo_any hs2 (by omega) K x hx)
        clear hs hs2 hK hx
        go_wp2_with fail
        refine HD.out.mono ?_
        rintro e w4 ⟨rfl, n4, f4, g4, hs4, hn4⟩
        have HS4 := Lib.hid hs4
        clear hs4 HD
        go_wp2
        go_roundw
        case rel => exact ⟨k + 1, n4, f4, g4, by omega, by omega, by go_num, HS4.out⟩
        case measure => simp [intOf]; omega
      · obtain ⟨cap, cr0, hcap, hgl, hrl, hne, _⟩ := hs.d.toRtP.rd
        have HS5 := Lib.hid hs
        clear hs
        go_wp2_with fail
        go_loopw [120] (fun i wx => ∃ k : Nat, k ≤ n + 2 ∧ i = .int .i64 k ∧ Ls w wx b m r g2 n f) (fun i _ => n + 2 - (intOf i).toNat)
        case atStart => exact ⟨0, by omega, rfl, HS5.out⟩
        case round =>
          obtain ⟨j, hj, rfl, hs⟩ := hrel
          by_cases hjl : j < n + 2
          · have HTL := Lib.hid (ttells_any hs (j : Int) (I64.nat (by omega)))
            have HS6 := Lib.hid hs
            clear hs
            go_wp2_with fail
            refine HTL.out.mono ?_
            rintro e w5 ⟨rfl, hb5⟩
            have HS7 := Lib.hid (HS6.out.later hb5)
            clear hb5
            go_wp2
            go_roundw
            case rel => exact ⟨j + 1, by omega, by go_num, HS7.out⟩
            case measure => simp [intOf]; omega
          · obtain rfl : j = n + 2 := by omega
            have HTL := Lib.hid (ttells_any hs z HZ.out)
            have HS6 := Lib.hid hs
            clear hs
            go_wp2_with fail
            refine HTL.out.mono ?_
            rintro e w5 ⟨rfl, hb5⟩
            have HS7 := Lib.hid (HS6.out.later hb5)
            have HLN := Lib.hid (tlen_any HS7.out.t.at_)
            have HRA := Lib.hid (rtall_any HS7.out.d)
            clear hb5 HTL HS6
            go_wp2_with fail
            refine HLN.out.mono ?_
            rintro e w6 ⟨rfl, rfl⟩
            go_wp2_with fail
            refine HRA.out.mono ?_
            rintro e w6 ⟨v6, rfl, hv6, hb6⟩
            have HS8 := Lib.hid (HS7.out.later hb6)
            obtain ⟨A6, c6, rfl, _⟩ := hv6.slice
            clear hv6 hb6
            generalize (TR.all n f).length = L at *
            go_wp2
            go_ret
            exact ⟨rfl, HS8.out.t.bel⟩
end Go.Proofs.Ytmdcpeikjchbgaa
