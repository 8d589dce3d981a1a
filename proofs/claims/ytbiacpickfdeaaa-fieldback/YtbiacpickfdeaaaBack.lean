/- The law FieldBack, walked: what is packed is unpacked. -/
import Derived.Test.YtbiacpickfdeaaaAlive
import Derived.Test.YtbiacpickfdeaaaUnpack
import Derived.Test.YtbiacpickfdeaaaMath3
namespace Go.Proofs.Ytbiacpickfdeaaa
open Go.RowKit

theorem ns_get {k : IntKind} {w : World} {B n i : Nat} {g : Nat} {xs : List Int} (h : NS k w B (some ⟨g, 0, none⟩) n xs) (hi : i < n) : w.cell? ⟨g, i, none⟩ = some (.int k (xs[i]'(by have := h.1; omega))) := by
  obtain ⟨b, off, e, hlt, hc⟩ := h.2.2 (by omega)
  have hl : i < xs.length := by have := h.1; omega
  have := hc i xs[i] (List.getElem?_eq_getElem hl)
  injection e with e
  injection e with e1 e2
  subst e1 e2
  simpa using this

set_option maxHeartbeats 4000000 in
theorem back_walk (x : Int) (A : Option Addr) (n c : Nat) (fs : List (Int × Int)) (w : World) (hx : FM.Word x) (hf : FS w w.heap.size A n fs) (hc : n ≤ c) :
    Calls Try.prog 6 #[.int .u64 x, .slice A n c] w fun e w' => e = .returned (.bool true) ∧ Below w.heap.size w w' := by
  by_cases hn : n ≤ 64
  case pos =>
    have hn' : ¬ (64 : Int) < (n : Int) := by omega
    obtain ⟨L, hL, hl⟩ : ∃ L, FS w w.heap.size A n L ∧ n ≤ 64 := ⟨fs, hf, hn⟩
    go_enter Try.func6, Try.ntmps6
    go_wp2_with fail
    have HL := Lib.hid hL
    clear hf hL hn
    by_cases ha : FM.apart L = true
    · refine (unpack_ok x hx A n c L _ (by omega) HL.out ha).mono ?_
      rintro e w1 ⟨g1, rfl, hN1, hb1⟩
      have HN1 := Lib.hid hN1
      clear hN1
      have s1 := hb1.size
      go_wp2_with fail
      refine (apart_any A n c L _ (by omega) ((HL.out.below hb1).more s1)).mono ?_
      rintro e w2 ⟨rfl, hb2⟩
      have s2 := hb2.size
      have B2 : Below w.heap.size w w2 := hb1.trans (hb2.mono s1)
      have N2 : NS .u64 w2 w2.heap.size (some ⟨g1, 0, none⟩) n _ := (HN1.out.below hb2).more s2
      have HN2 := Lib.hid N2
      have HB2 := Lib.hid B2
      clear N2 B2 HN1
      go_wp2_with fail
      refine (pack_any A n c L (some ⟨g1, 0, none⟩) n _ _ (by omega) ((HL.out.below HB2.out).more (by omega)) HN2.out ha).mono ?_
      rintro e w3 ⟨hp, hb3⟩
      rw [FM.pack_unpack x L 0] at hp
      rcases hp with ⟨V, hV, hVw, rfl⟩ | ⟨hp, _⟩
      case inr => cases hp
      rw [Nat.zero_or] at hV
      injection hV with hV
      subst hV
      have s3 := hb3.size
      have B3 : Below w.heap.size w w3 := HB2.out.trans (hb3.mono (by omega))
      have HB3 := Lib.hid B3
      have HN3 := Lib.hid ((HN2.out.below hb3).more s3)
      have hin := FM.masked_in x L hx
      obtain ⟨V, hV⟩ : ∃ V, V = x.toNat &&& FM.mask L := ⟨_, rfl⟩
      have HV := Lib.hid hV
      rw [← hV] at hVw hin
      rw [← hV]
      clear hV B3 HN2 HB2
      have hin' : (bits BinOp.andNot IntKind.u64 (V : Int) x != 0) = false := by rw [hin]; rfl
      clear hin
      go_wp2_with fail
      refine (unpack_ok V ⟨by omega, by omega⟩ A n c L _ (by omega) ((HL.out.below HB3.out).more (by omega)) ha).mono ?_
      rintro e w4 ⟨g4, rfl, hN4, hb4⟩
      have s4 := hb4.size
      have B4 : Below w.heap.size w w4 := HB3.out.trans (hb4.mono (by omega))
      have HB4 := Lib.hid B4
      have N1 := (HN3.out.below hb4).more s4
      rw [HV.out, FM.unpack_masked x L] at hN4
      have HN1 := Lib.hid N1
      have HN4 := Lib.hid hN4
      clear N1 hN4 B4 HB3 HN3 hb1 hb2 hb3 hb4
      have hMM : ((n : Int) != (n : Int)) = false := by simp
      go_wp2_with fail
      go_loopw [80] (fun i wr => ∃ (k : Nat), k ≤ n ∧ i = .int .i64 k ∧ ∃ q, wr = w4.drewN q) (fun i _ => n - (intOf i).toNat)
      case atStart => exact ⟨0, Nat.zero_le _, rfl, 0, rfl⟩
      case round =>
        obtain ⟨k, hk, rfl, q, rfl⟩ := hrel
        by_cases hlt : k < n
        · have e1 := ns_get HN1.out hlt
          have e4 := ns_get HN4.out hlt
          generalize (List.map (fun f => FM.num x f.1 f.2) L)[k]'_ = u at e1 e4
          have huu : (u != u) = false := by simp
          go_wp2
          go_quiet (fail)
          go_wp2
          go_roundw
          case rel => exact ⟨k + 1, by omega, by go_num, _, rfl⟩
          case measure => simp [intOf]; omega
        · go_wp2_with fail
          refine (alive_any _).mono ?_
          rintro e w5 ⟨rfl, hb5⟩
          go_wp2
          go_ret
          exact ⟨rfl, (below_drewN HB4.out q).trans (hb5.mono (by simp; omega))⟩
    · have ha' : FM.apart L = false := by simpa using ha
      clear ha
      refine (unpack_no x A n c L _ (by omega) HL.out ha').mono ?_
      rintro e w1 ⟨rfl, hb1⟩
      have s1 := hb1.size
      go_wp2_with fail
      refine (apart_any A n c L _ (by omega) ((HL.out.below hb1).more s1)).mono ?_
      rintro e w2 ⟨rfl, hb2⟩
      have s2 := hb2.size
      go_wp2_with fail
      refine (alive_any _).mono ?_
      rintro e w3 ⟨rfl, hb3⟩
      go_wp2
      go_ret
      exact ⟨rfl, (hb1.trans (hb2.mono s1)).trans (hb3.mono (by omega))⟩
  case neg =>
    have hn' : (64 : Int) < (n : Int) := by omega
    have hc' : ¬ (c : Int) < 64 := by omega
    obtain ⟨L, hL, hl⟩ : ∃ L, FS w w.heap.size A 64 L ∧ 64 ≤ n := ⟨fs.take 64, hf.take (by omega), by omega⟩
    go_enter Try.func6, Try.ntmps6
    go_wp2_with fail
    have HL := Lib.hid hL
    clear hf hL hn
    by_cases ha : FM.apart L = true
    · refine (unpack_ok x hx A 64 c L _ (by omega) HL.out ha).mono ?_
      rintro e w1 ⟨g1, rfl, hN1, hb1⟩
      have HN1 := Lib.hid hN1
      clear hN1
      have s1 := hb1.size
      go_wp2_with fail
      refine (apart_any A 64 c L _ (by omega) ((HL.out.below hb1).more s1)).mono ?_
      rintro e w2 ⟨rfl, hb2⟩
      have s2 := hb2.size
      have B2 : Below w.heap.size w w2 := hb1.trans (hb2.mono s1)
      have N2 : NS .u64 w2 w2.heap.size (some ⟨g1, 0, none⟩) 64 _ := (HN1.out.below hb2).more s2
      have HN2 := Lib.hid N2
      have HB2 := Lib.hid B2
      clear N2 B2 HN1
      go_wp2_with fail
      refine (pack_any A 64 c L (some ⟨g1, 0, none⟩) 64 _ _ (by omega) ((HL.out.below HB2.out).more (by omega)) HN2.out ha).mono ?_
      rintro e w3 ⟨hp, hb3⟩
      rw [FM.pack_unpack x L 0] at hp
      rcases hp with ⟨V, hV, hVw, rfl⟩ | ⟨hp, _⟩
      case inr => cases hp
      rw [Nat.zero_or] at hV
      injection hV with hV
      subst hV
      have s3 := hb3.size
      have B3 : Below w.heap.size w w3 := HB2.out.trans (hb3.mono (by omega))
      have HB3 := Lib.hid B3
      have HN3 := Lib.hid ((HN2.out.below hb3).more s3)
      have hin := FM.masked_in x L hx
      obtain ⟨V, hV⟩ : ∃ V, V = x.toNat &&& FM.mask L := ⟨_, rfl⟩
      have HV := Lib.hid hV
      rw [← hV] at hVw hin
      rw [← hV]
      clear hV B3 HN2 HB2
      have hin' : (bits BinOp.andNot IntKind.u64 (V : Int) x != 0) = false := by rw [hin]; rfl
      clear hin
      go_wp2_with fail
      refine (unpack_ok V ⟨by omega, by omega⟩ A 64 c L _ (by omega) ((HL.out.below HB3.out).more (by omega)) ha).mono ?_
      rintro e w4 ⟨g4, rfl, hN4, hb4⟩
      have s4 := hb4.size
      have B4 : Below w.heap.size w w4 := HB3.out.trans (hb4.mono (by omega))
      have HB4 := Lib.hid B4
      have N1 := (HN3.out.below hb4).more s4
      rw [HV.out, FM.unpack_masked x L] at hN4
      have HN1 := Lib.hid N1
      have HN4 := Lib.hid hN4
      clear N1 hN4 B4 HB3 HN3 hb1 hb2 hb3 hb4
      have hMM : ((64 : Int) != (64 : Int)) = false := by simp
      go_wp2_with fail
      go_loopw [80] (fun i wr => ∃ (k : Nat), k ≤ 64 ∧ i = .int .i64 k ∧ ∃ q, wr = w4.drewN q) (fun i _ => 64 - (intOf i).toNat)
      case atStart => exact ⟨0, Nat.zero_le _, rfl, 0, rfl⟩
      case round =>
        obtain ⟨k, hk, rfl, q, rfl⟩ := hrel
        by_cases hlt : k < 64
        · have e1 := ns_get HN1.out hlt
          have e4 := ns_get HN4.out hlt
          generalize (List.map (fun f => FM.num x f.1 f.2) L)[k]'_ = u at e1 e4
          have huu : (u != u) = false := by simp
          go_wp2
          go_quiet (fail)
          go_wp2
          go_roundw
          case rel => exact ⟨k + 1, by omega, by go_num, _, rfl⟩
          case measure => simp [intOf]; omega
        · go_wp2_with fail
          refine (alive_any _).mono ?_
          rintro e w5 ⟨rfl, hb5⟩
          go_wp2
          go_ret
          exact ⟨rfl, (below_drewN HB4.out q).trans (hb5.mono (by simp; omega))⟩
    · have ha' : FM.apart L = false := by simpa using ha
      clear ha
      refine (unpack_no x A 64 c L _ (by omega) HL.out ha').mono ?_
      rintro e w1 ⟨rfl, hb1⟩
      have s1 := hb1.size
      go_wp2_with fail
      refine (apart_any A 64 c L _ (by omega) ((HL.out.below hb1).more s1)).mono ?_
      rintro e w2 ⟨rfl, hb2⟩
      have s2 := hb2.size
      go_wp2_with fail
      refine (alive_any _).mono ?_
      rintro e w3 ⟨rfl, hb3⟩
      go_wp2
      go_ret
      exact ⟨rfl, (hb1.trans (hb2.mono s1)).trans (hb3.mono (by omega))⟩
end Go.Proofs.Ytbiacpickfdeaaa
