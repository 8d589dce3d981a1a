/- The walks of HeaderWords and HeaderLinks. -/
import Derived.Test.YtbgoopjkoelobaaHdAlive
namespace Go.Proofs.Ytbgoopjkoelobaa
open Go.RowKit

set_option maxHeartbeats 4000000 in
theorem words_core (L C S x W l c s F : Int) (m ok : Bool) (hF : F = if ok = true then 0 else 4)
    (CE : ∀ w, Calls Try.prog 9 #[.agg #[.int .i64 L, .int .i64 C, .int .i64 S]] w (EncIs (if m = true then W else 0) (if m = true then 0 else 3) w))
    (CM : ∀ w, Calls Try.prog 10 #[.agg #[.int .i64 L, .int .i64 C, .int .i64 S]] w (IsBool m w))
    (CW : m = true → ∀ w, Calls Try.prog 11 #[.agg #[.int .i64 L, .int .i64 C, .int .i64 S]] w (IsWord W w))
    (CD : ∀ w, Calls Try.prog 12 #[.int .u64 x] w (DecIs l c s F w))
    (CR : ∀ w, Calls Try.prog 13 #[.int .u64 x] w (ThreeB l c s ok w)) (w : World) :
    Calls Try.prog 3 #[.agg #[.int .i64 L, .int .i64 C, .int .i64 S], .int .u64 x] w (IsBool true w) := by
  have HD := Lib.hid CD
  have HR := Lib.hid CR
  have HE := Lib.hid CE
  have HM' := Lib.hid CM
  have HF := Lib.hid hF
  clear CD CR CE CM hF
  go_enter Try.func3, Try.ntmps3
  go_wp2_with fail
  refine (HE.out _).mono ?_
  rintro e w1 ⟨rfl, hb1⟩
  have K1 := (Box.first w 23 L C S).step hb1
  obtain ⟨c0, c1, c2⟩ := K1.cells
  cases m
  · rw [if_neg (by decide), if_neg (by decide)]
    have HK1 := Lib.hid K1
    clear hb1 CW K1
    go_wp2_with fail
    refine (HM'.out _).mono ?_
    rintro e w2 ⟨rfl, hb2⟩
    have K2 := HK1.out.step hb2
    have HK2 := Lib.hid K2
    clear c0 c1 c2 hb2 K2
    go_wp2_with fail
    refine (HD.out _).mono ?_
    rintro e w3 ⟨rfl, hb3⟩
    have hB3 := Lib.hid (HK2.out.step hb3).bel
    clear hb3
    go_wp2_with fail
    refine (HR.out _).mono ?_
    rintro e w4 ⟨rfl, hb4⟩
    have K4 := Lib.hid ((Box.next hB3.out 23 l c s).step hb4)
    have hlt3 : w3.heap.size < w4.heap.size := K4.out.lt
    clear hb4
    go_wp2_with fail
    refine (halive_any _).mono ?_
    rintro e w5 ⟨rfl, hb5⟩
    obtain ⟨c0, c1, c2⟩ := ((K4.out.alloc _).step hb5).cells
    obtain ⟨d0, d1, d2⟩ := ((Box.next K4.out.bel 23 l c s).step hb5).cells
    have hB5 := Lib.hid ((K4.out.alloc _).step hb5).bel
    clear hb5
    have hF := HF.out
    clear HF
    cases ok
    · rw [if_neg (by decide)] at hF
      subst hF
      go_wp2_with fail
      go_ret
      exact ⟨rfl, hB5.out⟩
    · rw [if_pos rfl] at hF
      subst hF
      go_wp2_with fail
      go_ret
      exact ⟨rfl, hB5.out⟩
  · have HW := Lib.hid (CW rfl)
    rw [if_pos rfl, if_pos rfl]
    have HK1 := Lib.hid K1
    clear hb1 CW K1
    go_wp2_with fail
    refine (HM'.out _).mono ?_
    rintro e w2 ⟨rfl, hb2⟩
    have K2 := HK1.out.step hb2
    have HK2 := Lib.hid K2
    clear c0 c1 c2 hb2 
    obtain ⟨c0, c1, c2⟩ := K2.cells
    clear K2
    go_wp2_with fail
    refine (HW.out _).mono ?_
    rintro e w9 ⟨rfl, hb9⟩
    have HK9 := Lib.hid (HK2.out.step hb9)
    clear c0 c1 c2 hb9
    go_wp2_with fail
    refine (HD.out _).mono ?_
    rintro e w3 ⟨rfl, hb3⟩
    have hB3 := Lib.hid (HK9.out.step hb3).bel
    clear hb3
    go_wp2_with fail
    refine (HR.out _).mono ?_
    rintro e w4 ⟨rfl, hb4⟩
    have K4 := Lib.hid ((Box.next hB3.out 23 l c s).step hb4)
    have hlt3 : w3.heap.size < w4.heap.size := K4.out.lt
    clear hb4
    go_wp2_with fail
    refine (halive_any _).mono ?_
    rintro e w5 ⟨rfl, hb5⟩
    obtain ⟨c0, c1, c2⟩ := ((K4.out.alloc _).step hb5).cells
    obtain ⟨d0, d1, d2⟩ := ((Box.next K4.out.bel 23 l c s).step hb5).cells
    have hB5 := Lib.hid ((K4.out.alloc _).step hb5).bel
    clear hb5
    have hF := HF.out
    clear HF
    cases ok
    · rw [if_neg (by decide)] at hF
      subst hF
      go_wp2_with fail
      go_ret
      exact ⟨rfl, hB5.out⟩
    · rw [if_pos rfl] at hF
      subst hF
      go_wp2_with fail
      go_ret
      exact ⟨rfl, hB5.out⟩

theorem words_any (L C S x : Int) (w : World) (hx : FM.Word x) :
    Calls Try.prog 3 #[.agg #[.int .i64 L, .int .i64 C, .int .i64 S], .int .u64 x] w fun e w' => e = .returned (.bool true) ∧ Below w.heap.size w w' :=
  words_core L C S x (HM.word L C S) (HM.dL x) (HM.dC x) (HM.dS x) (HM.dE x) (HM.may L C S) (HM.hok x) rfl (hencode_any L C S) (rmay_b L C S) (rencode_b L C S) (hdecode_any x hx) (rdecodeD_any x hx) w
theorem HM.kE_form (x : Int) : HM.kE x = if (HM.kE x == 0) = true then 0 else 4 := by
  unfold HM.kE
  by_cases h1 : HM.tok x = true
  · rw [if_pos h1]; rfl
  · rw [if_neg h1]
    by_cases h2 : x = 1
    · rw [if_pos h2]; rfl
    · rw [if_neg h2]
      by_cases h3 : x = 0
      · rw [if_pos h3]; rfl
      · rw [if_neg h3]; rfl

set_option maxHeartbeats 4000000 in
theorem links_core (L C S x W l c s F : Int) (m ok : Bool) (hF : F = if ok = true then 0 else 4)
    (CE : ∀ w, Calls Try.prog 15 #[.agg #[.int .i64 L, .int .i64 C, .int .i64 S]] w (EncIs (if m = true then W else 0) (if m = true then 0 else 3) w))
    (CM : ∀ w, Calls Try.prog 16 #[.agg #[.int .i64 L, .int .i64 C, .int .i64 S]] w (IsBool m w))
    (CW : m = true → ∀ w, Calls Try.prog 17 #[.agg #[.int .i64 L, .int .i64 C, .int .i64 S]] w (IsWord W w))
    (CD : ∀ w, Calls Try.prog 18 #[.int .u64 x] w (LinkIs l c s F w))
    (CR : ∀ w, Calls Try.prog 19 #[.int .u64 x] w (ThreeB l c s ok w)) (w : World) :
    Calls Try.prog 4 #[.agg #[.int .i64 L, .int .i64 C, .int .i64 S], .int .u64 x] w (IsBool true w) := by
  have HD := Lib.hid CD
  have HR := Lib.hid CR
  have HE := Lib.hid CE
  have HM' := Lib.hid CM
  have HF := Lib.hid hF
  clear CD CR CE CM hF
  go_enter Try.func4, Try.ntmps4
  go_wp2_with fail
  refine (HE.out _).mono ?_
  rintro e w1 ⟨rfl, hb1⟩
  have K1 := (Box.first w 39 L C S).step hb1
  obtain ⟨c0, c1, c2⟩ := K1.cells
  cases m
  · rw [if_neg (by decide), if_neg (by decide)]
    have HK1 := Lib.hid K1
    clear hb1 CW K1
    go_wp2_with fail
    refine (HM'.out _).mono ?_
    rintro e w2 ⟨rfl, hb2⟩
    have K2 := HK1.out.step hb2
    have HK2 := Lib.hid K2
    clear c0 c1 c2 hb2 K2
    go_wp2_with fail
    refine (HD.out _).mono ?_
    rintro e w3 ⟨rfl, hb3⟩
    have hB3 := Lib.hid (HK2.out.step hb3).bel
    clear hb3
    go_wp2_with fail
    refine (HR.out _).mono ?_
    rintro e w4 ⟨rfl, hb4⟩
    have K4 := Lib.hid ((Box.next hB3.out 39 l c s).step hb4)
    have hlt3 : w3.heap.size < w4.heap.size := K4.out.lt
    clear hb4
    go_wp2_with fail
    refine (halive_any _).mono ?_
    rintro e w5 ⟨rfl, hb5⟩
    obtain ⟨c0, c1, c2⟩ := ((K4.out.alloc _).step hb5).cells
    obtain ⟨d0, d1, d2⟩ := ((Box.next K4.out.bel 39 l c s).step hb5).cells
    have hB5 := Lib.hid ((K4.out.alloc _).step hb5).bel
    clear hb5
    have hF := HF.out
    clear HF
    cases ok
    · rw [if_neg (by decide)] at hF
      subst hF
      go_wp2_with fail
      go_ret
      exact ⟨rfl, hB5.out⟩
    · rw [if_pos rfl] at hF
      subst hF
      go_wp2_with fail
      go_ret
      exact ⟨rfl, hB5.out⟩
  · have HW := Lib.hid (CW rfl)
    rw [if_pos rfl, if_pos rfl]
    have HK1 := Lib.hid K1
    clear hb1 CW K1
    go_wp2_with fail
    refine (HM'.out _).mono ?_
    rintro e w2 ⟨rfl, hb2⟩
    have K2 := HK1.out.step hb2
    have HK2 := Lib.hid K2
    clear c0 c1 c2 hb2 
    obtain ⟨c0, c1, c2⟩ := K2.cells
    clear K2
    go_wp2_with fail
    refine (HW.out _).mono ?_
    rintro e w9 ⟨rfl, hb9⟩
    have HK9 := Lib.hid (HK2.out.step hb9)
    clear c0 c1 c2 hb9
    go_wp2_with fail
    refine (HD.out _).mono ?_
    rintro e w3 ⟨rfl, hb3⟩
    have hB3 := Lib.hid (HK9.out.step hb3).bel
    clear hb3
    go_wp2_with fail
    refine (HR.out _).mono ?_
    rintro e w4 ⟨rfl, hb4⟩
    have K4 := Lib.hid ((Box.next hB3.out 39 l c s).step hb4)
    have hlt3 : w3.heap.size < w4.heap.size := K4.out.lt
    clear hb4
    go_wp2_with fail
    refine (halive_any _).mono ?_
    rintro e w5 ⟨rfl, hb5⟩
    obtain ⟨c0, c1, c2⟩ := ((K4.out.alloc _).step hb5).cells
    obtain ⟨d0, d1, d2⟩ := ((Box.next K4.out.bel 39 l c s).step hb5).cells
    have hB5 := Lib.hid ((K4.out.alloc _).step hb5).bel
    clear hb5
    have hF := HF.out
    clear HF
    cases ok
    · rw [if_neg (by decide)] at hF
      subst hF
      go_wp2_with fail
      go_ret
      exact ⟨rfl, hB5.out⟩
    · rw [if_pos rfl] at hF
      subst hF
      go_wp2_with fail
      go_ret
      exact ⟨rfl, hB5.out⟩

theorem links_any (L C S x : Int) (w : World) (hx : FM.Word x) :
    Calls Try.prog 4 #[.agg #[.int .i64 L, .int .i64 C, .int .i64 S], .int .u64 x] w fun e w' => e = .returned (.bool true) ∧ Below w.heap.size w w' :=
  links_core L C S x (HM.lword L C S) (HM.kK x) (HM.kI x) (HM.kG x) (HM.kE x) (HM.lmay L C S) (HM.kE x == 0) (HM.kE_form x) (hword_any L C S) (rmayLink_b L C S) (rword_b L C S) (hlink_any x hx) (rlink_any x hx) w
end Go.Proofs.Ytbgoopjkoelobaa
