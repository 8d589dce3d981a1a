/- The walk of HeaderBack. -/
import Derived.Test.YtbgoopjkoelobaaHdAlive
namespace Go.Proofs.Ytbgoopjkoelobaa
open Go.RowKit

/-- What the four calls tell each of the other. -/
theorem HM.enc_dec {L C S : Int} (h : HM.eE L C S = 0) : HM.dE (HM.eW L C S) = 0 ∧ HM.dL (HM.eW L C S) = L ∧ HM.dC (HM.eW L C S) = C ∧ HM.dS (HM.eW L C S) = S := by
  unfold HM.eE at h
  by_cases hm : HM.may L C S = true
  · have hk := HM.hok_word hm
    unfold HM.eW HM.dE HM.dL HM.dC HM.dS
    rw [if_pos hm, if_pos hk.1, if_pos hk.1, if_pos hk.1, if_pos hk.1]
    exact ⟨rfl, hk.2.1, hk.2.2.1, hk.2.2.2⟩
  · rw [if_neg hm] at h
    exact absurd h (by decide)
theorem HM.dec_enc {x : Int} (h : HM.dE x = 0) : HM.eE (HM.dL x) (HM.dC x) (HM.dS x) = 0 ∧ HM.eW (HM.dL x) (HM.dC x) (HM.dS x) = x := by
  unfold HM.dE at h
  by_cases hk : HM.hok x = true
  · have hm := HM.word_hok hk
    unfold HM.eE HM.eW HM.dL HM.dC HM.dS
    rw [if_pos hk, if_pos hk, if_pos hk, if_pos hm.1, if_pos hm.1]
    exact ⟨rfl, hm.2⟩
  · rw [if_neg hk] at h
    exact absurd h (by decide)
theorem HM.word_lnk {K I G : Int} (h : HM.wE K I G = 0) : HM.kE (HM.wW K I G) = 0 ∧ HM.kK (HM.wW K I G) = K ∧ HM.kI (HM.wW K I G) = I ∧ HM.kG (HM.wW K I G) = G := by
  unfold HM.wE at h
  by_cases hm : HM.lmay K I G = true
  · unfold HM.wW
    rw [if_pos hm]
    exact HM.link_word hm
  · rw [if_neg hm] at h
    exact absurd h (by decide)
theorem HM.lnk_word {x : Int} (h : HM.kE x = 0) : HM.wE (HM.kK x) (HM.kI x) (HM.kG x) = 0 ∧ HM.wW (HM.kK x) (HM.kI x) (HM.kG x) = x := by
  have hm := HM.word_link h
  unfold HM.wE HM.wW
  rw [if_pos hm.1, if_pos hm.1]
  exact ⟨rfl, hm.2⟩
/-- Errors are told by one number. -/
theorem HM.dE_ne {x : Int} (h : ¬ HM.dE x = 0) : HM.dE x = 4 := by
  unfold HM.dE at h ⊢
  split at h
  · exact absurd rfl h
  · rw [if_neg ‹_›]
theorem HM.eE_ne {L C S : Int} (h : ¬ HM.eE L C S = 0) : HM.eE L C S = 3 := by
  unfold HM.eE at h ⊢
  split at h
  · exact absurd rfl h
  · rw [if_neg ‹_›]
theorem HM.wE_ne {L C S : Int} (h : ¬ HM.wE L C S = 0) : HM.wE L C S = 3 := by
  unfold HM.wE at h ⊢
  split at h
  · exact absurd rfl h
  · rw [if_neg ‹_›]

/-- Two boxes at once. -/
structure Box2 (w : World) (L C S K I G : Int) (W : World) : Prop where
  one : Box w w.heap.size 23 L C S W
  two : Box w (w.heap.size + 1) 39 K I G W
theorem Box2.step {w : World} {L C S K I G : Int} {W W' : World} (h : Box2 w L C S K I G W) (hb : Below W.heap.size W W') : Box2 w L C S K I G W' := ⟨h.one.step hb, h.two.step hb⟩
theorem Box2.alloc {w : World} {L C S K I G : Int} {W : World} (h : Box2 w L C S K I G W) (o : Obj) : Box2 w L C S K I G (W.alloc o) := ⟨h.one.alloc o, h.two.alloc o⟩
theorem Box2.first (w : World) (L C S K I G : Int) : Box2 w L C S K I G ((w.alloc (.cells #[.int .i64 L, .int .i64 C, .int .i64 S] 23)).alloc (.cells #[.int .i64 K, .int .i64 I, .int .i64 G] 39)) :=
  ⟨(Box.first w _ L C S).alloc _, ⟨Whole.fresh' (by simp), ((Box.first w _ L C S).alloc _).bel⟩⟩

set_option maxRecDepth 100000 in
set_option maxHeartbeats 4000000 in
theorem back_core (L C S K I G x W E V F l c s D k i g M : Int)
    (HE : Hid (∀ w, Calls Try.prog 9 #[.agg #[.int .i64 L, .int .i64 C, .int .i64 S]] w (EncIs W E w)))
    (HE1 : Hid (E = 0 → ∀ w, Calls Try.prog 12 #[.int .u64 W] w (DecIs L C S 0 w)))
    (HV : Hid (∀ w, Calls Try.prog 15 #[.agg #[.int .i64 K, .int .i64 I, .int .i64 G]] w (EncIs V F w)))
    (HV1 : Hid (F = 0 → ∀ w, Calls Try.prog 18 #[.int .u64 V] w (LinkIs K I G 0 w)))
    (HD : Hid (∀ w, Calls Try.prog 12 #[.int .u64 x] w (DecIs l c s D w)))
    (HD1 : Hid (D = 0 → ∀ w, Calls Try.prog 9 #[.agg #[.int .i64 l, .int .i64 c, .int .i64 s]] w (EncIs x 0 w)))
    (HK : Hid (∀ w, Calls Try.prog 18 #[.int .u64 x] w (LinkIs k i g M w)))
    (HK1 : Hid (M = 0 → ∀ w, Calls Try.prog 15 #[.agg #[.int .i64 k, .int .i64 i, .int .i64 g]] w (EncIs x 0 w))) (w : World) :
    Calls Try.prog 5 #[.agg #[.int .i64 L, .int .i64 C, .int .i64 S], .agg #[.int .i64 K, .int .i64 I, .int .i64 G], .int .u64 x] w (IsBool true w) := by
  go_enter Try.func5, Try.ntmps5
  go_wp2_with fail
  refine (HE.out _).mono ?_
  rintro e w1 ⟨rfl, hb1⟩
  have K1 := Lib.hid ((Box2.first w L C S K I G).step hb1)
  clear hb1
  go_upto_if 29 with (fail)
  go_cut [6] (fun q wc => q = .bool false ∧ Box2 w L C S K I G wc)
  case first =>
    by_cases hE : E = 0
    · subst hE
      go_wp2_with fail
      refine (HE1.out (by first | exact rfl | exact trivial) _).mono ?_
      rintro e w2 ⟨rfl, hb2⟩
      have K2 := Lib.hid (K1.out.step hb2)
      obtain ⟨c0, c1, c2⟩ := K2.out.one.cells
      have hlt := K2.out.one.lt
      clear hb2
      go_wp2_with fail
      go_meet
      exact ⟨rfl, K2.out.alloc _⟩
    · go_wp2_with fail
      go_meet
      exact ⟨rfl, K1.out⟩
  case rest =>
    obtain ⟨rfl, K2'⟩ := hcut
    have K2 := Lib.hid K2'
    obtain ⟨c0, c1, c2⟩ := K2'.two.cells
    clear K1 K2'
    go_wp2_with fail
    refine (HV.out _).mono ?_
    rintro e w3 ⟨rfl, hb3⟩
    have K3 := Lib.hid (K2.out.step hb3)
    clear hb3 c0 c1 c2
    go_upto_if 48 with (fail)
    go_cut [6] (fun q wd => q = .bool false ∧ Box2 w L C S K I G wd)
    case first =>
      by_cases hE : F = 0
      · subst hE
        go_wp2_with fail
        refine (HV1.out (by first | exact rfl | exact trivial) _).mono ?_
        rintro e w2 ⟨rfl, hb2⟩
        have K4 := Lib.hid (K3.out.step hb2)
        obtain ⟨c0, c1, c2⟩ := K4.out.two.cells
        have hlt := K4.out.two.lt
        clear hb2
        go_wp2_with fail
        go_meet
        exact ⟨rfl, K4.out.alloc _⟩
      · go_wp2_with fail
        go_meet
        exact ⟨rfl, K3.out⟩
    case rest =>
      rename_i wd
      obtain ⟨rfl, K5'⟩ := hcut
      have K5 := Lib.hid K5'
      clear K2 K3 K5'
      go_wp2_with fail
      refine (HD.out _).mono ?_
      rintro e w6 ⟨rfl, hb6⟩
      have B6 := Lib.hid (K5.out.step hb6).one.bel
      clear hb6
      go_upto_if 67 with (fail)
      go_cut [6] (fun q we => q = .bool false ∧ Below w.heap.size w we)
      case first =>
        by_cases hE : D = 0
        · subst hE
          go_wp2_with fail
          refine (HD1.out (by first | exact rfl | exact trivial) _).mono ?_
          rintro e w2 ⟨rfl, hb2⟩
          go_wp2_with fail
          go_meet
          exact ⟨rfl, ((Box.next B6.out 23 l c s).step hb2).bel⟩
        · go_wp2_with fail
          go_meet
          exact ⟨rfl, B6.out.alloc B6.out.size _⟩
      case rest =>
        rename_i we
        obtain ⟨rfl, B7'⟩ := hcut
        have B7 := Lib.hid B7'
        clear K5 B6 B7'
        go_wp2_with fail
        refine (HK.out _).mono ?_
        rintro e w8 ⟨rfl, hb8⟩
        have B8 := Lib.hid (B7.out.trans (hb8.mono B7.out.size))
        clear hb8
        go_upto_if 86 with (fail)
        go_cut [6] (fun q wf => q = .bool false ∧ Below w.heap.size w wf)
        case first =>
          by_cases hE : M = 0
          · subst hE
            go_wp2_with fail
            refine (HK1.out (by first | exact rfl | exact trivial) _).mono ?_
            rintro e w2 ⟨rfl, hb2⟩
            go_wp2_with fail
            go_meet
            exact ⟨rfl, ((Box.next B8.out 39 k i g).step hb2).bel⟩
          · go_wp2_with fail
            go_meet
            exact ⟨rfl, B8.out.alloc B8.out.size _⟩
        case rest =>
          obtain ⟨rfl, B9⟩ := hcut
          go_wp2_with fail
          refine (halive_any _).mono ?_
          rintro e w10 ⟨rfl, hb10⟩
          go_wp2_with fail
          go_ret
          exact ⟨rfl, B9.trans (hb10.mono B9.size)⟩

theorem back_any (L C S K I G x : Int) (w : World) (hx : FM.Word x) :
    Calls Try.prog 5 #[.agg #[.int .i64 L, .int .i64 C, .int .i64 S], .agg #[.int .i64 K, .int .i64 I, .int .i64 G], .int .u64 x] w fun e w' => e = .returned (.bool true) ∧ Below w.heap.size w w' := by
  refine back_core L C S K I G x (HM.eW L C S) (HM.eE L C S) (HM.wW K I G) (HM.wE K I G) (HM.dL x) (HM.dC x) (HM.dS x) (HM.dE x) (HM.kK x) (HM.kI x) (HM.kG x) (HM.kE x) (Lib.hid (hencode_any L C S)) (Lib.hid fun h W => ?_) (Lib.hid (hword_any K I G)) (Lib.hid fun h W => ?_) (Lib.hid (hdecode_any x hx)) (Lib.hid fun h W => ?_) (Lib.hid (hlink_any x hx)) (Lib.hid fun h W => ?_) w
  · have H := hdecode_any (HM.eW L C S) (HM.eW_word L C S) W
    obtain ⟨h1, h2, h3, h4⟩ := HM.enc_dec h
    rw [h1, h2, h3, h4] at H
    exact H
  · have H := hlink_any (HM.wW K I G) (HM.wW_word K I G) W
    obtain ⟨h1, h2, h3, h4⟩ := HM.word_lnk h
    rw [h1, h2, h3, h4] at H
    exact H
  · have H := hencode_any (HM.dL x) (HM.dC x) (HM.dS x) W
    obtain ⟨h1, h2⟩ := HM.dec_enc h
    rw [h1, h2] at H
    exact H
  · have H := hword_any (HM.kK x) (HM.kI x) (HM.kG x) W
    obtain ⟨h1, h2⟩ := HM.lnk_word h
    rw [h1, h2] at H
    exact H
end Go.Proofs.Ytbgoopjkoelobaa
