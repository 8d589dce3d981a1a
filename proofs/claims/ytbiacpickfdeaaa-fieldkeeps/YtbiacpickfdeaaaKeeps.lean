/- The law FieldKeeps, walked: what is put is got, and fields apart from it keep what they had. -/
import Derived.Test.YtbiacpickfdeaaaAlive
import Derived.Test.YtbiacpickfdeaaaRef
namespace Go.Proofs.Ytbiacpickfdeaaa
open Go.RowKit

theorem fs_two (w1 : World) (a b c d : Int) : FS (w1.alloc (.cells #[.int .i64 a, .int .i64 b, .int .i64 c, .int .i64 d] 24)) (w1.alloc (.cells #[.int .i64 a, .int .i64 b, .int .i64 c, .int .i64 d] 24)).heap.size (some ⟨w1.heap.size, 0, none⟩) 2 [(a, b), (c, d)] := by
  refine ⟨rfl, fun _ => ⟨_, 0, rfl, by simp, ?_⟩⟩
  intro i f hi
  match i, hi with
  | 0, hi => simp at hi; subst hi; simp
  | 1, hi => simp at hi; subst hi; simp

set_option maxHeartbeats 2000000 in
theorem keeps_walk (x y a b c d : Int) (w : World) (hx : FM.Word x) (_ : FM.Word y) :
    Calls Try.prog 7 #[.agg #[.int .u64 x, .int .u64 y], .agg #[.int .i64 a, .int .i64 b], .agg #[.int .i64 c, .int .i64 d]] w fun e w' => e = .returned (.bool true) ∧ Below w.heap.size w w' := by
  by_cases hr : FM.right a b = true
  · by_cases hr2 : FM.right c d = true
    · obtain ⟨h1, h2, h3, h4⟩ := (FM.right_iff a b).1 hr
      obtain ⟨g1, g2, g3, g4⟩ := (FM.right_iff c d).1 hr2
      have h5 : b ≤ 64 := by omega
      go_enter Try.func7, Try.ntmps7
      go_wp2_with fail
      refine (refRight_any a b _).mono ?_
      rintro e w1 ⟨rfl, rfl⟩
      go_wp2_with fail
      refine (refRight_any c d _).mono ?_
      rintro e w1 ⟨rfl, rfl⟩
      go_wp2_with fail
      go_quiet (fail)
      go_wp2_with fail
      obtain ⟨z, hz, hzw, hzf⟩ := FM.cutw_ex y b h3 h5
      rw [hz]
      clear hz
      have hE1 := FM.put_got x a b z hr hzw.1 hzf
      have hE2 := Lib.hid (fun h => FM.put_kept x a b z c d h hzw.1 hzf)
      have hpw := FM.put_word x a b z hx hzw.1 hr hzf
      refine (put_ok x a b z hx hzw hr hzf _).mono ?_
      rintro e w1 ⟨rfl, hb1⟩
      obtain ⟨hc1, hf1⟩ := bcell hb1
      have s1 := hb1.size
      simp at s1
      have z10 : w.heap.size < w1.heap.size := by omega
      have z11 : w.heap.size + 1 < w1.heap.size := by omega
      have z12 : w.heap.size + 1 + 1 < w1.heap.size := by omega
      have B1 := Lib.hid ((below_drewN ((((Below.refl _ _).alloc (Nat.le_refl _) _).alloc (by simp) _).alloc (by simp; omega) _) nq).trans (hb1.mono (by simp; omega)) : Below w.heap.size w w1)
      clear hb1
      go_wp2_with fail
      refine (get_ok (FM.put x a b z) a b hpw hr _).mono ?_
      rintro e w2 ⟨rfl, hb2⟩
      rw [hE1]
      obtain ⟨hc2, hf2⟩ := bcell hb2
      have s2 := hb2.size
      have z20 : w.heap.size < w2.heap.size := by omega
      have z21 : w.heap.size + 1 < w2.heap.size := by omega
      have z22 : w.heap.size + 1 + 1 < w2.heap.size := by omega
      have B2 := Lib.hid (B1.out.trans (hb2.mono (by omega)))
      clear hb2
      go_wp2_with fail
      refine (get_ok x c d hx hr2 _).mono ?_
      rintro e w3 ⟨rfl, hb3⟩
      obtain ⟨hc3, hf3⟩ := bcell hb3
      have s3 := hb3.size
      have z30 : w.heap.size < w3.heap.size := by omega
      have z31 : w.heap.size + 1 < w3.heap.size := by omega
      have z32 : w.heap.size + 1 + 1 < w3.heap.size := by omega
      have B3 := Lib.hid (B2.out.trans (hb3.mono (by omega)))
      clear hb3
      go_wp2_with fail
      refine (get_ok (FM.put x a b z) c d hpw hr2 _).mono ?_
      rintro e w4 ⟨rfl, hb4⟩
      obtain ⟨hc4, hf4⟩ := bcell hb4
      have s4 := hb4.size
      have z40 : w.heap.size < w4.heap.size := by omega
      have z41 : w.heap.size + 1 < w4.heap.size := by omega
      have z42 : w.heap.size + 1 + 1 < w4.heap.size := by omega
      have B4 := Lib.hid (B3.out.trans (hb4.mono (by omega)))
      clear hb4
      go_wp2_with fail
      refine (alive_any _).mono ?_
      rintro e w5 ⟨rfl, hb5⟩
      obtain ⟨hc5, hf5⟩ := bcell hb5
      have s5 := hb5.size
      have z50 : w.heap.size < w5.heap.size := by omega
      have B5 := Lib.hid (B4.out.trans (hb5.mono (by omega)))
      clear hb5
      go_wp2_with fail
      refine (apart_any _ 2 2 [(a, b), (c, d)] _ (by omega) ?_).mono ?_
      · exact fs_two w5 a b c d
      rintro e w6 ⟨rfl, hb6⟩
      clear hc1 hf1 hc2 hf2 hc3 hf3 hc4 hf4 hc5 hf5
      by_cases hap : FM.apart [(a, b), (c, d)] = true
      · have hE3 := hE2.out hap
        go_wp2
        go_ret
        exact ⟨rfl, (B5.out.alloc (by omega) _).trans (hb6.mono (by simp; omega))⟩
      · have hap' : FM.apart [(a, b), (c, d)] = false := by simpa using hap
        clear hap
        go_wp2
        go_ret
        exact ⟨rfl, (B5.out.alloc (by omega) _).trans (hb6.mono (by simp; omega))⟩
    · have hr' : FM.right c d = false := by simpa using hr2
      clear hr2
      go_enter Try.func7, Try.ntmps7
      go_wp2_with fail
      refine (refRight_any a b _).mono ?_
      rintro e w1 ⟨rfl, rfl⟩
      go_wp2_with fail
      refine (refRight_any c d _).mono ?_
      rintro e w1 ⟨rfl, rfl⟩
      go_wp2_with fail
      refine (alive_any _).mono ?_
      rintro e w2 ⟨rfl, hb2⟩
      go_wp2
      go_ret
      exact ⟨rfl, ((((Below.refl _ _).alloc (Nat.le_refl _) _).alloc (by simp) _).alloc (by simp; omega) _).trans (hb2.mono (by simp; omega))⟩
  · have hr' : FM.right a b = false := by simpa using hr
    clear hr
    go_enter Try.func7, Try.ntmps7
    go_wp2_with fail
    refine (refRight_any a b _).mono ?_
    rintro e w1 ⟨rfl, rfl⟩
    go_wp2_with fail
    refine (alive_any _).mono ?_
    rintro e w2 ⟨rfl, hb2⟩
    go_wp2
    go_ret
    exact ⟨rfl, ((((Below.refl _ _).alloc (Nat.le_refl _) _).alloc (by simp) _).alloc (by simp; omega) _).trans (hb2.mono (by simp; omega))⟩
end Go.Proofs.Ytbiacpickfdeaaa
