/- The contract of Encode of package header. -/
import Derived.Test.YteneadimchhhhaaDoorHdWord
namespace Go.Proofs.YteneadimchhhhaaDoor
open Go.RowKit

theorem enc_bad {L C S l c s x : Int} (hl : l = L % 256) (hc : c = C % 65536) (hs : s = S % 65536) (hx : x = HM.word l c s) (h : ¬ (HM.hok x = true ∧ L = l ∧ C = c ∧ S = s)) : HM.eW L C S = 0 ∧ HM.eE L C S = 3 := by
  have hm : ¬ HM.may L C S = true := by
    intro hm
    have h1 := hm
    rw [HM.may_iff] at h1
    have e1 : L = l := by omega
    have e2 : C = c := by omega
    have e3 : S = s := by omega
    refine h ⟨?_, e1, e2, e3⟩
    rw [hx, ← e1, ← e2, ← e3]
    exact (HM.hok_word hm).1
  unfold HM.eW HM.eE
  rw [if_neg hm, if_neg hm]
  exact ⟨rfl, rfl⟩
theorem enc_good {L C S x : Int} (h1 : 0 ≤ S) (h2 : S < 65536) (h3 : 0 ≤ C) (h4 : C < 65536) (h5 : 0 ≤ L) (h6 : L < 256) (hx : x = HM.word L C S) (h : HM.hok x = true) : HM.eW L C S = x ∧ HM.eE L C S = 0 := by
  have hm : HM.may L C S = true := by
    subst hx
    rw [HM.hok_iff] at h
    rw [HM.may_iff]
    unfold HM.word at h
    omega
  unfold HM.eW HM.eE
  rw [if_pos hm, if_pos hm]
  exact ⟨hx.symm, rfl⟩

theorem hok_digits {x l c s : Int} (h : x = HM.word l c s) (a1 : 0 ≤ s) (a2 : s < 65536) (a3 : 0 ≤ c) (a4 : c < 65536) (a5 : 0 ≤ l) (a6 : l < 256) : x / 4294967296 % 256 = l ∧ x / 65536 % 65536 = c ∧ x % 65536 = s := by
  unfold HM.word at h
  omega



set_option maxHeartbeats 2000000 in
theorem hencode_go (L C S l c s : Int) (hl : l = L % 256) (hc : c = C % 65536) (hs : s = S % 65536) (w : World) :
    Calls Tryd.prog 24 #[.agg #[.int .i64 L, .int .i64 C, .int .i64 S]] w (EncIs (HM.eW L C S) (HM.eE L C S) w) := by
  have a1 : 0 ≤ s := by omega
  have a2 : s < 65536 := by omega
  have a3 : 0 ≤ c := by omega
  have a4 : c < 65536 := by omega
  have a5 : 0 ≤ l := by omega
  have a6 : l < 256 := by omega
  have u1 : IntKind.u64.wrap (IntKind.u16.wrap S) = s := by rw [IntKind.wrap_u64, IntKind.wrap_u16]; omega
  have u2 : IntKind.u64.wrap (IntKind.u16.wrap C) = c := by rw [IntKind.wrap_u64, IntKind.wrap_u16]; omega
  have u3 : IntKind.u64.wrap (IntKind.u8.wrap L) = l := by rw [IntKind.wrap_u64, IntKind.wrap_u8]; omega
  have U := Lib.hid (And.intro u1 (And.intro u2 u3))
  have HL := Lib.hid (And.intro hl (And.intro hc hs))
  clear u1 u2 u3 hl hc hs
  go_enter Tryd.func24, Tryd.ntmps24
  go_upto_region 1 with fail
  obtain ⟨w1, hw1⟩ : ∃ w1, w1 = w.alloc (.cells #[.int .i64 L, .int .i64 C, .int .i64 S] 28) := ⟨_, rfl⟩
  have hb1 : Below w.heap.size w w1 := by rw [hw1]; exact (Below.refl _ _).alloc (Nat.le_refl _) _
  have hw : Whole w1 w.heap.size 28 #[.int .i64 L, .int .i64 C, .int .i64 S] := by rw [hw1]; exact Whole.fresh _ _ _
  rw [← hw1]
  have HW := Lib.hid hw
  clear hw1 hw
  go_cut [4, 5] (fun s4 s5 wx => s4 = .int .u64 (HM.word l c s) ∧ s5 = .int .i64 0 ∧ Below w1.heap.size w1 wx)
  case first =>
    have u1 := U.out.1
    have u2 := U.out.2.1
    have u3 := U.out.2.2
    obtain ⟨c0, c1, c2⟩ := HW.out.cells3
    have hlt := HW.out.lt
    have hz := hb1.size
    go_region_held3 (fun w' => w'.cell? ⟨w.heap.size, 0, none⟩ = some (.int .i64 L) ∧ w'.cell? ⟨w.heap.size, 1, none⟩ = some (.int .i64 C) ∧ w'.cell? ⟨w.heap.size, 2, none⟩ = some (.int .i64 S)) (first | exact ⟨hx0, hx1, hx2⟩ | (simp [go_sem, World.cell?_alloc_lt, hlt, Nat.lt_succ_of_lt, c0, c1, c2]))
      (first
        | (go_at_call 45; refine (headerFields_any _).mono ?_; rintro e w' ⟨rfl, rfl⟩)
        | (go_at_call 44; (with_reducible refine (pack_h1 s c l a1 a2 a3 a4 a5 a6 _).mono ?_); rintro e w2 ⟨rfl, hb2⟩; have hb3 : Below w1.heap.size w1 w2 := hb2; have hx0 := (hb3.cell (p := ⟨w.heap.size, 0, none⟩) hlt).trans c0; have hx1 := (hb3.cell (p := ⟨w.heap.size, 1, none⟩) hlt).trans c1; have hx2 := (hb3.cell (p := ⟨w.heap.size, 2, none⟩) hlt).trans c2)
        | (go_at_call 44; (with_reducible refine (pack_h2 s c l a1 a2 a3 a4 a5 a6 _).mono ?_); rintro e w2 ⟨rfl, hb2⟩; have hb3 : Below w1.heap.size w1 w2 := hb2; have hx0 := (hb3.cell (p := ⟨w.heap.size, 0, none⟩) hlt).trans c0; have hx1 := (hb3.cell (p := ⟨w.heap.size, 1, none⟩) hlt).trans c1; have hx2 := (hb3.cell (p := ⟨w.heap.size, 2, none⟩) hlt).trans c2))
    all_goals (go_wp2_with fail; go_meet; exact ⟨rfl, rfl, by first | exact hb3 | exact hb3.drew⟩)
  case rest =>
    obtain ⟨rfl, rfl, hb2⟩ := hcut
    have hlt := HW.out.lt
    have HW2 := Lib.hid (HW.out.below hb2 hlt)
    have hb3 : Below w.heap.size w wc := hb1.trans (hb2.mono hb1.size)
    have hlt2 := HW2.out.lt
    have wwd : FM.Word (HM.word l c s) := by unfold HM.word FM.Word; omega
    have CD := hdecode_any (HM.word l c s) wwd wc
    clear U HW hb2
    obtain ⟨x, hx⟩ : ∃ x, x = HM.word l c s := ⟨_, rfl⟩
    rw [← hx] at CD ⊢
    by_cases hk : HM.hok x = true
    · have hd := hok_digits hx a1 a2 a3 a4 a5 a6
      unfold HM.dL HM.dC HM.dS HM.dE at CD
      rw [if_pos hk, if_pos hk, if_pos hk, if_pos hk, hd.1, hd.2.1, hd.2.2] at CD
      have HD := Lib.hid CD
      by_cases hm : L = l ∧ C = c ∧ S = s
      · obtain ⟨rfl, rfl, rfl⟩ := hm
        have HXk := Lib.hid (And.intro hx hk)
        clear hx hk hd CD
        go_wp2_with fail
        refine HD.out.mono ?_
        rintro e w2 ⟨rfl, hb4⟩
        obtain ⟨c0, c1, c2⟩ := (HW2.out.below hb4 hlt2).cells3
        have hb5 := hb3.trans (hb4.mono hb3.size)
        have hlt3 : w.heap.size < w2.heap.size := by have := hb4.size; omega
        go_wp2_with fail
        go_ret2
        have E := enc_good a1 a2 a3 a4 a5 a6 HXk.out.1 HXk.out.2
        rw [E.1, E.2]
        exact ⟨rfl, hb5.alloc hb5.size _⟩
      · have HXk := Lib.hid (And.intro hx (And.intro hk hm))
        clear hx hk hd CD hm
        go_wp2_with fail
        refine HD.out.mono ?_
        rintro e w2 ⟨rfl, hb4⟩
        obtain ⟨c0, c1, c2⟩ := (HW2.out.below hb4 hlt2).cells3
        have hb5 := hb3.trans (hb4.mono hb3.size)
        have hlt3 : w.heap.size < w2.heap.size := by have := hb4.size; omega
        go_wp2_with fail
        all_goals first
          | (exfalso; have := HXk.out.2.2; omega)
          | (go_ret2
             have E := enc_bad HL.out.1 HL.out.2.1 HL.out.2.2 HXk.out.1 (fun h => HXk.out.2.2 h.2)
             rw [E.1, E.2]
             exact ⟨rfl, hb5.alloc hb5.size _⟩)
    · unfold HM.dL HM.dC HM.dS HM.dE at CD
      rw [if_neg hk, if_neg hk, if_neg hk, if_neg hk] at CD
      have HD := Lib.hid CD
      have HXk := Lib.hid (And.intro hx hk)
      clear hx hk CD
      go_wp2_with fail
      refine HD.out.mono ?_
      rintro e w2 ⟨rfl, hb4⟩
      obtain ⟨c0, c1, c2⟩ := (HW2.out.below hb4 hlt2).cells3
      have hb5 := hb3.trans (hb4.mono hb3.size)
      have hlt3 : w.heap.size < w2.heap.size := by have := hb4.size; omega
      go_wp2_with fail
      go_ret2
      have E := enc_bad HL.out.1 HL.out.2.1 HL.out.2.2 HXk.out.1 (fun h => HXk.out.2 h.1)
      rw [E.1, E.2]
      exact ⟨rfl, hb5.alloc hb5.size _⟩

theorem hencode_any (L C S : Int) (w : World) : Calls Tryd.prog 24 #[.agg #[.int .i64 L, .int .i64 C, .int .i64 S]] w (EncIs (HM.eW L C S) (HM.eE L C S) w) := hencode_go L C S _ _ _ rfl rfl rfl w
end Go.Proofs.YteneadimchhhhaaDoor
