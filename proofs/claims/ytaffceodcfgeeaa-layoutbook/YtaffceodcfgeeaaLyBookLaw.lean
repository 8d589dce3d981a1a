/- The walk of LayoutBook. -/
import Derived.Test.YtaffceodcfgeeaaLyKept
namespace Go.Proofs.Ytaffceodcfgeeaa
open Go.RowKit

set_option maxRecDepth 100000 in
set_option maxHeartbeats 2000000 in
theorem bookLaw_long (A : Option Addr) (n c : Nat) (i : Int) (w : World) (hn : ¬ n ≤ 100) :
    Calls Try.prog 5 #[.slice A n c, .int .i64 i] w fun e w' => e = .returned (.bool true) ∧ Below w.heap.size w w' := by
  have d0 : decide (100 < (n : Int)) = true := by simp; omega
  have d1 : decide (100 < n) = true := by simp; omega
  clear hn
  go_enter Try.func5, Try.ntmps5
  go_wp2_with fail
  refine (bookAdd_nil ⟨1, 0, none, 0, 0, [], none, 0, 0, []⟩ _).mono ?_
  rintro e w1 ⟨rfl, hb1⟩
  go_wp2_with fail
  refine (bookGet_nil 1 _).mono ?_
  rintro e w2 ⟨rfl, hb2⟩
  go_wp2_with fail
  refine (newBook_any _).mono ?_
  rintro e w3 ⟨rfl, rfl⟩
  go_wp2_with fail
  refine (alive_any _).mono ?_
  rintro e w4 ⟨rfl, hb4⟩
  go_wp2_with fail
  refine (bookLen_nil _).mono ?_
  rintro e w5 ⟨rfl, rfl⟩
  go_wp2_with fail
  refine (alive_any _).mono ?_
  rintro e w6 ⟨rfl, hb6⟩
  have h1 := hb1.size
  have h2 := hb2.size
  have h4 := hb4.size
  simp at h4
  have B := ((((hb1.trans (hb2.mono h1)).alloc (by omega) _).alloc (by simp; omega) _).trans (hb4.mono (by simp; omega))).trans (hb6.mono (by omega))
  have HB := Lib.hid B
  clear hb1 hb2 hb4 hb6 B
  go_wp2
  go_ret
  exact ⟨rfl, HB.out⟩

theorem short_B (F R : Int) (A : Option Addr) (n c : Nat) (D : Option Addr) (m d : Nat) (w : World) (h1 : n ≤ 100) (h2 : m ≤ 100) :
    Calls Try.prog 7 #[.agg #[.int .i64 F, .slice A n c, .int .i64 R, .slice D m d]] w fun e w' => e = .returned (.bool true) ∧ Below w.heap.size w w' :=
  (short_yes F R A n c D m d w h1 h2).mono fun _ _ ⟨a, b⟩ => ⟨a, by rw [← b]; exact (Below.refl _ _).alloc (Nat.le_refl _) _⟩
theorem refRight_B (l : LV) (B : Nat) (w : World) (hB : B ≤ w.heap.size) (hf : l.fits) (hl : l.lists w 0 B) :
    Calls Try.prog 16 #[.agg #[.int .i64 l.F, .slice l.A l.n l.c, .int .i64 l.R, .slice l.D l.m l.d]] w fun e w' => e = .returned (.bool l.right) ∧ Below w.heap.size w w' :=
  (refRight_any l.F l.R l.A l.n l.c l.xs l.D l.m l.d l.ys B w hB hf.hn hf.hm hf.hF hf.hR hl.fst.ns hl.snd.ns).mono fun _ _ ⟨a, b⟩ => ⟨a, by rw [← b]; exact (Below.refl _ _).alloc (Nat.le_refl _) _⟩

theorem rsame_LV (l k : LV) (h : k.same l) (hf : l.fits) (B B' : Nat) (w : World) (hB : B ≤ w.heap.size) (hB' : B' ≤ w.heap.size) (h1 : l.lists w 0 B) (h2 : k.lists w 0 B') :
    Calls Try.prog 21 #[.agg #[.int .i64 l.F, .slice l.A l.n l.c, .int .i64 l.R, .slice l.D l.m l.d], .agg #[.int .i64 k.F, .slice k.A k.n k.c, .int .i64 k.R, .slice k.D k.m k.d]] w fun e w' => e = .returned (.bool true) ∧ Below w.heap.size w w' := by
  obtain ⟨F, R, A, n, c, xs, D, m, d, ys⟩ := l
  obtain ⟨F', R', A', n', c', xs', D', m', d', ys'⟩ := k
  obtain ⟨rfl, rfl, rfl, rfl, rfl, rfl⟩ := h
  exact rsame_any _ _ A _ c D _ d A' c' D' d' _ _ B B' w hB hB' hf.hn hf.hm h1.fst.ns h1.snd.ns h2.fst.ns h2.snd.ns
theorem LV.same.trans {a b c : LV} (h : a.same b) (k : b.same c) : a.same c := by
  obtain ⟨h1, h2, h3, h4, h5, h6⟩ := h
  obtain ⟨k1, k2, k3, k4, k5, k6⟩ := k
  exact ⟨h1.trans k1, h2.trans k2, h3.trans k3, h4.trans k4, h5.trans k5, h6.trans k6⟩

set_option maxRecDepth 100000 in
set_option maxHeartbeats 8000000 in
theorem bookLaw_short (A : Option Addr) (n c : Nat) (ls : List LV) (i : Int) (w : World) (hn : n ≤ 100) (hL : LS w w.heap.size A n ls) (hi : I64 i) :
    Calls Try.prog 5 #[.slice A n c, .int .i64 i] w fun e w' => e = .returned (.bool true) ∧ Below w.heap.size w w' := by
  obtain ⟨i0, hi0, hz0, hz1, hz2⟩ := info_parts infoLay
  have d0 : decide (100 < (n : Int)) = false := by simp; omega
  have d1 : decide (100 < n) = false := by simp; omega
  have HL := Lib.hid hL
  obtain ⟨hi1, hi2⟩ := hi
  clear hL
  go_enter Try.func5, Try.ntmps5
  go_wp2_with fail
  refine (bookAdd_nil ⟨1, 0, none, 0, 0, [], none, 0, 0, []⟩ _).mono ?_
  rintro e w1 ⟨rfl, hb1⟩
  go_wp2_with fail
  refine (bookGet_nil 1 _).mono ?_
  rintro e w2 ⟨rfl, hb2⟩
  go_wp2_with fail
  refine (newBook_any _).mono ?_
  rintro e w3 ⟨rfl, rfl⟩
  go_wp2_with fail
  refine (alive_any _).mono ?_
  rintro e w4 ⟨rfl, hb4⟩
  go_wp2_with fail
  refine (bookLen_nil _).mono ?_
  rintro e w5 ⟨rfl, rfl⟩
  have h1 := hb1.size
  have h2 := hb2.size
  have h4 := hb4.size
  simp at h4
  have B := (((hb1.trans (hb2.mono h1)).alloc (by omega) _).alloc (by simp; omega) _).trans (hb4.mono (by simp; omega))
  have bk0 := (book_new (w2.alloc (.cells #[.int .i64 0, .slice none 0 0, .int .i64 0, .slice none 0 0] 24)) w.heap.size (by simp; omega)).below hb4
  rw [World.size_alloc] at bk0
  have K0 : BL w w4 (w2.heap.size + 1) (.slice none 0 0) [] (.slice none 0 0) [] := ⟨B, bk0, World.ownsRow_nil _ _ _ _, by simp, fun g hg => by cases hg⟩
  have HK0 := Lib.hid K0
  clear hb1 hb2 hb4 B bk0 K0
  obtain ⟨b, hb⟩ : ∃ b, b = w2.heap.size + 1 := ⟨_, rfl⟩
  rw [← hb] at HK0
  have HB := Lib.hid hb
  have hbp : (some ({ block := w2.heap.size + 1, off := 0, spot := none } : Addr)) = some ⟨b, 0, none⟩ := by rw [hb]
  clear hb
  go_wp2
  go_loopw [11, 75] (fun u x wr => ∃ (k : Nat) (v : Value) (bk ks : List LV), k ≤ n ∧ ks.length ≤ k ∧ x = .int .i64 k ∧ Hid (Sames bk ks) ∧ BL w wr b v bk u ks) (fun _ x _ => n - (intOf x).toNat)
  case atStart => exact ⟨0, _, [], [], by omega, by simp, rfl, ⟨rfl, by simp⟩, HK0.out⟩
  case round =>
    obtain ⟨k, v, bk, ks, hk, hkk, rfl, HS, hK⟩ := hrel
    have hbsz := hK.bel.size
    by_cases hlt : k < n
    · obtain ⟨ba, oa, l, rfl, hba, hmem, e0, e1, e2, e3⟩ := HL.out.at_ hlt
      obtain ⟨hll, hlF, hlR⟩ := HL.out.2.2 l hmem
      have c0 := (hK.bel.cell (p := ⟨ba, oa + k * 4, none⟩) hba).trans e0
      have c1 := (hK.bel.cell (p := ⟨ba, oa + k * 4 + 1, none⟩) hba).trans e1
      have c2 := (hK.bel.cell (p := ⟨ba, oa + k * 4 + 2, none⟩) hba).trans e2
      have c3 := (hK.bel.cell (p := ⟨ba, oa + k * 4 + 3, none⟩) hba).trans e3
      have hbawr : ba < wr.heap.size := by omega
      clear e0 e1 e2 e3 hmem
      by_cases hsh : l.n ≤ 100 ∧ l.m ≤ 100
      · have hf : l.fits := ⟨hlF, hlR, by omega, by omega⟩
        obtain ⟨Ak, ck, rfl, -⟩ := hK.more
        have hblt := hK.book.box.lt
        have H1 := Lib.hid (fun W => short_B l.F l.R l.A l.n l.c l.D l.m l.d W hsh.1 hsh.2)
        have HK := Lib.hid hK
        have HLL := Lib.hid hll
        have HF := Lib.hid hf
        clear hsh hK hll hlF hlR hf
        go_wp2_with fail
        refine (H1.out _).mono ?_
        rintro e w6 ⟨rfl, hb6⟩
        have hx6 : Whole w6 wr.heap.size 24 #[.int .i64 l.F, .slice l.A l.n l.c, .int .i64 l.R, .slice l.D l.m l.d] := (Whole.fresh _ _ _).below hb6 (by simp)
        have hB6 : Below wr.heap.size wr w6 := ((Below.refl _ _).alloc (Nat.le_refl _) _).trans (hb6.mono (by simp))
        have K6 := HK.out.later hB6
        have hs6 := hx6.lt
        have p0 : w6.cell? ⟨wr.heap.size, 0, none⟩ = some (.int .i64 l.F) := hx6.cell 0
        have p1 : w6.cell? ⟨wr.heap.size, 1, none⟩ = some (.slice l.A l.n l.c) := hx6.cell 1
        have p2 : w6.cell? ⟨wr.heap.size, 2, none⟩ = some (.int .i64 l.R) := hx6.cell 2
        have p3 : w6.cell? ⟨wr.heap.size, 3, none⟩ = some (.slice l.D l.m l.d) := hx6.cell 3
        have HX6 := Lib.hid hx6
        have HK6 := Lib.hid K6
        have hL6 : l.lists w6 0 w.heap.size := Lists.kept HLL.out (Kept.of_below K6.bel (Nat.le_refl _))
        clear hb6 hx6 K6 H1 c0 c1 c2 c3
        by_cases hr : l.right = true
        · by_cases hfull : bk.length = 64
          · have CA := Lib.hid (bookAdd_full HK6.out.book hfull hL6 HF.out (by omega) hr)
            have q1 : ((ks.length : Int) == 64) = true := by have := HS.out.1; simp; omega
            have q2 : (ks.length == 64) = true := by have := HS.out.1; simp; omega
            have HR := Lib.hid hr
            clear hL6 hfull hr
            go_wp2_with fail
            refine CA.out.mono ?_
            rintro e w7 ⟨rfl, hb7⟩
            have K7 := HK6.out.later hb7
            have hx7 := HX6.out.below hb7 hs6
            have r0 : w7.cell? ⟨wr.heap.size, 0, none⟩ = some (.int .i64 l.F) := hx7.cell 0
            have r1 : w7.cell? ⟨wr.heap.size, 1, none⟩ = some (.slice l.A l.n l.c) := hx7.cell 1
            have r2 : w7.cell? ⟨wr.heap.size, 2, none⟩ = some (.int .i64 l.R) := hx7.cell 2
            have r3 : w7.cell? ⟨wr.heap.size, 3, none⟩ = some (.slice l.D l.m l.d) := hx7.cell 3
            have CR := refRight_B l w.heap.size w7 (by have := K7.bel.size; omega) HF.out (Lists.kept HLL.out (Kept.of_below K7.bel (Nat.le_refl _)))
            rw [HR.out] at CR
            have HCR := Lib.hid CR
            have HK7 := Lib.hid K7
            clear CA hb7 K7 hx7 CR p0 p1 p2 p3
            go_wp2_with fail
            refine HCR.out.mono ?_
            rintro e w8 ⟨rfl, hb8⟩
            have HK8 := Lib.hid (HK7.out.later hb8)
            clear hb8 r0 r1 r2 r3
            go_wp2
            go_roundw
            case rel => exact ⟨k + 1, v, bk, ks, by omega, by omega, by go_num, HS, HK8.out⟩
            case measure => simp [intOf]; omega
          · have hlen : bk.length < 64 := by have := HK6.out.book.len; omega
            have CA := Lib.hid (bookAdd_ok HK6.out.book hlen hL6 HF.out (by omega) hr)
            have q1 : ((ks.length : Int) == 64) = false := by have := HS.out.1; simp; omega
            have q2 : (ks.length == 64) = false := by have := HS.out.1; simp; omega
            have hksl : ks.length < 64 := by have := HS.out.1; omega
            have HR := Lib.hid hr
            clear hL6 hfull hr hlen
            go_wp2_with fail
            refine CA.out.mono ?_
            rintro e w7 ⟨v', k', he, hsame, hbk, hbut, hwh⟩
            rw [HS.out.1] at he
            subst he
            have K7 := HK6.out.added hbk hbut hwh
            have hx7 : Whole w7 wr.heap.size 24 #[.int .i64 l.F, .slice l.A l.n l.c, .int .i64 l.R, .slice l.D l.m l.d] := (hbut.block _ hs6 (by omega) (fun e => by have := (HK.out.book.row.lt _ e).2; omega)).trans HX6.out
            have hs7 := hx7.lt
            have r0 : w7.cell? ⟨wr.heap.size, 0, none⟩ = some (.int .i64 l.F) := hx7.cell 0
            have r1 : w7.cell? ⟨wr.heap.size, 1, none⟩ = some (.slice l.A l.n l.c) := hx7.cell 1
            have r2 : w7.cell? ⟨wr.heap.size, 2, none⟩ = some (.int .i64 l.R) := hx7.cell 2
            have r3 : w7.cell? ⟨wr.heap.size, 3, none⟩ = some (.slice l.D l.m l.d) := hx7.cell 3
            have CR := refRight_B l w.heap.size w7 (by have := K7.bel.size; omega) HF.out (Lists.kept HLL.out (Kept.of_below K7.bel (Nat.le_refl _)))
            rw [HR.out] at CR
            have HCR := Lib.hid CR
            have HK7 := Lib.hid K7
            have HX7 := Lib.hid hx7
            have HSM := Lib.hid hsame
            clear CA hbk hbut hwh K7 hx7 CR p0 p1 p2 p3 hsame
            go_wp2_with fail
            refine HCR.out.mono ?_
            rintro e w8 ⟨rfl, hb8⟩
            have hx8 := HX7.out.below hb8 hs7
            have K8 := HK7.out.later hb8
            have hs8 := hb8.size
            have HK8 := Lib.hid K8
            clear r0 r1 r2 r3
            have r0 : w8.cell? ⟨wr.heap.size, 0, none⟩ = some (.int .i64 l.F) := hx8.cell 0
            have r1 : w8.cell? ⟨wr.heap.size, 1, none⟩ = some (.slice l.A l.n l.c) := hx8.cell 1
            have r2 : w8.cell? ⟨wr.heap.size, 2, none⟩ = some (.int .i64 l.R) := hx8.cell 2
            have r3 : w8.cell? ⟨wr.heap.size, 3, none⟩ = some (.slice l.D l.m l.d) := hx8.cell 3
            clear hb8 K8 hx8 HCR
            go_wp2_with (first
              | (at_builtin; refine wpList_append_lies _ rfl _ _ 38 rfl w.heap.size 24 i0 _ 4 64 Try.underlying38 hi0 hz0 hz1 hz2 rfl (by decide) _ _ _ rfl (HK8.out.row.alloc _) ⟨w8.heap.size, 0, none⟩ 1 1 [.int .i64 l.F, .slice l.A l.n l.c, .int .i64 l.R, .slice l.D l.m l.d] rfl rfl (World.news_of_block (World.alloc_heap_new w8 _)) (by simp [Value.oneCell']) (by decide) (by unfold maxLen; omega) (by omega) (by simp; omega) (w8.heap.size + 1) (by simp) ?_; intro g cap w9 hown hgr hat hlt9; have HK9 := Lib.hid (HK8.out.kept HLL.out HF.out hown hgr hat); clear hown hgr hat))
            go_roundw
            case rel => exact ⟨k + 1, v', bk ++ [k'], ks ++ [l], by omega, by simp; omega, by go_num, HS.out.snoc HSM.out, HK9.out⟩
            case measure => simp [intOf]; omega
        · have hr' : l.right = false := by simpa using hr
          have CA := Lib.hid (bookAdd_wrong (b := b) hL6 HF.out (by omega) hr')
          have HR := Lib.hid hr'
          clear hL6 hr hr'
          go_wp2_with fail
          refine CA.out.mono ?_
          rintro e w7 ⟨rfl, hb7⟩
          have K7 := HK6.out.later hb7
          have hx7 := HX6.out.below hb7 hs6
          have r0 : w7.cell? ⟨wr.heap.size, 0, none⟩ = some (.int .i64 l.F) := hx7.cell 0
          have r1 : w7.cell? ⟨wr.heap.size, 1, none⟩ = some (.slice l.A l.n l.c) := hx7.cell 1
          have r2 : w7.cell? ⟨wr.heap.size, 2, none⟩ = some (.int .i64 l.R) := hx7.cell 2
          have r3 : w7.cell? ⟨wr.heap.size, 3, none⟩ = some (.slice l.D l.m l.d) := hx7.cell 3
          have CR := refRight_B l w.heap.size w7 (by have := K7.bel.size; omega) HF.out (Lists.kept HLL.out (Kept.of_below K7.bel (Nat.le_refl _)))
          rw [HR.out] at CR
          have HCR := Lib.hid CR
          have HK7 := Lib.hid K7
          clear CA hb7 K7 hx7 CR p0 p1 p2 p3
          go_wp2_with fail
          refine HCR.out.mono ?_
          rintro e w8 ⟨rfl, hb8⟩
          have HK8 := Lib.hid (HK7.out.later hb8)
          clear hb8 r0 r1 r2 r3
          go_wp2
          go_roundw
          case rel => exact ⟨k + 1, v, bk, ks, by omega, by omega, by go_num, HS, HK8.out⟩
          case measure => simp [intOf]; omega
      · have H1 := Lib.hid (fun W => short_no l.F l.R l.A l.n l.c l.D l.m l.d W hsh)
        have HK := Lib.hid hK
        clear hsh hK hll hlF hlR
        go_wp2_with fail
        refine (H1.out _).mono ?_
        rintro e w6 ⟨rfl, rfl⟩
        go_wp2
        go_ret
        exact ⟨rfl, (HK.out.bel.alloc hbsz _).alloc (by simp; omega) _⟩
    · obtain ⟨Ak, ck, rfl, -⟩ := hK.more
      have HK := Lib.hid hK
      have hlen := hK.book.len
      have hlb := HS.out.1
      have hks : ks.length ≤ 64 := by omega
      clear hK hlen hlb
      go_wp2
      go_loopw [123] (fun x wr => ∃ j : Nat, j ≤ ks.length ∧ x = .int .i64 j ∧ BL w wr b v bk (.slice Ak ks.length ck) ks) (fun x _ => ks.length - (intOf x).toNat)
      case atStart => exact ⟨0, by omega, rfl, HK.out⟩
      case round =>
        obtain ⟨j, hj, rfl, hK⟩ := hrel
        have hbsz2 := hK.bel.size
        have hblt := hK.book.box.lt
        by_cases hlt2 : j < ks.length
        · obtain ⟨A', c', he, hrow⟩ := hK.more
          injection he with he1 he2 he3
          subst he1 he3
          obtain ⟨g, rfl, hg, hcell⟩ := hrow (by omega)
          obtain ⟨l, hl⟩ : ∃ l, ks[j]? = some l := ⟨ks[j], List.getElem?_eq_getElem hlt2⟩
          obtain ⟨k', hk'⟩ : ∃ k', bk[j]? = some k' := ⟨bk[j]'(by have := HS.out.1; omega), List.getElem?_eq_getElem _⟩
          have hsm := HS.out.2 j k' l hk' hl
          have c0 : wr.cell? ⟨g, j * 4, none⟩ = some (.int .i64 l.F) := hcell j l 0 hl (by omega)
          have c1 : wr.cell? ⟨g, j * 4 + 1, none⟩ = some (.slice l.A l.n l.c) := hcell j l 1 hl (by omega)
          have c2 : wr.cell? ⟨g, j * 4 + 2, none⟩ = some (.int .i64 l.R) := hcell j l 2 hl (by omega)
          have c3 : wr.cell? ⟨g, j * 4 + 3, none⟩ = some (.slice l.D l.m l.d) := hcell j l 3 hl (by omega)
          obtain ⟨hll, hf⟩ := hK.each l (List.mem_of_getElem? hl)
          have K6 := hK.later ((Below.refl _ _).alloc (Nat.le_refl _) (.cells #[.int .i64 l.F, .slice l.A l.n l.c, .int .i64 l.R, .slice l.D l.m l.d] 24))
          have CG := Lib.hid (bookGet_ok K6.book j k' hk')
          have HK6 := Lib.hid K6
          have HLL := Lib.hid hll
          have HF := Lib.hid hf
          have HSM := Lib.hid hsm
          clear hK K6 hll hf hsm hl hk' hcell hrow he2
          go_wp2_with fail
          refine CG.out.mono ?_
          rintro e w7 ⟨kk, rfl, hsame, hlist, hb7⟩
          have hx7 : Whole w7 wr.heap.size 24 #[.int .i64 l.F, .slice l.A l.n l.c, .int .i64 l.R, .slice l.D l.m l.d] := (Whole.fresh _ _ _).below hb7 (by simp)
          have hs7 := hx7.lt
          have K7 := HK6.out.later hb7
          have hs7' := K7.bel.size
          have r0 : w7.cell? ⟨wr.heap.size, 0, none⟩ = some (.int .i64 l.F) := hx7.cell 0
          have r1 : w7.cell? ⟨wr.heap.size, 1, none⟩ = some (.slice l.A l.n l.c) := hx7.cell 1
          have r2 : w7.cell? ⟨wr.heap.size, 2, none⟩ = some (.int .i64 l.R) := hx7.cell 2
          have r3 : w7.cell? ⟨wr.heap.size, 3, none⟩ = some (.slice l.D l.m l.d) := hx7.cell 3
          have hba := (Below.refl w7.heap.size w7).alloc (Nat.le_refl _) (.cells #[.int .i64 kk.F, .slice kk.A kk.n kk.c, .int .i64 kk.R, .slice kk.D kk.m kk.d] 24)
          have K8 := K7.later hba
          have CS := rsame_LV l kk (hsame.trans HSM.out) HF.out w.heap.size w7.heap.size _ (by simp; omega) (by simp) (Lists.kept HLL.out (Kept.of_below K8.bel (Nat.le_refl _))) (Lists.mono (Lists.kept hlist ((Kept.of_below hba (Nat.le_refl _)))) (Nat.zero_le _) (Nat.le_refl _))
          have HCS := Lib.hid CS
          have HK8 := Lib.hid K8
          clear CG hsame hlist hb7 hx7 K7 hba K8 CS
          go_wp2_with fail
          refine HCS.out.mono ?_
          rintro e w9 ⟨rfl, hb9⟩
          have HK9 := Lib.hid (HK8.out.later hb9)
          clear hb9 r0 r1 r2 r3
          go_wp2
          go_roundw
          case rel => exact ⟨j + 1, by omega, by go_num, HK9.out⟩
          case measure => simp [intOf]; omega
        · have hlb := HS.out.1
          by_cases hrange : i < 1 ∨ (ks.length : Int) < i
          · have CG := Lib.hid (bookGet_none hK.book i (by rw [hlb]; exact hrange))
            have HK2 := Lib.hid hK
            have hd : decide (i < 1) = true ∨ decide (i < 1) = false ∧ decide ((ks.length : Int) < i) = true := by
              by_cases h : i < 1
              · exact .inl (by simpa using h)
              · exact .inr ⟨by simpa using h, by simp; omega⟩
            have HLB := Lib.hid hlb
            clear hK hrange hlb
            rcases hd with hd | ⟨hd, hd2⟩
            all_goals
              go_wp2_with fail
              refine CG.out.mono ?_
              rintro e w7 ⟨rfl, hb7⟩
              have K7 := HK2.out.later hb7
              have hba := (Below.refl w7.heap.size w7).alloc (Nat.le_refl _) (.cells #[.int .i64 0, .slice none 0 0, .int .i64 0, .slice none 0 0] 24)
              have K8 := K7.later hba
              have ns0 : ∀ W : World, NS .i64 W 0 none 0 [] := fun W => ⟨rfl, by simp, fun h => absurd h (by omega)⟩
              have CS := rsame_any 0 0 none 0 0 none 0 0 none 0 none 0 [] [] 0 0 (w7.alloc (.cells #[.int .i64 0, .slice none 0 0, .int .i64 0, .slice none 0 0] 24)) (by omega) (by omega) (by omega) (by omega) (ns0 _) (ns0 _) (ns0 _) (ns0 _)
              have HCS := Lib.hid CS
              have HK8 := Lib.hid K8
              clear hb7 K7 hba K8 ns0 CS
              go_wp2_with fail
              refine HCS.out.mono ?_
              rintro e w9 ⟨rfl, hb9⟩
              have K9 := HK8.out.later hb9
              have CL := bookLen_any K9.book
              rw [HLB.out] at CL
              have HCL := Lib.hid CL
              have hbel := K9.bel
              clear hb9 K9 CL
              go_wp2_with fail
              refine HCL.out.mono ?_
              rintro e w10 ⟨rfl, rfl⟩
              go_wp2
              go_ret
              exact ⟨rfl, hbel⟩
          · obtain ⟨q, hq⟩ : ∃ q : Nat, i = (q : Int) + 1 := ⟨(i - 1).toNat, by omega⟩
            subst hq
            obtain ⟨k', hk'⟩ : ∃ k', bk[q]? = some k' := ⟨bk[q]'(by omega), List.getElem?_eq_getElem _⟩
            have CG := Lib.hid (bookGet_ok hK.book q k' hk')
            have HK2 := Lib.hid hK
            have hd1 : decide ((q : Int) + 1 < 1) = false := by simp; omega
            have hd2 : decide ((ks.length : Int) < (q : Int) + 1) = false := by simp; omega
            have HLB := Lib.hid hlb
            clear hK hrange hlb hk'
            go_wp2_with fail
            refine CG.out.mono ?_
            rintro e w7 ⟨kk, rfl, hsame, hlist, hb7⟩
            have K7 := HK2.out.later hb7
            have K8 := K7.later ((Below.refl w7.heap.size w7).alloc (Nat.le_refl _) (.cells #[.int .i64 kk.F, .slice kk.A kk.n kk.c, .int .i64 kk.R, .slice kk.D kk.m kk.d] 24))
            have CL := bookLen_any K8.book
            rw [HLB.out] at CL
            have HCL := Lib.hid CL
            have hbel := K8.bel
            clear hsame hlist hb7 K7 K8 CL
            go_wp2_with fail
            refine HCL.out.mono ?_
            rintro e w10 ⟨rfl, rfl⟩
            go_wp2
            go_ret
            exact ⟨rfl, hbel⟩

theorem bookLaw_any (A : Option Addr) (n c : Nat) (ls : List LV) (i : Int) (w : World) (hL : LS w w.heap.size A n ls) (hi : I64 i) :
    Calls Try.prog 5 #[.slice A n c, .int .i64 i] w fun e w' => e = .returned (.bool true) ∧ Below w.heap.size w w' := by
  by_cases hn : n ≤ 100
  · exact bookLaw_short A n c ls i w hn hL hi
  · exact bookLaw_long A n c i w hn
end Go.Proofs.Ytaffceodcfgeeaa
