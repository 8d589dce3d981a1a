/- BagTexts, walked. -/
import Derived.Test.YtfmcgejoobbiiaaBgWant
import Derived.Test.YtfmcgejoobbiiaaAdLaw1
import Derived.RangeFuncBox
namespace Go.Proofs.Ytfmcgejoobbiiaa
open Go.RowKit Go.Lib Go.Sort Go.Shelf
attribute [local go_sem] Oper.semAt_some

theorem run_store_fn (P : Program) (w : World) (a : Addr) (f : Fn) (x y : Array Value) (m : Mode) : (store a (.func f x y) m).run P w = stored P w a (.func f x y) m := run_store P w a _ _ rfl
attribute [local go_sem] run_store_fn

set_option maxRecDepth 100000 in
set_option maxHeartbeats 8000000 in
theorem texts_any (D : Option Addr) (m d : Nat) (ls : List Ac) (w : World) (hs : AS w D m ls) :
    Calls Try.prog 4 #[.slice D m d] w fun e w' => e = .returned (.bool true) ∧ Below w.heap.size w w' := by
  have hb0 := (Below.refl w.heap.size w).alloc (Nat.le_refl _) (.cells #[.bool false] 4)
  have HS := Lib.hid (hs.below hb0)
  have HLL : Hid (ls.length = m) := Lib.hid hs.1
  have HR := Lib.hid (Boxed.new w 4 (.bool false))
  have HB0 := Lib.hid hb0
  clear hb0 hs
  refine (callsIn_wide (n := 5)).1 ?_
  refine callsIn_of_wp_marks Try.func4 rfl trivial ?_ rfl
  simp only [Try.ntmps4, List.size_toArray, List.length_cons, List.length_nil, Nat.reduceAdd, Nat.reduceSub, Array.replicate_succ, Array.replicate_zero, List.push_toArray, List.append_toArray, List.nil_append, List.cons_append]
  refine wpIn_wide.2 ?_
  go_wp2_with fail
  refine (alive_any _).mono ?_
  rintro e w1 ⟨rfl, hB1⟩
  have HS1 := Lib.hid (HS.out.below hB1)
  have B1 := Lib.hid hB1
  clear hB1 HS
  go_wp2_with fail
  refine (great_any D m d ls w1 HS1.out).mono ?_
  rintro e w2 ⟨gd, rfl, hgd, hb2⟩
  have B2 := Lib.hid (B1.out.trans (hb2.mono B1.out.size))
  have HS2 := Lib.hid (HS1.out.below hb2)
  clear hb2 HS1 B1
  cases gd with
  | true =>
    clear hgd
    go_wp2_with fail
    refine (alive_any _).mono ?_
    rintro e w3 ⟨rfl, hb3⟩
    have b3 := B2.out.trans (hb3.mono B2.out.size)
    have bR3 : Boxed w3 w.heap.size 4 (.bool false) := (b3.block _ (by simp)).trans HR.out
    have cR := bR3.cell
    have fR := bR3.frozen
    have HB3 := Lib.hid b3
    clear hb3 b3 B2 bR3
    go_wp2
    have hc1 : (w3.setCell ⟨w.heap.size, 0, none⟩ (.bool true)).cell? ⟨w.heap.size, 0, none⟩ = some (.bool true) := World.cell?_setCell_same' _ _ _ (by rw [cR]; rfl)
    refine ⟨.bool true, ?_, rfl, ?_⟩
    · simp [results, Try.f4, go_sem, hc1]
    · exact (HB0.out.trans (HB3.out.mono (by simp))).setCell (p := ⟨w.heap.size, 0, none⟩) (Nat.le_refl _) _
  | false =>
    obtain ⟨hm50, _⟩ := hgd rfl
    clear hgd
    obtain ⟨wc, hwc⟩ : ∃ wc, wc = w2.alloc (.cells #[.func (.func 26) #[] #[]] 42) := ⟨_, rfl⟩
    have HBC : Hid (Below w.heap.size w wc) := Lib.hid (by rw [hwc]; have h := HB0.out.trans (B2.out.mono (by simp)); exact h.alloc h.size _)
    have HRC : Hid (Boxed wc w.heap.size 4 (.bool false)) := Lib.hid (by rw [hwc]; exact Boxed.alloc ((B2.out.block _ (by simp)).trans HR.out) _)
    have HCC : Hid (Boxed wc w2.heap.size 42 (.func (.func 26) #[] #[])) := Lib.hid (by rw [hwc]; exact Boxed.new _ _ _)
    have HSC : Hid (AS wc D m ls) := Lib.hid (by rw [hwc]; exact HS2.out.below ((Below.refl _ _).alloc (Nat.le_refl _) _))
    obtain ⟨cb, hcb⟩ : ∃ cb, cb = w2.heap.size := ⟨_, rfl⟩
    rw [← hcb] at HCC
    clear HB0 B2 HS2 HR
    go_wp2_with fail
    rw [← hwc, ← hcb]
    clear hwc hcb
    refine (newS_none _).mono ?_
    rintro e w4 ⟨a, ra, rfl, h4, a1, a2, hb4⟩
    go_wp2_with fail
    refine (new_none _).mono ?_
    rintro e w5 ⟨b, r, rfl, h5, b1, b2, hb5⟩
    have M1 : Hid (TxAt wc a b 0 w5) := Lib.hid (by
      have e1 := h4.blt
      have e2 := h4.lt
      have e3 := hb4.size
      exact ⟨[], ⟨ra, r, h4.below hb5, h5, ⟨a1, a2⟩, ⟨by omega, by omega⟩, by omega, hb4.trans (hb5.mono e3)⟩, by simp, Nat.le_refl _⟩)
    clear h4 a1 a2 hb4 h5 b1 b2 hb5
    go_wp2
    go_loopg [29] m (fun g i wr => ∃ k : Nat, k ≤ m ∧ Hid (m - k ≤ g) ∧ i = .int .i64 k ∧ Hid (TxAt wc a b k wr))
    case atStart => exact ⟨0, Nat.zero_le _, Lib.hid (Nat.le_refl _), rfl, M1⟩
    case round =>
      clear M1
      obtain ⟨k, hk, HG, rfl, HAt⟩ := hrel
      obtain ⟨L, hTM, hsm, hLk⟩ := HAt.out
      have HTM := Lib.hid hTM
      have HSM := Lib.hid hsm
      have hNl : L.length ≤ 50 := by omega
      have HLK := Lib.hid hLk
      clear hTM hsm hLk
      by_cases hkl : k < m
      · obtain ⟨bo, off, hkx, rfl, hblt, p0, p1, p2, hrd⟩ := (HSC.out.below HTM.out.bel).at_ hkl
        clear hrd HAt
        generalize ls[k] = ac at p0 p1 p2
        obtain ⟨K, X, aA, an, ac, axs⟩ := ac
        dsimp only at p0 p1 p2
        have SA := Lib.hid (HTM.out.ta #[.int .i64 K, .int .i64 X, .slice aA an ac])
        have Scb : ∀ (W : World) (La Lb : List Int), TA wc W a b wr.heap.size La Lb #[.int .i64 K, .int .i64 X, .slice aA an ac] → W.cell? ⟨cb, 0, none⟩ = some (.func (.func 26) #[] #[]) ∧ W.cell? ⟨wr.heap.size, 1, none⟩ = some (.int .i64 X) := fun _ _ _ h =>
          ⟨Boxed.cell ((h.tm.bel.block cb HCC.out.lt).trans HCC.out), (h.whole.cell 1).trans rfl⟩
        have HScb := Lib.hid Scb
        clear Scb HTM
        obtain ⟨y, hy⟩ : ∃ y, m7 X = y := ⟨_, rfl⟩
        have hm : bits .and .i64 X 127 = y := hy
        obtain ⟨tt, htt⟩ : ∃ tt, T3 y = tt := ⟨_, rfl⟩
        have hys : Sm y := by rw [← hy]; exact m7_sm X
        have HTX : Hid (∀ W, Calls Try.prog 26 #[.int .i64 X] W fun e w' => e = .returned (.string tt) ∧ Below W.heap.size W w') := Lib.hid (fun W => by
          have := text_any X W
          rw [hy, htt] at this
          exact this)
        have HYS := Lib.hid hys
        have HTT := Lib.hid htt
        clear hy htt hys
        by_cases hK0 : K = 0
        · subst hK0
          have P1 : Hid (∀ W : World, W.heap = (wr.alloc (.cells #[.int .i64 0, .int .i64 X, .slice aA an ac] 38)).heap → W.os = wr.os → W.tape = wr.tape → W.output = wr.output →
              Calls Try.prog 26 #[.int .i64 X] W fun e w7 => e = .returned (.string tt) ∧ (w7.cell? ⟨cb, 0, none⟩ = some (.func (.func 26) #[] #[]) ∧ w7.cell? ⟨wr.heap.size, 1, none⟩ = some (.int .i64 X)) ∧ Hid (TA wc w7 a b wr.heap.size L L #[.int .i64 0, .int .i64 X, .slice aA an ac])) := Lib.hid (fun W g1 g2 g3 g4 => (HTX.out W).mono (by
            rintro e w7 ⟨rfl, hb7⟩
            have h7 := (SA.out.still g1 g2 g3 g4).below hb7
            exact ⟨rfl, HScb.out _ _ _ h7, Lib.hid h7⟩))
          have P2 : Hid (∀ W3 W : World, Hid (TA wc W3 a b wr.heap.size L L #[.int .i64 0, .int .i64 X, .slice aA an ac]) → W.heap = W3.heap → W.os = W3.os → W.tape = W3.tape → W.output = W3.output →
              Calls Try.prog 29 #[.pointer (some ⟨a, 0, none⟩), .string tt] W fun e w7 => e = .returned (.bool (decide (y ∉ L))) ∧ (w7.cell? ⟨cb, 0, none⟩ = some (.func (.func 26) #[] #[]) ∧ w7.cell? ⟨wr.heap.size, 1, none⟩ = some (.int .i64 X)) ∧ Hid (TA wc w7 a b wr.heap.size (BG.put y L) L #[.int .i64 0, .int .i64 X, .slice aA an ac])) := Lib.hid (fun W3 W h3 g1 g2 g3 g4 => (by
            have hp := (h3.out.still g1 g2 g3 g4).putS (by omega) HSM.out y HYS.out
            rw [HTT.out] at hp
            refine hp.mono ?_
            rintro e w7 ⟨rfl, h7⟩
            exact ⟨rfl, HScb.out _ _ _ h7, Lib.hid h7⟩))
          have P3 : Hid (∀ W3 W : World, Hid (TA wc W3 a b wr.heap.size (BG.put y L) L #[.int .i64 0, .int .i64 X, .slice aA an ac]) → W.heap = W3.heap → W.os = W3.os → W.tape = W3.tape → W.output = W3.output →
              Calls Try.prog 13 #[.pointer (some ⟨b, 0, none⟩), .int .i64 y] W fun e w7 => e = .returned (.bool (decide (y ∉ L))) ∧ (w7.cell? ⟨cb, 0, none⟩ = some (.func (.func 26) #[] #[]) ∧ w7.cell? ⟨wr.heap.size, 1, none⟩ = some (.int .i64 X)) ∧ Hid (TA wc w7 a b wr.heap.size (BG.put y L) (BG.put y L) #[.int .i64 0, .int .i64 X, .slice aA an ac])) := Lib.hid (fun W3 W h3 g1 g2 g3 g4 => ((h3.out.still g1 g2 g3 g4).put (by omega) y).mono (by
            rintro e w7 ⟨rfl, h7⟩
            exact ⟨rfl, HScb.out _ _ _ h7, Lib.hid h7⟩))
          obtain ⟨s0, s1⟩ := HScb.out _ _ _ SA.out
          generalize decide (y ∉ L) = dd at P2 P3
          clear HTX
          go_wp2_with fail
          go_region_held3 (fun w' => w'.cell? ⟨cb, 0, none⟩ = some (.func (.func 26) #[] #[]) ∧ w'.cell? ⟨wr.heap.size, 1, none⟩ = some (.int .i64 X)) (first | exact ⟨s0, s1⟩ | exact k2 | exact k3 | exact k4 | (simp [go_sem, *]))
            (first
              | (go_at_call 26; refine (P1.out _ (by exact rfl) (by exact rfl) (by exact rfl) (by exact rfl)).mono ?_; rintro e w7 ⟨rfl, k2, S7⟩)
              | (go_at_call 29; refine (P2.out w7 _ S7 (by exact rfl) (by exact rfl) (by exact rfl) (by exact rfl)).mono ?_; rintro e w8 ⟨rfl, k3, S8⟩)
              | (go_at_call 13; refine (P3.out w8 _ S8 (by exact rfl) (by exact rfl) (by exact rfl) (by exact rfl)).mono ?_; rintro e w9 ⟨rfl, k4, S9⟩)
              | fail)
          all_goals
            have A9 : Hid (TxAt wc a b (k + 1) w9) := Lib.hid ⟨BG.put y L, S9.out.tm, fun z hz => (BG.mem_put.1 hz).elim (fun e => e ▸ HYS.out) (HSM.out z), by have := BG.put_len y L; have := HLK.out; omega⟩
            cases dd
            · go_wp2
              go_roundg (m - (k + 1))
              case measure => have := HG.out; omega
              case rel => exact ⟨k + 1, by omega, Lib.hid (Nat.le_refl _), by go_num, A9⟩
            · go_wp2
              go_roundg (m - (k + 1))
              case measure => have := HG.out; omega
              case rel => exact ⟨k + 1, by omega, Lib.hid (Nat.le_refl _), by go_num, A9⟩
        · by_cases hK1 : K = 1
          · subst hK1
            have P1 : Hid (∀ W : World, W.heap = (wr.alloc (.cells #[.int .i64 1, .int .i64 X, .slice aA an ac] 38)).heap → W.os = wr.os → W.tape = wr.tape → W.output = wr.output →
                Calls Try.prog 26 #[.int .i64 X] W fun e w7 => e = .returned (.string tt) ∧ (w7.cell? ⟨cb, 0, none⟩ = some (.func (.func 26) #[] #[]) ∧ w7.cell? ⟨wr.heap.size, 1, none⟩ = some (.int .i64 X)) ∧ Hid (TA wc w7 a b wr.heap.size L L #[.int .i64 1, .int .i64 X, .slice aA an ac])) := Lib.hid (fun W g1 g2 g3 g4 => (HTX.out W).mono (by
              rintro e w7 ⟨rfl, hb7⟩
              have h7 := (SA.out.still g1 g2 g3 g4).below hb7
              exact ⟨rfl, HScb.out _ _ _ h7, Lib.hid h7⟩))
            have P2 : Hid (∀ W3 W : World, Hid (TA wc W3 a b wr.heap.size L L #[.int .i64 1, .int .i64 X, .slice aA an ac]) → W.heap = W3.heap → W.os = W3.os → W.tape = W3.tape → W.output = W3.output →
                Calls Try.prog 30 #[.pointer (some ⟨a, 0, none⟩), .string tt] W fun e w7 => e = .returned (.bool (decide (y ∈ L))) ∧ (w7.cell? ⟨cb, 0, none⟩ = some (.func (.func 26) #[] #[]) ∧ w7.cell? ⟨wr.heap.size, 1, none⟩ = some (.int .i64 X)) ∧ Hid (TA wc w7 a b wr.heap.size (BG.del y L) L #[.int .i64 1, .int .i64 X, .slice aA an ac])) := Lib.hid (fun W3 W h3 g1 g2 g3 g4 => (by
              have hp := (h3.out.still g1 g2 g3 g4).delS (by omega) HSM.out y HYS.out
              rw [HTT.out] at hp
              refine hp.mono ?_
              rintro e w7 ⟨rfl, h7⟩
              exact ⟨rfl, HScb.out _ _ _ h7, Lib.hid h7⟩))
            have P3 : Hid (∀ W3 W : World, Hid (TA wc W3 a b wr.heap.size (BG.del y L) L #[.int .i64 1, .int .i64 X, .slice aA an ac]) → W.heap = W3.heap → W.os = W3.os → W.tape = W3.tape → W.output = W3.output →
                Calls Try.prog 14 #[.pointer (some ⟨b, 0, none⟩), .int .i64 y] W fun e w7 => e = .returned (.bool (decide (y ∈ L))) ∧ (w7.cell? ⟨cb, 0, none⟩ = some (.func (.func 26) #[] #[]) ∧ w7.cell? ⟨wr.heap.size, 1, none⟩ = some (.int .i64 X)) ∧ Hid (TA wc w7 a b wr.heap.size (BG.del y L) (BG.del y L) #[.int .i64 1, .int .i64 X, .slice aA an ac])) := Lib.hid (fun W3 W h3 g1 g2 g3 g4 => ((h3.out.still g1 g2 g3 g4).del (by omega) y).mono (by
              rintro e w7 ⟨rfl, h7⟩
              exact ⟨rfl, HScb.out _ _ _ h7, Lib.hid h7⟩))
            obtain ⟨s0, s1⟩ := HScb.out _ _ _ SA.out
            generalize decide (y ∈ L) = dd at P2 P3
            clear HTX
            go_wp2_with fail
            go_region_held3 (fun w' => w'.cell? ⟨cb, 0, none⟩ = some (.func (.func 26) #[] #[]) ∧ w'.cell? ⟨wr.heap.size, 1, none⟩ = some (.int .i64 X)) (first | exact ⟨s0, s1⟩ | exact k2 | exact k3 | exact k4 | (simp [go_sem, *]))
              (first
                | (go_at_call 26; refine (P1.out _ (by exact rfl) (by exact rfl) (by exact rfl) (by exact rfl)).mono ?_; rintro e w7 ⟨rfl, k2, S7⟩)
                | (go_at_call 30; refine (P2.out w7 _ S7 (by exact rfl) (by exact rfl) (by exact rfl) (by exact rfl)).mono ?_; rintro e w8 ⟨rfl, k3, S8⟩)
                | (go_at_call 14; refine (P3.out w8 _ S8 (by exact rfl) (by exact rfl) (by exact rfl) (by exact rfl)).mono ?_; rintro e w9 ⟨rfl, k4, S9⟩)
                | fail)
            all_goals
              have A9 : Hid (TxAt wc a b (k + 1) w9) := Lib.hid ⟨BG.del y L, S9.out.tm, fun z hz => HSM.out z (BG.mem_del.1 hz).1, by have := BG.del_len y L; have := HLK.out; omega⟩
              cases dd
              · go_wp2
                go_roundg (m - (k + 1))
                case measure => have := HG.out; omega
                case rel => exact ⟨k + 1, by omega, Lib.hid (Nat.le_refl _), by go_num, A9⟩
              · go_wp2
                go_roundg (m - (k + 1))
                case measure => have := HG.out; omega
                case rel => exact ⟨k + 1, by omega, Lib.hid (Nat.le_refl _), by go_num, A9⟩
          · have A9 : Hid (TxAt wc a b (k + 1) (wr.alloc (.cells #[.int .i64 K, .int .i64 X, .slice aA an ac] 38))) := Lib.hid ⟨L, SA.out.tm, HSM.out, by have := HLK.out; omega⟩
            clear HTX hm
            go_wp2
            go_roundg (m - (k + 1))
            case measure => have := HG.out; omega
            case rel => exact ⟨k + 1, by omega, Lib.hid (Nat.le_refl _), by go_num, A9⟩
      · have hkn : m = k := by omega
        subst hkn
        clear HAt HG hk hkl HLK HSC HLL
        obtain ⟨r, hIb⟩ := HTM.out.ib
        obtain ⟨v0, hv0, hr0⟩ := hIb.box
        have bA : Below wr.heap.size wr (wr.alloc (.cells #[.slice none 0 0] 46)) := (Below.refl _ _).alloc (Nat.le_refl _) _
        have HP := Lib.hid (allP_of (some ⟨b, 0, none⟩) r v0 L (wr.alloc (.cells #[.slice none 0 0] 46)) (.inr ⟨b, rfl, hv0.alloc _⟩) (hr0.alloc _) (by omega))
        have BO := Lib.hid (Boxed.new wr 46 (.slice none 0 0))
        have BA := Lib.hid bA
        clear hIb hv0 hr0 bA
        go_wp2_with fail
        refine HP.out.mono ?_
        rintro e w3 ⟨bo, rfl, hsq, hb3, hgt3⟩
        have hs3 := hb3.size
        rw [World.size_alloc] at hsq hs3
        have HB3 := Lib.hid (BA.out.trans (hb3.mono (by simp)))
        have HBO := Lib.hid ((hb3.block wr.heap.size (by simp)).trans BO.out : Boxed w3 wr.heap.size 46 (.slice none 0 0))
        have HSQ := Lib.hid hsq
        have hs4 : wr.heap.size < w3.heap.size := by simp at hgt3; omega
        clear hsq hb3 hgt3 HP BA BO hs3
        go_wp2
        refine (wpIn_wide (n := 5)).1 ?_
        refine wpIn_range_one 9 (by decide) (gf := 64) (lb := #[.pointer (some ⟨bo, 0, none⟩)]) rfl (enters_of Try.func64 (by kernel_rfl) rfl)
          HSQ.out (Kept.refl _ _) Kept.trans (fun W r r' _ g h1 h2 => World.putObj_heap_other (by omega)) (Below.refl _ _) (WI wr w3.heap.size) (fun _ _ _ => False) (WI.own (by omega)) (fun _ _ _ _ _ hs _ _ => hs)
          ⟨⟨_, HBO.out, World.ownsRow_nil _ _ _ _, trivial⟩, HB3.out, Nat.le_refl _⟩ ?assign ?body ?done ?stop
        case stop =>
          rintro D c pre W _ h _
          exact h.elim
        case assign =>
          intro l2 x W K hK
          have HK := Lib.hid hK
          clear hK
          gi_wp2
          exact HK.out
        case body =>
          rintro l2 pre x W hI hpre
          obtain ⟨⟨v, hv, hrow, _⟩, hB, hW⟩ := hI
          have hxs : Sm x := HSM.out x (hpre.subset (by simp))
          have hlen : pre.length ≤ 1000 := by have := hpre.length_le; simp at this; omega
          obtain ⟨tt, htt⟩ : ∃ tt, T3 x = tt := ⟨_, rfl⟩
          have HT : Hid (∀ W, Calls Try.prog 26 #[.int .i64 x] W fun e w' => e = .returned (.string tt) ∧ Below W.heap.size W w') := Lib.hid (fun W => by
            have := text_any x W
            rw [m7_id x hxs, htt] at this
            exact this)
          obtain ⟨A, c, rfl⟩ : ∃ A c, v = .slice A pre.length c := by
            rcases hrow.2 with ⟨rfl, e0⟩ | ⟨g, cap, cur, rfl, _⟩
            · exact ⟨none, 0, by rw [e0]⟩
            · exact ⟨_, cap, rfl⟩
          have hc := hv.cell
          have hcb2 : Boxed W cb 42 (.func (.func 26) #[] #[]) := (hB.block cb (Nat.lt_of_lt_of_le HCC.out.lt HTM.out.bel.size)).trans ((HTM.out.bel.block cb HCC.out.lt).trans HCC.out)
          have hc2 := hcb2.cell
          have HG := Lib.hid (fun (w7 : World) hb => want_grows (lo := wr.heap.size + 1) hv hrow hB hW (by omega) (by omega) hlen x tt htt (w7 := w7) hb)
          have HCB := Lib.hid hcb2
          have hmx : Try.prog.follows .mixedOrders = true := by kernel_rfl
          clear hv hrow hB hW hxs hlen htt hcb2 hpre
          gi_wp2_with fail
          refine wpIn_region_any hmx ?_
          try (change wpAnyIn _ _ _ _ _ _ _ _ _ (World.drew _))
          refine wpAnyIn_ready (rs := [0, 1, 2]) (by kernel_rfl) (by simp) ?_
          refine AllReadyIn.cons rfl (fun K hK => ?_) ?_
          · go_simp
            refine hK _ _ ?_
            clear hK K
            refine wpAnyIn_ready (rs := [1, 2]) (by kernel_rfl) (by simp) ?_
            refine AllReadyIn.cons rfl (fun K hK => ?_) ?_
            · go_simp
              refine hK _ _ ?_
              clear hK K
              refine wpAnyIn_ready (rs := [2]) (by kernel_rfl) (by simp) ?_
              refine AllReadyIn.cons rfl (fun K hK => ?_) ?_
              · go_simp
                refine hK _ _ ?_
                clear hK K
                refine wpAnyIn_ready (rs := [3]) (by kernel_rfl) (by simp) ?_
                refine AllReadyIn.cons rfl (fun K hK => ?_) ?_
                · go_simp
                  refine ⟨trivial, ?_⟩
                  refine (CallsIn.inRound l2 (callsIn_wide.2 (HT.out _))).mono ?_
                  rintro e w7 ⟨rfl, hb6⟩
                  have hb7 : Below W.heap.size W w7 := ⟨hb6.os, hb6.tape, hb6.output, hb6.size, hb6.block⟩
                  obtain ⟨g1, g0, v', w1, ⟨gb, gc, rfl⟩, g2, g3, g4, g5⟩ := HG.out w7 hb7
                  have g6 := (boxed_below HCB.out hb7).cell
                  have HG2 := Lib.hid g2
                  clear hb6 hb7 g2
                  refine hK _ _ ?_
                  clear hK K
                  refine wpAnyIn_ready (rs := [4]) (by kernel_rfl) (by simp) ?_
                  refine AllReadyIn.cons rfl (fun K hK => ?_) ?_
                  · go_simp
                    refine hK _ _ ?_
                    clear hK K
                    refine wpAnyIn_ready (rs := [5]) (by kernel_rfl) (by simp) ?_
                    refine AllReadyIn.cons rfl (fun K hK => ?_) ?_
                    · rw [if_pos (by kernel_rfl)]
                      refine wpIn_append_ran rfl (by simp [go_sem]) (by simp [go_sem]) HG2.out ?_
                      refine hK _ _ ?_
                      clear hK K
                      refine wpAnyIn_ready (rs := [6]) (by kernel_rfl) (by simp) ?_
                      refine AllReadyIn.cons rfl (fun K hK => ?_) ?_
                      · go_simp
                        refine hK _ _ ?_
                        clear hK K
                        refine wpAnyIn_done (by kernel_rfl) ?_ _
                        exact g5.out
                      exact AllReadyIn.nil
                    exact AllReadyIn.nil
                  exact AllReadyIn.nil
                exact AllReadyIn.nil
              exact AllReadyIn.nil
            refine AllReadyIn.cons rfl (fun K hK => ?_) ?_
            · go_simp
              refine hK _ _ ?_
              clear hK K
              refine wpAnyIn_ready (rs := [1]) (by kernel_rfl) (by simp) ?_
              refine AllReadyIn.cons rfl (fun K hK => ?_) ?_
              · go_simp
                refine hK _ _ ?_
                clear hK K
                refine wpAnyIn_ready (rs := [3]) (by kernel_rfl) (by simp) ?_
                refine AllReadyIn.cons rfl (fun K hK => ?_) ?_
                · go_simp
                  refine ⟨trivial, ?_⟩
                  refine (CallsIn.inRound l2 (callsIn_wide.2 (HT.out _))).mono ?_
                  rintro e w7 ⟨rfl, hb6⟩
                  have hb7 : Below W.heap.size W w7 := ⟨hb6.os, hb6.tape, hb6.output, hb6.size, hb6.block⟩
                  obtain ⟨g1, g0, v', w1, ⟨gb, gc, rfl⟩, g2, g3, g4, g5⟩ := HG.out w7 hb7
                  have g6 := (boxed_below HCB.out hb7).cell
                  have HG2 := Lib.hid g2
                  clear hb6 hb7 g2
                  refine hK _ _ ?_
                  clear hK K
                  refine wpAnyIn_ready (rs := [4]) (by kernel_rfl) (by simp) ?_
                  refine AllReadyIn.cons rfl (fun K hK => ?_) ?_
                  · go_simp
                    refine hK _ _ ?_
                    clear hK K
                    refine wpAnyIn_ready (rs := [5]) (by kernel_rfl) (by simp) ?_
                    refine AllReadyIn.cons rfl (fun K hK => ?_) ?_
                    · rw [if_pos (by kernel_rfl)]
                      refine wpIn_append_ran rfl (by simp [go_sem]) (by simp [go_sem]) HG2.out ?_
                      refine hK _ _ ?_
                      clear hK K
                      refine wpAnyIn_ready (rs := [6]) (by kernel_rfl) (by simp) ?_
                      refine AllReadyIn.cons rfl (fun K hK => ?_) ?_
                      · go_simp
                        refine hK _ _ ?_
                        clear hK K
                        refine wpAnyIn_done (by kernel_rfl) ?_ _
                        exact g5.out
                      exact AllReadyIn.nil
                    exact AllReadyIn.nil
                  exact AllReadyIn.nil
                exact AllReadyIn.nil
              exact AllReadyIn.nil
            exact AllReadyIn.nil
          refine AllReadyIn.cons rfl (fun K hK => ?_) ?_
          · go_simp
            refine hK _ _ ?_
            clear hK K
            refine wpAnyIn_ready (rs := [0, 2]) (by kernel_rfl) (by simp) ?_
            refine AllReadyIn.cons rfl (fun K hK => ?_) ?_
            · go_simp
              refine hK _ _ ?_
              clear hK K
              refine wpAnyIn_ready (rs := [2]) (by kernel_rfl) (by simp) ?_
              refine AllReadyIn.cons rfl (fun K hK => ?_) ?_
              · go_simp
                refine hK _ _ ?_
                clear hK K
                refine wpAnyIn_ready (rs := [3]) (by kernel_rfl) (by simp) ?_
                refine AllReadyIn.cons rfl (fun K hK => ?_) ?_
                · go_simp
                  refine ⟨trivial, ?_⟩
                  refine (CallsIn.inRound l2 (callsIn_wide.2 (HT.out _))).mono ?_
                  rintro e w7 ⟨rfl, hb6⟩
                  have hb7 : Below W.heap.size W w7 := ⟨hb6.os, hb6.tape, hb6.output, hb6.size, hb6.block⟩
                  obtain ⟨g1, g0, v', w1, ⟨gb, gc, rfl⟩, g2, g3, g4, g5⟩ := HG.out w7 hb7
                  have g6 := (boxed_below HCB.out hb7).cell
                  have HG2 := Lib.hid g2
                  clear hb6 hb7 g2
                  refine hK _ _ ?_
                  clear hK K
                  refine wpAnyIn_ready (rs := [4]) (by kernel_rfl) (by simp) ?_
                  refine AllReadyIn.cons rfl (fun K hK => ?_) ?_
                  · go_simp
                    refine hK _ _ ?_
                    clear hK K
                    refine wpAnyIn_ready (rs := [5]) (by kernel_rfl) (by simp) ?_
                    refine AllReadyIn.cons rfl (fun K hK => ?_) ?_
                    · rw [if_pos (by kernel_rfl)]
                      refine wpIn_append_ran rfl (by simp [go_sem]) (by simp [go_sem]) HG2.out ?_
                      refine hK _ _ ?_
                      clear hK K
                      refine wpAnyIn_ready (rs := [6]) (by kernel_rfl) (by simp) ?_
                      refine AllReadyIn.cons rfl (fun K hK => ?_) ?_
                      · go_simp
                        refine hK _ _ ?_
                        clear hK K
                        refine wpAnyIn_done (by kernel_rfl) ?_ _
                        exact g5.out
                      exact AllReadyIn.nil
                    exact AllReadyIn.nil
                  exact AllReadyIn.nil
                exact AllReadyIn.nil
              exact AllReadyIn.nil
            refine AllReadyIn.cons rfl (fun K hK => ?_) ?_
            · go_simp
              refine hK _ _ ?_
              clear hK K
              refine wpAnyIn_ready (rs := [0, 3]) (by kernel_rfl) (by simp) ?_
              refine AllReadyIn.cons rfl (fun K hK => ?_) ?_
              · go_simp
                refine hK _ _ ?_
                clear hK K
                refine wpAnyIn_ready (rs := [3]) (by kernel_rfl) (by simp) ?_
                refine AllReadyIn.cons rfl (fun K hK => ?_) ?_
                · go_simp
                  refine ⟨trivial, ?_⟩
                  refine (CallsIn.inRound l2 (callsIn_wide.2 (HT.out _))).mono ?_
                  rintro e w7 ⟨rfl, hb6⟩
                  have hb7 : Below W.heap.size W w7 := ⟨hb6.os, hb6.tape, hb6.output, hb6.size, hb6.block⟩
                  obtain ⟨g1, g0, v', w1, ⟨gb, gc, rfl⟩, g2, g3, g4, g5⟩ := HG.out w7 hb7
                  have g6 := (boxed_below HCB.out hb7).cell
                  have HG2 := Lib.hid g2
                  clear hb6 hb7 g2
                  refine hK _ _ ?_
                  clear hK K
                  refine wpAnyIn_ready (rs := [4]) (by kernel_rfl) (by simp) ?_
                  refine AllReadyIn.cons rfl (fun K hK => ?_) ?_
                  · go_simp
                    refine hK _ _ ?_
                    clear hK K
                    refine wpAnyIn_ready (rs := [5]) (by kernel_rfl) (by simp) ?_
                    refine AllReadyIn.cons rfl (fun K hK => ?_) ?_
                    · rw [if_pos (by kernel_rfl)]
                      refine wpIn_append_ran rfl (by simp [go_sem]) (by simp [go_sem]) HG2.out ?_
                      refine hK _ _ ?_
                      clear hK K
                      refine wpAnyIn_ready (rs := [6]) (by kernel_rfl) (by simp) ?_
                      refine AllReadyIn.cons rfl (fun K hK => ?_) ?_
                      · go_simp
                        refine hK _ _ ?_
                        clear hK K
                        refine wpAnyIn_done (by kernel_rfl) ?_ _
                        exact g5.out
                      exact AllReadyIn.nil
                    exact AllReadyIn.nil
                  exact AllReadyIn.nil
                exact AllReadyIn.nil
              refine AllReadyIn.cons rfl (fun K hK => ?_) ?_
              · go_simp
                refine ⟨trivial, ?_⟩
                refine (CallsIn.inRound l2 (callsIn_wide.2 (HT.out _))).mono ?_
                rintro e w7 ⟨rfl, hb6⟩
                have hb7 : Below W.heap.size W w7 := ⟨hb6.os, hb6.tape, hb6.output, hb6.size, hb6.block⟩
                obtain ⟨g1, g0, v', w1, ⟨gb, gc, rfl⟩, g2, g3, g4, g5⟩ := HG.out w7 hb7
                have g6 := (boxed_below HCB.out hb7).cell
                have HG2 := Lib.hid g2
                clear hb6 hb7 g2
                refine hK _ _ ?_
                clear hK K
                refine wpAnyIn_ready (rs := [0, 4]) (by kernel_rfl) (by simp) ?_
                refine AllReadyIn.cons rfl (fun K hK => ?_) ?_
                · go_simp
                  refine hK _ _ ?_
                  clear hK K
                  refine wpAnyIn_ready (rs := [4]) (by kernel_rfl) (by simp) ?_
                  refine AllReadyIn.cons rfl (fun K hK => ?_) ?_
                  · go_simp
                    refine hK _ _ ?_
                    clear hK K
                    refine wpAnyIn_ready (rs := [5]) (by kernel_rfl) (by simp) ?_
                    refine AllReadyIn.cons rfl (fun K hK => ?_) ?_
                    · rw [if_pos (by kernel_rfl)]
                      refine wpIn_append_ran rfl (by simp [go_sem]) (by simp [go_sem]) HG2.out ?_
                      refine hK _ _ ?_
                      clear hK K
                      refine wpAnyIn_ready (rs := [6]) (by kernel_rfl) (by simp) ?_
                      refine AllReadyIn.cons rfl (fun K hK => ?_) ?_
                      · go_simp
                        refine hK _ _ ?_
                        clear hK K
                        refine wpAnyIn_done (by kernel_rfl) ?_ _
                        exact g5.out
                      exact AllReadyIn.nil
                    exact AllReadyIn.nil
                  exact AllReadyIn.nil
                refine AllReadyIn.cons rfl (fun K hK => ?_) ?_
                · go_simp
                  refine hK _ _ ?_
                  clear hK K
                  refine wpAnyIn_ready (rs := [0]) (by kernel_rfl) (by simp) ?_
                  refine AllReadyIn.cons rfl (fun K hK => ?_) ?_
                  · go_simp
                    refine hK _ _ ?_
                    clear hK K
                    refine wpAnyIn_ready (rs := [5]) (by kernel_rfl) (by simp) ?_
                    refine AllReadyIn.cons rfl (fun K hK => ?_) ?_
                    · rw [if_pos (by kernel_rfl)]
                      refine wpIn_append_ran rfl (by simp [go_sem]) (by simp [go_sem]) HG2.out ?_
                      refine hK _ _ ?_
                      clear hK K
                      refine wpAnyIn_ready (rs := [6]) (by kernel_rfl) (by simp) ?_
                      refine AllReadyIn.cons rfl (fun K hK => ?_) ?_
                      · go_simp
                        refine hK _ _ ?_
                        clear hK K
                        refine wpAnyIn_done (by kernel_rfl) ?_ _
                        exact g5.out
                      exact AllReadyIn.nil
                    exact AllReadyIn.nil
                  exact AllReadyIn.nil
                exact AllReadyIn.nil
              exact AllReadyIn.nil
            exact AllReadyIn.nil
          refine AllReadyIn.cons rfl (fun K hK => ?_) ?_
          · go_simp
            refine hK _ _ ?_
            clear hK K
            refine wpAnyIn_ready (rs := [0, 1]) (by kernel_rfl) (by simp) ?_
            refine AllReadyIn.cons rfl (fun K hK => ?_) ?_
            · go_simp
              refine hK _ _ ?_
              clear hK K
              refine wpAnyIn_ready (rs := [1]) (by kernel_rfl) (by simp) ?_
              refine AllReadyIn.cons rfl (fun K hK => ?_) ?_
              · go_simp
                refine hK _ _ ?_
                clear hK K
                refine wpAnyIn_ready (rs := [3]) (by kernel_rfl) (by simp) ?_
                refine AllReadyIn.cons rfl (fun K hK => ?_) ?_
                · go_simp
                  refine ⟨trivial, ?_⟩
                  refine (CallsIn.inRound l2 (callsIn_wide.2 (HT.out _))).mono ?_
                  rintro e w7 ⟨rfl, hb6⟩
                  have hb7 : Below W.heap.size W w7 := ⟨hb6.os, hb6.tape, hb6.output, hb6.size, hb6.block⟩
                  obtain ⟨g1, g0, v', w1, ⟨gb, gc, rfl⟩, g2, g3, g4, g5⟩ := HG.out w7 hb7
                  have g6 := (boxed_below HCB.out hb7).cell
                  have HG2 := Lib.hid g2
                  clear hb6 hb7 g2
                  refine hK _ _ ?_
                  clear hK K
                  refine wpAnyIn_ready (rs := [4]) (by kernel_rfl) (by simp) ?_
                  refine AllReadyIn.cons rfl (fun K hK => ?_) ?_
                  · go_simp
                    refine hK _ _ ?_
                    clear hK K
                    refine wpAnyIn_ready (rs := [5]) (by kernel_rfl) (by simp) ?_
                    refine AllReadyIn.cons rfl (fun K hK => ?_) ?_
                    · rw [if_pos (by kernel_rfl)]
                      refine wpIn_append_ran rfl (by simp [go_sem]) (by simp [go_sem]) HG2.out ?_
                      refine hK _ _ ?_
                      clear hK K
                      refine wpAnyIn_ready (rs := [6]) (by kernel_rfl) (by simp) ?_
                      refine AllReadyIn.cons rfl (fun K hK => ?_) ?_
                      · go_simp
                        refine hK _ _ ?_
                        clear hK K
                        refine wpAnyIn_done (by kernel_rfl) ?_ _
                        exact g5.out
                      exact AllReadyIn.nil
                    exact AllReadyIn.nil
                  exact AllReadyIn.nil
                exact AllReadyIn.nil
              exact AllReadyIn.nil
            refine AllReadyIn.cons rfl (fun K hK => ?_) ?_
            · go_simp
              refine hK _ _ ?_
              clear hK K
              refine wpAnyIn_ready (rs := [0, 3]) (by kernel_rfl) (by simp) ?_
              refine AllReadyIn.cons rfl (fun K hK => ?_) ?_
              · go_simp
                refine hK _ _ ?_
                clear hK K
                refine wpAnyIn_ready (rs := [3]) (by kernel_rfl) (by simp) ?_
                refine AllReadyIn.cons rfl (fun K hK => ?_) ?_
                · go_simp
                  refine ⟨trivial, ?_⟩
                  refine (CallsIn.inRound l2 (callsIn_wide.2 (HT.out _))).mono ?_
                  rintro e w7 ⟨rfl, hb6⟩
                  have hb7 : Below W.heap.size W w7 := ⟨hb6.os, hb6.tape, hb6.output, hb6.size, hb6.block⟩
                  obtain ⟨g1, g0, v', w1, ⟨gb, gc, rfl⟩, g2, g3, g4, g5⟩ := HG.out w7 hb7
                  have g6 := (boxed_below HCB.out hb7).cell
                  have HG2 := Lib.hid g2
                  clear hb6 hb7 g2
                  refine hK _ _ ?_
                  clear hK K
                  refine wpAnyIn_ready (rs := [4]) (by kernel_rfl) (by simp) ?_
                  refine AllReadyIn.cons rfl (fun K hK => ?_) ?_
                  · go_simp
                    refine hK _ _ ?_
                    clear hK K
                    refine wpAnyIn_ready (rs := [5]) (by kernel_rfl) (by simp) ?_
                    refine AllReadyIn.cons rfl (fun K hK => ?_) ?_
                    · rw [if_pos (by kernel_rfl)]
                      refine wpIn_append_ran rfl (by simp [go_sem]) (by simp [go_sem]) HG2.out ?_
                      refine hK _ _ ?_
                      clear hK K
                      refine wpAnyIn_ready (rs := [6]) (by kernel_rfl) (by simp) ?_
                      refine AllReadyIn.cons rfl (fun K hK => ?_) ?_
                      · go_simp
                        refine hK _ _ ?_
                        clear hK K
                        refine wpAnyIn_done (by kernel_rfl) ?_ _
                        exact g5.out
                      exact AllReadyIn.nil
                    exact AllReadyIn.nil
                  exact AllReadyIn.nil
                exact AllReadyIn.nil
              refine AllReadyIn.cons rfl (fun K hK => ?_) ?_
              · go_simp
                refine ⟨trivial, ?_⟩
                refine (CallsIn.inRound l2 (callsIn_wide.2 (HT.out _))).mono ?_
                rintro e w7 ⟨rfl, hb6⟩
                have hb7 : Below W.heap.size W w7 := ⟨hb6.os, hb6.tape, hb6.output, hb6.size, hb6.block⟩
                obtain ⟨g1, g0, v', w1, ⟨gb, gc, rfl⟩, g2, g3, g4, g5⟩ := HG.out w7 hb7
                have g6 := (boxed_below HCB.out hb7).cell
                have HG2 := Lib.hid g2
                clear hb6 hb7 g2
                refine hK _ _ ?_
                clear hK K
                refine wpAnyIn_ready (rs := [0, 4]) (by kernel_rfl) (by simp) ?_
                refine AllReadyIn.cons rfl (fun K hK => ?_) ?_
                · go_simp
                  refine hK _ _ ?_
                  clear hK K
                  refine wpAnyIn_ready (rs := [4]) (by kernel_rfl) (by simp) ?_
                  refine AllReadyIn.cons rfl (fun K hK => ?_) ?_
                  · go_simp
                    refine hK _ _ ?_
                    clear hK K
                    refine wpAnyIn_ready (rs := [5]) (by kernel_rfl) (by simp) ?_
                    refine AllReadyIn.cons rfl (fun K hK => ?_) ?_
                    · rw [if_pos (by kernel_rfl)]
                      refine wpIn_append_ran rfl (by simp [go_sem]) (by simp [go_sem]) HG2.out ?_
                      refine hK _ _ ?_
                      clear hK K
                      refine wpAnyIn_ready (rs := [6]) (by kernel_rfl) (by simp) ?_
                      refine AllReadyIn.cons rfl (fun K hK => ?_) ?_
                      · go_simp
                        refine hK _ _ ?_
                        clear hK K
                        refine wpAnyIn_done (by kernel_rfl) ?_ _
                        exact g5.out
                      exact AllReadyIn.nil
                    exact AllReadyIn.nil
                  exact AllReadyIn.nil
                refine AllReadyIn.cons rfl (fun K hK => ?_) ?_
                · go_simp
                  refine hK _ _ ?_
                  clear hK K
                  refine wpAnyIn_ready (rs := [0]) (by kernel_rfl) (by simp) ?_
                  refine AllReadyIn.cons rfl (fun K hK => ?_) ?_
                  · go_simp
                    refine hK _ _ ?_
                    clear hK K
                    refine wpAnyIn_ready (rs := [5]) (by kernel_rfl) (by simp) ?_
                    refine AllReadyIn.cons rfl (fun K hK => ?_) ?_
                    · rw [if_pos (by kernel_rfl)]
                      refine wpIn_append_ran rfl (by simp [go_sem]) (by simp [go_sem]) HG2.out ?_
                      refine hK _ _ ?_
                      clear hK K
                      refine wpAnyIn_ready (rs := [6]) (by kernel_rfl) (by simp) ?_
                      refine AllReadyIn.cons rfl (fun K hK => ?_) ?_
                      · go_simp
                        refine hK _ _ ?_
                        clear hK K
                        refine wpAnyIn_done (by kernel_rfl) ?_ _
                        exact g5.out
                      exact AllReadyIn.nil
                    exact AllReadyIn.nil
                  exact AllReadyIn.nil
                exact AllReadyIn.nil
              exact AllReadyIn.nil
            exact AllReadyIn.nil
          exact AllReadyIn.nil
        case done =>
          rintro D1 W1 hD1 hI hK1
          obtain ⟨⟨v, hv, hrow, _⟩, hB, hW⟩ := hI
          have hd1 : D1 < W1.heap.size := (Array.getElem?_eq_some_iff.1 hK1).1
          obtain ⟨rw', hRow⟩ := row_ofS hrow
          obtain ⟨A, c, rfl, _⟩ := hRow.slice
          obtain ⟨ra, hSa0⟩ := HTM.out.tb
          have hSa := hSa0.below (hB.mono (Nat.le_refl _))
          obtain ⟨va, hva, hra⟩ := hSa.box
          have HP := Lib.hid (allP_ofS a ra va L (W1.alloc (.cells #[.int .i64 0] 3)) (hva.alloc _) (hra.alloc _) (by omega))
          have HBN := Lib.hid (Boxed.new W1 3 (.int .i64 0))
          have HV := Lib.hid hv
          have HROW := Lib.hid hRow
          have HSA := Lib.hid hSa
          have HB := Lib.hid hB
          have HK1 := Lib.hid hK1
          clear hv hrow hB hW hK1 hRow hSa0 hSa hva hra HSQ
          go_wp2_with fail
          refine HP.out.mono ?_
          rintro e w5 ⟨bo2, rfl, hsq, hb5, hgt5⟩
          have hs5 := hb5.size
          rw [World.size_alloc] at hsq hs5
          have bA5 : Below W1.heap.size W1 w5 := ((Below.refl _ W1).alloc (Nat.le_refl _) (.cells #[.int .i64 0] 3)).trans (hb5.mono (by simp))
          have hbn5 : Boxed w5 W1.heap.size 3 (.int .i64 0) := (hb5.block W1.heap.size (by simp)).trans HBN.out
          have HNI : Hid (NI W1 [] w5) := Lib.hid ⟨hbn5, bA5⟩
          have HSQ := Lib.hid hsq
          have hs6 : W1.heap.size < w5.heap.size := by omega
          clear hsq hb5 hgt5 HP HBN bA5 hbn5 hs5
          go_wp2
          refine (wpIn_wide (n := 5)).1 ?_
          refine wpIn_range_one 11 (by decide) (gf := 65) (lb := #[.pointer (some ⟨bo2, 0, none⟩)]) rfl (enters_of Try.func65 (by kernel_rfl) rfl)
            HSQ.out (Kept.refl _ _) Kept.trans (fun W r r' _ g h1 h2 => World.putObj_heap_other (by omega)) (Below.refl _ _) (NI W1) (fun _ _ _ => False) (NI.own (by omega)) (fun _ _ _ _ _ hs _ _ => hs)
            HNI.out ?assign ?body ?done ?stop
          case stop =>
            rintro D c pre W _ h _
            exact h.elim
          case assign =>
            intro l2 x W K hK
            have HK := Lib.hid hK
            clear hK
            gi_wp2
            exact HK.out
          case body =>
            rintro l2 pre x W ⟨hbN, hbW⟩ hpre
            have hpl : pre.length < L.length := by have := hpre.length_le; simp at this; omega
            have hLx : L[pre.length] = x := by
              obtain ⟨t, ht⟩ := hpre
              have : L[pre.length]? = some x := by rw [← ht]; simp
              rw [List.getElem?_eq_getElem hpl] at this
              injection this
            have hRW := HROW.out.below hbW
            obtain ⟨cap, e0, _, hcw⟩ := hRW.cell hpl
            injection e0 with e1 _ e2
            subst e1 e2
            have hvW := boxed_below HV.out hbW
            have hcV := hvW.cell
            rw [hLx] at hcw
            have hcw' : W.cell? ⟨rw', pre.length, none⟩ = some (.string (T3 x)) := hcw
            clear hcw
            generalize T3 x = tt at hcw' ⊢
            have hcN := hbN.cell
            have hfN := hbN.frozen
            have hge : ¬ ((L.length : Int) ≤ (pre.length : Int)) := by omega
            have HBN := Lib.hid hbN
            have HBW := Lib.hid hbW
            clear hRW hvW hbN hbW hLx hpre
            gi_wp2
            refine ⟨(KeepsOthers.setCell _ _ _).from _, (Kept.refl _ _ _).setCell (.inl (by simp)) _, ?_, HBW.out.setCell (p := ⟨W1.heap.size, 0, none⟩) (Nat.le_refl _) _⟩
            have := HBN.out.set (.int .i64 ((pre.length : Int) + 1))
            rw [List.length_append]
            exact this
          case done =>
            rintro D2 W2 hD2 ⟨hbN, hbW⟩ hK2
            have hd2 : D2 < W2.heap.size := (Array.getElem?_eq_some_iff.1 hK2).1
            have HD1 : Hid (W2.heap[D1]? = some (.deferred (some []))) := Lib.hid ((hbW.block D1 hd1).trans HK1.out)
            have hSa2 := HSA.out.below hbW
            have HU := Lib.hid (lenS_any (hSa2.drewN 1))
            have hvW := boxed_below HV.out hbW
            have hcV := hvW.cell
            have hcN := hbN.cell
            have hb02 : Below w.heap.size w W2 := HBC.out.trans (((HTM.out.bel.trans (HB.out.mono HTM.out.bel.size)).trans (hbW.mono (by have := HTM.out.bel.size; have := HB.out.size; omega))).mono HBC.out.size)
            have bR : Boxed W2 w.heap.size 4 (.bool false) := ((hbW.block _ (Nat.lt_of_lt_of_le HRC.out.lt (by have := HTM.out.bel.size; have := HB.out.size; omega))).trans (HB.out.block _ (Nat.lt_of_lt_of_le HRC.out.lt HTM.out.bel.size))).trans ((HTM.out.bel.block _ HRC.out.lt).trans HRC.out)
            have cR := bR.cell
            have fR := bR.frozen
            have hmx : Try.prog.follows .mixedOrders = true := by kernel_rfl
            have HR9 := Lib.hid bR
            have HB02 := Lib.hid hb02
            have HK2 := Lib.hid hK2
            clear hSa2 hvW hbN hbW bR hb02 hK2
            go_wp2_with fail
            refine (wpIn_wide (n := 5)).1 ?_
            refine Code.wpIn_mono NoPanic.imp ?_
            gi_region_with_o (first
              | (refine ⟨trivial, ?_⟩; gi_at_call 33; refine (callsIn_wide.2 HU.out).mono ?_; rintro e w' ⟨rfl, rfl⟩)
              | (refine ⟨trivial, fun h => (by cases h), ?_⟩; gi_at_call 33; refine (callsIn_wide.2 HU.out).mono ?_; rintro e w' ⟨rfl, rfl⟩)
              | (gi_at_call 33; refine (callsIn_wide.2 HU.out).mono ?_; rintro e w' ⟨rfl, rfl⟩))
            all_goals refine NoPanic.normal ?_
            all_goals go_wp2
            all_goals
              have hA : ((W2.drewN 1).setCell ⟨w.heap.size, 0, none⟩ (.bool true)).heap[D2]? = some (.deferred (some [])) := (KeepsOthers.setCell (W2.drewN 1) ⟨w.heap.size, 0, none⟩ (.bool true)).same D2 _ HK2.out rfl
              have hB1 : ((W2.drewN 1).setCell ⟨w.heap.size, 0, none⟩ (.bool true)).heap[D1]? = some (.deferred (some [])) := (KeepsOthers.setCell (W2.drewN 1) ⟨w.heap.size, 0, none⟩ (.bool true)).same D1 _ HD1.out rfl
              have hB2 : (((W2.drewN 1).setCell ⟨w.heap.size, 0, none⟩ (.bool true)).putObj D2 (.deferred none)).heap[D1]? = some (.deferred (some [])) := (World.putObj_heap_other (by omega)).trans hB1
              refine ⟨by simp, .inl ⟨_, _, rfl, run_takeDeferred hA, ⟨by simp, .inl ⟨_, _, rfl, run_takeDeferred hB2, ?_⟩⟩⟩⟩
              have hc1 : ((W2.drewN 1).setCell ⟨w.heap.size, 0, none⟩ (.bool true)).cell? ⟨w.heap.size, 0, none⟩ = some (.bool true) := World.cell?_setCell_same' (W2.drewN 1) _ _ (by rw [World.cell?_drewN, HR9.out.cell]; rfl)
              have hc5 := cell_kept hc1 (grownBy_putObj' _ D2 (.deferred none)) (fun r e => by cases e; exact ⟨_, hA, rfl⟩)
              have hc6 := cell_kept hc5 (grownBy_putObj' _ D1 (.deferred none)) (fun r e => by cases e; exact ⟨_, hB2, rfl⟩)
              refine ⟨.bool true, ?_, rfl, ?_⟩
              · simp [results, Try.f4, go_sem, hc6]
              · have hl : w.heap.size ≤ wr.heap.size := Nat.le_trans HBC.out.size HTM.out.bel.size
                have hl2 := HB.out.size
                exact (((show Below w.heap.size w (W2.drewN 1) from ⟨HB02.out.os, HB02.out.tape, HB02.out.output, HB02.out.size, HB02.out.block⟩).setCell (p := ⟨w.heap.size, 0, none⟩) (Nat.le_refl _) (.bool true)).trans (belowK_b (w := w) (Nat.le_refl _) _ D2 _ _ (by omega) hA rfl rfl)).trans (belowK_b (w := w) (Nat.le_refl _) _ D1 _ _ (by omega) hB2 rfl rfl)
end Go.Proofs.Ytfmcgejoobbiiaa
