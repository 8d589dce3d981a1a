/- BagRises, walked. -/
import Derived.Test.YtfmcgejoobbiiaaBgWalks
import Derived.Deep.RegionLaw
namespace Go.Proofs.Ytfmcgejoobbiiaa
open Go.RowKit Go.Lib Go.Sort

namespace BG
theorem less_step (L ys : List Int) {k : Nat} (hk : k < ys.length) : del ys[k] (less L (ys.take k)) = less L (ys.take (k + 1)) := by
  unfold del less
  rw [List.filter_filter]
  congr 1
  funext y
  have e : (y ∈ ys.take (k + 1)) ↔ (y ∈ ys.take k ∨ y = ys[k]) := by rw [List.take_succ_eq_append_getElem hk, List.mem_append, List.mem_singleton]
  rw [Bool.eq_iff_iff]
  simp only [Bool.and_eq_true, decide_eq_true_eq, e, not_or, ne_eq]
  exact And.comm
theorem less_nil (L : List Int) : less L [] = L := by simp [less]
/-- How many different ones of l are in F. -/
def seen (F l : List Int) : Nat := ((norm l).filter fun y => decide (y ∈ F)).length
theorem seen_nil (F : List Int) : seen F [] = 0 := by simp [seen, norm_nil]
theorem seen_again {F l : List Int} {x : Int} (h : x ∈ l) : seen F (l ++ [x]) = seen F l := by
  unfold seen
  rw [norm_eq (l := l ++ [x]) (m := l) fun y => by simp; exact fun e => e ▸ h]
theorem norm_snoc (l : List Int) (x : Int) : norm (l ++ [x]) = put x (norm l) := norm_eq fun y => by simp [mem_norm]; exact or_comm
theorem seen_new {F l : List Int} {x : Int} (h : x ∉ l) : seen F (l ++ [x]) = seen F l + (if x ∈ F then 1 else 0) := by
  unfold seen
  rw [norm_snoc, put_out (norm_rises l) (by rw [mem_norm]; exact h), List.filter_append, List.filter_cons, List.length_append]
  conv => rhs; rw [← List.take_append_drop (pos (norm l) x) (norm l), List.filter_append, List.length_append]
  by_cases hx : x ∈ F
  · simp [hx]; omega
  · simp [hx]
theorem seen_all {F l : List Int} (hF : Rises F) (h : ∀ y ∈ F, y ∈ l) : seen F l = F.length := by
  unfold seen
  congr 1
  refine ext _ _ ((norm_rises l).filter _) hF fun y => ?_
  simp [mem_norm]
  exact h y
theorem seen_le (F l : List Int) : seen F l ≤ l.length := Nat.le_trans (List.length_filter_le _ _) (norm_len l)
end BG

/-- A bag of the law's own: its box and its row lie from block B on. -/
structure OB (B : Nat) (w : World) (b : Nat) (l : List Int) : Prop where
  ge : B ≤ b
  bag : ∃ r, IBag w b r l ∧ B ≤ r
section
variable {B b : Nat} {w w' : World} {l m : List Int}
theorem OB.below (h : OB B w b l) (k : Below w.heap.size w w') : OB B w' b l := by
  obtain ⟨r, h1, h2⟩ := h.bag
  exact ⟨h.ge, r, h1.below k, h2⟩
theorem OB.drewN (h : OB B w b l) (n : Nat) : OB B (w.drewN n) b l := by
  obtain ⟨r, h1, h2⟩ := h.bag
  exact ⟨h.ge, r, h1.drewN n, h2⟩
theorem Below.drewN {a w : World} (h : Below B a w) (n : Nat) : Below B a (w.drewN n) := ⟨h.os, h.tape, h.output, h.size, h.block⟩
theorem OB.has (h : OB B w b l) (hl : l.length ≤ 1000000) (x : Int) : Calls Try.prog 15 #[.pointer (some ⟨b, 0, none⟩), .int .i64 x] w fun e w' => e = .returned (.bool (decide (x ∈ l))) ∧ ∃ q, w' = w.drewN q := by
  obtain ⟨r, h1, h2⟩ := h.bag
  exact has_any h1 hl x
theorem OB.first (h : OB B w b l) (hl : l.length ≤ 1000000) (x : Int) : Calls Try.prog 11 #[.pointer (some ⟨b, 0, none⟩), .int .i64 x] w fun e w' => e = .returned (.tuple #[.int .i64 (BG.fstV l x), .bool (BG.fstB l x)]) ∧ ∃ q, w' = w.drewN q := by
  obtain ⟨r, h1, h2⟩ := h.bag
  exact first_any h1 hl x
theorem OB.len (h : OB B w b l) : Calls Try.prog 16 #[.pointer (some ⟨b, 0, none⟩)] w fun e w' => e = .returned (.int .i64 (l.length : Nat)) ∧ w = w' := by
  obtain ⟨r, h1, h2⟩ := h.bag
  exact len_any h1
theorem OB.all (h : OB B w b l) (hl : l.length ≤ 1000000) : Calls Try.prog 17 #[.pointer (some ⟨b, 0, none⟩)] w (RowI l w) := by
  obtain ⟨r, h1, h2⟩ := h.bag
  exact all_any h1 hl
theorem OB.del (h : OB B w b l) (hl : l.length ≤ 1000000) (hB : B ≤ w.heap.size) (x : Int) : Calls Try.prog 14 #[.pointer (some ⟨b, 0, none⟩), .int .i64 x] w fun e w' => e = .returned (.bool (decide (x ∈ l))) ∧ OB B w' b (BG.del x l) ∧ Below B w w' := by
  obtain ⟨r, h1, h2⟩ := h.bag
  refine (del_any h1 hl x).mono ?_
  rintro e w' ⟨rfl, r', h3, h4, h5⟩
  exact ⟨rfl, ⟨h.ge, r', h3, by omega⟩, h5.below (by simp; exact ⟨h.ge, h2⟩) hB⟩
end
theorem new_own (A : Option Addr) (n c : Nat) (xs : List Int) (B : Nat) (w : World) (h : Reads (Value.int .i64) w A n xs) (hl : n ≤ 1000000) (hB : B ≤ w.heap.size) :
    Calls Try.prog 19 #[.slice A n c] w fun e w' => ∃ b, e = .returned (.pointer (some ⟨b, 0, none⟩)) ∧ OB B w' b (BG.norm xs) ∧ Below w.heap.size w w' := by
  refine (new_any A n c xs w h hl).mono ?_
  rintro e w' ⟨b, r, rfl, h1, h2, h3, h4⟩
  exact ⟨b, rfl, ⟨by omega, r, h1, by omega⟩, h4⟩

set_option maxRecDepth 100000 in
set_option maxHeartbeats 4000000 in
theorem rises_any (A : Option Addr) (n c : Nat) (xs : List Int) (D : Option Addr) (m d : Nat) (zs : List Int) (w : World) (hx : NS .i64 w w.heap.size A n xs) (hnc : n ≤ c) (hz : NS .i64 w w.heap.size D m zs) (hmd : m ≤ d) :
    Calls Try.prog 5 #[.slice A n c, .slice D m d] w fun e w' => e = .returned (.bool true) ∧ Below w.heap.size w w' := by
  obtain ⟨M, hM1, hM2, hM3⟩ := cut_num n 100
  obtain ⟨N, hN1, hN2, hN3⟩ := cut_num m 100
  have HX := Lib.hid (hx.reads.take hM1)
  have HZ := Lib.hid (hz.reads.take hN1)
  have q1 : min (n : Int) 100 = (M : Int) := by omega
  have q2 : min (m : Int) 100 = (N : Int) := by omega
  clear hM3 hN3 hx hz
  generalize xs.take M = ls at HX
  generalize zs.take N = os at HZ
  have HLL : Hid (ls.length = M) := Lib.hid HX.out.1
  have HOL : Hid (os.length = N) := Lib.hid HZ.out.1
  go_enter Try.func5, Try.ntmps5
  go_upto_region 1 with (fail)
  go_cut [0, 1] (fun s t wc => s = .slice A M c ∧ t = .slice D N d ∧ Hid (Below w.heap.size w wc))
  case first =>
    have q3 : (M : Int) ≤ c := by omega
    have q4 : (N : Int) ≤ d := by omega
    have q5 : (0 : Int) ≤ M := by omega
    have q6 : (0 : Int) ≤ N := by omega
    go_region
    go_wp2
    go_meet
    exact ⟨rfl, rfl, Lib.hid (Below.refl _ w).drew⟩
  case rest =>
    obtain ⟨rfl, rfl, HB0⟩ := hcut
    have hMc : M ≤ c := by omega
    clear q1 q2 hM1 hN1 hnc hmd
    rename World => w0
    have hb0 := HB0.out.size
    have HNL : Hid ((BG.norm ls).length ≤ 100) := Lib.hid (by have := BG.norm_len ls; have := HLL.out; omega)
    go_wp2_with fail
    refine (new_own A M c ls w.heap.size w0 (HX.out.below HB0.out) (by omega) hb0).mono ?_
    rintro e w1 ⟨b, rfl, h1, hB1⟩
    have H1 := Lib.hid h1
    have B1 := Lib.hid (HB0.out.trans (hB1.mono hb0))
    clear h1 hB1 HB0
    go_wp2_with fail
    refine (alive_any w1).mono ?_
    rintro e w2 ⟨rfl, hB2⟩
    have H2 := Lib.hid (H1.out.below hB2)
    have B2 := Lib.hid (B1.out.trans (hB2.mono B1.out.size))
    clear hB2 H1 B1
    go_wp2
    go_loopg [41] N (fun g i wr => ∃ k : Nat, k ≤ N ∧ Hid (N - k ≤ g) ∧ i = .int .i64 k ∧ Hid (OB w.heap.size wr b (BG.less (BG.norm ls) (os.take k))) ∧ Hid (Below w.heap.size w wr))
    case atStart => exact ⟨0, Nat.zero_le _, Lib.hid (Nat.le_refl _), rfl, Lib.hid (by rw [List.take_zero, BG.less_nil]; exact H2.out), B2⟩
    case round =>
      clear H2 B2
      obtain ⟨k, hk, HG, rfl, HO, HB⟩ := hrel
      have hbs := HB.out.size
      by_cases hkl : k < N
      · obtain ⟨bo, off, hkx, rfl, hblt, hc0⟩ := (HZ.out.below HB.out).at_ hkl
        have HE := Lib.hid (BG.less_step (BG.norm ls) os hkx)
        have hle : (BG.less (BG.norm ls) (os.take k)).length ≤ 1000000 := by have := BG.less_len (BG.norm ls) (os.take k); have := HNL.out; omega
        have HD := Lib.hid (HO.out.del hle hbs os[k])
        generalize os[k] = x at hc0 HE HD
        clear hle
        go_wp2_with fail
        refine HD.out.mono ?_
        rintro e w3 ⟨rfl, ho3, hb3⟩
        rw [HE.out] at ho3
        have HO3 := Lib.hid ho3
        have HB3 := Lib.hid (HB.out.trans hb3)
        clear ho3 hb3
        go_wp2
        go_roundg (N - (k + 1))
        case measure => have := HG.out; omega
        case rel => exact ⟨k + 1, by omega, Lib.hid (Nat.le_refl _), by go_num, HO3, HB3⟩
      · have hkN : N = k := by omega
        subst hkN
        have hT : os.take N = os := List.take_of_length_le (by have := HOL.out; omega)
        rw [hT] at HO
        have HFu : Hid (BG.Rises (BG.less (BG.norm ls) os)) := Lib.hid (BG.less_rises (BG.norm_rises ls))
        have HFm : Hid (∀ y ∈ BG.less (BG.norm ls) os, y ∈ ls ∧ y ∉ os) := Lib.hid (fun y hy => by have := BG.mem_less.1 hy; exact ⟨BG.mem_norm.1 this.1, this.2⟩)
        have hFl : (BG.less (BG.norm ls) os).length ≤ 100 := by have := BG.less_len (BG.norm ls) os; have := HNL.out; omega
        generalize BG.less (BG.norm ls) os = F at HO HFu HFm hFl
        clear hT HNL HG hk hkl
        go_wp2_with fail
        refine (HO.out.all (by omega)).mono ?_
        rintro e w3 ⟨v3, rfl, h3, hb3⟩
        obtain ⟨r3, hr3, _⟩ := row_of h3
        obtain ⟨A3, c3, rfl, _⟩ := hr3.slice
        have R3 := Lib.hid hr3
        have H3 := Lib.hid (HO.out.below hb3)
        have B3 := Lib.hid (HB.out.trans (hb3.mono hbs))
        clear h3 hb3 hr3 HO HB hbs
        go_wp2
        go_loopg [53] F.length (fun g i wr => ∃ k : Nat, k ≤ F.length ∧ Hid (F.length - k ≤ g) ∧ i = .int .i64 k ∧ Hid (OB w.heap.size wr b F) ∧ Hid (IRow wr r3 (.slice A3 F.length c3) F) ∧ Hid (Below w.heap.size w wr))
        case atStart => exact ⟨0, Nat.zero_le _, Lib.hid (Nat.le_refl _), rfl, H3, R3, B3⟩
        case round =>
          clear H3 R3 B3
          obtain ⟨j, hj, HG, rfl, HO, HR, HB⟩ := hrel
          by_cases hjl : j < F.length
          · obtain ⟨cap, e0, _, hcell⟩ := HR.out.cell hjl
            injection e0 with e1 _ e2
            subst e1 e2
            have hf := HO.out.first (by omega) F[j]
            have hfs := BG.fst_self HFu.out (List.getElem_mem hjl)
            rw [show BG.fstV F F[j] = F[j] by simp [BG.fstV, hfs], show BG.fstB F F[j] = true by simp [BG.fstB, hfs]] at hf
            have HF := Lib.hid hf
            have HHas : Hid (∀ q, Calls Try.prog 15 #[.pointer (some ⟨b, 0, none⟩), .int .i64 F[j]] (World.drewN _ q) fun e w' => e = .returned (.bool true) ∧ ∃ q', w' = (World.drewN _ q).drewN q') := Lib.hid (fun q => by
              have := (HO.out.drewN q).has (by omega) F[j]
              rwa [show decide (F[j] ∈ F) = true by simp] at this)
            clear hf hfs
            by_cases hj0 : j = 0
            · subst hj0
              generalize F[0] = x at *
              go_wp2_with fail
              refine HF.out.mono ?_
              rintro e w4 ⟨rfl, q, rfl⟩
              go_wp2_with fail
              refine (HHas.out q).mono ?_
              rintro e w4 ⟨rfl, q2, rfl⟩
              go_wp2
              go_roundg (F.length - (0 + 1))
              case measure => have := HG.out; omega
              case rel => exact ⟨0 + 1, by omega, Lib.hid (Nat.le_refl _), by go_num, Lib.hid (HO.out.drewN _), Lib.hid (HR.out.drewN _), Lib.hid (Below.drewN HB.out _)⟩
            · obtain ⟨_, _, _, hprev⟩ := HR.out.cell (k := j - 1) (by omega)
              have hlt := List.pairwise_iff_getElem.1 HFu.out (j - 1) j (by omega) hjl (by omega)
              have d1 : (0 : Int) < (j : Int) := by omega
              have d2 : ((j : Int) - 1).toNat = j - 1 := by omega
              have hprev' : ∀ q, (World.drewN _ q).cell? ⟨r3, j - 1, none⟩ = some (.int .i64 F[j - 1]) := fun _ => hprev
              generalize F[j] = x at *
              generalize F[j - 1] = y at *
              have d3 : ¬ x ≤ y := by omega
              go_wp2_with fail
              refine HF.out.mono ?_
              rintro e w4 ⟨rfl, q, rfl⟩
              have hp := hprev' q
              go_wp2_with fail
              refine (HHas.out q).mono ?_
              rintro e w4 ⟨rfl, q2, rfl⟩
              go_wp2
              go_roundg (F.length - (j + 1))
              case measure => have := HG.out; omega
              case rel => exact ⟨j + 1, by omega, Lib.hid (Nat.le_refl _), by go_num, Lib.hid (HO.out.drewN _), Lib.hid (HR.out.drewN _), Lib.hid (Below.drewN HB.out _)⟩
          · obtain rfl : j = F.length := by omega
            clear HR HG hj hjl
            go_wp2
            go_loopg [13, 93] M (fun g nv i wr => ∃ k : Nat, k ≤ M ∧ Hid (M - k ≤ g) ∧ i = .int .i64 k ∧ nv = .int .i64 (BG.seen F (ls.take k) : Nat) ∧ Hid (OB w.heap.size wr b F) ∧ Hid (Below w.heap.size w wr))
            case atStart => exact ⟨0, Nat.zero_le _, Lib.hid (Nat.le_refl _), rfl, by rw [List.take_zero, BG.seen_nil]; rfl, HO, HB⟩
            case round =>
              clear HO HB
              obtain ⟨k, hk, HG, rfl, rfl, HO, HB⟩ := hrel
              by_cases hkl : k < M
              · obtain ⟨bo, off, hkx, rfl, hblt, hc0⟩ := (HX.out.below HB.out).at_ hkl
                have HT := Lib.hid (take_snoc_at hkx)
                have hHas := HO.out.has (by omega) ls[k]
                have hsb : BG.seen F (ls.take k) ≤ 100 := by have := BG.seen_le F (ls.take k); rw [List.length_take] at this; omega
                generalize ls[k] = x at hc0 HT hHas
                have HH := Lib.hid hHas
                clear hHas
                generalize hsn : BG.seen F (ls.take k) = sn at hsb
                have HSN := Lib.hid hsn
                clear hsn
                have hkc : k ≤ c := by omega
                go_wp2
                go_loopg [16, 102] k (fun g av i wr' => ∃ j : Nat, j ≤ k ∧ Hid (k - j ≤ g) ∧ i = .int .i64 j ∧ av = .bool (decide (x ∈ ls.take j)) ∧ wr = wr')
                case atStart => exact ⟨0, Nat.zero_le _, Lib.hid (Nat.le_refl _), rfl, by simp, rfl⟩
                case round =>
                  rename_i wq
                  obtain ⟨j, hj, HGj, rfl, rfl, hwq⟩ := hrel
                  subst hwq
                  by_cases hjk : j < k
                  · obtain ⟨bo', off', hjx, e9, _, hcj⟩ := (HX.out.below HB.out).at_ (k := j) (by omega)
                    injection e9 with e9
                    injection e9 with e9 e10
                    subst e9 e10
                    have HTj := Lib.hid (take_snoc_at hjx)
                    generalize ls[j] = y at hcj HTj
                    by_cases hin : x ∈ ls.take j
                    · have d1 : decide (x ∈ ls.take j) = true := by simp [hin]
                      have D2 : Hid (decide (x ∈ ls.take (j + 1)) = true) := Lib.hid (by rw [HTj.out]; simp [hin])
                      rw [d1]
                      clear d1 hin
                      go_wp2
                      go_roundg (k - (j + 1))
                      case measure => have := HGj.out; omega
                      case rel => exact ⟨j + 1, by omega, Lib.hid (Nat.le_refl _), by go_num, by rw [D2.out], rfl⟩
                    · have d1 : decide (x ∈ ls.take j) = false := by simp [hin]
                      have D2 : Hid (decide (x ∈ ls.take (j + 1)) = decide (y = x)) := Lib.hid (by rw [HTj.out]; simp [hin]; exact eq_comm)
                      rw [d1]
                      clear d1 hin
                      by_cases hyx : y = x
                      · subst hyx
                        have D3 : Hid (decide (y ∈ ls.take (j + 1)) = true) := Lib.hid (by rw [D2.out]; simp)
                        go_wp2
                        go_roundg (k - (j + 1))
                        case measure => have := HGj.out; omega
                        case rel => exact ⟨j + 1, by omega, Lib.hid (Nat.le_refl _), by go_num, by rw [D3.out], rfl⟩
                      · have D3 : Hid (decide (x ∈ ls.take (j + 1)) = false) := Lib.hid (by rw [D2.out]; simp [hyx])
                        have d4 : (y == x) = false := by rw [beq_eq_false_iff_ne]; exact hyx
                        clear hyx
                        go_wp2
                        go_roundg (k - (j + 1))
                        case measure => have := HGj.out; omega
                        case rel => exact ⟨j + 1, by omega, Lib.hid (Nat.le_refl _), by go_num, by rw [D3.out], rfl⟩
                  · obtain rfl : j = k := by omega
                    by_cases hin : x ∈ ls.take j
                    · have d1 : decide (x ∈ ls.take j) = true := by simp [hin]
                      have S2 : Hid (BG.seen F (ls.take (j + 1)) = sn) := Lib.hid (by rw [HT.out, BG.seen_again hin]; exact HSN.out)
                      rw [d1]
                      clear d1 hin
                      go_wp2
                      go_roundg (M - (j + 1))
                      case measure => have := HG.out; omega
                      case rel => exact ⟨j + 1, by omega, Lib.hid (Nat.le_refl _), by go_num, by rw [S2.out], HO, HB⟩
                    · have d1 : decide (x ∈ ls.take j) = false := by simp [hin]
                      have S2 : Hid (BG.seen F (ls.take (j + 1)) = sn + (if x ∈ F then 1 else 0)) := Lib.hid (by rw [HT.out, BG.seen_new hin, HSN.out])
                      rw [d1]
                      clear d1 hin
                      by_cases hxF : x ∈ F
                      · have d2 : decide (x ∈ F) = true := by simp [hxF]
                        rw [d2] at HH
                        rw [if_pos hxF] at S2
                        clear d2 hxF
                        go_wp2_with fail
                        refine HH.out.mono ?_
                        rintro e w4 ⟨rfl, q, rfl⟩
                        go_wp2
                        go_roundg (M - (j + 1))
                        case measure => have := HG.out; omega
                        case rel => exact ⟨j + 1, by omega, Lib.hid (Nat.le_refl _), by go_num, by rw [S2.out]; go_num, Lib.hid (HO.out.drewN _), Lib.hid (Below.drewN HB.out _)⟩
                      · have d2 : decide (x ∈ F) = false := by simp [hxF]
                        rw [d2] at HH
                        rw [if_neg hxF] at S2
                        clear d2 hxF
                        go_wp2_with fail
                        refine HH.out.mono ?_
                        rintro e w4 ⟨rfl, q, rfl⟩
                        go_wp2
                        go_roundg (M - (j + 1))
                        case measure => have := HG.out; omega
                        case rel => exact ⟨j + 1, by omega, Lib.hid (Nat.le_refl _), by go_num, by rw [S2.out]; rfl, Lib.hid (HO.out.drewN _), Lib.hid (Below.drewN HB.out _)⟩
              · obtain rfl : k = M := by omega
                have hT : ls.take k = ls := List.take_of_length_le (by have := HLL.out; omega)
                have hS : BG.seen F (ls.take k) = F.length := by rw [hT]; exact BG.seen_all HFu.out (fun y hy => (HFm.out y hy).1)
                rw [hS]
                clear hT hS HG hk hkl
                go_wp2
                go_loopg [125] N (fun g i wr => ∃ k : Nat, k ≤ N ∧ Hid (N - k ≤ g) ∧ i = .int .i64 k ∧ Hid (OB w.heap.size wr b F) ∧ Hid (Below w.heap.size w wr))
                case atStart => exact ⟨0, Nat.zero_le _, Lib.hid (Nat.le_refl _), rfl, HO, HB⟩
                case round =>
                  clear HO HB
                  obtain ⟨j, hj, HG, rfl, HO, HB⟩ := hrel
                  by_cases hjl : j < N
                  · obtain ⟨bo, off, hjx, rfl, hblt, hc0⟩ := (HZ.out.below HB.out).at_ hjl
                    have hHas := HO.out.has (by omega) os[j]
                    have hnot : os[j] ∉ F := fun hh => (HFm.out _ hh).2 (List.getElem_mem hjx)
                    rw [show decide (os[j] ∈ F) = false by simp [hnot]] at hHas
                    have HH := Lib.hid hHas
                    clear hHas hnot
                    generalize os[j] = x at hc0 HH
                    go_wp2_with fail
                    refine HH.out.mono ?_
                    rintro e w4 ⟨rfl, q, rfl⟩
                    go_wp2
                    go_roundg (N - (j + 1))
                    case measure => have := HG.out; omega
                    case rel => exact ⟨j + 1, by omega, Lib.hid (Nat.le_refl _), by go_num, Lib.hid (HO.out.drewN _), Lib.hid (Below.drewN HB.out _)⟩
                  · go_wp2_with fail
                    refine HO.out.len.mono ?_
                    rintro e w4 ⟨rfl, rfl⟩
                    go_wp2
                    go_ret
                    exact ⟨rfl, HB.out⟩
end Go.Proofs.Ytfmcgejoobbiiaa
