/- BagActs, walked. -/
import Derived.Test.YtfmcgejoobbiiaaBgGreat
import Derived.Deep.RegionHeld3
namespace Go.Proofs.Ytfmcgejoobbiiaa
open Go.RowKit Go.Lib Go.Sort

/-- A bag beside the document's, made since w0, apart from each other; an act's box beside them, in block t. -/
def BA (w0 w : World) (b mb t : Nat) (Lb lm : List Int) (cs : Array Value) : Prop :=
  ∃ r mr, IBag w b r Lb ∧ RBag w mb mr lm ∧ Whole w t 38 cs ∧ (w0.heap.size ≤ b ∧ w0.heap.size ≤ r) ∧ (w0.heap.size ≤ mb ∧ w0.heap.size ≤ mr) ∧ (b ≠ mb ∧ b ≠ mr ∧ r ≠ mb ∧ r ≠ mr) ∧ (t ≠ b ∧ t ≠ r ∧ t ≠ mb ∧ t ≠ mr) ∧ Below w0.heap.size w0 w
def BM (w0 w : World) (b mb : Nat) (Lb lm : List Int) : Prop :=
  ∃ r mr, IBag w b r Lb ∧ RBag w mb mr lm ∧ (w0.heap.size ≤ b ∧ w0.heap.size ≤ r) ∧ (w0.heap.size ≤ mb ∧ w0.heap.size ≤ mr) ∧ (b ≠ mb ∧ b ≠ mr ∧ r ≠ mb ∧ r ≠ mr) ∧ Below w0.heap.size w0 w
section
variable {w0 w w' : World} {b mb t : Nat} {Lb lm l : List Int} {cs : Array Value}
theorem BA.bm (h : BA w0 w b mb t Lb lm cs) : BM w0 w b mb Lb lm := by
  obtain ⟨r, mr, h1, h2, h3, h4, h5, h6, h7, h8⟩ := h
  exact ⟨r, mr, h1, h2, h4, h5, h6, h8⟩
theorem BM.ba (h : BM w0 w b mb Lb lm) (cs : Array Value) : BA w0 (w.alloc (.cells cs 38)) b mb w.heap.size Lb lm cs := by
  obtain ⟨r, mr, h1, h2, h4, h5, h6, h8⟩ := h
  have e1 := h1.blt
  have e2 := h1.lt
  have e3 := h2.blt
  have e4 := h2.lt
  exact ⟨r, mr, h1.alloc _, h2.below ((Below.refl _ _).alloc (Nat.le_refl _) _), Whole.fresh _ _ _, h4, h5, h6, by omega, h8.alloc h8.size _⟩
theorem BM.bel (h : BM w0 w b mb Lb lm) : Below w0.heap.size w0 w := by
  obtain ⟨r, mr, h1, h2, h4, h5, h6, h8⟩ := h
  exact h8
theorem BM.ob (h : BM w0 w b mb Lb lm) : OB w0.heap.size w b Lb := by
  obtain ⟨r, mr, h1, h2, h4, h5, h6, h8⟩ := h
  exact ⟨h4.1, r, h1, h4.2⟩
theorem BM.rb (h : BM w0 w b mb Lb lm) : ∃ mr, RBag w mb mr lm := by
  obtain ⟨r, mr, h1, h2, h4, h5, h6, h8⟩ := h
  exact ⟨mr, h2⟩
theorem BA.whole (h : BA w0 w b mb t Lb lm cs) : Whole w t 38 cs := by
  obtain ⟨r, mr, h1, h2, h3, h4⟩ := h
  exact h3
theorem BM.below (h : BM w0 w b mb Lb lm) (k : Below w.heap.size w w') : BM w0 w' b mb Lb lm := by
  obtain ⟨r, mr, h1, h2, h4, h5, h6, h8⟩ := h
  exact ⟨r, mr, h1.below k, h2.below k, h4, h5, h6, h8.trans (k.mono h8.size)⟩
theorem BA.below (h : BA w0 w b mb t Lb lm cs) (k : Below w.heap.size w w') : BA w0 w' b mb t Lb lm cs := by
  obtain ⟨r, mr, h1, h2, h3, h4, h5, h6, h7, h8⟩ := h
  exact ⟨r, mr, h1.below k, h2.below k, h3.below k h3.lt, h4, h5, h6, h7, h8.trans (k.mono h8.size)⟩
theorem BM.drewN (h : BM w0 w b mb Lb lm) (n : Nat) : BM w0 (w.drewN n) b mb Lb lm := h.below (Below.drewN (Below.refl _ _) n)
theorem BA.still (h : BA w0 w b mb t Lb lm cs) (e1 : w'.heap = w.heap) (e2 : w'.os = w.os) (e3 : w'.tape = w.tape) (e4 : w'.output = w.output) : BA w0 w' b mb t Lb lm cs :=
  h.below ⟨e2, e3, e4, by rw [e1]; exact Nat.le_refl _, fun k _ => by rw [e1]⟩
theorem BM.still (h : BM w0 w b mb Lb lm) (e1 : w'.heap = w.heap) (e2 : w'.os = w.os) (e3 : w'.tape = w.tape) (e4 : w'.output = w.output) : BM w0 w' b mb Lb lm :=
  h.below ⟨e2, e3, e4, by rw [e1]; exact Nat.le_refl _, fun k _ => by rw [e1]⟩
theorem BA.wb (h : BA w0 w b mb t Lb lm cs) {f : FuncId} {args : Array Value} {u : Value} (hc : ∀ r, IBag w b r Lb → Calls Try.prog f args w (WPost 59 3 (Value.int .i64) b r u l w)) :
    Calls Try.prog f args w fun e w' => e = .returned u ∧ BA w0 w' b mb t l lm cs := by
  obtain ⟨r, mr, h1, h2, h3, h4, h5, h6, h7, h8⟩ := h
  refine (hc r h1).mono ?_
  rintro e w' ⟨rfl, r', k1, k2, k3⟩
  have e3 := h2.blt
  have e4 := h2.lt
  have e5 := h3.lt
  exact ⟨rfl, r', mr, k1, h2.aft k3 (by simp; omega) (by simp; omega), k3.whole h3 (by simp; omega), ⟨h4.1, by have := h8.size; omega⟩, h5, by omega, by omega, h8.trans (k3.below (by simp; exact h4) h8.size)⟩
theorem BA.wm (h : BA w0 w b mb t Lb lm cs) {f : FuncId} {args : Array Value} {u : Value} (hc : ∀ mr, RBag w mb mr lm → Calls Try.prog f args w (RPost mb mr u l w)) :
    Calls Try.prog f args w fun e w' => e = .returned u ∧ BA w0 w' b mb t Lb l cs := by
  obtain ⟨r, mr, h1, h2, h3, h4, h5, h6, h7, h8⟩ := h
  refine (hc mr h2).mono ?_
  rintro e w' ⟨rfl, r', k1, k2, k3⟩
  have e3 := h1.blt
  have e4 := h1.lt
  have e5 := h3.lt
  exact ⟨rfl, r, r', h1.aft k3 (by simp; omega) (by simp; omega), k1, k3.whole h3 (by simp; omega), h4, ⟨h5.1, by have := h8.size; omega⟩, by omega, by omega, h8.trans (k3.below (by simp; exact h5) h8.size)⟩
theorem BM.wm (h : BM w0 w b mb Lb lm) {f : FuncId} {args : Array Value} {u : Value} (hc : ∀ mr, RBag w mb mr lm → Calls Try.prog f args w (RPost mb mr u l w)) :
    Calls Try.prog f args w fun e w' => e = .returned u ∧ BM w0 w' b mb Lb l := by
  obtain ⟨r, mr, h1, h2, h4, h5, h6, h8⟩ := h
  refine (hc mr h2).mono ?_
  rintro e w' ⟨rfl, r', k1, k2, k3⟩
  have e3 := h1.blt
  have e4 := h1.lt
  exact ⟨rfl, r, r', h1.aft k3 (by simp; omega) (by simp; omega), k1, h4, ⟨h5.1, by have := h8.size; omega⟩, by omega, h8.trans (k3.below (by simp; exact h5) h8.size)⟩
theorem BM.wb (h : BM w0 w b mb Lb lm) {f : FuncId} {args : Array Value} {u : Value} (hc : ∀ r, IBag w b r Lb → Calls Try.prog f args w (WPost 59 3 (Value.int .i64) b r u l w)) :
    Calls Try.prog f args w fun e w' => e = .returned u ∧ BM w0 w' b mb l lm := by
  obtain ⟨r, mr, h1, h2, h4, h5, h6, h8⟩ := h
  refine (hc r h1).mono ?_
  rintro e w' ⟨rfl, r', k1, k2, k3⟩
  have e3 := h2.blt
  have e4 := h2.lt
  exact ⟨rfl, r', mr, k1, h2.aft k3 (by simp; omega) (by simp; omega), ⟨h4.1, by have := h8.size; omega⟩, h5, by omega, h8.trans (k3.below (by simp; exact h4) h8.size)⟩
theorem BM.rput (h : BM w0 w b mb Lb lm) (hl : lm.length ≤ 999999) (x : Int) : Calls Try.prog 20 #[.pointer (some ⟨mb, 0, none⟩), .int .i64 x] w fun e w' => e = .returned (.bool (decide (x ∉ lm))) ∧ BM w0 w' b mb Lb (BG.rput x lm) := h.wm fun _ h1 => rput_any h1 (by omega) x
theorem BA.put (h : BA w0 w b mb t Lb lm cs) (hl : Lb.length ≤ 999999) (x : Int) : Calls Try.prog 13 #[.pointer (some ⟨b, 0, none⟩), .int .i64 x] w fun e w' => e = .returned (.bool (decide (x ∉ Lb))) ∧ BA w0 w' b mb t (BG.put x Lb) lm cs := h.wb fun _ h1 => put_any h1 hl x
theorem BA.del (h : BA w0 w b mb t Lb lm cs) (hl : Lb.length ≤ 999999) (x : Int) : Calls Try.prog 14 #[.pointer (some ⟨b, 0, none⟩), .int .i64 x] w fun e w' => e = .returned (.bool (decide (x ∈ Lb))) ∧ BA w0 w' b mb t (BG.del x Lb) lm cs := h.wb fun _ h1 => del_any h1 (by omega) x
theorem BA.rput (h : BA w0 w b mb t Lb lm cs) (hl : lm.length ≤ 999999) (x : Int) : Calls Try.prog 20 #[.pointer (some ⟨mb, 0, none⟩), .int .i64 x] w fun e w' => e = .returned (.bool (decide (x ∉ lm))) ∧ BA w0 w' b mb t Lb (BG.rput x lm) cs := h.wm fun _ h1 => rput_any h1 (by omega) x
theorem BA.rdel (h : BA w0 w b mb t Lb lm cs) (hl : lm.length ≤ 999999) (x : Int) : Calls Try.prog 21 #[.pointer (some ⟨mb, 0, none⟩), .int .i64 x] w fun e w' => e = .returned (.bool (decide (x ∈ lm))) ∧ BA w0 w' b mb t Lb (BG.del x lm) cs := h.wm fun _ h1 => rdel_any h1 (by omega) x
end

namespace BG
/-- All of a list put, one by one. -/
def rputs (xs l : List Int) : List Int := xs.foldl (fun m x => rput x m) l
def dels (xs l : List Int) : List Int := xs.foldl (fun m x => del x m) l
theorem rputs_snoc (xs l : List Int) (x : Int) : rputs (xs ++ [x]) l = rput x (rputs xs l) := by simp [rputs]
theorem dels_snoc (xs l : List Int) (x : Int) : dels (xs ++ [x]) l = del x (dels xs l) := by simp [dels]
theorem mem_rputs {y : Int} : ∀ {xs l : List Int}, y ∈ rputs xs l ↔ y ∈ l ∨ y ∈ xs
  | [], l => by simp [rputs]
  | x :: xs, l => by
    show y ∈ rputs xs (rput x l) ↔ _
    rw [mem_rputs, mem_rput, List.mem_cons, or_assoc]
theorem mem_dels {y : Int} : ∀ {xs l : List Int}, y ∈ dels xs l ↔ y ∈ l ∧ y ∉ xs
  | [], l => by simp [dels]
  | x :: xs, l => by
    show y ∈ dels xs (del x l) ↔ _
    rw [mem_dels, mem_del, List.mem_cons, not_or, and_assoc]
theorem rputs_nodup : ∀ {xs l : List Int}, l.Nodup → (rputs xs l).Nodup
  | [], _, h => h
  | x :: xs, _, h => rputs_nodup (xs := xs) (rput_nodup (x := x) h)
theorem dels_nodup : ∀ {xs l : List Int}, l.Nodup → (dels xs l).Nodup
  | [], _, h => h
  | _ :: xs, _, h => dels_nodup (xs := xs) (h.filter _)
theorem rputs_len : ∀ (xs l : List Int), (rputs xs l).length ≤ l.length + xs.length
  | [], l => by simp [rputs]
  | x :: xs, l => by
    have h1 := rputs_len xs (rput x l)
    have h2 := rput_len x l
    show (rputs xs (rput x l)).length ≤ _
    rw [List.length_cons]
    omega
theorem dels_len : ∀ (xs l : List Int), (dels xs l).length ≤ l.length
  | [], l => by simp [dels]
  | x :: xs, l => by
    have h1 := dels_len xs (del x l)
    have h2 := del_len x l
    show (dels xs (del x l)).length ≤ _
    omega
theorem norm_rputs (xs l : List Int) : norm (rputs xs l) = join (norm l) (norm xs) := ext _ _ (norm_rises _) (join_rises _ _) fun y => by rw [mem_norm, mem_rputs, mem_join, mem_norm, mem_norm]
theorem norm_dels (xs l : List Int) : norm (dels xs l) = less (norm l) (norm xs) := ext _ _ (norm_rises _) (less_rises (norm_rises l)) fun y => by rw [mem_norm, mem_dels, mem_less, mem_norm, mem_norm]
theorem rputs_self (xs : List Int) : norm (rputs xs []) = norm xs := norm_eq fun y => by rw [mem_rputs]; simp
end BG

/-- What a round of BagActs begins and ends with. -/
def ActsAt (w0 : World) (b mb k : Nat) (wr : World) : Prop := ∃ lm : List Int, BM w0 wr b mb (BG.norm lm) lm ∧ lm.Nodup ∧ lm.length ≤ 50 + 50 * k

set_option maxRecDepth 100000 in
set_option maxHeartbeats 8000000 in
theorem acts_any (A : Option Addr) (n c : Nat) (xs : List Int) (D : Option Addr) (m d : Nat) (ls : List Ac) (x0 : Int) (w : World) (hx : NS .i64 w w.heap.size A n xs) (_hnc : n ≤ c) (hs : AS w D m ls) (_hx0 : -9223372036854775808 ≤ x0 ∧ x0 ≤ 9223372036854775807) :
    Calls Try.prog 3 #[.slice A n c, .slice D m d, .int .i64 x0] w fun e w' => e = .returned (.bool true) ∧ Below w.heap.size w w' := by
  have HX := Lib.hid hx.reads
  have HS := Lib.hid hs
  have HLL : Hid (ls.length = m) := Lib.hid hs.1
  clear hx hs
  go_enter Try.func3, Try.ntmps3
  go_wp2_with fail
  refine (join_nil _ _).mono ?_
  rintro e w1 ⟨rfl, rfl⟩
  go_wp2_with fail
  refine (less_nil _ _).mono ?_
  rintro e w1 ⟨rfl, rfl⟩
  go_wp2_with fail
  refine (first_nil _ _).mono ?_
  rintro e w1 ⟨rfl, q, rfl⟩
  have B1 := Lib.hid (Below.drewN (Below.refl w.heap.size w) q)
  generalize w.drewN q = w1 at *
  go_wp2_with fail
  refine (alive_any w1).mono ?_
  rintro e w2 ⟨rfl, hB2⟩
  have B2 := Lib.hid (B1.out.trans (hB2.mono B1.out.size))
  clear hB2 B1
  go_wp2_with fail
  refine (put_nil _ _).mono ?_
  rintro e w1 ⟨rfl, rfl⟩
  go_wp2_with fail
  refine (del_nil _ _).mono ?_
  rintro e w1 ⟨rfl, rfl⟩
  go_wp2_with fail
  refine (has_nil _ _).mono ?_
  rintro e w1 ⟨rfl, q2, rfl⟩
  have B3 := Lib.hid (Below.drewN B2.out q2)
  clear B2
  generalize w2.drewN q2 = w3 at *
  go_wp2_with fail
  refine (len_nil _).mono ?_
  rintro e w1 ⟨rfl, rfl⟩
  go_wp2_with fail
  refine (all_nil _).mono ?_
  rintro e w4 ⟨v4, rfl, h4, hb4⟩
  obtain ⟨A4, c4, rfl⟩ := own_slice h4
  have B4 := Lib.hid (B3.out.trans (hb4.mono B3.out.size))
  clear h4 hb4 B3
  go_wp2_with fail
  refine (great_any D m d ls w4 (HS.out.below B4.out)).mono ?_
  rintro e w5 ⟨gd, rfl, hgd, hb5⟩
  have B5 := Lib.hid (B4.out.trans (hb5.mono B4.out.size))
  clear hb5 B4
  cases gd with
  | true =>
    clear hgd
    go_wp2
    go_ret
    exact ⟨rfl, B5.out⟩
  | false =>
    obtain ⟨hm50, hl50⟩ := hgd rfl
    have HL50 := Lib.hid hl50
    clear hgd hl50
    by_cases hn50 : n ≤ 50
    · have d0 : ¬ (50 : Int) < (n : Int) := by omega
      have hXl : xs.length = n := HX.out.1
      have HXL := Lib.hid hXl
      clear hXl
      go_wp2_with fail
      refine (new_any A n c xs w5 (HX.out.below B5.out) (by omega)).mono ?_
      rintro e w6 ⟨b, r, rfl, h6, g1, g2, hB6⟩
      have hs5 := B5.out.size
      have M0 : Hid (BM w (w6.alloc (.cells #[.slice none 0 0] 36)) b w6.heap.size (BG.norm xs) []) := Lib.hid (by
        have e1 := h6.blt
        have e2 := h6.lt
        have e3 := hB6.size
        exact ⟨r, w6.heap.size, h6.alloc _, ⟨⟨_, Whole.fresh _ _ _, Row.nil _ _ _ _⟩, by simp⟩, ⟨by omega, by omega⟩, ⟨by omega, by omega⟩, by omega, (B5.out.trans (hB6.mono hs5)).alloc (by omega) _⟩)
      obtain ⟨mb, hmb⟩ : ∃ mb, mb = w6.heap.size := ⟨_, rfl⟩
      rw [← hmb] at M0
      have HMB := Lib.hid hmb
      clear h6 g1 g2 hB6 B5 hs5 hmb
      go_wp2
      rw [← HMB.out]
      go_loopg [80] n (fun g i wr => ∃ k : Nat, k ≤ n ∧ Hid (n - k ≤ g) ∧ i = .int .i64 k ∧ Hid (BM w wr b mb (BG.norm xs) (BG.rputs (xs.take k) [])))
      case atStart => exact ⟨0, Nat.zero_le _, Lib.hid (Nat.le_refl _), rfl, Lib.hid (by rw [List.take_zero]; exact M0.out)⟩
      case round =>
        clear M0
        obtain ⟨k, hk, HG, rfl, HM⟩ := hrel
        by_cases hkl : k < n
        · obtain ⟨bo, off, hkx, rfl, hblt, hc0⟩ := (HX.out.below HM.out.bel).at_ hkl
          have HT := Lib.hid (take_snoc_at hkx)
          have hll : (BG.rputs (xs.take k) []).length ≤ 999999 := by have := BG.rputs_len (xs.take k) []; simp at this; omega
          generalize xs[k] = x at hc0 HT
          have HP := Lib.hid (HM.out.rput hll x)
          generalize decide (x ∉ BG.rputs (xs.take k) []) = dd at HP
          go_wp2_with fail
          refine HP.out.mono ?_
          rintro e w7 ⟨rfl, h7⟩
          rw [← BG.rputs_snoc, ← HT.out] at h7
          have H7 := Lib.hid h7
          clear h7
          go_wp2
          go_roundg (n - (k + 1))
          case measure => have := HG.out; omega
          case rel => exact ⟨k + 1, by omega, Lib.hid (Nat.le_refl _), by go_num, H7⟩
        · have M1 : Hid (ActsAt w b mb 0 wr) := Lib.hid (by
            have hM := HM.out
            rw [List.take_of_length_le (by have := HXL.out; omega)] at hM
            refine ⟨BG.rputs xs [], ?_, BG.rputs_nodup List.nodup_nil, ?_⟩
            · rw [BG.rputs_self]; exact hM
            · have h1 := BG.rputs_len xs []; rw [List.length_nil] at h1; have := HXL.out; omega)
          have hkn : n = k := by omega
          subst hkn
          clear HM HG hk hkl d0
          go_wp2
          go_loopg [90] m (fun g i wr => ∃ k : Nat, k ≤ m ∧ Hid (m - k ≤ g) ∧ i = .int .i64 k ∧ Hid (ActsAt w b mb k wr))
          case atStart => exact ⟨0, Nat.zero_le _, Lib.hid (Nat.le_refl _), rfl, M1⟩
          case round =>
            clear M1
            obtain ⟨k, hk, HG, rfl, HAt⟩ := hrel
            obtain ⟨lm, hBM, hnd, hlm⟩ := HAt.out
            have HBM := Lib.hid hBM
            have HND := Lib.hid hnd
            have hNl : (BG.norm lm).length ≤ 2600 := by have := BG.norm_len lm; omega
            have hMl : lm.length ≤ 2600 := by omega
            have HLM := Lib.hid hlm
            clear hBM hnd hlm HAt
            by_cases hkl : k < m
            · have HRD1 := Lib.hid (HS.out.2.2)
              obtain ⟨bo, off, hkx, rfl, hblt, p0, p1, p2, hrd⟩ := (HS.out.below HBM.out.bel).at_ hkl
              have hrd0 := HRD1.out _ (List.getElem_mem hkx)
              clear HRD1
              have ha50 := HL50.out _ (List.getElem_mem hkx)
              generalize ls[k] = a at p0 p1 p2 hrd ha50 hrd0
              obtain ⟨K, X, aA, an, ac, axs⟩ := a
              dsimp only at p0 p1 p2 hrd ha50 hrd0
              have HRD0 := Lib.hid hrd0
              clear hrd0
              have hal : axs.length = an := hrd.1
              have HAL := Lib.hid hal
              have HRD := Lib.hid (hrd.below ((Below.refl _ _).alloc (Nat.le_refl _) (.cells #[.int .i64 K, .int .i64 X, .slice aA an ac] 38)))
              clear hal hrd
              have SA := Lib.hid (HBM.out.ba #[.int .i64 K, .int .i64 X, .slice aA an ac])
              clear HBM
              by_cases hK0 : K = 0
              · subst hK0
                have E1 : Hid (decide (X ∉ BG.norm lm) = decide (X ∉ lm)) := Lib.hid (by simp only [BG.mem_norm])
                have P1 : Hid (∀ W : World, W.heap = (wr.alloc (.cells #[.int .i64 0, .int .i64 X, .slice aA an ac] 38)).heap → W.os = wr.os → W.tape = wr.tape → W.output = wr.output →
                    Calls Try.prog 13 #[.pointer (some ⟨b, 0, none⟩), .int .i64 X] W fun e w7 => e = .returned (.bool (decide (X ∉ lm))) ∧ w7.cell? ⟨wr.heap.size, 1, none⟩ = some (.int .i64 X) ∧ Hid (BA w w7 b mb wr.heap.size (BG.put X (BG.norm lm)) lm #[.int .i64 0, .int .i64 X, .slice aA an ac])) := Lib.hid (fun W g1 g2 g3 g4 => ((SA.out.still g1 g2 g3 g4).put (by omega) X).mono (by
                  rintro e w7 ⟨rfl, h7⟩
                  exact ⟨by rw [E1.out], (h7.whole.cell 1).trans rfl, Lib.hid h7⟩))
                have P2 : Hid (∀ W3 W : World, Hid (BA w W3 b mb wr.heap.size (BG.put X (BG.norm lm)) lm #[.int .i64 0, .int .i64 X, .slice aA an ac]) → W.heap = W3.heap → W.os = W3.os → W.tape = W3.tape → W.output = W3.output →
                    Calls Try.prog 20 #[.pointer (some ⟨mb, 0, none⟩), .int .i64 X] W fun e w7 => e = .returned (.bool (decide (X ∉ lm))) ∧ w7.cell? ⟨wr.heap.size, 1, none⟩ = some (.int .i64 X) ∧ Hid (BA w w7 b mb wr.heap.size (BG.put X (BG.norm lm)) (BG.rput X lm) #[.int .i64 0, .int .i64 X, .slice aA an ac])) := Lib.hid (fun W3 W h3 g1 g2 g3 g4 => ((h3.out.still g1 g2 g3 g4).rput (by omega) X).mono (by
                  rintro e w7 ⟨rfl, h7⟩
                  exact ⟨rfl, (h7.whole.cell 1).trans rfl, Lib.hid h7⟩))
                have s1 : (wr.alloc (.cells #[.int .i64 0, .int .i64 X, .slice aA an ac] 38)).cell? ⟨wr.heap.size, 1, none⟩ = some (.int .i64 X) := (SA.out.whole.cell 1).trans rfl
                generalize decide (X ∉ lm) = dd at P1 P2
                clear E1
                go_wp2_with fail
                go_region_held3 (fun w' => w'.cell? ⟨wr.heap.size, 1, none⟩ = some (.int .i64 X)) (first | exact s1 | exact k2 | exact k3 | (simp [go_sem, *]))
                  (first
                    | (go_at_call 13; refine (P1.out _ (by exact rfl) (by exact rfl) (by exact rfl) (by exact rfl)).mono ?_; rintro e w7 ⟨rfl, k2, S7⟩)
                    | (go_at_call 20; refine (P2.out w7 _ S7 (by exact rfl) (by exact rfl) (by exact rfl) (by exact rfl)).mono ?_; rintro e w8 ⟨rfl, k3, S8⟩)
                    | fail)
                all_goals
                  have A9 : Hid (ActsAt w b mb (k + 1) w8) := Lib.hid ⟨BG.rput X lm, by (have h := S8.out.bm); rw [BG.norm_rput]; exact h, BG.rput_nodup HND.out, by have := BG.rput_len X lm; have := HLM.out; omega⟩
                  cases dd
                  · go_wp2
                    go_roundg (m - (k + 1))
                    case measure => have := HG.out; omega
                    case rel => exact ⟨k + 1, by omega, Lib.hid (Nat.le_refl _), by go_num, A9⟩
                  · go_wp2
                    go_roundg (m - (k + 1))
                    case measure => have := HG.out; omega
                    case rel => exact ⟨k + 1, by omega, Lib.hid (Nat.le_refl _), by go_num, A9⟩
              · by_cases hK1 : K = 1
                · subst hK1
                  have E1 : Hid (decide (X ∈ BG.norm lm) = decide (X ∈ lm)) := Lib.hid (by simp only [BG.mem_norm])
                  have P1 : Hid (∀ W : World, W.heap = (wr.alloc (.cells #[.int .i64 1, .int .i64 X, .slice aA an ac] 38)).heap → W.os = wr.os → W.tape = wr.tape → W.output = wr.output →
                      Calls Try.prog 14 #[.pointer (some ⟨b, 0, none⟩), .int .i64 X] W fun e w7 => e = .returned (.bool (decide (X ∈ lm))) ∧ w7.cell? ⟨wr.heap.size, 1, none⟩ = some (.int .i64 X) ∧ Hid (BA w w7 b mb wr.heap.size (BG.del X (BG.norm lm)) lm #[.int .i64 1, .int .i64 X, .slice aA an ac])) := Lib.hid (fun W g1 g2 g3 g4 => ((SA.out.still g1 g2 g3 g4).del (by omega) X).mono (by
                    rintro e w7 ⟨rfl, h7⟩
                    exact ⟨by rw [E1.out], (h7.whole.cell 1).trans rfl, Lib.hid h7⟩))
                  have P2 : Hid (∀ W3 W : World, Hid (BA w W3 b mb wr.heap.size (BG.del X (BG.norm lm)) lm #[.int .i64 1, .int .i64 X, .slice aA an ac]) → W.heap = W3.heap → W.os = W3.os → W.tape = W3.tape → W.output = W3.output →
                      Calls Try.prog 21 #[.pointer (some ⟨mb, 0, none⟩), .int .i64 X] W fun e w7 => e = .returned (.bool (decide (X ∈ lm))) ∧ w7.cell? ⟨wr.heap.size, 1, none⟩ = some (.int .i64 X) ∧ Hid (BA w w7 b mb wr.heap.size (BG.del X (BG.norm lm)) (BG.del X lm) #[.int .i64 1, .int .i64 X, .slice aA an ac])) := Lib.hid (fun W3 W h3 g1 g2 g3 g4 => ((h3.out.still g1 g2 g3 g4).rdel (by omega) X).mono (by
                    rintro e w7 ⟨rfl, h7⟩
                    exact ⟨rfl, (h7.whole.cell 1).trans rfl, Lib.hid h7⟩))
                  have s1 : (wr.alloc (.cells #[.int .i64 1, .int .i64 X, .slice aA an ac] 38)).cell? ⟨wr.heap.size, 1, none⟩ = some (.int .i64 X) := (SA.out.whole.cell 1).trans rfl
                  generalize decide (X ∈ lm) = dd at P1 P2
                  clear E1
                  go_wp2_with fail
                  go_region_held3 (fun w' => w'.cell? ⟨wr.heap.size, 1, none⟩ = some (.int .i64 X)) (first | exact s1 | exact k2 | exact k3 | (simp [go_sem, *]))
                    (first
                      | (go_at_call 14; refine (P1.out _ (by exact rfl) (by exact rfl) (by exact rfl) (by exact rfl)).mono ?_; rintro e w7 ⟨rfl, k2, S7⟩)
                      | (go_at_call 21; refine (P2.out w7 _ S7 (by exact rfl) (by exact rfl) (by exact rfl) (by exact rfl)).mono ?_; rintro e w8 ⟨rfl, k3, S8⟩)
                      | fail)
                  all_goals
                    have A9 : Hid (ActsAt w b mb (k + 1) w8) := Lib.hid ⟨BG.del X lm, by (have h := S8.out.bm); rw [BG.norm_del]; exact h, HND.out.filter _, by have := BG.del_len X lm; have := HLM.out; omega⟩
                    cases dd
                    · go_wp2
                      go_roundg (m - (k + 1))
                      case measure => have := HG.out; omega
                      case rel => exact ⟨k + 1, by omega, Lib.hid (Nat.le_refl _), by go_num, A9⟩
                    · go_wp2
                      go_roundg (m - (k + 1))
                      case measure => have := HG.out; omega
                      case rel => exact ⟨k + 1, by omega, Lib.hid (Nat.le_refl _), by go_num, A9⟩
                · by_cases hK2 : K = 2
                  · subst hK2
                    have s2 : (wr.alloc (.cells #[.int .i64 2, .int .i64 X, .slice aA an ac] 38)).cell? ⟨wr.heap.size, 2, none⟩ = some (.slice aA an ac) := (SA.out.whole.cell 2).trans rfl
                    have HNW := Lib.hid (new_any aA an ac axs _ HRD.out (by omega))
                    go_wp2_with fail
                    refine HNW.out.mono ?_
                    rintro e w7 ⟨tb, tr, rfl, h7, _, _, hB7⟩
                    have S7 := Lib.hid (SA.out.below hB7)
                    have T7 := Lib.hid h7
                    have hal2 : (BG.norm axs).length ≤ 50 := by have := BG.norm_len axs; have := HAL.out; omega
                    have HJ := Lib.hid (S7.out.wb (fun r h1 => join_any h1 T7.out (by omega) (by omega)))
                    rw [← BG.norm_rputs] at HJ
                    clear h7 hB7 HNW
                    go_wp2_with fail
                    refine HJ.out.mono ?_
                    rintro e w8 ⟨rfl, h8⟩
                    have S8 := Lib.hid h8
                    have s8 : w8.cell? ⟨wr.heap.size, 2, none⟩ = some (.slice aA an ac) := (h8.whole.cell 2).trans rfl
                    clear h8 HJ S7 T7 s2 hal2
                    go_wp2
                    go_loopg [128] an (fun g i wr' => ∃ j : Nat, j ≤ an ∧ Hid (an - j ≤ g) ∧ i = .int .i64 j ∧ Hid (BA w wr' b mb wr.heap.size (BG.norm (BG.rputs axs lm)) (BG.rputs (axs.take j) lm) #[.int .i64 2, .int .i64 X, .slice aA an ac]))
                    case atStart => exact ⟨0, Nat.zero_le _, Lib.hid (Nat.le_refl _), rfl, Lib.hid (by rw [List.take_zero]; exact S8.out)⟩
                    case round =>
                      clear S8 s8
                      obtain ⟨j, hj, HGj, rfl, HQ⟩ := hrel
                      by_cases hjl : j < an
                      · obtain ⟨bo2, off2, hjx, rfl, _, hcj⟩ := (HRD0.out.below HQ.out.bm.bel).at_ hjl
                        have HTj := Lib.hid (take_snoc_at hjx)
                        have hql : (BG.rputs (axs.take j) lm).length ≤ 999999 := by have := BG.rputs_len (axs.take j) lm; have h2 := List.length_take (i := j) (l := axs); omega
                        generalize axs[j] = y at hcj HTj
                        have HP := Lib.hid (HQ.out.rput hql y)
                        rw [← BG.rputs_snoc, ← HTj.out] at HP
                        generalize decide (y ∉ BG.rputs (axs.take j) lm) = dd at HP
                        go_wp2_with fail
                        refine HP.out.mono ?_
                        rintro e w9 ⟨rfl, h9⟩
                        have H9 := Lib.hid h9
                        clear h9 HP
                        go_wp2
                        go_roundg (an - (j + 1))
                        case measure => have := HGj.out; omega
                        case rel => exact ⟨j + 1, by omega, Lib.hid (Nat.le_refl _), by go_num, H9⟩
                      · have hja : an = j := by omega
                        subst hja
                        have A9 : Hid (ActsAt w b mb (k + 1) wr) := Lib.hid (by
                          have h := HQ.out.bm
                          rw [List.take_of_length_le (by have := HAL.out; omega)] at h
                          exact ⟨BG.rputs axs lm, h, BG.rputs_nodup HND.out, by have := BG.rputs_len axs lm; have := HAL.out; have := HLM.out; omega⟩)
                        go_wp2
                        go_roundg (m - (k + 1))
                        case measure => have := HG.out; omega
                        case rel => exact ⟨k + 1, by omega, Lib.hid (Nat.le_refl _), by go_num, A9⟩
                  · by_cases hK3 : K = 3
                    · subst hK3
                      have s2 : (wr.alloc (.cells #[.int .i64 3, .int .i64 X, .slice aA an ac] 38)).cell? ⟨wr.heap.size, 2, none⟩ = some (.slice aA an ac) := (SA.out.whole.cell 2).trans rfl
                      have HNW := Lib.hid (new_any aA an ac axs _ HRD.out (by omega))
                      go_wp2_with fail
                      refine HNW.out.mono ?_
                      rintro e w7 ⟨tb, tr, rfl, h7, _, _, hB7⟩
                      have S7 := Lib.hid (SA.out.below hB7)
                      have T7 := Lib.hid h7
                      have hal2 : (BG.norm axs).length ≤ 50 := by have := BG.norm_len axs; have := HAL.out; omega
                      have HJ := Lib.hid (S7.out.wb (fun r h1 => less_any h1 T7.out (by omega) (by omega)))
                      rw [← BG.norm_dels] at HJ
                      clear h7 hB7 HNW
                      go_wp2_with fail
                      refine HJ.out.mono ?_
                      rintro e w8 ⟨rfl, h8⟩
                      have S8 := Lib.hid h8
                      have s8 : w8.cell? ⟨wr.heap.size, 2, none⟩ = some (.slice aA an ac) := (h8.whole.cell 2).trans rfl
                      clear h8 HJ S7 T7 s2 hal2
                      go_wp2
                      go_loopg [146] an (fun g i wr' => ∃ j : Nat, j ≤ an ∧ Hid (an - j ≤ g) ∧ i = .int .i64 j ∧ Hid (BA w wr' b mb wr.heap.size (BG.norm (BG.dels axs lm)) (BG.dels (axs.take j) lm) #[.int .i64 3, .int .i64 X, .slice aA an ac]))
                      case atStart => exact ⟨0, Nat.zero_le _, Lib.hid (Nat.le_refl _), rfl, Lib.hid (by rw [List.take_zero]; exact S8.out)⟩
                      case round =>
                        clear S8 s8
                        obtain ⟨j, hj, HGj, rfl, HQ⟩ := hrel
                        by_cases hjl : j < an
                        · obtain ⟨bo2, off2, hjx, rfl, _, hcj⟩ := (HRD0.out.below HQ.out.bm.bel).at_ hjl
                          have HTj := Lib.hid (take_snoc_at hjx)
                          have hql : (BG.dels (axs.take j) lm).length ≤ 999999 := by have := BG.dels_len (axs.take j) lm; have h2 := List.length_take (i := j) (l := axs); omega
                          generalize axs[j] = y at hcj HTj
                          have HP := Lib.hid (HQ.out.rdel hql y)
                          rw [← BG.dels_snoc, ← HTj.out] at HP
                          generalize decide (y ∈ BG.dels (axs.take j) lm) = dd at HP
                          go_wp2_with fail
                          refine HP.out.mono ?_
                          rintro e w9 ⟨rfl, h9⟩
                          have H9 := Lib.hid h9
                          clear h9 HP
                          go_wp2
                          go_roundg (an - (j + 1))
                          case measure => have := HGj.out; omega
                          case rel => exact ⟨j + 1, by omega, Lib.hid (Nat.le_refl _), by go_num, H9⟩
                        · have hja : an = j := by omega
                          subst hja
                          have A9 : Hid (ActsAt w b mb (k + 1) wr) := Lib.hid (by
                            have h := HQ.out.bm
                            rw [List.take_of_length_le (by have := HAL.out; omega)] at h
                            exact ⟨BG.dels axs lm, h, BG.dels_nodup HND.out, by have := BG.dels_len axs lm; have := HAL.out; have := HLM.out; omega⟩)
                          go_wp2
                          go_roundg (m - (k + 1))
                          case measure => have := HG.out; omega
                          case rel => exact ⟨k + 1, by omega, Lib.hid (Nat.le_refl _), by go_num, A9⟩
                    · have e0 : (K == 0) = false := by simpa using hK0
                      have e1 : (K == 1) = false := by simpa using hK1
                      have e2 : (K == 2) = false := by simpa using hK2
                      have e3 : (K == 3) = false := by simpa using hK3
                      clear hK0 hK1 hK2 hK3
                      go_wp2
                      go_roundg (m - (k + 1))
                      case measure => have := HG.out; omega
                      case rel => exact ⟨k + 1, by omega, Lib.hid (Nat.le_refl _), by go_num, Lib.hid ⟨lm, SA.out.bm, HND.out, by have := HLM.out; omega⟩⟩
            · have hkm : m = k := by omega
              subst hkm
              have HLen : Hid ((BG.norm lm).length = lm.length) := Lib.hid (BG.norm_length HND.out)
              have HMem : Hid (∀ y, y ∈ BG.norm lm ↔ y ∈ lm) := Lib.hid (fun y => BG.mem_norm)
              clear HG hk hkl HND HLM HL50
              have hf := HBM.out.ob.first (by omega) x0
              have hrf : Hid (∀ q, Calls Try.prog 22 #[.pointer (some ⟨mb, 0, none⟩), .int .i64 x0] (World.drewN _ q) fun e w' => e = .returned (.tuple #[.int .i64 (BG.fstV (BG.norm lm) x0), .bool (BG.fstB (BG.norm lm) x0)]) ∧ World.drewN _ q = w') := Lib.hid (fun q => by
                obtain ⟨mr, hmr⟩ := (HBM.out.drewN q).rb
                exact rfirst_any hmr (by omega) x0)
              have HF := Lib.hid hf
              clear hf
              generalize BG.fstV (BG.norm lm) x0 = fv at HF hrf
              generalize BG.fstB (BG.norm lm) x0 = fb at HF hrf
              generalize hLd : BG.norm lm = L at HF hrf HBM HLen HMem hNl
              have HNm : Hid (BG.norm lm = L) := Lib.hid hLd
              clear hLd
              go_wp2_with fail
              refine HF.out.mono ?_
              rintro e w7 ⟨rfl, q, rfl⟩
              have M7 := Lib.hid (HBM.out.drewN q)
              have HRF := Lib.hid (hrf.out q)
              clear HF hrf HBM
              generalize World.drewN _ q = w7 at *
              go_wp2_with fail
              refine HRF.out.mono ?_
              rintro e w8 ⟨rfl, rfl⟩
              clear HRF
              go_wp2_with fail
              refine (M7.out.wb (fun r h1 => join_none h1 (by omega))).mono ?_
              rintro e w8 ⟨rfl, h8⟩
              have M8 := Lib.hid h8
              clear h8 M7
              go_wp2_with fail
              refine (M8.out.wb (fun r h1 => less_none h1 (by omega))).mono ?_
              rintro e w9 ⟨rfl, h9⟩
              obtain ⟨Am, cm, hwm⟩ : ∃ Am cm, Whole w9 mb 36 #[.slice Am lm.length cm] := by
                obtain ⟨mr, hmr⟩ := h9.rb
                obtain ⟨v, k1, k2⟩ := hmr.box
                obtain ⟨Am, cm, rfl, _⟩ := k2.slice
                exact ⟨Am, cm, k1⟩
              have M9 : Hid (BM w w9 b mb L lm ∧ Whole w9 mb 36 #[.slice Am lm.length cm]) := Lib.hid ⟨h9, hwm⟩
              have s9 : w9.cell? ⟨mb, 0, none⟩ = some (.slice Am lm.length cm) := (hwm.cell 0).trans rfl
              clear h9 hwm M8
              have hlow : ∀ {W W' : World}, Below W.heap.size W W' → BM w W b mb L lm ∧ Whole W mb 36 #[.slice Am lm.length cm] → BM w W' b mb L lm ∧ Whole W' mb 36 #[.slice Am lm.length cm] := fun k h => ⟨h.1.below k, h.2.below k h.2.lt⟩
              have heq : ∀ {W W' : World}, W'.heap = W.heap → W'.os = W.os → W'.tape = W.tape → W'.output = W.output → Below W.heap.size W W' := fun e1 e2 e3 e4 => ⟨e2, e3, e4, by rw [e1]; exact Nat.le_refl _, fun k _ => by rw [e1]⟩
              have Q1 : Hid (∀ W : World, W.heap = w9.heap → W.os = w9.os → W.tape = w9.tape → W.output = w9.output → Calls Try.prog 17 #[.pointer (some ⟨b, 0, none⟩)] W fun e w1 => ∃ A1 c1, e = .returned (.slice A1 L.length c1) ∧ w1.cell? ⟨mb, 0, none⟩ = some (.slice Am lm.length cm) ∧
                  Hid ((BM w w1 b mb L lm ∧ Whole w1 mb 36 #[.slice Am lm.length cm]) ∧ ∃ r1, IRow w1 r1 (.slice A1 L.length c1) L)) := Lib.hid (fun W g1 g2 g3 g4 => by
                have hW := hlow (heq g1 g2 g3 g4) M9.out
                refine (hW.1.ob.all (by omega)).mono ?_
                rintro e w1 ⟨v, rfl, h1, b1⟩
                obtain ⟨A1, c1, rfl⟩ := own_slice h1
                obtain ⟨r1, hr1, _⟩ := row_of h1
                have h2 := hlow b1 hW
                exact ⟨A1, c1, rfl, (h2.2.cell 0).trans rfl, Lib.hid ⟨h2, r1, hr1⟩⟩)
              have Q2 : Hid (∀ (W3 W : World) (A1 : Option Addr) (c1 : Nat), Hid ((BM w W3 b mb L lm ∧ Whole W3 mb 36 #[.slice Am lm.length cm]) ∧ ∃ r1, IRow W3 r1 (.slice A1 L.length c1) L) → W.heap = W3.heap → W.os = W3.os → W.tape = W3.tape → W.output = W3.output → Calls Try.prog 24 #[.pointer (some ⟨mb, 0, none⟩)] W fun e w1 => ∃ A2 c2, e = .returned (.slice A2 L.length c2) ∧ w1.cell? ⟨mb, 0, none⟩ = some (.slice Am lm.length cm) ∧
                  Hid ((BM w w1 b mb L lm ∧ Whole w1 mb 36 #[.slice Am lm.length cm]) ∧ (∃ r1, IRow w1 r1 (.slice A1 L.length c1) L) ∧ ∃ r2, IRow w1 r2 (.slice A2 L.length c2) L)) := Lib.hid (fun W3 W A1 c1 h3 g1 g2 g3 g4 => by
                obtain ⟨hb3, r1, hr1⟩ := h3.out
                have hW := hlow (heq g1 g2 g3 g4) hb3
                obtain ⟨mr, hmr⟩ := hW.1.rb
                have hra := rall_any hmr (by omega)
                rw [HNm.out] at hra
                refine hra.mono ?_
                rintro e w1 ⟨v, rfl, h1, b1⟩
                obtain ⟨A2, c2, rfl⟩ := own_slice h1
                obtain ⟨r2, hr2, _⟩ := row_of h1
                have h2 := hlow b1 hW
                exact ⟨A2, c2, rfl, (h2.2.cell 0).trans rfl, Lib.hid ⟨h2, ⟨r1, (hr1.below (heq g1 g2 g3 g4)).below b1⟩, r2, hr2⟩⟩)
              have Q3 : Hid (∀ (W3 W : World) (A1 A2 : Option Addr) (c1 c2 : Nat), Hid ((BM w W3 b mb L lm ∧ Whole W3 mb 36 #[.slice Am lm.length cm]) ∧ (∃ r1, IRow W3 r1 (.slice A1 L.length c1) L) ∧ ∃ r2, IRow W3 r2 (.slice A2 L.length c2) L) → W.heap = W3.heap → W.os = W3.os → W.tape = W3.tape → W.output = W3.output → Calls Try.prog 23 #[.slice A1 L.length c1, .slice A2 L.length c2] W fun e w1 => e = .returned (.bool true) ∧ w1.cell? ⟨mb, 0, none⟩ = some (.slice Am lm.length cm) ∧
                  Hid (BM w w1 b mb L lm ∧ Whole w1 mb 36 #[.slice Am lm.length cm])) := Lib.hid (fun W3 W A1 A2 c1 c2 h3 g1 g2 g3 g4 => by
                obtain ⟨hb3, ⟨r1, hr1⟩, r2, hr2⟩ := h3.out
                have hW := hlow (heq g1 g2 g3 g4) hb3
                refine (sameI_any r1 r2 _ _ L W (by omega) (hr1.below (heq g1 g2 g3 g4)) (hr2.below (heq g1 g2 g3 g4))).mono ?_
                rintro e w1 ⟨rfl, q, rfl⟩
                have h2 := hlow (Below.drewN (Below.refl W.heap.size W) q) hW
                exact ⟨rfl, (h2.2.cell 0).trans rfl, Lib.hid h2⟩)
              have Q4 : Hid (∀ (W3 W : World), Hid (BM w W3 b mb L lm ∧ Whole W3 mb 36 #[.slice Am lm.length cm]) → W.heap = W3.heap → W.os = W3.os → W.tape = W3.tape → W.output = W3.output → Calls Try.prog 16 #[.pointer (some ⟨b, 0, none⟩)] W fun e w1 => e = .returned (.int .i64 (lm.length : Nat)) ∧ w1.cell? ⟨mb, 0, none⟩ = some (.slice Am lm.length cm) ∧
                  Hid (BM w w1 b mb L lm ∧ Whole w1 mb 36 #[.slice Am lm.length cm])) := Lib.hid (fun W3 W h3 g1 g2 g3 g4 => by
                have hW := hlow (heq g1 g2 g3 g4) h3.out
                refine hW.1.ob.len.mono ?_
                rintro e w1 ⟨rfl, rfl⟩
                exact ⟨by rw [HLen.out], (hW.2.cell 0).trans rfl, Lib.hid hW⟩)
              have Q5 : Hid (∀ (W3 W : World), Hid (BM w W3 b mb L lm ∧ Whole W3 mb 36 #[.slice Am lm.length cm]) → W.heap = W3.heap → W.os = W3.os → W.tape = W3.tape → W.output = W3.output → Calls Try.prog 15 #[.pointer (some ⟨b, 0, none⟩), .int .i64 x0] W fun e w1 => e = .returned (.bool (decide (x0 ∈ lm))) ∧ w1.cell? ⟨mb, 0, none⟩ = some (.slice Am lm.length cm) ∧
                  Hid (BM w w1 b mb L lm ∧ Whole w1 mb 36 #[.slice Am lm.length cm])) := Lib.hid (fun W3 W h3 g1 g2 g3 g4 => by
                have hW := hlow (heq g1 g2 g3 g4) h3.out
                refine (hW.1.ob.has (by omega) x0).mono ?_
                rintro e w1 ⟨rfl, q, rfl⟩
                have h2 := hlow (Below.drewN (Below.refl W.heap.size W) q) hW
                exact ⟨by simp only [HMem.out], (h2.2.cell 0).trans rfl, Lib.hid h2⟩)
              have Q6 : Hid (∀ (W3 W : World), Hid (BM w W3 b mb L lm ∧ Whole W3 mb 36 #[.slice Am lm.length cm]) → W.heap = W3.heap → W.os = W3.os → W.tape = W3.tape → W.output = W3.output → Calls Try.prog 25 #[.pointer (some ⟨mb, 0, none⟩), .int .i64 x0] W fun e w1 => e = .returned (.bool (decide (x0 ∈ lm))) ∧ w1.cell? ⟨mb, 0, none⟩ = some (.slice Am lm.length cm) ∧
                  Hid (BM w w1 b mb L lm ∧ Whole w1 mb 36 #[.slice Am lm.length cm])) := Lib.hid (fun W3 W h3 g1 g2 g3 g4 => by
                have hW := hlow (heq g1 g2 g3 g4) h3.out
                obtain ⟨mr, hmr⟩ := hW.1.rb
                refine (rhas_any hmr (by omega) x0).mono ?_
                rintro e w1 ⟨rfl, rfl⟩
                exact ⟨rfl, (hW.2.cell 0).trans rfl, Lib.hid hW⟩)
              generalize decide (x0 ∈ lm) = dd at Q5 Q6
              clear hlow heq HLen HMem HNm M9
              go_wp2_with fail
              go_region_held3 (fun w' => w'.cell? ⟨mb, 0, none⟩ = some (.slice Am lm.length cm)) (first | exact s9 | exact k1 | exact k2 | exact k3 | exact k4 | exact k5 | exact k6 | (simp [go_sem, *]))
                (first
                  | (go_at_call 17; refine (Q1.out _ (by exact rfl) (by exact rfl) (by exact rfl) (by exact rfl)).mono ?_; rintro e u1 ⟨A1, c1, rfl, k1, J1⟩)
                  | (go_at_call 24; refine (Q2.out u1 _ A1 c1 J1 (by exact rfl) (by exact rfl) (by exact rfl) (by exact rfl)).mono ?_; rintro e u2 ⟨A2, c2, rfl, k2, J2⟩)
                  | (go_at_call 23; refine (Q3.out u2 _ A1 A2 c1 c2 J2 (by exact rfl) (by exact rfl) (by exact rfl) (by exact rfl)).mono ?_; rintro e u3 ⟨rfl, k3, J3⟩)
                  | (go_at_call 16; refine (Q4.out u3 _ J3 (by exact rfl) (by exact rfl) (by exact rfl) (by exact rfl)).mono ?_; rintro e u4 ⟨rfl, k4, J4⟩)
                  | (go_at_call 15; refine (Q5.out u4 _ J4 (by exact rfl) (by exact rfl) (by exact rfl) (by exact rfl)).mono ?_; rintro e u5 ⟨rfl, k5, J5⟩)
                  | (go_at_call 25; refine (Q6.out u5 _ J5 (by exact rfl) (by exact rfl) (by exact rfl) (by exact rfl)).mono ?_; rintro e u6 ⟨rfl, k6, J6⟩)
                  | fail)
              all_goals
                go_wp2
                go_ret
                exact ⟨ret_bool (by simp), J6.out.1.bel⟩
    · have d0 : (50 : Int) < (n : Int) := by omega
      go_wp2
      go_ret
      exact ⟨rfl, B5.out⟩
end Go.Proofs.Ytfmcgejoobbiiaa
