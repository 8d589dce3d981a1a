/- Texts of this claim, laid into one file. -/
import Derived.Test.YteneadimchhhhaaGreatDoorMgSl
import Derived.Test.YteneadimchhhhaaGreatDoorMgBase
import Derived.Test.YteneadimchhhhaaGreatDoorMgLyMath
import Derived.Deep.DeepCutAuto
/- The contract of field.Unpack. -/
namespace Go.Proofs.YteneadimchhhhaaGreatDoor
open Go.RowKit

set_option maxHeartbeats 1000000 in
theorem unpack_no (x : Int) (A : Option Addr) (n c : Nat) (fs : List (Int × Int)) (w : World) (hn : n ≤ 1000000) (hf : FS w w.heap.size A n fs) (ha : FM.apart fs = false) :
    Calls Tryz.prog 87 #[.int .u64 x, .slice A n c] w fun e w' => e = .returned (.tuple #[.slice none 0 0, .int .i64 2]) ∧ Below w.heap.size w w' := by
  have HF := Lib.hid hf
  clear hf
  go_enter Tryz.func87, Tryz.ntmps87
  go_wp2_with (first
      | (go_at_call 93; refine (apart_any A n c fs _ hn HF.out).mono ?_; rintro e w' ⟨rfl, hb⟩))
  go_ret2
  exact ⟨rfl, hb⟩

def UnpackPost (x : Int) (n : Nat) (fs : List (Int × Int)) (w : World) (e : Ending) (w' : World) : Prop :=
  ∃ g, e = .returned (.tuple #[.slice (some ⟨g, 0, none⟩) n n, .int .i64 0]) ∧ NS .u64 w' w'.heap.size (some ⟨g, 0, none⟩) n (fs.map fun f => FM.num x f.1 f.2) ∧ Below w.heap.size w w'

/-- How far the new row is filled. -/
def Filled (x : Int) (fs : List (Int × Int)) (k n : Nat) (cs : Array Value) : Prop :=
  cs.size = n ∧ (∀ i f, i < k → fs[i]? = some f → cs[i]? = some (.int .u64 (FM.num x f.1 f.2)))

theorem Filled.step {x : Int} {fs : List (Int × Int)} {k n : Nat} {cs : Array Value} (h : Filled x fs k n cs) (hk : k < n) {a b : Int} (hf : fs[k]? = some (a, b)) : Filled x fs (k + 1) n (cs.setIfInBounds k (.int .u64 (FM.num x a b))) := by
  refine ⟨by simp [h.1], fun i f hi hif => ?_⟩
  by_cases e : i = k
  · subst e
    rw [hf] at hif
    injection hif with hif
    subst hif
    simp [h.1, hk]
  · rw [Array.getElem?_setIfInBounds_ne (by omega)]
    exact h.2 i f (by omega) hif

theorem getElem?_of_drop {α : Type} {l r : List α} {x : α} {k : Nat} (h : l.drop k = x :: r) : l[k]? = some x := by
  have : (l.drop k)[0]? = some x := by rw [h]; rfl
  simpa using this

set_option maxHeartbeats 2000000 in
theorem unpack_ok (x : Int) (hx : FM.Word x) (A : Option Addr) (n c : Nat) (fs : List (Int × Int)) (w : World) (hn : n ≤ 1000000) (hf : FS w w.heap.size A n fs) (ha : FM.apart fs = true) :
    Calls Tryz.prog 87 #[.int .u64 x, .slice A n c] w (UnpackPost x n fs w) := by
  have HF := Lib.hid hf
  clear hf
  have HR := Lib.hid (FM.apart_right 0 fs ha)
  have hmk := fun W => run_make_row' (P := Tryz.prog) 41 33 (.int .u64 0) 8 Tryz.underlying41 (by kernel_rfl) rfl .i64 .i64 n (by omega) (by omega) W
  go_enter Tryz.func87, Tryz.ntmps87
  go_wp2_with (first
      | (go_at_call 93; refine (apart_any A n c fs _ hn HF.out).mono ?_; rintro e w0 ⟨rfl, hb0⟩))
  clear hmk
  go_loopw [17] (fun i wr => ∃ (k : Nat) (cs : Array Value), k ≤ n ∧ i = .int .i64 k ∧ Whole wr w0.heap.size 33 cs ∧ Filled x fs k n cs ∧ Below w.heap.size w wr) (fun i _ => n - (intOf i).toNat)
  case atStart => exact ⟨0, _, Nat.zero_le _, rfl, Whole.fresh _ _ _, ⟨size_madeCells _ _, fun i f h => absurd h (by omega)⟩, hb0.alloc hb0.size _⟩
  case round =>
    obtain ⟨k, cs, hk, rfl, hwh, hfil, hbw⟩ := hrel
    by_cases hlt : k < n
    · obtain ⟨b, off, a, e, rfl, hbB, hd, hc0, hc1⟩ := (HF.out.below hbw).at_ hlt
      have hr : FM.right a e = true := HR.out (a, e) (List.mem_of_mem_drop (by rw [hd]; exact List.mem_cons_self))
      have HD := Lib.hid (getElem?_of_drop hd)
      clear hd
      obtain ⟨h1, h2, h3, h4⟩ := (FM.right_iff a e).1 hr
      have h5 : e ≤ 64 := by omega
      have hs := hbw.size
      have hs0 := hb0.size
      have hg := hwh.lt
      have HW := Lib.hid hwh
      have HFi := Lib.hid hfil
      clear hwh hfil
      go_wp2_with (first
        | (go_at_call 99; refine (numberIn_any x a e hx h1 h2 h3 h5 _).mono ?_; rintro e w1 ⟨rfl, hb1⟩; obtain ⟨v, hv⟩ : ∃ v, w1.cell? ⟨w0.heap.size, k, none⟩ = some v := ⟨cs[k]'(by have := HFi.out.1; omega), by rw [((HW.out.alloc _).below hb1 (by simp; omega)).cell k]; simp⟩; have hfr := ((HW.out.alloc _).below hb1 (by simp; omega)).free k))
      have HW2 := ((HW.out.alloc (.cells #[.int .i64 a, .int .i64 e] 166)).below hb1 (by simp; omega))
      have hsz := hb1.size
      simp at hsz
      go_roundw
      case rel => exact ⟨k + 1, _, by omega, by go_num, HW2.set k _, HFi.out.step hlt HD.out, ((hbw.alloc hs _).trans (hb1.mono (by simp; omega))).setCell (p := ⟨w0.heap.size, k, none⟩) hs0 _⟩
      case measure => simp [intOf]; omega
    · go_wp2
      go_ret2
      refine ⟨w0.heap.size, rfl, ⟨?_, ?_, fun _ => ⟨_, 0, rfl, hwh.lt, fun i y hy => ?_⟩⟩, hbw⟩
      · rw [List.length_map]; exact HF.out.1
      · intro y hy
        obtain ⟨f, hf, rfl⟩ := List.mem_map.1 hy
        have := (FM.right_iff _ _).1 (HR.out f hf)
        exact of_word (FM.num_word x f.1 f.2 (by omega))
      · rw [List.getElem?_map, Option.map_eq_some_iff] at hy
        obtain ⟨f, hf, rfl⟩ := hy
        have hl := HF.out.1
        have hi : i < fs.length := (List.getElem?_eq_some_iff.1 hf).1
        rw [Nat.zero_add, hwh.cell i]
        exact hfil.2 i f (by omega) hf
end Go.Proofs.YteneadimchhhhaaGreatDoor
/- Contracts of the small functions of package header: the fields, within, headerMayBe, tokenMayBe. -/
namespace Go.Proofs.YteneadimchhhhaaGreatDoor
open Go.RowKit

/-- The fields of a header's word, and of a token's. -/
def hfs : List (Int × Int) := [(0, 16), (16, 16), (32, 8), (40, 16), (56, 8)]
def tfs : List (Int × Int) := [(0, 32), (32, 32)]
theorem hfs_apart : FM.apart hfs = true := by decide
theorem tfs_apart : FM.apart tfs = true := by decide

set_option maxHeartbeats 400000 in
theorem headerFields_any (w : World) : Calls Tryz.prog 79 #[] w fun e w' => e = .returned (.slice (some ⟨w.heap.size, 0, none⟩) 5 5) ∧ w.alloc (.cells #[.int .i64 0, .int .i64 16, .int .i64 16, .int .i64 16, .int .i64 32, .int .i64 8, .int .i64 40, .int .i64 16, .int .i64 56, .int .i64 8] 166) = w' := by
  go_enter Tryz.func79, Tryz.ntmps79
  go_wp2
  go_ret
  exact ⟨rfl, rfl⟩

set_option maxHeartbeats 400000 in
theorem tokenFields_any (w : World) : Calls Tryz.prog 91 #[] w fun e w' => e = .returned (.slice (some ⟨w.heap.size, 0, none⟩) 2 2) ∧ w.alloc (.cells #[.int .i64 0, .int .i64 32, .int .i64 32, .int .i64 32] 166) = w' := by
  go_enter Tryz.func91, Tryz.ntmps91
  go_wp2
  go_ret
  exact ⟨rfl, rfl⟩

theorem hfs_fs {W : World} {a : Nat} (h : Whole W a 166 #[.int .i64 0, .int .i64 16, .int .i64 16, .int .i64 16, .int .i64 32, .int .i64 8, .int .i64 40, .int .i64 16, .int .i64 56, .int .i64 8]) : FS W W.heap.size (some ⟨a, 0, none⟩) 5 hfs := by
  refine ⟨rfl, fun _ => ⟨a, 0, rfl, h.lt, fun i f hi => ?_⟩⟩
  rw [Nat.zero_add, h.cell, h.cell]
  match i, hi with
  | 0, hi => simp [hfs] at hi; subst hi; exact ⟨rfl, rfl⟩
  | 1, hi => simp [hfs] at hi; subst hi; exact ⟨rfl, rfl⟩
  | 2, hi => simp [hfs] at hi; subst hi; exact ⟨rfl, rfl⟩
  | 3, hi => simp [hfs] at hi; subst hi; exact ⟨rfl, rfl⟩
  | 4, hi => simp [hfs] at hi; subst hi; exact ⟨rfl, rfl⟩
theorem tfs_fs {W : World} {a : Nat} (h : Whole W a 166 #[.int .i64 0, .int .i64 32, .int .i64 32, .int .i64 32]) : FS W W.heap.size (some ⟨a, 0, none⟩) 2 tfs := by
  refine ⟨rfl, fun _ => ⟨a, 0, rfl, h.lt, fun i f hi => ?_⟩⟩
  rw [Nat.zero_add, h.cell, h.cell]
  match i, hi with
  | 0, hi => simp [tfs] at hi; subst hi; exact ⟨rfl, rfl⟩
  | 1, hi => simp [tfs] at hi; subst hi; exact ⟨rfl, rfl⟩

set_option maxHeartbeats 400000 in
theorem hwithin_any (n a b : Int) (w : World) : Calls Tryz.prog 100 #[.int .i64 n, .int .i64 a, .int .i64 b] w fun e w' => e = .returned (.bool (decide (a ≤ n ∧ n ≤ b))) ∧ w = w' := by
  go_enter Tryz.func100, Tryz.ntmps100
  go_wp2
  all_goals go_ret
  all_goals refine ⟨ret_bool ?_, rfl⟩
  all_goals (rw [Bool.eq_iff_iff]; simp [*]; try omega)

set_option maxHeartbeats 1000000 in
theorem headerMayBe_any (L C S : Int) (w : World) : Calls Tryz.prog 88 #[.agg #[.int .i64 L, .int .i64 C, .int .i64 S]] w fun e w' => e = .returned (.bool (HM.may L C S)) ∧ Below w.heap.size w w' := by
  go_enter Tryz.func88, Tryz.ntmps88
  go_wp2_with (first
    | (go_at_call 100; refine (hwithin_any _ _ _ _).mono ?_; rintro e w' ⟨rfl, rfl⟩))
  all_goals go_ret
  all_goals refine ⟨ret_bool ?_, (Below.refl _ _).alloc (Nat.le_refl _) _⟩
  all_goals (unfold HM.may; rw [Bool.eq_iff_iff]; simp [*]; try omega)

set_option maxHeartbeats 1000000 in
theorem tokenMayBe_any (I G : Int) (w : World) : Calls Tryz.prog 92 #[.agg #[.int .i64 I, .int .i64 G]] w fun e w' => e = .returned (.bool (decide (0 ≤ I ∧ I ≤ 4095 ∧ 1 ≤ G ∧ G ≤ 255))) ∧ Below w.heap.size w w' := by
  go_enter Tryz.func92, Tryz.ntmps92
  go_wp2_with (first
    | (go_at_call 100; refine (hwithin_any _ _ _ _).mono ?_; rintro e w' ⟨rfl, rfl⟩))
  all_goals go_ret
  all_goals refine ⟨ret_bool ?_, (Below.refl _ _).alloc (Nat.le_refl _) _⟩
  all_goals (rw [Bool.eq_iff_iff]; simp [*]; try omega)
end Go.Proofs.YteneadimchhhhaaGreatDoor
/- The contract of Decode of package header. -/
namespace Go.Proofs.YteneadimchhhhaaGreatDoor
open Go.RowKit

theorem num_lit (x : Int) (hx : FM.Word x) (a b : Nat) (A B : Int) (hA : (2 : Int) ^ a = A) (hB : (2 : Int) ^ b = B) : FM.num x a b = x / A % B := by
  obtain ⟨X, rfl⟩ := Int.eq_ofNat_of_zero_le hx.1
  unfold FM.num FM.numN
  rw [← hA, ← hB]
  simp
/-- The numbers that Unpack lays of a header's word. -/
theorem hcells {W : World} {B g : Nat} {x : Int} (hx : FM.Word x) (h : NS .u64 W B (some ⟨g, 0, none⟩) 5 (hfs.map fun f => FM.num x f.1 f.2)) :
    W.cell? ⟨g, 0, none⟩ = some (.int .u64 (x % 65536)) ∧ W.cell? ⟨g, 1, none⟩ = some (.int .u64 (x / 65536 % 65536)) ∧ W.cell? ⟨g, 2, none⟩ = some (.int .u64 (x / 4294967296 % 256)) ∧ W.cell? ⟨g, 3, none⟩ = some (.int .u64 (x / 1099511627776 % 65536)) ∧ W.cell? ⟨g, 4, none⟩ = some (.int .u64 (x / 72057594037927936 % 256)) := by
  obtain ⟨b, off, e, hlt, hc⟩ := h.2.2 (by omega)
  cases e
  have e0 : FM.num x 0 16 = x % 65536 := by have := num_lit x hx 0 16 1 65536 (by decide) (by decide); simpa using this
  have e1 : FM.num x 16 16 = x / 65536 % 65536 := num_lit x hx 16 16 _ _ (by decide) (by decide)
  have e2 : FM.num x 32 8 = x / 4294967296 % 256 := num_lit x hx 32 8 _ _ (by decide) (by decide)
  have e3 : FM.num x 40 16 = x / 1099511627776 % 65536 := num_lit x hx 40 16 _ _ (by decide) (by decide)
  have e4 : FM.num x 56 8 = x / 72057594037927936 % 256 := num_lit x hx 56 8 _ _ (by decide) (by decide)
  refine ⟨?_, ?_, ?_, ?_, ?_⟩
  · have := hc 0 (FM.num x 0 16) rfl; rw [e0] at this; exact this
  · have := hc 1 (FM.num x 16 16) rfl; rw [e1] at this; exact this
  · have := hc 2 (FM.num x 32 8) rfl; rw [e2] at this; exact this
  · have := hc 3 (FM.num x 40 16) rfl; rw [e3] at this; exact this
  · have := hc 4 (FM.num x 56 8) rfl; rw [e4] at this; exact this

theorem ns_lt {k : IntKind} {W : World} {B g n : Nat} {xs : List Int} (h : NS k W B (some ⟨g, 0, none⟩) n xs) (hn : 0 < n) : g < B := by
  obtain ⟨b, off, e, hlt, hc⟩ := h.2.2 hn
  cases e
  exact hlt

theorem Whole.cells3 {W : World} {g : Nat} {t : TypeId} {a b c : Value} (h : Whole W g t #[a, b, c]) : W.cell? ⟨g, 0, none⟩ = some a ∧ W.cell? ⟨g, 1, none⟩ = some b ∧ W.cell? ⟨g, 2, none⟩ = some c := ⟨h.cell 0, h.cell 1, h.cell 2⟩

theorem set3_below {w W : World} {k : Nat} {u0 u1 u2 : Value} (h : Below k w W) {g : Nat} (hg : k ≤ g) : Below k w (((W.setCell ⟨g, 0, none⟩ u0).setCell ⟨g, 1, none⟩ u1).setCell ⟨g, 2, none⟩ u2) :=
  ((h.setCell (p := ⟨g, 0, none⟩) hg u0).setCell (p := ⟨g, 1, none⟩) hg u1).setCell (p := ⟨g, 2, none⟩) hg u2

def DecIs (L C S E : Int) (w : World) (e : Ending) (w' : World) : Prop :=
  e = .returned (.tuple #[.agg #[.int .i64 L, .int .i64 C, .int .i64 S], .int .i64 E]) ∧ Below w.heap.size w w'

set_option maxHeartbeats 2000000 in
theorem hdecode_yes (x ly cn sl : Int) (hx : FM.Word x) (hk : HM.hok x = true) (hsl : sl = x % 65536) (hcn : cn = x / 65536 % 65536) (hly : ly = x / 4294967296 % 256) (w : World) :
    Calls Tryz.prog 68 #[.int .u64 x] w (DecIs ly cn sl 0 w) := by
  obtain ⟨b1, b2, b3, b4, b5⟩ := (HM.hok_iff x).1 hk
  have z3 : x / 1099511627776 % 65536 = 0 := by omega
  have z4 : x / 72057594037927936 % 256 = 165 := by omega
  have a0 : 0 ≤ sl := by omega
  have a1 : 0 ≤ cn := by omega
  rw [← hsl] at b4
  rw [← hcn] at b3
  rw [← hly] at b1 b2
  have hm : HM.may ly cn sl = true := by rw [HM.may_iff]; omega
  have H1 := Lib.hid (show ∀ W : World, ∀ B g : Nat, NS .u64 W B (some ⟨g, 0, none⟩) 5 (hfs.map fun f => FM.num x f.1 f.2) → g < B ∧ W.cell? ⟨g, 0, none⟩ = some (.int .u64 sl) ∧ W.cell? ⟨g, 1, none⟩ = some (.int .u64 cn) ∧ W.cell? ⟨g, 2, none⟩ = some (.int .u64 ly) ∧ W.cell? ⟨g, 3, none⟩ = some (.int .u64 0) ∧ W.cell? ⟨g, 4, none⟩ = some (.int .u64 165) from fun W B g h => by
    have := hcells hx h
    rw [z3, z4, ← hsl, ← hcn, ← hly] at this
    exact ⟨ns_lt h (by omega), this⟩)
  have HX := Lib.hid hx
  have HM' := Lib.hid hm
  have u0 : IntKind.i64.wrap sl = sl := by rw [IntKind.wrap_i64]; omega
  have u1 : IntKind.i64.wrap cn = cn := by rw [IntKind.wrap_i64]; omega
  have u2 : IntKind.i64.wrap ly = ly := by rw [IntKind.wrap_i64]; omega
  have U := Lib.hid (And.intro u0 (And.intro u1 u2))
  clear hx hk hm z3 z4 b5 hsl hcn hly u0 u1 u2
  go_enter Tryz.func68, Tryz.ntmps68
  go_wp2_with (first
    | (go_at_call 79; refine (headerFields_any _).mono ?_; rintro e w' ⟨rfl, rfl⟩)
    | (go_at_call 87; refine (unpack_ok x HX.out _ 5 5 hfs _ (by omega) (hfs_fs (Whole.fresh' (by simp))) hfs_apart).mono ?_; rintro e w1 ⟨g, rfl, hns, hb1⟩))
  obtain ⟨hg, c0, c1, c2, c3, c4⟩ := H1.out _ _ _ hns
  have hs1 := hb1.size
  simp at hs1
  have hbx : Below w.heap.size w w1 := (((Below.refl _ _).alloc (Nat.le_refl _) _).alloc (by simp) _).trans (hb1.mono (by simp; omega))
  have R1 := Lib.hid ((((Whole.fresh w 32 #[.int .i64 0, .int .i64 0, .int .i64 0]).alloc _).below hb1 (by simp; omega)))
  clear H1 hns hb1
  go_region_held3 (fun w' => w'.cell? ⟨g, 0, none⟩ = some (.int .u64 sl) ∧ w'.cell? ⟨g, 1, none⟩ = some (.int .u64 cn) ∧ w'.cell? ⟨g, 2, none⟩ = some (.int .u64 ly)) (first | exact ⟨c0, c1, c2⟩ | (simp [go_sem, World.cell?_alloc_lt, hg, c0, c1, c2])) (fail)
  rw [U.out.1, U.out.2.1, U.out.2.2]
  rename_i hH
  clear hH
  go_wp2_with (first
    | (go_at_call 88; refine (headerMayBe_any _ _ _ _).mono ?_; rw [HM'.out]; rintro e w2 ⟨rfl, hb2⟩; have R2 := ((R1.out.alloc _).drew.below hb2 (by simp; omega)); obtain ⟨r0, r1, r2⟩ := R2.cells3; have q0 := R2.free 0; have q1 := R2.free 1; have q2 := R2.free 2; obtain ⟨t0, t1, t2⟩ := ((Whole.fresh w1 32 #[.int .i64 ly, .int .i64 cn, .int .i64 sl]).drew.below hb2 (by simp)).cells3; have hb3 : Below w.heap.size w w2 := (hbx.alloc hbx.size _).drew.trans (hb2.mono (by simp; omega)); clear hb2))
  refine bodyPost_ret (v := .tuple #[.agg #[.int .i64 ly, .int .i64 cn, .int .i64 sl], .int .i64 0]) (by simp [results, Tryz.results68, go_sem, r0, r1, r2]) rfl ⟨rfl, ?_⟩
  exact set3_below hb3 (Nat.le_refl _)

set_option maxHeartbeats 4000000 in
theorem hdecode_no (x ly cn sl z m : Int) (hx : FM.Word x) (hk : HM.hok x = false) (hsl : sl = x % 65536) (hcn : cn = x / 65536 % 65536) (hly : ly = x / 4294967296 % 256) (hz : z = x / 1099511627776 % 65536) (hm : m = x / 72057594037927936 % 256) (w : World) :
    Calls Tryz.prog 68 #[.int .u64 x] w (DecIs 0 0 0 4 w) := by
  have hbad : z = 0 → m = 165 → HM.may ly cn sl = false := by
    intro e1 e2
    rw [HM.hok_not] at hk
    rw [HM.may_not]
    have := hx.1
    have := hx.2
    omega
  have a0 : 0 ≤ sl ∧ sl < 65536 := by omega
  have a1 : 0 ≤ cn ∧ cn < 65536 := by omega
  have a2 : 0 ≤ ly ∧ ly < 256 := by omega
  have H1 := Lib.hid (show ∀ W : World, ∀ B g : Nat, NS .u64 W B (some ⟨g, 0, none⟩) 5 (hfs.map fun f => FM.num x f.1 f.2) → g < B ∧ W.cell? ⟨g, 0, none⟩ = some (.int .u64 sl) ∧ W.cell? ⟨g, 1, none⟩ = some (.int .u64 cn) ∧ W.cell? ⟨g, 2, none⟩ = some (.int .u64 ly) ∧ W.cell? ⟨g, 3, none⟩ = some (.int .u64 z) ∧ W.cell? ⟨g, 4, none⟩ = some (.int .u64 m) from fun W B g h => by
    have := hcells hx h
    rw [← hz, ← hm, ← hsl, ← hcn, ← hly] at this
    exact ⟨ns_lt h (by omega), this⟩)
  have HX := Lib.hid hx
  have HBad := Lib.hid hbad
  have u0 : IntKind.i64.wrap sl = sl := by rw [IntKind.wrap_i64]; omega
  have u1 : IntKind.i64.wrap cn = cn := by rw [IntKind.wrap_i64]; omega
  have u2 : IntKind.i64.wrap ly = ly := by rw [IntKind.wrap_i64]; omega
  have U := Lib.hid (And.intro u0 (And.intro u1 u2))
  clear hx hk hbad hsl hcn hly u0 u1 u2 hz hm a0 a1 a2
  go_enter Tryz.func68, Tryz.ntmps68
  go_wp2_with (first
    | (go_at_call 79; refine (headerFields_any _).mono ?_; rintro e w' ⟨rfl, rfl⟩)
    | (go_at_call 87; refine (unpack_ok x HX.out _ 5 5 hfs _ (by omega) (hfs_fs (Whole.fresh' (by simp))) hfs_apart).mono ?_; rintro e w1 ⟨g, rfl, hns, hb1⟩))
  obtain ⟨hg, c0, c1, c2, c3, c4⟩ := H1.out _ _ _ hns
  have hs1 := hb1.size
  simp at hs1
  have hbx : Below w.heap.size w w1 := (((Below.refl _ _).alloc (Nat.le_refl _) _).alloc (by simp) _).trans (hb1.mono (by simp; omega))
  have R1 := Lib.hid ((((Whole.fresh w 32 #[.int .i64 0, .int .i64 0, .int .i64 0]).alloc _).below hb1 (by simp; omega)))
  clear H1 hns hb1
  go_region_held3 (fun w' => w'.cell? ⟨g, 0, none⟩ = some (.int .u64 sl) ∧ w'.cell? ⟨g, 1, none⟩ = some (.int .u64 cn) ∧ w'.cell? ⟨g, 2, none⟩ = some (.int .u64 ly)) (first | exact ⟨c0, c1, c2⟩ | (simp [go_sem, World.cell?_alloc_lt, hg, c0, c1, c2])) (fail)
  rw [U.out.1, U.out.2.1, U.out.2.2]
  rename_i hH
  clear hH
  obtain ⟨r0, r1, r2⟩ := R1.out.cells3
  have q0 := R1.out.free 0
  have q1 := R1.out.free 1
  have q2 := R1.out.free 2
  have hgr : w.heap.size < w1.heap.size := by omega
  by_cases h1 : z = 0
  · by_cases h2 : m = 165
    · subst h1 h2
      have hm := HBad.out rfl rfl
      clear HBad r0 r1 r2 q0 q1 q2
      go_wp2_with (first
        | (go_at_call 88; refine (headerMayBe_any _ _ _ _).mono ?_; rw [hm]; rintro e w2 ⟨rfl, hb2⟩; have R2 := ((R1.out.alloc _).drew.below hb2 (by simp; omega)); obtain ⟨r0, r1, r2⟩ := R2.cells3; have q0 := R2.free 0; have q1 := R2.free 1; have q2 := R2.free 2; have hb3 : Below w.heap.size w w2 := (hbx.alloc hbx.size _).drew.trans (hb2.mono (by simp; omega)); clear hb2))
      refine bodyPost_ret (v := .tuple #[.agg #[.int .i64 0, .int .i64 0, .int .i64 0], .int .i64 4]) (by simp [results, Tryz.results68, go_sem, r0, r1, r2]) rfl ⟨rfl, ?_⟩
      exact set3_below hb3 (Nat.le_refl _)
    · subst h1
      have hm : (m != 165) = true := by simpa using h2
      clear HBad
      go_wp2_with fail
      refine bodyPost_ret (v := .tuple #[.agg #[.int .i64 0, .int .i64 0, .int .i64 0], .int .i64 4]) (by simp [results, Tryz.results68, go_sem, r0, r1, r2, World.cell?_alloc_lt, hgr]) rfl ⟨rfl, ?_⟩
      exact ((set3_below hbx (Nat.le_refl _)).alloc (by simp; omega) _).drew
  · have hz : (z != 0) = true := by simpa using h1
    clear HBad
    go_wp2_with fail
    refine bodyPost_ret (v := .tuple #[.agg #[.int .i64 0, .int .i64 0, .int .i64 0], .int .i64 4]) (by simp [results, Tryz.results68, go_sem, r0, r1, r2, World.cell?_alloc_lt, hgr]) rfl ⟨rfl, ?_⟩
    exact ((set3_below hbx (Nat.le_refl _)).alloc (by simp; omega) _).drew

theorem hdecode_any (x : Int) (hx : FM.Word x) (w : World) : Calls Tryz.prog 68 #[.int .u64 x] w (DecIs (HM.dL x) (HM.dC x) (HM.dS x) (HM.dE x) w) := by
  unfold HM.dL HM.dC HM.dS HM.dE
  by_cases h : HM.hok x = true
  · rw [if_pos h, if_pos h, if_pos h, if_pos h]
    exact hdecode_yes x _ _ _ hx h rfl rfl rfl w
  · rw [if_neg h, if_neg h, if_neg h, if_neg h]
    exact hdecode_no x _ _ _ _ _ hx (by simpa using h) rfl rfl rfl rfl rfl w
end Go.Proofs.YteneadimchhhhaaGreatDoor
/- The contract of Link of package header. -/
namespace Go.Proofs.YteneadimchhhhaaGreatDoor
open Go.RowKit

/-- The numbers that Unpack lays of a token's word. -/
theorem tcells {W : World} {B g : Nat} {x : Int} (hx : FM.Word x) (h : NS .u64 W B (some ⟨g, 0, none⟩) 2 (tfs.map fun f => FM.num x f.1 f.2)) :
    W.cell? ⟨g, 0, none⟩ = some (.int .u64 (x % 4294967296)) ∧ W.cell? ⟨g, 1, none⟩ = some (.int .u64 (x / 4294967296)) := by
  obtain ⟨b, off, e, hlt, hc⟩ := h.2.2 (by omega)
  cases e
  have e0 : FM.num x 0 32 = x % 4294967296 := by have := num_lit x hx 0 32 1 4294967296 (by decide) (by decide); simpa using this
  have e1 : FM.num x 32 32 = x / 4294967296 := by
    have := num_lit x hx 32 32 4294967296 4294967296 (by decide) (by decide)
    have e2 : x / 4294967296 % 4294967296 = x / 4294967296 := by have := hx.1; have := hx.2; omega
    rw [e2] at this
    exact this
  refine ⟨?_, ?_⟩
  · have := hc 0 (FM.num x 0 32) rfl; rw [e0] at this; exact this
  · have := hc 1 (FM.num x 32 32) rfl; rw [e1] at this; exact this

theorem Whole.cells2 {W : World} {g : Nat} {t : TypeId} {a b : Value} (h : Whole W g t #[a, b]) : W.cell? ⟨g, 0, none⟩ = some a ∧ W.cell? ⟨g, 1, none⟩ = some b := ⟨h.cell 0, h.cell 1⟩

/-- What Link leaves. -/
def LinkIs (K I G E : Int) (w : World) (e : Ending) (w' : World) : Prop :=
  e = .returned (.tuple #[.agg #[.int .i64 K, .int .i64 I, .int .i64 G], .int .i64 E]) ∧ Below w.heap.size w w'

set_option maxHeartbeats 1000000 in
theorem link_zero (w : World) : Calls Tryz.prog 77 #[.int .u64 0] w (LinkIs 0 0 0 0 w) := by
  go_enter Tryz.func77, Tryz.ntmps77
  go_wp2
  refine bodyPost_ret (v := .tuple #[.agg #[.int .i64 0, .int .i64 0, .int .i64 0], .int .i64 0]) (by simp [results, Tryz.results77, go_sem]) rfl ⟨rfl, ?_⟩
  exact (Below.refl _ _).alloc (Nat.le_refl _) _
set_option maxHeartbeats 1000000 in
theorem link_one (w : World) : Calls Tryz.prog 77 #[.int .u64 1] w (LinkIs 1 0 0 0 w) := by
  go_enter Tryz.func77, Tryz.ntmps77
  go_wp2
  refine bodyPost_ret (v := .tuple #[.agg #[.int .i64 1, .int .i64 0, .int .i64 0], .int .i64 0]) (by simp [results, Tryz.results77, go_sem]) rfl ⟨rfl, ?_⟩
  exact (Below.refl _ _).alloc (Nat.le_refl _) _

def LinkTok (ok : Bool) (ix gn : Int) (w : World) (e : Ending) (w' : World) : Prop := (ok = true ∧ LinkIs 2 ix gn 0 w e w') ∨ (ok = false ∧ LinkIs 0 0 0 4 w e w')

set_option maxHeartbeats 2000000 in
theorem link_more (x lo ix gn : Int) (hx : FM.Word x) (h0 : x ≠ 0) (h1 : x ≠ 1) (hlo : lo = x % 4294967296) (hix : ix = lo - 2) (hgn : gn = x / 4294967296) (w : World) :
    Calls Tryz.prog 77 #[.int .u64 x] w (LinkTok (HM.tok x) ix gn w) := by
  have d0 : (x == 0) = false := by simpa using h0
  have d1 : (x == 1) = false := by simpa using h1
  have a0 : 0 ≤ lo ∧ lo < 4294967296 := by omega
  have a1 : 0 ≤ gn ∧ gn < 4294967296 := by have := hx.1; have := hx.2; omega
  have hok : HM.tok x = decide (0 ≤ ix ∧ ix ≤ 4095 ∧ 1 ≤ gn ∧ gn ≤ 255) := by
    unfold HM.tok
    rw [Bool.eq_iff_iff]
    simp
    omega
  obtain ⟨ok, hk⟩ : ∃ ok, ok = HM.tok x := ⟨_, rfl⟩
  rw [← hk]
  have HOk := Lib.hid (hk.trans hok)
  have H1 := Lib.hid (show ∀ W : World, ∀ B g : Nat, NS .u64 W B (some ⟨g, 0, none⟩) 2 (tfs.map fun f => FM.num x f.1 f.2) → g < B ∧ W.cell? ⟨g, 0, none⟩ = some (.int .u64 lo) ∧ W.cell? ⟨g, 1, none⟩ = some (.int .u64 gn) from fun W B g h => by
    have := tcells hx h
    rw [← hlo, ← hgn] at this
    exact ⟨ns_lt h (by omega), this⟩)
  have HX := Lib.hid hx
  have u0 : IntKind.i64.wrap (IntKind.i64.wrap lo - 2) = ix := by rw [IntKind.wrap_i64, IntKind.wrap_i64]; omega
  have u1 : IntKind.i64.wrap gn = gn := by rw [IntKind.wrap_i64]; omega
  have U := Lib.hid (And.intro u0 u1)
  clear hx hk hok hlo hix hgn u0 u1 h0 h1 a0 a1
  go_enter Tryz.func77, Tryz.ntmps77
  go_wp2_with (first
    | (go_at_call 91; refine (tokenFields_any _).mono ?_; rintro e w' ⟨rfl, rfl⟩)
    | (go_at_call 87; refine (unpack_ok x HX.out _ 2 2 tfs _ (by omega) (tfs_fs (Whole.fresh' (by simp))) tfs_apart).mono ?_; rintro e w1 ⟨g, rfl, hns, hb1⟩))
  obtain ⟨hg, c0, c1⟩ := H1.out _ _ _ hns
  have hs1 := hb1.size
  simp at hs1
  have hbx : Below w.heap.size w w1 := (((Below.refl _ _).alloc (Nat.le_refl _) _).alloc (by simp) _).trans (hb1.mono (by simp; omega))
  have R1 := Lib.hid ((((Whole.fresh w 37 #[.int .i64 0, .int .i64 0, .int .i64 0]).alloc _).below hb1 (by simp; omega)))
  clear H1 hns hb1
  go_region_held3 (fun w' => w'.cell? ⟨g, 0, none⟩ = some (.int .u64 lo) ∧ w'.cell? ⟨g, 1, none⟩ = some (.int .u64 gn)) (first | exact ⟨c0, c1⟩ | (simp [go_sem, World.cell?_alloc_lt, hg, c0, c1])) (fail)
  rw [U.out.1, U.out.2]
  rename_i hH
  clear hH
  cases ok
  · go_wp2_with (first
      | (go_at_call 92; refine (tokenMayBe_any _ _ _).mono ?_; rw [← HOk.out]; rintro e w2 ⟨rfl, hb2⟩; have R2 := ((R1.out.alloc _).drew.below hb2 (by simp; omega)); obtain ⟨r0, r1, r2⟩ := R2.cells3; have q0 := R2.free 0; have q1 := R2.free 1; have q2 := R2.free 2; have hb3 : Below w.heap.size w w2 := (hbx.alloc hbx.size _).drew.trans (hb2.mono (by simp; omega)); clear hb2))
    refine bodyPost_ret (v := .tuple #[.agg #[.int .i64 0, .int .i64 0, .int .i64 0], .int .i64 4]) (by simp [results, Tryz.results77, go_sem, r0, r1, r2]) rfl (.inr ⟨rfl, rfl, ?_⟩)
    exact set3_below hb3 (Nat.le_refl _)
  · go_wp2_with (first
      | (go_at_call 92; refine (tokenMayBe_any _ _ _).mono ?_; rw [← HOk.out]; rintro e w2 ⟨rfl, hb2⟩; have R2 := ((R1.out.alloc _).drew.below hb2 (by simp; omega)); obtain ⟨r0, r1, r2⟩ := R2.cells3; have q0 := R2.free 0; have q1 := R2.free 1; have q2 := R2.free 2; obtain ⟨t0, t1⟩ := ((Whole.fresh w1 35 #[.int .i64 ix, .int .i64 gn]).drew.below hb2 (by simp)).cells2; have hb3 : Below w.heap.size w w2 := (hbx.alloc hbx.size _).drew.trans (hb2.mono (by simp; omega)); clear hb2))
    refine bodyPost_ret (v := .tuple #[.agg #[.int .i64 2, .int .i64 ix, .int .i64 gn], .int .i64 0]) (by simp [results, Tryz.results77, go_sem, r0, r1, r2]) rfl (.inl ⟨rfl, rfl, ?_⟩)
    exact set3_below hb3 (Nat.le_refl _)

theorem hlink_any (x : Int) (hx : FM.Word x) (w : World) : Calls Tryz.prog 77 #[.int .u64 x] w (LinkIs (HM.kK x) (HM.kI x) (HM.kG x) (HM.kE x) w) := by
  by_cases h0 : x = 0
  · subst h0
    exact link_zero w
  · by_cases h1 : x = 1
    · subst h1
      exact link_one w
    · refine (link_more x _ _ _ hx h0 h1 rfl rfl rfl w).mono ?_
      unfold HM.kK HM.kI HM.kG HM.kE
      rintro e w' (⟨ht, h⟩ | ⟨ht, h⟩)
      · rw [if_pos ht, if_pos ht, if_pos ht, if_pos ht]
        exact h
      · have hn : ¬ HM.tok x = true := by rw [ht]; decide
        rw [if_neg hn, if_neg hn, if_neg hn, if_neg hn, if_neg h1, if_neg h1, if_neg h0]
        exact h
end Go.Proofs.YteneadimchhhhaaGreatDoor
/- The contract of Encode of package header. -/
namespace Go.Proofs.YteneadimchhhhaaGreatDoor
open Go.RowKit

theorem ns_five {k : IntKind} {W : World} {b : Nat} {t : TypeId} {x y z u v : Int} (h : Whole W b t #[.int k x, .int k y, .int k z, .int k u, .int k v]) (hx : (Lit.int k x).wf = true) (hy : (Lit.int k y).wf = true) (hz : (Lit.int k z).wf = true) (hu : (Lit.int k u).wf = true) (hv : (Lit.int k v).wf = true) : NS k W W.heap.size (some ⟨b, 0, none⟩) 5 [x, y, z, u, v] := by
  refine ⟨rfl, by simp [hx, hy, hz, hu, hv], fun _ => ⟨b, 0, rfl, h.lt, fun i f hi => ?_⟩⟩
  rw [Nat.zero_add, h.cell]
  match i, hi with
  | 0, hi => simp at hi; subst hi; rfl
  | 1, hi => simp at hi; subst hi; rfl
  | 2, hi => simp at hi; subst hi; rfl
  | 3, hi => simp at hi; subst hi; rfl
  | 4, hi => simp at hi; subst hi; rfl

/-- A number below and one above it, by bits, are their sum. -/
theorem or_add (a b i : Nat) (h : a < 2 ^ i) : a ||| b * 2 ^ i = a + b * 2 ^ i := by
  have := Nat.two_pow_add_eq_or_of_lt h b
  rw [Nat.mul_comm] at this
  rw [Nat.or_comm, ← this]
  omega

theorem hfs_pack (s c l : Int) (h1 : 0 ≤ s) (h2 : s < 65536) (h3 : 0 ≤ c) (h4 : c < 65536) (h5 : 0 ≤ l) (h6 : l < 256) : FM.packGo 0 hfs [s, c, l, 0, 165] = some (HM.word l c s).toNat := by
  obtain ⟨s, rfl⟩ := Int.eq_ofNat_of_zero_le h1
  obtain ⟨c, rfl⟩ := Int.eq_ofNat_of_zero_le h3
  obtain ⟨l, rfl⟩ := Int.eq_ofNat_of_zero_le h5
  have e1 : FM.fits (s : Int) 16 = true := (FM.fits_iff _ _ (by omega)).2 (by simp; omega)
  have e2 : FM.fits (c : Int) 16 = true := (FM.fits_iff _ _ (by omega)).2 (by simp; omega)
  have e3 : FM.fits (l : Int) 8 = true := (FM.fits_iff _ _ (by omega)).2 (by simp; omega)
  have e4 : FM.fits 0 16 = true := by decide
  have e5 : FM.fits 165 8 = true := by decide
  unfold hfs
  rw [FM.pack_next _ _ _ _ _ e1, FM.pack_next _ _ _ _ _ e2, FM.pack_next _ _ _ _ _ e3, FM.pack_next _ _ _ _ _ e4, FM.pack_next _ _ _ _ _ e5]
  show some _ = _
  have f1 : s ||| c * 2 ^ 16 = s + c * 65536 := or_add s c 16 (by omega)
  have f2 : (s + c * 65536) ||| l * 2 ^ 32 = s + c * 65536 + l * 4294967296 := or_add _ l 32 (by omega)
  have f3 : (s + c * 65536 + l * 4294967296) ||| 165 * 2 ^ 56 = s + c * 65536 + l * 4294967296 + 165 * 72057594037927936 := or_add _ 165 56 (by omega)
  have e : (0 ||| s * 2 ^ 0 ||| c * 2 ^ 16 ||| l * 2 ^ 32 ||| 0 * 2 ^ 40 ||| 165 * 2 ^ 56) = s + c * 65536 + l * 4294967296 + 165 * 72057594037927936 := by
    rw [Nat.zero_or, Nat.pow_zero, Nat.mul_one, f1, f2, Nat.zero_mul, Nat.or_zero, f3]
  refine (congrArg some e).trans (congrArg some ?_)
  unfold HM.word
  omega

def PackIs (W : Int) (w : World) (e : Ending) (w' : World) : Prop := e = .returned (.tuple #[.int .u64 W, .int .i64 0]) ∧ Below w.heap.size w w'

theorem pack_head (s c l : Int) (h1 : 0 ≤ s) (h2 : s < 65536) (h3 : 0 ≤ c) (h4 : c < 65536) (h5 : 0 ≤ l) (h6 : l < 256) (W : World) (a b : Nat)
    (ha : Whole W a 166 #[.int .i64 0, .int .i64 16, .int .i64 16, .int .i64 16, .int .i64 32, .int .i64 8, .int .i64 40, .int .i64 16, .int .i64 56, .int .i64 8])
    (hb : Whole W b 33 #[.int .u64 s, .int .u64 c, .int .u64 l, .int .u64 0, .int .u64 165]) :
    Calls Tryz.prog 78 #[.slice (some ⟨a, 0, none⟩) 5 5, .slice (some ⟨b, 0, none⟩) 5 5] W (PackIs (HM.word l c s) W) := by
  refine (pack_any _ 5 5 hfs _ 5 [s, c, l, 0, 165] W (by omega) (hfs_fs ha) (ns_five hb (of_word ⟨h1, by omega⟩) (of_word ⟨h3, by omega⟩) (of_word ⟨h5, by omega⟩) (by decide) (by decide)) hfs_apart).mono ?_
  rintro e w' ⟨h, hb⟩
  rw [hfs_pack s c l h1 h2 h3 h4 h5 h6] at h
  rcases h with ⟨V, hV, _, he⟩ | ⟨h, _⟩
  · injection hV with hV
    subst hV
    rw [Int.toNat_of_nonneg (by unfold HM.word; omega)] at he
    exact ⟨he, hb⟩
  · cases h

theorem pack_h1 (s c l : Int) (h1 : 0 ≤ s) (h2 : s < 65536) (h3 : 0 ≤ c) (h4 : c < 65536) (h5 : 0 ≤ l) (h6 : l < 256) (W : World) :
    Calls Tryz.prog 78 #[.slice (some ⟨W.heap.size, 0, none⟩) 5 5, .slice (some ⟨W.heap.size + 1, 0, none⟩) 5 5] ((W.alloc (.cells #[.int .i64 0, .int .i64 16, .int .i64 16, .int .i64 16, .int .i64 32, .int .i64 8, .int .i64 40, .int .i64 16, .int .i64 56, .int .i64 8] 166)).alloc (.cells #[.int .u64 s, .int .u64 c, .int .u64 l, .int .u64 0, .int .u64 165] 33)).drew (PackIs (HM.word l c s) W) :=
  (pack_head s c l h1 h2 h3 h4 h5 h6 _ _ _ ((Whole.fresh _ _ _).alloc _).drew (Whole.fresh' (by simp)).drew).mono fun _ _ ⟨h, hb⟩ => ⟨h, (((Below.refl _ _).alloc (Nat.le_refl _) _).alloc (by simp) _).drew.trans (hb.mono (by simp; omega))⟩
theorem pack_h2 (s c l : Int) (h1 : 0 ≤ s) (h2 : s < 65536) (h3 : 0 ≤ c) (h4 : c < 65536) (h5 : 0 ≤ l) (h6 : l < 256) (W : World) :
    Calls Tryz.prog 78 #[.slice (some ⟨W.heap.size + 1, 0, none⟩) 5 5, .slice (some ⟨W.heap.size, 0, none⟩) 5 5] ((W.alloc (.cells #[.int .u64 s, .int .u64 c, .int .u64 l, .int .u64 0, .int .u64 165] 33)).alloc (.cells #[.int .i64 0, .int .i64 16, .int .i64 16, .int .i64 16, .int .i64 32, .int .i64 8, .int .i64 40, .int .i64 16, .int .i64 56, .int .i64 8] 166)).drew (PackIs (HM.word l c s) W) :=
  (pack_head s c l h1 h2 h3 h4 h5 h6 _ _ _ (Whole.fresh' (by simp)).drew ((Whole.fresh _ _ _).alloc _).drew).mono fun _ _ ⟨h, hb⟩ => ⟨h, (((Below.refl _ _).alloc (Nat.le_refl _) _).alloc (by simp) _).drew.trans (hb.mono (by simp; omega))⟩
end Go.Proofs.YteneadimchhhhaaGreatDoor
/- The contracts of linkWord and Word of package header. -/
namespace Go.Proofs.YteneadimchhhhaaGreatDoor
open Go.RowKit

theorem ns_two {k : IntKind} {W : World} {b : Nat} {t : TypeId} {x y : Int} (h : Whole W b t #[.int k x, .int k y]) (hx : (Lit.int k x).wf = true) (hy : (Lit.int k y).wf = true) : NS k W W.heap.size (some ⟨b, 0, none⟩) 2 [x, y] := by
  refine ⟨rfl, by simp [hx, hy], fun _ => ⟨b, 0, rfl, h.lt, fun i f hi => ?_⟩⟩
  rw [Nat.zero_add, h.cell]
  match i, hi with
  | 0, hi => simp at hi; subst hi; rfl
  | 1, hi => simp at hi; subst hi; rfl
theorem tfs_pack (a b : Int) (h1 : 0 ≤ a) (h2 : a < 4294967296) (h3 : 0 ≤ b) (h4 : b < 4294967296) : FM.packGo 0 tfs [a, b] = some (a + b * 4294967296).toNat := by
  obtain ⟨a, rfl⟩ := Int.eq_ofNat_of_zero_le h1
  obtain ⟨b, rfl⟩ := Int.eq_ofNat_of_zero_le h3
  have e1 : FM.fits (a : Int) 32 = true := (FM.fits_iff _ _ (by omega)).2 (by simp; omega)
  have e2 : FM.fits (b : Int) 32 = true := (FM.fits_iff _ _ (by omega)).2 (by simp; omega)
  unfold tfs
  rw [FM.pack_next _ _ _ _ _ e1, FM.pack_next _ _ _ _ _ e2]
  show some _ = _
  have f1 : a ||| b * 2 ^ 32 = a + b * 4294967296 := or_add a b 32 (by omega)
  have e : (0 ||| a * 2 ^ 0 ||| b * 2 ^ 32) = a + b * 4294967296 := by
    rw [Nat.zero_or, Nat.pow_zero, Nat.mul_one, f1]
  refine (congrArg some e).trans (congrArg some ?_)
  omega
theorem pack_tok (a b : Int) (h1 : 0 ≤ a) (h2 : a < 4294967296) (h3 : 0 ≤ b) (h4 : b < 4294967296) (W : World) (f g : Nat)
    (hf : Whole W f 166 #[.int .i64 0, .int .i64 32, .int .i64 32, .int .i64 32]) (hg : Whole W g 33 #[.int .u64 a, .int .u64 b]) :
    Calls Tryz.prog 78 #[.slice (some ⟨f, 0, none⟩) 2 2, .slice (some ⟨g, 0, none⟩) 2 2] W (PackIs (a + b * 4294967296) W) := by
  refine (pack_any _ 2 2 tfs _ 2 [a, b] W (by omega) (tfs_fs hf) (ns_two hg (of_word ⟨h1, by omega⟩) (of_word ⟨h3, by omega⟩)) tfs_apart).mono ?_
  rintro e w' ⟨h, hb⟩
  rw [tfs_pack a b h1 h2 h3 h4] at h
  rcases h with ⟨V, hV, _, he⟩ | ⟨h, _⟩
  · injection hV with hV
    subst hV
    rw [Int.toNat_of_nonneg (by omega)] at he
    exact ⟨he, hb⟩
  · cases h
theorem pack_t1 (a b : Int) (h1 : 0 ≤ a) (h2 : a < 4294967296) (h3 : 0 ≤ b) (h4 : b < 4294967296) (W : World) :
    Calls Tryz.prog 78 #[.slice (some ⟨W.heap.size, 0, none⟩) 2 2, .slice (some ⟨W.heap.size + 1, 0, none⟩) 2 2] ((W.alloc (.cells #[.int .i64 0, .int .i64 32, .int .i64 32, .int .i64 32] 166)).alloc (.cells #[.int .u64 a, .int .u64 b] 33)).drew (PackIs (a + b * 4294967296) W) :=
  (pack_tok a b h1 h2 h3 h4 _ _ _ ((Whole.fresh _ _ _).alloc _).drew (Whole.fresh' (by simp)).drew).mono fun _ _ ⟨h, hb⟩ => ⟨h, (((Below.refl _ _).alloc (Nat.le_refl _) _).alloc (by simp) _).drew.trans (hb.mono (by simp; omega))⟩
theorem pack_t2 (a b : Int) (h1 : 0 ≤ a) (h2 : a < 4294967296) (h3 : 0 ≤ b) (h4 : b < 4294967296) (W : World) :
    Calls Tryz.prog 78 #[.slice (some ⟨W.heap.size + 1, 0, none⟩) 2 2, .slice (some ⟨W.heap.size, 0, none⟩) 2 2] ((W.alloc (.cells #[.int .u64 a, .int .u64 b] 33)).alloc (.cells #[.int .i64 0, .int .i64 32, .int .i64 32, .int .i64 32] 166)).drew (PackIs (a + b * 4294967296) W) :=
  (pack_tok a b h1 h2 h3 h4 _ _ _ (Whole.fresh' (by simp)).drew ((Whole.fresh _ _ _).alloc _).drew).mono fun _ _ ⟨h, hb⟩ => ⟨h, (((Below.refl _ _).alloc (Nat.le_refl _) _).alloc (by simp) _).drew.trans (hb.mono (by simp; omega))⟩

def EncIs (W E : Int) (w : World) (e : Ending) (w' : World) : Prop := e = .returned (.tuple #[.int .u64 W, .int .i64 E]) ∧ Below w.heap.size w w'

set_option maxHeartbeats 2000000 in
theorem linkWord_tok (I G a b : Int) (ha : a = (I + 2) % 4294967296) (hb : b = G % 4294967296) (w : World) :
    Calls Tryz.prog 98 #[.agg #[.int .i64 2, .int .i64 I, .int .i64 G]] w (EncIs (a + b * 4294967296) 0 w) := by
  have a1 : 0 ≤ a := by omega
  have a2 : a < 4294967296 := by omega
  have a3 : 0 ≤ b := by omega
  have a4 : b < 4294967296 := by omega
  have u1 : IntKind.u64.wrap (IntKind.u32.wrap (IntKind.i64.wrap (I + 2))) = a := by rw [IntKind.wrap_u64, IntKind.wrap_u32, IntKind.wrap_i64]; omega
  have u2 : IntKind.u64.wrap (IntKind.u32.wrap G) = b := by rw [IntKind.wrap_u64, IntKind.wrap_u32]; omega
  clear ha hb
  go_enter Tryz.func98, Tryz.ntmps98
  go_upto_region 7 with fail
  obtain ⟨w1, hw1⟩ : ∃ w1, w1 = w.alloc (.cells #[.int .i64 2, .int .i64 I, .int .i64 G] 37) := ⟨_, rfl⟩
  have hb1 : Below w.heap.size w w1 := by rw [hw1]; exact (Below.refl _ _).alloc (Nat.le_refl _) _
  have hw : Whole w1 w.heap.size 37 #[.int .i64 2, .int .i64 I, .int .i64 G] := by rw [hw1]; exact Whole.fresh _ _ _
  rw [← hw1]
  have HW := Lib.hid hw
  clear hw1 hw
  obtain ⟨c0, c1, c2⟩ := HW.out.cells3
  have hlt := HW.out.lt
  have hz := hb1.size
  go_region_held3 (fun w' => w'.cell? ⟨w.heap.size, 1, none⟩ = some (.int .i64 I) ∧ w'.cell? ⟨w.heap.size, 2, none⟩ = some (.int .i64 G)) (first | exact ⟨hx1, hx2⟩ | (simp [go_sem, World.cell?_alloc_lt, hlt, Nat.lt_succ_of_lt, c1, c2]))
      (first
        | (go_at_call 91; refine (tokenFields_any _).mono ?_; rintro e w' ⟨rfl, rfl⟩)
        | (go_at_call 78; (with_reducible refine (pack_t1 a b a1 a2 a3 a4 _).mono ?_); rintro e w2 ⟨rfl, hb2⟩; have hb3 : Below w1.heap.size w1 w2 := hb2; have hx1 := (hb3.cell (p := ⟨w.heap.size, 1, none⟩) hlt).trans c1; have hx2 := (hb3.cell (p := ⟨w.heap.size, 2, none⟩) hlt).trans c2)
        | (go_at_call 78; (with_reducible refine (pack_t2 a b a1 a2 a3 a4 _).mono ?_); rintro e w2 ⟨rfl, hb2⟩; have hb3 : Below w1.heap.size w1 w2 := hb2; have hx1 := (hb3.cell (p := ⟨w.heap.size, 1, none⟩) hlt).trans c1; have hx2 := (hb3.cell (p := ⟨w.heap.size, 2, none⟩) hlt).trans c2))
  all_goals (go_wp2_with fail; go_ret2; exact ⟨rfl, by first | exact hb1.trans (hb3.mono hb1.size) | exact (hb1.trans (hb3.mono hb1.size)).drew⟩)

set_option maxHeartbeats 1000000 in
theorem linkWord_low (K I G : Int) (h : K = 0 ∨ K = 1) (w : World) : Calls Tryz.prog 98 #[.agg #[.int .i64 K, .int .i64 I, .int .i64 G]] w (EncIs K 0 w) := by
  rcases h with rfl | rfl
  · go_enter Tryz.func98, Tryz.ntmps98
    go_wp2_with fail
    go_ret2
    exact ⟨rfl, (Below.refl _ _).alloc (Nat.le_refl _) _⟩
  · go_enter Tryz.func98, Tryz.ntmps98
    go_wp2_with fail
    go_ret2
    exact ⟨rfl, (Below.refl _ _).alloc (Nat.le_refl _) _⟩

set_option maxHeartbeats 1000000 in
theorem linkWord_no (K I G : Int) (h0 : K ≠ 0) (h1 : K ≠ 1) (h2 : K ≠ 2) (w : World) : Calls Tryz.prog 98 #[.agg #[.int .i64 K, .int .i64 I, .int .i64 G]] w (EncIs 0 3 w) := by
  have d0 : (K == 0) = false := by simpa using h0
  have d1 : (K == 1) = false := by simpa using h1
  have d2 : (K == 2) = false := by simpa using h2
  go_enter Tryz.func98, Tryz.ntmps98
  go_wp2_with fail
  go_ret2
  exact ⟨rfl, (Below.refl _ _).alloc (Nat.le_refl _) _⟩

/-- The word that a link has, as far as there is room for it. -/
def HM.rough (K I G : Int) : Int := if K = 2 then (I + 2) % 4294967296 + G % 4294967296 * 4294967296 else K
theorem linkWord_any (K I G : Int) (h : K = 0 ∨ K = 1 ∨ K = 2) (w : World) : Calls Tryz.prog 98 #[.agg #[.int .i64 K, .int .i64 I, .int .i64 G]] w (EncIs (HM.rough K I G) 0 w) := by
  unfold HM.rough
  by_cases h2 : K = 2
  · subst h2
    exact linkWord_tok I G _ _ rfl rfl w
  · rw [if_neg h2]
    exact linkWord_low K I G (by omega) w
theorem HM.rough_word (K I G : Int) (h : K = 0 ∨ K = 1 ∨ K = 2) : FM.Word (HM.rough K I G) := by
  unfold HM.rough FM.Word
  split <;> omega
theorem word_bad {K I G : Int} (h : ¬ (HM.kE (HM.rough K I G) = 0 ∧ HM.kK (HM.rough K I G) = K ∧ HM.kI (HM.rough K I G) = I ∧ HM.kG (HM.rough K I G) = G)) : HM.wW K I G = 0 ∧ HM.wE K I G = 3 := by
  have hm : ¬ HM.lmay K I G = true := by
    intro hm
    have e : HM.rough K I G = HM.lword K I G := by
      have h1 := (HM.lmay_iff _ _ _).1 hm
      unfold HM.rough HM.lword
      split <;> omega
    rw [e] at h
    exact h (HM.link_word hm)
  unfold HM.wW HM.wE
  rw [if_neg hm, if_neg hm]
  exact ⟨rfl, rfl⟩
theorem word_good {K I G x : Int} (h1 : HM.kE x = 0) (h2 : HM.kK x = K) (h3 : HM.kI x = I) (h4 : HM.kG x = G) : HM.wW K I G = x ∧ HM.wE K I G = 0 := by
  have hm := HM.word_link h1
  rw [h2, h3, h4] at hm
  unfold HM.wW HM.wE
  rw [if_pos hm.1, if_pos hm.1]
  exact ⟨hm.2, rfl⟩

set_option maxHeartbeats 2000000 in
theorem hword_in (K I G x k i g er : Int) (h : K = 0 ∨ K = 1 ∨ K = 2) (hx : x = HM.rough K I G) (hk : k = HM.kK x) (hi : i = HM.kI x) (hg : g = HM.kG x) (he : er = HM.kE x) (w : World) :
    Calls Tryz.prog 86 #[.agg #[.int .i64 K, .int .i64 I, .int .i64 G]] w (EncIs (HM.wW K I G) (HM.wE K I G) w) := by
  have C1 : ∀ W, Calls Tryz.prog 98 #[.agg #[.int .i64 K, .int .i64 I, .int .i64 G]] W (EncIs x 0 W) := by rw [hx]; exact linkWord_any K I G h
  have C2 : ∀ W, Calls Tryz.prog 77 #[.int .u64 x] W (LinkIs k i g er W) := by rw [hk, hi, hg, he]; exact hlink_any x (by rw [hx]; exact HM.rough_word K I G h)
  have HC1 := Lib.hid C1
  have HC2 := Lib.hid C2
  have HB := Lib.hid (show ¬ (er = 0 ∧ k = K ∧ i = I ∧ g = G) → HM.wW K I G = 0 ∧ HM.wE K I G = 3 from fun hn => word_bad (by rw [← hx, ← hk, ← hi, ← hg, ← he]; exact hn))
  have HG := Lib.hid (show er = 0 → k = K → i = I → g = G → HM.wW K I G = x ∧ HM.wE K I G = 0 from fun h1 h2 h3 h4 => word_good (he.symm.trans h1) (hk.symm.trans h2) (hi.symm.trans h3) (hg.symm.trans h4))
  clear C1 C2 h hx hk hi hg he
  go_enter Tryz.func86, Tryz.ntmps86
  go_wp2_with (first
    | (go_at_call 98; refine (HC1.out _).mono ?_; rintro e w1 ⟨rfl, hb1⟩; have hW := Lib.hid ((Whole.fresh w 37 #[.int .i64 K, .int .i64 I, .int .i64 G]).below hb1 (by simp)); have hbx : Below w.heap.size w w1 := ((Below.refl _ _).alloc (Nat.le_refl _) _).trans (hb1.mono (by simp)); clear hb1; have hlt := hW.out.lt)
    | (go_at_call 77; refine (HC2.out _).mono ?_; rintro e w2 ⟨rfl, hb2⟩; obtain ⟨c0, c1, c2⟩ := (hW.out.below hb2 hlt).cells3; have hb5 := hbx.trans (hb2.mono hbx.size); have hlt3 : w.heap.size < w2.heap.size := by have := hb2.size; omega))
  all_goals first
    | (have E := HG.out (by assumption) (by assumption) (by assumption) (by assumption); rw [E.1, E.2]; go_ret2; exact ⟨rfl, hb5.alloc hb5.size _⟩)
    | (have E := HB.out (by omega); rw [E.1, E.2]; go_ret2; first | exact ⟨rfl, hb5.alloc hb5.size _⟩ | exact ⟨rfl, hb5⟩)

set_option maxHeartbeats 1000000 in
theorem hword_no (K I G : Int) (h0 : K ≠ 0) (h1 : K ≠ 1) (h2 : K ≠ 2) (w : World) :
    Calls Tryz.prog 86 #[.agg #[.int .i64 K, .int .i64 I, .int .i64 G]] w (EncIs 0 3 w) := by
  have HC := Lib.hid (linkWord_no K I G h0 h1 h2)
  clear h0 h1 h2
  go_enter Tryz.func86, Tryz.ntmps86
  go_wp2_with fail
  refine (HC.out _).mono ?_
  rintro e w1 ⟨rfl, hb1⟩
  go_wp2_with fail
  go_ret2
  exact ⟨rfl, ((Below.refl _ _).alloc (Nat.le_refl _) _).trans (hb1.mono (by simp))⟩

theorem hword_any (K I G : Int) (w : World) : Calls Tryz.prog 86 #[.agg #[.int .i64 K, .int .i64 I, .int .i64 G]] w (EncIs (HM.wW K I G) (HM.wE K I G) w) := by
  by_cases h : K = 0 ∨ K = 1 ∨ K = 2
  · exact hword_in K I G _ _ _ _ _ h rfl rfl rfl rfl rfl w
  · have hm : ¬ HM.lmay K I G = true := by rw [HM.lmay_iff]; omega
    unfold HM.wW HM.wE
    rw [if_neg hm, if_neg hm]
    exact hword_no K I G (by omega) (by omega) (by omega) w
end Go.Proofs.YteneadimchhhhaaGreatDoor
/- The contract of Encode of package header. -/
namespace Go.Proofs.YteneadimchhhhaaGreatDoor
open Go.RowKit

theorem enc_bad {L C S l c s x : Int} (hl : l = L % 256) (hc : c = C % 65536) (hs : s = S % 65536) (hx : x = HM.word l c s) (h : ¬ (HM.hok x = true ∧ L = l ∧ C = c ∧ S = s)) : HM.eW L C S = 0 ∧ HM.eE L C S = 3 := by
  have hm : ¬ HM.may L C S = true := by
    intro hm
    have h1 := hm
    rw [HM.may_iff] at h1
    have e1 : L = l := by omega
    have e2 : C = c := by omega
    have e3 : S = s := by omega
    refine h ⟨?_, e1, e2, e3⟩
    rw [hx, ← e1, ← e2, ← e3]
    exact (HM.hok_word hm).1
  unfold HM.eW HM.eE
  rw [if_neg hm, if_neg hm]
  exact ⟨rfl, rfl⟩
theorem enc_good {L C S x : Int} (h1 : 0 ≤ S) (h2 : S < 65536) (h3 : 0 ≤ C) (h4 : C < 65536) (h5 : 0 ≤ L) (h6 : L < 256) (hx : x = HM.word L C S) (h : HM.hok x = true) : HM.eW L C S = x ∧ HM.eE L C S = 0 := by
  have hm : HM.may L C S = true := by
    subst hx
    rw [HM.hok_iff] at h
    rw [HM.may_iff]
    unfold HM.word at h
    omega
  unfold HM.eW HM.eE
  rw [if_pos hm, if_pos hm]
  exact ⟨hx.symm, rfl⟩

theorem hok_digits {x l c s : Int} (h : x = HM.word l c s) (a1 : 0 ≤ s) (a2 : s < 65536) (a3 : 0 ≤ c) (a4 : c < 65536) (a5 : 0 ≤ l) (a6 : l < 256) : x / 4294967296 % 256 = l ∧ x / 65536 % 65536 = c ∧ x % 65536 = s := by
  unfold HM.word at h
  omega



set_option maxHeartbeats 2000000 in
theorem hencode_go (L C S l c s : Int) (hl : l = L % 256) (hc : c = C % 65536) (hs : s = S % 65536) (w : World) :
    Calls Tryz.prog 49 #[.agg #[.int .i64 L, .int .i64 C, .int .i64 S]] w (EncIs (HM.eW L C S) (HM.eE L C S) w) := by
  have a1 : 0 ≤ s := by omega
  have a2 : s < 65536 := by omega
  have a3 : 0 ≤ c := by omega
  have a4 : c < 65536 := by omega
  have a5 : 0 ≤ l := by omega
  have a6 : l < 256 := by omega
  have u1 : IntKind.u64.wrap (IntKind.u16.wrap S) = s := by rw [IntKind.wrap_u64, IntKind.wrap_u16]; omega
  have u2 : IntKind.u64.wrap (IntKind.u16.wrap C) = c := by rw [IntKind.wrap_u64, IntKind.wrap_u16]; omega
  have u3 : IntKind.u64.wrap (IntKind.u8.wrap L) = l := by rw [IntKind.wrap_u64, IntKind.wrap_u8]; omega
  have U := Lib.hid (And.intro u1 (And.intro u2 u3))
  have HL := Lib.hid (And.intro hl (And.intro hc hs))
  clear u1 u2 u3 hl hc hs
  go_enter Tryz.func49, Tryz.ntmps49
  go_upto_region 1 with fail
  obtain ⟨w1, hw1⟩ : ∃ w1, w1 = w.alloc (.cells #[.int .i64 L, .int .i64 C, .int .i64 S] 32) := ⟨_, rfl⟩
  have hb1 : Below w.heap.size w w1 := by rw [hw1]; exact (Below.refl _ _).alloc (Nat.le_refl _) _
  have hw : Whole w1 w.heap.size 32 #[.int .i64 L, .int .i64 C, .int .i64 S] := by rw [hw1]; exact Whole.fresh _ _ _
  rw [← hw1]
  have HW := Lib.hid hw
  clear hw1 hw
  go_cut [4, 5] (fun s4 s5 wx => s4 = .int .u64 (HM.word l c s) ∧ s5 = .int .i64 0 ∧ Below w1.heap.size w1 wx)
  case first =>
    have u1 := U.out.1
    have u2 := U.out.2.1
    have u3 := U.out.2.2
    obtain ⟨c0, c1, c2⟩ := HW.out.cells3
    have hlt := HW.out.lt
    have hz := hb1.size
    go_region_held3 (fun w' => w'.cell? ⟨w.heap.size, 0, none⟩ = some (.int .i64 L) ∧ w'.cell? ⟨w.heap.size, 1, none⟩ = some (.int .i64 C) ∧ w'.cell? ⟨w.heap.size, 2, none⟩ = some (.int .i64 S)) (first | exact ⟨hx0, hx1, hx2⟩ | (simp [go_sem, World.cell?_alloc_lt, hlt, Nat.lt_succ_of_lt, c0, c1, c2]))
      (first
        | (go_at_call 79; refine (headerFields_any _).mono ?_; rintro e w' ⟨rfl, rfl⟩)
        | (go_at_call 78; (with_reducible refine (pack_h1 s c l a1 a2 a3 a4 a5 a6 _).mono ?_); rintro e w2 ⟨rfl, hb2⟩; have hb3 : Below w1.heap.size w1 w2 := hb2; have hx0 := (hb3.cell (p := ⟨w.heap.size, 0, none⟩) hlt).trans c0; have hx1 := (hb3.cell (p := ⟨w.heap.size, 1, none⟩) hlt).trans c1; have hx2 := (hb3.cell (p := ⟨w.heap.size, 2, none⟩) hlt).trans c2)
        | (go_at_call 78; (with_reducible refine (pack_h2 s c l a1 a2 a3 a4 a5 a6 _).mono ?_); rintro e w2 ⟨rfl, hb2⟩; have hb3 : Below w1.heap.size w1 w2 := hb2; have hx0 := (hb3.cell (p := ⟨w.heap.size, 0, none⟩) hlt).trans c0; have hx1 := (hb3.cell (p := ⟨w.heap.size, 1, none⟩) hlt).trans c1; have hx2 := (hb3.cell (p := ⟨w.heap.size, 2, none⟩) hlt).trans c2))
    all_goals (go_wp2_with fail; go_meet; exact ⟨rfl, rfl, by first | exact hb3 | exact hb3.drew⟩)
  case rest =>
    obtain ⟨rfl, rfl, hb2⟩ := hcut
    have hlt := HW.out.lt
    have HW2 := Lib.hid (HW.out.below hb2 hlt)
    have hb3 : Below w.heap.size w wc := hb1.trans (hb2.mono hb1.size)
    have hlt2 := HW2.out.lt
    have wwd : FM.Word (HM.word l c s) := by unfold HM.word FM.Word; omega
    have CD := hdecode_any (HM.word l c s) wwd wc
    clear U HW hb2
    obtain ⟨x, hx⟩ : ∃ x, x = HM.word l c s := ⟨_, rfl⟩
    rw [← hx] at CD ⊢
    by_cases hk : HM.hok x = true
    · have hd := hok_digits hx a1 a2 a3 a4 a5 a6
      unfold HM.dL HM.dC HM.dS HM.dE at CD
      rw [if_pos hk, if_pos hk, if_pos hk, if_pos hk, hd.1, hd.2.1, hd.2.2] at CD
      have HD := Lib.hid CD
      by_cases hm : L = l ∧ C = c ∧ S = s
      · obtain ⟨rfl, rfl, rfl⟩ := hm
        have HXk := Lib.hid (And.intro hx hk)
        clear hx hk hd CD
        go_wp2_with fail
        refine HD.out.mono ?_
        rintro e w2 ⟨rfl, hb4⟩
        obtain ⟨c0, c1, c2⟩ := (HW2.out.below hb4 hlt2).cells3
        have hb5 := hb3.trans (hb4.mono hb3.size)
        have hlt3 : w.heap.size < w2.heap.size := by have := hb4.size; omega
        go_wp2_with fail
        go_ret2
        have E := enc_good a1 a2 a3 a4 a5 a6 HXk.out.1 HXk.out.2
        rw [E.1, E.2]
        exact ⟨rfl, hb5.alloc hb5.size _⟩
      · have HXk := Lib.hid (And.intro hx (And.intro hk hm))
        clear hx hk hd CD hm
        go_wp2_with fail
        refine HD.out.mono ?_
        rintro e w2 ⟨rfl, hb4⟩
        obtain ⟨c0, c1, c2⟩ := (HW2.out.below hb4 hlt2).cells3
        have hb5 := hb3.trans (hb4.mono hb3.size)
        have hlt3 : w.heap.size < w2.heap.size := by have := hb4.size; omega
        go_wp2_with fail
        all_goals first
          | (exfalso; have := HXk.out.2.2; omega)
          | (go_ret2
             have E := enc_bad HL.out.1 HL.out.2.1 HL.out.2.2 HXk.out.1 (fun h => HXk.out.2.2 h.2)
             rw [E.1, E.2]
             exact ⟨rfl, hb5.alloc hb5.size _⟩)
    · unfold HM.dL HM.dC HM.dS HM.dE at CD
      rw [if_neg hk, if_neg hk, if_neg hk, if_neg hk] at CD
      have HD := Lib.hid CD
      have HXk := Lib.hid (And.intro hx hk)
      clear hx hk CD
      go_wp2_with fail
      refine HD.out.mono ?_
      rintro e w2 ⟨rfl, hb4⟩
      obtain ⟨c0, c1, c2⟩ := (HW2.out.below hb4 hlt2).cells3
      have hb5 := hb3.trans (hb4.mono hb3.size)
      have hlt3 : w.heap.size < w2.heap.size := by have := hb4.size; omega
      go_wp2_with fail
      go_ret2
      have E := enc_bad HL.out.1 HL.out.2.1 HL.out.2.2 HXk.out.1 (fun h => HXk.out.2 h.1)
      rw [E.1, E.2]
      exact ⟨rfl, hb5.alloc hb5.size _⟩

theorem hencode_any (L C S : Int) (w : World) : Calls Tryz.prog 49 #[.agg #[.int .i64 L, .int .i64 C, .int .i64 S]] w (EncIs (HM.eW L C S) (HM.eE L C S) w) := hencode_go L C S _ _ _ rfl rfl rfl w
end Go.Proofs.YteneadimchhhhaaGreatDoor
