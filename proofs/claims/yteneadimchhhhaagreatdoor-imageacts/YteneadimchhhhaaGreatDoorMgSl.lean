/- Texts of this claim, laid into one file. -/
import Derived.Test.YteneadimchhhhaaGreatDoorRows
import Derived.Test.YteneadimchhhhaaGreatDoorMgBase
import Derived.Test.YteneadimchhhhaaGreatDoorMgLyMath
import Derived.WalkKit
import Derived.ProofKit
import Derived.OpenShut
import Derived.ShutString
import Derived.ChangeOld
import Derived.Below
import Derived.Lib.SmallJoins
import Derived.Deep.SlicePairs
import Derived.WalkSpells
import Derived.WalkLawsBesides
import Derived.Deep.RegionHeld3
import Derived.RowKit3
import Derived.Lib.Hide
import Derived.Deep.QuietTactic
import Derived.BigQuiet
import Derived.IntWalk
import Derived.Deep.DeepCutAuto
import Derived.Maps.AppendAt
import Derived.Laws.AppendOwnNone
import Derived.WalkSmall
/- Words for slices of fields and of numbers that read as lists, nil let in; how the laws' arguments are opened to them. -/
namespace Go.Proofs.YteneadimchhhhaaGreatDoor
open Go.ChangeShapes Go.WideShapes Go.ChangeAt Go.RowKit Go.Joins Go.Deep

/-- A slice of fields that reads as the list fs, its memory below block B. -/
def FS (w : World) (B : Nat) (A : Option Addr) (n : Nat) (fs : List (Int × Int)) : Prop :=
  fs.length = n ∧ (0 < n → ∃ b off, A = some ⟨b, off, none⟩ ∧ b < B ∧ ∀ i f, fs[i]? = some f → w.cell? ⟨b, off + i * 2, none⟩ = some (.int .i64 f.1) ∧ w.cell? ⟨b, off + i * 2 + 1, none⟩ = some (.int .i64 f.2))

theorem FS.below {w w' : World} {B n : Nat} {A : Option Addr} {fs : List (Int × Int)} (h : FS w B A n fs) (hb : Below B w w') : FS w' B A n fs := by
  refine ⟨h.1, fun hn => ?_⟩
  obtain ⟨b, off, e, hlt, hc⟩ := h.2 hn
  exact ⟨b, off, e, hlt, fun i f hi => ⟨(hb.cell (p := ⟨b, _, none⟩) hlt).trans (hc i f hi).1, (hb.cell (p := ⟨b, _, none⟩) hlt).trans (hc i f hi).2⟩⟩
theorem FS.more {w : World} {B B' n : Nat} {A : Option Addr} {fs : List (Int × Int)} (h : FS w B A n fs) (hB : B ≤ B') : FS w B' A n fs := by
  refine ⟨h.1, fun hn => ?_⟩
  obtain ⟨b, off, e, hlt, hc⟩ := h.2 hn
  exact ⟨b, off, e, by omega, hc⟩
theorem FS.take {w : World} {B n m : Nat} {A : Option Addr} {fs : List (Int × Int)} (h : FS w B A n fs) (hm : m ≤ n) : FS w B A m (fs.take m) := by
  refine ⟨by rw [List.length_take, h.1]; omega, fun hn => ?_⟩
  obtain ⟨b, off, e, hlt, hc⟩ := h.2 (by omega)
  refine ⟨b, off, e, hlt, fun i f hi => hc i f ?_⟩
  rw [List.getElem?_take] at hi
  split at hi
  · exact hi
  · cases hi
theorem FS.at_ {w : World} {B n k : Nat} {A : Option Addr} {fs : List (Int × Int)} (h : FS w B A n fs) (hk : k < n) : ∃ b off a c, A = some ⟨b, off, none⟩ ∧ b < B ∧ fs.drop k = (a, c) :: fs.drop (k + 1) ∧
    w.cell? ⟨b, off + k * 2, none⟩ = some (.int .i64 a) ∧ w.cell? ⟨b, off + k * 2 + 1, none⟩ = some (.int .i64 c) := by
  obtain ⟨b, off, e, hlt, hc⟩ := h.2 (by omega)
  have hl : k < fs.length := by have := h.1; omega
  have := hc k fs[k] (List.getElem?_eq_getElem hl)
  exact ⟨b, off, fs[k].1, fs[k].2, e, hlt, FM.drop_cons fs k hl, this.1, this.2⟩

/-- A slice of numbers that reads as the list xs, its memory below block B. -/
def NS (k : IntKind) (w : World) (B : Nat) (A : Option Addr) (n : Nat) (xs : List Int) : Prop :=
  xs.length = n ∧ (∀ x ∈ xs, (Lit.int k x).wf = true) ∧ (0 < n → ∃ b off, A = some ⟨b, off, none⟩ ∧ b < B ∧ ∀ i x, xs[i]? = some x → w.cell? ⟨b, off + i, none⟩ = some (.int k x))

theorem NS.below {k : IntKind} {w w' : World} {B n : Nat} {A : Option Addr} {xs : List Int} (h : NS k w B A n xs) (hb : Below B w w') : NS k w' B A n xs := by
  refine ⟨h.1, h.2.1, fun hn => ?_⟩
  obtain ⟨b, off, e, hlt, hc⟩ := h.2.2 hn
  exact ⟨b, off, e, hlt, fun i f hi => (hb.cell (p := ⟨b, _, none⟩) hlt).trans (hc i f hi)⟩
theorem NS.more {k : IntKind} {w : World} {B B' n : Nat} {A : Option Addr} {xs : List Int} (h : NS k w B A n xs) (hB : B ≤ B') : NS k w B' A n xs := by
  refine ⟨h.1, h.2.1, fun hn => ?_⟩
  obtain ⟨b, off, e, hlt, hc⟩ := h.2.2 hn
  exact ⟨b, off, e, by omega, hc⟩
theorem NS.take {k : IntKind} {w : World} {B n m : Nat} {A : Option Addr} {xs : List Int} (h : NS k w B A n xs) (hm : m ≤ n) : NS k w B A m (xs.take m) := by
  refine ⟨by rw [List.length_take, h.1]; omega, fun x hx => h.2.1 x (List.mem_of_mem_take hx), fun hn => ?_⟩
  obtain ⟨b, off, e, hlt, hc⟩ := h.2.2 (by omega)
  refine ⟨b, off, e, hlt, fun i f hi => hc i f ?_⟩
  rw [List.getElem?_take] at hi
  split at hi
  · exact hi
  · cases hi
theorem NS.at_ {k : IntKind} {w : World} {B n i : Nat} {A : Option Addr} {xs : List Int} (h : NS k w B A n xs) (hk : i < n) : ∃ b off x, A = some ⟨b, off, none⟩ ∧ b < B ∧ xs.drop i = x :: xs.drop (i + 1) ∧ (Lit.int k x).wf = true ∧
    w.cell? ⟨b, off + i, none⟩ = some (.int k x) := by
  obtain ⟨b, off, e, hlt, hc⟩ := h.2.2 (by omega)
  have hl : i < xs.length := by have := h.1; omega
  have := hc i xs[i] (List.getElem?_eq_getElem hl)
  exact ⟨b, off, xs[i], e, hlt, FM.drop_cons xs i hl, h.2.1 _ (List.getElem_mem hl), this⟩
theorem word_of {x : Int} (h : (Lit.int .u64 x).wf = true) : FM.Word x := by have := bounds_u64 h; constructor <;> omega
theorem of_word {x : Int} (h : FM.Word x) : (Lit.int .u64 x).wf = true := by
  obtain ⟨h1, h2⟩ := h
  have e1 : IntKind.u64.min = 0 := by decide
  have e2 : IntKind.u64.max = 18446744073709551615 := by decide
  simp [Lit.wf, e1, e2]
  omega

section
variable {H : Type} {enc : TypeId × Value → H} {P : Program} {w : World} {spare : Nat → Bool} {held : Bool}
theorem addr_plain {a : Addr} {i : Nat} {v : Value} (h : w.cell? (a.add i) = some v) : a.add i = ⟨a.block, a.off + i, none⟩ := by
  have hs := World.cell?_spot h
  obtain ⟨b, off, spot⟩ := a
  unfold Addr.add at hs ⊢
  by_cases hi : i = 0
  · subst hi
    simp at hs
    simp [hs]
  · simp [hi]
theorem addr_zero {a : Addr} {v : Value} (h : w.cell? (a.add 0) = some v) : a = ⟨a.block, a.off, none⟩ := by
  have := addr_plain h
  simpa [Addr.add] using this

theorem cell_lt {a : Addr} {v : Value} (h : w.cell? a = some v) : a.block < w.heap.size := by
  rcases Nat.lt_or_ge a.block w.heap.size with hl | hg
  · exact hl
  · simp [World.cell?, Array.getElem?_eq_none hg] at h

theorem open_fields {t e u : TypeId} {f0 f1 : Field} {A : Option Addr} {n c : Nat} {d : DataW H} {p : List MemPlace} (ht : P.underlying t = some (.slice e)) (he : P.underlying e = some (.struct #[f0, f1])) (hu : P.underlying u = some (.int .i64))
    (t0 : f0.type = u) (t1 : f1.type = u) (ce : P.cellsOf e = 2) (o0 : f0.offset = 0) (o1 : f1.offset = 1) (cu : P.cellsOf u = 1)
    (h : DataW.Trod enc P w 0 spare held t (.slice A n c) d p) : ∃ fs, FS w w.heap.size A n fs ∧ n ≤ c := by
  obtain ⟨fuel, hf⟩ := h
  rcases open_slice_pairs ht he ce o0 o1 (by rw [t0]; exact cu) (by rw [t1]; exact cu) hf with ⟨hcs, _⟩ | ⟨a, len, cap, m, n', V0, V1, D0, D1, P0, P1, hcs, _, hl, hm, hmm, _, hi⟩
  · simp [Value.cells] at hcs
    obtain ⟨rfl, rfl, rfl⟩ := hcs
    exact ⟨[], ⟨rfl, fun h => absurd h (by omega)⟩, Nat.le_refl _⟩
  · simp [Value.cells] at hcs
    obtain ⟨rfl, rfl, rfl⟩ := hcs
    have hlm : n ≤ m := by rw [hmm]; split <;> omega
    have hg : ∀ i, i < n → ∃ f : Int × Int, w.cell? ⟨a.block, a.off + i * 2, none⟩ = some (.int .i64 f.1) ∧ w.cell? ⟨a.block, a.off + i * 2 + 1, none⟩ = some (.int .i64 f.2) := by
      intro i hin
      obtain ⟨h0, h1, g0, g1⟩ := hi i (by omega)
      rw [t0] at g0
      rw [t1] at g1
      obtain ⟨x, ex, _, _⟩ := DataW.trod_int hu g0
      obtain ⟨y, ey, _, _⟩ := DataW.trod_int hu g1
      simp at ex ey
      rw [ex, addr_plain h0] at h0
      rw [ey, addr_plain h1, ← Nat.add_assoc] at h1
      exact ⟨(x, y), h0, h1⟩
    obtain ⟨q, hq⟩ := choose_lt hg
    refine ⟨(List.range n).map q, ⟨by simp, fun hn => ?_⟩, hl⟩
    obtain ⟨h0, _⟩ := hi 0 (by omega)
    rw [Nat.zero_mul] at h0
    refine ⟨a.block, a.off, by rw [← addr_zero h0], ?_, fun i f hif => ?_⟩
    · have := cell_lt h0
      rw [addr_plain h0] at this
      exact this
    · simp only [List.getElem?_map, Option.map_eq_some_iff] at hif
      obtain ⟨j, hj, rfl⟩ := hif
      have hjn : i < n := by
        rcases Nat.lt_or_ge i n with h | h
        · exact h
        · rw [List.getElem?_eq_none (by simpa using h)] at hj; cases hj
      rw [List.getElem?_range hjn] at hj
      injection hj with hj
      subst hj
      exact hq i hjn

theorem open_arr2 {r : Reach} {b0 base : Nat} {t e : TypeId} {k : IntKind} {v : Value} {d : DataW H} {p : List MemPlace} (ht : P.underlying t = some (.array 2 e)) (he : P.underlying e = some (.int k)) (ce : P.cellsOf e = 1) (ct : P.cellsOf t = 2)
    (hv : Value.okWide P w r b0 t v) (h : DataW.Trod enc P w base spare held t v d p) : ∃ x y, v = .agg #[.int k x, .int k y] ∧ (Lit.int k x).wf = true ∧ (Lit.int k y).wf = true := by
  simp only [Value.okWide, ht] at hv
  obtain ⟨⟨l⟩, rfl, hsz, _⟩ := hv
  match l, hsz.trans ct with
  | [c0, c1], _ =>
    obtain ⟨fuel, hf⟩ := h
    obtain ⟨xs, m, _, _, _, hlen, hg⟩ := DataW.trod_array ht hf
    match xs, hlen with
    | [y0, y1], _ =>
      have g0 := hg 0 (by omega)
      have g1 := hg 1 (by omega)
      simp [ce, Value.cells] at g0 g1
      obtain ⟨x, ex, _, wx⟩ := DataW.trod_int he g0
      obtain ⟨y, ey, _, wy⟩ := DataW.trod_int he g1
      simp at ex ey
      subst ex ey
      exact ⟨x, y, rfl, wx, wy⟩

theorem open_nums {t e : TypeId} {k : IntKind} {A : Option Addr} {n c : Nat} {d : DataW H} {p : List MemPlace} (ht : P.underlying t = some (.slice e)) (he : P.underlying e = some (.int k)) (ce : P.cellsOf e = 1)
    (h : DataW.Trod enc P w 0 spare held t (.slice A n c) d p) : ∃ xs, NS k w w.heap.size A n xs ∧ n ≤ c := by
  obtain ⟨fuel, hf⟩ := h
  rcases open_ints ht he ce hf with ⟨hcs, _⟩ | ⟨a, l, c', zs, hcs, _, hl, hm, hz, _, hcell, hwz⟩
  · simp [Value.cells] at hcs
    obtain ⟨rfl, rfl, rfl⟩ := hcs
    exact ⟨[], ⟨rfl, by simp, fun h => absurd h (by omega)⟩, Nat.le_refl _⟩
  · simp [Value.cells] at hcs
    obtain ⟨rfl, rfl, rfl⟩ := hcs
    have hlm : n ≤ zs.length := by rw [hz]; split <;> omega
    refine ⟨zs.take n, ⟨by simp; omega, fun x hx => hwz x (List.mem_of_mem_take hx), fun hn => ?_⟩, hl⟩
    have h0 := hcell 0 (by omega)
    refine ⟨a.block, a.off, by rw [← addr_zero h0], ?_, fun i x hx => ?_⟩
    · have := cell_lt h0
      rw [addr_plain h0] at this
      exact this
    · rw [List.getElem?_take] at hx
      split at hx
      · have hil : i < zs.length := by omega
        have hi := hcell i hil
        rw [addr_plain hi] at hi
        rw [List.getElem?_eq_getElem hil] at hx
        injection hx with hx
        simpa [List.getElem?_eq_getElem hil, hx] using hi
      · cases hx
end

theorem cellsField : Tryz.prog.cellsOf 166 = 2 := by kernel_rfl

end Go.Proofs.YteneadimchhhhaaGreatDoor
/- Contracts of the small functions of package field and of the document's answers for it: what each call returns, in what world. No conditions but those each theorem names. -/
namespace Go.Proofs.YteneadimchhhhaaGreatDoor
open Go.RowKit


set_option maxHeartbeats 400000 in
theorem greatest_any (a b : Int) (h1 : 1 ≤ b) (h2 : b ≤ 64) (w : World) :
    Calls Tryz.prog 94 #[.agg #[.int .i64 a, .int .i64 b]] w fun e w' => e = .returned (.int .u64 (FM.gr b)) ∧ w.alloc (.cells #[.int .i64 a, .int .i64 b] 166) = w' := by
  go_enter Tryz.func94, Tryz.ntmps94
  go_wp2
  go_ret
  exact ⟨ret_int (FM.gr_eq b h1 h2), rfl⟩

set_option maxHeartbeats 400000 in
theorem right_any (a b : Int) (w : World) :
    Calls Tryz.prog 102 #[.agg #[.int .i64 a, .int .i64 b]] w fun e w' => e = .returned (.bool (FM.right a b)) ∧ w.alloc (.cells #[.int .i64 a, .int .i64 b] 166) = w' := by
  go_enter Tryz.func102, Tryz.ntmps102
  go_wp2
  all_goals go_ret
  all_goals refine ⟨ret_bool ?_, rfl⟩
  all_goals (unfold FM.right; rw [Bool.eq_iff_iff]; simp [*]; try omega)

set_option maxHeartbeats 400000 in
theorem numberIn_any (x a b : Int) (hx : FM.Word x) (h3 : 0 ≤ a) (h4 : a ≤ 63) (h1 : 1 ≤ b) (h2 : b ≤ 64) (w : World) :
    Calls Tryz.prog 99 #[.int .u64 x, .agg #[.int .i64 a, .int .i64 b]] w fun e w' => e = .returned (.int .u64 (FM.num x a b)) ∧ Below w.heap.size w w' := by
  go_enter Tryz.func99, Tryz.ntmps99
  go_wp2
  go_region_held3 (fun w' => w'.cell? ⟨w.heap.size, 0, none⟩ = some (.int .i64 a) ∧ w'.cell? ⟨w.heap.size, 1, none⟩ = some (.int .i64 b)) (simp [go_sem, World.cell?_alloc_past])
    (first
      | (go_at_call 94; refine (greatest_any a b h1 h2 _).mono ?_; rintro e w' ⟨rfl, rfl⟩))
  go_wp2
  go_ret
  exact ⟨ret_int (FM.num_eq x a b hx h2), (((Below.refl _ _).alloc (Nat.le_refl _) _).alloc (by simp) _).drew⟩

set_option maxHeartbeats 400000 in
theorem bitsOf_any (a b : Int) (h : FM.right a b = true) (w : World) :
    Calls Tryz.prog 103 #[.agg #[.int .i64 a, .int .i64 b]] w fun e w' => e = .returned (.int .u64 (FM.bo a b)) ∧ Below w.heap.size w w' := by
  obtain ⟨h1, h2, h3, h4⟩ := (FM.right_iff a b).1 h
  have h5 : b ≤ 64 := by omega
  have H := Lib.hid h
  clear h
  go_enter Tryz.func103, Tryz.ntmps103
  go_wp2
  go_region_held3 (fun w' => w'.cell? ⟨w.heap.size, 0, none⟩ = some (.int .i64 a) ∧ w'.cell? ⟨w.heap.size, 1, none⟩ = some (.int .i64 b)) (simp [go_sem, World.cell?_alloc_past])
    (first
      | (go_at_call 94; refine (greatest_any a b h3 h5 _).mono ?_; rintro e w' ⟨rfl, rfl⟩))
  go_wp2
  go_ret
  exact ⟨ret_int (FM.shl_gr a b H.out), (((Below.refl _ _).alloc (Nat.le_refl _) _).alloc (by simp) _).drew⟩

end Go.Proofs.YteneadimchhhhaaGreatDoor
/- Contracts of field.Put: each of its three ways. -/
namespace Go.Proofs.YteneadimchhhhaaGreatDoor
open Go.RowKit

theorem ret_int2 {k l : IntKind} {a b c : Int} (h : a = b) : Ending.returned (.tuple #[.int k a, .int l c]) = .returned (.tuple #[.int k b, .int l c]) := by rw [h]
theorem bcell {W w1 : World} (hb : Below W.heap.size W w1) : (∀ b o, b < W.heap.size → w1.cell? ⟨b, o, none⟩ = W.cell? ⟨b, o, none⟩) ∧ (∀ b o, b < W.heap.size → w1.frozen? ⟨b, o, none⟩ = W.frozen? ⟨b, o, none⟩) :=
  ⟨fun b o h => hb.cell (p := ⟨b, o, none⟩) h, fun b o h => hb.frozen (p := ⟨b, o, none⟩) h⟩

end Go.Proofs.YteneadimchhhhaaGreatDoor
/- Contracts of the small functions of package layout and of the document's answers for it: what each call returns, in what world. -/
namespace Go.Proofs.YteneadimchhhhaaGreatDoor
open Go.RowKit

set_option maxHeartbeats 400000 in
theorem lrise_any (A : Option Addr) (n c : Nat) (xs : List Int) (K : Int) (B : Nat) (w : World) (hn : n ≤ 1000000) (hK : I64 K) (h : NS .i64 w B A n xs) :
    Calls Tryz.prog 85 #[.slice A n c, .int .i64 K] w fun e w' => e = .returned (.bool (LM.rise 0 K xs)) ∧ w = w' := by
  obtain ⟨hK1, hK2⟩ := hK
  have HN := Lib.hid h
  clear h
  go_enter Tryz.func85, Tryz.ntmps85
  go_wp2
  go_loop [5, 10] (fun t i => ∃ (k : Nat) (lo : Int), k ≤ n ∧ i = .int .i64 k ∧ t = .int .i64 lo ∧ Hid (LM.rise 0 K xs = LM.rise lo K (xs.drop k))) (fun _ i => n - (intOf i).toNat)
  case atStart => exact ⟨0, 0, Nat.zero_le _, rfl, rfl, rfl⟩
  case round =>
    obtain ⟨k, lo, hk, rfl, rfl, HR⟩ := hrel
    by_cases hlt : k < n
    · obtain ⟨b, off, p, rfl, hbB, hd, hwf, hc⟩ := HN.out.at_ hlt
      have hp := bounds_i64 hwf
      have HD := Lib.hid hd
      clear hd hwf
      by_cases h1 : p < lo
      · have d1 : decide (p < lo) = true := by simpa using h1
        go_wp2
        go_ret
        exact ⟨ret_bool (by rw [HR.out, HD.out, LM.rise_low _ _ _ _ h1]), rfl⟩
      · have d1 : decide (p < lo) = false := by simpa using h1
        by_cases h2 : K ≤ p
        · have d2 : decide (K ≤ p) = true := by simpa using h2
          go_wp2
          go_ret
          exact ⟨ret_bool (by rw [HR.out, HD.out, LM.rise_high _ _ _ _ h2]), rfl⟩
        · have d2 : decide (K ≤ p) = false := by simpa using h2
          go_wp2
          go_round
          case rel => exact ⟨k + 1, p + 1, by omega, by go_num, rfl, by rw [HR.out, HD.out, LM.rise_next _ _ _ _ (by omega) (by omega)]; exact rfl⟩
          case measure => simp [intOf]; omega
    · go_wp2
      go_ret
      have hl := HN.out.1
      exact ⟨ret_bool (by rw [HR.out, List.drop_eq_nil_of_le (by omega)]; rfl), rfl⟩

set_option maxHeartbeats 400000 in
theorem refRise_any (A : Option Addr) (n c : Nat) (xs : List Int) (K : Int) (B : Nat) (w : World) (hn : n ≤ 1000000) (h : NS .i64 w B A n xs) :
    Calls Tryz.prog 55 #[.slice A n c, .int .i64 K] w fun e w' => e = .returned (.bool (LM.rise 0 K xs)) ∧ w = w' := by
  have HN := Lib.hid h
  clear h
  go_enter Tryz.func55, Tryz.ntmps55
  go_wp2
  go_loop [5, 6] (fun t i => ∃ (k : Nat) (lo : Int), k ≤ n ∧ i = .int .i64 k ∧ t = .int .i64 lo ∧ Hid (LM.rise 0 K xs = LM.rise (lo + 1) K (xs.drop k))) (fun _ i => n - (intOf i).toNat)
  case atStart => exact ⟨0, -1, Nat.zero_le _, rfl, rfl, rfl⟩
  case round =>
    obtain ⟨k, lo, hk, rfl, rfl, HR⟩ := hrel
    by_cases hlt : k < n
    · obtain ⟨b, off, p, rfl, hbB, hd, hwf, hc⟩ := HN.out.at_ hlt
      have hp := bounds_i64 hwf
      have HD := Lib.hid hd
      clear hd hwf
      by_cases h1 : p ≤ lo
      · have d1 : decide (p ≤ lo) = true := by simpa using h1
        go_wp2
        go_ret
        exact ⟨ret_bool (by rw [HR.out, HD.out, LM.rise_low _ _ _ _ (by omega)]), rfl⟩
      · have d1 : decide (p ≤ lo) = false := by simpa using h1
        by_cases h2 : K ≤ p
        · have d2 : decide (K ≤ p) = true := by simpa using h2
          go_wp2
          go_ret
          exact ⟨ret_bool (by rw [HR.out, HD.out, LM.rise_high _ _ _ _ h2]), rfl⟩
        · have d2 : decide (K ≤ p) = false := by simpa using h2
          go_wp2
          go_round
          case rel => exact ⟨k + 1, p, by omega, by go_num, rfl, by rw [HR.out, HD.out, LM.rise_next _ _ _ _ (by omega) (by omega)]; exact rfl⟩
          case measure => simp [intOf]; omega
    · go_wp2
      go_ret
      have hl := HN.out.1
      exact ⟨ret_bool (by rw [HR.out, List.drop_eq_nil_of_le (by omega)]; rfl), rfl⟩

/-- Where a number stands first, or -1. -/
def firstIdx (x : Int) : List Int → Nat → Int
  | [], _ => -1
  | y :: t, k => if x = y then k else firstIdx x t (k + 1)
theorem firstIdx_has (x : Int) : ∀ (xs : List Int) (k : Nat), decide (0 ≤ firstIdx x xs k) = LM.has xs x := by
  intro xs
  induction xs with
  | nil => intro k; simp [firstIdx, LM.has]
  | cons y t ih =>
    intro k
    unfold firstIdx
    by_cases e : x = y
    · subst e
      rw [if_pos rfl, Bool.eq_iff_iff, LM.has_iff]
      simp
    · rw [if_neg e, ih, Bool.eq_iff_iff, LM.has_iff, LM.has_iff]
      simp [e]

set_option maxHeartbeats 400000 in
theorem index_any (A : Option Addr) (n c : Nat) (xs : List Int) (x : Int) (B : Nat) (w : World) (hn : n ≤ 1000000) (h : NS .i64 w B A n xs) :
    Calls Tryz.prog 105 #[.slice A n c, .int .i64 x] w fun e w' => e = .returned (.int .i64 (firstIdx x xs 0)) ∧ w = w' := by
  have HN := Lib.hid h
  clear h
  go_enter Tryz.func105, Tryz.ntmps105
  go_wp2
  go_loop [8] (fun i => ∃ (k : Nat), k ≤ n ∧ i = .int .i64 k ∧ Hid (firstIdx x xs 0 = firstIdx x (xs.drop k) k)) (fun i => n - (intOf i).toNat)
  case atStart => exact ⟨0, Nat.zero_le _, rfl, rfl⟩
  case round =>
    obtain ⟨k, hk, rfl, HR⟩ := hrel
    by_cases hlt : k < n
    · obtain ⟨b, off, p, rfl, hbB, hd, hwf, hc⟩ := HN.out.at_ hlt
      have HD := Lib.hid hd
      clear hd hwf
      by_cases h1 : x = p
      · have d1 : (x == p) = true := by simpa using h1
        have H1 := Lib.hid h1
        clear h1
        go_wp2
        go_ret
        exact ⟨ret_int (by rw [HR.out, HD.out, firstIdx, if_pos H1.out]), rfl⟩
      · have d1 : (x == p) = false := by simpa using h1
        have H1 := Lib.hid h1
        clear h1
        go_wp2
        go_round
        case rel => exact ⟨k + 1, by omega, by go_num, by rw [HR.out, HD.out, firstIdx, if_neg H1.out]; exact rfl⟩
        case measure => simp [intOf]; omega
    · go_wp2
      go_ret
      have hl := HN.out.1
      exact ⟨ret_int (by rw [HR.out, List.drop_eq_nil_of_le (by omega)]; rfl), rfl⟩

set_option maxHeartbeats 400000 in
theorem contains_any (A : Option Addr) (n c : Nat) (xs : List Int) (x : Int) (B : Nat) (w : World) (hn : n ≤ 1000000) (h : NS .i64 w B A n xs) :
    Calls Tryz.prog 101 #[.slice A n c, .int .i64 x] w fun e w' => e = .returned (.bool (LM.has xs x)) ∧ w = w' := by
  have HN := Lib.hid h
  clear h
  go_enter Tryz.func101, Tryz.ntmps101
  go_wp2_with (first
    | (go_at_call 105; refine (index_any A n c xs x B _ hn HN.out).mono ?_; rintro e w' ⟨rfl, rfl⟩))
  go_ret
  exact ⟨ret_bool (firstIdx_has x xs 0), rfl⟩

set_option maxHeartbeats 400000 in
theorem lhas_any (A : Option Addr) (n c : Nat) (xs : List Int) (x : Int) (B : Nat) (w : World) (hn : n ≤ 1000000) (h : NS .i64 w B A n xs) :
    Calls Tryz.prog 89 #[.slice A n c, .int .i64 x] w fun e w' => e = .returned (.bool (LM.has xs x)) ∧ w = w' := by
  have HN := Lib.hid h
  clear h
  go_enter Tryz.func89, Tryz.ntmps89
  go_wp2
  go_loop [5] (fun i => ∃ (k : Nat), k ≤ n ∧ i = .int .i64 k ∧ Hid (LM.has xs x = LM.has (xs.drop k) x)) (fun i => n - (intOf i).toNat)
  case atStart => exact ⟨0, Nat.zero_le _, rfl, rfl⟩
  case round =>
    obtain ⟨k, hk, rfl, HR⟩ := hrel
    by_cases hlt : k < n
    · obtain ⟨b, off, p, rfl, hbB, hd, hwf, hc⟩ := HN.out.at_ hlt
      have HD := Lib.hid hd
      clear hd hwf
      by_cases h1 : p = x
      · have d1 : (p == x) = true := by simpa using h1
        have H1 := Lib.hid h1
        clear h1
        go_wp2
        go_ret
        exact ⟨ret_bool (by rw [HR.out, HD.out, eq_comm, LM.has_iff, H1.out]; simp), rfl⟩
      · have d1 : (p == x) = false := by simpa using h1
        have H1 := Lib.hid h1
        clear h1
        go_wp2
        go_round
        case rel =>
          refine ⟨k + 1, by omega, by go_num, ?_⟩
          have := H1.out
          show LM.has xs x = _
          rw [HR.out, HD.out, Bool.eq_iff_iff, LM.has_iff, LM.has_iff]
          simp [Ne.symm this]
        case measure => simp [intOf]; omega
    · go_wp2
      go_ret
      have hl := HN.out.1
      exact ⟨ret_bool (by rw [HR.out, List.drop_eq_nil_of_le (by omega)]; rfl), rfl⟩

theorem NS.alloc {k : IntKind} {w : World} {B n : Nat} {A : Option Addr} {xs : List Int} (h : NS k w B A n xs) (hB : B ≤ w.heap.size) (o : Obj) : NS k (w.alloc o) B A n xs := h.below ((Below.refl B w).alloc hB o)

end Go.Proofs.YteneadimchhhhaaGreatDoor
/- Contracts of Right and Size, of package layout and of the document's answers. -/
namespace Go.Proofs.YteneadimchhhhaaGreatDoor
open Go.RowKit

theorem ne_true_false {b : Bool} (h : ¬ b = true) : b = false := by simpa using h

set_option maxHeartbeats 1000000 in
theorem lright_any (F R : Int) (A : Option Addr) (n c : Nat) (xs : List Int) (D : Option Addr) (m d : Nat) (ys : List Int) (B : Nat) (w : World) (hB : B ≤ w.heap.size) (hn : n ≤ 1000000) (hm : m ≤ 1000000)
    (hF : I64 F) (hR : I64 R) (hx : NS .i64 w B A n xs) (hy : NS .i64 w B D m ys) :
    Calls Tryz.prog 56 #[.agg #[.int .i64 F, .slice A n c, .int .i64 R, .slice D m d]] w fun e w' => e = .returned (.bool (LM.right F R xs ys)) ∧ w.alloc (.cells #[.int .i64 F, .slice A n c, .int .i64 R, .slice D m d] 70) = w' := by
  have HX := Lib.hid (fun o => hx.alloc hB o)
  have HY := Lib.hid (fun o => hy.alloc hB o)
  clear hx hy
  have HF := Lib.hid hF
  have HR := Lib.hid hR
  clear hF hR
  by_cases f0 : F < 0
  · have d0 : decide (F < 0) = true := by simpa using f0
    go_enter Tryz.func56, Tryz.ntmps56
    go_wp2
    go_ret
    exact ⟨ret_bool (by rw [LM.right_no (by omega)]), rfl⟩
  have d0 : decide (F < 0) = false := by simpa using f0
  by_cases f1 : 64 < F
  · have d1 : decide (64 < F) = true := by simpa using f1
    go_enter Tryz.func56, Tryz.ntmps56
    go_wp2
    go_ret
    exact ⟨ret_bool (by rw [LM.right_no (by omega)]), rfl⟩
  have d1 : decide (64 < F) = false := by simpa using f1
  by_cases f2 : R < 0
  · have d2 : decide (R < 0) = true := by simpa using f2
    go_enter Tryz.func56, Tryz.ntmps56
    go_wp2
    go_ret
    exact ⟨ret_bool (by rw [LM.right_no (by omega)]), rfl⟩
  have d2 : decide (R < 0) = false := by simpa using f2
  by_cases f3 : 64 < R
  · have d3 : decide (64 < R) = true := by simpa using f3
    go_enter Tryz.func56, Tryz.ntmps56
    go_wp2
    go_ret
    exact ⟨ret_bool (by rw [LM.right_no (by omega)]), rfl⟩
  have d3 : decide (64 < R) = false := by simpa using f3
  by_cases f4 : F = 0 ∧ R = 0
  · obtain ⟨rfl, rfl⟩ := f4
    go_enter Tryz.func56, Tryz.ntmps56
    go_wp2
    go_ret
    exact ⟨ret_bool (by rw [LM.right_no (by omega)]), rfl⟩
  have he : LM.right F R xs ys = (LM.rise 0 F xs && LM.rise 0 R ys) := LM.right_yes (by omega)
  have HE := Lib.hid he
  have d4 : (F == 0 && R == 0) = false := by simpa using f4
  have H4 := Lib.hid f4
  clear he f4
  have C1 := fun o => lrise_any A n c xs F B (w.alloc o) hn HF.out (HX.out o)
  have C2 := fun o => lrise_any D m d ys R B (w.alloc o) hm HR.out (HY.out o)
  by_cases r1 : LM.rise 0 F xs = true
  · simp only [r1] at C1
    by_cases r2 : LM.rise 0 R ys = true
    · simp only [r2] at C2
      have HC1 := Lib.hid C1
      have HC2 := Lib.hid C2
      have H1 := Lib.hid r1
      have H2 := Lib.hid r2
      clear C1 C2 r1 r2
      by_cases z : F = 0
      · have z1 : (F == 0) = true := by simpa using z
        have z2 : (R == 0) = false := by have := H4.out; simp; omega
        clear z d4
        go_enter Tryz.func56, Tryz.ntmps56
        go_wp2_with fail
        refine (HC1.out _).mono ?_
        rintro e w' ⟨rfl, rfl⟩
        go_wp2_with fail
        refine (HC2.out _).mono ?_
        rintro e w' ⟨rfl, rfl⟩
        go_wp2
        go_ret
        exact ⟨ret_bool (by rw [HE.out, H1.out, H2.out]; rfl), rfl⟩
      · have z1 : (F == 0) = false := by simpa using z
        clear z d4
        go_enter Tryz.func56, Tryz.ntmps56
        go_wp2_with fail
        refine (HC1.out _).mono ?_
        rintro e w' ⟨rfl, rfl⟩
        go_wp2_with fail
        refine (HC2.out _).mono ?_
        rintro e w' ⟨rfl, rfl⟩
        go_wp2
        go_ret
        exact ⟨ret_bool (by rw [HE.out, H1.out, H2.out]; rfl), rfl⟩
    · simp only [ne_true_false r2] at C2
      have HC1 := Lib.hid C1
      have HC2 := Lib.hid C2
      have H1 := Lib.hid r1
      have H2 := Lib.hid (ne_true_false r2)
      clear C1 C2 r1 r2
      by_cases z : F = 0
      · have z1 : (F == 0) = true := by simpa using z
        have z2 : (R == 0) = false := by have := H4.out; simp; omega
        clear z d4
        go_enter Tryz.func56, Tryz.ntmps56
        go_wp2_with fail
        refine (HC1.out _).mono ?_
        rintro e w' ⟨rfl, rfl⟩
        go_wp2_with fail
        refine (HC2.out _).mono ?_
        rintro e w' ⟨rfl, rfl⟩
        go_wp2
        go_ret
        exact ⟨ret_bool (by rw [HE.out, H1.out, H2.out]; rfl), rfl⟩
      · have z1 : (F == 0) = false := by simpa using z
        clear z d4
        go_enter Tryz.func56, Tryz.ntmps56
        go_wp2_with fail
        refine (HC1.out _).mono ?_
        rintro e w' ⟨rfl, rfl⟩
        go_wp2_with fail
        refine (HC2.out _).mono ?_
        rintro e w' ⟨rfl, rfl⟩
        go_wp2
        go_ret
        exact ⟨ret_bool (by rw [HE.out, H1.out, H2.out]; rfl), rfl⟩
  · simp only [ne_true_false r1] at C1
    have HC1 := Lib.hid C1
    have H1 := Lib.hid (ne_true_false r1)
    clear C1 C2 r1
    by_cases z : F = 0
    · have z1 : (F == 0) = true := by simpa using z
      have z2 : (R == 0) = false := by have := H4.out; simp; omega
      clear z d4
      go_enter Tryz.func56, Tryz.ntmps56
      go_wp2_with fail
      refine (HC1.out _).mono ?_
      rintro e w' ⟨rfl, rfl⟩
      go_wp2
      go_ret
      exact ⟨ret_bool (by rw [HE.out, H1.out]; rfl), rfl⟩
    · have z1 : (F == 0) = false := by simpa using z
      clear z d4
      go_enter Tryz.func56, Tryz.ntmps56
      go_wp2_with fail
      refine (HC1.out _).mono ?_
      rintro e w' ⟨rfl, rfl⟩
      go_wp2
      go_ret
      exact ⟨ret_bool (by rw [HE.out, H1.out]; rfl), rfl⟩
end Go.Proofs.YteneadimchhhhaaGreatDoor
/- Contracts of the document's Right; of Size, of package layout and of the document's answers. -/
namespace Go.Proofs.YteneadimchhhhaaGreatDoor
open Go.RowKit

set_option maxHeartbeats 1000000 in
theorem refRight_any (F R : Int) (A : Option Addr) (n c : Nat) (xs : List Int) (D : Option Addr) (m d : Nat) (ys : List Int) (B : Nat) (w : World) (hB : B ≤ w.heap.size) (hn : n ≤ 1000000) (hm : m ≤ 1000000)
    (hF : I64 F) (hR : I64 R) (hx : NS .i64 w B A n xs) (hy : NS .i64 w B D m ys) :
    Calls Tryz.prog 24 #[.agg #[.int .i64 F, .slice A n c, .int .i64 R, .slice D m d]] w fun e w' => e = .returned (.bool (LM.right F R xs ys)) ∧ w.alloc (.cells #[.int .i64 F, .slice A n c, .int .i64 R, .slice D m d] 70) = w' := by
  have HX := Lib.hid (fun o => hx.alloc hB o)
  have HY := Lib.hid (fun o => hy.alloc hB o)
  clear hx hy
  have HF := Lib.hid hF
  have HR := Lib.hid hR
  clear hF hR
  by_cases f0 : F < 0
  · have d0 : decide (F < 0) = true := by simpa using f0
    go_enter Tryz.func24, Tryz.ntmps24
    go_wp2
    go_ret
    exact ⟨ret_bool (by rw [LM.right_no (by omega)]), rfl⟩
  have d0 : decide (F < 0) = false := by simpa using f0
  by_cases f1 : 64 < F
  · have d1 : decide (64 < F) = true := by simpa using f1
    go_enter Tryz.func24, Tryz.ntmps24
    go_wp2
    go_ret
    exact ⟨ret_bool (by rw [LM.right_no (by omega)]), rfl⟩
  have d1 : decide (64 < F) = false := by simpa using f1
  by_cases f2 : R < 0
  · have d2 : decide (R < 0) = true := by simpa using f2
    go_enter Tryz.func24, Tryz.ntmps24
    go_wp2
    go_ret
    exact ⟨ret_bool (by rw [LM.right_no (by omega)]), rfl⟩
  have d2 : decide (R < 0) = false := by simpa using f2
  by_cases f3 : 64 < R
  · have d3 : decide (64 < R) = true := by simpa using f3
    go_enter Tryz.func24, Tryz.ntmps24
    go_wp2
    go_ret
    exact ⟨ret_bool (by rw [LM.right_no (by omega)]), rfl⟩
  have d3 : decide (64 < R) = false := by simpa using f3
  have C1 := fun o => refRise_any A n c xs F B (w.alloc o) hn (HX.out o)
  have C2 := fun o => refRise_any D m d ys R B (w.alloc o) hm (HY.out o)
  by_cases r1 : LM.rise 0 F xs = true
  · simp only [r1] at C1
    by_cases r2 : LM.rise 0 R ys = true
    · simp only [r2] at C2
      have HC1 := Lib.hid C1
      have HC2 := Lib.hid C2
      have H1 := Lib.hid (r1)
      have H2 := Lib.hid (r2)
      clear C1 C2 r1 r2
      by_cases p1 : 0 < F
      · have q1 : decide (0 < F) = true := by simpa using p1
        go_enter Tryz.func24, Tryz.ntmps24
        go_wp2_with fail
        refine (HC1.out _).mono ?_
        rintro e w' ⟨rfl, rfl⟩
        go_wp2_with fail
        refine (HC2.out _).mono ?_
        rintro e w' ⟨rfl, rfl⟩
        go_wp2
        go_ret
        exact ⟨ret_bool (by rw [LM.right_yes (by omega), H1.out, H2.out]; rfl), rfl⟩
      · have q1 : decide (0 < F) = false := by simpa using p1
        by_cases p2 : 0 < R
        · have q2 : decide (0 < R) = true := by simpa using p2
          go_enter Tryz.func24, Tryz.ntmps24
          go_wp2_with fail
          refine (HC1.out _).mono ?_
          rintro e w' ⟨rfl, rfl⟩
          go_wp2_with fail
          refine (HC2.out _).mono ?_
          rintro e w' ⟨rfl, rfl⟩
          go_wp2
          go_ret
          exact ⟨ret_bool (by rw [LM.right_yes (by omega), H1.out, H2.out]; rfl), rfl⟩
        · have q2 : decide (0 < R) = false := by simpa using p2
          go_enter Tryz.func24, Tryz.ntmps24
          go_wp2_with fail
          refine (HC1.out _).mono ?_
          rintro e w' ⟨rfl, rfl⟩
          go_wp2_with fail
          refine (HC2.out _).mono ?_
          rintro e w' ⟨rfl, rfl⟩
          go_wp2
          go_ret
          exact ⟨ret_bool (by rw [LM.right_no (by omega)]), rfl⟩
    · simp only [ne_true_false r2] at C2
      have HC1 := Lib.hid C1
      have HC2 := Lib.hid C2
      have H1 := Lib.hid (r1)
      have H2 := Lib.hid (ne_true_false r2)
      clear C1 C2 r1 r2
      go_enter Tryz.func24, Tryz.ntmps24
      go_wp2_with fail
      refine (HC1.out _).mono ?_
      rintro e w' ⟨rfl, rfl⟩
      go_wp2_with fail
      refine (HC2.out _).mono ?_
      rintro e w' ⟨rfl, rfl⟩
      go_wp2
      go_ret
      exact ⟨ret_bool (by have h2 := H2.out; simp [LM.right, h2]), rfl⟩
  · simp only [ne_true_false r1] at C1
    have r2 : True := trivial
    have HC1 := Lib.hid C1
    have HC2 := Lib.hid C2
    have H1 := Lib.hid (ne_true_false r1)
    have H2 := Lib.hid (r2)
    clear C1 C2 r1 r2
    go_enter Tryz.func24, Tryz.ntmps24
    go_wp2_with fail
    refine (HC1.out _).mono ?_
    rintro e w' ⟨rfl, rfl⟩
    go_wp2_with fail
    refine (HC2.out _).mono ?_
    rintro e w' ⟨rfl, rfl⟩
    go_wp2
    go_ret
    exact ⟨ret_bool (by have h1 := H1.out; simp [LM.right, h1]), rfl⟩

set_option maxHeartbeats 1000000 in
theorem lsize_any (F R : Int) (A : Option Addr) (n c : Nat) (xs : List Int) (D : Option Addr) (m d : Nat) (ys : List Int) (C : Int) (B : Nat) (w : World) (hB : B ≤ w.heap.size) (hn : n ≤ 1000000) (hm : m ≤ 1000000)
    (hF : I64 F) (hR : I64 R) (hx : NS .i64 w B A n xs) (hy : NS .i64 w B D m ys) (hC : I64 C) :
    Calls Tryz.prog 70 #[.agg #[.int .i64 F, .slice A n c, .int .i64 R, .slice D m d], .int .i64 C] w fun e w' => e = .returned (.tuple #[.int .i64 (LM.size F R xs ys C), .int .i64 (LM.code F R xs ys C)]) ∧ Below w.heap.size w w' := by
  have CR := lright_any F R A n c xs D m d ys B (w.alloc (.cells #[.int .i64 F, .slice A n c, .int .i64 R, .slice D m d] 70)) (by simp; omega) hn hm hF hR (hx.alloc hB _) (hy.alloc hB _)
  obtain ⟨c1, c2⟩ := hC
  clear hx hy hF hR hB
  by_cases r : LM.right F R xs ys = true
  · rw [r] at CR
    have HC := Lib.hid CR
    have HR := Lib.hid r
    obtain ⟨⟨g1, g2, g3, g4, g5⟩, -, -⟩ := LM.right_parts r
    clear CR r g5
    by_cases k : 0 ≤ C ∧ C ≤ 1024 ∧ (R = 0 → C = 0)
    · obtain ⟨k1, k2, k3⟩ := k
      have e1 : decide (C < 0) = false := by simp; omega
      have e2 : decide (1024 < C) = false := by simp; omega
      have m0 : 0 ≤ C * R := Int.mul_nonneg k1 g3
      have m1 : C * R ≤ 65536 := by
        have := Int.mul_le_mul k2 g4 g3 (by omega : (0 : Int) ≤ 1024)
        omega
      have m0' : 0 ≤ R * C := by rw [Int.mul_comm]; exact m0
      have m1' : R * C ≤ 65536 := by rw [Int.mul_comm]; exact m1
      have HM := Lib.hid (Int.mul_comm C R)
      have K3 := Lib.hid k3
      clear k3
      by_cases b : 8192 < F + C * R + 1
      · have b' : 8192 < F + R * C + 1 := by rw [Int.mul_comm R C]; exact b
        have hcode := LM.code_big HR.out ⟨k1, k2, K3.out⟩ b
        have hsize := LM.size_no (show LM.code F R xs ys C ≠ 0 by rw [hcode]; decide)
        have HS := Lib.hid hsize
        have HD := Lib.hid hcode
        clear hsize hcode
        have d0 : decide (8192 < F + C * R + 1) = true := by simp; omega
        by_cases z : C = 0
        · have e3 : (C != 0) = false := by simpa using z
          clear z
          go_enter Tryz.func70, Tryz.ntmps70
          go_wp2_with fail
          refine HC.out.mono ?_
          rintro e w' ⟨rfl, rfl⟩
          go_wp2
          go_ret2
          exact ⟨by rw [HS.out, HD.out]; rfl, by exact ((Below.refl _ _).alloc (Nat.le_refl _) _).alloc (by simp) _⟩
        · have e3 : (C != 0) = true := by simpa using z
          have e4 : (R == 0) = false := by
            have := K3.out
            simp
            omega
          clear z
          go_enter Tryz.func70, Tryz.ntmps70
          go_wp2_with fail
          refine HC.out.mono ?_
          rintro e w' ⟨rfl, rfl⟩
          go_wp2
          go_ret2
          exact ⟨by rw [HS.out, HD.out]; rfl, by exact ((Below.refl _ _).alloc (Nat.le_refl _) _).alloc (by simp) _⟩
      · have hcode := LM.code_ok HR.out ⟨k1, k2, K3.out⟩ b
        have hsize := LM.size_ok hcode
        have HS := Lib.hid hsize
        have HD := Lib.hid hcode
        clear hsize hcode
        have b' : ¬ 8192 < F + R * C + 1 := by rw [Int.mul_comm R C]; exact b
        have d0 : decide (8192 < F + C * R + 1) = false := by simp; omega
        by_cases z : C = 0
        · have e3 : (C != 0) = false := by simpa using z
          clear z
          go_enter Tryz.func70, Tryz.ntmps70
          go_wp2_with fail
          refine HC.out.mono ?_
          rintro e w' ⟨rfl, rfl⟩
          go_wp2
          go_ret2
          exact ⟨by rw [HS.out, HD.out]; first | rfl | (rw [HM.out]; rfl), by exact ((Below.refl _ _).alloc (Nat.le_refl _) _).alloc (by simp) _⟩
        · have e3 : (C != 0) = true := by simpa using z
          have e4 : (R == 0) = false := by
            have := K3.out
            simp
            omega
          clear z
          go_enter Tryz.func70, Tryz.ntmps70
          go_wp2_with fail
          refine HC.out.mono ?_
          rintro e w' ⟨rfl, rfl⟩
          go_wp2
          go_ret2
          exact ⟨by rw [HS.out, HD.out]; first | rfl | (rw [HM.out]; rfl), by exact ((Below.refl _ _).alloc (Nat.le_refl _) _).alloc (by simp) _⟩
    · have hcode := LM.code_count HR.out k
      have hsize := LM.size_no (show LM.code F R xs ys C ≠ 0 by rw [hcode]; decide)
      have HS := Lib.hid hsize
      have HD := Lib.hid hcode
      clear hsize hcode
      by_cases k1 : C < 0
      · have e1 : decide (C < 0) = true := by simpa using k1
        clear k
        go_enter Tryz.func70, Tryz.ntmps70
        go_wp2_with fail
        refine HC.out.mono ?_
        rintro e w' ⟨rfl, rfl⟩
        go_wp2
        go_ret2
        exact ⟨by rw [HS.out, HD.out]; rfl, by exact ((Below.refl _ _).alloc (Nat.le_refl _) _).alloc (by simp) _⟩
      · have e1 : decide (C < 0) = false := by simpa using k1
        by_cases k2 : 1024 < C
        · have e2 : decide (1024 < C) = true := by simpa using k2
          clear k
          go_enter Tryz.func70, Tryz.ntmps70
          go_wp2_with fail
          refine HC.out.mono ?_
          rintro e w' ⟨rfl, rfl⟩
          go_wp2
          go_ret2
          exact ⟨by rw [HS.out, HD.out]; rfl, by exact ((Below.refl _ _).alloc (Nat.le_refl _) _).alloc (by simp) _⟩
        · have e2 : decide (1024 < C) = false := by simpa using k2
          have k3 : R = 0 ∧ C ≠ 0 := by
            refine ⟨?_, ?_⟩
            · by_cases z : R = 0
              · exact z
              · exact absurd ⟨by omega, by omega, fun h => absurd h z⟩ k
            · intro z
              exact k ⟨by omega, by omega, fun _ => z⟩
          have e3 : (R == 0) = true := by simpa using k3.1
          have e4 : (C != 0) = true := by simpa using k3.2
          have e5 : decide (0 < C) = true := by simp; omega
          clear k k3
          go_enter Tryz.func70, Tryz.ntmps70
          go_wp2_with fail
          refine HC.out.mono ?_
          rintro e w' ⟨rfl, rfl⟩
          go_wp2
          go_ret2
          exact ⟨by rw [HS.out, HD.out]; rfl, by exact ((Below.refl _ _).alloc (Nat.le_refl _) _).alloc (by simp) _⟩
  · rw [ne_true_false r] at CR
    have HC := Lib.hid CR
    have hcode := LM.code_wrong (C := C) (ne_true_false r)
    have hsize := LM.size_no (show LM.code F R xs ys C ≠ 0 by rw [hcode]; decide)
    have HS := Lib.hid hsize
    have HD := Lib.hid hcode
    clear hsize hcode CR r
    go_enter Tryz.func70, Tryz.ntmps70
    go_wp2_with fail
    refine HC.out.mono ?_
    rintro e w' ⟨rfl, rfl⟩
    go_wp2
    go_ret2
    exact ⟨by rw [HS.out, HD.out]; rfl, by exact ((Below.refl _ _).alloc (Nat.le_refl _) _).alloc (by simp) _⟩

set_option maxHeartbeats 1000000 in
theorem refSize_any (F R : Int) (A : Option Addr) (n c : Nat) (xs : List Int) (D : Option Addr) (m d : Nat) (ys : List Int) (C : Int) (B : Nat) (w : World) (hB : B ≤ w.heap.size) (hn : n ≤ 1000000) (hm : m ≤ 1000000)
    (hF : I64 F) (hR : I64 R) (hx : NS .i64 w B A n xs) (hy : NS .i64 w B D m ys) (hC : I64 C) :
    Calls Tryz.prog 69 #[.agg #[.int .i64 F, .slice A n c, .int .i64 R, .slice D m d], .int .i64 C] w fun e w' => e = .returned (.tuple #[.int .i64 (LM.size F R xs ys C), .int .i64 (LM.code F R xs ys C)]) ∧ Below w.heap.size w w' := by
  have CR := refRight_any F R A n c xs D m d ys B (w.alloc (.cells #[.int .i64 F, .slice A n c, .int .i64 R, .slice D m d] 70)) (by simp; omega) hn hm hF hR (hx.alloc hB _) (hy.alloc hB _)
  obtain ⟨c1, c2⟩ := hC
  clear hx hy hF hR hB
  by_cases r : LM.right F R xs ys = true
  · rw [r] at CR
    have HC := Lib.hid CR
    have HR := Lib.hid r
    obtain ⟨⟨g1, g2, g3, g4, g5⟩, -, -⟩ := LM.right_parts r
    clear CR r g5
    by_cases k : 0 ≤ C ∧ C ≤ 1024 ∧ (R = 0 → C = 0)
    · obtain ⟨k1, k2, k3⟩ := k
      have e1 : decide (C < 0) = false := by simp; omega
      have e2 : decide (1024 < C) = false := by simp; omega
      have m0 : 0 ≤ C * R := Int.mul_nonneg k1 g3
      have m1 : C * R ≤ 65536 := by
        have := Int.mul_le_mul k2 g4 g3 (by omega : (0 : Int) ≤ 1024)
        omega
      have m0' : 0 ≤ R * C := by rw [Int.mul_comm]; exact m0
      have m1' : R * C ≤ 65536 := by rw [Int.mul_comm]; exact m1
      have HM := Lib.hid (Int.mul_comm C R)
      have K3 := Lib.hid k3
      clear k3
      by_cases b : 8192 < F + C * R + 1
      · have b' : 8192 < F + R * C + 1 := by rw [Int.mul_comm R C]; exact b
        have hcode := LM.code_big HR.out ⟨k1, k2, K3.out⟩ b
        have hsize := LM.size_no (show LM.code F R xs ys C ≠ 0 by rw [hcode]; decide)
        have HS := Lib.hid hsize
        have HD := Lib.hid hcode
        clear hsize hcode
        have d0 : decide (8192 < F + R * C + 1) = true := by simp; omega
        by_cases z : R = 0
        · have e3 : (R == 0) = true := by simpa using z
          have e4 : decide (0 < C) = false := by
            have := K3.out z
            simp
            omega
          clear z
          go_enter Tryz.func69, Tryz.ntmps69
          go_wp2_with fail
          refine HC.out.mono ?_
          rintro e w' ⟨rfl, rfl⟩
          go_wp2
          go_ret2
          exact ⟨by rw [HS.out, HD.out]; rfl, by exact ((Below.refl _ _).alloc (Nat.le_refl _) _).alloc (by simp) _⟩
        · have e3 : (R == 0) = false := by simpa using z
          clear z
          go_enter Tryz.func69, Tryz.ntmps69
          go_wp2_with fail
          refine HC.out.mono ?_
          rintro e w' ⟨rfl, rfl⟩
          go_wp2
          go_ret2
          exact ⟨by rw [HS.out, HD.out]; rfl, by exact ((Below.refl _ _).alloc (Nat.le_refl _) _).alloc (by simp) _⟩
      · have hcode := LM.code_ok HR.out ⟨k1, k2, K3.out⟩ b
        have hsize := LM.size_ok hcode
        have HS := Lib.hid hsize
        have HD := Lib.hid hcode
        clear hsize hcode
        have b' : ¬ 8192 < F + R * C + 1 := by rw [Int.mul_comm R C]; exact b
        have d0 : decide (8192 < F + R * C + 1) = false := by simp; omega
        by_cases z : R = 0
        · have e3 : (R == 0) = true := by simpa using z
          have e4 : decide (0 < C) = false := by
            have := K3.out z
            simp
            omega
          clear z
          go_enter Tryz.func69, Tryz.ntmps69
          go_wp2_with fail
          refine HC.out.mono ?_
          rintro e w' ⟨rfl, rfl⟩
          go_wp2
          go_ret2
          exact ⟨by rw [HS.out, HD.out]; first | rfl | (rw [HM.out]; rfl), by exact ((Below.refl _ _).alloc (Nat.le_refl _) _).alloc (by simp) _⟩
        · have e3 : (R == 0) = false := by simpa using z
          clear z
          go_enter Tryz.func69, Tryz.ntmps69
          go_wp2_with fail
          refine HC.out.mono ?_
          rintro e w' ⟨rfl, rfl⟩
          go_wp2
          go_ret2
          exact ⟨by rw [HS.out, HD.out]; first | rfl | (rw [HM.out]; rfl), by exact ((Below.refl _ _).alloc (Nat.le_refl _) _).alloc (by simp) _⟩
    · have hcode := LM.code_count HR.out k
      have hsize := LM.size_no (show LM.code F R xs ys C ≠ 0 by rw [hcode]; decide)
      have HS := Lib.hid hsize
      have HD := Lib.hid hcode
      clear hsize hcode
      by_cases k1 : C < 0
      · have e1 : decide (C < 0) = true := by simpa using k1
        clear k
        go_enter Tryz.func69, Tryz.ntmps69
        go_wp2_with fail
        refine HC.out.mono ?_
        rintro e w' ⟨rfl, rfl⟩
        go_wp2
        go_ret2
        exact ⟨by rw [HS.out, HD.out]; rfl, by exact ((Below.refl _ _).alloc (Nat.le_refl _) _).alloc (by simp) _⟩
      · have e1 : decide (C < 0) = false := by simpa using k1
        by_cases k2 : 1024 < C
        · have e2 : decide (1024 < C) = true := by simpa using k2
          clear k
          go_enter Tryz.func69, Tryz.ntmps69
          go_wp2_with fail
          refine HC.out.mono ?_
          rintro e w' ⟨rfl, rfl⟩
          go_wp2
          go_ret2
          exact ⟨by rw [HS.out, HD.out]; rfl, by exact ((Below.refl _ _).alloc (Nat.le_refl _) _).alloc (by simp) _⟩
        · have e2 : decide (1024 < C) = false := by simpa using k2
          have k3 : R = 0 ∧ C ≠ 0 := by
            refine ⟨?_, ?_⟩
            · by_cases z : R = 0
              · exact z
              · exact absurd ⟨by omega, by omega, fun h => absurd h z⟩ k
            · intro z
              exact k ⟨by omega, by omega, fun _ => z⟩
          have e3 : (R == 0) = true := by simpa using k3.1
          have e4 : (C != 0) = true := by simpa using k3.2
          have e5 : decide (0 < C) = true := by simp; omega
          clear k k3
          go_enter Tryz.func69, Tryz.ntmps69
          go_wp2_with fail
          refine HC.out.mono ?_
          rintro e w' ⟨rfl, rfl⟩
          go_wp2
          go_ret2
          exact ⟨by rw [HS.out, HD.out]; rfl, by exact ((Below.refl _ _).alloc (Nat.le_refl _) _).alloc (by simp) _⟩
  · rw [ne_true_false r] at CR
    have HC := Lib.hid CR
    have hcode := LM.code_wrong (C := C) (ne_true_false r)
    have hsize := LM.size_no (show LM.code F R xs ys C ≠ 0 by rw [hcode]; decide)
    have HS := Lib.hid hsize
    have HD := Lib.hid hcode
    clear hsize hcode CR r
    go_enter Tryz.func69, Tryz.ntmps69
    go_wp2_with fail
    refine HC.out.mono ?_
    rintro e w' ⟨rfl, rfl⟩
    go_wp2
    go_ret2
    exact ⟨by rw [HS.out, HD.out]; rfl, by exact ((Below.refl _ _).alloc (Nat.le_refl _) _).alloc (by simp) _⟩
end Go.Proofs.YteneadimchhhhaaGreatDoor
/- The contract of field.Apart, over a slice of fields that reads as a list. -/
namespace Go.Proofs.YteneadimchhhhaaGreatDoor
open Go.RowKit

set_option maxHeartbeats 1000000 in
theorem apart_any (A : Option Addr) (n c : Nat) (fs : List (Int × Int)) (w : World) (hn : n ≤ 1000000) (hf : FS w w.heap.size A n fs) :
    Calls Tryz.prog 93 #[.slice A n c] w fun e w' => e = .returned (.bool (FM.apart fs)) ∧ Below w.heap.size w w' := by
  have HF := Lib.hid hf
  clear hf
  go_enter Tryz.func93, Tryz.ntmps93
  go_wp2
  go_loopw [3, 8] (fun t i wr => ∃ k T : Nat, k ≤ n ∧ T < 18446744073709551616 ∧ i = .int .i64 k ∧ t = .int .u64 T ∧ Hid (FM.apart fs = FM.apartGo T (fs.drop k)) ∧ Below w.heap.size w wr) (fun _ i _ => n - (intOf i).toNat)
  case atStart => exact ⟨0, 0, Nat.zero_le _, by omega, rfl, rfl, rfl, Below.refl _ _⟩
  case round =>
    obtain ⟨k, T, hk, hT, rfl, rfl, HA, hbw⟩ := hrel
    by_cases hlt : k < n
    · obtain ⟨b, off, a, d, rfl, hbB, hd, hc0, hc1⟩ := (HF.out.below hbw).at_ hlt
      have HD := Lib.hid hd
      clear hd
      by_cases hr : FM.right a d = true
      · by_cases hz : T &&& FM.boN a.toNat d.toNat = 0
        · have hz' : (bits BinOp.and IntKind.u64 (T : Int) (FM.bo a d) != 0) = false := by rw [FM.and_bo T a d hT hr, hz]; rfl
          have HZ := Lib.hid hz
          clear hz
          go_wp2_with (first
            | (go_at_call 102; refine (right_any a d _).mono ?_; rintro e w' ⟨rfl, rfl⟩)
            | (go_at_call 103; refine (bitsOf_any a d hr _).mono ?_; rintro e w' ⟨rfl, hb⟩; obtain ⟨hc, hfz⟩ := bcell hb))
          rename_i w1 hb1 hc2 hf2
          have hs := hbw.size
          have hs1 := hb1.size
          simp at hs1
          go_roundw
          case rel => exact ⟨k + 1, T ||| FM.boN a.toNat d.toNat, by omega, FM.or_bo_lt T a d hT hr, by go_num, by rw [FM.or_bo T a d hT hr], by rw [HA.out, HD.out, FM.go_next T (a, d) _ hr HZ.out]; exact rfl, ((((hbw.alloc hs _).alloc (by simp; omega) _).trans (hb1.mono (by simp; omega))).trans (hb.mono (by omega)))⟩
          case measure => simp [intOf]; omega
        · have hz' : (bits BinOp.and IntKind.u64 (T : Int) (FM.bo a d) != 0) = true := by rw [FM.and_bo T a d hT hr]; simp; omega
          have HZ := Lib.hid hz
          clear hz
          go_wp2_with (first
            | (go_at_call 102; refine (right_any a d _).mono ?_; rintro e w' ⟨rfl, rfl⟩)
            | (go_at_call 103; refine (bitsOf_any a d hr _).mono ?_; rintro e w' ⟨rfl, hb⟩; obtain ⟨hc, hfz⟩ := bcell hb))
          have hs := hbw.size
          go_ret
          exact ⟨ret_bool (by rw [HA.out, HD.out, FM.go_share T (a, d) _ HZ.out]), (((hbw.alloc hs _).alloc (by simp; omega) _).trans (hb.mono (by simp; omega)))⟩
      · have hr' : FM.right a d = false := by simpa using hr
        clear hr
        go_wp2_with (first
            | (go_at_call 102; refine (right_any a d _).mono ?_; rintro e w' ⟨rfl, rfl⟩))
        have hs := hbw.size
        go_ret
        exact ⟨ret_bool (by rw [HA.out, HD.out, FM.go_wrong T (a, d) _ hr']), ((hbw.alloc hs _).alloc (by simp; omega) _)⟩
    · go_wp2
      go_ret
      have hl := HF.out.1
      exact ⟨ret_bool (by rw [HA.out, List.drop_eq_nil_of_le (by omega)]; rfl), hbw⟩
end Go.Proofs.YteneadimchhhhaaGreatDoor
/- The contract of field.Pack, over a slice of fields and one of words. -/
namespace Go.Proofs.YteneadimchhhhaaGreatDoor
open Go.RowKit

theorem below_drewN {B : Nat} {a w : World} (h : Below B a w) (n : Nat) : Below B a (w.drewN n) := ⟨h.os, h.tape, h.output, h.size, h.block⟩

set_option maxHeartbeats 1000000 in
theorem pack_arg (A : Option Addr) (n c : Nat) (fs : List (Int × Int)) (X : Option Addr) (m d : Nat) (w : World) (hn : n ≤ 1000000) (hf : FS w w.heap.size A n fs)
    (h : FM.apart fs = false ∨ ¬ m = n) :
    Calls Tryz.prog 78 #[.slice A n c, .slice X m d] w fun e w' => e = .returned (.tuple #[.int .u64 0, .int .i64 2]) ∧ Below w.heap.size w w' := by
  by_cases ha : FM.apart fs = true
  · have hne : ¬ m = n := by rcases h with h | h; (rw [ha] at h; cases h); exact h
    have hne' : ((m : Int) != (n : Int)) = true := by simp; omega
    clear h
    have HF := Lib.hid hf
    clear hf
    go_enter Tryz.func78, Tryz.ntmps78
    go_wp2_with (first
      | (go_at_call 93; refine (apart_any A n c fs _ hn HF.out).mono ?_; rintro e w' ⟨rfl, hb⟩))
    go_ret2
    exact ⟨rfl, hb⟩
  · have ha' : FM.apart fs = false := by simpa using ha
    clear h ha
    have HF := Lib.hid hf
    clear hf
    go_enter Tryz.func78, Tryz.ntmps78
    go_wp2_with (first
      | (go_at_call 93; refine (apart_any A n c fs _ hn HF.out).mono ?_; rintro e w' ⟨rfl, hb⟩))
    go_ret2
    exact ⟨rfl, hb⟩

/-- What field.Pack answers of fields that are apart, and as many numbers. -/
def PackPost (r : Option Nat) (w : World) (e : Ending) (w' : World) : Prop :=
  ((∃ W : Nat, r = some W ∧ W < 18446744073709551616 ∧ e = .returned (.tuple #[.int .u64 (W : Int), .int .i64 0])) ∨ (r = none ∧ e = .returned (.tuple #[.int .u64 0, .int .i64 3]))) ∧ Below w.heap.size w w'

set_option maxHeartbeats 2000000 in
theorem pack_any (A : Option Addr) (n c : Nat) (fs : List (Int × Int)) (X : Option Addr) (d : Nat) (xs : List Int) (w : World) (hn : n ≤ 1000000) (hf : FS w w.heap.size A n fs) (hx : NS .u64 w w.heap.size X n xs) (ha : FM.apart fs = true) :
    Calls Tryz.prog 78 #[.slice A n c, .slice X n d] w (PackPost (FM.packGo 0 fs xs) w) := by
  have hne' : ((n : Int) != (n : Int)) = false := by simp
  have HF := Lib.hid hf
  clear hf
  have HX := Lib.hid hx
  clear hx
  have HR := Lib.hid (FM.apart_right 0 fs ha)
  go_enter Tryz.func78, Tryz.ntmps78
  go_wp2_with (first
      | (go_at_call 93; refine (apart_any A n c fs _ hn HF.out).mono ?_; rintro e w0 ⟨rfl, hb0⟩))
  go_loopw [6, 21] (fun t i wr => ∃ k T : Nat, k ≤ n ∧ T < 18446744073709551616 ∧ i = .int .i64 k ∧ t = .int .u64 T ∧ Hid (FM.packGo 0 fs xs = FM.packGo T (fs.drop k) (xs.drop k)) ∧ Below w.heap.size w wr) (fun _ i _ => n - (intOf i).toNat)
  case atStart => exact ⟨0, 0, Nat.zero_le _, by omega, rfl, rfl, rfl, hb0⟩
  case round =>
    obtain ⟨k, T, hk, hT, rfl, rfl, HA, hbw⟩ := hrel
    by_cases hlt : k < n
    · obtain ⟨b, off, a, e, rfl, hbB, hd, hc0, hc1⟩ := (HF.out.below hbw).at_ hlt
      obtain ⟨bx, ox, x, rfl, hbX, hdx, hxw0, hcx⟩ := (HX.out.below hbw).at_ hlt
      have hxw := word_of hxw0
      clear hxw0
      have hr : FM.right a e = true := HR.out (a, e) (List.mem_of_mem_drop (by rw [hd]; exact List.mem_cons_self))
      have HD := Lib.hid hd
      have HDX := Lib.hid hdx
      clear hd hdx
      obtain ⟨h1, h2, h3, h4⟩ := (FM.right_iff a e).1 hr
      have h5 : e ≤ 64 := by omega
      have hs := hbw.size
      have hbw' : b < wr.heap.size := by omega
      have hbX' : bx < wr.heap.size := by omega
      by_cases hfit : FM.fits x e = true
      · have h6 : x ≤ FM.gr e := by unfold FM.fits at hfit; simpa using hfit
        have h6' : decide (FM.gr e < x) = false := by simp; omega
        have HFit := Lib.hid hfit
        clear hfit
        go_wp2
        go_region_held3 (fun w' => w'.cell? ⟨wr.heap.size, 0, none⟩ = some (.int .i64 a) ∧ w'.cell? ⟨wr.heap.size, 1, none⟩ = some (.int .i64 e) ∧ w'.cell? ⟨bx, ox + k, none⟩ = some (.int .u64 x)) (simp [go_sem, World.cell?_alloc_past, *])
          (first
            | (go_at_call 94; refine (greatest_any a e h3 h5 _).mono ?_; rintro e w' ⟨rfl, rfl⟩))
        go_wp2
        go_quiet (fail)
        go_wp2
        have P := FM.pack_or T x a e hT hxw.1 hr HFit.out
        go_roundw
        case rel => exact ⟨k + 1, T ||| x.toNat * 2 ^ a.toNat, by omega, P.2, by go_num, by rw [P.1], by rw [HA.out, HD.out, HDX.out, FM.pack_next T (a, e) _ x _ HFit.out]; exact rfl, below_drewN ((hbw.alloc hs _).alloc (by simp; omega) _) _⟩
        case measure => simp [intOf]; omega
      · have h6 : FM.gr e < x := by unfold FM.fits at hfit; simpa using hfit
        have h6' : decide (FM.gr e < x) = true := by simp; omega
        have hfit' : FM.fits x e = false := by simpa using hfit
        have HFit := Lib.hid hfit'
        clear hfit hfit'
        go_wp2
        go_region_held3 (fun w' => w'.cell? ⟨wr.heap.size, 0, none⟩ = some (.int .i64 a) ∧ w'.cell? ⟨wr.heap.size, 1, none⟩ = some (.int .i64 e) ∧ w'.cell? ⟨bx, ox + k, none⟩ = some (.int .u64 x)) (simp [go_sem, World.cell?_alloc_past, *])
          (first
            | (go_at_call 94; refine (greatest_any a e h3 h5 _).mono ?_; rintro e w' ⟨rfl, rfl⟩))
        go_wp2
        go_ret2
        exact ⟨.inr ⟨by rw [HA.out, HD.out, HDX.out, FM.pack_stop T (a, e) _ x _ HFit.out], rfl⟩, ((hbw.alloc hs _).alloc (by simp; omega) _).drew⟩
    · go_wp2
      go_ret2
      have hl := HF.out.1
      exact ⟨.inl ⟨T, by rw [HA.out, List.drop_eq_nil_of_le (by omega)]; rfl, hT, rfl⟩, hbw⟩
end Go.Proofs.YteneadimchhhhaaGreatDoor
/- Contracts of IsRef, of package layout and of the document's answers. -/
namespace Go.Proofs.YteneadimchhhhaaGreatDoor
open Go.RowKit

theorem quiet_left {P : Program} {f : FuncId} {args : Array Value} {w : World} {n : Nat} {v : Value}
    (h : Calls P f args (w.drewN n) fun e w' => e = .returned v ∧ w.drewN n = w') : Calls P f args (w.drewN n) fun e w'' => e = .returned v ∧ ∃ m, w'' = w.drewN m :=
  h.mono fun _ _ ⟨he, hm⟩ => ⟨he, n, hm.symm⟩
theorem ret_bi {a b : Bool} {k : IntKind} {z : Int} (h : a = b) : Ending.returned (.tuple #[.bool a, .int k z]) = .returned (.tuple #[.bool b, .int k z]) := by rw [h]
theorem emod_bounds {a b : Int} (h0 : 0 ≤ a) (hb : 0 < b) : 0 ≤ a % b ∧ a % b < b ∧ a.tmod b = a % b := ⟨Int.emod_nonneg _ (by omega), Int.emod_lt_of_pos _ hb, Int.tmod_eq_emod_of_nonneg h0⟩

set_option maxHeartbeats 1000000 in
theorem isRef_err (F R : Int) (A : Option Addr) (n c : Nat) (xs : List Int) (D : Option Addr) (m d : Nat) (ys : List Int) (C p : Int) (B : Nat) (w : World) (hB : B ≤ w.heap.size) (hn : n ≤ 1000000) (hm : m ≤ 1000000)
    (hF : I64 F) (hR : I64 R) (hx : NS .i64 w B A n xs) (hy : NS .i64 w B D m ys) (hC : I64 C) (hcode : LM.code F R xs ys C ≠ 0) :
    Calls Tryz.prog 90 #[.agg #[.int .i64 F, .slice A n c, .int .i64 R, .slice D m d], .int .i64 C, .int .i64 p] w fun e w' => e = .returned (.tuple #[.bool false, .int .i64 (LM.code F R xs ys C)]) ∧ Below w.heap.size w w' := by
  have CS := lsize_any F R A n c xs D m d ys C B (w.alloc (.cells #[.int .i64 F, .slice A n c, .int .i64 R, .slice D m d] 70)) (by simp; omega) hn hm hF hR (hx.alloc hB _) (hy.alloc hB _) hC
  have d0 : (LM.code F R xs ys C != 0) = true := by simpa using hcode
  have HC := Lib.hid CS
  clear CS hx hy hF hR hB hcode hC
  go_enter Tryz.func90, Tryz.ntmps90
  go_wp2_with fail
  refine HC.out.mono ?_
  rintro e w1 ⟨rfl, hb⟩
  go_wp2
  go_ret2
  exact ⟨rfl, ((Below.refl _ _).alloc (Nat.le_refl _) _).trans (hb.mono (by simp))⟩

set_option maxHeartbeats 1000000 in
theorem isRef_out (F R : Int) (A : Option Addr) (n c : Nat) (xs : List Int) (D : Option Addr) (m d : Nat) (ys : List Int) (C p : Int) (B : Nat) (w : World) (hB : B ≤ w.heap.size) (hn : n ≤ 1000000) (hm : m ≤ 1000000)
    (hF : I64 F) (hR : I64 R) (hx : NS .i64 w B A n xs) (hy : NS .i64 w B D m ys) (hC : I64 C) (hcode : LM.code F R xs ys C = 0) (hp : p < 0 ∨ F + C * R ≤ p) :
    Calls Tryz.prog 90 #[.agg #[.int .i64 F, .slice A n c, .int .i64 R, .slice D m d], .int .i64 C, .int .i64 p] w fun e w' => e = .returned (.tuple #[.bool false, .int .i64 3]) ∧ Below w.heap.size w w' := by
  have CS := lsize_any F R A n c xs D m d ys C B (w.alloc (.cells #[.int .i64 F, .slice A n c, .int .i64 R, .slice D m d] 70)) (by simp; omega) hn hm hF hR (hx.alloc hB _) (hy.alloc hB _) hC
  rw [hcode, LM.size_ok hcode] at CS
  have HC := Lib.hid CS
  clear CS hx hy hF hR hB hcode hC
  rcases hp with hp | hp
  · have d0 : decide (p < 0) = true := by simpa using hp
    go_enter Tryz.func90, Tryz.ntmps90
    go_wp2_with fail
    refine HC.out.mono ?_
    rintro e w1 ⟨rfl, hb⟩
    go_wp2
    go_ret2
    exact ⟨rfl, ((Below.refl _ _).alloc (Nat.le_refl _) _).trans (hb.mono (by simp))⟩
  · by_cases hp0 : p < 0
    · have d0 : decide (p < 0) = true := by simpa using hp0
      go_enter Tryz.func90, Tryz.ntmps90
      go_wp2_with fail
      refine HC.out.mono ?_
      rintro e w1 ⟨rfl, hb⟩
      go_wp2
      go_ret2
      exact ⟨rfl, ((Below.refl _ _).alloc (Nat.le_refl _) _).trans (hb.mono (by simp))⟩
    · have d0 : decide (p < 0) = false := by simpa using hp0
      have d1 : decide (F + C * R ≤ p) = true := by simpa using hp
      go_enter Tryz.func90, Tryz.ntmps90
      go_wp2_with fail
      refine HC.out.mono ?_
      rintro e w1 ⟨rfl, hb⟩
      go_wp2
      go_ret2
      exact ⟨rfl, ((Below.refl _ _).alloc (Nat.le_refl _) _).trans (hb.mono (by simp))⟩

set_option maxHeartbeats 1000000 in
theorem isRef_ok (F R : Int) (A : Option Addr) (n c : Nat) (xs : List Int) (D : Option Addr) (m d : Nat) (ys : List Int) (C p : Int) (B : Nat) (w : World) (hB : B ≤ w.heap.size) (hn : n ≤ 1000000) (hm : m ≤ 1000000)
    (hF : I64 F) (hR : I64 R) (hx : NS .i64 w B A n xs) (hy : NS .i64 w B D m ys) (hC : I64 C) (hcode : LM.code F R xs ys C = 0) (hp0 : 0 ≤ p) (hp1 : p < F + C * R) :
    Calls Tryz.prog 90 #[.agg #[.int .i64 F, .slice A n c, .int .i64 R, .slice D m d], .int .i64 C, .int .i64 p] w fun e w' => e = .returned (.tuple #[.bool (LM.isRef F R xs ys p), .int .i64 0]) ∧ Below w.heap.size w w' := by
  have CS := lsize_any F R A n c xs D m d ys C B (w.alloc (.cells #[.int .i64 F, .slice A n c, .int .i64 R, .slice D m d] 70)) (by simp; omega) hn hm hF hR (hx.alloc hB _) (hy.alloc hB _) hC
  rw [hcode, LM.size_ok hcode] at CS
  obtain ⟨hr, ⟨k1, k2, k3⟩, k4⟩ := LM.code_zero hcode
  obtain ⟨⟨g1, g2, g3, g4, g5⟩, -, -⟩ := LM.right_parts hr
  have HC := Lib.hid CS
  have HX := Lib.hid hx
  have HY := Lib.hid hy
  have K3 := Lib.hid k3
  clear CS hx hy hF hR hcode hC hr k3 g5
  have d0 : decide (p < 0) = false := by simpa using hp0
  have d1 : decide (F + C * R ≤ p) = false := by simpa using hp1
  by_cases hl : p < F
  · have d2 : decide (p < F) = true := by simpa using hl
    have HI := Lib.hid (LM.isRef_low (R := R) (xs := xs) (ys := ys) hl)
    go_enter Tryz.func90, Tryz.ntmps90
    go_wp2_with fail
    refine HC.out.mono ?_
    rintro e w1 ⟨rfl, hb⟩
    have hb0 : Below w.heap.size w w1 := ((Below.refl _ _).alloc (Nat.le_refl _) _).trans (hb.mono (by simp))
    obtain ⟨hc, hf⟩ := bcell hb
    have C1 := contains_any A n c xs p B w1 hn (HX.out.below (hb0.mono hB))
    have HC1 := Lib.hid C1
    clear C1
    go_wp2_with fail
    refine HC1.out.mono ?_
    rintro e w' ⟨rfl, rfl⟩
    go_wp2
    go_ret2
    exact ⟨ret_bi HI.out.symm, hb0⟩
  · have d2 : decide (p < F) = false := by simpa using hl
    have HI := Lib.hid (LM.isRef_high (R := R) (xs := xs) (ys := ys) hl)
    have hR0 : 0 < R := by
      rcases Int.lt_or_eq_of_le g3 with h | h
      · exact h
      · have h0 := K3.out h.symm
        rw [h0, ← h] at hp1
        omega
    have e0 : (R == 0) = false := by simp; omega
    have e1 : ¬ R = 0 := by omega
    obtain ⟨q0, q1, q2⟩ := emod_bounds (show 0 ≤ p - F by omega) hR0
    go_enter Tryz.func90, Tryz.ntmps90
    go_wp2_with fail
    refine HC.out.mono ?_
    rintro e w1 ⟨rfl, hb⟩
    have hb0 : Below w.heap.size w w1 := ((Below.refl _ _).alloc (Nat.le_refl _) _).trans (hb.mono (by simp))
    obtain ⟨hc, hf⟩ := bcell hb
    have C1 := fun N => contains_any D m d ys ((p - F) % R) B (w1.drewN N) hm (HY.out.below (below_drewN (hb0.mono hB) N))
    have HC1 := Lib.hid C1
    have HQ := Lib.hid q2
    clear C1 q2
    go_wp2
    have ww : IntKind.i64.wrap (p - F) = p - F := IntWalk.i64_in _ (by omega)
    have q2 : (p - F).tmod R = (p - F) % R := HQ.out
    have wr : IntKind.i64.wrap ((p - F) % R) = (p - F) % R := IntWalk.i64_in _ (by omega)
    go_quiet ((go_at_call 101; exact quiet_left (HC1.out _)))
    go_wp2
    go_ret2
    exact ⟨ret_bi HI.out.symm, below_drewN hb0 _⟩

set_option maxHeartbeats 1000000 in
theorem refIsRef_any (F R : Int) (A : Option Addr) (n c : Nat) (xs : List Int) (D : Option Addr) (m d : Nat) (ys : List Int) (p : Int) (B : Nat) (w : World) (hB : B ≤ w.heap.size) (hn : n ≤ 1000000) (hm : m ≤ 1000000)
    (hR : I64 R) (hx : NS .i64 w B A n xs) (hy : NS .i64 w B D m ys) (hF1 : 0 ≤ F) (hF2 : F ≤ 64) (hp0 : 0 ≤ p) (hp1 : p ≤ 100000) (hR0 : p < F ∨ 0 < R) :
    Calls Tryz.prog 75 #[.agg #[.int .i64 F, .slice A n c, .int .i64 R, .slice D m d], .int .i64 p] w fun e w' => e = .returned (.bool (LM.isRef F R xs ys p)) ∧ Below w.heap.size w w' := by
  obtain ⟨r1, r2⟩ := hR
  have HX := Lib.hid (hx.alloc hB (.cells #[.int .i64 F, .slice A n c, .int .i64 R, .slice D m d] 70))
  have HY := Lib.hid (hy.alloc hB (.cells #[.int .i64 F, .slice A n c, .int .i64 R, .slice D m d] 70))
  clear hx hy
  by_cases hl : p < F
  · have d2 : decide (p < F) = true := by simpa using hl
    have HI := Lib.hid (LM.isRef_low (R := R) (xs := xs) (ys := ys) hl)
    clear hR0
    have C1 := lhas_any A n c xs p B _ hn HX.out
    have HC1 := Lib.hid C1
    clear C1
    go_enter Tryz.func75, Tryz.ntmps75
    go_wp2_with fail
    refine HC1.out.mono ?_
    rintro e w' ⟨rfl, rfl⟩
    go_wp2
    go_ret
    exact ⟨ret_bool HI.out.symm, (Below.refl _ _).alloc (Nat.le_refl _) _⟩
  · have d2 : decide (p < F) = false := by simpa using hl
    have HI := Lib.hid (LM.isRef_high (R := R) (xs := xs) (ys := ys) hl)
    have hR0 : 0 < R := by omega
    have e0 : (R == 0) = false := by simp; omega
    have e1 : ¬ R = 0 := by omega
    obtain ⟨q0, q1, q2⟩ := emod_bounds (show 0 ≤ p - F by omega) hR0
    have C1 := fun N => lhas_any D m d ys ((p - F) % R) B ((w.alloc (.cells #[.int .i64 F, .slice A n c, .int .i64 R, .slice D m d] 70)).drewN N) hm HY.out
    have HC1 := Lib.hid C1
    have HQ := Lib.hid q2
    clear C1 q2
    go_enter Tryz.func75, Tryz.ntmps75
    go_wp2
    have ww : IntKind.i64.wrap (p - F) = p - F := IntWalk.i64_in _ (by omega)
    have q2 : (p - F).tmod R = (p - F) % R := HQ.out
    have wr : IntKind.i64.wrap ((p - F) % R) = (p - F) % R := IntWalk.i64_in _ (by omega)
    go_quiet ((go_at_call 89; exact quiet_left (HC1.out _)))
    go_wp2
    go_ret
    exact ⟨ret_bool HI.out.symm, below_drewN ((Below.refl _ _).alloc (Nat.le_refl _) _) _⟩
end Go.Proofs.YteneadimchhhhaaGreatDoor
/- Contracts of firstWord, bitsAt and Encode of package layout. -/
namespace Go.Proofs.YteneadimchhhhaaGreatDoor
open Go.RowKit

/-- The word with a bit on for each place. -/
def orAll (W : Nat) : List Int → Nat
  | [] => W
  | p :: t => orAll (W ||| 2 ^ p.toNat) t
theorem orAll_lt (xs : List Int) : ∀ W, W < 18446744073709551616 → (∀ p ∈ xs, 0 ≤ p ∧ p < 64) → orAll W xs < 18446744073709551616 := by
  induction xs with
  | nil => intro W h _; exact h
  | cons p t ih =>
    intro W h hp
    refine ih _ ?_ fun q hq => hp q (List.mem_cons_of_mem _ hq)
    have h1 := hp p List.mem_cons_self
    have h2 : 2 ^ p.toNat < 2 ^ 64 := Nat.pow_lt_pow_right (by decide) (by omega)
    rw [← FM.pow64] at h ⊢
    exact Nat.or_lt_two_pow h h2
theorem or_step (W : Nat) (p : Int) (h : W < 18446744073709551616) (h1 : p < 64) : bits .or .u64 (W : Int) (IntKind.u64.wrap (2 ^ p.toNat)) = ((W ||| 2 ^ p.toNat : Nat) : Int) ∧ W ||| 2 ^ p.toNat < 18446744073709551616 := by
  have h2 : 2 ^ p.toNat < 2 ^ 64 := Nat.pow_lt_pow_right (by decide) (by omega)
  have hp : (2 : Int) ^ p.toNat = ((2 ^ p.toNat : Nat) : Int) := by simp
  refine ⟨?_, ?_⟩
  · rw [FM.wrap_pow p (by omega), hp]
    exact u64_or_nat W _ h (by rw [FM.pow64] at h2; exact h2)
  · rw [← FM.pow64] at h ⊢
    exact Nat.or_lt_two_pow h h2

/-- The fields of the first word. -/
def fw : List (Int × Int) := [(0, 8), (8, 8), (16, 48)]
theorem fw_apart : FM.apart fw = true := by decide
theorem fw_fs {W : World} {a : Nat} (h : Whole W a 166 #[.int .i64 0, .int .i64 8, .int .i64 8, .int .i64 8, .int .i64 16, .int .i64 48]) : FS W W.heap.size (some ⟨a, 0, none⟩) 3 fw := by
  refine ⟨rfl, fun _ => ⟨a, 0, rfl, h.lt, fun i f hi => ?_⟩⟩
  rw [Nat.zero_add, h.cell, h.cell]
  match i, hi with
  | 0, hi => simp [fw] at hi; subst hi; exact ⟨rfl, rfl⟩
  | 1, hi => simp [fw] at hi; subst hi; exact ⟨rfl, rfl⟩
  | 2, hi => simp [fw] at hi; subst hi; exact ⟨rfl, rfl⟩
theorem ns_three {k : IntKind} {W : World} {b : Nat} {t : TypeId} {x y z : Int} (h : Whole W b t #[.int k x, .int k y, .int k z]) (hx : (Lit.int k x).wf = true) (hy : (Lit.int k y).wf = true) (hz : (Lit.int k z).wf = true) : NS k W W.heap.size (some ⟨b, 0, none⟩) 3 [x, y, z] := by
  refine ⟨rfl, by simp [hx, hy, hz], fun _ => ⟨b, 0, rfl, h.lt, fun i f hi => ?_⟩⟩
  rw [Nat.zero_add, h.cell]
  match i, hi with
  | 0, hi => simp at hi; subst hi; rfl
  | 1, hi => simp at hi; subst hi; rfl
  | 2, hi => simp at hi; subst hi; rfl
theorem fw_pack (F R : Int) (h1 : 0 ≤ F) (h2 : F ≤ 64) (h3 : 0 ≤ R) (h4 : R ≤ 64) : FM.packGo 0 fw [F, R, 0] = some (F + 256 * R).toNat := by
  obtain ⟨a, rfl⟩ := Int.eq_ofNat_of_zero_le h1
  obtain ⟨b, rfl⟩ := Int.eq_ofNat_of_zero_le h3
  have e1 : FM.fits (a : Int) 8 = true := (FM.fits_iff _ _ (by omega)).2 (by simp; omega)
  have e2 : FM.fits (b : Int) 8 = true := (FM.fits_iff _ _ (by omega)).2 (by simp; omega)
  have e3 : FM.fits 0 48 = true := by decide
  unfold fw
  rw [FM.pack_next _ _ _ _ _ e1, FM.pack_next _ _ _ _ _ e2, FM.pack_next _ _ _ _ _ e3]
  show some _ = _
  have e : (0 ||| a * 2 ^ 0 ||| b * 2 ^ 8 ||| 0 * 2 ^ 16) = a + 256 * b := by
    have := Nat.two_pow_add_eq_or_of_lt (i := 8) (show a < 2 ^ 8 by omega) b
    rw [show (2 : Nat) ^ 8 = 256 from rfl] at this
    simp
    rw [Nat.or_comm, Nat.mul_comm b 256]
    omega
  have e' : ((a : Int) + 256 * (b : Int)).toNat = a + 256 * b := by omega
  rw [e']
  exact congrArg some e
theorem pack_first (F R : Int) (h1 : 0 ≤ F) (h2 : F ≤ 64) (h3 : 0 ≤ R) (h4 : R ≤ 64) (W : World) (a b : Nat) (ha : Whole W a 166 #[.int .i64 0, .int .i64 8, .int .i64 8, .int .i64 8, .int .i64 16, .int .i64 48])
    (hb : Whole W b 33 #[.int .u64 F, .int .u64 R, .int .u64 0]) :
    Calls Tryz.prog 78 #[.slice (some ⟨a, 0, none⟩) 3 3, .slice (some ⟨b, 0, none⟩) 3 3] W fun e w' => e = .returned (.tuple #[.int .u64 (F + 256 * R), .int .i64 0]) ∧ Below W.heap.size W w' := by
  refine (pack_any _ 3 3 fw _ 3 [F, R, 0] W (by omega) (fw_fs ha) (ns_three hb (of_word ⟨h1, by omega⟩) (of_word ⟨h3, by omega⟩) (by decide)) fw_apart).mono ?_
  rintro e w' ⟨h, hb⟩
  rw [fw_pack F R h1 h2 h3 h4] at h
  rcases h with ⟨V, hV, _, he⟩ | ⟨h, _⟩
  · injection hV with hV
    subst hV
    rw [Int.toNat_of_nonneg (by omega)] at he
    exact ⟨he, hb⟩
  · cases h
end Go.Proofs.YteneadimchhhhaaGreatDoor
/- The contract of Encode of package layout. -/
namespace Go.Proofs.YteneadimchhhhaaGreatDoor
open Go.RowKit

/-- What Encode leaves of a right layout. -/
def EncPost (a b c : Int) (w : World) (e : Ending) (w' : World) : Prop :=
  ∃ g, e = .returned (.tuple #[.slice (some ⟨g, 0, none⟩) 3 3, .int .i64 0]) ∧ w.heap.size ≤ g ∧ Whole w' g 33 #[.int .u64 a, .int .u64 b, .int .u64 c] ∧ Below w.heap.size w w'

theorem pack_ord1 (F R : Int) (h1 : 0 ≤ F) (h2 : F ≤ 64) (h3 : 0 ≤ R) (h4 : R ≤ 64) (W : World) :
    Calls Tryz.prog 78 #[.slice (some ⟨W.heap.size, 0, none⟩) 3 3, .slice (some ⟨W.heap.size + 1, 0, none⟩) 3 3] ((W.alloc (.cells #[.int .i64 0, .int .i64 8, .int .i64 8, .int .i64 8, .int .i64 16, .int .i64 48] 166)).alloc (.cells #[.int .u64 F, .int .u64 R, .int .u64 0] 33)).drew fun e w' => e = .returned (.tuple #[.int .u64 (F + 256 * R), .int .i64 0]) ∧ Below W.heap.size W w' :=
  (pack_first F R h1 h2 h3 h4 _ _ _ ((Whole.fresh _ _ _).alloc _).drew (Whole.fresh' (by simp)).drew).mono fun _ _ ⟨h, hb⟩ => ⟨h, (((Below.refl _ _).alloc (Nat.le_refl _) _).alloc (by simp) _).drew.trans (hb.mono (by simp; omega))⟩
theorem pack_ord2 (F R : Int) (h1 : 0 ≤ F) (h2 : F ≤ 64) (h3 : 0 ≤ R) (h4 : R ≤ 64) (W : World) :
    Calls Tryz.prog 78 #[.slice (some ⟨W.heap.size + 1, 0, none⟩) 3 3, .slice (some ⟨W.heap.size, 0, none⟩) 3 3] ((W.alloc (.cells #[.int .u64 F, .int .u64 R, .int .u64 0] 33)).alloc (.cells #[.int .i64 0, .int .i64 8, .int .i64 8, .int .i64 8, .int .i64 16, .int .i64 48] 166)).drew fun e w' => e = .returned (.tuple #[.int .u64 (F + 256 * R), .int .i64 0]) ∧ Below W.heap.size W w' :=
  (pack_first F R h1 h2 h3 h4 _ _ _ (Whole.fresh' (by simp)).drew ((Whole.fresh _ _ _).alloc _).drew).mono fun _ _ ⟨h, hb⟩ => ⟨h, (((Below.refl _ _).alloc (Nat.le_refl _) _).alloc (by simp) _).drew.trans (hb.mono (by simp; omega))⟩

end Go.Proofs.YteneadimchhhhaaGreatDoor
/- Words for slices of ints whose memory lies between two blocks; an append of such a slice to a row of the call's own. -/
namespace Go.Proofs.YteneadimchhhhaaGreatDoor
open Go.RowKit

theorem linfoInt : (Tryz.prog.info? 3).map (fun i => (i.zero, i.size, i.bytes)) = some (some (.int .i64 0), 1, 8) := by kernel_rfl

/-- Ints as values. -/
def ivals (xs : List Int) : List Value := xs.map fun x => Value.int .i64 x
theorem ivals_snoc (xs : List Int) (a : Int) : ivals (xs ++ [a]) = ivals xs ++ [.int .i64 a] := by simp [ivals]
theorem ivals_len (xs : List Int) : (ivals xs).length = xs.length := by simp [ivals]
theorem ivals_at {xs : List Int} {i : Nat} {u : Value} (h : (ivals xs)[i]? = some u) : ∃ x, xs[i]? = some x ∧ u = .int .i64 x := by
  simp only [ivals, List.getElem?_map, Option.map_eq_some_iff] at h
  obtain ⟨x, hx, rfl⟩ := h
  exact ⟨x, hx, rfl⟩

/-- The blocks from lo on and below hi are as they were. -/
def Kept (lo hi : Nat) (w w' : World) : Prop := ∀ g, lo ≤ g → g < hi → w'.heap[g]? = w.heap[g]?
theorem Kept.refl (lo hi : Nat) (w : World) : Kept lo hi w w := fun _ _ _ => rfl
theorem Kept.trans {lo hi : Nat} {a b c : World} (h : Kept lo hi a b) (k : Kept lo hi b c) : Kept lo hi a c := fun g h1 h2 => (k g h1 h2).trans (h g h1 h2)
theorem Kept.mono {lo hi lo' hi' : Nat} {a b : World} (h : Kept lo hi a b) (h1 : lo ≤ lo') (h2 : hi' ≤ hi) : Kept lo' hi' a b := fun g a b => h g (by omega) (by omega)
theorem Kept.of_below {B lo hi : Nat} {a b : World} (h : Below B a b) (hh : hi ≤ B) : Kept lo hi a b := fun g _ h2 => h.block g (by omega)
theorem Kept.setCell {lo hi : Nat} {a w : World} (h : Kept lo hi a w) {p : Addr} (hp : p.block < lo ∨ hi ≤ p.block) (u : Value) : Kept lo hi a (w.setCell p u) := fun g h1 h2 =>
  (Below.heap_setCell w p u g (by rintro rfl; omega)).trans (h g h1 h2)
theorem Kept.alloc {lo hi : Nat} {a w : World} (h : Kept lo hi a w) (hh : hi ≤ w.heap.size) (o : Obj) : Kept lo hi a (w.alloc o) := fun g h1 h2 => (Below.heap_alloc w o g (by omega)).trans (h g h1 h2)
theorem Kept.grown {lo hi : Nat} {a w w' : World} {row : Option Nat} (h : Kept lo hi a w) (hg : w.grownBy w' row) (hh : hi ≤ w.heap.size) (hr : ∀ k, row = some k → k < lo ∨ hi ≤ k) : Kept lo hi a w' := fun g h1 h2 =>
  (hg.block g (by omega) (fun e => by have := hr g e.symm; omega)).trans (h g h1 h2)

/-- A slice of ints that reads as the list xs, its memory from block lo on and below hi; a nil one has no room. -/
structure NI (w : World) (lo hi : Nat) (A : Option Addr) (n c : Nat) (xs : List Int) : Prop where
  ns : NS .i64 w hi A n xs
  low : ∀ a, A = some a → lo ≤ a.block
  nil : A = none → c = 0
theorem NI.kept {w w' : World} {lo hi n c : Nat} {A : Option Addr} {xs : List Int} (h : NI w lo hi A n c xs) (hk : Kept lo hi w w') : NI w' lo hi A n c xs := by
  refine ⟨⟨h.ns.1, h.ns.2.1, fun hn => ?_⟩, h.low, h.nil⟩
  obtain ⟨b, off, rfl, hlt, hc⟩ := h.ns.2.2 hn
  have hl := h.low _ rfl
  exact ⟨b, off, rfl, hlt, fun i x hi => (World.cell?_of_block (hk b hl hlt)).trans (hc i x hi)⟩
theorem NI.mono {w : World} {lo hi lo' hi' n c : Nat} {A : Option Addr} {xs : List Int} (h : NI w lo hi A n c xs) (h1 : lo' ≤ lo) (h2 : hi ≤ hi') : NI w lo' hi' A n c xs :=
  ⟨h.ns.more h2, fun a e => by have := h.low a e; omega, h.nil⟩
theorem NI.len {w : World} {lo hi n c : Nat} {A : Option Addr} {xs : List Int} (h : NI w lo hi A n c xs) : xs.length = n := h.ns.1

/-- A row of the call's own as a slice that reads. -/
theorem own_form {w : World} {base n : Nat} {e : TypeId} {v : Value} {xs : List Int} (h : w.ownsRow base e 1 v n (ivals xs)) (hx : ∀ x ∈ xs, (Lit.int .i64 x).wf = true) : ∃ A c, v = .slice A n c ∧ NI w base w.heap.size A n c xs := by
  have hl : xs.length = n := by have := h.1; rw [ivals_len] at this; omega
  rcases h.2 with ⟨rfl, h0⟩ | ⟨g, cap, cur, rfl, hg, hh, hn, hm, hs, ht⟩
  · subst h0
    exact ⟨none, 0, rfl, ⟨hl, hx, fun h => absurd h (by omega)⟩, fun a e => (by cases e), fun _ => rfl⟩
  · have hlt := (h.lt g rfl).2
    refine ⟨_, cap, rfl, ⟨hl, hx, fun _ => ⟨g, 0, rfl, hlt, fun i x hi => ?_⟩⟩, fun a e => (by cases e; exact hg), fun e => (by cases e)⟩
    have hi' : i < n := by have := (List.getElem?_eq_some_iff.1 hi).1; omega
    have hv : (ivals xs)[i]? = some (.int .i64 x) := by simp [ivals, hi]
    rw [← ht, List.getElem?_take, if_pos (by omega)] at hv
    rw [Nat.zero_add]
    simpa [World.cell?, hh] using hv

/-- An address leads into a block of ints. -/
def typedI (W : World) (A : Option Addr) : Prop := ∀ a, A = some a → ∃ cs fz, W.heap[a.block]? = some (.cells cs 3 fz)
theorem own_typed {w : World} {base n m c : Nat} {A : Option Addr} {xs : List Value} (h : w.ownsRow base 3 1 (.slice A m c) n xs) : typedI w A := by
  rintro a rfl
  rcases h.2 with ⟨e, _⟩ | ⟨g, cap, cur, e, _, hh, _⟩
  · cases e
  · injection e with e
    injection e with e
    subst e
    exact ⟨cur, (0, 0), hh⟩
theorem typedI.kept {w w' : World} {lo : Nat} {A : Option Addr} (h : typedI w A) (hlow : ∀ a, A = some a → lo ≤ a.block) (hk : Kept lo w.heap.size w w') : typedI w' A := fun a e => by
  obtain ⟨cs, fz, h1⟩ := h a e
  exact ⟨cs, fz, (hk a.block (hlow a e) (Array.getElem?_eq_some_iff.1 h1).1).trans h1⟩

section
variable {P : Program} (w : World)
theorem wpList_append_ni {ops : Array Oper} {rest : List Oper} {o : Oper} {a : Act} {Q : Exit → Act → World → Prop} (hgd : o.guard = none) (s x : Operand) (t : TypeId)
    (ho : o.op = .call { callee := .builtin .append, args := #[s, x], argTypes := #[t, t] })
    (base : Nat) (e : TypeId) (i : TypeInfo) (z : Value) (ht : P.underlying t = some (.slice e)) (hi : P.info? e = some i) (hz : i.zero = some z)
    (hsize : i.size = 1) (hby : i.bytes = 8) (hzs : z.cells.size = 1)
    (v : Value) (n : Nat) (xs : List Int) (hs : a.eval s = v) (hown : w.ownsRow base e 1 v n (ivals xs))
    (lo hi' : Nat) (A : Option Addr) (m c : Nat) (ys : List Int) (hx : a.eval x = .slice A m c) (hr : NI w lo hi' A m c ys)
    (h63 : n + m ≤ 1000000) (hbase : base ≤ w.heap.size)
    (h : ∀ v' w', w'.ownsRow base e 1 v' (n + m) (ivals (xs ++ ys)) → w.grownBy w' v.ownBlock → wpList P ops Q rest (a.put o.dst v') w') : wpList P ops Q (o :: rest) a w := by
  rcases A with _ | ad
  · obtain rfl := hr.nil rfl
    have hm : m = 0 := by
      rcases Nat.eq_zero_or_pos m with h0 | h0
      · exact h0
      · obtain ⟨b, off, e, _⟩ := hr.ns.2.2 h0
        cases e
    subst hm
    have hy : ys = [] := List.eq_nil_of_length_eq_zero hr.ns.1
    subst hy
    refine wpList_append_own_none hgd s x t ho base e i 1 ht hi v n (ivals xs) hs hown hx ?_
    exact h v w (by simpa using hown) (World.grownBy.refl w _)
  · refine wpList_append_own_at w hgd s x t ho base e i z 1 8 ht hi hz hsize hby hzs (by decide) v n (ivals xs) hs hown ad m c (ivals ys) hx (by rw [ivals_len, hr.ns.1]; omega) ?_ ?_ (by unfold maxLen; omega) (by omega) hbase ?_
    · intro j u hu
      obtain ⟨y, hy, rfl⟩ := ivals_at hu
      have hj : j < m := by have := (List.getElem?_eq_some_iff.1 hy).1; have := hr.ns.1; omega
      obtain ⟨b, off, e, hlt, hc⟩ := hr.ns.2.2 (by omega)
      injection e with e
      subst e
      have := hc j y hy
      unfold Addr.add
      by_cases h0 : j = 0
      · subst h0; simpa using this
      · simpa [h0] using this
    · intro u hu
      obtain ⟨y, _, rfl⟩ := List.mem_map.1 hu
      rfl
    · intro v' w' h1 h2 _ _
      refine h v' w' ?_ h2
      have : ivals (xs ++ ys) = ivals xs ++ ivals ys := by simp [ivals]
      rw [this]
      exact h1
end
end Go.Proofs.YteneadimchhhhaaGreatDoor
