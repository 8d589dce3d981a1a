/- Words for slices of fields and of numbers that read as lists, nil let in; how the laws' arguments are opened to them. -/
import Derived.Test.YtomjaieplpjcpaaRows
import Derived.Test.YtomjaieplpjcpaaBase
import Derived.Test.YtomjaieplpjcpaaMath
import Derived.WalkKit
import Derived.ProofKit
import Derived.OpenShut
import Derived.ShutString
import Derived.ChangeOld
import Derived.Below
import Derived.Lib.SmallJoins
import Derived.Deep.SlicePairs
namespace Go.Proofs.Ytomjaieplpjcpaa
open Go.ChangeShapes Go.WideShapes Go.ChangeAt Go.RowKit Go.Joins Go.Deep

/-- A slice of fields that reads as the list fs, its memory below block B. -/
def FS (w : World) (B : Nat) (A : Option Addr) (n : Nat) (fs : List (Int × Int)) : Prop :=
  fs.length = n ∧ (0 < n → ∃ b off, A = some ⟨b, off, none⟩ ∧ b < B ∧ ∀ i f, fs[i]? = some f → w.cell? ⟨b, off + i * 2, none⟩ = some (.int .i64 f.1) ∧ w.cell? ⟨b, off + i * 2 + 1, none⟩ = some (.int .i64 f.2))

theorem FS.below {w w' : World} {B n : Nat} {A : Option Addr} {fs : List (Int × Int)} (h : FS w B A n fs) (hb : Below B w w') : FS w' B A n fs := by
  refine ⟨h.1, fun hn => ?_⟩
  obtain ⟨b, off, e, hlt, hc⟩ := h.2 hn
  exact ⟨b, off, e, hlt, fun i f hi => ⟨(hb.cell (p := ⟨b, _, none⟩) hlt).trans (hc i f hi).1, (hb.cell (p := ⟨b, _, none⟩) hlt).trans (hc i f hi).2⟩⟩
theorem FS.more {w : World} {B B' n : Nat} {A : Option Addr} {fs : List (Int × Int)} (h : FS w B A n fs) (hB : B ≤ B') : FS w B' A n fs := by
  refine ⟨h.1, fun hn => ?_⟩
  obtain ⟨b, off, e, hlt, hc⟩ := h.2 hn
  exact ⟨b, off, e, by omega, hc⟩
theorem FS.take {w : World} {B n m : Nat} {A : Option Addr} {fs : List (Int × Int)} (h : FS w B A n fs) (hm : m ≤ n) : FS w B A m (fs.take m) := by
  refine ⟨by rw [List.length_take, h.1]; omega, fun hn => ?_⟩
  obtain ⟨b, off, e, hlt, hc⟩ := h.2 (by omega)
  refine ⟨b, off, e, hlt, fun i f hi => hc i f ?_⟩
  rw [List.getElem?_take] at hi
  split at hi
  · exact hi
  · cases hi
theorem FS.at_ {w : World} {B n k : Nat} {A : Option Addr} {fs : List (Int × Int)} (h : FS w B A n fs) (hk : k < n) : ∃ b off a c, A = some ⟨b, off, none⟩ ∧ b < B ∧ fs.drop k = (a, c) :: fs.drop (k + 1) ∧
    w.cell? ⟨b, off + k * 2, none⟩ = some (.int .i64 a) ∧ w.cell? ⟨b, off + k * 2 + 1, none⟩ = some (.int .i64 c) := by
  obtain ⟨b, off, e, hlt, hc⟩ := h.2 (by omega)
  have hl : k < fs.length := by have := h.1; omega
  have := hc k fs[k] (List.getElem?_eq_getElem hl)
  exact ⟨b, off, fs[k].1, fs[k].2, e, hlt, FM.drop_cons fs k hl, this.1, this.2⟩

/-- A slice of numbers that reads as the list xs, its memory below block B. -/
def NS (k : IntKind) (w : World) (B : Nat) (A : Option Addr) (n : Nat) (xs : List Int) : Prop :=
  xs.length = n ∧ (∀ x ∈ xs, (Lit.int k x).wf = true) ∧ (0 < n → ∃ b off, A = some ⟨b, off, none⟩ ∧ b < B ∧ ∀ i x, xs[i]? = some x → w.cell? ⟨b, off + i, none⟩ = some (.int k x))

theorem NS.below {k : IntKind} {w w' : World} {B n : Nat} {A : Option Addr} {xs : List Int} (h : NS k w B A n xs) (hb : Below B w w') : NS k w' B A n xs := by
  refine ⟨h.1, h.2.1, fun hn => ?_⟩
  obtain ⟨b, off, e, hlt, hc⟩ := h.2.2 hn
  exact ⟨b, off, e, hlt, fun i f hi => (hb.cell (p := ⟨b, _, none⟩) hlt).trans (hc i f hi)⟩
theorem NS.more {k : IntKind} {w : World} {B B' n : Nat} {A : Option Addr} {xs : List Int} (h : NS k w B A n xs) (hB : B ≤ B') : NS k w B' A n xs := by
  refine ⟨h.1, h.2.1, fun hn => ?_⟩
  obtain ⟨b, off, e, hlt, hc⟩ := h.2.2 hn
  exact ⟨b, off, e, by omega, hc⟩
theorem NS.take {k : IntKind} {w : World} {B n m : Nat} {A : Option Addr} {xs : List Int} (h : NS k w B A n xs) (hm : m ≤ n) : NS k w B A m (xs.take m) := by
  refine ⟨by rw [List.length_take, h.1]; omega, fun x hx => h.2.1 x (List.mem_of_mem_take hx), fun hn => ?_⟩
  obtain ⟨b, off, e, hlt, hc⟩ := h.2.2 (by omega)
  refine ⟨b, off, e, hlt, fun i f hi => hc i f ?_⟩
  rw [List.getElem?_take] at hi
  split at hi
  · exact hi
  · cases hi
theorem NS.at_ {k : IntKind} {w : World} {B n i : Nat} {A : Option Addr} {xs : List Int} (h : NS k w B A n xs) (hk : i < n) : ∃ b off x, A = some ⟨b, off, none⟩ ∧ b < B ∧ xs.drop i = x :: xs.drop (i + 1) ∧ (Lit.int k x).wf = true ∧
    w.cell? ⟨b, off + i, none⟩ = some (.int k x) := by
  obtain ⟨b, off, e, hlt, hc⟩ := h.2.2 (by omega)
  have hl : i < xs.length := by have := h.1; omega
  have := hc i xs[i] (List.getElem?_eq_getElem hl)
  exact ⟨b, off, xs[i], e, hlt, FM.drop_cons xs i hl, h.2.1 _ (List.getElem_mem hl), this⟩
theorem word_of {x : Int} (h : (Lit.int .u64 x).wf = true) : FM.Word x := by have := bounds_u64 h; constructor <;> omega
theorem of_word {x : Int} (h : FM.Word x) : (Lit.int .u64 x).wf = true := by
  obtain ⟨h1, h2⟩ := h
  have e1 : IntKind.u64.min = 0 := by decide
  have e2 : IntKind.u64.max = 18446744073709551615 := by decide
  simp [Lit.wf, e1, e2]
  omega

section
variable {H : Type} {enc : TypeId × Value → H} {P : Program} {w : World} {spare : Nat → Bool} {held : Bool}
theorem addr_plain {a : Addr} {i : Nat} {v : Value} (h : w.cell? (a.add i) = some v) : a.add i = ⟨a.block, a.off + i, none⟩ := by
  have hs := World.cell?_spot h
  obtain ⟨b, off, spot⟩ := a
  unfold Addr.add at hs ⊢
  by_cases hi : i = 0
  · subst hi
    simp at hs
    simp [hs]
  · simp [hi]
theorem addr_zero {a : Addr} {v : Value} (h : w.cell? (a.add 0) = some v) : a = ⟨a.block, a.off, none⟩ := by
  have := addr_plain h
  simpa [Addr.add] using this

theorem cell_lt {a : Addr} {v : Value} (h : w.cell? a = some v) : a.block < w.heap.size := by
  rcases Nat.lt_or_ge a.block w.heap.size with hl | hg
  · exact hl
  · simp [World.cell?, Array.getElem?_eq_none hg] at h

theorem open_fields {t e u : TypeId} {f0 f1 : Field} {A : Option Addr} {n c : Nat} {d : DataW H} {p : List MemPlace} (ht : P.underlying t = some (.slice e)) (he : P.underlying e = some (.struct #[f0, f1])) (hu : P.underlying u = some (.int .i64))
    (t0 : f0.type = u) (t1 : f1.type = u) (ce : P.cellsOf e = 2) (o0 : f0.offset = 0) (o1 : f1.offset = 1) (cu : P.cellsOf u = 1)
    (h : DataW.Trod enc P w 0 spare held t (.slice A n c) d p) : ∃ fs, FS w w.heap.size A n fs ∧ n ≤ c := by
  obtain ⟨fuel, hf⟩ := h
  rcases open_slice_pairs ht he ce o0 o1 (by rw [t0]; exact cu) (by rw [t1]; exact cu) hf with ⟨hcs, _⟩ | ⟨a, len, cap, m, n', V0, V1, D0, D1, P0, P1, hcs, _, hl, hm, hmm, _, hi⟩
  · simp [Value.cells] at hcs
    obtain ⟨rfl, rfl, rfl⟩ := hcs
    exact ⟨[], ⟨rfl, fun h => absurd h (by omega)⟩, Nat.le_refl _⟩
  · simp [Value.cells] at hcs
    obtain ⟨rfl, rfl, rfl⟩ := hcs
    have hlm : n ≤ m := by rw [hmm]; split <;> omega
    have hg : ∀ i, i < n → ∃ f : Int × Int, w.cell? ⟨a.block, a.off + i * 2, none⟩ = some (.int .i64 f.1) ∧ w.cell? ⟨a.block, a.off + i * 2 + 1, none⟩ = some (.int .i64 f.2) := by
      intro i hin
      obtain ⟨h0, h1, g0, g1⟩ := hi i (by omega)
      rw [t0] at g0
      rw [t1] at g1
      obtain ⟨x, ex, _, _⟩ := DataW.trod_int hu g0
      obtain ⟨y, ey, _, _⟩ := DataW.trod_int hu g1
      simp at ex ey
      rw [ex, addr_plain h0] at h0
      rw [ey, addr_plain h1, ← Nat.add_assoc] at h1
      exact ⟨(x, y), h0, h1⟩
    obtain ⟨q, hq⟩ := choose_lt hg
    refine ⟨(List.range n).map q, ⟨by simp, fun hn => ?_⟩, hl⟩
    obtain ⟨h0, _⟩ := hi 0 (by omega)
    rw [Nat.zero_mul] at h0
    refine ⟨a.block, a.off, by rw [← addr_zero h0], ?_, fun i f hif => ?_⟩
    · have := cell_lt h0
      rw [addr_plain h0] at this
      exact this
    · simp only [List.getElem?_map, Option.map_eq_some_iff] at hif
      obtain ⟨j, hj, rfl⟩ := hif
      have hjn : i < n := by
        rcases Nat.lt_or_ge i n with h | h
        · exact h
        · rw [List.getElem?_eq_none (by simpa using h)] at hj; cases hj
      rw [List.getElem?_range hjn] at hj
      injection hj with hj
      subst hj
      exact hq i hjn

theorem open_arr2 {r : Reach} {b0 base : Nat} {t e : TypeId} {k : IntKind} {v : Value} {d : DataW H} {p : List MemPlace} (ht : P.underlying t = some (.array 2 e)) (he : P.underlying e = some (.int k)) (ce : P.cellsOf e = 1) (ct : P.cellsOf t = 2)
    (hv : Value.okWide P w r b0 t v) (h : DataW.Trod enc P w base spare held t v d p) : ∃ x y, v = .agg #[.int k x, .int k y] ∧ (Lit.int k x).wf = true ∧ (Lit.int k y).wf = true := by
  simp only [Value.okWide, ht] at hv
  obtain ⟨⟨l⟩, rfl, hsz, _⟩ := hv
  match l, hsz.trans ct with
  | [c0, c1], _ =>
    obtain ⟨fuel, hf⟩ := h
    obtain ⟨xs, m, _, _, _, hlen, hg⟩ := DataW.trod_array ht hf
    match xs, hlen with
    | [y0, y1], _ =>
      have g0 := hg 0 (by omega)
      have g1 := hg 1 (by omega)
      simp [ce, Value.cells] at g0 g1
      obtain ⟨x, ex, _, wx⟩ := DataW.trod_int he g0
      obtain ⟨y, ey, _, wy⟩ := DataW.trod_int he g1
      simp at ex ey
      subst ex ey
      exact ⟨x, y, rfl, wx, wy⟩

theorem open_nums {t e : TypeId} {k : IntKind} {A : Option Addr} {n c : Nat} {d : DataW H} {p : List MemPlace} (ht : P.underlying t = some (.slice e)) (he : P.underlying e = some (.int k)) (ce : P.cellsOf e = 1)
    (h : DataW.Trod enc P w 0 spare held t (.slice A n c) d p) : ∃ xs, NS k w w.heap.size A n xs ∧ n ≤ c := by
  obtain ⟨fuel, hf⟩ := h
  rcases open_ints ht he ce hf with ⟨hcs, _⟩ | ⟨a, l, c', zs, hcs, _, hl, hm, hz, _, hcell, hwz⟩
  · simp [Value.cells] at hcs
    obtain ⟨rfl, rfl, rfl⟩ := hcs
    exact ⟨[], ⟨rfl, by simp, fun h => absurd h (by omega)⟩, Nat.le_refl _⟩
  · simp [Value.cells] at hcs
    obtain ⟨rfl, rfl, rfl⟩ := hcs
    have hlm : n ≤ zs.length := by rw [hz]; split <;> omega
    refine ⟨zs.take n, ⟨by simp; omega, fun x hx => hwz x (List.mem_of_mem_take hx), fun hn => ?_⟩, hl⟩
    have h0 := hcell 0 (by omega)
    refine ⟨a.block, a.off, by rw [← addr_zero h0], ?_, fun i x hx => ?_⟩
    · have := cell_lt h0
      rw [addr_plain h0] at this
      exact this
    · rw [List.getElem?_take] at hx
      split at hx
      · have hil : i < zs.length := by omega
        have hi := hcell i hil
        rw [addr_plain hi] at hi
        rw [List.getElem?_eq_getElem hil] at hx
        injection hx with hx
        simpa [List.getElem?_eq_getElem hil, hx] using hi
      · cases hx
end

end Go.Proofs.Ytomjaieplpjcpaa
