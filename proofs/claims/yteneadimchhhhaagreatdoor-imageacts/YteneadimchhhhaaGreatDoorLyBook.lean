/- Layouts as values in memory; a book of layouts; contracts of NewBook, Len, Get. -/
import Derived.Test.YteneadimchhhhaaGreatDoorLyAlive
import Derived.Deep.AppendLies
import Derived.Deep.RegionLaw
namespace Go.Proofs.YteneadimchhhhaaGreatDoor
open Go.RowKit

theorem infoLay : (Tryz.prog.info? 70).map (fun i => (i.zero, i.size, i.bytes)) = some (some (.agg #[.int .i64 0, .slice none 0 0, .int .i64 0, .slice none 0 0]), 4, 64) := by kernel_rfl

/-- A layout as a value. -/
structure LV where
  F : Int
  R : Int
  A : Option Addr
  n : Nat
  c : Nat
  xs : List Int
  D : Option Addr
  m : Nat
  d : Nat
  ys : List Int
def LV.vals (l : LV) : List Value := [.int .i64 l.F, .slice l.A l.n l.c, .int .i64 l.R, .slice l.D l.m l.d]
def LV.same (l k : LV) : Prop := l.F = k.F ∧ l.R = k.R ∧ l.n = k.n ∧ l.m = k.m ∧ l.xs = k.xs ∧ l.ys = k.ys
def LV.right (l : LV) : Bool := LM.right l.F l.R l.xs l.ys
/-- Its lists lie between two blocks. -/
def LV.lists (l : LV) (W : World) (lo hi : Nat) : Prop := Lists W lo hi l.A l.n l.c l.xs l.D l.m l.d l.ys
/-- Its numbers may be. -/
structure LV.fits (l : LV) : Prop where
  hF : I64 l.F
  hR : I64 l.R
  hn : l.n ≤ 1000000
  hm : l.m ≤ 1000000
structure LV.ok (l : LV) (W : World) (lo : Nat) : Prop where
  lists : l.lists W lo W.heap.size
  tA : typedI W l.A
  tD : typedI W l.D
  fits : l.fits
def flatV (ls : List LV) : List Value := ls.flatMap LV.vals
theorem flatV_len (ls : List LV) : (flatV ls).length = ls.length * 4 := by
  induction ls with
  | nil => rfl
  | cons l t ih => simp only [flatV, List.flatMap_cons, List.length_append, List.length_cons] at ih ⊢; rw [ih]; simp [LV.vals]; omega
theorem flatV_snoc (ls : List LV) (l : LV) : flatV (ls ++ [l]) = flatV ls ++ l.vals := by simp [flatV]
theorem flatV_at : ∀ (ls : List LV) (i j : Nat) (l : LV), ls[i]? = some l → j < 4 → (flatV ls)[i * 4 + j]? = l.vals[j]? := by
  intro ls
  induction ls with
  | nil => intro i j l h; simp at h
  | cons k t ih =>
    intro i j l h hj
    have hk : k.vals.length = 4 := rfl
    simp only [flatV, List.flatMap_cons]
    cases i with
    | zero =>
      simp at h
      subst h
      rw [List.getElem?_append_left (by omega), Nat.zero_mul, Nat.zero_add]
    | succ i =>
      rw [List.getElem?_append_right (by omega), show (i + 1) * 4 + j - k.vals.length = i * 4 + j by omega]
      exact ih i j l (by simpa using h) hj

/-- A book: its box b, the slice v in it, the layouts. -/
structure BookAt (W : World) (lo b : Nat) (v : Value) (ls : List LV) : Prop where
  lob : lo ≤ b
  box : Whole W b 125 #[v]
  row : W.ownsRow lo 70 4 v ls.length (flatV ls)
  each : ∀ l ∈ ls, l.ok W lo
  len : ls.length ≤ 64

theorem typedI.keep {W W' : World} {A : Option Addr} (h : typedI W A) (hb : ∀ a cs fz, A = some a → W.heap[a.block]? = some (.cells cs 3 fz) → W'.heap[a.block]? = W.heap[a.block]?) : typedI W' A := fun a e => by
  obtain ⟨cs, fz, h1⟩ := h a e
  exact ⟨cs, fz, (hb a cs fz e h1).trans h1⟩
theorem NI.keep {w w' : World} {lo hi hi' n c : Nat} {A : Option Addr} {xs : List Int} (h : NI w lo hi A n c xs) (hh : hi ≤ hi') (hb : ∀ a, A = some a → w'.heap[a.block]? = w.heap[a.block]?) : NI w' lo hi' A n c xs := by
  refine ⟨⟨h.ns.1, h.ns.2.1, fun hn => ?_⟩, h.low, h.nil⟩
  obtain ⟨b, off, rfl, hlt, hc⟩ := h.ns.2.2 hn
  exact ⟨b, off, rfl, by omega, fun i x hi => (World.cell?_of_block (a := ⟨b, off + i, none⟩) (show _ from hb ⟨b, off, none⟩ rfl)).trans (hc i x hi)⟩
theorem LV.ok.keep {l : LV} {W W' : World} {lo : Nat} (h : l.ok W lo) (hs : W.heap.size ≤ W'.heap.size) (hb : ∀ g cs fz, lo ≤ g → W.heap[g]? = some (.cells cs 3 fz) → W'.heap[g]? = W.heap[g]?) : l.ok W' lo := by
  have k1 : ∀ a, l.A = some a → W'.heap[a.block]? = W.heap[a.block]? := fun a e => by
    obtain ⟨cs, fz, h1⟩ := h.tA a e
    exact hb _ cs fz (h.lists.fst.low a e) h1
  have k2 : ∀ a, l.D = some a → W'.heap[a.block]? = W.heap[a.block]? := fun a e => by
    obtain ⟨cs, fz, h1⟩ := h.tD a e
    exact hb _ cs fz (h.lists.snd.low a e) h1
  exact ⟨⟨h.lists.fst.keep hs k1, h.lists.snd.keep hs k2⟩, h.tA.keep fun a _ _ e _ => k1 a e, h.tD.keep fun a _ _ e _ => k2 a e, h.fits⟩
theorem BookAt.keep {W W' : World} {lo b : Nat} {v : Value} {ls : List LV} (h : BookAt W lo b v ls) (hs : W.heap.size ≤ W'.heap.size) (hb : W'.heap[b]? = W.heap[b]?) (hr : ∀ g, v.ownBlock = some g → W'.heap[g]? = W.heap[g]?)
    (ht : ∀ g cs fz, lo ≤ g → W.heap[g]? = some (.cells cs 3 fz) → W'.heap[g]? = W.heap[g]?) : BookAt W' lo b v ls := by
  refine ⟨h.lob, hb.trans h.box, ⟨h.row.1, ?_⟩, fun l hl => (h.each l hl).keep hs ht, h.len⟩
  rcases h.row.2 with h0 | ⟨g, cap, cur, rfl, hg, hh, hx⟩
  · exact .inl h0
  · exact .inr ⟨g, cap, cur, rfl, hg, (hr g rfl).trans hh, hx⟩
theorem BookAt.below {W W' : World} {lo b : Nat} {v : Value} {ls : List LV} (h : BookAt W lo b v ls) (hb : Below W.heap.size W W') : BookAt W' lo b v ls :=
  h.keep hb.size (hb.block b h.box.lt) (fun g hg => hb.block g (h.row.lt g hg).2) fun g _ _ _ hh => hb.block g (Array.getElem?_eq_some_iff.1 hh).1
theorem BookAt.more {W : World} {lo b : Nat} {v : Value} {ls : List LV} (h : BookAt W lo b v ls) : ∃ A c, v = .slice A ls.length c ∧ (0 < ls.length → ∃ g, A = some ⟨g, 0, none⟩ ∧ g < W.heap.size ∧ ∀ i l j, ls[i]? = some l → j < 4 → W.cell? ⟨g, i * 4 + j, none⟩ = l.vals[j]?) := by
  rcases h.row.2 with ⟨rfl, h0⟩ | ⟨g, cap, cur, rfl, hg, hh, hn, hm, hs, ht⟩
  · exact ⟨none, 0, by rw [h0], fun hp => by omega⟩
  · refine ⟨_, cap, rfl, fun hp => ⟨g, rfl, (Array.getElem?_eq_some_iff.1 hh).1, fun i l j hi hj => ?_⟩⟩
    have hil : i < ls.length := (List.getElem?_eq_some_iff.1 hi).1
    rw [← flatV_at ls i j l hi hj, ← ht, List.getElem?_take, if_pos (by omega)]
    simp [World.cell?, hh]

theorem newBook_any (w : World) : Calls Tryz.prog 20 #[] w fun e w' => e = .returned (.pointer (some ⟨w.heap.size, 0, none⟩)) ∧ w.alloc (.cells #[.slice none 0 0] 125) = w' := by
  go_enter Tryz.func20, Tryz.ntmps20
  go_wp2
  go_ret
  exact ⟨rfl, rfl⟩
theorem book_new (w : World) (lo : Nat) (h : lo ≤ w.heap.size) : BookAt (w.alloc (.cells #[.slice none 0 0] 125)) lo w.heap.size (.slice none 0 0) [] :=
  ⟨h, Whole.fresh _ _ _, World.ownsRow_nil _ _ _ _, by simp, by simp⟩

theorem bookGet_nil (i : Int) (w : World) : Calls Tryz.prog 80 #[.pointer none, .int .i64 i] w fun e w' => e = .returned (.tuple #[.agg #[.int .i64 0, .slice none 0 0, .int .i64 0, .slice none 0 0], .int .i64 1]) ∧ Below w.heap.size w w' := by
  go_enter Tryz.func80, Tryz.ntmps80
  go_wp2
  exact bodyPost_ret (v := .tuple #[.agg #[.int .i64 0, .slice none 0 0, .int .i64 0, .slice none 0 0], .int .i64 1]) (by simp [results, Tryz.results80, go_sem]) rfl ⟨rfl, (Below.refl _ _).alloc (Nat.le_refl _) _⟩
theorem bookGet_none {w : World} {lo b : Nat} {v : Value} {ls : List LV} (h : BookAt w lo b v ls) (i : Int) (hi : i < 1 ∨ (ls.length : Int) < i) : Calls Tryz.prog 80 #[.pointer (some ⟨b, 0, none⟩), .int .i64 i] w fun e w' => e = .returned (.tuple #[.agg #[.int .i64 0, .slice none 0 0, .int .i64 0, .slice none 0 0], .int .i64 6]) ∧ Below w.heap.size w w' := by
  obtain ⟨A, c, rfl, _⟩ := h.more
  have c0 : w.cell? ⟨b, 0, none⟩ = some (.slice A ls.length c) := h.box.cell 0
  have hlt := h.box.lt
  clear h
  by_cases h1 : i < 1
  · have d0 : decide (i < 1) = true := by simpa using h1
    go_enter Tryz.func80, Tryz.ntmps80
    go_wp2
    exact bodyPost_ret (v := .tuple #[.agg #[.int .i64 0, .slice none 0 0, .int .i64 0, .slice none 0 0], .int .i64 6]) (by simp [results, Tryz.results80, go_sem]) rfl ⟨rfl, (Below.refl _ _).alloc (Nat.le_refl _) _⟩
  · have d0 : decide (i < 1) = false := by simpa using h1
    have d1 : decide ((ls.length : Int) < i) = true := by simp; omega
    go_enter Tryz.func80, Tryz.ntmps80
    go_wp2
    exact bodyPost_ret (v := .tuple #[.agg #[.int .i64 0, .slice none 0 0, .int .i64 0, .slice none 0 0], .int .i64 6]) (by simp [results, Tryz.results80, go_sem]) rfl ⟨rfl, (Below.refl _ _).alloc (Nat.le_refl _) _⟩
end Go.Proofs.YteneadimchhhhaaGreatDoor
