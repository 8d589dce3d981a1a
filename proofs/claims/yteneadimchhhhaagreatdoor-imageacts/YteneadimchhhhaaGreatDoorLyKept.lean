/- A book beside a slice of layouts that the law keeps: what both are, step by step; how a slice of layouts among the arguments is opened. -/
import Derived.Test.YteneadimchhhhaaGreatDoorLyBook3
import Derived.Test.YteneadimchhhhaaGreatDoorLyOpen
namespace Go.Proofs.YteneadimchhhhaaGreatDoor
open Go.ChangeShapes Go.WideShapes Go.ChangeAt Go.RowKit Go.Joins Go.Deep

/-- A slice of layouts that reads as the list ls, its memory and its layouts' below block B. -/
def LS (w : World) (B : Nat) (A : Option Addr) (n : Nat) (ls : List LV) : Prop :=
  ls.length = n ∧ (0 < n → ∃ b off, A = some ⟨b, off, none⟩ ∧ b < B ∧ ∀ i l j, ls[i]? = some l → j < 4 → w.cell? ⟨b, off + i * 4 + j, none⟩ = l.vals[j]?) ∧ ∀ l ∈ ls, l.lists w 0 B ∧ I64 l.F ∧ I64 l.R
theorem LS.at_ {w : World} {B n k : Nat} {A : Option Addr} {ls : List LV} (h : LS w B A n ls) (hk : k < n) : ∃ b off l, A = some ⟨b, off, none⟩ ∧ b < B ∧ l ∈ ls ∧
    w.cell? ⟨b, off + k * 4, none⟩ = some (.int .i64 l.F) ∧ w.cell? ⟨b, off + k * 4 + 1, none⟩ = some (.slice l.A l.n l.c) ∧ w.cell? ⟨b, off + k * 4 + 2, none⟩ = some (.int .i64 l.R) ∧ w.cell? ⟨b, off + k * 4 + 3, none⟩ = some (.slice l.D l.m l.d) := by
  obtain ⟨b, off, e, hlt, hc⟩ := h.2.1 (by omega)
  have hl : k < ls.length := by have := h.1; omega
  have hi : ls[k]? = some ls[k] := List.getElem?_eq_getElem hl
  exact ⟨b, off, ls[k], e, hlt, List.getElem_mem hl, hc k _ 0 hi (by omega), hc k _ 1 hi (by omega), hc k _ 2 hi (by omega), hc k _ 3 hi (by omega)⟩

section
variable {H : Type} {enc : TypeId × Value → H} {w : World} {spare : Nat → Bool} {held : Bool}
theorem add_add4 (a : Addr) (i j : Nat) : (a.add i).add j = a.add (i + j) := by
  unfold Addr.add
  by_cases hi : i = 0
  · subst hi; simp
  · by_cases hj : j = 0
    · subst hj; simp
    · simp [hi, hj, Nat.add_assoc]
theorem one_field4 {cs : List Value} {a : Addr} {i j : Nat} {v : Value} (hc : ∀ j, j < 4 → w.cell? ((a.add (i * 4)).add j) = cs[j]?) (hj : j < 4) (h : (cs.drop j).take 1 = [v]) :
    w.cell? ⟨a.block, a.off + i * 4 + j, none⟩ = some v := by
  have h0 : cs[j]? = some v := by
    have : ((cs.drop j).take 1)[0]? = some v := by rw [h]; rfl
    simpa using this
  have h1 := hc j hj
  rw [h0, add_add4] at h1
  rw [addr_plain h1] at h1
  rw [Nat.add_assoc]
  exact h1
set_option maxRecDepth 100000 in
theorem open_layouts {A : Option Addr} {n c : Nat} {d : DataW H} {p : List MemPlace} (h : DataW.Trod enc Tryz.prog w 0 spare held 22 (.slice A n c) d p) : ∃ ls, LS w w.heap.size A n ls := by
  obtain ⟨fuel, hf⟩ := h
  rcases open_slice Tryz.underlying22 hf with ⟨hcs, _⟩ | ⟨a, len, cap, m, k, D, Pl, hcs, _, hl, _, hmm, _, hi⟩
  · simp [Value.cells] at hcs
    obtain ⟨rfl, rfl, rfl⟩ := hcs
    exact ⟨[], rfl, fun h => absurd h (by omega), by simp⟩
  · simp [Value.cells] at hcs
    obtain ⟨rfl, rfl, rfl⟩ := hcs
    have hlm : n ≤ m := by rw [hmm]; split <;> omega
    have c4 : Tryz.prog.cellsOf 70 = 4 := by kernel_rfl
    have c1 : Tryz.prog.cellsOf 3 = 1 := by kernel_rfl
    have cs1 : Tryz.prog.cellsOf 42 = 1 := by kernel_rfl
    rw [c4] at hi
    have hg : ∀ i, i < n → ∃ l : LV, (∀ j, j < 4 → w.cell? ⟨a.block, a.off + i * 4 + j, none⟩ = l.vals[j]?) ∧ l.lists w 0 w.heap.size ∧ I64 l.F ∧ I64 l.R := by
      intro i hin
      obtain ⟨cs, hc, ht⟩ := hi i (by omega)
      obtain ⟨ys, k', _, _, _, hyl, hfl⟩ := DataW.trod_struct Tryz.underlying70 ht
      obtain ⟨_, _, hat⟩ := World.cells?_some hc
      have hyl4 : ys.length = 4 := hyl
      obtain ⟨y0, hy0⟩ : ∃ y, ys[0]? = some y := ⟨ys[0]'(by omega), List.getElem?_eq_getElem (by omega)⟩
      obtain ⟨y1, hy1⟩ : ∃ y, ys[1]? = some y := ⟨ys[1]'(by omega), List.getElem?_eq_getElem (by omega)⟩
      obtain ⟨y2, hy2⟩ : ∃ y, ys[2]? = some y := ⟨ys[2]'(by omega), List.getElem?_eq_getElem (by omega)⟩
      obtain ⟨y3, hy3⟩ : ∃ y, ys[3]? = some y := ⟨ys[3]'(by omega), List.getElem?_eq_getElem (by omega)⟩
      have g0 : DataW.trod enc Tryz.prog w 0 spare held k' 3 ((cs.drop 0).take (Tryz.prog.cellsOf 3)) = ys[0]? := hfl 0 _ rfl
      have g1 : DataW.trod enc Tryz.prog w 0 spare held k' 42 ((cs.drop 1).take (Tryz.prog.cellsOf 42)) = ys[1]? := hfl 1 _ rfl
      have g2 : DataW.trod enc Tryz.prog w 0 spare held k' 3 ((cs.drop 2).take (Tryz.prog.cellsOf 3)) = ys[2]? := hfl 2 _ rfl
      have g3 : DataW.trod enc Tryz.prog w 0 spare held k' 42 ((cs.drop 3).take (Tryz.prog.cellsOf 42)) = ys[3]? := hfl 3 _ rfl
      rw [c1, hy0] at g0
      rw [cs1, hy1] at g1
      rw [c1, hy2] at g2
      rw [cs1, hy3] at g3
      obtain ⟨F, e0, _, w0⟩ := DataW.trod_int Tryz.underlying3 g0
      obtain ⟨R, e2, _, w2⟩ := DataW.trod_int Tryz.underlying3 g2
      obtain ⟨v1, e1⟩ : ∃ v, (cs.drop 1).take 1 = [v] := by
        have hl4 : cs.length = 4 := by
          obtain ⟨_, hl4, _⟩ := World.cells?_some hc
          exact hl4
        match cs, hl4 with
        | [_, b, _, _], _ => exact ⟨b, rfl⟩
      obtain ⟨v3, e3⟩ : ∃ v, (cs.drop 3).take 1 = [v] := by
        have hl4 : cs.length = 4 := by
          obtain ⟨_, hl4, _⟩ := World.cells?_some hc
          exact hl4
        match cs, hl4 with
        | [_, _, _, b], _ => exact ⟨b, rfl⟩
      rw [e1] at g1
      rw [e3] at g3
      obtain ⟨A, nn, cc, xs, rfl, hx⟩ := open_ni g1
      obtain ⟨D, mm, dd, ys', rfl, hy⟩ := open_ni g3
      have := bounds_i64 w0
      have := bounds_i64 w2
      refine ⟨⟨F, R, A, nn, cc, xs, D, mm, dd, ys'⟩, fun j hj => ?_, ⟨hx, hy⟩, ⟨by show _ ≤ F; omega, by show F ≤ _; omega⟩, ⟨by show _ ≤ R; omega, by show R ≤ _; omega⟩⟩
      match j, hj with
      | 0, _ => exact one_field4 hat (by omega) e0
      | 1, _ => exact one_field4 hat (by omega) e1
      | 2, _ => exact one_field4 hat (by omega) e2
      | 3, _ => exact one_field4 hat (by omega) e3
    haveI : Inhabited LV := ⟨⟨0, 0, Option.none, 0, 0, [], Option.none, 0, 0, []⟩⟩
    obtain ⟨q, hq⟩ := choose_lt hg
    refine ⟨(List.range n).map q, by simp, fun hn => ?_, fun x hx => ?_⟩
    · have h0 : w.cell? ⟨a.block, a.off + 0 * 4 + 0, none⟩ = some (.int .i64 (q 0).F) := (hq 0 hn).1 0 (by omega)
      have hsp : a = ⟨a.block, a.off, none⟩ := by
        obtain ⟨cs, hc, ht⟩ := hi 0 (by omega)
        obtain ⟨_, hlen, hat⟩ := World.cells?_some hc
        have h1 := hat 0 (by omega)
        rw [List.getElem?_eq_getElem (show 0 < cs.length by omega), add_add4] at h1
        have := addr_plain h1
        simpa [Addr.add] using this
      refine ⟨a.block, a.off, by rw [← hsp], cell_lt (a := ⟨a.block, a.off + 0 * 4 + 0, none⟩) h0, fun i f j hif hj => ?_⟩
      simp only [List.getElem?_map, Option.map_eq_some_iff] at hif
      obtain ⟨j', hj', rfl⟩ := hif
      have hjn : i < n := by
        rcases Nat.lt_or_ge i n with h | h
        · exact h
        · rw [List.getElem?_eq_none (by simpa using h)] at hj'; cases hj'
      rw [List.getElem?_range hjn] at hj'
      injection hj' with hj'
      subst hj'
      exact (hq i hjn).1 j hj
    · obtain ⟨j, hj, rfl⟩ := List.mem_map.1 hx
      exact (hq j (List.mem_range.1 hj)).2
end

/-- Two lists of layouts that are the same, one by one. -/
def Sames (bk ks : List LV) : Prop := bk.length = ks.length ∧ ∀ (i : Nat) (k l : LV), bk[i]? = some k → ks[i]? = some l → LV.same k l
theorem Sames.snoc {bk ks : List LV} {k l : LV} (h : Sames bk ks) (hk : k.same l) : Sames (bk ++ [k]) (ks ++ [l]) := by
  refine ⟨by simp [h.1], fun i a c ha hc => ?_⟩
  have h1 := h.1
  by_cases hi : i < bk.length
  · rw [List.getElem?_append_left hi] at ha
    rw [List.getElem?_append_left (by omega)] at hc
    exact h.2 i a c ha hc
  · rw [List.getElem?_append_right (by omega)] at ha
    rw [List.getElem?_append_right (by omega)] at hc
    have e1 : i - bk.length = 0 := by
      rcases Nat.eq_zero_or_pos (i - bk.length) with e | e
      · exact e
      · rw [List.getElem?_eq_none (by simp; omega)] at ha; cases ha
    have e2 : i - ks.length = 0 := by omega
    rw [e1] at ha
    rw [e2] at hc
    simp at ha hc
    subst ha hc
    exact hk

/-- A book, and a slice vk of layouts (all of them arguments of the law's) in another row. -/
structure BL (w wr : World) (b : Nat) (v : Value) (bk : List LV) (vk : Value) (ks : List LV) : Prop where
  bel : Below w.heap.size w wr
  book : BookAt wr w.heap.size b v bk
  row : wr.ownsRow w.heap.size 70 4 vk ks.length (flatV ks)
  each : ∀ l ∈ ks, l.lists w 0 w.heap.size ∧ l.fits
  apart : ∀ g, vk.ownBlock = some g → v.ownBlock ≠ some g
section
variable {w wr wr' : World} {b : Nat} {v vk : Value} {bk ks : List LV}
theorem BL.later (h : BL w wr b v bk vk ks) (hb : Below wr.heap.size wr wr') : BL w wr' b v bk vk ks :=
  ⟨h.bel.trans (hb.mono h.bel.size), h.book.below hb, ownsRow_below h.row hb, h.each, h.apart⟩
theorem BL.still (h : BL w wr b v bk vk ks) (e1 : wr'.os = wr.os) (e2 : wr'.tape = wr.tape) (e3 : wr'.output = wr.output) (e4 : wr'.heap = wr.heap) : BL w wr' b v bk vk ks :=
  h.later ⟨e1, e2, e3, by rw [e4]; exact Nat.le_refl _, fun k _ => by rw [e4]⟩
/-- Behind Add. -/
theorem BL.added {k : LV} {v' : Value} (h : BL w wr b v bk vk ks) (hbk : BookAt wr' w.heap.size b v' (bk ++ [k])) (hbut : But2 b v.ownBlock wr wr') (hwh : v'.ownBlock = v.ownBlock ∨ ∃ g, v'.ownBlock = some g ∧ wr.heap.size ≤ g) : BL w wr' b v' (bk ++ [k]) vk ks := by
  have hrow : ∀ g, vk.ownBlock = some g → wr'.heap[g]? = wr.heap[g]? := fun g hg => by
    refine hbut.block g (h.row.lt g hg).2 (fun e => ?_) (h.apart g hg)
    obtain ⟨cs, hc⟩ := own_type h.row hg
    rw [e] at hc
    have := hc.symm.trans h.book.box
    simp at this
  refine ⟨h.bel.trans (hbut.below h.book.lob h.bel.size fun g hg => (h.book.row.lt g hg).1), hbk, ⟨h.row.1, ?_⟩, h.each, fun g hg => ?_⟩
  · rcases h.row.2 with h0 | ⟨g, cap, cur, rfl, hg, hh, hx⟩
    · exact .inl h0
    · exact .inr ⟨g, cap, cur, rfl, hg, (hrow g rfl).trans hh, hx⟩
  · rcases hwh with e | ⟨g', e, hg'⟩
    · rw [e]; exact h.apart g hg
    · rw [e]
      intro e'
      injection e' with e'
      have := (h.row.lt g hg).2
      omega
/-- Behind an append to the slice. -/
theorem BL.kept {l : LV} {o : Obj} {g cap : Nat} (h : BL w wr b v bk vk ks) (hl : l.lists w 0 w.heap.size) (hf : l.fits)
    (hown : wr'.ownsRow w.heap.size 70 4 (.slice (some ⟨g, 0, none⟩) (ks.length + 1) cap) (ks.length + 1) (flatV ks ++ l.vals)) (hgr : (wr.alloc o).grownBy wr' vk.ownBlock) (hat : vk.ownBlock = some g ∨ g = wr.heap.size + 1) :
    BL w wr' b v bk (.slice (some ⟨g, 0, none⟩) (ks.length + 1) cap) (ks ++ [l]) := by
  have step : ∀ g', g' < wr.heap.size → vk.ownBlock ≠ some g' → wr'.heap[g']? = wr.heap[g']? := fun g' h1 h2 => (hgr.block g' (by rw [World.size_alloc]; omega) (Ne.symm h2)).trans (Below.heap_alloc wr o g' h1)
  have hs := hgr.size
  rw [World.size_alloc] at hs
  refine ⟨(((h.bel.alloc h.bel.size o).grown hgr (by rw [World.size_alloc]; have := h.bel.size; omega) fun k hk => (h.row.lt k hk).1)), h.book.keep (by omega) (step b h.book.box.lt fun e => ?_) (fun g' hg' => step g' (h.book.row.lt g' hg').2 fun e => h.apart g' e hg') (fun g' cs fz _ hh => step g' (Array.getElem?_eq_some_iff.1 hh).1 fun e => ?_), ?_, ?_, ?_⟩
  · obtain ⟨cs, hc⟩ := own_type h.row e
    have := hc.symm.trans h.book.box
    simp at this
  · obtain ⟨cs, hc⟩ := own_type h.row e
    have := hc.symm.trans hh
    simp at this
  · rw [flatV_snoc, List.length_append]
    exact hown
  · intro l' hl'
    rcases List.mem_append.1 hl' with hl' | hl'
    · exact h.each l' hl'
    · rw [List.mem_singleton] at hl'
      subst hl'
      exact ⟨hl, hf⟩
  · intro g' hg'
    simp [Value.ownBlock] at hg'
    subst hg'
    rcases hat with e | e
    · exact h.apart g e
    · intro e'
      have := (h.book.row.lt g e').2
      omega
theorem BL.more (h : BL w wr b v bk vk ks) : ∃ A c, vk = .slice A ks.length c ∧ (0 < ks.length → ∃ g, A = some ⟨g, 0, none⟩ ∧ g < wr.heap.size ∧ ∀ i l j, ks[i]? = some l → j < 4 → wr.cell? ⟨g, i * 4 + j, none⟩ = l.vals[j]?) := by
  rcases h.row.2 with ⟨rfl, h0⟩ | ⟨g, cap, cur, rfl, hg, hh, hn, hm, hs, ht⟩
  · exact ⟨none, 0, by rw [h0], fun hp => by omega⟩
  · refine ⟨_, cap, rfl, fun hp => ⟨g, rfl, (Array.getElem?_eq_some_iff.1 hh).1, fun i l j hi hj => ?_⟩⟩
    have hil : i < ks.length := (List.getElem?_eq_some_iff.1 hi).1
    rw [← flatV_at ks i j l hi hj, ← ht, List.getElem?_take, if_pos (by omega)]
    simp [World.cell?, hh]
end
end Go.Proofs.YteneadimchhhhaaGreatDoor
