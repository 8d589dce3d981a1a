/- Contracts of Set, Drop, Add of package table. -/
import Derived.Test.YtldlolgdglmocaaDoorTbLeaf
namespace Go.Proofs.YtldlolgdglmocaaDoor
open Go.RowKit

def upd (S : Nat → Sl) (k : Nat) (x : Sl) : Nat → Sl := fun q => if q = k then x else S q
theorem upd_same (S : Nat → Sl) (k : Nat) (x : Sl) : upd S k x k = x := by simp [upd]
theorem upd_other (S : Nat → Sl) {k q : Nat} (x : Sl) (h : q ≠ k) : upd S k x q = S q := by simp [upd, h]
def setS (S : Nat → Sl) (k : Nat) (e : En) : Nat → Sl := upd S k ⟨(S k).gen, (S k).used, e⟩
def addS (S : Nat → Sl) (k : Nat) (e : En) : Nat → Sl := upd S k ⟨(S k).gen, true, e⟩
def dropS (S : Nat → Sl) (k : Nat) : Nat → Sl := upd S k ⟨(S k).gen + 1, false, En.zero⟩

theorem cell_set {w : World} {s o : Nat} (u : Value) (o' : Nat) (h : (w.cell? ⟨s, o, none⟩).isSome = true) : (w.setCell ⟨s, o, none⟩ u).cell? ⟨s, o', none⟩ = if o' = o then some u else w.cell? ⟨s, o', none⟩ := by
  by_cases e : o' = o
  · subst e
    rw [if_pos rfl]
    exact World.cell?_setCell_same' _ _ _ h
  · rw [if_neg e]
    exact World.cell?_setCell_other _ _ _ _ (by first | (simp; done) | (simp; omega))
theorem four_set {w : World} {s o : Nat} (a b c d : Value) (o' : Nat) (h : ∀ j, j < 4 → (w.cell? ⟨s, o + j, none⟩).isSome = true) :
    ((((w.setCell ⟨s, o, none⟩ a).setCell ⟨s, o + 1, none⟩ b).setCell ⟨s, o + 2, none⟩ c).setCell ⟨s, o + 3, none⟩ d).cell? ⟨s, o', none⟩ = if o' = o + 3 then some d else if o' = o + 2 then some c else if o' = o + 1 then some b else if o' = o then some a else w.cell? ⟨s, o', none⟩ := by
  have h0 : (w.cell? ⟨s, o, none⟩).isSome = true := h 0 (by omega)
  have h1 := h 1 (by omega)
  have h2 := h 2 (by omega)
  have h3 := h 3 (by omega)
  have e1 : ((w.setCell ⟨s, o, none⟩ a).cell? ⟨s, o + 1, none⟩).isSome = true := by rw [cell_set _ _ h0, if_neg (by omega)]; exact h1
  have e2 : (((w.setCell ⟨s, o, none⟩ a).setCell ⟨s, o + 1, none⟩ b).cell? ⟨s, o + 2, none⟩).isSome = true := by rw [cell_set _ _ e1, if_neg (by omega), cell_set _ _ h0, if_neg (by omega)]; exact h2
  have e3 : ((((w.setCell ⟨s, o, none⟩ a).setCell ⟨s, o + 1, none⟩ b).setCell ⟨s, o + 2, none⟩ c).cell? ⟨s, o + 3, none⟩).isSome = true := by rw [cell_set _ _ e2, if_neg (by omega), cell_set _ _ e1, if_neg (by omega), cell_set _ _ h0, if_neg (by omega)]; exact h3
  rw [cell_set _ _ e3, cell_set _ _ e2, cell_set _ _ e1, cell_set _ _ h0]

section
variable {w w' : World} {B : TB} {N : Nat} {S : Nat → Sl}
/-- The table's box and slots. -/
structure Half (w : World) (B : TB) (N : Nat) (S : Nat → Sl) : Prop where
  row : w.cell? ⟨B.t, 0, none⟩ = some (.slice (some ⟨B.s, 0, none⟩) N N)
  used : w.cell? ⟨B.t, 1, none⟩ = some (.pointer (some ⟨B.ub, 0, none⟩))
  taken : w.cell? ⟨B.t, 2, none⟩ = some (.pointer (some ⟨B.kb, 0, none⟩))
  slot : ∀ k, k < N → SlotAt w B.s k (S k)
  thaw : ∀ k, k < N * 5 → w.frozen? ⟨B.s, k, none⟩ = false
theorem TbAt.half (h : TbAt w B N S) : Half w B N S := ⟨h.row, h.used, h.taken, h.slot, h.thaw⟩
theorem Half.blocks (h : Half w B N S) (et : w'.heap[B.t]? = w.heap[B.t]?) (es : w'.heap[B.s]? = w.heap[B.s]?) : Half w' B N S :=
  ⟨(World.cell?_of_block (a := ⟨B.t, 0, none⟩) et).trans h.row, (World.cell?_of_block (a := ⟨B.t, 1, none⟩) et).trans h.used, (World.cell?_of_block (a := ⟨B.t, 2, none⟩) et).trans h.taken,
    fun k hk => (h.slot k hk).block es, fun k hk => (World.frozen?_of_block (a := ⟨B.s, k, none⟩) es).trans (h.thaw k hk)⟩
theorem Half.heap (h : Half w B N S) (e : w'.heap = w.heap) : Half w' B N S := h.blocks (by rw [e]) (by rw [e])
theorem Half.only {c : Nat} (h : Half w B N S) (ho : OnlyAt c w w') (h1 : B.t ≠ c) (h2 : B.s ≠ c) : Half w' B N S := h.blocks (ho.block _ h1) (ho.block _ h2)
theorem Half.some5 (h : Half w B N S) {k : Nat} (hk : k < N) : ∀ j, j < 4 → (w.cell? ⟨B.s, k * 5 + 1 + j, none⟩).isSome = true := by
  intro j hj
  have := h.slot k hk
  match j, hj with
  | 0, _ => rw [this.a]; rfl
  | 1, _ => rw [this.r]; rfl
  | 2, _ => rw [this.h]; rfl
  | 3, _ => rw [this.p]; rfl
def set4 (w : World) (s o : Nat) (a b c d : Value) : World := (((w.setCell ⟨s, o, none⟩ a).setCell ⟨s, o + 1, none⟩ b).setCell ⟨s, o + 2, none⟩ c).setCell ⟨s, o + 3, none⟩ d
theorem set4_only (w : World) (s o : Nat) (a b c d : Value) : OnlyAt s w (set4 w s o a b c d) := ((((OnlyAt.refl s w).setCell _ _).setCell _ _).setCell _ _).setCell _ _
/-- The slots behind a write of an entry. -/
theorem Half.entry (h : Half w B N S) (hne : B.t ≠ B.s) (k : Nat) (hk : k < N) (e : En) (u : Bool) :
    Half (set4 w B.s (k * 5 + 1) (.int .i64 e.a) (.int .i64 e.r) (.bool e.h) (.bool e.p)) B N (upd S k ⟨(S k).gen, u, e⟩) := by
  have ho := set4_only w B.s (k * 5 + 1) (.int .i64 e.a) (.int .i64 e.r) (.bool e.h) (.bool e.p)
  refine ⟨(ho.cell (p := ⟨B.t, 0, none⟩) hne).trans h.row, (ho.cell (p := ⟨B.t, 1, none⟩) hne).trans h.used, (ho.cell (p := ⟨B.t, 2, none⟩) hne).trans h.taken, ?_, fun j hj => by unfold set4; rw [World.frozen?_setCell, World.frozen?_setCell, World.frozen?_setCell, World.frozen?_setCell]; exact h.thaw j hj⟩
  intro j hj
  have F := fun o' => four_set (w := w) (s := B.s) (o := k * 5 + 1) (.int .i64 e.a) (.int .i64 e.r) (.bool e.h) (.bool e.p) o' (h.some5 hk)
  have hs := h.slot j hj
  unfold set4
  by_cases ej : j = k
  · subst ej
    rw [upd_same]
    refine ⟨?_, ?_, ?_, ?_, ?_⟩
    · rw [F, if_neg (by omega), if_neg (by omega), if_neg (by omega), if_neg (by omega)]; exact hs.g
    · rw [F, if_neg (by omega), if_neg (by omega), if_neg (by omega), if_pos rfl]
    · rw [F, if_neg (by omega), if_neg (by omega), if_pos (by omega)]
    · rw [F, if_neg (by omega), if_pos (by omega)]
    · rw [F, if_pos (by omega)]
  · rw [upd_other _ _ ej]
    refine ⟨?_, ?_, ?_, ?_, ?_⟩
    all_goals rw [F, if_neg (by omega), if_neg (by omega), if_neg (by omega), if_neg (by omega)]
    · exact hs.g
    · exact hs.a
    · exact hs.r
    · exact hs.h
    · exact hs.p
theorem Half.gens (h : Half w B N S) (hne : B.t ≠ B.s) (k : Nat) (hk : k < N) (g : Nat) (u : Bool) :
    Half (w.setCell ⟨B.s, k * 5, none⟩ (.int .i64 (tg g : Nat))) B N (upd S k ⟨g, u, (S k).e⟩) := by
  have ho := (OnlyAt.refl B.s w).setCell (k * 5) (.int .i64 (tg g : Nat))
  refine ⟨(ho.cell (p := ⟨B.t, 0, none⟩) hne).trans h.row, (ho.cell (p := ⟨B.t, 1, none⟩) hne).trans h.used, (ho.cell (p := ⟨B.t, 2, none⟩) hne).trans h.taken, ?_, fun j hj => by rw [World.frozen?_setCell]; exact h.thaw j hj⟩
  intro j hj
  have F := fun o' => cell_set (w := w) (s := B.s) (o := k * 5) (.int .i64 (tg g : Nat)) o' (by rw [(h.slot k hk).g]; rfl)
  have hs := h.slot j hj
  by_cases ej : j = k
  · subst ej
    rw [upd_same]
    refine ⟨?_, ?_, ?_, ?_, ?_⟩
    · rw [F, if_pos rfl]
    all_goals rw [F, if_neg (by omega)]
    · exact hs.a
    · exact hs.r
    · exact hs.h
    · exact hs.p
  · rw [upd_other _ _ ej]
    refine ⟨?_, ?_, ?_, ?_, ?_⟩
    all_goals rw [F, if_neg (by omega)]
    · exact hs.g
    · exact hs.a
    · exact hs.r
    · exact hs.h
    · exact hs.p
theorem upd_upd (S : Nat → Sl) (k : Nat) (x y : Sl) : upd (upd S k x) k y = upd S k y := by
  funext q
  unfold upd
  by_cases e : q = k <;> simp [e]
/-- The slots behind a write of a whole slot. -/
theorem Half.five (h : Half w B N S) (hne : B.t ≠ B.s) (k : Nat) (hk : k < N) (g : Nat) :
    Half (set4 (w.setCell ⟨B.s, k * 5, none⟩ (.int .i64 (tg g : Nat))) B.s (k * 5 + 1) (.int .i64 0) (.int .i64 0) (.bool false) (.bool false)) B N (upd S k ⟨g, false, En.zero⟩) := by
  have := (h.gens hne k hk g false).entry hne k hk En.zero false
  rw [upd_upd, upd_same] at this
  exact this
/-- Behind some writes: the state anew. -/
theorem TbAt.anew (h : TbAt w B N S) (k : Nat) (hk : k < N) (x : Sl) (hh : Half w' B N (upd S k x))
    (hu : ∃ ws, MapAt w' B.ub B.uc N ws ∧ BM.on ws = isUsed (upd S k x)) (hv : ∃ ws, MapAt w' B.kb B.kc N ws ∧ BM.on ws = isTaken (upd S k x)) (g1 : 1 ≤ x.gen ∧ x.gen ≤ 256) (g2 : x.used = true → x.gen ≤ 255) : TbAt w' B N (upd S k x) :=
  ⟨h.N1, h.N2, hh.row, hh.used, hh.taken, hh.slot, hh.thaw, hu, hv,
    fun q => by
      by_cases e : q = k
      · subst e; rw [upd_same]; exact g1
      · rw [upd_other _ _ e]; exact h.gen q,
    fun q => by
      by_cases e : q = k
      · subst e; rw [upd_same]; exact g2
      · rw [upd_other _ _ e]; exact h.live q,
    fun q hq => by rw [upd_other _ _ (by omega)]; exact h.past q hq, h.ne⟩
theorem isUsed_upd {f : Nat → Bool} (S : Nat → Sl) (k : Nat) (x : Sl) (h : ∀ q, f q = if k ≤ q ∧ q < k + 1 then x.used else isUsed S q) : f = isUsed (upd S k x) := by
  funext q
  rw [h q]
  unfold isUsed
  by_cases e : q = k
  · subst e; rw [upd_same, if_pos (by omega)]
  · rw [upd_other _ _ e, if_neg (by omega)]
theorem isTaken_upd {f : Nat → Bool} (S : Nat → Sl) (k : Nat) (x : Sl) (h : ∀ q, f q = if k ≤ q ∧ q < k + 1 then (x.used || decide (x.gen = 256)) else isTaken S q) : f = isTaken (upd S k x) := by
  funext q
  rw [h q]
  unfold isTaken
  by_cases e : q = k
  · subst e; rw [upd_same, if_pos (by omega)]
  · rw [upd_other _ _ e, if_neg (by omega)]
/-- Behind a write of an entry alone. -/
theorem TbAt.setted (h : TbAt w B N S) (k : Nat) (hk : k < N) (e : En) : TbAt (set4 w B.s (k * 5 + 1) (.int .i64 e.a) (.int .i64 e.r) (.bool e.h) (.bool e.p)) B N (setS S k e) := by
  obtain ⟨⟨n1, n2, n3⟩, ⟨n4, n5, n6, n7⟩, n8, n9, n10⟩ := h.ne
  have ho := set4_only w B.s (k * 5 + 1) (.int .i64 e.a) (.int .i64 e.r) (.bool e.h) (.bool e.p)
  obtain ⟨ws, hm, hq⟩ := h.umap
  obtain ⟨vs, hm2, hq2⟩ := h.kmap
  refine h.anew k hk _ (h.half.entry n1 k hk e _) ⟨ws, hm.only ho (Ne.symm n4) (Ne.symm n5), ?_⟩ ⟨vs, hm2.only ho (Ne.symm n6) (Ne.symm n7), ?_⟩ (h.gen k) (h.live k)
  · refine isUsed_upd S k _ fun q => ?_
    rw [hq]
    by_cases e : k ≤ q ∧ q < k + 1
    · obtain rfl : q = k := by omega
      rw [if_pos e]; rfl
    · rw [if_neg e]
  · refine isTaken_upd S k _ fun q => ?_
    rw [hq2]
    by_cases e : k ≤ q ∧ q < k + 1
    · obtain rfl : q = k := by omega
      rw [if_pos e]; rfl
    · rw [if_neg e]
def setSt (S : Nat → Sl) (N : Nat) (i g : Int) (e : En) : Nat → Sl := if freshB S N i g = true then setS S i.toNat e else S
def dropSt (S : Nat → Sl) (N : Nat) (i g : Int) : Nat → Sl := if freshB S N i g = true then dropS S i.toNat else S
/-- What a call that answers an error leaves. -/
def TbPost (w : World) (B : TB) (N : Nat) (x : Int) (S' : Nat → Sl) (e : Ending) (w' : World) : Prop :=
  e = .returned (.int .i64 x) ∧ Aft B.wr w w' ∧ TbAt w' B N S'

set_option maxHeartbeats 1000000 in
theorem set_all (h : TbAt w B N S) (i g : Int) (x : En) : Calls Tryd.prog 18 #[.pointer (some ⟨B.t, 0, none⟩), .agg #[.int .i64 i, .int .i64 g], x.v] w (TbPost w B N (staleE (freshB S N i g)) (setSt S N i g x)) := by
  obtain ⟨ea, er, eh, ep⟩ := x
  unfold En.v
  dsimp only
  have hb0 := ((Below.refl w.heap.size w).alloc (Nat.le_refl _) (.cells #[.int .i64 i, .int .i64 g] 33)).alloc (by simp) (.cells #[.int .i64 ea, .int .i64 er, .bool eh, .bool ep] 35)
  have k1 := h.on hb0
  have A1 := fresh_any k1 i g
  have HB := Lib.hid hb0
  have W0 := Lib.hid ((Whole.fresh w 33 #[.int .i64 i, .int .i64 g]).alloc (.cells #[.int .i64 ea, .int .i64 er, .bool eh, .bool ep] 35))
  have W1 := Whole.fresh (w.alloc (.cells #[.int .i64 i, .int .i64 g] 33)) 35 #[.int .i64 ea, .int .i64 er, .bool eh, .bool ep]
  rw [World.size_alloc] at W1
  have HW1 := Lib.hid W1
  clear W1
  unfold setSt
  cases hx : freshB S N i g
  · rw [hx] at A1
    have HA := Lib.hid A1
    have K1 := Lib.hid h
    clear A1 hb0 hx h k1
    have e0 : staleE false = 8 := rfl
    rw [e0] at HA ⊢
    simp only [Bool.false_eq_true, if_false]
    go_enter Tryd.func18, Tryd.ntmps18
    go_wp2_with fail
    refine HA.out.mono ?_
    rintro e w2 ⟨rfl, hb2⟩
    have HB2 := Lib.hid (HB.out.trans (hb2.mono (by simp; omega)))
    clear hb2 HA
    go_wp2
    go_ret
    exact ⟨rfl, Aft.of_below HB2.out, K1.out.on HB2.out⟩
  · obtain ⟨k, rfl, hk, hu, rfl⟩ := freshB_iff.1 hx
    rw [hx] at A1
    have HA := Lib.hid A1
    have K1 := Lib.hid h
    have hN := h.N2
    clear A1 hb0 hx k1
    have e0 : staleE true = 0 := rfl
    rw [e0] at HA ⊢
    simp only [if_true, Int.toNat_natCast]
    have HU := Lib.hid hu
    have HH := Lib.hid h
    clear h hu
    go_enter Tryd.func18, Tryd.ntmps18
    go_wp2_with fail
    refine HA.out.mono ?_
    rintro e w2 ⟨rfl, hb2⟩
    obtain ⟨c0, c1, c2, c3⟩ := (HW1.out.below hb2 (by simp)).four
    obtain ⟨t0, t1⟩ := (W0.out.below hb2 (by simp; omega)).two
    have hbb := HB.out.trans (hb2.mono (by simp; omega))
    have k2 := HH.out.on hbb
    have m0 := k2.row
    obtain ⟨m1, m2, m3, m4, m5⟩ := k2.slot k hk
    have f1 := k2.thaw (k * 5 + 1) (by omega)
    have f2 := k2.thaw (k * 5 + 2) (by omega)
    have f3 := k2.thaw (k * 5 + 3) (by omega)
    have f4 := k2.thaw (k * 5 + 4) (by omega)
    have HK2 := Lib.hid k2
    have HB2 := Lib.hid hbb
    clear hb2 HA k2 hbb K1 HB
    go_wp2_with fail
    go_region
    go_wp2
    go_ret
    exact ⟨rfl, ((Aft.of_below HB2.out).trans (Aft.of_at (set4_only w2 B.s (k * 5 + 1) (.int .i64 ea) (.int .i64 er) (.bool eh) (.bool ep)) (by simp [TB.wr]))).drew, (HK2.out.setted k hk ⟨ea, er, eh, ep⟩).heap rfl⟩
end
end Go.Proofs.YtldlolgdglmocaaDoor
