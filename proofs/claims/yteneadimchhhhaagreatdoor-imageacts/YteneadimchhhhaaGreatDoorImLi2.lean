/- What ImageLinks' loop over Links leaves alone, and what is there behind it. -/
import Derived.Test.YteneadimchhhhaaGreatDoorImLiM
import Derived.Test.YteneadimchhhhaaGreatDoorImAct2
namespace Go.Proofs.YteneadimchhhhaaGreatDoor
open Go.RowKit Go.Shelf

theorem row_is {w : World} {base n sz g : Nat} {e : TypeId} {v : Value} {xs : List Value} {o : Obj} (h : w.ownsRow base e sz v n xs) (hg : v.ownBlock = some g) (ho : w.heap[g]? = some o) : base ≤ g ∧ o.isCells = true := by
  rcases h.2 with ⟨rfl, _⟩ | ⟨g', cap, cur, rfl, hb, hh, _⟩
  · simp [Value.ownBlock] at hg
  · simp [Value.ownBlock] at hg
    subst hg
    rw [hh] at ho
    injection ho with ho
    subst ho
    exact ⟨hb, rfl⟩
theorem row_lo {w : World} {base n sz g : Nat} {e : TypeId} {v : Value} {xs : List Value} (h : w.ownsRow base e sz v n xs) (hg : v.ownBlock = some g) : base ≤ g := (h.lt g hg).1
/-- What a round of the loop leaves alone. -/
def LiR (n₀ n₁ b1 b2 : Nat) (v1 v2 : Value) (hi : Nat) (W W' : World) : Prop := KeepsFrom n₁ W W' ∧ Kh n₀ n₁ b1 b2 v1 v2 hi W W'
theorem li_rel {n₀ n₁ b1 b2 b12 b13 hi : Nat} {v1 v2 : Value} {W : World} (hh : n₁ + 2 ≤ hi) (hb1 : b1 < n₁) (hb2 : b2 < n₁) (h12 : n₀ ≤ b12 ∧ b12 < n₁ ∧ b12 ≠ b1 ∧ b12 ≠ b2) (h13 : n₀ ≤ b13 ∧ b13 < n₁ ∧ b13 ≠ b1 ∧ b13 ≠ b2) : TwR (LiR n₀ n₁ b1 b2 v1 v2 hi W) hi b12 b13 := by
  have st : ∀ b, (n₀ ≤ b ∧ b < n₁ ∧ b ≠ b1 ∧ b ≠ b2) → ∀ w u, LiR n₀ n₁ b1 b2 v1 v2 hi W w → LiR n₀ n₁ b1 b2 v1 v2 hi W (w.setCell ⟨b, 0, none⟩ u) := by
    rintro b ⟨c1, c2, c3, c4⟩ w u ⟨hk, hz⟩
    have hg := grownBy_setCell' w b u
    refine ⟨hk.trans ((KeepsOthers.setCell _ _ _).from _), kh_t hz ⟨(Below.refl _ _).setCell (p := ⟨b, 0, none⟩) c1 u, fun x => x.kept hg (by intro e; injection e with e; exact c3 e.symm), fun x => x.kept hg (by intro e; injection e with e; exact c4 e.symm), fun k o hk2 ho _ => (hg.block k (Array.getElem?_eq_some_iff.1 ho).1 (by intro e; injection e with e; omega)).trans ho, fun k k1 _ => Below.heap_setCell w ⟨b, 0, none⟩ u k (by show k ≠ b; omega)⟩⟩
  refine ⟨?_, ?_, fun w u h => ⟨st b12 h12 w u h, st b13 h13 w u h⟩⟩
  · rintro w o ⟨hk, hz⟩ hs
    exact ⟨hk.trans ((KeepsOthers.alloc _ _).from _), kh_t hz (Kh.of_below ((Below.refl _ _).alloc (Nat.le_refl _) o) (by omega) hs)⟩
  · rintro w w' e sz n v xs ⟨hk, hz⟩ hs hr hg
    refine ⟨hk.trans ((KeepsOthers.of_grownBy hg fun j o ej hj => (row_is hr ej hj).2).from _), kh_t hz ⟨(Below.refl _ _).grown hg (by omega) (fun k ek => by have := row_lo hr ek; omega), fun x => x.kept hg (by intro c; have := row_lo hr c.symm; omega), fun x => x.kept hg (by intro c; have := row_lo hr c.symm; omega), fun k o hk2 ho hc => (hg.block k (Array.getElem?_eq_some_iff.1 ho).1 fun c => by have := (row_is hr c.symm ho).2; rw [hc] at this; cases this).trans ho, fun k k1 k2 => ?_⟩⟩
    exact hg.block k (by omega) fun c => by have := row_lo hr c.symm; omega
/-- What the loop holds. -/
def LiI (w3 : World) (b12 b13 : Nat) (hi : Nat) (pre : List LkE) (W : World) : Prop :=
  (∃ v, Boxed W b12 42 v ∧ W.ownsRow hi 3 1 v pre.length (plV pre) ∧ True) ∧ (∃ v, Boxed W b13 64 v ∧ W.ownsRow hi 37 3 v pre.length (lkV pre) ∧ True) ∧ Below w3.heap.size w3 W
theorem li_own {w3 : World} {b12 b13 hi B : Nat} (h : w3.heap.size ≤ B) : OwnFrom B (LiI w3 b12 b13 hi) :=
  OwnFrom.and (Own.from (holdsRow_own hi b12 42 3 1 (fun pre : List LkE => pre.length) plV (fun _ _ => True)) _) (OwnFrom.and (Own.from (holdsRow_own hi b13 64 37 3 (fun pre : List LkE => pre.length) lkV (fun _ _ => True)) _) (ownFrom_below (Nat.le_refl _) h))
theorem LiI.later {w3 W W' : World} {b12 b13 hi : Nat} {pre : List LkE} (h : LiI w3 b12 b13 hi pre W) (hb : Below W.heap.size W W') : LiI w3 b12 b13 hi pre W' := by
  obtain ⟨⟨u1, h1, h2, -⟩, ⟨u2, h3, h4, -⟩, h5⟩ := h
  exact ⟨⟨u1, (hb.block _ h1.lt).trans h1, ownsRow_below h2 hb, trivial⟩, ⟨u2, (hb.block _ h3.lt).trans h3, ownsRow_below h4 hb, trivial⟩, h5.trans (hb.mono h5.size)⟩
theorem keeps_b {B : Nat} {W W' : World} (h : Below W.heap.size W W') : KeepsFrom B W W' := ⟨h.size, fun k _ _ hk _ => (h.block k (Array.getElem?_eq_some_iff.1 hk).1).trans hk⟩
theorem whole_own' {B b : Nat} {t : TypeId} {cs : Array Value} : OwnFrom B (fun (_ : Unit) W => Whole W b t cs) := fun _ X Y row hs hg hr =>
  (hg.block b hs.lt (fun e => by
    obtain ⟨_, o, ho, hc⟩ := hr b e.symm
    unfold Whole at hs
    rw [hs] at ho
    injection ho with ho
    subst ho
    cases hc)).trans hs
/-- The activation that a round begins with. -/
def LiA (b12 b13 : Nat) (x : LkE) (a : Act) (W : World) : Prop :=
  ∃ bx, Whole W bx 37 #[.int .i64 x.K, .int .i64 x.I, .int .i64 x.G] ∧ 74 ≤ a.tmps.size ∧ slot a 12 = .pointer (some ⟨b12, 0, none⟩) ∧ slot a 13 = .pointer (some ⟨b13, 0, none⟩) ∧ slot a 14 = .int .i64 x.p ∧ slot a 15 = .pointer (some ⟨bx, 0, none⟩)
theorem lia_own {b12 b13 B : Nat} (x : LkE) (a : Act) : OwnFrom B (fun (_ : Unit) W => LiA b12 b13 x a W) := fun _ X Y row ⟨bx, h1, h2⟩ hg hr => ⟨bx, whole_own' () X Y row h1 hg hr, h2⟩
/-- A round. -/
theorem li_round {w3 W : World} {n₀ n₁ b1 b2 b12 b13 hi l n id : Nat} {v1 v2 : Value} {pre : List LkE} {x : LkE} {a : Act} {Ix : Code → List LkE → World → Prop} (hn : n₀ = w3.heap.size) (hh : n₁ + 2 ≤ hi) (hW : hi ≤ W.heap.size) (hb1 : b1 < n₁) (hb2 : b2 < n₁) (h12 : n₀ ≤ b12 ∧ b12 < n₁ ∧ b12 ≠ b1 ∧ b12 ≠ b2) (h13 : n₀ ≤ b13 ∧ b13 < n₁ ∧ b13 ≠ b1 ∧ b13 ≠ b2)
    (hI : LiI w3 b12 b13 hi pre W) (hA : LiA b12 b13 x a W) (hlen : pre.length ≤ 1000000) :
    (Code.region id twoOps true).wpIn (Fence.wide.inRound l) n Tryz.prog (Exit.inBlock 3 (farPost n₁ (Kh n₀ n₁ b1 b2 v1 v2 hi) (LiI w3 b12 b13 hi) Ix (pre ++ [x]) W)) a W := by
  obtain ⟨⟨u1, bx1, r1, -⟩, ⟨u2, bx2, r2, -⟩, hb⟩ := hI
  obtain ⟨bx, hX, tz, s12, s13, s14, s15⟩ := hA
  have flag : ∀ i, (Array.replicate 10 false).getD i false = false := fun i => by by_cases c : i < 10 <;> simp [Array.getD, c]
  refine two_region (R := LiR n₀ n₁ b1 b2 v1 v2 hi W) (hi := hi) (b12 := b12) (b13 := b13) (b15 := bx) (p := x.p) (K := x.K) (I := x.I) (G := x.G) (v1 := u1) (v2 := u2) (m := pre.length) (xs := plV pre) (ys := lkV pre) (li_rel hh hb1 hb2 h12 h13) hlen ?_ ?_
  · refine ⟨by simp, tz, s12, s13, s14, s15, fun _ => hX.drew, hW, ⟨⟨Nat.le_refl _, fun _ _ _ h _ => h⟩, ⟨⟨rfl, rfl, rfl, Nat.le_refl _, fun _ _ => rfl⟩, fun x => x, fun x => x, fun _ _ _ h _ => h, fun _ _ _ => rfl⟩⟩, ?_, ?_⟩
    · rw [flag, flag, flag, flag, flag]
      exact ⟨(fun k => by cases k), (fun k => by cases k), (fun k => by cases k), (fun _ => r1), (fun k => by cases k), bx1, (fun k => by cases k), (fun k => by cases k), (fun k => by cases k)⟩
    · rw [flag, flag, flag, flag, flag]
      exact ⟨(fun k => by cases k), (fun k => by cases k), (fun k => by cases k), (fun _ => r2), (fun k => by cases k), bx2, (fun k => by cases k), (fun k => by cases k), (fun k => by cases k)⟩
  · intro a' w' z1 z2 hR _ q1 q2 q3 q4
    refine ⟨hR.1, hR.2, ⟨⟨z1, q1, ?_, trivial⟩, ⟨z2, q3, ?_, trivial⟩, ?_⟩⟩
    · rw [List.length_append, plV_snoc]; exact q2
    · rw [List.length_append, lkV_snoc]; exact q4
    · rw [hn] at hR; exact hb.trans hR.2.bel
/-- What is there behind the loop. -/
structure LiP (w2 : World) (I : IB) (J : DB) (q : Cf) (f : Nat → Nat) (b12 b13 hi D : Nat) (u1 u2 : Value) (M : List LkE) (W : World) : Prop where
  ms : Ms w2 W I J q f f
  x1 : Boxed W b12 42 u1
  r1 : W.ownsRow hi 3 1 u1 M.length (plV M)
  x2 : Boxed W b13 64 u2
  r2 : W.ownsRow hi 37 3 u2 M.length (lkV M)
  dd : W.heap[D]? = some (.deferred (some []))
theorem LiP.later {w2 W W' : World} {I : IB} {J : DB} {q : Cf} {f : Nat → Nat} {b12 b13 hi D : Nat} {u1 u2 : Value} {M : List LkE} (h : LiP w2 I J q f b12 b13 hi D u1 u2 M W) (hb : Below W.heap.size W W') : LiP w2 I J q f b12 b13 hi D u1 u2 M W' :=
  ⟨h.ms.later hb, (hb.block _ h.x1.lt).trans h.x1, ownsRow_below h.r1 hb, (hb.block _ h.x2.lt).trans h.x2, ownsRow_below h.r2 hb, (hb.block D (Array.getElem?_eq_some_iff.1 h.dd).1).trans h.dd⟩
theorem LiP.at_ {w2 W : World} {I : IB} {J : DB} {q : Cf} {f : Nat → Nat} {b12 b13 hi D m e1 e2 : Nat} {B1 B2 : Option Addr} {M : List LkE} (h : LiP w2 I J q f b12 b13 hi D (.slice B1 m e1) (.slice B2 m e2) M W) {k : Nat} {x : LkE} (hk : M[k]? = some x) :
    ∃ g1 g2, B1 = some ⟨g1, 0, none⟩ ∧ B2 = some ⟨g2, 0, none⟩ ∧ g1 < W.heap.size ∧ g2 < W.heap.size ∧ W.cell? ⟨g1, k, none⟩ = some (.int .i64 x.p) ∧ W.cell? ⟨g2, k * 3, none⟩ = some (.int .i64 x.K) ∧ W.cell? ⟨g2, k * 3 + 1, none⟩ = some (.int .i64 x.I) ∧ W.cell? ⟨g2, k * 3 + 2, none⟩ = some (.int .i64 x.G) := by
  have hM : 0 < M.length := by have := (List.getElem?_eq_some_iff.1 hk).1; omega
  obtain ⟨A1, c1, h1, h2⟩ := row_cells h.r1
  obtain ⟨A2, c2, h3, h4⟩ := row_cells h.r2
  injection h1 with h1 _ _
  injection h3 with h3 _ _
  obtain ⟨g1, i1, i2, i3⟩ := h2 hM
  obtain ⟨g2, j1, j2, j3⟩ := h4 hM
  obtain ⟨k1, k2, k3⟩ := lkV_at hk
  exact ⟨g1, g2, h1.trans i1, h3.trans j1, i2, j2, i3 _ _ (plV_at hk), j3 _ _ k1, j3 _ _ k2, j3 _ _ k3⟩
theorem LiP.fin {w w2 W : World} {I : IB} {J : DB} {q : Cf} {f : Nat → Nat} {b12 b13 hi D : Nat} {u1 u2 : Value} {M : List LkE} (h : LiP w2 I J q f b12 b13 hi D u1 u2 M W) (hb : Below w.heap.size w w2) (hD : w2.heap.size ≤ D) : Below w.heap.size w (W.putObj D (.deferred none)) :=
  (hb.trans (h.ms.bel.mono hb.size)).trans (belowK_b (w := w) (Nat.le_refl _) W D _ _ (by have := hb.size; omega) h.dd rfl rfl)
theorem picks_at (rf : Int → Bool) {p N : Nat} (hp : p < N) (hr : rf p = true) : (LM.picks rf N)[(LM.picks rf p).length]? = some (p : Int) := by
  obtain ⟨d, rfl⟩ : ∃ d, N = p + 1 + d := ⟨N - (p + 1), by omega⟩
  have h : ∀ d, LM.picks rf (p + 1) <+: LM.picks rf (p + 1 + d) := fun d => by
    induction d with
    | zero => exact List.prefix_refl _
    | succ d ih =>
      rw [show p + 1 + (d + 1) = p + 1 + d + 1 by omega]
      by_cases c : rf ((p + 1 + d : Nat) : Int) = true
      · rw [LM.picks_yes c]; exact ih.trans (List.prefix_append _ _)
      · rw [LM.picks_no (n := p + 1 + d) (f_of c)]; exact ih
  obtain ⟨t, ht⟩ := h d
  rw [← ht, LM.picks_yes hr, List.append_assoc, List.getElem?_append_right (Nat.le_refl _)]
  simp
end Go.Proofs.YteneadimchhhhaaGreatDoor
