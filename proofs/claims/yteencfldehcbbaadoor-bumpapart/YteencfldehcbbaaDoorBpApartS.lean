/- The state of BumpApart. -/
import Derived.Test.YteencfldehcbbaaDoorBpApartM
import Derived.Test.YteencfldehcbbaaDoorBpSl
namespace Go.Proofs.YteencfldehcbbaaDoor
open Go.RowKit Go.Sort BP
set_option linter.unusedVariables false

theorem i64_and1 (n : Int) : bits .and .i64 n 1 = n % 2 := by
  have h1 : (BitVec.ofInt 64 1).toNat = 2 ^ 1 - 1 := by decide
  have key : (BitVec.ofInt 64 n &&& BitVec.ofInt 64 1).toNat = (n % ((2 ^ 64 : Nat) : Int)).toNat % 2 ^ 1 := by
    rw [BitVec.toNat_and, BitVec.toNat_ofInt, h1, Nat.and_two_pow_sub_one_eq_mod]
  show IntKind.i64.wrap ((BitVec.ofInt 64 n &&& BitVec.ofInt 64 1).toNat : Nat) = n % 2
  rw [key, IntKind.wrap_i64]
  omega
section
variable {w0 w w' : World} {B : SB} {C K o o' p p' : Nat} {v v' : Value} {D : Dt}
theorem Co.blocks (h : Co w0 w B C K o o' p p' v v' D) (hT : Tab w0) (hb : Below w0.heap.size w0 w') (hs : w.heap.size ≤ w'.heap.size) (e : ∀ k ∈ coF B p p' v v', w'.heap[k]? = w.heap[k]?) : Co w0 w' B C K o o' p p' v v' D :=
  ⟨⟨h.held.st.blocks fun k hk => e k (coF_mem.2 (.inl (by simp [SB.bl]; omega))), hb, h.held.win.more hs, hT.below hb hT.pos⟩,
    h.a.keep fun k hk => e k (coF_mem.2 (by rcases hk with rfl | hk; exact .inr (.inl rfl); exact .inr (.inr (.inr (.inl hk))))),
    h.b.keep fun k hk => e k (coF_mem.2 (by rcases hk with rfl | hk; exact .inr (.inr (.inl rfl)); exact .inr (.inr (.inr (.inr hk))))), h.ne, h.rows, h.out⟩
theorem Co.grown (h : Co w0 w B C K o o' p p' v v' D) (hT : Tab w0) {r : Option Nat} (hg : w.grownBy w' r) (hr : ∀ g, r = some g → g ∉ coF B p p' v v' ∧ w0.heap.size ≤ g) : Co w0 w' B C K o o' p p' v v' D :=
  h.blocks hT (h.bel.grown hg h.bel.size fun g hg => (hr g hg).2) hg.size fun k hk => hg.block k (h.win k hk).2 fun e => (hr k e.symm).1 hk
theorem Co.alloc (h : Co w0 w B C K o o' p p' v v' D) (hT : Tab w0) (ob : Obj) : Co w0 (w.alloc ob) B C K o o' p p' v v' D := h.later hT ((Below.refl _ _).alloc (Nat.le_refl _) ob)
end
/-- Two spaces, their pointers' box, two rows of numbers. -/
structure ApS (w0 w : World) (B : SB) (K p p' bx : Nat) (D : Dt) (u v : Value) (xs ys : List Nat) : Prop where
  co : ∃ s t, Co w0 w B 24 K 1 2 p p' s t D ∧ bx ∉ coF B p p' s t ∧ (∀ g, u.ownBlock = some g → g ∉ coF B p p' s t) ∧ (∀ g, v.ownBlock = some g → g ∉ coF B p p' s t)
  x : Whole w bx 27 #[.pointer (some ⟨p, 0, none⟩), .pointer (some ⟨p', 0, none⟩)]
  ra : w.ownsRow w0.heap.size 3 1 u xs.length (vals xs)
  rs : w.ownsRow w0.heap.size 3 1 v ys.length (vals ys)
  ne : ∀ g, u.ownBlock = some g → v.ownBlock ≠ some g
section
variable {w0 w w' : World} {B : SB} {K p p' bx : Nat} {D D' : Dt} {u v u' : Value} {xs ys : List Nat}
theorem ApS.bel (h : ApS w0 w B K p p' bx D u v xs ys) : Below w0.heap.size w0 w := by
  obtain ⟨s, t, hc, _⟩ := h.co
  exact hc.bel
theorem ApS.op (h : ApS w0 w B K p p' bx D u v xs ys) (ho : ∀ s t, Co w0 w B 24 K 1 2 p p' s t D → ∃ s' t', Co w0 w' B 24 K 1 2 p p' s' t' D' ∧ Turn (coF B p p' s t) (coF B p p' s' t') w w') : ApS w0 w' B K p p' bx D' u v xs ys := by
  obtain ⟨s, t, hc, h1, h2, h3⟩ := h.co
  obtain ⟨s', t', hc', ht⟩ := ho s t hc
  have hn : ∀ g, g < w.heap.size → g ∉ coF B p p' s t → g ∉ coF B p p' s' t' := fun g hg hn hx => by
    rcases ht.new g hx with e | e
    · exact hn e
    · omega
  exact ⟨⟨s', t', hc', hn bx h.x.lt h1, fun g hg => hn g (h.ra.lt g hg).2 (h2 g hg), fun g hg => hn g (h.rs.lt g hg).2 (h3 g hg)⟩, ht.keep h.x h1, own_keep h.ra fun g hg => ht.aft.block g (h.ra.lt g hg).2 (h2 g hg), own_keep h.rs fun g hg => ht.aft.block g (h.rs.lt g hg).2 (h3 g hg), h.ne⟩
theorem ApS.later (h : ApS w0 w B K p p' bx D u v xs ys) (hT : Tab w0) (hb : Below w.heap.size w w') : ApS w0 w' B K p p' bx D u v xs ys :=
  h.op fun s t hc => ⟨s, t, hc.later hT hb, Turn.of_below hb⟩
theorem ApS.store (h : ApS w0 w B K p p' bx D u v xs ys) (hT : Tab w0) {own wd : Nat → Nat} (ho : OnlyIn [B.o, B.c, B.v] w w') (hs : StAt w' B 24 K own wd) : ApS w0 w' B K p p' bx ⟨own, wd, D.S, D.T⟩ u v xs ys :=
  h.op fun s t hc => ⟨s, t, hc.store hT ho hs, Co.turn_store ho⟩
theorem ApS.st (h : ApS w0 w B K p p' bx D u v xs ys) : StAt w B 24 K D.own D.wd := by
  obtain ⟨s, t, hc, _⟩ := h.co
  exact hc.held.st
/-- The first row grows. -/
theorem ApS.first (h : ApS w0 w B K p p' bx D u v xs ys) (hT : Tab w0) {zs : List Nat} (ho : w'.ownsRow w0.heap.size 3 1 u' zs.length (vals zs)) (hg : w.grownBy w' u.ownBlock) (hat : u'.ownBlock = u.ownBlock ∨ u'.ownBlock = some w.heap.size) : ApS w0 w' B K p p' bx D u' v zs ys := by
  obtain ⟨s, t, hc, h1, h2, h3⟩ := h.co
  have hu : ∀ g, u'.ownBlock = some g → u.ownBlock = some g ∨ g = w.heap.size := fun g hg => by
    rcases hat with e | e
    · exact .inl (e.symm.trans hg)
    · right
      have := e.symm.trans hg
      injection this with this
      exact this.symm
  have hxu : some bx ≠ u.ownBlock := fun e => own_ne h.ra h.x (by decide) e.symm
  refine ⟨⟨s, t, hc.grown hT hg fun g hg => ⟨h2 g hg, (h.ra.lt g hg).1⟩, h1, fun g hg => ?_, h3⟩, (hg.block bx h.x.lt hxu).trans h.x, ho, own_keep h.rs fun g hg' => hg.block g (h.rs.lt g hg').2 fun e => h.ne g e.symm hg', fun g hg hv => ?_⟩
  · rcases hu g hg with e | e
    · exact h2 g e
    · exact hc.not (by omega)
  · rcases hu g hg with e | e
    · exact h.ne g e hv
    · have := (h.rs.lt g hv).2; omega
theorem ApS.second (h : ApS w0 w B K p p' bx D u v xs ys) (hT : Tab w0) {zs : List Nat} (ho : w'.ownsRow w0.heap.size 3 1 u' zs.length (vals zs)) (hg : w.grownBy w' v.ownBlock) (hat : u'.ownBlock = v.ownBlock ∨ u'.ownBlock = some w.heap.size) : ApS w0 w' B K p p' bx D u u' xs zs := by
  obtain ⟨s, t, hc, h1, h2, h3⟩ := h.co
  have h' : ApS w0 w B K p p' bx D v u ys xs := ⟨⟨s, t, hc, h1, h3, h2⟩, h.x, h.rs, h.ra, fun g hg hv => h.ne g hv hg⟩
  have k := h'.first hT ho hg hat
  obtain ⟨s, t, hc, h1, h2, h3⟩ := k.co
  exact ⟨⟨s, t, hc, h1, h3, h2⟩, k.x, k.rs, k.ra, fun g hg hv => k.ne g hv hg⟩
theorem ApS.push1 (h : ApS w0 w B K p p' bx D u v xs ys) (hT : Tab w0) {X : Nat} {tmp : Obj} (ho : w'.ownsRow w0.heap.size 3 1 u' (xs.length + 1) (vals xs ++ [.int .i64 (X : Nat)])) (hg : (w.alloc tmp).grownBy w' u.ownBlock) (hat : u'.ownBlock = u.ownBlock ∨ u'.ownBlock = some (w.alloc tmp).heap.size) : ApS w0 w' B K p p' bx D u' v (xs ++ [X]) ys :=
  (h.later hT ((Below.refl _ _).alloc (Nat.le_refl _) tmp)).first hT (by rw [vals_snoc, List.length_append]; exact ho) hg hat
theorem ApS.push2 (h : ApS w0 w B K p p' bx D u v xs ys) (hT : Tab w0) {X : Nat} {tmp : Obj} (ho : w'.ownsRow w0.heap.size 3 1 u' (ys.length + 1) (vals ys ++ [.int .i64 (X : Nat)])) (hg : (w.alloc tmp).grownBy w' v.ownBlock) (hat : u'.ownBlock = v.ownBlock ∨ u'.ownBlock = some (w.alloc tmp).heap.size) : ApS w0 w' B K p p' bx D u u' xs (ys ++ [X]) :=
  (h.later hT ((Below.refl _ _).alloc (Nat.le_refl _) tmp)).second hT (by rw [vals_snoc, List.length_append]; exact ho) hg hat
/-- Alloc of one of them. -/
def ApPost (w0 : World) (B : SB) (K p p' bx : Nat) (D : Dt) (u v : Value) (xs ys : List Nat) (par n : Nat) (e : Ending) (w' : World) : Prop :=
  ∃ (X : Nat) (E : Int) (D' : Dt), e = .returned (.tuple #[.int .i64 (X : Nat), .int .i64 E]) ∧ ApS w0 w' B K p p' bx D' u v xs ys ∧
    ((E = 11 ∧ D' = D) ∨ (E = 0 ∧ Good2 24 K 1 2 D' ∧ (∀ j, j < n → ¬ Us K D (X + j)) ∧ (∀ j, j < n → Us K D' (X + j) ∧ D'.own ((X + j) / K) = 1 + par) ∧ (∀ q, Us K D q → Us K D' q) ∧ (∀ q, Us K D q → D'.wd q = D.wd q) ∧ X + n ≤ 24 * K ∧ (n ≤ K → X / K = (X + n - 1) / K)))
theorem alE_cases {C K o n : Nat} {D : Dt} (hn : 1 ≤ n) (ho : 1 ≤ o) : alE C K o D (n : Nat) = 0 ∨ (alE C K o D (n : Nat) = 11 ∧ alD C K o D (n : Nat) = D) := by
  unfold alE alD
  have h1 : ¬ ((n : Int) < 1) := by omega
  rw [if_neg h1, if_neg h1, Int.toNat_natCast]
  by_cases hr : n ≤ room K D.S
  · rw [if_pos hr]; exact .inl rfl
  · rw [if_neg hr, if_neg hr]
    have hk := need_pos K n
    by_cases hE : tkE D.own C o (need K n : Nat) = 0
    · exact .inl hE
    · right
      rw [if_neg hE]
      refine ⟨?_, rfl⟩
      unfold tkE at hE ⊢
      rw [if_neg (by omega)] at hE ⊢
      split
      · rename_i h
        rw [if_pos h] at hE
        exact absurd rfl hE
      · rfl
theorem ApS.alloc_any (h : ApS w0 w B K p p' bx D u v xs ys) (hT : Tab w0) (hG : Good2 24 K 1 2 D) (par n : Nat) (hp : par < 2) (hn : 1 ≤ n) (hn2 : n ≤ 30) :
    Calls Tryd.prog 26 #[.pointer (some ⟨if par = 0 then p else p', 0, none⟩), .int .i64 (n : Nat)] w (ApPost w0 B K p p' bx D u v xs ys par n) := by
  obtain ⟨s, t, hc, _⟩ := h.co
  have hK := hc.held.st.K1
  have hcase : par = 0 ∨ par = 1 := by omega
  rcases hcase with rfl | rfl
  · rw [if_pos rfl]
    refine (Go.Proofs.YteencfldehcbbaaDoor.alloc_any hc hT hG (by decide) (n : Nat) (by omega)).mono ?_
    rintro e w' ⟨rfl, s', hc', ht'⟩
    refine ⟨_, _, alD 24 K 1 D (n : Nat), rfl, h.op fun s2 t2 hc2 => ?_, ?_⟩
    · have e1 : s2 = s := by have := hc2.a.c2.symm.trans hc.a.c2; injection this
      have e2 : t2 = t := by have := hc2.b.c2.symm.trans hc.b.c2; injection this
      subst e1 e2
      exact ⟨s', t2, hc', ht'⟩
    · rcases alE_cases (C := 24) (K := K) (o := 1) (D := D) hn (by decide) with e | ⟨e, e'⟩
      · have hpc := alloc_piece hK hG hn e
        have hg := alloc_good hK hG (n : Nat)
        refine .inr ⟨e, hg, hpc.new, fun j hj => ⟨.inl (hpc.got j hj), ((hpc.got j hj).own hg.a).2.1⟩, hpc.keep, hpc.wd, hpc.bnd, hpc.one⟩
      · exact .inl ⟨e, e'⟩
  · rw [if_neg (by decide)]
    refine (Go.Proofs.YteencfldehcbbaaDoor.alloc_any hc.swap hT hG.swap (by decide) (n : Nat) (by omega)).mono ?_
    rintro e w' ⟨rfl, s', hc', ht'⟩
    refine ⟨_, _, (alD 24 K 2 D.swap (n : Nat)).swap, rfl, h.op fun s2 t2 hc2 => ?_, ?_⟩
    · have e1 : s2 = s := by have := hc2.a.c2.symm.trans hc.a.c2; injection this
      have e2 : t2 = t := by have := hc2.b.c2.symm.trans hc.b.c2; injection this
      subst e1 e2
      exact ⟨s2, s', hc'.swap, turn_swap ht'⟩
    · rcases alE_cases (C := 24) (K := K) (o := 2) (D := D.swap) hn (by decide) with e | ⟨e, e'⟩
      · have hpc := alloc_piece hK hG.swap hn e
        have hg := alloc_good hK hG.swap (n : Nat)
        refine .inr ⟨e, hg.swap, fun j hj hu => hpc.new j hj hu.swap, fun j hj => ⟨.inr (hpc.got j hj), ((hpc.got j hj).own hg.a).2.1⟩, fun q hu => (hpc.keep q hu.swap).swap, fun q hu => hpc.wd q hu.swap, hpc.bnd, hpc.one⟩
      · exact .inl ⟨e, by rw [e']; rfl⟩
end
end Go.Proofs.YteencfldehcbbaaDoor
