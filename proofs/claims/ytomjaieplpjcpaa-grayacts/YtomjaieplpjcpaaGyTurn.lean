/- Contracts of Put, Again, Next, Paint: each turns the state as plain data says. -/
import Derived.Test.YtomjaieplpjcpaaGyRing
import Derived.Deep.RegionHeld3
import Derived.Deep.QuietTactic
import Derived.BigQuiet
namespace Go.Proofs.Ytomjaieplpjcpaa
open Go.RowKit Go.Lib Go.Sort Go.Maps

/-- A list with one thing more, of no color yet. -/
structure GyAdd (w : World) (base b m e : Nat) (P : Int → Nat) (bf bh : Nat → Nat) (s : GY.S) (x : Int) : Prop where
  good : GY.Good s
  col : GY.col s x = 0
  ok : ∀ y, GY.col s y ≠ 0 ∨ y = x → I64 y
  ring : RingAt w b m e s.W P bf bh
  node : Whole w (P x) 53 #[.int .i64 x, .int .i64 0, .pointer none, .pointer none]
  off : P x ≠ e
  map : ThAt w m (GY.num s + 1) (fun y => if GY.col s y = 0 ∧ y ≠ x then none else some (P y))
  done : ∀ y ∈ s.D, ∃ p q, Whole w (P y) 53 #[.int .i64 y, .int .i64 2, p, q]
  lo : base ≤ b ∧ base ≤ m ∧ base ≤ e ∧ ∀ y, GY.col s y ≠ 0 ∨ y = x → base ≤ P y

section
variable {w w' w1 : World} {base b m e : Nat} {P : Int → Nat} {bf bh : Nat → Nat} {s : GY.S} {x : Int}
theorem GyAt.size (h : GyAt w base b m e P bf bh s) : base ≤ w.heap.size := by
  have := h.ring.box.lt
  have := h.lo.1
  omega
theorem GyAt.ring_lo (h : GyAt w base b m e P bf bh s) : ∀ g ∈ b :: e :: s.W.map P, base ≤ g ∧ Mine w g := fun g hg => by
  refine ⟨?_, h.ring.mine g hg⟩
  have h1 := h.lo
  rcases List.mem_cons.1 hg with rfl | hg
  · exact h1.1
  · rcases List.mem_cons.1 hg with rfl | hg
    · exact h1.2.2.1
    · obtain ⟨z, hz, rfl⟩ := List.mem_map.1 hg
      exact h1.2.2.2 z (by rw [GY.col_w hz]; decide)
theorem GyAt.added (h : GyAt w base b m e P bf bh s) (hc : GY.col s x = 0) (hx : I64 x) (hw : Whole w1 w.heap.size 53 #[.int .i64 x, .int .i64 0, .pointer none, .pointer none])
    (hm : ThAt w1 m (GY.num s + 1) (updG (fun y => if GY.col s y = 0 then none else some (P y)) x (some w.heap.size))) (ha : Aft [m] w w1) :
    GyAdd w1 base b m e (fun y => if y = x then w.heap.size else P y) bf bh s x ∧ Gt base w w1 := by
  have hb := h.size
  have hmb := h.map.mapB
  have hxW := (GY.no_col hc).1
  have hxD := (GY.no_col hc).2
  have hP : ∀ y ∈ s.W, (fun y => if y = x then w.heap.size else P y) y = P y := fun y hy => if_neg (fun (k : y = x) => hxW (k ▸ hy))
  refine ⟨⟨h.good, hc, fun y hy => ?_, ((h.ring.keep fun g hg => ?_).ext hP), by rw [if_pos rfl]; exact hw, ?_, hm.ext fun y _ => ?_, fun y hy => ?_, ⟨h.lo.1, h.lo.2.1, h.lo.2.2.1, fun y hy => ?_⟩⟩, Gt.of_aft ha fun g hg => ?_⟩
  · rcases hy with hy | rfl
    · exact h.ok y hy
    · exact hx
  · have hg2 := h.ring.mine g hg
    refine ha.block g hg2.lt fun k => ?_
    rw [List.mem_singleton] at k
    subst k
    rcases hg with _ | ⟨_, hg⟩
    · exact hmb.ne h.ring.box rfl
    · obtain ⟨z, c, hz⟩ := h.ring.node hg
      exact hmb.ne hz rfl
  · rw [if_pos rfl]
    have := h.ring.ends.lt
    omega
  · unfold updG
    by_cases e : y = x
    · rw [if_pos e, if_neg (fun k => k.2 e), if_pos e]
    · rw [if_neg e, if_neg e]
      show _ = if GY.col s y = 0 then none else some (P y)
      by_cases c : GY.col s y = 0
      · rw [if_pos c, if_pos ⟨c, e⟩]
      · rw [if_neg c, if_neg (fun k => c k.1)]
  · obtain ⟨p, q, h1⟩ := h.done y hy
    rw [if_neg (fun (k : y = x) => hxD (k ▸ hy))]
    exact ⟨p, q, ha.whole h1 (by rw [List.mem_singleton]; exact fun k => hmb.ne h1 k.symm)⟩
  · by_cases e : y = x
    · rw [if_pos e]; exact hb
    · rw [if_neg e]
      exact h.lo.2.2.2 y (hy.elim id fun k => absurd k e)
  · rw [List.mem_singleton] at hg
    subst hg
    exact ⟨h.lo.2.1, .inr (.inr hmb)⟩
theorem GyAdd.mine (h : GyAdd w base b m e P bf bh s x) : ∀ g ∈ b :: P x :: e :: s.W.map P, base ≤ g ∧ Mine w g := fun g hg => by
  have h1 := h.lo
  rcases List.mem_cons.1 hg with rfl | hg
  · exact ⟨h1.1, .inl ⟨_, h.ring.box⟩⟩
  · rcases List.mem_cons.1 hg with rfl | hg
    · exact ⟨h1.2.2.2 x (.inr rfl), .inr (.inl ⟨_, h.node⟩)⟩
    · rcases List.mem_cons.1 hg with rfl | hg
      · exact ⟨h1.2.2.1, .inr (.inl ⟨_, h.ring.ends⟩)⟩
      · obtain ⟨z, hz, rfl⟩ := List.mem_map.1 hg
        exact ⟨h1.2.2.2 z (.inl (by rw [GY.col_w hz]; decide)), .inr (.inl ⟨_, h.ring.wait z hz⟩)⟩
/-- A thing that is done is none of the ring's. -/
theorem done_off {W : List Int} (R : RingAt w b m e W P bf bh) {y : Int} {p q : Value} (hy : Whole w (P y) 53 #[.int .i64 y, .int .i64 2, p, q]) : P y ∉ b :: e :: W.map P := fun hm => by
  rcases List.mem_cons.1 hm with k | hm
  · exact box_ne R.box hy k.symm
  · rcases List.mem_cons.1 hm with k | hm
    · exact thing_ne hy R.ends (.inr (by decide)) k
    · obtain ⟨z, hz, k⟩ := List.mem_map.1 hm
      exact thing_ne hy (R.wait z hz) (.inr (by decide)) k.symm
theorem map_off {W : List Int} (R : RingAt w b m e W P bf bh) (hm : MapB w m) : m ∉ b :: e :: W.map P := fun k => by
  rcases List.mem_cons.1 k with k | k
  · exact hm.ne R.box k
  · obtain ⟨z, c, hz⟩ := R.node k
    exact hm.ne hz rfl
theorem GyAdd.waits {bf' bh' : Nat → Nat} (h : GyAdd w base b m e P bf bh s x) (hr : RingAt w' b m e (s.W ++ [x]) P bf' bh') (ha : Aft (b :: P x :: e :: s.W.map P) w w') : Gy w' base b (GY.put s x) ∧ Gt base w w' := by
  have hc := h.col
  have h0 := GY.no_col hc
  have hput := GY.put_0 hc
  have hcol : ∀ y, GY.col (GY.put s x) y = 0 ↔ GY.col s y = 0 ∧ y ≠ x := fun y => by
    rw [hput]
    constructor
    · intro k
      have k1 := GY.no_col k
      simp at k1
      exact ⟨GY.col_0 k1.1.1 k1.2, k1.1.2⟩
    · rintro ⟨k, k2⟩
      have k1 := GY.no_col k
      exact GY.col_0 (by simp; exact ⟨k1.1, k2⟩) k1.2
  have hne : ∀ y, GY.col (GY.put s x) y ≠ 0 → GY.col s y ≠ 0 ∨ y = x := fun y hy => by
    rcases Decidable.em (y = x) with k | k
    · exact .inr k
    · exact .inl fun k2 => hy ((hcol y).2 ⟨k2, k⟩)
  have hn : GY.num (GY.put s x) = GY.num s + 1 := by rw [hput]; simp [GY.num]; omega
  refine ⟨⟨m, e, P, bf', bh', h.good.put x, fun y hy => h.ok y (hne y hy), by rw [hput]; exact hr, ?_, fun y hy => ?_, ⟨h.lo.1, h.lo.2.1, h.lo.2.2.1, fun y hy => h.lo.2.2.2 y (hne y hy)⟩⟩, Gt.of_aft ha h.mine⟩
  · rw [hn]
    refine (h.map.keep (ha.block m h.map.mapB.lt fun k => ?_)).ext fun y _ => ?_
    · have hmb := h.map.mapB
      rcases List.mem_cons.1 k with k | k
      · exact hmb.ne h.ring.box k
      · rcases List.mem_cons.1 k with k | k
        · exact hmb.ne h.node k
        · exact map_off h.ring hmb (List.mem_cons_of_mem _ k)
    · by_cases k : GY.col s y = 0 ∧ y ≠ x
      · rw [if_pos k, if_pos ((hcol y).2 k)]
      · rw [if_neg k, if_neg (fun k2 => k ((hcol y).1 k2))]
  · rw [hput] at hy
    have hy : y ∈ s.D := hy
    obtain ⟨p, q, h1⟩ := h.done y hy
    refine ⟨p, q, ha.whole h1 fun k => ?_⟩
    have h2 := done_off h.ring h1
    rcases List.mem_cons.1 k with k | k
    · exact h2 (k ▸ List.mem_cons_self)
    · rcases List.mem_cons.1 k with k | k
      · exact thing_ne h1 h.node (.inr (by decide)) k
      · exact h2 (List.mem_cons_of_mem _ k)
theorem GyAdd.paints (h : GyAdd w base b m e P bf bh s x) : Gy (w.setCell ⟨P x, 1, none⟩ (.int .i64 2)) base b (GY.paint s x) ∧ Gt base w (w.setCell ⟨P x, 1, none⟩ (.int .i64 2)) := by
  have hc := h.col
  have h0 := GY.no_col hc
  have hput := GY.paint_0 hc
  have hcol : ∀ y, GY.col (GY.paint s x) y = 0 ↔ GY.col s y = 0 ∧ y ≠ x := fun y => by
    rw [hput]
    constructor
    · intro k
      have k1 := GY.no_col k
      simp at k1
      exact ⟨GY.col_0 k1.1 k1.2.1, k1.2.2⟩
    · rintro ⟨k, k2⟩
      have k1 := GY.no_col k
      exact GY.col_0 k1.1 (by simp; exact ⟨k1.2, k2⟩)
  have hne : ∀ y, GY.col (GY.paint s x) y ≠ 0 → GY.col s y ≠ 0 ∨ y = x := fun y hy => by
    rcases Decidable.em (y = x) with k | k
    · exact .inr k
    · exact .inl fun k2 => hy ((hcol y).2 ⟨k2, k⟩)
  have hn : GY.num (GY.paint s x) = GY.num s + 1 := by rw [hput]; simp [GY.num]; omega
  have hnr : ∀ g ∈ b :: e :: s.W.map P, g ≠ P x := fun g hg => by
    rcases List.mem_cons.1 hg with rfl | hg
    · exact box_ne h.ring.box h.node
    · rcases List.mem_cons.1 hg with rfl | hg
      · exact h.off.symm
      · obtain ⟨z, hz, rfl⟩ := List.mem_map.1 hg
        exact thing_ne (h.ring.wait z hz) h.node (.inr (by decide))
  refine ⟨⟨m, e, P, bf, bh, h.good.paint x, fun y hy => h.ok y (hne y hy), ?_, ?_, fun y hy => ?_, ⟨h.lo.1, h.lo.2.1, h.lo.2.2.1, fun y hy => h.lo.2.2.2 y (hne y hy)⟩⟩, ?_⟩
  · rw [hput]
    exact h.ring.keep fun g hg => Below.heap_setCell _ _ _ _ (hnr g hg)
  · rw [hn]
    refine (h.map.keep (Below.heap_setCell _ _ _ _ (h.map.mapB.ne h.node))).ext fun y _ => ?_
    by_cases k : GY.col s y = 0 ∧ y ≠ x
    · rw [if_pos k, if_pos ((hcol y).2 k)]
    · rw [if_neg k, if_neg (fun k2 => k ((hcol y).1 k2))]
  · rw [hput] at hy
    have hy : y ∈ s.D ++ [x] := hy
    rcases List.mem_append.1 hy with hy | hy
    · obtain ⟨p, q, h1⟩ := h.done y hy
      exact ⟨p, q, h1.far (p := ⟨P x, 1, none⟩) (thing_ne h1 h.node (.inr (by decide))) _⟩
    · rw [List.mem_singleton] at hy
      subst hy
      exact ⟨_, _, h.node.set 1 _⟩
  · exact Gt.of_aft ((Aft.refl [P x] w).setCell (by simp) 1 _) fun g hg => by
      rw [List.mem_singleton] at hg
      subst hg
      exact ⟨h.lo.2.2.2 x (.inr rfl), .inr (.inl ⟨_, h.node⟩)⟩
theorem GyAt.waits {bf' bh' : Nat → Nat} (h : GyAt w base b m e P bf bh s) (hc : GY.col s x = 2) (hr : RingAt w' b m e (s.W ++ [x]) P bf' bh') (ha : Aft (b :: P x :: e :: s.W.map P) w w') : Gy w' base b (GY.again s x) ∧ Gt base w w' := by
  have h0 := GY.d_col hc
  have hput := GY.again_2 hc
  obtain ⟨p0, q0, hnode⟩ := h.done x h0.1
  have hcol : ∀ y, GY.col (GY.again s x) y = 0 ↔ GY.col s y = 0 := fun y => by
    rw [hput]
    constructor
    · intro k
      have k1 := GY.no_col k
      simp [GY.mem_out] at k1
      exact GY.col_0 k1.1.1 fun k2 => k1.1.2 (k1.2 k2)
    · intro k
      have k1 := GY.no_col k
      refine GY.col_0 ?_ ?_
      · simp
        exact ⟨k1.1, fun k2 => k1.2 (k2 ▸ h0.1)⟩
      · show ¬ y ∈ GY.out s.D x
        rw [GY.mem_out]
        exact fun k2 => k1.2 k2.1
  have hne : ∀ y, GY.col (GY.again s x) y ≠ 0 → GY.col s y ≠ 0 := fun y hy k => hy ((hcol y).2 k)
  refine ⟨⟨m, e, P, bf', bh', h.good.again x, fun y hy => h.ok y (hne y hy), by rw [hput]; exact hr, ?_, fun y hy => ?_, ⟨h.lo.1, h.lo.2.1, h.lo.2.2.1, fun y hy => h.lo.2.2.2 y (hne y hy)⟩⟩, Gt.of_aft ha fun g hg => ?_⟩
  · rw [GY.num_again h.good]
    refine (h.map.keep (ha.block m h.map.mapB.lt fun k => ?_)).ext fun y _ => ?_
    · have hmb := h.map.mapB
      rcases List.mem_cons.1 k with k | k
      · exact hmb.ne h.ring.box k
      · rcases List.mem_cons.1 k with k | k
        · exact hmb.ne hnode k
        · exact map_off h.ring hmb (List.mem_cons_of_mem _ k)
    · by_cases k : GY.col s y = 0
      · rw [if_pos k, if_pos ((hcol y).2 k)]
      · rw [if_neg k, if_neg (fun k2 => k ((hcol y).1 k2))]
  · rw [hput] at hy
    have hy : y ∈ GY.out s.D x := hy
    rw [GY.mem_out] at hy
    obtain ⟨p, q, h1⟩ := h.done y hy.1
    refine ⟨p, q, ha.whole h1 fun k => ?_⟩
    have h2 := done_off h.ring h1
    rcases List.mem_cons.1 k with k | k
    · exact h2 (k ▸ List.mem_cons_self)
    · rcases List.mem_cons.1 k with k | k
      · exact thing_ne h1 hnode (.inl hy.2) k
      · exact h2 (List.mem_cons_of_mem _ k)
  · rcases List.mem_cons.1 hg with rfl | hg
    · exact h.ring_lo _ List.mem_cons_self
    · rcases List.mem_cons.1 hg with rfl | hg
      · exact ⟨h.lo.2.2.2 x (by rw [hc]; decide), .inr (.inl ⟨_, hnode⟩)⟩
      · exact h.ring_lo g (List.mem_cons_of_mem _ hg)
theorem GyAt.leaves {bf' bh' : Nat → Nat} (h : GyAt w base b m e P bf bh s) (hx : x ∈ s.W) (hr : RingAt w' b m e (GY.out s.W x) P bf' bh') (hw : Whole w' (P x) 53 #[.int .i64 x, .int .i64 2, .pointer none, .pointer none]) (ha : Aft (b :: e :: s.W.map P) w w') : Gy w' base b (GY.paint s x) ∧ Gt base w w' := by
  have hc := GY.col_w hx
  have hput := GY.paint_no (s := s) (x := x) (by rw [hc]; decide)
  have hcol : ∀ y, GY.col (GY.paint s x) y = 0 ↔ GY.col s y = 0 := fun y => by
    rw [hput]
    constructor
    · intro k
      have k1 := GY.no_col k
      simp [GY.mem_out] at k1
      exact GY.col_0 (fun k2 => k1.2.2 (k1.1 k2)) k1.2.1
    · intro k
      have k1 := GY.no_col k
      refine GY.col_0 ?_ ?_
      · show ¬ y ∈ GY.out s.W x
        rw [GY.mem_out]
        exact fun k2 => k1.1 k2.1
      · simp
        exact ⟨k1.2, fun k2 => k1.1 (k2 ▸ hx)⟩
  have hne : ∀ y, GY.col (GY.paint s x) y ≠ 0 → GY.col s y ≠ 0 := fun y hy k => hy ((hcol y).2 k)
  have hn : GY.num (GY.paint s x) = GY.num s := by
    rw [hput]
    have := GY.out_len h.good.w hx
    simp [GY.num]
    omega
  refine ⟨⟨m, e, P, bf', bh', h.good.paint x, fun y hy => h.ok y (hne y hy), by rw [hput]; exact hr, ?_, fun y hy => ?_, ⟨h.lo.1, h.lo.2.1, h.lo.2.2.1, fun y hy => h.lo.2.2.2 y (hne y hy)⟩⟩, Gt.of_aft ha h.ring_lo⟩
  · rw [hn]
    refine (h.map.keep (ha.block m h.map.mapB.lt (map_off h.ring h.map.mapB))).ext fun y _ => ?_
    by_cases k : GY.col s y = 0
    · rw [if_pos k, if_pos ((hcol y).2 k)]
    · rw [if_neg k, if_neg (fun k2 => k ((hcol y).1 k2))]
  · rw [hput] at hy
    have hy : y ∈ s.D ++ [x] := hy
    rcases List.mem_append.1 hy with hy | hy
    · obtain ⟨p, q, h1⟩ := h.done y hy
      exact ⟨p, q, ha.whole h1 (done_off h.ring h1)⟩
    · rw [List.mem_singleton] at hy
      subst hy
      exact ⟨_, _, hw⟩
end
end Go.Proofs.Ytomjaieplpjcpaa
