/- The laws' state: both halves, their pointers' boxes. -/
import Derived.Test.YteencfldehcbbaaDoorBpDo
import Derived.Test.YteencfldehcbbaaDoorBpGreat
namespace Go.Proofs.YteencfldehcbbaaDoor
open Go.RowKit Go.Sort BP
set_option linter.unusedVariables false

theorem RSp.based {w : World} {base base' p m o : Nat} {v : Value} {S : Sp} (h : RSp w base p v m o S) (hb : base' ≤ base) : RSp w base' p v m o S := ⟨h.box, h.row.base hb, by have := h.lo; omega⟩
theorem yd_made {w w1 w2 w3 w4 w5 : World} {B : SB} {R : RB} {C K p p' r r' : Nat} (hT : Tab w) (hc : Co w w1 B C K 1 2 p p' (.slice none 0 0) (.slice none 0 0) d0) (h12 : Below w1.heap.size w1 w2) (hr : RfAt w3 R C K (fun _ => 0) (fun _ => 0)) (h23 : Below w2.heap.size w2 w3) (hw : R.within w2.heap.size w3.heap.size)
    (ha : RSp w4 w3.heap.size r (.slice none 0 0) R.m 1 ⟨[], (0, 0), 0⟩) (h34 : Below w3.heap.size w3 w4) (hb : RSp w5 w4.heap.size r' (.slice none 0 0) R.m 2 ⟨[], (0, 0), 0⟩) (h45 : Below w4.heap.size w4 w5) :
    Yd w w5 B R C K 1 2 p p' r r' (.slice none 0 0) (.slice none 0 0) (.slice none 0 0) (.slice none 0 0) d0 d0 := by
  have s1 := hc.bel.size
  have s2 := h12.size
  have s3 := h23.size
  have s4 := h34.size
  have s5 := h45.size
  have b35 : Below w3.heap.size w3 w5 := h34.trans (h45.mono s4)
  have b15 : Below w1.heap.size w1 w5 := (h12.trans (h23.mono s2)).trans (b35.mono (by omega))
  have hco := hc.later hT b15
  have hlr := ha.lt
  have hlr' := hb.lt
  have lo := ha.lo
  have lo' := hb.lo
  have hro : Ro w w5 R C K 1 2 r r' (.slice none 0 0) (.slice none 0 0) d0 := by
    refine ⟨hr.blocks fun k hk => b35.block k (hw.mem (by simp [RB.bl]; omega)).2, hco.bel, ?_, (ha.later h45).based (by omega), hb.based (by omega), by omega, fun g hg => (by simp [Value.ownBlock] at hg), fun x hx => ?_⟩
    · obtain ⟨⟨a1, a2⟩, ⟨c1, c2⟩, e1, e2⟩ := hw
      exact ⟨⟨by omega, by omega⟩, ⟨by omega, by omega⟩, by omega, by omega⟩
    · have := hw.mem hx
      exact ⟨by omega, by omega, by simp [Value.ownBlock], by simp [Value.ownBlock]⟩
  refine ⟨hco, hro, fun x hx hn => ?_⟩
  have h1 := (hc.win x hx).2
  rcases roF_mem.1 hn with e | e | e | e | e
  · have := hw.mem e; omega
  · omega
  · omega
  · simp [Value.ownBlock] at e
  · simp [Value.ownBlock] at e
/-- Both halves, and the boxes of their pointers. -/
structure LS (w w' : World) (B : SB) (R : RB) (K p p' r r' bx cx : Nat) (D : Dt) : Prop where
  yd : ∃ s s' t t', Yd w w' B R 16 K 1 2 p p' r r' s s' t t' D D ∧ bx ∉ ydF B R p p' r r' s s' t t' ∧ cx ∉ ydF B R p p' r r' s s' t t'
  x : Whole w' bx 27 #[.pointer (some ⟨p, 0, none⟩), .pointer (some ⟨p', 0, none⟩)]
  y : Whole w' cx 34 #[.pointer (some ⟨r, 0, none⟩), .pointer (some ⟨r', 0, none⟩)]
  good : Good2 16 K 1 2 D
section
variable {w w1 w2 : World} {B : SB} {R : RB} {K p p' r r' bx cx : Nat} {D D' : Dt}
theorem LS.op (h : LS w w1 B R K p p' r r' bx cx D) (hG : Good2 16 K 1 2 D') (ho : ∀ s s' t t', Yd w w1 B R 16 K 1 2 p p' r r' s s' t t' D D → ∃ u u' v v', Yd w w2 B R 16 K 1 2 p p' r r' u u' v v' D' D' ∧ Turn (ydF B R p p' r r' s s' t t') (ydF B R p p' r r' u u' v v') w1 w2) : LS w w2 B R K p p' r r' bx cx D' := by
  obtain ⟨s, s', t, t', hy, h1, h2⟩ := h.yd
  obtain ⟨u, u', v, v', hy', ht⟩ := ho s s' t t' hy
  have hn : ∀ g, g < w1.heap.size → g ∉ ydF B R p p' r r' s s' t t' → g ∉ ydF B R p p' r r' u u' v v' := fun g hg hn hx => by
    rcases ht.new g hx with e | e
    · exact hn e
    · omega
  exact ⟨⟨u, u', v, v', hy', hn bx h.x.lt h1, hn cx h.y.lt h2⟩, ht.keep h.x h1, ht.keep h.y h2, hG⟩
theorem LS.later (h : LS w w1 B R K p p' r r' bx cx D) (hT : Tab w) (hb : Below w1.heap.size w1 w2) : LS w w2 B R K p p' r r' bx cx D :=
  h.op h.good fun s s' t t' hy => ⟨s, s', t, t', hy.later hT hb, Turn.of_below hb⟩
theorem LS.bel (h : LS w w1 B R K p p' r r' bx cx D) : Below w.heap.size w w1 := by
  obtain ⟨s, s', t, t', hy, _⟩ := h.yd
  exact hy.bel
theorem LS.kb (h : LS w w1 B R K p p' r r' bx cx D) : 1 ≤ K ∧ K ≤ 1024 := by
  obtain ⟨s, s', t, t', hy, _⟩ := h.yd
  exact ⟨hy.ro.rf.K1, hy.ro.rf.K2⟩
/-- An act is done. -/
theorem LS.do_any (h : LS w w1 B R K p p' r r' bx cx D) (hT : Tab w) (k a n : Int) (raw : Bool) (hn : -9223372036854775808 ≤ n ∧ n ≤ 9223372036854775807) (hk : k = 0 → n ≤ 100000) :
    Calls Tryd.prog 14 #[.agg #[.int .i64 k, .int .i64 a, .int .i64 n, .bool raw], .agg #[.pointer (some ⟨p, 0, none⟩), .pointer (some ⟨p', 0, none⟩)], .agg #[.pointer (some ⟨r, 0, none⟩), .pointer (some ⟨r', 0, none⟩)]] w1 fun e w2 => e = .returned (.bool true) ∧ ∃ D', LS w w2 B R K p p' r r' bx cx D' := by
  obtain ⟨s, s', t, t', hy, h1, h2⟩ := h.yd
  have hc : a % 2 = 0 ∨ a % 2 = 1 := by omega
  have key : Calls Tryd.prog 14 #[.agg #[.int .i64 k, .int .i64 a, .int .i64 n, .bool raw], .agg #[.pointer (some ⟨p, 0, none⟩), .pointer (some ⟨p', 0, none⟩)], .agg #[.pointer (some ⟨r, 0, none⟩), .pointer (some ⟨r', 0, none⟩)]] w1 (YdPost w B R 16 K 1 2 p p' r r' s s' t t' w1) := by
    rcases hc with hc | hc
    · exact bdo_any hy hT h.good (by decide) (by decide) k a n raw p p' r r' (.inl ⟨hc, rfl, rfl, rfl, rfl⟩) hn hk
    · exact (bdo_any hy.swap hT h.good.swap (by decide) (by decide) k a n raw p p' r r' (.inr ⟨hc, rfl, rfl, rfl, rfl⟩) hn hk).mono fun _ _ hp => hp.swap
  refine key.mono fun e w2 hp => ?_
  obtain ⟨he, u, u', v, v', D', hy', hG', ht⟩ := hp
  have hn : ∀ g, g < w1.heap.size → g ∉ ydF B R p p' r r' s s' t t' → g ∉ ydF B R p p' r r' u u' v v' := fun g hg hn hx => by
    rcases ht.new g hx with e | e
    · exact hn e
    · omega
  exact ⟨he, D', ⟨u, u', v, v', hy', hn bx h.x.lt h1, hn cx h.y.lt h2⟩, ht.keep h.x h1, ht.keep h.y h2, hG'⟩
theorem LS.co (h : LS w w1 B R K p p' r r' bx cx D) : ∃ s s', Co w w1 B 16 K 1 2 p p' s s' D := by
  obtain ⟨s, s', t, t', hy, _⟩ := h.yd
  exact ⟨s, s', hy.co⟩
theorem LS.ro (h : LS w w1 B R K p p' r r' bx cx D) : ∃ s s', Ro w w1 R 16 K 1 2 r r' s s' D := by
  obtain ⟨s, s', t, t', hy, _⟩ := h.yd
  exact ⟨t, t', hy.ro⟩
end
end Go.Proofs.YteencfldehcbbaaDoor
