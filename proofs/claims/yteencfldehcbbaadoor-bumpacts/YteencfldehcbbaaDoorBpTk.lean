/- The document's take. -/
import Derived.Test.YteencfldehcbbaaDoorBpRo2
import Derived.Test.YteencfldehcbbaaDoorBpTkM
namespace Go.Proofs.YteencfldehcbbaaDoor
open Go.RowKit Go.Sort BP
set_option linter.unusedVariables false

theorem Whole.q0 {w : World} {g : Nat} {t : TypeId} {a b c : Value} (h : Whole w g t #[a, b, c]) : w.cell? ⟨g, 0, none⟩ = some a := (h.cell 0).trans rfl
theorem Whole.q1 {w : World} {g : Nat} {t : TypeId} {a b c : Value} (h : Whole w g t #[a, b, c]) : w.cell? ⟨g, 1, none⟩ = some b := (h.cell 1).trans rfl
theorem Whole.q2 {w : World} {g : Nat} {t : TypeId} {a b c : Value} (h : Whole w g t #[a, b, c]) : w.cell? ⟨g, 2, none⟩ = some c := (h.cell 2).trans rfl
theorem own_base {w : World} {base base' n k : Nat} {t : TypeId} {v : Value} {xs : List Value} (h : w.ownsRow base t k v n xs) (hb : base' ≤ base) : w.ownsRow base' t k v n xs :=
  ⟨h.1, h.2.imp_right fun ⟨g, cap, cur, e, hg, r⟩ => ⟨g, cap, cur, e, Nat.le_trans hb hg, r⟩⟩
theorem RR.base {w : World} {base base' : Nat} {v : Value} {l : List (Nat × Nat)} (h : RR w base v l) (hb : base' ≤ base) : RR w base' v l := own_base h hb
/-- The three cells of a part. -/
def part3 (x : Nat × Nat) : Array Value := #[.int .i64 (x.1 : Nat), .int .i64 (x.2 : Nat), .bool (decide (1 < x.2))]
/-- What take holds while it goes over the parts: its result's box, its part's box, its row. -/
structure TkI (w wr : World) (u : Value) (X : Nat × Nat) (L : List (Nat × Nat)) : Prop where
  bel : Below w.heap.size w wr
  sz : w.heap.size + 2 ≤ wr.heap.size
  res : Whole wr w.heap.size 81 #[.int .i64 0, .int .i64 0, .bool false]
  x : Whole wr (w.heap.size + 1) 81 (part3 X)
  row : RR wr (w.heap.size + 2) u L
section
variable {w wr w' : World} {u u' : Value} {X y : Nat × Nat} {L : List (Nat × Nat)}
theorem TkI.start (w : World) : TkI w ((w.alloc (.cells #[.int .i64 0, .int .i64 0, .bool false] 81)).alloc (.cells #[.int .i64 0, .int .i64 0, .bool false] 81)) (.slice none 0 0) (0, 0) [] := by
  have hb := (Below.refl w.heap.size w).alloc (Nat.le_refl _) (.cells #[.int .i64 0, .int .i64 0, .bool false] 81)
  refine ⟨hb.alloc (by simp) _, by simp, (Whole.fresh w _ _).alloc _, ?_, RR.nil _ _⟩
  exact Whole.fresh' (by simp)
theorem TkI.own (h : TkI w wr u X L) {g : Nat} (hg : u.ownBlock = some g) : w.heap.size + 2 ≤ g ∧ g < wr.heap.size := h.row.lt g hg
theorem TkI.hit (h : TkI w wr u X L) (y : Nat × Nat) : TkI w (((wr.setCell ⟨w.heap.size + 1, 0, none⟩ (.int .i64 (y.1 : Nat))).setCell ⟨w.heap.size + 1, 1, none⟩ (.int .i64 (y.2 : Nat))).setCell ⟨w.heap.size + 1, 2, none⟩ (.bool (decide (1 < y.2)))) u y L := by
  have ho : OnlyAt (w.heap.size + 1) wr (((wr.setCell ⟨w.heap.size + 1, 0, none⟩ (.int .i64 (y.1 : Nat))).setCell ⟨w.heap.size + 1, 1, none⟩ (.int .i64 (y.2 : Nat))).setCell ⟨w.heap.size + 1, 2, none⟩ (.bool (decide (1 < y.2)))) := (((OnlyAt.refl _ _).setCell 0 _).setCell 1 _).setCell 2 _
  refine ⟨((h.bel.setCell (by simp) _).setCell (by simp) _).setCell (by simp) _, by rw [ho.size]; exact h.sz, (ho.block _ (by omega)).trans h.res, ((h.x.set 0 _).set 1 _).set 2 _, h.row.keep fun g hg => ho.block g ?_⟩
  have := (h.own hg).1
  omega
theorem TkI.miss {tmp : Obj} (h : TkI w wr u X L) (hr : RR w' (w.heap.size + 2) u' (L ++ [y])) (hg : (wr.alloc tmp).grownBy w' u.ownBlock) : TkI w w' u' X (L ++ [y]) := by
  have hs := h.sz
  have hA : Aft (ob u) wr w' := (Aft.of_below ((Below.refl _ _).alloc (Nat.le_refl _) tmp)).trans ⟨hg.os, hg.tape, hg.output, hg.size, fun q hq hs => hg.block q hq fun e => hs (ob_mem.2 e.symm)⟩
  refine ⟨h.bel.trans (hA.below (fun c hc => ?_) (by omega)), Nat.le_trans hs hA.size, hA.whole h.res fun hx => ?_, hA.whole h.x fun hx => ?_, hr⟩
  · have := (h.own (ob_mem.1 hc)).1; omega
  · have := (h.own (ob_mem.1 hx)).1; omega
  · have := (h.own (ob_mem.1 hx)).1; omega
end
theorem hit_cases (f : Int) (r : Bool) (a b : Nat) : (hitP f r (a, b) = false ∧ ((a : Int) == f) = false) ∨ (hitP f r (a, b) = true ∧ ((a : Int) == f) = true ∧ decide (1 < b) = true) ∨ (hitP f r (a, b) = false ∧ ((a : Int) == f) = true ∧ decide (1 < b) = false ∧ r = true) ∨ (hitP f r (a, b) = true ∧ ((a : Int) == f) = true ∧ decide (1 < b) = false ∧ r = false) := by
  unfold hitP
  by_cases h1 : (a : Int) = f
  · by_cases h2 : 1 < b
    · exact .inr (.inl ⟨by simp [h1, h2], by simp [h1], by simp [h2]⟩)
    · cases r
      · exact .inr (.inr (.inr ⟨by simp [h1], by simp [h1], by simp [h2], rfl⟩))
      · exact .inr (.inr (.inl ⟨by simp [h2], by simp [h1], by simp [h2], rfl⟩))
  · exact .inl ⟨by simp [h1], by simp [h1]⟩
theorem RR.snoc {w : World} {base n a b : Nat} {c : Bool} {v : Value} {L : List (Nat × Nat)} (h : w.ownsRow base 81 3 v (n + 1) (flatR L ++ [.int .i64 (a : Nat), .int .i64 (b : Nat), .bool c])) (hn : n = L.length) (hc : c = decide (1 < b)) : RR w base v (L ++ [(a, b)]) := by
  subst hn hc
  unfold RR
  rw [flatR_app, List.length_append]
  exact h
theorem own_alloc_rr {w : World} {base : Nat} {v : Value} {L : List (Nat × Nat)} {tmp : Obj} (h : RR w base v L) : (w.alloc tmp).ownsRow base 81 3 v L.length (flatR L) := World.ownsRow.alloc h tmp
theorem news3 (w : World) (a b c : Value) (t : TypeId) : ∀ j u, [a, b, c][j]? = some u → (w.alloc (.cells #[a, b, c] t)).cell? ((⟨w.heap.size, 0, none⟩ : Addr).add j) = some u := World.news_of_block (heap_alloc_new w _)
theorem Turn.fresh {F F' : List Nat} {w w1 w2 : World} (h : Turn F F' w w1) (hb : Below w.heap.size w1 w2) : Turn F F' w w2 :=
  ⟨⟨hb.os.trans h.aft.os, hb.tape.trans h.aft.tape, hb.output.trans h.aft.output, Nat.le_trans h.aft.size hb.size, fun i hi hn => (hb.block i hi).trans (h.aft.block i hi hn)⟩, h.new⟩
section
variable {w0 w : World} {R : RB} {C K o o' p p' : Nat} {v v' : Value} {D : Dt}
/-- What a call of the first one leaves; of both. -/
def RoPost (val : Value) (w0 : World) (R : RB) (C K o o' p p' : Nat) (v v' : Value) (D : Dt) (w : World) (e : Ending) (w' : World) : Prop :=
  e = .returned val ∧ ∃ u, Ro w0 w' R C K o o' p p' u v' D ∧ Turn (roF R p p' v v') (roF R p p' u v') w w'
def RoPost2 (val : Value) (w0 : World) (R : RB) (C K o o' p p' : Nat) (v v' : Value) (D : Dt) (w : World) (e : Ending) (w' : World) : Prop :=
  e = .returned val ∧ ∃ u u', Ro w0 w' R C K o o' p p' u u' D ∧ Turn (roF R p p' v v') (roF R p p' u u') w w'
theorem RoPost.two {val : Value} {w' : World} {e : Ending} (h : RoPost val w0 R C K o o' p p' v v' D w e w') : RoPost2 val w0 R C K o o' p p' v v' D w e w' := by
  obtain ⟨he, u, h1, h2⟩ := h
  exact ⟨he, u, v', h1, h2⟩
theorem RoPost2.swap {val : Value} {e : Ending} {w' : World} {D' : Dt} (h : RoPost2 val w0 R C K o o' p p' v v' D w e w') (hD : D' = D.swap) : RoPost2 val w0 R C K o' o p' p v' v D' w e w' := by
  subst hD
  obtain ⟨he, u, u', h1, h2⟩ := h
  exact ⟨he, u', u, h1.swap, rturn_swap h2⟩
theorem take_end {wr : World} {u : Value} {X : Nat × Nat} {L : List (Nat × Nat)} (h : Ro w0 w R C K o o' p p' v v' D) (hI : TkI w wr u X L) :
    Ro w0 ((((wr.setCell ⟨p, 2, none⟩ u).setCell ⟨w.heap.size, 0, none⟩ (.int .i64 (X.1 : Nat))).setCell ⟨w.heap.size, 1, none⟩ (.int .i64 (X.2 : Nat))).setCell ⟨w.heap.size, 2, none⟩ (.bool (decide (1 < X.2)))) R C K o o' p p' u v' ⟨D.own, D.wd, ⟨L, D.S.pr, D.S.fl⟩, D.T⟩ ∧
      Turn (roF R p p' v v') (roF R p p' u v') w ((((wr.setCell ⟨p, 2, none⟩ u).setCell ⟨w.heap.size, 0, none⟩ (.int .i64 (X.1 : Nat))).setCell ⟨w.heap.size, 1, none⟩ (.int .i64 (X.2 : Nat))).setCell ⟨w.heap.size, 2, none⟩ (.bool (decide (1 < X.2)))) := by
  obtain ⟨z, hz, hb⟩ := (h.a.later hI.bel).box
  have hbs := h.bel.size
  have hd := h.done (u := u) (P := L) (pr := D.S.pr) (fl := D.S.fl) (z := z) (Aft.of_below hI.bel) (hI.row.base (by omega)) (fun g hg => .inr (by have := (hI.own hg).1; omega)) ((OnlyAt.refl p wr).setCell 2 u) hz (hb.set 2 u)
  have hs := hI.sz
  have ho : OnlyAt w.heap.size (wr.setCell ⟨p, 2, none⟩ u) ((((wr.setCell ⟨p, 2, none⟩ u).setCell ⟨w.heap.size, 0, none⟩ (.int .i64 (X.1 : Nat))).setCell ⟨w.heap.size, 1, none⟩ (.int .i64 (X.2 : Nat))).setCell ⟨w.heap.size, 2, none⟩ (.bool (decide (1 < X.2)))) := (((OnlyAt.refl _ _).setCell 0 _).setCell 1 _).setCell 2 _
  have hbl : Below w.heap.size (wr.setCell ⟨p, 2, none⟩ u) ((((wr.setCell ⟨p, 2, none⟩ u).setCell ⟨w.heap.size, 0, none⟩ (.int .i64 (X.1 : Nat))).setCell ⟨w.heap.size, 1, none⟩ (.int .i64 (X.2 : Nat))).setCell ⟨w.heap.size, 2, none⟩ (.bool (decide (1 < X.2)))) := ⟨rfl, rfl, rfl, by rw [ho.size]; exact Nat.le_refl _, fun k hk => ho.block k (by omega)⟩
  refine ⟨hd.1.blocks (hd.1.bel.trans (hbl.mono hbs)) (by rw [ho.size]; exact Nat.le_refl _) fun k hk => ho.block k fun e => ?_, hd.2.fresh hbl⟩
  subst e
  rcases hd.2.new _ hk with e | e
  · exact h.not (Nat.le_refl _) e
  · rcases roF_mem.1 hk with e | e | e | e | e
    · have := (h.rwin.mem e).2; omega
    · have := h.a.lt; omega
    · have := h.b.lt; omega
    · have := (hI.own e).1; omega
    · have := (h.b.row.lt _ e).2; omega
set_option maxHeartbeats 4000000 in
set_option maxRecDepth 100000 in
theorem rtake_part (h : Ro w0 w R C K o o' p p' v v' D) (hall : ∀ x ∈ D.S.parts, x.1 ≤ 1024 ∧ x.2 ≤ 1024) (hlen : D.S.parts.length ≤ 5000) (f : Int) (r : Bool) :
    Calls Tryd.prog 59 #[.pointer (some ⟨p, 0, none⟩), .int .i64 f, .bool r] w (RoPost (.tuple #[.agg (part3 (tkX f r D.S.parts)), .bool (tkB f r D.S.parts)]) w0 R C K o o' p p' v v' ⟨D.own, D.wd, ⟨tkL f r D.S.parts, D.S.pr, D.S.fl⟩, D.T⟩ w) := by
  obtain ⟨i0, hi, hz0, hz1, hz2⟩ := infoRPart
  obtain ⟨A, c, rfl, hc, hrd⟩ := h.a.row.rd
  have c2 := h.a.c2
  have hpl := h.a.lt
  have HRD := Lib.hid hrd
  have HH := Lib.hid h
  obtain ⟨own, wd, ⟨P, pr, fl⟩, T⟩ := D
  simp only at HRD HH c2 hc hlen hall ⊢
  obtain ⟨n, hn⟩ : ∃ n, n = P.length := ⟨_, rfl⟩
  rw [← hn] at hc hlen c2 HH ⊢
  have HN := Lib.hid hn
  have HALL := Lib.hid hall
  have HS := Lib.hid (TkI.start w)
  clear hrd h hn hall
  go_enter Tryd.func59, Tryd.ntmps59
  go_wp2_with fail
  obtain ⟨wa, ha⟩ : ∃ wa, wa = (w.alloc (.cells #[.int .i64 0, .int .i64 0, .bool false] 81)).alloc (.cells #[.int .i64 0, .int .i64 0, .bool false] 81) := ⟨_, rfl⟩
  rw [← ha] at HS ⊢
  clear ha
  go_loopw [8, 10, 11] (fun u s x wr => ∃ j : Nat, j ≤ n ∧ x = .int .i64 j ∧ s = .bool (tkB f r (P.take j)) ∧ Hid (TkI w wr u (tkX f r (P.take j)) (tkL f r (P.take j)))) (fun _ _ x _ => n - (intOf x).toNat)
  case atStart => exact ⟨0, Nat.zero_le _, rfl, rfl, HS⟩
  case round =>
    obtain ⟨j, hj, rfl, rfl, HI⟩ := hrel
    have d2 := (HI.out.bel.cell (p := ⟨p, 2, none⟩) hpl).trans c2
    by_cases hlt : j < n
    · obtain ⟨x, hx⟩ : ∃ x, P[j]? = some x := ⟨P[j]'(by have := HN.out; omega), by simp⟩
      obtain ⟨g, rfl, hg1, hg2, k0, k1, k2⟩ := HRD.out j x hx
      have r0 := bcellB HI.out.bel k0
      have r1 := bcellB HI.out.bel k1
      have r2 := bcellB HI.out.bel k2
      have HXX := Lib.hid hx
      obtain ⟨A2, cu, rfl, hcu, _⟩ := HI.out.row.rd
      have HUL := Lib.hid (Nat.le_trans (tkL_len (f := f) (r := r) (P := P.take j)) (by rw [List.length_take]; exact Nat.min_le_left j P.length))
      have x0 := HI.out.x.q0
      have x1 := HI.out.x.q1
      have x2 := HI.out.x.q2
      have xf := HI.out.x.free
      obtain ⟨a, b⟩ := x
      have hsz := HI.out.sz
      have hcase := hit_cases f r a b
      obtain ⟨c, hcc⟩ : ∃ c, c = decide (1 < b) := ⟨_, rfl⟩
      rw [← hcc] at hcase
      have r2' : wr.cell? ⟨g, j * 3 + 2, none⟩ = some (.bool c) := by rw [hcc]; exact r2
      have HC := Lib.hid hcc
      clear hx k0 k1 k2 hg1 hg2 hcu r2 hcc
      rcases hcase with ⟨hq, h1⟩ | ⟨hq, h1, rfl⟩ | ⟨hq, h1, rfl, rfl⟩ | ⟨hq, h1, rfl, rfl⟩
      · have HM := Lib.hid (tk_miss HXX.out hq)
        have HROW := Lib.hid HI.out.row
        clear hq
        go_wp2_with (first
          | (at_builtin; refine wpList_append_own_at _ rfl _ _ 67 rfl (w.heap.size + 2) 81 i0 _ 3 24 Tryd.underlying67 hi hz0 hz1 hz2 rfl (by decide) _ _ _ rfl (own_alloc_rr HROW.out) ⟨wr.heap.size, 0, none⟩ 1 1 [.int .i64 (a : Nat), .int .i64 (b : Nat), .bool _] rfl rfl (news3 _ _ _ _ _) (by simp [Value.oneCell']) (by have := HUL.out; unfold maxLen; omega) (by have := HUL.out; omega) (by simp; omega) ?_; intro v6 w6 hown' hgrow _ _; have HI6 := Lib.hid (HI.out.miss (RR.snoc hown' rfl HC.out) hgrow); clear hown' hgrow))
        go_roundw
        case rel => exact ⟨j + 1, by omega, by go_num, by rw [HM.out.2.1], by rw [HM.out.1, HM.out.2.2]; exact HI6⟩
        case measure => simp [intOf]; omega
      · have HM := Lib.hid (tk_hit HXX.out hq)
        have HI6 := Lib.hid (HI.out.hit (a, b))
        simp only at HI6
        rw [← HC.out] at HI6
        clear hq
        go_wp2
        go_roundw
        case rel => exact ⟨j + 1, by omega, by go_num, by rw [HM.out.2.1], by rw [HM.out.1, HM.out.2.2]; exact HI6⟩
        case measure => simp [intOf]; omega
      · have HM := Lib.hid (tk_miss HXX.out hq)
        have HROW := Lib.hid HI.out.row
        clear hq
        go_wp2_with (first
          | (at_builtin; refine wpList_append_own_at _ rfl _ _ 67 rfl (w.heap.size + 2) 81 i0 _ 3 24 Tryd.underlying67 hi hz0 hz1 hz2 rfl (by decide) _ _ _ rfl (own_alloc_rr HROW.out) ⟨wr.heap.size, 0, none⟩ 1 1 [.int .i64 (a : Nat), .int .i64 (b : Nat), .bool _] rfl rfl (news3 _ _ _ _ _) (by simp [Value.oneCell']) (by have := HUL.out; unfold maxLen; omega) (by have := HUL.out; omega) (by simp; omega) ?_; intro v6 w6 hown' hgrow _ _; have HI6 := Lib.hid (HI.out.miss (RR.snoc hown' rfl HC.out) hgrow); clear hown' hgrow))
        go_roundw
        case rel => exact ⟨j + 1, by omega, by go_num, by rw [HM.out.2.1], by rw [HM.out.1, HM.out.2.2]; exact HI6⟩
        case measure => simp [intOf]; omega
      · have HM := Lib.hid (tk_hit HXX.out hq)
        have HI6 := Lib.hid (HI.out.hit (a, b))
        simp only at HI6
        rw [← HC.out] at HI6
        clear hq
        go_wp2
        go_roundw
        case rel => exact ⟨j + 1, by omega, by go_num, by rw [HM.out.2.1], by rw [HM.out.1, HM.out.2.2]; exact HI6⟩
        case measure => simp [intOf]; omega
    · obtain rfl : j = n := by omega
      have e9 : P.take j = P := by rw [HN.out, List.take_length]
      rw [e9] at HI
      obtain ⟨A2, cu, rfl, hcu, _⟩ := HI.out.row.rd
      obtain ⟨z, hz, hb⟩ := (HH.out.a.later HI.out.bel).box
      simp only at hz hb
      have HE := Lib.hid e9
      have HL := Lib.hid (take_end HH.out HI.out)
      generalize hX : tkX f r P = X at *
      generalize hL : tkL f r P = L at *
      generalize hT : tkB f r P = sb at *
      obtain ⟨xa, xb⟩ := X
      have HTB := Lib.hid hT
      have hne1 : w.heap.size + 1 ≠ p := by omega
      have hne2 : w.heap.size ≠ p := by omega
      have p2 : wr.cell? ⟨p, 2, none⟩ = some _ := (hb.cell 2).trans rfl
      have pf := hb.free 2
      have hx1 := HI.out.x.far (p := ⟨p, 2, none⟩) hne1 (.slice A2 L.length cu)
      have hr1 := HI.out.res.far (p := ⟨p, 2, none⟩) hne2 (.slice A2 L.length cu)
      have x0 := hx1.q0
      have x1 := hx1.q1
      have x2 := hx1.q2
      have y0 := hr1.q0
      have y1 := hr1.q1
      have y2 := hr1.q2
      have yf := hr1.free
      have HR1 := Lib.hid hr1
      clear hx1 hr1 hb hX hL hT e9 d2 c2 hz
      go_wp2
      have hr3 := ((HR1.out.set 0 (.int .i64 (xa : Nat))).set 1 (.int .i64 (xb : Nat))).set 2 (.bool (decide (1 < xb)))
      have z0 := Whole.q0 (a := .int .i64 (xa : Nat)) (b := .int .i64 (xb : Nat)) (c := .bool (decide (1 < xb))) hr3
      have z1 := Whole.q1 (a := .int .i64 (xa : Nat)) (b := .int .i64 (xb : Nat)) (c := .bool (decide (1 < xb))) hr3
      have z2 := Whole.q2 (a := .int .i64 (xa : Nat)) (b := .int .i64 (xb : Nat)) (c := .bool (decide (1 < xb))) hr3
      refine bodyPost_ret (v := .tuple #[.agg (part3 (xa, xb)), .bool (tkB f r (P.take j))]) (by simp [results, Tryd.results59, go_sem, z0, z1, z2, part3]) rfl ⟨?_, _, HL.out⟩
      rw [HE.out, HTB.out]
end
end Go.Proofs.YteencfldehcbbaaDoor
