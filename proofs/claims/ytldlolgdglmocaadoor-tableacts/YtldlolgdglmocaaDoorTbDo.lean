/- The contract of the law package's do: the table and the document's answer the same, and go on the same. -/
import Derived.Test.YtldlolgdglmocaaDoorTbRef2
import Derived.Test.YtldlolgdglmocaaDoorTbGrown
import Derived.Test.YtldlolgdglmocaaDoorTbSets
import Derived.Test.YtldlolgdglmocaaDoorTbOnceM
namespace Go.Proofs.YtldlolgdglmocaaDoor
open Go.RowKit

/-- A table, the document's one behind it, and the tokens told. -/
structure Ld (w0 w : World) (B : TB) (N : Nat) (S T : Nat → Sl) (base : Nat) (v : Value) (l : List (Int × Int)) (r : Nat) : Prop where
  lt : Lt w0 w B N S base v l
  rf : RfAt w r N T
  win : B.within w0.heap.size r
  hi : r < base
section
variable {w0 w w' : World} {B : TB} {N base r : Nat} {S S' T T' : Nat → Sl} {v v' : Value} {l l' : List (Int × Int)}
theorem Ld.rl (h : Ld w0 w B N S T base v l r) : r < w.heap.size := by have := h.hi; have := h.lt.le; omega
theorem Ld.step (h : Ld w0 w B N S T base v l r) (hT : Tab w0) (ho : Aft B.wr w w') (hs : TbAt w' B N S') : Ld w0 w' B N S' T base v l r :=
  ⟨h.lt.step hT ho hs, h.rf.aft ho h.rl (h.win.not (Nat.le_refl _)), h.win, h.hi⟩
theorem Ld.later (h : Ld w0 w B N S T base v l r) (hT : Tab w0) (hb : Below w.heap.size w w') : Ld w0 w' B N S T base v l r := ⟨h.lt.later hT hb, h.rf.below hb h.rl, h.win, h.hi⟩
theorem Ld.alloc (h : Ld w0 w B N S T base v l r) (hT : Tab w0) (o : Obj) : Ld w0 (w.alloc o) B N S T base v l r := h.later hT ((Below.refl _ _).alloc (Nat.le_refl _) o)
theorem Ld.drewN (h : Ld w0 w B N S T base v l r) (m : Nat) : Ld w0 (w.drewN m) B N S T base v l r := ⟨h.lt.drewN m, h.rf.heap rfl, h.win, h.hi⟩
/-- Behind a call of the document's. -/
theorem Ld.rstep (h : Ld w0 w B N S T base v l r) (hT : Tab w0) (ho : Aft [r] w w') (hr : RfAt w' r N T') : Ld w0 w' B N S T' base v l r := by
  have hw0 : w0.heap.size ≤ r := by obtain ⟨⟨a1, a2⟩, _⟩ := h.win; omega
  have hbw : Below w0.heap.size w0 w' := h.lt.ht.bel.trans (ho.below (fun c hc => by simp at hc; omega) h.lt.ht.bel.size)
  have hs := ho.size
  have hst : TbAt w' B N S := h.lt.ht.st.blocks fun k hk => ho.block k (by
      obtain ⟨⟨a1, a2⟩, ⟨b1, b2⟩, ⟨c1, c2⟩, ⟨d1, d2⟩, ⟨f1, f2⟩, e1, e2⟩ := h.lt.ht.win
      rcases hk with rfl | rfl | rfl | rfl | rfl | rfl <;> omega) (by
      obtain ⟨⟨a1, a2⟩, ⟨b1, b2⟩, ⟨c1, c2⟩, ⟨d1, d2⟩, ⟨f1, f2⟩, e1, e2⟩ := h.win
      simp
      rcases hk with rfl | rfl | rfl | rfl | rfl | rfl <;> omega)
  exact ⟨⟨⟨hst, hbw, h.lt.ht.win.more hs, hT.below hbw hT.pos⟩, h.lt.tr.aft ho (fun x hx => by simp at hx; have := h.hi; omega), h.lt.win, Nat.le_trans h.lt.le hs⟩, hr, h.win, h.hi⟩
/-- Behind an append to the tokens told. -/
theorem Ld.grown (h : Ld w0 w B N S T base v l r) (hT : Tab w0) {tmp : Obj} (hr : TR w' base v' l') (hg : (w.alloc tmp).grownBy w' v.ownBlock) : Ld w0 w' B N S T base v' l' r := by
  have hlt := h.lt.tr.lt
  have hb : Below base w w' := ((Below.refl base w).alloc h.lt.le tmp).grown hg (by simp; have := h.lt.le; omega) (fun g hg => (hlt g hg).1)
  exact ⟨h.lt.grown hT hr hg, h.rf.below hb h.hi, h.win, h.hi⟩
end
/-- A block that was laid since the row's base, and is no row, is not the row's. -/
theorem own_other {w : World} {base g : Nat} {v : Value} {l : List (Int × Int)} (h : TR w base v l) (hg : w.heap.size ≤ g) : some g ≠ v.ownBlock := fun e => by have := (h.lt g e.symm).2; omega
/-- What do leaves. -/
def DoPost (w0 : World) (B : TB) (N base r : Nat) (l : List (Int × Int)) (e : Ending) (w' : World) : Prop :=
  ∃ (v' : Value) (l' : List (Int × Int)) (S' : Nat → Sl), e = .returned (.tuple #[v', .bool true]) ∧ Ld w0 w' B N S' S' base v' l' r ∧ l'.length ≤ l.length + 1

set_option maxRecDepth 100000 in
set_option maxHeartbeats 8000000 in
theorem do_any (w0 w : World) (hT : Tab w0) (B : TB) (N base r : Nat) (S : Nat → Sl) (v : Value) (l : List (Int × Int)) (f : Ac) (h : Ld w0 w B N S S base v l r) (hl : l.length ≤ 900) :
    Calls Tryd.prog 12 #[.agg f.cells, .pointer (some ⟨B.t, 0, none⟩), .slice (some ⟨r, 0, none⟩) N N, v] w (DoPost w0 B N base r l) := by
  obtain ⟨kd, wh, rw, ti, tg, ⟨ea, er, eh, ep⟩⟩ := f
  have hN := h.lt.ht.st.N2
  have hgn : ∀ k, (S k).gen ≤ 256 := fun k => (h.lt.ht.st.gen k).2
  have hL1 := h.alloc hT (.cells #[.int .i64 kd, .int .i64 wh, .bool rw, .int .i64 ti, .int .i64 tg, .int .i64 ea, .int .i64 er, .bool eh, .bool ep] 37)
  have TK := token_of ⟨kd, wh, rw, ti, tg, ⟨ea, er, eh, ep⟩⟩ _ l _ _ hL1.lt.tr (by omega)
  unfold Ac.cells at TK ⊢
  dsimp only at TK ⊢
  have HTK := Lib.hid TK
  have HL1 := Lib.hid hL1
  have HX1 := Lib.hid (Whole.fresh w 37 #[.int .i64 kd, .int .i64 wh, .bool rw, .int .i64 ti, .int .i64 tg, .int .i64 ea, .int .i64 er, .bool eh, .bool ep])
  have NB := Lib.hid (h.lt.not (g := w.heap.size) h.lt.le)
  have NR := Lib.hid (show w.heap.size ≠ r by have := h.rl; omega)
  have HGN := Lib.hid hgn
  clear TK hL1 h hgn
  go_enter Tryd.func12, Tryd.ntmps12
  go_wp2_with fail
  refine HTK.out.mono ?_
  rintro e w3 ⟨⟨xi, xg⟩, rfl, _, hb3⟩
  have hL3 := (HL1.out.later hT hb3).alloc hT (.cells #[.int .i64 xi, .int .i64 xg] 33)
  have x3 := (HX1.out.below hb3 HX1.out.lt).alloc (.cells #[.int .i64 xi, .int .i64 xg] 33)
  have y3 := Whole.fresh w3 33 #[.int .i64 xi, .int .i64 xg]
  have NX := Lib.hid ((HL1.out.later hT hb3).lt)
  have NXR := Lib.hid (show w3.heap.size ≠ r by have := (HL1.out.later hT hb3).rl; omega)
  have FR := rfresh_any hL3.rf hN xi xg
  obtain ⟨FB, hFB⟩ : ∃ FB, freshB S N xi xg = FB := ⟨_, rfl⟩
  rw [hFB] at FR
  have HFR := Lib.hid FR
  obtain ⟨b0, b1⟩ := y3.two
  have HL3 := Lib.hid hL3
  have HX3 := Lib.hid x3
  have HY3 := Lib.hid y3
  have HFB := Lib.hid hFB
  clear hb3 HTK HL1 HX1 x3 y3 hL3 FR hFB
  go_wp2_with fail
  refine HFR.out.mono ?_
  rintro e w4 ⟨rfl, hb4⟩
  have hL4 := HL3.out.later hT hb4
  have x4 := HX3.out.below hb4 HX3.out.lt
  have y4 := HY3.out.below hb4 HY3.out.lt
  have HL4 := Lib.hid hL4
  have HX4 := Lib.hid x4
  have HY4 := Lib.hid y4
  obtain ⟨b0, b1⟩ := y4.two
  have a0 : w4.cell? ⟨w.heap.size, 0, none⟩ = some (.int .i64 kd) := x4.cell 0
  have a5 : w4.cell? ⟨w.heap.size, 5, none⟩ = some (.int .i64 ea) := x4.cell 5
  have a6 : w4.cell? ⟨w.heap.size, 6, none⟩ = some (.int .i64 er) := x4.cell 6
  have a7 : w4.cell? ⟨w.heap.size, 7, none⟩ = some (.bool eh) := x4.cell 7
  have a8 : w4.cell? ⟨w.heap.size, 8, none⟩ = some (.bool ep) := x4.cell 8
  clear hb4 HFR HL3 HX3 HY3 x4 y4 hL4
  by_cases k0 : kd = 0
  · subst k0
    obtain ⟨yi, hyi⟩ : ∃ yi : Nat, addI S N = yi := ⟨_, rfl⟩
    obtain ⟨yg, hyg⟩ : ∃ yg : Nat, addG S N = yg := ⟨_, rfl⟩
    obtain ⟨E, hE⟩ : ∃ E : Int, addE S N = E := ⟨_, rfl⟩
    obtain ⟨S1, hS1⟩ : ∃ S1, S1 = addSt S N ⟨ea, er, eh, ep⟩ := ⟨_, rfl⟩
    have hE2 : E = 0 ∨ E = 12 := by rw [← hE]; unfold addE; split <;> simp
    have A1 := add_at HL4.out.lt.ht.st HL4.out.lt.ht.tab ⟨ea, er, eh, ep⟩ ⟨hyi, hyg, hE⟩
    rw [← hS1] at A1
    have HA1 := Lib.hid A1
    have RA : ∀ W, RfAt W r N S → r < W.heap.size → Calls Tryd.prog 27 #[.slice (some ⟨r, 0, none⟩) N N, .agg #[.int .i64 ea, .int .i64 er, .bool eh, .bool ep]] W fun e w' => e = .returned (.tuple #[.agg #[.int .i64 (yi : Nat), .int .i64 (yg : Nat)], .int .i64 E]) ∧ Aft [r] W w' ∧ RfAt w' r N S1 := fun W h1 h2 => by
      have := radd_all h1 h2 hN HGN.out ⟨ea, er, eh, ep⟩
      unfold RAddPost at this
      rw [hyi, hyg, hE, ← hS1] at this
      exact this
    have HRA := Lib.hid RA
    have HE2 := Lib.hid hE2
    clear A1 RA hyi hyg hE hS1 hE2
    cases FB
    all_goals
      go_wp2_with fail
      refine HA1.out.mono ?_
      rintro e w5 ⟨rfl, ho5, hs5⟩
      have hL5' := HL4.out.step hT ho5 hs5
      have hL5 := hL5'.alloc hT (.cells #[.int .i64 (yi : Nat), .int .i64 (yg : Nat)] 33)
      have x5 := (ho5.whole HX4.out NB.out).alloc (.cells #[.int .i64 (yi : Nat), .int .i64 (yg : Nat)] 33)
      have a5 : World.cell? _ ⟨w.heap.size, 5, none⟩ = some (.int .i64 ea) := x5.cell 5
      have a6 : World.cell? _ ⟨w.heap.size, 6, none⟩ = some (.int .i64 er) := x5.cell 6
      have a7 : World.cell? _ ⟨w.heap.size, 7, none⟩ = some (.bool eh) := x5.cell 7
      have a8 : World.cell? _ ⟨w.heap.size, 8, none⟩ = some (.bool ep) := x5.cell 8
      have HR5 := Lib.hid (HRA.out _ hL5.rf hL5.rl)
      have HY5 := Lib.hid (Whole.fresh w5 33 #[.int .i64 (yi : Nat), .int .i64 (yg : Nat)])
      have NY5 := Lib.hid (show w5.heap.size ∉ [r] by simp; have := hL5'.rl; omega)
      have NV5 := Lib.hid (own_other hL5'.lt.tr (Nat.le_refl _))
      have HL5 := Lib.hid hL5
      clear ho5 hs5 hL5 hL5' x5 HA1 HRA HX4 HY4 a0
      go_wp2_with fail
      refine HR5.out.mono ?_
      rintro e w6 ⟨rfl, ho6, hs6⟩
      have hL6 := (HL5.out.rstep hT ho6 hs6).alloc hT (.cells #[.int .i64 (yi : Nat), .int .i64 (yg : Nat)] 33)
      have NV6 := Lib.hid (own_other (HL5.out.rstep hT ho6 hs6).lt.tr (Nat.le_refl _))
      have HL6 := Lib.hid hL6
      have HL7 := Lib.hid (hL6.alloc hT (.cells #[.int .i64 (yi : Nat), .int .i64 (yg : Nat)] 33))
      obtain ⟨y0, y1⟩ := ((ho6.whole HY5.out NY5.out).alloc (.cells #[.int .i64 (yi : Nat), .int .i64 (yg : Nat)] 33)).two
      have y6 := (ho6.whole HY5.out NY5.out).alloc (.cells #[.int .i64 (yi : Nat), .int .i64 (yg : Nat)] 33)
      have HY6 := Lib.hid y6
      have HZ6 := Lib.hid (Whole.fresh w6 33 #[.int .i64 (yi : Nat), .int .i64 (yg : Nat)])
      obtain ⟨z0, z1⟩ := HZ6.out.two
      clear ho6 hs6 HR5 HL5 hL6 a5 a6 a7 a8 y6
      rcases HE2.out with hE0 | hE0
      · subst hE0
        go_wp2_with (first
          | (at_builtin; refine append_tok _ rfl _ _ rfl _ _ l rfl HL7.out.lt.tr _ _ _ _ rfl (Whole.fresh' (by simp)) (by omega) HL7.out.lt.le ?_; intro v' w8 hr8 hg8; have HL8 := Lib.hid (HL6.out.grown hT hr8 hg8); obtain ⟨u0, u1⟩ := (HY6.out.kept hg8 NV5.out).two; obtain ⟨t0, t1⟩ := (HZ6.out.kept hg8 NV6.out).two; clear hr8 hg8))
        go_ret2
        exact ⟨_, _, S1, rfl, HL8.out, by simp⟩
      · subst hE0
        go_wp2
        go_ret2
        exact ⟨_, l, S1, rfl, HL6.out, by omega⟩
  · have d0 : (kd == 0) = false := by simpa using k0
    by_cases k1 : kd = 1
    · subst k1
      obtain ⟨⟨za, zr, zh, zp⟩, hz⟩ : ∃ z, getE S N xi xg = z := ⟨_, rfl⟩
      cases FB
      · have hz0 : getE S N xi xg = ⟨0, 0, false, false⟩ := by unfold getE; rw [HFB.out]; rfl
        rw [hz0] at hz
        injection hz with e1 e2 e3 e4
        subst e1 e2 e3 e4
        have CG := Lib.hid (get_at (E := 8) HL4.out.lt.ht.st hz0 (by rw [HFB.out]; rfl))
        clear hz0
        go_wp2_with fail
        refine CG.out.mono ?_
        rintro e w5 ⟨rfl, hb5⟩
        have HL5 := Lib.hid ((HL4.out.later hT hb5).alloc hT (.cells #[.int .i64 0, .int .i64 0, .bool false, .bool false] 35))
        obtain ⟨s0, s1, s2, s3⟩ := (Whole.fresh w5 35 #[.int .i64 0, .int .i64 0, .bool false, .bool false]).four
        obtain ⟨b0, b1⟩ := ((HY4.out.below hb5 HY4.out.lt).alloc (.cells #[.int .i64 0, .int .i64 0, .bool false, .bool false] 35)).two
        clear CG hb5 a0 a5 a6 a7 a8
        go_wp2_with fail
        go_quiet (fail)
        go_wp2
        go_ret2
        exact ⟨_, l, S, rfl, HL5.out.drewN _, by omega⟩
      · obtain ⟨k, hk, hkN, hu, hg⟩ := freshB_iff.1 HFB.out
        subst hk
        have hz1 : (S k).e = ⟨za, zr, zh, zp⟩ := by
          rw [← hz]
          unfold getE
          rw [HFB.out, if_pos rfl, Int.toNat_natCast]
        have CG := Lib.hid (get_at (E := 0) HL4.out.lt.ht.st hz (by rw [HFB.out]; rfl))
        have HZ1 := Lib.hid hz1
        have d9 : (k : Int) < (N : Int) := by omega
        clear hz hz1 hu hg
        go_wp2_with fail
        refine CG.out.mono ?_
        rintro e w5 ⟨rfl, hb5⟩
        have hL5 := (HL4.out.later hT hb5).alloc hT (.cells #[.int .i64 za, .int .i64 zr, .bool zh, .bool zp] 35)
        have HL5 := Lib.hid hL5
        obtain ⟨s0, s1, s2, s3⟩ := (Whole.fresh w5 35 #[.int .i64 za, .int .i64 zr, .bool zh, .bool zp]).four
        obtain ⟨b0, b1⟩ := ((HY4.out.below hb5 HY4.out.lt).alloc (.cells #[.int .i64 za, .int .i64 zr, .bool zh, .bool zp] 35)).two
        obtain ⟨r0, r1, r2, r3, r4, r5⟩ := hL5.rf.slot k hkN
        rw [HZ1.out] at r2 r3 r4 r5
        dsimp only at r2 r3 r4 r5
        clear CG hb5 a0 a5 a6 a7 a8 hL5 r0 r1
        go_wp2_with fail
        go_quiet (fail)
        go_wp2
        go_ret2
        exact ⟨_, l, S, rfl, HL5.out.drewN _, by omega⟩
    · have d1 : (kd == 1) = false := by simpa using k1
      by_cases k2 : kd = 2
      · subst k2
        have A1 : Calls Tryd.prog 18 #[.pointer (some ⟨B.t, 0, none⟩), .agg #[.int .i64 xi, .int .i64 xg], .agg #[.int .i64 ea, .int .i64 er, .bool eh, .bool ep]] w4 (TbPost w4 B N (staleE (freshB S N xi xg)) (setSt S N xi xg ⟨ea, er, eh, ep⟩)) := set_all HL4.out.lt.ht.st xi xg ⟨ea, er, eh, ep⟩
        rw [HFB.out] at A1
        cases FB
        · have A2 : Calls Tryd.prog 18 #[.pointer (some ⟨B.t, 0, none⟩), .agg #[.int .i64 xi, .int .i64 xg], .agg #[.int .i64 ea, .int .i64 er, .bool eh, .bool ep]] w4 (TbPost w4 B N 8 S) := by
            rw [stale_set HFB.out] at A1
            exact A1
          have HA2 := Lib.hid A2
          clear A1 A2
          go_wp2_with fail
          refine HA2.out.mono ?_
          rintro e w5 ⟨rfl, ho5, hs5⟩
          have HL5 := Lib.hid (HL4.out.step hT ho5 hs5)
          clear ho5 hs5 HA2
          go_wp2
          go_ret2
          exact ⟨_, l, S, rfl, HL5.out, by omega⟩
        · obtain ⟨k, hk, hkN, hu, hg⟩ := freshB_iff.1 HFB.out
          subst hk
          have A2 : Calls Tryd.prog 18 #[.pointer (some ⟨B.t, 0, none⟩), .agg #[.int .i64 k, .int .i64 xg], .agg #[.int .i64 ea, .int .i64 er, .bool eh, .bool ep]] w4 (TbPost w4 B N 0 (setS S k ⟨ea, er, eh, ep⟩)) := by
            unfold setSt at A1
            rw [if_pos HFB.out, Int.toNat_natCast] at A1
            exact A1
          have HA2 := Lib.hid A2
          have d9 : (k : Int) < (N : Int) := by omega
          clear A1 A2 hu hg
          go_wp2_with fail
          refine HA2.out.mono ?_
          rintro e w5 ⟨rfl, ho5, hs5⟩
          have hL5 := HL4.out.step hT ho5 hs5
          have x5 := ho5.whole HX4.out NB.out
          obtain ⟨b0, b1⟩ := (ho5.whole HY4.out (NX.out.not NX.out.le)).two
          have a5 : w5.cell? ⟨w.heap.size, 5, none⟩ = some (.int .i64 ea) := x5.cell 5
          have a6 : w5.cell? ⟨w.heap.size, 6, none⟩ = some (.int .i64 er) := x5.cell 6
          have a7 : w5.cell? ⟨w.heap.size, 7, none⟩ = some (.bool eh) := x5.cell 7
          have a8 : w5.cell? ⟨w.heap.size, 8, none⟩ = some (.bool ep) := x5.cell 8
          obtain ⟨r0, r1, r2, r3, r4, r5⟩ := hL5.rf.slot k hkN
          have q2 := hL5.rf.thaw (k * 6 + 2) (by omega)
          have q3 := hL5.rf.thaw (k * 6 + 3) (by omega)
          have q4 := hL5.rf.thaw (k * 6 + 4) (by omega)
          have q5 := hL5.rf.thaw (k * 6 + 5) (by omega)
          have hA6 : Aft [r] w5 (set4 w5 r (k * 6 + 2) (.int .i64 ea) (.int .i64 er) (.bool eh) (.bool ep)) := Aft.of_at (set4_only w5 r (k * 6 + 2) (.int .i64 ea) (.int .i64 er) (.bool eh) (.bool ep)) (by simp)
          have HL6 := Lib.hid (hL5.rstep hT hA6 (hL5.rf.entry k hkN ⟨ea, er, eh, ep⟩))
          clear ho5 hs5 HA2 hL5 x5 hA6
          go_wp2
          go_ret2
          exact ⟨_, l, _, rfl, HL6.out, by omega⟩
      · have d2 : (kd == 2) = false := by simpa using k2
        by_cases k3 : kd = 3
        · subst k3
          have A1 := drop_all HL4.out.lt.ht.st xi xg
          rw [HFB.out] at A1
          cases FB
          · have A2 : Calls Tryd.prog 19 #[.pointer (some ⟨B.t, 0, none⟩), .agg #[.int .i64 xi, .int .i64 xg]] w4 (TbPost w4 B N 8 S) := by
              rw [stale_drop HFB.out] at A1
              exact A1
            have HA2 := Lib.hid A2
            clear A1 A2
            go_wp2_with fail
            refine HA2.out.mono ?_
            rintro e w5 ⟨rfl, ho5, hs5⟩
            have HL5 := Lib.hid (HL4.out.step hT ho5 hs5)
            clear ho5 hs5 HA2
            go_wp2
            go_ret2
            exact ⟨_, l, S, rfl, HL5.out, by omega⟩
          · obtain ⟨k, hk, hkN, hu, hg⟩ := freshB_iff.1 HFB.out
            subst hk
            have A2 : Calls Tryd.prog 19 #[.pointer (some ⟨B.t, 0, none⟩), .agg #[.int .i64 k, .int .i64 xg]] w4 (TbPost w4 B N 0 (dropS S k)) := by
              unfold dropSt at A1
              rw [if_pos HFB.out, Int.toNat_natCast] at A1
              exact A1
            have HA2 := Lib.hid A2
            have d9 : (k : Int) < (N : Int) := by omega
            clear A1 A2 hu hg
            go_wp2_with fail
            refine HA2.out.mono ?_
            rintro e w5 ⟨rfl, ho5, hs5⟩
            have hL5 := HL4.out.step hT ho5 hs5
            obtain ⟨b0, b1⟩ := (ho5.whole HY4.out (NX.out.not NX.out.le)).two
            have RD := Lib.hid (rdrop_any hL5.rf hL5.rl k hkN (by have := HGN.out k; omega) xg)
            have HL5 := Lib.hid hL5
            clear ho5 hs5 HA2 hL5
            go_wp2_with fail
            refine RD.out.mono ?_
            rintro e w6 ⟨⟨u, rfl⟩, ho6, hs6⟩
            have HL6 := Lib.hid (HL5.out.rstep hT ho6 hs6)
            clear ho6 hs6 RD HL5
            go_wp2
            go_ret2
            exact ⟨_, l, _, rfl, HL6.out, by omega⟩
        · have d3 : (kd == 3) = false := by simpa using k3
          cases FB
          all_goals
            go_wp2
            go_ret2
            exact ⟨_, l, S, rfl, HL4.out, by omega⟩
end Go.Proofs.YtldlolgdglmocaaDoor
