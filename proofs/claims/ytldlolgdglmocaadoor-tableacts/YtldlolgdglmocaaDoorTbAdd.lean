/- Contract of Add of package table. -/
import Derived.Test.YtldlolgdglmocaaDoorTbWrite
namespace Go.Proofs.YtldlolgdglmocaaDoor
open Go.RowKit

/-- The first free slot; N, if there is none. -/
def freeAt (S : Nat → Sl) (N : Nat) : Nat := BM.nx (isTaken S) N false 0
theorem freeAt_is {S : Nat → Sl} {N : Nat} (h : freeAt S N < N) : (S (freeAt S N)).used = false ∧ (S (freeAt S N)).gen ≠ 256 := by
  have := (BM.nx_is (isTaken S) N false 0 h).2
  change isTaken S (freeAt S N) = false at this
  unfold isTaken at this
  simpa using this
def addE (S : Nat → Sl) (N : Nat) : Int := if freeAt S N < N then 0 else 12
def addI (S : Nat → Sl) (N : Nat) : Nat := if freeAt S N < N then freeAt S N else 0
def addG (S : Nat → Sl) (N : Nat) : Nat := if freeAt S N < N then (S (freeAt S N)).gen else 0
def addSt (S : Nat → Sl) (N : Nat) (e : En) : Nat → Sl := if freeAt S N < N then addS S (freeAt S N) e else S
/-- What Add leaves. -/
def AddPost (w : World) (B : TB) (N : Nat) (S : Nat → Sl) (x : En) (e : Ending) (w' : World) : Prop :=
  e = .returned (.tuple #[.agg #[.int .i64 (addI S N : Nat), .int .i64 (addG S N : Nat)], .int .i64 (addE S N)]) ∧ Aft B.wr w w' ∧ TbAt w' B N (addSt S N x)

theorem Aft.later {S : List Nat} {w a b : World} (h : Aft S w a) (hb : Below w.heap.size a b) : Aft S w b :=
  ⟨hb.os.trans h.os, hb.tape.trans h.tape, hb.output.trans h.output, Nat.le_trans h.size hb.size, fun k hk hs => (hb.block k hk).trans (h.block k hk hs)⟩
section
variable {w w' : World} {B : TB} {N : Nat} {S : Nat → Sl}
theorem TbAt.added (h : TbAt w B N S) (k : Nat) (hk : k < N) (hg : (S k).gen ≠ 256) (x : En) (ws vs : Nat → Nat) (hq : BM.on ws = isUsed S) (hq2 : BM.on vs = isTaken S) {w1 w2 : World} (h2 : Turned w B.kb B.kc N vs k (k + 1) true w1) (h1 : Turned w1 B.ub B.uc N ws k (k + 1) true w2) :
    Aft B.wr w (set4 w2 B.s (k * 5 + 1) (.int .i64 x.a) (.int .i64 x.r) (.bool x.h) (.bool x.p)) ∧ TbAt (set4 w2 B.s (k * 5 + 1) (.int .i64 x.a) (.int .i64 x.r) (.bool x.h) (.bool x.p)) B N (addS S k x) := by
  obtain ⟨⟨n1, n2, n3⟩, ⟨n4, n5, n6, n7⟩, n8, n9, n10⟩ := h.ne
  obtain ⟨o1, ws', m1, q1⟩ := h1
  obtain ⟨o2, vs', m2, q2⟩ := h2
  have o3 := set4_only w2 B.s (k * 5 + 1) (.int .i64 x.a) (.int .i64 x.r) (.bool x.h) (.bool x.p)
  have hf := ((h.half.only o2 n3 n7).only o1 n2 n5).entry n1 k hk x true
  have g := h.gen k
  refine ⟨((Aft.of_at o2 (by simp [TB.wr])).trans (Aft.of_at o1 (by simp [TB.wr]))).trans (Aft.of_at o3 (by simp [TB.wr])), h.anew k hk _ hf ⟨ws', m1.only o3 (Ne.symm n4) (Ne.symm n5), isUsed_upd S k _ fun q => ?_⟩ ⟨vs', (m2.only o1 (Ne.symm n8) (Ne.symm n9)).only o3 (Ne.symm n6) (Ne.symm n7), isTaken_upd S k _ fun q => ?_⟩ (show 1 ≤ (S k).gen ∧ (S k).gen ≤ 256 by omega) (fun _ => show (S k).gen ≤ 255 by omega)⟩
  · rw [q1 q, hq]
  · rw [q2 q, hq2]
    rfl

set_option maxRecDepth 100000 in
set_option maxHeartbeats 2000000 in
theorem add_all (h : TbAt w B N S) (hT : Tab w) (x : En) : Calls Tryd.prog 15 #[.pointer (some ⟨B.t, 0, none⟩), x.v] w (AddPost w B N S x) := by
  obtain ⟨ea, er, eh, ep⟩ := x
  unfold En.v
  dsimp only
  have hb0 := ((Below.refl w.heap.size w).alloc (Nat.le_refl _) (.cells #[.int .i64 ea, .int .i64 er, .bool eh, .bool ep] 35)).alloc (by simp) (.cells #[.int .i64 0, .int .i64 0] 33)
  have k1 := h.on hb0
  have T1 := hT.below hb0 hT.pos
  obtain ⟨vs, hv, hq2⟩ := k1.kmap
  obtain ⟨ws, hm, hq⟩ := k1.umap
  have F1 := first_any B.kb B.kc N 0 vs _ hv T1
  rw [hq2] at F1
  unfold firstVal at F1
  change Calls _ _ _ _ fun e w' => e = .returned (if freeAt S N < N then .tuple #[.int .i64 (freeAt S N : Nat), .bool true] else .tuple #[.int .i64 0, .bool false]) ∧ _ = w' at F1
  have W1 := Whole.fresh (w.alloc (.cells #[.int .i64 ea, .int .i64 er, .bool eh, .bool ep] 35)) 33 #[.int .i64 0, .int .i64 0]
  rw [World.size_alloc] at W1
  have W0 := (Whole.fresh w 35 #[.int .i64 ea, .int .i64 er, .bool eh, .bool ep]).alloc (.cells #[.int .i64 0, .int .i64 0] 33)
  have m0 := k1.taken
  have m1 := k1.used
  have HB := Lib.hid hb0
  unfold AddPost addI addG addE addSt
  by_cases hlt : freeAt S N < N
  · rw [if_pos hlt, if_pos hlt, if_pos hlt, if_pos hlt]
    rw [if_pos hlt] at F1
    obtain ⟨hu, hg⟩ := freeAt_is hlt
    generalize freeAt S N = k at *
    have F1' := Lib.hid F1
    obtain ⟨⟨n1, n2, n3⟩, ⟨n4, n5, n6, n7⟩, n8, n9, n10⟩ := k1.ne
    obtain ⟨b1, b2, b3, b4, b5, b6⟩ := h.lt
    have LT := Lib.hid h.lt
    have hN := h.N2
    have S1 := Lib.hid (set_ok B.kb B.kc N k vs true _ hv hlt)
    have S2 := Lib.hid (fun W (hW : MapAt W B.ub B.uc N ws) => set_ok B.ub B.uc N k ws true W hW hlt)
    have FIN := Lib.hid (fun w1 w2 => k1.added (w1 := w1) (w2 := w2) k hlt hg ⟨ea, er, eh, ep⟩ ws vs hq hq2)
    have HM := Lib.hid hm
    have HH := Lib.hid k1.half
    have HW0 := Lib.hid W0
    have HW1 := Lib.hid W1
    have NE := Lib.hid (show B.t ≠ B.uc ∧ B.t ≠ B.kc ∧ B.s ≠ B.uc ∧ B.s ≠ B.kc ∧ B.ub ≠ B.kc ∧ B.uc ≠ B.kc ∧ B.t ≠ B.s from ⟨n2, n3, n5, n7, Ne.symm n10, n9, n1⟩)
    have HUB := Lib.hid (show (w.heap.size ≠ B.uc ∧ w.heap.size ≠ B.kc ∧ w.heap.size ≠ B.s) ∧ (w.heap.size + 1 ≠ B.uc ∧ w.heap.size + 1 ≠ B.kc ∧ w.heap.size + 1 ≠ B.s) by omega)
    have HG := Lib.hid hg
    have TG := Lib.hid (show tg (S k).gen = (S k).gen by unfold tg; rw [if_neg hg])
    clear F1 hu hg hv hm hq hq2 W0 W1 k1 T1 hb0 h n1 n2 n3 n4 n5 n6 n7 n8 n9 n10 b1 b2 b3 b4 b5 b6
    go_enter Tryd.func15, Tryd.ntmps15
    go_wp2_with fail
    refine F1'.out.mono ?_
    rintro e w' ⟨rfl, rfl⟩
    go_wp2_with fail
    refine S1.out.mono ?_
    rintro e w1 ⟨rfl, ht1⟩
    have h1 := HH.out.only ht1.1 NE.out.2.1 NE.out.2.2.2.1
    have r1 := h1.used
    have mm1 := HM.out.only ht1.1 NE.out.2.2.2.2.1 NE.out.2.2.2.2.2.1
    have SS2 := Lib.hid (S2.out _ mm1)
    have H1 := Lib.hid h1
    have HT1 := Lib.hid ht1
    clear h1 mm1 ht1 S2
    go_wp2_with fail
    refine SS2.out.mono ?_
    rintro e w2 ⟨rfl, ht2⟩
    have h2 := H1.out.only ht2.1 NE.out.1 NE.out.2.2.1
    have r0 := h2.row
    obtain ⟨p0, p1, p2, p3, p4⟩ := h2.slot k hlt
    have q1 := h2.thaw (k * 5 + 1) (by omega)
    have q2 := h2.thaw (k * 5 + 2) (by omega)
    have q3 := h2.thaw (k * 5 + 3) (by omega)
    have q4 := h2.thaw (k * 5 + 4) (by omega)
    have y0 : Whole w2 w.heap.size _ _ := (ht2.1.block _ HUB.out.1.1).trans ((HT1.out.1.block _ HUB.out.1.2.1).trans HW0.out)
    have y1 : Whole w2 (w.heap.size + 1) _ _ := (ht2.1.block _ HUB.out.2.1).trans ((HT1.out.1.block _ HUB.out.2.2.1).trans HW1.out)
    obtain ⟨u0, u1, u2, u3⟩ := y0.four
    have HY1 := Lib.hid y1
    have FF := Lib.hid (FIN.out _ _ HT1.out ht2)
    clear h2 y0 y1 ht2 SS2 FIN
    go_wp2_with fail
    go_region
    have KK := FF.out.2.heap (w' := (set4 w2 B.s (k * 5 + 1) (.int .i64 ea) (.int .i64 er) (.bool eh) (.bool ep)).drew) rfl
    have TT := token_any KK k hlt
    rw [show genAt (addS S k ⟨ea, er, eh, ep⟩) k = (S k).gen by unfold genAt addS; rw [upd_same]; exact TG.out] at TT
    have HTT := Lib.hid TT
    have HY2 := Lib.hid (show Whole (set4 w2 B.s (k * 5 + 1) (.int .i64 ea) (.int .i64 er) (.bool eh) (.bool ep)).drew (w.heap.size + 1) 33 #[.int .i64 0, .int .i64 0] from ((set4_only w2 B.s (k * 5 + 1) (.int .i64 ea) (.int .i64 er) (.bool eh) (.bool ep)).block _ HUB.out.2.2.2).trans HY1.out)
    have HKK := Lib.hid KK
    clear TT KK p0 p1 p2 p3 p4 q1 q2 q3 q4 u0 u1 u2 u3 r0
    go_wp2_with fail
    refine HTT.out.mono ?_
    rintro e w4 ⟨rfl, hb4⟩
    have y4 := HY2.out.below hb4 HY2.out.lt
    obtain ⟨c0, c1⟩ := y4.two
    have f0 := y4.free 0
    have f1 := y4.free 1
    have k4 := HKK.out.on hb4
    have HK4 := Lib.hid k4
    have HB4 := Lib.hid hb4
    clear y4 k4 hb4
    go_wp2
    refine bodyPost_ret (v := .tuple #[.agg #[.int .i64 k, .int .i64 ((S k).gen : Nat)], .int .i64 0]) (by simp [results, Tryd.results15, go_sem, c0, c1]) rfl ⟨rfl, ?_, ?_⟩
    · exact (((Aft.of_below HB.out).trans FF.out.1).drew.trans (Aft.of_below HB4.out)).later (Below.set2 (Below.refl _ _) (by omega) _ _ _ _)
    · exact HK4.out.below (Below.set2 (Below.refl w.heap.size _) (by omega) _ _ _ _) LT.out
  · rw [if_neg hlt, if_neg hlt, if_neg hlt, if_neg hlt]
    rw [if_neg hlt] at F1
    have F1' := Lib.hid F1
    have HH := Lib.hid k1
    obtain ⟨c0, c1⟩ := W1.two
    have f0 := W1.free 0
    have f1 := W1.free 1
    clear F1 hv hm hq hq2 W0 W1 k1 T1 hb0 h hlt
    go_enter Tryd.func15, Tryd.ntmps15
    go_wp2_with fail
    refine F1'.out.mono ?_
    rintro e w' ⟨rfl, rfl⟩
    go_wp2
    refine bodyPost_ret (v := .tuple #[.agg #[.int .i64 0, .int .i64 0], .int .i64 12]) (by simp [results, Tryd.results15, go_sem]) rfl ⟨rfl, Aft.of_below HB.out, HH.out⟩
end
end Go.Proofs.YtldlolgdglmocaaDoor
