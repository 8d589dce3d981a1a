/- Contract of New of package store, with its box; made with it. -/
import Derived.Test.YteencfldehcbbaaDoorBpAlive
namespace Go.Proofs.YteencfldehcbbaaDoor
open Go.RowKit Go.Sort BP
set_option linter.unusedVariables false

/-- What New leaves. -/
def SNewPostW (C K : Nat) (w : World) (e : Ending) (w' : World) : Prop :=
  ∃ B : SB, e = .returned (.tuple #[.pointer (some ⟨B.s, 0, none⟩), .int .i64 0]) ∧ (∃ cs, Whole w' B.s 84 cs) ∧ StAt w' B C K (fun _ => 0) (fun _ => 0) ∧ Below w.heap.size w w' ∧ B.within w.heap.size w'.heap.size
theorem snewW_done {C K M : Nat} (eM : M = C * K) {w w1 w2 : World} {B : SB} {ws : Nat → Nat} {t1 t2 : TypeId} (C1 : 1 ≤ C) (C2 : C ≤ 1024) (K1 : 1 ≤ K) (K2 : K ≤ 1024) (hm : MapAt w1 B.b B.c C ws) (hz : ∀ k, BM.on ws k = false) (b1 : Below w.heap.size w w1) (b2 : Below w1.heap.size w1 w2)
    (hb : w.heap.size ≤ B.b ∧ B.b < w1.heap.size) (hc : w.heap.size ≤ B.c ∧ B.c < w1.heap.size) (h1 : Whole w2 B.v t1 (madeCells #[.int .u64 0] M)) (h2 : Whole w2 B.o t2 (madeCells #[.int .i64 0] C)) (h3 : Whole w2 B.s 84 #[.int .i64 K,   .slice (some ⟨B.v, 0, none⟩) M M, .slice (some ⟨B.o, 0, none⟩) C C, .pointer (some ⟨B.b, 0, none⟩)])
    (g1 : w1.heap.size ≤ B.v) (g2 : w1.heap.size ≤ B.o) (g3 : w1.heap.size ≤ B.s) (n1 : B.v ≠ B.o) (n2 : B.s ≠ B.v) (n3 : B.s ≠ B.o) :
    SNewPostW C K w (.returned (.tuple #[.pointer (some ⟨B.s, 0, none⟩), .int .i64 0])) w2 := by
  subst eM
  have s1 := b1.size
  have s2 := b2.size
  have l1 := h1.lt
  have l2 := h2.lt
  have l3 := h3.lt
  refine ⟨B, rfl, ⟨_, h3⟩, ⟨C1, C2, K1, K2, (h3.cell 0).trans rfl, (h3.cell 1).trans rfl, (h3.cell 2).trans rfl, (h3.cell 3).trans rfl, (Row.fresh h1 (Nat.le_refl _)).cell, (Row.fresh h1 (Nat.le_refl _)).thaw, (Row.fresh h2 (Nat.le_refl _)).cell, (Row.fresh h2 (Nat.le_refl _)).thaw,
    ⟨ws, hm.below b2 hb.2 hc.2, by funext k; rw [hz k]; simp [busy]⟩, ⟨⟨n2, n3, by omega, by omega⟩, ⟨n1, by omega, by omega⟩, by omega, by omega⟩, fun _ => by omega, fun _ => by omega, fun _ _ => rfl⟩, b1.trans (b2.mono s1), ?_⟩
  refine ⟨⟨?_, ?_⟩, ⟨?_, ?_⟩, ⟨?_, ?_⟩, ⟨?_, ?_⟩, ?_, ?_⟩ <;> omega
set_option maxHeartbeats 1000000 in
theorem snewW_ok (C K : Nat) (w : World) (C1 : 1 ≤ C) (C2 : C ≤ 1024) (K1 : 1 ≤ K) (K2 : K ≤ 1024) :
    Calls Tryd.prog 33 #[.int .i64 C, .int .i64 K] w (SNewPostW C K w) := by
  have hM : C * K ≤ 1048576 := by have := Nat.mul_le_mul C2 K2; omega
  have hP : (C : Int) * (K : Int) = ((C * K : Nat) : Int) := by simp
  obtain ⟨M, eM⟩ : ∃ M, M = C * K := ⟨_, rfl⟩
  rw [← eM] at hM hP
  have EM := Lib.hid eM
  clear eM
  have hmk := fun W => run_make_row' (P := Tryd.prog) 43 57 (.int .u64 0) 8 Tryd.underlying43 (by kernel_rfl) rfl .i64 .i64 M (by omega) (by omega) W
  have hmi := fun W => run_make_row' (P := Tryd.prog) 39 3 (.int .i64 0) 8 Tryd.underlying39 (by kernel_rfl) rfl .i64 .i64 C (by omega) (by omega) W
  go_enter Tryd.func33, Tryd.ntmps33
  go_wp2_with fail
  refine (new_ok C _ C1 (by omega)).mono ?_
  rintro e w1 ⟨rfl, hm1, hb1, hs1⟩
  obtain ⟨b, hb⟩ : ∃ b, b = w.heap.size + 1 := ⟨_, rfl⟩
  obtain ⟨c, hc⟩ : ∃ c, c = w.heap.size := ⟨_, rfl⟩
  rw [← hb] at hm1 ⊢
  rw [← hc] at hm1
  have q1 : w.heap.size ≤ b := by omega
  have q2 : w.heap.size ≤ c := by omega
  have q4 : b < w1.heap.size := by omega
  have q5 : c < w1.heap.size := by omega
  clear hb hc hs1
  go_wp2_with fail
  go_region
  · go_wp2
    go_ret2
    have W1 := ((Whole.fresh w1 57 (madeCells #[.int .u64 0] M)).alloc (.cells (madeCells #[.int .i64 0] C) 3)).alloc (.cells #[.int .i64 K, .slice (some ⟨w1.heap.size, 0, none⟩) M M, .slice (some ⟨w1.heap.size + 1, 0, none⟩) C C, .pointer (some ⟨b, 0, none⟩)] 84)
    have W2 := (Whole.fresh (w1.alloc (.cells (madeCells #[.int .u64 0] M) 57)) 3 (madeCells #[.int .i64 0] C)).alloc (.cells #[.int .i64 K, .slice (some ⟨w1.heap.size, 0, none⟩) M M, .slice (some ⟨w1.heap.size + 1, 0, none⟩) C C, .pointer (some ⟨b, 0, none⟩)] 84)
    have W3 := Whole.fresh ((w1.alloc (.cells (madeCells #[.int .u64 0] M) 57)).alloc (.cells (madeCells #[.int .i64 0] C) 3)) 84 #[.int .i64 K, .slice (some ⟨w1.heap.size, 0, none⟩) M M, .slice (some ⟨w1.heap.size + 1, 0, none⟩) C C, .pointer (some ⟨b, 0, none⟩)]
    rw [World.size_alloc] at W2
    rw [World.size_alloc, World.size_alloc] at W3
    exact snewW_done (B := ⟨w1.heap.size + 1 + 1, w1.heap.size, w1.heap.size + 1, b, c⟩) EM.out C1 C2 K1 K2 hm1 (fun k => by simp [BM.on]) hb1 ((((Below.refl _ _).alloc (Nat.le_refl _) _).alloc (by simp) _).alloc (by simp; omega) _).drew ⟨q1, q4⟩ ⟨q2, q5⟩ W1.drew W2.drew W3.drew (by simp) (by simp) (by simp; omega) (by simp) (by simp; omega) (by simp)
  · go_wp2
    go_ret2
    have W1 := ((Whole.fresh w1 3 (madeCells #[.int .i64 0] C)).alloc (.cells (madeCells #[.int .u64 0] M) 57)).alloc (.cells #[.int .i64 K, .slice (some ⟨w1.heap.size + 1, 0, none⟩) M M, .slice (some ⟨w1.heap.size, 0, none⟩) C C, .pointer (some ⟨b, 0, none⟩)] 84)
    have W2 := (Whole.fresh (w1.alloc (.cells (madeCells #[.int .i64 0] C) 3)) 57 (madeCells #[.int .u64 0] M)).alloc (.cells #[.int .i64 K, .slice (some ⟨w1.heap.size + 1, 0, none⟩) M M, .slice (some ⟨w1.heap.size, 0, none⟩) C C, .pointer (some ⟨b, 0, none⟩)] 84)
    have W3 := Whole.fresh ((w1.alloc (.cells (madeCells #[.int .i64 0] C) 3)).alloc (.cells (madeCells #[.int .u64 0] M) 57)) 84 #[.int .i64 K, .slice (some ⟨w1.heap.size + 1, 0, none⟩) M M, .slice (some ⟨w1.heap.size, 0, none⟩) C C, .pointer (some ⟨b, 0, none⟩)]
    rw [World.size_alloc] at W2
    rw [World.size_alloc, World.size_alloc] at W3
    exact snewW_done (B := ⟨w1.heap.size + 1 + 1, w1.heap.size + 1, w1.heap.size, b, c⟩) EM.out C1 C2 K1 K2 hm1 (fun k => by simp [BM.on]) hb1 ((((Below.refl _ _).alloc (Nat.le_refl _) _).alloc (by simp) _).alloc (by simp; omega) _).drew ⟨q1, q4⟩ ⟨q2, q5⟩ W2.drew W1.drew W3.drew (by simp) (by simp) (by simp; omega) (by simp) (by simp) (by simp; omega)
/-- Both spaces, new on a store. -/
def BMadePostW (C K : Nat) (w : World) (e : Ending) (w' : World) : Prop :=
  ∃ (B : SB) (p p' : Nat), e = .returned (.tuple #[.pointer (some ⟨B.s, 0, none⟩), .agg #[.pointer (some ⟨p, 0, none⟩), .pointer (some ⟨p', 0, none⟩)]]) ∧ (∃ cs, Whole w' B.s 84 cs) ∧ Co w w' B C K 1 2 p p' (.slice none 0 0) (.slice none 0 0) d0
set_option maxHeartbeats 2000000 in
theorem madeW_ok (C K : Nat) (w : World) (hT : Tab w) (C1 : 1 ≤ C) (C2 : C ≤ 1024) (K1 : 1 ≤ K) (K2 : K ≤ 1024) :
    Calls Tryd.prog 11 #[.int .i64 (C : Nat), .int .i64 (K : Nat)] w (BMadePostW C K w) := by
  have hb := (Below.refl w.heap.size w).alloc (Nat.le_refl _) (.cells #[.pointer none, .pointer none] 27)
  have HN := Lib.hid (snewW_ok C K (w.alloc (.cells #[.pointer none, .pointer none] 27)) C1 C2 K1 K2)
  have HX := Lib.hid (Whole.fresh w 27 #[.pointer none, .pointer none])
  have HB := Lib.hid hb
  clear hb
  go_enter Tryd.func11, Tryd.ntmps11
  go_wp2_with fail
  refine HN.out.mono ?_
  rintro e w1 ⟨B, rfl, ⟨cs1, hcs1⟩, hs1, hb1, hw1⟩
  have HCS := Lib.hid hcs1
  have HBS := Lib.hid (hw1.mem (x := B.s) (by simp [SB.bl]))
  have HA1 := Lib.hid (bnew_ok w1 B.s 1 (by decide))
  have H1 := Lib.hid (show StAt w1 B C K (fun _ => 0) (fun _ => 0) ∧ Below w.heap.size w w1 ∧ B.within w.heap.size w1.heap.size ∧ Whole w1 w.heap.size 27 #[.pointer none, .pointer none] from ⟨hs1, HB.out.trans (hb1.mono (by simp)), (by obtain ⟨⟨a1, a2⟩, ⟨b1, b2⟩, ⟨c1, c2⟩, ⟨d1, d2⟩, e1, e2⟩ := hw1; simp at a1 b1 c1 d1 e1; refine ⟨⟨?_, a2⟩, ⟨?_, b2⟩, ⟨?_, c2⟩, ⟨?_, d2⟩, ?_, e2⟩ <;> omega), HX.out.below hb1 HX.out.lt⟩)
  have HOX := Lib.hid (show ∀ x ∈ B.bl, w.heap.size < x from fun x hx => by have := (hw1.mem hx).1; simp at this; omega)
  clear hs1 hb1 hw1 HN HB HX hcs1
  go_wp2_with fail
  refine HA1.out.mono ?_
  rintro e w2 ⟨p, rfl, hp2, hb2⟩
  have HA2 := Lib.hid (bnew_ok w2 B.s 2 (by decide))
  have H2 := Lib.hid (And.intro hp2 hb2)
  clear hp2 hb2 HA1
  go_wp2_with fail
  refine HA2.out.mono ?_
  rintro e w3 ⟨p', rfl, hp3, hb3⟩
  have hb12 := H2.out.2
  have hx3 := (H1.out.2.2.2.below hb12 H1.out.2.2.2.lt).below hb3 (Nat.lt_of_lt_of_le H1.out.2.2.2.lt hb12.size)
  have x0 := hx3.p0
  have x1 := hx3.p1
  have f0 := hx3.free 0
  have f1 := hx3.free 1
  have H3 := Lib.hid (And.intro hp3 hb3)
  have HX3 := Lib.hid hx3
  clear hp3 hb3 hb12 hx3 HA2
  go_wp2
  have hz := (HX3.out.set 0 (.pointer (some ⟨p, 0, none⟩))).set 1 (.pointer (some ⟨p', 0, none⟩))
  have z0 := (show Whole _ w.heap.size 27 #[.pointer (some ⟨p, 0, none⟩), .pointer (some ⟨p', 0, none⟩)] from hz).p0
  have z1 := (show Whole _ w.heap.size 27 #[.pointer (some ⟨p, 0, none⟩), .pointer (some ⟨p', 0, none⟩)] from hz).p1
  refine bodyPost_ret (v := .tuple #[.pointer (some ⟨B.s, 0, none⟩), .agg #[.pointer (some ⟨p, 0, none⟩), .pointer (some ⟨p', 0, none⟩)]]) (by simp [results, Tryd.results11, go_sem, z0, z1]) rfl ⟨B, p, p', rfl, ⟨cs1, ?_⟩, ?_⟩
  · have h1 := H2.out.2
    have h2 := H3.out.2
    have h0 := HCS.out.lt
    have h3 := HBS.out.1
    simp at h3
    exact (((HCS.out.below h1 h0).below h2 (Nat.lt_of_lt_of_le h0 h1.size)).far (p := ⟨w.heap.size, 0, none⟩) (by simp; omega) _).far (p := ⟨w.heap.size, 1, none⟩) (by simp; omega) _
  obtain ⟨hs1, hb1, hw1, _⟩ := H1.out
  obtain ⟨hp2, hb2⟩ := H2.out
  obtain ⟨hp3, hb3⟩ := H3.out
  have hox := HOX.out
  have ho : OnlyAt w.heap.size w3 ((w3.setCell ⟨w.heap.size, 0, none⟩ (.pointer (some ⟨p, 0, none⟩))).setCell ⟨w.heap.size, 1, none⟩ (.pointer (some ⟨p', 0, none⟩))) := ((OnlyAt.refl _ _).setCell 0 _).setCell 1 _
  have hlo := hp2.lo
  have hlt := hp2.box.lt
  have hlo3 := hp3.lo
  have hs12 := hb1.size
  have hs23 := hb2.size
  have h1lt := H1.out.2.2.2.lt
  have hin : ∀ x ∈ B.bl, x < w1.heap.size := fun x hx => (hw1.mem hx).2
  have hbw : Below w.heap.size w3 ((w3.setCell ⟨w.heap.size, 0, none⟩ (.pointer (some ⟨p, 0, none⟩))).setCell ⟨w.heap.size, 1, none⟩ (.pointer (some ⟨p', 0, none⟩))) := ⟨rfl, rfl, rfl, by rw [ho.size]; exact Nat.le_refl _, fun k hk => ho.block k (by omega)⟩
  have hba := (hb1.trans (hb2.mono hs12)).trans ((hb3.mono (Nat.le_trans hs12 hs23)).trans hbw)
  have hs3 := hb3.size
  refine ⟨⟨hs1.blocks fun k hk => ?_, hba, hw1.more (by rw [ho.size]; omega), hT.later hba⟩, ⟨?_, PR.nil _ _, by omega⟩, ⟨?_, PR.nil _ _, by omega⟩, by omega, fun g hg => by simp [Value.ownBlock] at hg, fun x hx => ⟨?_, ?_, by simp [Value.ownBlock], by simp [Value.ownBlock]⟩⟩
  · have hk' : k ∈ B.bl := by simp [SB.bl]; omega
    have := hin k hk'
    have := hox k hk'
    exact (ho.block k (by omega)).trans ((hb3.block k (by omega)).trans (hb2.block k (by omega)))
  · exact (ho.block p (by omega)).trans ((hb3.block p hlt).trans hp2.box)
  · exact (ho.block p' (by omega)).trans hp3.box
  · have := hin x hx; omega
  · have := hin x hx; omega
end Go.Proofs.YteencfldehcbbaaDoor
