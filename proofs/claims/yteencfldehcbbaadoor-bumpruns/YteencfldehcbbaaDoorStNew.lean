/- Contract of New of package store. -/
import Derived.Test.YteencfldehcbbaaDoorStWrite
namespace Go.Proofs.YteencfldehcbbaaDoor
open Go.RowKit

theorem snew_no (c k : Int) (w : World) (h : c < 1 ∨ 1024 < c ∨ k < 1 ∨ 1024 < k) :
    Calls Tryd.prog 33 #[.int .i64 c, .int .i64 k] w fun e w' => e = .returned (.tuple #[.pointer none, .int .i64 3]) ∧ w = w' := by
  have h' : c < 1 ∨ (1 ≤ c ∧ 1024 < c) ∨ (1 ≤ c ∧ c ≤ 1024 ∧ k < 1) ∨ (1 ≤ c ∧ c ≤ 1024 ∧ 1 ≤ k ∧ 1024 < k) := by omega
  clear h
  rcases h' with a | ⟨a, b⟩ | ⟨a, b, d⟩ | ⟨a, b, d, e⟩
  all_goals
    go_enter Tryd.func33, Tryd.ntmps33
    go_wp2
    go_ret2
    exact ⟨rfl, rfl⟩
/-- What New leaves. -/
def SNewPost (C K : Nat) (w : World) (e : Ending) (w' : World) : Prop :=
  ∃ B : SB, e = .returned (.tuple #[.pointer (some ⟨B.s, 0, none⟩), .int .i64 0]) ∧ StAt w' B C K (fun _ => 0) (fun _ => 0) ∧ Below w.heap.size w w' ∧ B.within w.heap.size w'.heap.size
theorem Row.fresh {kd : IntKind} {w : World} {r n M : Nat} {t : TypeId} (h : Whole w r t (madeCells #[.int kd 0] M)) (hn : n ≤ M) : Row kd w r n (fun _ => 0) :=
  ⟨fun k hk => (h.cell k).trans (made_at _ _ _ (by omega)), fun k _ => h.free k⟩
theorem snew_done {C K M : Nat} (eM : M = C * K) {w w1 w2 : World} {B : SB} {ws : Nat → Nat} {t1 t2 t3 : TypeId} (C1 : 1 ≤ C) (C2 : C ≤ 1024) (K1 : 1 ≤ K) (K2 : K ≤ 1024) (hm : MapAt w1 B.b B.c C ws) (hz : ∀ k, BM.on ws k = false) (b1 : Below w.heap.size w w1) (b2 : Below w1.heap.size w1 w2)
    (hb : w.heap.size ≤ B.b ∧ B.b < w1.heap.size) (hc : w.heap.size ≤ B.c ∧ B.c < w1.heap.size) (h1 : Whole w2 B.v t1 (madeCells #[.int .u64 0] M)) (h2 : Whole w2 B.o t2 (madeCells #[.int .i64 0] C)) (h3 : Whole w2 B.s t3 #[.int .i64 K,   .slice (some ⟨B.v, 0, none⟩) M M, .slice (some ⟨B.o, 0, none⟩) C C, .pointer (some ⟨B.b, 0, none⟩)])
    (g1 : w1.heap.size ≤ B.v) (g2 : w1.heap.size ≤ B.o) (g3 : w1.heap.size ≤ B.s) (n1 : B.v ≠ B.o) (n2 : B.s ≠ B.v) (n3 : B.s ≠ B.o) :
    SNewPost C K w (.returned (.tuple #[.pointer (some ⟨B.s, 0, none⟩), .int .i64 0])) w2 := by
  subst eM
  have s1 := b1.size
  have s2 := b2.size
  have l1 := h1.lt
  have l2 := h2.lt
  have l3 := h3.lt
  refine ⟨B, rfl, ⟨C1, C2, K1, K2, (h3.cell 0).trans rfl, (h3.cell 1).trans rfl, (h3.cell 2).trans rfl, (h3.cell 3).trans rfl, (Row.fresh h1 (Nat.le_refl _)).cell, (Row.fresh h1 (Nat.le_refl _)).thaw, (Row.fresh h2 (Nat.le_refl _)).cell, (Row.fresh h2 (Nat.le_refl _)).thaw,
    ⟨ws, hm.below b2 hb.2 hc.2, by funext k; rw [hz k]; simp [busy]⟩, ⟨⟨n2, n3, by omega, by omega⟩, ⟨n1, by omega, by omega⟩, by omega, by omega⟩, fun _ => by omega, fun _ => by omega, fun _ _ => rfl⟩, b1.trans (b2.mono s1), ?_⟩
  refine ⟨⟨?_, ?_⟩, ⟨?_, ?_⟩, ⟨?_, ?_⟩, ⟨?_, ?_⟩, ?_, ?_⟩ <;> omega
set_option maxHeartbeats 1000000 in
theorem snew_ok (C K : Nat) (w : World) (C1 : 1 ≤ C) (C2 : C ≤ 1024) (K1 : 1 ≤ K) (K2 : K ≤ 1024) :
    Calls Tryd.prog 33 #[.int .i64 C, .int .i64 K] w (SNewPost C K w) := by
  have hM : C * K ≤ 1048576 := by have := Nat.mul_le_mul C2 K2; omega
  have hP : (C : Int) * (K : Int) = ((C * K : Nat) : Int) := by simp
  obtain ⟨M, eM⟩ : ∃ M, M = C * K := ⟨_, rfl⟩
  rw [← eM] at hM hP
  have EM := Lib.hid eM
  clear eM
  have hmk := fun W => run_make_row' (P := Tryd.prog) 43 57 (.int .u64 0) 8 Tryd.underlying43 (by kernel_rfl) rfl .i64 .i64 M (by omega) (by omega) W
  have hmi := fun W => run_make_row' (P := Tryd.prog) 39 3 (.int .i64 0) 8 Tryd.underlying39 (by kernel_rfl) rfl .i64 .i64 C (by omega) (by omega) W
  go_enter Tryd.func33, Tryd.ntmps33
  go_wp2_with fail
  refine (new_ok C _ C1 (by omega)).mono ?_
  rintro e w1 ⟨rfl, hm1, hb1, hs1⟩
  obtain ⟨b, hb⟩ : ∃ b, b = w.heap.size + 1 := ⟨_, rfl⟩
  obtain ⟨c, hc⟩ : ∃ c, c = w.heap.size := ⟨_, rfl⟩
  rw [← hb] at hm1 ⊢
  rw [← hc] at hm1
  have q1 : w.heap.size ≤ b := by omega
  have q2 : w.heap.size ≤ c := by omega
  have q4 : b < w1.heap.size := by omega
  have q5 : c < w1.heap.size := by omega
  clear hb hc hs1
  go_wp2_with fail
  go_region
  · go_wp2
    go_ret2
    have W1 := ((Whole.fresh w1 57 (madeCells #[.int .u64 0] M)).alloc (.cells (madeCells #[.int .i64 0] C) 3)).alloc (.cells #[.int .i64 K, .slice (some ⟨w1.heap.size, 0, none⟩) M M, .slice (some ⟨w1.heap.size + 1, 0, none⟩) C C, .pointer (some ⟨b, 0, none⟩)] 84)
    have W2 := (Whole.fresh (w1.alloc (.cells (madeCells #[.int .u64 0] M) 57)) 3 (madeCells #[.int .i64 0] C)).alloc (.cells #[.int .i64 K, .slice (some ⟨w1.heap.size, 0, none⟩) M M, .slice (some ⟨w1.heap.size + 1, 0, none⟩) C C, .pointer (some ⟨b, 0, none⟩)] 84)
    have W3 := Whole.fresh ((w1.alloc (.cells (madeCells #[.int .u64 0] M) 57)).alloc (.cells (madeCells #[.int .i64 0] C) 3)) 84 #[.int .i64 K, .slice (some ⟨w1.heap.size, 0, none⟩) M M, .slice (some ⟨w1.heap.size + 1, 0, none⟩) C C, .pointer (some ⟨b, 0, none⟩)]
    rw [World.size_alloc] at W2
    rw [World.size_alloc, World.size_alloc] at W3
    exact snew_done (B := ⟨w1.heap.size + 1 + 1, w1.heap.size, w1.heap.size + 1, b, c⟩) EM.out C1 C2 K1 K2 hm1 (fun k => by simp [BM.on]) hb1 ((((Below.refl _ _).alloc (Nat.le_refl _) _).alloc (by simp) _).alloc (by simp; omega) _).drew ⟨q1, q4⟩ ⟨q2, q5⟩ W1.drew W2.drew W3.drew (by simp) (by simp) (by simp; omega) (by simp) (by simp; omega) (by simp)
  · go_wp2
    go_ret2
    have W1 := ((Whole.fresh w1 3 (madeCells #[.int .i64 0] C)).alloc (.cells (madeCells #[.int .u64 0] M) 57)).alloc (.cells #[.int .i64 K, .slice (some ⟨w1.heap.size + 1, 0, none⟩) M M, .slice (some ⟨w1.heap.size, 0, none⟩) C C, .pointer (some ⟨b, 0, none⟩)] 84)
    have W2 := (Whole.fresh (w1.alloc (.cells (madeCells #[.int .i64 0] C) 3)) 57 (madeCells #[.int .u64 0] M)).alloc (.cells #[.int .i64 K, .slice (some ⟨w1.heap.size + 1, 0, none⟩) M M, .slice (some ⟨w1.heap.size, 0, none⟩) C C, .pointer (some ⟨b, 0, none⟩)] 84)
    have W3 := Whole.fresh ((w1.alloc (.cells (madeCells #[.int .i64 0] C) 3)).alloc (.cells (madeCells #[.int .u64 0] M) 57)) 84 #[.int .i64 K, .slice (some ⟨w1.heap.size + 1, 0, none⟩) M M, .slice (some ⟨w1.heap.size, 0, none⟩) C C, .pointer (some ⟨b, 0, none⟩)]
    rw [World.size_alloc] at W2
    rw [World.size_alloc, World.size_alloc] at W3
    exact snew_done (B := ⟨w1.heap.size + 1 + 1, w1.heap.size + 1, w1.heap.size, b, c⟩) EM.out C1 C2 K1 K2 hm1 (fun k => by simp [BM.on]) hb1 ((((Below.refl _ _).alloc (Nat.le_refl _) _).alloc (by simp) _).alloc (by simp; omega) _).drew ⟨q1, q4⟩ ⟨q2, q5⟩ W2.drew W1.drew W3.drew (by simp) (by simp) (by simp; omega) (by simp) (by simp) (by simp; omega)
end Go.Proofs.YteencfldehcbbaaDoor
