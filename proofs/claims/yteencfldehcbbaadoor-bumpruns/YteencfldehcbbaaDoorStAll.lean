/- Each call of the store and of the document's store, at whatever numbers: what is answered, what is left. -/
import Derived.Test.YteencfldehcbbaaDoorStRef3
import Derived.Test.YteencfldehcbbaaDoorStAlive
namespace Go.Proofs.YteencfldehcbbaaDoor
open Go.RowKit

/-- It is an int. -/
def I64 (x : Int) : Prop := -9223372036854775808 ≤ x ∧ x ≤ 9223372036854775807

def relOwn (own : Nat → Nat) (C : Nat) (k : Int) : Nat → Nat := if chunkE own C k = 0 then (fun q => if q = k.toNat then 0 else own q) else own
def givOwn (own : Nat → Nat) (C : Nat) (k o : Int) : Nat → Nat := if giveE own C k o = 0 then (fun q => if q = k.toNat then o.toNat else own q) else own
def wrWd (own wd : Nat → Nat) (C K : Nat) (a : Int) (x : Nat) : Nat → Nat := if addrE own C K a = 0 then (fun q => if q = a.toNat then x else wd q) else wd
def cpWdA (own wd : Nat → Nat) (C K : Nat) (t f n : Int) : Nat → Nat := if copyE own C K t f n = 0 then cpWd wd t.toNat f.toNat n.toNat else wd
/-- What TakeRun says. -/
def tkE (own : Nat → Nat) (C : Nat) (x n : Int) : Int := if x < 1 ∨ n < 1 then 2 else if BM.rn (busy own) C n.toNat < C + 1 - n.toNat then 0 else 11
def tkP (own : Nat → Nat) (C : Nat) (x n : Int) : Nat := if tkE own C x n = 0 then BM.rn (busy own) C n.toNat else 0
def tkOwnA (own : Nat → Nat) (C : Nat) (x n : Int) : Nat → Nat := if tkE own C x n = 0 then tkOwn own (BM.rn (busy own) C n.toNat) n.toNat x.toNat else own
def tkWdA (own wd : Nat → Nat) (C K : Nat) (x n : Int) : Nat → Nat := if tkE own C x n = 0 then tkWd wd K (BM.rn (busy own) C n.toNat) n.toNat else wd
theorem chunkE_ok {own : Nat → Nat} {C : Nat} {k : Int} (h : chunkE own C k = 0) : ∃ j : Nat, k = j ∧ j < C ∧ own j ≠ 0 := by
  unfold chunkE at h
  split at h
  · refine ⟨k.toNat, by omega, by omega, fun e => ?_⟩
    rw [if_pos e] at h
    omega
  · omega
theorem giveE_ok {own : Nat → Nat} {C : Nat} {k o : Int} (h : giveE own C k o = 0) : (∃ j : Nat, k = j ∧ j < C ∧ own j ≠ 0) ∧ 1 ≤ o := by
  unfold giveE at h
  split at h
  · omega
  · exact ⟨chunkE_ok h, by omega⟩
theorem copyE_ok {own : Nat → Nat} {C K : Nat} {t f n : Int} (h : copyE own C K t f n = 0) : ∃ a b m : Nat, t = a ∧ f = b ∧ n = m ∧ a + m ≤ C * K ∧ b + m ≤ C * K ∧ anyFree own K a m = false ∧ anyFree own K b m = false := by
  unfold copyE at h
  by_cases hi : inB (C * K) t n = true ∧ inB (C * K) f n = true
  · rw [if_pos hi] at h
    have j1 := (inB_iff _ _ _).1 hi.1
    have j2 := (inB_iff _ _ _).1 hi.2
    obtain ⟨a, rfl⟩ := Int.eq_ofNat_of_zero_le j1.2.1
    obtain ⟨b, rfl⟩ := Int.eq_ofNat_of_zero_le j2.2.1
    obtain ⟨m, rfl⟩ := Int.eq_ofNat_of_zero_le j1.1
    simp only [Int.toNat_natCast] at h
    refine ⟨a, b, m, rfl, rfl, rfl, by omega, by omega, ?_, ?_⟩
    · cases e : anyFree own K a m
      · rfl
      · simp [e] at h
    · cases e : anyFree own K b m
      · rfl
      · simp [e] at h
  · rw [if_neg hi] at h
    omega
theorem tkE_ok {own : Nat → Nat} {C : Nat} {x n : Int} (h : tkE own C x n = 0) : ∃ y k : Nat, x = y ∧ n = k ∧ 1 ≤ y ∧ 1 ≤ k ∧ BM.rn (busy own) C k < C + 1 - k := by
  unfold tkE at h
  split at h
  · omega
  · split at h
    · rename_i h1 h2
      exact ⟨x.toNat, n.toNat, by omega, by omega, by omega, by omega, h2⟩
    · omega

section
variable {w w' : World} {B : SB} {C K : Nat} {own wd : Nat → Nat}
/-- What a call of the store leaves. -/
def StPost (v : Value) (B : SB) (C K : Nat) (own wd : Nat → Nat) (w : World) (e : Ending) (w' : World) : Prop :=
  e = .returned v ∧ OnlyIn [B.o, B.c, B.v] w w' ∧ StAt w' B C K own wd
theorem release_all (h : StAt w B C K own wd) (k : Int) :
    Calls Tryd.prog 63 #[.pointer (some ⟨B.s, 0, none⟩), .int .i64 k] w (StPost (.int .i64 (chunkE own C k)) B C K (relOwn own C k) wd w) := by
  unfold relOwn
  by_cases hz : chunkE own C k = 0
  · rw [if_pos hz, hz]
    obtain ⟨j, rfl, hj, ho⟩ := chunkE_ok hz
    rw [Int.toNat_natCast]
    exact (release_ok h j hj ho).mono fun _ _ h => h
  · rw [if_neg hz]
    exact (release_no h k hz).mono fun _ _ ⟨e, hw⟩ => by subst hw; exact ⟨e, OnlyIn.refl _ _, h⟩
theorem give_all (h : StAt w B C K own wd) (k o : Int) (ho : I64 o) :
    Calls Tryd.prog 66 #[.pointer (some ⟨B.s, 0, none⟩), .int .i64 k, .int .i64 o] w (StPost (.int .i64 (giveE own C k o)) B C K (givOwn own C k o) wd w) := by
  unfold givOwn
  by_cases hz : giveE own C k o = 0
  · rw [if_pos hz, hz]
    obtain ⟨⟨j, rfl, hj, h1⟩, h2⟩ := giveE_ok hz
    obtain ⟨x, rfl⟩ := Int.eq_ofNat_of_zero_le (show 0 ≤ o by omega)
    rw [Int.toNat_natCast, Int.toNat_natCast]
    exact (give_ok h j x hj h1 (by omega) (by have := ho.2; omega)).mono fun _ _ h => h
  · rw [if_neg hz]
    exact (give_no h k o hz).mono fun _ _ ⟨e, hw⟩ => by subst hw; exact ⟨e, OnlyIn.refl _ _, h⟩
theorem write_all (h : StAt w B C K own wd) (a : Int) (x : Nat) (hx : x < 18446744073709551616) :
    Calls Tryd.prog 31 #[.pointer (some ⟨B.s, 0, none⟩), .int .i64 a, .int .u64 x] w (StPost (.int .i64 (addrE own C K a)) B C K own (wrWd own wd C K a x) w) := by
  unfold wrWd
  by_cases hz : addrE own C K a = 0
  · rw [if_pos hz, hz]
    obtain ⟨j, rfl, hj, ho⟩ := addrE_ok hz
    rw [Int.toNat_natCast]
    exact (write_ok h j x hj ho hx).mono fun _ _ h => h
  · rw [if_neg hz]
    exact (write_no h a x hz).mono fun _ _ ⟨e, hw⟩ => by subst hw; exact ⟨e, OnlyIn.refl _ _, h⟩
theorem cpWd_zero (wd : Nat → Nat) (t f : Nat) : cpWd wd t f 0 = wd := by
  funext q
  unfold cpWd
  rw [if_neg (by omega)]
theorem take_all (h : StAt w B C K own wd) (hT : Tab w) (x n : Int) (hx : I64 x) (hn : I64 n) :
    Calls Tryd.prog 64 #[.pointer (some ⟨B.s, 0, none⟩), .int .i64 x, .int .i64 n] w (StPost (.tuple #[.int .i64 (tkP own C x n : Nat), .int .i64 (tkE own C x n)]) B C K (tkOwnA own C x n) (tkWdA own wd C K x n) w) := by
  unfold tkP tkOwnA tkWdA
  by_cases hz : tkE own C x n = 0
  · rw [if_pos hz, if_pos hz, if_pos hz, hz]
    obtain ⟨y, k, rfl, rfl, h1, h2, h3⟩ := tkE_ok hz
    rw [Int.toNat_natCast, Int.toNat_natCast]
    exact (take_ok h hT y k _ (by omega) (by have := hx.2; omega) h2 rfl h3).mono fun _ _ h => h
  · rw [if_neg hz, if_neg hz, if_neg hz]
    by_cases ha : x < 1 ∨ n < 1
    · rw [show tkE own C x n = 2 by unfold tkE; rw [if_pos ha]]
      exact (take_arg _ x n w ha).mono fun _ _ ⟨e, hw⟩ => by subst hw; exact ⟨e, OnlyIn.refl _ _, h⟩
    · obtain ⟨k, rfl⟩ := Int.eq_ofNat_of_zero_le (show 0 ≤ n by omega)
      have hr : ¬ BM.rn (busy own) C k < C + 1 - k := fun hr => hz (by unfold tkE; rw [if_neg ha, Int.toNat_natCast, if_pos hr])
      rw [show tkE own C x k = 11 by unfold tkE; rw [if_neg ha, Int.toNat_natCast, if_neg hr]]
      exact (take_full h hT x k (by omega) (by omega) (by have := hn.2; omega) hr).mono fun _ _ ⟨e, hw⟩ => by subst hw; exact ⟨e, OnlyIn.refl _ _, h⟩
theorem take1_all (h : StAt w B C K own wd) (hT : Tab w) (x : Int) (hx : I64 x) :
    Calls Tryd.prog 65 #[.pointer (some ⟨B.s, 0, none⟩), .int .i64 x] w (StPost (.tuple #[.int .i64 (tkP own C x 1 : Nat), .int .i64 (tkE own C x 1)]) B C K (tkOwnA own C x 1) (tkWdA own wd C K x 1) w) :=
  (take_one (R := fun w' => OnlyIn [B.o, B.c, B.v] w w' ∧ StAt w' B C K (tkOwnA own C x 1) (tkWdA own wd C K x 1)) ((take_all h hT x 1 hx (by unfold I64; omega)).mono fun _ _ h => h)).mono fun _ _ h => h
end

section
variable {w w' : World} {R : RB} {C K : Nat} {own wd : Nat → Nat}
/-- What a call of the document's store leaves. -/
def RfPost (v : Value) (R : RB) (C K : Nat) (own wd : Nat → Nat) (w : World) (e : Ending) (w' : World) : Prop :=
  e = .returned v ∧ ∃ w1, Below w.heap.size w w1 ∧ OnlyIn [R.p, R.q] w1 w' ∧ RfAt w' R C K own wd
theorem rrelease_all (h : RfAt w R C K own wd) (k : Int) :
    Calls Tryd.prog 60 #[.pointer (some ⟨R.m, 0, none⟩), .int .i64 k] w (RfPost (.int .i64 (chunkE own C k)) R C K (relOwn own C k) wd w) := by
  unfold relOwn
  by_cases hz : chunkE own C k = 0
  · rw [if_pos hz, hz]
    obtain ⟨j, rfl, hj, ho⟩ := chunkE_ok hz
    rw [Int.toNat_natCast]
    exact (rrelease_ok h j hj ho).mono fun _ _ ⟨e, a, b⟩ => ⟨e, w, Below.refl _ _, a, b⟩
  · rw [if_neg hz]
    exact (rrelease_no h k hz).mono fun _ _ ⟨e, hw⟩ => by subst hw; exact ⟨e, w, Below.refl _ _, OnlyIn.refl _ _, h⟩
theorem rgive_all (h : RfAt w R C K own wd) (k o : Int) :
    Calls Tryd.prog 71 #[.pointer (some ⟨R.m, 0, none⟩), .int .i64 k, .int .i64 o] w (RfPost (.int .i64 (giveE own C k o)) R C K (givOwn own C k o) wd w) := by
  unfold givOwn
  by_cases hz : giveE own C k o = 0
  · rw [if_pos hz, hz]
    obtain ⟨⟨j, rfl, hj, h1⟩, h2⟩ := giveE_ok hz
    obtain ⟨x, rfl⟩ := Int.eq_ofNat_of_zero_le (show 0 ≤ o by omega)
    rw [Int.toNat_natCast, Int.toNat_natCast]
    exact (rgive_ok h j x hj h1 (by omega)).mono fun _ _ ⟨e, a, b⟩ => ⟨e, w, Below.refl _ _, a, b⟩
  · rw [if_neg hz]
    exact (rgive_no h k o hz).mono fun _ _ ⟨e, hw⟩ => by subst hw; exact ⟨e, w, Below.refl _ _, OnlyIn.refl _ _, h⟩
theorem rtake_all (h : RfAt w R C K own wd) (x n : Int) (hx : I64 x) (hn : I64 n) :
    Calls Tryd.prog 57 #[.pointer (some ⟨R.m, 0, none⟩), .int .i64 x, .int .i64 n] w (RfPost (.tuple #[.int .i64 (tkP own C x n : Nat), .int .i64 (tkE own C x n)]) R C K (tkOwnA own C x n) (tkWdA own wd C K x n) w) := by
  unfold tkP tkOwnA tkWdA
  by_cases hz : tkE own C x n = 0
  · rw [if_pos hz, if_pos hz, if_pos hz, hz]
    obtain ⟨y, k, rfl, rfl, h1, h2, h3⟩ := tkE_ok hz
    rw [Int.toNat_natCast, Int.toNat_natCast]
    exact (rtake_ok h y k _ (by omega) (by have := hx.2; omega) h2 rfl h3).mono fun _ _ ⟨e, a, b⟩ => ⟨e, w, Below.refl _ _, a, b⟩
  · rw [if_neg hz, if_neg hz, if_neg hz]
    by_cases ha : x < 1 ∨ n < 1
    · rw [show tkE own C x n = 2 by unfold tkE; rw [if_pos ha]]
      exact (rtake_arg _ x n w ha).mono fun _ _ ⟨e, hw⟩ => by subst hw; exact ⟨e, w, Below.refl _ _, OnlyIn.refl _ _, h⟩
    · obtain ⟨k, rfl⟩ := Int.eq_ofNat_of_zero_le (show 0 ≤ n by omega)
      have hr : ¬ BM.rn (busy own) C k < C + 1 - k := fun hr => hz (by unfold tkE; rw [if_neg ha, Int.toNat_natCast, if_pos hr])
      rw [show tkE own C x k = 11 by unfold tkE; rw [if_neg ha, Int.toNat_natCast, if_neg hr]]
      exact (rtake_full h x k (by omega) (by omega) (by have := hn.2; omega) hr).mono fun _ _ ⟨e, hw⟩ => by subst hw; exact ⟨e, w, Below.refl _ _, OnlyIn.refl _ _, h⟩
end

/-- The store and the document's, made since w0, say the same. -/
structure Pair (w0 w : World) (B : SB) (R : RB) (C K : Nat) (own wd : Nat → Nat) : Prop where
  held : Held w0 w B C K own wd
  rf : RfAt w R C K own wd
  rwin : R.within w0.heap.size w.heap.size
  ap : ∀ x ∈ [B.s, B.v, B.o, B.b, B.c], x ≠ R.m ∧ x ≠ R.p ∧ x ≠ R.q
section
variable {w0 w w1 w2 w3 : World} {B : SB} {R : RB} {C K : Nat} {own wd own' wd' : Nat → Nat}
theorem RB.within.more {lo hi hi' : Nat} (h : R.within lo hi) (hh : hi ≤ hi') : R.within lo hi' := by
  obtain ⟨⟨a1, a2⟩, ⟨b1, b2⟩, c1, c2⟩ := h
  exact ⟨⟨a1, by omega⟩, ⟨b1, by omega⟩, c1, by omega⟩
theorem Pair.later (h : Pair w0 w B R C K own wd) (hT : Tab w0) (hb : Below w.heap.size w w1) : Pair w0 w1 B R C K own wd :=
  ⟨h.held.later hT hb, h.rf.below hb h.rwin, h.rwin.more hb.size, h.ap⟩
/-- In between: the store has turned, the document's not yet. -/
theorem Pair.half (h : Pair w0 w B R C K own wd) (ho : OnlyIn [B.o, B.c, B.v] w w1) : RfAt w1 R C K own wd ∧ R.within w0.heap.size w1.heap.size := by
  refine ⟨h.rf.only ho fun x hx => h.ap x (by simp at hx ⊢; omega), by rw [ho.size]; exact h.rwin⟩
/-- Both have turned. -/
theorem Pair.both (h : Pair w0 w B R C K own wd) (hT : Tab w0) (ho : OnlyIn [B.o, B.c, B.v] w w1) (hs : StAt w1 B C K own' wd') (hb : Below w1.heap.size w1 w2) (ho2 : OnlyIn [R.p, R.q] w2 w3) (hr : RfAt w3 R C K own' wd') : Pair w0 w3 B R C K own' wd' := by
  have k1 := h.held.step hT ho hs
  have k2 := k1.later hT hb
  have r2 := (h.half ho).2.more hb.size
  have hb3 : Below w0.heap.size w2 w3 := ho2.below fun c hc => by
    obtain ⟨a1, a2, a3⟩ := r2
    simp at hc
    rcases hc with rfl | rfl <;> omega
  refine ⟨⟨k2.st.only ho2 fun x hx => ?_, k2.bel.trans hb3, by rw [ho2.size]; exact k2.win, hT.below (k2.bel.trans hb3) hT.pos⟩, hr, by rw [ho2.size]; exact r2, h.ap⟩
  have e1 := h.ap B.s (by simp)
  have e2 := h.ap B.v (by simp)
  have e3 := h.ap B.o (by simp)
  have e4 := h.ap B.b (by simp)
  have e5 := h.ap B.c (by simp)
  simp at hx
  rcases hx with rfl | rfl
  · exact ⟨Ne.symm e1.2.1, Ne.symm e2.2.1, Ne.symm e3.2.1, Ne.symm e4.2.1, Ne.symm e5.2.1⟩
  · exact ⟨Ne.symm e1.2.2, Ne.symm e2.2.2, Ne.symm e3.2.2, Ne.symm e4.2.2, Ne.symm e5.2.2⟩
end
end Go.Proofs.YteencfldehcbbaaDoor
