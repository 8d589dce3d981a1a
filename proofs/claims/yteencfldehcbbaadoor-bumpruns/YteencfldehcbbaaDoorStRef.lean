/- The document's store: its state, and contracts of its functions but TakeRun and Copy. -/
import Derived.Test.YteencfldehcbbaaDoorStCopy
import Derived.Test.YteencfldehcbbaaDoorStNew
namespace Go.Proofs.YteencfldehcbbaaDoor
open Go.RowKit

/-- The blocks of the document's store: its box, its words', its owners'. -/
structure RB where
  m : Nat
  p : Nat
  q : Nat
structure RfAt (w : World) (R : RB) (C K : Nat) (own wd : Nat → Nat) : Prop where
  C1 : 1 ≤ C
  C2 : C ≤ 1024
  K1 : 1 ≤ K
  K2 : K ≤ 1024
  words : w.cell? ⟨R.m, 0, none⟩ = some (.slice (some ⟨R.p, 0, none⟩) (C * K) (C * K))
  size : w.cell? ⟨R.m, 1, none⟩ = some (.int .i64 K)
  owners : w.cell? ⟨R.m, 2, none⟩ = some (.slice (some ⟨R.q, 0, none⟩) C C)
  wrow : Row .u64 w R.p (C * K) wd
  orow : Row .i64 w R.q C own
  ne : R.m ≠ R.p ∧ R.m ≠ R.q ∧ R.p ≠ R.q
def RB.within (R : RB) (lo hi : Nat) : Prop := (lo ≤ R.m ∧ R.m < hi) ∧ (lo ≤ R.p ∧ R.p < hi) ∧ (lo ≤ R.q ∧ R.q < hi)
section
variable {w w' : World} {R : RB} {C K : Nat} {own wd own' wd' : Nat → Nat}
theorem RfAt.blocks (h : RfAt w R C K own wd) (e : ∀ k, k = R.m ∨ k = R.p ∨ k = R.q → w'.heap[k]? = w.heap[k]?) : RfAt w' R C K own wd := by
  have es := e R.m (by simp)
  exact ⟨h.C1, h.C2, h.K1, h.K2, (World.cell?_of_block (a := ⟨R.m, 0, none⟩) es).trans h.words, (World.cell?_of_block (a := ⟨R.m, 1, none⟩) es).trans h.size, (World.cell?_of_block (a := ⟨R.m, 2, none⟩) es).trans h.owners, h.wrow.block (e R.p (by simp)), h.orow.block (e R.q (by simp)), h.ne⟩
theorem RfAt.heap (h : RfAt w R C K own wd) (e : w'.heap = w.heap) : RfAt w' R C K own wd := h.blocks fun k _ => by rw [e]
theorem RfAt.below {lo hi : Nat} (h : RfAt w R C K own wd) (hb : Below hi w w') (hR : R.within lo hi) : RfAt w' R C K own wd := h.blocks fun k hk => hb.block k (by
  obtain ⟨b1, b2, b3⟩ := hR
  rcases hk with rfl | rfl | rfl <;> omega)
theorem RfAt.only {S : List Nat} (h : RfAt w R C K own wd) (ho : OnlyIn S w w') (hs : ∀ x ∈ S, x ≠ R.m ∧ x ≠ R.p ∧ x ≠ R.q) : RfAt w' R C K own wd := h.blocks fun k hk => ho.block k (fun hx => by
  obtain ⟨b1, b2, b3⟩ := hs k hx
  rcases hk with rfl | rfl | rfl <;> contradiction)
/-- Behind some writes. -/
theorem RfAt.turn (h : RfAt w R C K own wd) (ho : OnlyIn [R.p, R.q] w w') (hw : Row .u64 w' R.p (C * K) wd') (hr : Row .i64 w' R.q C own') : RfAt w' R C K own' wd' := by
  obtain ⟨n1, n2, n3⟩ := h.ne
  have es : R.m ∉ [R.p, R.q] := by simp; exact ⟨n1, n2⟩
  exact ⟨h.C1, h.C2, h.K1, h.K2, (ho.cell (p := ⟨R.m, 0, none⟩) es).trans h.words, (ho.cell (p := ⟨R.m, 1, none⟩) es).trans h.size, (ho.cell (p := ⟨R.m, 2, none⟩) es).trans h.owners, hw, hr, h.ne⟩
theorem RfAt.all (h : RfAt w R C K own wd) : C * K ≤ 1048576 := by
  have := Nat.mul_le_mul h.C2 h.K2
  omega

/-- What New leaves. -/
def RNewPost (C K : Nat) (w : World) (e : Ending) (w' : World) : Prop :=
  ∃ R : RB, e = .returned (.pointer (some ⟨R.m, 0, none⟩)) ∧ RfAt w' R C K (fun _ => 0) (fun _ => 0) ∧ Below w.heap.size w w' ∧ R.within w.heap.size w'.heap.size
theorem rnew_done {C K M : Nat} (eM : M = C * K) {w w2 : World} {R : RB} {t1 t2 t3 : TypeId} (C1 : 1 ≤ C) (C2 : C ≤ 1024) (K1 : 1 ≤ K) (K2 : K ≤ 1024) (b2 : Below w.heap.size w w2)
    (h1 : Whole w2 R.p t1 (madeCells #[.int .u64 0] M)) (h2 : Whole w2 R.q t2 (madeCells #[.int .i64 0] C)) (h3 : Whole w2 R.m t3 #[.slice (some ⟨R.p, 0, none⟩) M M, .int .i64 K, .slice (some ⟨R.q, 0, none⟩) C C])
    (g1 : w.heap.size ≤ R.p) (g2 : w.heap.size ≤ R.q) (g3 : w.heap.size ≤ R.m) (n1 : R.m ≠ R.p) (n2 : R.m ≠ R.q) (n3 : R.p ≠ R.q) :
    RNewPost C K w (.returned (.pointer (some ⟨R.m, 0, none⟩))) w2 := by
  subst eM
  have l1 := h1.lt
  have l2 := h2.lt
  have l3 := h3.lt
  exact ⟨R, rfl, ⟨C1, C2, K1, K2, (h3.cell 0).trans rfl, (h3.cell 1).trans rfl, (h3.cell 2).trans rfl, Row.fresh h1 (Nat.le_refl _), Row.fresh h2 (Nat.le_refl _), n1, n2, n3⟩, b2, ⟨g3, l3⟩, ⟨g1, l1⟩, g2, l2⟩
set_option maxHeartbeats 1000000 in
theorem rnew_ok (C K : Nat) (w : World) (C1 : 1 ≤ C) (C2 : C ≤ 1024) (K1 : 1 ≤ K) (K2 : K ≤ 1024) :
    Calls Tryd.prog 12 #[.int .i64 C, .int .i64 K] w (RNewPost C K w) := by
  have hM : C * K ≤ 1048576 := by have := Nat.mul_le_mul C2 K2; omega
  have hP : (C : Int) * (K : Int) = ((C * K : Nat) : Int) := by simp
  obtain ⟨M, eM⟩ : ∃ M, M = C * K := ⟨_, rfl⟩
  rw [← eM] at hM hP
  have EM := Lib.hid eM
  clear eM
  have hmk := fun W => run_make_row' (P := Tryd.prog) 43 57 (.int .u64 0) 8 Tryd.underlying43 (by kernel_rfl) rfl .i64 .i64 M (by omega) (by omega) W
  have hmi := fun W => run_make_row' (P := Tryd.prog) 39 3 (.int .i64 0) 8 Tryd.underlying39 (by kernel_rfl) rfl .i64 .i64 C (by omega) (by omega) W
  go_enter Tryd.func12, Tryd.ntmps12
  go_wp2_with fail
  go_region
  · go_wp2
    go_ret
    have W1 := ((Whole.fresh w 57 (madeCells #[.int .u64 0] M)).alloc (.cells (madeCells #[.int .i64 0] C) 3)).alloc (.cells #[.slice (some ⟨w.heap.size, 0, none⟩) M M, .int .i64 K, .slice (some ⟨w.heap.size + 1, 0, none⟩) C C] 45)
    have W2 := (Whole.fresh (w.alloc (.cells (madeCells #[.int .u64 0] M) 57)) 3 (madeCells #[.int .i64 0] C)).alloc (.cells #[.slice (some ⟨w.heap.size, 0, none⟩) M M, .int .i64 K, .slice (some ⟨w.heap.size + 1, 0, none⟩) C C] 45)
    have W3 := Whole.fresh ((w.alloc (.cells (madeCells #[.int .u64 0] M) 57)).alloc (.cells (madeCells #[.int .i64 0] C) 3)) 45 #[.slice (some ⟨w.heap.size, 0, none⟩) M M, .int .i64 K, .slice (some ⟨w.heap.size + 1, 0, none⟩) C C]
    rw [World.size_alloc] at W2
    rw [World.size_alloc, World.size_alloc] at W3
    exact rnew_done (R := ⟨w.heap.size + 1 + 1, w.heap.size, w.heap.size + 1⟩) EM.out C1 C2 K1 K2 ((((Below.refl _ _).alloc (Nat.le_refl _) _).alloc (by simp) _).alloc (by simp; omega) _).drew W1.drew W2.drew W3.drew (by simp) (by simp) (by simp; omega) (by simp; omega) (by simp) (by simp)
  · go_wp2
    go_ret
    have W1 := ((Whole.fresh w 3 (madeCells #[.int .i64 0] C)).alloc (.cells (madeCells #[.int .u64 0] M) 57)).alloc (.cells #[.slice (some ⟨w.heap.size + 1, 0, none⟩) M M, .int .i64 K, .slice (some ⟨w.heap.size, 0, none⟩) C C] 45)
    have W2 := (Whole.fresh (w.alloc (.cells (madeCells #[.int .i64 0] C) 3)) 57 (madeCells #[.int .u64 0] M)).alloc (.cells #[.slice (some ⟨w.heap.size + 1, 0, none⟩) M M, .int .i64 K, .slice (some ⟨w.heap.size, 0, none⟩) C C] 45)
    have W3 := Whole.fresh ((w.alloc (.cells (madeCells #[.int .i64 0] C) 3)).alloc (.cells (madeCells #[.int .u64 0] M) 57)) 45 #[.slice (some ⟨w.heap.size + 1, 0, none⟩) M M, .int .i64 K, .slice (some ⟨w.heap.size, 0, none⟩) C C]
    rw [World.size_alloc] at W2
    rw [World.size_alloc, World.size_alloc] at W3
    exact rnew_done (R := ⟨w.heap.size + 1 + 1, w.heap.size + 1, w.heap.size⟩) EM.out C1 C2 K1 K2 ((((Below.refl _ _).alloc (Nat.le_refl _) _).alloc (by simp) _).alloc (by simp; omega) _).drew W2.drew W1.drew W3.drew (by simp) (by simp) (by simp; omega) (by simp) (by simp; omega) (by simp)

theorem frees_yes (own : Nat → Nat) (k : Nat) (h : own k = 0) : frees own (k + 1) = frees own k + 1 := by
  unfold frees
  have h1 := BM.cnt_le (busy own) k
  have : BM.cnt (busy own) (k + 1) = BM.cnt (busy own) k := by
    rw [← BM.ons_len, ← BM.ons_len, BM.ons_no _ _ (by simp [busy, h])]
  omega
theorem frees_no (own : Nat → Nat) (k : Nat) (h : own k ≠ 0) : frees own (k + 1) = frees own k := by
  unfold frees
  have h1 := BM.cnt_le (busy own) k
  have : BM.cnt (busy own) (k + 1) = BM.cnt (busy own) k + 1 := by
    rw [← BM.ons_len, ← BM.ons_len, BM.ons_yes _ _ (by simp [busy]; omega), List.length_append]; rfl
  omega
theorem frees_le (own : Nat → Nat) (k : Nat) : frees own k ≤ k := by unfold frees; omega
set_option maxHeartbeats 1000000 in
theorem rfree_any (h : RfAt w R C K own wd) : Calls Tryd.prog 24 #[.pointer (some ⟨R.m, 0, none⟩)] w fun e w' => e = .returned (.int .i64 (frees own C : Nat)) ∧ w = w' := by
  have c2 := h.owners
  have hC := h.C2
  have H := Lib.hid h.orow
  clear h
  go_enter Tryd.func24, Tryd.ntmps24
  go_wp2
  go_loop [3, 4] (fun y x => ∃ k : Nat, k ≤ C ∧ x = .int .i64 k ∧ y = .int .i64 (frees own k : Nat)) (fun _ x => C - (intOf x).toNat)
  case atStart => exact ⟨0, Nat.zero_le _, rfl, rfl⟩
  case round =>
    obtain ⟨k, hk, rfl, rfl⟩ := hrel
    by_cases hlt : k < C
    · have c0 := H.out.cell k hlt
      have hl := frees_le own k
      by_cases hz : own k = 0
      · have hy := Lib.hid (frees_yes own k hz)
        rw [hz] at c0
        clear hz
        generalize frees own k = n at *
        go_wp2
        go_round
        case rel => exact ⟨k + 1, by omega, by go_num, by rw [hy.out]; go_num⟩
        case measure => simp [intOf]; omega
      · have hy := Lib.hid (frees_no own k hz)
        generalize own k = x at *
        generalize frees own k = n at *
        have d : ((x : Int) == 0) = false := by simp; omega
        go_wp2
        go_round
        case rel => exact ⟨k + 1, by omega, by go_num, by rw [hy.out]⟩
        case measure => simp [intOf]; omega
    · obtain rfl : k = C := by omega
      go_wp2
      go_ret
      exact ⟨rfl, rfl⟩

/-- What run answers. -/
def rrunV (own : Nat → Nat) (C k : Nat) : Int := if BM.rn (busy own) C k < C + 1 - k then (BM.rn (busy own) C k : Nat) else -1
set_option maxHeartbeats 1000000 in
theorem rrun_any (h : RfAt w R C K own wd) (k : Nat) (hk : 1 ≤ k) (hk2 : k ≤ 9223372036854775807) : Calls Tryd.prog 70 #[.pointer (some ⟨R.m, 0, none⟩), .int .i64 k] w fun e w' => e = .returned (.int .i64 (rrunV own C k)) ∧ w = w' := by
  have c2 := h.owners
  have hC := h.C2
  have H := Lib.hid h.orow
  clear h
  go_enter Tryd.func70, Tryd.ntmps70
  go_wp2
  go_loop [5, 6] (fun y x => ∃ i m : Nat, i ≤ C ∧ x = .int .i64 i ∧ y = .int .i64 m ∧ BM.RowSt (busy own) k i m) (fun _ x => C - (intOf x).toNat)
  case atStart => exact ⟨0, 0, Nat.zero_le _, rfl, rfl, BM.row_start _ k hk⟩
  case round =>
    obtain ⟨i, m, hi, rfl, rfl, hst⟩ := hrel
    by_cases hlt : i < C
    · have c0 := H.out.cell i hlt
      have hm := hst.1
      have hm2 := hst.2.1
      by_cases hf : own i = 0
      · rw [hf] at c0
        have hb : busy own i = false := by simp [busy, hf]
        by_cases hr : m + 1 = k
        · have HR := Lib.hid (BM.row_found (busy own) C k i m hst hb hr hlt)
          have d : ((m : Int) + 1 == (k : Int)) = true := by simp; omega
          clear hf hr hb hst
          go_wp2
          go_ret
          obtain ⟨r1, r2, r3⟩ := HR.out
          refine ⟨?_, rfl⟩
          unfold rrunV
          rw [r1, if_pos r2, show ((i + 1 - k : Nat) : Int) = (i : Int) - (k : Int) + 1 by omega]
          rfl
        · have HR := Lib.hid (BM.row_off (busy own) k i m hst hb (by omega))
          have d : ((m : Int) + 1 == (k : Int)) = false := by simp; omega
          clear hf hb hst
          go_wp2
          go_round
          case rel => exact ⟨i + 1, m + 1, by omega, by go_num, by go_num, HR.out⟩
          case measure => simp [intOf]; omega
      · have HR := Lib.hid (BM.row_on (busy own) k i m hk hst (by simp [busy]; omega))
        generalize own i = x at *
        have d : ((0 : Int) == (k : Int)) = false := by simp; omega
        have d2 : ((x : Int) != 0) = true := by simp; omega
        clear hst
        go_wp2
        go_round
        case rel => exact ⟨i + 1, 0, by omega, by go_num, by go_num, HR.out⟩
        case measure => simp [intOf]; omega
    · obtain rfl : i = C := by omega
      have HR := Lib.hid (BM.row_end _ _ _ _ hst)
      clear hst
      go_wp2
      go_ret
      refine ⟨?_, rfl⟩
      unfold rrunV
      rw [HR.out, if_neg (by omega)]
      rfl

set_option maxHeartbeats 400000 in
theorem rchunk_any (h : RfAt w R C K own wd) (k : Int) : Calls Tryd.prog 72 #[.pointer (some ⟨R.m, 0, none⟩), .int .i64 k] w fun e w' => e = .returned (.int .i64 (chunkE own C k)) ∧ w = w' := by
  have c2 := h.owners
  have hC := h.C2
  by_cases h0 : k < 0
  · rw [chunkE_out (.inl h0)]
    go_enter Tryd.func72, Tryd.ntmps72
    go_wp2
    go_ret
    exact ⟨rfl, rfl⟩
  · have g0 : 0 ≤ k := by omega
    by_cases h1 : (C : Int) ≤ k
    · rw [chunkE_out (.inr h1)]
      go_enter Tryd.func72, Tryd.ntmps72
      go_wp2
      go_ret
      exact ⟨rfl, rfl⟩
    · obtain ⟨j, rfl⟩ := Int.eq_ofNat_of_zero_le g0
      have hj : j < C := by omega
      have c4 := h.orow.cell j hj
      rw [chunkE_in hj]
      clear h0 g0 h1
      by_cases hz : own j = 0
      · rw [if_pos hz]
        rw [hz] at c4
        clear hz
        go_enter Tryd.func72, Tryd.ntmps72
        go_wp2
        go_ret
        exact ⟨rfl, rfl⟩
      · rw [if_neg hz]
        generalize own j = x at *
        have d : ((x : Int) == 0) = false := by simp; omega
        go_enter Tryd.func72, Tryd.ntmps72
        go_wp2
        go_ret
        exact ⟨rfl, rfl⟩
def RWrotePost (w : World) (R : RB) (C K : Nat) (own wd : Nat → Nat) (e : Ending) (w' : World) : Prop :=
  e = .returned (.int .i64 0) ∧ OnlyIn [R.p, R.q] w w' ∧ RfAt w' R C K own wd
theorem RfAt.gave (h : RfAt w R C K own wd) (j x : Nat) : RfAt (w.setCell ⟨R.q, j, none⟩ (.int .i64 x)) R C K (fun q => if q = j then x else own q) wd := by
  have ha := (OnlyAt.refl R.q w).setCell j (.int .i64 x)
  exact h.turn (OnlyIn.of_at ha (by simp)) (h.wrow.block (ha.block _ h.ne.2.2)) (h.orow.stored j x)
theorem RfAt.wrote (h : RfAt w R C K own wd) (j x : Nat) : RfAt (w.setCell ⟨R.p, j, none⟩ (.int .u64 x)) R C K own (fun q => if q = j then x else wd q) := by
  have ha := (OnlyAt.refl R.p w).setCell j (.int .u64 x)
  exact h.turn (OnlyIn.of_at ha (by simp)) (h.wrow.stored j x) (h.orow.block (ha.block _ (Ne.symm h.ne.2.2)))
set_option maxHeartbeats 400000 in
theorem rrelease_ok (h : RfAt w R C K own wd) (j : Nat) (hj : j < C) (ho : own j ≠ 0) :
    Calls Tryd.prog 60 #[.pointer (some ⟨R.m, 0, none⟩), .int .i64 j] w (RWrotePost w R C K (fun q => if q = j then 0 else own q) wd) := by
  have c1 := h.owners
  have hC := h.C2
  have hu := rchunk_any h (j : Int)
  rw [chunkE_in hj, if_neg ho] at hu
  have HU := Lib.hid hu
  have c4 := h.orow.cell j hj
  have c5 := h.orow.thaw j hj
  have hs := Lib.hid (show RfAt (w.setCell ⟨R.q, j, none⟩ (.int .i64 0)) R C K (fun q => if q = j then 0 else own q) wd from h.gave j 0)
  clear ho hu h
  go_enter Tryd.func60, Tryd.ntmps60
  go_wp2_with (first
    | (go_at_call 72; refine HU.out.mono ?_; rintro e w' ⟨rfl, rfl⟩))
  go_ret
  exact ⟨rfl, (OnlyIn.refl _ _).setCell (by simp) _ _, hs.out⟩
set_option maxHeartbeats 400000 in
theorem rrelease_no (h : RfAt w R C K own wd) (k : Int) (hz : chunkE own C k ≠ 0) :
    Calls Tryd.prog 60 #[.pointer (some ⟨R.m, 0, none⟩), .int .i64 k] w fun e w' => e = .returned (.int .i64 (chunkE own C k)) ∧ w = w' := by
  have hu := Lib.hid (rchunk_any h k)
  generalize chunkE own C k = y at *
  have d : (y == 0) = false := by simp; omega
  go_enter Tryd.func60, Tryd.ntmps60
  go_wp2_with (first
    | (go_at_call 72; refine hu.out.mono ?_; rintro e w' ⟨rfl, rfl⟩))
  go_ret
  exact ⟨rfl, rfl⟩
set_option maxHeartbeats 400000 in
theorem rgive_ok (h : RfAt w R C K own wd) (j x : Nat) (hj : j < C) (ho : own j ≠ 0) (h0 : 0 < x) :
    Calls Tryd.prog 71 #[.pointer (some ⟨R.m, 0, none⟩), .int .i64 j, .int .i64 x] w (RWrotePost w R C K (fun q => if q = j then x else own q) wd) := by
  have c1 := h.owners
  have hC := h.C2
  have hu := rchunk_any h (j : Int)
  rw [chunkE_in hj, if_neg ho] at hu
  have HU := Lib.hid hu
  have c4 := h.orow.cell j hj
  have c5 := h.orow.thaw j hj
  have hs := Lib.hid (h.gave j x)
  clear ho hu h
  have d : decide ((x : Int) < 1) = false := by simp; omega
  go_enter Tryd.func71, Tryd.ntmps71
  go_wp2_with (first
    | (go_at_call 72; refine HU.out.mono ?_; rintro e w' ⟨rfl, rfl⟩))
  go_ret
  exact ⟨rfl, (OnlyIn.refl _ _).setCell (by simp) _ _, hs.out⟩
set_option maxHeartbeats 400000 in
theorem rgive_no (h : RfAt w R C K own wd) (k o : Int) (hz : giveE own C k o ≠ 0) :
    Calls Tryd.prog 71 #[.pointer (some ⟨R.m, 0, none⟩), .int .i64 k, .int .i64 o] w fun e w' => e = .returned (.int .i64 (giveE own C k o)) ∧ w = w' := by
  have hu := Lib.hid (rchunk_any h k)
  unfold giveE at *
  by_cases h1 : o < 1
  · rw [if_pos h1]
    go_enter Tryd.func71, Tryd.ntmps71
    go_wp2
    go_ret
    exact ⟨rfl, rfl⟩
  · rw [if_neg h1] at hz ⊢
    generalize chunkE own C k = y at *
    have d : (y == 0) = false := by simp; omega
    have h2 : 1 ≤ o := by omega
    go_enter Tryd.func71, Tryd.ntmps71
    go_wp2_with (first
      | (go_at_call 72; refine hu.out.mono ?_; rintro e w' ⟨rfl, rfl⟩))
    go_ret
    exact ⟨rfl, rfl⟩
end
end Go.Proofs.YteencfldehcbbaaDoor
