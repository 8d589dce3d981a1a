/- Contracts of TakeRun and Take of package store. -/
import Derived.Test.YteencfldehcbbaaDoorStWrite
import Derived.Deep.RegionLaw
import Derived.BigRegion
namespace Go.Proofs.YteencfldehcbbaaDoor
open Go.RowKit

theorem wrapOk (n : Int) (h0 : 0 ≤ n) (h1 : n < 9223372036854775808) : IntKind.i64.wrap n = n := by rw [IntKind.wrap_i64]; omega

/-- clear of a slice, as one step of a region that draws. -/
theorem step_clear {P : Program} {ops : Array Oper} {o : Oper} {a : Act} {w : World} {K : Act → World → Prop} {Q : Exit → Act → World → Prop} {E : Prop} (hgd : o.guard = none) (d : Operand) (t : TypeId)
    (ho : o.op = .call { callee := .builtin .clear, args := #[d], argTypes := #[t] }) (e : TypeId) (z : Value) (ht : P.underlying t = some (.slice e)) (hv : ∀ w, (zeroValue e).run P w = .ok z w) (hz : z.cells = #[z]) (h1 : z.oneCell' = true)
    (b off n c : Nat) (hd : a.eval d = .slice (some ⟨b, off, none⟩) n c) (hn : 0 < n) (hc : ∀ j, j < n → (w.cell? ⟨b, off + j, none⟩).isSome = true) (hf : ∀ j, j < n → w.frozen? ⟨b, off + j, none⟩ = false)
    (h : K (a.put o.dst (.tuple #[])) (w.setCells b off (List.replicate n z))) :
    if Region.wanted o (yielded ops a.tmps) = true then Oper.wp P o a w K Q else E := by
  have hw : Region.wanted o (yielded ops a.tmps) = true := by simp [Region.wanted, hgd]
  rw [if_pos hw]
  have hrun := Lib.run_clear_slice (P := P) w t e o.type z ht hv hz h1 b off n c hn hc hf
  unfold Oper.wp
  simp [execOp, ho, resolve, invoke, builtin, hd, hrun, Result.andThen]
  exact h

/-- The owners, with a run that is somebody's. -/
def tkOwn (own : Nat → Nat) (p k x q : Nat) : Nat := if p ≤ q ∧ q < p + k then x else own q
/-- The words, with a run of chunks that are 0. -/
def tkWd (wd : Nat → Nat) (K p k q : Nat) : Nat := if p * K ≤ q ∧ q < (p + k) * K then 0 else wd q

section
variable {w w' : World} {B : SB} {C K : Nat} {own wd : Nat → Nat}
theorem StAt.took (h : StAt w B C K own wd) {p k x : Nat} (hx0 : 0 < x) (hx : x < 9223372036854775808) (hp : p + k ≤ C) (hk : 1 ≤ k) {w1 w2 : World} {ws : Nat → Nat} (hq : BM.on ws = busy own) (ht : Turned w B.b B.c C ws p (p + k) true w1)
    (ho : OnlyAt B.o w1 w2) (hr : Row .i64 w2 B.o C (tkOwn own p k x)) (n : Nat) (hn : n = (p + k) * K - p * K) :
    OnlyIn [B.o, B.c, B.v] w (w2.setCells B.v (p * K) (List.replicate n (.int .u64 0))) ∧ StAt (w2.setCells B.v (p * K) (List.replicate n (.int .u64 0))) B C K (tkOwn own p k x) (tkWd wd K p k) := by
  obtain ⟨⟨n1, n2, n3, n4⟩, ⟨n5, n6, n7⟩, n8, n9⟩ := h.ne
  obtain ⟨hc, ws', hm', hq'⟩ := ht
  have ha := OnlyAt.setCells B.v (List.replicate n (.int .u64 0)) (p * K) w2
  have hO : OnlyIn [B.o, B.c, B.v] w (w2.setCells B.v (p * K) (List.replicate n (.int .u64 0))) := ((OnlyIn.of_at hc (by simp)).trans (OnlyIn.of_at ho (by simp))).trans (OnlyIn.of_at ha (by simp))
  have m1 : p * K ≤ (p + k) * K := Nat.mul_le_mul_right K (by omega)
  have m2 : (p + k) * K ≤ C * K := Nat.mul_le_mul_right K hp
  have hw : Row .u64 w2 B.v (C * K) wd := (h.wrow.block (hc.block _ n7)).block (ho.block _ n5)
  refine ⟨hO, h.turn hO ?_ (hr.block (ha.block _ (Ne.symm n5))) ⟨ws', (hm'.blocks (ho.block _ (Ne.symm n8)) (ho.block _ (Ne.symm n9))).blocks (ha.block _ (Ne.symm n6)) (ha.block _ (Ne.symm n7)), ?_⟩ (fun q => ?_) (fun q => ?_) (fun q hq => ?_)⟩
  · have := hw.storedMany (g := fun _ => 0) (p * K) (List.replicate n (.int .u64 0)) (by rw [List.length_replicate]; omega) (fun j v hv => by
      have := List.mem_of_getElem? hv
      exact List.eq_of_mem_replicate this)
    refine this.congr fun q hq => ?_
    rw [List.length_replicate]
    unfold tkWd
    rw [show p * K + n = (p + k) * K by omega]
  · funext q
    rw [hq' q, hq]
    unfold busy tkOwn
    by_cases e : p ≤ q ∧ q < p + k
    · rw [if_pos e, if_pos e]; simp [hx0]
    · rw [if_neg e, if_neg e]
  · unfold tkWd
    have := h.wlt q
    split <;> omega
  · unfold tkOwn
    have := h.olt q
    split <;> omega
  · unfold tkOwn
    rw [if_neg (by omega)]
    exact h.opast q hq

def TakePost (w : World) (B : SB) (C K : Nat) (own wd : Nat → Nat) (p : Nat) (e : Ending) (w' : World) : Prop :=
  e = .returned (.tuple #[.int .i64 p, .int .i64 0]) ∧ OnlyIn [B.o, B.c, B.v] w w' ∧ StAt w' B C K own wd
def TakeAt (w1 : World) (o C p k x : Nat) (own : Nat → Nat) (v : Value) (wr : World) : Prop :=
  ∃ c : Nat, p ≤ c ∧ c ≤ p + k ∧ v = .int .i64 c ∧ OnlyAt o w1 wr ∧ Row .i64 wr o C (tkOwn own p (c - p) x)
set_option maxHeartbeats 2000000 in
theorem take_ok (h : StAt w B C K own wd) (hT : Tab w) (x k p : Nat) (hx0 : 0 < x) (hx : x < 9223372036854775808) (hk : 1 ≤ k) (hr : BM.rn (busy own) C k = p) (hp : p < C + 1 - k) :
    Calls Tryd.prog 64 #[.pointer (some ⟨B.s, 0, none⟩), .int .i64 x, .int .i64 k] w (TakePost w B C K (tkOwn own p k x) (tkWd wd K p k) p) := by
  have hC := h.C2
  have hM := h.all
  have hK := h.K1
  have hK2 := h.K2
  have c1 := h.taken
  obtain ⟨ws, hm, hq⟩ := h.map
  obtain ⟨⟨n1, n2, n3, n4⟩, ⟨n5, n6, n7⟩, n8, n9⟩ := h.ne
  have hrun := run_any B.b B.c C (k : Int) ws w hm hT (by omega)
  rw [hq, runVal_yes hk hr hp] at hrun
  have HRUN := Lib.hid hrun
  have hfill := fill_ok B.b B.c C p k ws true w hm (by omega)
  have HFILL := Lib.hid hfill
  have m0 : p * K < (p + k) * K := Nat.mul_lt_mul_of_pos_right (by omega) (by omega)
  have m2 : (p + k) * K ≤ C * K := Nat.mul_le_mul_right K (by omega)
  have e1 : (p : Int) * (K : Int) = ((p * K : Nat) : Int) := by simp
  have e2 : ((p : Int) + (k : Int)) * (K : Int) = (((p + k) * K : Nat) : Int) := by simp
  have hfin := Lib.hid (fun w1 w2 ht ho hr => h.took (p := p) (k := k) (x := x) hx0 hx (by omega) hk (w1 := w1) (w2 := w2) hq ht ho hr _ rfl)
  have d0 : decide ((x : Int) < 1) = false := by simp; omega
  have d1 : decide ((k : Int) < 1) = false := by simp; omega
  have HH := Lib.hid h
  clear hrun hfill hq hr hm
  generalize tkWd wd K p k = wd' at *
  generalize hA : p * K = a at *
  generalize hD : (p + k) * K = d at *
  generalize hMM : C * K = M at *
  have HMM := Lib.hid hMM
  have HA := Lib.hid hA
  have HD := Lib.hid hD
  clear hA hD hMM h
  go_enter Tryd.func64, Tryd.ntmps64
  go_wp2_with fail
  refine HRUN.out.mono ?_
  rintro e w' ⟨rfl, rfl⟩
  go_wp2_with fail
  refine HFILL.out.mono ?_
  rintro e w1 ⟨rfl, ht⟩
  have ho1 := ht.1
  have HT1 := Lib.hid ht
  have b0 := (ho1.cell (p := ⟨B.s, 0, none⟩) n4).trans HH.out.size
  have b1 := (ho1.cell (p := ⟨B.s, 1, none⟩) n4).trans HH.out.words
  have b2 := (ho1.cell (p := ⟨B.s, 2, none⟩) n4).trans HH.out.owners
  rw [HMM.out] at b1
  have hrow := HH.out.orow.block (ho1.block _ n9)
  have hwr := HH.out.wrow.block (ho1.block _ n7)
  rw [HMM.out] at hwr
  have HROW := Lib.hid hrow
  have HWR := Lib.hid hwr
  clear ht hrow hwr HRUN HFILL
  go_wp2_with fail
  go_loopw [10] (TakeAt w1 B.o C p k x own) (fun v _ => p + k - (intOf v).toNat)
  case atStart => exact ⟨p, Nat.le_refl _, by omega, rfl, OnlyAt.refl _ _, HROW.out.congr fun q hq => by unfold tkOwn; rw [if_neg (by omega)]⟩
  case round =>
    obtain ⟨c, hc1, hc2, rfl, ho2, hr2⟩ := hrel
    have a0 := (ho2.cell (p := ⟨B.s, 0, none⟩) n2).trans b0
    have a1 := (ho2.cell (p := ⟨B.s, 1, none⟩) n2).trans b1
    have a2 := (ho2.cell (p := ⟨B.s, 2, none⟩) n2).trans b2
    by_cases hlt : c < p + k
    · have c4 := hr2.cell c (by omega)
      have c5 := hr2.thaw c (by omega)
      have HS := Lib.hid (hr2.stored c x)
      have HR2 := Lib.hid hr2
      clear hr2
      go_wp2
      go_roundw
      case rel =>
        refine ⟨c + 1, by omega, by omega, by go_num, ho2.setCell _ _, HS.out.congr fun q hq => ?_⟩
        unfold tkOwn
        by_cases e : q = c
        · rw [if_pos e, if_pos (by omega)]
        · rw [if_neg e]
          by_cases e2 : p ≤ q ∧ q < p + (c - p)
          · rw [if_pos e2, if_pos (by omega)]
          · rw [if_neg e2, if_neg (by omega)]
      case measure => simp [intOf]; omega
    · obtain rfl : c = p + k := by omega
      have hW2 := HWR.out.block (ho2.block B.v n5)
      rw [show p + k - p = k by omega] at hr2
      have F := hfin.out w1 wr.drew HT1.out ⟨ho2.os, ho2.tape, ho2.output, ho2.size, ho2.block⟩ (hr2.block rfl)
      have HF := Lib.hid F
      have HCS := Lib.hid (fun j (hj : j < d - a) => show (wr.cell? ⟨B.v, a + j, none⟩).isSome = true by rw [hW2.cell (a + j) (by omega)]; rfl)
      have HFS := Lib.hid (fun j (hj : j < d - a) => hW2.thaw (a + j) (by omega))
      clear F hr2 hW2
      go_wp2_with fail
      have y1 := wrapOk ((p : Int) + (k : Int)) (by omega) (by omega)
      have y2 := wrapOk (d : Int) (by omega) (by omega)
      have y3 := wrapOk (a : Int) (by omega) (by omega)
      have y4 : max (d : Int) 0 = (d : Int) := by omega
      have y5 : (d : Int) ≤ (M : Int) := by omega
      have y6 : (a : Int) ≤ (d : Int) := by omega
      have y7 : ¬ M = a := by omega
      have y8 : a ≤ d := by omega
      go_region_law (refine step_clear rfl (.tmp 70) 43 rfl 57 (.int .u64 0) Tryd.underlying43 (by intro w; kernel_rfl) rfl rfl B.v a (d - a) (M - a) (by simp [Act.eval, Act.put]) (by omega) (by exact HCS.out) (by exact HFS.out) ?_)
      all_goals
        go_wp2
        go_ret2
        exact ⟨rfl, HF.out⟩

theorem take_arg (a : Addr) (x n : Int) (w : World) (h : x < 1 ∨ n < 1) :
    Calls Tryd.prog 64 #[.pointer (some a), .int .i64 x, .int .i64 n] w fun e w' => e = .returned (.tuple #[.int .i64 0, .int .i64 2]) ∧ w = w' := by
  have h' : x < 1 ∨ (1 ≤ x ∧ n < 1) := by omega
  clear h
  rcases h' with h | ⟨h, h2⟩
  all_goals
    go_enter Tryd.func64, Tryd.ntmps64
    go_wp2
    go_ret2
    exact ⟨rfl, rfl⟩
set_option maxHeartbeats 400000 in
theorem take_full (h : StAt w B C K own wd) (hT : Tab w) (x : Int) (k : Nat) (hx : 1 ≤ x) (hk : 1 ≤ k) (hk2 : k ≤ 9223372036854775807) (hr : ¬ BM.rn (busy own) C k < C + 1 - k) :
    Calls Tryd.prog 64 #[.pointer (some ⟨B.s, 0, none⟩), .int .i64 x, .int .i64 k] w fun e w' => e = .returned (.tuple #[.int .i64 0, .int .i64 11]) ∧ w = w' := by
  have c1 := h.taken
  obtain ⟨ws, hm, hq⟩ := h.map
  have hrun := run_any B.b B.c C (k : Int) ws w hm hT (by omega)
  rw [hq, runVal_no hr] at hrun
  have HRUN := Lib.hid hrun
  clear hrun hr hq hm h
  have d1 : decide ((k : Int) < 1) = false := by simp; omega
  go_enter Tryd.func64, Tryd.ntmps64
  go_wp2_with (first
    | (go_at_call 74; refine HRUN.out.mono ?_; rintro e w' ⟨rfl, rfl⟩))
  go_ret2
  exact ⟨rfl, rfl⟩
theorem take_nil (w : World) (x n : Int) :
    Calls Tryd.prog 64 #[.pointer none, .int .i64 x, .int .i64 n] w fun e w' => e = .returned (.tuple #[.int .i64 0, .int .i64 1]) ∧ w = w' := by
  go_enter Tryd.func64, Tryd.ntmps64
  go_wp2
  go_ret2
  exact ⟨rfl, rfl⟩
/-- Take is TakeRun of one. -/
theorem take_one {P : Option Addr} {x : Int} {u v : Value} {R : World → Prop} (h : Calls Tryd.prog 64 #[.pointer P, .int .i64 x, .int .i64 1] w fun e w' => e = .returned (.tuple #[u, v]) ∧ R w') :
    Calls Tryd.prog 65 #[.pointer P, .int .i64 x] w fun e w' => e = .returned (.tuple #[u, v]) ∧ R w' := by
  have H := Lib.hid h
  clear h
  go_enter Tryd.func65, Tryd.ntmps65
  go_wp2_with (first
    | (go_at_call 64; refine H.out.mono ?_; rintro e w' ⟨rfl, hR⟩; have HR := Lib.hid hR; clear hR))
  go_ret2
  exact ⟨rfl, HR.out⟩
end
end Go.Proofs.YteencfldehcbbaaDoor
