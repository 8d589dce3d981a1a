/- Contract of New of package table, its counts, and what is told of none. -/
import Derived.Test.YtldlolgdglmocaaDoorTbWrite
import Derived.Laws.MakeOwn
namespace Go.Proofs.YtldlolgdglmocaaDoor
open Go.RowKit

theorem run_make_rows {P : Program} (t e : TypeId) (zs : Array Value) (size bytes : Nat) (ht : P.underlying t = some (.slice e)) (hinfo : (P.info? e).map (fun i => (i.zero.map Value.cells, i.size, i.bytes)) = some (some zs, size, bytes))
    (n : Nat) (hbytes : bytes * n ≤ 281474976710656) (h63 : n ≤ 9223372036854775807) (w : World) :
    (Instr.makeSlice t (.int .i64 (n : Int)) (.int .i64 (n : Int))).run P w = .ok (.slice (some ⟨w.heap.size, 0, none⟩) n n) (w.alloc (.cells (madeCells zs (n * size)) e)) := by
  obtain ⟨i, hi, hzz⟩ := Option.map_eq_some_iff.1 hinfo
  simp only [Prod.mk.injEq] at hzz
  obtain ⟨hz, hs, hb⟩ := hzz
  obtain ⟨z, hz1, hz2⟩ := Option.map_eq_some_iff.1 hz
  have hb' : (i.bytes : Int) * (n : Int) ≤ 281474976710656 := by
    have h : ((i.bytes * n : Nat) : Int) ≤ 281474976710656 := by rw [hb]; omega
    rwa [Int.natCast_mul] at h
  have hr := run_make (P := P) w t e i z ht hi hz1 .i64 .i64 n n (by omega) (Int.le_refl _) hb' (by omega)
  simp only [Int.toNat_natCast, hs, hz2] at hr
  exact hr
theorem made_in (zs : Array Value) (m i : Nat) (h : i < m) : (madeCells zs m)[i]? = some (zs[i % zs.size]!) := by
  simp [madeCells, h]

/-- The slots while New goes over them. -/
def newSt (k : Nat) : Nat → Sl := fun j => ⟨if j < k then 1 else 256, false, En.zero⟩
theorem newSt_next (k : Nat) : upd (newSt k) k ⟨1, false, (newSt k k).e⟩ = newSt (k + 1) := by
  funext q
  unfold upd newSt
  by_cases e : q = k
  · subst e
    simp
  · rw [if_neg e]
    by_cases h : q < k
    · rw [if_pos h, if_pos (by omega)]
    · rw [if_neg h, if_neg (by omega)]

def TNewPost (N : Nat) (w : World) (e : Ending) (w' : World) : Prop :=
  ∃ B : TB, e = .returned (.tuple #[.pointer (some ⟨B.t, 0, none⟩), .int .i64 0]) ∧ TbAt w' B N (fun _ => Sl.first) ∧ Below w.heap.size w w' ∧ B.within w.heap.size w'.heap.size
theorem tnew_no (n : Int) (w : World) (h : n < 1 ∨ 4096 < n) :
    Calls Tryd.prog 9 #[.int .i64 n] w fun e w' => e = .returned (.tuple #[.pointer none, .int .i64 3]) ∧ w = w' := by
  rcases h with h | h
  · go_enter Tryd.func9, Tryd.ntmps9
    go_wp2
    go_ret2
    exact ⟨rfl, rfl⟩
  · have h0 : 1 ≤ n := by omega
    go_enter Tryd.func9, Tryd.ntmps9
    go_wp2
    go_ret2
    exact ⟨rfl, rfl⟩
theorem half_made {w2 : World} {N : Nat} {B : TB} (h1 : Whole w2 B.s 69 (madeCells #[.int .i64 0, .int .i64 0, .int .i64 0, .bool false, .bool false] (N * 5))) (h2 : Whole w2 B.t 67 #[.slice (some ⟨B.s, 0, none⟩) N N, .pointer (some ⟨B.ub, 0, none⟩), .pointer (some ⟨B.kb, 0, none⟩)]) : Half w2 B N (newSt 0) := by
  refine ⟨(h2.cell 0).trans rfl, (h2.cell 1).trans rfl, (h2.cell 2).trans rfl, fun k hk => ⟨?_, ?_, ?_, ?_, ?_⟩, fun k _ => h1.free k⟩
  · rw [h1.cell, made_in _ _ _ (by omega)]; simp [newSt, tg]
  · rw [h1.cell, made_in _ _ _ (by omega), show (k * 5 + 1) % (#[Value.int .i64 0, .int .i64 0, .int .i64 0, .bool false, .bool false] : Array Value).size = 1 by first | (simp; done) | (simp; omega)]; rfl
  · rw [h1.cell, made_in _ _ _ (by omega), show (k * 5 + 2) % (#[Value.int .i64 0, .int .i64 0, .int .i64 0, .bool false, .bool false] : Array Value).size = 2 by first | (simp; done) | (simp; omega)]; rfl
  · rw [h1.cell, made_in _ _ _ (by omega), show (k * 5 + 3) % (#[Value.int .i64 0, .int .i64 0, .int .i64 0, .bool false, .bool false] : Array Value).size = 3 by first | (simp; done) | (simp; omega)]; rfl
  · rw [h1.cell, made_in _ _ _ (by omega), show (k * 5 + 4) % (#[Value.int .i64 0, .int .i64 0, .int .i64 0, .bool false, .bool false] : Array Value).size = 4 by first | (simp; done) | (simp; omega)]; rfl

set_option maxHeartbeats 1000000 in
theorem tnew_ok (N : Nat) (w : World) (N1 : 1 ≤ N) (N2 : N ≤ 4096) :
    Calls Tryd.prog 9 #[.int .i64 N] w (TNewPost N w) := by
  have hmk := run_make_rows (P := Tryd.prog) 65 69 #[.int .i64 0, .int .i64 0, .int .i64 0, .bool false, .bool false] 5 32 Tryd.underlying65 (by kernel_rfl) N (by omega) (by omega)
  go_enter Tryd.func9, Tryd.ntmps9
  go_wp2_with fail
  refine (new_ok N _ N1 (by omega)).mono ?_
  rintro e w1 ⟨rfl, hm1, hb1, hs1⟩
  obtain ⟨ub, hub⟩ : ∃ b, b = w.heap.size + 1 := ⟨_, rfl⟩
  obtain ⟨uc, huc⟩ : ∃ c, c = w.heap.size := ⟨_, rfl⟩
  rw [← hub] at hm1 ⊢
  rw [← huc] at hm1
  have a1 : w.heap.size ≤ ub := by omega
  have a2 : w.heap.size ≤ uc := by omega
  have a3 : ub < w1.heap.size := by omega
  have a4 : uc < w1.heap.size := by omega
  clear hub huc hs1
  go_wp2_with fail
  refine (new_ok N _ N1 (by omega)).mono ?_
  rintro e w2 ⟨rfl, hm2, hb2, hs2⟩
  obtain ⟨kb, hkb⟩ : ∃ b, b = w1.heap.size + 1 := ⟨_, rfl⟩
  obtain ⟨kc, hkc⟩ : ∃ c, c = w1.heap.size := ⟨_, rfl⟩
  rw [← hkb] at hm2 ⊢
  rw [← hkc] at hm2
  have a5 : w1.heap.size ≤ kb := by omega
  have a6 : w1.heap.size ≤ kc := by omega
  have a7 : kb < w2.heap.size := by omega
  have a8 : kc < w2.heap.size := by omega
  clear hkb hkc hs2
  have h1 := (Whole.fresh w2 69 (madeCells #[.int .i64 0, .int .i64 0, .int .i64 0, .bool false, .bool false] (N * 5))).alloc (.cells #[.slice (some ⟨w2.heap.size, 0, none⟩) N N, .pointer (some ⟨ub, 0, none⟩), .pointer (some ⟨kb, 0, none⟩)] 67)
  have h2 := Whole.fresh (w2.alloc (.cells (madeCells #[.int .i64 0, .int .i64 0, .int .i64 0, .bool false, .bool false] (N * 5)) 69)) 67 #[.slice (some ⟨w2.heap.size, 0, none⟩) N N, .pointer (some ⟨ub, 0, none⟩), .pointer (some ⟨kb, 0, none⟩)]
  rw [World.size_alloc] at h2
  obtain ⟨W, hW⟩ : ∃ W, W = (w2.alloc (.cells (madeCells #[.int .i64 0, .int .i64 0, .int .i64 0, .bool false, .bool false] (N * 5)) 69)).alloc (.cells #[.slice (some ⟨w2.heap.size, 0, none⟩) N N, .pointer (some ⟨ub, 0, none⟩), .pointer (some ⟨kb, 0, none⟩)] 67) := ⟨_, rfl⟩
  have hh := half_made (B := ⟨w2.heap.size + 1, w2.heap.size, ub, uc, kb, kc⟩) h1 h2
  have hbW : Below w2.heap.size w2 W := by rw [hW]; exact ((Below.refl _ _).alloc (Nat.le_refl _) _).alloc (by simp) _
  have hsW : W.heap.size = w2.heap.size + 2 := by rw [hW]; simp
  have HW := Lib.hid hW
  rw [← hW] at hh h1 h2
  obtain ⟨B, hB⟩ : ∃ B : TB, B = ⟨w2.heap.size + 1, w2.heap.size, ub, uc, kb, kc⟩ := ⟨_, rfl⟩
  rw [← hB] at hh
  have HBt := Lib.hid hB
  have r0 := hh.row
  have et : B.t = w2.heap.size + 1 := by rw [hB]
  rw [et] at r0
  have HH := Lib.hid hh
  have HM1 := Lib.hid hm1
  have HM2 := Lib.hid hm2
  have HB2 := Lib.hid hb2
  have HB1 := Lib.hid hb1
  have HBW := Lib.hid hbW
  have HSW := Lib.hid hsW
  rw [hW] at r0
  clear hh hW hB et hm1 hm2 hb1 hb2 hbW hsW h1 h2
  go_wp2_with fail
  go_loopw [42] (fun x wr => ∃ k : Nat, k ≤ N ∧ x = .int .i64 k ∧ Half wr B N (newSt k) ∧ OnlyAt B.s W wr) (fun x _ => N - (intOf x).toNat)
  case atStart => exact ⟨0, Nat.zero_le _, rfl, by rw [← HW.out]; exact HH.out, by rw [← HW.out]; exact OnlyAt.refl _ _⟩
  case round =>
    obtain ⟨k, hk, rfl, hr, ho⟩ := hrel
    have et : B.t = w2.heap.size + 1 := by rw [HBt.out]
    have es : B.s = w2.heap.size := by rw [HBt.out]
    have r1 := hr.row
    by_cases hlt : k < N
    · have p0 := (hr.slot k hlt).g
      have q0 := hr.thaw (k * 5) (by omega)
      have N1 := hr.gens (by omega) k hlt 1 false
      rw [newSt_next] at N1
      change Half (wr.setCell ⟨B.s, k * 5, none⟩ (.int .i64 1)) B N (newSt (k + 1)) at N1
      have NN := Lib.hid N1
      have HO := Lib.hid ho
      rw [et, es] at r1
      rw [es] at p0 q0 NN HO
      clear hr N1 ho et es
      go_wp2
      go_roundw
      case rel => exact ⟨k + 1, by omega, by go_num, NN.out, by have es : B.s = w2.heap.size := by rw [HBt.out]
                                                                rw [es]; exact HO.out.setCell _ _⟩
      case measure => simp [intOf]; omega
    · obtain rfl : k = N := by omega
      have HR := Lib.hid hr
      have HO := Lib.hid ho
      clear hr ho et es r1
      go_wp2
      go_ret2
      have ho := HO.out
      have hr := HR.out
      have hBW := HBW.out
      have hsW := HSW.out
      have hs2 := HB2.out.size
      have hs1 := HB1.out.size
      have hs := ho.size
      have eB := HBt.out
      have e1 : B.t = w2.heap.size + 1 := by rw [eB]
      have e2 : B.s = w2.heap.size := by rw [eB]
      have e3 : B.ub = ub := by rw [eB]
      have e4 : B.uc = uc := by rw [eB]
      have e5 : B.kb = kb := by rw [eB]
      have e6 : B.kc = kc := by rw [eB]
      have f : ∀ S : Nat → Sl, (∀ j, j < k → S j = newSt k j) → Half wr B k S := fun S hS => ⟨hr.row, hr.used, hr.taken, fun j hj => by rw [hS j hj]; exact hr.slot j hj, hr.thaw⟩
      have hf := f (fun _ => Sl.first) (fun j hj => by unfold newSt Sl.first; rw [if_pos hj])
      refine ⟨B, by rw [e1]; rfl, ⟨N1, N2, hf.row, hf.used, hf.taken, hf.slot, hf.thaw, ⟨fun _ => 0, ?_, ?_⟩, ⟨fun _ => 0, ?_, ?_⟩, (fun _ => ⟨by decide, by decide⟩), (fun _ h => by cases h), (fun _ _ => rfl), ⟨⟨by omega, by omega, by omega⟩, ⟨by omega, by omega, by omega, by omega⟩, by omega, by omega, by omega⟩⟩, ?_, ⟨⟨by omega, by omega⟩, ⟨by omega, by omega⟩, ⟨by omega, by omega⟩, ⟨by omega, by omega⟩, ⟨by omega, by omega⟩, by omega, by omega⟩⟩
      · rw [e3, e4]
        exact (((HM1.out.below HB2.out a3 a4).below hBW (by omega) (by omega)).only ho (by omega) (by omega))
      · funext q
        simp [BM.on, isUsed, Sl.first]
      · rw [e5, e6]
        exact ((HM2.out.below hBW a7 a8).only ho (by omega) (by omega))
      · funext q
        simp [BM.on, isTaken, Sl.first]
      · exact HB1.out.trans ((HB2.out.mono hs1).trans ((hBW.mono (by omega)).trans (ho.below (by omega))))

section
variable {w : World} {B : TB} {N : Nat} {S : Nat → Sl}
set_option maxHeartbeats 400000 in
theorem used_any (h : TbAt w B N S) : Calls Tryd.prog 20 #[.pointer (some ⟨B.t, 0, none⟩)] w fun e w' => e = .returned (.int .i64 (BM.cnt (isUsed S) N : Nat)) ∧ w = w' := by
  have c1 := h.used
  obtain ⟨ws, hm, hq⟩ := h.umap
  have hc := count_any B.ub B.uc N ws w hm
  rw [hq] at hc
  have HC := Lib.hid hc
  clear hc
  go_enter Tryd.func20, Tryd.ntmps20
  go_wp2_with (first
    | (go_at_call 37; refine HC.out.mono ?_; rintro e w' ⟨rfl, rfl⟩))
  go_ret
  exact ⟨rfl, rfl⟩
set_option maxHeartbeats 400000 in
theorem left_any (h : TbAt w B N S) : Calls Tryd.prog 21 #[.pointer (some ⟨B.t, 0, none⟩)] w fun e w' => e = .returned (.int .i64 ((N - BM.cnt (isTaken S) N : Nat) : Nat)) ∧ ∃ m, w' = w.drewN m := by
  have c0 := h.row
  have c1 := h.taken
  have hN := h.N2
  obtain ⟨ws, hm, hq⟩ := h.kmap
  have hle := BM.cnt_le (isTaken S) N
  have hc := fun (W : World) (hW : W.heap = w.heap) => count_any B.kb B.kc N ws W (hm.heap hW)
  rw [hq] at hc
  have HC := Lib.hid hc
  clear hc
  generalize BM.cnt (isTaken S) N = n at *
  go_enter Tryd.func21, Tryd.ntmps21
  go_wp2
  go_quiet ((go_at_call 37; exact Calls.quiet_of_same ((HC.out _ (by exact rfl)).mono fun _ _ ⟨he, hw⟩ => ⟨he, hw.symm⟩)))
  go_wp2
  go_ret
  exact ⟨ret_int (by omega), _, rfl⟩
theorem cnt_mono (f g : Nat → Bool) (n : Nat) (h : ∀ i, f i = true → g i = true) : BM.cnt f n ≤ BM.cnt g n := by
  induction n with
  | zero => exact Nat.le_refl _
  | succ n ih =>
    unfold BM.cnt
    cases e : f n
    · cases g n <;> simp <;> omega
    · rw [h n e]; simp; omega
end

theorem used_nil (w : World) : Calls Tryd.prog 20 #[.pointer none] w fun e w' => e = .returned (.int .i64 0) ∧ w = w' := by
  go_enter Tryd.func20, Tryd.ntmps20
  go_wp2
  go_ret
  exact ⟨rfl, rfl⟩
theorem left_nil (w : World) : Calls Tryd.prog 21 #[.pointer none] w fun e w' => e = .returned (.int .i64 0) ∧ w = w' := by
  go_enter Tryd.func21, Tryd.ntmps21
  go_wp2
  go_ret
  exact ⟨rfl, rfl⟩
theorem retired_nil (w : World) : Calls Tryd.prog 22 #[.pointer none] w fun e w' => e = .returned (.int .i64 0) ∧ w = w' := by
  go_enter Tryd.func22, Tryd.ntmps22
  go_wp2
  go_ret
  exact ⟨rfl, rfl⟩
end Go.Proofs.YtldlolgdglmocaaDoor
