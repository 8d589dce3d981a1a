/- A law's state: a set made since the law began; slices of acts; alive, grown. -/
import Derived.Test.YtehkcflbdmkjpaaRsRefP
namespace Go.Proofs.Ytehkcflbdmkjpaa
open Go.RowKit Go.Maps Go.Sort

/-- All that was there but maps is as it was. -/
structure Md (w w' : World) : Prop where
  os : w'.os = w.os
  tape : w'.tape = w.tape
  output : w'.output = w.output
  size : w.heap.size ≤ w'.heap.size
  block : ∀ k, k < w.heap.size → ¬ MapB w k → w'.heap[k]? = w.heap[k]?
section
variable {w w' a b d : World} {S : List Nat} {r lo base : Nat} {L : RM.L} {v : Value} {l : List RM.R} {t : TypeId} {cs : Array Value}
theorem Md.refl (w : World) : Md w w := ⟨rfl, rfl, rfl, Nat.le_refl _, fun _ _ _ => rfl⟩
theorem Md.trans (h : Md a b) (k : Md b d) : Md a d :=
  ⟨k.os.trans h.os, k.tape.trans h.tape, k.output.trans h.output, Nat.le_trans h.size k.size, fun i hi hm => by
    have e := h.block i hi hm
    refine (k.block i (Nat.lt_of_lt_of_le hi h.size) fun hb => hm (hb.keep e.symm)).trans e⟩
theorem Md.of_below (h : Below w.heap.size w w') : Md w w' := ⟨h.os, h.tape, h.output, h.size, fun k hk _ => h.block k hk⟩
theorem Md.of_aft (h : Aft S w w') (hS : ∀ x ∈ S, MapB w x) : Md w w' := ⟨h.os, h.tape, h.output, h.size, fun k hk hm => h.block k hk fun hx => hm (hS k hx)⟩
theorem whole_notmap (h : Whole w r t cs) : ¬ MapB w r := fun hm => hm.ne h rfl
theorem Md.whole (h : Md a b) (k : Whole a r t cs) : Whole b r t cs := (h.block r k.lt (whole_notmap k)).trans k
theorem NewT.md (h : NewT base a v l) (k : Md a b) : NewT base b v l := h.keep fun g _ _ ⟨_, hg⟩ => k.block g hg.lt (whole_notmap hg)
theorem DocAt.md (h : DocAt a r lo L) (k : Md a b) : DocAt b r lo L := by
  obtain ⟨v, h1, h2⟩ := h.box
  exact ⟨⟨v, k.whole h1, h2.keep fun g _ _ ⟨_, hg⟩ => k.block g hg.lt (whole_notmap hg)⟩, h.up⟩
end

/-- A law's set: its box p; no more than n references were put. -/
structure Cs (w0 w : World) (p n : Nat) (L : RM.L) : Prop where
  ex : ∃ B c, B.b = p ∧ RsAt w B c L ∧ (∀ x ∈ B.b :: B.wr, w0.heap.size ≤ x) ∧ c ≤ n
  bel : Below w0.heap.size w0 w
  len : L.length ≤ n
section
variable {w0 w w' : World} {p n : Nat} {L : RM.L} {S : List Nat} {r : RM.R} {t : Int}
theorem Cs.up (h : Cs w0 w p n L) : RM.Up L := by obtain ⟨B, c, _, h1, _⟩ := h.ex; exact h1.up
theorem Cs.ok (h : Cs w0 w p n L) : ∀ x ∈ L, RefOk x.1 ∧ I64ok x.2 := fun x hx => by obtain ⟨B, c, _, h1, _⟩ := h.ex; exact ⟨h1.map.ok x hx, h1.val x hx⟩
theorem Cs.below (h : Cs w0 w p n L) (k : Below w.heap.size w w') : Cs w0 w' p n L := by
  obtain ⟨B, c, e, h1, h2, h3⟩ := h.ex
  exact ⟨⟨B, c, e, h1.below k, h2, h3⟩, h.bel.trans (k.mono h.bel.size), h.len⟩
theorem Cs.box (h : Cs w0 w p n L) : ∃ cs, Whole w p 53 cs := by
  obtain ⟨B, c, e, h1, _⟩ := h.ex
  exact ⟨_, e ▸ h1.box⟩
theorem Cs.ge (h : Cs w0 w p n L) : w0.heap.size ≤ p := by
  obtain ⟨B, c, e, h1, h2, _⟩ := h.ex
  rw [← e]; exact h2 _ (by simp)
theorem Cs.more (h : Cs w0 w p n L) {m : Nat} (hm : n ≤ m) : Cs w0 w p m L := by
  obtain ⟨B, c, e, h1, h2, h3⟩ := h.ex
  exact ⟨⟨B, c, e, h1, h2, by omega⟩, h.bel, by have := h.len; omega⟩
/-- Where blocks have turned that are no maps, and not the box, all made since. -/
theorem Cs.aft (h : Cs w0 w p n L) (k : Aft S w w') (hS : ∀ x ∈ S, ¬ MapB w x ∧ x ≠ p ∧ w0.heap.size ≤ x) : Cs w0 w' p n L := by
  obtain ⟨B, c, e, h1, h2, h3⟩ := h.ex
  refine ⟨⟨B, c, e, h1.aft k fun x hx hs => ?_, h2, h3⟩, h.bel.trans (k.below (fun c hc => (hS c hc).2.2) h.bel.size), h.len⟩
  rcases List.mem_cons.1 hx with rfl | hx
  · exact (hS _ hs).2.1 e
  · exact (hS x hs).1 (h1.mapB x hx)

/-- What is left by a call that writes a law's set. -/
def CsE (w0 : World) (p n : Nat) (L : RM.L) (v : Value) (w : World) (e : Ending) (w' : World) : Prop := e = .returned v ∧ Cs w0 w' p n L ∧ Md w w'
theorem cput (h : Cs w0 w p n L) (hr : RefOk r) (ht : I64ok t) (hn : n < 100000) : Calls Try.prog 11 #[.pointer (some ⟨p, 0, none⟩), refV r, .int .i64 t] w (CsE w0 p (n + 1) (RM.put L r t) (.bool (!RM.has L r)) w) := by
  obtain ⟨B, c, rfl, h1, h2, h3⟩ := h.ex
  have hl := h.len
  refine (rput_any h1 hr ht (by omega) (by omega)).mono ?_
  rintro e w' ⟨rfl, B', hb, h4, _, h6, ha⟩
  refine ⟨rfl, ⟨⟨B', c + 1, hb, h4, fun x hx => ?_, by omega⟩, h.bel.trans (ha.below (fun c hc => h2 c (List.mem_cons_of_mem _ hc)) h.bel.size), by rw [RM.put_len h1.up]; split <;> omega⟩, Md.of_aft ha h1.mapB⟩
  rcases List.mem_cons.1 hx with rfl | hx
  · rw [hb]; exact h2 _ (by simp)
  · rcases h6 x hx with h7 | h7
    · exact h2 x (List.mem_cons_of_mem _ h7)
    · exact Nat.le_trans h.bel.size h7
theorem ccut (h : Cs w0 w p n L) (hr : RefOk r) : Calls Try.prog 12 #[.pointer (some ⟨p, 0, none⟩), refV r] w (CsE w0 p n (RM.cut L r) (.bool (RM.has L r)) w) := by
  obtain ⟨B, c, rfl, h1, h2, h3⟩ := h.ex
  refine (rcut_any h1 hr).mono ?_
  rintro e w' ⟨rfl, h4, ha⟩
  exact ⟨rfl, ⟨⟨B, c, rfl, h4, h2, h3⟩, h.bel.trans (ha.below (fun c hc => h2 c (List.mem_cons_of_mem _ hc)) h.bel.size), Nat.le_trans (RM.cut_le _ _) h.len⟩, Md.of_aft ha h1.mapB⟩
theorem cforget (h : Cs w0 w p n L) (ht : I64ok t) (hn : n < 100000) : Calls Try.prog 15 #[.pointer (some ⟨p, 0, none⟩), .int .i64 t] w (CsE w0 p n (RM.forget L t) (.int .i64 ((RM.frm L t).length : Nat)) w) := by
  obtain ⟨B, c, rfl, h1, h2, h3⟩ := h.ex
  have hl := h.len
  refine (rforget_any h1 ht (by omega)).mono ?_
  rintro e w' ⟨rfl, h4, ha⟩
  exact ⟨rfl, ⟨⟨B, c, rfl, h4, h2, h3⟩, h.bel.trans (ha.below (fun c hc => h2 c (List.mem_cons_of_mem _ hc)) h.bel.size), by rw [RM.forget_len]; omega⟩, Md.of_aft ha h1.mapB⟩
theorem cof (h : Cs w0 w p n L) (ht : I64ok t) (hn : n < 100000) : Calls Try.prog 13 #[.pointer (some ⟨p, 0, none⟩), .int .i64 t] w (RowT (RM.of L t) w) := by
  obtain ⟨B, c, rfl, h1, _, _⟩ := h.ex
  have hl := h.len
  exact rof_any h1 ht (by omega)
theorem cfrm (h : Cs w0 w p n L) (ht : I64ok t) (hn : n < 100000) : Calls Try.prog 14 #[.pointer (some ⟨p, 0, none⟩), .int .i64 t] w (RowT (RM.frm L t) w) := by
  obtain ⟨B, c, rfl, h1, _, _⟩ := h.ex
  have hl := h.len
  exact rfrom_any h1 ht (by omega)
theorem cto (h : Cs w0 w p n L) (hr : RefOk r) : Calls Try.prog 8 #[.pointer (some ⟨p, 0, none⟩), refV r] w fun e w' => e = .returned (.tuple #[.int .i64 (RM.toV L r), .bool (RM.has L r)]) ∧ Below w.heap.size w w' := by
  obtain ⟨B, c, rfl, h1, _, _⟩ := h.ex
  exact rto_any h1 hr
theorem clen (h : Cs w0 w p n L) : Calls Try.prog 16 #[.pointer (some ⟨p, 0, none⟩)] w fun e w' => e = .returned (.int .i64 (L.length : Nat)) ∧ w = w' := by
  obtain ⟨B, c, rfl, h1, _, _⟩ := h.ex
  exact rlen_any h1
/-- What New leaves, for a law. -/
def CnE (w : World) (e : Ending) (w' : World) : Prop := ∃ p, e = .returned (.pointer (some ⟨p, 0, none⟩)) ∧ Cs w w' p 0 []
theorem cnew (w : World) : Calls Try.prog 9 #[] w (CnE w) :=
  (rnew_any w).mono fun _ _ ⟨B, he, h1, h2, hb⟩ => ⟨B.b, he, ⟨B, 0, rfl, h1, h2, Nat.le_refl _⟩, hb, Nat.le_refl _⟩
/-- A law that began earlier. -/
theorem Cs.since {w00 : World} (h : Cs w0 w p n L) (hb : Below w00.heap.size w00 w0) : Cs w00 w p n L := by
  obtain ⟨B, c, e, h1, h2, h3⟩ := h.ex
  exact ⟨⟨B, c, e, h1, fun x hx => Nat.le_trans hb.size (h2 x hx), h3⟩, hb.trans (h.bel.mono hb.size), h.len⟩
end

theorem refOk_lit (a b : Nat) (ha : a ≤ 1000) (hb : b ≤ 1000) : RefOk ((a : Int), (b : Int)) := ⟨ok_nat (by omega), ok_nat (by omega)⟩
/-- A slice literal of one reference. -/
theorem newT_one (w : World) (r : RM.R) : NewT w.heap.size (w.alloc (.cells #[.int .i64 r.1, .int .i64 r.2] 24)) (.slice (some ⟨w.heap.size, 0, none⟩) 1 1) [r] :=
  ⟨rfl, .inr ⟨w.heap.size, 1, _, rfl, Nat.le_refl _, World.alloc_heap_new w _, by simp, by decide, rfl, rfl⟩⟩

set_option maxHeartbeats 4000000 in
set_option maxRecDepth 100000 in
theorem alive_any (w : World) : Calls Try.prog 10 #[] w fun e w' => e = .returned (.bool true) ∧ Below w.heap.size w w' := by
  have o1 := refOk_lit 3 1 (by omega) (by omega)
  have o2 := refOk_lit 2 5 (by omega) (by omega)
  have HN := Lib.hid (cnew w)
  go_enter Try.func10, Try.ntmps10
  go_wp2_with fail
  refine HN.out.mono ?_
  rintro e w1 ⟨p, rfl, h1⟩
  have HP := Lib.hid (cput h1 o1 (ok_nat (x := 7) (by omega)) (by omega))
  rw [show RM.put [] ((3 : Nat), (1 : Nat)) ((7 : Nat) : Int) = [((3, 1), 7)] from rfl, show RM.has [] ((3 : Nat), (1 : Nat)) = false from rfl] at HP
  clear h1
  unfold refV at HP
  go_wp2_with fail
  refine HP.out.mono ?_
  rintro e w2 ⟨rfl, h2, _⟩
  have HP2 := Lib.hid (cput h2 o2 (ok_nat (x := 7) (by omega)) (by omega))
  rw [show RM.put [((3, 1), 7)] ((2 : Nat), (5 : Nat)) ((7 : Nat) : Int) = [((2, 5), 7), ((3, 1), 7)] by decide, show RM.has [((3, 1), 7)] ((2 : Nat), (5 : Nat)) = false by decide] at HP2
  clear h2
  unfold refV at HP2
  go_wp2_with fail
  refine HP2.out.mono ?_
  rintro e w3 ⟨rfl, h3, _⟩
  have HP3 := Lib.hid (cput h3 o1 (ok_nat (x := 8) (by omega)) (by omega))
  rw [show RM.put [((2, 5), 7), ((3, 1), 7)] ((3 : Nat), (1 : Nat)) ((8 : Nat) : Int) = [((2, 5), 7), ((3, 1), 8)] by decide, show RM.has [((2, 5), 7), ((3, 1), 7)] ((3 : Nat), (1 : Nat)) = true by decide] at HP3
  clear h3
  unfold refV at HP3
  go_wp2_with fail
  refine HP3.out.mono ?_
  rintro e w4 ⟨rfl, h4, _⟩
  have HO := Lib.hid (cof h4 (ok_nat (x := 7) (by omega)) (by omega))
  rw [show RM.of [((2, 5), 7), ((3, 1), 8)] ((7 : Nat) : Int) = [(2, 5)] by decide] at HO
  have H4 := Lib.hid h4
  clear h4
  go_wp2_with fail
  refine HO.out.mono ?_
  rintro e w5 ⟨v5, rfl, hv5, hb5⟩
  have H5 := Lib.hid (H4.out.below hb5)
  have hb6 := (Below.refl w5.heap.size w5).alloc (Nat.le_refl _) (.cells #[.int .i64 2, .int .i64 5] 24)
  have HS := Lib.hid (dsame_any (hv5.below hb6) (newT_one w5 (2, 5)) (by simp) (by simp))
  rw [show decide ([((2 : Int), (5 : Int))] = [(2, 5)]) = true by decide] at HS
  have HB6 := Lib.hid hb6
  obtain ⟨A5, c5, rfl, _⟩ := hv5.slice
  clear hv5 hb5 hb6
  go_wp2_with fail
  refine HS.out.mono ?_
  rintro e w6 ⟨rfl, hb7⟩
  have h6 := H5.out.below (HB6.out.trans (hb7.mono HB6.out.size))
  have HF := Lib.hid (cfrm h6 (ok_nat (x := 3) (by omega)) (by omega))
  rw [show RM.frm [((2, 5), 7), ((3, 1), 8)] ((3 : Nat) : Int) = [(3, 1)] by decide] at HF
  have H6 := Lib.hid h6
  clear h6 hb7
  go_wp2_with fail
  refine HF.out.mono ?_
  rintro e w7 ⟨v7, rfl, hv7, hb8⟩
  have H7 := Lib.hid (H6.out.below hb8)
  have hb9 := (Below.refl w7.heap.size w7).alloc (Nat.le_refl _) (.cells #[.int .i64 3, .int .i64 1] 24)
  have HS2 := Lib.hid (dsame_any (hv7.below hb9) (newT_one w7 (3, 1)) (by simp) (by simp))
  rw [show decide ([((3 : Int), (1 : Int))] = [(3, 1)]) = true by decide] at HS2
  have HB9 := Lib.hid hb9
  obtain ⟨A7, c7, rfl, _⟩ := hv7.slice
  clear hv7 hb8 hb9
  go_wp2_with fail
  refine HS2.out.mono ?_
  rintro e w8 ⟨rfl, hb10⟩
  have h8 := H7.out.below (HB9.out.trans (hb10.mono HB9.out.size))
  have HL := Lib.hid (clen h8)
  have HE := Lib.hid h8.bel
  clear h8 hb10
  go_wp2_with fail
  refine HL.out.mono ?_
  rintro e w9 ⟨rfl, rfl⟩
  go_wp2
  go_ret
  exact ⟨rfl, HE.out⟩
end Go.Proofs.Ytehkcflbdmkjpaa
