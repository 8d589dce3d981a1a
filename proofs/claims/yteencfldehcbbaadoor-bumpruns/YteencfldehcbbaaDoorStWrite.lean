/- Contracts of Write, Give, Release of package store. -/
import Derived.Test.YteencfldehcbbaaDoorStRead
namespace Go.Proofs.YteencfldehcbbaaDoor
open Go.RowKit

/-- A row of numbers that may be written. -/
structure Row (kd : IntKind) (w : World) (r n : Nat) (f : Nat → Nat) : Prop where
  cell : ∀ k, k < n → w.cell? ⟨r, k, none⟩ = some (.int kd (f k))
  thaw : ∀ k, k < n → w.frozen? ⟨r, k, none⟩ = false
section
variable {kd : IntKind} {w w' : World} {r n : Nat} {f g : Nat → Nat}
theorem Row.block (h : Row kd w r n f) (e : w'.heap[r]? = w.heap[r]?) : Row kd w' r n f :=
  ⟨fun k hk => (World.cell?_of_block (a := ⟨r, k, none⟩) e).trans (h.cell k hk), fun k hk => (World.frozen?_of_block (a := ⟨r, k, none⟩) e).trans (h.thaw k hk)⟩
theorem Row.congr (h : Row kd w r n f) (e : ∀ k, k < n → f k = g k) : Row kd w r n g :=
  ⟨fun k hk => by rw [← e k hk]; exact h.cell k hk, h.thaw⟩
theorem Row.stored (h : Row kd w r n f) (k x : Nat) : Row kd (w.setCell ⟨r, k, none⟩ (.int kd x)) r n (fun q => if q = k then x else f q) := by
  refine ⟨fun j hj => ?_, fun j hj => by rw [World.frozen?_setCell]; exact h.thaw j hj⟩
  by_cases e : j = k
  · subst e
    rw [if_pos rfl]
    exact World.cell?_setCell_same' _ _ _ (by rw [h.cell j hj]; rfl)
  · rw [if_neg e]
    exact (World.cell?_setCell_other _ _ _ _ (by first | (simp; done) | (simp; omega))).trans (h.cell j hj)
theorem Row.storedMany (h : Row kd w r n f) (o : Nat) (cs : List Value) (hn : o + cs.length ≤ n) (hc : ∀ (j : Nat) (v : Value), cs[j]? = some v → v = Value.int kd (g (o + j) : Nat)) :
    Row kd (w.setCells r o cs) r n (fun q => if o ≤ q ∧ q < o + cs.length then g q else f q) := by
  refine ⟨fun j hj => ?_, fun j hj => by rw [World.frozen?_setCells]; exact h.thaw j hj⟩
  by_cases e : o ≤ j ∧ j < o + cs.length
  · rw [if_pos e]
    have := World.cell?_setCells_in r cs o w (fun i hi => by rw [h.cell (o + i) (by omega)]; rfl) (j - o) (by omega)
    rw [show o + (j - o) = j by omega] at this
    rw [this]
    have h2 := hc (j - o) (cs[j - o]'(by omega)) (List.getElem?_eq_getElem (by omega))
    rw [show o + (j - o) = j by omega] at h2
    rw [h2]
  · rw [if_neg e]
    refine (World.cell?_setCells_out r cs o w ⟨r, j, none⟩ (fun _ _ => ?_)).trans (h.cell j hj)
    show j < o ∨ o + cs.length ≤ j
    omega
end

section
variable {w w' : World} {B : SB} {C K : Nat} {own wd own' wd' : Nat → Nat}
theorem StAt.wrow (h : StAt w B C K own wd) : Row .u64 w B.v (C * K) wd := ⟨h.word, h.wthaw⟩
theorem StAt.orow (h : StAt w B C K own wd) : Row .i64 w B.o C own := ⟨h.owner, h.othaw⟩
/-- Behind some writes: the state anew. -/
theorem StAt.turn (h : StAt w B C K own wd) (ho : OnlyIn [B.o, B.c, B.v] w w') (hw : Row .u64 w' B.v (C * K) wd') (hr : Row .i64 w' B.o C own') (hm : ∃ ws, MapAt w' B.b B.c C ws ∧ BM.on ws = busy own')
    (l1 : ∀ k, wd' k < 18446744073709551616) (l2 : ∀ k, own' k < 9223372036854775808) (l3 : ∀ k, C ≤ k → own' k = 0) : StAt w' B C K own' wd' := by
  obtain ⟨⟨n1, n2, n3, n4⟩, ⟨n5, n6, n7⟩, n8, n9⟩ := h.ne
  have es : B.s ∉ [B.o, B.c, B.v] := by simp; exact ⟨n2, n4, n1⟩
  exact ⟨h.C1, h.C2, h.K1, h.K2, (ho.cell (p := ⟨B.s, 0, none⟩) es).trans h.size, (ho.cell (p := ⟨B.s, 1, none⟩) es).trans h.words, (ho.cell (p := ⟨B.s, 2, none⟩) es).trans h.owners, (ho.cell (p := ⟨B.s, 3, none⟩) es).trans h.taken,
    hw.cell, hw.thaw, hr.cell, hr.thaw, hm, h.ne, l1, l2, l3⟩

theorem StAt.wrote (h : StAt w B C K own wd) (j x : Nat) (hx : x < 18446744073709551616) : StAt (w.setCell ⟨B.v, j, none⟩ (.int .u64 x)) B C K own (fun q => if q = j then x else wd q) := by
  obtain ⟨⟨n1, n2, n3, n4⟩, ⟨n5, n6, n7⟩, n8, n9⟩ := h.ne
  have ha := (OnlyAt.refl B.v w).setCell j (.int .u64 x)
  obtain ⟨ws, hm, hq⟩ := h.map
  refine h.turn (OnlyIn.of_at ha (by simp)) (h.wrow.stored j x) (h.orow.block (ha.block _ (Ne.symm n5))) ⟨ws, hm.blocks (ha.block _ (Ne.symm n6)) (ha.block _ (Ne.symm n7)), hq⟩ (fun k => ?_) h.olt h.opast
  show (if k = j then x else wd k) < _
  split
  · exact hx
  · exact h.wlt k
theorem StAt.gave (h : StAt w B C K own wd) (j x : Nat) (hx : x < 9223372036854775808) (h0 : 0 < x) (hj : 0 < own j) : StAt (w.setCell ⟨B.o, j, none⟩ (.int .i64 x)) B C K (fun q => if q = j then x else own q) wd := by
  obtain ⟨⟨n1, n2, n3, n4⟩, ⟨n5, n6, n7⟩, n8, n9⟩ := h.ne
  have ha := (OnlyAt.refl B.o w).setCell j (.int .i64 x)
  obtain ⟨ws, hm, hq⟩ := h.map
  refine h.turn (OnlyIn.of_at ha (by simp)) (h.wrow.block (ha.block _ n5)) (h.orow.stored j x) ⟨ws, hm.blocks (ha.block _ (Ne.symm n8)) (ha.block _ (Ne.symm n9)), hq.trans ?_⟩ h.wlt (fun k => ?_) (fun k hk => ?_)
  · funext k
    unfold busy
    by_cases e : k = j
    · subst e; simp [h0, hj]
    · simp [e]
  · show (if k = j then x else own k) < _
    split
    · exact hx
    · exact h.olt k
  · show (if k = j then x else own k) = 0
    have := h.opast k hk
    rw [if_neg (by rintro rfl; omega)]
    exact this

def WrotePost (w : World) (B : SB) (C K : Nat) (own wd : Nat → Nat) (e : Ending) (w' : World) : Prop :=
  e = .returned (.int .i64 0) ∧ OnlyIn [B.o, B.c, B.v] w w' ∧ StAt w' B C K own wd
set_option maxHeartbeats 400000 in
theorem write_ok (h : StAt w B C K own wd) (j x : Nat) (hj : j < C * K) (ho : own (j / K) ≠ 0) (hx : x < 18446744073709551616) :
    Calls Tryd.prog 31 #[.pointer (some ⟨B.s, 0, none⟩), .int .i64 j, .int .u64 x] w (WrotePost w B C K own (fun q => if q = j then x else wd q)) := by
  have c1 := h.words
  have hM := h.all
  have hu := usable_any h (j : Int)
  rw [addrE_in hj, if_neg ho] at hu
  have HU := Lib.hid hu
  have c4 := h.word j hj
  have c5 := h.wthaw j hj
  have hs := Lib.hid (h.wrote j x hx)
  have HW := Lib.hid h
  clear ho hu h
  generalize C * K = M at *
  go_enter Tryd.func31, Tryd.ntmps31
  go_wp2_with (first
    | (go_at_call 55; refine HU.out.mono ?_; rintro e w' ⟨rfl, rfl⟩))
  go_ret
  exact ⟨rfl, (OnlyIn.refl _ _).setCell (by simp) _ _, hs.out⟩
set_option maxHeartbeats 400000 in
theorem write_no (h : StAt w B C K own wd) (k : Int) (x : Nat) (hz : addrE own C K k ≠ 0) :
    Calls Tryd.prog 31 #[.pointer (some ⟨B.s, 0, none⟩), .int .i64 k, .int .u64 x] w fun e w' => e = .returned (.int .i64 (addrE own C K k)) ∧ w = w' := by
  have hu := Lib.hid (usable_any h k)
  generalize addrE own C K k = y at *
  have d : (y != 0) = true := by simp; omega
  go_enter Tryd.func31, Tryd.ntmps31
  go_wp2_with (first
    | (go_at_call 55; refine hu.out.mono ?_; rintro e w' ⟨rfl, rfl⟩))
  go_ret
  exact ⟨rfl, rfl⟩
theorem write_nil (w : World) : Calls Tryd.prog 31 #[.pointer none, .int .i64 0, .int .u64 1] w fun e w' => e = .returned (.int .i64 1) ∧ w = w' := by
  go_enter Tryd.func31, Tryd.ntmps31
  go_wp2_with (first
    | (go_at_call 55; refine (usable_nil _ _).mono ?_; rintro e w' ⟨rfl, rfl⟩))
  go_ret
  exact ⟨rfl, rfl⟩

set_option maxHeartbeats 400000 in
theorem give_ok (h : StAt w B C K own wd) (j x : Nat) (hj : j < C) (ho : own j ≠ 0) (h0 : 0 < x) (hx : x < 9223372036854775808) :
    Calls Tryd.prog 66 #[.pointer (some ⟨B.s, 0, none⟩), .int .i64 j, .int .i64 x] w (WrotePost w B C K (fun q => if q = j then x else own q) wd) := by
  have c1 := h.owners
  have hC := h.C2
  have hu := somebodys_any h (j : Int)
  rw [chunkE_in hj, if_neg ho] at hu
  have HU := Lib.hid hu
  have c4 := h.owner j hj
  have c5 := h.othaw j hj
  have hs := Lib.hid (h.gave j x hx h0 (by omega))
  clear ho hu h
  have d : decide ((x : Int) < 1) = false := by simp; omega
  go_enter Tryd.func66, Tryd.ntmps66
  go_wp2_with (first
    | (go_at_call 69; refine HU.out.mono ?_; rintro e w' ⟨rfl, rfl⟩))
  go_ret
  exact ⟨rfl, (OnlyIn.refl _ _).setCell (by simp) _ _, hs.out⟩
/-- What Give says. -/
def giveE (own : Nat → Nat) (C : Nat) (k o : Int) : Int := if o < 1 then 2 else chunkE own C k
set_option maxHeartbeats 400000 in
theorem give_no (h : StAt w B C K own wd) (k o : Int) (hz : giveE own C k o ≠ 0) :
    Calls Tryd.prog 66 #[.pointer (some ⟨B.s, 0, none⟩), .int .i64 k, .int .i64 o] w fun e w' => e = .returned (.int .i64 (giveE own C k o)) ∧ w = w' := by
  have hu := Lib.hid (somebodys_any h k)
  unfold giveE at *
  by_cases h1 : o < 1
  · rw [if_pos h1]
    go_enter Tryd.func66, Tryd.ntmps66
    go_wp2
    go_ret
    exact ⟨rfl, rfl⟩
  · rw [if_neg h1] at hz ⊢
    generalize chunkE own C k = y at *
    have d : (y != 0) = true := by simp; omega
    have h2 : 1 ≤ o := by omega
    go_enter Tryd.func66, Tryd.ntmps66
    go_wp2_with (first
      | (go_at_call 69; refine hu.out.mono ?_; rintro e w' ⟨rfl, rfl⟩))
    go_ret
    exact ⟨rfl, rfl⟩
theorem give_nil (w : World) : Calls Tryd.prog 66 #[.pointer none, .int .i64 0, .int .i64 1] w fun e w' => e = .returned (.int .i64 1) ∧ w = w' := by
  go_enter Tryd.func66, Tryd.ntmps66
  go_wp2
  go_ret
  exact ⟨rfl, rfl⟩

set_option maxHeartbeats 400000 in
theorem release_no (h : StAt w B C K own wd) (k : Int) (hz : chunkE own C k ≠ 0) :
    Calls Tryd.prog 63 #[.pointer (some ⟨B.s, 0, none⟩), .int .i64 k] w fun e w' => e = .returned (.int .i64 (chunkE own C k)) ∧ w = w' := by
  have hu := Lib.hid (somebodys_any h k)
  generalize chunkE own C k = y at *
  have d : (y != 0) = true := by simp; omega
  go_enter Tryd.func63, Tryd.ntmps63
  go_wp2_with (first
    | (go_at_call 69; refine hu.out.mono ?_; rintro e w' ⟨rfl, rfl⟩))
  go_ret
  exact ⟨rfl, rfl⟩
theorem release_nil (w : World) : Calls Tryd.prog 63 #[.pointer none, .int .i64 0] w fun e w' => e = .returned (.int .i64 1) ∧ w = w' := by
  go_enter Tryd.func63, Tryd.ntmps63
  go_wp2
  go_ret
  exact ⟨rfl, rfl⟩
theorem StAt.released (h : StAt w B C K own wd) (j : Nat) {w1 : World} (ha : OnlyAt B.o w w1) (hr : Row .i64 w1 B.o C (fun q => if q = j then 0 else own q)) (ws : Nat → Nat) (hq : BM.on ws = busy own) (ht : Turned w1 B.b B.c C ws j (j + 1) false w') :
    OnlyIn [B.o, B.c, B.v] w w' ∧ StAt w' B C K (fun q => if q = j then 0 else own q) wd := by
  obtain ⟨⟨n1, n2, n3, n4⟩, ⟨n5, n6, n7⟩, n8, n9⟩ := h.ne
  obtain ⟨hc, ws', hm', hq'⟩ := ht
  have ho : OnlyIn [B.o, B.c, B.v] w w' := (OnlyIn.of_at ha (by simp)).trans (OnlyIn.of_at hc (by simp))
  refine ⟨ho, h.turn ho ((h.wrow.block (ha.block _ n5)).block (hc.block _ n7)) (hr.block (hc.block _ n9)) ⟨ws', hm', ?_⟩ h.wlt (fun k => ?_) (fun k hk => ?_)⟩
  · funext k
    rw [hq' k, hq]
    unfold busy
    by_cases e : k = j
    · subst e; rw [if_pos (by omega)]; simp
    · rw [if_neg (by omega)]; simp [e]
  · show (if k = j then 0 else own k) < _
    have := h.olt k
    split <;> omega
  · show (if k = j then 0 else own k) = 0
    have := h.opast k hk
    split <;> omega
set_option maxHeartbeats 1000000 in
theorem release_ok (h : StAt w B C K own wd) (j : Nat) (hj : j < C) (ho : own j ≠ 0) :
    Calls Tryd.prog 63 #[.pointer (some ⟨B.s, 0, none⟩), .int .i64 j] w (WrotePost w B C K (fun q => if q = j then 0 else own q) wd) := by
  have c1 := h.owners
  have hC := h.C2
  have hu := somebodys_any h (j : Int)
  rw [chunkE_in hj, if_neg ho] at hu
  have HU := Lib.hid hu
  have c4 := h.owner j hj
  have c5 := h.othaw j hj
  obtain ⟨ws, hm, hq⟩ := h.map
  obtain ⟨⟨n1, n2, n3, n4⟩, ⟨n5, n6, n7⟩, n8, n9⟩ := h.ne
  have ha := (OnlyAt.refl B.o w).setCell j (.int .i64 0)
  have hr : Row .i64 (w.setCell ⟨B.o, j, none⟩ (.int .i64 0)) B.o C (fun q => if q = j then 0 else own q) := h.orow.stored j 0
  have c6 : (w.setCell ⟨B.o, j, none⟩ (.int .i64 0)).cell? ⟨B.s, 3, none⟩ = some (.pointer (some ⟨B.b, 0, none⟩)) := (ha.cell (p := ⟨B.s, 3, none⟩) n2).trans h.taken
  have hS := set_ok B.b B.c C j ws false _ (hm.blocks (ha.block _ (Ne.symm n8)) (ha.block _ (Ne.symm n9))) hj
  have HS := Lib.hid hS
  have hfin := Lib.hid (fun w' => h.released (w' := w') j ha hr ws hq)
  clear ho hu hS hr ha hm hq n1 n2 n3 n4 n5 n6 n7 n8 n9 h
  go_enter Tryd.func63, Tryd.ntmps63
  go_wp2_with (first
    | (go_at_call 69; refine HU.out.mono ?_; rintro e w' ⟨rfl, rfl⟩)
    | (go_at_call 73; refine HS.out.mono ?_; rintro e w' ⟨rfl, ht⟩; have HT := Lib.hid ht; clear ht))
  go_ret
  exact ⟨rfl, hfin.out _ HT.out⟩
end
end Go.Proofs.YteencfldehcbbaaDoor
