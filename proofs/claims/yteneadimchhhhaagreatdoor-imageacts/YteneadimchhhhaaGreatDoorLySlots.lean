/- The contract of Slots of package layout: the function that it hands out, and what that has captured. -/
import Derived.Test.YteneadimchhhhaaGreatDoorLyTwin
namespace Go.Proofs.YteneadimchhhhaaGreatDoor
open Go.RowKit

theorem Lists.kept {w w' : World} {lo hi n c m d : Nat} {A D : Option Addr} {xs ys : List Int} (h : Lists w lo hi A n c xs D m d ys) (hk : Kept lo hi w w') : Lists w' lo hi A n c xs D m d ys := ⟨h.fst.kept hk, h.snd.kept hk⟩
theorem Lists.mono {w : World} {lo hi lo' hi' n c m d : Nat} {A D : Option Addr} {xs ys : List Int} (h : Lists w lo hi A n c xs D m d ys) (h1 : lo' ≤ lo) (h2 : hi ≤ hi') : Lists w lo' hi' A n c xs D m d ys := ⟨h.fst.mono h1 h2, h.snd.mono h1 h2⟩
theorem Whole.kept {w w' : World} {lo hi g : Nat} {t : TypeId} {cs : Array Value} (h : Whole w g t cs) (hk : Kept lo hi w w') (h1 : lo ≤ g) (h2 : g < hi) : Whole w' g t cs := (hk g h1 h2).trans h

/-- What the iterator has captured. -/
structure IterSt (W : World) (lo hi bo bs : Nat) (F R : Int) (A : Option Addr) (n c : Nat) (xs : List Int) (D : Option Addr) (m d : Nat) (ys : List Int) (sz : Int) : Prop where
  o1 : lo ≤ bo
  o2 : bo < hi
  s1 : lo ≤ bs
  s2 : bs < hi
  box : Whole W bo 70 #[.int .i64 F, .slice A n c, .int .i64 R, .slice D m d]
  num : Whole W bs 3 #[.int .i64 sz]
  lists : Lists W lo hi A n c xs D m d ys
theorem IterSt.kept {W W' : World} {lo hi bo bs : Nat} {F R : Int} {A : Option Addr} {n c : Nat} {xs : List Int} {D : Option Addr} {m d : Nat} {ys : List Int} {sz : Int} (h : IterSt W lo hi bo bs F R A n c xs D m d ys sz) (hk : Kept lo hi W W') : IterSt W' lo hi bo bs F R A n c xs D m d ys sz :=
  ⟨h.o1, h.o2, h.s1, h.s2, h.box.kept hk h.o1 h.o2, h.num.kept hk h.s1 h.s2, h.lists.kept hk⟩

set_option maxHeartbeats 1000000 in
theorem slotsF_err (F R : Int) (A : Option Addr) (n c : Nat) (xs : List Int) (D : Option Addr) (m d : Nat) (ys : List Int) (C : Int) (lo hi : Nat) (w : World) (hB : hi ≤ w.heap.size) (hn : n ≤ 1000000) (hm : m ≤ 1000000)
    (hF : I64 F) (hR : I64 R) (h : Lists w lo hi A n c xs D m d ys) (hC : I64 C) (hcode : LM.code F R xs ys C ≠ 0) :
    Calls Tryz.prog 41 #[.agg #[.int .i64 F, .slice A n c, .int .i64 R, .slice D m d], .int .i64 C] w fun e w' => e = .returned (.func (.func 71) #[] #[]) ∧ Below w.heap.size w w' := by
  have CS := lsize_any F R A n c xs D m d ys C hi (w.alloc (.cells #[.int .i64 F, .slice A n c, .int .i64 R, .slice D m d] 70)) (by simp; omega) hn hm hF hR (h.fst.ns.alloc hB _) (h.snd.ns.alloc hB _) hC
  have d0 : (LM.code F R xs ys C != 0) = true := by simpa using hcode
  have HC := Lib.hid CS
  clear CS h hF hR hB hcode hC
  go_enter Tryz.func41, Tryz.ntmps41
  go_wp2_with fail
  refine HC.out.mono ?_
  rintro e w1 ⟨rfl, hb⟩
  have hs := hb.size
  simp at hs
  go_wp2
  go_ret
  exact ⟨rfl, (((Below.refl _ _).alloc (Nat.le_refl _) _).trans (hb.mono (by simp))).alloc (by omega) _⟩

/-- What Slots leaves. -/
def SlotsPost (F R : Int) (n : Nat) (xs : List Int) (m : Nat) (ys : List Int) (sz : Int) (w : World) (e : Ending) (w' : World) : Prop :=
  ∃ bo bs A c D d, e = .returned (.func (.func 72) #[] #[.pointer (some ⟨bo, 0, none⟩), .pointer (some ⟨bs, 0, none⟩)]) ∧ IterSt w' w.heap.size w'.heap.size bo bs F R A n c xs D m d ys sz ∧ Below w.heap.size w w'

set_option maxHeartbeats 2000000 in
theorem slotsF_ok (F R : Int) (A : Option Addr) (n c : Nat) (xs : List Int) (D : Option Addr) (m d : Nat) (ys : List Int) (C : Int) (lo hi : Nat) (w : World) (hB : hi ≤ w.heap.size) (hn : n ≤ 1000000) (hm : m ≤ 1000000)
    (hF : I64 F) (hR : I64 R) (h : Lists w lo hi A n c xs D m d ys) (hC : I64 C) (hcode : LM.code F R xs ys C = 0) :
    Calls Tryz.prog 41 #[.agg #[.int .i64 F, .slice A n c, .int .i64 R, .slice D m d], .int .i64 C] w (SlotsPost F R n xs m ys (F + C * R) w) := by
  have CS := lsize_any F R A n c xs D m d ys C hi (w.alloc (.cells #[.int .i64 F, .slice A n c, .int .i64 R, .slice D m d] 70)) (by simp; omega) hn hm hF hR (h.fst.ns.alloc hB _) (h.snd.ns.alloc hB _) hC
  rw [hcode, LM.size_ok hcode] at CS
  have HC := Lib.hid CS
  have HL := Lib.hid h
  clear CS h hF hR hcode hC
  go_enter Tryz.func41, Tryz.ntmps41
  go_wp2_with fail
  refine HC.out.mono ?_
  rintro e w1 ⟨rfl, hb⟩
  have hs := hb.size
  simp at hs
  have hb0 : Below w.heap.size w w1 := ((Below.refl _ _).alloc (Nat.le_refl _) _).trans (hb.mono (by simp))
  have hw : Whole w1 w.heap.size 70 #[.int .i64 F, .slice A n c, .int .i64 R, .slice D m d] := (Whole.fresh _ _ _).below hb (by simp)
  have k0 : w1.cell? ⟨w.heap.size, 0, none⟩ = some (.int .i64 F) := hw.cell 0
  have k1 : w1.cell? ⟨w.heap.size, 1, none⟩ = some (.slice A n c) := hw.cell 1
  have k2 : w1.cell? ⟨w.heap.size, 2, none⟩ = some (.int .i64 R) := hw.cell 2
  have k3 : w1.cell? ⟨w.heap.size, 3, none⟩ = some (.slice D m d) := hw.cell 3
  have hne : w.heap.size < w1.heap.size := by omega
  clear hb hw
  go_wp2_with fail
  obtain ⟨z, hz⟩ : ∃ z, z = F + C * R := ⟨_, rfl⟩
  rw [← hz]
  have hk : Kept lo hi w (w1.alloc (.cells #[.int .i64 z] 3)) := (Kept.of_below hb0 hB).alloc (by omega) _
  have hnum : Whole (w1.alloc (.cells #[.int .i64 z] 3)) w1.heap.size 3 #[.int .i64 z] := Whole.fresh _ _ _
  have hb1 : Below w.heap.size w (w1.alloc (.cells #[.int .i64 z] 3)) := hb0.alloc (by omega) _
  obtain ⟨w2, hw2⟩ : ∃ w2, w2 = (w1.alloc (.cells #[.int .i64 z] 3)) := ⟨_, rfl⟩
  have hs2 : w2.heap.size = w1.heap.size + 1 := by rw [hw2]; simp
  rw [← hw2] at hk hnum hb1
  have CT := twin_any F R A n c xs D m d ys lo hi w2 (by omega) hn hm (HL.out.kept hk)
  rw [hw2] at CT
  have HT := Lib.hid CT
  clear CT
  refine HT.out.mono ?_
  rw [← hw2]
  rintro e w3 ⟨A3, c3, D3, d3, rfl, hl3, hb3, _, _⟩
  have HW2 := Lib.hid hw2
  have HS2 := Lib.hid hs2
  have HK := Lib.hid hk
  have HNUM := Lib.hid hnum
  have HL3 := Lib.hid hl3
  have HZ := Lib.hid hz
  clear hw2 hs2 hk hnum hl3 hz HT HC
  go_wp2
  go_ret
  have hs3 := hb3.size
  have hs2 := HS2.out
  refine ⟨w3.heap.size, w1.heap.size, A3, c3, D3, d3, rfl, ⟨by omega, by simp, by omega, by simp; omega, ?_, ?_, ?_⟩, ?_⟩
  · exact Whole.fresh w3 _ _
  · have hn := (HNUM.out.below hb3 (by omega)).alloc (.cells #[.int .i64 F, .slice A3 n c3, .int .i64 R, .slice D3 m d3] 70)
    rw [HZ.out] at hn
    exact hn
  · exact (HL3.out.kept ((Kept.refl _ _ _).alloc (Nat.le_refl _) _)).mono (by omega) (by simp)
  · exact (hb1.trans (hb3.mono (by omega))).alloc (by omega) _
end Go.Proofs.YteneadimchhhhaaGreatDoor
