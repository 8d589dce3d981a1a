/- Contracts of Text of package token, and of Digits and Text of the document's answer. -/
import Derived.Test.YtlmiiapmanklpaaDoorTkLeaf
import Derived.Shelf.SlSortCmp.QuietGrown
import Derived.Deep.LoopGhost
namespace Go.Proofs.YtlmiiapmanklpaaDoor
open Go.RowKit Go.Sort

theorem mixedO : Tryd.prog.follows .mixedOrders = true := by kernel_rfl
theorem bcellK {W w1 : World} (hb : Below W.heap.size W w1) : (∀ b o, b < W.heap.size → w1.cell? ⟨b, o, none⟩ = W.cell? ⟨b, o, none⟩) ∧ (∀ b o, b < W.heap.size → w1.frozen? ⟨b, o, none⟩ = W.frozen? ⟨b, o, none⟩) :=
  ⟨fun b o h => hb.cell (p := ⟨b, o, none⟩) h, fun b o h => hb.frozen (p := ⟨b, o, none⟩) h⟩

theorem itoa_any (n : Int) (h0 : -9223372036854775808 ≤ n) (h1 : n ≤ 9223372036854775807) (w : World) (hT : Tk w) : Calls Tryd.prog 18 #[.int .i64 n] w fun e w' => e = .returned (.string ⟨(Lib.itoa n).toArray⟩) ∧ ∃ k os, w' = grow (w.drewN k) os :=
  Any.strconv_Itoa Tryd.laysM171 n h0 h1 w hT.pow

/-- What Text answers. -/
def TM.txt (a b : Int) : List UInt8 := if TM.right a b = true then TM.text a b else []
def TM.txtE (a b : Int) : Int := if TM.right a b = true then 0 else 3

theorem str_add (x y : List UInt8) : (⟨x.toArray⟩ : ByteArray) ++ ⟨y.toArray⟩ = ⟨(x ++ y).toArray⟩ := by
  apply ByteArray.ext
  simp

theorem tright_below (a b : Int) (w : World) : Calls Tryd.prog 10 #[.agg #[.int .i64 a, .int .i64 b]] w fun e w' => e = .returned (.bool (TM.right a b)) ∧ Below w.heap.size w w' :=
  (tright_any a b w).mono fun _ _ ⟨he, hw⟩ => ⟨he, by rw [← hw]; exact (Below.refl _ _).alloc (Nat.le_refl _) _⟩

set_option maxHeartbeats 1000000 in
theorem ttext_ok (a b : Int) (h : TM.right a b = true) (w : World) (hT : Tk w) :
    Calls Tryd.prog 8 #[.agg #[.int .i64 a, .int .i64 b]] w fun e w' => e = .returned (.tuple #[.string ⟨(TM.text a b).toArray⟩, .int .i64 0]) ∧ Below w.heap.size w w' := by
  have HR := Lib.hid h
  have hr := tright_below a b
  rw [h] at hr
  obtain ⟨g0, g1, g2, g3⟩ := TM.right_iff.1 h
  have k1 := itoa_any a (by omega) (by omega)
  have k2 := itoa_any b (by omega) (by omega)
  have hl := TM.text_len h
  have hs : (35 :: (Lib.itoa a ++ 46 :: Lib.itoa b)).length = (⟨(Lib.itoa a).toArray⟩ : ByteArray).size + (⟨(Lib.itoa b).toArray⟩ : ByteArray).size + 2 := by
    simp [ByteArray.size]
    omega
  have HE : Hid ((⟨#[35]⟩ : ByteArray) ++ ⟨(Lib.itoa a).toArray⟩ ++ ⟨#[46]⟩ ++ ⟨(Lib.itoa b).toArray⟩ = ⟨(TM.text a b).toArray⟩) := by
    have e : ∀ x y : List UInt8, (⟨x.toArray⟩ : ByteArray) ++ ⟨y.toArray⟩ = ⟨(x ++ y).toArray⟩ := str_add
    show (⟨[35].toArray⟩ : ByteArray) ++ ⟨(Lib.itoa a).toArray⟩ ++ ⟨[46].toArray⟩ ++ ⟨(Lib.itoa b).toArray⟩ = _
    rw [e, e, e]
    simp [TM.text]
  unfold TM.text at hl
  rw [hs] at hl
  generalize (⟨(TM.text a b).toArray⟩ : ByteArray) = T at HE ⊢
  generalize (⟨(Lib.itoa a).toArray⟩ : ByteArray) = sA at k1 hl HE
  generalize (⟨(Lib.itoa b).toArray⟩ : ByteArray) = sB at k2 hl HE
  have n1 : ¬ (9223372036854775807 < 1 + sA.size) := by omega
  have n2 : ¬ (9223372036854775807 < 1 + sA.size + 1) := by omega
  have n3 : ¬ (9223372036854775807 < 1 + sA.size + 1 + sB.size) := by omega
  clear h g0 g1 g2 g3 hl hs
  have HT := Lib.hid hT
  clear hT
  go_enter Tryd.func8, Tryd.ntmps8
  go_wp2_with fail
  refine (hr _).mono ?_
  rintro e w1 ⟨rfl, hb⟩
  have c0 := (hb.cell (p := ⟨w.heap.size, 0, none⟩) (by simp)).trans (show _ = some (.int .i64 a) by simp [go_sem])
  have c1 := (hb.cell (p := ⟨w.heap.size, 1, none⟩) (by simp)).trans (show _ = some (.int .i64 b) by simp [go_sem])
  have hlt : w.heap.size < w1.heap.size := by have := hb.size; simp at this; omega
  have bel : Below w.heap.size w w1 := ((Below.refl _ _).alloc (Nat.le_refl _) _).trans (hb.mono (by simp))
  have HB := Lib.hid bel
  have HT1 := Lib.hid (HT.out.on bel)
  clear bel hb
  have q0 : ∀ n os, (grow (w1.drewN n) os).cell? ⟨w.heap.size, 0, none⟩ = some (.int .i64 a) := fun n os => cell_grown hlt c0 n os
  have q1 : ∀ n os, (grow (w1.drewN n) os).cell? ⟨w.heap.size, 1, none⟩ = some (.int .i64 b) := fun n os => cell_grown hlt c1 n os
  clear c0 c1
  have mixed := mixedO
  go_wp2_with fail
  have j1 := fun n os => k1 _ (HT1.out.on (below_grow w1 (Nat.le_refl _) n os))
  have j2 := fun n os => k2 _ (HT1.out.on (below_grow w1 (Nat.le_refl _) n os))
  go_quiet_grown (first
    | (go_at_call 18; (with_reducible refine Calls.grown_of (j1 _ _)))
    | (go_at_call 18; (with_reducible refine Calls.grown_of (j2 _ _))))
  go_wp2
  go_ret2
  refine ⟨by rw [← HE.out]; rfl, ?_⟩
  have hbq := HB.out.trans (below_grow w1 HB.out.size nq osq)
  with_reducible exact hbq

set_option maxHeartbeats 1000000 in
theorem ttext_no (a b : Int) (h : TM.right a b = false) (w : World) :
    Calls Tryd.prog 8 #[.agg #[.int .i64 a, .int .i64 b]] w fun e w' => e = .returned (.tuple #[.string ⟨#[]⟩, .int .i64 3]) ∧ Below w.heap.size w w' := by
  have hr := tright_below a b
  rw [h] at hr
  clear h
  go_enter Tryd.func8, Tryd.ntmps8
  go_wp2_with fail
  refine (hr _).mono ?_
  rintro e w1 ⟨rfl, hb⟩
  go_wp2
  go_ret2
  exact ⟨rfl, ((Below.refl _ _).alloc (Nat.le_refl _) _).trans (hb.mono (by simp))⟩

theorem ttext_any (a b : Int) (w : World) (hT : Tk w) :
    Calls Tryd.prog 8 #[.agg #[.int .i64 a, .int .i64 b]] w fun e w' => e = .returned (.tuple #[.string ⟨(TM.txt a b).toArray⟩, .int .i64 (TM.txtE a b)]) ∧ Below w.heap.size w w' := by
  by_cases h : TM.right a b = true
  · unfold TM.txt TM.txtE
    rw [if_pos h, if_pos h]
    exact ttext_ok a b h w hT
  · unfold TM.txt TM.txtE
    rw [if_neg h, if_neg h]
    exact ttext_no a b (by simpa using h) w
end Go.Proofs.YtlmiiapmanklpaaDoor
