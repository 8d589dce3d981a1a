/- Contract of the document's Parse. -/
import Derived.Test.YtlmiiapmanklpaaDoorTkDig
import Derived.Test.YtlmiiapmanklpaaDoorTkNum
namespace Go.Proofs.YtlmiiapmanklpaaDoor
open Go.RowKit Go.Sort

/-- Where the loop of Parse stands. -/
def RAt (l : List UInt8) (i : Nat) (st : Bool × Int × Int) : Prop := ((l.drop 1).take (i - 1)).foldl TM.rstep (false, 0, 0) = st
theorem RAt.next {l : List UInt8} {i : Nat} {st : Bool × Int × Int} (h : RAt l i st) (h1 : 1 ≤ i) (c : UInt8) (hc : l[i]? = some c) : RAt l (i + 1) (TM.rstep st c) := by
  unfold RAt at *
  have e : (l.drop 1).take (i + 1 - 1) = (l.drop 1).take (i - 1) ++ [c] := by
    rw [show i + 1 - 1 = (i - 1) + 1 by omega, List.take_add_one]
    congr 1
    rw [List.getElem?_drop, show 1 + (i - 1) = i by omega, hc]
    rfl
  rw [e, List.foldl_append, h]
  rfl
theorem RAt.done {l : List UInt8} {i : Nat} {st : Bool × Int × Int} (h : RAt l i st) (hi : l.length ≤ i) : TM.rfold l = st := by
  unfold RAt at h
  unfold TM.rfold
  rwa [List.take_of_length_le (by simp; omega)] at h
theorem tmod_small (x : Int) : -1000000 < x.tmod 1000000 ∧ x.tmod 1000000 < 1000000 := by
  have h1 := Int.tmod_lt_of_pos x (show (0 : Int) < 1000000 by decide)
  have h2 := Int.lt_tmod_of_pos x (show (0 : Int) < 1000000 by decide)
  omega

/-- The boxes of Parse. -/
structure RBox (w : World) (n0 n1 : Int) (wr : World) : Prop where
  res : Whole wr w.heap.size 23 #[.int .i64 0, .int .i64 0]
  num : Whole wr (w.heap.size + 1) 44 #[.int .i64 n0, .int .i64 n1]
  bel : Below w.heap.size w wr

theorem RBox.set0 {w wr : World} {n0 n1 : Int} (h : RBox w n0 n1 wr) (x : Int) : RBox w x n1 (wr.setCell ⟨w.heap.size + 1, 0, none⟩ (.int .i64 x)).drew :=
  ⟨h.res.far (by simp) _, h.num.set 0 _, (h.bel.setCell (p := ⟨w.heap.size + 1, 0, none⟩) (by simp) _).drew⟩
theorem RBox.set1 {w wr : World} {n0 n1 : Int} (h : RBox w n0 n1 wr) (x : Int) : RBox w n0 x (wr.setCell ⟨w.heap.size + 1, 1, none⟩ (.int .i64 x)).drew :=
  ⟨h.res.far (by simp) _, h.num.set 1 _, (h.bel.setCell (p := ⟨w.heap.size + 1, 1, none⟩) (by simp) _).drew⟩
theorem rright_below (a b : Int) (w : World) : Calls Tryd.prog 9 #[.agg #[.int .i64 a, .int .i64 b]] w fun e w' => e = .returned (.bool (TM.right a b)) ∧ Below w.heap.size w w' :=
  (rright_any a b w).mono fun _ _ ⟨he, hw⟩ => ⟨he, by rw [← hw]; exact (Below.refl _ _).alloc (Nat.le_refl _) _⟩

set_option maxHeartbeats 2000000 in
theorem rparse_long (s : ByteArray) (hs : 20 < s.size) (w : World) :
    Calls Tryd.prog 13 #[.string s] w fun e w' => e = .returned (numsVal none) ∧ Below w.heap.size w w' := by
  go_enter Tryd.func13, Tryd.ntmps13
  go_wp2_with fail
  refine bodyPost_ret (v := .tuple #[.agg #[.int .i64 0, .int .i64 0], .bool false]) (by simp [results, Tryd.results13, go_sem]) rfl ⟨rfl, ?_⟩
  exact (Below.refl _ _).alloc (Nat.le_refl _) _

set_option maxHeartbeats 2000000 in
set_option maxRecDepth 100000 in
theorem rparse_short (s : ByteArray) (hs : s.size ≤ 20) (r : Option (Int × Int)) (H0 : Hid (r = TM.rparse s.data.toList)) (w : World) :
    Calls Tryd.prog 13 #[.string s] w fun e w' => e = .returned (numsVal r) ∧ Below w.heap.size w w' := by
  go_enter Tryd.func13, Tryd.ntmps13
  go_wp2_with fail
  go_loopg [5, 6] s.size (fun g p x wr => ∃ (k : Nat) (b : Bool) (n0 n1 q : Int), x = .int .i64 k ∧ p = .int .i64 q ∧ Hid (q = if b then 1 else 0) ∧ 1 ≤ k ∧ Hid (s.size - k ≤ g) ∧ -1000000 < n0 ∧ n0 < 1000000 ∧ -1000000 < n1 ∧ n1 < 1000000 ∧ k ≤ 21 ∧ Hid (s.size ≤ k → TM.rfold s.data.toList = (b, n0, n1)) ∧ Hid (RAt s.data.toList k (b, n0, n1)) ∧ Hid (RBox w n0 n1 wr))
  case atStart =>
    refine ⟨1, false, 0, 0, 0, rfl, rfl, Lib.hid rfl, Nat.le_refl _, Lib.hid (by omega), by omega, by omega, by omega, by omega, by omega, Lib.hid ?_, Lib.hid rfl, Lib.hid ⟨(Whole.fresh _ _ _).alloc _, Whole.fresh' (by simp), ((Below.refl _ _).alloc (Nat.le_refl _) _).alloc (by simp) _⟩⟩
    intro h
    unfold TM.rfold
    rw [List.drop_eq_nil_of_le (show s.data.toList.length ≤ 1 from h)]
    rfl
  case round =>
    obtain ⟨k, b, n0, n1, q, rfl, rfl, HQ, hk1, HG, a0, a1, a2, a3, hk21, HF, HR, HB⟩ := hrel
    by_cases hlt : k < s.size
    · have hget : s.data.toList[k]? = some s[k] := by
        rw [List.getElem?_eq_getElem (show k < s.data.toList.length from hlt)]
        rfl
      have HS := Lib.hid hget
      have hd : s[k].toNat < 256 := UInt8.toNat_lt _
      clear hget
      by_cases h46 : s[k] = 46
      · have h46' : ((s[k].toNat : Int) == 46) = true := by rw [h46]; rfl
        have HN := Lib.hid h46
        clear h46
        go_wp2_with fail
        go_roundg (s.size - (k + 1))
        case measure => have := HG.out; omega
        case rel =>
          have hst : TM.rstep (b, n0, n1) s[k] = (true, n0, n1) := by rw [HN.out]; rfl
          have hR := HR.out.next hk1 s[k] HS.out
          rw [hst] at hR
          exact ⟨k + 1, true, n0, n1, 1, by go_num, rfl, Lib.hid rfl, by omega, Lib.hid (Nat.le_refl _), a0, a1, a2, a3, by omega, Lib.hid (RAt.done hR), Lib.hid hR, HB⟩
      · have h46' : ((s[k].toNat : Int) == 46) = false := by
          rw [beq_eq_false_iff_ne]
          intro e
          apply h46
          apply UInt8.toNat.inj
          show s[k].toNat = 46
          omega
        have HN := Lib.hid h46
        clear h46
        obtain ⟨c0, c1⟩ := HB.out.num.cells2
        have f0 := HB.out.num.free 0
        have f1 := HB.out.num.free 1
        cases b
        · have hq : q = 0 := HQ.out
          subst hq
          go_wp2_with fail
          go_region
          go_wp2
          go_roundg (s.size - (k + 1))
          case measure => have := HG.out; omega
          case rel =>
            have hst : TM.rstep (false, n0, n1) s[k] = (false, (n0 * 10 + (s[k].toNat : Int) - 48).tmod 1000000, n1) := by simp [TM.rstep, HN.out]
            have hR := HR.out.next hk1 s[k] HS.out
            rw [hst] at hR
            have ht := tmod_small (n0 * 10 + (s[k].toNat : Int) - 48)
            exact ⟨k + 1, false, _, n1, 0, by go_num, rfl, Lib.hid rfl, by omega, Lib.hid (Nat.le_refl _), ht.1, ht.2, a2, a3, by omega, Lib.hid (RAt.done hR), Lib.hid hR, Lib.hid (HB.out.set0 _)⟩
        · have hq : q = 1 := HQ.out
          subst hq
          go_wp2_with fail
          go_region
          go_wp2
          go_roundg (s.size - (k + 1))
          case measure => have := HG.out; omega
          case rel =>
            have hst : TM.rstep (true, n0, n1) s[k] = (true, n0, (n1 * 10 + (s[k].toNat : Int) - 48).tmod 1000000) := by simp [TM.rstep, HN.out]
            have hR := HR.out.next hk1 s[k] HS.out
            rw [hst] at hR
            have ht := tmod_small (n1 * 10 + (s[k].toNat : Int) - 48)
            exact ⟨k + 1, true, n0, _, 1, by go_num, rfl, Lib.hid rfl, by omega, Lib.hid (Nat.le_refl _), a0, a1, ht.1, ht.2, by omega, Lib.hid (RAt.done hR), Lib.hid hR, Lib.hid (HB.out.set1 _)⟩
    · have hfo := HF.out (by omega)
      have HP : Hid (r = if TM.right n0 n1 = true ∧ TM.text n0 n1 = s.data.toList then some (n0, n1) else none) := by
        refine Lib.hid ?_
        have hlen : s.data.toList.length ≤ 20 := hs
        rw [H0.out]
        unfold TM.rparse
        rw [hfo]
        by_cases h : TM.right n0 n1 = true ∧ TM.text n0 n1 = s.data.toList
        · rw [if_pos ⟨hlen, h⟩, if_pos h]
        · rw [if_neg (fun k => h k.2), if_neg h]
      have hlr := HB.out.res.lt
      have hln := HB.out.num.lt
      clear hfo HF HR HQ HG
      obtain ⟨c0, c1⟩ := HB.out.num.cells2
      have hrr := rright_below n0 n1
      go_wp2_with fail
      clear c0 c1
      refine (hrr _).mono ?_
      rintro e w4 ⟨rfl, hb⟩
      have R4 := (HB.out.res.alloc (.cells #[.int .i64 n0, .int .i64 n1] 23)).below hb (by simp; omega)
      have V4 := (Whole.fresh wr 23 #[.int .i64 n0, .int .i64 n1]).below hb (by simp)
      have B4 : Below w.heap.size w w4 := (HB.out.bel.alloc HB.out.bel.size _).trans (hb.mono (by have := HB.out.bel.size; simp; omega))
      clear hb
      by_cases hr : TM.right n0 n1 = true
      · have htx := rtext_any n0 n1 hr
        have HR4 := Lib.hid R4
        have HV4 := Lib.hid V4
        have HB4 := Lib.hid B4
        obtain ⟨d0, d1⟩ := V4.cells2
        rw [hr]
        clear R4 V4 B4
        generalize hT : (⟨(TM.text n0 n1).toArray⟩ : ByteArray) = T at htx
        have HT : Hid (T.toList = TM.text n0 n1) := Lib.hid (by rw [← hT, Lib.toList_data])
        clear hT
        go_wp2_with fail
        clear d0 d1
        refine (htx _).mono ?_
        rintro e w5 ⟨rfl, hb⟩
        obtain ⟨c0, c1⟩ := (HR4.out.below hb HR4.out.lt).cells2
        have q0 := (HR4.out.below hb HR4.out.lt).free 0
        have q1 := (HR4.out.below hb HR4.out.lt).free 1
        obtain ⟨d0, d1⟩ := (HV4.out.below hb HV4.out.lt).cells2
        have HB5 := Lib.hid (HB4.out.trans (hb.mono HB4.out.size))
        clear hb
        by_cases hS : T.toList = s.toList
        · have hS' : (T.toList == s.toList) = true := by simpa using hS
          have hp : r = some (n0, n1) := by rw [HP.out, if_pos ⟨hr, by rw [← HT.out, hS, Lib.toList_data]⟩]
          subst hp
          clear hS HP HT hr H0
          go_wp2_with fail
          refine bodyPost_ret (v := .tuple #[.agg #[.int .i64 n0, .int .i64 n1], .bool true]) (by simp [results, Tryd.results13, go_sem, c0, c1]) rfl ⟨rfl, ?_⟩
          exact set2_below HB5.out (Nat.le_refl _)
        · have hS' : (T.toList == s.toList) = false := by simpa using hS
          have hp : r = none := by
            rw [HP.out, if_neg]
            rintro ⟨_, h2⟩
            exact hS (by rw [HT.out, h2, Lib.toList_data])
          subst hp
          clear hS HP HT hr H0
          go_wp2_with fail
          refine bodyPost_ret (v := .tuple #[.agg #[.int .i64 0, .int .i64 0], .bool false]) (by simp [results, Tryd.results13, go_sem, c0, c1]) rfl ⟨rfl, ?_⟩
          exact set2_below HB5.out (Nat.le_refl _)
      · have hp : r = none := by rw [HP.out, if_neg (fun k => hr k.1)]
        have hr' : TM.right n0 n1 = false := by simpa using hr
        subst hp
        rw [hr']
        obtain ⟨c0, c1⟩ := R4.cells2
        have q0 := R4.free 0
        have q1 := R4.free 1
        obtain ⟨d0, d1⟩ := V4.cells2
        have HB5 := Lib.hid B4
        clear HP hr hr' H0 R4 V4 B4
        go_wp2_with fail
        refine bodyPost_ret (v := .tuple #[.agg #[.int .i64 0, .int .i64 0], .bool false]) (by simp [results, Tryd.results13, go_sem, c0, c1]) rfl ⟨rfl, ?_⟩
        exact set2_below HB5.out (Nat.le_refl _)

theorem rparse_any (s : ByteArray) (w : World) :
    Calls Tryd.prog 13 #[.string s] w fun e w' => e = .returned (numsVal (TM.rparse s.data.toList)) ∧ Below w.heap.size w w' := by
  by_cases h : s.size ≤ 20
  · exact rparse_short s h _ (Lib.hid rfl) w
  · have : TM.rparse s.data.toList = none := if_neg fun k => h k.1
    rw [this]
    exact rparse_long s (by omega) w
end Go.Proofs.YtlmiiapmanklpaaDoor
