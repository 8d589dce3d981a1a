/- What ImageActs' second loop holds. -/
import Derived.Test.YteneadimchhhhaaGreatDoorImLi2
import Derived.Test.YteneadimchhhhaaGreatDoorAdMark
namespace Go.Proofs.YteneadimchhhhaaGreatDoor
open Go.RowKit Go.Shelf

/-- Where the second loop stands: so many words are looked at; so many ranges are over. -/
def AcInv (A : Option Addr) (n c : Nat) (A1 : Option Addr) (n1 c1 b4 b7 : Nat) (I : IB) (J : DB) (wS : World) (a : Act) (w : World) : Prop :=
  ∃ (k : Nat) (Ds : List Nat) (u : Nat → Value), k ≤ 48 ∧ Below wS.heap.size wS w ∧ MarkOk wS.heap.size Ds w ∧ a = { tmps := #[.slice A n c, .slice A1 n1 c1, undef, undef, .pointer (some ⟨b4, 0, none⟩), .pointer (some ⟨I.B.s, 0, none⟩), .pointer (some ⟨I.p, 0, none⟩), .pointer (some ⟨b7, 0, none⟩), undef, (u 9), (u 10), (u 11), (u 12), (u 13), (u 14), (u 15), (u 16), (u 17), (u 18), (u 19), (u 20), (u 21), (u 22), (u 23), (u 24), .bool true, .bool false, .bool false, .slice A n c, .bool false, .bool false, .bool false, .slice A1 n1 c1, .int .i64 (n1 : Int), .bool false, .bool false, undef, .tuple #[.pointer (some ⟨I.B.s, 0, none⟩), .pointer (some ⟨I.p, 0, none⟩), .pointer (some ⟨J.m, 0, none⟩)], .slice A n c, .tuple #[.pointer (some ⟨I.B.s, 0, none⟩), .pointer (some ⟨I.p, 0, none⟩), .pointer (some ⟨J.m, 0, none⟩)], .pointer (some ⟨I.B.s, 0, none⟩), .pointer (some ⟨I.p, 0, none⟩), .pointer (some ⟨J.m, 0, none⟩), .pointer (some ⟨I.p, 0, none⟩), .bool false, .slice A1 n1 c1, .int .i64 (n1 : Int), (u 47), .bool false, (u 49), (u 50), (u 51), (u 52), (u 53), (u 54), (u 55), (u 56), (u 57), .pointer (some ⟨J.m, 0, none⟩), .pointer (some ⟨J.m, 0, none⟩), .pointer (some ⟨J.m, 0, none⟩), .pointer (some ⟨J.R.m, 0, none⟩), .pointer (some ⟨J.R.m, 0, none⟩), .pointer (some ⟨J.R.m, 0, none⟩), .slice (some ⟨J.R.p, 0, none⟩) 48 48, .int .i64 48, .int .i64 (k : Int), (u 67), (u 68), (u 69), (u 70), (u 71), (u 72), (u 73), (u 74), (u 75), (u 76), (u 77), (u 78), (u 79), (u 80), (u 81), (u 82), (u 83), (u 84), (u 85), (u 86), (u 87), (u 88), (u 89), (u 90), (u 91), (u 92), (u 93), (u 94), (u 95), (u 96), (u 97), (u 98), (u 99), (u 100), undef, undef, (u 103), (u 104), (u 105), (u 106), (u 107), (u 108), (u 109), (u 110), (u 111), (u 112), (u 113), (u 114), (u 115), (u 116), (u 117), (u 118), (u 119), (u 120), (u 121), (u 122), (u 123), (u 124), (u 125), (u 126), (u 127), (u 128), (u 129), (u 130), (u 131), (u 132), (u 133), (u 134), (u 135), (u 136), (u 137), (u 138)], defers := marks Ds }
theorem acInv_of {A : Option Addr} {n c : Nat} {A1 : Option Addr} {n1 c1 b4 b7 : Nat} {I : IB} {J : DB} {wS : World} (a : Act) (w : World) (k : Nat) (Ds : List Nat) (hk : k ≤ 48) (hb : Below wS.heap.size wS w) (hm : MarkOk wS.heap.size Ds w)
    (e : a = { tmps := #[.slice A n c, .slice A1 n1 c1, undef, undef, .pointer (some ⟨b4, 0, none⟩), .pointer (some ⟨I.B.s, 0, none⟩), .pointer (some ⟨I.p, 0, none⟩), .pointer (some ⟨b7, 0, none⟩), undef, (slot a 9), (slot a 10), (slot a 11), (slot a 12), (slot a 13), (slot a 14), (slot a 15), (slot a 16), (slot a 17), (slot a 18), (slot a 19), (slot a 20), (slot a 21), (slot a 22), (slot a 23), (slot a 24), .bool true, .bool false, .bool false, .slice A n c, .bool false, .bool false, .bool false, .slice A1 n1 c1, .int .i64 (n1 : Int), .bool false, .bool false, undef, .tuple #[.pointer (some ⟨I.B.s, 0, none⟩), .pointer (some ⟨I.p, 0, none⟩), .pointer (some ⟨J.m, 0, none⟩)], .slice A n c, .tuple #[.pointer (some ⟨I.B.s, 0, none⟩), .pointer (some ⟨I.p, 0, none⟩), .pointer (some ⟨J.m, 0, none⟩)], .pointer (some ⟨I.B.s, 0, none⟩), .pointer (some ⟨I.p, 0, none⟩), .pointer (some ⟨J.m, 0, none⟩), .pointer (some ⟨I.p, 0, none⟩), .bool false, .slice A1 n1 c1, .int .i64 (n1 : Int), (slot a 47), .bool false, (slot a 49), (slot a 50), (slot a 51), (slot a 52), (slot a 53), (slot a 54), (slot a 55), (slot a 56), (slot a 57), .pointer (some ⟨J.m, 0, none⟩), .pointer (some ⟨J.m, 0, none⟩), .pointer (some ⟨J.m, 0, none⟩), .pointer (some ⟨J.R.m, 0, none⟩), .pointer (some ⟨J.R.m, 0, none⟩), .pointer (some ⟨J.R.m, 0, none⟩), .slice (some ⟨J.R.p, 0, none⟩) 48 48, .int .i64 48, .int .i64 (k : Int), (slot a 67), (slot a 68), (slot a 69), (slot a 70), (slot a 71), (slot a 72), (slot a 73), (slot a 74), (slot a 75), (slot a 76), (slot a 77), (slot a 78), (slot a 79), (slot a 80), (slot a 81), (slot a 82), (slot a 83), (slot a 84), (slot a 85), (slot a 86), (slot a 87), (slot a 88), (slot a 89), (slot a 90), (slot a 91), (slot a 92), (slot a 93), (slot a 94), (slot a 95), (slot a 96), (slot a 97), (slot a 98), (slot a 99), (slot a 100), undef, undef, (slot a 103), (slot a 104), (slot a 105), (slot a 106), (slot a 107), (slot a 108), (slot a 109), (slot a 110), (slot a 111), (slot a 112), (slot a 113), (slot a 114), (slot a 115), (slot a 116), (slot a 117), (slot a 118), (slot a 119), (slot a 120), (slot a 121), (slot a 122), (slot a 123), (slot a 124), (slot a 125), (slot a 126), (slot a 127), (slot a 128), (slot a 129), (slot a 130), (slot a 131), (slot a 132), (slot a 133), (slot a 134), (slot a 135), (slot a 136), (slot a 137), (slot a 138)], defers := marks Ds }) : AcInv A n c A1 n1 c1 b4 b7 I J wS a w := ⟨k, Ds, slot a, hk, hb, hm, e⟩
def acMu (a : Act) (_ : World) : Nat := 48 - (intOf (a.tmps.getD 66 undef)).toNat
/-- What a round's range over Links holds. -/
def AcI (w5 : World) (b18 : Nat) (hi : Nat) (pre : List LkE) (W : World) : Prop :=
  (∃ v, Boxed W b18 42 v ∧ W.ownsRow hi 3 1 v pre.length (plV pre) ∧ True) ∧ Below w5.heap.size w5 W
theorem ac_own {w5 : World} {b18 hi B : Nat} (h : w5.heap.size ≤ B) : OwnFrom B (AcI w5 b18 hi) :=
  OwnFrom.and (Own.from (holdsRow_own hi b18 42 3 1 (fun pre : List LkE => pre.length) plV (fun _ _ => True)) _) (ownFrom_below (Nat.le_refl _) h)
theorem AcI.later {w5 W W' : World} {b18 hi : Nat} {pre : List LkE} (h : AcI w5 b18 hi pre W) (hb : Below W.heap.size W W') : AcI w5 b18 hi pre W' := by
  obtain ⟨⟨u1, h1, h2, -⟩, h5⟩ := h
  exact ⟨⟨u1, (hb.block _ h1.lt).trans h1, ownsRow_below h2 hb, trivial⟩, h5.trans (hb.mono h5.size)⟩
/-- What a round leaves: its row has grown by one. -/
theorem ac_round {w5 W W3 w1 : World} {n₁ b1 b2 b18 hi : Nat} {z1 z2 v v' : Value} {pre : List LkE} {x : LkE} {tmp : Obj} (hh : n₁ + 2 ≤ hi) (hup : hi ≤ W.heap.size) (hb1 : b1 < n₁) (hb2 : b2 < n₁) (h18 : w5.heap.size ≤ b18 ∧ b18 < n₁ ∧ b18 ≠ b1 ∧ b18 ≠ b2)
    (hv : Boxed W b18 42 v) (hrow : W.ownsRow hi 3 1 v pre.length (plV pre)) (hbw : Below w5.heap.size w5 W) (hb3 : Below W.heap.size W W3) (hown' : w1.ownsRow hi 3 1 v' (pre.length + 1) (plV pre ++ [.int .i64 x.p])) (hgrow : (W3.alloc tmp).grownBy w1 v.ownBlock) :
    Boxed w1 b18 42 v ∧ KeepsFrom n₁ W (w1.setCell ⟨b18, 0, none⟩ v') ∧ Kh w5.heap.size n₁ b1 b2 z1 z2 hi W (w1.setCell ⟨b18, 0, none⟩ v') ∧ AcI w5 b18 hi (pre ++ [x]) (w1.setCell ⟨b18, 0, none⟩ v') := by
  have T := li_rel (n₀ := w5.heap.size) (v1 := z1) (v2 := z2) (W := W) hh hb1 hb2 h18 h18
  have hs3 : hi ≤ W3.heap.size := Nat.le_trans hup hb3.size
  have r3 : LiR w5.heap.size n₁ b1 b2 z1 z2 hi W W3 := ⟨keeps_b hb3, Kh.of_below hb3 (by omega) hup⟩
  have hrow3 := (ownsRow_below hrow hb3).alloc tmp
  have r4 := T.al W3 tmp r3 hs3
  have r5 := T.gr _ w1 _ _ _ _ _ r4 (by simp; omega) hrow3 hgrow
  have r6 := (T.st w1 v' r5).1
  have hv3 : Boxed (W3.alloc tmp) b18 42 v := Boxed.alloc ((hb3.block _ hv.lt).trans hv) tmp
  have hv1 : Boxed w1 b18 42 v := hv3.kept hgrow (hv3.not_row (by decide) hrow3)
  refine ⟨hv1, r6.1, r6.2, ⟨⟨v', hv1.set v', ?_, trivial⟩, hbw.trans r6.2.bel⟩⟩
  have := hown'.kept (grownBy_setCell' w1 b18 v') (.inr (hv1.not_row (by decide) hown').symm)
  rw [List.length_append, plV_snoc]
  exact this
theorem act_eq {K : Act → World → Prop} {a b : Act} {w : World} (h : K a w) (e : a = b) : K b w := e ▸ h
theorem plV_refs (q : Cf) (wd : Nat → Nat) (a : Int) : plV (allLk q wd a) = ivals (IM.refs q wd a) := by
  unfold plV allLk ivals
  rw [List.map_map]
  rfl
end Go.Proofs.YteneadimchhhhaaGreatDoor
