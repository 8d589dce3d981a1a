/- A slice of acts among the laws' arguments: how it reads, how it is opened. -/
import Derived.Test.YteneadimchhhhaaGreatDoorLyKept
namespace Go.Proofs.YteneadimchhhhaaGreatDoor
open Go.ChangeShapes Go.WideShapes Go.ChangeAt Go.RowKit Go.Joins Go.Deep

/-- An act. -/
structure IAc where
  k : Int
  a : Int
  p : Int
  L : Int
  C : Int
  S : Int
  x : Int
  K : Int
  J : Int
  G : Int
def IAc.vals (f : IAc) : List Value := [.int .i64 f.k, .int .i64 f.a, .int .i64 f.p, .int .i64 f.L, .int .i64 f.C, .int .i64 f.S, .int .u64 f.x, .int .i64 f.K, .int .i64 f.J, .int .i64 f.G]
def IAc.ok (f : IAc) : Prop := I64 f.k ∧ I64 f.a ∧ I64 f.p ∧ I64 f.L ∧ I64 f.C ∧ I64 f.S ∧ FM.Word f.x ∧ I64 f.K ∧ I64 f.J ∧ I64 f.G
/-- A slice of acts that reads as the list l, its memory below block B. -/
def FI (w : World) (B : Nat) (A : Option Addr) (n : Nat) (l : List IAc) : Prop :=
  l.length = n ∧ (0 < n → ∃ b off, A = some ⟨b, off, none⟩ ∧ b < B ∧ ∀ i f j, l[i]? = some f → j < 10 → w.cell? ⟨b, off + i * 10 + j, none⟩ = f.vals[j]?) ∧ ∀ f ∈ l, f.ok
theorem FI.below {w w' : World} {B n : Nat} {A : Option Addr} {l : List IAc} (h : FI w B A n l) (hb : Below B w w') : FI w' B A n l := by
  refine ⟨h.1, fun hn => ?_, h.2.2⟩
  obtain ⟨b, off, e, hlt, hc⟩ := h.2.1 hn
  exact ⟨b, off, e, hlt, fun i f j hi hj => (hb.cell (p := ⟨b, _, none⟩) hlt).trans (hc i f j hi hj)⟩
theorem FI.at_ {w : World} {B n k : Nat} {A : Option Addr} {l : List IAc} (h : FI w B A n l) (hk : k < n) : ∃ b off f, A = some ⟨b, off, none⟩ ∧ b < B ∧ l[k]? = some f ∧ f.ok ∧
    w.cell? ⟨b, off + k * 10, none⟩ = some (.int .i64 f.k) ∧ w.cell? ⟨b, off + k * 10 + 1, none⟩ = some (.int .i64 f.a) ∧ w.cell? ⟨b, off + k * 10 + 2, none⟩ = some (.int .i64 f.p) ∧ w.cell? ⟨b, off + k * 10 + 3, none⟩ = some (.int .i64 f.L) ∧ w.cell? ⟨b, off + k * 10 + 4, none⟩ = some (.int .i64 f.C) ∧ w.cell? ⟨b, off + k * 10 + 5, none⟩ = some (.int .i64 f.S) ∧ w.cell? ⟨b, off + k * 10 + 6, none⟩ = some (.int .u64 f.x) ∧ w.cell? ⟨b, off + k * 10 + 7, none⟩ = some (.int .i64 f.K) ∧ w.cell? ⟨b, off + k * 10 + 8, none⟩ = some (.int .i64 f.J) ∧ w.cell? ⟨b, off + k * 10 + 9, none⟩ = some (.int .i64 f.G) := by
  obtain ⟨b, off, e, hlt, hc⟩ := h.2.1 (by omega)
  have hl : k < l.length := by have := h.1; omega
  have hi : l[k]? = some l[k] := List.getElem?_eq_getElem hl
  exact ⟨b, off, l[k], e, hlt, hi, h.2.2 _ (List.getElem_mem hl), hc k _ 0 hi (by omega), hc k _ 1 hi (by omega), hc k _ 2 hi (by omega), hc k _ 3 hi (by omega), hc k _ 4 hi (by omega), hc k _ 5 hi (by omega), hc k _ 6 hi (by omega), hc k _ 7 hi (by omega), hc k _ 8 hi (by omega), hc k _ 9 hi (by omega)⟩

section
variable {H : Type} {enc : TypeId × Value → H} {w : World} {spare : Nat → Bool} {held : Bool}
theorem ten_field {cs : List Value} {a : Addr} {i j : Nat} {v : Value} (hc : ∀ j, j < 10 → w.cell? ((a.add (i * 10)).add j) = cs[j]?) (hj : j < 10) (h0 : cs[j]? = some v) :
    w.cell? ⟨a.block, a.off + i * 10 + j, none⟩ = some v := by
  have h1 := hc j hj
  rw [h0, add_add4] at h1
  rw [addr_plain h1] at h1
  rw [Nat.add_assoc]
  exact h1
theorem open_room {P : Program} {t e : TypeId} {A : Option Addr} {n c : Nat} {d : DataW H} {p : List MemPlace} (ht : P.underlying t = some (.slice e)) (h : DataW.Trod enc P w 0 spare held t (.slice A n c) d p) : n ≤ c ∧ c ≤ 9223372036854775807 := by
  obtain ⟨fuel, hf⟩ := h
  rcases open_slice ht hf with ⟨hcs, _⟩ | ⟨a, len, cap, m, k, D, Pl, hcs, _, hl, hc, _⟩
  · simp [Value.cells] at hcs
    obtain ⟨rfl, rfl, rfl⟩ := hcs
    omega
  · simp [Value.cells] at hcs
    obtain ⟨rfl, rfl, rfl⟩ := hcs
    unfold maxLen at hc
    omega
theorem take_first {cs : List Value} {j : Nat} {v : Value} (h : (cs.drop j).take 1 = [v]) : cs[j]? = some v := by
  have : ((cs.drop j).take 1)[0]? = some v := by rw [h]; rfl
  simpa using this
theorem in_i64 {x : Int} (h : (Lit.int .i64 x).wf = true) : I64 x := by have := bounds_i64 h; unfold I64; omega
theorem in_u64 {x : Int} (h : (Lit.int .u64 x).wf = true) : FM.Word x := by have := bounds_u64 h; constructor <;> omega
set_option maxRecDepth 100000 in
set_option maxHeartbeats 1000000 in
theorem open_iacts {A : Option Addr} {n c : Nat} {d : DataW H} {p : List MemPlace} (h : DataW.Trod enc Tryz.prog w 0 spare held 23 (.slice A n c) d p) : ∃ l, FI w w.heap.size A n l := by
  obtain ⟨fuel, hf⟩ := h
  rcases open_slice Tryz.underlying23 hf with ⟨hcs, _⟩ | ⟨a, len, cap, m, k, D, Pl, hcs, _, hl, _, hmm, _, hi⟩
  · simp [Value.cells] at hcs
    obtain ⟨rfl, rfl, rfl⟩ := hcs
    exact ⟨[], rfl, fun h => absurd h (by omega), by simp⟩
  · simp [Value.cells] at hcs
    obtain ⟨rfl, rfl, rfl⟩ := hcs
    have hlm : n ≤ m := by rw [hmm]; split <;> omega
    have cA : Tryz.prog.cellsOf 39 = 10 := by kernel_rfl
    have c1 : Tryz.prog.cellsOf 3 = 1 := by kernel_rfl
    have cu : Tryz.prog.cellsOf 33 = 1 := by kernel_rfl
    have c2 : Tryz.prog.cellsOf 35 = 2 := by kernel_rfl
    have c3 : Tryz.prog.cellsOf 32 = 3 := by kernel_rfl
    have cl : Tryz.prog.cellsOf 37 = 3 := by kernel_rfl
    rw [cA] at hi
    have hg : ∀ i, i < n → ∃ f : IAc, (∀ j, j < 10 → w.cell? ⟨a.block, a.off + i * 10 + j, none⟩ = f.vals[j]?) ∧ f.ok := by
      intro i hin
      obtain ⟨cs, hc, ht⟩ := hi i (by omega)
      obtain ⟨ys, k', _, _, _, hyl, hfl⟩ := DataW.trod_struct Tryz.underlying39 ht
      obtain ⟨_, _, hat⟩ := World.cells?_some hc
      have hyl6 : ys.length = 6 := hyl
      obtain ⟨y0, hy0⟩ : ∃ y, ys[0]? = some y := ⟨ys[0]'(by omega), List.getElem?_eq_getElem (by omega)⟩
      obtain ⟨y1, hy1⟩ : ∃ y, ys[1]? = some y := ⟨ys[1]'(by omega), List.getElem?_eq_getElem (by omega)⟩
      obtain ⟨y2, hy2⟩ : ∃ y, ys[2]? = some y := ⟨ys[2]'(by omega), List.getElem?_eq_getElem (by omega)⟩
      obtain ⟨y3, hy3⟩ : ∃ y, ys[3]? = some y := ⟨ys[3]'(by omega), List.getElem?_eq_getElem (by omega)⟩
      obtain ⟨y4, hy4⟩ : ∃ y, ys[4]? = some y := ⟨ys[4]'(by omega), List.getElem?_eq_getElem (by omega)⟩
      obtain ⟨y5, hy5⟩ : ∃ y, ys[5]? = some y := ⟨ys[5]'(by omega), List.getElem?_eq_getElem (by omega)⟩
      have g0 : DataW.trod enc Tryz.prog w 0 spare held k' 3 ((cs.drop 0).take (Tryz.prog.cellsOf 3)) = ys[0]? := hfl 0 _ rfl
      have g1 : DataW.trod enc Tryz.prog w 0 spare held k' 3 ((cs.drop 1).take (Tryz.prog.cellsOf 3)) = ys[1]? := hfl 1 _ rfl
      have g2 : DataW.trod enc Tryz.prog w 0 spare held k' 3 ((cs.drop 2).take (Tryz.prog.cellsOf 3)) = ys[2]? := hfl 2 _ rfl
      have g3 : DataW.trod enc Tryz.prog w 0 spare held k' 32 ((cs.drop 3).take (Tryz.prog.cellsOf 32)) = ys[3]? := hfl 3 _ rfl
      have g4 : DataW.trod enc Tryz.prog w 0 spare held k' 33 ((cs.drop 6).take (Tryz.prog.cellsOf 33)) = ys[4]? := hfl 4 _ rfl
      have g5 : DataW.trod enc Tryz.prog w 0 spare held k' 37 ((cs.drop 7).take (Tryz.prog.cellsOf 37)) = ys[5]? := hfl 5 _ rfl
      rw [c1, hy0] at g0
      rw [c1, hy1] at g1
      rw [c1, hy2] at g2
      rw [c3, hy3] at g3
      rw [cu, hy4] at g4
      rw [cl, hy5] at g5
      obtain ⟨x0, e0, _, w0⟩ := DataW.trod_int Tryz.underlying3 g0
      obtain ⟨x1, e1, _, w1⟩ := DataW.trod_int Tryz.underlying3 g1
      obtain ⟨x2, e2, _, w2⟩ := DataW.trod_int Tryz.underlying3 g2
      obtain ⟨x6, e6, _, w6⟩ := DataW.trod_int Tryz.underlying33 g4
      obtain ⟨zs, k3, _, _, _, zl, zf⟩ := DataW.trod_struct Tryz.underlying32 g3
      have zl3 : zs.length = 3 := zl
      obtain ⟨z0, hz0⟩ : ∃ y, zs[0]? = some y := ⟨zs[0]'(by omega), List.getElem?_eq_getElem (by omega)⟩
      obtain ⟨z1, hz1⟩ : ∃ y, zs[1]? = some y := ⟨zs[1]'(by omega), List.getElem?_eq_getElem (by omega)⟩
      obtain ⟨z2, hz2⟩ : ∃ y, zs[2]? = some y := ⟨zs[2]'(by omega), List.getElem?_eq_getElem (by omega)⟩
      have t0 : DataW.trod enc Tryz.prog w 0 spare held k3 3 ((((cs.drop 3).take 3).drop 0).take (Tryz.prog.cellsOf 3)) = zs[0]? := zf 0 _ rfl
      have t1 : DataW.trod enc Tryz.prog w 0 spare held k3 3 ((((cs.drop 3).take 3).drop 1).take (Tryz.prog.cellsOf 3)) = zs[1]? := zf 1 _ rfl
      have t2 : DataW.trod enc Tryz.prog w 0 spare held k3 3 ((((cs.drop 3).take 3).drop 2).take (Tryz.prog.cellsOf 3)) = zs[2]? := zf 2 _ rfl
      rw [c1, hz0] at t0
      rw [c1, hz1] at t1
      rw [c1, hz2] at t2
      obtain ⟨x3, e3, _, w3⟩ := DataW.trod_int Tryz.underlying3 t0
      obtain ⟨x4, e4, _, w4⟩ := DataW.trod_int Tryz.underlying3 t1
      obtain ⟨x5, e5, _, w5⟩ := DataW.trod_int Tryz.underlying3 t2
      obtain ⟨us, k4, _, _, _, ul, uf⟩ := DataW.trod_struct Tryz.underlying37 g5
      have ul2 : us.length = 2 := ul
      obtain ⟨u0, hu0⟩ : ∃ y, us[0]? = some y := ⟨us[0]'(by omega), List.getElem?_eq_getElem (by omega)⟩
      obtain ⟨u1, hu1⟩ : ∃ y, us[1]? = some y := ⟨us[1]'(by omega), List.getElem?_eq_getElem (by omega)⟩
      have v0 : DataW.trod enc Tryz.prog w 0 spare held k4 3 ((((cs.drop 7).take 3).drop 0).take (Tryz.prog.cellsOf 3)) = us[0]? := uf 0 _ rfl
      have v1 : DataW.trod enc Tryz.prog w 0 spare held k4 35 ((((cs.drop 7).take 3).drop 1).take (Tryz.prog.cellsOf 35)) = us[1]? := uf 1 _ rfl
      rw [c1, hu0] at v0
      rw [c2, hu1] at v1
      obtain ⟨x7, e7, _, w7⟩ := DataW.trod_int Tryz.underlying3 v0
      obtain ⟨ss, k5, _, _, _, sl, sf⟩ := DataW.trod_struct Tryz.underlying35 v1
      have sl2 : ss.length = 2 := sl
      obtain ⟨s0, hs0⟩ : ∃ y, ss[0]? = some y := ⟨ss[0]'(by omega), List.getElem?_eq_getElem (by omega)⟩
      obtain ⟨s1, hs1⟩ : ∃ y, ss[1]? = some y := ⟨ss[1]'(by omega), List.getElem?_eq_getElem (by omega)⟩
      have r0 : DataW.trod enc Tryz.prog w 0 spare held k5 3 ((((((cs.drop 7).take 3).drop 1).take 2).drop 0).take (Tryz.prog.cellsOf 3)) = ss[0]? := sf 0 _ rfl
      have r1 : DataW.trod enc Tryz.prog w 0 spare held k5 3 ((((((cs.drop 7).take 3).drop 1).take 2).drop 1).take (Tryz.prog.cellsOf 3)) = ss[1]? := sf 1 _ rfl
      rw [c1, hs0] at r0
      rw [c1, hs1] at r1
      obtain ⟨x8, e8, _, w8⟩ := DataW.trod_int Tryz.underlying3 r0
      obtain ⟨x9, e9, _, w9⟩ := DataW.trod_int Tryz.underlying3 r1
      have sub : ∀ {l : List Value} {s q j : Nat} {v : Value}, j < q → ((((l.drop s).take q).drop j).take 1) = [v] → l[s + j]? = some v := by
        intro l s q j v hj h
        have h1 := take_first h
        rw [List.getElem?_take, if_pos hj, List.getElem?_drop] at h1
        exact h1
      have sub2 : ∀ {j : Nat} {v : Value}, j < 2 → ((((((cs.drop 7).take 3).drop 1).take 2).drop j).take 1) = [v] → cs[8 + j]? = some v := by
        intro j v hj h
        have h1 := sub (l := (cs.drop 7).take 3) hj h
        rw [List.getElem?_take, if_pos (by omega), List.getElem?_drop, ← Nat.add_assoc] at h1
        exact h1
      refine ⟨⟨x0, x1, x2, x3, x4, x5, x6, x7, x8, x9⟩, fun j hj => ?_, in_i64 w0, in_i64 w1, in_i64 w2, in_i64 w3, in_i64 w4, in_i64 w5, in_u64 w6, in_i64 w7, in_i64 w8, in_i64 w9⟩
      match j, hj with
      | 0, _ => exact ten_field hat (by omega) (take_first e0)
      | 1, _ => exact ten_field hat (by omega) (take_first e1)
      | 2, _ => exact ten_field hat (by omega) (take_first e2)
      | 3, _ => exact ten_field hat (by omega) (sub (by omega) e3)
      | 4, _ => exact ten_field hat (by omega) (sub (by omega) e4)
      | 5, _ => exact ten_field hat (by omega) (sub (by omega) e5)
      | 6, _ => exact ten_field hat (by omega) (take_first e6)
      | 7, _ => exact ten_field hat (by omega) (sub (by omega) e7)
      | 8, _ => exact ten_field hat (by omega) (sub2 (by omega) e8)
      | 9, _ => exact ten_field hat (by omega) (sub2 (by omega) e9)
    haveI : Inhabited IAc := ⟨⟨0, 0, 0, 0, 0, 0, 0, 0, 0, 0⟩⟩
    obtain ⟨q, hq⟩ := choose_lt hg
    refine ⟨(List.range n).map q, by simp, fun hn => ?_, fun x hx => ?_⟩
    · have h0 : w.cell? ⟨a.block, a.off + 0 * 10 + 0, none⟩ = some (.int .i64 (q 0).k) := (hq 0 hn).1 0 (by omega)
      have hsp : a = ⟨a.block, a.off, none⟩ := by
        obtain ⟨cs, hc, ht⟩ := hi 0 (by omega)
        obtain ⟨_, hlen, hat⟩ := World.cells?_some hc
        have h1 := hat 0 (by omega)
        rw [List.getElem?_eq_getElem (show 0 < cs.length by omega), add_add4] at h1
        have := addr_plain h1
        simpa [Addr.add] using this
      refine ⟨a.block, a.off, by rw [← hsp], cell_lt (a := ⟨a.block, a.off + 0 * 10 + 0, none⟩) h0, fun i f j hif hj => ?_⟩
      simp only [List.getElem?_map, Option.map_eq_some_iff] at hif
      obtain ⟨j', hj', rfl⟩ := hif
      have hjn : i < n := by
        rcases Nat.lt_or_ge i n with h | h
        · exact h
        · rw [List.getElem?_eq_none (by simpa using h)] at hj'; cases hj'
      rw [List.getElem?_range hjn] at hj'
      injection hj' with hj'
      subst hj'
      exact (hq i hjn).1 j hj
    · obtain ⟨j, hj, rfl⟩ := List.mem_map.1 hx
      exact (hq j (List.mem_range.1 hj)).2
end
end Go.Proofs.YteneadimchhhhaaGreatDoor
