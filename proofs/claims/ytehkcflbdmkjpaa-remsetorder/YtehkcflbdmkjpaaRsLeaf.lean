/- A set's blocks; contracts of New, To, Len, compare, and of the library's sort over references. -/
import Derived.Test.YtehkcflbdmkjpaaRsRow
import Derived.Test.YtehkcflbdmkjpaaRsShelf
import Derived.WalkSmall
import Derived.Deep.QuietTactic
import Derived.BigQuiet
namespace Go.Proofs.Ytehkcflbdmkjpaa
open Go.RowKit Go.Maps Go.Sort

theorem bounds_ok {x : Int} (h : -9223372036854775808 ≤ x ∧ x ≤ 9223372036854775807) : I64ok x := WalkArith.wf_i64 (by omega)
theorem ok_nat {x : Nat} (h : x ≤ 1000000) : I64ok (x : Int) := WalkArith.wf_i64 (by omega)

/-- A map of groups: block g; the groups' maps are among the blocks I; mem: which references each number has. -/
structure Grp (w : World) (g c : Nat) (I : List Nat) (mem : Int → List RM.R) : Prop where
  ex : ∃ G, OutMap w g c G ∧ (∀ z k, I64ok z → G z = some k → k ∈ I ∧ InMap w k (mem z) ∧ mem z ≠ []) ∧ (∀ z, I64ok z → G z = none → mem z = []) ∧
    (∀ z y k, I64ok z → I64ok y → G z = some k → G y = some k → z = y)
  maps : ∀ x ∈ I, MapB w x
  out : g ∉ I
section
variable {w w' : World} {g c : Nat} {I S : List Nat} {mem mem' : Int → List RM.R}
theorem Grp.keep (h : Grp w g c I mem) (e : ∀ x ∈ g :: I, w'.heap[x]? = w.heap[x]?) : Grp w' g c I mem := by
  obtain ⟨G, h1, h2, h3, h4⟩ := h.ex
  refine ⟨⟨G, h1.keep (e g (by simp)), fun z k hz hk => ?_, h3, h4⟩, fun x hx => (h.maps x hx).keep (e x (by simp [hx])), h.out⟩
  obtain ⟨h5, h6, h7⟩ := h2 z k hz hk
  exact ⟨h5, h6.keep (e k (by simp [h5])), h7⟩
theorem Grp.mapB (h : Grp w g c I mem) : ∀ x ∈ g :: I, MapB w x := fun x hx => by
  rcases List.mem_cons.1 hx with rfl | hx
  · obtain ⟨G, h1, _⟩ := h.ex
    exact h1.mapB
  · exact h.maps x hx
theorem Grp.aft (h : Grp w g c I mem) (k : Aft S w w') (hS : ∀ x ∈ g :: I, x ∉ S) : Grp w' g c I mem := h.keep fun x hx => k.block x (h.mapB x hx).lt (hS x hx)
theorem Grp.below (h : Grp w g c I mem) (k : Below w.heap.size w w') : Grp w' g c I mem := h.keep fun x hx => k.block x (h.mapB x hx).lt
theorem Grp.ext (h : Grp w g c I mem) (e : ∀ z, I64ok z → mem' z = mem z) : Grp w g c I mem' := by
  obtain ⟨G, h1, h2, h3, h4⟩ := h.ex
  refine ⟨⟨G, h1, fun z k hz hk => ?_, fun z hz hG => ?_, h4⟩, h.maps, h.out⟩
  · rw [e z hz]; exact h2 z k hz hk
  · rw [e z hz]; exact h3 z hz hG
/-- The group of a number: nil, or its map. -/
theorem Grp.at_ (h : Grp w g c I mem) {z : Int} (hz : I64ok z) : ∃ o : Option Nat, (Instr.lookup 51 (.map (some g)) (.int .i64 z) false).run Try.prog w = .ok (.map o) w ∧
    (o = none ∧ mem z = [] ∨ ∃ k, o = some k ∧ k ∈ I ∧ InMap w k (mem z) ∧ mem z ≠ []) := by
  obtain ⟨G, h1, h2, h3, h4⟩ := h.ex
  refine ⟨G z, h1.look hz, ?_⟩
  cases hG : G z with
  | none => exact .inl ⟨rfl, h3 z hz hG⟩
  | some k => exact .inr ⟨k, rfl, h2 z k hz hG⟩
end

/-- A set's blocks: its box, the map of targets, the two maps of groups, the groups' maps. -/
structure RB where
  b : Nat
  m : Nat
  o : Nat
  f : Nat
  I : List Nat
  J : List Nat
/-- The blocks that calls write. -/
def RB.wr (B : RB) : List Nat := B.m :: B.o :: B.f :: (B.I ++ B.J)
/-- A set of the code's: what it has. -/
structure RsAt (w : World) (B : RB) (c : Nat) (L : RM.L) : Prop where
  box : Whole w B.b 53 #[.map (some B.m), .map (some B.o), .map (some B.f)]
  map : RMap w B.m L
  of : Grp w B.o c B.I (RM.of L)
  frm : Grp w B.f c B.J (RM.frm L)
  up : RM.Up L
  val : ∀ p ∈ L, I64ok p.2
  ne : (B.m ≠ B.o ∧ B.m ≠ B.f ∧ B.o ≠ B.f) ∧ (B.m ∉ B.I ∧ B.m ∉ B.J) ∧ B.o ∉ B.J ∧ B.f ∉ B.I ∧ ∀ x ∈ B.I, x ∉ B.J
section
variable {w w' : World} {B : RB} {c : Nat} {L : RM.L} {S : List Nat}
theorem RsAt.mapB (h : RsAt w B c L) : ∀ x ∈ B.wr, MapB w x := fun x hx => by
  unfold RB.wr at hx
  simp only [List.mem_cons, List.mem_append] at hx
  rcases hx with rfl | rfl | rfl | hx | hx
  · exact h.map.mapB
  · exact h.of.mapB _ (by simp)
  · exact h.frm.mapB _ (by simp)
  · exact h.of.maps x hx
  · exact h.frm.maps x hx
theorem RsAt.notBox (h : RsAt w B c L) : B.b ∉ B.wr := fun hb => (h.mapB _ hb).ne h.box rfl
theorem RsAt.keep (h : RsAt w B c L) (e : ∀ x ∈ B.b :: B.wr, w'.heap[x]? = w.heap[x]?) : RsAt w' B c L :=
  ⟨(e B.b (by simp)).trans h.box, h.map.keep (e B.m (by simp [RB.wr])), h.of.keep fun x hx => e x (by
    rcases List.mem_cons.1 hx with rfl | hx
    · simp [RB.wr]
    · simp [RB.wr, hx]), h.frm.keep fun x hx => e x (by
    rcases List.mem_cons.1 hx with rfl | hx
    · simp [RB.wr]
    · simp [RB.wr, hx]), h.up, h.val, h.ne⟩
theorem RsAt.lt (h : RsAt w B c L) : ∀ x ∈ B.b :: B.wr, x < w.heap.size := fun x hx => by
  rcases List.mem_cons.1 hx with rfl | hx
  · exact h.box.lt
  · exact (h.mapB x hx).lt
theorem RsAt.aft (h : RsAt w B c L) (k : Aft S w w') (hS : ∀ x ∈ B.b :: B.wr, x ∉ S) : RsAt w' B c L := h.keep fun x hx => k.block x (h.lt x hx) (hS x hx)
theorem RsAt.below (h : RsAt w B c L) (k : Below w.heap.size w w') : RsAt w' B c L := h.keep fun x hx => k.block x (h.lt x hx)
theorem RsAt.alloc (h : RsAt w B c L) (o : Obj) : RsAt (w.alloc o) B c L := h.below ((Below.refl _ _).alloc (Nat.le_refl _) o)
theorem RsAt.drewN (h : RsAt w B c L) (m : Nat) : RsAt (w.drewN m) B c L := h.keep fun _ _ => rfl
theorem RsAt.c0 (h : RsAt w B c L) : w.cell? ⟨B.b, 0, none⟩ = some (.map (some B.m)) := by rw [h.box.cell]; rfl
theorem RsAt.c1 (h : RsAt w B c L) : w.cell? ⟨B.b, 1, none⟩ = some (.map (some B.o)) := by rw [h.box.cell]; rfl
theorem RsAt.c2 (h : RsAt w B c L) : w.cell? ⟨B.b, 2, none⟩ = some (.map (some B.f)) := by rw [h.box.cell]; rfl
end

theorem cmpInt_any (x y : Int) (w : World) : Calls Try.prog 35 #[.int .i64 x, .int .i64 y] w fun e w' => e = .returned (.int .i64 (Lib.compareInt x y)) ∧ w' = w := Any.cmp_Compare_int Try.lays122 x y w

set_option maxHeartbeats 1000000 in
theorem rcompare_any (x y : RM.R) (W : World) : Calls Try.prog 31 #[.agg #[.int .i64 x.1, .int .i64 x.2], .agg #[.int .i64 y.1, .int .i64 y.2]] W fun e w' => e = .returned (.int .i64 (TM.cmp x y)) ∧ ∃ q os', w' = grow (W.drewN q) os' := by
  obtain ⟨a, b⟩ := x
  obtain ⟨c, d⟩ := y
  have h1 := cmpInt_any a c
  have h2 := cmpInt_any b d
  by_cases h : Lib.compareInt a c = 0
  · have hcmp : TM.cmp (a, b) (c, d) = Lib.compareInt b d := if_pos h
    rw [hcmp]
    rw [h] at h1
    clear h hcmp
    generalize Lib.compareInt b d = r at h2 ⊢
    go_enter Try.func31, Try.ntmps31
    go_wp2_with fail
    refine (h1 _).mono ?_
    rintro e w' ⟨rfl, rfl⟩
    go_wp2_with fail
    refine (h2 _).mono ?_
    rintro e w' ⟨rfl, rfl⟩
    go_wp2_with fail
    go_ret
    exact ⟨rfl, 0, _, by rw [alloc_eq_grow, alloc_eq_grow, grow_grow]; rfl⟩
  · have hcmp : TM.cmp (a, b) (c, d) = Lib.compareInt a c := if_neg h
    rw [hcmp]
    clear hcmp
    generalize Lib.compareInt a c = r at h1 h ⊢
    have h' : (r != 0) = true := by simpa using h
    go_enter Try.func31, Try.ntmps31
    go_wp2_with fail
    refine (h1 _).mono ?_
    rintro e w' ⟨rfl, rfl⟩
    go_wp2_with fail
    go_ret
    exact ⟨rfl, 0, _, by rw [alloc_eq_grow, alloc_eq_grow, grow_grow]; rfl⟩
theorem cmpLays (blk off size : Nat) (w : World) : CmpLays Try.prog 31 #[] encT 2 TM.cmp blk off size w := fun _ _ _ _ x y => rcompare_any x y _

theorem heap_sortedV {w : World} {g n : Nat} {os : Array Obj} {cur : Array Value} {e : TypeId} (d : Array Value) (hb : w.heap[g]? = some (.cells cur e (0, 0))) :
    (grow (putRow id (Sort.ahead w n) g 0 d) os).heap[g]? = some (.cells (putCells id 0 d cur) e (0, 0)) := by
  have hg : g < w.heap.size := (Array.getElem?_eq_some_iff.1 hb).1
  rw [heap_grow_old _ _ (by simpa using hg)]
  simp [putRow, mapBlock, Sort.ahead, Array.getElem?_modify, hb, onCells]
theorem grownBy_sortedV {w : World} {g n : Nat} {os : Array Obj} (d : Array Value) : w.grownBy (grow (putRow id (Sort.ahead w n) g 0 d) os) (some g) := by
  refine ⟨rfl, rfl, rfl, by simp, fun k hk hne => ?_⟩
  rw [heap_grow_old _ _ (by simpa using hk)]
  have : g ≠ k := fun e => hne (by rw [e])
  simp [putRow, mapBlock, Sort.ahead, Array.getElem?_modify, this]
theorem flatK_list (l : List RM.R) : flatK encT 2 l.toArray = (flatT l).toArray := by
  apply Array.ext_getElem?
  intro j
  have hs : (flatK encT 2 l.toArray).size = l.length * 2 := by simp [flatK]
  by_cases hj : j < l.length * 2
  · have h1 := get_flatK encT 2 l.toArray j (by simpa using hj)
    rw [getElem!_pos _ j (by rw [hs]; exact hj)] at h1
    rw [Array.getElem?_eq_getElem (by rw [hs]; exact hj), h1]
    have hd : l.toArray[j / 2]! = l[j / 2]'(by omega) := by rw [getElem!_pos l.toArray (j / 2) (by simpa using (by omega : j / 2 < l.length))]; simp
    have hq := flatT_get l (j / 2) (l[j / 2]'(by omega)) (List.getElem?_eq_getElem (by omega))
    rw [hd]
    rcases Nat.mod_two_eq_zero_or_one j with e | e
    · rw [e]
      have := hq.1
      rw [show j / 2 * 2 = j by omega] at this
      simp [this, encT]
    · rw [e]
      have := hq.2
      rw [show j / 2 * 2 + 1 = j by omega] at this
      simp [this, encT]
  · rw [Array.getElem?_eq_none (by omega), Array.getElem?_eq_none (by simp [flatT_len]; omega)]

/-- The library's sort over a row of references of one's own. -/
theorem sortRow_any (base : Nat) (v : Value) (l : List RM.R) (w : World) (h : NewT base w v l) (hl : l.length < 4611686018427387904) (hb : base ≤ w.heap.size) :
    Calls Try.prog 33 #[v, .func (.func 31) #[] #[]] w fun e w' => e = .returned (.tuple #[]) ∧ NewT base w' v (TM.row l) ∧ Below base w w' := by
  rcases h.2 with ⟨rfl, h0⟩ | ⟨g, cap, cur, rfl, hg, hh, hn, hm, hs, ht⟩
  · have e : l = [] := List.eq_nil_of_length_eq_zero h0
    subst e
    refine Calls.mono (AnyF.slices_SortFunc_none Try.sortRs none 0 _ w) ?_
    rintro e w' ⟨rfl, rfl⟩
    have e : TM.row [] = [] := List.eq_nil_of_length_eq_zero (TM.row_len [])
    rw [e]
    exact ⟨rfl, NewT.nil _ _, Below.refl _ _⟩
  · have hlt : g < w.heap.size := (Array.getElem?_eq_some_iff.1 hh).1
    have hH : HoldsK encT 2 w g 0 l.toArray := by
      unfold HoldsK
      rw [flatK_list]
      intro j hj
      have hj' : j < l.length * 2 := by rw [← flatT_len]; simpa using hj
      refine ⟨?_, by simp [World.frozen?, hh]⟩
      have h1 : (cur.toList.take (l.length * 2))[j]? = (flatT l)[j]? := by rw [ht]
      rw [List.getElem?_take_of_lt hj'] at h1
      simp only [World.cell?, hh, Nat.zero_add, id_eq]
      simp only [Option.isSome_none, Bool.false_eq_true, if_false]
      rw [← Array.getElem?_toList, h1]
      have : j < (flatT l).length := by rw [flatT_len]; exact hj'
      simp [this]
    have eg : ∀ args w, (callFunc 31 args).run Try.prog w = .ok (.enter 31 args) w := enters_of Try.func31 (by kernel_rfl) rfl
    have hcon := AnyQ.slices_SortFunc_total Try.sortRs 2 Try.isAgg24 Try.sizeOf24 encT encT_len encT_one TM.cmp TM.swo 31 #[] g 0 cap l.toArray w eg (cmpLays g 0 l.toArray.size w) hH hlt (by simpa using hl) TM.parts
    have hcon' : Calls Try.prog 33 #[.slice (some ⟨g, 0, none⟩) l.length cap, .func (.func 31) #[] #[]] w _ := hcon
    refine Calls.mono hcon' ?_
    rintro e w' ⟨he, n, os, rfl⟩
    have hrl := TM.row_len l
    have hflat : flatK encT 2 (TM.row l).toArray = (flatT (TM.row l)).toArray := flatK_list _
    have hw : (sortWorldK encT 2 w g 0 n (TM.row l).toArray os).heap[g]? = some (.cells (putCells id 0 (flatT (TM.row l)).toArray cur) 24 (0, 0)) := by
      have := heap_sortedV (n := n) (os := os) (flatT (TM.row l)).toArray hh
      rw [← hflat] at this
      rw [← hflat]
      exact this
    have hgr : w.grownBy (sortWorldK encT 2 w g 0 n (TM.row l).toArray os) (some g) := grownBy_sortedV _
    refine ⟨he, ?_, (Below.refl base w).grown hgr hb (fun k e => by injection e with e; omega)⟩
    have hfl : (flatT (TM.row l)).length = l.length * 2 := by rw [flatT_len, hrl]
    have : (sortWorldK encT 2 w g 0 n (TM.row l).toArray os).ownsRow base 24 2 (.slice (some ⟨g, 0, none⟩) l.length cap) l.length (flatT (TM.row l)) :=
      ⟨hfl, .inr ⟨g, cap, _, rfl, hg, hw, hn, hm, by simp [putCells, hs], by rw [← hfl]; exact take_putCellsV cur _ (by rw [hfl, hs]; exact Nat.mul_le_mul_right _ hn)⟩⟩
    unfold NewT
    rw [hrl]
    exact this

/-- What New leaves. -/
def NewPost (w : World) (e : Ending) (w' : World) : Prop :=
  ∃ B, e = .returned (.pointer (some ⟨B.b, 0, none⟩)) ∧ RsAt w' B 0 [] ∧ (∀ x ∈ B.b :: B.wr, w.heap.size ≤ x) ∧ Below w.heap.size w w'
theorem Grp.made {w : World} {g : Nat} (h : OutMap w g 0 fun _ => none) : Grp w g 0 [] (fun _ => []) :=
  ⟨⟨_, h, fun z k _ hk => (by cases hk), fun _ _ _ => rfl, fun z y k _ _ hk => (by cases hk)⟩, by simp, by simp⟩
theorem rnew_any (w : World) : Calls Try.prog 9 #[] w (NewPost w) := by
  have hmm := @run_makeMap Try.prog
  go_enter Try.func9, Try.ntmps9
  go_wp2
  go_ret
  have b1 : Below w.heap.size w (w.alloc (.map #[] 0)) := (Below.refl _ _).alloc (Nat.le_refl _) _
  have s1 : (w.alloc (.map #[] 0)).heap.size = w.heap.size + 1 := by simp
  have m1 := RMap.made w
  obtain ⟨w1, hw1⟩ : ∃ w1, w1 = w.alloc (.map #[] 0) := ⟨_, rfl⟩
  rw [← hw1] at b1 s1 m1 ⊢
  have b2 : Below w1.heap.size w1 (w1.alloc (.map #[] 0)) := (Below.refl _ _).alloc (Nat.le_refl _) _
  have s2 : (w1.alloc (.map #[] 0)).heap.size = w1.heap.size + 1 := by simp
  have m2 := OutMap.made w1
  obtain ⟨w2, hw2⟩ : ∃ w2, w2 = w1.alloc (.map #[] 0) := ⟨_, rfl⟩
  rw [← hw2] at b2 s2 m2 ⊢
  have b3 : Below w2.heap.size w2 (w2.alloc (.map #[] 0)) := (Below.refl _ _).alloc (Nat.le_refl _) _
  have s3 : (w2.alloc (.map #[] 0)).heap.size = w2.heap.size + 1 := by simp
  have m3 := OutMap.made w2
  obtain ⟨w3, hw3⟩ : ∃ w3, w3 = w2.alloc (.map #[] 0) := ⟨_, rfl⟩
  rw [← hw3] at b3 s3 m3 ⊢
  have e1 : w1.heap.size = w.heap.size + 1 := s1
  have e2 : w2.heap.size = w.heap.size + 2 := by omega
  have e3 : w3.heap.size = w.heap.size + 3 := by omega
  have hwb : ∀ cs, Whole (w3.alloc (.cells cs 53)) (w.heap.size + 3) 53 cs := fun cs => Whole.fresh' (by omega)
  have b4 : ∀ cs, Below w3.heap.size w3 (w3.alloc (.cells cs 53)) := fun cs => (Below.refl _ _).alloc (Nat.le_refl _) _
  have m1' : ∀ cs, RMap (w3.alloc (.cells cs 53)) w.heap.size [] := fun cs => ((m1.keep (b2.block _ (by omega))).keep (b3.block _ (by omega))).keep ((b4 cs).block _ (by omega))
  have m2' : ∀ cs, OutMap (w3.alloc (.cells cs 53)) (w.heap.size + 1) 0 (fun _ => none) := fun cs => by rw [e1] at m2; exact (m2.keep (b3.block _ (by omega))).keep ((b4 cs).block _ (by omega))
  have m3' : ∀ cs, OutMap (w3.alloc (.cells cs 53)) (w.heap.size + 2) 0 (fun _ => none) := fun cs => by rw [e2] at m3; exact m3.keep ((b4 cs).block _ (by omega))
  refine ⟨⟨w.heap.size + 3, w.heap.size, w.heap.size + 1, w.heap.size + 2, [], []⟩, by simp, ⟨by rw [← e1, ← e2]; first | exact hwb _ | (rw [e1, e2]; exact hwb _), m1' _, Grp.made (m2' _), Grp.made (m3' _), RM.Up.nil, by simp, by simp⟩, ?_, ?_⟩
  · intro x hx
    simp [RB.wr] at hx
    omega
  · exact (b1.trans (b2.mono (by omega))).trans ((b3.mono (by omega)).trans ((b4 _).mono (by omega)))

section
variable {w : World} {B : RB} {c : Nat} {L : RM.L}
theorem rlen_any (h : RsAt w B c L) : Calls Try.prog 16 #[.pointer (some ⟨B.b, 0, none⟩)] w fun e w' => e = .returned (.int .i64 (L.length : Nat)) ∧ w = w' := by
  have hl := h.map.len 3
  have c0 := h.c0
  clear h
  generalize L.length = d at hl ⊢
  go_enter Try.func16, Try.ntmps16
  go_wp2
  go_ret
  exact ⟨rfl, rfl⟩
set_option maxHeartbeats 1000000 in
theorem rto_any (h : RsAt w B c L) {r : RM.R} (hr : RefOk r) : Calls Try.prog 8 #[.pointer (some ⟨B.b, 0, none⟩), refV r] w fun e w' => e = .returned (.tuple #[.int .i64 (RM.toV L r), .bool (RM.has L r)]) ∧ Below w.heap.size w w' := by
  obtain ⟨r1, r2⟩ := r
  have hw := (Below.refl w.heap.size w).alloc (Nat.le_refl _) (.cells #[.int .i64 r1, .int .i64 r2] 24)
  have h1 := h.below hw
  have hlk : ∀ n, (Instr.lookup 49 (.map (some B.m)) (.agg #[.int .i64 r1, .int .i64 r2]) true).run Try.prog ((w.alloc (.cells #[.int .i64 r1, .int .i64 r2] 24)).drewN n) = _ := fun n => (h1.drewN n).map.look h.up hr
  have c0 := h1.c0
  have hx := Whole.fresh w 24 #[.int .i64 r1, .int .i64 r2]
  have x0 := hx.cell 0
  have x1 := hx.cell 1
  simp only [List.getElem?_toArray, List.getElem?_cons_zero, List.getElem?_cons_succ] at x0 x1
  have HW := Lib.hid hw
  clear h h1 hr hx hw
  unfold refV
  generalize RM.toV L (r1, r2) = a at hlk ⊢
  generalize RM.has L (r1, r2) = d at hlk ⊢
  go_enter Try.func8, Try.ntmps8
  go_wp2
  go_quiet (fail)
  go_wp2
  go_ret2
  exact ⟨rfl, HW.out.trans ⟨rfl, rfl, rfl, Nat.le_refl _, fun _ _ => rfl⟩⟩
end
theorem rto_nil {r : RM.R} (w : World) : Calls Try.prog 8 #[.pointer none, refV r] w fun e w' => e = .returned (.tuple #[.int .i64 0, .bool false]) ∧ Below w.heap.size w w' := by
  obtain ⟨r1, r2⟩ := r
  have HW := Lib.hid ((Below.refl w.heap.size w).alloc (Nat.le_refl _) (.cells #[.int .i64 r1, .int .i64 r2] 24))
  unfold refV
  go_enter Try.func8, Try.ntmps8
  go_wp2
  go_ret2
  exact ⟨rfl, HW.out⟩
theorem rlen_nil (w : World) : Calls Try.prog 16 #[.pointer none] w fun e w' => e = .returned (.int .i64 0) ∧ w = w' := by
  go_enter Try.func16, Try.ntmps16
  go_wp2
  go_ret
  exact ⟨rfl, rfl⟩
end Go.Proofs.Ytehkcflbdmkjpaa
