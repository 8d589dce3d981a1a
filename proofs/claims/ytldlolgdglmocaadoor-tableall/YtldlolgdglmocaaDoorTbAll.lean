/- The law TableAll: all that are told are just those that At and Get tell. -/
import Derived.Test.YtldlolgdglmocaaDoorTbKey
import Derived.Test.YtldlolgdglmocaaDoorTbSets
import Derived.Test.YtldlolgdglmocaaDoorTbRet
namespace Go.Proofs.YtldlolgdglmocaaDoor
open Go.RowKit Go.Shelf Go.Maps
attribute [local go_sem] Oper.semAt_some

def TE.t (x : TE) : Int × Int := (x.i, x.g)
theorem mem_tks {S : Nat → Sl} {N : Nat} {i g : Int} : (i, g) ∈ (allTE S N).map TE.t ↔ freshB S N i g = true := by
  unfold allTE
  rw [List.map_map, List.mem_map, freshB_iff]
  constructor
  · rintro ⟨k, hk, e⟩
    obtain ⟨h1, h2⟩ := mem_ons _ hk
    simp [TE.t, teAt] at e
    exact ⟨k, e.1.symm, h1, h2, e.2.symm⟩
  · rintro ⟨k, rfl, h1, h2, rfl⟩
    exact ⟨k, by unfold BM.ons; rw [List.mem_filter, List.mem_range]; exact ⟨h1, h2⟩, rfl⟩
theorem tks_nodup (S : Nat → Sl) (N : Nat) : ((allTE S N).map TE.t).Nodup := by
  unfold allTE
  rw [List.map_map]
  have hp : (BM.ons (isUsed S) N).Pairwise (· < ·) := List.Pairwise.filter _ List.pairwise_lt_range
  refine List.pairwise_map.2 (hp.imp fun {a b} h e => ?_)
  simp [TE.t, teAt] at e
  omega
theorem tks_ok {w : World} {B : TB} {S : Nat → Sl} {N : Nat} (h : TbAt w B N S) : TokAll ((allTE S N).map TE.t) := by
  intro x hx
  unfold allTE at hx
  rw [List.map_map, List.mem_map] at hx
  obtain ⟨k, hk, rfl⟩ := hx
  obtain ⟨h1, h2⟩ := mem_ons _ hk
  have := h.N2
  have := (h.gen k).2
  exact ⟨i64ok_nat (by omega), i64ok_nat (by omega)⟩
theorem allTE_len (S : Nat → Sl) (N : Nat) : (allTE S N).length = BM.cnt (isUsed S) N := by unfold allTE; rw [List.length_map, BM.ons_len]
theorem tokok_key {x : Int × Int} (h : TokOk x) : I64ok x.1 ∧ I64ok x.2 := by
  obtain ⟨k, y, rfl, h1, h2⟩ := h
  exact ⟨i64ok_nat (by omega), i64ok_nat (by omega)⟩

/-- What the loop over All holds: the count, the map's box, the iterator's box, the map, all that lay ahead. -/
def AllI (w2 : World) (B : TB) (pre : List TE) (W : World) : Prop :=
  Boxed W w2.heap.size 3 (.int .i64 (pre.length : Nat)) ∧ Boxed W (w2.heap.size + 1 + 1) 59 (.map (some (w2.heap.size + 1))) ∧ Boxed W (w2.heap.size + 1 + 1 + 1) 23 (.pointer (some ⟨B.t, 0, none⟩)) ∧
  W.ownsMap Tryd.prog 33 (plainElem Tryd.prog 3) (w2.heap.size + 1) pre.length (tokD (pre.map TE.t)) ∧ Below w2.heap.size w2 W
theorem ownsMap_below {w w' : World} {b n : Nat} {D : DataW Unit} (h : w.ownsMap Tryd.prog 33 (plainElem Tryd.prog 3) b n D) (hb : Below w.heap.size w w') : w'.ownsMap Tryd.prog 33 (plainElem Tryd.prog 3) b n D := h.kept (below_grown hb) (by simp)
theorem boxed_below {w w' : World} {b : Nat} {t : TypeId} {v : Value} (h : Boxed w b t v) (hb : Below w.heap.size w w') : Boxed w' b t v := (hb.block b h.lt).trans h
theorem AllI.own {w2 : World} {B : TB} {n : Nat} (hn : w2.heap.size + 4 ≤ n) : OwnFrom n (AllI w2 B) :=
  OwnFrom.and (Own.from (boxed_own _ _ (fun pre : List TE => Value.int .i64 (pre.length : Nat))) _) (OwnFrom.and (Own.from (boxed_own _ _ _) _) (OwnFrom.and (Own.from (boxed_own _ _ _) _) (OwnFrom.and
    (fun _ _ _ _ hs hg hr => hs.kept hg (fun e => by have := (hr _ e.symm).1; omega)) (ownFrom_below (Nat.le_refl _) (by omega)))))
theorem AllI.later {w2 W W' : World} {B : TB} {pre : List TE} (h : AllI w2 B pre W) (hb : Below W.heap.size W W') : AllI w2 B pre W' := by
  obtain ⟨h1, h2, h3, h4, h5⟩ := h
  exact ⟨boxed_below h1 hb, boxed_below h2 hb, boxed_below h3 hb, ownsMap_below h4 hb, h5.trans (hb.mono h5.size)⟩
theorem whole_own {B b : Nat} {t : TypeId} {cs : Array Value} : OwnFrom B (fun (_ : Unit) W => Whole W b t cs) := fun _ X Y row hs hg hr =>
  (hg.block b hs.lt (fun e => by
    obtain ⟨_, o, ho, hc⟩ := hr b e.symm
    unfold Whole at hs
    rw [hs] at ho
    injection ho with ho
    subst ho
    cases hc)).trans hs
theorem keeps_below {B : Nat} {W W' : World} (h : Below W.heap.size W W') : KeepsFrom B W W' := ⟨h.size, fun k _ _ hk _ => (h.block k (Array.getElem?_eq_some_iff.1 hk).1).trans hk⟩
theorem kz_g {n₀ n₁ Bn b : Nat} {p0 : Option Addr} {W W' : World} (hg : W.grownBy W' (some b)) (h0 : n₀ ≤ b) (h1 : b < n₁ + 2) (hne : b ≠ Bn) (hs : n₀ ≤ W.heap.size) : Kz n₀ n₁ Bn p0 W W' :=
  ⟨(Below.refl n₀ W).grown hg hs (fun k e => by cases e; exact h0), fun x => x.kept hg (by intro e; cases e; exact hne rfl), fun k o hk ho => (hg.block k (Array.getElem?_eq_some_iff.1 ho).1 (by intro e; injection e with e; omega)).trans ho⟩
theorem zeroT (w : World) : (zeroValue 3).run Tryd.prog w = .ok (.int .i64 0) w := by kernel_rfl
/-- What is left behind the loop over All. -/
structure AllP (w2 W : World) (D M : Nat) (tk : List (Int × Int)) : Prop where
  cnt : Boxed W w2.heap.size 3 (.int .i64 (M : Nat))
  box : Boxed W (w2.heap.size + 1 + 1) 59 (.map (some (w2.heap.size + 1)))
  map : W.ownsMap Tryd.prog 33 (plainElem Tryd.prog 3) (w2.heap.size + 1) M (tokD tk)
  bel : Below w2.heap.size w2 W
  dd : W.heap[D]? = some (.deferred (some []))
  dlt : w2.heap.size + 4 ≤ D
theorem AllP.later {w2 W W' : World} {D M : Nat} {tk : List (Int × Int)} (h : AllP w2 W D M tk) (hb : Below W.heap.size W W') : AllP w2 W' D M tk :=
  ⟨boxed_below h.cnt hb, boxed_below h.box hb, ownsMap_below h.map hb, h.bel.trans (hb.mono h.bel.size), (hb.block D (Array.getElem?_eq_some_iff.1 h.dd).1).trans h.dd, h.dlt⟩
theorem AllP.alloc {w2 W : World} {D M : Nat} {tk : List (Int × Int)} (h : AllP w2 W D M tk) (o : Obj) : AllP w2 (W.alloc o) D M tk := h.later ((Below.refl _ _).alloc (Nat.le_refl _) o)

set_option maxRecDepth 100000 in
set_option maxHeartbeats 8000000 in
theorem all_walk (m : Int) (A : Option Addr) (n c : Nat) (la : List Ac) (w : World) (hl : TA w w.heap.size A n la) (hT : Tab w) :
    Calls Tryd.prog 7 #[.int .i64 m, .slice A n c] w fun e w' => e = .returned (.bool true) ∧ Below w.heap.size w w' := by
  have hb0 := (Below.refl w.heap.size w).alloc (Nat.le_refl _) (.cells #[.bool false] 4)
  have T0 := hT.below hb0 hT.pos
  have G := Lib.hid (grown_any m A n c la _ ((hl.below hb0).up (by simp)) T0)
  have HR := Lib.hid (Boxed.new w 4 (.bool false))
  have HB0 := Lib.hid hb0
  have HT0 := Lib.hid T0
  clear hb0 T0 hl
  refine (callsIn_wide (n := 5)).1 ?_
  refine callsIn_of_wp_marks Tryd.func7 rfl trivial ?_ rfl
  simp only [Tryd.ntmps7, List.size_toArray, List.length_cons, List.length_nil, Nat.reduceAdd, Nat.reduceSub, Array.replicate_succ, Array.replicate_zero, List.push_toArray, List.append_toArray, List.nil_append, List.cons_append]
  gi_wp2_with fail
  refine ⟨trivial, ?_⟩
  refine (callsIn_wide.2 G.out).mono ?_
  rintro e w1 (⟨hn, rfl, hb1⟩ | ⟨hn, B, N, S, base, v, l, rfl, hN, hll, hL, hTo⟩)
  · have d : (100 : Int) < (n : Int) := by omega
    have hba := hb1.alloc hb1.size (.cells #[.pointer none] 23)
    have AL := Lib.hid (alive_any _ (HT0.out.below hba HT0.out.pos))
    have HB1 := Lib.hid hba
    have HBN := Lib.hid (Boxed.new w1 23 (.pointer none))
    clear hb1 hba G
    gi_wp2_with fail
    refine ⟨trivial, ?_⟩
    refine (callsIn_wide.2 AL.out).mono ?_
    rintro e w2 ⟨rfl, hb2⟩
    have b12 := HB1.out.trans (hb2.mono HB1.out.size)
    have cN := (boxed_below HBN.out hb2).cell
    have AL2 := Lib.hid (alive_any w2 (HT0.out.below b12 HT0.out.pos))
    have HB2 := Lib.hid b12
    clear hb2 b12 HB1 AL HBN
    gi_wp2_with fail
    refine ⟨trivial, ?_⟩
    refine (callsIn_wide.2 AL2.out).mono ?_
    rintro e w3 ⟨rfl, hb3⟩
    have b13 := HB2.out.trans (hb3.mono HB2.out.size)
    have bR3 : Boxed w3 w.heap.size 4 (.bool false) := (b13.block _ (by simp)).trans HR.out
    have cR := bR3.cell
    have fR := bR3.frozen
    have HB3 := Lib.hid b13
    clear hb3 b13 HB2 AL2 bR3
    gi_wp2
    have hc1 : (w3.setCell ⟨w.heap.size, 0, none⟩ (.bool true)).cell? ⟨w.heap.size, 0, none⟩ = some (.bool true) := World.cell?_setCell_same' _ _ _ (by rw [cR]; rfl)
    refine ⟨.bool true, ?_, rfl, ?_⟩
    · simp [results, Tryd.f7, go_sem, hc1]
    · exact (HB0.out.trans (HB3.out.mono (by simp))).setCell (p := ⟨w.heap.size, 0, none⟩) (Nat.le_refl _) _
  · have hmm := @run_makeMap Tryd.prog
    obtain ⟨Av, cv, hve⟩ := hL.tr.slice
    subst hve
    obtain ⟨nl, hnl⟩ : ∃ nl, nl = l.length := ⟨_, rfl⟩
    rw [← hnl] at hL hll ⊢
    have hLb := hL.alloc HT0.out (.cells #[.pointer (some ⟨B.t, 0, none⟩)] 23)
    have AL := Lib.hid (alive_any _ hLb.ht.tab)
    have HLB := Lib.hid hLb
    have HBT := Lib.hid (Boxed.new w1 23 (.pointer (some ⟨B.t, 0, none⟩)))
    have HTO := Lib.hid hTo
    have HNL := Lib.hid hnl
    clear hLb G hL hTo hnl
    gi_wp2_with fail
    refine ⟨trivial, ?_⟩
    refine (callsIn_wide.2 AL.out).mono ?_
    rintro e w2 ⟨rfl, hb2⟩
    have bT2 : Boxed w2 w1.heap.size 23 (.pointer (some ⟨B.t, 0, none⟩)) := (hb2.block _ HBT.out.lt).trans HBT.out
    have cT2 := bT2.cell
    have cT3 := (((bT2.alloc (.cells #[.int .i64 0] 3)).alloc (.map #[] 0)).alloc (.cells #[.map (some (w2.heap.size + 1))] 59)).cell
    have hL2 := HLB.out.later HT0.out hb2
    have HL2 := Lib.hid hL2
    have HBT2 := Lib.hid bT2
    have bR2 : Boxed w2 w.heap.size 4 (.bool false) := (hL2.ht.bel.block _ (by simp)).trans HR.out
    have HR2 := Lib.hid bR2
    clear AL HLB HBT hb2 bT2 hL2 bR2 HR
    gi_wp2_with (first
      | (refine ⟨trivial, ?_⟩; gi_at_call 17; refine (tall_in _ _ _).mono ?_; rintro e w5 ⟨rfl, rfl⟩)
      | (gi_at_call 17; refine (tall_in _ _ _).mono ?_; rintro e w5 ⟨rfl, rfl⟩))
    clear cT2 cT3
    have bl : Below w2.heap.size w2 ((((w2.alloc (.cells #[.int .i64 0] 3)).alloc (.map #[] 0)).alloc (.cells #[.map (some (w2.heap.size + 1))] 59)).alloc (.cells #[.pointer (some ⟨B.t, 0, none⟩)] 23)) := ((((Below.refl _ w2).alloc (Nat.le_refl _) _).alloc (by simp) _).alloc (by simp; omega) _).alloc (by simp; omega) _
    have szl : ((((w2.alloc (.cells #[.int .i64 0] 3)).alloc (.map #[] 0)).alloc (.cells #[.map (some (w2.heap.size + 1))] 59)).alloc (.cells #[.pointer (some ⟨B.t, 0, none⟩)] 23)).heap.size = w2.heap.size + 4 := by simp
    have LL := HL2.out.later HT0.out bl
    have i1 : Boxed ((((w2.alloc (.cells #[.int .i64 0] 3)).alloc (.map #[] 0)).alloc (.cells #[.map (some (w2.heap.size + 1))] 59)).alloc (.cells #[.pointer (some ⟨B.t, 0, none⟩)] 23)) w2.heap.size 3 (.int .i64 0) := (((Boxed.new w2 3 (.int .i64 0)).alloc _).alloc _).alloc _
    have i2 : ((((w2.alloc (.cells #[.int .i64 0] 3)).alloc (.map #[] 0)).alloc (.cells #[.map (some (w2.heap.size + 1))] 59)).alloc (.cells #[.pointer (some ⟨B.t, 0, none⟩)] 23)).ownsMap Tryd.prog 33 (plainElem (H := Unit) Tryd.prog 3) (w2.heap.size + 1) 0 (.map []) := by
      have := World.ownsMap_made (H := Unit) (w2.alloc (.cells #[.int .i64 0] 3)) Tryd.prog 33 (plainElem Tryd.prog 3)
      rw [World.size_alloc] at this
      exact (this.alloc _).alloc _
    have i3 : Boxed ((((w2.alloc (.cells #[.int .i64 0] 3)).alloc (.map #[] 0)).alloc (.cells #[.map (some (w2.heap.size + 1))] 59)).alloc (.cells #[.pointer (some ⟨B.t, 0, none⟩)] 23)) (w2.heap.size + 1 + 1) 59 (.map (some (w2.heap.size + 1))) := by
      have := Boxed.new ((w2.alloc (.cells #[.int .i64 0] 3)).alloc (.map #[] 0)) 59 (.map (some (w2.heap.size + 1)))
      rw [World.size_alloc, World.size_alloc] at this
      exact this.alloc _
    have i4 : Boxed ((((w2.alloc (.cells #[.int .i64 0] 3)).alloc (.map #[] 0)).alloc (.cells #[.map (some (w2.heap.size + 1))] 59)).alloc (.cells #[.pointer (some ⟨B.t, 0, none⟩)] 23)) (w2.heap.size + 1 + 1 + 1) 23 (.pointer (some ⟨B.t, 0, none⟩)) := by
      have := Boxed.new (((w2.alloc (.cells #[.int .i64 0] 3)).alloc (.map #[] 0)).alloc (.cells #[.map (some (w2.heap.size + 1))] 59)) 23 (.pointer (some ⟨B.t, 0, none⟩))
      rw [World.size_alloc, World.size_alloc, World.size_alloc] at this
      exact this
    have hAI : AllI w2 B [] ((((w2.alloc (.cells #[.int .i64 0] 3)).alloc (.map #[] 0)).alloc (.cells #[.map (some (w2.heap.size + 1))] 59)).alloc (.cells #[.pointer (some ⟨B.t, 0, none⟩)] 23)) := ⟨i1, i3, i4, i2, bl⟩
    have hwin : B.within 0 w2.heap.size := by
      have := HL2.out.win.more HL2.out.le
      obtain ⟨⟨a1, a2⟩, ⟨b1, b2⟩, ⟨c1, c2⟩, ⟨d1, d2⟩, ⟨f1, f2⟩, e1, e2⟩ := this
      exact ⟨⟨Nat.zero_le _, a2⟩, ⟨Nat.zero_le _, b2⟩, ⟨Nat.zero_le _, c2⟩, ⟨Nat.zero_le _, d2⟩, ⟨Nat.zero_le _, f2⟩, Nat.zero_le _, e2⟩
    have SQ := tall_tells 4 (by decide) (w2.heap.size + 1 + 1 + 1) w2.heap.size B N S ((((w2.alloc (.cells #[.int .i64 0] 3)).alloc (.map #[] 0)).alloc (.cells #[.map (some (w2.heap.size + 1))] 59)).alloc (.cells #[.pointer (some ⟨B.t, 0, none⟩)] 23)) i4 LL.ht.st LL.ht.tab hwin bl.size
    obtain ⟨Wl, hWl⟩ : ∃ Wl, Wl = ((((w2.alloc (.cells #[.int .i64 0] 3)).alloc (.map #[] 0)).alloc (.cells #[.map (some (w2.heap.size + 1))] 59)).alloc (.cells #[.pointer (some ⟨B.t, 0, none⟩)] 23)) := ⟨_, rfl⟩
    rw [← hWl] at SQ hAI szl ⊢
    rw [szl] at SQ
    clear bl LL i1 i2 i3 i4 hWl hmm
    refine wpIn_range_far (by decide) (gf := 35) (lb := #[.pointer (some ⟨w2.heap.size + 1 + 1 + 1, 0, none⟩)]) rfl (enters_of Tryd.func35 (by kernel_rfl) rfl)
      SQ kz_t (by rw [szl]; exact kz_b (by omega) (by omega)) (Below.refl _ _) (fun _ => rfl) (AllI w2 B) (fun _ _ _ => False) (AllI.own (by omega)) (fun _ _ _ _ _ hs _ _ => hs) hAI
      (fun x a' W => ∃ bx be : Nat, (w2.heap.size + 4 ≤ bx ∧ w2.heap.size + 4 ≤ be) ∧ Whole W bx 33 #[.int .i64 x.i, .int .i64 x.g] ∧ Whole W be 35 #[.int .i64 x.e.a, .int .i64 x.e.r, .bool x.e.h, .bool x.e.p] ∧ a' = { tmps := #[.int .i64 m, .slice A n c, undef, undef, .pointer (some ⟨w.heap.size, 0, none⟩), .pointer (some ⟨w1.heap.size, 0, none⟩), .slice Av nl cv, .pointer (some ⟨w2.heap.size, 0, none⟩), .pointer (some ⟨w2.heap.size + 1 + 1, 0, none⟩), .pointer (some ⟨bx, 0, none⟩), .pointer (some ⟨be, 0, none⟩), undef, undef, undef, undef, undef, undef, undef, undef, .tuple #[.pointer (some ⟨B.t, 0, none⟩), .slice Av nl cv], .int .i64 m, .slice A n c, .tuple #[.pointer (some ⟨B.t, 0, none⟩), .slice Av nl cv], .pointer (some ⟨B.t, 0, none⟩), .slice Av nl cv, .bool true, .bool false, .bool false, .pointer (some ⟨B.t, 0, none⟩), .bool false, .bool false, undef, undef, undef, undef, undef, undef, .map (some (w2.heap.size + 1)), .pointer (some ⟨B.t, 0, none⟩), .func (.func 35) #[] #[.pointer (some ⟨w2.heap.size + 1 + 1 + 1, 0, none⟩)], .agg #[.int .i64 x.i, .int .i64 x.g], .agg #[.int .i64 x.e.a, .int .i64 x.e.r, .bool x.e.h, .bool x.e.p], undef, undef, undef, undef, undef, undef, undef, undef, undef, undef, undef, undef, undef, undef, undef, undef, undef, undef, undef, undef, undef, undef, undef, undef, undef, undef, undef, undef, undef, undef, undef, undef, undef, undef, undef, undef, undef, undef, undef, undef, undef, undef, undef, undef, undef, undef, undef, undef, undef, undef, undef, undef, undef, undef, undef, undef, undef, undef, undef, undef, undef, undef, undef], defers := [] })
      (fun x a' s X Y row ⟨bx, be, h1, h2, h3, h4⟩ hg hr => ⟨bx, be, h1, whole_own () X Y row h2 hg hr, whole_own () X Y row h3 hg hr, h4⟩) ?assign ?body ?done ?stop
    case stop =>
      rintro D c pre W _ h _
      exact h.elim
    case assign =>
      rintro l2 pre ⟨xi, xg, ⟨xa, xr, xh, xp⟩⟩ W K hI hpre hK
      have hb : Below W.heap.size W ((W.alloc (.cells #[.int .i64 xi, .int .i64 xg] 33)).alloc (.cells #[.int .i64 xa, .int .i64 xr, .bool xh, .bool xp] 35)) := ((Below.refl _ _).alloc (Nat.le_refl _) _).alloc (by simp) _
      have hsz : w2.heap.size + 4 ≤ W.heap.size := by
        have := hI.2.2.1.lt
        omega
      have HK := Lib.hid (hK _ _ (keeps_below hb) (Kz.of_below hb (by omega)) (hI.later hb) ⟨W.heap.size, W.heap.size + 1, ⟨hsz, by omega⟩, (Whole.fresh _ _ _).alloc _, Whole.fresh' (by simp), rfl⟩)
      clear hK hI hb
      dsimp only [TE.v]
      gi_wp2
      exact HK.out
    case body =>
      rintro l2 pre x a' W hI ⟨bx, be, hbx, hX, hE, rfl⟩ hpre
      obtain ⟨k, hk, rfl⟩ : ∃ k, k ∈ BM.ons (isUsed S) N ∧ teAt S k = x := List.mem_map.1 (hpre.subset (by simp))
      obtain ⟨hkN, hu⟩ : k < N ∧ (S k).used = true := mem_ons _ hk
      obtain ⟨bU, bI, bN, hMap, hbw⟩ := hI
      have hLW := HL2.out.later HT0.out hbw
      have hlen : pre.length ≤ 8 := by
        have h1 := hpre.length_le
        rw [allTE_len] at h1
        have := BM.cnt_le (isUsed S) N
        simp at h1
        omega
      have hfr : freshB S N k ((S k).gen : Nat) = true := freshB_iff.2 ⟨k, rfl, hkN, hu, rfl⟩
      obtain ⟨za, zr, zh, zp, hz⟩ : ∃ za zr zh zp, (S k).e = ⟨za, zr, zh, zp⟩ := ⟨_, _, _, _, rfl⟩
      obtain ⟨y, hy⟩ : ∃ y, y = (S k).gen := ⟨_, rfl⟩
      have hyb : y ≤ 256 := by rw [hy]; exact (hLW.ht.st.gen k).2
      have CA : Calls Tryd.prog 13 #[.pointer (some ⟨B.t, 0, none⟩), .int .i64 k] W fun e w' => e = .returned (.tuple #[.agg #[.int .i64 k, .int .i64 (y : Nat)], .bool true]) ∧ Below W.heap.size W w' := by
        have := at_any hLW.ht.st (k : Int)
        unfold atVal at this
        rw [if_pos (atB_iff.2 ⟨k, rfl, hkN, hu⟩), Int.toNat_natCast, ← hy] at this
        exact this
      have CG : ∀ W', TbAt W' B N S → Calls Tryd.prog 16 #[.pointer (some ⟨B.t, 0, none⟩), .agg #[.int .i64 k, .int .i64 (y : Nat)]] W' fun e w' => e = .returned (.tuple #[.agg #[.int .i64 za, .int .i64 zr, .bool zh, .bool zp], .int .i64 0]) ∧ Below W'.heap.size W' w' := fun W' hW' => by
        rw [← hy] at hfr
        exact get_at (z := ⟨za, zr, zh, zp⟩) (E := 0) hW' (by unfold getE; rw [if_pos hfr, Int.toNat_natCast]; exact hz) (by rw [hfr]; rfl)
      have hE' : Whole W be 35 #[.int .i64 za, .int .i64 zr, .bool zh, .bool zp] := by
        have := hE
        dsimp only [teAt] at this
        rw [hz] at this
        exact this
      have hX' : Whole W bx 33 #[.int .i64 k, .int .i64 (y : Nat)] := by
        have := hX
        dsimp only [teAt] at this
        rw [← hy] at this
        exact this
      have ek : teAt S k = ⟨(k : Int), (y : Nat), ⟨za, zr, zh, zp⟩⟩ := by unfold teAt; rw [hz, hy]
      rw [ek] at hpre ⊢
      dsimp only
      have bT : Boxed W w1.heap.size 23 (.pointer (some ⟨B.t, 0, none⟩)) := (hbw.block _ HBT2.out.lt).trans HBT2.out
      have cT := bT.cell
      obtain ⟨x0, x1⟩ := hX'.two
      have HCA := Lib.hid CA
      have HCG := Lib.hid CG
      have HX := Lib.hid hX'
      have HE := Lib.hid hE'
      have HT := Lib.hid bT
      have HLW := Lib.hid hLW
      have HI := Lib.hid (show AllI w2 B pre W from ⟨bU, bI, bN, hMap, hbw⟩)
      clear CA CG hX hE hX' hE' bT hLW hMap hbw bU bI bN hk hfr hz ek hu hy hpre
      gi_wp2_with fail
      refine ⟨trivial, ?_⟩
      refine (CallsIn.inRound l2 (callsIn_wide.2 HCA.out)).mono ?_
      rintro e w3 ⟨rfl, hb3⟩
      have hb3' := hb3.alloc hb3.size (.cells #[.int .i64 k, .int .i64 (y : Nat)] 33)
      have HL3 := Lib.hid (HLW.out.later HT0.out hb3')
      have CG3 := Lib.hid (HCG.out _ HL3.out.ht.st)
      have bT3 := boxed_below HT.out hb3'
      have cT3 := bT3.cell
      obtain ⟨x0, x1⟩ := (HX.out.below hb3' HX.out.lt).two
      have HB3 := Lib.hid hb3'
      have HY3 := Lib.hid (Whole.fresh w3 33 #[.int .i64 k, .int .i64 (y : Nat)])
      clear HCA HCG hb3 hb3' bT3 cT
      gi_wp2_with fail
      refine ⟨trivial, ?_⟩
      refine (CallsIn.inRound l2 (callsIn_wide.2 CG3.out)).mono ?_
      rintro e w4 ⟨rfl, hb4⟩
      have hb4' := hb4.alloc hb4.size (.cells #[.int .i64 za, .int .i64 zr, .bool zh, .bool zp] 35)
      have hbW := HB3.out.trans (hb4'.mono HB3.out.size)
      have hI4 := HI.out.later hbW
      obtain ⟨p0, p1⟩ := (HX.out.below hbW HX.out.lt).two
      obtain ⟨q0, q1⟩ := (HY3.out.below hb4' HY3.out.lt).two
      obtain ⟨r0, r1, r2, r3⟩ := (HE.out.below hbW HE.out.lt).four
      have hz4 := Whole.fresh w4 35 #[.int .i64 za, .int .i64 zr, .bool zh, .bool zp]
      obtain ⟨s0, s1, s2, s3⟩ := hz4.four
      obtain ⟨bU, bI, bN, hMap, hbw⟩ := hI4
      have cI := bI.cell
      have ne1 : w2.heap.size ≠ w2.heap.size + 1 := by omega
      have HM4 := Lib.hid hMap
      have HI4 := Lib.hid (show AllI w2 B pre (w4.alloc (.cells #[.int .i64 za, .int .i64 zr, .bool zh, .bool zp] 35)) from ⟨bU, bI, bN, hMap, hbw⟩)
      have HBW := Lib.hid hbW
      have hkey := key_tok (i64ok_nat (x := k) (by have := HLW.out.ht.st.N2; omega)) (i64ok_nat (x := y) (by omega))
      have HKEY := Lib.hid hkey
      have lm : pre.length < maxLen := by unfold maxLen; omega
      clear CG3 hb4 hb4' hbW HI hz4 bU bI bN hMap hbw x0 x1 cT3 hkey
      gi_wp2_with (first
        | (gi_at_mapUpdate; refine wpListIn_mapUpdate_own _ rfl _ _ _ 59 rfl 33 3 law_tok Tryd.underlying59 (plainElem Tryd.prog 3) (w2.heap.size + 1) pre.length _ rfl HM4.out lm _ _ _ rfl rfl HKEY.out _ [] (plainElem_int Tryd.underlying3 (show (Lit.int .i64 1).wf = true by decide)) ?_; intro w5 hm5 hg5; have bU5 := HI4.out.1.kept hg5 (by intro e; injection e with e; omega); have cU5 := bU5.cell; have fU5 := bU5.frozen; have HM5 := Lib.hid hm5; have HG5 := Lib.hid hg5; have HU5 := Lib.hid bU5; clear hm5 hg5 bU5))
      have hg6 := grownBy_setCell' w5 w2.heap.size (.int .i64 ((pre.length : Int) + 1))
      have szW : w2.heap.size + 4 ≤ W.heap.size := by
        have h1 := HI4.out.2.2.1.lt
        have := HBW.out.size
        have h2 := HX.out.lt
        omega
      have szA : (w4.alloc (.cells #[.int .i64 za, .int .i64 zr, .bool zh, .bool zp] 35)).heap.size ≥ W.heap.size := HBW.out.size
      have sz5 : w5.heap.size ≥ (w4.alloc (.cells #[.int .i64 za, .int .i64 zr, .bool zh, .bool zp] 35)).heap.size := HG5.out.size
      have kz : Kz w2.heap.size (w2.heap.size + 4) (w2.heap.size + 1 + 1 + 1) (some ⟨B.t, 0, none⟩) W (w5.setCell ⟨w2.heap.size, 0, none⟩ (.int .i64 ((pre.length : Int) + 1))) :=
        kz_t (kz_t (Kz.of_below HBW.out (by omega)) (kz_g HG5.out (by omega) (by omega) (by omega) (by omega))) (kz_g hg6 (by omega) (by omega) (by omega) (by omega))
      refine ⟨?_, kz, ?_⟩
      · exact ((keeps_below HBW.out).trans (KeepsFrom.of_grownBy HG5.out (fun j e => by cases e; omega))).trans (KeepsFrom.of_grownBy hg6 (fun j e => by cases e; omega))
      · obtain ⟨bU, bI, bN, hMap, hbw⟩ := HI4.out
        refine ⟨?_, (bI.kept HG5.out (by intro e; injection e with e; omega)).kept hg6 (by intro e; injection e with e; omega), (bN.kept HG5.out (by intro e; injection e with e; omega)).kept hg6 (by intro e; injection e with e; omega), ?_, ?_⟩
        · have := HU5.out.set (.int .i64 ((pre.length : Int) + 1))
          rw [List.length_append]
          exact this
        · have := HM5.out.kept hg6 (by intro e; injection e with e; omega)
          rw [List.map_append, List.length_append]
          exact (tokD_snoc (pre.map TE.t) ((k : Int), (y : Int))) ▸ this
        · exact (hbw.grown HG5.out (by omega) (fun j e => by cases e; omega)).grown hg6 (by omega) (fun j e => by cases e; omega)
    case done =>
      rintro D W hD hI hK
      obtain ⟨M, hM⟩ : ∃ M, M = (allTE S N).length := ⟨_, rfl⟩
      have hP : AllP w2 W D M ((allTE S N).map TE.t) := by
        obtain ⟨bU, bI, bN, hMap, hbw⟩ := hI
        rw [← hM] at bU hMap
        exact ⟨bU, bI, hMap, hbw, hK, by omega⟩
      have hMb : M ≤ 8 := by
        rw [hM, allTE_len]
        have := BM.cnt_le (isUsed S) N
        omega
      have HP := Lib.hid hP
      have HMM := Lib.hid hM
      have HOK := Lib.hid (tks_ok HL2.out.ht.st)
      clear hI hK hP hM SQ hAI
      gi_wp2
      gi_loopw [77] (fun x wr => ∃ k : Nat, k ≤ nl ∧ x = .int .i64 k ∧ AllP w2 wr D M ((allTE S N).map TE.t)) (fun x _ => nl - (intOf x).toNat)
      case atStart => exact ⟨0, Nat.zero_le _, rfl, HP.out⟩
      case round =>
        clear HP
        obtain ⟨k, hk, rfl, hP⟩ := hrel
        by_cases hlt : k < nl
        · have hLr := HL2.out.later HT0.out hP.bel
          obtain ⟨gt, ct, e0⟩ := hLr.tr.head (by rw [← HNL.out]; omega)
          injection e0 with e1 e2 e3
          subst e1
          clear e2 e3
          obtain ⟨yi, yg, hy, y0, y1⟩ := hLr.tr.get hlt
          have hok := tokok_key (HTO.out _ (List.mem_of_getElem? hy))
          dsimp only at hok
          obtain ⟨⟨za, zr, zh, zp⟩, hz⟩ : ∃ z, getE S N yi yg = z := ⟨_, rfl⟩
          obtain ⟨E, cc, hE, hcc, hEc⟩ : ∃ E cc : Int, staleE (freshB S N yi yg) = E ∧ (if (yi, yg) ∈ (allTE S N).map TE.t then (1 : Int) else 0) = cc ∧ ((E == 0) = (cc == 1)) := by
            refine ⟨_, _, rfl, rfl, ?_⟩
            by_cases hf : freshB S N yi yg = true
            · rw [if_pos (mem_tks.2 hf), hf]; rfl
            · rw [if_neg (fun h => hf (mem_tks.1 h)), (by simpa using hf : freshB S N yi yg = false)]; rfl
          have hP1 := hP.alloc (.cells #[.int .i64 yi, .int .i64 yg] 33)
          have CG := Lib.hid (get_at (hLr.alloc HT0.out (.cells #[.int .i64 yi, .int .i64 yg] 33)).ht.st hz hE)
          have HP1 := Lib.hid hP1
          have HKEY := Lib.hid (key_tok hok.1 hok.2)
          have HAT := Lib.hid (tokD_at _ HOK.out yi yg hok.1 hok.2)
          have HCC := Lib.hid hcc
          have HYB := Lib.hid (Whole.fresh wr 33 #[.int .i64 yi, .int .i64 yg])
          have bT := boxed_below ((hP.bel.block _ HBT2.out.lt).trans HBT2.out : Boxed wr w1.heap.size 23 (.pointer (some ⟨B.t, 0, none⟩))) ((Below.refl _ _).alloc (Nat.le_refl _) (.cells #[.int .i64 yi, .int .i64 yg] 33))
          have cT := bT.cell
          clear hP1 hP hLr hy hok hz hE hcc bT
          gi_wp2_with fail
          refine ⟨trivial, ?_⟩
          refine (callsIn_wide.2 CG.out).mono ?_
          rintro e w4 ⟨rfl, hb4⟩
          have hb4' := hb4.alloc hb4.size (.cells #[.int .i64 za, .int .i64 zr, .bool zh, .bool zp] 35)
          have hP4 := HP1.out.later hb4'
          have cI := hP4.box.cell
          obtain ⟨q0, q1⟩ := (HYB.out.below hb4' HYB.out.lt).two
          have HP4 := Lib.hid hP4
          clear CG hb4 hb4' hP4 HP1 HYB cT y0 y1
          by_cases h1 : cc = 1
          · subst h1
            have hE0 : E = 0 := by simpa using hEc
            subst hE0
            clear hEc
            gi_wp2_with (first
              | (gi_at_lookup; refine wpListIn_lookup_own_int _ rfl _ _ 59 rfl 33 3 .i64 law_tok Tryd.underlying59 Tryd.underlying3 (zeroT _) (w2.heap.size + 1) M _ rfl HP4.out.map _ _ rfl HKEY.out ?_; intro cq hat hwc; have hcq : cq = 1 := (by have := hat.symm.trans HAT.out; rw [HCC.out] at this; injection this with this; injection this); subst hcq; clear hat hwc))
            go_roundw
            case rel => exact ⟨k + 1, by omega, by go_num, HP4.out⟩
            case measure => simp [intOf]; omega
          · have h0 : cc = 0 := by
              have := HCC.out
              split at this <;> omega
            subst h0
            have hE0 : (E == 0) = false := by simpa using hEc
            clear hEc h1
            gi_wp2_with (first
              | (gi_at_lookup; refine wpListIn_lookup_own_int _ rfl _ _ 59 rfl 33 3 .i64 law_tok Tryd.underlying59 Tryd.underlying3 (zeroT _) (w2.heap.size + 1) M _ rfl HP4.out.map _ _ rfl HKEY.out ?_; intro cq hat hwc; have hcq : cq = 0 := (by have := hat.symm.trans HAT.out; rw [HCC.out] at this; injection this with this; injection this); subst hcq; clear hat hwc))
            go_roundw
            case rel => exact ⟨k + 1, by omega, by go_num, HP4.out⟩
            case measure => simp [intOf]; omega
        · have hLr := HL2.out.later HT0.out hP.bel
          have U1 := used_any (hLr.ht.st.heap (w' := wr.drew) rfl)
          rw [← allTE_len, ← HMM.out] at U1
          have HU := Lib.hid U1
          have hln : ∀ ty, (Builtin.len_ #[59] ty #[.map (some (w2.heap.size + 1))]).run Tryd.prog wr.drew = .ok (.int .i64 (M : Nat)) wr.drew := fun ty => by
            have := hP.map.drew.len Tryd.underlying59 ty
            rw [tokD_size _ HOK.out (tks_nodup S N), List.length_map, ← HMM.out] at this
            exact this
          have cU := hP.cnt.cell
          have cI := hP.box.cell
          have bT : Boxed wr w1.heap.size 23 (.pointer (some ⟨B.t, 0, none⟩)) := (hP.bel.block _ HBT2.out.lt).trans HBT2.out
          have cT := bT.cell
          have bR : Boxed wr w.heap.size 4 (.bool false) := (hP.bel.block _ HR2.out.lt).trans HR2.out
          have cR := bR.cell
          have fR := bR.frozen
          have hmx : Tryd.prog.follows .mixedOrders = true := by kernel_rfl
          have HP9 := Lib.hid hP
          have HR9 := Lib.hid bR
          clear hP hLr U1 bT bR
          gi_wp2_with fail
          refine Code.wpIn_mono NoPanic.imp ?_
          gi_region_with_o (first
            | (refine ⟨trivial, ?_⟩; gi_at_call 20; refine (callsIn_wide.2 HU.out).mono ?_; rintro e w' ⟨rfl, rfl⟩)
            | (refine ⟨trivial, fun h => (by cases h), ?_⟩; gi_at_call 20; refine (callsIn_wide.2 HU.out).mono ?_; rintro e w' ⟨rfl, rfl⟩)
            | (gi_at_call 20; refine (callsIn_wide.2 HU.out).mono ?_; rintro e w' ⟨rfl, rfl⟩))
          all_goals refine NoPanic.normal ?_
          all_goals gi_wp2
          all_goals
            have hK2 : ((wr.setCell ⟨w.heap.size, 0, none⟩ (.bool true)).drew).heap[D]? = some (.deferred (some [])) := (KeepsOthers.setCell wr ⟨w.heap.size, 0, none⟩ (.bool true)).same D _ HP9.out.dd rfl
            refine ⟨by simp, .inl ⟨_, _, rfl, run_takeDeferred hK2, ?_⟩⟩
            have hc1 : ((wr.setCell ⟨w.heap.size, 0, none⟩ (.bool true)).drew).cell? ⟨w.heap.size, 0, none⟩ = some (.bool true) := World.cell?_setCell_same' wr _ _ (by rw [HR9.out.cell]; rfl)
            have hc5 := cell_kept hc1 (grownBy_putObj' _ D (.deferred none)) (fun r e => by cases e; exact ⟨_, hK2, rfl⟩)
            refine ⟨.bool true, ?_, rfl, ?_⟩
            · simp [results, Tryd.f7, go_sem, hc5]
            · have hb2 : Below w.heap.size w w2 := HB0.out.trans (HL2.out.ht.bel.mono (by simp))
              have hbr : Below w.heap.size w wr := hb2.trans (HP9.out.bel.mono hb2.size)
              have hDl : w.heap.size ≤ D := by have := hb2.size; have := HP9.out.dlt; omega
              exact ((hbr.setCell (p := ⟨w.heap.size, 0, none⟩) (Nat.le_refl _) (.bool true)).drew).trans (belowK_b (w := w) (Nat.le_refl _) _ D _ _ hDl hK2 rfl rfl)
end Go.Proofs.YtldlolgdglmocaaDoor
