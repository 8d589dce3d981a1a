/- The contract of the law package's same: a table tells what the document's has. -/
import Derived.Test.YtldlolgdglmocaaDoorTbIter
import Derived.Test.YtldlolgdglmocaaDoorTbDo
namespace Go.Proofs.YtldlolgdglmocaaDoor
open Go.RowKit Go.Shelf
attribute [local go_sem] Oper.semAt_some

/-- What same holds: both tables, its two boxes, all that lay ahead. -/
structure Sm (w W : World) (B : TB) (N r : Nat) (S : Nat → Sl) : Prop where
  tb : TbAt W B N S
  rf : RfAt W r N S
  rl : r < W.heap.size
  bM : Boxed W w.heap.size 29 (.slice (some ⟨r, 0, none⟩) N N)
  bR : Boxed W (w.heap.size + 1) 4 (.bool false)
  bel : Below w.heap.size w W
  tab : Tab W
theorem boxed_below' {w w' : World} {b : Nat} {t : TypeId} {v : Value} (h : Boxed w b t v) (hb : Below w.heap.size w w') : Boxed w' b t v := (hb.block b h.lt).trans h
theorem Sm.later {w W W' : World} {B : TB} {N r : Nat} {S : Nat → Sl} (h : Sm w W B N r S) (hb : Below W.heap.size W W') : Sm w W' B N r S :=
  ⟨h.tb.on hb, h.rf.below hb h.rl, Nat.lt_of_lt_of_le h.rl hb.size, boxed_below' h.bM hb, boxed_below' h.bR hb, h.bel.trans (hb.mono h.bel.size), h.tab.below hb h.tab.pos⟩
theorem Sm.alloc {w W : World} {B : TB} {N r : Nat} {S : Nat → Sl} (h : Sm w W B N r S) (o : Obj) : Sm w (W.alloc o) B N r S := h.later ((Below.refl _ _).alloc (Nat.le_refl _) o)
/-- What the loop over All holds. -/
def SmI (wr : World) (B : TB) (pre : List TE) (W : World) : Prop :=
  Boxed W wr.heap.size 3 (.int .i64 (pre.length : Nat)) ∧ Boxed W (wr.heap.size + 1) 3 (.int .i64 ((pre.getLast?.map TE.i).getD (-1))) ∧ Boxed W (wr.heap.size + 1 + 1) 23 (.pointer (some ⟨B.t, 0, none⟩)) ∧ Below wr.heap.size wr W
theorem SmI.own {wr : World} {B : TB} {n : Nat} (hn : wr.heap.size + 3 ≤ n) : OwnFrom n (SmI wr B) :=
  OwnFrom.and (Own.from (boxed_own _ _ (fun pre : List TE => Value.int .i64 (pre.length : Nat))) _) (OwnFrom.and (Own.from (boxed_own _ _ (fun pre : List TE => Value.int .i64 ((pre.getLast?.map TE.i).getD (-1)))) _) (OwnFrom.and (Own.from (boxed_own _ _ _) _) (ownFrom_below (Nat.le_refl _) (by omega))))
theorem SmI.later {wr W W' : World} {B : TB} {pre : List TE} (h : SmI wr B pre W) (hb : Below W.heap.size W W') : SmI wr B pre W' := by
  obtain ⟨h1, h2, h3, h5⟩ := h
  exact ⟨boxed_below' h1 hb, boxed_below' h2 hb, boxed_below' h3 hb, h5.trans (hb.mono h5.size)⟩
theorem whole_own' {B b : Nat} {t : TypeId} {cs : Array Value} : OwnFrom B (fun (_ : Unit) W => Whole W b t cs) := fun _ X Y row hs hg hr =>
  (hg.block b hs.lt (fun e => by
    obtain ⟨_, o, ho, hc⟩ := hr b e.symm
    unfold Whole at hs
    rw [hs] at ho
    injection ho with ho
    subst ho
    cases hc)).trans hs
theorem keeps_below' {B : Nat} {W W' : World} (h : Below W.heap.size W W') : KeepsFrom B W W' := ⟨h.size, fun k _ _ hk _ => (h.block k (Array.getElem?_eq_some_iff.1 hk).1).trans hk⟩
theorem kz_g' {n₀ n₁ Bn b : Nat} {p0 : Option Addr} {W W' : World} (hg : W.grownBy W' (some b)) (h0 : n₀ ≤ b) (h1 : b < n₁ + 2) (hne : b ≠ Bn) (hs : n₀ ≤ W.heap.size) : Kz n₀ n₁ Bn p0 W W' :=
  ⟨(Below.refl n₀ W).grown hg hs (fun k e => by cases e; exact h0), fun x => x.kept hg (by intro e; cases e; exact hne rfl), fun k o hk ho => (hg.block k (Array.getElem?_eq_some_iff.1 ho).1 (by intro e; cases e; omega)).trans ho⟩
/-- The number of the last token told. -/
def lastI (pre : List TE) : Int := (pre.getLast?.map TE.i).getD (-1)
theorem lastI_snoc (pre : List TE) (x : TE) : lastI (pre ++ [x]) = x.i := by simp [lastI]
theorem lastI_lt {S : Nat → Sl} {N : Nat} {pre : List TE} {x : TE} (h : pre ++ [x] <+: allTE S N) : lastI pre < x.i := by
  have hp : (allTE S N).Pairwise (fun a b => a.i < b.i) := by
    unfold allTE
    refine List.pairwise_map.2 ((List.Pairwise.filter _ List.pairwise_lt_range : (BM.ons (isUsed S) N).Pairwise (· < ·)).imp fun {a b} h => ?_)
    show (a : Int) < (b : Int)
    omega
  have hq := hp.sublist h.sublist
  rw [List.pairwise_append] at hq
  have hx : x ∈ allTE S N := h.subset (by simp)
  unfold allTE at hx
  obtain ⟨k, _, rfl⟩ := List.mem_map.1 hx
  unfold lastI
  cases hl : pre.getLast? with
  | none => show (-1 : Int) < (k : Int); omega
  | some y => exact hq.2.2 y (List.mem_of_getLast? hl) _ (by simp)

set_option maxRecDepth 100000 in
set_option maxHeartbeats 8000000 in
theorem same_any (w : World) (hT : Tab w) (B : TB) (N r : Nat) (S : Nat → Sl) (h : TbAt w B N S) (hr : RfAt w r N S) (hrl : r < w.heap.size) :
    Calls Tryd.prog 14 #[.pointer (some ⟨B.t, 0, none⟩), .slice (some ⟨r, 0, none⟩) N N] w fun e w' => e = .returned (.bool true) ∧ Below w.heap.size w w' := by
  have hN := h.N2
  have hgn : ∀ k, (S k).gen ≤ 256 := fun k => (h.gen k).2
  obtain ⟨cu, hcu⟩ : ∃ cu, BM.cnt (isUsed S) N = cu := ⟨_, rfl⟩
  obtain ⟨cl, hcl⟩ : ∃ cl, N - BM.cnt (isTaken S) N = cl := ⟨_, rfl⟩
  obtain ⟨cg, hcg⟩ : ∃ cg, BM.cnt (isTaken S) N - BM.cnt (isUsed S) N = cg := ⟨_, rfl⟩
  obtain ⟨Wa, hWa⟩ : ∃ Wa, Wa = (w.alloc (.cells #[.slice (some ⟨r, 0, none⟩) N N] 29)).alloc (.cells #[.bool false] 4) := ⟨_, rfl⟩
  have hba : Below w.heap.size w Wa := by rw [hWa]; exact ((Below.refl _ _).alloc (Nat.le_refl _) _).alloc (by simp) _
  have hsa : Wa.heap.size = w.heap.size + 2 := by rw [hWa]; simp
  have bM : Boxed Wa w.heap.size 29 (.slice (some ⟨r, 0, none⟩) N N) := by rw [hWa]; exact (Boxed.new w _ _).alloc _
  have bR : Boxed Wa (w.heap.size + 1) 4 (.bool false) := by
    rw [hWa]
    have := Boxed.new (w.alloc (.cells #[.slice (some ⟨r, 0, none⟩) N N] 29)) 4 (.bool false)
    rwa [World.size_alloc] at this
  have ha := h.on hba
  have hra := hr.below hba hrl
  have RC := rcounts_any hra hN hgn
  have U1 := used_any ha
  have L1 := left_any ha
  have R1 := fun m => retired_any (ha.heap (w' := Wa.drewN m) rfl)
  rw [hcg, hcu, hcl] at RC
  rw [hcu] at U1
  rw [hcl] at L1
  rw [hcg] at R1
  have cM := bM.cell
  have HRC := Lib.hid RC
  have HU := Lib.hid U1
  have HL := Lib.hid L1
  have HR1 := Lib.hid R1
  have HBM := Lib.hid bM
  have HBR := Lib.hid bR
  have HTB := Lib.hid ha
  have HRF := Lib.hid hra
  have HBA := Lib.hid hba
  have HGN := Lib.hid hgn
  have HCU := Lib.hid hcu
  rw [hWa] at cM
  have HWA := Lib.hid hWa
  have HRL := Lib.hid hrl
  clear RC U1 L1 R1 bM bR h hr ha hra hba hgn hcu hcl hcg hWa hrl
  refine (callsIn_wide (n := 5)).1 ?_
  refine callsIn_of_wp_marks Tryd.func14 rfl trivial ?_ rfl
  simp only [Tryd.ntmps14, List.size_toArray, List.length_cons, List.length_nil, Nat.reduceAdd, Nat.reduceSub, Array.replicate_succ, Array.replicate_zero, List.push_toArray, List.append_toArray, List.nil_append, List.cons_append]
  gi_wp2_with fail
  refine ⟨trivial, ?_⟩
  rw [← HWA.out]
  refine (callsIn_wide.2 HRC.out).mono ?_
  rintro e w' ⟨rfl, rfl⟩
  gi_wp2_with fail
  refine ⟨trivial, ?_⟩
  refine (callsIn_wide.2 HU.out).mono ?_
  rintro e w' ⟨rfl, rfl⟩
  gi_wp2_with fail
  refine ⟨trivial, ?_⟩
  refine (callsIn_wide.2 HL.out).mono ?_
  rintro e w' ⟨rfl, m1, rfl⟩
  gi_wp2_with fail
  refine ⟨trivial, ?_⟩
  refine (callsIn_wide.2 (HR1.out m1)).mono ?_
  rintro e Wb ⟨rfl, hm2⟩
  have hSb : Sm w Wb B N r S := by
    obtain ⟨m2, rfl⟩ := hm2
    exact ⟨HTB.out.heap rfl, HRF.out.heap rfl, by show r < Wa.heap.size; have := HRL.out; omega, HBM.out, HBR.out, below_drewN (below_drewN HBA.out _) _, hT.below (below_drewN (below_drewN HBA.out _) _) hT.pos⟩
  have cM2 := hSb.bM.cell
  have HSB := Lib.hid hSb
  clear cM hm2 hSb HRC HU HL HR1 HBM HBR HTB HRF HBA HWA
  gi_wp2
  gi_loopw [40] (fun x wr => ∃ k : Nat, k ≤ N ∧ x = .int .i64 k ∧ Sm w wr B N r S) (fun x _ => N - (intOf x).toNat)
  case atStart => exact ⟨0, Nat.zero_le _, rfl, HSB.out⟩
  case round =>
    clear HSB cM2
    obtain ⟨k, hk, rfl, hS⟩ := hrel
    by_cases hlt : k < N
    · obtain ⟨r0, r1, r2, r3, r4, r5⟩ := hS.rf.slot k hlt
      obtain ⟨sg, su, ⟨sa, sr, sh, sp⟩, hsl⟩ : ∃ sg su sa, S k = ⟨sg, su, sa⟩ := ⟨_, _, _, rfl⟩
      rw [hsl] at r0 r1 r2 r3 r4 r5
      dsimp only at r0 r1 r2 r3 r4 r5
      have hS1 := hS.alloc (.cells #[.int .i64 (sg : Nat), .bool su, .int .i64 sa, .int .i64 sr, .bool sh, .bool sp] 71)
      have AT := at_any hS1.tb (k : Int)
      unfold atVal at AT
      have HW1 := Lib.hid (Whole.fresh wr 71 #[.int .i64 (sg : Nat), .bool su, .int .i64 sa, .int .i64 sr, .bool sh, .bool sp])
      have HS1 := Lib.hid hS1
      have d5 : decide ((k : Int) < (N : Int)) = true := by simp; omega
      cases su
      · rw [if_neg (by rw [atB_iff]; rintro ⟨q, e, _, hq⟩; obtain rfl : k = q := by omega
                       rw [hsl] at hq; cases hq)] at AT
        have HAT := Lib.hid AT
        clear AT hS hS1 hsl
        gi_wp2_with fail
        refine ⟨trivial, ?_⟩
        refine (callsIn_wide.2 HAT.out).mono ?_
        rintro e w3 ⟨rfl, hb3⟩
        have hb3' := hb3.alloc hb3.size (.cells #[.int .i64 0, .int .i64 0] 33)
        have HS3 := Lib.hid (HS1.out.later hb3')
        obtain ⟨x0, x1⟩ := (Whole.fresh w3 33 #[.int .i64 0, .int .i64 0]).two
        have w0' := HW1.out.below hb3' HW1.out.lt
        have s0 : World.cell? _ ⟨wr.heap.size, 0, none⟩ = some (.int .i64 (sg : Nat)) := w0'.cell 0
        have s1 : World.cell? _ ⟨wr.heap.size, 1, none⟩ = some (.bool false) := w0'.cell 1
        clear HAT hb3 hb3' w0' r0 r1 r2 r3 r4 r5
        gi_wp2
        go_roundw
        case rel => exact ⟨k + 1, by omega, by go_num, HS3.out⟩
        case measure => simp [intOf]; omega
      · rw [if_pos (atB_iff.2 ⟨k, rfl, hlt, by rw [hsl]⟩), Int.toNat_natCast, hsl] at AT
        have HAT := Lib.hid AT
        clear AT hS hS1 hsl
        gi_wp2_with fail
        refine ⟨trivial, ?_⟩
        refine (callsIn_wide.2 HAT.out).mono ?_
        rintro e w3 ⟨rfl, hb3⟩
        have hb3' := hb3.alloc hb3.size (.cells #[.int .i64 k, .int .i64 (sg : Nat)] 33)
        have HS3 := Lib.hid (HS1.out.later hb3')
        obtain ⟨x0, x1⟩ := (Whole.fresh w3 33 #[.int .i64 k, .int .i64 (sg : Nat)]).two
        have w0' := HW1.out.below hb3' HW1.out.lt
        have s0 : World.cell? _ ⟨wr.heap.size, 0, none⟩ = some (.int .i64 (sg : Nat)) := w0'.cell 0
        have s1 : World.cell? _ ⟨wr.heap.size, 1, none⟩ = some (.bool true) := w0'.cell 1
        clear HAT hb3 hb3' w0' r0 r1 r2 r3 r4 r5
        gi_wp2
        go_roundw
        case rel => exact ⟨k + 1, by omega, by go_num, HS3.out⟩
        case measure => simp [intOf]; omega
    · obtain rfl : N = k := by omega
      have d5 : decide ((N : Int) < (N : Int)) = false := by simp
      have HS := Lib.hid hS
      clear hS
      gi_wp2_with (first
        | (refine ⟨trivial, ?_⟩; gi_at_call 17; refine (tall_in _ _ _).mono ?_; rintro e w5 ⟨rfl, rfl⟩)
        | (gi_at_call 17; refine (tall_in _ _ _).mono ?_; rintro e w5 ⟨rfl, rfl⟩))
      have bl : Below wr.heap.size wr (((wr.alloc (.cells #[.int .i64 0] 3)).alloc (.cells #[.int .i64 (-1)] 3)).alloc (.cells #[.pointer (some ⟨B.t, 0, none⟩)] 23)) := (((Below.refl _ wr).alloc (Nat.le_refl _) _).alloc (by simp) _).alloc (by simp; omega) _
      have szl : (((wr.alloc (.cells #[.int .i64 0] 3)).alloc (.cells #[.int .i64 (-1)] 3)).alloc (.cells #[.pointer (some ⟨B.t, 0, none⟩)] 23)).heap.size = wr.heap.size + 3 := by simp
      have SL := HS.out.later bl
      have i1 : Boxed (((wr.alloc (.cells #[.int .i64 0] 3)).alloc (.cells #[.int .i64 (-1)] 3)).alloc (.cells #[.pointer (some ⟨B.t, 0, none⟩)] 23)) wr.heap.size 3 (.int .i64 0) := ((Boxed.new wr 3 (.int .i64 0)).alloc _).alloc _
      have i3 : Boxed (((wr.alloc (.cells #[.int .i64 0] 3)).alloc (.cells #[.int .i64 (-1)] 3)).alloc (.cells #[.pointer (some ⟨B.t, 0, none⟩)] 23)) (wr.heap.size + 1) 3 (.int .i64 (-1)) := by
        have := Boxed.new (wr.alloc (.cells #[.int .i64 0] 3)) 3 (.int .i64 (-1))
        rw [World.size_alloc] at this
        exact this.alloc _
      have i4 : Boxed (((wr.alloc (.cells #[.int .i64 0] 3)).alloc (.cells #[.int .i64 (-1)] 3)).alloc (.cells #[.pointer (some ⟨B.t, 0, none⟩)] 23)) (wr.heap.size + 1 + 1) 23 (.pointer (some ⟨B.t, 0, none⟩)) := by
        have := Boxed.new ((wr.alloc (.cells #[.int .i64 0] 3)).alloc (.cells #[.int .i64 (-1)] 3)) 23 (.pointer (some ⟨B.t, 0, none⟩))
        rw [World.size_alloc, World.size_alloc] at this
        exact this
      have hAI : SmI wr B [] (((wr.alloc (.cells #[.int .i64 0] 3)).alloc (.cells #[.int .i64 (-1)] 3)).alloc (.cells #[.pointer (some ⟨B.t, 0, none⟩)] 23)) := ⟨i1, i3, i4, bl⟩
      have SQ := tall_tells 4 (by decide) (wr.heap.size + 1 + 1) wr.heap.size B N S (((wr.alloc (.cells #[.int .i64 0] 3)).alloc (.cells #[.int .i64 (-1)] 3)).alloc (.cells #[.pointer (some ⟨B.t, 0, none⟩)] 23)) i4 SL.tb SL.tab (HS.out.tb.lt) bl.size
      obtain ⟨Wl, hWl⟩ : ∃ Wl, Wl = (((wr.alloc (.cells #[.int .i64 0] 3)).alloc (.cells #[.int .i64 (-1)] 3)).alloc (.cells #[.pointer (some ⟨B.t, 0, none⟩)] 23)) := ⟨_, rfl⟩
      rw [← hWl] at SQ hAI szl ⊢
      rw [szl] at SQ
      clear bl SL i1 i3 i4 hWl
      refine wpIn_range_far (by decide) (gf := 35) (lb := #[.pointer (some ⟨wr.heap.size + 1 + 1, 0, none⟩)]) rfl (enters_of Tryd.func35 (by kernel_rfl) rfl)
        SQ kz_t (by rw [szl]; exact kz_b (by omega) (by omega)) (Below.refl _ _) (fun _ => rfl) (SmI wr B) (fun _ _ _ => False) (SmI.own (by omega)) (fun _ _ _ _ _ hs _ _ => hs) hAI
        (fun x a' W => ∃ bx be : Nat, (wr.heap.size + 3 ≤ bx ∧ wr.heap.size + 3 ≤ be) ∧ Whole W bx 33 #[.int .i64 x.i, .int .i64 x.g] ∧ Whole W be 35 #[.int .i64 x.e.a, .int .i64 x.e.r, .bool x.e.h, .bool x.e.p] ∧ a' = { tmps := #[.pointer (some ⟨B.t, 0, none⟩), .slice (some ⟨r, 0, none⟩) N N, undef, .pointer (some ⟨w.heap.size, 0, none⟩), .pointer (some ⟨w.heap.size + 1, 0, none⟩), .int .i64 (cu : Nat), .int .i64 (cl : Nat), .int .i64 (cg : Nat), u8, u9, u10, u11, .pointer (some ⟨wr.heap.size, 0, none⟩), .pointer (some ⟨wr.heap.size + 1, 0, none⟩), .pointer (some ⟨bx, 0, none⟩), .pointer (some ⟨be, 0, none⟩), .tuple #[.int .i64 (cu : Nat), .int .i64 (cl : Nat), .int .i64 (cg : Nat)], .slice (some ⟨r, 0, none⟩) N N, .tuple #[.int .i64 (cu : Nat), .int .i64 (cl : Nat), .int .i64 (cg : Nat)], .int .i64 (cu : Nat), .int .i64 (cl : Nat), .int .i64 (cg : Nat), .pointer (some ⟨B.t, 0, none⟩), .int .i64 (cu : Nat), .int .i64 (cu : Nat), .bool false, .bool false, .pointer (some ⟨B.t, 0, none⟩), .int .i64 (cl : Nat), .int .i64 (cl : Nat), .bool false, .bool false, .bool false, .pointer (some ⟨B.t, 0, none⟩), .int .i64 (cg : Nat), .int .i64 (cg : Nat), .bool false, .bool false, .slice (some ⟨r, 0, none⟩) N N, .int .i64 (N : Nat), .int .i64 (N : Nat), .bool false, u42, u43, u44, u45, u46, u47, u48, u49, u50, u51, u52, u53, u54, u55, u56, u57, u58, u59, u60, u61, u62, u63, u64, u65, u66, u67, u68, u69, u70, u71, u72, u73, u74, u75, .pointer (some ⟨B.t, 0, none⟩), .func (.func 35) #[] #[.pointer (some ⟨wr.heap.size + 1 + 1, 0, none⟩)], .agg #[.int .i64 x.i, .int .i64 x.g], .agg #[.int .i64 x.e.a, .int .i64 x.e.r, .bool x.e.h, .bool x.e.p], undef, undef, undef, undef, undef, undef, undef, undef, undef, undef, undef, undef, undef, undef, undef, undef, undef, undef, undef, undef, undef, undef, undef, undef, undef, undef, undef], defers := [] })
        (fun x a' s X Y row ⟨bx, be, h1, h2, h3, h4⟩ hg hr => ⟨bx, be, h1, whole_own' () X Y row h2 hg hr, whole_own' () X Y row h3 hg hr, h4⟩) ?assign ?body ?done ?stop
      case stop =>
        rintro D c pre W _ h _
        exact h.elim
      case assign =>
        rintro l2 pre ⟨xi, xg, ⟨xa, xr, xh, xp⟩⟩ W K hI hpre hK
        have hb : Below W.heap.size W ((W.alloc (.cells #[.int .i64 xi, .int .i64 xg] 33)).alloc (.cells #[.int .i64 xa, .int .i64 xr, .bool xh, .bool xp] 35)) := ((Below.refl _ _).alloc (Nat.le_refl _) _).alloc (by simp) _
        have hsz : wr.heap.size + 3 ≤ W.heap.size := by
          have := hI.2.2.1.lt
          omega
        have HK := Lib.hid (hK _ _ (keeps_below' hb) (Kz.of_below hb (by omega)) (hI.later hb) ⟨W.heap.size, W.heap.size + 1, ⟨hsz, by omega⟩, (Whole.fresh _ _ _).alloc _, Whole.fresh' (by simp), rfl⟩)
        clear hK hI hb
        dsimp only [TE.v]
        gi_wp2
        exact HK.out
      case body =>
        rintro l2 pre x a' W hI ⟨bx, be, hbx, hX, hE, rfl⟩ hpre
        obtain ⟨k, hk, rfl⟩ : ∃ k, k ∈ BM.ons (isUsed S) N ∧ teAt S k = x := List.mem_map.1 (hpre.subset (by simp))
        obtain ⟨hkN, hu⟩ : k < N ∧ (S k).used = true := mem_ons _ hk
        have hlast := lastI_lt hpre
        have hlen : pre.length ≤ 4096 := by
          have h1 := hpre.length_le
          unfold allTE at h1
          rw [List.length_map, BM.ons_len] at h1
          have := BM.cnt_le (isUsed S) N
          simp at h1
          omega
        have hSW := HS.out.later hI.2.2.2
        have hfr : freshB S N k ((S k).gen : Nat) = true := freshB_iff.2 ⟨k, rfl, hkN, hu, rfl⟩
        obtain ⟨za, zr, zh, zp, hz⟩ : ∃ za zr zh zp, (S k).e = ⟨za, zr, zh, zp⟩ := ⟨_, _, _, _, rfl⟩
        obtain ⟨y, hy⟩ : ∃ y, y = (S k).gen := ⟨_, rfl⟩
        obtain ⟨lst, hlst⟩ : ∃ lst, lst = lastI pre := ⟨_, rfl⟩
        rw [← hlst] at hlast
        have hlast' : lst < (k : Int) := hlast
        have hE' : Whole W be 35 #[.int .i64 za, .int .i64 zr, .bool zh, .bool zp] := by
          have := hE
          dsimp only [teAt] at this
          rw [hz] at this
          exact this
        have hX' : Whole W bx 33 #[.int .i64 k, .int .i64 (y : Nat)] := by
          have := hX
          dsimp only [teAt] at this
          rw [← hy] at this
          exact this
        have ek : teAt S k = ⟨(k : Int), (y : Nat), ⟨za, zr, zh, zp⟩⟩ := by unfold teAt; rw [hz, hy]
        rw [ek] at ⊢
        dsimp only
        have FX : ∀ w', Below W.heap.size W w' → (w'.cell? ⟨w.heap.size, 0, none⟩ = some (.slice (some ⟨r, 0, none⟩) N N) ∧ w'.cell? ⟨wr.heap.size + 1, 0, none⟩ = some (.int .i64 lst)) ∧ (w'.cell? ⟨bx, 0, none⟩ = some (.int .i64 k) ∧ w'.cell? ⟨bx, 1, none⟩ = some (.int .i64 (y : Nat))) ∧
            (w'.cell? ⟨be, 0, none⟩ = some (.int .i64 za) ∧ w'.cell? ⟨be, 1, none⟩ = some (.int .i64 zr) ∧ w'.cell? ⟨be, 2, none⟩ = some (.bool zh) ∧ w'.cell? ⟨be, 3, none⟩ = some (.bool zp)) ∧
            (w'.cell? ⟨r, k * 6 + 2, none⟩ = some (.int .i64 za) ∧ w'.cell? ⟨r, k * 6 + 3, none⟩ = some (.int .i64 zr) ∧ w'.cell? ⟨r, k * 6 + 4, none⟩ = some (.bool zh) ∧ w'.cell? ⟨r, k * 6 + 5, none⟩ = some (.bool zp)) := fun w' hb => by
          have hS' := hSW.later hb
          obtain ⟨_, _, r2, r3, r4, r5⟩ := hS'.rf.slot k hkN
          rw [hz] at r2 r3 r4 r5
          have b2 := (boxed_below' hI.2.1 hb).cell
          exact ⟨⟨hS'.bM.cell, by rw [hlst]; exact b2⟩, (hX'.below hb hX'.lt).two, (hE'.below hb hE'.lt).four, r2, r3, r4, r5⟩
        have CF : ∀ w', Below W.heap.size W w' → Calls Tryd.prog 26 #[.slice (some ⟨r, 0, none⟩) N N, .agg #[.int .i64 k, .int .i64 (y : Nat)]] w' fun e w7 => e = .returned (.bool true) ∧ Below w'.heap.size w' w7 := fun w' hb => by
          have := rfresh_any (hSW.later hb).rf hN (k : Int) (y : Nat)
          rw [hy, hfr] at this
          rw [hy]
          exact this
        have HFX := Lib.hid FX
        have HCF := Lib.hid CF
        have HI := Lib.hid hI
        have HHX := Lib.hid hX'
        have HLS := Lib.hid hlst
        have dl : decide ((k : Int) ≤ lst) = false := by simp; omega
        have hmx : Tryd.prog.follows .mixedOrders = true := by kernel_rfl
        have d9 : (k : Int) < (N : Int) := by omega
        clear FX CF hX hE hX' hE' hSW hI hk hfr hz ek hu hy hpre hlst hlast hlast'
        gi_wp2
        refine wpIn_region_calm 19 [.slice (some ⟨r, 0, none⟩) N N, .agg #[.int .i64 k, .int .i64 (y : Nat)], .bool true, .bool false, .bool false, .slice (some ⟨r, 0, none⟩) N N, .pointer (some ⟨bx, 0, none⟩), .int .i64 k, .pointer (some ⟨r, k * 6, none⟩), .pointer (some ⟨r, k * 6 + 2, none⟩), .agg #[.int .i64 za, .int .i64 zr, .bool zh, .bool zp], .agg #[.int .i64 za, .int .i64 zr, .bool zh, .bool zp], .bool false, .bool false, .bool false, .pointer (some ⟨bx, 0, none⟩), .int .i64 k, .int .i64 lst, .bool false] { tmps := #[.pointer (some ⟨B.t, 0, none⟩), .slice (some ⟨r, 0, none⟩) N N, undef, .pointer (some ⟨w.heap.size, 0, none⟩), .pointer (some ⟨w.heap.size + 1, 0, none⟩), .int .i64 (cu : Nat), .int .i64 (cl : Nat), .int .i64 (cg : Nat), u8, u9, u10, u11, .pointer (some ⟨wr.heap.size, 0, none⟩), .pointer (some ⟨wr.heap.size + 1, 0, none⟩), .pointer (some ⟨bx, 0, none⟩), .pointer (some ⟨be, 0, none⟩), .tuple #[.int .i64 (cu : Nat), .int .i64 (cl : Nat), .int .i64 (cg : Nat)], .slice (some ⟨r, 0, none⟩) N N, .tuple #[.int .i64 (cu : Nat), .int .i64 (cl : Nat), .int .i64 (cg : Nat)], .int .i64 (cu : Nat), .int .i64 (cl : Nat), .int .i64 (cg : Nat), .pointer (some ⟨B.t, 0, none⟩), .int .i64 (cu : Nat), .int .i64 (cu : Nat), .bool false, .bool false, .pointer (some ⟨B.t, 0, none⟩), .int .i64 (cl : Nat), .int .i64 (cl : Nat), .bool false, .bool false, .bool false, .pointer (some ⟨B.t, 0, none⟩), .int .i64 (cg : Nat), .int .i64 (cg : Nat), .bool false, .bool false, .slice (some ⟨r, 0, none⟩) N N, .int .i64 (N : Nat), .int .i64 (N : Nat), .bool false, u42, u43, u44, u45, u46, u47, u48, u49, u50, u51, u52, u53, u54, u55, u56, u57, u58, u59, u60, u61, u62, u63, u64, u65, u66, u67, u68, u69, u70, u71, u72, u73, u74, u75, .pointer (some ⟨B.t, 0, none⟩), .func (.func 35) #[] #[.pointer (some ⟨wr.heap.size + 1 + 1, 0, none⟩)], .agg #[.int .i64 k, .int .i64 (y : Nat)], .agg #[.int .i64 za, .int .i64 zr, .bool zh, .bool zp], .slice (some ⟨r, 0, none⟩) N N, .agg #[.int .i64 k, .int .i64 (y : Nat)], .bool true, .bool false, .bool false, .slice (some ⟨r, 0, none⟩) N N, .pointer (some ⟨bx, 0, none⟩), .int .i64 k, .pointer (some ⟨r, k * 6, none⟩), .pointer (some ⟨r, k * 6 + 2, none⟩), .agg #[.int .i64 za, .int .i64 zr, .bool zh, .bool zp], .agg #[.int .i64 za, .int .i64 zr, .bool zh, .bool zp], .bool false, .bool false, .bool false, .pointer (some ⟨bx, 0, none⟩), .int .i64 k, .int .i64 lst, .bool false, undef, undef, undef, undef, undef, undef, undef, undef], defers := [] } (fun w' => Below W.heap.size W w') hmx (by kernel_rfl) (by kernel_rfl) ((Below.refl _ _).drew) ?run ?last
        case run =>
          refine ⟨?_, ?_, ?_, ?_, ?_, ?_, ?_, ?_, ?_, ?_, ?_, ?_, ?_, ?_, ?_, ?_, ?_, ?_, ?_, trivial⟩
          all_goals intro w' hc; obtain ⟨⟨cM7, cL7⟩, ⟨x0, x1⟩, ⟨f0, f1, f2, f3⟩, v1, v2, v3, v4⟩ := HFX.out w' hc; have HC := Lib.hid hc; clear hc
          all_goals try go_simp
          all_goals first
            | exact HC.out
            | (refine ⟨trivial, fun h => (by cases h), ?_⟩
               refine (CallsIn.inRound l2 (callsIn_wide.2 (HCF.out w' HC.out))).mono ?_
               rintro e w7 ⟨rfl, hb7⟩
               exact ⟨rfl, HC.out.trans (hb7.mono HC.out.size)⟩)
            | (refine ⟨trivial, ?_⟩
               refine (CallsIn.inRound l2 (callsIn_wide.2 (HCF.out w' HC.out))).mono ?_
               rintro e w7 ⟨rfl, hb7⟩
               exact ⟨rfl, HC.out.trans (hb7.mono HC.out.size)⟩)
            | trace_state
        case last =>
          intro fuel hf w' hc
          have HC := Lib.hid hc
          clear hc
          refine wpOpIn_step rfl (fun K2 hK2 => ?_)
          have HK2 := Lib.hid hK2
          clear hK2
          go_simp
          refine HK2.out _ _ ?_
          refine wpAnyIn_done (by kernel_rfl) ?_ _
          clear HK2
          have hI' := HI.out.later HC.out
          obtain ⟨⟨cM7, cL7⟩, ⟨x0, x1⟩, _⟩ := HFX.out w' HC.out
          have cN7 := hI'.1.cell
          have fN7 := hI'.1.frozen
          have fL7 := hI'.2.1.frozen
          have ne1 : wr.heap.size ≠ wr.heap.size + 1 := by omega
          have hwr : IntKind.i64.wrap ((pre.length : Int) + 1) = (pre.length : Int) + 1 := by rw [IntKind.wrap_i64]; omega
          gi_wp2
          gi_region_with_o (fail)
          all_goals gi_wp2
          all_goals
            have hg8 := grownBy_setCell' w' wr.heap.size (.int .i64 ((pre.length : Int) + 1))
            have hg9 := grownBy_setCell' (w'.setCell ⟨wr.heap.size, 0, none⟩ (.int .i64 ((pre.length : Int) + 1))) (wr.heap.size + 1) (.int .i64 (k : Nat))
            obtain ⟨W9, hW9⟩ : ∃ W9, W9 = (w'.setCell ⟨wr.heap.size, 0, none⟩ (.int .i64 ((pre.length : Int) + 1))).setCell ⟨wr.heap.size + 1, 0, none⟩ (.int .i64 (k : Nat)) := ⟨_, rfl⟩
            have szW : wr.heap.size + 3 ≤ W.heap.size := by
              have := HI.out.2.2.1.lt
              have := HHX.out.lt
              omega
            have sz' := HC.out.size
            have sz8 : w'.heap.size ≤ (w'.setCell ⟨wr.heap.size, 0, none⟩ (.int .i64 ((pre.length : Int) + 1))).heap.size := hg8.size
            have kz : Kz wr.heap.size (wr.heap.size + 3) (wr.heap.size + 1 + 1) (some ⟨B.t, 0, none⟩) W W9 := by
              rw [hW9]
              exact kz_t (kz_t (Kz.of_below HC.out (by omega)) (kz_g' hg8 (by omega) (by omega) (by omega) (by omega))) (kz_g' hg9 (by omega) (by omega) (by omega) (by omega))
            have kf : KeepsFrom (wr.heap.size + 3) W W9 := by
              rw [hW9]
              exact ((keeps_below' HC.out).trans (KeepsFrom.of_grownBy hg8 (fun j e => by cases e; omega))).trans (KeepsFrom.of_grownBy hg9 (fun j e => by cases e; omega))
            have ki : SmI wr B (pre ++ [⟨(k : Int), (y : Nat), ⟨za, zr, zh, zp⟩⟩]) W9 := by
              rw [hW9]
              obtain ⟨b1, b2, b3, hb⟩ := hI'
              refine ⟨?_, ?_, (b3.kept hg8 (by intro e; injection e with e; omega)).kept hg9 (by intro e; injection e with e; omega), ?_⟩
              · rw [List.length_append]
                exact (b1.set (.int .i64 ((pre.length : Int) + 1))).kept hg9 (by intro e; injection e with e; omega)
              · have := (b2.kept hg8 (by intro e; injection e with e; omega)).set (.int .i64 (k : Nat))
                rw [List.getLast?_concat]
                exact this
              · exact (hb.grown hg8 (by omega) (fun j e => by cases e; omega)).grown hg9 (by omega) (fun j e => by cases e; omega)
            have key : (fun X : World => KeepsFrom (wr.heap.size + 3) W X ∧ Kz wr.heap.size (wr.heap.size + 3) (wr.heap.size + 1 + 1) (some ⟨B.t, 0, none⟩) W X ∧ SmI wr B (pre ++ [⟨(k : Int), (y : Nat), ⟨za, zr, zh, zp⟩⟩]) X) W9.drew :=
              ⟨⟨kf.size, kf.same⟩, ⟨kz.bel.drew, kz.box, kz.same⟩, ki.1, ki.2.1, ki.2.2.1, ki.2.2.2.drew⟩
            rw [hW9] at key
            rw [szl]
            exact key
      case done =>
        rintro D W hD hI hK
        obtain ⟨bU, bL, bN, hbw⟩ := hI
        have hSW := HS.out.later hbw
        have eL : (allTE S N).length = cu := by unfold allTE; rw [List.length_map, BM.ons_len]; exact HCU.out
        rw [eL] at bU
        have cU := bU.cell
        have cR := hSW.bR.cell
        have fR := hSW.bR.frozen
        have HSW := Lib.hid hSW
        have hDl : w.heap.size ≤ D := by have := HS.out.bel.size; omega
        have HK := Lib.hid hK
        clear SQ hAI hSW bU bL bN hbw hK
        gi_wp2
        have hK2 : (W.setCell ⟨w.heap.size + 1, 0, none⟩ (.bool true)).heap[D]? = some (.deferred (some [])) := (KeepsOthers.setCell W ⟨w.heap.size + 1, 0, none⟩ (.bool true)).same D _ HK.out rfl
        refine ⟨by simp, .inl ⟨_, _, rfl, run_takeDeferred hK2, ?_⟩⟩
        have hc1 : (W.setCell ⟨w.heap.size + 1, 0, none⟩ (.bool true)).cell? ⟨w.heap.size + 1, 0, none⟩ = some (.bool true) := World.cell?_setCell_same' W _ _ (by rw [HSW.out.bR.cell]; rfl)
        have hc5 := cell_kept hc1 (grownBy_putObj' _ D (.deferred none)) (fun r e => by cases e; exact ⟨_, hK2, rfl⟩)
        refine ⟨.bool true, ?_, rfl, ?_⟩
        · simp [results, Tryd.f14, go_sem, hc5]
        · exact (HSW.out.bel.setCell (p := ⟨w.heap.size + 1, 0, none⟩) (by simp) (.bool true)).trans (belowK_b (w := w) (Nat.le_refl _) _ D _ _ hDl hK2 rfl rfl)
end Go.Proofs.YtldlolgdglmocaaDoor
