/- The iterator of images' Links: it tells the places that are references, each with what Follow tells. -/
import Derived.Test.YteneadimchhhhaaGreatDoorImLkM
import Derived.Test.YteneadimchhhhaaGreatDoorMgImObj
import Derived.Test.YteneadimchhhhaaGreatDoorLyRange
import Derived.Test.YteneadimchhhhaaGreatDoorAdLaw1
namespace Go.Proofs.YteneadimchhhhaaGreatDoor
open Go.RowKit Go.Shelf
attribute [local go_sem] Oper.semAt_some

theorem own_up {β : Type} {B B' : Nat} {I : β → World → Prop} (h : OwnFrom B I) (hb : B ≤ B') : OwnFrom B' I := fun s W W' row hs hg hr => h s W W' row hs hg (fun r e => ⟨Nat.le_trans hb (hr r e).1, (hr r e).2⟩)
theorem own_map {β γ : Type} {B : Nat} {I : β → World → Prop} (h : OwnFrom B I) (f : γ → β) : OwnFrom B (fun s W => I (f s) W) := fun s W W' row hs hg hr => h (f s) W W' row hs hg hr
theorem below_grown {W W' : World} (h : Below W.heap.size W W') : W.grownBy W' none := ⟨h.os, h.tape, h.output, h.size, fun k hk _ => h.block k hk⟩
/-- What a round tells, the answer as a letter. -/
def LdPost (Kp : World → World → Prop) (J Jx : List LkE → World → Prop) (xs : List LkE) (W : World) (e : Ending) (W' : World) : Prop :=
  ∃ b : Bool, e = .returned (.bool b) ∧ Hid (((b = true ∧ J xs W') ∨ (b = false ∧ Jx xs W')) ∧ Kp W W')
theorem ld_of {Kp : World → World → Prop} {J Jx : List LkE → World → Prop} {xs : List LkE} {W : World} {m m' l : Nat} {args : Array Value}
    (h : YieldAt Fence.wide m Tryz.prog l args W fun e W' => (e = .returned (.bool true) ∧ J xs W' ∧ Kp W W') ∨ (e = .returned (.bool false) ∧ Jx xs W' ∧ Kp W W')) : YieldAt Fence.wide m' Tryz.prog l args W (LdPost Kp J Jx xs W) := by
  obtain ⟨fn, tmps, assign, body, hy, hR⟩ := YieldAt.deep (m' := m') h
  refine ⟨fn, tmps, assign, body, hy, hR.mono ?_⟩
  rintro e W' (⟨rfl, h1, h2⟩ | ⟨rfl, h1, h2⟩)
  · exact ⟨true, rfl, Lib.hid ⟨.inl ⟨rfl, h1⟩, h2⟩⟩
  · exact ⟨false, rfl, Lib.hid ⟨.inr ⟨rfl, h1⟩, h2⟩⟩

set_option maxRecDepth 100000 in
set_option maxHeartbeats 2000000 in
theorem links1_in (n : Nat) (hn : 2 ≤ n) (b1 b2 n₀ n₁ : Nat) (I : IB) (q : Cf) (wd : Nat → Nat) (a : Int) (l : Nat) (J Jx : List LkE → World → Prop) (W : World) (hJ : OwnFrom W.heap.size J) (hJx : OwnFrom W.heap.size Jx)
    (hY : ∀ pre x W1, pre ++ [x] <+: allLk q wd a → J pre W1 → YieldAt Fence.wide (n - 1) Tryz.prog l (LkE.v x) W1 fun e W' => (e = .returned (.bool true) ∧ J (pre ++ [x]) W' ∧ Kl n₀ n₁ b1 b2 (.pointer (some ⟨I.p, 0, none⟩)) (.int .i64 a) W1 W') ∨ (e = .returned (.bool false) ∧ Jx (pre ++ [x]) W' ∧ Kl n₀ n₁ b1 b2 (.pointer (some ⟨I.p, 0, none⟩)) (.int .i64 a) W1 W'))
    (hB1 : Boxed W b1 27 (.pointer (some ⟨I.p, 0, none⟩))) (hB2 : Boxed W b2 3 (.int .i64 a)) (hM : ImAt W I q wd) (hu : I.under n₀) (h01 : n₀ ≤ n₁) (hW2s : n₁ + 2 ≤ W.heap.size) (hz : IM.atE q wd a = 0) (h0 : J [] W) :
    CallsIn Fence.wide n Tryz.prog 40 #[.func (.yield l) #[] #[], .pointer (some ⟨b1, 0, none⟩), .pointer (some ⟨b2, 0, none⟩)] W fun e W' => (∃ v, e = .returned v) ∧ (J (allLk q wd a) W' ∨ ∃ pre, Jx pre W') := by
  have HY := Lib.hid hY
  clear hY
  have hn1 : 1 ≤ n := by omega
  have c1 := (hB1.alloc (.cells #[.func (.yield l) #[] #[]] 102)).cell
  have c2 := (hB2.alloc (.cells #[.func (.yield l) #[] #[]] 102)).cell
  have hb1 : Below W.heap.size W (W.alloc (.cells #[.func (.yield l) #[] #[]] 102)) := (Below.refl _ _).alloc (Nat.le_refl _) _
  have CO := objectAt_any (hM.below hb1) a
  rw [hz] at CO
  have HC := Lib.hid CO
  have HZ := Lib.hid hz
  have HB := Lib.hid hb1
  have HN := Lib.hid (Boxed.new W 102 (.func (.yield l) #[] #[]))
  clear CO hb1 hz
  refine callsIn_of_wp_marks Tryz.func40 rfl trivial ?_ rfl
  simp only [Tryz.ntmps40, List.size_toArray, List.length_cons, List.length_nil, Nat.reduceAdd, Nat.reduceSub, Array.replicate_succ, Array.replicate_zero, List.push_toArray, List.append_toArray, List.nil_append, List.cons_append]
  gi_wp2_with fail
  refine ⟨trivial, ?_⟩
  refine (callsIn_wide.2 HC.out).mono ?_
  rintro e w2 ⟨k, rfl, hg, hb2⟩
  obtain ⟨g1, g2, g3⟩ := hg.out rfl
  obtain ⟨k1, -, -⟩ := at_got HZ.out g1
  obtain ⟨L, hL⟩ : ∃ x, x = IM.atL q wd a := ⟨_, rfl⟩
  obtain ⟨C, hC⟩ : ∃ x, x = IM.atC q wd a := ⟨_, rfl⟩
  obtain ⟨S, hS⟩ : ∃ x, x = IM.atS q wd a := ⟨_, rfl⟩
  obtain ⟨N, hN⟩ : ∃ x, x = IM.atN q wd a := ⟨_, rfl⟩
  have hrf := refs_ok HZ.out g1
  have hCi : I64 C := by rw [hC]; exact atC_i64 q wd a
  rw [← hC] at k1 hrf
  rw [← hL, ← hC, ← hS, ← hN]
  obtain ⟨W3, hW3⟩ : ∃ W3, W3 = w2.alloc (.cells #[.int .i64 L, .int .i64 C, .int .i64 S, .int .i64 k.F, .slice k.A k.n k.c, .int .i64 k.R, .slice k.D k.m k.d, .int .i64 N] 96) := ⟨_, rfl⟩
  have hs1 : (W.alloc (.cells #[.func (.yield l) #[] #[]] 102)).heap.size = W.heap.size + 1 := by simp
  have hb3 : Below (W.heap.size + 1) (W.alloc (.cells #[.func (.yield l) #[] #[]] 102)) W3 := by rw [hW3, ← hs1]; exact hb2.alloc hb2.size _
  have O3 : Whole W3 w2.heap.size 96 #[.int .i64 L, .int .i64 C, .int .i64 S, .int .i64 k.F, .slice k.A k.n k.c, .int .i64 k.R, .slice k.D k.m k.d, .int .i64 N] := by rw [hW3]; exact Whole.fresh _ _ _
  have h3s : w2.heap.size + 1 = W3.heap.size := by rw [hW3]; simp
  have h2s : W.heap.size + 1 ≤ w2.heap.size := by rw [← hs1]; exact hb2.size
  have L3 : k.lists W3 (W.heap.size + 1) w2.heap.size := by
    rw [hW3]
    have := Lists.kept g3 (Kept.of_below ((Below.refl w2.heap.size w2).alloc (Nat.le_refl _) (.cells #[.int .i64 L, .int .i64 C, .int .i64 S, .int .i64 k.F, .slice k.A k.n k.c, .int .i64 k.R, .slice k.D k.m k.d, .int .i64 N] 96)) (Nat.le_refl _))
    rwa [hs1] at this
  have CS := slotsF_ok k.F k.R k.A k.n k.c k.xs k.D k.m k.d k.ys C (W.heap.size + 1) w2.heap.size W3 (by omega) g2.hn g2.hm g2.hF g2.hR L3 hCi k1
  have o1 : W3.cell? ⟨w2.heap.size, 1, none⟩ = some (.int .i64 C) := O3.cell 1
  have o3 : W3.cell? ⟨w2.heap.size, 3, none⟩ = some (.int .i64 k.F) := O3.cell 3
  have o4 : W3.cell? ⟨w2.heap.size, 4, none⟩ = some (.slice k.A k.n k.c) := O3.cell 4
  have o5 : W3.cell? ⟨w2.heap.size, 5, none⟩ = some (.int .i64 k.R) := O3.cell 5
  have o6 : W3.cell? ⟨w2.heap.size, 6, none⟩ = some (.slice k.D k.m k.d) := O3.cell 6
  have hbel3 : Below W.heap.size W W3 := HB.out.trans (hb3.mono (by omega))
  have HCS := Lib.hid CS
  have HK1 := Lib.hid (And.intro k1 g2)
  have HRF := Lib.hid hrf
  have HW3 := Lib.hid hW3
  have HB3 := Lib.hid hbel3
  have HY3 := Lib.hid ((hb3.block W.heap.size (by omega)).trans HN.out)
  have HS3 := Lib.hid (And.intro h3s h2s)
  clear g1 g2 g3 hg CS k1 hrf hL hC hS hN hb2 hb3 O3 h3s h2s L3 hbel3 HC hs1 hW3 c1 c2
  gi_wp2_with fail
  refine ⟨trivial, ?_⟩
  rw [← HW3.out]
  clear HW3
  refine (callsIn_wide.2 HCS.out).mono ?_
  rintro e W4 ⟨bo, bs, A', c', D', d', rfl, hIt, hb4⟩
  have hcz := HK1.out.1
  obtain ⟨hr, ⟨q1, q2, q3⟩, q4⟩ := LM.code_zero hcz
  obtain ⟨⟨f1, f2, f3, f4, -⟩, -, f5⟩ := LM.right_parts hr
  obtain ⟨cnt, rfl⟩ := Int.eq_ofNat_of_zero_le q1
  have hys : ∀ p ∈ k.ys, 0 ≤ p ∧ p < 64 := fun p hp => by have := (LM.rise_all k.ys 0 k.R f5).2 p hp; omega
  have HBo := Lib.hid (And.intro hIt.o1 (And.intro hIt.o2 (And.intro hIt.s1 hIt.s2)))
  have SQ := slots_own (n - 1) (by omega) W3.heap.size W4.heap.size bo bs k.F k.R A' k.n c' k.xs D' k.m d' k.ys cnt HK1.out.2.hn HK1.out.2.hm f1 f2 f3 f4 (by omega) (fun h => by have := q3 h; omega) hys W4 (Nat.le_refl _) hIt
  have hrf : IM.refs q wd a = LM.slots k.F k.R k.xs k.ys cnt := by
    have := HRF.out
    rw [Int.toNat_natCast] at this
    exact this
  rw [← hrf] at SQ
  have h34 := hb4.size
  have hs3 := HS3.out
  have hbel4 : Below W.heap.size W W4 := HB3.out.trans (hb4.mono HB3.out.size)
  have hY4 : Boxed W4 W.heap.size 102 (.func (.yield l) #[] #[]) := (hb4.block W.heap.size (by omega)).trans HY3.out
  have hB14 : Boxed W4 b1 27 (.pointer (some ⟨I.p, 0, none⟩)) := (hbel4.block b1 hB1.lt).trans hB1
  have hB24 : Boxed W4 b2 3 (.int .i64 a) := (hbel4.block b2 hB2.lt).trans hB2
  have hM4 : ImAt W4 I q wd := hM.below hbel4
  have hJ4 : J [] W4 := hJ [] W W4 none h0 (below_grown hbel4) (fun r e => by cases e)
  have HSQ := Lib.hid SQ
  have HB4 := Lib.hid hbel4
  have HSZ := Lib.hid (show n₁ + 2 ≤ W3.heap.size ∧ W.heap.size + 2 ≤ W4.heap.size ∧ W3.heap.size ≤ W4.heap.size by omega)
  have HX4 := Lib.hid (And.intro hY4 (And.intro hB14 (And.intro hB24 (And.intro hM4 hJ4))))
  clear hrf SQ h34 hs3 hbel4 hY4 hB14 hB24 hM4 hJ4 hIt hb4 hcz hr q1 q2 q3 q4 f1 f2 f3 f4 f5 hys HS3 HB3 HY3 HCS HK1 o1 o3 o4 o5 o6 HRF
  gi_wp2_with fail
  refine wpIn_range_one 6 (by omega) (gf := 72) (lb := #[.pointer (some ⟨bo, 0, none⟩), .pointer (some ⟨bs, 0, none⟩)]) (v := fun x : Int => Value.int .i64 x) rfl (enters_of Tryz.func72 (by kernel_rfl) rfl)
    HSQ.out (Kept.refl _ _) Kept.trans (fun W r r' h => kept_b (Nat.le_refl _) W _ _ _ (by omega) h rfl rfl) (Below.refl _ _)
    (fun pre X => J (pre.map (lkAt q wd a)) X ∧ Boxed X b1 27 (.pointer (some ⟨I.p, 0, none⟩)) ∧ Boxed X b2 3 (.int .i64 a) ∧ Boxed X W.heap.size 102 (.func (.yield l) #[] #[]) ∧ Below n₀ W4 X)
    (fun c pre X => c = .ret ∧ ∃ zs, Jx zs X)
    (OwnFrom.and (own_map (own_up hJ (by have := HSZ.out; omega)) _) (OwnFrom.and (Own.from (boxed_own _ _ _) _) (OwnFrom.and (Own.from (boxed_own _ _ _) _) (OwnFrom.and (Own.from (boxed_own _ _ _) _) (ownFrom_below (by have := HSZ.out; omega) (by have := HSZ.out; omega))))))
    (fun c s A B row ⟨e, zs, hs⟩ hg hr => ⟨e, zs, own_up hJx (by have := HSZ.out; omega) zs A B row hs hg hr⟩)
    ⟨HX4.out.2.2.2.2, HX4.out.2.1, HX4.out.2.2.1, HX4.out.1, Below.refl _ _⟩ ?assign ?body ?done ?stop
  case assign =>
    intro l2 x X K hK
    have HK := Lib.hid hK
    clear hK
    gi_wp2
    exact HK.out
  case body =>
    rintro l2 pre x X ⟨hJ3, bN1, bN2, bY3, hbw⟩ hpre
    have m3 := HX4.out.2.2.2.1.on hu hbw
    have CF := ifollow_any m3 a x
    have HCF := Lib.hid CF
    have c1 := bN1.cell
    have c2 := bN2.cell
    have cY := bY3.cell
    have HLN : Hid (pre.map (lkAt q wd a) ++ [lkAt q wd a x] <+: allLk q wd a) := Lib.hid (by have := hpre.map (lkAt q wd a); rw [List.map_append] at this; exact this)
    clear CF hpre m3
    unfold FolIs LinkIs at HCF
    gi_wp2
    refine ⟨trivial, fun h => (by cases h), ?_⟩
    refine (CallsIn.inRound l2 (callsIn_wide.2 HCF.out)).mono ?_
    rintro e X5 ⟨rfl, hb5⟩
    obtain ⟨X6, hX6⟩ : ∃ X6, X6 = X5.alloc (.cells #[.int .i64 (IM.flK q wd a x), .int .i64 (IM.flI q wd a x), .int .i64 (IM.flG q wd a x)] 37) := ⟨_, rfl⟩
    have hb6 : Below X.heap.size X X6 := by rw [hX6]; exact hb5.alloc hb5.size _
    have O6 : Whole X6 X5.heap.size 37 #[.int .i64 (IM.flK q wd a x), .int .i64 (IM.flI q wd a x), .int .i64 (IM.flG q wd a x)] := by rw [hX6]; exact Whole.fresh _ _ _
    obtain ⟨o0, o1, o2⟩ := O6.cells3
    have hJ6 : J (pre.map (lkAt q wd a)) X6 := hJ _ X X6 none hJ3 (below_grown hb6) (fun r e => by cases e)
    obtain ⟨fn, tmps, assign, body, hy, hR⟩ := ld_of (m' := n - 1 - 1 - 1) (HY.out _ (lkAt q wd a x) X6 HLN.out hJ6)
    dsimp only [LkE.v, lkAt] at hy
    have HR : Hid (RoundIn (Fence.wide.inRound l2) (n - 1 - 1 - 1) Tryz.prog l fn tmps assign body X6 (LdPost (Kl n₀ n₁ b1 b2 (.pointer (some ⟨I.p, 0, none⟩)) (.int .i64 a)) J Jx (pre.map (lkAt q wd a) ++ [lkAt q wd a x]) X6)) := (show RoundIn (Fence.wide.inRound l2) _ _ _ _ _ _ _ _ _ from hR)
    have bY6 : Boxed X6 W.heap.size 102 (.func (.yield l) #[] #[]) := (hb6.block _ bY3.lt).trans bY3
    have cY6 := bY6.cell
    obtain ⟨vK, hvK⟩ : ∃ v, v = IM.flK q wd a x := ⟨_, rfl⟩
    obtain ⟨vI, hvI⟩ : ∃ v, v = IM.flI q wd a x := ⟨_, rfl⟩
    obtain ⟨vG, hvG⟩ : ∃ v, v = IM.flG q wd a x := ⟨_, rfl⟩
    have HX6 := Lib.hid hX6
    have HB6 := Lib.hid hb6
    clear hb5 hb6 hX6 O6 hJ6 hR bY6 c1 c2 cY HCF
    rw [← hvK] at o0
    rw [← hvI] at o1
    rw [← hvG] at o2
    rw [← hvK, ← hvI, ← hvG] at hy HX6
    rw [← hvK, ← hvI, ← hvG]
    clear hvK hvI hvG
    have hX := HX6.out
    clear HX6
    subst hX
    gi_wp2
    refine ⟨fun h => (by cases h), ?_⟩
    refine HR.out.mono ?_
    rintro e W8 ⟨b, rfl, HP8⟩
    obtain ⟨hp, hz⟩ := HP8.out
    have hsz := HSZ.out
    have hxs := hbw.size
    have hz3 : Kl n₀ n₁ b1 b2 (.pointer (some ⟨I.p, 0, none⟩)) (.int .i64 a) X W8 := kl_t (Kl.of_below HB6.out (by omega)) hz
    have hkf : KeepsFrom W4.heap.size X W8 := ⟨hz3.bel.size, fun k o hk ho _ => hz3.same k o (by omega) ho⟩
    have hkk : Kept W3.heap.size W4.heap.size X W8 := hz3.kept (by omega) hxs
    clear o0 o1 o2 cY6 hy HR hJ3
    rcases hp with ⟨rfl, hj⟩ | ⟨rfl, hj⟩
    · gi_wp2
      refine ⟨hkf, hkk, ?_, hz3.x1 bN1, hz3.x2 bN2, hz3.boxed bY3 hW2s, hbw.trans hz3.bel⟩
      rw [List.map_append]
      exact hj
    · gi_wp2
      exact ⟨hkf, hkk, rfl, _, hj⟩
  case done =>
    rintro D X hD ⟨hJ9, _⟩ hK
    have hJ10 : J (allLk q wd a) (X.putObj D (.deferred none)) := OwnFrom.putObj hJ _ hJ9 (by have := HSZ.out; omega) hK rfl
    gi_wp2
    refine ⟨by simp, .inl ⟨_, _, rfl, run_takeDeferred hK, ?_⟩⟩
    exact ⟨_, results_none rfl _ _ _, ⟨_, rfl⟩, .inl hJ10⟩
  case stop =>
    rintro D c pre X hD ⟨rfl, zs, hz⟩ hK
    have hJ10 : Jx zs (X.putObj D (.deferred none)) := OwnFrom.putObj hJx _ hz (by have := HSZ.out; omega) hK rfl
    gi_wp2
    refine ⟨by simp, .inl ⟨_, _, rfl, run_takeDeferred hK, ?_⟩⟩
    exact ⟨_, results_none rfl _ _ _, ⟨_, rfl⟩, .inr ⟨_, hJ10⟩⟩
/-- What a range over Links is handed. -/
theorem links_own (n : Nat) (hn : 2 ≤ n) (b1 b2 n₀ : Nat) (I : IB) (q : Cf) (wd : Nat → Nat) (a : Int) (w : World) (hB1 : Boxed w b1 27 (.pointer (some ⟨I.p, 0, none⟩))) (hB2 : Boxed w b2 3 (.int .i64 a)) (hM : ImAt w I q wd) (hu : I.under n₀) (h01 : n₀ ≤ w.heap.size) :
    SeqOwn n Tryz.prog 40 #[.pointer (some ⟨b1, 0, none⟩), .pointer (some ⟨b2, 0, none⟩)] LkE.v (Kl n₀ w.heap.size b1 b2 (.pointer (some ⟨I.p, 0, none⟩)) (.int .i64 a)) (allLk q wd a) w := by
  by_cases hz : IM.atE q wd a = 0
  · exact fun l J Jx W hW hs hJ hJx hY h0 => links1_in n hn b1 b2 n₀ w.heap.size I q wd a l J Jx W hJ hJx hY ((hW.block b1 hB1.lt).trans hB1) ((hW.block b2 hB2.lt).trans hB2) (hM.below hW) hu h01 hs hz h0
  · have e : allLk q wd a = [] := by unfold allLk; rw [refs_no hz]; rfl
    rw [e]
    exact links_none n b1 b2 _ a (IM.atE q wd a) (IM.atL q wd a) (IM.atC q wd a) (IM.atS q wd a) (IM.atN q wd a) q.D w hz hB1 hB2 (fun W hW => objectAt_any (hM.below hW) a)
end Go.Proofs.YteneadimchhhhaaGreatDoor
