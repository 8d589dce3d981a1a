/- The iterator of (*Table).All: it tells the tokens of the slots that are used, with their entries. -/
import Derived.Test.YtldlolgdglmocaaDoorTbIter0
import Derived.Test.YtldlolgdglmocaaDoorBmAll
import Derived.Test.YtldlolgdglmocaaDoorAdCalm
namespace Go.Proofs.YtldlolgdglmocaaDoor
open Go.RowKit Go.Shelf
attribute [local go_sem] Oper.semAt_some

/-- What a round keeps: all below n₀, the box that the iterator has captured, and all that was laid since the loop began. -/
structure Kz (n₀ n₁ Bn : Nat) (p0 : Option Addr) (W W' : World) : Prop where
  bel : Below n₀ W W'
  box : Boxed W Bn 23 (.pointer p0) → Boxed W' Bn 23 (.pointer p0)
  same : ∀ (k : Nat) (o : Obj), n₁ + 2 ≤ k → W.heap[k]? = some o → W'.heap[k]? = some o
section
variable {n₀ n₁ Bn : Nat} {p0 : Option Addr} {A B C W W' : World}
theorem kz_t (h : Kz n₀ n₁ Bn p0 A B) (k : Kz n₀ n₁ Bn p0 B C) : Kz n₀ n₁ Bn p0 A C := ⟨h.bel.trans k.bel, fun x => k.box (h.box x), fun i o hi hc => k.same i o hi (h.same i o hi hc)⟩
theorem kz_b (h1 : n₀ ≤ n₁) (hB : Bn < n₁) (W : World) (r r' : Loop) (h : W.heap[n₁ + 1]? = some (.loop r)) : Kz n₀ n₁ Bn p0 W (W.putObj (n₁ + 1) (.loop r')) :=
  ⟨(Below.refl n₀ W).grown (grownBy_putObj' W (n₁ + 1) (.loop r')) (by have := (Array.getElem?_eq_some_iff.1 h).1; omega) (fun k e => by cases e; omega), fun x => x.kept (grownBy_putObj' W (n₁ + 1) (.loop r')) (by intro e; cases e; omega), fun k _ hk ho => (World.putObj_heap_other (by omega)).trans ho⟩
theorem Kz.boxed (h : Kz n₀ n₁ Bn p0 W W') {b : Nat} {t : TypeId} {v : Value} (hb : Boxed W b t v) (hn : n₁ + 2 ≤ b) : Boxed W' b t v := h.same b _ hn hb
theorem Kz.of_below (h : Below W.heap.size W W') (hn : n₀ ≤ W.heap.size) : Kz n₀ n₁ Bn p0 W W' :=
  ⟨h.mono hn, fun x => (h.block Bn x.lt).trans x, fun k _ _ ho => (h.block k (Array.getElem?_eq_some_iff.1 ho).1).trans ho⟩
end
/-- A slot's token, with its entry. -/
def teAt (S : Nat → Sl) (k : Nat) : TE := ⟨(k : Int), ((S k).gen : Nat), (S k).e⟩
/-- All that is told. -/
def allTE (S : Nat → Sl) (N : Nat) : List TE := (BM.ons (isUsed S) N).map (teAt S)
theorem ons_le (f : Nat → Bool) (a d : Nat) : BM.ons f a <+: BM.ons f (a + d) := by
  induction d with
  | zero => exact List.prefix_refl _
  | succ d ih =>
    cases h : f (a + d)
    · rw [show a + (d + 1) = a + d + 1 by omega, BM.ons_no f (a + d) h]; exact ih
    · rw [show a + (d + 1) = a + d + 1 by omega, BM.ons_yes f (a + d) h]; exact ih.trans (List.prefix_append _ _)
theorem ons_pre (f : Nat → Bool) {N x : Nat} (hx : x < N) (h : f x = true) : BM.ons f x ++ [x] <+: BM.ons f N := by
  rw [← BM.ons_yes f x h]
  obtain ⟨d, rfl⟩ : ∃ d, N = x + 1 + d := ⟨N - (x + 1), by omega⟩
  exact ons_le f (x + 1) d
theorem mem_ons (f : Nat → Bool) {N x : Nat} (h : x ∈ BM.ons f N) : x < N ∧ f x = true := by
  unfold BM.ons at h
  rw [List.mem_filter] at h
  exact ⟨List.mem_range.1 h.1, h.2⟩
/-- The map's iterator: its places in their order. -/
theorem all_own (n : Nat) (hn : 1 ≤ n) (Bn n₀ b c N : Nat) (ws : Nat → Nat) (w : World) (hB : Boxed w Bn 62 (.pointer (some ⟨b, 0, none⟩))) (hn₀ : n₀ ≤ w.heap.size) (hM : MapAt w b c N ws) (hT : Tab w) (hb : b < n₀) (hc : c < n₀) :
    SeqOwn n Tryd.prog 41 #[.pointer (some ⟨Bn, 0, none⟩)] (fun x : Nat => #[Value.int .i64 (x : Nat)]) (Kq n₀ Bn (some ⟨b, 0, none⟩)) (BM.ons (BM.on ws) N) w := fun l J Jx W hW _ _ _ hY h0 =>
  (all1_in n hn l Bn n₀ b c N ws J Jx
    (fun pre x W1 hx hon hpre hj _ => by
      subst hpre
      obtain ⟨fn, tmps, assign, body, hy, hR⟩ := hY _ x W1 (ons_pre _ hx hon) hj
      refine ⟨fn, tmps, assign, body, hy, hR.mono ?_⟩
      rintro e W' (⟨rfl, h1, h2⟩ | ⟨rfl, h1, _⟩)
      · exact .inl ⟨rfl, h1, h2⟩
      · exact .inr ⟨rfl, h1⟩)
    W ((hW.block Bn hB.lt).trans hB) (hM.below hW (by omega) (by omega)) (hT.below hW (by omega)) hb hc h0).mono (by
      rintro e W' ⟨hv, ⟨ys, rfl, hj⟩ | ⟨pre, _, hj⟩⟩
      · exact ⟨hv, .inl hj⟩
      · exact ⟨hv, .inr ⟨pre, hj⟩⟩)
theorem kq_own {n Bn : Nat} {p0 : Option Addr} {w : World} (hn : n ≤ w.heap.size) (hB : Bn < w.heap.size) (W : World) (r r' : Loop) (h : W.heap[w.heap.size + 1]? = some (.loop r)) : Kq n Bn p0 W (W.putObj (w.heap.size + 1) (.loop r')) :=
  kq_b hn hB W _ _ _ (by omega) h rfl rfl
theorem own_up {β : Type} {B B' : Nat} {I : β → World → Prop} (h : OwnFrom B I) (hb : B ≤ B') : OwnFrom B' I := fun s W W' row hs hg hr => h s W W' row hs hg (fun r e => ⟨Nat.le_trans hb (hr r e).1, (hr r e).2⟩)
theorem own_map {β γ : Type} {B : Nat} {I : β → World → Prop} (h : OwnFrom B I) (f : γ → β) : OwnFrom B (fun s W => I (f s) W) := fun s W W' row hs hg hr => h (f s) W W' row hs hg hr
theorem below_grown {W W' : World} (h : Below W.heap.size W W') : W.grownBy W' none := ⟨h.os, h.tape, h.output, h.size, fun k hk _ => h.block k hk⟩

/-- What a round tells, the answer as a letter. -/
def RdPost (Kp : World → World → Prop) (J Jx : List TE → World → Prop) (xs : List TE) (W : World) (e : Ending) (W' : World) : Prop :=
  ∃ b : Bool, e = .returned (.bool b) ∧ Hid (((b = true ∧ J xs W') ∨ (b = false ∧ Jx xs W')) ∧ Kp W W')
theorem rd_of {Kp : World → World → Prop} {J Jx : List TE → World → Prop} {xs : List TE} {W : World} {m m' l : Nat} {args : Array Value}
    (h : YieldAt Fence.wide m Tryd.prog l args W fun e W' => (e = .returned (.bool true) ∧ J xs W' ∧ Kp W W') ∨ (e = .returned (.bool false) ∧ Jx xs W' ∧ Kp W W')) : YieldAt Fence.wide m' Tryd.prog l args W (RdPost Kp J Jx xs W) := by
  obtain ⟨fn, tmps, assign, body, hy, hR⟩ := YieldAt.deep (m' := m') h
  refine ⟨fn, tmps, assign, body, hy, hR.mono ?_⟩
  rintro e W' (⟨rfl, h1, h2⟩ | ⟨rfl, h1, h2⟩)
  · exact ⟨true, rfl, Lib.hid ⟨.inl ⟨rfl, h1⟩, h2⟩⟩
  · exact ⟨false, rfl, Lib.hid ⟨.inr ⟨rfl, h1⟩, h2⟩⟩

set_option maxRecDepth 100000 in
set_option maxHeartbeats 2000000 in
theorem tall1_in (n : Nat) (hn : 2 ≤ n) (Bn n₀ n₁ : Nat) (B : TB) (N : Nat) (S : Nat → Sl) (l : Nat) (J Jx : List TE → World → Prop) (W : World)
    (hJ : OwnFrom W.heap.size J) (hJx : OwnFrom W.heap.size Jx)
    (hY : ∀ pre x W1, pre ++ [x] <+: allTE S N → J pre W1 → YieldAt Fence.wide (n - 1) Tryd.prog l (TE.v x) W1 fun e W' => (e = .returned (.bool true) ∧ J (pre ++ [x]) W' ∧ Kz n₀ n₁ Bn (some ⟨B.t, 0, none⟩) W1 W') ∨ (e = .returned (.bool false) ∧ Jx (pre ++ [x]) W' ∧ Kz n₀ n₁ Bn (some ⟨B.t, 0, none⟩) W1 W'))
    (hB : Boxed W Bn 23 (.pointer (some ⟨B.t, 0, none⟩))) (hM : TbAt W B N S) (hT : Tab W) (hw : B.within 0 n₀) (h01 : n₀ ≤ n₁) (hW2s : n₁ + 2 ≤ W.heap.size) (h0 : J [] W) :
    CallsIn Fence.wide n Tryd.prog 35 #[.func (.yield l) #[] #[], .pointer (some ⟨Bn, 0, none⟩)] W fun e W' => (∃ v, e = .returned v) ∧
      (J (allTE S N) W' ∨ ∃ pre, Jx pre W') := by
  have HY := Lib.hid hY
  clear hY
  have hn1 : 1 ≤ n := by omega
  have hlt := hB.lt
  have hb1 := (Below.refl W.heap.size W).alloc (Nat.le_refl _) (.cells #[.func (.yield l) #[] #[]] 82)
  have bn1 := hB.alloc (.cells #[.func (.yield l) #[] #[]] 82)
  have c0 := bn1.cell
  have m1 := hM.on hb1
  have c1 := m1.used
  refine callsIn_of_wp_marks Tryd.func35 rfl trivial ?_ rfl
  simp only [Tryd.ntmps35, List.size_toArray, List.length_cons, List.length_nil, Nat.reduceAdd, Nat.reduceSub, Array.replicate_succ, Array.replicate_zero, List.push_toArray, List.append_toArray, List.nil_append, List.cons_append]
  gi_wp2_with (first
    | (refine ⟨trivial, ?_⟩; gi_at_call 36; refine (all_in _ _ _).mono ?_; rintro e w' ⟨rfl, rfl⟩)
    | (gi_at_call 36; refine (all_in _ _ _).mono ?_; rintro e w' ⟨rfl, rfl⟩))
  obtain ⟨W2, hW2⟩ : ∃ W2, W2 = (W.alloc (.cells #[.func (.yield l) #[] #[]] 82)).alloc (.cells #[.pointer (some ⟨B.ub, 0, none⟩)] 62) := ⟨_, rfl⟩
  have sz2 : W2.heap.size = W.heap.size + 2 := by rw [hW2]; simp
  have bel2 : Below W.heap.size W W2 := by rw [hW2]; exact hb1.alloc (by simp) _
  have bN2 : Boxed W2 Bn 23 (.pointer (some ⟨B.t, 0, none⟩)) := (bel2.block Bn hlt).trans hB
  have bY2 : Boxed W2 W.heap.size 82 (.func (.yield l) #[] #[]) := by rw [hW2]; exact (Boxed.new W _ _).alloc _
  have bM2 : Boxed W2 (W.heap.size + 1) 62 (.pointer (some ⟨B.ub, 0, none⟩)) := by
    rw [hW2]
    have := Boxed.new (W.alloc (.cells #[.func (.yield l) #[] #[]] 82)) 62 (.pointer (some ⟨B.ub, 0, none⟩))
    rwa [World.size_alloc] at this
  have hJ2 : J [] W2 := hJ [] W W2 none h0 (below_grown bel2) (fun r e => by cases e)
  have hM2 := hM.on bel2
  have hT2 := hT.below bel2 hT.pos
  obtain ⟨ws, hm, hq⟩ := hM2.umap
  obtain ⟨w1, w2, w3, w4, w5, w6⟩ := hw
  have SQ := all_own (n - 1) (by omega) (W.heap.size + 1) n₀ B.ub B.uc N ws W2 bM2 (by omega) hm hT2 w3.2 w4.2
  rw [← hW2]
  clear hW2
  rw [hq] at SQ
  refine wpIn_range_far (by omega) (gf := 41) (lb := #[.pointer (some ⟨W.heap.size + 1, 0, none⟩)]) rfl (enters_of Tryd.func41 (by kernel_rfl) rfl)
    SQ kq_t (kq_own (by omega) (by omega)) (Below.refl _ _) (fun _ => rfl)
    (fun pre X => J (pre.map (teAt S)) X ∧ Boxed X Bn 23 (.pointer (some ⟨B.t, 0, none⟩)) ∧ Boxed X W.heap.size 82 (.func (.yield l) #[] #[]) ∧ Boxed X (W.heap.size + 1) 62 (.pointer (some ⟨B.ub, 0, none⟩)) ∧ Below n₀ W2 X)
    (fun c pre X => c = .ret ∧ ∃ zs, Jx zs X)
    (OwnFrom.and (own_map (own_up hJ (by omega)) _) (OwnFrom.and (Own.from (boxed_own _ _ _) _) (OwnFrom.and (Own.from (boxed_own _ _ _) _) (OwnFrom.and (Own.from (boxed_own _ _ _) _) (ownFrom_below (by omega) (by omega))))))
    (fun c s A B row ⟨e, zs, hs⟩ hg hr => ⟨e, zs, own_up hJx (by omega) zs A B row hs hg hr⟩)
    ⟨hJ2, bN2, bY2, bM2, Below.refl _ _⟩
    (fun x a' _ => a' = { tmps := #[.func (.yield l) #[] #[], .pointer (some ⟨Bn, 0, none⟩), .pointer (some ⟨W.heap.size, 0, none⟩), .int .i64 (x : Nat), .pointer (some ⟨B.t, 0, none⟩), .bool false, .pointer (some ⟨B.t, 0, none⟩), .pointer (some ⟨B.t, 0, none⟩), .pointer (some ⟨B.t, 1, none⟩), .pointer (some ⟨B.ub, 0, none⟩), .func (.func 41) #[] #[.pointer (some ⟨W.heap.size + 1, 0, none⟩)], .int .i64 (x : Nat), undef, undef, undef, undef, undef, undef, undef, undef, undef, undef, undef, undef, undef, undef], defers := [] }) (fun _ _ _ _ _ _ hs _ _ => hs) ?assign ?body ?done ?stop
  case assign =>
    intro l pre x W K hI _ hK
    have HK := Lib.hid (hK _ W (KeepsFrom.refl _ _) ⟨Below.refl _ _, fun x => x⟩ hI rfl)
    clear hK hI
    gi_wp2
    exact HK.out
  case body =>
    rintro l2 pre k _ W3 ⟨hJ3, bN3, bY3, bM3, hbw⟩ rfl hpre
    obtain ⟨hk, hu⟩ : k < N ∧ (S k).used = true := mem_ons _ (hpre.subset (by simp))
    have m3 := hM2.below hbw ⟨w1, w2, w3, w4, w5, w6⟩
    have cY := bY3.cell
    have cN := bN3.cell
    have r3 := m3.row
    obtain ⟨s0, s1, s2, s3, s4⟩ := m3.slot k hk
    have hmx : Tryd.prog.follows .mixedOrders = true := by kernel_rfl
    have TK : ∀ w', Below W3.heap.size W3 w' → Calls Tryd.prog 30 #[.pointer (some ⟨B.t, 0, none⟩), .int .i64 k] w' fun e w7 => e = .returned (.agg #[.int .i64 k, .int .i64 ((S k).gen : Nat)]) ∧ Below w'.heap.size w' w7 := fun w' hc => by
      have := token_any (m3.on hc) k hk
      rw [genAt_used m3 hu] at this
      exact this
    have HTK := Lib.hid TK
    have hN := m3.N2
    have HLN : Hid (pre.map (teAt S) ++ [teAt S k] <+: allTE S N) := Lib.hid (by have := hpre.map (teAt S); rw [List.map_append] at this; exact this)
    clear TK hpre
    have FX : ∀ w', Below W3.heap.size W3 w' → w'.cell? ⟨W.heap.size, 0, none⟩ = some (.func (.yield l) #[] #[]) ∧ w'.cell? ⟨Bn, 0, none⟩ = some (.pointer (some ⟨B.t, 0, none⟩)) ∧ w'.cell? ⟨B.t, 0, none⟩ = some (.slice (some ⟨B.s, 0, none⟩) N N) ∧
        w'.cell? ⟨B.s, k * 5 + 1, none⟩ = some (.int .i64 (S k).e.a) ∧ w'.cell? ⟨B.s, k * 5 + 2, none⟩ = some (.int .i64 (S k).e.r) ∧ w'.cell? ⟨B.s, k * 5 + 3, none⟩ = some (.bool (S k).e.h) ∧ w'.cell? ⟨B.s, k * 5 + 4, none⟩ = some (.bool (S k).e.p) := fun w' hb7 => by
      have bY7 : Boxed w' W.heap.size _ _ := (hb7.block _ bY3.lt).trans bY3
      have bN7 : Boxed w' Bn _ _ := (hb7.block _ bN3.lt).trans bN3
      have m7 := m3.on hb7
      obtain ⟨v0, v1, v2, v3, v4⟩ := m7.slot k hk
      exact ⟨bY7.cell, bN7.cell, m7.row, v1, v2, v3, v4⟩
    have HFX := Lib.hid FX
    clear FX
    gi_wp2
    refine wpIn_region_calm 12 [.func (.yield l) #[] #[], .pointer (some ⟨B.t, 0, none⟩), .int .i64 k, .agg #[.int .i64 k, .int .i64 ((S k).gen : Nat)], .pointer (some ⟨B.t, 0, none⟩), .pointer (some ⟨B.t, 0, none⟩), .pointer (some ⟨B.t, 0, none⟩), .slice (some ⟨B.s, 0, none⟩) N N, .int .i64 k, .pointer (some ⟨B.s, k * 5, none⟩), .pointer (some ⟨B.s, k * 5 + 1, none⟩), .agg #[.int .i64 (S k).e.a, .int .i64 (S k).e.r, .bool (S k).e.h, .bool (S k).e.p]]
      { tmps := #[.func (.yield l) #[] #[], .pointer (some ⟨Bn, 0, none⟩), .pointer (some ⟨W.heap.size, 0, none⟩), .int .i64 k, .pointer (some ⟨B.t, 0, none⟩), .bool false, .pointer (some ⟨B.t, 0, none⟩), .pointer (some ⟨B.t, 0, none⟩), .pointer (some ⟨B.t, 1, none⟩), .pointer (some ⟨B.ub, 0, none⟩), .func (.func 41) #[] #[.pointer (some ⟨W.heap.size + 1, 0, none⟩)], .int .i64 k,
          .func (.yield l) #[] #[], .pointer (some ⟨B.t, 0, none⟩), .int .i64 k, .agg #[.int .i64 k, .int .i64 ((S k).gen : Nat)], .pointer (some ⟨B.t, 0, none⟩), .pointer (some ⟨B.t, 0, none⟩), .pointer (some ⟨B.t, 0, none⟩), .slice (some ⟨B.s, 0, none⟩) N N, .int .i64 k, .pointer (some ⟨B.s, k * 5, none⟩), .pointer (some ⟨B.s, k * 5 + 1, none⟩), .agg #[.int .i64 (S k).e.a, .int .i64 (S k).e.r, .bool (S k).e.h, .bool (S k).e.p], undef, undef], defers := [] }
      (fun w' => Below W3.heap.size W3 w') hmx (by kernel_rfl) (by kernel_rfl) ((Below.refl _ _).drew) ?run ?last
    case run =>
      refine ⟨?_, ?_, ?_, ?_, ?_, ?_, ?_, ?_, ?_, ?_, ?_, ?_, trivial⟩
      all_goals intro w' hc; obtain ⟨cY7, cN7, r7, v1, v2, v3, v4⟩ := HFX.out w' hc; have HC := Lib.hid hc; clear hc
      all_goals try go_simp
      all_goals first
        | exact HC.out
        | (refine ⟨trivial, fun h => (by cases h), ?_⟩
           refine (CallsIn.inRound l2 (callsIn_wide.2 (HTK.out w' HC.out))).mono ?_
           rintro e w7 ⟨rfl, hb7⟩
           exact ⟨rfl, HC.out.trans (hb7.mono HC.out.size)⟩)
    case last =>
      intro fuel hf w' hc
      obtain ⟨fu, rfl⟩ : ∃ fu, fuel = fu + 1 := ⟨fuel - 1, by have hf' : 14 ≤ fuel + 12 + 1 := hf; omega⟩
      have hJ7 : J (pre.map (teAt S)) w' := hJ _ W3 w' none hJ3 (below_grown hc) (fun r e => by cases e)
      obtain ⟨fn, tmps, assign, body, hy, hR⟩ := rd_of (m' := n - 1 - 1 - 1) (HY.out _ (teAt S k) w' HLN.out hJ7)
      dsimp only [TE.v, teAt] at hy
      have HR : Hid (RoundIn (Fence.wide.inRound l2) (n - 1 - 1 - 1) Tryd.prog l fn tmps assign body w' (RdPost (Kz n₀ n₁ Bn (some ⟨B.t, 0, none⟩)) J Jx ((pre.map (teAt S)) ++ [teAt S k]) w')) := (show RoundIn (Fence.wide.inRound l2) _ _ _ _ _ _ _ _ _ from hR)
      have HC := Lib.hid hc
      clear hR hJ7 hc
      refine wpOpIn_step rfl (fun K' hK' => ?_)
      have HK := Lib.hid hK'
      clear hK'
      go_simp
      refine ⟨fun h => (by cases h), ?_⟩
      refine HR.out.mono ?_
      rintro e W8 ⟨b, rfl, HP8⟩
      refine HK.out _ _ ?_
      refine wpAnyIn_all (rs := [13]) (by kernel_rfl) (by simp) ?_
      intro i hi
      obtain rfl : i = 13 := by simpa using hi
      refine wpOpIn_step rfl (fun K2 hK2 => ?_)
      have HK2 := Lib.hid hK2
      clear hK2 HK HR hy
      go_simp
      refine HK2.out _ _ ?_
      refine wpAnyIn_done (by kernel_rfl) ?_ _
      obtain ⟨hp, hz⟩ := HP8.out
      have hz3 : Kz n₀ n₁ Bn (some ⟨B.t, 0, none⟩) W3 W8 := kz_t (Kz.of_below HC.out (by have := hbw.size; omega)) hz
      have hkf : KeepsFrom (W.heap.size + 2) W3 W8 := ⟨Nat.le_trans HC.out.size hz.bel.size, fun k o hk ho _ => hz3.same k o (by omega) ho⟩
      rcases hp with ⟨rfl, hj⟩ | ⟨rfl, hj⟩
      · gi_wp2
        refine ⟨hkf, ⟨hz3.bel, fun x => hz3.boxed x (by omega)⟩, ?_, hz3.box bN3, hz3.boxed bY3 (by omega), hz3.boxed bM3 (by omega), hbw.trans hz3.bel⟩
        rw [List.map_append]
        exact hj
      · gi_wp2
        exact ⟨hkf, ⟨hz3.bel, fun x => hz3.boxed x (by omega)⟩, rfl, _, hj⟩
  case done =>
    rintro D X hD ⟨hJ9, _⟩ hK
    have hJ10 : J (allTE S N) (X.putObj D (.deferred none)) := OwnFrom.putObj hJ _ hJ9 (by omega) hK rfl
    gi_wp2
    refine ⟨by simp, .inl ⟨_, _, rfl, run_takeDeferred hK, ?_⟩⟩
    exact ⟨_, results_none rfl _ _ _, ⟨_, rfl⟩, .inl hJ10⟩
  case stop =>
    rintro D c pre X hD ⟨rfl, zs, hz⟩ hK
    have hJ10 : Jx zs (X.putObj D (.deferred none)) := OwnFrom.putObj hJx _ hz (by omega) hK rfl
    gi_wp2
    refine ⟨by simp, .inl ⟨_, _, rfl, run_takeDeferred hK, ?_⟩⟩
    exact ⟨_, results_none rfl _ _ _, ⟨_, rfl⟩, .inr ⟨_, hJ10⟩⟩
/-- What a range over All is handed. -/
theorem tall_tells (n : Nat) (hn : 2 ≤ n) (Bn n₀ : Nat) (B : TB) (N : Nat) (S : Nat → Sl) (w : World) (hB : Boxed w Bn 23 (.pointer (some ⟨B.t, 0, none⟩))) (hM : TbAt w B N S) (hT : Tab w) (hw : B.within 0 n₀) (h01 : n₀ ≤ w.heap.size) :
    SeqOwn n Tryd.prog 35 #[.pointer (some ⟨Bn, 0, none⟩)] TE.v (Kz n₀ w.heap.size Bn (some ⟨B.t, 0, none⟩)) (allTE S N) w := fun l J Jx W hW hs hJ hJx hY h0 =>
  tall1_in n hn Bn n₀ w.heap.size B N S l J Jx W hJ hJx hY ((hW.block Bn hB.lt).trans hB) (hM.on hW) (hT.below hW hT.pos) hw h01 hs h0
end Go.Proofs.YtldlolgdglmocaaDoor
