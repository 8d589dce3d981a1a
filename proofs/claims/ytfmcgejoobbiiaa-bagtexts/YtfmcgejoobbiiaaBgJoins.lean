/- BagJoins, walked. -/
import Derived.Test.YtfmcgejoobbiiaaBgOrders
namespace Go.Proofs.Ytfmcgejoobbiiaa
open Go.RowKit Go.Lib Go.Sort

set_option maxRecDepth 10000 in
theorem wpList_append_reads (w : World) {ops : Array Oper} {rest : List Oper} {o : Oper} {a : Act} {Q : Exit → Act → World → Prop} (hgd : o.guard = none) (s x : Operand)
    (ho : o.op = .call { callee := .builtin .append, args := #[s, x], argTypes := #[22, 22] })
    (base : Nat) (v : Value) (n : Nat) (xs : List Int) (hs : a.eval s = v) (hown : w.ownsRow base 3 1 v n (xs.map (Value.int .i64)))
    (A : Option Addr) (m c : Nat) (ys : List Int) (hx : a.eval x = .slice A m c) (hr : Reads (Value.int .i64) w A m ys) (hc : A = none → c = 0) (hmc : m ≤ c)
    (h63 : n + m ≤ 3000000) (hbase : base ≤ w.heap.size)
    (h : ∀ v' w', w'.ownsRow base 3 1 v' (n + m) ((xs ++ ys).map (Value.int .i64)) → w.grownBy w' v.ownBlock → wpList Try.prog ops Q rest (a.put o.dst v') w') : wpList Try.prog ops Q (o :: rest) a w := by
  obtain ⟨i0, hi0, hz0, hz1, hz2⟩ := infoInt_parts
  rcases A with _ | ad
  · obtain rfl := hc rfl
    obtain rfl : m = 0 := by omega
    have hy : ys = [] := List.eq_nil_of_length_eq_zero hr.1
    subst hy
    refine wpList_append_own_none hgd s x 22 ho base 3 i0 1 Try.underlying22 hi0 v n (xs.map (Value.int .i64)) hs hown hx ?_
    exact h v w (by simpa using hown) (World.grownBy.refl w _)
  · refine wpList_append_own_at w hgd s x 22 ho base 3 i0 _ 1 8 Try.underlying22 hi0 hz0 hz1 hz2 rfl (by decide) v n (xs.map (Value.int .i64)) hs hown ad m c (ys.map (Value.int .i64)) hx (by simp [hr.1]) ?_ (oneI ys) (by unfold maxLen; omega) (by omega) hbase ?_
    · intro j u hu
      have hj : j < ys.length := by have := (List.getElem?_eq_some_iff.1 hu).1; simpa using this
      obtain ⟨b, off, e, hlt, hcell⟩ := hr.2 (by have := hr.1; omega)
      injection e with e
      subst e
      rw [Addr.add_lit, hcell j hj, ← hu, List.getElem?_map, List.getElem?_eq_getElem hj]
      rfl
    · intro v' w' h1 h2 _ _
      refine h v' w' ?_ h2
      rw [List.map_append]
      exact h1

theorem own_slice {w : World} {base n : Nat} {T : TypeId} {v : Value} {xs : List Value} (h : w.ownsRow base T 1 v n xs) : ∃ A c, v = .slice A n c := by
  rcases h.2 with ⟨e, e0⟩ | ⟨g, cap, cur, e, _⟩
  · exact ⟨none, 0, by rw [e, e0]⟩
  · exact ⟨_, cap, e⟩

/-- Two bags of the law's own and a row of numbers, apart from each other. -/
def O2 (B : Nat) (w : World) (a b rw : Nat) (v : Value) (la lb lw : List Int) : Prop :=
  ∃ ra rb, IBag w a ra la ∧ IBag w b rb lb ∧ IRow w rw v lw ∧ (B ≤ a ∧ B ≤ ra) ∧ (B ≤ b ∧ B ≤ rb) ∧ (a ≠ b ∧ a ≠ rb ∧ ra ≠ b ∧ ra ≠ rb) ∧ ∀ j, v.ownBlock = some j → j ≠ a ∧ j ≠ ra ∧ j ≠ b ∧ j ≠ rb
theorem Row.aft' {T : TypeId} {enc : Int → Value} {w w' : World} {r : Nat} {v : Value} {l : List Int} {S : List Nat} (h : Row T enc w r v l) (k : Aft S w w') (hr : ∀ j, v.ownBlock = some j → j ∉ S) : Row T enc w' r v l := by
  rcases h.form with ⟨rfl, rfl⟩ | ⟨cap, cur, rfl, hh, hn, hm, hs, hc⟩
  · exact Row.nil _ _ _ _
  · exact h.aft k (hr r rfl)
theorem Row.own_lt {T : TypeId} {enc : Int → Value} {w : World} {r : Nat} {v : Value} {l : List Int} (h : Row T enc w r v l) : ∀ j, v.ownBlock = some j → j < w.heap.size := fun j hj => (h.own.lt j hj).2
section
variable {B a b rw : Nat} {v : Value} {w w' : World} {la lb lw l : List Int}
theorem O2.below (h : O2 B w a b rw v la lb lw) (k : Below w.heap.size w w') : O2 B w' a b rw v la lb lw := by
  obtain ⟨ra, rb, h1, h2, h3, h4⟩ := h
  exact ⟨ra, rb, h1.below k, h2.below k, h3.below k, h4⟩
theorem O2.drewN (h : O2 B w a b rw v la lb lw) (n : Nat) : O2 B (w.drewN n) a b rw v la lb lw := h.below (Below.drewN (Below.refl _ _) n)
theorem O2.fst (h : O2 B w a b rw v la lb lw) : OB B w a la := by
  obtain ⟨ra, rb, h1, h2, h3, h4, h5, _⟩ := h
  exact ⟨h4.1, ra, h1, h4.2⟩
theorem O2.snd (h : O2 B w a b rw v la lb lw) : OB B w b lb := by
  obtain ⟨ra, rb, h1, h2, h3, h4, h5, _⟩ := h
  exact ⟨h5.1, rb, h2, h5.2⟩
theorem O2.row (h : O2 B w a b rw v la lb lw) : IRow w rw v lw := by
  obtain ⟨ra, rb, h1, h2, h3, _⟩ := h
  exact h3
theorem O2.symm (h : O2 B w a b rw v la lb lw) : O2 B w b a rw v lb la lw := by
  obtain ⟨ra, rb, h1, h2, h3, h4, h5, h6, h7⟩ := h
  exact ⟨rb, ra, h2, h1, h3, h5, h4, by omega, fun j hj => by have := h7 j hj; omega⟩
theorem O2.wr (h : O2 B w a b rw v la lb lw) (hB : B ≤ w.heap.size) {f : FuncId} {args : Array Value} {u : Value} (hc : ∀ ra, IBag w a ra la → Calls Try.prog f args w (WPost 59 3 (Value.int .i64) a ra u l w)) :
    Calls Try.prog f args w fun e w' => e = .returned u ∧ O2 B w' a b rw v l lb lw ∧ Below B w w' := by
  obtain ⟨ra, rb, h1, h2, h3, h4, h5, h6, h7⟩ := h
  refine (hc ra h1).mono ?_
  rintro e w' ⟨rfl, r', k1, k2, k3⟩
  have b1 := h2.blt
  have b2 := h2.lt
  have hv := h3.own_lt
  refine ⟨rfl, ⟨r', rb, k1, h2.aft k3 (by simp; omega) (by simp; omega), h3.aft' k3 (fun j hj => by have := h7 j hj; simp; omega), ⟨h4.1, by omega⟩, h5, by omega, fun j hj => by have := h7 j hj; have := hv j hj; omega⟩, k3.below (by simp; exact h4) hB⟩
theorem O2.join (h : O2 B w a b rw v la lb lw) (hl : la.length ≤ 400000) (hm : lb.length ≤ 400000) (hB : B ≤ w.heap.size) :
    Calls Try.prog 9 #[.pointer (some ⟨a, 0, none⟩), .pointer (some ⟨b, 0, none⟩)] w fun e w' => e = .returned (.tuple #[]) ∧ O2 B w' a b rw v (BG.join la lb) lb lw ∧ Below B w w' := by
  obtain ⟨rb, hb, _⟩ := h.snd.bag
  exact h.wr hB fun ra h1 => join_any h1 hb hl hm
theorem O2.less (h : O2 B w a b rw v la lb lw) (hl : la.length ≤ 400000) (hm : lb.length ≤ 400000) (hB : B ≤ w.heap.size) :
    Calls Try.prog 10 #[.pointer (some ⟨a, 0, none⟩), .pointer (some ⟨b, 0, none⟩)] w fun e w' => e = .returned (.tuple #[]) ∧ O2 B w' a b rw v (BG.less la lb) lb lw ∧ Below B w w' := by
  obtain ⟨rb, hb, _⟩ := h.snd.bag
  exact h.wr hB fun ra h1 => less_any h1 hb hl (by omega)
theorem O2.joinS (h : O2 B w a b rw v la lb lw) (hl : la.length ≤ 400000) (hB : B ≤ w.heap.size) :
    Calls Try.prog 9 #[.pointer (some ⟨a, 0, none⟩), .pointer (some ⟨a, 0, none⟩)] w fun e w' => e = .returned (.tuple #[]) ∧ O2 B w' a b rw v la lb lw ∧ Below B w w' := h.wr hB fun _ h1 => join_same h1 hl
theorem O2.lessS (h : O2 B w a b rw v la lb lw) (hl : la.length ≤ 400000) (hB : B ≤ w.heap.size) :
    Calls Try.prog 10 #[.pointer (some ⟨a, 0, none⟩), .pointer (some ⟨a, 0, none⟩)] w fun e w' => e = .returned (.tuple #[]) ∧ O2 B w' a b rw v [] lb lw ∧ Below B w w' := h.wr hB fun _ h1 => less_same h1 hl
end

set_option maxRecDepth 100000 in
set_option maxHeartbeats 8000000 in
theorem joins_any (A : Option Addr) (n c : Nat) (xs : List Int) (D : Option Addr) (m d : Nat) (zs : List Int) (w : World) (hx : NS .i64 w w.heap.size A n xs) (hnc : n ≤ c ∧ (A = none → c = 0)) (hz : NS .i64 w w.heap.size D m zs) (hmd : m ≤ d ∧ (D = none → d = 0)) :
    Calls Try.prog 6 #[.slice A n c, .slice D m d] w fun e w' => e = .returned (.bool true) ∧ Below w.heap.size w w' := by
  obtain ⟨hnc, hA0⟩ := hnc
  obtain ⟨hmd, hD0⟩ := hmd
  obtain ⟨M, hM1, hM2, hM3⟩ := cut_num n 100
  obtain ⟨N, hN1, hN2, hN3⟩ := cut_num m 100
  have HX := Lib.hid (hx.reads.take hM1)
  have HZ := Lib.hid (hz.reads.take hN1)
  have HA0 := Lib.hid hA0
  have HD0 := Lib.hid hD0
  have q1 : min (n : Int) 100 = (M : Int) := by omega
  have q2 : min (m : Int) 100 = (N : Int) := by omega
  clear hM3 hN3 hx hz hA0 hD0
  generalize xs.take M = ls at HX
  generalize zs.take N = os at HZ
  have HLL : Hid (ls.length = M) := Lib.hid HX.out.1
  have HOL : Hid (os.length = N) := Lib.hid HZ.out.1
  go_enter Try.func6, Try.ntmps6
  go_upto_region 1 with (fail)
  go_cut [0, 1] (fun s t wc => s = .slice A M c ∧ t = .slice D N d ∧ Hid (Below w.heap.size w wc))
  case first =>
    have q3 : (M : Int) ≤ c := by omega
    have q4 : (N : Int) ≤ d := by omega
    have q5 : (0 : Int) ≤ M := by omega
    have q6 : (0 : Int) ≤ N := by omega
    go_region
    go_wp2
    go_meet
    exact ⟨rfl, rfl, Lib.hid (Below.refl _ w).drew⟩
  case rest =>
    obtain ⟨rfl, rfl, HB0⟩ := hcut
    have hMc : M ≤ c := by omega
    have hNd : N ≤ d := by omega
    clear q1 q2 hM1 hN1 hnc hmd
    rename World => w0
    have hb0 := HB0.out.size
    have HNL : Hid ((BG.norm ls).length ≤ 100) := Lib.hid (by have := BG.norm_len ls; have := HLL.out; omega)
    have HNO : Hid ((BG.norm os).length ≤ 100) := Lib.hid (by have := BG.norm_len os; have := HOL.out; omega)
    go_wp2_with fail
    refine (new_any A M c ls w0 (HX.out.below HB0.out) (by omega)).mono ?_
    rintro e w1 ⟨a, ra, rfl, h1, ga, gra, hB1⟩
    have H1 := Lib.hid h1
    have B1 := Lib.hid (HB0.out.trans (hB1.mono hb0))
    have ha1 := h1.blt
    have ha2 := h1.lt
    clear h1 hB1 HB0
    go_wp2_with fail
    refine (new_any D N d os w1 (HZ.out.below B1.out) (by omega)).mono ?_
    rintro e w2 ⟨b, rb, rfl, h2, gb, grb, hB2⟩
    have hs1 := B1.out.size
    have H2 : Hid (O2 w.heap.size w2 a b 0 (.slice none 0 0) (BG.norm ls) (BG.norm os) []) := Lib.hid ⟨ra, rb, H1.out.below hB2, h2, Row.nil _ _ _ _, ⟨by omega, by omega⟩, ⟨by omega, by omega⟩, by omega, fun j hj => by simp [Value.ownBlock] at hj⟩
    have B2 := Lib.hid (B1.out.trans (hB2.mono hs1))
    clear h2 hB2 H1 B1 ga gra gb grb ha1 ha2 hs1 hb0
    go_wp2_with fail
    refine (alive_any w2).mono ?_
    rintro e w3 ⟨rfl, hB3⟩
    have H3 := Lib.hid (H2.out.below hB3)
    have B3 := Lib.hid (B2.out.trans (hB3.mono B2.out.size))
    clear hB3 H2 B2
    go_wp2_with fail
    refine (H3.out.snd.all (by have := HNO.out; omega)).mono ?_
    rintro e w4 ⟨vw, rfl, h4, b4⟩
    obtain ⟨rw', hr4, hge4⟩ := row_of h4
    have H4 : Hid (O2 w.heap.size w4 a b rw' vw (BG.norm ls) (BG.norm os) (BG.norm os)) := Lib.hid (by
      obtain ⟨ra, rb, k1, k2, _, k4, k5, k6, _⟩ := H3.out
      have e1 := k1.blt
      have e2 := k1.lt
      have e3 := k2.blt
      have e4 := k2.lt
      exact ⟨ra, rb, k1.below b4, k2.below b4, hr4, k4, k5, k6, fun j hj => by have := hr4.at_ j hj; omega⟩)
    have B4 := Lib.hid (B3.out.trans (b4.mono B3.out.size))
    clear h4 b4 hr4 hge4 H3 B3
    go_wp2_with fail
    refine (H4.out.join (by have := HNL.out; omega) (by have := HNO.out; omega) B4.out.size).mono ?_
    rintro e w5 ⟨rfl, h5, b5⟩
    have H5 := Lib.hid h5
    have B5 := Lib.hid (B4.out.trans b5)
    clear h5 b5 H4 B4
    have HJm : Hid (∀ y, y ∈ BG.join (BG.norm ls) (BG.norm os) ↔ y ∈ ls ∨ y ∈ os) := Lib.hid (fun y => by rw [BG.mem_join, BG.mem_norm, BG.mem_norm])
    have hJl : (BG.join (BG.norm ls) (BG.norm os)).length ≤ 200 := by have := BG.join_len (BG.norm ls) (BG.norm os); have := HNL.out; have := HNO.out; omega
    have HEm : Hid (∀ y, y ∈ BG.norm os ↔ y ∈ os) := Lib.hid (fun y => BG.mem_norm)
    have hEl : (BG.norm os).length ≤ 100 := HNO.out
    generalize BG.join (BG.norm ls) (BG.norm os) = J at H5 HJm hJl
    generalize BG.norm os = E at H5 HEm hEl
    clear HNL HNO
    have hb5 := B5.out.size
    have hg0 : (w5.alloc (.cells #[] 3)).ownsRow w5.heap.size 3 1 (.slice (some ⟨w5.heap.size, 0, none⟩) 0 0) 0 (([] : List Int).map (Value.int .i64)) := World.ownsRow_made w5 #[] 0 (Nat.le_refl _) (by decide) rfl
    have HG0 := Lib.hid hg0
    have C0 : Hid (Below w5.heap.size w5 (w5.alloc (.cells #[] 3))) := Lib.hid ((Below.refl _ _).alloc (Nat.le_refl _) _)
    clear hg0
    obtain ⟨T, hT⟩ : ∃ T, T = M + N := ⟨_, rfl⟩
    have hT2 : T ≤ 200 := by omega
    have HT := Lib.hid hT
    clear hT
    go_wp2_with (first
      | (at_builtin
         refine wpList_append_reads _ rfl _ _ rfl w5.heap.size _ 0 [] rfl HG0.out A M c ls rfl (HX.out.below (B5.out.alloc hb5 _)) HA0.out hMc (by omega) (by simp) ?_
         intro v6 w6 ho6 hg6
         rw [Nat.zero_add, List.nil_append] at ho6
         have HO6 := Lib.hid ho6
         have C6 := Lib.hid (C0.out.grown hg6 (by simp) (fun k hk => (HG0.out.lt k hk).1))
         clear ho6 hg6)
      | (at_builtin
         refine wpList_append_reads _ rfl _ _ rfl w5.heap.size _ M ls rfl HO6.out D N d os rfl (HZ.out.below (B5.out.trans (C6.out.mono hb5))) HD0.out hNd (by omega) C6.out.size ?_
         intro v7 w7 ho7 hg7
         rw [← HT.out] at ho7
         obtain ⟨A7, c7, rfl⟩ := own_slice ho7
         have HO7 := Lib.hid ho7
         have C7 := Lib.hid (C6.out.grown hg7 C6.out.size (fun k hk => (HO6.out.lt k hk).1))
         clear ho7 hg7))
    have H7 := Lib.hid (H5.out.below C7.out)
    have B7 := Lib.hid (B5.out.trans (C7.out.mono hb5))
    obtain ⟨r7, hr7, _⟩ := row_of HO7.out
    have R7 := Lib.hid hr7
    have HTL : Hid ((ls ++ os).length = T) := Lib.hid (by rw [List.length_append, HLL.out, HOL.out, HT.out])
    clear HO6 C6 HO7 C7 H5 B5 HG0 C0 hr7
    go_loopg [54] T (fun g i wr => ∃ k : Nat, k ≤ T ∧ Hid (T - k ≤ g) ∧ i = .int .i64 k ∧ Hid (O2 w.heap.size wr a b rw' vw J E E) ∧ Hid (IRow wr r7 (.slice A7 T c7) (ls ++ os)) ∧ Hid (Below w.heap.size w wr))
    case atStart => exact ⟨0, Nat.zero_le _, Lib.hid (Nat.le_refl _), rfl, H7, R7, B7⟩
    case round =>
      clear H7 R7 B7
      obtain ⟨k, hk, HG, rfl, HO, HR, HB⟩ := hrel
      by_cases hkl : k < T
      · have hkl' : k < (ls ++ os).length := by rw [HTL.out]; exact hkl
        obtain ⟨cap, e0, _, hcell⟩ := HR.out.cell hkl'
        injection e0 with e1 e3 e2
        clear e3
        subst e1 e2
        have hmem : (ls ++ os)[k] ∈ J := (HJm.out _).2 (List.mem_append.1 (List.getElem_mem hkl'))
        have hh := HO.out.fst.has (by omega) (ls ++ os)[k]
        rw [show decide ((ls ++ os)[k] ∈ J) = true by simp [hmem]] at hh
        have HH := Lib.hid hh
        clear hh hmem
        generalize (ls ++ os)[k] = x at hcell HH
        clear hkl'
        go_wp2_with fail
        refine HH.out.mono ?_
        rintro e w8 ⟨rfl, q, rfl⟩
        go_wp2
        go_roundg (T - (k + 1))
        case measure => have := HG.out; omega
        case rel => exact ⟨k + 1, by omega, Lib.hid (Nat.le_refl _), by go_num, Lib.hid (HO.out.drewN _), Lib.hid (HR.out.drewN _), Lib.hid (Below.drewN HB.out _)⟩
      · have hkT : T = k := by omega
        subst hkT
        clear HR HG hk hkl HTL HT hT2
        go_wp2_with fail
        refine (HO.out.fst.all (by omega)).mono ?_
        rintro e w8 ⟨v8, rfl, h8, b8⟩
        obtain ⟨r8, hr8, _⟩ := row_of h8
        obtain ⟨A8, c8, rfl, _⟩ := hr8.slice
        have R8 := Lib.hid hr8
        have H8 := Lib.hid (HO.out.below b8)
        have B8 := Lib.hid (HB.out.trans (b8.mono HB.out.size))
        clear h8 b8 hr8 HO HB
        go_wp2
        go_loopg [66] J.length (fun g i wr => ∃ k : Nat, k ≤ J.length ∧ Hid (J.length - k ≤ g) ∧ i = .int .i64 k ∧ Hid (O2 w.heap.size wr a b rw' vw J E E) ∧ Hid (IRow wr r8 (.slice A8 J.length c8) J) ∧ Hid (Below w.heap.size w wr))
        case atStart => exact ⟨0, Nat.zero_le _, Lib.hid (Nat.le_refl _), rfl, H8, R8, B8⟩
        case round =>
          clear H8 R8 B8
          obtain ⟨k, hk, HG, rfl, HO, HR, HB⟩ := hrel
          by_cases hkl : k < J.length
          · obtain ⟨cap, e0, _, hcell⟩ := HR.out.cell hkl
            injection e0 with e1 _ e2
            subst e1 e2
            have HM := Lib.hid ((HJm.out _).1 (List.getElem_mem hkl))
            have HH := Lib.hid (HO.out.snd.has (by omega) J[k])
            generalize J[k] = x at hcell HH HM
            have D0 : Hid (decide (x ∈ E) = decide (x ∈ E ∨ x ∈ ls.take 0)) := Lib.hid (by simp)
            rw [D0.out] at HH
            go_wp2_with fail
            refine HH.out.mono ?_
            rintro e w9 ⟨rfl, q, rfl⟩
            have HO9 := Lib.hid (HO.out.drewN q)
            have HR9 := Lib.hid (HR.out.drewN q)
            have HB9 := Lib.hid (Below.drewN HB.out q)
            clear HO HR HB HH D0 hcell
            generalize World.drewN _ q = w9 at *
            go_wp2
            go_loopg [12, 75] M (fun g av i wr' => ∃ j : Nat, j ≤ M ∧ Hid (M - j ≤ g) ∧ i = .int .i64 j ∧ av = .bool (decide (x ∈ E ∨ x ∈ ls.take j)) ∧ w9 = wr')
            case atStart => exact ⟨0, Nat.zero_le _, Lib.hid (Nat.le_refl _), rfl, by simp, rfl⟩
            case round =>
              obtain ⟨j, hj, HGj, rfl, rfl, rfl⟩ := hrel
              by_cases hjk : j < M
              · obtain ⟨bo, off, hjx, rfl, _, hcj⟩ := (HX.out.below HB9.out).at_ hjk
                have HTj := Lib.hid (take_snoc_at hjx)
                generalize ls[j] = y at hcj HTj
                by_cases hin : x ∈ E ∨ x ∈ ls.take j
                · have d1 : decide (x ∈ E ∨ x ∈ ls.take j) = true := by simp [hin]
                  have D2 : Hid (decide (x ∈ E ∨ x ∈ ls.take (j + 1)) = true) := Lib.hid (by
                    rw [decide_eq_true_iff, HTj.out, List.mem_append]
                    exact hin.elim Or.inl (fun h => Or.inr (Or.inl h)))
                  rw [d1]
                  clear d1 hin
                  go_wp2
                  go_roundg (M - (j + 1))
                  case measure => have := HGj.out; omega
                  case rel => exact ⟨j + 1, by omega, Lib.hid (Nat.le_refl _), by go_num, by rw [D2.out], rfl⟩
                · have d1 : decide (x ∈ E ∨ x ∈ ls.take j) = false := by simp [hin]
                  have D2 : Hid ((x ∈ E ∨ x ∈ ls.take (j + 1)) ↔ x = y) := Lib.hid (by
                    rw [HTj.out, List.mem_append, List.mem_singleton, ← or_assoc]
                    exact ⟨fun h => h.elim (fun h => absurd h hin) id, Or.inr⟩)
                  rw [d1]
                  clear d1 hin
                  by_cases hyx : y = x
                  · subst hyx
                    have D3 : Hid (decide (y ∈ E ∨ y ∈ ls.take (j + 1)) = true) := Lib.hid (by rw [decide_eq_true_iff]; exact D2.out.2 rfl)
                    go_wp2
                    go_roundg (M - (j + 1))
                    case measure => have := HGj.out; omega
                    case rel => exact ⟨j + 1, by omega, Lib.hid (Nat.le_refl _), by go_num, by rw [D3.out], rfl⟩
                  · have D3 : Hid (decide (x ∈ E ∨ x ∈ ls.take (j + 1)) = false) := Lib.hid (by rw [decide_eq_false_iff_not]; exact fun h => hyx (D2.out.1 h).symm)
                    have d4 : (y == x) = false := by rw [beq_eq_false_iff_ne]; exact hyx
                    clear hyx
                    go_wp2
                    go_roundg (M - (j + 1))
                    case measure => have := HGj.out; omega
                    case rel => exact ⟨j + 1, by omega, Lib.hid (Nat.le_refl _), by go_num, by rw [D3.out], rfl⟩
              · have hjM : M = j := by omega
                subst hjM
                have d1 : decide (x ∈ E ∨ x ∈ ls.take M) = true := by
                  rw [decide_eq_true_iff, List.take_of_length_le (by have := HLL.out; omega)]
                  exact HM.out.elim Or.inr (fun h => Or.inl ((HEm.out x).2 h))
                rw [d1]
                clear d1
                go_wp2
                go_roundg (J.length - (k + 1))
                case measure => have := HG.out; omega
                case rel => exact ⟨k + 1, by omega, Lib.hid (Nat.le_refl _), by go_num, HO9, HR9, HB9⟩
          · have hkJ : k = J.length := by omega
            subst hkJ
            clear HR HG hk hkl
            have HPm : Hid (∀ y, y ∈ BG.less J E ↔ (y ∈ ls ∨ y ∈ os) ∧ y ∉ E) := Lib.hid (fun y => by rw [BG.mem_less, HJm.out])
            have hPl : (BG.less J E).length ≤ 200 := by have := BG.less_len J E; omega
            go_wp2_with fail
            refine (HO.out.less (by omega) (by omega) HB.out.size).mono ?_
            rintro e w8 ⟨rfl, h8, b8⟩
            have H8 := Lib.hid h8
            have B8 := Lib.hid (HB.out.trans b8)
            clear h8 b8 HO HB
            generalize BG.less J E = P at H8 HPm hPl
            clear HJm hJl
            go_wp2
            go_loopg [94] N (fun g i wr => ∃ k : Nat, k ≤ N ∧ Hid (N - k ≤ g) ∧ i = .int .i64 k ∧ Hid (O2 w.heap.size wr a b rw' vw P E E) ∧ Hid (Below w.heap.size w wr))
            case atStart => exact ⟨0, Nat.zero_le _, Lib.hid (Nat.le_refl _), rfl, H8, B8⟩
            case round =>
              clear H8 B8
              obtain ⟨k, hk, HG, rfl, HO, HB⟩ := hrel
              by_cases hkl : k < N
              · obtain ⟨bo, off, hjx, rfl, _, hc0⟩ := (HZ.out.below HB.out).at_ hkl
                have hh := HO.out.fst.has (by omega) os[k]
                have hnot : os[k] ∉ P := fun h => ((HPm.out _).1 h).2 ((HEm.out _).2 (List.getElem_mem hjx))
                rw [show decide (os[k] ∈ P) = false by simp [hnot]] at hh
                have HH := Lib.hid hh
                clear hh hnot
                generalize os[k] = x at hc0 HH
                go_wp2_with fail
                refine HH.out.mono ?_
                rintro e w9 ⟨rfl, q, rfl⟩
                go_wp2
                go_roundg (N - (k + 1))
                case measure => have := HG.out; omega
                case rel => exact ⟨k + 1, by omega, Lib.hid (Nat.le_refl _), by go_num, Lib.hid (HO.out.drewN _), Lib.hid (Below.drewN HB.out _)⟩
              · have hkN : N = k := by omega
                subst hkN
                clear HG hk hkl
                go_wp2
                go_loopg [104] M (fun g i wr => ∃ k : Nat, k ≤ M ∧ Hid (M - k ≤ g) ∧ i = .int .i64 k ∧ Hid (O2 w.heap.size wr a b rw' vw P E E) ∧ Hid (Below w.heap.size w wr))
                case atStart => exact ⟨0, Nat.zero_le _, Lib.hid (Nat.le_refl _), rfl, HO, HB⟩
                case round =>
                  clear HO HB
                  obtain ⟨k, hk, HG, rfl, HO, HB⟩ := hrel
                  by_cases hkl : k < M
                  · obtain ⟨bo, off, hjx, rfl, _, hc0⟩ := (HX.out.below HB.out).at_ hkl
                    have hh := HO.out.fst.has (by omega) ls[k]
                    have hh2 : Hid (∀ q, Calls Try.prog 15 #[.pointer (some ⟨b, 0, none⟩), .int .i64 ls[k]] (World.drewN _ q) fun e w' => e = .returned (.bool (decide (ls[k] ∈ E))) ∧ ∃ q', w' = (World.drewN _ q).drewN q') := Lib.hid (fun q => (HO.out.drewN q).snd.has (by omega) ls[k])
                    have hiff : decide (ls[k] ∈ P) = !decide (ls[k] ∈ E) := by
                      have := HPm.out ls[k]
                      have hin := List.getElem_mem hjx
                      by_cases hE : ls[k] ∈ E <;> simp [this, hE, hin]
                    rw [hiff] at hh
                    have HH := Lib.hid hh
                    clear hh hiff
                    generalize decide (ls[k] ∈ E) = dd at HH hh2
                    generalize ls[k] = x at hc0 HH hh2
                    go_wp2_with fail
                    refine HH.out.mono ?_
                    rintro e w9 ⟨rfl, q, rfl⟩
                    go_wp2_with fail
                    refine (hh2.out q).mono ?_
                    rintro e w9 ⟨rfl, q2, rfl⟩
                    cases dd
                    · go_wp2
                      go_roundg (M - (k + 1))
                      case measure => have := HG.out; omega
                      case rel => exact ⟨k + 1, by omega, Lib.hid (Nat.le_refl _), by go_num, Lib.hid (HO.out.drewN _), Lib.hid (Below.drewN HB.out _)⟩
                    · go_wp2
                      go_roundg (M - (k + 1))
                      case measure => have := HG.out; omega
                      case rel => exact ⟨k + 1, by omega, Lib.hid (Nat.le_refl _), by go_num, Lib.hid (HO.out.drewN _), Lib.hid (Below.drewN HB.out _)⟩
                  · have hkM : M = k := by omega
                    subst hkM
                    clear HG hk hkl
                    go_wp2_with fail
                    refine (HO.out.snd.all (by omega)).mono ?_
                    rintro e w9 ⟨v9, rfl, h9, b9⟩
                    obtain ⟨r9, hr9, _⟩ := row_of h9
                    have R9 := Lib.hid hr9
                    have H9 := Lib.hid (HO.out.below b9)
                    have B9 := Lib.hid (HB.out.trans (b9.mono HB.out.size))
                    clear h9 b9 hr9 HO HB
                    go_wp2_with fail
                    refine (sameI_any r9 rw' v9 vw E w9 (by omega) R9.out H9.out.row).mono ?_
                    rintro e w10 ⟨rfl, q, rfl⟩
                    have H10 := Lib.hid (H9.out.drewN q)
                    have B10 := Lib.hid (Below.drewN B9.out q)
                    clear H9 B9 R9
                    generalize w9.drewN q = w10 at *
                    go_wp2_with fail
                    refine (H10.out.symm.joinS (by omega) B10.out.size).mono ?_
                    rintro e w11 ⟨rfl, h11, b11⟩
                    have H11 := Lib.hid h11
                    have B11 := Lib.hid (B10.out.trans b11)
                    clear h11 b11 H10 B10
                    go_wp2_with fail
                    refine (H11.out.fst.all (by omega)).mono ?_
                    rintro e w12 ⟨v9, rfl, h9, b9⟩
                    obtain ⟨r9, hr9, _⟩ := row_of h9
                    have R9 := Lib.hid hr9
                    have H9 := Lib.hid (H11.out.below b9)
                    have B9 := Lib.hid (B11.out.trans (b9.mono B11.out.size))
                    clear h9 b9 hr9 H11 B11
                    go_wp2_with fail
                    refine (sameI_any r9 rw' v9 vw E w12 (by omega) R9.out H9.out.row).mono ?_
                    rintro e w10 ⟨rfl, q, rfl⟩
                    have H10 := Lib.hid (H9.out.drewN q)
                    have B10 := Lib.hid (Below.drewN B9.out q)
                    clear H9 B9 R9
                    generalize w12.drewN q = w13 at *
                    go_wp2_with fail
                    refine (H10.out.lessS (by omega) B10.out.size).mono ?_
                    rintro e w14 ⟨rfl, h11, b11⟩
                    have H11 := Lib.hid h11
                    have B11 := Lib.hid (B10.out.trans b11)
                    clear h11 b11 H10 B10
                    go_wp2_with fail
                    refine H11.out.fst.len.mono ?_
                    rintro e w15 ⟨rfl, rfl⟩
                    go_wp2_with fail
                    refine (H11.out.fst.all (by decide)).mono ?_
                    rintro e w15 ⟨v9, rfl, h9, b9⟩
                    obtain ⟨A9, c9, rfl⟩ := own_slice h9
                    have B12 := Lib.hid (B11.out.trans (b9.mono B11.out.size))
                    clear h9 b9
                    go_wp2
                    go_ret
                    exact ⟨rfl, B12.out⟩
end Go.Proofs.Ytfmcgejoobbiiaa
