/- Contracts of the document's bag: a list without order. -/
import Derived.Test.YtfmcgejoobbiiaaBgJoins
namespace Go.Proofs.Ytfmcgejoobbiiaa
open Go.RowKit Go.Lib Go.Sort

/-- The document's bag: its box b, its row. -/
structure RBag (w : World) (b r : Nat) (l : List Int) : Prop where
  box : ∃ v, Whole w b 36 #[v] ∧ IRow w r v l
  lt : r < w.heap.size
section
variable {w w' : World} {b r : Nat} {l : List Int} {S : List Nat}
theorem RBag.blt (h : RBag w b r l) : b < w.heap.size := by obtain ⟨v, h1, _⟩ := h.box; exact h1.lt
theorem RBag.aft (h : RBag w b r l) (k : Aft S w w') (hb : b ∉ S) (hr : r ∉ S) : RBag w' b r l := by
  obtain ⟨v, h1, h2⟩ := h.box
  exact ⟨⟨v, k.whole h1 hb, h2.aft k hr⟩, Nat.lt_of_lt_of_le h.lt k.size⟩
theorem RBag.below (h : RBag w b r l) (k : Below w.heap.size w w') : RBag w' b r l := h.aft (Aft.of_below (S := []) k) (by simp) (by simp)
theorem RBag.store {u v : Value} (hw : Whole w b 36 #[u]) (hr : IRow w r v l) (hlt : r < w.heap.size) : RBag (w.setCell ⟨b, 0, none⟩ v) b r l := by
  refine ⟨⟨v, ?_, ?_⟩, by simpa [World.setCell] using hlt⟩
  · have := hw.set 0 v
    simpa using this
  · rcases hr.form with ⟨rfl, rfl⟩ | ⟨cap, cur, rfl, hh, hn, hm, hs, hc⟩
    · exact Row.nil _ _ _ _
    · exact hr.far (not_same (by decide) hw hh).symm _
end
/-- What a call that writes the document's bag leaves. -/
def RPost (b r : Nat) (v : Value) (l : List Int) (w : World) (e : Ending) (w' : World) : Prop :=
  e = .returned v ∧ ∃ r', RBag w' b r' l ∧ (r' = r ∨ w.heap.size ≤ r') ∧ Aft [b, r] w w'

set_option maxRecDepth 10000 in
theorem wpList_append_one (w : World) {ops : Array Oper} {rest : List Oper} {o : Oper} {a : Act} {Q : Exit → Act → World → Prop} (hgd : o.guard = none) (s x : Operand)
    (ho : o.op = .call { callee := .builtin .append, args := #[s, x], argTypes := #[22, 22] })
    (base : Nat) (v : Value) (n : Nat) (xs : List Int) (hs : a.eval s = v) (hown : w.ownsRow base 3 1 v n (xs.map (Value.int .i64)))
    (g : Nat) (y : Int) (hx : a.eval x = .slice (some ⟨g, 0, none⟩) 1 1) (hr : Whole w g 3 #[.int .i64 y])
    (h63 : n + 1 ≤ 3000000) (hbase : base ≤ w.heap.size)
    (h : ∀ v' w', w'.ownsRow base 3 1 v' (n + 1) ((xs ++ [y]).map (Value.int .i64)) → w.grownBy w' v.ownBlock → (v'.ownBlock = v.ownBlock ∨ v'.ownBlock = some w.heap.size) → wpList Try.prog ops Q rest (a.put o.dst v') w') : wpList Try.prog ops Q (o :: rest) a w := by
  obtain ⟨i0, hi0, hz0, hz1, hz2⟩ := infoInt_parts
  refine wpList_append_own_at w hgd s x 22 ho base 3 i0 _ 1 8 Try.underlying22 hi0 hz0 hz1 hz2 rfl (by decide) v n (xs.map (Value.int .i64)) hs hown ⟨g, 0, none⟩ 1 1 [.int .i64 y] hx rfl ?_ (by intro u hu; simp at hu; subst hu; rfl) (by unfold maxLen; omega) (by omega) hbase ?_
  · intro j u hu
    have hj : j = 0 := by
      have := (List.getElem?_eq_some_iff.1 hu).1
      simpa using this
    subst hj
    rw [Addr.add_lit, Nat.zero_add, hr.cell]
    simpa using hu
  · intro v' w' h1 h2 _ h4
    exact h v' w' (by rw [List.map_append]; exact h1) h2 h4

set_option maxHeartbeats 1000000 in
theorem rhas_any {w : World} {b r : Nat} {l : List Int} (h : RBag w b r l) (hl : l.length ≤ 1000000) (x : Int) : Calls Try.prog 25 #[.pointer (some ⟨b, 0, none⟩), .int .i64 x] w fun e w' => e = .returned (.bool (decide (x ∈ l))) ∧ w = w' := by
  obtain ⟨v, h1, h2⟩ := h.box
  have c0 : w.cell? ⟨b, 0, none⟩ = some v := by rw [h1.cell]; rfl
  obtain ⟨A, c, rfl, _⟩ := h2.slice
  have H2 := Lib.hid h2
  clear h1 h2 h
  go_enter Try.func25, Try.ntmps25
  go_wp2
  go_loopg [5] l.length (fun g i wr => ∃ k : Nat, k ≤ l.length ∧ Hid (l.length - k ≤ g) ∧ i = .int .i64 k ∧ Hid (x ∉ l.take k) ∧ w = wr)
  case atStart => exact ⟨0, Nat.zero_le _, Lib.hid (Nat.le_refl _), rfl, Lib.hid (by simp), rfl⟩
  case round =>
    obtain ⟨k, hk, HG, rfl, HN, rfl⟩ := hrel
    by_cases hkl : k < l.length
    · obtain ⟨cap, e0, _, hc⟩ := H2.out.cell hkl
      injection e0 with e1 _ e2
      subst e1 e2
      have HT := Lib.hid (take_snoc_at hkl)
      have HM := Lib.hid (List.getElem_mem hkl)
      generalize l[k] = y at hc HT HM
      by_cases hyx : y = x
      · subst hyx
        go_wp2
        go_ret
        exact ⟨ret_bool (by simp [HM.out]), rfl⟩
      · have N2 : Hid (x ∉ l.take (k + 1)) := Lib.hid (by
          rw [HT.out, List.mem_append, List.mem_singleton]
          exact fun h => h.elim HN.out (fun e => hyx e.symm))
        have d4 : (y == x) = false := by rw [beq_eq_false_iff_ne]; exact hyx
        clear hyx
        go_wp2
        go_roundg (l.length - (k + 1))
        case measure => have := HG.out; omega
        case rel => exact ⟨k + 1, by omega, Lib.hid (Nat.le_refl _), by go_num, N2, rfl⟩
    · go_wp2
      go_ret
      have hN := HN.out
      rw [List.take_of_length_le (by omega)] at hN
      exact ⟨ret_bool (by simp [hN]), rfl⟩

namespace BG
/-- What the document's Put leaves. -/
def rput (x : Int) (l : List Int) : List Int := if x ∈ l then l else l ++ [x]
theorem mem_rput {x y : Int} {l : List Int} : y ∈ rput x l ↔ y ∈ l ∨ y = x := by
  unfold rput
  by_cases h : x ∈ l
  · rw [if_pos h]
    exact ⟨Or.inl, fun hh => hh.elim id (fun e => e ▸ h)⟩
  · rw [if_neg h]; simp
theorem rput_len (x : Int) (l : List Int) : (rput x l).length ≤ l.length + 1 := by unfold rput; split <;> simp
theorem rput_nodup {x : Int} {l : List Int} (h : l.Nodup) : (rput x l).Nodup := by
  unfold rput
  split
  · exact h
  · rename_i hx
    rw [List.nodup_append]
    refine ⟨h, by simp, fun a ha b hb => ?_⟩
    have : b = x := by simpa using hb
    intro e
    subst e this
    exact hx ha
theorem norm_rput (x : Int) (l : List Int) : norm (rput x l) = put x (norm l) := by
  unfold put
  exact norm_eq fun y => by rw [mem_rput, List.mem_cons, mem_norm]; exact or_comm
theorem norm_del (x : Int) (l : List Int) : norm (del x l) = del x (norm l) := ext _ _ (norm_rises _) (del_rises (norm_rises l)) fun y => by rw [mem_norm, mem_del, mem_del, mem_norm]
theorem norm_length : ∀ {l : List Int}, l.Nodup → (norm l).length = l.length
  | [], _ => by rw [norm_nil]
  | x :: l, h => by
    have h' := List.nodup_cons.1 h
    have e : norm (x :: l) = put x (norm l) := by unfold put; exact norm_eq fun y => by simp [mem_norm]
    rw [e, put_out (norm_rises l) (by rw [mem_norm]; exact h'.1), List.length_append, List.length_cons, List.length_take, List.length_drop, norm_length h'.2, List.length_cons]
    have := pos_le (norm l) x
    rw [norm_length h'.2] at this
    omega
end BG

set_option maxRecDepth 10000 in
set_option maxHeartbeats 1000000 in
theorem rput_any {w : World} {b r : Nat} {l : List Int} (h : RBag w b r l) (hl : l.length ≤ 1000000) (x : Int) :
    Calls Try.prog 20 #[.pointer (some ⟨b, 0, none⟩), .int .i64 x] w (RPost b r (.bool (decide (x ∉ l))) (BG.rput x l) w) := by
  obtain ⟨i0, hi0, hz0, hz1, hz2⟩ := infoInt_parts
  have HH := Lib.hid (rhas_any h hl x)
  have HR := Lib.hid h
  obtain ⟨v, h1, h2⟩ := h.box
  have hb := h1.lt
  have hlt := h.lt
  have c0 : w.cell? ⟨b, 0, none⟩ = some v := by rw [h1.cell]; rfl
  have H1 := Lib.hid h1
  have H2 := Lib.hid h2
  clear h1 h2 h
  by_cases hx : x ∈ l
  · have d1 : decide (x ∈ l) = true := by simp [hx]
    have d2 : decide (x ∉ l) = false := by simp [hx]
    have e1 : BG.rput x l = l := by unfold BG.rput; rw [if_pos hx]
    rw [d1] at HH
    rw [d2, e1]
    clear d1 d2 e1 hx
    go_enter Try.func20, Try.ntmps20
    go_wp2_with fail
    refine HH.out.mono ?_
    rintro e w1 ⟨rfl, rfl⟩
    go_wp2
    go_ret
    exact ⟨rfl, r, HR.out, .inl rfl, Aft.refl _ _⟩
  · have d1 : decide (x ∈ l) = false := by simp [hx]
    have d2 : decide (x ∉ l) = true := by simp [hx]
    have e1 : BG.rput x l = l ++ [x] := by unfold BG.rput; rw [if_neg hx]
    rw [d1] at HH
    rw [d2, e1]
    clear d1 d2 e1 hx
    obtain ⟨A, c, rfl, _⟩ := H2.out.slice
    go_enter Try.func20, Try.ntmps20
    go_wp2_with fail
    refine HH.out.mono ?_
    rintro e w1 ⟨rfl, rfl⟩
    go_wp2_with (first
      | (at_builtin
         refine wpList_append_one _ rfl _ _ rfl 0 _ l.length l rfl (H2.out.alloc _).own w.heap.size x rfl (Whole.fresh w _ _) (by omega) (Nat.zero_le _) ?_
         intro v2 w3 ho2 hg2 hat2
         have HAT := Lib.hid hat2
         have hA : Aft [r] (w.alloc (.cells #[.int .i64 x] 3)) w3 := Aft.of_grown hg2 (fun k hk => by have := (H2.out.at_ k hk); simp [this])
         have hbr : ∀ j, (Value.slice A l.length c).ownBlock = some j → b ≠ j := fun j hj => by
           have e := H2.out.at_ j hj
           rcases H2.out.form with ⟨e0, _⟩ | ⟨_, _, _, hh, _⟩
           · rw [e0] at hj; simp [Value.ownBlock] at hj
           · rw [e]; exact not_same (by decide) H1.out hh
         have hw3 : Whole w3 b 36 #[.slice A l.length c] := (hg2.block b (by simp; omega) (fun e => hbr b e.symm rfl)).trans (H1.out.alloc _)
         have c3 : w3.cell? ⟨b, 0, none⟩ = some (.slice A l.length c) := by rw [hw3.cell]; rfl
         have f3 := hw3.free 0
         obtain ⟨A2, c2, rfl⟩ := own_slice ho2
         have HO2 := Lib.hid ho2
         have HA := Lib.hid hA
         have HW3 := Lib.hid hw3
         have HG2 := Lib.hid hg2
         clear ho2 hA hbr hw3 hg2 hat2))
    go_ret
    have hs3 := HA.out.size
    simp at hs3
    have hA2 : Aft [b, r] w w3 := (((Aft.refl [b, r] w).alloc _).trans (HA.out.sub (by simp)))
    have hl2 : (l ++ [x]).length = l.length + 1 := by simp
    rcases HO2.out.2 with ⟨e, e0⟩ | ⟨g, cap, cur, e, _, hh, hrest⟩
    · simp at e0
    · injection e with e1 e2 e3
      subst e1 e3
      have hrow : IRow w3 g (.slice (some ⟨g, 0, none⟩) (l.length + 1) c2) (l ++ [x]) := Row.of_own HO2.out rfl (fun k hk => by simp [Value.ownBlock] at hk; omega)
      have hg3 := (Array.getElem?_eq_some_iff.1 hh).1
      have hgr : g = r ∨ w.heap.size ≤ g := by
        rcases HAT.out with h | h
        · exact .inl (H2.out.at_ g (h.symm.trans rfl))
        · simp [Value.ownBlock] at h
          omega
      exact ⟨rfl, g, RBag.store HW3.out hrow hg3, hgr, hA2.setCell (by simp) _ _⟩

set_option maxRecDepth 10000 in
set_option maxHeartbeats 2000000 in
theorem rdel_any {w : World} {b r : Nat} {l : List Int} (h : RBag w b r l) (hl : l.length ≤ 1000000) (x : Int) :
    Calls Try.prog 21 #[.pointer (some ⟨b, 0, none⟩), .int .i64 x] w (RPost b r (.bool (decide (x ∈ l))) (BG.del x l) w) := by
  obtain ⟨v, h1, h2⟩ := h.box
  have hb := h1.lt
  have hlt := h.lt
  obtain ⟨A, c, rfl, _⟩ := h2.slice
  have c0 : w.cell? ⟨b, 0, none⟩ = some (.slice A l.length c) := by rw [h1.cell]; rfl
  have H1 := Lib.hid h1
  have H2 := Lib.hid h2
  clear h1 h2 h
  go_enter Try.func21, Try.ntmps21
  go_wp2
  go_loopg [5, 6] l.length (fun g rv i wr => ∃ k : Nat, k ≤ l.length ∧ Hid (l.length - k ≤ g) ∧ i = .int .i64 k ∧ Hid (wr.ownsRow w.heap.size 3 1 rv (BG.del x (l.take k)).length ((BG.del x (l.take k)).map (Value.int .i64))) ∧ Hid (Below w.heap.size w wr))
  case atStart => exact ⟨0, Nat.zero_le _, Lib.hid (Nat.le_refl _), rfl, Lib.hid (World.ownsRow_nil _ _ _ _), Lib.hid (Below.refl _ _)⟩
  case round =>
    obtain ⟨k, hk, HG, rfl, HL, HB⟩ := hrel
    have hbs := HB.out.size
    have hwr : Whole wr b 36 #[.slice A l.length c] := H1.out.below HB.out hb
    have c1 : wr.cell? ⟨b, 0, none⟩ = some (.slice A l.length c) := by rw [hwr.cell]; rfl
    have f1 := hwr.free 0
    have HW := Lib.hid hwr
    clear hwr
    by_cases hkl : k < l.length
    · obtain ⟨cap, e0, _, hcw⟩ := H2.out.cell hkl
      injection e0 with e1 _ e2
      subst e1 e2
      have hc := (HB.out.cell (p := ⟨r, k, none⟩) hlt).trans hcw
      have HT := Lib.hid (take_snoc_at hkl)
      have hll : (BG.del x (l.take k)).length ≤ 1000000 := by have := BG.del_len x (l.take k); rw [List.length_take] at this; omega
      clear hcw
      generalize l[k] = y at hc HT
      by_cases hyx : y = x
      · subst hyx
        have E : Hid (BG.del y (l.take (k + 1)) = BG.del y (l.take k)) := Lib.hid (by rw [HT.out]; simp [BG.del])
        go_wp2
        go_roundg (l.length - (k + 1))
        case measure => have := HG.out; omega
        case rel => exact ⟨k + 1, by omega, Lib.hid (Nat.le_refl _), by go_num, Lib.hid (by rw [E.out]; exact HL.out), HB⟩
      · have E : Hid (BG.del x (l.take (k + 1)) = BG.del x (l.take k) ++ [y]) := Lib.hid (by rw [HT.out]; simp [BG.del, hyx])
        have d4 : (y == x) = false := by rw [beq_eq_false_iff_ne]; exact hyx
        clear hyx
        go_wp2_with (first
          | (at_builtin
             refine wpList_append_one _ rfl _ _ rfl w.heap.size _ _ (BG.del x (l.take k)) rfl (HL.out.alloc _) wr.heap.size y rfl (Whole.fresh wr _ _) (by omega) (by simp; omega) ?_
             intro v2 w3 ho2 hg2 _
             have HO2 := Lib.hid ho2
             have HB2 := Lib.hid ((HB.out.alloc hbs _).grown hg2 (by simp; omega) (fun k hk => (HL.out.lt k hk).1))
             clear ho2 hg2))
        go_roundg (l.length - (k + 1))
        case measure => have := HG.out; omega
        case rel => exact ⟨k + 1, by omega, Lib.hid (Nat.le_refl _), by go_num, Lib.hid (by rw [E.out, List.length_append]; exact HO2.out), HB2⟩
    · have hown := HL.out
      rw [List.take_of_length_le (by omega)] at hown
      obtain ⟨A2, c2, rfl⟩ := own_slice hown
      have HO := Lib.hid hown
      have D : Hid (decide ((BG.del x l).length < l.length) = decide (x ∈ l)) := Lib.hid (by
        by_cases hx : x ∈ l
        · have : (BG.del x l).length < l.length := by
            unfold BG.del
            rcases Nat.lt_or_ge (l.filter fun y => decide (y ≠ x)).length l.length with h | h
            · exact h
            · have e := List.length_filter_eq_length_iff.1 (Nat.le_antisymm (List.length_filter_le _ _) h) x hx
              simp at e
          simp [hx, this]
        · rw [BG.del_out hx]
          simp [hx])
      generalize hm : BG.del x l = m at hown HO D
      have HM := Lib.hid hm
      clear hm hown HL HG
      go_wp2
      go_ret
      refine ⟨ret_bool D.out, ?_⟩
      have hA : Aft [b, r] w wr := Aft.of_below HB.out
      have hm2 := HM.out
      by_cases hgrow : w.heap.size < wr.heap.size
      · obtain ⟨r', hr', h3, h4⟩ := row_of_own HO.out hgrow
        exact ⟨r', by rw [hm2]; exact RBag.store HW.out hr' h4, .inr h3, hA.setCell (by simp) _ _⟩
      · rcases HO.out.2 with ⟨e, e0⟩ | ⟨g, cap, cur, e, hg, hh, _⟩
        · have hrow : IRow wr r (.slice A2 m.length c2) m := Row.of_own HO.out rfl (fun k hk => by rw [e] at hk; simp [Value.ownBlock] at hk)
          exact ⟨r, by rw [hm2]; exact RBag.store HW.out hrow (Nat.lt_of_lt_of_le hlt hbs), .inl rfl, hA.setCell (by simp) _ _⟩
        · have := (Array.getElem?_eq_some_iff.1 hh).1
          omega
end Go.Proofs.Ytfmcgejoobbiiaa
