/- Texts of three digits that stand for numbers; contracts of the library's functions over a bag's row of such texts. -/
import Derived.Test.YtfmcgejoobbiiaaBgRises
import Derived.Laws.IdiomStrings
import Derived.Sort.EncStr
namespace Go.Proofs.Ytfmcgejoobbiiaa
open Go.RowKit Go.Lib Go.Sort

/-- The last k digits. -/
def digs (n : Nat) : Nat → List UInt8
  | 0 => []
  | k + 1 => UInt8.ofNat (48 + (n / 10 ^ k) % 10) :: digs n k
/-- The text of 100 and a number. -/
def txtL (y : Int) : List UInt8 := digs (100 + y.toNat) 3
def T3 (y : Int) : ByteArray := ⟨(txtL y).toArray⟩
def encS (y : Int) : Value := .string (T3 y)
/-- A number that has a text. -/
def Sm (y : Int) : Prop := 0 ≤ y ∧ y < 128
theorem less_fin : ∀ a b : Fin 128, Op.bytesLess (digs (100 + a.val) 3) (digs (100 + b.val) 3) = decide (a.val < b.val) := by decide +kernel
theorem T3_list (y : Int) : (T3 y).toList = txtL y := by
  unfold T3
  rw [Lib.toList_data]
theorem T3_less {x y : Int} (hx : Sm x) (hy : Sm y) : Op.bytesLess (T3 x).toList (T3 y).toList = decide (x < y) := by
  obtain ⟨a1, a2⟩ := hx
  obtain ⟨b1, b2⟩ := hy
  rw [T3_list, T3_list]
  have := less_fin ⟨x.toNat, by omega⟩ ⟨y.toNat, by omega⟩
  unfold txtL
  rw [this]
  by_cases h : x < y
  · simp [h]; omega
  · simp [h]; omega
theorem less_irr : ∀ l : List UInt8, Op.bytesLess l l = false
  | [] => rfl
  | a :: l => by simp [Op.bytesLess, less_irr l]
theorem T3_inj {x y : Int} (hx : Sm x) (hy : Sm y) (e : T3 x = T3 y) : x = y := by
  have h1 := T3_less hx hy
  have h2 := T3_less hy hx
  rw [e, less_irr] at h1
  rw [e, less_irr] at h2
  have h3 := h1.symm
  have h4 := h2.symm
  rw [decide_eq_false_iff_not] at h3 h4
  omega
theorem map_encS (l : List Int) : (l.map txtL).map encStr = l.map encS := by
  rw [List.map_map]
  rfl

theorem searchS_any (r : Nat) (v : Value) (l : List Int) (x : Int) (w : World) (h : Row 9 encS w r v l) (hu : BG.Rises l) (hl : l.length ≤ 1000000) (hs : ∀ y ∈ l, Sm y) (hx : Sm x) :
    Calls Try.prog 43 #[v, .string (T3 x)] w fun e w' => e = .returned (.tuple #[.int .i64 (BG.pos l x : Nat), .bool (decide (x ∈ l))]) ∧ ∃ q, w' = w.drewN q := by
  rcases h.form with ⟨rfl, rfl⟩ | ⟨cap, cur, rfl, hh, hn, hm, hsz, hc⟩
  · refine Calls.mono (Any2.slices_BinarySearch_string_empty Try.l26 none 0 (T3 x) w) ?_
    rintro e w' ⟨rfl, rfl⟩
    exact ⟨rfl, 0, rfl⟩
  · have hget : ∀ j, (hj : j < l.length) → l.getD j 127 = l[j] := fun j hj => by rw [List.getD_eq_getElem?_getD, List.getElem?_eq_getElem hj]; rfl
    have hcon := Any2.slices_BinarySearch_string Try.l26 r 0 l.length cap (fun j => T3 (l.getD j 127)) (T3 x) w (by omega) (fun j hj => by
      rw [Nat.zero_add, hh.cell, hc j hj, List.getElem?_map, List.getElem?_eq_getElem hj, hget j hj]; rfl)
    obtain ⟨p1, p2⟩ := BG.pos_parts l x hu
    have hp := BG.pos_le l x
    have hb : Lib.bsGo (fun t => Op.bytesLess (T3 (l.getD t 127)).toList (T3 x).toList) l.length 0 l.length = BG.pos l x := by
      refine Lib.bsGo_spec _ (BG.pos l x) (fun t ht => ?_) (fun t ht => ?_) l.length 0 l.length (by omega) (Nat.zero_le _) hp
      · have hj : t < l.length := by omega
        rw [hget t hj, T3_less (hs _ (List.getElem_mem hj)) hx, decide_eq_true_iff]
        refine p1 _ ?_
        rw [List.mem_iff_getElem]
        exact ⟨t, by rw [List.length_take]; omega, by rw [List.getElem_take]⟩
      · by_cases hj : t < l.length
        · rw [hget t hj, T3_less (hs _ (List.getElem_mem hj)) hx, decide_eq_false_iff_not]
          have := p2 l[t] (by
            rw [List.mem_iff_getElem]
            exact ⟨t - BG.pos l x, by rw [List.length_drop]; omega, by rw [List.getElem_drop]; congr 1; omega⟩)
          omega
        · rw [List.getD_eq_getElem?_getD, List.getElem?_eq_none (by omega)]
          show Op.bytesLess (T3 127).toList (T3 x).toList = false
          rw [T3_less ⟨by decide, by decide⟩ hx, decide_eq_false_iff_not]
          have := hx.2
          omega
    rw [hb] at hcon
    refine Calls.mono hcon ?_
    rintro e w' ⟨he, hq⟩
    refine ⟨?_, hq⟩
    rw [he]
    have hd : decide (BG.pos l x < l.length ∧ T3 (l.getD (BG.pos l x) 127) = T3 x) = decide (x ∈ l) := by
      by_cases hm2 : x ∈ l
      · obtain ⟨q1, q2⟩ := BG.pos_mem hu hm2
        rw [hget _ q1, q2]
        simp [q1, hm2]
      · have : ¬ (BG.pos l x < l.length ∧ T3 (l.getD (BG.pos l x) 127) = T3 x) := by
          rintro ⟨q1, q2⟩
          rw [hget _ q1] at q2
          have := T3_inj (hs _ (List.getElem_mem q1)) hx q2
          exact hm2 (this ▸ List.getElem_mem q1)
        rw [decide_eq_false this]
        simp [hm2]
    rw [hd]

theorem cloneS_any (A : Option Addr) (n c : Nat) (xs : List Int) (w : World) (h : Reads encS w A n xs) (hl : n ≤ 1000000) :
    Calls Try.prog 42 #[.slice A n c] w fun e w' => ∃ v', e = .returned v' ∧ w'.ownsRow w.heap.size 9 1 v' n (xs.map encS) ∧ Below w.heap.size w w' := by
  rcases Nat.eq_zero_or_pos n with h0 | hn
  · subst h0
    have hx : xs = [] := List.eq_nil_of_length_eq_zero h.1
    subst hx
    cases A with
    | none =>
      refine Calls.mono (Any.slices_Clone_string_nil Try.l16 0 c w) ?_
      rintro e w' ⟨rfl, rfl⟩
      exact ⟨_, rfl, World.ownsRow_nil _ _ _ _, Below.refl _ _⟩
    | some a =>
      refine Calls.mono (Any.slices_Clone_string_zero Try.l16 a c w) ?_
      rintro e w' ⟨v', rfl, h1, _, h2⟩
      exact ⟨_, rfl, h1, h2⟩
  · obtain ⟨b, off, rfl, hlt, hc⟩ := h.2 hn
    have e := h.1
    have hcon := Any.slices_Clone_string Try.l16 b off n c (xs.map T3) w (by simp; omega) (by omega) (fun j hj => by
      have hj' : j < xs.length := by simpa using hj
      rw [hc j hj', List.getD_eq_getElem?_getD, List.getElem?_map, List.getElem?_eq_getElem hj']; rfl)
    rw [List.take_of_length_le (by simp; omega), List.map_map] at hcon
    refine Calls.mono hcon ?_
    rintro e w' ⟨v', rfl, h1, _, h2⟩
    exact ⟨_, rfl, h1, h2⟩

theorem oneS (l : List Int) : ∀ u ∈ l.map encS, u.oneCell' = true := by
  intro u hu
  obtain ⟨x, _, rfl⟩ := List.mem_map.1 hu
  rfl

set_option maxHeartbeats 1000000 in
theorem insertS_any (r vb : Nat) (v : Value) (l : List Int) (i : Nat) (x : Int) (w : World) (h : Row 9 encS w r v l) (hl : l.length ≤ 1000000) (hi : i ≤ l.length) (hv : Whole w vb 9 #[encS x]) (hne : vb ≠ r) :
    Calls Try.prog 44 #[v, .int .i64 (i : Nat), .slice (some ⟨vb, 0, none⟩) 1 1] w (InsPost 9 encS r (insAt l i x) w) := by
  have hvs : ∀ j u, [encS x][j]? = some u → w.cell? ⟨vb, 0 + j, none⟩ = some u := by
    intro j u hj
    rw [Nat.zero_add, hv.cell]
    simpa using hj
  have h1v : ∀ u ∈ [encS x], u.oneCell' = true := by intro u hu; simp at hu; subst hu; rfl
  rcases h.form with ⟨rfl, rfl⟩ | ⟨cap, cur, rfl, hh, hn, hm, hs, hc⟩
  · obtain rfl : i = 0 := by simpa using hi
    refine Calls.mono (Any2.slices_Insert_string_end_grow Try.l22 none 0 0 vb 0 1 1 [] [encS x] w (by decide) (by decide) (by decide) (by decide) rfl rfl (fun _ => rfl) (fun a e => by cases e) hvs h1v) ?_
    rintro e w' ⟨rfl, rfl⟩
    have g1 := grownCap_ge w (0 + 1) 0 (Try.l22_ren.t 9)
    have g2 := grownCap_le_maxLen w (0 + 1) 0 (Try.l22_ren.t 9) (by decide)
    generalize grownCap w (0 + 1) 0 (Try.l22_ren.t 9) = C at g1 g2
    refine ⟨w.heap.size, _, rfl, ?_, .inr (Nat.le_refl _), (Whole.fresh w.drew _ _).lt, ((Aft.refl _ w).drew).alloc _⟩
    exact Row.put_at (l := []) (i := 0) (x := x) (Whole.fresh w.drew _ _) g2 (by simp [Builtin.zeroCells, Value.cells]; omega) (Nat.le_refl _) rfl g1 (fun j hj => by
      obtain rfl : j = 0 := by omega
      rw [Array.getElem?_append_left (by simp)]
      rfl)
  · have hcs : ∀ j u, (l.map encS)[j]? = some u → w.cell? ⟨r, 0 + j, none⟩ = some u := by
      intro j u hj
      have hjl : j < l.length := by have := (List.getElem?_eq_some_iff.1 hj).1; simpa using this
      rw [Nat.zero_add, hh.cell, hc j hjl, hj]
    have hsome : ∀ j, j < cap → (w.cell? ⟨r, 0 + j, none⟩).isSome = true := by
      intro j hj
      rw [Nat.zero_add, hh.cell]
      simp [hs, hj]
    have hm' : cap ≤ 9223372036854775807 := by unfold maxLen at hm; omega
    have hcl : (l.map encS).length = l.length := by simp
    by_cases hroom : l.length + 1 ≤ cap
    · by_cases hin : i < l.length
      · refine Calls.mono (Any2.slices_Insert_string_shift Try.l22 r 0 l.length cap i vb 0 1 1 (l.map encS) [encS x] w hin (by decide) hroom hm' hne hcl rfl hcs (fun j hj => hsome j (by omega)) (fun j _ => hh.free _) hvs (oneS l) h1v
          9 9 1 cap (by unfold Whole at hv; simp [World.shape?, hv]) (by unfold Whole at hh; simp [World.shape?, hh, hs]) (by omega) (hv.free _) (hv.free _)) ?_
        rintro e w' ⟨rfl, rfl⟩
        refine ⟨r, _, rfl, ?_, .inl rfl, ?_, (((Aft.refl _ w).drew).setCells (by simp) _ _).setCells (by simp) _ _⟩
        · have hw := ((hh.drew).setCells ((l.map encS).drop i) (0 + (i + 1))).setCells [encS x] (0 + i)
          refine Row.put_at hw hm (by rw [lay_size, lay_size, hs]) (by omega) rfl hroom (fun j hj => ?_)
          rw [lay_get? _ _ _ _ (by rw [lay_size]; simp; omega), lay_get? _ _ _ _ (by simp; omega)]
          simp only [List.length_cons, List.length_nil, List.length_drop, List.length_map]
          by_cases j1 : j < i
          · rw [if_neg (by omega), if_neg (by omega), if_pos j1, hc j (by omega)]
          · by_cases j2 : j = i
            · rw [if_pos (by omega), if_neg j1, if_pos j2, show j - (0 + i) = 0 by omega]
              rfl
            · rw [if_neg (by omega), if_pos (by omega), if_neg j1, if_neg j2, List.getElem?_drop]
              congr 1
              omega
        · have := ((((Aft.refl [r] w).drew).setCells (c := r) (by simp) (0 + (i + 1)) ((l.map encS).drop i)).setCells (c := r) (by simp) (0 + i) [encS x]).size
          exact Nat.lt_of_lt_of_le hh.lt this
      · obtain rfl : i = l.length := by omega
        refine Calls.mono (Any2.slices_Insert_string_end_room Try.l22 r 0 l.length cap vb 0 1 1 [encS x] w (by decide) hroom hm' rfl (fun j hj => by have := hsome (l.length + j) (by omega); rwa [show 0 + (l.length + j) = 0 + l.length + j by omega] at this) (fun j _ => hh.free _) hvs h1v) ?_
        rintro e w' ⟨rfl, rfl⟩
        refine ⟨r, _, rfl, ?_, .inl rfl, ?_, (Aft.refl _ w).setCells (by simp) _ _⟩
        · have hw := hh.setCells [encS x] (0 + l.length)
          refine Row.put_at hw hm (by rw [lay_size, hs]) (Nat.le_refl _) rfl hroom (fun j hj => ?_)
          rw [lay_get? _ _ _ _ (by simp; omega)]
          simp only [List.length_cons, List.length_nil]
          by_cases j1 : j < l.length
          · rw [if_neg (by omega), if_pos j1, hc j j1]
          · obtain rfl : j = l.length := by omega
            rw [if_pos (by omega), if_neg j1, if_pos rfl, show l.length - (0 + l.length) = 0 by omega]
            rfl
        · have := ((Aft.refl [r] w).setCells (c := r) (by simp) (0 + l.length) [encS x]).size
          exact Nat.lt_of_lt_of_le hh.lt this
    · by_cases hin : i < l.length
      · refine Calls.mono (Any2.slices_Insert_string_grow Try.l22 r 0 l.length cap i vb 0 1 1 (l.map encS) [encS x] w hin (by decide) hn (by omega) (by omega) hcl rfl hcs hvs (oneS l) h1v) ?_
        rintro e w' ⟨rfl, rfl⟩
        have g1 := grownCap_ge w (l.length + 1) cap (Try.l22_ren.t 9)
        have g2 := grownCap_le_maxLen w (l.length + 1) cap (Try.l22_ren.t 9) (by unfold maxLen; omega)
        generalize grownCap w (l.length + 1) cap (Try.l22_ren.t 9) = C at g1 g2
        have hw := (((Whole.fresh w (Try.l22_ren.t 9) (((l.map encS).take i).toArray ++ Builtin.zeroCells (Value.string ⟨#[]⟩).cells (l.length + 1 - i) ++ Builtin.zeroCells (Value.string ⟨#[]⟩).cells (C - (l.length + 1)))).drew.setCells [encS x] i).drew).setCells ((l.map encS).drop i) (i + 1)
        have hsz : (((l.map encS).take i).toArray ++ Builtin.zeroCells (Value.string ⟨#[]⟩).cells (l.length + 1 - i) ++ Builtin.zeroCells (Value.string ⟨#[]⟩).cells (C - (l.length + 1))).size = C := by
          simp [Builtin.zeroCells, Value.cells]
          omega
        have ha := ((((((Aft.refl [w.heap.size, r] w).alloc (.cells (((l.map encS).take i).toArray ++ Builtin.zeroCells (Value.string ⟨#[]⟩).cells (l.length + 1 - i) ++ Builtin.zeroCells (Value.string ⟨#[]⟩).cells (C - (l.length + 1))) (Try.l22_ren.t 9))).drew).setCells (c := w.heap.size) (by simp) i [encS x]).drew).setCells (c := w.heap.size) (by simp) (i + 1) ((l.map encS).drop i)).less (Nat.le_refl _)
        refine ⟨w.heap.size, _, rfl, ?_, .inr (Nat.le_refl _), hw.lt, ha⟩
        refine Row.put_at hw g2 (by rw [lay_size, lay_size, hsz]) (by omega) rfl g1 (fun j hj => ?_)
        rw [lay_get? _ _ _ _ (by rw [lay_size, hsz]; simp; omega), lay_get? _ _ _ _ (by rw [hsz]; simp; omega)]
        simp only [List.length_cons, List.length_nil, List.length_drop, List.length_map]
        by_cases j1 : j < i
        · rw [if_neg (by omega), if_neg (by omega), if_pos j1, Array.append_assoc, Array.getElem?_append_left (by simp; omega)]
          simp [j1]
        · by_cases j2 : j = i
          · rw [if_neg (by omega), if_pos (by omega), if_neg j1, if_pos j2, show j - i = 0 by omega]
            rfl
          · rw [if_pos (by omega), if_neg j1, if_neg j2, List.getElem?_drop]
            congr 1
            omega
      · obtain rfl : i = l.length := by omega
        refine Calls.mono (Any2.slices_Insert_string_end_grow Try.l22 (some ⟨r, 0, none⟩) l.length cap vb 0 1 1 (l.map encS) [encS x] w (by decide) hn (by omega) (by omega) hcl rfl (fun e => by cases e) (fun a e j u hj => by
          injection e with e
          subst e
          rw [Addr.add_lit]
          exact hcs j u hj) hvs h1v) ?_
        rintro e w' ⟨rfl, rfl⟩
        have g1 := grownCap_ge w (l.length + 1) cap (Try.l22_ren.t 9)
        have g2 := grownCap_le_maxLen w (l.length + 1) cap (Try.l22_ren.t 9) (by unfold maxLen; omega)
        generalize grownCap w (l.length + 1) cap (Try.l22_ren.t 9) = C at g1 g2
        refine ⟨w.heap.size, _, rfl, ?_, .inr (Nat.le_refl _), (Whole.fresh w.drew _ _).lt, ((Aft.refl _ w).drew).alloc _⟩
        refine Row.put_at (Whole.fresh w.drew _ _) g2 (by simp [Builtin.zeroCells, Value.cells]; omega) (Nat.le_refl _) rfl g1 (fun j hj => ?_)
        rw [Array.getElem?_append_left (by simp; omega)]
        by_cases j1 : j < l.length
        · rw [if_pos j1]
          simp [List.getElem?_append_left, j1]
        · obtain rfl : j = l.length := by omega
          simp

theorem deleteS_any (r : Nat) (v : Value) (l : List Int) (i : Nat) (w : World) (h : Row 9 encS w r v l) (_hl : l.length ≤ 1000000) (hi : i < l.length) :
    Calls Try.prog 45 #[v, .int .i64 (i : Nat), .int .i64 ((i + 1 : Nat) : Int)] w fun e w' => ∃ v', e = .returned v' ∧ Row 9 encS w' r v' (l.take i ++ l.drop (i + 1)) ∧ Aft [r] w w' := by
  rcases h.form with ⟨rfl, rfl⟩ | ⟨cap, cur, rfl, hh, hn, hm, hs, hc⟩
  · simp at hi
  · have hH : Holds encStr w r 0 (l.map txtL).toArray := by
      intro j hj
      have hj' : j < l.length := by simpa using hj
      refine ⟨?_, hh.free _⟩
      rw [Nat.zero_add, hh.cell, hc j hj', List.getElem?_map, List.getElem?_eq_getElem hj', getElem!_pos (l.map txtL).toArray j (by simpa using hj')]
      simp [encS, T3]
    have hcon := Any.slices_Delete_string Try.l24 r 0 cap i (i + 1) (l.map txtL) w hH (by simpa using hn) (by unfold maxLen at hm; omega) (by omega) (by simp; omega)
    rw [List.length_map] at hcon
    refine Calls.mono hcon ?_
    rintro e w' ⟨rfl, q, rfl⟩
    have hk : (l.take i ++ l.drop (i + 1)).length = l.length - (i + 1 - i) := by simp; omega
    have ho0 := h.own
    rw [← map_encS] at ho0
    have ho := ownsRow_putRow (enc := encStr) (q := q) (k := l.length - (i + 1 - i)) (ys := (l.map txtL).take i ++ (l.map txtL).drop (i + 1) ++ List.replicate (i + 1 - i) []) ho0 (by simp; omega) (by omega)
    have e2 : ((l.map txtL).take i ++ (l.map txtL).drop (i + 1) ++ List.replicate (i + 1 - i) []).take (l.length - (i + 1 - i)) = (l.take i ++ l.drop (i + 1)).map txtL := by
      rw [List.map_append, List.map_take, List.map_drop]
      have hk2 : ((l.map txtL).take i ++ (l.map txtL).drop (i + 1)).length = l.length - (i + 1 - i) := by simp; omega
      rw [← hk2, List.take_left]
    rw [e2, map_encS] at ho
    refine ⟨_, rfl, Row.of_own ho rfl (fun k e => by simp [Value.ownBlock] at e; omega), ?_⟩
    exact ⟨rfl, rfl, rfl, by simp [putRow, mapBlock, Sort.ahead], fun k hk hr => by
      have : r ≠ k := by simp at hr; omega
      simp [putRow, mapBlock, Sort.ahead, Array.getElem?_modify, this]⟩
end Go.Proofs.Ytfmcgejoobbiiaa
