/- Words for slices of tokens that read as lists; an append of such a slice to a row of the call's own. -/
import Derived.Test.YtlmiiapmanklpaaDoorTkRow
import Derived.Test.YtlmiiapmanklpaaDoorSl
import Derived.Laws.AppendOwnNone
import Derived.Maps.AppendAt
import Derived.Deep.AppendLies
namespace Go.Proofs.YtlmiiapmanklpaaDoor
open Go.RowKit

/-- A slice of tokens that reads as the list l, its memory below block B. -/
structure TS (w : World) (B : Nat) (A : Option Addr) (n c : Nat) (l : List (Int × Int)) : Prop where
  fs : FS w B A n l
  nil : A = none → c = 0
  le : n ≤ c
theorem TS.below {w w' : World} {B n c : Nat} {A : Option Addr} {l : List (Int × Int)} (h : TS w B A n c l) (hb : Below B w w') : TS w' B A n c l := ⟨h.fs.below hb, h.nil, h.le⟩
theorem TS.on {w w' : World} {n c : Nat} {A : Option Addr} {l : List (Int × Int)} (h : TS w w.heap.size A n c l) (hb : Below w.heap.size w w') : TS w' w'.heap.size A n c l := ⟨(h.fs.below hb).more hb.size, h.nil, h.le⟩
theorem TS.take {w : World} {B n m c : Nat} {A : Option Addr} {l : List (Int × Int)} (h : TS w B A n c l) (hm : m ≤ n) : TS w B A m c (l.take m) := ⟨h.fs.take hm, h.nil, by have := h.le; omega⟩
theorem TS.len {w : World} {B n c : Nat} {A : Option Addr} {l : List (Int × Int)} (h : TS w B A n c l) : l.length = n := h.fs.1

theorem infoTok : (Tryd.prog.info? 23).map (fun i => (i.zero, i.size, i.bytes)) = some (some (.agg #[.int .i64 0, .int .i64 0]), 2, 16) := by kernel_rfl
theorem infoTok_parts : ∃ i, Tryd.prog.info? 23 = some i ∧ i.zero = some (.agg #[.int .i64 0, .int .i64 0]) ∧ i.size = 2 ∧ i.bytes = 16 := by
  have h := infoTok
  cases hh : Tryd.prog.info? 23 with
  | none => rw [hh] at h; cases h
  | some i =>
    rw [hh] at h
    simp at h
    exact ⟨i, rfl, h.1, h.2.1, h.2.2⟩

theorem flatT_app (xs ys : List (Int × Int)) : flatT (xs ++ ys) = flatT xs ++ flatT ys := by simp [flatT]
theorem flatT_at {l : List (Int × Int)} {j : Nat} {u : Value} (h : (flatT l)[j]? = some u) : ∃ x, l[j / 2]? = some x ∧ u = if j % 2 = 0 then .int .i64 x.1 else .int .i64 x.2 := by
  have hj : j < l.length * 2 := by
    have := (List.getElem?_eq_some_iff.1 h).1
    rwa [flatT_len] at this
  have hl : j / 2 < l.length := by omega
  have hg := flatT_get l (j / 2) l[j / 2] (List.getElem?_eq_getElem hl)
  refine ⟨l[j / 2], List.getElem?_eq_getElem hl, ?_⟩
  rcases Nat.mod_two_eq_zero_or_one j with e | e
  · have ej : j = j / 2 * 2 := by omega
    rw [if_pos e]
    rw [ej, hg.1] at h
    injection h with h
    exact h.symm
  · have ej : j = j / 2 * 2 + 1 := by omega
    rw [if_neg (by omega)]
    rw [ej, hg.2] at h
    injection h with h
    exact h.symm

set_option maxRecDepth 10000 in
theorem wpList_append_ts (w : World) {ops : Array Oper} {rest : List Oper} {o : Oper} {a : Act} {Q : Exit → Act → World → Prop} (hgd : o.guard = none) (s x : Operand)
    (ho : o.op = .call { callee := .builtin .append, args := #[s, x], argTypes := #[37, 37] })
    (base : Nat) (v : Value) (n : Nat) (xs : List (Int × Int)) (hs : a.eval s = v) (hown : w.ownsRow base 23 2 v n (flatT xs))
    (B : Nat) (A : Option Addr) (m c : Nat) (ys : List (Int × Int)) (hx : a.eval x = .slice A m c) (hr : TS w B A m c ys)
    (h63 : n + m ≤ 1000000) (hbase : base ≤ w.heap.size)
    (h : ∀ v' w', w'.ownsRow base 23 2 v' (n + m) (flatT (xs ++ ys)) → w.grownBy w' v.ownBlock → wpList Tryd.prog ops Q rest (a.put o.dst v') w') : wpList Tryd.prog ops Q (o :: rest) a w := by
  obtain ⟨i0, hi0, hz0, hz1, hz2⟩ := infoTok_parts
  rcases A with _ | ad
  · obtain rfl := hr.nil rfl
    have hm : m = 0 := by have := hr.le; omega
    subst hm
    have hy : ys = [] := List.eq_nil_of_length_eq_zero hr.len
    subst hy
    refine wpList_append_own_none hgd s x 37 ho base 23 i0 2 Tryd.underlying37 hi0 v n (flatT xs) hs hown hx ?_
    exact h v w (by simpa using hown) (World.grownBy.refl w _)
  · refine wpList_append_own_at w hgd s x 37 ho base 23 i0 _ 2 16 Tryd.underlying37 hi0 hz0 hz1 hz2 rfl (by decide) v n (flatT xs) hs hown ad m c (flatT ys) hx (by rw [flatT_len, hr.len]) ?_ (flatT_one ys) (by unfold maxLen; omega) (by omega) hbase ?_
    · intro j u hu
      obtain ⟨y, hy, rfl⟩ := flatT_at hu
      have hj : j / 2 < m := by have := (List.getElem?_eq_some_iff.1 hy).1; have := hr.len; omega
      obtain ⟨b, off, e, hlt, hc⟩ := hr.fs.2 (by omega)
      injection e with e
      subst e
      obtain ⟨c0, c1⟩ := hc (j / 2) y hy
      have ead : (⟨b, off, none⟩ : Addr).add j = ⟨b, off + j, none⟩ := by
        unfold Addr.add
        by_cases h0 : j = 0
        · subst h0; simp
        · simp [h0]
      rw [ead]
      rcases Nat.mod_two_eq_zero_or_one j with e | e
      · rw [if_pos e, show off + j = off + j / 2 * 2 by omega]; exact c0
      · rw [if_neg (by omega), show off + j = off + j / 2 * 2 + 1 by omega]; exact c1
    · intro v' w' h1 h2 _ _
      refine h v' w' ?_ h2
      rw [flatT_app]
      exact h1

/-- A row of the call's own reads as its list. -/
theorem own_ts {w : World} {base n : Nat} {v : Value} {l : List (Int × Int)} (h : w.ownsRow base 23 2 v n (flatT l)) : ∃ A c, v = .slice A n c ∧ l.length = n ∧ TS w w.heap.size A n c l ∧ (0 < n → ∃ g, A = some ⟨g, 0, none⟩ ∧ base ≤ g ∧ g < w.heap.size ∧ Go.Proofs.YtlmiiapmanklpaaDoor.RA w g l.toArray) := by
  have hl : l.length = n := by have := h.1; rw [flatT_len] at this; omega
  subst hl
  have h' := h
  rcases h.2 with ⟨rfl, h0⟩ | ⟨g, cap, cur, rfl, hg, hh, hn, hm, hs, ht⟩
  · exact ⟨none, 0, by rw [h0], rfl, ⟨⟨rfl, fun h => absurd h (by omega)⟩, fun _ => rfl, by omega⟩, fun h => absurd h (by omega)⟩
  · obtain ⟨hR, hB, hlt⟩ := RA.of_own h'
    refine ⟨_, cap, rfl, rfl, ⟨⟨rfl, fun _ => ⟨g, 0, rfl, hlt, fun i f hi => ?_⟩⟩, (fun e => by cases e), hn⟩, fun _ => ⟨g, rfl, hB, hlt, hR⟩⟩
    have hi' : i < l.length := (List.getElem?_eq_some_iff.1 hi).1
    obtain ⟨c0, c1, _, _⟩ := hR i (by simpa using hi')
    have hd : l.toArray[i]! = f := by
      rw [TM.get_arr l i hi']
      rw [List.getElem?_eq_getElem hi'] at hi
      injection hi
    rw [hd] at c0 c1
    simp only [Nat.zero_add]
    exact ⟨c0, c1⟩
theorem RA.ts {w : World} {g n c : Nat} {l : List (Int × Int)} (h : RA w g l.toArray) (hl : l.length = n) (hg : g < w.heap.size) (hc : n ≤ c) : TS w w.heap.size (some ⟨g, 0, none⟩) n c l := by
  refine ⟨⟨hl, fun _ => ⟨g, 0, rfl, hg, fun i f hi => ?_⟩⟩, (fun e => by cases e), hc⟩
  have hi' : i < l.length := (List.getElem?_eq_some_iff.1 hi).1
  obtain ⟨c0, c1, _, _⟩ := h i (by simpa using hi')
  have hd : l.toArray[i]! = f := by
    rw [TM.get_arr l i hi']
    rw [List.getElem?_eq_getElem hi'] at hi
    injection hi
  rw [hd] at c0 c1
  simp only [Nat.zero_add]
  exact ⟨c0, c1⟩
end Go.Proofs.YtlmiiapmanklpaaDoor
