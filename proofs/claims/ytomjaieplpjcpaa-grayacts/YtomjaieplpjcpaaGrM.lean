/- Plain data of package graph: what is reached, in the order in which it is come to. No program in it. -/
import Derived.Test.YtomjaieplpjcpaaBgMath
namespace Go.Proofs.Ytomjaieplpjcpaa
open Go.Lib

namespace GM
/-- With a thing more, unless it is there. -/
def add (o : List Int) (x : Int) : List Int := if x ∈ o then o else o ++ [x]
def adds (o xs : List Int) : List Int := xs.foldl add o
theorem add_in {o : List Int} {x : Int} (h : x ∈ o) : add o x = o := if_pos h
theorem add_out {o : List Int} {x : Int} (h : x ∉ o) : add o x = o ++ [x] := if_neg h
theorem adds_nil (o : List Int) : adds o [] = o := rfl
theorem adds_cons (o : List Int) (x : Int) (xs : List Int) : adds o (x :: xs) = adds (add o x) xs := rfl
theorem adds_append (o xs ys : List Int) : adds o (xs ++ ys) = adds (adds o xs) ys := List.foldl_append
theorem adds_snoc (o xs : List Int) (x : Int) : adds o (xs ++ [x]) = add (adds o xs) x := by rw [adds_append]; rfl
theorem mem_add {o : List Int} {x y : Int} : y ∈ add o x ↔ y ∈ o ∨ y = x := by
  by_cases h : x ∈ o
  · rw [add_in h]
    exact ⟨.inl, fun k => k.elim id fun e => e ▸ h⟩
  · rw [add_out h, List.mem_append, List.mem_singleton]
theorem mem_adds {y : Int} : ∀ {xs o : List Int}, y ∈ adds o xs ↔ y ∈ o ∨ y ∈ xs
  | [], o => by simp [adds_nil]
  | x :: xs, o => by
    rw [adds_cons, mem_adds, mem_add, List.mem_cons, or_assoc]
theorem adds_in : ∀ {xs o : List Int}, (∀ x ∈ xs, x ∈ o) → adds o xs = o
  | [], o, _ => rfl
  | x :: xs, o, h => by
    rw [adds_cons, add_in (h x List.mem_cons_self)]
    exact adds_in fun y hy => h y (List.mem_cons_of_mem _ hy)
theorem adds_ext : ∀ (xs o : List Int), ∃ s, adds o xs = o ++ s ∧ ∀ x ∈ s, x ∈ xs
  | [], o => ⟨[], by simp [adds_nil], by simp⟩
  | x :: xs, o => by
    obtain ⟨s, hs, hm⟩ := adds_ext xs (add o x)
    by_cases h : x ∈ o
    · rw [add_in h] at hs
      exact ⟨s, by rw [adds_cons, add_in h, hs], fun y hy => List.mem_cons_of_mem _ (hm y hy)⟩
    · rw [add_out h] at hs
      refine ⟨x :: s, by rw [adds_cons, add_out h, hs]; simp, fun y hy => ?_⟩
      rcases List.mem_cons.1 hy with rfl | hy
      · exact List.mem_cons_self
      · exact List.mem_cons_of_mem _ (hm y hy)
theorem add_nodup {o : List Int} (h : o.Nodup) (x : Int) : (add o x).Nodup := by
  by_cases hx : x ∈ o
  · rw [add_in hx]; exact h
  · rw [add_out hx, List.nodup_append]
    exact ⟨h, by simp, fun a ha b hb => by rw [List.mem_singleton] at hb; subst hb; exact fun e => hx (e ▸ ha)⟩
theorem adds_nodup : ∀ {xs o : List Int}, o.Nodup → (adds o xs).Nodup
  | [], _, h => h
  | x :: xs, _, h => adds_nodup (xs := xs) (add_nodup h x)
theorem len_of_sub : ∀ {l m : List Int}, l.Nodup → (∀ x ∈ l, x ∈ m) → l.length ≤ m.length
  | [], _, _, _ => by simp
  | x :: l, m, h, hs => by
    have h' := List.nodup_cons.1 h
    have hx : x ∈ m := hs x List.mem_cons_self
    have := len_of_sub (m := m.erase x) h'.2 fun y hy => (List.mem_erase_of_ne (fun (e : y = x) => h'.1 (by rw [← e]; exact hy))).2 (hs y (List.mem_cons_of_mem _ hy))
    have e := List.length_erase_of_mem hx
    have : 0 < m.length := List.length_pos_of_mem hx
    simp only [List.length_cons]
    omega
theorem adds_len (o xs : List Int) : (adds o xs).length ≤ o.length + xs.length := by
  induction xs generalizing o with
  | nil => simp [adds_nil]
  | cons x xs ih =>
    rw [adds_cons]
    have h := ih (add o x)
    have : (add o x).length ≤ o.length + 1 := by
      by_cases hx : x ∈ o
      · rw [add_in hx]; omega
      · rw [add_out hx]; simp
    simp only [List.length_cons]
    omega

/-- Where one's edges go. -/
def tg (es : List (Int × Int)) (x : Int) : List Int := (es.filter fun e => decide (e.1 = x)).map fun e => e.2
theorem tg_nil (x : Int) : tg [] x = [] := rfl
theorem tg_append (es fs : List (Int × Int)) (x : Int) : tg (es ++ fs) x = tg es x ++ tg fs x := by simp [tg]
theorem tg_one (a b x : Int) : tg [(a, b)] x = if a = x then [b] else [] := by
  by_cases h : a = x <;> simp [tg, h]
theorem tg_cons (a b : Int) (es : List (Int × Int)) (x : Int) : tg ((a, b) :: es) x = (if a = x then [b] else []) ++ tg es x := by
  rw [show (a, b) :: es = [(a, b)] ++ es from rfl, tg_append, tg_one]
theorem tg_snoc (es : List (Int × Int)) (a b x : Int) : tg (es ++ [(a, b)]) x = tg es x ++ if a = x then [b] else [] := by rw [tg_append, tg_one]
theorem mem_tg {es : List (Int × Int)} {x y : Int} : y ∈ tg es x ↔ (x, y) ∈ es := by
  unfold tg
  rw [List.mem_map]
  constructor
  · rintro ⟨⟨a, b⟩, h, rfl⟩
    rw [List.mem_filter] at h
    have e : a = x := by simpa using h.2
    exact e ▸ h.1
  · intro h
    exact ⟨(x, y), List.mem_filter.2 ⟨h, by simp⟩, rfl⟩
theorem tg_len (es : List (Int × Int)) (x : Int) : (tg es x).length ≤ es.length := by
  unfold tg
  rw [List.length_map]
  exact List.length_filter_le _ _

/-- The k-th one's edges are followed. -/
def step (es : List (Int × Int)) (k : Nat) (o : List Int) : List Int := match o[k]? with
  | some x => adds o (tg es x)
  | none => o
/-- What has been come to when k of them have been followed. -/
def walk (es : List (Int × Int)) (rs : List Int) : Nat → List Int
  | 0 => adds [] rs
  | k + 1 => step es k (walk es rs k)
section
variable {es : List (Int × Int)} {rs : List Int} {k j i : Nat} {x y : Int}
theorem step_some {o : List Int} (h : o[k]? = some x) : step es k o = adds o (tg es x) := by unfold step; rw [h]
theorem step_none {o : List Int} (h : o.length ≤ k) : step es k o = o := by unfold step; rw [List.getElem?_eq_none h]
theorem step_ext (es : List (Int × Int)) (k : Nat) (o : List Int) : ∃ s, step es k o = o ++ s := by
  rcases h : o[k]? with _ | x
  · exact ⟨[], by rw [step_none (List.getElem?_eq_none_iff.1 h)]; simp⟩
  · obtain ⟨s, hs, _⟩ := adds_ext (tg es x) o
    exact ⟨s, by rw [step_some h, hs]⟩
theorem walk_succ (h : (walk es rs k)[k]? = some x) : walk es rs (k + 1) = adds (walk es rs k) (tg es x) := step_some h
theorem walk_add (es : List (Int × Int)) (rs : List Int) (k : Nat) : ∀ d, ∃ s, walk es rs (k + d) = walk es rs k ++ s
  | 0 => ⟨[], by simp⟩
  | d + 1 => by
    obtain ⟨s, hs⟩ := walk_add es rs k d
    obtain ⟨t, ht⟩ := step_ext es (k + d) (walk es rs (k + d))
    exact ⟨s ++ t, by rw [show k + (d + 1) = k + d + 1 by omega, show walk es rs (k + d + 1) = step es (k + d) (walk es rs (k + d)) from rfl, ht, hs, List.append_assoc]⟩
theorem walk_mono (h : k ≤ j) : ∃ s, walk es rs j = walk es rs k ++ s := by
  obtain ⟨s, hs⟩ := walk_add es rs k (j - k)
  rw [show k + (j - k) = j by omega] at hs
  exact ⟨s, hs⟩
theorem walk_get (h : k ≤ j) (hi : (walk es rs k)[i]? = some x) : (walk es rs j)[i]? = some x := by
  obtain ⟨s, hs⟩ := walk_mono (es := es) (rs := rs) h
  rw [hs, List.getElem?_append_left (List.getElem?_eq_some_iff.1 hi).1, hi]
theorem walk_nodup (es : List (Int × Int)) (rs : List Int) : ∀ k, (walk es rs k).Nodup
  | 0 => adds_nodup List.nodup_nil
  | k + 1 => by
    have h := walk_nodup es rs k
    show (step es k (walk es rs k)).Nodup
    unfold step
    split
    · exact adds_nodup h
    · exact h
theorem walk_why (es : List (Int × Int)) (rs : List Int) : ∀ k i x, (walk es rs k)[i]? = some x → x ∈ rs ∨ ∃ f, (f, x) ∈ es ∧ f ∈ (walk es rs k).take i
  | 0, i, x, h => by
    have hm := List.mem_of_getElem? h
    rcases mem_adds.1 hm with hm | hm
    · cases hm
    · exact .inl hm
  | k + 1, i, x, h => by
    rcases hk : (walk es rs k)[k]? with _ | z
    · have e : walk es rs (k + 1) = walk es rs k := step_none (List.getElem?_eq_none_iff.1 hk)
      rw [e] at h ⊢
      exact walk_why es rs k i x h
    · have e : walk es rs (k + 1) = adds (walk es rs k) (tg es z) := walk_succ hk
      obtain ⟨s, hs, hm⟩ := adds_ext (tg es z) (walk es rs k)
      rw [e, hs] at h ⊢
      rcases Nat.lt_or_ge i (walk es rs k).length with hi | hi
      · rw [List.getElem?_append_left hi] at h
        rcases walk_why es rs k i x h with h1 | ⟨f, h1, h2⟩
        · exact .inl h1
        · exact .inr ⟨f, h1, by rw [List.take_append_of_le_length (by omega)]; exact h2⟩
      · rw [List.getElem?_append_right hi] at h
        refine .inr ⟨z, mem_tg.1 (hm x (List.mem_of_getElem? h)), ?_⟩
        obtain ⟨hkl, hkz⟩ := List.getElem?_eq_some_iff.1 hk
        refine List.mem_of_getElem? (i := k) ?_
        rw [List.getElem?_take_of_lt (by omega), List.getElem?_append_left hkl, hk]
theorem walk_from (h : x ∈ walk es rs k) : x ∈ rs ++ es.map fun e => e.2 := by
  obtain ⟨i, hi, e⟩ := List.getElem_of_mem h
  rcases walk_why es rs k i x (by rw [List.getElem?_eq_getElem hi, e]) with h1 | ⟨f, h1, _⟩
  · exact List.mem_append.2 (.inl h1)
  · exact List.mem_append.2 (.inr (List.mem_map.2 ⟨(f, x), h1, rfl⟩))
theorem walk_len (es : List (Int × Int)) (rs : List Int) (k : Nat) : (walk es rs k).length ≤ rs.length + es.length := by
  have := len_of_sub (walk_nodup es rs k) fun x hx => walk_from hx
  simpa using this
theorem walk_fix (h : (walk es rs k).length ≤ k) : ∀ d, walk es rs (k + d) = walk es rs k
  | 0 => rfl
  | d + 1 => by
    have e := walk_fix h d
    show step es (k + d) (walk es rs (k + d)) = _
    rw [e]
    exact step_none (by omega)

/-- All that is reached, as it is come to. -/
def ord (es : List (Int × Int)) (rs : List Int) : List Int := walk es rs (rs.length + es.length)
theorem ord_len (es : List (Int × Int)) (rs : List Int) : (ord es rs).length ≤ rs.length + es.length := walk_len _ _ _
theorem ord_nodup (es : List (Int × Int)) (rs : List Int) : (ord es rs).Nodup := walk_nodup _ _ _
theorem ord_at (h : rs.length + es.length ≤ k) : walk es rs k = ord es rs := by
  have e := walk_fix (walk_len es rs (rs.length + es.length)) (k - (rs.length + es.length))
  rw [show rs.length + es.length + (k - (rs.length + es.length)) = k by omega] at e
  exact e
theorem ord_end (h : (walk es rs k).length ≤ k) : ord es rs = walk es rs k := by
  rcases Nat.le_total k (rs.length + es.length) with hk | hk
  · have e := walk_fix h (rs.length + es.length - k)
    rw [show k + (rs.length + es.length - k) = rs.length + es.length by omega] at e
    exact e
  · exact (ord_at hk).symm
theorem walk_sub (h : x ∈ walk es rs k) : x ∈ ord es rs := by
  obtain ⟨i, hi, e⟩ := List.getElem_of_mem h
  have hi' : (walk es rs k)[i]? = some x := by rw [List.getElem?_eq_getElem hi, e]
  have := walk_get (Nat.le_max_left k (rs.length + es.length)) hi'
  rw [ord_at (Nat.le_max_right _ _)] at this
  exact List.mem_of_getElem? this
theorem ord_root (h : x ∈ rs) : x ∈ ord es rs := walk_sub (k := 0) (mem_adds.2 (.inr h))
theorem ord_edge (h : x ∈ ord es rs) (he : (x, y) ∈ es) : y ∈ ord es rs := by
  obtain ⟨i, hi, e⟩ := List.getElem_of_mem h
  have hi' : (ord es rs)[i]? = some x := by rw [List.getElem?_eq_getElem hi, e]
  rcases Nat.lt_or_ge i (walk es rs i).length with hl | hl
  · have hw : (walk es rs i)[i]? = some (walk es rs i)[i] := List.getElem?_eq_getElem hl
    have h2 := walk_get (Nat.le_max_left i (rs.length + es.length)) hw
    rw [ord_at (Nat.le_max_right _ _), hi'] at h2
    injection h2 with h2
    rw [← h2] at hw
    refine walk_sub (k := i + 1) ?_
    rw [walk_succ hw, mem_adds]
    exact .inr (mem_tg.2 he)
  · rw [ord_end hl] at hi
    omega
theorem ord_why (h : (ord es rs)[i]? = some x) : x ∈ rs ∨ ∃ f, (f, x) ∈ es ∧ f ∈ (ord es rs).take i := walk_why es rs _ i x h
theorem ord_ind {P : Int → Prop} (hr : ∀ x ∈ rs, P x) (hs : ∀ x y, P x → (x, y) ∈ es → P y) : ∀ x ∈ ord es rs, P x := by
  have key : ∀ (i : Nat) (x : Int), (ord es rs)[i]? = some x → P x := by
    intro i
    induction i using Nat.strongRecOn with
    | ind i ih =>
      intro x h
      rcases ord_why h with h1 | ⟨f, h1, h2⟩
      · exact hr x h1
      · obtain ⟨j, hj, e⟩ := List.getElem_of_mem h2
        rw [List.length_take] at hj
        rw [List.getElem_take] at e
        refine hs f x (ih j (by omega) f ?_) h1
        rw [List.getElem?_eq_getElem (by omega), e]
  intro x hx
  obtain ⟨i, hi, e⟩ := List.getElem_of_mem hx
  exact key i x (by rw [List.getElem?_eq_getElem hi, e])
theorem ord_from (h : x ∈ ord es rs) : x ∈ rs ++ es.map fun e => e.2 := walk_from h
end

theorem ord_grows {es fs : List (Int × Int)} {rs ss : List Int} (hr : ∀ x ∈ rs, x ∈ ss) (he : ∀ x y, (x, y) ∈ es → (x, y) ∈ fs) : ∀ x ∈ ord es rs, x ∈ ord fs ss :=
  ord_ind (fun x hx => ord_root (hr x hx)) fun x y hx h => ord_edge hx (he x y h)
theorem mem_join {es : List (Int × Int)} {a b : List Int} {x : Int} : x ∈ ord es (a ++ b) ↔ x ∈ ord es a ∨ x ∈ ord es b := by
  constructor
  · refine ord_ind (P := fun x => x ∈ ord es a ∨ x ∈ ord es b) (fun x hx => ?_) (fun x y hx h => ?_) x
    · exact (List.mem_append.1 hx).imp ord_root ord_root
    · exact hx.imp (fun k => ord_edge k h) fun k => ord_edge k h
  · rintro (h | h)
    · exact ord_grows (fun x hx => List.mem_append.2 (.inl hx)) (fun _ _ h => h) x h
    · exact ord_grows (fun x hx => List.mem_append.2 (.inr hx)) (fun _ _ h => h) x h

/-- Each edge twice, and one from its end to itself. -/
def dbl (es : List (Int × Int)) : List (Int × Int) := es.flatMap fun e => [(e.1, e.2), (e.1, e.2), (e.2, e.2)]
theorem dbl_nil : dbl [] = [] := rfl
theorem dbl_cons (a b : Int) (es : List (Int × Int)) : dbl ((a, b) :: es) = [(a, b), (a, b), (b, b)] ++ dbl es := by simp [dbl]
theorem dbl_snoc (es : List (Int × Int)) (a b : Int) : dbl (es ++ [(a, b)]) = dbl es ++ [(a, b), (a, b), (b, b)] := by simp [dbl]
theorem dbl_len (es : List (Int × Int)) : (dbl es).length = 3 * es.length := by
  induction es with
  | nil => rfl
  | cons e es ih =>
    obtain ⟨a, b⟩ := e
    rw [dbl_cons, List.length_append, ih]
    simp
    omega
theorem adds_dbl (x : Int) : ∀ (es : List (Int × Int)) (o : List Int), x ∈ o → adds o (tg (dbl es) x) = adds o (tg es x)
  | [], _, _ => rfl
  | (a, b) :: es, o, h => by
    rw [dbl_cons, tg_append, adds_append, tg_cons a b es, adds_append]
    have e : adds o (tg [(a, b), (a, b), (b, b)] x) = adds o (if a = x then [b] else []) := by
      rw [tg_cons, tg_cons, tg_one, adds_append, adds_append]
      by_cases h1 : a = x
      · rw [if_pos h1]
        have hb : b ∈ adds o [b] := mem_adds.2 (.inr (by simp))
        rw [adds_in (xs := [b]) (o := adds o [b]) (by simpa using hb)]
        exact adds_in fun z hz => by
          split at hz
          · rw [List.mem_singleton] at hz; exact hz ▸ hb
          · cases hz
      · rw [if_neg h1, adds_nil, adds_nil]
        exact adds_in fun z hz => by
          split at hz
          · rename_i h2
            rw [List.mem_singleton] at hz; exact hz ▸ h2 ▸ h
          · cases hz
    rw [e]
    exact adds_dbl x es _ (mem_adds.2 (.inl h))
/-- Those of some edges that begin elsewhere. -/
def off (o : List Int) (es : List (Int × Int)) : List (Int × Int) := es.filter fun e => decide (e.1 ∉ o)
theorem off_snoc (o : List Int) (es : List (Int × Int)) (a b : Int) : off o (es ++ [(a, b)]) = off o es ++ if a ∈ o then [] else [(a, b)] := by
  by_cases h : a ∈ o <;> simp [off, h]
theorem off_len (o : List Int) (es : List (Int × Int)) : (off o es).length ≤ es.length := List.length_filter_le _ _
theorem tg_off {o : List Int} {x : Int} (h : x ∈ o) (es : List (Int × Int)) : tg (off o es) x = [] := by
  rw [List.eq_nil_iff_forall_not_mem]
  intro y hy
  have h1 := List.mem_filter.1 (mem_tg.1 hy)
  simp [h] at h1
theorem loose_walk (es more : List (Int × Int)) (rs : List Int) : ∀ k, walk (dbl es ++ off (ord es rs) more) rs k = walk es rs k
  | 0 => rfl
  | k + 1 => by
    have e := loose_walk es more rs k
    show step _ k (walk _ rs k) = step es k (walk es rs k)
    rw [e]
    rcases h : (walk es rs k)[k]? with _ | x
    · have hl := List.getElem?_eq_none_iff.1 h
      rw [step_none hl, step_none hl]
    · have hx := List.mem_of_getElem? h
      rw [step_some h, step_some h, tg_append, tg_off (walk_sub hx), List.append_nil, adds_dbl x es _ hx]
theorem loose (es more : List (Int × Int)) (rs : List Int) : ord (dbl es ++ off (ord es rs) more) rs = ord es rs := by
  show walk (dbl es ++ off (ord es rs) more) rs _ = ord es rs
  rw [loose_walk]
  refine ord_at ?_
  rw [List.length_append, dbl_len]
  omega

/-- Rising. -/
theorem row_nodup {l : List Int} (h : l.Nodup) : BG.Rises (BG.row l) := by
  have h1 := BG.row_sorted l
  have h2 : (BG.row l).Pairwise (· ≠ ·) := (BG.row_perm l).nodup_iff.2 h
  exact (h1.and h2).imp fun h => by omega
theorem row_norm {l : List Int} (h : l.Nodup) : BG.row l = BG.norm l := BG.ext _ _ (row_nodup h) (BG.norm_rises l) fun x => by rw [(BG.row_perm l).mem_iff, BG.mem_norm]
/-- What is reached, rising. -/
def rch (es : List (Int × Int)) (rs : List Int) : List Int := BG.norm (ord es rs)
theorem mem_rch {es : List (Int × Int)} {rs : List Int} {x : Int} : x ∈ rch es rs ↔ x ∈ ord es rs := BG.mem_norm
theorem rch_rises (es : List (Int × Int)) (rs : List Int) : BG.Rises (rch es rs) := BG.norm_rises _
theorem rch_row (es : List (Int × Int)) (rs : List Int) : BG.row (ord es rs) = rch es rs := row_norm (ord_nodup es rs)
theorem rch_len (es : List (Int × Int)) (rs : List Int) : (rch es rs).length ≤ rs.length + es.length := Nat.le_trans (BG.norm_len _) (ord_len es rs)
/-- Those of some that aren't among others. -/
def out (o ns : List Int) : List Int := ns.filter fun x => decide (x ∉ o)
theorem out_snoc (o ns : List Int) (x : Int) : out o (ns ++ [x]) = out o ns ++ if x ∈ o then [] else [x] := by
  by_cases h : x ∈ o <;> simp [out, h]
theorem out_len (o ns : List Int) : (out o ns).length ≤ ns.length := List.length_filter_le _ _
theorem mem_out {o ns : List Int} {x : Int} : x ∈ out o ns ↔ x ∈ ns ∧ x ∉ o := by simp [out]
theorem out_congr {o p ns : List Int} (h : ∀ x, x ∈ o ↔ x ∈ p) : out o ns = out p ns := by
  unfold out
  congr 1
  funext x
  simp [h x]
/-- What is lost of some. -/
def lost (es : List (Int × Int)) (rs ns : List Int) : List Int := BG.norm (out (ord es rs) ns)
theorem mem_lost {es : List (Int × Int)} {rs ns : List Int} {x : Int} : x ∈ lost es rs ns ↔ x ∈ ns ∧ x ∉ ord es rs := by unfold lost; rw [BG.mem_norm, mem_out]
theorem lost_rises (es : List (Int × Int)) (rs ns : List Int) : BG.Rises (lost es rs ns) := BG.norm_rises _
theorem lost_len (es : List (Int × Int)) (rs ns : List Int) : (lost es rs ns).length ≤ ns.length := Nat.le_trans (BG.norm_len _) (out_len _ _)
theorem lost_nil {es : List (Int × Int)} {rs ns : List Int} (h : ∀ x ∈ ns, x ∈ ord es rs) : lost es rs ns = [] := by
  rw [List.eq_nil_iff_forall_not_mem]
  intro x hx
  have := mem_lost.1 hx
  exact this.2 (h x this.1)
end GM
end Go.Proofs.Ytomjaieplpjcpaa
