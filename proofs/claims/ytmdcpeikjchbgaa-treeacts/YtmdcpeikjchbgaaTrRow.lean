/- Words for trees: the code's box and its map of parents; the document's box and its list of parents. -/
import Derived.Test.YtmdcpeikjchbgaaTrM
import Derived.Test.YtmdcpeikjchbgaaBgRow
import Derived.Maps.Own
import Derived.Maps.OwnOps
import Derived.Maps.OwnSet
import Derived.Lib.SlKeysI
import Derived.Lib.Hide
namespace Go.Proofs.Ytmdcpeikjchbgaa
open Go.RowKit Go.Maps

namespace TR
/-- Numbers as ints. -/
def zs (l : List Nat) : List Int := l.map fun (i : Nat) => (i : Int)
theorem zs_len (l : List Nat) : (zs l).length = l.length := by simp [zs]
theorem zs_snoc (l : List Nat) (i : Nat) : zs (l ++ [i]) = zs l ++ [(i : Int)] := by simp [zs]
theorem zs_at {l : List Nat} {k : Nat} (h : k < (zs l).length) : (zs l)[k] = ((l[k]'(by rw [zs_len] at h; exact h) : Nat) : Int) := by simp [zs]
theorem zs_get {l : List Nat} {k : Nat} : (zs l)[k]? = (l[k]?).map fun (i : Nat) => (i : Int) := by simp [zs]
/-- Is an int a live one's number? -/
def liveI (f : F) (x : Int) : Bool := decide (0 ≤ x) && live f x.toNat
def liveErr (f : F) (x : Int) : Int := if liveI f x then 0 else 6
def mayErr (f : F) (x : Int) : Int := if x = 0 then 0 else liveErr f x
theorem liveI_nat (f : F) (i : Nat) : liveI f (i : Int) = live f i := by simp [liveI]
theorem liveI_iff {f : F} {x : Int} : liveI f x = true ↔ ∃ i p : Nat, x = i ∧ f i = some p := by
  unfold liveI
  constructor
  · intro h
    simp at h
    obtain ⟨p, hp⟩ := live_iff.1 h.2
    exact ⟨x.toNat, p, by omega, hp⟩
  · rintro ⟨i, p, rfl, hp⟩
    simp [live_iff.2 ⟨p, hp⟩]
/-- f with another parent of i. -/
def updF (f : F) (i p : Nat) : F := fun j => if j = i then some p else f j
def delF (f : F) (i : Nat) : F := fun j => if j = i then none else f j
theorem updF_self (f : F) (i p : Nat) : updF f i p i = some p := by simp [updF]
theorem liveI_upd (f : F) (i p : Nat) (x : Int) : liveI (updF f i p) x = (decide (x = i) || liveI f x) := by
  unfold liveI updF live
  by_cases h : x = i
  · subst h; simp
  · by_cases h0 : 0 ≤ x
    · have : x.toNat ≠ i := by omega
      simp [h, this]
    · simp [h, h0]
theorem liveI_del (f : F) (i : Nat) (x : Int) : liveI (delF f i) x = (decide (x ≠ i) && liveI f x) := by
  unfold liveI delF live
  by_cases h : x = i
  · subst h; simp
  · by_cases h0 : 0 ≤ x
    · have : x.toNat ≠ i := by omega
      simp [h, this]
    · simp [h0]
end TR

theorem trLaw : Keyed Try.prog 3 := int_keyed Try.underlying3
theorem trZero (w : World) : (zeroValue 3).run Try.prog w = .ok (.int .i64 0) w := by kernel_rfl
theorem trKey (x : Int) (h : (Lit.int .i64 x).wf = true) : keyOf Try.prog 3 (.int .i64 x) = some (.int .i64 x) := keyOf_int_mk Try.underlying3 h
theorem trWf {i : Nat} (h : i ≤ 1000000) : (Lit.int .i64 (i : Int)).wf = true := WalkArith.wf_i64 (by omega)

/-- The datum of a map of parents. -/
def TDat (D : DataW Unit) (f : TR.F) : Prop :=
  (∀ x : Int, has D (.int .i64 x) = TR.liveI f x) ∧ ∀ i p : Nat, f i = some p → ∀ z, D.atKey (.int .i64 (i : Int)) z = .lit (.int .i64 (p : Int))
/-- Block m is a map of parents. -/
def MapT (w : World) (m : Nat) (f : TR.F) : Prop := ∃ D : DataW Unit, w.ownsMap Try.prog 3 (plainElem Try.prog 3) m (Maps.size D) D ∧ TDat D f
theorem own_tight {w : World} {m n : Nat} {D : DataW Unit} (h : w.ownsMap Try.prog 3 (plainElem Try.prog 3) m n D) : w.ownsMap Try.prog 3 (plainElem Try.prog 3) m (Maps.size D) D := by
  obtain ⟨es, cl, hb, F, hs, rfl⟩ := h
  exact ⟨es, cl, hb, F, by simp [Maps.size, length_sorted], rfl⟩
theorem trAft {S : List Nat} {w w' : World} {row : Option Nat} (h : w.grownBy w' row) (hr : ∀ k, row = some k → k ∈ S) : Aft S w w' :=
  ⟨h.os, h.tape, h.output, h.size, fun k hk hs => h.block k hk (fun e => hs (hr k e.symm))⟩

section
variable {w w' : World} {m n : Nat} {f : TR.F}
theorem MapT.lt (h : MapT w m f) : m < w.heap.size := by obtain ⟨D, h, _⟩ := h; exact h.lt
theorem MapT.keep (h : MapT w m f) (e : w'.heap[m]? = w.heap[m]?) : MapT w' m f := by
  obtain ⟨D, ⟨es, cl, hb, r⟩, hD⟩ := h
  exact ⟨D, ⟨es, cl, e.trans hb, r⟩, hD⟩
theorem MapT.ne {b : Nat} {t : TypeId} {cs : Array Value} (h : MapT w m f) (hb : Whole w b t cs) : m ≠ b := by
  obtain ⟨D, ⟨es, cl, h1, _⟩, _⟩ := h
  intro e
  subst e
  unfold Whole at hb
  rw [hb] at h1
  cases h1
theorem MapT.perm {D : DataW Unit} (h : w.ownsMap Try.prog 3 (plainElem Try.prog 3) m (Maps.size D) D) (hD : TDat D f) (hg : TR.Good n f) : (TR.zs (TR.all n f)).Perm (intKeys D) := by
  refine CollectedI.perm (left := fun _ => false) ⟨?_, fun x => ?_⟩ h trLaw Try.underlying3 fun _ => rfl
  · unfold TR.zs
    refine List.pairwise_map.2 ?_
    have : (TR.all n f).Nodup := (List.filter_sublist).nodup List.nodup_range
    exact this.imp fun h e => h (by omega)
  · rw [hD.1 x]
    simp only [and_true]
    rw [TR.liveI_iff]
    unfold TR.zs
    rw [List.mem_map]
    constructor
    · rintro ⟨i, hi, rfl⟩
      obtain ⟨p, hp⟩ := TR.live_iff.1 (TR.mem_all.1 hi).2
      exact ⟨i, p, rfl, hp⟩
    · rintro ⟨i, p, rfl, hp⟩
      exact ⟨i, TR.mem_all.2 ⟨(hg.le i p hp).2.1, TR.live_iff.2 ⟨p, hp⟩⟩, rfl⟩
theorem MapT.size {D : DataW Unit} (h : w.ownsMap Try.prog 3 (plainElem Try.prog 3) m (Maps.size D) D) (hD : TDat D f) (hg : TR.Good n f) : Maps.size D = (TR.all n f).length := by
  have hp := (MapT.perm h hD hg).length_eq
  obtain ⟨es, rfl⟩ := h.isMap
  rw [TR.zs_len] at hp
  rw [hp]
  simp [Maps.size, intKeys]
theorem MapT.look (h : MapT w m f) {i p : Nat} (hi : i ≤ 1000000) (hf : f i = some p) : (Instr.lookup 50 (.map (some m)) (.int .i64 (i : Int)) false).run Try.prog w = .ok (.int .i64 (p : Int)) w := by
  obtain ⟨D, h1, hD⟩ := h
  obtain ⟨c, hrun, hat, _⟩ := h1.lookup_int trLaw Try.underlying50 Try.underlying3 (trZero w) (trKey i (trWf hi))
  rw [hD.2 i p hf] at hat
  injection hat with hat
  injection hat with _ hat
  rw [hrun, hat]
theorem MapT.look_ok (h : MapT w m f) (x : Int) (hx : (Lit.int .i64 x).wf = true) : ∃ c : Int, (Instr.lookup 50 (.map (some m)) (.int .i64 x) true).run Try.prog w = .ok (.tuple #[.int .i64 c, .bool (TR.liveI f x)]) w := by
  obtain ⟨D, h1, hD⟩ := h
  obtain ⟨v, ps, hrun, hR⟩ := h1.look_ok trLaw Try.underlying50 (trZero w) (plainElem_int Try.underlying3 (by decide)) (trKey x hx)
  obtain ⟨c, rfl, _, _⟩ := plainElem_int_inv Try.underlying3 hR
  exact ⟨c, by rw [hrun, hD.1 x]⟩
theorem MapT.len (h : MapT w m f) (hg : TR.Good n f) (ty : TypeId) : (Builtin.len_ #[50] ty #[.map (some m)]).run Try.prog w = .ok (.int .i64 ((TR.all n f).length : Nat)) w := by
  obtain ⟨D, h1, hD⟩ := h
  rw [h1.len Try.underlying50 ty, MapT.size h1 hD hg]
theorem MapT.put (h : MapT w m f) (hg : TR.Good n f) (hn : n ≤ 100000) {i p : Nat} (hi : i ≤ 1000000) (hp : p ≤ 1000000) : ∃ w', (Instr.mapUpdate 50 (.map (some m)) (.int .i64 (i : Int)) (.int .i64 (p : Int))).run Try.prog w = .ok () w' ∧ MapT w' m (TR.updF f i p) ∧ Aft [m] w w' := by
  obtain ⟨D, h1, hD⟩ := h
  have hsz := MapT.size h1 hD hg
  have hl : (TR.all n f).length ≤ n + 1 := by
    have := List.length_filter_le (TR.live f) (List.range (n + 1))
    rw [List.length_range] at this
    exact this
  obtain ⟨w', hrun, h2, h3⟩ := h1.update trLaw Try.underlying50 (by unfold maxLen; omega) (trKey i (trWf hi)) (plainElem_int Try.underlying3 (trWf hp))
  refine ⟨w', hrun, ⟨_, own_tight h2, fun x => ?_, fun j q hj z => ?_⟩, trAft h3 (by simp)⟩
  · rw [TR.liveI_upd]
    by_cases e : x = i
    · subst e
      rw [has_put_same h1.isMap (show WideAt.IsKeyLit (.int .i64 (i : Int)) from trivial)]
      simp
    · rw [has_put_other (fun hh => e (by injection hh)), hD.1 x]
      simp [e]
  · unfold TR.updF at hj
    by_cases e : j = i
    · subst e
      rw [if_pos rfl] at hj
      injection hj with hj
      subst hj
      exact atKey_put_same h1.isMap (show WideAt.IsKeyLit (.int .i64 (j : Int)) from trivial) _ _
    · rw [if_neg e] at hj
      rw [atKey_put_other (fun hh => e (by injection hh with _ hh; omega))]
      exact hD.2 j q hj z
theorem MapT.del (h : MapT w m f) (i : Nat) (hi : i ≤ 1000000) (ty : TypeId) : ∃ w', (Builtin.delete_ #[50, 3] ty #[.map (some m), .int .i64 (i : Int)]).run Try.prog w = .ok (.tuple #[]) w' ∧ MapT w' m (TR.delF f i) ∧ Aft [m] w w' := by
  obtain ⟨D, h1, hD⟩ := h
  obtain ⟨w', hrun, h2, h3⟩ := h1.drop trLaw Try.underlying50 (trKey i (trWf hi)) ty
  refine ⟨w', hrun, ⟨_, own_tight h2, fun x => ?_, fun j q hj z => ?_⟩, trAft h3.grown (by simp)⟩
  · rw [TR.liveI_del]
    by_cases e : x = i
    · subst e
      rw [has_del_same]
      simp
    · rw [has_del_other (fun hh => e (by injection hh)), hD.1 x]
      simp [e]
  · unfold TR.delF at hj
    by_cases e : j = i
    · rw [if_pos e] at hj; cases hj
    · rw [if_neg e] at hj
      rw [atKey_del_other (fun hh => e (by injection hh with _ hh; omega))]
      exact hD.2 j q hj z
theorem MapT.made (w : World) : MapT (w.alloc (.map #[] 0)) w.heap.size (fun _ => none) :=
  ⟨.map [], World.ownsMap_made _ _ _ _, fun x => by simp [has, TR.liveI, TR.live], fun i p hp => by cases hp⟩
end

/-- A tree of the code's: its box b, its map m, how many numbers were told, the parents. -/
structure TrAt (w : World) (b m n : Nat) (f : TR.F) : Prop where
  box : Whole w b 52 #[.map (some m), .int .i64 (n : Nat)]
  map : MapT w m f
  good : TR.Good n f
  few : n ≤ 100000
section
variable {w w' : World} {b m n : Nat} {f : TR.F} {S : List Nat}
theorem TrAt.aft (h : TrAt w b m n f) (k : Aft S w w') (hb : b ∉ S) (hm : m ∉ S) : TrAt w' b m n f :=
  ⟨k.whole h.box hb, h.map.keep (k.block m h.map.lt hm), h.good, h.few⟩
theorem TrAt.below (h : TrAt w b m n f) (k : Below w.heap.size w w') : TrAt w' b m n f := h.aft (Aft.of_below (S := []) k) (by simp) (by simp)
theorem TrAt.ne (h : TrAt w b m n f) : m ≠ b := h.map.ne h.box
theorem TrAt.c0 (h : TrAt w b m n f) : w.cell? ⟨b, 0, none⟩ = some (.map (some m)) := by rw [h.box.cell]; rfl
theorem TrAt.c1 (h : TrAt w b m n f) : w.cell? ⟨b, 1, none⟩ = some (.int .i64 (n : Nat)) := by rw [h.box.cell]; rfl
/-- Where the map alone has changed. -/
theorem TrAt.turn {g : TR.F} (h : TrAt w b m n f) (k : Aft [m] w w') (hm : MapT w' m g) (hg : TR.Good n g) : TrAt w' b m n g :=
  ⟨k.whole h.box (by simpa using h.ne.symm), hm, hg, h.few⟩
end

/-- A new row of numbers. -/
def NewR (base : Nat) (w : World) (v : Value) (l : List Nat) : Prop := w.ownsRow base 3 1 v l.length ((TR.zs l).map (Value.int .i64))
section
variable {w w' : World} {base b m n : Nat} {v : Value} {l : List Nat} {f : TR.F} {S : List Nat}
theorem NewR.own (h : NewR base w v l) : w.ownsRow base 3 1 v l.length ((TR.zs l).map (Value.int .i64)) := h
theorem NewR.nil (base : Nat) (w : World) : NewR base w (.slice none 0 0) [] := by
  unfold NewR
  exact World.ownsRow_nil _ _ _ _
theorem NewR.row (h : NewR base w v l) : ∃ r, Row 3 (Value.int .i64) w r v (TR.zs l) ∧ base ≤ r := by
  rcases h.2 with ⟨rfl, _⟩ | ⟨g, cap, cur, rfl, hg, hh, _⟩
  · exact ⟨base, Row.of_own h rfl (fun k e => by simp [Value.ownBlock] at e), Nat.le_refl _⟩
  · exact ⟨g, Row.of_own h rfl (fun k e => by simp [Value.ownBlock] at e; omega), hg⟩
theorem NewR.slice (h : NewR base w v l) : ∃ A c, v = .slice A l.length c ∧ l.length ≤ c := by
  obtain ⟨r, hr, _⟩ := h.row
  obtain ⟨A, c, e, hc⟩ := hr.slice
  rw [TR.zs_len] at e hc
  exact ⟨A, c, e, hc⟩
theorem NewR.keep (h : NewR base w v l) (e : ∀ g, v.ownBlock = some g → (∃ cs, Whole w g 3 cs) → w'.heap[g]? = w.heap[g]?) : NewR base w' v l := by
  rcases h with ⟨h1, h2⟩
  refine ⟨h1, ?_⟩
  rcases h2 with h2 | ⟨g, cap, cur, rfl, hg, hh, r⟩
  · exact .inl h2
  · exact .inr ⟨g, cap, cur, rfl, hg, (e g rfl ⟨cur, hh⟩).trans hh, r⟩
theorem NewR.below (h : NewR base w v l) (k : Below w.heap.size w w') : NewR base w' v l := h.keep fun g _ ⟨_, hg⟩ => k.block g hg.lt
/-- A call that writes a tree leaves the row as it is. -/
theorem NewR.tree (h : NewR base w v l) (t : TrAt w b m n f) (k : Aft [b, m] w w') : NewR base w' v l := h.keep fun g _ ⟨cs, hg⟩ => by
  refine k.block g hg.lt ?_
  simp
  refine ⟨fun e => ?_, fun e => t.map.ne hg e.symm⟩
  subst e
  have hb := t.box
  unfold Whole at hb hg
  rw [hg] at hb
  injection hb with hb
  injection hb with _ hb
  exact absurd hb (by decide)
theorem NewR.less (h : NewR base w v l) {base' : Nat} (hb : base' ≤ base) : NewR base' w v l := World.ownsRow.mono h hb
theorem NewR.cell (h : NewR base w v l) {k : Nat} (hk : k < l.length) : ∃ g cap, v = .slice (some ⟨g, 0, none⟩) l.length cap ∧ g < w.heap.size ∧ base ≤ g ∧ w.cell? ⟨g, k, none⟩ = some (.int .i64 (l[k] : Nat)) := by
  obtain ⟨r, hr, hb⟩ := h.row
  obtain ⟨cap, e, hl, hc⟩ := hr.cell (show k < (TR.zs l).length by rw [TR.zs_len]; exact hk)
  rw [TR.zs_len] at e
  rw [TR.zs_at] at hc
  exact ⟨r, cap, e, hl, hb, hc⟩
end
end Go.Proofs.Ytmdcpeikjchbgaa
