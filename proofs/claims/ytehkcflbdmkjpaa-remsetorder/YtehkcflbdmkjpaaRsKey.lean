/- Maps keyed by references, and maps of maps: how they read. -/
import Derived.Test.YtehkcflbdmkjpaaBase
import Derived.Test.YtehkcflbdmkjpaaBgRow
import Derived.Test.YtehkcflbdmkjpaaRsM
import Derived.Maps.Own
import Derived.Maps.OwnOps
import Derived.Maps.OwnSet
import Derived.Lib.SlKeysI
import Derived.DeepKeys4
import Derived.Lib.Hide
namespace Go.Proofs.Ytehkcflbdmkjpaa
open Go.RowKit Go.Maps

def I64ok (x : Int) : Prop := (Lit.int .i64 x).wf = true
def RefOk (r : RM.R) : Prop := I64ok r.1 ∧ I64ok r.2
/-- A reference as a value, and as a key. -/
def refV (r : RM.R) : Value := .agg #[.int .i64 r.1, .int .i64 r.2]
def refL (r : RM.R) : Lit := .string (keyBytes [.int .i64 r.1, .int .i64 r.2])
theorem refCells : Try.prog.cellsOf 24 = 2 := by kernel_rfl
theorem intCells : Try.prog.cellsOf 3 = 1 := by kernel_rfl
theorem refKeyType : Try.prog.keyType 24 = true := by kernel_rfl
theorem lits_int (d : Nat) {x : Int} (hx : I64ok x) : Try.prog.keyLits (d + 1) 3 [.int .i64 x] = some [.int .i64 x] := by
  unfold I64ok at hx
  unfold Program.keyLits
  rw [Try.underlying3]
  simp [hx]
theorem lits_int_inv {d : Nat} {v : Value} {ls : List Lit} (h : Try.prog.keyLits (d + 1) 3 [v] = some ls) : ∃ x, v = .int .i64 x ∧ ls = [.int .i64 x] ∧ I64ok x := by
  unfold Program.keyLits at h
  rw [Try.underlying3] at h
  cases v <;> simp at h
  obtain ⟨⟨rfl, hw⟩, rfl⟩ := h
  exact ⟨_, rfl, rfl, hw⟩
theorem typesTwo : ∃ d, Try.prog.types.size + 1 = d + 1 + 1 := ⟨Try.prog.types.size - 1, by kernel_rfl⟩
theorem key_ref {r : RM.R} (hr : RefOk r) : keyOf Try.prog 24 (refV r) = some (refL r) := by
  obtain ⟨d, hd⟩ := typesTwo
  unfold keyOf
  rw [Try.underlying24]
  dsimp only
  rw [refKeyType, hd]
  have hf : Value.formed Try.prog 24 (refV r) = true := by kernel_rfl
  have hl : Try.prog.keyLits (d + 1 + 1) 24 (refV r).cells.toList = some [.int .i64 r.1, .int .i64 r.2] := by
    have e : (refV r).cells.toList = [.int .i64 r.1, .int .i64 r.2] := rfl
    rw [e]
    conv => lhs; unfold Program.keyLits
    rw [Try.underlying24]
    simp [refCells, intCells, lits_int d hr.1, lits_int d hr.2]
  rw [hf, hl]
  rfl
theorem key_ref_inv {key : Value} {kl : Lit} (h : keyOf Try.prog 24 key = some kl) : ∃ r, key = refV r ∧ kl = refL r ∧ RefOk r := by
  obtain ⟨d, hd⟩ := typesTwo
  unfold keyOf at h
  rw [Try.underlying24] at h
  dsimp only at h
  rw [refKeyType, hd] at h
  cases hf : Value.formed Try.prog 24 key with
  | false => rw [hf] at h; simp at h
  | true =>
    rw [hf] at h
    simp only [Bool.and_self, if_true, Option.map_eq_some_iff] at h
    obtain ⟨ls, h1, rfl⟩ := h
    obtain ⟨cs, rfl⟩ : ∃ cs, key = .agg cs := by
      cases key <;> first
        | exact ⟨_, rfl⟩
        | (simp [Value.formed, Try.underlying24] at hf)
    have hs : cs.size = 2 := by
      simp only [Value.formed, Try.underlying24, refCells] at hf
      simpa using hf
    obtain ⟨a, b, rfl⟩ : ∃ a b, cs = #[a, b] := by
      rcases cs with ⟨l⟩
      match l, hs with
      | [a, b], _ => exact ⟨a, b, rfl⟩
    have e : (Value.agg #[a, b]).cells.toList = [a, b] := rfl
    rw [e] at h1
    conv at h1 => lhs; unfold Program.keyLits
    rw [Try.underlying24] at h1
    simp [refCells, intCells, Option.bind_eq_some_iff] at h1
    obtain ⟨_, l1, _, ⟨_, l2, rfl⟩, h5⟩ := h1
    obtain ⟨x, rfl, rfl, hx⟩ := lits_int_inv l1
    obtain ⟨y, rfl, rfl, hy⟩ := lits_int_inv l2
    exact ⟨(x, y), rfl, by rw [← h5]; rfl, hx, hy⟩
theorem law_ref : Keyed Try.prog 24 := Keyed.of_law (deep_law_laid (by kernel_rfl) (m := 2) (by omega) (of_decide_eq_true (by kernel_rfl)) (by kernel_rfl) (by kernel_rfl))
theorem refV_inj {a b : RM.R} (h : refV a = refV b) : a = b := by
  unfold refV at h
  simp at h
  exact Prod.ext h.1 h.2
theorem refL_inj {a b : RM.R} (ha : RefOk a) (hb : RefOk b) (h : refL a = refL b) : a = b :=
  refV_inj (law_ref.inj (key_ref ha) (h ▸ key_ref hb))
theorem refL_key (r : RM.R) : WideAt.IsKeyLit (refL r) := trivial

/-- The keys of a datum are these references. -/
structure RefD (D : DataW Unit) (l : List RM.R) : Prop where
  has : ∀ x, RefOk x → Maps.has D (refL x) = decide (x ∈ l)
  ok : ∀ x ∈ l, RefOk x
  once : l.Nodup
theorem lits_refs : ∀ es : List (Lit × DataW Unit), (∀ p ∈ es, ∃ x, p.1 = refL x ∧ RefOk x) → ∃ xs : List RM.R, es.map (fun p => p.1) = xs.map refL ∧ ∀ x ∈ xs, RefOk x
  | [], _ => ⟨[], rfl, by simp⟩
  | p :: es, h => by
    obtain ⟨xs, h1, h2⟩ := lits_refs es fun q hq => h q (List.mem_cons_of_mem _ hq)
    obtain ⟨x, hx, hk⟩ := h p List.mem_cons_self
    refine ⟨x :: xs, by simp [h1, hx], fun y hy => ?_⟩
    rcases List.mem_cons.1 hy with rfl | hy
    · exact hk
    · exact h2 y hy
section
variable {w w' : World} {m n k : Nat} {D : DataW Unit} {l l' : List RM.R} {R : Value → Option (DataW Unit × List MemPlace)} {r : RM.R}
theorem RefD.size (h : RefD D l) (hown : w.ownsMap Try.prog 24 R m n D) : Maps.size D = l.length := by
  obtain ⟨es, hD, hpw, _⟩ := hown.entries law_ref
  obtain ⟨es', hD', hko⟩ := hown.keysOf
  obtain rfl : es = es' := by rw [hD] at hD'; simpa using hD'
  subst hD
  obtain ⟨xs, h1, h2⟩ := lits_refs es fun p hp => by
    obtain ⟨v, hv⟩ := hko p hp
    obtain ⟨x, _, hx, hk⟩ := key_ref_inv hv
    exact ⟨x, hx, hk⟩
  have hnd : xs.Nodup := by
    have : (es.map fun p => p.1).Pairwise (· ≠ ·) := List.pairwise_map.2 hpw
    rw [h1] at this
    exact (List.pairwise_map.1 this).imp fun h e => h (by rw [e])
  have hp : xs.Perm l := (List.perm_ext_iff_of_nodup hnd h.once).2 fun x => by
    have hm : ∀ y, RefOk y → (y ∈ xs ↔ Maps.has (.map es) (refL y) = true) := fun y hy => by
      rw [has_eq, List.any_eq_true]
      constructor
      · intro hyx
        have : refL y ∈ es.map fun p => p.1 := by rw [h1]; exact List.mem_map_of_mem hyx
        obtain ⟨p, hp, e⟩ := List.mem_map.1 this
        exact ⟨p, hp, by rw [e]; exact WideAt.sameKey_self (refL_key y)⟩
      · rintro ⟨p, hp, hs⟩
        have e := WideAt.sameKey_eq hs
        have : p.1 ∈ xs.map refL := by rw [← h1]; exact List.mem_map_of_mem hp
        obtain ⟨z, hz, ez⟩ := List.mem_map.1 this
        have := refL_inj (h2 z hz) hy (ez.trans e)
        exact this ▸ hz
    constructor
    · intro hx
      have := (hm x (h2 x hx)).1 hx
      rw [h.has x (h2 x hx)] at this
      simpa using this
    · intro hx
      rw [hm x (h.ok x hx), h.has x (h.ok x hx)]
      simpa using hx
  have e1 : es.length = xs.length := by have := congrArg List.length h1; simpa using this
  rw [← hp.length_eq, ← e1]
  rfl
theorem RefD.put (h : RefD D l) (hm : IsMap D) (hr : RefOk r) (d : DataW Unit) (hl : ∀ x, x ∈ l' ↔ x ∈ l ∨ x = r) (hn : l'.Nodup) : RefD (D.put (refL r) d) l' := by
  refine ⟨fun x hx => ?_, fun x hx => ?_, hn⟩
  · by_cases e : x = r
    · subst e
      rw [has_put_same hm (refL_key x)]
      have : x ∈ l' := (hl x).2 (.inr rfl)
      simp [this]
    · rw [has_put_other (fun hh => e (refL_inj hx hr hh)), h.has x hx]
      have : x ∈ l' ↔ x ∈ l := by rw [hl]; simp [e]
      simp [this]
  · rcases (hl x).1 hx with h1 | rfl
    · exact h.ok x h1
    · exact hr
theorem RefD.del (h : RefD D l) (hr : RefOk r) (hl : ∀ x, x ∈ l' ↔ x ∈ l ∧ x ≠ r) (hn : l'.Nodup) : RefD (D.del (refL r)) l' := by
  refine ⟨fun x hx => ?_, fun x hx => h.ok x ((hl x).1 hx).1, hn⟩
  by_cases e : x = r
  · subst e
    rw [has_del_same]
    have : x ∉ l' := fun hh => ((hl x).1 hh).2 rfl
    simp [this]
  · rw [has_del_other (fun hh => e (refL_inj hx hr hh)), h.has x hx]
    have : x ∈ l' ↔ x ∈ l := by rw [hl]; simp [e]
    simp [this]
theorem RefD.nil : RefD (.map []) [] := ⟨fun x _ => by simp [Maps.has], by simp, List.nodup_nil⟩
theorem own_size {kt : TypeId} (h : w.ownsMap Try.prog kt R m n D) : w.ownsMap Try.prog kt R m (Maps.size D) D := by
  obtain ⟨es, cl, hb, F, hs, rfl⟩ := h
  exact ⟨es, cl, hb, F, by simp [Maps.size, length_sorted], rfl⟩
theorem own_keep {kt : TypeId} (h : w.ownsMap Try.prog kt R m n D) (e : w'.heap[m]? = w.heap[m]?) : w'.ownsMap Try.prog kt R m n D := by
  obtain ⟨es, cl, hb, r⟩ := h
  exact ⟨es, cl, e.trans hb, r⟩
/-- Block k is a map's. -/
def MapB (w : World) (k : Nat) : Prop := ∃ es c, w.heap[k]? = some (.map es c)
theorem own_mapB {kt : TypeId} (h : w.ownsMap Try.prog kt R m n D) : MapB w m := by
  obtain ⟨es, cl, hb, _⟩ := h
  exact ⟨es, cl, hb⟩
theorem MapB.lt (h : MapB w k) : k < w.heap.size := by
  obtain ⟨es, c, h⟩ := h
  exact (Array.getElem?_eq_some_iff.1 h).1
theorem MapB.keep (h : MapB w k) (e : w'.heap[k]? = w.heap[k]?) : MapB w' k := by
  obtain ⟨es, c, h⟩ := h
  exact ⟨es, c, e.trans h⟩
theorem MapB.ne {t : TypeId} {cs : Array Value} {b : Nat} (h : MapB w k) (hb : Whole w b t cs) : k ≠ b := by
  obtain ⟨es, c, h⟩ := h
  intro e
  subst e
  unfold Whole at hb
  rw [hb] at h
  cases h
theorem rsAft {S : List Nat} {row : Option Nat} (h : w.grownBy w' row) (hr : ∀ k, row = some k → k ∈ S) : Aft S w w' :=
  ⟨h.os, h.tape, h.output, h.size, fun k hk hs => h.block k hk (fun e => hs (hr k e.symm))⟩
end

/-- Block k is the map of a group: these references. -/
def InMap (w : World) (k : Nat) (l : List RM.R) : Prop := ∃ D : DataW Unit, w.ownsMap Try.prog 24 (plainElem Try.prog 4) k (Maps.size D) D ∧ RefD D l
section
variable {w w' : World} {k : Nat} {l l' : List RM.R} {r : RM.R}
theorem InMap.keep (h : InMap w k l) (e : w'.heap[k]? = w.heap[k]?) : InMap w' k l := by
  obtain ⟨D, h1, h2⟩ := h
  exact ⟨D, own_keep h1 e, h2⟩
theorem InMap.mapB (h : InMap w k l) : MapB w k := by obtain ⟨D, h, _⟩ := h; exact own_mapB h
theorem InMap.len (h : InMap w k l) (ty : TypeId) : (Builtin.len_ #[58] ty #[.map (some k)]).run Try.prog w = .ok (.int .i64 (l.length : Nat)) w := by
  obtain ⟨D, h1, h2⟩ := h
  rw [h1.len Try.underlying58 ty, h2.size h1]
theorem InMap.put (h : InMap w k l) (hr : RefOk r) (hn : l.length < 1000000) (hl : ∀ x, x ∈ l' ↔ x ∈ l ∨ x = r) (hd : l'.Nodup) :
    ∃ w', (Instr.mapUpdate 58 (.map (some k)) (refV r) (.bool true)).run Try.prog w = .ok () w' ∧ InMap w' k l' ∧ Aft [k] w w' ∧ w'.heap.size = w.heap.size := by
  obtain ⟨D, h1, h2⟩ := h
  have hsz := h2.size h1
  obtain ⟨w', hrun, h3, ht⟩ := h1.store law_ref Try.underlying58 (by unfold maxLen; omega) (key_ref hr) (plainElem_bool Try.underlying4 true)
  have hs : w'.heap.size = w.heap.size := by obtain ⟨es, c, es', c', _, rfl⟩ := ht; simp [ChangeMaps.setBlock]
  exact ⟨w', hrun, ⟨_, own_size h3, h2.put h1.isMap hr _ hl hd⟩, rsAft ht.grown (by simp), hs⟩
theorem InMap.del (h : InMap w k l) (hr : RefOk r) (hl : ∀ x, x ∈ l' ↔ x ∈ l ∧ x ≠ r) (hd : l'.Nodup) (ty : TypeId) :
    ∃ w', (Builtin.delete_ #[58, 24] ty #[.map (some k), refV r]).run Try.prog w = .ok (.tuple #[]) w' ∧ InMap w' k l' ∧ Aft [k] w w' ∧ w'.heap.size = w.heap.size := by
  obtain ⟨D, h1, h2⟩ := h
  obtain ⟨w', hrun, h3, ht⟩ := h1.drop law_ref Try.underlying58 (key_ref hr) ty
  have hs : w'.heap.size = w.heap.size := by obtain ⟨es, c, es', c', _, rfl⟩ := ht; simp [ChangeMaps.setBlock]
  exact ⟨w', hrun, ⟨_, own_size h3, h2.del hr hl hd⟩, rsAft ht.grown (by simp), hs⟩
theorem InMap.made (w : World) : InMap (w.alloc (.map #[] 0)) w.heap.size [] := ⟨.map [], World.ownsMap_made _ _ _ _, RefD.nil⟩
end

/-- Block m is the map of targets. -/
def RMap (w : World) (m : Nat) (L : RM.L) : Prop := ∃ D : DataW Unit, w.ownsMap Try.prog 24 (plainElem Try.prog 3) m (Maps.size D) D ∧ RefD D (L.map fun p => p.1) ∧
  ∀ r t, (r, t) ∈ L → ∀ z, D.atKey (refL r) z = .lit (.int .i64 t)
section
variable {w w' : World} {m : Nat} {L : RM.L} {r : RM.R}
theorem RMap.keep (h : RMap w m L) (e : w'.heap[m]? = w.heap[m]?) : RMap w' m L := by
  obtain ⟨D, h1, h2⟩ := h
  exact ⟨D, own_keep h1 e, h2⟩
theorem RMap.mapB (h : RMap w m L) : MapB w m := by obtain ⟨D, h, _⟩ := h; exact own_mapB h
theorem RMap.ok (h : RMap w m L) : ∀ p ∈ L, RefOk p.1 := fun p hp => by
  obtain ⟨D, _, h2, _⟩ := h
  exact h2.ok _ (List.mem_map_of_mem hp)
theorem RMap.len (h : RMap w m L) (ty : TypeId) : (Builtin.len_ #[49] ty #[.map (some m)]).run Try.prog w = .ok (.int .i64 (L.length : Nat)) w := by
  obtain ⟨D, h1, h2, _⟩ := h
  rw [h1.len Try.underlying49 ty, h2.size h1, List.length_map]
theorem RMap.look (h : RMap w m L) (hu : RM.Up L) (hr : RefOk r) : (Instr.lookup 49 (.map (some m)) (refV r) true).run Try.prog w = .ok (.tuple #[.int .i64 (RM.toV L r), .bool (RM.has L r)]) w := by
  obtain ⟨D, h1, h2, h3⟩ := h
  obtain ⟨v, ps, hrun, hR⟩ := h1.look_ok law_ref Try.underlying49 (show (zeroValue 3).run Try.prog w = .ok (.int .i64 0) w by kernel_rfl) (plainElem_int Try.underlying3 (by decide)) (key_ref hr)
  obtain ⟨c, rfl, e, _⟩ := plainElem_int_inv Try.underlying3 hR
  have hh : Maps.has D (refL r) = RM.has L r := by
    rw [h2.has r hr]
    cases hb : RM.has L r
    · have := (RM.has_not hu).1 hb
      simp only [decide_eq_false_iff_not, List.mem_map]
      rintro ⟨p, hp, rfl⟩
      exact this p.2 hp
    · obtain ⟨t, ht⟩ := (RM.has_iff hu).1 hb
      simp only [decide_eq_true_eq, List.mem_map]
      exact ⟨_, ht, rfl⟩
  rw [hrun, hh]
  have hc : c = RM.toV L r := by
    injection e with e _
    cases hb : RM.has L r
    · rw [atKey_of_not_has (by rw [hh, hb])] at e
      rw [RM.toV_none hb]
      injection e with e
      injection e with _ e
      exact e.symm
    · obtain ⟨t, ht⟩ := (RM.has_iff hu).1 hb
      rw [h3 r t ht] at e
      injection e with e
      injection e with _ e
      have := RM.to_some hb
      rw [(RM.to_iff hu).2 ht] at this
      injection this with this
      rw [← e, this]
  rw [hc]
theorem RMap.del (h : RMap w m L) (hu : RM.Up L) (hr : RefOk r) (ty : TypeId) :
    ∃ w', (Builtin.delete_ #[49, 24] ty #[.map (some m), refV r]).run Try.prog w = .ok (.tuple #[]) w' ∧ RMap w' m (RM.cut L r) ∧ Aft [m] w w' ∧ w'.heap.size = w.heap.size := by
  obtain ⟨D, h1, h2, h3⟩ := h
  obtain ⟨w', hrun, h4, ht⟩ := h1.drop law_ref Try.underlying49 (key_ref hr) ty
  have hs : w'.heap.size = w.heap.size := by obtain ⟨es, c, es', c', _, rfl⟩ := ht; simp [ChangeMaps.setBlock]
  refine ⟨w', hrun, ⟨_, own_size h4, h2.del hr (fun x => ?_) (RM.rise_nodup (RM.cut_up hu r).keys), fun x t hx z => ?_⟩, rsAft ht.grown (by simp), hs⟩
  · rw [List.mem_map, List.mem_map]
    constructor
    · rintro ⟨p, hp, rfl⟩
      obtain ⟨h1, h2⟩ := RM.mem_cut.1 hp
      exact ⟨⟨p, h1, rfl⟩, h2⟩
    · rintro ⟨⟨p, hp, rfl⟩, hne⟩
      exact ⟨p, RM.mem_cut.2 ⟨hp, hne⟩, rfl⟩
  · obtain ⟨h5, h6⟩ := RM.mem_cut.1 hx
    rw [atKey_del_other (fun hh => h6 (refL_inj (h2.ok _ (List.mem_map_of_mem h5)) hr hh))]
    exact h3 x t h5 z
theorem RMap.put (h : RMap w m L) (hu : RM.Up L) (hr : RefOk r) {t : Int} (ht : I64ok t) (hn : L.length < 1000000) (hno : ∀ t, (r, t) ∉ L) :
    ∃ w', (Instr.mapUpdate 49 (.map (some m)) (refV r) (.int .i64 t)).run Try.prog w = .ok () w' ∧ RMap w' m (RM.ins L r t) ∧ Aft [m] w w' ∧ w'.heap.size = w.heap.size := by
  obtain ⟨D, h1, h2, h3⟩ := h
  have hsz := h2.size h1
  rw [List.length_map] at hsz
  obtain ⟨w', hrun, h4, hT⟩ := h1.store law_ref Try.underlying49 (by unfold maxLen; omega) (key_ref hr) (plainElem_int Try.underlying3 ht)
  have hs : w'.heap.size = w.heap.size := by obtain ⟨es, c, es', c', _, rfl⟩ := hT; simp [ChangeMaps.setBlock]
  refine ⟨w', hrun, ⟨_, own_size h4, h2.put h1.isMap hr _ (fun x => ?_) (RM.rise_nodup (RM.ins_up hu hno).keys), fun x u hx z => ?_⟩, rsAft hT.grown (by simp), hs⟩
  · rw [List.mem_map, List.mem_map]
    constructor
    · rintro ⟨p, hp, rfl⟩
      rcases RM.mem_ins.1 hp with h | rfl
      · exact .inl ⟨p, h, rfl⟩
      · exact .inr rfl
    · rintro (⟨p, hp, rfl⟩ | rfl)
      · exact ⟨p, RM.mem_ins.2 (.inl hp), rfl⟩
      · exact ⟨(x, t), RM.mem_ins.2 (.inr rfl), rfl⟩
  · rcases RM.mem_ins.1 hx with h5 | h5
    · have hne : x ≠ r := fun e => hno u (e ▸ h5)
      rw [atKey_put_other (fun hh => hne (refL_inj (h2.ok _ (List.mem_map_of_mem h5)) hr hh))]
      exact h3 x u h5 z
    · injection h5 with h5 h6
      subst h5 h6
      exact atKey_put_same h1.isMap (refL_key x) _ _
theorem RMap.made (w : World) : RMap (w.alloc (.map #[] 0)) w.heap.size [] := ⟨.map [], World.ownsMap_made _ _ _ _, RefD.nil, by simp⟩
end

/-- How a map that is a map's element reads: by its block. -/
def mapElem (v : Value) : Option (DataW Unit × List MemPlace) :=
  match v with
  | .map (some k) => some (.lit (.int .i64 (k : Nat)), [])
  | .map none => some (.map [], [])
  | _ => none
theorem mapElem_some {v : Value} {k : Nat} {ps : List MemPlace} (h : mapElem v = some (.lit (.int .i64 (k : Nat)), ps)) : v = .map (some k) := by
  unfold mapElem at h
  split at h
  · injection h with h
    injection h with h _
    injection h with h
    injection h with _ h
    have : (_ : Nat) = k := Int.ofNat.inj h
    rw [this]
  · injection h with h
    injection h with h _
    cases h
  · cases h
theorem mapElem_none {v : Value} {ps : List MemPlace} (h : mapElem v = some (.map [], ps)) : v = .map none := by
  unfold mapElem at h
  split at h
  · injection h with h
    injection h with h _
    cases h
  · rfl
  · cases h
/-- Block g is a map of maps: to each number a block; c: no more than so many. -/
def OutMap (w : World) (g c : Nat) (G : Int → Option Nat) : Prop := ∃ D : DataW Unit, w.ownsMap Try.prog 3 mapElem g c D ∧
  (∀ z, I64ok z → Maps.has D (.int .i64 z) = (G z).isSome) ∧ ∀ z k, I64ok z → G z = some k → ∀ d, D.atKey (.int .i64 z) d = .lit (.int .i64 (k : Nat))
theorem law_int : Keyed Try.prog 3 := int_keyed Try.underlying3
theorem key_int {z : Int} (h : I64ok z) : keyOf Try.prog 3 (.int .i64 z) = some (.int .i64 z) := keyOf_int_mk Try.underlying3 h
def updG (G : Int → Option Nat) (z : Int) (o : Option Nat) : Int → Option Nat := fun y => if y = z then o else G y
section
variable {w w' : World} {g c : Nat} {G : Int → Option Nat} {z : Int}
theorem OutMap.keep (h : OutMap w g c G) (e : w'.heap[g]? = w.heap[g]?) : OutMap w' g c G := by
  obtain ⟨D, h1, h2⟩ := h
  exact ⟨D, own_keep h1 e, h2⟩
theorem OutMap.mapB (h : OutMap w g c G) : MapB w g := by obtain ⟨D, h, _⟩ := h; exact own_mapB h
theorem OutMap.look (h : OutMap w g c G) (hz : I64ok z) : (Instr.lookup 51 (.map (some g)) (.int .i64 z) false).run Try.prog w = .ok (.map (G z)) w := by
  obtain ⟨D, h1, h2, h3⟩ := h
  obtain ⟨v, ps, hrun, hR⟩ := h1.lookup law_int Try.underlying51 (show (zeroValue 58).run Try.prog w = .ok (.map none) w by kernel_rfl) (show mapElem (.map none) = some (.map [], []) from rfl) (key_int hz)
  rw [hrun]
  cases hG : G z with
  | none =>
    rw [atKey_of_not_has (by rw [h2 z hz, hG]; rfl)] at hR
    rw [mapElem_none hR]
  | some k =>
    rw [h3 z k hz hG] at hR
    rw [mapElem_some hR]
theorem OutMap.put (h : OutMap w g c G) (hz : I64ok z) (hn : c < 1000000) (k : Nat) :
    ∃ w', (Instr.mapUpdate 51 (.map (some g)) (.int .i64 z) (.map (some k))).run Try.prog w = .ok () w' ∧ OutMap w' g (c + 1) (updG G z (some k)) ∧ Aft [g] w w' ∧ w'.heap.size = w.heap.size := by
  obtain ⟨D, h1, h2, h3⟩ := h
  obtain ⟨w', hrun, h4, hT⟩ := h1.store law_int Try.underlying51 (by unfold maxLen; omega) (key_int hz) (show mapElem (.map (some k)) = some (.lit (.int .i64 (k : Nat)), []) from rfl)
  have hs : w'.heap.size = w.heap.size := by obtain ⟨es, c, es', c', _, rfl⟩ := hT; simp [ChangeMaps.setBlock]
  refine ⟨w', hrun, ⟨_, h4, fun y hy => ?_, fun y q hy hq d => ?_⟩, rsAft hT.grown (by simp), hs⟩
  · unfold updG
    by_cases e : y = z
    · subst e
      rw [has_put_same h1.isMap (show WideAt.IsKeyLit (.int .i64 y) from trivial), if_pos rfl]
      rfl
    · rw [has_put_other (fun hh => e (by injection hh)), if_neg e, h2 y hy]
  · unfold updG at hq
    by_cases e : y = z
    · subst e
      rw [if_pos rfl] at hq
      injection hq with hq
      subst hq
      exact atKey_put_same h1.isMap (show WideAt.IsKeyLit (.int .i64 y) from trivial) _ _
    · rw [if_neg e] at hq
      rw [atKey_put_other (fun hh => e (by injection hh))]
      exact h3 y q hy hq d
theorem OutMap.del (h : OutMap w g c G) (hz : I64ok z) (ty : TypeId) :
    ∃ w', (Builtin.delete_ #[51, 3] ty #[.map (some g), .int .i64 z]).run Try.prog w = .ok (.tuple #[]) w' ∧ OutMap w' g c (updG G z none) ∧ Aft [g] w w' ∧ w'.heap.size = w.heap.size := by
  obtain ⟨D, h1, h2, h3⟩ := h
  obtain ⟨w', hrun, h4, hT⟩ := h1.drop law_int Try.underlying51 (key_int hz) ty
  have hs : w'.heap.size = w.heap.size := by obtain ⟨es, c, es', c', _, rfl⟩ := hT; simp [ChangeMaps.setBlock]
  refine ⟨w', hrun, ⟨_, h4, fun y hy => ?_, fun y q hy hq d => ?_⟩, rsAft hT.grown (by simp), hs⟩
  · unfold updG
    by_cases e : y = z
    · subst e
      rw [has_del_same, if_pos rfl]
      rfl
    · rw [has_del_other (fun hh => e (by injection hh)), if_neg e, h2 y hy]
  · unfold updG at hq
    by_cases e : y = z
    · rw [if_pos e] at hq; cases hq
    · rw [if_neg e] at hq
      rw [atKey_del_other (fun hh => e (by injection hh))]
      exact h3 y q hy hq d
theorem OutMap.made (w : World) : OutMap (w.alloc (.map #[] 0)) w.heap.size 0 (fun _ => none) := ⟨.map [], World.ownsMap_made _ _ _ _, fun z _ => by simp [Maps.has], fun z k _ h => by cases h⟩
end
end Go.Proofs.Ytehkcflbdmkjpaa
