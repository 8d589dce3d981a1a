/- Plain data of spaces: parts, chunks, owners; what each call makes of them. -/
import Derived.Test.YteencfldehcbbaaDoorMgStLeaf
namespace Go.Proofs.YteencfldehcbbaaDoor
open Go.RowKit

namespace BP
set_option linter.unusedVariables false
/-- The chunks of a part; of parts. -/
def cs (x : Nat × Nat) : List Nat := (List.range x.2).map (x.1 + ·)
def chunks (P : List (Nat × Nat)) : List Nat := P.flatMap cs
/-- Owners, some chunks turned to one. -/
def setO (own : Nat → Nat) (l : List Nat) (o : Nat) : Nat → Nat := fun q => if q ∈ l then o else own q
structure Sp where
  parts : List (Nat × Nat)
  pr : Nat × Nat
  fl : Nat
structure Dt where
  own : Nat → Nat
  wd : Nat → Nat
  S : Sp
  T : Sp
def Dt.swap (D : Dt) : Dt := ⟨D.own, D.wd, D.T, D.S⟩

theorem cs_mem {c : Nat} {x : Nat × Nat} : c ∈ cs x ↔ x.1 ≤ c ∧ c < x.1 + x.2 := by
  unfold cs
  rw [List.mem_map]
  constructor
  · rintro ⟨i, hi, rfl⟩
    have := List.mem_range.1 hi
    omega
  · intro h
    exact ⟨c - x.1, List.mem_range.2 (by omega), by omega⟩
theorem cs_len (x : Nat × Nat) : (cs x).length = x.2 := by simp [cs]
theorem cs_get (x : Nat × Nat) (i : Nat) (h : i < x.2) : (cs x)[i]? = some (x.1 + i) := by simp [cs, h]
theorem mem_chunks {c : Nat} {P : List (Nat × Nat)} : c ∈ chunks P ↔ ∃ x ∈ P, x.1 ≤ c ∧ c < x.1 + x.2 := by
  unfold chunks
  rw [List.mem_flatMap]
  constructor
  · rintro ⟨x, h1, h2⟩; exact ⟨x, h1, cs_mem.1 h2⟩
  · rintro ⟨x, h1, h2⟩; exact ⟨x, h1, cs_mem.2 h2⟩
theorem chunks_app (P Q : List (Nat × Nat)) : chunks (P ++ Q) = chunks P ++ chunks Q := by simp [chunks]
theorem chunks_cons (x : Nat × Nat) (P : List (Nat × Nat)) : chunks (x :: P) = cs x ++ chunks P := rfl
theorem chunks_one (x : Nat × Nat) : chunks [x] = cs x := by simp [chunks]
theorem cs_nodup (x : Nat × Nat) : (cs x).Nodup := by
  unfold cs
  rw [List.nodup_iff_pairwise_ne, List.pairwise_map]
  have := List.nodup_iff_pairwise_ne.1 (List.nodup_range (n := x.2))
  exact this.imp fun {a b} h e => h (by omega)
theorem cs_sub {x : Nat × Nat} {P : List (Nat × Nat)} (h : x ∈ P) {c : Nat} (hc : c ∈ cs x) : c ∈ chunks P := List.mem_flatMap.2 ⟨x, h, hc⟩

/-- Two parts that share a chunk are the same. -/
theorem same_part : ∀ {P : List (Nat × Nat)}, (chunks P).Nodup → ∀ {x y : Nat × Nat} {c : Nat}, x ∈ P → y ∈ P → c ∈ cs x → c ∈ cs y → x = y
  | [], _, _, _, _, h, _, _, _ => by cases h
  | z :: P, hn, x, y, c, hx, hy, cx, cy => by
    rw [chunks_cons, List.nodup_append] at hn
    obtain ⟨_, h2, h3⟩ := hn
    rcases List.mem_cons.1 hx with ex | hx1
    · rcases List.mem_cons.1 hy with ey | hy1
      · rw [ex, ey]
      · exact absurd rfl (h3 c (ex ▸ cx) c (cs_sub hy1 cy))
    · rcases List.mem_cons.1 hy with ey | hy1
      · exact absurd rfl (h3 c (ey ▸ cy) c (cs_sub hx1 cx))
      · exact same_part h2 hx1 hy1 cx cy
theorem filter_sub (f : Nat × Nat → Bool) : ∀ P, (chunks (P.filter f)).Sublist (chunks P)
  | [] => List.Sublist.refl _
  | x :: P => by
    rw [List.filter_cons, chunks_cons]
    split
    · rw [chunks_cons]; exact (List.Sublist.refl _).append (filter_sub f P)
    · exact (filter_sub f P).trans (List.sublist_append_right _ _)
theorem filter_mem {P : List (Nat × Nat)} (hn : (chunks P).Nodup) {x : Nat × Nat} (hx : x ∈ P) {c : Nat} : c ∈ chunks (P.filter fun y => decide (y ≠ x)) ↔ c ∈ chunks P ∧ c ∉ cs x := by
  constructor
  · intro h
    refine ⟨(filter_sub _ P).subset h, fun hc => ?_⟩
    obtain ⟨y, h1, h2⟩ := mem_chunks.1 h
    obtain ⟨h3, h4⟩ := List.mem_filter.1 h1
    have := same_part hn h3 hx (cs_mem.2 h2) hc
    simp [this] at h4
  · rintro ⟨h1, h2⟩
    obtain ⟨y, h3, h4⟩ := mem_chunks.1 h1
    refine mem_chunks.2 ⟨y, List.mem_filter.2 ⟨h3, ?_⟩, h4⟩
    simp
    rintro rfl
    exact h2 (cs_mem.2 h4)
theorem nodup_len : ∀ (C : Nat) (l : List Nat), l.Nodup → (∀ x ∈ l, x < C) → l.length ≤ C
  | 0, l, _, h => by
    cases l with
    | nil => simp
    | cons a l => exact absurd (h a (by simp)) (by omega)
  | C + 1, l, hn, h => by
    have ih := nodup_len C (l.erase C) (hn.erase C) fun x hx => by
      have h1 := (hn.mem_erase_iff).1 hx
      have := h x h1.2
      omega
    by_cases hm : C ∈ l
    · rw [List.length_erase_of_mem hm] at ih; omega
    · rw [List.erase_of_not_mem hm] at ih; omega
theorem parts_len : ∀ {P : List (Nat × Nat)}, (∀ x ∈ P, 1 ≤ x.2) → P.length ≤ (chunks P).length
  | [], _ => by simp
  | x :: P, h => by
    have h1 := h x (by simp)
    have := parts_len (P := P) fun y hy => h y (by simp [hy])
    rw [chunks_cons, List.length_append, cs_len, List.length_cons]
    omega

/-- A space is as it may be. -/
structure Good (C K o : Nat) (own : Nat → Nat) (S : Sp) : Prop where
  one : ∀ x ∈ S.parts, 1 ≤ x.2
  nod : (chunks S.parts).Nodup
  has : ∀ c ∈ chunks S.parts, c < C ∧ own c = o
  pr : S.pr = (0, 0) ∨ (S.pr ∈ S.parts ∧ S.pr.2 = 1)
  fl : S.fl ≤ K
section
variable {C K o o' : Nat} {own own' : Nat → Nat} {S T : Sp}
theorem Good.len (h : Good C K o own S) : S.parts.length ≤ C := Nat.le_trans (parts_len h.one) (nodup_len C _ h.nod fun x hx => (h.has x hx).1)
theorem Good.part (h : Good C K o own S) {x : Nat × Nat} (hx : x ∈ S.parts) : 1 ≤ x.2 ∧ x.1 + x.2 ≤ C := by
  have h1 := h.one x hx
  have := (h.has (x.1 + x.2 - 1) (cs_sub hx (cs_mem.2 (by omega)))).1
  omega
theorem Good.clen (h : Good C K o own S) : (chunks S.parts).length ≤ C := nodup_len C _ h.nod fun x hx => (h.has x hx).1
theorem Good.none (C K o : Nat) (own : Nat → Nat) : Good C K o own ⟨[], (0, 0), 0⟩ := ⟨fun _ h => (by cases h), List.nodup_nil, fun _ h => (by cases h), .inl rfl, Nat.zero_le _⟩
theorem Good.keep (h : Good C K o own S) (e : ∀ c ∈ chunks S.parts, own' c = own c) : Good C K o own' S :=
  ⟨h.one, h.nod, fun c hc => ⟨(h.has c hc).1, (e c hc).trans (h.has c hc).2⟩, h.pr, h.fl⟩
theorem Good.prlt (h : Good C K o own S) : S.pr.2 ≤ 1 ∧ (S.pr = (0, 0) ∨ S.pr.1 < C) := by
  rcases h.pr with e | ⟨h1, h2⟩
  · rw [e]; exact ⟨by simp, .inl rfl⟩
  · have := h.part h1
    exact ⟨by omega, .inr (by omega)⟩
end
/-- Both spaces. -/
structure Good2 (C K o o' : Nat) (D : Dt) : Prop where
  a : Good C K o D.own D.S
  b : Good C K o' D.own D.T
  o1 : 1 ≤ o
  o2 : 1 ≤ o'
  ne : o ≠ o'
theorem Good2.swap {C K o o' : Nat} {D : Dt} (h : Good2 C K o o' D) : Good2 C K o' o D.swap := ⟨h.b, h.a, h.o2, h.o1, h.ne.symm⟩

def room (K : Nat) (S : Sp) : Nat := if S.pr = (0, 0) then 0 else K - S.fl
def need (K n : Nat) : Nat := (n - 1) / K + 1
def isBig (P : List (Nat × Nat)) (c : Int) : Bool := P.any fun x => decide (1 < x.2) && (decide ((x.1 : Int) ≤ c) && decide (c - x.1 < x.2))
/-- Alloc: the error, the address, what is left. -/
def alE (C K o : Nat) (D : Dt) (n : Int) : Int := if n < 1 then 2 else if n.toNat ≤ room K D.S then 0 else tkE D.own C o (need K n.toNat : Nat)
def alA (C K o : Nat) (D : Dt) (n : Int) : Nat := if n < 1 then 0 else if n.toNat ≤ room K D.S then D.S.pr.1 * K + D.S.fl else tkP D.own C o (need K n.toNat : Nat) * K
def alD (C K o : Nat) (D : Dt) (n : Int) : Dt :=
  if n < 1 then D else if n.toNat ≤ room K D.S then { D with S := { D.S with fl := D.S.fl + n.toNat } }
  else if tkE D.own C o (need K n.toNat : Nat) = 0 then
    ⟨tkOwnA D.own C o (need K n.toNat : Nat), tkWdA D.own D.wd C K o (need K n.toNat : Nat),
      ⟨D.S.parts ++ [(tkP D.own C o (need K n.toNat : Nat), need K n.toNat)], if need K n.toNat = 1 then (tkP D.own C o (need K n.toNat : Nat), 1) else D.S.pr, if need K n.toNat = 1 then n.toNat else D.S.fl⟩, D.T⟩
  else D
def fromP (P : List (Nat × Nat)) (first : Int) : Nat × Nat := (P.find? fun x => decide ((x.1 : Int) = first)).getD (0, 0)
def rmS (S : Sp) (x : Nat × Nat) : Sp := ⟨S.parts.filter fun y => decide (y ≠ x), if x = S.pr then (0, 0) else S.pr, if x = S.pr then 0 else S.fl⟩
def joinD (o : Nat) (D : Dt) : Dt := ⟨setO D.own (chunks D.T.parts) o, D.wd, ⟨D.S.parts ++ D.T.parts, if D.T.pr = (0, 0) then D.S.pr else D.T.pr, if D.T.pr = (0, 0) then D.S.fl else D.T.fl⟩, ⟨[], (0, 0), 0⟩⟩
def handE (D : Dt) (first : Int) : Int := if (fromP D.S.parts first).2 ≤ 1 then 6 else 0
def handD (o' : Nat) (D : Dt) (first : Int) : Dt :=
  if (fromP D.S.parts first).2 ≤ 1 then D else ⟨setO D.own (cs (fromP D.S.parts first)) o', D.wd, rmS D.S (fromP D.S.parts first), ⟨D.T.parts ++ [fromP D.S.parts first], D.T.pr, D.T.fl⟩⟩
def dropE (D : Dt) (first : Int) : Int := if fromP D.S.parts first = (0, 0) then 6 else 0
def dropD (D : Dt) (first : Int) : Dt := if fromP D.S.parts first = (0, 0) then D else ⟨setO D.own (cs (fromP D.S.parts first)) 0, D.wd, rmS D.S (fromP D.S.parts first), D.T⟩
def clearD (D : Dt) : Dt := ⟨setO D.own (chunks D.S.parts) 0, D.wd, ⟨[], (0, 0), 0⟩, D.T⟩

theorem from_cases {P : List (Nat × Nat)} (first : Int) : (fromP P first = (0, 0) ∧ ∀ x ∈ P, (x.1 : Int) ≠ first) ∨ (fromP P first ∈ P ∧ ((fromP P first).1 : Int) = first) := by
  unfold fromP
  cases h : P.find? fun x => decide ((x.1 : Int) = first) with
  | none =>
    refine .inl ⟨rfl, fun x hx => ?_⟩
    have := List.find?_eq_none.1 h x hx
    simpa using this
  | some x =>
    refine .inr ⟨List.mem_of_find?_eq_some h, ?_⟩
    have := List.find?_some h
    simpa using this

section
variable {C K o o' : Nat} {D : Dt}
theorem setO_in {own : Nat → Nat} {l : List Nat} {q x : Nat} (h : q ∈ l) : setO own l x q = x := by unfold setO; rw [if_pos h]
theorem setO_out {own : Nat → Nat} {l : List Nat} {q x : Nat} (h : q ∉ l) : setO own l x q = own q := by unfold setO; rw [if_neg h]
/-- No chunk is both ones'. -/
theorem Good2.apart (h : Good2 C K o o' D) {c : Nat} (h1 : c ∈ chunks D.S.parts) (h2 : c ∈ chunks D.T.parts) : False := h.ne ((h.a.has c h1).2.symm.trans (h.b.has c h2).2)
theorem Good.rm {own own' : Nat → Nat} {S : Sp} (h : Good C K o own S) {x : Nat × Nat} (hx : x ∈ S.parts) (e : ∀ c, c ∉ cs x → own' c = own c) : Good C K o own' (rmS S x) := by
  refine ⟨fun y hy => h.one y (List.mem_filter.1 hy).1, (filter_sub _ _).nodup h.nod, fun c hc => ?_, ?_, ?_⟩
  · obtain ⟨h1, h2⟩ := (filter_mem h.nod hx).1 hc
    exact ⟨(h.has c h1).1, (e c h2).trans (h.has c h1).2⟩
  · show (if x = S.pr then ((0, 0) : Nat × Nat) else S.pr) = (0, 0) ∨ _
    by_cases hp : x = S.pr
    · rw [if_pos hp]; exact .inl rfl
    · rw [if_neg hp]
      rcases h.pr with e | ⟨h1, h2⟩
      · exact .inl e
      · refine .inr ⟨List.mem_filter.2 ⟨by rw [show (rmS S x).pr = S.pr by unfold rmS; rw [if_neg hp]]; exact h1, ?_⟩, ?_⟩
        · rw [show (rmS S x).pr = S.pr by unfold rmS; rw [if_neg hp]]
          simp; exact fun e => hp e.symm
        · rw [show (rmS S x).pr = S.pr by unfold rmS; rw [if_neg hp]]; exact h2
  · show (if x = S.pr then 0 else S.fl) ≤ K
    split
    · omega
    · exact h.fl
theorem join_good (h : Good2 C K o o' D) : Good2 C K o o' (joinD o D) := by
  refine ⟨⟨fun x hx => ?_, ?_, fun c hc => ?_, ?_, ?_⟩, Good.none _ _ _ _, h.o1, h.o2, h.ne⟩
  · rcases List.mem_append.1 hx with h1 | h1
    · exact h.a.one x h1
    · exact h.b.one x h1
  · show (chunks (D.S.parts ++ D.T.parts)).Nodup
    rw [chunks_app, List.nodup_append]
    exact ⟨h.a.nod, h.b.nod, fun a ha b hb e => h.apart ha (e ▸ hb)⟩
  · have hc' : c ∈ chunks D.S.parts ++ chunks D.T.parts := by rw [← chunks_app]; exact hc
    rcases List.mem_append.1 hc' with h1 | h1
    · exact ⟨(h.a.has c h1).1, (setO_out fun h2 => h.apart h1 h2).trans (h.a.has c h1).2⟩
    · exact ⟨(h.b.has c h1).1, setO_in h1⟩
  · show (if D.T.pr = (0, 0) then D.S.pr else D.T.pr) = (0, 0) ∨ ((if D.T.pr = (0, 0) then D.S.pr else D.T.pr) ∈ D.S.parts ++ D.T.parts ∧ (if D.T.pr = (0, 0) then D.S.pr else D.T.pr).2 = 1)
    by_cases hp : D.T.pr = (0, 0)
    · rw [if_pos hp]
      rcases h.a.pr with e | ⟨h1, h2⟩
      · exact .inl e
      · exact .inr ⟨List.mem_append.2 (.inl h1), h2⟩
    · rw [if_neg hp]
      rcases h.b.pr with e | ⟨h1, h2⟩
      · exact .inl e
      · exact .inr ⟨List.mem_append.2 (.inr h1), h2⟩
  · show (if D.T.pr = (0, 0) then D.S.fl else D.T.fl) ≤ K
    split
    · exact h.a.fl
    · exact h.b.fl
theorem drop_good (h : Good2 C K o o' D) (first : Int) : Good2 C K o o' (dropD D first) := by
  unfold dropD
  rcases from_cases (P := D.S.parts) first with ⟨e, _⟩ | ⟨e, _⟩
  · rw [if_pos e]; exact h
  · by_cases hz : fromP D.S.parts first = (0, 0)
    · rw [if_pos hz]; exact h
    · rw [if_neg hz]
      refine ⟨h.a.rm e fun _ hc => setO_out hc, h.b.keep fun c hc => setO_out fun h1 => h.apart (cs_sub e h1) hc, h.o1, h.o2, h.ne⟩
theorem hand_good (h : Good2 C K o o' D) (first : Int) : Good2 C K o o' (handD o' D first) := by
  unfold handD
  by_cases hz : (fromP D.S.parts first).2 ≤ 1
  · rw [if_pos hz]; exact h
  · rw [if_neg hz]
    rcases from_cases (P := D.S.parts) first with ⟨e, _⟩ | ⟨e, _⟩
    · rw [e] at hz; exact absurd (by simp) hz
    · refine ⟨h.a.rm e fun _ hc => setO_out hc, ⟨fun x hx => ?_, ?_, fun c hc => ?_, ?_, h.b.fl⟩, h.o1, h.o2, h.ne⟩
      · rcases List.mem_append.1 hx with h1 | h1
        · exact h.b.one x h1
        · rw [List.mem_singleton.1 h1]; omega
      · show (chunks (D.T.parts ++ [fromP D.S.parts first])).Nodup
        rw [chunks_app, chunks_one, List.nodup_append]
        exact ⟨h.b.nod, cs_nodup _, fun a ha b hb e2 => h.apart (cs_sub e (e2 ▸ hb)) ha⟩
      · have hc' : c ∈ chunks D.T.parts ++ cs (fromP D.S.parts first) := by rw [← chunks_one, ← chunks_app]; exact hc
        rcases List.mem_append.1 hc' with h1 | h1
        · exact ⟨(h.b.has c h1).1, (setO_out fun h2 => h.apart (cs_sub e h2) h1).trans (h.b.has c h1).2⟩
        · exact ⟨(h.a.has c (cs_sub e h1)).1, setO_in h1⟩
      · rcases h.b.pr with e2 | ⟨h1, h2⟩
        · exact .inl e2
        · exact .inr ⟨List.mem_append.2 (.inl h1), h2⟩
theorem clear_good (h : Good2 C K o o' D) : Good2 C K o o' (clearD D) :=
  ⟨Good.none _ _ _ _, h.b.keep fun c hc => setO_out fun h1 => h.apart h1 hc, h.o1, h.o2, h.ne⟩
theorem need_one {K n : Nat} (hK : 1 ≤ K) (hn : 1 ≤ n) : need K n = 1 ↔ n ≤ K := by
  unfold need
  constructor
  · intro h
    have : (n - 1) / K = 0 := by generalize (n - 1) / K = a at h; omega
    rcases Nat.div_eq_zero_iff.1 this with h | h
    · omega
    · omega
  · intro h
    rw [Nat.div_eq_of_lt (by omega)]
theorem need_pos (K n : Nat) : 1 ≤ need K n := by unfold need; generalize (n - 1) / K = a; omega
/-- What is taken. -/
theorem tk_parts {own : Nat → Nat} {C k : Nat} {o : Nat} (h : tkE own C o (k : Nat) = 0) :
    1 ≤ k ∧ 1 ≤ o ∧ tkP own C o (k : Nat) + k ≤ C ∧ (∀ c, tkP own C o (k : Nat) ≤ c → c < tkP own C o (k : Nat) + k → own c = 0) ∧ tkOwnA own C o (k : Nat) = setO own (cs (tkP own C o (k : Nat), k)) o := by
  have h' := h
  obtain ⟨y, m, e1, e2, h1, h2, h3⟩ := tkE_ok h
  obtain rfl : y = o := by omega
  obtain rfl : m = k := by omega
  have hP : tkP own C y (m : Nat) = BM.rn (busy own) C m := by unfold tkP; rw [if_pos h', Int.toNat_natCast]
  rw [hP]
  have hr := BM.rn_is _ _ _ h3
  refine ⟨h2, h1, by omega, fun c a b => ?_, ?_⟩
  · have := (BM.runAt_iff _ _ _).1 hr c a b
    simpa [busy] using this
  · unfold tkOwnA
    rw [if_pos h', Int.toNat_natCast, Int.toNat_natCast]
    funext q
    unfold tkOwn setO
    by_cases hq : BM.rn (busy own) C m ≤ q ∧ q < BM.rn (busy own) C m + m
    · rw [if_pos hq, if_pos (cs_mem.2 hq)]
    · rw [if_neg hq, if_neg fun hh => hq (cs_mem.1 hh)]
theorem alloc_good (hK : 1 ≤ K) (h : Good2 C K o o' D) (n : Int) : Good2 C K o o' (alD C K o D n) := by
  unfold alD
  by_cases h1 : n < 1
  · rw [if_pos h1]; exact h
  · rw [if_neg h1]
    by_cases h2 : n.toNat ≤ room K D.S
    · rw [if_pos h2]
      refine ⟨⟨h.a.one, h.a.nod, h.a.has, h.a.pr, ?_⟩, h.b, h.o1, h.o2, h.ne⟩
      have hf := h.a.fl
      unfold room at h2
      split at h2
      · omega
      · show D.S.fl + n.toNat ≤ K; omega
    · rw [if_neg h2]
      by_cases h3 : tkE D.own C o (need K n.toNat : Nat) = 0
      · rw [if_pos h3]
        obtain ⟨k1, _, k2, k3, k4⟩ := tk_parts h3
        generalize hp : tkP D.own C o (need K n.toNat : Nat) = p at *
        have ha : ∀ c, c ∈ cs (p, need K n.toNat) → D.own c = 0 := fun c hc => k3 c (cs_mem.1 hc).1 (cs_mem.1 hc).2
        have hS : ∀ c ∈ chunks D.S.parts, c ∉ cs (p, need K n.toNat) := fun c hc h5 => by have := (h.a.has c hc).2; have := ha c h5; have := h.o1; omega
        have hT : ∀ c ∈ chunks D.T.parts, c ∉ cs (p, need K n.toNat) := fun c hc h5 => by have := (h.b.has c hc).2; have := ha c h5; have := h.o2; omega
        rw [k4]
        refine ⟨⟨fun x hx => ?_, ?_, fun c hc => ?_, ?_, ?_⟩, h.b.keep fun c hc => setO_out (hT c hc), h.o1, h.o2, h.ne⟩
        · rcases List.mem_append.1 hx with h5 | h5
          · exact h.a.one x h5
          · rw [List.mem_singleton.1 h5]; exact k1
        · show (chunks (D.S.parts ++ [(p, need K n.toNat)])).Nodup
          rw [chunks_app, chunks_one, List.nodup_append]
          exact ⟨h.a.nod, cs_nodup _, fun a h5 b h6 e => hS a h5 (e ▸ h6)⟩
        · have hc' : c ∈ chunks D.S.parts ++ cs (p, need K n.toNat) := by rw [← chunks_one, ← chunks_app]; exact hc
          rcases List.mem_append.1 hc' with h5 | h5
          · exact ⟨(h.a.has c h5).1, (setO_out (hS c h5)).trans (h.a.has c h5).2⟩
          · have := cs_mem.1 h5
            exact ⟨by simp at this; omega, setO_in h5⟩
        · show (if need K n.toNat = 1 then (p, 1) else D.S.pr) = (0, 0) ∨ ((if need K n.toNat = 1 then (p, 1) else D.S.pr) ∈ D.S.parts ++ [(p, need K n.toNat)] ∧ (if need K n.toNat = 1 then (p, 1) else D.S.pr).2 = 1)
          by_cases h5 : need K n.toNat = 1
          · rw [if_pos h5, h5]; exact .inr ⟨by simp, rfl⟩
          · rw [if_neg h5]
            rcases h.a.pr with e | ⟨h6, h7⟩
            · exact .inl e
            · exact .inr ⟨List.mem_append.2 (.inl h6), h7⟩
        · show (if need K n.toNat = 1 then n.toNat else D.S.fl) ≤ K
          have hf := h.a.fl
          split
          · rename_i h5
            exact (need_one hK (by omega)).1 h5
          · exact hf
      · rw [if_neg h3]; exact h
end
end BP
end Go.Proofs.YteencfldehcbbaaDoor
