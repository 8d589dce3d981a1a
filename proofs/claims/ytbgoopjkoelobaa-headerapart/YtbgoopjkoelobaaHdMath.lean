/- Plain mathematics of a header's word and a link's word: no program in sight. -/
import Derived.Test.YtbgoopjkoelobaaMath
namespace Go.Proofs.Ytbgoopjkoelobaa.HM
open Go.RowKit

/-- A header that may be. -/
def may (L C S : Int) : Bool := decide (1 ≤ L ∧ L ≤ 64 ∧ 0 ≤ C ∧ C ≤ 1024 ∧ 0 ≤ S ∧ S ≤ 4095)
theorem may_iff (L C S : Int) : may L C S = true ↔ (1 ≤ L ∧ L ≤ 64 ∧ 0 ≤ C ∧ C ≤ 1024 ∧ 0 ≤ S ∧ S ≤ 4095) := by simp [may]
theorem may_not (L C S : Int) : may L C S = false ↔ ¬ (1 ≤ L ∧ L ≤ 64 ∧ 0 ≤ C ∧ C ≤ 1024 ∧ 0 ≤ S ∧ S ≤ 4095) := by
  unfold may
  exact decide_eq_false_iff_not
/-- Its word. -/
def word (L C S : Int) : Int := ((2768240640 + L) * 65536 + C) * 65536 + S
/-- Whether a word is one of a header, and what it tells: zeros, if it is none. -/
def hok (x : Int) : Bool := decide (1 ≤ x / 4294967296 % 256 ∧ x / 4294967296 % 256 ≤ 64 ∧ x / 65536 % 65536 ≤ 1024 ∧ x % 65536 ≤ 4095 ∧ x / 1099511627776 = 10813440)
theorem hok_iff (x : Int) : hok x = true ↔ (1 ≤ x / 4294967296 % 256 ∧ x / 4294967296 % 256 ≤ 64 ∧ x / 65536 % 65536 ≤ 1024 ∧ x % 65536 ≤ 4095 ∧ x / 1099511627776 = 10813440) := by simp [hok]
theorem hok_not (x : Int) : hok x = false ↔ ¬ (1 ≤ x / 4294967296 % 256 ∧ x / 4294967296 % 256 ≤ 64 ∧ x / 65536 % 65536 ≤ 1024 ∧ x % 65536 ≤ 4095 ∧ x / 1099511627776 = 10813440) := by
  unfold hok
  exact decide_eq_false_iff_not
def dL (x : Int) : Int := if hok x = true then x / 4294967296 % 256 else 0
def dC (x : Int) : Int := if hok x = true then x / 65536 % 65536 else 0
def dS (x : Int) : Int := if hok x = true then x % 65536 else 0
def dE (x : Int) : Int := if hok x = true then 0 else 4
/-- What Encode answers. -/
def eW (L C S : Int) : Int := if may L C S = true then word L C S else 0
def eE (L C S : Int) : Int := if may L C S = true then 0 else 3

theorem word_lt {L C S : Int} (h : may L C S = true) : FM.Word (word L C S) := by
  rw [may_iff] at h
  unfold word FM.Word
  omega
theorem eW_word (L C S : Int) : FM.Word (eW L C S) := by
  unfold eW
  split
  · exact word_lt ‹_›
  · unfold FM.Word; omega
/-- What is packed tells the header again. -/
theorem hok_word {L C S : Int} (h : may L C S = true) : hok (word L C S) = true ∧ word L C S / 4294967296 % 256 = L ∧ word L C S / 65536 % 65536 = C ∧ word L C S % 65536 = S := by
  rw [may_iff] at h
  rw [hok_iff]
  unfold word
  omega
theorem word_hok {x : Int} (h : hok x = true) : may (x / 4294967296 % 256) (x / 65536 % 65536) (x % 65536) = true ∧ word (x / 4294967296 % 256) (x / 65536 % 65536) (x % 65536) = x := by
  rw [hok_iff] at h
  rw [may_iff]
  unfold word
  omega

/-- A link that may be. -/
def lmay (K I G : Int) : Bool := decide ((K = 2 ∧ 0 ≤ I ∧ I ≤ 4095 ∧ 1 ≤ G ∧ G ≤ 255) ∨ ((K = 0 ∨ K = 1) ∧ I = 0 ∧ G = 0))
theorem lmay_iff (K I G : Int) : lmay K I G = true ↔ ((K = 2 ∧ 0 ≤ I ∧ I ≤ 4095 ∧ 1 ≤ G ∧ G ≤ 255) ∨ ((K = 0 ∨ K = 1) ∧ I = 0 ∧ G = 0)) := by simp [lmay]
theorem lmay_not (K I G : Int) : lmay K I G = false ↔ ¬ ((K = 2 ∧ 0 ≤ I ∧ I ≤ 4095 ∧ 1 ≤ G ∧ G ≤ 255) ∨ ((K = 0 ∨ K = 1) ∧ I = 0 ∧ G = 0)) := by
  unfold lmay
  exact decide_eq_false_iff_not
def lword (K I G : Int) : Int := if K = 2 then G * 4294967296 + I + 2 else K
/-- Whether a word is a token's. -/
def tok (x : Int) : Bool := decide (2 ≤ x % 4294967296 ∧ x % 4294967296 ≤ 4097 ∧ 1 ≤ x / 4294967296 ∧ x / 4294967296 ≤ 255)
theorem tok_iff (x : Int) : tok x = true ↔ (2 ≤ x % 4294967296 ∧ x % 4294967296 ≤ 4097 ∧ 1 ≤ x / 4294967296 ∧ x / 4294967296 ≤ 255) := by simp [tok]
theorem tok_not (x : Int) : tok x = false ↔ ¬ (2 ≤ x % 4294967296 ∧ x % 4294967296 ≤ 4097 ∧ 1 ≤ x / 4294967296 ∧ x / 4294967296 ≤ 255) := by
  unfold tok
  exact decide_eq_false_iff_not
/-- What Link answers: the kind, the token, the error. -/
def kK (x : Int) : Int := if tok x = true then 2 else if x = 1 then 1 else 0
def kI (x : Int) : Int := if tok x = true then x % 4294967296 - 2 else 0
def kG (x : Int) : Int := if tok x = true then x / 4294967296 else 0
def kE (x : Int) : Int := if tok x = true then 0 else if x = 1 then 0 else if x = 0 then 0 else 4
/-- What Word answers. -/
def wW (K I G : Int) : Int := if lmay K I G = true then lword K I G else 0
def wE (K I G : Int) : Int := if lmay K I G = true then 0 else 3
theorem lword_lt {K I G : Int} (h : lmay K I G = true) : FM.Word (lword K I G) := by
  rw [lmay_iff] at h
  unfold lword FM.Word
  split <;> omega
theorem wW_word (K I G : Int) : FM.Word (wW K I G) := by
  unfold wW
  split
  · exact lword_lt ‹_›
  · unfold FM.Word; omega
theorem link_word {K I G : Int} (h : lmay K I G = true) : kE (lword K I G) = 0 ∧ kK (lword K I G) = K ∧ kI (lword K I G) = I ∧ kG (lword K I G) = G := by
  rw [lmay_iff] at h
  by_cases hK : K = 2
  · have ht : tok (lword K I G) = true := by rw [tok_iff]; unfold lword; rw [if_pos hK]; omega
    unfold kE kK kI kG
    rw [if_pos ht, if_pos ht, if_pos ht, if_pos ht]
    unfold lword
    rw [if_pos hK]
    refine ⟨rfl, hK.symm, ?_, ?_⟩ <;> omega
  · have hl : lword K I G = K := by unfold lword; rw [if_neg hK]
    have ht : tok K = false := by rw [tok_not]; omega
    unfold kE kK kI kG
    rw [hl, ht]
    simp
    omega
theorem word_link {x : Int} (h : kE x = 0) : lmay (kK x) (kI x) (kG x) = true ∧ lword (kK x) (kI x) (kG x) = x := by
  by_cases ht : tok x = true
  · unfold kK kI kG
    simp only [ht, if_true]
    rw [tok_iff] at ht
    rw [lmay_iff]
    unfold lword
    rw [if_pos rfl]
    omega
  · have ht' : tok x = false := by simpa using ht
    unfold kE at h
    unfold kK kI kG
    simp only [ht', Bool.false_eq_true, if_false] at h ⊢
    rw [lmay_iff]
    unfold lword
    by_cases h1 : x = 1
    · subst h1; simp
    · by_cases h0 : x = 0
      · subst h0; simp
      · simp [h1, h0] at h
end Go.Proofs.Ytbgoopjkoelobaa.HM
