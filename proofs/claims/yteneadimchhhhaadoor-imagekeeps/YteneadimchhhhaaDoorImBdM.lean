/- Plain data of the laws of images: what is at an object that was made, which words a call turns. -/
import Derived.Test.YteneadimchhhhaaDoorImTake
import Derived.Test.YteneadimchhhhaaDoorImAtH
namespace Go.Proofs.YteneadimchhhhaaDoor
open Go.RowKit

theorem ad5 (D : List LD) {i : Nat} (h : i < 40) : IM.adE (cf5 D) (i : Int) = 0 := by
  show addrE (own5 5) 6 8 (i : Int) = 0
  have h1 : own5 5 (i / 8) = 1 := by unfold own5; rw [if_pos (by omega)]
  rw [addrE_in (by omega), h1]
  rfl
theorem any5 {a n : Nat} (h : a + n ≤ 40) : anyFree (own5 5) 8 a n = false :=
  (anyFree_not _ _ _ _).2 fun i hi => by
    unfold own5
    rw [if_pos (by omega)]
    omega
theorem cp5 (D : List LD) {a b n : Nat} (h1 : a + n ≤ 40) (h2 : b + n ≤ 40) : copyE (cf5 D).own (cf5 D).C (cf5 D).K a b n = 0 := by
  show copyE (own5 5) 6 8 a b n = 0
  unfold copyE
  rw [if_pos ⟨(inB_iff _ _ _).2 (by omega), (inB_iff _ _ _).2 (by omega)⟩]
  rw [if_neg]
  rw [Int.toNat_natCast, Int.toNat_natCast, Int.toNat_natCast, any5 h1, any5 h2]
  simp
theorem at_hd {q : Cf} {wd : Nat → Nat} {a L C S : Int} (ha : IM.adE q a = 0) (hm : HM.may L C S = true) (hw : IM.hd wd a = HM.word L C S) (hs : IM.szE q.D L C = 0) :
    IM.atE q wd a = 0 ∧ IM.atL q wd a = L ∧ IM.atC q wd a = C ∧ IM.atS q wd a = S ∧ IM.atN q wd a = IM.szN q.D L C := by
  obtain ⟨h1, h2, h3, h4⟩ := HM.hok_word hm
  have dL : HM.dL (IM.hd wd a) = L := by unfold HM.dL; rw [hw, if_pos h1, h2]
  have dC : HM.dC (IM.hd wd a) = C := by unfold HM.dC; rw [hw, if_pos h1, h3]
  have dS : HM.dS (IM.hd wd a) = S := by unfold HM.dS; rw [hw, if_pos h1, h4]
  have dE : HM.dE (IM.hd wd a) = 0 := by unfold HM.dE; rw [hw, if_pos h1]
  have hE : IM.atE q wd a = 0 := by unfold IM.atE; rw [if_pos ha, if_pos dE, dL, dC]; exact hs
  refine ⟨hE, ?_, ?_, ?_, ?_⟩
  · unfold IM.atL; rw [if_pos hE, dL]
  · unfold IM.atC; rw [if_pos hE, dC]
  · unfold IM.atS; rw [if_pos hE, dS]
  · unfold IM.atN; rw [if_pos hE, dL, dC]
theorem mk_ok {D : List LD} {wd : Nat → Nat} {a n : Nat} {L C S : Int} (hm : HM.may L C S = true) (hs : IM.szE D L C = 0) (hn : IM.szN D L C = (n : Int)) (ha : a + n ≤ 40) :
    IM.mkE (cf5 D) a L C S = 0 ∧ IM.mkN (cf5 D) a L C S = n ∧ IM.mkW (cf5 D) wd a L C S = IM.laid wd a n (HM.word L C S).toNat := by
  have he : HM.eE L C S = 0 := by unfold HM.eE; rw [if_pos hm]
  have hw : HM.eW L C S = HM.word L C S := by unfold HM.eW; rw [if_pos hm]
  have hE : IM.mkE (cf5 D) a L C S = 0 := by
    unfold IM.mkE
    rw [if_pos he, if_pos (show IM.szE (cf5 D).D L C = 0 from hs)]
    rw [show IM.szN (cf5 D).D L C = (n : Int) from hn]
    exact cp5 D ha ha
  refine ⟨hE, ?_, ?_⟩
  · unfold IM.mkN; rw [if_pos hE]; exact hn
  · unfold IM.mkW
    rw [if_pos hE, show IM.szN (cf5 D).D L C = (n : Int) from hn, hw, Int.toNat_natCast, Int.toNat_natCast]
theorem sz_lay {D : List LD} {L C : Int} {l : LD} (h : IM.lay D L = some l) : IM.szE D L C = LM.code l.F l.R l.xs l.ys C ∧ (LM.code l.F l.R l.xs l.ys C = 0 → IM.szN D L C = 1 + LM.size l.F l.R l.xs l.ys C) := by
  have hE : IM.szE D L C = LM.code l.F l.R l.xs l.ys C := by unfold IM.szE; rw [h]
  refine ⟨hE, fun hz => ?_⟩
  unfold IM.szN
  rw [hE, if_pos hz, h]
theorem ld_pl {q : Cf} {wd : Nat → Nat} {a p : Int} (h : IM.ldE q wd a p = 0) : IM.plE q wd a p false = 0 := by
  unfold IM.ldE at h
  by_cases hz : IM.plE q wd a p false = 0
  · exact hz
  · rw [if_neg hz] at h
    exact absurd h hz
theorem ti_pl {q : Cf} {wd : Nat → Nat} {a p K J G : Int} (h : IM.tiE q wd a p K J G = 0) : IM.plE q wd a p true = 0 := by
  unfold IM.tiE at h
  by_cases hz : IM.plE q wd a p true = 0
  · exact hz
  · rw [if_neg hz] at h
    exact absurd h hz

/-- The words of the law ImageBounds: the header at 8; all others but the object's are as they were written. -/
structure BdW (n : Nat) (hw : Int) (f : Nat → Nat) : Prop where
  hd : (f 8 : Int) = hw
  out : ∀ i, i < 40 → (i < 8 ∨ 8 + n < i) → f i = i * 3 + 1
theorem BdW.upd {n : Nat} {hw : Int} {f : Nat → Nat} (h : BdW n hw f) {i x : Nat} (hi : 9 ≤ i ∧ i ≤ 8 + n) : BdW n hw (IM.upd f i x) := by
  refine ⟨?_, fun k hk ho => ?_⟩
  · unfold IM.upd
    rw [if_neg (by omega)]
    exact h.hd
  · unfold IM.upd
    rw [if_neg (by omega)]
    exact h.out k hk ho
theorem BdW.save {n : Nat} {hw : Int} {f : Nat → Nat} {D : List LD} (h : BdW n hw f) (hN : IM.atN (cf5 D) f 8 = (n : Int) + 1) (p : Int) (x : Nat) : BdW n hw (IM.svW (cf5 D) f 8 p x) := by
  unfold IM.svW
  by_cases hz : IM.ldE (cf5 D) f 8 p = 0
  · rw [if_pos hz]
    obtain ⟨-, h1, h2⟩ := pl_bd (ld_pl hz)
    exact h.upd (by omega)
  · rw [if_neg hz]
    exact h
theorem BdW.tie {n : Nat} {hw : Int} {f : Nat → Nat} {D : List LD} (h : BdW n hw f) (hN : IM.atN (cf5 D) f 8 = (n : Int) + 1) (p K J G : Int) : BdW n hw (IM.tiW (cf5 D) f 8 p K J G) := by
  unfold IM.tiW
  by_cases hz : IM.tiE (cf5 D) f 8 p K J G = 0
  · rw [if_pos hz]
    obtain ⟨-, h1, h2⟩ := pl_bd (ti_pl hz)
    exact h.upd (by omega)
  · rw [if_neg hz]
    exact h
/-- The first j words written. -/
def fill (j i : Nat) : Nat := if i < j then i * 3 + 1 else 0
theorem fill_next (D : List LD) {j : Nat} (h : j < 40) : wrWd (cf5 D).own (fill j) (cf5 D).C (cf5 D).K (j : Int) (j * 3 + 1) = fill (j + 1) := by
  unfold wrWd
  rw [if_pos (show addrE (cf5 D).own (cf5 D).C (cf5 D).K (j : Int) = 0 from ad5 D h), Int.toNat_natCast]
  funext i
  unfold fill
  by_cases hi : i = j
  · subst hi; rw [if_pos rfl, if_pos (by omega)]
  · rw [if_neg hi]
    by_cases h2 : i < j
    · rw [if_pos h2, if_pos (by omega)]
    · rw [if_neg h2, if_neg (by omega)]
theorem fill_zero : fill 0 = wd0 := by funext i; unfold fill wd0; rw [if_neg (by omega)]
theorem fill_made {n : Nat} {hw : Int} (h0 : 0 ≤ hw) : BdW n hw (IM.laid (fill 40) 8 (n + 1) hw.toNat) := by
  refine ⟨?_, fun i hi ho => ?_⟩
  · unfold IM.laid
    rw [if_pos rfl]
    omega
  · unfold IM.laid fill
    rw [if_neg (by omega), if_neg (by omega), if_pos hi]
end Go.Proofs.YteneadimchhhhaaDoor
