/- Plain data of the law ImageKeeps: what lies at two objects while the first one's places are written, and where it is moved. -/
import Derived.Test.YteneadimchhhhaaDoorImBdM
namespace Go.Proofs.YteneadimchhhhaaDoor
open Go.RowKit

theorem kp_place {q : Cf} {f : Nat → Nat} {a p L N : Int} {r : Bool} (hE : IM.atE q f a = 0) (hL : IM.atL q f a = L) (hN : IM.atN q f a = N + 1) (h0 : 0 ≤ p) (hp : p < N) :
    IM.plE q f a p r = if IM.isR q.D L p = r then 0 else 9 := by
  unfold IM.plE
  rw [if_pos hE, hN, hL, if_neg (by omega)]
section
variable {D : List LD} {f : Nat → Nat} {a p L N : Int} {i : Nat}
theorem kp_ad (hi : (i : Int) = a + 1 + p) (hb : i < 40) : IM.adE (cf5 D) (a + 1 + p) = 0 := by rw [← hi]; exact ad5 D hb
/-- At a reference. -/
theorem kp_ref (hE : IM.atE (cf5 D) f a = 0) (hL : IM.atL (cf5 D) f a = L) (hN : IM.atN (cf5 D) f a = N + 1) (h0 : 0 ≤ p) (hp : p < N) (hi : (i : Int) = a + 1 + p) (hb : i < 40) (hr : IM.isR D L p = true) :
    IM.ldE (cf5 D) f a p = 9 ∧ (∀ x, IM.svW (cf5 D) f a p x = f) ∧ ∀ K J G, HM.wE K J G = 0 → IM.tiE (cf5 D) f a p K J G = 0 ∧ IM.tiW (cf5 D) f a p K J G = IM.upd f i (HM.wW K J G).toNat := by
  have hp1 : IM.plE (cf5 D) f a p false = 9 := by rw [kp_place hE hL hN h0 hp, show (cf5 D).D = D from rfl, hr]; rfl
  have hp2 : IM.plE (cf5 D) f a p true = 0 := by rw [kp_place hE hL hN h0 hp, show (cf5 D).D = D from rfl, hr]; rfl
  have hl : IM.ldE (cf5 D) f a p = 9 := by unfold IM.ldE; rw [hp1]; rfl
  refine ⟨hl, fun x => ?_, fun K J G hw => ?_⟩
  · unfold IM.svW
    rw [hl]
    rfl
  · have ht : IM.tiE (cf5 D) f a p K J G = 0 := by unfold IM.tiE; rw [if_pos hp2, if_pos hw]; exact kp_ad hi hb
    refine ⟨ht, ?_⟩
    unfold IM.tiW
    rw [if_pos ht, ← hi, Int.toNat_natCast]
theorem kp_fol (hE : IM.atE (cf5 D) f a = 0) (hL : IM.atL (cf5 D) f a = L) (hN : IM.atN (cf5 D) f a = N + 1) (h0 : 0 ≤ p) (hp : p < N) (hi : (i : Int) = a + 1 + p) (hb : i < 40) (hr : IM.isR D L p = true) {K J G : Int} (hm : HM.lmay K J G = true) (hf : f i = (HM.wW K J G).toNat) :
    IM.flE (cf5 D) f a p = 0 ∧ IM.flK (cf5 D) f a p = K ∧ IM.flI (cf5 D) f a p = J ∧ IM.flG (cf5 D) f a p = G := by
  have hp2 : IM.plE (cf5 D) f a p true = 0 := by rw [kp_place hE hL hN h0 hp, show (cf5 D).D = D from rfl, hr]; rfl
  have hw : HM.wW K J G = HM.lword K J G := by unfold HM.wW; rw [if_pos hm]
  have hh : IM.hd f (a + 1 + p) = HM.lword K J G := by
    have h1 := (HM.lword_lt hm).1
    unfold IM.hd
    rw [← hi, Int.toNat_natCast, hf, hw]
    omega
  obtain ⟨k1, k2, k3, k4⟩ := HM.link_word hm
  have hz : IM.flE (cf5 D) f a p = 0 := by unfold IM.flE; rw [if_pos hp2, if_pos (kp_ad hi hb), hh]; exact k1
  refine ⟨hz, ?_, ?_, ?_⟩
  · unfold IM.flK; rw [if_pos hz, hh]; exact k2
  · unfold IM.flI; rw [if_pos hz, hh]; exact k3
  · unfold IM.flG; rw [if_pos hz, hh]; exact k4
/-- At a word. -/
theorem kp_word (hE : IM.atE (cf5 D) f a = 0) (hL : IM.atL (cf5 D) f a = L) (hN : IM.atN (cf5 D) f a = N + 1) (h0 : 0 ≤ p) (hp : p < N) (hi : (i : Int) = a + 1 + p) (hb : i < 40) (hr : IM.isR D L p = false) :
    IM.ldE (cf5 D) f a p = 0 ∧ IM.ldV (cf5 D) f a p = f i ∧ (∀ x, IM.svW (cf5 D) f a p x = IM.upd f i x) ∧ ∀ K J G, IM.tiE (cf5 D) f a p K J G = 9 ∧ IM.tiW (cf5 D) f a p K J G = f := by
  have hp1 : IM.plE (cf5 D) f a p false = 0 := by rw [kp_place hE hL hN h0 hp, show (cf5 D).D = D from rfl, hr]; rfl
  have hp2 : IM.plE (cf5 D) f a p true = 9 := by rw [kp_place hE hL hN h0 hp, show (cf5 D).D = D from rfl, hr]; rfl
  have hl : IM.ldE (cf5 D) f a p = 0 := by unfold IM.ldE; rw [if_pos hp1]; exact kp_ad hi hb
  refine ⟨hl, ?_, fun x => ?_, fun K J G => ?_⟩
  · unfold IM.ldV
    rw [if_pos hl, ← hi, Int.toNat_natCast]
  · unfold IM.svW
    rw [if_pos hl, ← hi, Int.toNat_natCast]
  · have ht : IM.tiE (cf5 D) f a p K J G = 9 := by unfold IM.tiE; rw [hp2]; rfl
    refine ⟨ht, ?_⟩
    unfold IM.tiW
    rw [ht]
    rfl
end

/-- The words of two objects, the first one's at 0 with so many places, the other's behind it; what is behind the places of the first one so far. -/
structure KpW (n j : Nat) (V : Nat → Nat) (h1 h2 : Int) (f : Nat → Nat) : Prop where
  hd : (f 0 : Int) = h1
  two : (f (n + 1) : Int) = h2
  far : f (n + 3) = 99
  val : ∀ p, p < j → f (1 + p) = V p
theorem KpW.next {n j : Nat} {V : Nat → Nat} {h1 h2 : Int} {f : Nat → Nat} (h : KpW n j V h1 h2 f) (hj : j < n) {x : Nat} (hx : x = V j) : KpW n (j + 1) V h1 h2 (IM.upd f (1 + j) x) := by
  refine ⟨?_, ?_, ?_, fun p hp => ?_⟩
  · unfold IM.upd; rw [if_neg (by omega)]; exact h.hd
  · unfold IM.upd; rw [if_neg (by omega)]; exact h.two
  · unfold IM.upd; rw [if_neg (by omega)]; exact h.far
  · unfold IM.upd
    by_cases e : p = j
    · subst e; rw [if_pos rfl]; exact hx
    · rw [if_neg (by omega)]; exact h.val p (by omega)
/-- Made, and made, and one word written. -/
def kp0 (n : Nat) (h1 h2 : Int) : Nat → Nat := IM.upd (IM.laid (IM.laid wd0 0 (n + 1) h1.toNat) (n + 1) 3 h2.toNat) (n + 3) 99
theorem kp0_is (n : Nat) (V : Nat → Nat) {h1 h2 : Int} (p1 : 0 ≤ h1) (p2 : 0 ≤ h2) : KpW n 0 V h1 h2 (kp0 n h1 h2) := by
  refine ⟨?_, ?_, ?_, fun p hp => absurd hp (by omega)⟩
  · unfold kp0 IM.upd IM.laid
    rw [if_neg (by omega), if_neg (by omega), if_neg (by omega), if_pos rfl]
    omega
  · unfold kp0 IM.upd IM.laid
    rw [if_neg (by omega), if_pos rfl]
    omega
  · unfold kp0 IM.upd
    rw [if_pos rfl]
/-- The first one moved behind the other. -/
structure KpZ (n : Nat) (V : Nat → Nat) (h1 h2 : Int) (g : Nat → Nat) : Prop where
  hd : (g 0 : Int) = h1
  hd2 : (g (n + 4) : Int) = h1
  two : (g (n + 1) : Int) = h2
  far : g (n + 3) = 99
  val : ∀ p, p < n → g (1 + p) = V p
  val2 : ∀ p, p < n → g (n + 4 + 1 + p) = V p
theorem KpW.moved {n : Nat} {V : Nat → Nat} {h1 h2 : Int} {f : Nat → Nat} (h : KpW n n V h1 h2 f) : KpZ n V h1 h2 (cpWd f (n + 4) 0 (n + 1)) := by
  refine ⟨?_, ?_, ?_, ?_, fun p hp => ?_, fun p hp => ?_⟩
  · unfold cpWd; rw [if_neg (by omega)]; exact h.hd
  · unfold cpWd; rw [if_pos (by omega), show 0 + (n + 4 - (n + 4)) = 0 by omega]; exact h.hd
  · unfold cpWd; rw [if_neg (by omega)]; exact h.two
  · unfold cpWd; rw [if_neg (by omega)]; exact h.far
  · unfold cpWd; rw [if_neg (by omega)]; exact h.val p hp
  · unfold cpWd; rw [if_pos (by omega), show 0 + (n + 4 + 1 + p - (n + 4)) = 1 + p by omega]; exact h.val p hp
theorem mv_ok {D : List LD} {f : Nat → Nat} {n : Nat} {t : Int} (hE : IM.atE (cf5 D) f 0 = 0) (hN : IM.atN (cf5 D) f 0 = (n : Int) + 1) (ht : t = (n : Int) + 4) (hn : n ≤ 8) :
    IM.mvE (cf5 D) f t 0 = 0 ∧ IM.mvN (cf5 D) f t 0 = (n : Int) + 1 ∧ IM.mvW (cf5 D) f t 0 = cpWd f (n + 4) 0 (n + 1) := by
  have h1 : IM.mvE (cf5 D) f t 0 = 0 := by
    unfold IM.mvE
    rw [if_pos hE, hN, ht, show (n : Int) + 4 = ((n + 4 : Nat) : Int) by omega, show (n : Int) + 1 = ((n + 1 : Nat) : Int) by omega]
    exact cp5 D (a := n + 4) (b := 0) (by omega) (by omega)
  refine ⟨h1, ?_, ?_⟩
  · unfold IM.mvN; rw [if_pos h1]; exact hN
  · unfold IM.mvW
    rw [if_pos h1, hN, ht, show ((n : Int) + 4).toNat = n + 4 by omega, show ((n : Int) + 1).toNat = n + 1 by omega]
    rfl
/-- The plain layout of two words. -/
def two2 : LD := ⟨2, 0, [], []⟩
theorem two_lay (l : LD) : IM.lay [l, two2] 2 = some two2 := rfl
theorem one_lay (l : LD) : IM.lay [l, two2] 1 = some l := rfl
theorem two_sz (l : LD) : IM.szE [l, two2] 2 0 = 0 ∧ IM.szN [l, two2] 2 0 = 3 := by
  obtain ⟨h1, h2⟩ := sz_lay (C := 0) (two_lay l)
  have hc : LM.code two2.F two2.R two2.xs two2.ys 0 = 0 := by decide
  exact ⟨h1.trans hc, (h2 hc).trans (by decide)⟩
theorem two_ref (l : LD) (p : Int) (h : p < 2) : IM.isR [l, two2] 2 p = false := by
  unfold IM.isR
  rw [two_lay]
  show LM.isRef 2 0 [] [] p = false
  unfold LM.isRef
  rw [if_pos h]
  rfl
theorem may_two : HM.may 2 0 6 = true := (HM.may_iff _ _ _).2 (by omega)
theorem word_two : 0 ≤ HM.word 2 0 6 := (HM.word_lt may_two).1
/-- The first one made. -/
theorem kp_make1 {D : List LD} {n : Nat} {C : Int} (hm : HM.may 1 C 5 = true) (hs : IM.szE D 1 C = 0 ∧ IM.szN D 1 C = ((n + 1 : Nat) : Int)) (hn : n ≤ 8) :
    IM.mkE (cf5 D) 0 1 C 5 = 0 ∧ IM.mkN (cf5 D) 0 1 C 5 = (n : Int) + 1 ∧ IM.mkW (cf5 D) wd0 0 1 C 5 = IM.laid wd0 0 (n + 1) (HM.word 1 C 5).toNat := by
  obtain ⟨h1, h2, h3⟩ := mk_ok (D := D) (wd := wd0) (a := 0) hm hs.1 hs.2 (by omega)
  rw [show ((0 : Nat) : Int) = 0 from rfl] at h1 h2 h3
  exact ⟨h1, h2.trans (by omega), h3⟩
/-- The other one made behind it, and one word of it written. -/
theorem kp_make2 {D : List LD} {n : Nat} {f : Nat → Nat} (hs : IM.szE D 2 0 = 0 ∧ IM.szN D 2 0 = 3) (hn : n ≤ 8) :
    (IM.mkE (cf5 D) ((n : Int) + 1) 2 0 6 = 0 ∧ IM.mkN (cf5 D) ((n : Int) + 1) 2 0 6 = 3 ∧ IM.mkW (cf5 D) f ((n : Int) + 1) 2 0 6 = IM.laid f (n + 1) 3 (HM.word 2 0 6).toNat) := by
  obtain ⟨h1, h2, h3⟩ := mk_ok (D := D) (wd := f) (a := n + 1) (n := 3) may_two hs.1 hs.2 (by omega)
  have e : ((n + 1 : Nat) : Int) = (n : Int) + 1 := by omega
  rw [e] at h1 h2 h3
  exact ⟨h1, h2, h3⟩
/-- What is known of the other one. -/
theorem kp_two {D : List LD} {n : Nat} {g : Nat → Nat} (hs : IM.szE D 2 0 = 0 ∧ IM.szN D 2 0 = 3) (hn : n ≤ 8) (hr : ∀ p, p < 2 → IM.isR D 2 p = false) (hg : (g (n + 1) : Int) = HM.word 2 0 6) :
    IM.ldE (cf5 D) g ((n : Int) + 1) 1 = 0 ∧ IM.ldV (cf5 D) g ((n : Int) + 1) 1 = g (n + 3) ∧ ∀ x, IM.svW (cf5 D) g ((n : Int) + 1) 1 x = IM.upd g (n + 3) x := by
  have e : ((n + 1 : Nat) : Int) = (n : Int) + 1 := by omega
  have ha : IM.adE (cf5 D) ((n : Int) + 1) = 0 := by rw [← e]; exact ad5 D (by omega)
  have hh : IM.hd g ((n : Int) + 1) = HM.word 2 0 6 := by rw [← e]; unfold IM.hd; rw [Int.toNat_natCast]; exact hg
  obtain ⟨a1, a2, -, -, a5⟩ := at_hd (q := cf5 D) (wd := g) ha may_two hh hs.1
  obtain ⟨b1, b2, b3, -⟩ := kp_word (D := D) (f := g) (a := (n : Int) + 1) (p := 1) (L := 2) (N := 2) (i := n + 3) a1 a2 (a5.trans hs.2) (by omega) (by omega) (by omega) (by omega) (hr 1 (by omega))
  exact ⟨b1, b2, b3⟩
theorem kp_laid2 {n : Nat} {f : Nat → Nat} : ((IM.laid f (n + 1) 3 (HM.word 2 0 6).toNat) (n + 1) : Int) = HM.word 2 0 6 := by
  unfold IM.laid
  rw [if_pos rfl]
  exact Int.toNat_of_nonneg word_two
/-- What is known of the first one, at either place. -/
theorem kp_one {D : List LD} {n b : Nat} {C : Int} {g : Nat → Nat} (hm : HM.may 1 C 5 = true) (hs : IM.szE D 1 C = 0 ∧ IM.szN D 1 C = ((n + 1 : Nat) : Int)) (hb : b < 40) (hg : (g b : Int) = HM.word 1 C 5) :
    IM.atE (cf5 D) g (b : Int) = 0 ∧ IM.atL (cf5 D) g (b : Int) = 1 ∧ IM.atC (cf5 D) g (b : Int) = C ∧ IM.atS (cf5 D) g (b : Int) = 5 ∧ IM.atN (cf5 D) g (b : Int) = (n : Int) + 1 := by
  have hh : IM.hd g (b : Int) = HM.word 1 C 5 := by unfold IM.hd; rw [Int.toNat_natCast]; exact hg
  obtain ⟨a1, a2, a3, a4, a5⟩ := at_hd (q := cf5 D) (wd := g) (ad5 D hb) hm hh hs.1
  exact ⟨a1, a2, a3, a4, (a5.trans hs.2).trans (by omega)⟩
theorem one_ref (l : LD) (p : Int) : IM.isR [l, two2] 1 p = LM.isRef l.F l.R l.xs l.ys p := by
  unfold IM.isR
  rw [one_lay]
/-- The law's link may be. -/
theorem tok_may (a b : Int) : HM.lmay 2 (wrap64 ((IntKind.u64.wrap a).tmod 4096)) (wrap64 (1 + wrap64 ((IntKind.u64.wrap b).tmod 255))) = true := by
  rw [HM.lmay_iff, IntKind.wrap_u64, IntKind.wrap_u64, Int.tmod_eq_emod_of_nonneg (Int.emod_nonneg _ (by decide)), Int.tmod_eq_emod_of_nonneg (Int.emod_nonneg _ (by decide))]
  obtain ⟨x, hx⟩ : ∃ x, x = a % 18446744073709551616 % 4096 := ⟨_, rfl⟩
  obtain ⟨y, hy⟩ : ∃ y, y = b % 18446744073709551616 % 255 := ⟨_, rfl⟩
  have hx1 : 0 ≤ x ∧ x < 4096 := by rw [hx]; exact ⟨Int.emod_nonneg _ (by decide), Int.emod_lt_of_pos _ (by decide)⟩
  have hy1 : 0 ≤ y ∧ y < 255 := by rw [hy]; exact ⟨Int.emod_nonneg _ (by decide), Int.emod_lt_of_pos _ (by decide)⟩
  rw [← hx, ← hy]
  clear hx hy
  unfold wrap64
  omega
theorem KpW.zero {n : Nat} {V V' : Nat → Nat} {h1 h2 : Int} {f : Nat → Nat} (h : KpW n 0 V h1 h2 f) : KpW n 0 V' h1 h2 f := ⟨h.hd, h.two, h.far, fun p hp => absurd hp (by omega)⟩
end Go.Proofs.YteneadimchhhhaaDoor
