/- Contracts of Save, Tie, Move of images. -/
import Derived.Test.YteneadimchhhhaaDoorImRead
import Derived.Test.YteneadimchhhhaaDoorHdWord
namespace Go.Proofs.YteneadimchhhhaaDoor
open Go.RowKit

theorem Aft.of_only {S : List Nat} {w w' : World} (h : OnlyIn S w w') : Aft S w w' := ⟨h.os, h.tape, h.output, by rw [h.size]; exact Nat.le_refl _, fun k _ hk => h.block k hk⟩
/-- The blocks that images write. -/
def IB.wr (I : IB) : List Nat := [I.B.o, I.B.c, I.B.v]
/-- What a writing call leaves. -/
def IwPost (v : Value) (I : IB) (q : Cf) (wd' : Nat → Nat) (w : World) (e : Ending) (w' : World) : Prop := e = .returned v ∧ ImAt w' I q wd' ∧ Aft I.wr w w'
section
variable {w w' w2 : World} {I : IB} {q : Cf} {wd wd' : Nat → Nat}
theorem ImAt.wrote (h : ImAt w I q wd) (hb : Below w.heap.size w w2) {v : Value} {e : Ending} (hp : StPost v I.B q.C q.K q.own wd' w2 e w') : IwPost v I q wd' w e w' := by
  obtain ⟨he, ho, hs⟩ := hp
  exact ⟨he, (h.below hb).only ho hs, (Aft.of_below hb).trans (Aft.of_only ho)⟩
theorem ImAt.wrlt (h : ImAt w I q wd) {g : Nat} (hg : g ∈ I.wr) : g < I.lo := by
  obtain ⟨⟨a1, a2⟩, ⟨b1, b2⟩, ⟨c1, c2⟩, ⟨d1, d2⟩, e1, e2⟩ := h.low
  simp [IB.wr] at hg
  omega
set_option maxHeartbeats 1000000 in
theorem writeAtU_any (h : ImAt w I q wd) (a p : Int) (x : Nat) (hx : x < 18446744073709551616) :
    Calls Tryd.prog 34 #[.pointer (some ⟨I.p, 0, none⟩), .int .i64 a, .int .i64 p, .bool false, .func (.func 23) #[.pointer (some ⟨I.B.s, 0, none⟩)] #[], .int .u64 x] w (IwPost (.int .i64 (IM.ldE q wd a p)) I q (IM.svW q wd a p x) w) := by
  have CA := addressOf_any h a p false
  have HA : ∀ w', Below w.heap.size w w' → Calls Tryd.prog 23 #[.pointer (some ⟨I.B.s, 0, none⟩), .int .i64 (a + 1 + p), .int .u64 x] w' (IwPost (.int .i64 (addrE q.own q.C q.K (a + 1 + p))) I q (wrWd q.own wd q.C q.K (a + 1 + p) x) w) := fun w' hb => (write_all (h.below hb).st (a + 1 + p) x hx).mono fun _ _ hp => h.wrote hb hp
  by_cases hz : IM.plE q wd a p false = 0
  · have hE : IM.ldE q wd a p = IM.adE q (a + 1 + p) := by unfold IM.ldE; rw [if_pos hz]
    have hV : IM.svW q wd a p x = wrWd q.own wd q.C q.K (a + 1 + p) x := by unfold IM.svW wrWd; rw [hE]; rfl
    have hP : IM.plA q wd a p false = a + 1 + p := by unfold IM.plA; rw [if_pos hz]
    rw [hE, hV]
    unfold IM.adE
    rw [hP, hz] at CA
    clear hE hV hP hz h
    generalize a + 1 + p = i at *
    generalize wrWd q.own wd q.C q.K i x = wd2 at *
    generalize addrE q.own q.C q.K i = er at *
    have HC := Lib.hid CA
    have HR := Lib.hid HA
    clear CA HA
    go_enter Tryd.func34, Tryd.ntmps34
    go_wp2_with fail
    refine HC.out.mono ?_
    rintro e w2 ⟨rfl, hb⟩
    have HR2 := Lib.hid (HR.out _ hb)
    clear HR HC
    go_wp2_with fail
    refine HR2.out.mono ?_
    rintro e w3 ⟨rfl, hi, ha⟩
    go_wp2_with fail
    go_ret
    exact ⟨rfl, hi, ha⟩
  · have hE : IM.ldE q wd a p = IM.plE q wd a p false := by unfold IM.ldE; rw [if_neg hz]
    have hV : IM.svW q wd a p x = wd := by unfold IM.svW; rw [hE, if_neg hz]
    rw [hE, hV]
    generalize IM.plA q wd a p false = i at *
    generalize IM.plE q wd a p false = er at *
    have hd : (er != 0) = true := by simpa using hz
    have HC := Lib.hid CA
    have HH := Lib.hid h
    clear CA HA hz hE hV h
    go_enter Tryd.func34, Tryd.ntmps34
    go_wp2_with fail
    refine HC.out.mono ?_
    rintro e w2 ⟨rfl, hb⟩
    go_wp2_with fail
    go_ret
    exact ⟨rfl, HH.out.below hb, Aft.of_below hb⟩
set_option maxHeartbeats 1000000 in
theorem isave_any (h : ImAt w I q wd) (a p : Int) (x : Nat) (hx : x < 18446744073709551616) :
    Calls Tryd.prog 16 #[.pointer (some ⟨I.p, 0, none⟩), .int .i64 a, .int .i64 p, .int .u64 x] w (IwPost (.int .i64 (IM.ldE q wd a p)) I q (IM.svW q wd a p x) w) := by
  have HC := Lib.hid (writeAtU_any h a p x hx)
  have p0 : w.cell? ⟨I.p, 0, none⟩ = some (.pointer (some ⟨I.B.s, 0, none⟩)) := h.box.cell 0
  generalize IM.svW q wd a p x = wd2 at *
  generalize IM.ldE q wd a p = er at *
  clear h
  go_enter Tryd.func16, Tryd.ntmps16
  go_wp2_with fail
  refine HC.out.mono ?_
  rintro e w2 ⟨rfl, hi, ha⟩
  go_wp2_with fail
  go_ret
  exact ⟨rfl, hi, ha⟩

def wlE (q : Cf) (i K J G : Int) : Int := if HM.wE K J G = 0 then IM.adE q i else 2
def wlW (q : Cf) (wd : Nat → Nat) (i K J G : Int) : Nat → Nat := if wlE q i K J G = 0 then IM.upd wd i.toNat (HM.wW K J G).toNat else wd
set_option maxHeartbeats 1000000 in
theorem writeLink_any (h : ImAt w I q wd) (i K J G : Int) :
    Calls Tryd.prog 36 #[.pointer (some ⟨I.p, 0, none⟩), .int .i64 i, .agg #[.int .i64 K, .int .i64 J, .int .i64 G]] w (IwPost (.int .i64 (wlE q i K J G)) I q (wlW q wd i K J G) w) := by
  obtain ⟨w1, hw1⟩ : ∃ w1, w1 = w.alloc (.cells #[.int .i64 K, .int .i64 J, .int .i64 G] 38) := ⟨_, rfl⟩
  have hb1 : Below w.heap.size w w1 := by rw [hw1]; exact (Below.refl _ _).alloc (Nat.le_refl _) _
  have CW := hword_any K J G w1
  obtain ⟨x, hx⟩ := Int.eq_ofNat_of_zero_le (HM.wW_word K J G).1
  have hx2 : x < 18446744073709551616 := by have := (HM.wW_word K J G).2; omega
  rw [hx] at CW
  have CR : ∀ w', Below w1.heap.size w1 w' → Calls Tryd.prog 23 #[.pointer (some ⟨I.B.s, 0, none⟩), .int .i64 i, .int .u64 x] w' (IwPost (.int .i64 (addrE q.own q.C q.K i)) I q (wrWd q.own wd q.C q.K i x) w) := fun w' hb => by
    have hb2 := hb1.trans (hb.mono hb1.size)
    exact (write_all (h.below hb2).st i x hx2).mono fun _ _ hp => h.wrote hb2 hp
  have CP : ∀ w', Below w1.heap.size w1 w' → w'.cell? ⟨I.p, 0, none⟩ = some (.pointer (some ⟨I.B.s, 0, none⟩)) := fun w' hb => ((h.below hb1).below hb).box.cell 0
  by_cases hz : HM.wE K J G = 0
  · have hE : wlE q i K J G = addrE q.own q.C q.K i := by unfold wlE; rw [if_pos hz]; rfl
    have hV : wlW q wd i K J G = wrWd q.own wd q.C q.K i x := by unfold wlW wrWd; rw [hE, hx]; rfl
    rw [hE, hV]
    rw [hz] at CW
    generalize wrWd q.own wd q.C q.K i x = wd2 at *
    generalize addrE q.own q.C q.K i = er at *
    have HW := Lib.hid CW
    have HR := Lib.hid CR
    have HP := Lib.hid CP
    clear CW CR CP hE hV hz hx hx2 h
    go_enter Tryd.func36, Tryd.ntmps36
    go_upto_region 1 with fail
    obtain ⟨c0, c1, c2⟩ := (Whole.fresh w 38 #[.int .i64 K, .int .i64 J, .int .i64 G]).cells3
    rw [← hw1] at c0 c1 c2 ⊢
    clear hw1
    go_wp2_with fail
    refine HW.out.mono ?_
    rintro e w2 ⟨rfl, hb⟩
    have HR2 := Lib.hid (HR.out _ hb)
    have p0 := HP.out _ hb
    clear HR HW
    go_wp2_with fail
    refine HR2.out.mono ?_
    rintro e w3 ⟨rfl, hi, ha⟩
    go_wp2_with fail
    go_ret
    exact ⟨rfl, hi, ha⟩
  · have hE : wlE q i K J G = 2 := by unfold wlE; rw [if_neg hz]
    have hV : wlW q wd i K J G = wd := by unfold wlW; rw [hE]; rfl
    rw [hE, hV]
    generalize HM.wE K J G = er at *
    have hd : (er != 0) = true := by simpa using hz
    have HW := Lib.hid CW
    have HH := Lib.hid h
    clear CW CR CP hE hV hz hx hx2 h
    go_enter Tryd.func36, Tryd.ntmps36
    go_upto_region 1 with fail
    obtain ⟨c0, c1, c2⟩ := (Whole.fresh w 38 #[.int .i64 K, .int .i64 J, .int .i64 G]).cells3
    rw [← hw1] at c0 c1 c2 ⊢
    clear hw1
    go_wp2_with fail
    refine HW.out.mono ?_
    rintro e w2 ⟨rfl, hb⟩
    have hb3 := hb1.trans (hb.mono hb1.size)
    go_wp2_with fail
    go_ret
    exact ⟨rfl, HH.out.below hb3, Aft.of_below hb3⟩
set_option maxHeartbeats 1000000 in
theorem writeAtL_any (h : ImAt w I q wd) (a p K J G : Int) :
    Calls Tryd.prog 35 #[.pointer (some ⟨I.p, 0, none⟩), .int .i64 a, .int .i64 p, .bool true, .func (.func 36) #[.pointer (some ⟨I.p, 0, none⟩)] #[], .agg #[.int .i64 K, .int .i64 J, .int .i64 G]] w (IwPost (.int .i64 (IM.tiE q wd a p K J G)) I q (IM.tiW q wd a p K J G) w) := by
  obtain ⟨w1, hw1⟩ : ∃ w1, w1 = w.alloc (.cells #[.int .i64 K, .int .i64 J, .int .i64 G] 38) := ⟨_, rfl⟩
  have hb1 : Below w.heap.size w w1 := by rw [hw1]; exact (Below.refl _ _).alloc (Nat.le_refl _) _
  have Y1 : Whole w1 w.heap.size 38 #[.int .i64 K, .int .i64 J, .int .i64 G] := by rw [hw1]; exact Whole.fresh _ _ _
  have CA := addressOf_any (h.below hb1) a p true
  have HA : ∀ w', Below w1.heap.size w1 w' → Calls Tryd.prog 36 #[.pointer (some ⟨I.p, 0, none⟩), .int .i64 (a + 1 + p), .agg #[.int .i64 K, .int .i64 J, .int .i64 G]] w' (IwPost (.int .i64 (wlE q (a + 1 + p) K J G)) I q (wlW q wd (a + 1 + p) K J G) w) := fun w' hb => by
    have hb2 := hb1.trans (hb.mono hb1.size)
    exact (writeLink_any (h.below hb2) (a + 1 + p) K J G).mono fun _ _ ⟨h1, h2, h3⟩ => ⟨h1, h2, (Aft.of_below hb2).trans h3⟩
  by_cases hz : IM.plE q wd a p true = 0
  · have hE : IM.tiE q wd a p K J G = wlE q (a + 1 + p) K J G := by unfold IM.tiE; rw [if_pos hz]; rfl
    have hV : IM.tiW q wd a p K J G = wlW q wd (a + 1 + p) K J G := by unfold IM.tiW wlW; rw [hE]
    have hP : IM.plA q wd a p true = a + 1 + p := by unfold IM.plA; rw [if_pos hz]
    rw [hE, hV]
    rw [hP, hz] at CA
    clear hE hV hP hz h
    generalize a + 1 + p = i at *
    generalize wlW q wd i K J G = wd2 at *
    generalize wlE q i K J G = er at *
    have HC := Lib.hid CA
    have HR := Lib.hid HA
    have HY := Lib.hid Y1
    clear CA HA Y1
    go_enter Tryd.func35, Tryd.ntmps35
    go_upto_region 1 with fail
    rw [← hw1]
    clear hw1
    go_wp2_with fail
    refine HC.out.mono ?_
    rintro e w2 ⟨rfl, hb⟩
    have HR2 := Lib.hid (HR.out _ hb)
    obtain ⟨c0, c1, c2⟩ := (HY.out.below hb HY.out.lt).cells3
    clear HR HC
    go_wp2_with fail
    refine HR2.out.mono ?_
    rintro e w3 ⟨rfl, hi, ha⟩
    go_wp2_with fail
    go_ret
    exact ⟨rfl, hi, ha⟩
  · have hE : IM.tiE q wd a p K J G = IM.plE q wd a p true := by unfold IM.tiE; rw [if_neg hz]
    have hV : IM.tiW q wd a p K J G = wd := by unfold IM.tiW; rw [hE, if_neg hz]
    rw [hE, hV]
    generalize IM.plA q wd a p true = i at *
    generalize IM.plE q wd a p true = er at *
    have hd : (er != 0) = true := by simpa using hz
    have HC := Lib.hid CA
    have HH := Lib.hid h
    clear CA HA hz hE hV h Y1
    go_enter Tryd.func35, Tryd.ntmps35
    go_upto_region 1 with fail
    rw [← hw1]
    clear hw1
    go_wp2_with fail
    refine HC.out.mono ?_
    rintro e w2 ⟨rfl, hb⟩
    have hb3 := hb1.trans (hb.mono hb1.size)
    go_wp2_with fail
    go_ret
    exact ⟨rfl, HH.out.below hb3, Aft.of_below hb3⟩
set_option maxHeartbeats 1000000 in
theorem itie_any (h : ImAt w I q wd) (a p K J G : Int) :
    Calls Tryd.prog 17 #[.pointer (some ⟨I.p, 0, none⟩), .int .i64 a, .int .i64 p, .agg #[.int .i64 K, .int .i64 J, .int .i64 G]] w (IwPost (.int .i64 (IM.tiE q wd a p K J G)) I q (IM.tiW q wd a p K J G) w) := by
  obtain ⟨w1, hw1⟩ : ∃ w1, w1 = w.alloc (.cells #[.int .i64 K, .int .i64 J, .int .i64 G] 38) := ⟨_, rfl⟩
  have hb1 : Below w.heap.size w w1 := by rw [hw1]; exact (Below.refl _ _).alloc (Nat.le_refl _) _
  have C := (writeAtL_any (h.below hb1) a p K J G).mono (fun _ _ ⟨h1, h2, h3⟩ => (show IwPost (.int .i64 (IM.tiE q wd a p K J G)) I q (IM.tiW q wd a p K J G) w _ _ from ⟨h1, h2, (Aft.of_below hb1).trans h3⟩))
  generalize IM.tiW q wd a p K J G = wd2 at *
  generalize IM.tiE q wd a p K J G = er at *
  have HC := Lib.hid C
  clear h C
  go_enter Tryd.func17, Tryd.ntmps17
  go_upto_region 1 with fail
  obtain ⟨c0, c1, c2⟩ := (Whole.fresh w 38 #[.int .i64 K, .int .i64 J, .int .i64 G]).cells3
  rw [← hw1] at c0 c1 c2 ⊢
  clear hw1
  go_wp2_with fail
  refine HC.out.mono ?_
  rintro e w2 ⟨rfl, hi, ha⟩
  go_wp2_with fail
  go_ret
  exact ⟨rfl, hi, ha⟩

set_option maxHeartbeats 1000000 in
theorem imove_any (h : ImAt w I q wd) (t f : Int) :
    Calls Tryd.prog 9 #[.pointer (some ⟨I.p, 0, none⟩), .int .i64 t, .int .i64 f] w (IwPost (.tuple #[.int .i64 (IM.mvN q wd t f), .int .i64 (IM.mvE q wd t f)]) I q (IM.mvW q wd t f) w) := by
  have CO := objectAt_any h f
  have CR : ∀ w', Below w.heap.size w w' → Calls Tryd.prog 26 #[.pointer (some ⟨I.B.s, 0, none⟩), .int .i64 t, .int .i64 f, .int .i64 (IM.atN q wd f)] w' (fun e w'' => e = .returned (.int .i64 (copyE q.own q.C q.K t f (IM.atN q wd f))) ∧ ImAt w'' I q (cpWdA q.own wd q.C q.K t f (IM.atN q wd f)) ∧ Aft I.wr w w'' ∧ OnlyIn I.wr w' w'') := fun w' hb =>
    (copy_all (h.below hb).st t f (IM.atN q wd f)).mono fun _ _ hp => by
      obtain ⟨h1, h2, h3⟩ := h.wrote hb hp
      exact ⟨h1, h2, h3, hp.2.1⟩
  have CP : ∀ w', Below w.heap.size w w' → w'.cell? ⟨I.p, 0, none⟩ = some (.pointer (some ⟨I.B.s, 0, none⟩)) := fun w' hb => (h.below hb).box.cell 0
  by_cases hz : IM.atE q wd f = 0
  · have hE : IM.mvE q wd t f = copyE q.own q.C q.K t f (IM.atN q wd f) := by unfold IM.mvE; rw [if_pos hz]
    have hN : IM.mvN q wd t f = zE (copyE q.own q.C q.K t f (IM.atN q wd f)) (IM.atN q wd f) := by unfold IM.mvN zE; rw [hE]
    have hV : IM.mvW q wd t f = cpWdA q.own wd q.C q.K t f (IM.atN q wd f) := by unfold IM.mvW cpWdA; rw [hE]
    rw [hE, hN, hV]
    rw [hz] at CO
    have wlo : ∀ g ∈ I.wr, g < w.heap.size := fun g hg => Nat.lt_trans (h.wrlt hg) h.lolt
    have plo : I.p ∉ I.wr := fun hg => by have := h.wrlt hg; have := h.plo; omega
    have plt := h.box.lt
    have HH := Lib.hid h
    generalize IM.atL q wd f = l1 at *
    generalize IM.atC q wd f = l2 at *
    generalize IM.atS q wd f = l3 at *
    generalize IM.atN q wd f = n at *
    generalize cpWdA q.own wd q.C q.K t f n = wd2 at *
    generalize copyE q.own q.C q.K t f n = er at *
    have HO := Lib.hid CO
    have HR := Lib.hid CR
    have HP := Lib.hid CP
    have HL := Lib.hid wlo
    have HPL := Lib.hid plo
    clear CO CR CP wlo plo hE hN hV hz h
    go_enter Tryd.func9, Tryd.ntmps9
    go_wp2_with fail
    refine HO.out.mono ?_
    rintro e w2 ⟨k, rfl, -, hb2⟩
    go_upto_region 4 with fail
    have O := Whole.fresh w2 79 #[.int .i64 l1, .int .i64 l2, .int .i64 l3, .int .i64 k.F, .slice k.A k.n k.c, .int .i64 k.R, .slice k.D k.m k.d, .int .i64 n]
    have hb3 := hb2.alloc hb2.size (.cells #[.int .i64 l1, .int .i64 l2, .int .i64 l3, .int .i64 k.F, .slice k.A k.n k.c, .int .i64 k.R, .slice k.D k.m k.d, .int .i64 n] 79)
    obtain ⟨w3, hw3⟩ : ∃ w3, w3 = w2.alloc (.cells #[.int .i64 l1, .int .i64 l2, .int .i64 l3, .int .i64 k.F, .slice k.A k.n k.c, .int .i64 k.R, .slice k.D k.m k.d, .int .i64 n] 79) := ⟨_, rfl⟩
    rw [← hw3] at O hb3 ⊢
    have o7 : w3.cell? ⟨w2.heap.size, 7, none⟩ = some (.int .i64 n) := O.cell 7
    have p0 := HP.out w3 hb3
    have ob : w2.heap.size ∉ I.wr := fun hg => by have := HL.out _ hg; have := hb2.size; omega
    have C := Lib.hid (HR.out w3.drew (hb3.drew))
    have OB := Lib.hid ob
    clear hw3 hb2 hb3 O HR HO ob
    go_region_held3 (fun w' => w'.cell? ⟨w2.heap.size, 7, none⟩ = some (.int .i64 n) ∧ w'.cell? ⟨I.p, 0, none⟩ = some (.pointer (some ⟨I.B.s, 0, none⟩))) (first | (with_reducible exact ⟨hx0, hx1⟩) | (with_reducible exact ⟨o7, p0⟩) | exact ⟨o7, p0⟩)
      (first
        | (go_at_call 26; (with_reducible refine C.out.mono ?_); rintro e w4 ⟨rfl, hi, ha, ho⟩; have hx0 := (ho.cell (p := ⟨w2.heap.size, 7, none⟩) OB.out).trans o7; have hx1 := (ho.cell (p := ⟨I.p, 0, none⟩) HPL.out).trans p0; have HI := Lib.hid hi; have HA := Lib.hid ha; clear hi ha ho))
    by_cases he : er = 0
    · subst he
      go_wp2_with fail
      go_ret2
      exact ⟨rfl, HI.out, HA.out⟩
    · have hd : (er != 0) = true := by simpa using he
      have HZ := Lib.hid (show zE er n = 0 from if_neg he)
      clear he
      go_wp2_with fail
      go_ret2
      exact ⟨by rw [HZ.out]; rfl, HI.out, HA.out⟩
  · have hE : IM.mvE q wd t f = IM.atE q wd f := by unfold IM.mvE; rw [if_neg hz]
    have hN : IM.mvN q wd t f = 0 := by unfold IM.mvN; rw [hE, if_neg hz]
    have hV : IM.mvW q wd t f = wd := by unfold IM.mvW; rw [hE, if_neg hz]
    rw [hE, hN, hV]
    generalize IM.atL q wd f = l1 at *
    generalize IM.atC q wd f = l2 at *
    generalize IM.atS q wd f = l3 at *
    generalize IM.atN q wd f = n at *
    generalize IM.atE q wd f = er at *
    have hd : (er != 0) = true := by simpa using hz
    have HO := Lib.hid CO
    have HH := Lib.hid h
    clear CO CR CP hE hN hV hz h
    go_enter Tryd.func9, Tryd.ntmps9
    go_wp2_with fail
    refine HO.out.mono ?_
    rintro e w2 ⟨k, rfl, -, hb2⟩
    have hb3 := hb2.alloc hb2.size (.cells #[.int .i64 l1, .int .i64 l2, .int .i64 l3, .int .i64 k.F, .slice k.A k.n k.c, .int .i64 k.R, .slice k.D k.m k.d, .int .i64 n] 79)
    go_wp2_with fail
    go_ret2
    exact ⟨rfl, HH.out.below hb3, Aft.of_below hb3⟩
end
end Go.Proofs.YteneadimchhhhaaDoor
