/- A law's two trees, the code's and the document's; contracts of the law package's tells and do. -/
import Derived.Test.YtmdcpeikjchbgaaTrRefW
import Derived.Test.YtmdcpeikjchbgaaTrAlive
namespace Go.Proofs.Ytmdcpeikjchbgaa
open Go.RowKit Go.Maps

theorem RtP.blocks {w : World} {r g n : Nat} {f : TR.F} (h : RtP w r g n f) : (∃ cs, Whole w r 40 cs) ∧ ∃ cs, Whole w g 3 cs := by
  obtain ⟨v, h1, h2⟩ := h.box
  refine ⟨⟨_, h1⟩, ?_⟩
  rcases h2.form with ⟨rfl, e⟩ | ⟨cap, cur, rfl, hh, hn, hm, hs, hc⟩
  · have := TR.pz_len n f
    rw [e] at this
    cases this
  · exact ⟨_, hh⟩
theorem whole_ne {w : World} {a b : Nat} {t u : TypeId} {cs ds : Array Value} (h : Whole w a t cs) (k : Whole w b u ds) (hne : t ≠ u) : a ≠ b := by
  intro e
  subst e
  unfold Whole at h k
  rw [h] at k
  injection k with k
  injection k with _ k2
  exact hne k2
/-- The two trees, each made since w0. -/
structure Ls (w0 w : World) (b m r g n : Nat) (f : TR.F) : Prop where
  t : Tm w0 w b m n f
  d : RtAt w r g n f
  hr : w0.heap.size ≤ r
  hg : w0.heap.size ≤ g
section
variable {w0 w w' : World} {b m r g g' n n' : Nat} {f f' : TR.F}
theorem sep {w : World} {b m r g n n' : Nat} {f f' : TR.F} (t : TrAt w b m n f) (d : RtAt w r g n' f') : r ≠ b ∧ r ≠ m ∧ g ≠ b ∧ g ≠ m := by
  obtain ⟨⟨c1, h1⟩, c2, h2⟩ := d.toRtP.blocks
  exact ⟨whole_ne h1 t.box (by decide), (t.map.ne h1).symm, whole_ne h2 t.box (by decide), (t.map.ne h2).symm⟩
theorem Ls.later (h : Ls w0 w b m r g n f) (k : Below w.heap.size w w') : Ls w0 w' b m r g n f := ⟨h.t.later k, h.d.below k, h.hr, h.hg⟩
theorem Ls.rlt (h : Ls w0 w b m r g n f) : b < w.heap.size ∧ m < w.heap.size ∧ r < w.heap.size ∧ g < w.heap.size := by
  obtain ⟨⟨c1, h1⟩, c2, h2⟩ := h.d.toRtP.blocks
  exact ⟨h.t.at_.box.lt, h.t.at_.map.lt, h1.lt, h2.lt⟩
/-- Behind a call of the code's tree alone. -/
theorem Ls.code (h : Ls w0 w b m r g n f) (k : Aft [b, m] w w') : RtAt w' r g n f := by
  obtain ⟨h1, h2, h3, h4⟩ := sep h.t.at_ h.d
  exact h.d.aft k (by simp; exact ⟨h1, h2⟩) (by simp; exact ⟨h3, h4⟩)
/-- Behind a call of the document's, too. -/
theorem Ls.both (t : Tm w0 w b m n' f') (d : RtAt w r g n f) (d' : RtAt w' r g' n' f') (k : Aft [r, g] w w') (hr : w0.heap.size ≤ r) (hg : w0.heap.size ≤ g) (hg' : g' = g ∨ w.heap.size ≤ g') : Ls w0 w' b m r g' n' f' := by
  obtain ⟨h1, h2, h3, h4⟩ := sep t.at_ d
  refine ⟨⟨t.at_.aft k (by simp; exact ⟨h1.symm, h3.symm⟩) (by simp; exact ⟨h2.symm, h4.symm⟩), t.hb, t.hm, t.bel.trans (k.below (by simp; exact ⟨hr, hg⟩) t.bel.size)⟩, d', hr, ?_⟩
  rcases hg' with e | e
  · omega
  · have := t.bel.size; omega
end

section
variable {w0 w : World} {b m r g n : Nat} {f : TR.F}
set_option maxRecDepth 100000 in
set_option maxHeartbeats 2000000 in
theorem ttells_any (h : Ls w0 w b m r g n f) (x : Int) (hx : I64 x) : Calls Try.prog 21 #[.pointer (some ⟨b, 0, none⟩), .pointer (some ⟨r, 0, none⟩), .int .i64 x] w fun e w' => e = .returned (.bool true) ∧ Below w.heap.size w w' := by
  have HX := Lib.hid hx
  have HP := Lib.hid (tparent_any h.t.at_ x hx)
  have HK := Lib.hid (tkids_any h.t.at_ x hx)
  have HS := Lib.hid h
  clear h hx
  cases hl : TR.liveI f x
  · have e1 : TR.liveErr f x = 6 := TR.liveErr_no hl
    have e2 : TR.parI f x = 0 := TR.parI_no hl
    have e3 : TR.underI n f x = [] := TR.underI_no hl
    rw [e1, e2] at HP
    have HE1 := Lib.hid e1
    have HE3 := Lib.hid e3
    have HLE := Lib.hid hl
    clear e1 e2 e3 hl
    by_cases h0 : x = 0
    · subst h0
      have hk : TR.kidsI n f 0 = TR.kids n f 0 := TR.kidsI_ok (i := 0) rfl
      have hm : TR.mayErr f 0 = 0 := rfl
      rw [hk, hm] at HK
      have hkl := TR.kids_len n f 0
      have hfew := HS.out.t.at_.few
      clear hk hm
      go_enter Try.func21, Try.ntmps21
      go_wp2_with fail
      refine HP.out.mono ?_
      rintro e w1 ⟨rfl, rfl⟩
      go_wp2_with fail
      refine HK.out.mono ?_
      rintro e w1 ⟨v1, rfl, hv1, hb1⟩
      have HS1 := Lib.hid (HS.out.later hb1)
      have HB1 := Lib.hid hb1
      have HV1 := Lib.hid hv1
      obtain ⟨A1, c1, rfl, _⟩ := hv1.slice
      have HU := tunder_any HS1.out.t.at_ 0 HX.out
      rw [HE1.out, HE3.out] at HU
      have HU' := Lib.hid HU
      clear hv1 hb1 HU
      go_wp2_with fail
      refine HU'.out.mono ?_
      rintro e w2 ⟨v2, rfl, hv2, hb2⟩
      have HS2 := Lib.hid (HS1.out.later hb2)
      have HB2 := Lib.hid (HB1.out.trans (hb2.mono HB1.out.size))
      have HV1' := Lib.hid (HV1.out.below hb2)
      obtain ⟨A2, c2, e5, _⟩ := hv2.slice
      rw [List.length_nil] at e5
      subst e5
      have HML := rtlive_any HS2.out.d 0
      have HTL := tlive_any HS2.out.t.at_ 0 HX.out
      rw [HLE.out] at HML HTL
      have HML' := Lib.hid HML
      have HTL' := Lib.hid HTL
      have HMK := Lib.hid (show Calls Try.prog 33 #[.pointer (some ⟨r, 0, none⟩), .int .i64 0] w2 (RowP (TR.kids n f 0) w2) from rtkids_any HS2.out.d 0)
      clear hv2 hb2 HML HTL HV1 HU' HB1 HS1
      go_wp2_with fail
      refine HML'.out.mono ?_
      rintro e w3 ⟨rfl, rfl⟩
      go_wp2_with fail
      refine HTL'.out.mono ?_
      rintro e w3 ⟨rfl, rfl⟩
      go_wp2_with fail
      refine HMK.out.mono ?_
      rintro e w3 ⟨v3, rfl, hv3, hb3⟩
      have HB3 := Lib.hid (HB2.out.trans (hb3.mono HB2.out.size))
      have HSM := Lib.hid (trSame _ _ _ w3 (by omega) (HV1'.out.below hb3) hv3)
      obtain ⟨A3, c3, rfl, _⟩ := hv3.slice
      clear hv3 hb3 HMK
      generalize TR.kids n f 0 = L at *
      go_wp2_with fail
      refine HSM.out.mono ?_
      rintro e w4 ⟨rfl, q, rfl⟩
      go_wp2
      go_ret
      exact ⟨rfl, below_drewN HB3.out q⟩
    · have hm : TR.mayErr f x = 6 := by unfold TR.mayErr; rw [if_neg h0]; exact HE1.out
      have hk : TR.kidsI n f x = [] := TR.kidsI_no (by rw [hm]; decide)
      rw [hk, hm] at HK
      have d0 : (x == 0) = false := by simpa using h0
      have d1 : (x != 0) = true := by simpa using h0
      clear hk hm h0
      go_enter Try.func21, Try.ntmps21
      go_wp2_with fail
      refine HP.out.mono ?_
      rintro e w1 ⟨rfl, rfl⟩
      go_wp2_with fail
      refine HK.out.mono ?_
      rintro e w1 ⟨v1, rfl, hv1, hb1⟩
      have HS1 := Lib.hid (HS.out.later hb1)
      have HB1 := Lib.hid hb1
      obtain ⟨A1, c1, e4, _⟩ := hv1.slice
      rw [List.length_nil] at e4
      subst e4
      have HU := tunder_any HS1.out.t.at_ x HX.out
      rw [HE1.out, HE3.out] at HU
      have HU' := Lib.hid HU
      clear hv1 hb1 HU
      go_wp2_with fail
      refine HU'.out.mono ?_
      rintro e w2 ⟨v2, rfl, hv2, hb2⟩
      have HS2 := Lib.hid (HS1.out.later hb2)
      have HB2 := Lib.hid (HB1.out.trans (hb2.mono HB1.out.size))
      obtain ⟨A2, c2, e5, _⟩ := hv2.slice
      rw [List.length_nil] at e5
      subst e5
      have HML := rtlive_any HS2.out.d x
      have HTL := tlive_any HS2.out.t.at_ x HX.out
      rw [HLE.out] at HML HTL
      have HML' := Lib.hid HML
      have HTL' := Lib.hid HTL
      clear hv2 hb2 HML HTL HU' HB1 HS1
      go_wp2_with fail
      refine HML'.out.mono ?_
      rintro e w3 ⟨rfl, rfl⟩
      go_wp2_with fail
      refine HTL'.out.mono ?_
      rintro e w3 ⟨rfl, rfl⟩
      go_wp2
      go_ret
      exact ⟨rfl, HB2.out⟩
  · obtain ⟨i, p, rfl, hp⟩ := TR.liveI_iff.1 hl
    have hil := HS.out.t.at_.good.le i p hp
    have hfew := HS.out.t.at_.few
    have e1 : TR.liveErr f (i : Int) = 0 := TR.liveErr_ok hl
    have e4 : TR.mayErr f (i : Int) = 0 := by unfold TR.mayErr; rw [if_neg (by omega)]; exact e1
    rw [e1, TR.parI_ok hp] at HP
    rw [TR.kidsI_ok e4, e4] at HK
    have HE1 := Lib.hid e1
    have HLE := Lib.hid hl
    have HPI := Lib.hid (TR.pI_some hp)
    have HUE := Lib.hid (TR.underI_ok (n := n) hp)
    have hkl := TR.kids_len n f i
    have hul := TR.under_len_le n f i
    clear e1 e4 hl hp
    go_enter Try.func21, Try.ntmps21
    go_wp2_with fail
    refine HP.out.mono ?_
    rintro e w1 ⟨rfl, rfl⟩
    go_wp2_with fail
    refine HK.out.mono ?_
    rintro e w1 ⟨v1, rfl, hv1, hb1⟩
    have HS1 := Lib.hid (HS.out.later hb1)
    have HB1 := Lib.hid hb1
    have HV1 := Lib.hid hv1
    obtain ⟨A1, c1, rfl, _⟩ := hv1.slice
    have HU := tunder_any HS1.out.t.at_ (i : Int) HX.out
    rw [HE1.out, HUE.out] at HU
    have HU' := Lib.hid HU
    clear hv1 hb1 HU
    go_wp2_with fail
    refine HU'.out.mono ?_
    rintro e w2 ⟨v2, rfl, hv2, hb2⟩
    have HS2 := Lib.hid (HS1.out.later hb2)
    have HB2 := Lib.hid (HB1.out.trans (hb2.mono HB1.out.size))
    have HV1' := Lib.hid (HV1.out.below hb2)
    have HV2 := Lib.hid hv2
    obtain ⟨A2, c2, rfl, _⟩ := hv2.slice
    have HML := rtlive_any HS2.out.d (i : Int)
    have HTL := tlive_any HS2.out.t.at_ (i : Int) HX.out
    rw [HLE.out] at HML HTL
    have HML' := Lib.hid HML
    have HTL' := Lib.hid HTL
    have HMK := Lib.hid (rtkids_any HS2.out.d i)
    obtain ⟨cap, cr0, hcap, hgl, hrl, hne, hc⟩ := HS2.out.d.toRtP.rd
    have ci := hc i hil.2.1
    rw [HPI.out] at ci
    clear hv2 hb2 HML HTL HV1 HU' HB1 HS1 hc
    go_wp2_with fail
    refine HML'.out.mono ?_
    rintro e w3 ⟨rfl, rfl⟩
    go_wp2_with fail
    refine HTL'.out.mono ?_
    rintro e w3 ⟨rfl, rfl⟩
    go_wp2_with fail
    refine HMK.out.mono ?_
    rintro e w3 ⟨v3, rfl, hv3, hb3⟩
    have HB3 := Lib.hid (HB2.out.trans (hb3.mono HB2.out.size))
    have HS3 := Lib.hid (HS2.out.later hb3)
    have HV2' := Lib.hid (HV2.out.below hb3)
    have HSM := Lib.hid (trSame _ _ _ w3 (by omega) (HV1'.out.below hb3) hv3)
    obtain ⟨A3, c3, rfl, _⟩ := hv3.slice
    clear hv3 hb3 HMK HV2 HV1'
    generalize TR.kids n f i = L at *
    go_wp2_with fail
    refine HSM.out.mono ?_
    rintro e w4 ⟨rfl, q, rfl⟩
    have HB4 := Lib.hid (below_drewN HB3.out q)
    have HS4 := Lib.hid (HS3.out.later (below_drewN (Below.refl _ _) q))
    have HV4 := Lib.hid (HV2'.out.below (below_drewN (Below.refl _ _) q))
    have HMU := Lib.hid (rtunder_any HS4.out.d i)
    clear HV2' HB3 HS3
    go_wp2_with fail
    refine HMU.out.mono ?_
    rintro e w5 ⟨v5, rfl, hv5, hb5⟩
    have HB5 := Lib.hid (HB4.out.trans (hb5.mono HB4.out.size))
    have HSN := Lib.hid (trSame _ _ _ w5 (by omega) (HV4.out.below hb5) hv5)
    obtain ⟨A5, c5, rfl, _⟩ := hv5.slice
    clear hv5 hb5 HMU HV4
    generalize TR.under n f i = L2 at *
    go_wp2_with fail
    refine HSN.out.mono ?_
    rintro e w6 ⟨rfl, q2, rfl⟩
    go_wp2
    go_ret
    exact ⟨rfl, below_drewN HB5.out q2⟩

/-- What do leaves. -/
def DoP (w0 : World) (b m r n : Nat) (e : Ending) (w' : World) : Prop := e = .returned (.bool true) ∧ ∃ n' f' g', Ls w0 w' b m r g' n' f' ∧ n' ≤ n + 1
set_option maxRecDepth 100000 in
set_option maxHeartbeats 2000000 in
theorem tdo_any (h : Ls w0 w b m r g n f) (hn : n < 100000) (K x : Int) (hx : I64 x) : Calls Try.prog 20 #[.agg #[.int .i64 K, .int .i64 x], .pointer (some ⟨b, 0, none⟩), .pointer (some ⟨r, 0, none⟩)] w (DoP w0 b m r n) := by
  have HX := Lib.hid hx
  have hb0 := (Below.refl w.heap.size w).alloc (Nat.le_refl _) (.cells #[.int .i64 K, .int .i64 x] 37)
  have h1 := h.later hb0
  have hbx := Whole.fresh w 37 #[.int .i64 K, .int .i64 x]
  have hlt := h.rlt
  have HWS := Lib.hid (show (w.alloc (.cells #[.int .i64 K, .int .i64 x] 37)).heap.size = w.heap.size + 1 by simp)
  have HS := Lib.hid h1
  have HBX := Lib.hid hbx
  clear h hb0 h1 hbx hx
  by_cases k0 : K = 0
  · subst k0
    have HA := Lib.hid (tadd_any HS.out.t.at_ hn x HX.out)
    have haN : TR.addN n f x ≤ n + 1 := by unfold TR.addN; split <;> omega
    have HRA := Lib.hid (fun (U : World) (d : RtAt U r g n f) => rtadd_any d hn x)
    generalize TR.addErr n f x = er at *
    generalize TR.addV n f x = av at *
    generalize TR.addN n f x = n2 at *
    generalize TR.addS n f x = f2 at *
    go_enter Try.func20, Try.ntmps20
    go_wp2_with fail
    refine HA.out.mono ?_
    rintro e w2 ⟨rfl, ht2, ha2⟩
    have HT2 := Lib.hid (HS.out.t.step ht2 ha2)
    have HD2 := Lib.hid (HS.out.code ha2)
    have hbx2 := ha2.whole HBX.out (by simp; omega)
    have cX2 : w2.cell? ⟨w.heap.size, 1, none⟩ = some (.int .i64 x) := by rw [hbx2.cell]; rfl
    have HRB := Lib.hid (HRA.out _ HD2.out)
    clear ht2 ha2 hbx2 HA HRA
    go_wp2_with fail
    refine HRB.out.mono ?_
    rintro e w3 ⟨g3, rfl, hd3, hg3, ha3⟩
    have HS3 := Lib.hid (Ls.both HT2.out HD2.out hd3 ha3 HS.out.hr HS.out.hg hg3)
    clear hd3 hg3 ha3 HRB
    go_wp2
    go_ret
    exact ⟨rfl, n2, f2, g3, HS3.out, haN⟩
  · by_cases k1 : K = 1
    · subst k1
      have HA := Lib.hid (tfree_any HS.out.t.at_ x HX.out)
      cases hl : TR.liveI f x
      · have e1 := TR.liveErr_no hl
        have e2 : TR.underI n f x = [] := TR.underI_no hl
        have e3 : TR.freeS n f x = f := by unfold TR.freeS; rw [hl]; rfl
        rw [e1, e2, e3] at HA
        have HLE := Lib.hid hl
        clear e1 e2 e3 hl k0
        go_enter Try.func20, Try.ntmps20
        go_wp2_with fail
        refine HA.out.mono ?_
        rintro e w2 ⟨v2, rfl, hv2, ht2, ha2⟩
        have HT2 := Lib.hid (HS.out.t.step ht2 ha2)
        have HD2 := Lib.hid (HS.out.code ha2)
        have hbx2 := ha2.whole HBX.out (by simp; omega)
        have cX2 : w2.cell? ⟨w.heap.size, 1, none⟩ = some (.int .i64 x) := by rw [hbx2.cell]; rfl
        obtain ⟨A2, c2, e5, _⟩ := hv2.slice
        rw [List.length_nil] at e5
        subst e5
        have HML := rtlive_any HD2.out x
        rw [HLE.out] at HML
        have HML' := Lib.hid HML
        clear ht2 ha2 hbx2 HA hv2 HML
        go_wp2_with fail
        refine HML'.out.mono ?_
        rintro e w3 ⟨rfl, rfl⟩
        go_wp2
        go_ret
        exact ⟨rfl, n, f, g, ⟨HT2.out, HD2.out, HS.out.hr, HS.out.hg⟩, by omega⟩
      · obtain ⟨i, p, rfl, hp⟩ := TR.liveI_iff.1 hl
        have e3 : TR.freeS n f (i : Int) = TR.freeF n f i := by unfold TR.freeS; rw [hl, if_pos rfl, Int.toNat_natCast]
        rw [TR.liveErr_ok hl, TR.underI_ok hp, e3] at HA
        have HLE := Lib.hid hl
        have hul := TR.under_len_le n f i
        have HRA := Lib.hid (fun (U : World) (d : RtAt U r g n f) => rtfree_ok d i)
        clear e3 hl k0 hp
        generalize TR.under n f i = L at *
        generalize TR.freeF n f i = f2 at *
        go_enter Try.func20, Try.ntmps20
        go_wp2_with fail
        refine HA.out.mono ?_
        rintro e w2 ⟨v2, rfl, hv2, ht2, ha2⟩
        have HT2 := Lib.hid (HS.out.t.step ht2 ha2)
        have HD2 := Lib.hid (HS.out.code ha2)
        have hbx2 := ha2.whole HBX.out (by simp; omega)
        have cX2 : w2.cell? ⟨w.heap.size, 1, none⟩ = some (.int .i64 (i : Int)) := by rw [hbx2.cell]; rfl
        obtain ⟨A2, c2, rfl, _⟩ := hv2.slice
        have HV2 := Lib.hid hv2
        have HML := rtlive_any HD2.out (i : Int)
        rw [HLE.out] at HML
        have HML' := Lib.hid HML
        have HRB := Lib.hid (HRA.out _ HD2.out)
        clear ht2 ha2 hbx2 HA hv2 HML HRA
        go_wp2_with fail
        refine HML'.out.mono ?_
        rintro e w3 ⟨rfl, rfl⟩
        go_wp2_with fail
        refine HRB.out.mono ?_
        rintro e w3 ⟨v3, rfl, hv3, hd3, ha3⟩
        have HS3 := Lib.hid (Ls.both HT2.out HD2.out hd3 ha3 HS.out.hr HS.out.hg (.inl rfl))
        have HV3 := HV2.out.far ha3 (by have := HWS.out; simp; omega)
        have HSM := Lib.hid (trSame _ _ _ w3 (by omega) HV3 hv3)
        obtain ⟨A3, c3, rfl, _⟩ := hv3.slice
        clear hv3 hd3 ha3 HV3 HRB HV2
        go_wp2_with fail
        refine HSM.out.mono ?_
        rintro e w4 ⟨rfl, q, rfl⟩
        go_wp2
        go_ret
        exact ⟨rfl, n, f2, g, HS3.out.later (below_drewN (Below.refl _ _) q), by omega⟩
    · by_cases k2 : K = 2
      · subst k2
        have HA := Lib.hid (tmerge_any HS.out.t.at_ x HX.out)
        have HRA := Lib.hid (fun (U : World) (d : RtAt U r g n f) => rtmerge_any d x)
        clear k0 k1
        generalize TR.mergErr f x = er at *
        generalize TR.mergV f x = av at *
        generalize TR.mergS f x = f2 at *
        go_enter Try.func20, Try.ntmps20
        go_wp2_with fail
        refine HA.out.mono ?_
        rintro e w2 ⟨rfl, ht2, ha2⟩
        have HT2 := Lib.hid (HS.out.t.step ht2 ha2)
        have HD2 := Lib.hid (HS.out.code ha2)
        have hbx2 := ha2.whole HBX.out (by simp; omega)
        have cX2 : w2.cell? ⟨w.heap.size, 1, none⟩ = some (.int .i64 x) := by rw [hbx2.cell]; rfl
        have HRB := Lib.hid (HRA.out _ HD2.out)
        clear ht2 ha2 hbx2 HA HRA
        go_wp2_with fail
        refine HRB.out.mono ?_
        rintro e w3 ⟨g3, rfl, hd3, hg3, ha3⟩
        have HS3 := Lib.hid (Ls.both HT2.out HD2.out hd3 ha3 HS.out.hr HS.out.hg hg3)
        clear hd3 hg3 ha3 HRB
        go_wp2
        go_ret
        exact ⟨rfl, n, f2, g3, HS3.out, by omega⟩
      · have d0 : (K == 0) = false := by simpa using k0
        have d1 : (K == 1) = false := by simpa using k1
        have d2 : (K == 2) = false := by simpa using k2
        clear k0 k1 k2
        go_enter Try.func20, Try.ntmps20
        go_wp2
        go_ret
        exact ⟨rfl, n, f, g, HS.out, by omega⟩
end
end Go.Proofs.Ytmdcpeikjchbgaa
