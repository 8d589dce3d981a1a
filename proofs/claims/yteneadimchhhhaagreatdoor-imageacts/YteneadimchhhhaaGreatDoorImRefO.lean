/- The document's images: Slots. -/
import Derived.Test.YteneadimchhhhaaGreatDoorMgImRef
import Derived.Test.YteneadimchhhhaaGreatDoorLyTold
import Derived.Test.YteneadimchhhhaaGreatDoorImLkM
namespace Go.Proofs.YteneadimchhhhaaGreatDoor
open Go.RowKit

theorem refs_told {q : Cf} {wd : Nat → Nat} {a : Int} {l : LD} (h : IM.atE q wd a = 0) (hl : IM.lay q.D (IM.atL q wd a) = some l) : IM.refs q wd a = LM.told l.F l.R l.xs l.ys (IM.atC q wd a) := by
  rw [refs_ok h hl, LM.told_ok]
  obtain ⟨-, -, -, -, -, tz, -⟩ := at_ok h
  unfold IM.szE at tz
  rw [hl] at tz
  exact tz
theorem owns_lo {w : World} {b b' size n : Nat} {e : TypeId} {v : Value} {xs : List Value} (h : w.ownsRow b e size v n xs) (hb : b' ≤ b) : w.ownsRow b' e size v n xs := by
  refine ⟨h.1, ?_⟩
  rcases h.2 with h0 | ⟨g, cap, cur, rfl, hg, hh, hr⟩
  · exact .inl h0
  · exact .inr ⟨g, cap, cur, rfl, by omega, hh, hr⟩
set_option maxHeartbeats 1000000 in
theorem rslots_any {w : World} {J : DB} {q : Cf} {wc : Nat → Nat} (h : DcAt w J q wc) (a : Int) (ha : I64 a) (hwl : ∀ k, wc k < 18446744073709551616) :
    Calls Tryz.prog 15 #[.pointer (some ⟨J.m, 0, none⟩), .int .i64 a] w (RowI (IM.refs q wc a) w) := by
  have CA := rimat_any h a ha hwl
  by_cases hz : IM.atE q wc a = 0
  · obtain ⟨-, hdz, tL, tC, tS, tz, tN⟩ := at_ok hz
    have hC64 := atC_i64 q wc a
    have hg : IM.gE (J.ls.map LV.ld) (IM.atL q wc a) = 0 := by
      rw [h.lays]
      unfold IM.gE
      cases hl : IM.lay q.D (IM.atL q wc a) with
      | none => unfold IM.szE at tz; rw [hl] at tz; exact absurd tz (show ¬ (6 : Int) = 0 by decide)
      | some l => rfl
    obtain ⟨i, l, hi, hl, hlay⟩ := lay_some hg
    rw [h.lays] at hlay
    have hrt := refs_told hz hlay
    rw [hrt]
    rw [hz, hi] at CA
    obtain ⟨A, c, hv, hr⟩ := h.more
    have hil : i < J.ls.length := (List.getElem?_eq_some_iff.1 hl).1
    obtain ⟨g, rfl, hg, hcell⟩ := hr (by omega)
    obtain ⟨hll, hf⟩ := h.each l (List.mem_of_getElem? hl)
    have hbx := h.box
    rw [hv] at hbx
    have CS := fun (W : World) (hW : Below w.heap.size w W) =>
      have hL2 := Lists.kept hll (Kept.of_below hW (Nat.le_refl _))
      refSlots_any l.F l.R l.A l.n l.c l.xs l.D l.m l.d l.ys (IM.atC q wc a) w.heap.size W hW.size hf.hn hf.hm hf.hF hf.hR hL2.fst.ns hL2.snd.ns hC64
    have hlen := h.len
    obtain ⟨xs, hxs⟩ : ∃ xs, xs = LM.told l.F l.R l.xs l.ys (IM.atC q wc a) := ⟨_, rfl⟩
    have hLD : LM.told l.ld.F l.ld.R l.ld.xs l.ld.ys (IM.atC q wc a) = xs := hxs.symm
    rw [hLD]
    simp only [← hxs] at CS
    obtain ⟨cc, hcc⟩ : ∃ x, x = IM.atC q wc a := ⟨_, rfl⟩
    rw [← hcc] at CS CA
    generalize IM.atS q wc a = ss at *
    generalize IM.atN q wc a = nn at *
    have HCE := Lib.hid (show ∀ W : World, Below w.heap.size w W → W.cell? ⟨J.m, 1, none⟩ = some (.slice (some ⟨g, 0, none⟩) J.ls.length c) ∧
        W.cell? ⟨g, i * 4, none⟩ = some (.int .i64 l.F) ∧ W.cell? ⟨g, i * 4 + 1, none⟩ = some (.slice l.A l.n l.c) ∧ W.cell? ⟨g, i * 4 + 2, none⟩ = some (.int .i64 l.R) ∧ W.cell? ⟨g, i * 4 + 3, none⟩ = some (.slice l.D l.m l.d) from fun W hb =>
      ⟨(hbx.below hb hbx.lt).cell 1, (hb.cell (p := ⟨g, i * 4, none⟩) hg).trans (hcell i l 0 hl (by omega)), (hb.cell (p := ⟨g, i * 4 + 1, none⟩) hg).trans (hcell i l 1 hl (by omega)), (hb.cell (p := ⟨g, i * 4 + 2, none⟩) hg).trans (hcell i l 2 hl (by omega)), (hb.cell (p := ⟨g, i * 4 + 3, none⟩) hg).trans (hcell i l 3 hl (by omega))⟩)
    obtain ⟨nl, hnl⟩ : ∃ x, x = J.ls.length := ⟨_, rfl⟩
    rw [← hnl] at hlen hil HCE
    have HA := Lib.hid CA
    have HS := Lib.hid CS
    have ws1 : IntKind.i64.wrap ((i : Int) + 1 - 1) = (i : Int) := by rw [IntKind.wrap_i64]; omega
    have ws2 : IntKind.i64.wrap (i : Int) = (i : Int) := by rw [IntKind.wrap_i64]; omega
    have bi0 : (0 : Int) ≤ (i : Int) := by omega
    have bi1 : (i : Int) < (nl : Int) := by omega
    clear h hwl CA hz hdz tL tC tS tz tN hi hlay hrt hr hcell hll hbx CS hxs hLD hcc hnl hl hf hC64
    go_enter Tryz.func15, Tryz.ntmps15
    go_wp2_with fail
    refine HA.out.mono ?_
    rintro e w2 ⟨rfl, hb2⟩
    obtain ⟨w3, hw3⟩ : ∃ w3, w3 = w2.alloc (.cells #[.int .i64 ((i : Int) + 1), .int .i64 cc, .int .i64 ss] 32) := ⟨_, rfl⟩
    have hb3 : Below w.heap.size w w3 := by rw [hw3]; exact hb2.alloc hb2.size _
    have Y3 : Whole w3 w2.heap.size 32 #[.int .i64 ((i : Int) + 1), .int .i64 cc, .int .i64 ss] := by rw [hw3]; exact Whole.fresh _ _ _
    obtain ⟨y0, y1, y2⟩ := Y3.cells3
    obtain ⟨j1, e0, e1, e2, e3⟩ := HCE.out w3 hb3
    have HC2 := Lib.hid (show ∀ W : World, Below w3.heap.size w3 W → W.cell? ⟨J.m, 1, none⟩ = some (.slice (some ⟨g, 0, none⟩) nl c) ∧ W.cell? ⟨w2.heap.size, 0, none⟩ = some (.int .i64 ((i : Int) + 1)) ∧ W.cell? ⟨w2.heap.size, 1, none⟩ = some (.int .i64 cc) ∧
        W.cell? ⟨g, i * 4, none⟩ = some (.int .i64 l.F) ∧ W.cell? ⟨g, i * 4 + 1, none⟩ = some (.slice l.A l.n l.c) ∧ W.cell? ⟨g, i * 4 + 2, none⟩ = some (.int .i64 l.R) ∧ W.cell? ⟨g, i * 4 + 3, none⟩ = some (.slice l.D l.m l.d) from fun W hb => by
      obtain ⟨k1, k2, k3, k4, k5⟩ := HCE.out W (hb3.trans (hb.mono hb3.size))
      obtain ⟨z0, z1, z2⟩ := (Y3.below hb Y3.lt).cells3
      exact ⟨k1, z0, z1, k2, k3, k4, k5⟩)
    have HW3 := Lib.hid hw3
    have HB3 := Lib.hid hb3
    clear hw3 hb2 hb3 HA Y3 y2
    go_upto_region 2 with fail
    rw [← HW3.out]
    go_upto_region 4 with fail
    go_region_held3 (fun w' => w'.cell? ⟨J.m, 1, none⟩ = some (.slice (some ⟨g, 0, none⟩) nl c) ∧ w'.cell? ⟨w2.heap.size, 0, none⟩ = some (.int .i64 ((i : Int) + 1)) ∧ w'.cell? ⟨w2.heap.size, 1, none⟩ = some (.int .i64 cc) ∧
        w'.cell? ⟨g, i * 4, none⟩ = some (.int .i64 l.F) ∧ w'.cell? ⟨g, i * 4 + 1, none⟩ = some (.slice l.A l.n l.c) ∧ w'.cell? ⟨g, i * 4 + 2, none⟩ = some (.int .i64 l.R) ∧ w'.cell? ⟨g, i * 4 + 3, none⟩ = some (.slice l.D l.m l.d))
      (first | (with_reducible exact HX) | (with_reducible exact ⟨j1, y0, y1, e0, e1, e2, e3⟩) | exact ⟨j1, y0, y1, e0, e1, e2, e3⟩ | fail)
      (first | (go_at_call 45; (with_reducible refine (HS.out _ (by exact HB3.out.drew)).mono ?_); rintro e w5 ⟨v5, rfl, ho, hb5⟩; have hb6 : Below w3.heap.size w3 w5 := ⟨hb5.os, hb5.tape, hb5.output, hb5.size, hb5.block⟩; have HX := HC2.out _ hb6; have HR := Lib.hid (And.intro ho hb6); clear ho hb5 hb6))
    go_wp2_with fail
    go_ret
    exact ⟨_, rfl, owns_lo HR.out.1 (by have := HB3.out.size; exact this), HB3.out.trans (HR.out.2.mono HB3.out.size)⟩
  · rw [refs_no hz]
    generalize IM.atL q wc a = l1 at *
    generalize IM.atC q wc a = l2 at *
    generalize IM.atS q wc a = l3 at *
    generalize IM.atN q wc a = n at *
    generalize IM.atE q wc a = er at *
    have HA := Lib.hid CA
    have hd : (er != 0) = true := by simpa using hz
    clear CA hz h hwl
    go_enter Tryz.func15, Tryz.ntmps15
    go_wp2_with fail
    refine HA.out.mono ?_
    rintro e w2 ⟨rfl, hb2⟩
    have HB2 := Lib.hid hb2
    clear hb2
    go_wp2_with fail
    go_ret
    have hb3 := HB2.out.alloc HB2.out.size (.cells #[.int .i64 l1, .int .i64 l2, .int .i64 l3] 32)
    exact ⟨_, rfl, World.ownsRow_nil _ _ _ _, hb3⟩
end Go.Proofs.YteneadimchhhhaaGreatDoor
