/- Contract of slices.Compact over a row of tokens. -/
import Derived.Test.YtlmiiapmanklpaaDoorTkRow
import Derived.Deep.LoopGhost
import Derived.BigQuiet
namespace Go.Proofs.YtlmiiapmanklpaaDoor
open Go.RowKit Go.Sort Go.Lib

theorem RA.put {w : World} {g : Nat} {d : Array (Int × Int)} (h : RA w g d) (i : Nat) (hi : i < d.size) (x : Int × Int) :
    RA ((w.setCell ⟨g, i * 2, none⟩ (.int .i64 x.1)).setCell ⟨g, i * 2 + 1, none⟩ (.int .i64 x.2)) g (d.setIfInBounds i x) := by
  intro j hj
  have hj' : j < d.size := by simpa using hj
  obtain ⟨c0, c1, f0, f1⟩ := h j hj'
  refine ⟨?_, ?_, by rw [World.frozen?_setCell, World.frozen?_setCell]; exact f0, by rw [World.frozen?_setCell, World.frozen?_setCell]; exact f1⟩
  · rw [World.cell?_setCell_other _ _ _ _ (by first | (simp; done) | (simp; omega))]
    by_cases e : j = i
    · subst e
      rw [World.cell?_setCell_same' _ _ _ (by rw [c0]; rfl), getElem!_set_same d j x hj']
    · rw [World.cell?_setCell_other _ _ _ _ (by first | (simp; done) | (simp; omega)), c0, getElem!_set_other d i j x e]
  · by_cases e : j = i
    · subst e
      rw [World.cell?_setCell_same' _ _ _ (by rw [World.cell?_setCell_other _ _ _ _ (by first | (simp; done) | (simp; omega)), c1]; rfl), getElem!_set_same d j x hj']
    · rw [World.cell?_setCell_other _ _ _ _ (by first | (simp; done) | (simp; omega)), World.cell?_setCell_other _ _ _ _ (by first | (simp; done) | (simp; omega)), c1, getElem!_set_other d i j x e]

theorem keeps_next {d : Array (Int × Int)} {k : Nat} (h : ∀ j, j < k → keeps d j = true) (hk : d[k]! ≠ d[k - 1]!) : ∀ j, j < k + 1 → keeps d j = true := by
  intro j hj
  by_cases e : j = k
  · subst e; exact keeps_pos hk
  · exact h j (by omega)
theorem cell_low (b p : Nat) : ∀ (vs : List Value) (o : Nat) (w : World), p < o → (w.setCells b o vs).cell? ⟨b, p, none⟩ = w.cell? ⟨b, p, none⟩ ∧ (w.setCells b o vs).frozen? ⟨b, p, none⟩ = w.frozen? ⟨b, p, none⟩
  | [], _, _, _ => ⟨rfl, rfl⟩
  | v :: vs, o, w, h => by
    obtain ⟨h1, h2⟩ := cell_low b p vs (o + 1) (w.setCell ⟨b, o, none⟩ v) (by omega)
    exact ⟨h1.trans (World.cell?_setCell_other _ _ _ _ (by first | (simp; done) | (simp; omega))), h2.trans (World.frozen?_setCell _ _ _ _)⟩
theorem zeros_one (n : Nat) : ∀ u ∈ (Builtin.zeroCells #[.int .i64 0, .int .i64 0] n).toList, u = .int .i64 0 := by
  intro u hu
  simp [Builtin.zeroCells] at hu
  obtain ⟨i, hi, e⟩ := hu
  rcases Nat.mod_two_eq_zero_or_one i with h | h
  · rw [← e]; simp [h]
  · rw [← e]; simp [h]
/-- 'clear(s)', s a slice of tokens of the call's own. -/
theorem clear_any (w : World) (ty : TypeId) (g o n c : Nat) (hn : 0 < n) (hc : ∀ j, j < n * 2 → (w.cell? ⟨g, o + j, none⟩).isSome = true) (hf : ∀ j, j < n * 2 → w.frozen? ⟨g, o + j, none⟩ = false) :
    ∃ vs, (Builtin.clear_ #[37] ty #[.slice (some ⟨g, o, none⟩) n c]).run Tryd.prog w = .ok (.tuple #[]) (w.setCells g o vs) := by
  have hl : (Builtin.zeroCells #[.int .i64 0, .int .i64 0] n).toList.length = n * 2 := by simp [Builtin.zeroCells]
  have hst := run_storeCells_cells (P := Tryd.prog) g o (Builtin.zeroCells #[.int .i64 0, .int .i64 0] n).toList 0 w (by rw [hl]; simpa using hc) (by rw [hl]; simpa using hf) (by intro v hv; rw [zeros_one n v hv]; rfl)
  simp only [Nat.add_zero] at hst
  refine ⟨(Builtin.zeroCells #[.int .i64 0, .int .i64 0] n).toList, ?_⟩
  have hz := Tryd.zeroValue23
  have ht := Tryd.underlying37
  obtain ⟨m, rfl⟩ : ∃ m, n = m + 1 := ⟨n - 1, by omega⟩
  simp [Builtin.clear_, run_underlying ht, hz, Value.cells]
  rw [hst]
  rfl

set_option maxHeartbeats 4000000 in
set_option maxRecDepth 100000 in
theorem compact_any (g cap : Nat) (d : Array (Int × Int)) (w : World) (hH : RA w g d) (hsz : d.size ≤ 1000) (hcap : d.size ≤ cap) :
    Calls Tryd.prog 23 #[.slice (some ⟨g, 0, none⟩) d.size cap] w fun e w' => e = .returned (.slice (some ⟨g, 0, none⟩) (compactUpTo d d.size).length cap) ∧ Only g w w' ∧ RA w' g (compactUpTo d d.size).toArray := by
  have HS : Hid ((∀ j, j < d.size → keeps d j = true) → compactUpTo d d.size = d.toList) := Lib.hid fun hall => by rw [compactUpTo_all d _ hall, range_map_get]
  have HH := Lib.hid hH
  clear hH
  by_cases h2 : d.size < 2
  · go_enter Tryd.func23, Tryd.ntmps23
    go_wp2
    go_ret
    have e := HS.out (fun j hj => keeps_lt_one d j (by omega))
    rw [e]
    exact ⟨by simp, Only.refl _ _, HH.out⟩
  · go_enter Tryd.func23, Tryd.ntmps23
    go_wp2
    go_loopg [3] d.size (fun gg s3 wr => ∃ k : Nat, 1 ≤ k ∧ k ≤ d.size ∧ Hid (d.size - k ≤ gg) ∧ s3 = .int .i64 k ∧ Hid (Only g w wr) ∧ Hid (RA wr g d) ∧ Hid (∀ j, j < k → keeps d j = true))
    case atStart => exact ⟨1, Nat.le_refl _, by omega, Lib.hid (by omega), rfl, Lib.hid (Only.refl _ _), HH, Lib.hid (keeps_lt_one d)⟩
    case round =>
      obtain ⟨k, hk1, hk, HG, rfl, HO, HR, HA⟩ := hrel
      by_cases hlt : k < d.size
      · obtain ⟨c0, c1, _, _⟩ := HR.out k hlt
        obtain ⟨e0, e1, _, _⟩ := HR.out (k - 1) (by omega)
        have i1 : ((k : Int) - 1).toNat = k - 1 := by omega
        generalize hx : d[k]! = x at c0 c1
        generalize hy : d[k - 1]! = y at e0 e1
        have HB := Lib.hid (And.intro hx hy)
        clear hx hy
        obtain ⟨a, b⟩ := x
        obtain ⟨a', b'⟩ := y
        by_cases hdup : (a, b) = (a', b')
        · injection hdup with h3 h4
          subst h3 h4
          go_wp2_with fail
          go_quiet (fail)
          have hkc : ¬ k = cap := by omega
          go_wp2
          clear c0 c1 e0 e1
          go_loopg [3, 5] d.size (fun gg s3 s5 wr => ∃ (kk k2 : Nat) (dk : Array (Int × Int)), s3 = .int .i64 kk ∧ s5 = .int .i64 k2 ∧ 1 ≤ k2 ∧ k + k2 ≤ d.size ∧ Hid (d.size - (k + k2) ≤ gg) ∧ Hid (Only g w wr) ∧ Hid (RA wr g dk) ∧ Hid (CompInv d (k + k2) kk dk))
          case atStart => exact ⟨k, 1, d, rfl, rfl, Nat.le_refl _, by omega, Lib.hid (by omega), Lib.hid ⟨HO.out.os, HO.out.tape, HO.out.output, HO.out.size, HO.out.block⟩, Lib.hid HR.out, Lib.hid (CompInv.start HA.out (keeps_neg (by omega) (by rw [HB.out.1, HB.out.2])))⟩
          case round =>
            obtain ⟨kk, k2, dk, rfl, rfl, h1, hle, HG2, HO2, HR2, HI⟩ := hrel
            have hkk := HI.out.lt
            have hds := HI.out.size
            by_cases hlt2 : k + k2 < d.size
            · obtain ⟨c0, c1, _, _⟩ := HR2.out (k + k2) (by omega)
              obtain ⟨e0, e1, _, _⟩ := HR2.out (k + k2 - 1) (by omega)
              obtain ⟨s0, s1, t0, t1⟩ := HR2.out kk (by omega)
              rw [HI.out.high (k + k2) (by omega), show (k + k2) * 2 = k * 2 + k2 * 2 by omega] at c0 c1
              rw [HI.out.high (k + k2 - 1) (by omega), show (k + k2 - 1) * 2 = k * 2 + (k2 - 1) * 2 by omega] at e0 e1
              have i2 : ((k2 : Int) - 1).toNat = k2 - 1 := by omega
              generalize hu : d[k + k2]! = u at c0 c1
              generalize hv : d[k + k2 - 1]! = v at e0 e1
              have HC := Lib.hid (And.intro hu hv)
              clear hu hv
              generalize dk[kk]!.1 = o0 at s0
              generalize dk[kk]!.2 = o1 at s1
              obtain ⟨p, q⟩ := u
              obtain ⟨p', q'⟩ := v
              by_cases huv : (p, q) = (p', q')
              · injection huv with h3 h4
                subst h3 h4
                go_wp2_with fail
                go_quiet (fail)
                go_wp2
                go_roundg (d.size - (k + (k2 + 1)))
                case measure => have := HG2.out; omega
                case rel => exact ⟨kk, k2 + 1, dk, rfl, by go_num, by omega, by omega, Lib.hid (Nat.le_refl _), Lib.hid ⟨HO2.out.os, HO2.out.tape, HO2.out.output, HO2.out.size, HO2.out.block⟩, Lib.hid HR2.out, Lib.hid (HI.out.skip (keeps_neg (by omega) (by rw [HC.out.1, HC.out.2])))⟩
              · have HD := Lib.hid huv
                have hor : (p == p') = false ∨ p = p' ∧ (q == q') = false := by
                  by_cases h3 : p = p'
                  · right
                    subst h3
                    exact ⟨rfl, by rw [beq_eq_false_iff_ne]; intro e; exact huv (by rw [e])⟩
                  · left
                    rw [beq_eq_false_iff_ne]; exact h3
                clear huv
                have HK : Hid (CompInv d (k + (k2 + 1)) (kk + 1) (dk.setIfInBounds kk (p, q))) := Lib.hid (by
                  have := HI.out.keep hlt2 (keeps_pos (by rw [HC.out.1, HC.out.2]; exact HD.out))
                  rwa [HC.out.1] at this)
                have HP : Hid (∀ W : World, W.heap = wr.heap → W.os = wr.os → W.tape = wr.tape → W.output = wr.output → Only g w ((W.setCell ⟨g, kk * 2, none⟩ (.int .i64 p)).setCell ⟨g, kk * 2 + 1, none⟩ (.int .i64 q)) ∧ RA ((W.setCell ⟨g, kk * 2, none⟩ (.int .i64 p)).setCell ⟨g, kk * 2 + 1, none⟩ (.int .i64 q)) g (dk.setIfInBounds kk (p, q))) := Lib.hid fun W e1 e2 e3 e4 => by
                  have hO : Only g w W := ⟨e2.trans HO2.out.os, e3.trans HO2.out.tape, e4.trans HO2.out.output, by rw [e1]; exact HO2.out.size, fun i hi => by rw [e1]; exact HO2.out.block i hi⟩
                  have hR : RA W g dk := fun j hj => by
                    have := HR2.out j hj
                    simpa only [World.cell?, World.frozen?, e1] using this
                  exact ⟨(hO.setCell _ _).setCell _ _, hR.put kk (by omega) (p, q)⟩
                rcases hor with h3 | ⟨h3, h4⟩
                · go_wp2_with fail
                  go_quiet (fail)
                  go_wp2
                  go_roundg (d.size - (k + (k2 + 1)))
                  case measure => have := HG2.out; omega
                  case rel => exact ⟨kk + 1, k2 + 1, _, by go_num, by go_num, by omega, by omega, Lib.hid (Nat.le_refl _), Lib.hid (HP.out (wr.drewN nq) rfl rfl rfl rfl).1, Lib.hid (HP.out (wr.drewN nq) rfl rfl rfl rfl).2, HK⟩
                · subst h3
                  go_wp2_with fail
                  go_quiet (fail)
                  go_wp2
                  go_roundg (d.size - (k + (k2 + 1)))
                  case measure => have := HG2.out; omega
                  case rel => exact ⟨kk + 1, k2 + 1, _, by go_num, by go_num, by omega, by omega, Lib.hid (Nat.le_refl _), Lib.hid (HP.out (wr.drewN nq) rfl rfl rfl rfl).1, Lib.hid (HP.out (wr.drewN nq) rfl rfl rfl rfl).2, HK⟩
            · have hend : k + k2 = d.size := by omega
              have hcell : ∀ j, j < (d.size - kk) * 2 → (wr.cell? ⟨g, kk * 2 + j, none⟩).isSome = true ∧ wr.frozen? ⟨g, kk * 2 + j, none⟩ = false := fun j hj => by
                obtain ⟨x0, x1, y0, y1⟩ := HR2.out (kk + j / 2) (by omega)
                rcases Nat.mod_two_eq_zero_or_one j with e | e
                · rw [show kk * 2 + j = (kk + j / 2) * 2 by omega]
                  exact ⟨by rw [x0]; rfl, y0⟩
                · rw [show kk * 2 + j = (kk + j / 2) * 2 + 1 by omega]
                  exact ⟨by rw [x1]; rfl, y1⟩
              obtain ⟨vs, hcl⟩ := clear_any wr 0 g (kk * 2) (d.size - kk) (cap - kk) (by omega) (fun j hj => (hcell j hj).1) (fun j hj => (hcell j hj).2)
              have hkc2 : ¬ kk = cap := by omega
              clear hcell
              go_wp2
              go_ret
              have hI := HI.out
              rw [hend] at hI
              refine ⟨by rw [hI.len]; rfl, HO2.out.trans (Only.setCells g vs _ wr), fun j hj => ?_⟩
              have hj' : j < kk := by simpa [hI.len] using hj
              have hd : (compactUpTo d d.size).toArray[j]! = dk[j]! := by
                have h1 := hI.low j hj'
                have hlen : j < (compactUpTo d d.size).length := by rw [hI.len]; exact hj'
                rw [TM.get_arr _ j hlen]
                rw [List.getElem?_eq_getElem hlen] at h1
                injection h1
              obtain ⟨x0, x1, y0, y1⟩ := HR2.out j (by omega)
              obtain ⟨z0, z1⟩ := cell_low g (j * 2) vs (kk * 2) wr (by omega)
              obtain ⟨z2, z3⟩ := cell_low g (j * 2 + 1) vs (kk * 2) wr (by omega)
              rw [hd]
              exact ⟨z0.trans x0, z2.trans x1, z1.trans y0, z3.trans y1⟩
        · have HD := Lib.hid hdup
          have hor : (a == a') = false ∨ a = a' ∧ (b == b') = false := by
            by_cases h3 : a = a'
            · right
              subst h3
              exact ⟨rfl, by rw [beq_eq_false_iff_ne]; intro e; exact hdup (by rw [e])⟩
            · left
              rw [beq_eq_false_iff_ne]; exact h3
          clear hdup
          rcases hor with h3 | ⟨h3, h4⟩
          · go_wp2_with fail
            go_quiet (fail)
            go_wp2
            go_roundg (d.size - (k + 1))
            case measure => have := HG.out; omega
            case rel => exact ⟨k + 1, by omega, by omega, Lib.hid (Nat.le_refl _), by go_num, Lib.hid ⟨HO.out.os, HO.out.tape, HO.out.output, HO.out.size, HO.out.block⟩, Lib.hid HR.out, Lib.hid (keeps_next HA.out (by rw [HB.out.1, HB.out.2]; exact HD.out))⟩
          · subst h3
            go_wp2_with fail
            go_quiet (fail)
            go_wp2
            go_roundg (d.size - (k + 1))
            case measure => have := HG.out; omega
            case rel => exact ⟨k + 1, by omega, by omega, Lib.hid (Nat.le_refl _), by go_num, Lib.hid ⟨HO.out.os, HO.out.tape, HO.out.output, HO.out.size, HO.out.block⟩, Lib.hid HR.out, Lib.hid (keeps_next HA.out (by rw [HB.out.1, HB.out.2]; exact HD.out))⟩
      · have : k = d.size := by omega
        subst this
        go_wp2
        go_ret
        have e := HS.out HA.out
        rw [e]
        exact ⟨by simp, HO.out, HR.out⟩
end Go.Proofs.YtlmiiapmanklpaaDoor
