/- The contract of graph's targetsOf. -/
import Derived.Test.YtmmclccghlmfmaaGrMap
import Derived.Test.YtmmclccghlmfmaaGrOpen
import Derived.Deep.RegionHeld3
import Derived.Deep.AppendLies
import Derived.BigQuiet
namespace Go.Proofs.Ytmmclccghlmfmaa
open Go.RowKit Go.Lib Go.Sort Go.Maps

theorem EI.at_ {es : List (Int × Int)} (h : EI es) {k : Nat} (hk : k < es.length) : I64 es[k].1 ∧ I64 es[k].2 := h _ (List.getElem_mem hk)
/-- The round's state. -/
structure TgR (w : World) (es : List (Int × Int)) (k : Nat) (wr : World) : Prop where
  at_ : TgAt wr (w.heap.size + 1) w.heap.size (es.take k)
  bel : Below w.heap.size w wr
  lo : w.heap.size + 1 ≤ wr.heap.size

theorem row_not {w : World} {lo e size n c : Nat} {v : Value} {xs : List Value} {t : TypeId} {cs : Array Value} (h : w.ownsRow lo e size v n xs) (hc : Whole w c t cs) (ht : t ≠ e) : some c ≠ v.ownBlock := by
  rcases h.2 with ⟨rfl, _⟩ | ⟨g, cap, cur, rfl, _, hh, _⟩
  · simp [Value.ownBlock]
  · intro e1
    simp [Value.ownBlock] at e1
    subst e1
    unfold Whole at hc
    rw [hc] at hh
    injection hh with h1
    injection h1 with _ h2 _
    exact ht h2
/-- Behind the append: the store, and what it leaves. -/
theorem tg_put {w wr W Wa w3 : World} {es : List (Int × Int)} {k g cap p : Nat} {x y : Int} {v : Value} {cs : Array Value} (hr : Hid (TgR w es k wr)) (hk : k < es.length) (hxy : es[k] = (x, y)) (hy : I64 y)
    (hW : Below wr.heap.size wr W) (ho : W.ownsInts (w.heap.size + 1) 3 .i64 v (GM.tg (es.take k) x))
    (hb : ∀ (w1 : World) (v' : Value), W.grownBy w1 v.ownBlock → w1.ownsInts (w.heap.size + 1) 3 .i64 v' (GM.tg (es.take k) x ++ [y]) → (v'.ownBlock = v.ownBlock ∨ ∃ g, v'.ownBlock = some g ∧ W.heap.size ≤ g) →
      ∃ w2, (Instr.mapUpdate 42 (.map (some w.heap.size)) (.int .i64 x) v').run Try.prog w1 = .ok () w2 ∧ TgAt w2 (w.heap.size + 1) w.heap.size (es.take k ++ [(x, y)]) ∧ w1.grownBy w2 (some w.heap.size))
    (ha : W.grownBy Wa v.ownBlock) (hp : Whole W p 37 cs) (hpl : wr.heap.size ≤ p)
    (h3 : w3.ownsRow (w.heap.size + 1) 3 1 (.slice (some ⟨g, 0, none⟩) ((GM.tg (es.take k) x).length + 1) cap) ((GM.tg (es.take k) x).length + 1) ((GM.tg (es.take k) x).map (Value.int .i64) ++ [.int .i64 y]))
    (hg : Wa.grownBy w3 v.ownBlock) (hat : v.ownBlock = some g ∨ g = Wa.heap.size) :
    ∃ w4, (Instr.mapUpdate 42 (.map (some w.heap.size)) (.int .i64 x) (.slice (some ⟨g, 0, none⟩) ((GM.tg (es.take k) x).length + 1) cap)).run Try.prog w3 = .ok () w4 ∧ Hid (TgR w es (k + 1) w4) ∧ Whole w3 p 37 cs ∧ Whole w4 p 37 cs := by
  obtain ⟨w4, hrun, h4, hg4⟩ := hb w3 _ (ha.trans hg) (ho.appended h3 hy.wf) (hat.elim (fun e => .inl e.symm) fun e => .inr ⟨g, rfl, by have := ha.size; omega⟩)
  have hlo := hr.out.lo
  have hne : some p ≠ v.ownBlock := row_not ho.1 hp (by decide)
  have hpa : Whole Wa p 37 cs := (ha.block p hp.lt hne).trans hp
  have hp3 : Whole w3 p 37 cs := (hg.block p hpa.lt hne).trans hpa
  have hp4 : Whole w4 p 37 cs := (hg4.block p hp3.lt (by intro e; injection e with e; omega)).trans hp3
  refine ⟨w4, hrun, Lib.hid ⟨?_, ?_, ?_⟩, hp3, hp4⟩
  · rw [List.take_succ_eq_append_getElem hk, hxy]
    exact h4
  · exact ((hr.out.bel.trans (hW.mono (by omega))).groups ho (ha.trans hg) hg4 (by have := hr.out.bel.size; have := hW.size; omega) (Nat.le_succ _) (Nat.le_refl _))
  · have := hW.size; have := ha.size; have := hg.size; have := hg4.size; omega

set_option maxHeartbeats 2000000 in
set_option maxRecDepth 100000 in
theorem targets_any {w : World} {A : Option Addr} {n c : Nat} {es : List (Int × Int)} (h : ES w A n es) (hi : EI es) (hn : n ≤ 1000) :
    Calls Try.prog 20 #[.slice A n c] w fun e w' => ∃ base b, e = .returned (.map (some b)) ∧ TgAt w' base b es ∧ Below w.heap.size w w' ∧ w.heap.size ≤ b := by
  have hmm := @run_makeMap Try.prog
  obtain ⟨i0, hi0, hz0, hz1, hz2⟩ := info_parts infoZ
  have HE := Lib.hid h
  have HI := Lib.hid hi
  have hlen := h.len
  clear h hi
  go_enter Try.func20, Try.ntmps20
  go_wp2
  go_loopw [9] (fun i wr => ∃ k : Nat, k ≤ n ∧ i = .int .i64 k ∧ Hid (TgR w es k wr)) (fun i _ => n - (intOf i).toNat)
  case atStart => exact ⟨0, Nat.zero_le _, rfl, Lib.hid ⟨TgAt.made w, (Below.refl _ _).alloc (Nat.le_refl _) _, by simp⟩⟩
  case round =>
    obtain ⟨k, hk, rfl, HR⟩ := hrel
    by_cases hlt : k < n
    · obtain ⟨b, off, rfl, hb, c0, c1⟩ := HE.out.at_ hlt
      have d0 := (HR.out.bel.cell (p := ⟨b, _, none⟩) hb).trans c0
      have d1 := (HR.out.bel.cell (p := ⟨b, _, none⟩) hb).trans c1
      have hI := HI.out.at_ (k := k) (by omega)
      obtain ⟨e, he⟩ : ∃ e, e = es[k]'(by omega) := ⟨_, rfl⟩
      obtain ⟨x, y⟩ := e
      rw [← he] at d0 d1 hI
      have HXY := Lib.hid he.symm
      have HX := Lib.hid hI.1
      have HY := Lib.hid hI.2
      have htl : (es.take k).length ≤ 1000 := by rw [List.length_take]; omega
      have hgl : (GM.tg (es.take k) x).length ≤ 1000 := Nat.le_trans (GM.tg_len _ _) htl
      have HT := Lib.hid (fun (W : World) (hW : Below wr.heap.size wr W) => HR.out.at_.below hW)
      clear c0 c1 hI he
      go_wp2_with fail
      have hb0 : Below wr.heap.size wr (wr.alloc (.cells #[.int .i64 x, .int .i64 y] 37)).drew := ((Below.refl _ _).alloc (Nat.le_refl _) _).drew
      have hw0 : Whole (wr.alloc (.cells #[.int .i64 x, .int .i64 y] 37)).drew wr.heap.size 37 #[.int .i64 x, .int .i64 y] := Whole.fresh wr _ _
      have hb1 : Below wr.heap.size wr ((wr.alloc (.cells #[.int .i64 x, .int .i64 y] 37)).alloc (.cells #[.int .i64 y] 3)).drew := hb0.alloc (by simp) _
      have hw1 : Whole ((wr.alloc (.cells #[.int .i64 x, .int .i64 y] 37)).alloc (.cells #[.int .i64 y] 3)).drew wr.heap.size 37 #[.int .i64 x, .int .i64 y] := hw0.alloc (.cells #[.int .i64 y] 3)
      obtain ⟨v1, hrun1, hoi1, hback1⟩ := (HT.out _ hb0).at_ (y := y) HX.out (by omega)
      obtain ⟨v2, hrun2, hoi2, hback2⟩ := (HT.out _ hb1).at_ (y := y) HX.out (by omega)
      have HB0 := Lib.hid (And.intro hb0 hw0)
      have HB1 := Lib.hid (And.intro hb1 hw1)
      have HO1 := Lib.hid (And.intro hoi1 hback1)
      have HO2 := Lib.hid (And.intro hoi2 hback2)
      clear hb0 hb1 hw0 hw1 hoi1 hoi2 hback1 hback2
      obtain ⟨zs, hzs⟩ : ∃ zs, zs = GM.tg (es.take k) x := ⟨_, rfl⟩
      have HZ := Lib.hid hzs
      rw [← hzs] at hgl
      clear hzs
      go_region_held3 (fun w' => w'.cell? ⟨wr.heap.size, 0, none⟩ = some (.int .i64 x) ∧ w'.cell? ⟨wr.heap.size, 1, none⟩ = some (.int .i64 y)) (simp [go_sem, *])
        (first
          | (refine step_append_lies _ rfl (.tmp 19) (.tmp 22) 22 rfl (w.heap.size + 1) 3 i0 _ 1 8 Try.underlying22 hi0 hz0 hz1 hz2 rfl (by decide) _ zs.length (zs.map (Value.int .i64)) rfl (by rw [HZ.out]; first | exact HO1.out.1.1.alloc _ | exact HO2.out.1.1) ⟨wr.heap.size + 1, 0, none⟩ 1 1 [.int .i64 y] (by simp [Act.eval]) rfl (World.news_of_block (by exact Whole.fresh' (by simp))) (by simp [Value.oneCell']) (by decide) (by unfold maxLen; omega) (by omega) (by have := HR.out.lo; simp; omega) (wr.heap.size + 2) (by simp) ?_
             intro g cap w3 hown hgr hat hlt3
             have hput : ∃ w4, (Instr.mapUpdate 42 (.map (some w.heap.size)) (.int .i64 x) (.slice (some ⟨g, 0, none⟩) (zs.length + 1) cap)).run Try.prog w3 = .ok () w4 ∧ Hid (TgR w es (k + 1) w4) ∧ Whole w3 wr.heap.size 37 #[.int .i64 x, .int .i64 y] ∧ Whole w4 wr.heap.size 37 #[.int .i64 x, .int .i64 y] := by
               rw [HZ.out] at hown ⊢
               first
                 | exact tg_put HR (by omega) HXY.out HY.out HB0.out.1 HO1.out.1 HO1.out.2 (World.grownBy_alloc _ _ _) HB0.out.2 (Nat.le_refl _) hown hgr (hat.imp id fun e => by rw [e]; simp)
                 | exact tg_put HR (by omega) HXY.out HY.out HB1.out.1 HO2.out.1 HO2.out.2 (World.grownBy.refl _ _) HB1.out.2 (Nat.le_refl _) hown hgr (hat.imp id fun e => by rw [e]; simp)
             obtain ⟨w4, hr4, HR4, k3, k4⟩ := hput
             have k30 := k3.cell 0; have k31 := k3.cell 1; have k40 := k4.cell 0; have k41 := k4.cell 1
             simp at k30 k31 k40 k41
             clear hown hgr hat k3 k4))
      all_goals
        go_wp2
        go_roundw
        case rel => exact ⟨k + 1, by omega, by go_num, HR4⟩
        case measure => simp [intOf]; omega
    · obtain rfl : k = n := by omega
      go_wp2
      go_ret
      have ht := HR.out.at_
      rw [List.take_of_length_le (by omega)] at ht
      exact ⟨_, _, rfl, ht, HR.out.bel, Nat.le_refl _⟩
end Go.Proofs.Ytmmclccghlmfmaa
