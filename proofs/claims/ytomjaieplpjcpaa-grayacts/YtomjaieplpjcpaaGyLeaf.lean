/- Contracts of New, Len, Color, add. -/
import Derived.Test.YtomjaieplpjcpaaGyRow
import Derived.WalkMore
namespace Go.Proofs.Ytomjaieplpjcpaa
open Go.RowKit Go.Lib Go.Sort Go.Maps

section
variable {w : World} {base b m e : Nat} {P : Int → Nat} {bf bh : Nat → Nat} {s : GY.S} {x : Int}
theorem gnew_any (w : World) : Calls Try.prog 9 #[] w fun e w' => ∃ b, e = .returned (pv b) ∧ Gy w' w.heap.size b GY.S.nil ∧ Below w.heap.size w w' := by
  have hmm := @run_makeMap Try.prog
  go_enter Try.func9, Try.ntmps9
  go_wp2
  go_ret
  have h1 := ((Whole.fresh w 53 #[.int .i64 0, .int .i64 0, pv w.heap.size, pv w.heap.size]).alloc (.map #[] 0)).alloc (.cells #[.map (some (w.heap.size + 1)), pv w.heap.size, .int .i64 0] 56)
  have h2 := ThAt.made (w.alloc (.cells #[.int .i64 0, .int .i64 0, pv w.heap.size, pv w.heap.size] 53))
  have h3 := h2.keep (Below.heap_alloc _ (.cells #[.map (some (w.heap.size + 1)), pv w.heap.size, .int .i64 0] 56) _ h2.mapB.lt)
  rw [World.size_alloc] at h3
  refine ⟨w.heap.size + 1 + 1, rfl, ⟨w.heap.size + 1, w.heap.size, fun _ => 0, fun _ => w.heap.size, fun _ => w.heap.size, GY.Good.nil, fun x hx => absurd rfl hx, ⟨Whole.fresh' (by simp), h1, (by intro x hx; cases hx), ⟨rfl, rfl, trivial⟩, List.nodup_nil⟩, h3.ext (by intro z _; rfl), (by intro x hx; cases hx), ⟨by omega, by omega, by omega, fun x hx => absurd rfl hx⟩⟩, ?_⟩
  exact (((Below.refl _ w).alloc (Nat.le_refl _) _).alloc (by simp) _).alloc (by simp; omega) _

theorem glen_any (h : Gy w base b s) : Calls Try.prog 14 #[pv b] w fun e w' => e = .returned (.int .i64 ((s.W.length : Nat) : Int)) ∧ w = w' := by
  obtain ⟨m, e, P, bf, bh, h⟩ := h
  have c2 : w.cell? ⟨b, 2, none⟩ = some (.int .i64 ((s.W.length : Nat) : Int)) := by rw [h.ring.box.cell]; rfl
  clear h
  generalize s.W.length = d at c2 ⊢
  go_enter Try.func14, Try.ntmps14
  go_wp2
  go_ret
  exact ⟨rfl, rfl⟩
theorem glen_nil (w : World) : Calls Try.prog 14 #[.pointer none] w fun e w' => e = .returned (.int .i64 0) ∧ w = w' := by
  go_enter Try.func14, Try.ntmps14
  go_wp2
  go_ret
  exact ⟨rfl, rfl⟩

theorem GyAt.look_no (h : GyAt w base b m e P bf bh s) (hx : I64 x) (hc : GY.col s x = 0) : (Instr.lookup 54 (.map (some m)) (.int .i64 x) false).run Try.prog w = .ok (.pointer none) w := by
  have := h.map.look hx
  rw [if_pos hc] at this
  exact this
theorem GyAt.look_yes (h : GyAt w base b m e P bf bh s) (hx : I64 x) (hc : GY.col s x ≠ 0) : (Instr.lookup 54 (.map (some m)) (.int .i64 x) false).run Try.prog w = .ok (pv (P x)) w := by
  have := h.map.look hx
  rw [if_neg hc] at this
  exact this
theorem gcolor_any (h : Gy w base b s) (hx : I64 x) : Calls Try.prog 13 #[pv b, .int .i64 x] w fun e w' => e = .returned (.int .i64 ((GY.col s x : Nat) : Int)) ∧ w = w' := by
  obtain ⟨m, e, P, bf, bh, h⟩ := h
  have c0 : w.cell? ⟨b, 0, none⟩ = some (.map (some m)) := by rw [h.ring.box.cell]; rfl
  by_cases hc : GY.col s x = 0
  · have hl := h.look_no hx hc
    rw [hc]
    clear h hc hx
    go_enter Try.func13, Try.ntmps13
    go_wp2
    go_ret
    exact ⟨rfl, rfl⟩
  · have hl := h.look_yes hx hc
    obtain ⟨p, q, hk⟩ := h.known hc
    have d1 : w.cell? ⟨P x, 1, none⟩ = some (.int .i64 ((GY.col s x : Nat) : Int)) := by rw [hk.cell]; rfl
    clear h hc hx hk
    generalize GY.col s x = c at d1 ⊢
    generalize P x = g at d1 hl
    go_enter Try.func13, Try.ntmps13
    go_wp2
    go_ret
    exact ⟨rfl, rfl⟩
theorem gcolor_nil (w : World) (x : Int) : Calls Try.prog 13 #[.pointer none, .int .i64 x] w fun e w' => e = .returned (.int .i64 0) ∧ w = w' := by
  go_enter Try.func13, Try.ntmps13
  go_wp2
  go_ret
  exact ⟨rfl, rfl⟩

/-- One more thing, of no color yet. -/
theorem gadd_any {c : Nat} {cs : Array Value} {G : Int → Option Nat} (hb : Whole w b 56 cs) (hc0 : cs[0]? = some (.map (some m))) (hm : ThAt w m c G) (hx : I64 x) (hc : c < 1000000) :
    Calls Try.prog 29 #[pv b, .int .i64 x] w fun e w' => e = .returned (pv w.heap.size) ∧ Whole w' w.heap.size 53 #[.int .i64 x, .int .i64 0, .pointer none, .pointer none] ∧ ThAt w' m (c + 1) (updG G x (some w.heap.size)) ∧ Aft [m] w w' := by
  have hma := hm.mapB
  have hm1 : ThAt (w.alloc (.cells #[.int .i64 x, .int .i64 0, .pointer none, .pointer none] 53)) m c G := hm.keep (Below.heap_alloc _ _ m hma.lt)
  obtain ⟨w2, hrun, hm2, ha, hs⟩ := hm1.put hx hc w.heap.size
  have hw : Whole w2 w.heap.size 53 #[.int .i64 x, .int .i64 0, .pointer none, .pointer none] := ha.whole (Whole.fresh w _ _) (by simp; have := hma.lt; omega)
  have c0 : (w.alloc (.cells #[.int .i64 x, .int .i64 0, .pointer none, .pointer none] 53)).cell? ⟨b, 0, none⟩ = some (.map (some m)) := by rw [(hb.alloc _).cell, hc0]
  have HA := Lib.hid (((Aft.refl [m] w).alloc (.cells #[.int .i64 x, .int .i64 0, .pointer none, .pointer none] 53)).trans ha)
  have HM := Lib.hid hm2
  have HW := Lib.hid hw
  clear hm hm1 hm2 ha hw hma hb hc0 hs hx hc
  go_enter Try.func29, Try.ntmps29
  go_wp2
  go_ret
  exact ⟨rfl, HW.out, HM.out, HA.out⟩
end
end Go.Proofs.Ytomjaieplpjcpaa
