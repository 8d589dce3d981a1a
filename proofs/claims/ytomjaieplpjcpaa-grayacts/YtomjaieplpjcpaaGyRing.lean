/- Contracts of wait and leave: the ring turns. -/
import Derived.Test.YtomjaieplpjcpaaGyLeaf
import Derived.BigRegion
namespace Go.Proofs.Ytomjaieplpjcpaa
open Go.RowKit Go.Lib Go.Sort Go.Maps

section
variable {w : World} {g k j : Nat} {a c u : Value} {bf bh : Nat → Nat} {t : TypeId}
theorem nd_bh (h : Whole w g t #[a, c, u, pv (bh g)]) (p v : Nat) : Whole (w.setCell ⟨p, 3, none⟩ (pv v)) g t #[a, c, u, pv (GY.upd bh p v g)] := by
  by_cases e : g = p
  · subst e
    rw [GY.upd_same]
    exact h.set 3 _
  · rw [GY.upd_other e]
    exact h.far (p := ⟨p, 3, none⟩) e _
theorem nd_bf (h : Whole w g t #[a, c, pv (bf g), u]) (p v : Nat) : Whole (w.setCell ⟨p, 2, none⟩ (pv v)) g t #[a, c, pv (GY.upd bf p v g), u] := by
  by_cases e : g = p
  · subst e
    rw [GY.upd_same]
    exact h.set 2 _
  · rw [GY.upd_other e]
    exact h.far (p := ⟨p, 2, none⟩) e _
end

section
variable {w : World} {b m e : Nat} {W : List Int} {P : Int → Nat} {bf bh : Nat → Nat} {x : Int} {c : Int} {p q : Value}
/-- The world behind wait. -/
def waitW (w : World) (b e t l : Nat) (n : Int) : World :=
  (((((w.setCell ⟨t, 1, none⟩ (.int .i64 1)).setCell ⟨t, 2, none⟩ (pv l)).setCell ⟨t, 3, none⟩ (pv e)).setCell ⟨l, 3, none⟩ (pv t)).setCell ⟨e, 2, none⟩ (pv t)).setCell ⟨b, 2, none⟩ (.int .i64 n)
theorem wait_ring (R : RingAt w b m e W P bf bh) (ht : Whole w (P x) 53 #[.int .i64 x, .int .i64 c, p, q]) (hx : x ∉ W) (he : P x ≠ e) :
    RingAt (waitW w b e (P x) (bf e) ((W.length : Int) + 1)) b m e (W ++ [x]) P (GY.upd (GY.upd bf (P x) (bf e)) e (P x)) (GY.upd (GY.upd bh (P x) e) (bf e) (P x)) ∧ Aft (b :: P x :: e :: W.map P) w (waitW w b e (P x) (bf e) ((W.length : Int) + 1)) := by
  have hnt : ∀ y ∈ W, P y ≠ P x := fun y hy => thing_ne (R.wait y hy) ht (.inl fun k => hx (k ▸ hy))
  have hta : P x ∉ e :: W.map P := by
    intro hm
    rcases List.mem_cons.1 hm with k | k
    · exact he k
    · obtain ⟨z, hz, ez⟩ := List.mem_map.1 k
      exact hnt z hz ez
  have hr := GY.ring_wait R.nodup hta R.ring
  have hl := hr.1
  obtain ⟨t, hte⟩ : ∃ t, t = P x := ⟨_, rfl⟩
  obtain ⟨l, hle⟩ : ∃ l, l = bf e := ⟨_, rfl⟩
  rw [← hle] at hr hl ⊢
  rw [← hte] at hr ht he hta ⊢
  have hbt : b ≠ t := box_ne R.box ht
  have hbe : b ≠ e := box_ne R.box R.ends
  have hbn : ∀ y ∈ W, b ≠ P y := fun y hy => box_ne R.box (R.wait y hy)
  have hbl : b ≠ l := by
    obtain ⟨z, d, hz⟩ := R.node hl
    exact box_ne R.box hz
  have key : ∀ {g : Nat} {a d : Value}, g ≠ t → g ≠ b → Whole w g 53 #[a, d, pv (bf g), pv (bh g)] → Whole (waitW w b e t l ((W.length : Int) + 1)) g 53 #[a, d, pv (GY.upd (GY.upd bf t l) e t g), pv (GY.upd (GY.upd bh t e) l t g)] := by
    intro g a d h1 h2 h
    unfold waitW
    refine Whole.far ?_ (p := ⟨b, 2, none⟩) h2 _
    refine nd_bf (bf := GY.upd bf t l) ?_ e t
    refine nd_bh (bh := GY.upd bh t e) ?_ l t
    rw [GY.upd_other h1, GY.upd_other h1]
    exact ((h.far (p := ⟨t, 1, none⟩) h1 _).far (p := ⟨t, 2, none⟩) h1 _).far (p := ⟨t, 3, none⟩) h1 _
  have keyt : Whole (waitW w b e t l ((W.length : Int) + 1)) t 53 #[.int .i64 x, .int .i64 1, pv (GY.upd (GY.upd bf t l) e t t), pv (GY.upd (GY.upd bh t e) l t t)] := by
    unfold waitW
    refine Whole.far ?_ (p := ⟨b, 2, none⟩) hbt.symm _
    refine nd_bf (bf := GY.upd bf t l) ?_ e t
    refine nd_bh (bh := GY.upd bh t e) ?_ l t
    rw [GY.upd_same, GY.upd_same]
    exact ((ht.set 1 (.int .i64 1)).set 2 (pv l)).set 3 (pv e)
  refine ⟨⟨?_, ?_, fun y hy => ?_, ?_, GY.snoc_nodup R.nd hx⟩, ?_⟩
  · have h0 : Whole (((((w.setCell ⟨t, 1, none⟩ (.int .i64 1)).setCell ⟨t, 2, none⟩ (pv l)).setCell ⟨t, 3, none⟩ (pv e)).setCell ⟨l, 3, none⟩ (pv t)).setCell ⟨e, 2, none⟩ (pv t)) b 56 #[.map (some m), pv e, .int .i64 ((W.length : Nat) : Int)] :=
      ((((R.box.far (p := ⟨t, 1, none⟩) hbt _).far (p := ⟨t, 2, none⟩) hbt _).far (p := ⟨t, 3, none⟩) hbt _).far (p := ⟨l, 3, none⟩) hbl _).far (p := ⟨e, 2, none⟩) hbe _
    rw [List.length_append, List.length_singleton, show (((W.length + 1 : Nat)) : Int) = (W.length : Int) + 1 by omega]
    exact h0.set 2 _
  · exact key he.symm hbe.symm R.ends
  · rcases List.mem_append.1 hy with hy | hy
    · exact key (by rw [hte]; exact hnt y hy) (hbn y hy).symm (R.wait y hy)
    · rw [List.mem_singleton] at hy
      subst hy
      rw [← hte]
      exact keyt
  · rw [List.map_append, List.map_cons, List.map_nil, ← hte]
    exact hr.2
  · unfold waitW
    refine Aft.setCell (Aft.setCell (Aft.setCell (Aft.setCell (Aft.setCell (Aft.setCell (Aft.refl _ _) ?_ _ _) ?_ _ _) ?_ _ _) ?_ _ _) ?_ _ _) ?_ _ _
    · simp
    · simp
    · simp
    · exact List.mem_cons_of_mem _ (List.mem_cons_of_mem _ hl)
    · simp
    · simp
set_option maxHeartbeats 1000000 in
theorem gwait_any (R : RingAt w b m e W P bf bh) (ht : Whole w (P x) 53 #[.int .i64 x, .int .i64 c, p, q]) (hx : x ∉ W) (he : P x ≠ e) (hn : W.length ≤ 1000000) :
    Calls Try.prog 28 #[pv b, pv (P x)] w fun ex w' => ex = .returned (.tuple #[]) ∧ (∃ bf' bh', RingAt w' b m e (W ++ [x]) P bf' bh') ∧ Aft (b :: P x :: e :: W.map P) w w' := by
  have hend := wait_ring R ht hx he
  have hta : P x ∉ e :: W.map P := by
    intro hm
    rcases List.mem_cons.1 hm with k | k
    · exact he k
    · obtain ⟨z, hz, ez⟩ := List.mem_map.1 k
      exact (thing_ne (R.wait z hz) ht (.inl fun k => hx (k ▸ hz))) ez
  have hl := (GY.ring_wait R.nodup hta R.ring).1
  obtain ⟨zl, dl, hlw⟩ := R.node hl
  have hE := R.ends
  have hB := R.box
  obtain ⟨E, hEe⟩ : ∃ E, E = GY.upd (GY.upd bf (P x) (bf e)) e (P x) := ⟨_, rfl⟩
  obtain ⟨F, hFe⟩ : ∃ F, F = GY.upd (GY.upd bh (P x) e) (bf e) (P x) := ⟨_, rfl⟩
  rw [← hEe, ← hFe] at hend
  clear hEe hFe
  obtain ⟨l, hle⟩ : ∃ l, l = bf e := ⟨_, rfl⟩
  rw [← hle] at hend hl hlw hE
  have htl : P x ≠ l := fun k => hta (k ▸ hl)
  clear hta hl
  have hbt : b ≠ P x := box_ne hB ht
  have hbe : b ≠ e := box_ne hB hE
  have hbl : b ≠ l := box_ne hB hlw
  obtain ⟨t, hte⟩ : ∃ t, t = P x := ⟨_, rfl⟩
  rw [← hte] at ht he htl hbt hend ⊢
  have hE2 := he.symm
  have hT2 := htl.symm
  have hB1 := hbt.symm
  have hB2 := hbe.symm
  have hB3 := hbl.symm
  have HEND := Lib.hid hend
  have c1 : w.cell? ⟨b, 1, none⟩ = some (pv e) := by rw [hB.cell]; rfl
  have c2 : w.cell? ⟨b, 2, none⟩ = some (.int .i64 ((W.length : Nat) : Int)) := by rw [hB.cell]; rfl
  have e2 : w.cell? ⟨e, 2, none⟩ = some (pv l) := by rw [hE.cell]; rfl
  have t1 : w.cell? ⟨t, 1, none⟩ = some (.int .i64 c) := by rw [ht.cell]; rfl
  have t2 : w.cell? ⟨t, 2, none⟩ = some p := by rw [ht.cell]; rfl
  have t3 : w.cell? ⟨t, 3, none⟩ = some q := by rw [ht.cell]; rfl
  have l3 : w.cell? ⟨l, 3, none⟩ = some (pv (bh (bf e))) := by rw [hlw.cell, hle]; rfl
  have f1 := hB.free 2
  have f2 := hE.free 2
  have f3 := ht.free 1
  have f4 := ht.free 2
  have f5 := ht.free 3
  have f6 := hlw.free 3
  clear hend R ht hE hB hlw hle hte hx zl dl
  unfold waitW at HEND
  generalize W.length = n at c2 hn HEND
  generalize bh (bf e) = r at l3
  go_enter Try.func28, Try.ntmps28
  go_wp2
  go_end0
  exact ⟨rfl, ⟨E, F, HEND.out.1⟩, HEND.out.2⟩

/-- What leave has turned when t's neighbours have been joined. -/
structure Joined (w wm : World) (b t n p : Nat) (bf bh : Nat → Nat) (S : List Nat) : Prop where
  nodes : ∀ {g : Nat} {a d : Value}, Whole w g 53 #[a, d, pv (bf g), pv (bh g)] → Whole wm g 53 #[a, d, pv (GY.upd bf n p g), pv (GY.upd bh p n g)]
  box : ∀ {cs : Array Value}, Whole w b 56 cs → Whole wm b 56 cs
  own : ∀ {cs : Array Value}, Whole w t 53 cs → Whole wm t 53 cs
  aft : Aft S w wm
theorem joined1 {t n l : Nat} {S : List Nat} (hb : b ≠ l ∧ b ≠ n) (ht : t ≠ l ∧ t ≠ n) (hl : l ∈ S) (hn : n ∈ S) : Joined w ((w.setCell ⟨l, 3, none⟩ (pv n)).setCell ⟨n, 2, none⟩ (pv l)).drew b t n l bf bh S :=
  ⟨fun h => (nd_bf (nd_bh h l n) n l).drew, fun h => ((h.far (p := ⟨l, 3, none⟩) hb.1 _).far (p := ⟨n, 2, none⟩) hb.2 _).drew, fun h => ((h.far (p := ⟨l, 3, none⟩) ht.1 _).far (p := ⟨n, 2, none⟩) ht.2 _).drew, (((Aft.refl _ _).setCell hl _ _).setCell hn _ _).drew⟩
/-- The world behind the rest of leave. -/
def leaveW (w : World) (b t : Nat) (n : Int) : World :=
  (((w.setCell ⟨t, 1, none⟩ (.int .i64 2)).setCell ⟨t, 2, none⟩ (.pointer none)).setCell ⟨t, 3, none⟩ (.pointer none)).setCell ⟨b, 2, none⟩ (.int .i64 n)
theorem leave_ring {wm : World} (R : RingAt w b m e W P bf bh) (hx : x ∈ W) (J : Joined w wm b (P x) (bh (P x)) (bf (P x)) bf bh (b :: e :: W.map P)) :
    RingAt (leaveW wm b (P x) ((W.length : Int) - 1)) b m e (GY.out W x) P (GY.upd bf (bh (P x)) (bf (P x))) (GY.upd bh (bf (P x)) (bh (P x))) ∧ Whole (leaveW wm b (P x) ((W.length : Int) - 1)) (P x) 53 #[.int .i64 x, .int .i64 2, .pointer none, .pointer none] ∧ Aft (b :: e :: W.map P) w (leaveW wm b (P x) ((W.length : Int) - 1)) := by
  have hlen := GY.out_len R.nd hx
  have hbt : b ≠ P x := box_ne R.box (R.wait x hx)
  have hbe : b ≠ e := box_ne R.box R.ends
  have hte := R.ne hx
  have hmem : P x ∈ b :: e :: W.map P := List.mem_cons_of_mem _ (List.mem_cons_of_mem _ (List.mem_map.2 ⟨x, hx, rfl⟩))
  have key : ∀ {g : Nat} {a d : Value}, g ≠ P x → g ≠ b → Whole w g 53 #[a, d, pv (bf g), pv (bh g)] → Whole (leaveW wm b (P x) ((W.length : Int) - 1)) g 53 #[a, d, pv (GY.upd bf (bh (P x)) (bf (P x)) g), pv (GY.upd bh (bf (P x)) (bh (P x)) g)] := fun {g a d} h1 h2 h =>
    ((((J.nodes h).far (p := ⟨P x, 1, none⟩) h1 _).far (p := ⟨P x, 2, none⟩) h1 _).far (p := ⟨P x, 3, none⟩) h1 _).far (p := ⟨b, 2, none⟩) h2 _
  refine ⟨⟨?_, ?_, fun y hy => ?_, ?_, GY.out_nodup R.nd x⟩, ?_, ?_⟩
  · have h0 : Whole (((wm.setCell ⟨P x, 1, none⟩ (.int .i64 2)).setCell ⟨P x, 2, none⟩ (.pointer none)).setCell ⟨P x, 3, none⟩ (.pointer none)) b 56 #[.map (some m), pv e, .int .i64 ((W.length : Nat) : Int)] :=
      (((J.box R.box).far (p := ⟨P x, 1, none⟩) hbt _).far (p := ⟨P x, 2, none⟩) hbt _).far (p := ⟨P x, 3, none⟩) hbt _
    rw [show (((GY.out W x).length : Nat) : Int) = (W.length : Int) - 1 by omega]
    exact h0.set 2 _
  · exact key hte.symm hbe.symm R.ends
  · have hy' := GY.mem_out.1 hy
    exact key (fun k => hy'.2 (R.inj hy'.1 hx k)) (box_ne R.box (R.wait y hy'.1)).symm (R.wait y hy'.1)
  · obtain ⟨A, B, hAB⟩ := List.append_of_mem hx
    have hnd := R.nd
    have hn2 := R.nodup
    have hr := R.ring
    subst hAB
    rw [GY.out_mid hnd]
    rw [List.map_append, List.map_cons] at hn2 hr
    rw [List.map_append]
    exact (GY.ring_leave hn2 hr).2.2
  · have h0 := (((J.own (R.wait x hx)).set 1 (.int .i64 2)).set 2 (.pointer none)).set 3 (.pointer none)
    exact h0.far (p := ⟨b, 2, none⟩) hbt.symm _
  · unfold leaveW
    exact (((J.aft.setCell hmem _ _).setCell hmem _ _).setCell hmem _ _).setCell (by simp) _ _
set_option maxHeartbeats 1000000 in
theorem gleave_any (R : RingAt w b m e W P bf bh) (hx : x ∈ W) (hn : W.length ≤ 1000000) :
    Calls Try.prog 27 #[pv b, pv (P x)] w fun ex w' => ex = .returned (.tuple #[]) ∧ (∃ bf' bh', RingAt w' b m e (GY.out W x) P bf' bh') ∧ Whole w' (P x) 53 #[.int .i64 x, .int .i64 2, .pointer none, .pointer none] ∧ Aft (b :: e :: W.map P) w w' := by
  have hend := fun wm => leave_ring (wm := wm) R hx
  have hT := R.wait x hx
  have hB := R.box
  have hpos : 0 < W.length := List.length_pos_of_mem hx
  obtain ⟨hl, hn'⟩ : bf (P x) ∈ e :: W.map P ∧ bh (P x) ∈ e :: W.map P ∧ P x ≠ bf (P x) ∧ P x ≠ bh (P x) := by
    obtain ⟨A, B, hAB⟩ := List.append_of_mem hx
    have hn2 := R.nodup
    have hr := R.ring
    subst hAB
    rw [List.map_append, List.map_cons] at hn2 hr ⊢
    have h1 := GY.ring_leave hn2 hr
    have hd := hn2
    rw [show e :: (A.map P ++ P x :: B.map P) = (e :: A.map P) ++ P x :: B.map P by simp, List.nodup_append] at hd
    refine ⟨?_, ?_, fun k => hd.2.2 _ h1.1 (P x) List.mem_cons_self k.symm, fun k => ?_⟩
    · have := h1.1; simp at this ⊢; rcases this with h | h
      · exact .inl h
      · exact .inr (.inl h)
    · have := h1.2.1; simp at this ⊢; rcases this with h | h
      · exact .inl h
      · exact .inr (.inr (.inr h))
    · rcases List.mem_cons.1 h1.2.1 with h2 | h2
      · exact hd.2.2 e List.mem_cons_self (P x) List.mem_cons_self (by rw [k, h2])
      · exact (List.nodup_cons.1 hd.2.1).1 (by rw [← k] at h2; exact h2)
  obtain ⟨hn1, htl, htn⟩ := hn'
  obtain ⟨zl, dl, hL⟩ := R.node hl
  obtain ⟨zn, dn, hN⟩ := R.node hn1
  have hbt : b ≠ P x := box_ne hB hT
  have hbl : b ≠ bf (P x) := box_ne hB hL
  have hbn : b ≠ bh (P x) := box_ne hB hN
  have hJ := joined1 (w := w) (bf := bf) (bh := bh) (S := b :: e :: W.map P) ⟨hbl, hbn⟩ ⟨htl, htn⟩ (List.mem_cons_of_mem _ hl) (List.mem_cons_of_mem _ hn1)
  obtain ⟨E, hEe⟩ : ∃ E, E = GY.upd bf (bh (P x)) (bf (P x)) := ⟨_, rfl⟩
  obtain ⟨F, hFe⟩ : ∃ F, F = GY.upd bh (bf (P x)) (bh (P x)) := ⟨_, rfl⟩
  rw [← hEe, ← hFe] at hend
  clear hEe hFe hl hn1 R
  obtain ⟨t, hte⟩ : ∃ t, t = P x := ⟨_, rfl⟩
  rw [← hte] at hend hT hL hN htl htn hbt hbl hbn hJ ⊢
  clear hte
  obtain ⟨l, hle⟩ : ∃ l, l = bf t := ⟨_, rfl⟩
  obtain ⟨n, hne⟩ : ∃ n, n = bh t := ⟨_, rfl⟩
  rw [← hle, ← hne] at hend hT hJ
  rw [← hle] at htl hbl hL
  rw [← hne] at htn hbn hN
  clear hle hne
  obtain ⟨wm, hwm⟩ : ∃ wm, wm = ((w.setCell ⟨l, 3, none⟩ (pv n)).setCell ⟨n, 2, none⟩ (pv l)).drew := ⟨_, rfl⟩
  rw [← hwm] at hJ
  have HEND := Lib.hid (hend wm hJ)
  have HWM := Lib.hid hwm
  have hBm := hJ.box hB
  have hTm := hJ.own hT
  have c2 : wm.cell? ⟨b, 2, none⟩ = some (.int .i64 ((W.length : Nat) : Int)) := by rw [hBm.cell]; rfl
  have t1 : wm.cell? ⟨t, 1, none⟩ = some (.int .i64 1) := by rw [hTm.cell]; rfl
  have m2 : wm.cell? ⟨t, 2, none⟩ = some (pv l) := by rw [hTm.cell]; rfl
  have m3 : wm.cell? ⟨t, 3, none⟩ = some (pv n) := by rw [hTm.cell]; rfl
  have t2 : w.cell? ⟨t, 2, none⟩ = some (pv l) := by rw [hT.cell]; rfl
  have t3 : w.cell? ⟨t, 3, none⟩ = some (pv n) := by rw [hT.cell]; rfl
  have l3 : w.cell? ⟨l, 3, none⟩ = some (pv (bh l)) := by rw [hL.cell]; rfl
  have n2 : w.cell? ⟨n, 2, none⟩ = some (pv (bf n)) := by rw [hN.cell]; rfl
  have f1 := hBm.free 2
  have f3 := hTm.free 1
  have f4 := hTm.free 2
  have f5 := hTm.free 3
  have f6 := hL.free 3
  have f7 := hN.free 2
  have hT1 := htl.symm
  have hT2 := htn.symm
  have hB1 := hbt.symm
  clear hend hJ hwm hT hTm hBm hL hN hB hx hbl hbn
  unfold leaveW at HEND
  generalize W.length = k at c2 hn HEND hpos
  generalize bh l = r1 at l3
  generalize bf n = r2 at n2
  go_enter Try.func27, Try.ntmps27
  go_wp2
  go_region
  rw [← HWM.out]
  go_wp2
  go_end0
  exact ⟨rfl, ⟨E, F, HEND.out.1⟩, HEND.out.2.1, HEND.out.2.2⟩
end
end Go.Proofs.Ytomjaieplpjcpaa
