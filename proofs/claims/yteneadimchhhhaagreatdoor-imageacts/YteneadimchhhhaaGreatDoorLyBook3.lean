/- The contract of Add of a book, where a layout is added. -/
import Derived.Test.YteneadimchhhhaaGreatDoorLyBook2
import Derived.RangeFuncBox
namespace Go.Proofs.YteneadimchhhhaaGreatDoor
open Go.RowKit

/-- All but block b and the block o is as it was. -/
structure But2 (b : Nat) (o : Option Nat) (w w' : World) : Prop where
  os : w'.os = w.os
  tape : w'.tape = w.tape
  output : w'.output = w.output
  size : w.heap.size ≤ w'.heap.size
  block : ∀ g, g < w.heap.size → g ≠ b → o ≠ some g → w'.heap[g]? = w.heap[g]?
theorem But2.below {b : Nat} {o : Option Nat} {w w' : World} {B : Nat} (h : But2 b o w w') (hb : B ≤ b) (hB : B ≤ w.heap.size) (ho : ∀ g, o = some g → B ≤ g) : Below B w w' :=
  ⟨h.os, h.tape, h.output, h.size, fun k hk => h.block k (by omega) (by omega) fun e => by have := ho k e; omega⟩

theorem BookAt.below' {W W' : World} {lo b : Nat} {v : Value} {ls : List LV} (h : BookAt W lo b v ls) (hb : Below W.heap.size W W') : BookAt W' lo b v ls := h.below hb
/-- What Add leaves of a right layout. -/
def AddPost (lo b : Nat) (v : Value) (ls : List LV) (l : LV) (w : World) (e : Ending) (w' : World) : Prop :=
  ∃ v' k, e = .returned (.tuple #[.int .i64 ((ls.length : Int) + 1), .int .i64 0]) ∧ k.same l ∧ BookAt w' lo b v' (ls ++ [k]) ∧ But2 b v.ownBlock w w' ∧ (v'.ownBlock = v.ownBlock ∨ ∃ g, v'.ownBlock = some g ∧ w.heap.size ≤ g)

theorem own_type {W : World} {base size n : Nat} {e : TypeId} {v : Value} {xs : List Value} (h : W.ownsRow base e size v n xs) {g : Nat} (hg : v.ownBlock = some g) : ∃ cs, W.heap[g]? = some (.cells cs e (0, 0)) := by
  rcases h.2 with ⟨rfl, _⟩ | ⟨g', cap, cur, rfl, _, hh, _⟩
  · cases hg
  · simp [Value.ownBlock] at hg
    subst hg
    exact ⟨cur, hh⟩

theorem add_done {w w2 w3 : World} {lo b g cap : Nat} {v : Value} {ls : List LV} {k : LV} {o : Obj} (h : BookAt w lo b v ls) (hb2 : Below w.heap.size w w2) (hk : k.ok w2 lo)
    (hown : w3.ownsRow lo 70 4 (.slice (some ⟨g, 0, none⟩) (ls.length + 1) cap) (ls.length + 1) (flatV ls ++ k.vals)) (hgr : (w2.alloc o).grownBy w3 v.ownBlock) (hat : v.ownBlock = some g ∨ g = w2.heap.size + 1) (hlen : ls.length < 64) :
    w3.cell? ⟨b, 0, none⟩ = some v ∧ w3.frozen? ⟨b, 0, none⟩ = false ∧ b < w3.heap.size ∧
    BookAt (w3.setCell ⟨b, 0, none⟩ (.slice (some ⟨g, 0, none⟩) (ls.length + 1) cap)) lo b (.slice (some ⟨g, 0, none⟩) (ls.length + 1) cap) (ls ++ [k]) ∧
    But2 b v.ownBlock w (w3.setCell ⟨b, 0, none⟩ (.slice (some ⟨g, 0, none⟩) (ls.length + 1) cap)) ∧
    ((Value.slice (some ⟨g, 0, none⟩) (ls.length + 1) cap).ownBlock = v.ownBlock ∨ ∃ g', (Value.slice (some ⟨g, 0, none⟩) (ls.length + 1) cap).ownBlock = some g' ∧ w.heap.size ≤ g') := by
  have hs2 := hb2.size
  have hs3 := hgr.size
  rw [World.size_alloc] at hs3
  have hbl := h.box.lt
  have hrow2 : w2.ownsRow lo 70 4 v ls.length (flatV ls) := by
    refine ⟨h.row.1, ?_⟩
    rcases h.row.2 with h0 | ⟨g', cap', cur, rfl, hg, hh, hx⟩
    · exact .inl h0
    · exact .inr ⟨g', cap', cur, rfl, hg, (hb2.block g' (Array.getElem?_eq_some_iff.1 hh).1).trans hh, hx⟩
  have hbox2 : Whole w2 b 125 #[v] := h.box.below hb2 hbl
  have step : ∀ g', g' < w2.heap.size → v.ownBlock ≠ some g' → w3.heap[g']? = w2.heap[g']? := fun g' h1 h2 => (hgr.block g' (by rw [World.size_alloc]; omega) (Ne.symm h2)).trans (Below.heap_alloc w2 o g' h1)
  have hbrow : v.ownBlock ≠ some b := fun e => by
    obtain ⟨cs, hc⟩ := own_type hrow2 e
    have := hc.symm.trans hbox2
    simp at this
  have hbox3 : Whole w3 b 125 #[v] := (step b (by omega) hbrow).trans hbox2
  have hgb : g ≠ b := fun e => by
    obtain ⟨cs, hc⟩ := own_type hown rfl
    rw [e] at hc
    have := hc.symm.trans hbox3
    simp at this
  have hint : ∀ (g' : Nat) (cs : Array Value) (fz : Nat × Nat), w2.heap[g']? = some (Obj.cells cs 3 fz) → (w3.setCell ⟨b, 0, none⟩ (.slice (some ⟨g, 0, none⟩) (ls.length + 1) cap)).heap[g']? = w2.heap[g']? := fun g' cs fz hh => by
    have h1 : g' < w2.heap.size := (Array.getElem?_eq_some_iff.1 hh).1
    have hne : g' ≠ b := fun e => by
      rw [e] at hh
      have := hh.symm.trans hbox2
      simp at this
    have hnr : v.ownBlock ≠ some g' := fun e => by
      obtain ⟨cs, hc⟩ := own_type hrow2 e
      have := hc.symm.trans hh
      simp at this
    exact (Below.heap_setCell w3 ⟨b, 0, none⟩ _ g' hne).trans (step g' h1 hnr)
  have hsz : (w3.setCell ⟨b, 0, none⟩ (.slice (some ⟨g, 0, none⟩) (ls.length + 1) cap)).heap.size = w3.heap.size := by simp
  refine ⟨hbox3.cell 0, hbox3.free 0, hbox3.lt, ⟨h.lob, hbox3.set 0 _, ?_, ?_, by simp; omega⟩, ⟨?_, ?_, ?_, by rw [hsz]; omega, ?_⟩, ?_⟩
  · rw [flatV_snoc, List.length_append]
    exact hown.kept (grownBy_setCell' w3 b _) (.inr (by simpa [Value.ownBlock] using hgb))
  · intro l hl
    rcases List.mem_append.1 hl with hl | hl
    · refine (h.each l hl).keep (by rw [hsz]; omega) fun g' cs fz _ hh => ?_
      have h1 : g' < w.heap.size := (Array.getElem?_eq_some_iff.1 hh).1
      exact (hint g' cs fz ((hb2.block g' h1).trans hh)).trans (hb2.block g' h1)
    · rw [List.mem_singleton] at hl
      subst hl
      exact hk.keep (by rw [hsz]; omega) fun g' cs fz _ hh => hint g' cs fz hh
  · exact (show w3.os = w.os from hgr.os.trans hb2.os)
  · exact (show w3.tape = w.tape from hgr.tape.trans hb2.tape)
  · exact (show w3.output = w.output from hgr.output.trans hb2.output)
  · intro g' h1 h2 h3
    exact (Below.heap_setCell w3 ⟨b, 0, none⟩ _ g' h2).trans ((step g' (by omega) h3).trans (hb2.block g' h1))
  · rcases hat with hat | hat
    · exact .inl hat.symm
    · exact .inr ⟨g, rfl, by omega⟩

theorem add_done_n {w w2 w3 : World} {lo b g n c cap : Nat} {A : Option Addr} {ls : List LV} {k : LV} {o : Obj} (hn : n = ls.length) (h : BookAt w lo b (.slice A ls.length c) ls) (hb2 : Below w.heap.size w w2) (hk : k.ok w2 lo)
    (hown : w3.ownsRow lo 70 4 (.slice (some ⟨g, 0, none⟩) (n + 1) cap) (n + 1) (flatV ls ++ k.vals)) (hgr : (w2.alloc o).grownBy w3 (Value.slice A n c).ownBlock) (hat : (Value.slice A n c).ownBlock = some g ∨ g = w2.heap.size + 1) (hlen : n < 64) :
    w3.cell? ⟨b, 0, none⟩ = some (.slice A n c) ∧ w3.frozen? ⟨b, 0, none⟩ = false ∧ b < w3.heap.size ∧
    BookAt (w3.setCell ⟨b, 0, none⟩ (.slice (some ⟨g, 0, none⟩) (n + 1) cap)) lo b (.slice (some ⟨g, 0, none⟩) (n + 1) cap) (ls ++ [k]) ∧
    But2 b (Value.slice A n c).ownBlock w (w3.setCell ⟨b, 0, none⟩ (.slice (some ⟨g, 0, none⟩) (n + 1) cap)) ∧
    ((Value.slice (some ⟨g, 0, none⟩) (n + 1) cap).ownBlock = (Value.slice A n c).ownBlock ∨ ∃ g', (Value.slice (some ⟨g, 0, none⟩) (n + 1) cap).ownBlock = some g' ∧ w.heap.size ≤ g') := by
  subst hn
  exact add_done h hb2 hk hown hgr hat hlen
theorem below_of_drew {w w' : World} (h : Below w.drew.heap.size w.drew w') : Below w.heap.size w w' := ⟨h.os, h.tape, h.output, h.size, h.block⟩
theorem after_twin {w w1 w2 : World} {lo b n c : Nat} {A : Option Addr} {ls : List LV} {l : LV} {A2 D2 : Option Addr} {c2 d2 : Nat} (h : BookAt w lo b (.slice A ls.length c) ls) (hb1 : Below w.heap.size w w1) (hf : l.fits) (hn : n = ls.length) (hs1 : w1.heap.size = w.heap.size + 2)
    (hl2 : Lists w2 w1.drew.heap.size w2.heap.size A2 l.n c2 l.xs D2 l.m d2 l.ys) (hb2 : Below w1.drew.heap.size w1.drew w2) (t1 : typedI w2 A2) (t2 : typedI w2 D2) :
    Below w.heap.size w w2 ∧ w.heap.size ≤ w2.heap.size ∧ b < w2.heap.size ∧ w2.cell? ⟨b, 0, none⟩ = some (.slice A n c) ∧ LV.ok ⟨l.F, l.R, A2, l.n, c2, l.xs, D2, l.m, d2, l.ys⟩ w2 lo := by
  have hb2' : Below w.heap.size w w2 := hb1.trans ((below_of_drew hb2).mono (by omega))
  have hlob := h.lob
  have hblt := h.box.lt
  have hs2 := hb2'.size
  subst hn
  exact ⟨hb2', hs2, by omega, (h.box.below hb2' hblt).cell 0, Lists.mono hl2 (show lo ≤ w1.heap.size by omega) (Nat.le_refl _), t1, t2, ⟨hf.hF, hf.hR, hf.hn, hf.hm⟩⟩

set_option maxRecDepth 100000 in
set_option maxHeartbeats 4000000 in
theorem bookAdd_ok {w : World} {lo b hi : Nat} {v : Value} {ls : List LV} {l : LV} (h : BookAt w lo b v ls) (hlen : ls.length < 64) (hl : l.lists w 0 hi) (hf : l.fits) (hB : hi ≤ w.heap.size) (hr : l.right = true) :
    Calls Tryz.prog 25 #[.pointer (some ⟨b, 0, none⟩), .agg #[.int .i64 l.F, .slice l.A l.n l.c, .int .i64 l.R, .slice l.D l.m l.d]] w (AddPost lo b v ls l w) := by
  obtain ⟨i0, hi0, hz0, hz1, hz2⟩ := info_parts infoLay
  have CR := lright_any l.F l.R l.A l.n l.c l.xs l.D l.m l.d l.ys hi (w.alloc (.cells #[.int .i64 l.F, .slice l.A l.n l.c, .int .i64 l.R, .slice l.D l.m l.d] 70)) (by simp; omega) hf.hn hf.hm hf.hF hf.hR (hl.fst.ns.alloc hB _) (hl.snd.ns.alloc hB _)
  unfold LV.right at hr
  rw [hr] at CR
  obtain ⟨w1, hw1⟩ : ∃ w1, w1 = (w.alloc (.cells #[.int .i64 l.F, .slice l.A l.n l.c, .int .i64 l.R, .slice l.D l.m l.d] 70)).alloc (.cells #[.int .i64 l.F, .slice l.A l.n l.c, .int .i64 l.R, .slice l.D l.m l.d] 70) := ⟨_, rfl⟩
  have hb1 : Below w.heap.size w w1 := by rw [hw1]; exact ((Below.refl _ _).alloc (Nat.le_refl _) _).alloc (by simp) _
  have hs1 : w1.heap.size = w.heap.size + 2 := by rw [hw1]; simp
  have x1 : Whole w1 w.heap.size 70 #[.int .i64 l.F, .slice l.A l.n l.c, .int .i64 l.R, .slice l.D l.m l.d] := by rw [hw1]; exact (Whole.fresh _ _ _).alloc _
  have CT := twin_any l.F l.R l.A l.n l.c l.xs l.D l.m l.d l.ys 0 hi w1.drew (by show hi ≤ w1.heap.size; omega) hf.hn hf.hm (hl.kept (Kept.of_below (hb1.drew.mono hB) (Nat.le_refl _)))
  obtain ⟨A, c, rfl, _⟩ := h.more
  have hlob := h.lob
  have hblt := h.box.lt
  have c0 : w1.cell? ⟨b, 0, none⟩ = some (.slice A ls.length c) := (h.box.below hb1 hblt).cell 0
  have p0 : w1.cell? ⟨w.heap.size, 0, none⟩ = some (.int .i64 l.F) := x1.cell 0
  have p1 : w1.cell? ⟨w.heap.size, 1, none⟩ = some (.slice l.A l.n l.c) := x1.cell 1
  have p2 : w1.cell? ⟨w.heap.size, 2, none⟩ = some (.int .i64 l.R) := x1.cell 2
  have p3 : w1.cell? ⟨w.heap.size, 3, none⟩ = some (.slice l.D l.m l.d) := x1.cell 3
  have HH := Lib.hid h
  have HB1 := Lib.hid hb1
  have HF := Lib.hid hf
  have HC := Lib.hid CR
  have HCT := Lib.hid CT
  have HW := Lib.hid hw1
  obtain ⟨n, hn⟩ : ∃ n, n = ls.length := ⟨_, rfl⟩
  rw [← hn] at c0 hlen ⊢
  have HN := Lib.hid hn
  have HS1 := Lib.hid hs1
  clear h CR hl hf hr hB hw1 hb1 x1 CT hn hs1
  go_enter Tryz.func25, Tryz.ntmps25
  go_wp2_with fail
  refine HC.out.mono ?_
  rw [← HW.out]
  rintro e w' ⟨rfl, rfl⟩
  clear HC HW
  go_wp2_with fail
  go_region_law (first
    | (go_simp; go_at_call 57; refine HCT.out.mono ?_; rintro e w2 ⟨A2, c2, D2, d2, rfl, hl2, hb2, t1, t2⟩; obtain ⟨hb2', hs2, hblt2, c02, hk2⟩ := after_twin HH.out HB1.out HF.out HN.out HS1.out hl2 hb2 t1 t2; have HK2 := Lib.hid hk2; have HB2 := Lib.hid hb2'; clear hl2 hb2 hb2' t1 t2 hk2)
    | (refine step_append_lies _ rfl (.tmp 21) (.tmp 24) 22 rfl lo 70 i0 _ 4 64 Tryz.underlying22 hi0 hz0 hz1 hz2 rfl (by decide) (.slice A n c) n (flatV ls) (by simp [Act.eval]) ((show w2.ownsRow lo 70 4 (.slice A n c) n (flatV ls) by rw [HN.out]; exact (HH.out.below' HB2.out).row).alloc _) ⟨w2.heap.size, 0, none⟩ 1 1 [.int .i64 l.F, .slice A2 l.n c2, .int .i64 l.R, .slice D2 l.m d2] (by simp [Act.eval]) rfl (World.news_of_block (World.alloc_heap_new w2 _)) (by simp [Value.oneCell']) (by decide) (by unfold maxLen; omega) (by omega) (by simp; omega) (w2.heap.size + 1) (by simp) ?_; intro g cap w3 hown hgr hat hlt3; obtain ⟨q0, q1, q2, hbook, hbut, hwhere⟩ := add_done_n HN.out HH.out HB2.out HK2.out hown hgr hat hlen; have HBK := Lib.hid hbook; have HBT := Lib.hid hbut; have HWH := Lib.hid hwhere; clear hown hgr hat hbook hbut hwhere))
  all_goals
    go_wp2
    go_ret2
    exact ⟨_, ⟨l.F, l.R, A2, l.n, c2, l.xs, D2, l.m, d2, l.ys⟩, by rw [← HN.out]; rfl, ⟨rfl, rfl, rfl, rfl, rfl, rfl⟩, HBK.out, HBT.out, HWH.out⟩
end Go.Proofs.YteneadimchhhhaaGreatDoor
