/- Add of a book once more, where a layout is added: what is added lies in new memory. -/
import Derived.Test.YteneadimchhhhaaGreatDoorLyBook3
namespace Go.Proofs.YteneadimchhhhaaGreatDoor
open Go.RowKit

/-- What Add leaves of a right layout, and that the lists of what is added are new. -/
def AddFar (lo b : Nat) (v : Value) (ls : List LV) (l : LV) (w : World) (e : Ending) (w' : World) : Prop :=
  ∃ v' k, e = .returned (.tuple #[.int .i64 ((ls.length : Int) + 1), .int .i64 0]) ∧ k.same l ∧ BookAt w' lo b v' (ls ++ [k]) ∧ But2 b v.ownBlock w w' ∧ (v'.ownBlock = v.ownBlock ∨ ∃ g, v'.ownBlock = some g ∧ w.heap.size ≤ g) ∧ (∀ a, k.A = some a → w.heap.size ≤ a.block) ∧ ∀ a, k.D = some a → w.heap.size ≤ a.block
theorem far_of {w w1 w2 : World} {A D : Option Addr} {n c m d : Nat} {xs ys : List Int} (hs : w1.heap.size = w.heap.size + 2) (h : Lists w2 w1.drew.heap.size w2.heap.size A n c xs D m d ys) : (∀ a, A = some a → w.heap.size ≤ a.block) ∧ ∀ a, D = some a → w.heap.size ≤ a.block :=
  ⟨fun a e => by have : w1.heap.size ≤ a.block := h.fst.low a e
                 omega, fun a e => by have : w1.heap.size ≤ a.block := h.snd.low a e
                                      omega⟩

set_option maxRecDepth 100000 in
set_option maxHeartbeats 4000000 in
theorem bookAdd_far {w : World} {lo b hi : Nat} {v : Value} {ls : List LV} {l : LV} (h : BookAt w lo b v ls) (hlen : ls.length < 64) (hl : l.lists w 0 hi) (hf : l.fits) (hB : hi ≤ w.heap.size) (hr : l.right = true) :
    Calls Tryz.prog 25 #[.pointer (some ⟨b, 0, none⟩), .agg #[.int .i64 l.F, .slice l.A l.n l.c, .int .i64 l.R, .slice l.D l.m l.d]] w (AddFar lo b v ls l w) := by
  obtain ⟨i0, hi0, hz0, hz1, hz2⟩ := info_parts infoLay
  have CR := lright_any l.F l.R l.A l.n l.c l.xs l.D l.m l.d l.ys hi (w.alloc (.cells #[.int .i64 l.F, .slice l.A l.n l.c, .int .i64 l.R, .slice l.D l.m l.d] 70)) (by simp; omega) hf.hn hf.hm hf.hF hf.hR (hl.fst.ns.alloc hB _) (hl.snd.ns.alloc hB _)
  unfold LV.right at hr
  rw [hr] at CR
  obtain ⟨w1, hw1⟩ : ∃ w1, w1 = (w.alloc (.cells #[.int .i64 l.F, .slice l.A l.n l.c, .int .i64 l.R, .slice l.D l.m l.d] 70)).alloc (.cells #[.int .i64 l.F, .slice l.A l.n l.c, .int .i64 l.R, .slice l.D l.m l.d] 70) := ⟨_, rfl⟩
  have hb1 : Below w.heap.size w w1 := by rw [hw1]; exact ((Below.refl _ _).alloc (Nat.le_refl _) _).alloc (by simp) _
  have hs1 : w1.heap.size = w.heap.size + 2 := by rw [hw1]; simp
  have x1 : Whole w1 w.heap.size 70 #[.int .i64 l.F, .slice l.A l.n l.c, .int .i64 l.R, .slice l.D l.m l.d] := by rw [hw1]; exact (Whole.fresh _ _ _).alloc _
  have CT := twin_any l.F l.R l.A l.n l.c l.xs l.D l.m l.d l.ys 0 hi w1.drew (by show hi ≤ w1.heap.size; omega) hf.hn hf.hm (hl.kept (Kept.of_below (hb1.drew.mono hB) (Nat.le_refl _)))
  obtain ⟨A, c, rfl, _⟩ := h.more
  have hlob := h.lob
  have hblt := h.box.lt
  have c0 : w1.cell? ⟨b, 0, none⟩ = some (.slice A ls.length c) := (h.box.below hb1 hblt).cell 0
  have p0 : w1.cell? ⟨w.heap.size, 0, none⟩ = some (.int .i64 l.F) := x1.cell 0
  have p1 : w1.cell? ⟨w.heap.size, 1, none⟩ = some (.slice l.A l.n l.c) := x1.cell 1
  have p2 : w1.cell? ⟨w.heap.size, 2, none⟩ = some (.int .i64 l.R) := x1.cell 2
  have p3 : w1.cell? ⟨w.heap.size, 3, none⟩ = some (.slice l.D l.m l.d) := x1.cell 3
  have HH := Lib.hid h
  have HB1 := Lib.hid hb1
  have HF := Lib.hid hf
  have HC := Lib.hid CR
  have HCT := Lib.hid CT
  have HW := Lib.hid hw1
  obtain ⟨n, hn⟩ : ∃ n, n = ls.length := ⟨_, rfl⟩
  rw [← hn] at c0 hlen ⊢
  have HN := Lib.hid hn
  have HS1 := Lib.hid hs1
  clear h CR hl hf hr hB hw1 hb1 x1 CT hn hs1
  go_enter Tryz.func25, Tryz.ntmps25
  go_wp2_with fail
  refine HC.out.mono ?_
  rw [← HW.out]
  rintro e w' ⟨rfl, rfl⟩
  clear HC HW
  go_wp2_with fail
  go_region_law (first
    | (go_simp; go_at_call 57; refine HCT.out.mono ?_; rintro e w2 ⟨A2, c2, D2, d2, rfl, hl2, hb2, t1, t2⟩; have FR := Lib.hid (far_of HS1.out hl2); obtain ⟨hb2', hs2, hblt2, c02, hk2⟩ := after_twin HH.out HB1.out HF.out HN.out HS1.out hl2 hb2 t1 t2; have HK2 := Lib.hid hk2; have HB2 := Lib.hid hb2'; clear hl2 hb2 hb2' t1 t2 hk2)
    | (refine step_append_lies _ rfl (.tmp 21) (.tmp 24) 22 rfl lo 70 i0 _ 4 64 Tryz.underlying22 hi0 hz0 hz1 hz2 rfl (by decide) (.slice A n c) n (flatV ls) (by simp [Act.eval]) ((show w2.ownsRow lo 70 4 (.slice A n c) n (flatV ls) by rw [HN.out]; exact (HH.out.below' HB2.out).row).alloc _) ⟨w2.heap.size, 0, none⟩ 1 1 [.int .i64 l.F, .slice A2 l.n c2, .int .i64 l.R, .slice D2 l.m d2] (by simp [Act.eval]) rfl (World.news_of_block (World.alloc_heap_new w2 _)) (by simp [Value.oneCell']) (by decide) (by unfold maxLen; omega) (by omega) (by simp; omega) (w2.heap.size + 1) (by simp) ?_; intro g cap w3 hown hgr hat hlt3; obtain ⟨q0, q1, q2, hbook, hbut, hwhere⟩ := add_done_n HN.out HH.out HB2.out HK2.out hown hgr hat hlen; have HBK := Lib.hid hbook; have HBT := Lib.hid hbut; have HWH := Lib.hid hwhere; clear hown hgr hat hbook hbut hwhere))
  all_goals
    go_wp2
    go_ret2
    exact ⟨_, ⟨l.F, l.R, A2, l.n, c2, l.xs, D2, l.m, d2, l.ys⟩, by rw [← HN.out]; rfl, ⟨rfl, rfl, rfl, rfl, rfl, rfl⟩, HBK.out, HBT.out, HWH.out, FR.out.1, FR.out.2⟩
end Go.Proofs.YteneadimchhhhaaGreatDoor
