/- The iterator over a bag of texts. -/
import Derived.Test.YtfmcgejoobbiiaaBgStr2
import Derived.Test.YtfmcgejoobbiiaaBgIt
namespace Go.Proofs.Ytfmcgejoobbiiaa
open Go.RowKit Go.Shelf
attribute [local go_sem] Oper.semAt_some

set_option maxRecDepth 100000 in
set_option maxHeartbeats 2000000 in
theorem iterP_inS (q : Nat) (hq : 1 ≤ q) (l lo hi bo r : Nat) (v : Value) (xs : List Int) (J Jx : List Int → World → Prop) (hn : xs.length ≤ 1000000)
    (hY : ∀ pre x W, pre ++ [x] <+: xs → J pre W → YieldAt Fence.wide (q - 1) Try.prog l #[.string (T3 x)] W fun e W' => (e = .returned (.bool true) ∧ J (pre ++ [x]) W' ∧ Kept lo hi W W') ∨ (e = .returned (.bool false) ∧ Jx (pre ++ [x]) W' ∧ Kept lo hi W W'))
    (W : World) (hI : IterSt 46 9 encS W lo hi bo r v xs) (h0 : J [] W) :
    CallsIn Fence.wide q Try.prog 65 #[.func (.yield l) #[] #[], .pointer (some ⟨bo, 0, none⟩)] W fun e W' => (∃ v, e = .returned v) ∧
      (J xs W' ∨ ∃ pre, Jx pre W') := by
  have HY := Lib.hid hY
  clear hY
  obtain ⟨A, c, rfl, _⟩ := hI.row.slice
  have c1 : W.cell? ⟨bo, 0, none⟩ = some (.slice A xs.length c) := hI.box.cell
  refine callsIn_of_wp Try.func65 rfl trivial ?_ rfl
  simp only [Try.ntmps65, List.size_toArray, List.length_cons, List.length_nil, Nat.reduceAdd, Nat.reduceSub, Array.replicate_succ, Array.replicate_zero, List.push_toArray, List.append_toArray, List.nil_append, List.cons_append]
  gi_wp2
  gi_loopw [7] (It1 46 9 encS lo hi bo r (.slice A xs.length c) xs J) (fun x _ => xs.length - (intOf x).toNat)
  case atStart => exact ⟨0, Nat.zero_le _, rfl, by simpa using h0, hI⟩
  case round =>
    clear c1 h0 hI
    obtain ⟨k, hk, rfl, hJ, hI⟩ := hrel
    by_cases hlt : k < xs.length
    · obtain ⟨cap, e0, _, hc⟩ := hI.row.cell hlt
      injection e0 with e1 _ e2
      subst e1 e2
      have HT := Lib.hid (take_snoc_at hlt)
      obtain ⟨p, hp⟩ : ∃ p, p = xs[k] := ⟨_, rfl⟩
      rw [← hp] at hc HT
      have hcs : wr.cell? ⟨r, k, none⟩ = some (.string (T3 p)) := hc
      clear hc
      obtain ⟨tt, htt⟩ : ∃ tt, T3 p = tt := ⟨_, rfl⟩
      have hYp := HY.out _ p wr (by rw [← HT.out]; exact List.take_prefix _ _) hJ
      rw [htt] at hYp hcs
      obtain ⟨fn, tmps, assign, body, hy, hR⟩ := hYp
      have HI := Lib.hid hI
      clear hI hp htt
      gi_wp2
      refine hR.mono ?_
      rintro e W3 (⟨rfl, hJ3, hk3⟩ | ⟨rfl, hJx3, _⟩)
      · gi_wp2
        go_roundw
        case rel => exact ⟨k + 1, by omega, by go_num, by rw [HT.out]; exact hJ3, HI.out.kept hk3⟩
        case measure => simp [intOf]; omega
      · gi_wp2
        refine bodyPost_ret (results_none rfl _ _ _) rfl ?_
        exact ⟨⟨_, rfl⟩, .inr ⟨_, hJx3⟩⟩
    · rw [List.take_of_length_le (by omega)] at hJ
      gi_wp2
      go_end0
      exact ⟨⟨_, rfl⟩, .inl hJ⟩


theorem iter_ownS (q : Nat) (hq : 1 ≤ q) (lo hi bo r : Nat) (v : Value) (xs : List Int) (hn : xs.length ≤ 1000000) (w : World) (hw : hi ≤ w.heap.size) (hI : IterSt 46 9 encS w lo hi bo r v xs) :
    SeqOwn q Try.prog 65 #[.pointer (some ⟨bo, 0, none⟩)] (fun x : Int => #[Value.string (T3 x)]) (Kept lo hi) xs w :=
  fun l J Jx W hW _ _ _ hY h0 => iterP_inS q hq l lo hi bo r v xs J Jx hn hY W (hI.kept (Kept.of_below hW hw)) h0
/-- What All leaves for a range over it. -/
def SeqPFS (zs : List Int) (w : World) (e : Ending) (w' : World) : Prop :=
  ∃ bo, e = .returned (.func (.func 65) #[] #[.pointer (some ⟨bo, 0, none⟩)]) ∧ SeqOwn 4 Try.prog 65 #[.pointer (some ⟨bo, 0, none⟩)] (fun x : Int => #[Value.string (T3 x)]) (Kept w.heap.size w'.heap.size) zs w' ∧ Below w.heap.size w w' ∧ w.heap.size < w'.heap.size
theorem values_anyS (A : Option Addr) (n c : Nat) (w : World) : Calls Try.prog 47 #[.slice A n c] w fun e w' => e = .returned (.func (.func 65) #[] #[.pointer (some ⟨w.heap.size, 0, none⟩)]) ∧ w.alloc (.cells #[.slice A n c] 46) = w' := by
  go_enter Try.func47, Try.ntmps47
  go_wp2
  go_ret
  exact ⟨rfl, rfl⟩
set_option maxHeartbeats 1000000 in
theorem allP_ofS (b : Nat) (r : Nat) (v : Value) (l : List Int) (w : World) (h : Whole w b 66 #[v]) (hr : SRow w r v l) (hl : l.length ≤ 1000000) : Calls Try.prog 32 #[.pointer (some ⟨b, 0, none⟩)] w (SeqPFS l w) := by
  obtain ⟨A, c, rfl, _⟩ := hr.slice
  have HA := Lib.hid (ballS_any b _ w h)
  have HC := Lib.hid (cloneS_any A l.length c l w hr.reads hl)
  clear h hr
  go_enter Try.func32, Try.ntmps32
  go_wp2_with fail
  refine HA.out.mono ?_
  rintro e w1 ⟨rfl, rfl⟩
  go_wp2_with fail
  refine HC.out.mono ?_
  rintro e w1 ⟨v1, rfl, h1, hb1⟩
  obtain ⟨A1, c1, rfl⟩ : ∃ A1 c1, v1 = .slice A1 l.length c1 := by
    rcases h1.2 with ⟨e, e0⟩ | ⟨g, cap, cur, e, _⟩
    · exact ⟨none, 0, by rw [e, e0]⟩
    · exact ⟨_, cap, e⟩
  have H1 := Lib.hid h1
  have B1 := Lib.hid hb1
  clear h1 hb1
  go_wp2_with fail
  refine (values_anyS A1 l.length c1 _).mono ?_
  rintro e w2 ⟨rfl, rfl⟩
  go_wp2
  go_ret
  have hs := B1.out.size
  refine ⟨w1.heap.size, rfl, ?_, B1.out.alloc hs _, by simp; omega⟩
  have hbx : Boxed (w1.alloc (.cells #[.slice A1 l.length c1] 46)) w1.heap.size 46 (.slice A1 l.length c1) := Boxed.new _ _ _
  rcases H1.out.2 with ⟨e, e0⟩ | ⟨g, cap, cur, e, hg, hh, _⟩
  · exact iter_ownS 4 (by decide) _ _ w1.heap.size w1.heap.size _ l hl _ (Nat.le_refl _) ⟨hbx, (Row.of_own H1.out rfl (fun k hk => by rw [e] at hk; simp [Value.ownBlock] at hk)).alloc _, hs, by simp, hs, by simp⟩
  · have hgl := (Array.getElem?_eq_some_iff.1 hh).1
    exact iter_ownS 4 (by decide) _ _ w1.heap.size g _ l hl _ (Nat.le_refl _) ⟨hbx, (Row.of_own H1.out rfl (fun k hk => by rw [e] at hk; simp [Value.ownBlock] at hk; omega)).alloc _, hs, by simp, hg, by simp; omega⟩

end Go.Proofs.Ytfmcgejoobbiiaa
