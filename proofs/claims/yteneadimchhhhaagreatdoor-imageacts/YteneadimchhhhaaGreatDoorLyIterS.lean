/- The iterator of layout.Slots, as SeqOwn (AdLaw.lean): made by tools/mkiters.py. -/
import Derived.Test.YteneadimchhhhaaGreatDoorLyIter
import Derived.Test.YteneadimchhhhaaGreatDoorAdLaw
namespace Go.Proofs.YteneadimchhhhaaGreatDoor
open Go.RowKit Go.Shelf
attribute [local go_sem] Oper.semAt_some

theorem slots_mono (F R : Int) (xs ys : List Int) (a d : Nat) : LM.slots F R xs ys a <+: LM.slots F R xs ys (a + d) := by
  induction d with
  | zero => exact List.prefix_refl _
  | succ d ih =>
    rw [show a + (d + 1) = a + d + 1 by omega, LM.slots_succ]
    exact ih.trans (List.prefix_append _ _)
theorem take_pre {F R p : Int} {xs ys : List Int} {k c : Nat} (hd : xs.drop k = p :: xs.drop (k + 1)) : xs.take k ++ [p] <+: LM.slots F R xs ys c := by
  rw [← take_snoc_of_drop hd]
  exact (List.take_prefix _ _).trans (List.prefix_append _ _)
theorem part_pre {F R p st : Int} {xs ys : List Int} {j i c : Nat} (hj : j < c) (hs : st = F + j * R) (hd : ys.drop i = p :: ys.drop (i + 1)) : partRec F R xs ys j i ++ [st + p] <+: LM.slots F R xs ys c := by
  rw [hs, ← partRec_snoc F R xs ys j i p hd]
  obtain ⟨d, rfl⟩ : ∃ d, c = j + 1 + d := ⟨c - (j + 1), by omega⟩
  refine List.IsPrefix.trans ?_ (slots_mono F R xs ys (j + 1) d)
  rw [LM.slots_succ]
  unfold partRec
  exact (List.prefix_append_right_inj _).2 ((List.take_prefix _ _).map _)

set_option maxRecDepth 100000 in
set_option maxHeartbeats 2000000 in
theorem iter_pre (q : Nat) (hq : 1 ≤ q) (l lo hi bo bs : Nat) (F R : Int) (A : Option Addr) (n c : Nat) (xs : List Int) (D : Option Addr) (m d : Nat) (ys : List Int) (cnt : Nat) (J Jx : List Int → World → Prop)
    (hn : n ≤ 1000000) (hm : m ≤ 1000000) (hF0 : 0 ≤ F) (hF1 : F ≤ 64) (hR0 : 0 ≤ R) (hR1 : R ≤ 64) (hsz : F + cnt * R ≤ 8192) (hz : R = 0 → cnt = 0) (hys : ∀ p ∈ ys, 0 ≤ p ∧ p < 64)
    (hY : ∀ pre x W, pre ++ [x] <+: LM.slots F R xs ys cnt → J pre W → YieldAt Fence.wide (q - 1) Tryz.prog l #[.int .i64 x] W (RoundPost lo hi J Jx pre x W))
    (W : World) (hI : IterSt W lo hi bo bs F R A n c xs D m d ys (F + cnt * R)) (h0 : J [] W) :
    CallsIn Fence.wide q Tryz.prog 72 #[.func (.yield l) #[] #[], .pointer (some ⟨bo, 0, none⟩), .pointer (some ⟨bs, 0, none⟩)] W fun e W' => (∃ v, e = .returned v) ∧
      ((∃ zs, zs = LM.slots F R xs ys cnt ∧ J zs W') ∨ (∃ pre, True ∧ Jx pre W')) := by
  have HY := Lib.hid hY
  have HP := Lib.hid hys
  have HZ := Lib.hid hz
  clear hY hys hz
  obtain ⟨sz, he⟩ : ∃ sz, sz = F + (cnt : Int) * R := ⟨_, rfl⟩
  rw [← he] at hI hsz
  have hsF : F ≤ sz := by have := LM.mul_pos' cnt R hR0; omega
  have HE := Lib.hid he
  clear he
  have hs0 : 0 ≤ sz := by omega
  have c1 : W.cell? ⟨bo, 1, none⟩ = some (.slice A n c) := hI.box.cell 1
  refine callsIn_of_wp Tryz.func72 rfl trivial ?_ rfl
  simp only [Tryz.ntmps72, List.size_toArray, List.length_cons, List.length_nil, Nat.reduceAdd, Nat.reduceSub, Array.replicate_succ, Array.replicate_zero, List.push_toArray, List.append_toArray, List.nil_append, List.cons_append]
  gi_wp2
  gi_loopw [12] (It1 lo hi bo bs F R A n c xs D m d ys sz J) (fun x _ => n - (intOf x).toNat)
  case atStart => exact ⟨0, Nat.zero_le _, rfl, by simpa using h0, hI⟩
  case round =>
    clear c1 h0 hI
    obtain ⟨k, hk, rfl, hJ, hI⟩ := hrel
    by_cases hlt : k < n
    · obtain ⟨b, off, p, rfl, hbB, hd, hwf, hc⟩ := hI.lists.fst.ns.at_ hlt
      have hl := hI.lists.fst.len
      obtain ⟨fn, tmps, assign, body, hy, hR⟩ := HY.out _ p wr (take_pre hd) hJ
      have HD := Lib.hid hd
      have HI := Lib.hid hI
      clear hd hwf hl hI
      gi_wp2
      refine hR.mono ?_
      rintro e W3 (⟨rfl, hJ3, hk3⟩ | ⟨rfl, hJx3⟩)
      · gi_wp2
        go_roundw
        case rel => exact ⟨k + 1, by omega, by go_num, by rw [take_snoc_of_drop HD.out]; exact hJ3, HI.out.kept hk3⟩
        case measure => simp [intOf]; omega
      · gi_wp2
        refine bodyPost_ret (results_none rfl _ _ _) rfl ?_
        exact ⟨⟨_, rfl⟩, .inr ⟨_, trivial, hJx3⟩⟩
    · have hl := hI.lists.fst.len
      have c0 : wr.cell? ⟨bo, 0, none⟩ = some (.int .i64 F) := hI.box.cell 0
      rw [List.take_of_length_le (by omega)] at hJ
      have HL := Lib.hid hl
      clear hl
      gi_wp2
      gi_loopw [6] (It2 lo hi bo bs F R A n c xs D m d ys sz cnt J) (fun x _ => (sz - intOf x).toNat)
      case atStart => exact ⟨0, F, Nat.zero_le _, by exact (show F = F + ((0 : Nat) : Int) * R by simp), rfl, by rw [LM.slots_zero]; exact hJ, hI⟩
      case round =>
        clear hJ hI c0 hk hlt
        obtain ⟨j, st, hj, HS, rfl, hJ, hI⟩ := hrel
        have hst0 : F ≤ st := by have h1 := HS.out; have := LM.mul_pos' j R hR0; omega
        have b0 : wr.cell? ⟨bs, 0, none⟩ = some (.int .i64 sz) := hI.num.cell 0
        have b2 : wr.cell? ⟨bo, 2, none⟩ = some (.int .i64 R) := hI.box.cell 2
        have b3 : wr.cell? ⟨bo, 3, none⟩ = some (.slice D m d) := hI.box.cell 3
        by_cases hc : j < cnt
        · have hRp : 0 < R := by
            rcases Int.lt_or_eq_of_le hR0 with h | h
            · exact h
            · have := HZ.out h.symm; omega
          have hstep : st + R ≤ sz := by have h1 := HS.out; have h2 := HE.out; have := LM.mul_step j cnt R hR0 hc; omega
          have d0 : decide (st < sz) = true := by simp; omega
          gi_wp2
          gi_loopw [33] (It3 lo hi bo bs F R A n c xs D m d ys sz j J) (fun x _ => m - (intOf x).toNat)
          case atStart => exact ⟨0, Nat.zero_le _, rfl, by rw [partRec_zero]; exact hJ, hI⟩
          case round =>
            clear hJ hI b0 b2 b3
            obtain ⟨i, hi', rfl, hJ, hI⟩ := hrel
            have hl := hI.lists.snd.len
            by_cases hlt : i < m
            · obtain ⟨b, off, p, rfl, hbB, hd, hwf, hcp⟩ := hI.lists.snd.ns.at_ hlt
              have hp := HP.out p (List.mem_of_mem_drop (by rw [hd]; exact List.mem_cons_self))
              obtain ⟨hp0, hp1⟩ := hp
              obtain ⟨fn, tmps, assign, body, hy, hR⟩ := HY.out _ (st + p) wr (part_pre hc HS.out hd) hJ
              have HD := Lib.hid hd
              have HI := Lib.hid hI
              have HL2 := Lib.hid hl
              clear hd hwf hl hI
              gi_wp2
              refine hR.mono ?_
              rintro e W3 (⟨rfl, hJ3, hk3⟩ | ⟨rfl, hJx3⟩)
              · gi_wp2
                go_roundw
                case rel => exact ⟨i + 1, by omega, by go_num, by rw [partRec_snoc F R xs ys j i p HD.out, ← HS.out]; exact hJ3, HI.out.kept hk3⟩
                case measure => simp [intOf]; omega
              · gi_wp2
                refine bodyPost_ret (results_none rfl _ _ _) rfl ?_
                exact ⟨⟨_, rfl⟩, .inr ⟨_, trivial, hJx3⟩⟩
            · have b2 : wr.cell? ⟨bo, 2, none⟩ = some (.int .i64 R) := hI.box.cell 2
              have HL2 := Lib.hid hl
              clear hl
              gi_wp2
              go_roundw
              case rel => exact ⟨j + 1, st + R, by omega, (by have h1 := HS.out; exact (show st + R = F + ((j + 1 : Nat) : Int) * R by rw [h1]; simp [Int.add_mul]; omega)), rfl, by rw [← partRec_all F R xs ys j i (by have := HL2.out; omega)]; exact hJ, hI⟩
              case measure => simp [intOf]; omega
        · obtain rfl : j = cnt := by omega
          have d0 : decide (st < sz) = false := by have h1 := HS.out; have h2 := HE.out; simp; omega
          gi_wp2
          go_end0
          exact ⟨⟨_, rfl⟩, .inl ⟨_, rfl, hJ⟩⟩

/-- The iterator of layout.Slots. -/
theorem slots_own (q : Nat) (hq : 1 ≤ q) (lo hi bo bs : Nat) (F R : Int) (A : Option Addr) (n c : Nat) (xs : List Int) (D : Option Addr) (m d : Nat) (ys : List Int) (cnt : Nat)
    (hn : n ≤ 1000000) (hm : m ≤ 1000000) (hF0 : 0 ≤ F) (hF1 : F ≤ 64) (hR0 : 0 ≤ R) (hR1 : R ≤ 64) (hsz : F + cnt * R ≤ 8192) (hz : R = 0 → cnt = 0) (hys : ∀ p ∈ ys, 0 ≤ p ∧ p < 64)
    (w : World) (hw : hi ≤ w.heap.size) (hI : IterSt w lo hi bo bs F R A n c xs D m d ys (F + cnt * R)) :
    SeqOwn q Tryz.prog 72 #[.pointer (some ⟨bo, 0, none⟩), .pointer (some ⟨bs, 0, none⟩)] (fun x : Int => #[Value.int .i64 x]) (Kept lo hi) (LM.slots F R xs ys cnt) w := fun l J Jx W hW _ _ _ hY h0 =>
  (iter_pre q hq l lo hi bo bs F R A n c xs D m d ys cnt J Jx hn hm hF0 hF1 hR0 hR1 hsz hz hys
    (fun pre x W1 hp hj => by
      obtain ⟨fn, tmps, assign, body, hy, hR⟩ := hY _ x W1 hp hj
      refine ⟨fn, tmps, assign, body, hy, hR.mono ?_⟩
      rintro e W' (⟨rfl, h1, h2⟩ | ⟨rfl, h1, _⟩)
      · exact .inl ⟨rfl, h1, h2⟩
      · exact .inr ⟨rfl, h1⟩)
    W (hI.kept (Kept.of_below hW hw)) h0).mono (by
      rintro e W' ⟨hv, ⟨zs, rfl, hj⟩ | ⟨pre, _, hj⟩⟩
      · exact ⟨hv, .inl hj⟩
      · exact ⟨hv, .inr ⟨pre, hj⟩⟩)
end Go.Proofs.YteneadimchhhhaaGreatDoor
