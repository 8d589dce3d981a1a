/- The contract of the document's Apart: fields, given by their places and widths. -/
import Derived.Test.YtbiacpickfdeaaaPack
import Derived.Test.YtbiacpickfdeaaaMath5
namespace Go.Proofs.Ytbiacpickfdeaaa
open Go.RowKit

theorem quiet_left {P : Program} {f : FuncId} {args : Array Value} {w : World} {n : Nat} {v : Value}
    (h : Calls P f args (w.drewN n) fun e w' => e = .returned v ∧ w.drewN n = w') : Calls P f args (w.drewN n) fun e w'' => e = .returned v ∧ ∃ m, w'' = w.drewN m :=
  h.mono fun _ _ ⟨he, hm⟩ => ⟨he, n, hm.symm⟩

theorem quiet_add_left {P : Program} {f : FuncId} {args : Array Value} {w : World} {a n : Nat} {v : Value}
    (h : Calls P f args (w.drewN (a + n)) fun e w' => e = .returned v ∧ w.drewN (a + n) = w') : Calls P f args (w.drewN (a + n)) fun e w'' => e = .returned v ∧ ∃ m, w'' = w.drewN (a + m) :=
  h.mono fun _ _ ⟨he, hm⟩ => ⟨he, n, hm.symm⟩
/-- As NS, but that nothing is said of the numbers' size. -/
def N0 (k : IntKind) (w : World) (B : Nat) (A : Option Addr) (n : Nat) (xs : List Int) : Prop :=
  xs.length = n ∧ (0 < n → ∃ b off, A = some ⟨b, off, none⟩ ∧ b < B ∧ ∀ i x, xs[i]? = some x → w.cell? ⟨b, off + i, none⟩ = some (.int k x))
theorem N0.below {k : IntKind} {w w' : World} {B n : Nat} {A : Option Addr} {xs : List Int} (h : N0 k w B A n xs) (hb : Below B w w') : N0 k w' B A n xs := by
  refine ⟨h.1, fun hn => ?_⟩
  obtain ⟨b, off, e, hlt, hc⟩ := h.2 hn
  exact ⟨b, off, e, hlt, fun i f hi => (hb.cell (p := ⟨b, _, none⟩) hlt).trans (hc i f hi)⟩
theorem N0.more {k : IntKind} {w : World} {B B' n : Nat} {A : Option Addr} {xs : List Int} (h : N0 k w B A n xs) (hB : B ≤ B') : N0 k w B' A n xs := by
  refine ⟨h.1, fun hn => ?_⟩
  obtain ⟨b, off, e, hlt, hc⟩ := h.2 hn
  exact ⟨b, off, e, by omega, hc⟩
theorem N0.at_ {k : IntKind} {w : World} {B n i : Nat} {A : Option Addr} {xs : List Int} (h : N0 k w B A n xs) (hk : i < n) : ∃ b off x, A = some ⟨b, off, none⟩ ∧ b < B ∧ xs.drop i = x :: xs.drop (i + 1) ∧ w.cell? ⟨b, off + i, none⟩ = some (.int k x) := by
  obtain ⟨b, off, e, hlt, hc⟩ := h.2 (by omega)
  have hl : i < xs.length := by have := h.1; omega
  have := hc i xs[i] (List.getElem?_eq_getElem hl)
  exact ⟨b, off, xs[i], e, hlt, FM.drop_cons xs i hl, this⟩
theorem N0.of_own {w : World} {base : Nat} {t : TypeId} {k : IntKind} {v : Value} {n : Nat} {L : List Int} (h : w.ownsRow base t 1 v n (L.map (Value.int k))) : ∃ A c, v = .slice A n c ∧ N0 k w w.heap.size A n L := by
  have hl : L.length = n := by have := h.1; simpa using this
  rcases h.2 with ⟨rfl, rfl⟩ | ⟨g, cap, cur, rfl, _, hh, hnc, _, hsz, htk⟩
  · exact ⟨none, 0, rfl, hl, fun h => absurd h (by omega)⟩
  · have hlt : g < w.heap.size := by
      rcases Nat.lt_or_ge g w.heap.size with hl | hg
      · exact hl
      · rw [Array.getElem?_eq_none hg] at hh; cases hh
    refine ⟨_, _, rfl, hl, fun _ => ⟨g, 0, rfl, hlt, fun i x hi => ?_⟩⟩
    have hu : (L.map (Value.int k))[i]? = some (.int k x) := by rw [List.getElem?_map, hi]; rfl
    rw [← htk, List.getElem?_take] at hu
    split at hu
    · rw [Nat.zero_add]
      simpa [World.cell?, hh] using hu
    · cases hu

theorem ns_pair {w : World} {B n k : Nat} {A X : Option Addr} {fs : List (Int × Int)} (h1 : N0 .i64 w B A n (fs.map (·.1))) (h2 : N0 .i64 w B X n (fs.map (·.2))) (hk : k < n) :
    ∃ b off b' off' a d, A = some ⟨b, off, none⟩ ∧ X = some ⟨b', off', none⟩ ∧ fs.drop k = (a, d) :: fs.drop (k + 1) ∧ w.cell? ⟨b, off + k, none⟩ = some (.int .i64 a) ∧ w.cell? ⟨b', off' + k, none⟩ = some (.int .i64 d) := by
  have hl : k < fs.length := by have := h1.1; simp at this; omega
  obtain ⟨b, off, x, e1, _, hd1, hc1⟩ := h1.at_ hk
  obtain ⟨b', off', y, e2, _, hd2, hc2⟩ := h2.at_ hk
  have hd := FM.drop_cons fs k hl
  rw [← List.map_drop, hd, List.map_cons] at hd1 hd2
  injection hd1 with hd1
  injection hd2 with hd2
  subst hd1 hd2
  exact ⟨b, off, b', off', _, _, e1, e2, hd, hc1, hc2⟩
theorem take_next' {α : Type} {l r : List α} {x : α} {k : Nat} (h : l.drop k = x :: r) : l.take (k + 1) = l.take k ++ [x] := by
  have : l[k]? = some x := by
    have h0 : (l.drop k)[0]? = some x := by rw [h]; rfl
    simpa using h0
  rw [List.take_add_one, this]
  rfl

set_option maxHeartbeats 4000000 in
theorem refApart_any (A : Option Addr) (n c : Nat) (X : Option Addr) (d : Nat) (fs : List (Int × Int)) (w : World) (hn : n ≤ 1000000) (h1 : N0 .i64 w w.heap.size A n (fs.map (·.1))) (h2 : N0 .i64 w w.heap.size X n (fs.map (·.2))) :
    Calls Try.prog 16 #[.slice A n c, .slice X n d] w fun e w' => e = .returned (.bool (FM.apart fs)) ∧ Below w.heap.size w w' := by
  have H1 := Lib.hid h1
  have H2 := Lib.hid h2
  have hln : fs.length = n := by have := h1.1; simpa using this
  have HLn := Lib.hid hln
  clear h1 h2 hln
  go_enter Try.func16, Try.ntmps16
  go_wp2
  go_loopw [5] (fun i wr => ∃ (k : Nat), k ≤ n ∧ i = .int .i64 k ∧ Hid (∀ f ∈ fs.take k, FM.right f.1 f.2 = true) ∧ Below w.heap.size w wr) (fun i _ => n - (intOf i).toNat)
  case atStart => exact ⟨0, Nat.zero_le _, rfl, (fun f hf => by simp at hf), Below.refl _ _⟩
  case round =>
    obtain ⟨k, hk, rfl, HR, hbw⟩ := hrel
    by_cases hlt : k < n
    · obtain ⟨b, off, b', off', a, e, rfl, rfl, hd, hc0, hc1⟩ := ns_pair (H1.out.below hbw) (H2.out.below hbw) hlt
      have HD := Lib.hid hd
      clear hd
      have hk0 : (0 : Int) ≤ (k : Int) := by omega
      have hk1 : (k : Int) < (n : Int) := by omega
      by_cases hr : FM.right a e = true
      · go_wp2
        go_quiet ((go_at_call 12; exact quiet_left (refRight_any a e _)))
        go_wp2
        go_roundw
        case rel =>
          refine ⟨k + 1, by omega, by go_num, ?_, below_drewN hbw _⟩
          intro f hf
          rw [take_next' HD.out] at hf
          rcases List.mem_append.1 hf with hf | hf
          · exact HR.out f hf
          · simp at hf; subst hf; exact hr
        case measure => simp [intOf]; omega
      · have hr' : FM.right a e = false := by simpa using hr
        clear hr
        go_wp2
        go_quiet ((go_at_call 12; exact quiet_left (refRight_any a e _)))
        go_wp2
        go_ret
        exact ⟨ret_bool (by rw [FM.apart_wrong fs (a, e) (List.mem_of_mem_drop (by rw [HD.out]; exact List.mem_cons_self)) hr']), below_drewN hbw _⟩
    · have HR2 : Hid (∀ f ∈ fs, FM.right f.1 f.2 = true) := by
        have := HR.out
        rw [List.take_of_length_le (by have := HLn.out; omega)] at this
        exact this
      clear HR
      go_wp2
      go_loopw [6] (fun i wr => ∃ (b : Nat), b ≤ 64 ∧ i = .int .i64 b ∧ Hid (∀ c : Nat, c < b → FM.cnt c fs ≤ 1) ∧ Below w.heap.size w wr) (fun i _ => 64 - (intOf i).toNat)
      case atStart => exact ⟨0, by omega, rfl, (fun c hc => by omega), hbw⟩
      case round =>
        obtain ⟨bb, hbb, rfl, HC, hbw2⟩ := hrel
        by_cases hlt2 : bb < 64
        · have hlt2' : decide ((bb : Int) < 64) = true := by simp; omega
          go_wp2
          go_loopw [7, 8] (fun t i wr => ∃ (k : Nat), k ≤ n ∧ i = .int .i64 k ∧ t = .int .i64 (FM.cnt bb (fs.take k)) ∧ Below w.heap.size w wr) (fun _ i _ => n - (intOf i).toNat)
          case atStart => exact ⟨0, by omega, rfl, rfl, hbw2⟩
          case round =>
            obtain ⟨k2, hk2, rfl, rfl, hbw3⟩ := hrel
            have hcl := FM.cnt_le bb (fs.take k2)
            have hcl2 : (fs.take k2).length ≤ k2 := List.length_take_le _ _
            by_cases hlt3 : k2 < n
            · obtain ⟨b, off, b', off', a, e, rfl, rfl, hd, hc0, hc1⟩ := ns_pair (H1.out.below hbw3) (H2.out.below hbw3) hlt3
              have HS := Lib.hid (FM.cnt_snoc bb (fs.take k2) (a, e))
              have hr := HR2.out (a, e) (List.mem_of_mem_drop (by rw [hd]; exact List.mem_cons_self))
              obtain ⟨g1, g2, g3, g4⟩ := (FM.right_iff a e).1 hr
              have HD := Lib.hid hd
              clear hd hr
              have hk0 : (0 : Int) ≤ (k2 : Int) := by omega
              have hk1 : (k2 : Int) < (n : Int) := by omega
              by_cases hin : a ≤ (bb : Int)
              · have hin' : decide (a ≤ (bb : Int)) = true := by simpa using hin
                by_cases hin2 : (bb : Int) < a + e
                · have hin2' : decide ((bb : Int) < a + e) = true := by simpa using hin2
                  go_wp2
                  go_quiet (fail)
                  go_wp2
                  go_roundw
                  case rel => exact ⟨k2 + 1, by omega, by go_num, by rw [take_next' HD.out, HS.out, if_pos (by simp [FM.has, hin, hin2])]; go_num, below_drewN hbw3 _⟩
                  case measure => simp [intOf]; omega
                · have hin2' : decide ((bb : Int) < a + e) = false := by simpa using hin2
                  go_wp2
                  go_quiet (fail)
                  go_wp2
                  go_roundw
                  case rel => exact ⟨k2 + 1, by omega, by go_num, by rw [take_next' HD.out, HS.out, if_neg (by simp [FM.has]; omega)]; go_num, below_drewN hbw3 _⟩
                  case measure => simp [intOf]; omega
              · have hin' : decide (a ≤ (bb : Int)) = false := by simpa using hin
                go_wp2
                go_quiet (fail)
                go_wp2
                go_roundw
                case rel => exact ⟨k2 + 1, by omega, by go_num, by rw [take_next' HD.out, HS.out, if_neg (by simp [FM.has]; omega)]; go_num, below_drewN hbw3 _⟩
                case measure => simp [intOf]; omega
            · have hfl : fs.take k2 = fs := List.take_of_length_le (by have := HLn.out; omega)
              by_cases h1c : 1 < FM.cnt bb (fs.take k2)
              · have h1c' : (1 : Int) < (FM.cnt bb (fs.take k2) : Int) := by omega
                have HX := Lib.hid (FM.apart_not fs bb (by rw [← hfl]; exact h1c))
                clear hfl
                go_wp2
                go_ret
                exact ⟨ret_bool (by rw [HX.out]), hbw3⟩
              · have h1c' : ¬ (1 : Int) < (FM.cnt bb (fs.take k2) : Int) := by omega
                have HX := Lib.hid hfl
                clear hfl
                go_wp2
                go_roundw
                case rel =>
                  refine ⟨bb + 1, by omega, by go_num, ?_, hbw3⟩
                  intro c hc
                  by_cases hcb : c < bb
                  · exact HC.out c hcb
                  · obtain rfl : c = bb := by omega
                    rw [← HX.out]; omega
                case measure => simp [intOf]; omega
        · go_wp2
          go_ret
          exact ⟨ret_bool (by rw [FM.apart_of fs HR2.out (fun b hb => HC.out b (by omega))]), hbw2⟩
end Go.Proofs.Ytbiacpickfdeaaa
