/- The contract of field.Unpack. -/
import Derived.Test.YteneadimchhhhaaDoorPack
import Derived.Test.YteneadimchhhhaaDoorMgBase
namespace Go.Proofs.YteneadimchhhhaaDoor
open Go.RowKit

set_option maxHeartbeats 1000000 in
theorem unpack_no (x : Int) (A : Option Addr) (n c : Nat) (fs : List (Int × Int)) (w : World) (hn : n ≤ 1000000) (hf : FS w w.heap.size A n fs) (ha : FM.apart fs = false) :
    Calls Tryd.prog 64 #[.int .u64 x, .slice A n c] w fun e w' => e = .returned (.tuple #[.slice none 0 0, .int .i64 2]) ∧ Below w.heap.size w w' := by
  have HF := Lib.hid hf
  clear hf
  go_enter Tryd.func64, Tryd.ntmps64
  go_wp2_with (first
      | (go_at_call 62; refine (apart_any A n c fs _ hn HF.out).mono ?_; rintro e w' ⟨rfl, hb⟩))
  go_ret2
  exact ⟨rfl, hb⟩

def UnpackPost (x : Int) (n : Nat) (fs : List (Int × Int)) (w : World) (e : Ending) (w' : World) : Prop :=
  ∃ g, e = .returned (.tuple #[.slice (some ⟨g, 0, none⟩) n n, .int .i64 0]) ∧ NS .u64 w' w'.heap.size (some ⟨g, 0, none⟩) n (fs.map fun f => FM.num x f.1 f.2) ∧ Below w.heap.size w w'

/-- How far the new row is filled. -/
def Filled (x : Int) (fs : List (Int × Int)) (k n : Nat) (cs : Array Value) : Prop :=
  cs.size = n ∧ (∀ i f, i < k → fs[i]? = some f → cs[i]? = some (.int .u64 (FM.num x f.1 f.2)))

theorem Filled.step {x : Int} {fs : List (Int × Int)} {k n : Nat} {cs : Array Value} (h : Filled x fs k n cs) (hk : k < n) {a b : Int} (hf : fs[k]? = some (a, b)) : Filled x fs (k + 1) n (cs.setIfInBounds k (.int .u64 (FM.num x a b))) := by
  refine ⟨by simp [h.1], fun i f hi hif => ?_⟩
  by_cases e : i = k
  · subst e
    rw [hf] at hif
    injection hif with hif
    subst hif
    simp [h.1, hk]
  · rw [Array.getElem?_setIfInBounds_ne (by omega)]
    exact h.2 i f (by omega) hif

theorem getElem?_of_drop {α : Type} {l r : List α} {x : α} {k : Nat} (h : l.drop k = x :: r) : l[k]? = some x := by
  have : (l.drop k)[0]? = some x := by rw [h]; rfl
  simpa using this

set_option maxHeartbeats 2000000 in
theorem unpack_ok (x : Int) (hx : FM.Word x) (A : Option Addr) (n c : Nat) (fs : List (Int × Int)) (w : World) (hn : n ≤ 1000000) (hf : FS w w.heap.size A n fs) (ha : FM.apart fs = true) :
    Calls Tryd.prog 64 #[.int .u64 x, .slice A n c] w (UnpackPost x n fs w) := by
  have HF := Lib.hid hf
  clear hf
  have HR := Lib.hid (FM.apart_right 0 fs ha)
  have hmk := fun W => run_make_row' (P := Tryd.prog) 57 32 (.int .u64 0) 8 Tryd.underlying57 (by kernel_rfl) rfl .i64 .i64 n (by omega) (by omega) W
  go_enter Tryd.func64, Tryd.ntmps64
  go_wp2_with (first
      | (go_at_call 62; refine (apart_any A n c fs _ hn HF.out).mono ?_; rintro e w0 ⟨rfl, hb0⟩))
  clear hmk
  go_loopw [17] (fun i wr => ∃ (k : Nat) (cs : Array Value), k ≤ n ∧ i = .int .i64 k ∧ Whole wr w0.heap.size 32 cs ∧ Filled x fs k n cs ∧ Below w.heap.size w wr) (fun i _ => n - (intOf i).toNat)
  case atStart => exact ⟨0, _, Nat.zero_le _, rfl, Whole.fresh _ _ _, ⟨size_madeCells _ _, fun i f h => absurd h (by omega)⟩, hb0.alloc hb0.size _⟩
  case round =>
    obtain ⟨k, cs, hk, rfl, hwh, hfil, hbw⟩ := hrel
    by_cases hlt : k < n
    · obtain ⟨b, off, a, e, rfl, hbB, hd, hc0, hc1⟩ := (HF.out.below hbw).at_ hlt
      have hr : FM.right a e = true := HR.out (a, e) (List.mem_of_mem_drop (by rw [hd]; exact List.mem_cons_self))
      have HD := Lib.hid (getElem?_of_drop hd)
      clear hd
      obtain ⟨h1, h2, h3, h4⟩ := (FM.right_iff a e).1 hr
      have h5 : e ≤ 64 := by omega
      have hs := hbw.size
      have hs0 := hb0.size
      have hg := hwh.lt
      have HW := Lib.hid hwh
      have HFi := Lib.hid hfil
      clear hwh hfil
      go_wp2_with (first
        | (go_at_call 75; refine (numberIn_any x a e hx h1 h2 h3 h5 _).mono ?_; rintro e w1 ⟨rfl, hb1⟩; obtain ⟨v, hv⟩ : ∃ v, w1.cell? ⟨w0.heap.size, k, none⟩ = some v := ⟨cs[k]'(by have := HFi.out.1; omega), by rw [((HW.out.alloc _).below hb1 (by simp; omega)).cell k]; simp⟩; have hfr := ((HW.out.alloc _).below hb1 (by simp; omega)).free k))
      have HW2 := ((HW.out.alloc (.cells #[.int .i64 a, .int .i64 e] 131)).below hb1 (by simp; omega))
      have hsz := hb1.size
      simp at hsz
      go_roundw
      case rel => exact ⟨k + 1, _, by omega, by go_num, HW2.set k _, HFi.out.step hlt HD.out, ((hbw.alloc hs _).trans (hb1.mono (by simp; omega))).setCell (p := ⟨w0.heap.size, k, none⟩) hs0 _⟩
      case measure => simp [intOf]; omega
    · go_wp2
      go_ret2
      refine ⟨w0.heap.size, rfl, ⟨?_, ?_, fun _ => ⟨_, 0, rfl, hwh.lt, fun i y hy => ?_⟩⟩, hbw⟩
      · rw [List.length_map]; exact HF.out.1
      · intro y hy
        obtain ⟨f, hf, rfl⟩ := List.mem_map.1 hy
        have := (FM.right_iff _ _).1 (HR.out f hf)
        exact of_word (FM.num_word x f.1 f.2 (by omega))
      · rw [List.getElem?_map, Option.map_eq_some_iff] at hy
        obtain ⟨f, hf, rfl⟩ := hy
        have hl := HF.out.1
        have hi : i < fs.length := (List.getElem?_eq_some_iff.1 hf).1
        rw [Nat.zero_add, hwh.cell i]
        exact hfil.2 i f (by omega) hf
end Go.Proofs.YteneadimchhhhaaDoor
