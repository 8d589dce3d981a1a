/- Contracts of (*Map).next, First, Run, Count: what is told, the world as it was. -/
import Derived.Test.YteencfldehcbbaaDoorBmBits
namespace Go.Proofs.YteencfldehcbbaaDoor
open Go.RowKit

/-- Where the loop of next stands. -/
def NextAt (f : Nat → Bool) (n : Nat) (v : Bool) (i : Nat) (x : Value) : Prop := ∃ p : Nat, p ≤ 1048640 ∧ x = .int .i64 p ∧ BM.nx f n v i = BM.nx f n v p

set_option maxHeartbeats 1000000 in
theorem next_any (b c n i : Nat) (ws : Nat → Nat) (v : Bool) (w : World) (h : MapAt w b c n ws) (hT : Tab w) (hi : i ≤ 1048640) :
    Calls Tryd.prog 77 #[.pointer (some ⟨b, 0, none⟩), .int .i64 i, .bool v] w fun e w' => e = .returned (.int .i64 (BM.nx (BM.on ws) n v i : Nat)) ∧ w = w' := by
  have h1 := h.n1
  have h2 := h.n2
  have c0 := h.len
  have c1 := h.row
  go_enter Tryd.func77, Tryd.ntmps77
  go_wp2
  go_loop [1] (NextAt (BM.on ws) n v i) (fun x => (1048640 - (intOf x).toNat))
  case atStart => exact ⟨i, hi, rfl, rfl⟩
  case round =>
    obtain ⟨p, hp, rfl, hx⟩ := hrel
    have hX := Lib.hid hx
    clear hx
    by_cases hlt : p < n
    · have hk : p / 64 < (n + 63) / 64 := by omega
      have c2 := h.word (p / 64) hk
      have hqq : ((p : Int) / 64).toNat = p / 64 := by omega
      have hw := h.lt (p / 64)
      have hlt' := BM.look_lt _ v hw
      cases v
      · have hxor : bits .xor .u64 (if IntKind.u64.signed = true then -1 else IntKind.u64.max) (ws (p / 64) : Int) = ((BM.look (ws (p / 64)) false : Nat) : Int) := BM.xor_all _ hw
        by_cases hz : BM.look (ws (p / 64)) false / 2 ^ (p % 64) = 0
        · have hm := Lib.hid (BM.missed ws p false h.lt hz)
          generalize BM.look (ws (p / 64)) false = U at *
          have hV : (U : Int) / 2 ^ (p % 64) = 0 := by rw [BM.div_cast, hz]; rfl
          have HZ := Lib.hid hz
          clear hz
          go_wp2_with (first
            | (go_at_call 78; refine (len_any b n _ c0).mono ?_; rintro e w' ⟨rfl, rfl⟩))
          go_round
          case rel => exact ⟨(p / 64 + 1) * 64, by omega, by go_num, by rw [hX.out]; exact BM.nx_skip _ _ _ _ _ (by omega) hm.out⟩
          case measure => simp [intOf]; omega
        · have hm := Lib.hid (BM.found ws n p false h.lt hlt h.past hz)
          have hb := BM.nx_le (BM.on ws) n false p
          have hlt3 := BM.shr_lt _ (p % 64) hlt'
          generalize BM.look (ws (p / 64)) false = U at *
          obtain ⟨V, hV⟩ : ∃ V : Nat, V = U / 2 ^ (p % 64) := ⟨_, rfl⟩
          have hV' : (U : Int) / 2 ^ (p % 64) = (V : Int) := by rw [BM.div_cast, hV]
          rw [← hV] at hz hm hlt3
          clear hV
          have hne : ((V : Int) != 0) = true := by simp; omega
          have hle : p + Lib.ctz 64 V ≤ n := by rw [hm.out]; exact hb
          go_wp2_with (first
            | (go_at_call 78; refine (len_any b n _ c0).mono ?_; rintro e w' ⟨rfl, rfl⟩)
            | (go_at_call 79; refine (tz64_any V hlt3 hz _ hT).mono ?_; rintro e w' ⟨rfl, rfl⟩))
          go_ret
          exact ⟨ret_int (by rw [hX.out, ← hm.out]; simp), rfl⟩
      · have hlook : BM.look (ws (p / 64)) true = ws (p / 64) := rfl
        by_cases hz : BM.look (ws (p / 64)) true / 2 ^ (p % 64) = 0
        · have hm := Lib.hid (BM.missed ws p true h.lt hz)
          rw [hlook] at *
          generalize ws (p / 64) = U at *
          have hV : (U : Int) / 2 ^ (p % 64) = 0 := by rw [BM.div_cast, hz]; rfl
          have HZ := Lib.hid hz
          clear hz hlook
          go_wp2_with (first
            | (go_at_call 78; refine (len_any b n _ c0).mono ?_; rintro e w' ⟨rfl, rfl⟩))
          go_round
          case rel => exact ⟨(p / 64 + 1) * 64, by omega, by go_num, by rw [hX.out]; exact BM.nx_skip _ _ _ _ _ (by omega) hm.out⟩
          case measure => simp [intOf]; omega
        · have hm := Lib.hid (BM.found ws n p true h.lt hlt h.past hz)
          have hb := BM.nx_le (BM.on ws) n true p
          have hlt3 := BM.shr_lt _ (p % 64) hlt'
          rw [hlook] at *
          generalize ws (p / 64) = U at *
          obtain ⟨V, hV⟩ : ∃ V : Nat, V = U / 2 ^ (p % 64) := ⟨_, rfl⟩
          have hV' : (U : Int) / 2 ^ (p % 64) = (V : Int) := by rw [BM.div_cast, hV]
          rw [← hV] at hz hm hlt3
          clear hV hlook
          have hne : ((V : Int) != 0) = true := by simp; omega
          have hle : p + Lib.ctz 64 V ≤ n := by rw [hm.out]; exact hb
          go_wp2_with (first
            | (go_at_call 78; refine (len_any b n _ c0).mono ?_; rintro e w' ⟨rfl, rfl⟩)
            | (go_at_call 79; refine (tz64_any V hlt3 hz _ hT).mono ?_; rintro e w' ⟨rfl, rfl⟩))
          go_ret
          exact ⟨ret_int (by rw [hX.out, ← hm.out]; simp), rfl⟩
    · go_wp2_with (first
        | (go_at_call 78; refine (len_any b n _ c0).mono ?_; rintro e w' ⟨rfl, rfl⟩))
      go_ret
      exact ⟨ret_int (by rw [hX.out, BM.nx_out _ _ _ _ (by omega)]), rfl⟩
end Go.Proofs.YteencfldehcbbaaDoor
