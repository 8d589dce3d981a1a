/- Contracts of the document's Digits at three digits, and of the law's text. -/
import Derived.Test.YtfmcgejoobbiiaaBgStr3
namespace Go.Proofs.Ytfmcgejoobbiiaa
open Go.RowKit Go.Sort

/-- What is left of a number by 127. -/
def m7 (x : Int) : Int := bits .and .i64 x 127
theorem m7_sm (x : Int) : Sm (m7 x) := by
  have h : ((BitVec.ofInt 64 x &&& BitVec.ofInt 64 127).toNat) ≤ 127 := by
    rw [BitVec.toNat_and]
    exact Nat.le_trans Nat.and_le_right (by decide)
  have e : m7 x = (((BitVec.ofInt 64 x &&& BitVec.ofInt 64 127).toNat : Nat) : Int) := by
    show IntKind.i64.wrap (((BitVec.ofInt 64 x &&& BitVec.ofInt 64 127).toNat : Nat) : Int) = _
    rw [IntKind.wrap_i64]
    generalize (BitVec.ofInt 64 x &&& BitVec.ofInt 64 127).toNat = z at h
    omega
  constructor <;> rw [e] <;> omega

theorem digit_nat (d : Nat) (h : d < 10) : (UInt8.ofNat (48 + d)).toNat = 48 + d := by
  rw [UInt8.toNat_ofNat']
  omega
theorem conv_byte (v : Nat) (wr : World) : Sem.run Try.prog (convert 63 9 (Value.slice (some ⟨wr.heap.size, 0, none⟩) 1 1)) (wr.alloc (Obj.cells #[Value.int IntKind.u8 (48 + (v : Int) % 10)] 5)) =
    .ok (.string ⟨[UInt8.ofNat (48 + v % 10)].toArray⟩) (wr.alloc (Obj.cells #[Value.int IntKind.u8 (48 + (v : Int) % 10)] 5)) :=
  run_convert_bytes_back _ 63 9 5 ⟨wr.heap.size, 0, none⟩ 1 [UInt8.ofNat (48 + v % 10)] Try.underlying63 Try.underlying5 Try.underlying9 (fun j hj => by
    have h0 : j = 0 := by simpa using hj
    subst h0
    have e : ([UInt8.ofNat (48 + v % 10)][0]).toNat = 48 + v % 10 := digit_nat _ (Nat.mod_lt _ (by decide))
    rw [e]
    simp [go_sem, Addr.add])
theorem dig_str (c : UInt8) (t : ByteArray) : ((⟨#[c]⟩ : ByteArray) ++ t).data.toList = c :: t.data.toList := by simp
theorem conv_some (v : Nat) (wr : World) : ∃ c : UInt8, Hid (c = UInt8.ofNat (48 + v % 10)) ∧ Sem.run Try.prog (convert 63 9 (Value.slice (some ⟨wr.heap.size, 0, none⟩) 1 1)) (wr.alloc (Obj.cells #[Value.int IntKind.u8 (48 + (v : Int) % 10)] 5)) =
    .ok (.string ⟨#[c]⟩) (wr.alloc (Obj.cells #[Value.int IntKind.u8 (48 + (v : Int) % 10)] 5)) := ⟨_, Lib.hid rfl, conv_byte v wr⟩
theorem digs_len (n k : Nat) : (digs n k).length = k := by
  induction k with
  | zero => rfl
  | succ k ih => simp [digs, ih]

set_option maxHeartbeats 1000000 in
set_option maxRecDepth 100000 in
theorem digits_any (y : Int) (hy : Sm y) (w : World) :
    Calls Try.prog 27 #[.int .i64 (100 + y)] w fun e w' => e = .returned (.string (T3 y)) ∧ Below w.heap.size w w' := by
  obtain ⟨n, hn⟩ : ∃ n, n = 100 + y.toNat := ⟨_, rfl⟩
  obtain ⟨y1, y2⟩ := hy
  have en : (100 : Int) + y = (n : Nat) := by omega
  have eT : T3 y = ⟨(digs n 3).toArray⟩ := by unfold T3 txtL; rw [hn]
  have hn1 : 100 ≤ n := by omega
  have hn2 : n < 1000 := by omega
  rw [en, eT]
  clear en eT hn y1 y2
  have HN := Lib.hid (And.intro hn1 hn2)
  clear hn1 hn2
  go_enter Try.func27, Try.ntmps27
  go_wp2
  go_loopg [0, 3] 3 (fun g x s wr => ∃ (k v : Nat) (t : ByteArray), k ≤ 3 ∧ Hid (3 - k ≤ g) ∧ x = .int .i64 v ∧ s = .string t ∧ Hid (v = n / 10 ^ k) ∧ Hid (t.data.toList = digs n k) ∧ v ≤ 1000 ∧ Hid (Below w.heap.size w wr))
  case atStart => exact ⟨0, n, ⟨#[]⟩, by omega, Lib.hid (by omega), rfl, rfl, Lib.hid (by rw [Nat.pow_zero, Nat.div_one]), Lib.hid rfl, by have := HN.out; omega, Lib.hid (Below.refl _ _)⟩
  case round =>
    obtain ⟨k, v, t, hk, HG, rfl, rfl, HV, HT, hv1, HB⟩ := hrel
    have hl : t.size ≤ 3 := by
      have := congrArg List.length HT.out
      rw [digs_len] at this
      have e : t.size = t.data.toList.length := by rw [Array.length_toList]; rfl
      omega
    obtain ⟨c, HC, hcv⟩ := conv_some v wr
    by_cases hk3 : k < 3
    · have hv : 0 < v := by
        have h1 := HV.out
        have h2 := HN.out
        have h3 : k = 0 ∨ k = 1 ∨ k = 2 := by omega
        rcases h3 with rfl | rfl | rfl <;> clear hcv HG HT <;> simp only [Nat.pow_zero, Nat.pow_one, Nat.div_one, Nat.reducePow] at h1 <;> omega
      have n1 : ¬ (9223372036854775807 < 1 + t.size) := by omega
      have hw64 : wrap64 ((v : Int) / 10) = ((v / 10 : Nat) : Int) := by unfold wrap64; omega
      go_wp2
      go_roundg (3 - (k + 1))
      case measure => have := HG.out; omega
      case rel => exact ⟨k + 1, v / 10, _, by omega, Lib.hid (Nat.le_refl _), congrArg _ (by omega), rfl, Lib.hid (by rw [HV.out, Nat.pow_succ, Nat.div_div_eq_div_mul]), Lib.hid (by rw [dig_str, HC.out, HT.out, HV.out]; rfl), by omega, Lib.hid (HB.out.alloc HB.out.size _)⟩
    · obtain rfl : k = 3 := by omega
      have hv : v = 0 := by
        have h1 := HV.out
        have h2 := HN.out
        simp at h1
        omega
      subst hv
      have ht' : t.toList.isEmpty = false := by
        rw [Lib.toList_data, HT.out]
        rfl
      clear hcv
      go_wp2
      go_ret
      refine ⟨?_, HB.out⟩
      rw [← HT.out]
      rfl

set_option maxHeartbeats 1000000 in
theorem text_any (x : Int) (w : World) : Calls Try.prog 26 #[.int .i64 x] w fun e w' => e = .returned (.string (T3 (m7 x))) ∧ Below w.heap.size w w' := by
  have hs := m7_sm x
  have hD : ∀ W, Calls Try.prog 27 #[.int .i64 (100 + m7 x)] W fun e w' => e = .returned (.string (T3 (m7 x))) ∧ Below W.heap.size W w' := fun W => digits_any _ hs W
  obtain ⟨h1, h2⟩ := hs
  have hm : bits .and .i64 x 127 = m7 x := rfl
  generalize T3 (m7 x) = t at hD ⊢
  generalize m7 x = y at *
  have HD := Lib.hid hD
  clear hD
  go_enter Try.func26, Try.ntmps26
  go_wp2_with fail
  refine (HD.out _).mono ?_
  rintro e w1 ⟨rfl, hb⟩
  have HB := Lib.hid hb
  clear hb
  go_wp2
  go_ret
  exact ⟨rfl, HB.out⟩
end Go.Proofs.Ytfmcgejoobbiiaa
