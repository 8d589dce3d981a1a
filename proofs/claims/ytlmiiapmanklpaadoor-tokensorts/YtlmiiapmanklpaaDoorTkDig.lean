/- Contracts of Digits and Text of the document's answer. -/
import Derived.Test.YtlmiiapmanklpaaDoorTkText
import Derived.Laws.IdiomStrings
import Derived.Lib.QuietBelow
namespace Go.Proofs.YtlmiiapmanklpaaDoor
open Go.RowKit Go.Sort

/-- Where the loop of Digits stands. -/
def DigAt (n : Nat) (v : Nat) (l : List UInt8) : Prop := (l = [] ∧ v = n) ∨ (l ≠ [] ∧ (v = 0 → l = Lib.decDigits n) ∧ (0 < v → Lib.decDigits n = Lib.decDigits v ++ l))
theorem DigAt.next {n v : Nat} {l : List UInt8} (h : DigAt n v l) (hv : 0 < v ∨ l = []) : DigAt n (v / 10) (UInt8.ofNat (48 + v % 10) :: l) := by
  refine Or.inr ⟨by simp, fun e => ?_, fun e => ?_⟩
  · have h10 : v < 10 := by omega
    rcases h with ⟨rfl, rfl⟩ | ⟨h1, h2, h3⟩
    · rw [TM.dec_small h10, Nat.mod_eq_of_lt h10]
    · rcases hv with hv | hv
      · rw [h3 hv, TM.dec_small h10, Nat.mod_eq_of_lt h10]; rfl
      · exact absurd hv h1
  · have h10 : ¬ v < 10 := by omega
    rcases h with ⟨rfl, rfl⟩ | ⟨h1, h2, h3⟩
    · rw [TM.dec_big h10]
    · rw [h3 (by omega), TM.dec_big h10, List.append_assoc]; rfl
theorem DigAt.len {n v : Nat} {l : List UInt8} (h : DigAt n v l) (hn : n < 10000) : l.length ≤ 4 := by
  have := TM.dec_len n 4 (by omega) (by omega)
  rcases h with ⟨rfl, rfl⟩ | ⟨h1, h2, h3⟩
  · simp
  · rcases Nat.eq_zero_or_pos v with e | e
    · rw [h2 e]; exact this
    · rw [h3 e, List.length_append] at this; omega

/-- A byte, made a string. -/
theorem conv_byte (v : Nat) (wr : World) : Sem.run Tryd.prog (convert 48 9 (Value.slice (some ⟨wr.heap.size, 0, none⟩) 1 1)) (wr.alloc (Obj.cells #[Value.int IntKind.u8 (48 + (v : Int) % 10)] 5)) =
    .ok (.string ⟨[UInt8.ofNat (48 + v % 10)].toArray⟩) (wr.alloc (Obj.cells #[Value.int IntKind.u8 (48 + (v : Int) % 10)] 5)) :=
  run_convert_bytes_back _ 48 9 5 ⟨wr.heap.size, 0, none⟩ 1 [UInt8.ofNat (48 + v % 10)] Tryd.underlying48 Tryd.underlying5 Tryd.underlying9 (fun j hj => by
    have h0 : j = 0 := by simpa using hj
    subst h0
    have e : ([UInt8.ofNat (48 + v % 10)][0]).toNat = 48 + v % 10 := TM.digit _ (Nat.mod_lt _ (by decide))
    rw [e]
    simp [go_sem, Addr.add])

theorem dig_str (c : UInt8) (t : ByteArray) : ((⟨#[c]⟩ : ByteArray) ++ t).data.toList = c :: t.data.toList := by simp
theorem conv_some (v : Nat) (wr : World) : ∃ c : UInt8, Hid (c = UInt8.ofNat (48 + v % 10)) ∧ Sem.run Tryd.prog (convert 48 9 (Value.slice (some ⟨wr.heap.size, 0, none⟩) 1 1)) (wr.alloc (Obj.cells #[Value.int IntKind.u8 (48 + (v : Int) % 10)] 5)) =
    .ok (.string ⟨#[c]⟩) (wr.alloc (Obj.cells #[Value.int IntKind.u8 (48 + (v : Int) % 10)] 5)) := ⟨_, Lib.hid rfl, conv_byte v wr⟩

set_option maxHeartbeats 1000000 in
set_option maxRecDepth 100000 in
theorem digits_any (n : Nat) (hn : n < 10000) (w : World) :
    Calls Tryd.prog 19 #[.int .i64 n] w fun e w' => e = .returned (.string ⟨(Lib.decDigits n).toArray⟩) ∧ Below w.heap.size w w' := by
  have HN := Lib.hid hn
  clear hn
  go_enter Tryd.func19, Tryd.ntmps19
  go_wp2
  go_loopg [0, 3] (n + 1) (fun g x s wr => ∃ (v : Nat) (t : ByteArray), x = .int .i64 v ∧ s = .string t ∧ Hid (v + (if t.data.toList = [] then 1 else 0) ≤ g) ∧ v ≤ n ∧ Hid (DigAt n v t.data.toList) ∧ Hid (Below w.heap.size w wr))
  case atStart => exact ⟨n, ⟨#[]⟩, rfl, rfl, Lib.hid (by simp), Nat.le_refl _, Lib.hid (Or.inl ⟨rfl, rfl⟩), Lib.hid (Below.refl _ _)⟩
  case round =>
    obtain ⟨v, t, rfl, rfl, HG, hvn, HD, HB⟩ := hrel
    have hl : t.size ≤ 4 := HD.out.len HN.out
    obtain ⟨c, HC, hcv⟩ := conv_some v wr
    rcases Nat.eq_zero_or_pos v with hv | hv
    · subst hv
      by_cases ht : t.data.toList = []
      · obtain rfl : t = ⟨#[]⟩ := by apply ByteArray.ext; exact Array.toList_inj.1 ht
        have hcv' : Sem.run Tryd.prog (convert 48 9 (Value.slice (some ⟨wr.heap.size, 0, none⟩) 1 1)) (wr.alloc (Obj.cells #[Value.int IntKind.u8 48] 5)) = .ok (.string ⟨#[c]⟩) (wr.alloc (Obj.cells #[Value.int IntKind.u8 48] 5)) := hcv
        clear hcv
        go_wp2
        go_roundg 0
        case measure => have := HG.out; simp at this; omega
        case rel => exact ⟨0, _, rfl, rfl, Lib.hid (by simp), Nat.zero_le _, Lib.hid (by have := HD.out.next (Or.inr rfl); rw [← HC.out] at this; exact this), Lib.hid (HB.out.alloc HB.out.size _)⟩
      · have ht' : t.toList.isEmpty = false := by
          rw [Lib.toList_data]
          cases h : t.data.toList with
          | nil => exact absurd h ht
          | cons _ _ => rfl
        have HT := Lib.hid ht
        clear ht hcv
        go_wp2
        go_ret
        refine ⟨?_, HB.out⟩
        rcases HD.out with ⟨h1, _⟩ | ⟨_, h2, _⟩
        · exact absurd h1 HT.out
        · rw [← h2 rfl]; rfl
    · have n1 : ¬ (9223372036854775807 < 1 + t.size) := by omega
      have hw64 : wrap64 ((v : Int) / 10) = ((v / 10 : Nat) : Int) := by have := HN.out; unfold wrap64; omega
      go_wp2
      go_roundg (v / 10)
      case measure => have := HG.out; split at this <;> omega
      case rel => exact ⟨v / 10, _, by rw [hw64], rfl, Lib.hid (by rw [dig_str]; simp), by omega, Lib.hid (by rw [dig_str, HC.out]; exact HD.out.next (Or.inl hv)), Lib.hid (HB.out.alloc HB.out.size _)⟩

set_option maxHeartbeats 1000000 in
theorem rtext_any (a b : Int) (h : TM.right a b = true) (w : World) :
    Calls Tryd.prog 11 #[.agg #[.int .i64 a, .int .i64 b]] w fun e w' => e = .returned (.string ⟨(TM.text a b).toArray⟩) ∧ Below w.heap.size w w' := by
  obtain ⟨g0, g1, g2, g3⟩ := TM.right_iff.1 h
  have k1 : ∀ w, Calls Tryd.prog 19 #[.int .i64 a] w fun e w' => e = .returned (.string ⟨(Lib.itoa a).toArray⟩) ∧ Below w.heap.size w w' := fun w => by
    have := digits_any a.toNat (by omega) w
    rw [TM.itoa_nat a g0]
    rwa [show ((a.toNat : Nat) : Int) = a by omega] at this
  have k2 : ∀ w, Calls Tryd.prog 19 #[.int .i64 b] w fun e w' => e = .returned (.string ⟨(Lib.itoa b).toArray⟩) ∧ Below w.heap.size w w' := fun w => by
    have := digits_any b.toNat (by omega) w
    rw [TM.itoa_nat b (by omega)]
    rwa [show ((b.toNat : Nat) : Int) = b by omega] at this
  have hl := TM.text_len h
  have hs : (35 :: (Lib.itoa a ++ 46 :: Lib.itoa b)).length = (⟨(Lib.itoa a).toArray⟩ : ByteArray).size + (⟨(Lib.itoa b).toArray⟩ : ByteArray).size + 2 := by
    simp [ByteArray.size]
    omega
  have HE : Hid ((⟨#[35]⟩ : ByteArray) ++ ⟨(Lib.itoa a).toArray⟩ ++ ⟨#[46]⟩ ++ ⟨(Lib.itoa b).toArray⟩ = ⟨(TM.text a b).toArray⟩) := by
    have e : ∀ x y : List UInt8, (⟨x.toArray⟩ : ByteArray) ++ ⟨y.toArray⟩ = ⟨(x ++ y).toArray⟩ := str_add
    show (⟨[35].toArray⟩ : ByteArray) ++ ⟨(Lib.itoa a).toArray⟩ ++ ⟨[46].toArray⟩ ++ ⟨(Lib.itoa b).toArray⟩ = _
    rw [e, e, e]
    simp [TM.text]
  unfold TM.text at hl
  rw [hs] at hl
  generalize (⟨(TM.text a b).toArray⟩ : ByteArray) = T at HE ⊢
  generalize (⟨(Lib.itoa a).toArray⟩ : ByteArray) = sA at k1 hl HE
  generalize (⟨(Lib.itoa b).toArray⟩ : ByteArray) = sB at k2 hl HE
  have n1 : ¬ (9223372036854775807 < 1 + sA.size) := by omega
  have n2 : ¬ (9223372036854775807 < 1 + sA.size + 1) := by omega
  have n3 : ¬ (9223372036854775807 < 1 + sA.size + 1 + sB.size) := by omega
  clear h g0 g1 g2 g3 hl hs
  go_enter Tryd.func11, Tryd.ntmps11
  go_wp2_with fail
  obtain ⟨w1, hw1⟩ : ∃ w1, w1 = w.alloc (.cells #[.int .i64 a, .int .i64 b] 23) := ⟨_, rfl⟩
  have c0 : w1.cell? ⟨w.heap.size, 0, none⟩ = some (.int .i64 a) := by rw [hw1]; simp [go_sem]
  have c1 : w1.cell? ⟨w.heap.size, 1, none⟩ = some (.int .i64 b) := by rw [hw1]; simp [go_sem]
  have HB : Hid (Below w.heap.size w w1) := by rw [hw1]; exact Lib.hid ((Below.refl _ _).alloc (Nat.le_refl _) _)
  rw [← hw1]
  clear hw1
  have q0 : ∀ d os, (grow (redrawn w1 d) os).cell? ⟨w.heap.size, 0, none⟩ = some (.int .i64 a) := fun d os => cell_regrown c0 d os
  have q1 : ∀ d os, (grow (redrawn w1 d) os).cell? ⟨w.heap.size, 1, none⟩ = some (.int .i64 b) := fun d os => cell_regrown c1 d os
  clear c0 c1
  refine wp_region_quiet_below mixedO (by kernel_rfl) ?_
  repeat (quiet_step (first
    | (go_at_call 19; (with_reducible refine Calls.regrown_of (k1 _)))
    | (go_at_call 19; (with_reducible refine Calls.regrown_of (k2 _)))))
  refine wpQuiet_nil ?_
  intro _ hw'
  obtain ⟨⟨nq, osq⟩, hw''⟩ := hw'
  subst hw''
  have HB2 := Lib.hid (HB.out.trans ((below_regrown w1 nq osq).mono HB.out.size))
  go_wp2
  go_ret
  exact ⟨by rw [← HE.out]; rfl, HB2.out⟩
end Go.Proofs.YtlmiiapmanklpaaDoor
