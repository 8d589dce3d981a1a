/- The document's Chunks. -/
import Derived.Test.YteencfldehcbbaaDoorBpRef
import Derived.Test.YteencfldehcbbaaDoorBpClear
namespace Go.Proofs.YteencfldehcbbaaDoor
open Go.RowKit Go.Sort BP
set_option linter.unusedVariables false

theorem cs_next {a b k : Nat} (h : k < b) : (cs (a, b)).take (k + 1) = (cs (a, b)).take k ++ [a + k] := by
  rw [List.take_add_one, cs_get _ _ h]; rfl
section
variable {w w' : World} {base p m o K : Nat} {v : Value} {S : Sp}
set_option maxHeartbeats 4000000 in
set_option maxRecDepth 100000 in
theorem rchunks_any (h : RSp w base p v m o S) (hall : ∀ x ∈ S.parts, x.1 ≤ 1024 ∧ x.2 ≤ 1024) (hlen : S.parts.length ≤ 5000) (hcl : (chunks S.parts).length ≤ 5000) : Calls Tryd.prog 17 #[.pointer (some ⟨p, 0, none⟩)] w (RowPost (chunks S.parts) w) := by
  obtain ⟨i0, hi, hz0, hz1, hz2⟩ := info_parts infoInt
  obtain ⟨A, c, rfl, hc, hrd⟩ := h.row.rd
  have c2 := h.c2
  have hpl := h.lt
  have HRD := Lib.hid hrd
  obtain ⟨P, pr, fl⟩ := S
  simp only at HRD c2 hc hlen hcl hall ⊢
  obtain ⟨n, hn⟩ : ∃ n, n = P.length := ⟨_, rfl⟩
  rw [← hn] at hc hlen c2
  have HN := Lib.hid hn
  have HALL := Lib.hid hall
  clear hrd h hn hall
  go_enter Tryd.func17, Tryd.ntmps17
  go_wp2_with fail
  go_loopw [3, 4] (fun u x wr => ∃ j : Nat, j ≤ n ∧ x = .int .i64 j ∧ wr.ownsRow w.heap.size 3 1 u (chunks (P.take j)).length (vals (chunks (P.take j))) ∧ Below w.heap.size w wr) (fun _ x _ => n - (intOf x).toNat)
  case atStart => exact ⟨0, Nat.zero_le _, rfl, World.ownsRow_nil _ _ _ _, Below.refl _ _⟩
  case round =>
    obtain ⟨j, hj, rfl, hown, hbw⟩ := hrel
    have d2 := (hbw.cell (p := ⟨p, 2, none⟩) hpl).trans c2
    by_cases hlt : j < n
    · obtain ⟨x, hx⟩ : ∃ x, P[j]? = some x := ⟨P[j]'(by have := HN.out; omega), by simp⟩
      obtain ⟨g, rfl, hg1, hg2, k0, k1, _⟩ := HRD.out j x hx
      have hxx := HALL.out x (List.mem_of_getElem? hx)
      obtain ⟨a, b⟩ := x
      have htk := chunks_take hx
      have hle : (chunks (P.take (j + 1))).length ≤ (chunks P).length := by
        conv => rhs; rw [← List.take_append_drop (j + 1) P, chunks_app, List.length_append]
        omega
      rw [htk, List.length_append, cs_len] at hle
      have HTK := Lib.hid htk
      have HO := Lib.hid hown
      have HBW := Lib.hid hbw
      have hle2 : (chunks (P.take j)).length + b ≤ 5000 := by simp at hle; omega
      simp only at hxx
      clear hx hle hown htk
      go_wp2_with fail
      go_loopw [3, 5] (fun u x wk => ∃ k : Nat, k ≤ b ∧ x = .int .i64 k ∧ wk.ownsRow w.heap.size 3 1 u (chunks (P.take j) ++ (cs (a, b)).take k).length (vals (chunks (P.take j) ++ (cs (a, b)).take k)) ∧ Below w.heap.size w wk) (fun _ x _ => b - (intOf x).toNat)
      case atStart => exact ⟨0, Nat.zero_le _, rfl, by rw [List.take_zero, List.append_nil]; exact HO.out, HBW.out⟩
      case round =>
        obtain ⟨k, hk, rfl, hown, hbk⟩ := hrel
        have d2 := (hbk.cell (p := ⟨p, 2, none⟩) hpl).trans c2
        have r0 := bcellB hbk k0
        have r1 := bcellB hbk k1
        by_cases hlk : k < b
        · have hsz := hbk.size
          have HO2 := Lib.hid hown
          have HBK := Lib.hid hbk
          have hub := Lib.hid hown.lt
          have HNX := Lib.hid (show chunks (P.take j) ++ (cs (a, b)).take (k + 1) = (chunks (P.take j) ++ (cs (a, b)).take k) ++ [a + k] by rw [cs_next hlk, List.append_assoc])
          have hll : (chunks (P.take j) ++ (cs (a, b)).take k).length ≤ 5000 := by rw [List.length_append, List.length_take, cs_len]; simp; omega
          generalize chunks (P.take j) ++ (cs (a, b)).take k = L at *
          clear hown hbk
          go_wp2_with (first
            | (at_builtin; refine wpList_append_own _ rfl _ _ 39 rfl w.heap.size 3 i0 _ 1 8 Tryd.underlying39 hi hz0 hz1 hz2 rfl (by decide) _ _ _ rfl (HO2.out.alloc _) ⟨wr.heap.size, 0, none⟩ 1 1 [.int .i64 ((a : Int) + (k : Int))] rfl rfl (cell_one_new _ _ _) (by simp [Value.oneCell']) (by unfold maxLen; omega) (by omega) (by simp; omega) ?_; intro v' w1 hown' hgrow _; have HO3 := Lib.hid hown'; have HG := Lib.hid hgrow; clear hown' hgrow))
          go_roundw
          case rel =>
            refine ⟨k + 1, by omega, by go_num, ?_, (HBK.out.alloc hsz _).grown HG.out (by simp; omega) (fun g hg => (hub.out g hg).1)⟩
            rw [HNX.out, vals_snoc, List.length_append]
            exact HO3.out
          case measure => simp [intOf]; omega
        · obtain rfl : k = b := by omega
          have hfin := hown
          rw [show (cs (a, k)).take k = cs (a, k) from List.take_of_length_le (by rw [cs_len]; exact Nat.le_refl _), ← HTK.out] at hfin
          have HF := Lib.hid hfin
          clear hfin hown
          go_wp2
          go_roundw
          case rel => exact ⟨j + 1, by omega, by go_num, HF.out, hbk⟩
          case measure => simp [intOf]; omega
    · obtain rfl : j = n := by omega
      go_wp2
      go_ret
      refine ⟨_, rfl, ?_, hbw⟩
      rw [HN.out, List.take_length] at hown
      exact hown
end
end Go.Proofs.YteencfldehcbbaaDoor
