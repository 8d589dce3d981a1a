/- Contracts of a space's functions that only read: from, mayDealWith, Chunks. -/
import Derived.Test.YteencfldehcbbaaDoorBpLeaf
import Derived.LaidEqlPtr
import Derived.Lib.Builder
namespace Go.Proofs.YteencfldehcbbaaDoor
open Go.RowKit Go.Sort BP
set_option linter.unusedVariables false

theorem from_hit {first : Int} : ∀ {P : List (Nat × Nat)} {j : Nat} {x : Nat × Nat}, P[j]? = some x → (∀ (i : Nat) (y : Nat × Nat), i < j → P[i]? = some y → (y.1 : Int) ≠ first) → (x.1 : Int) = first → fromP P first = x
  | [], j, x, h, _, _ => by simp at h
  | y :: P, 0, x, h, _, hx => by
    simp at h
    subst h
    unfold fromP
    simp [hx]
  | y :: P, j + 1, x, h, hp, hx => by
    have h0 := hp 0 y (by omega) rfl
    have ih := from_hit (first := first) (P := P) (j := j) (x := x) (by simpa using h) (fun i z hi hz => hp (i + 1) z (by omega) (by simpa using hz)) hx
    unfold fromP at ih ⊢
    rw [List.find?_cons_of_neg (by simpa using h0)]
    exact ih
theorem from_miss {first : Int} {P : List (Nat × Nat)} (h : ∀ (i : Nat) (y : Nat × Nat), P[i]? = some y → (y.1 : Int) ≠ first) : fromP P first = (0, 0) := by
  unfold fromP
  rw [List.find?_eq_none.2 fun x hx => by
    obtain ⟨i, hi⟩ := List.mem_iff_getElem?.1 hx
    simpa using h i x hi]
  rfl
/-- As the walk reads it. -/
theorem PR.rd {w : World} {base : Nat} {v : Value} {l : List (Nat × Nat)} (h : PR w base v l) : ∃ A c, v = .slice A l.length c ∧ l.length ≤ c ∧ ∀ k x, l[k]? = some x → ∃ g, A = some ⟨g, 0, none⟩ ∧ base ≤ g ∧ g < w.heap.size ∧ w.cell? ⟨g, k * 2, none⟩ = some (.int .i64 (x.1 : Nat)) ∧ w.cell? ⟨g, k * 2 + 1, none⟩ = some (.int .i64 (x.2 : Nat)) := by
  rcases h.form with ⟨rfl, rfl⟩ | ⟨g, cap, rfl, hc, h1, h2, h3⟩
  · exact ⟨none, 0, rfl, by simp, fun k x hx => by simp at hx⟩
  · exact ⟨_, cap, rfl, hc, fun k x hx => ⟨g, rfl, h1, h2, (h3 k x hx).1, (h3 k x hx).2.1⟩⟩

theorem vals_app (xs ys : List Nat) : vals (xs ++ ys) = vals xs ++ vals ys := by simp [vals]
theorem vals_one (xs : List Nat) : ∀ u ∈ vals xs, u.oneCell' = true := by
  intro u hu
  obtain ⟨x, _, rfl⟩ := List.mem_map.1 hu
  rfl
theorem addr_add (g j : Nat) : (⟨g, 0, none⟩ : Addr).add j = ⟨g, j, none⟩ := by
  unfold Addr.add
  by_cases h0 : j = 0
  · subst h0; simp
  · simp [h0]
/-- A row of chunks, as an append reads it. -/
theorem row_news {w : World} {g a b : Nat} (h : Row .i64 w g b (fun i => a + i)) : ∀ (j : Nat) (u : Value), (vals (cs (a, b)))[j]? = some u → w.cell? ((⟨g, 0, none⟩ : Addr).add j) = some u := by
  intro j u hu
  rw [addr_add]
  have hj : j < b := by
    have := (List.getElem?_eq_some_iff.1 hu).1
    rwa [vals_len, cs_len] at this
  rw [h.cell j hj, ← hu]
  unfold vals
  rw [List.getElem?_map, cs_get _ _ hj]
  rfl

section
variable {w w' : World} {base p o s : Nat} {v : Value} {S : Sp}
set_option maxHeartbeats 2000000 in
theorem from_any (h : SpAt w base p v s o S) (hlen : S.parts.length ≤ 5000) (first : Int) : Calls Tryd.prog 53 #[.pointer (some ⟨p, 0, none⟩), .int .i64 first] w fun e w' => e = .returned (.agg #[.int .i64 ((fromP S.parts first).1 : Nat), .int .i64 ((fromP S.parts first).2 : Nat)]) ∧ Below w.heap.size w w' := by
  obtain ⟨A, c, rfl, hc, hrd⟩ := h.row.rd
  have hb := (Below.refl w.heap.size w).alloc (Nat.le_refl _) (.cells #[.int .i64 0, .int .i64 0] 77)
  have c2 := bcellB hb h.c2
  have hX := Whole.fresh w 77 #[.int .i64 0, .int .i64 0]
  have HX := Lib.hid hX
  have HB := Lib.hid hb
  have HRD := Lib.hid hrd
  obtain ⟨P, pr, fl⟩ := S
  simp only at HRD c2 hc hlen ⊢
  obtain ⟨n, hn⟩ : ∃ n, n = P.length := ⟨_, rfl⟩
  rw [← hn] at hc hlen c2
  have HN := Lib.hid hn
  clear hX hb hrd h hn
  go_enter Tryd.func53, Tryd.ntmps53
  go_wp2_with fail
  go_loopw [12] (fun x wr => ∃ j : Nat, j ≤ n ∧ x = .int .i64 j ∧ Hid (Whole wr w.heap.size 77 #[.int .i64 0, .int .i64 0]) ∧ Hid (Below w.heap.size w wr) ∧ Hid (∀ i y, i < j → P[i]? = some y → (y.1 : Int) ≠ first)) (fun x _ => n - (intOf x).toNat)
  case atStart => exact ⟨0, Nat.zero_le _, rfl, HX, HB, Lib.hid (fun i _ hi => absurd hi (by omega))⟩
  case round =>
    obtain ⟨j, hj, rfl, HW, HBW, HALL⟩ := hrel
    by_cases hlt : j < n
    · obtain ⟨x, hx⟩ : ∃ x, P[j]? = some x := ⟨P[j]'(by have := HN.out; omega), by simp⟩
      obtain ⟨g, rfl, hg1, hg2, k0, k1⟩ := HRD.out j x hx
      have r0 := bcellB HBW.out k0
      have r1 := bcellB HBW.out k1
      have hsz := Lib.hid HBW.out.size
      have HXX := Lib.hid hx
      obtain ⟨a, b⟩ := x
      have HW2 := Lib.hid (HW.out.alloc (.cells #[.int .i64 a, .int .i64 b] 77))
      have HB2 := Lib.hid (HBW.out.alloc HBW.out.size (.cells #[.int .i64 a, .int .i64 b] 77))
      clear k0 k1 hx hg1 hg2
      by_cases he : (a : Int) = first
      · have hfr := Lib.hid (from_hit HXX.out HALL.out he)
        have d : ((a : Int) == first) = true := by simpa using he
        have u0 := HW2.out.p0
        have u1 := HW2.out.p1
        have f0 := HW2.out.free 0
        have f1 := HW2.out.free 1
        clear he
        go_wp2
        have HW3 := Lib.hid (((HW2.out.set 0 (.int .i64 a)).set 1 (.int .i64 b)))
        have z0 := HW3.out.p0
        have z1 := HW3.out.p1
        refine bodyPost_ret (v := .agg #[.int .i64 a, .int .i64 b]) (by simp [results, Tryd.results53, go_sem, z0, z1]) rfl ⟨?_, (HB2.out.setCell (Nat.le_refl _) _).setCell (Nat.le_refl _) _⟩
        rw [hfr.out]
      · have d : ((a : Int) == first) = false := by simpa using he
        have HE := Lib.hid he
        clear he
        go_wp2
        go_roundw
        case rel =>
          refine ⟨j + 1, by omega, by go_num, HW2, HB2, Lib.hid (fun i y hi hy => ?_)⟩
          by_cases e : i = j
          · subst e
            have := HXX.out
            rw [this] at hy
            injection hy with hy
            subst hy
            exact HE.out
          · exact HALL.out i y (by omega) hy
        case measure => simp [intOf]; omega
    · obtain rfl : j = n := by omega
      have hfr := Lib.hid (from_miss (first := first) (P := P) fun i y hy => HALL.out i y (by have := (List.getElem?_eq_some_iff.1 hy).1; have := HN.out; omega) hy)
      have u0 := HW.out.p0
      have u1 := HW.out.p1
      have f0 := HW.out.free 0
      have f1 := HW.out.free 1
      go_wp2
      have HW3 := Lib.hid (((HW.out.set 0 (.int .i64 0)).set 1 (.int .i64 0)))
      have z0 := HW3.out.p0
      have z1 := HW3.out.p1
      refine bodyPost_ret (v := .agg #[.int .i64 0, .int .i64 0]) (by simp [results, Tryd.results53, go_sem, z0, z1]) rfl ⟨?_, (HBW.out.setCell (Nat.le_refl _) _).setCell (Nat.le_refl _) _⟩
      rw [hfr.out]
      rfl

set_option maxHeartbeats 2000000 in
/-- Chunks tells all chunks. -/
theorem chunks_any' (h : SpAt w base p v s o S) (hall : ∀ x ∈ S.parts, x.1 ≤ 1024 ∧ x.2 ≤ 1024) (hlen : S.parts.length ≤ 5000) (hcl : (chunks S.parts).length ≤ 5000) : Calls Tryd.prog 16 #[.pointer (some ⟨p, 0, none⟩)] w (RowPost (chunks S.parts) w) := by
  obtain ⟨i0, hi, hz0, hz1, hz2⟩ := info_parts infoInt
  obtain ⟨A, c, rfl, hc, hrd⟩ := h.row.rd
  have c2 := h.c2
  have HRD := Lib.hid hrd
  obtain ⟨P, pr, fl⟩ := S
  simp only at HRD c2 hc hlen hcl hall ⊢
  obtain ⟨n, hn⟩ : ∃ n, n = P.length := ⟨_, rfl⟩
  rw [← hn] at hc hlen c2
  have HN := Lib.hid hn
  have HALL := Lib.hid hall
  clear hrd h hn hall
  go_enter Tryd.func16, Tryd.ntmps16
  go_wp2_with fail
  go_loopw [3, 13] (fun u x wr => ∃ j : Nat, j ≤ n ∧ x = .int .i64 j ∧ wr.ownsRow w.heap.size 3 1 u (chunks (P.take j)).length (vals (chunks (P.take j))) ∧ Below w.heap.size w wr) (fun _ x _ => n - (intOf x).toNat)
  case atStart => exact ⟨0, Nat.zero_le _, rfl, World.ownsRow_nil _ _ _ _, Below.refl _ _⟩
  case round =>
    obtain ⟨j, hj, rfl, hown, hbw⟩ := hrel
    by_cases hlt : j < n
    · obtain ⟨x, hx⟩ : ∃ x, P[j]? = some x := ⟨P[j]'(by have := HN.out; omega), by simp⟩
      obtain ⟨g, rfl, hg1, hg2, k0, k1⟩ := HRD.out j x hx
      have r0 := bcellB hbw k0
      have r1 := bcellB hbw k1
      have hsz := hbw.size
      have hxx := HALL.out x (List.mem_of_getElem? hx)
      obtain ⟨a, b⟩ := x
      have htk : chunks (P.take (j + 1)) = chunks (P.take j) ++ cs (a, b) := by rw [List.take_add_one, hx, chunks_app]; simp [chunks_one]
      have hle : (chunks (P.take (j + 1))).length ≤ (chunks P).length := by
        conv => rhs; rw [← List.take_append_drop (j + 1) P, chunks_app, List.length_append]
        omega
      rw [htk, List.length_append, cs_len] at hle
      have HTK := Lib.hid htk
      have hsum : (chunks (P.take j)).length + b ≤ 5000 := by simp at hle; omega
      have HAL := Lib.hid (fun W => pall_any a b W hxx.1 hxx.2)
      have HO := Lib.hid hown
      have HBW := Lib.hid hbw
      have hub := Lib.hid hown.lt
      generalize hnn : (chunks (P.take j)).length = m at *
      have HNN := Lib.hid hnn
      clear k0 k1 hx hg1 hg2 htk hle hown hbw hxx hnn
      go_wp2_with (first
        | (go_at_call 39; refine (HAL.out _).mono ?_; rintro e w2 ⟨g2, rfl, hg3, hg4, hrow, hb2⟩; obtain ⟨w1, hw1⟩ : ∃ w1, w1 = wr.alloc (.cells #[.int .i64 a, .int .i64 b] 77) := ⟨_, rfl⟩; rw [← hw1] at hg3 hb2; have HBB := Lib.hid ((show Below wr.heap.size wr w1 by rw [hw1]; exact (Below.refl _ _).alloc (Nat.le_refl _) _).trans (hb2.mono (by rw [hw1]; simp))); have HG3 := Lib.hid hg3; have HG4 := Lib.hid hg4; have HROW := Lib.hid hrow; clear hg3 hg4 hrow hb2 hw1)
        | (at_builtin; refine wpList_append_own_at _ rfl _ _ 39 rfl w.heap.size 3 i0 _ 1 8 Tryd.underlying39 hi hz0 hz1 hz2 rfl (by decide) _ _ _ rfl (own_keep HO.out fun g hg => HBB.out.block g (hub.out g hg).2) ⟨g2, 0, none⟩ b b (vals (cs (a, b))) rfl (by rw [vals_len, cs_len]; simp) (row_news HROW.out) (vals_one _) (by unfold maxLen; omega) (by omega) (by have := HBB.out.size; omega) ?_; intro v' w3 hown' hgrow _ _; have HO2 := Lib.hid hown'; have HG := Lib.hid hgrow; clear hown' hgrow))
      go_roundw
      case rel =>
        refine ⟨j + 1, by omega, by go_num, ?_, ?_⟩
        · rw [HTK.out, vals_app, List.length_append, cs_len]
          rw [HNN.out]
          exact HO2.out
        · exact (HBW.out.trans (HBB.out.mono hsz)).grown HG.out (by have := HBB.out.size; omega) (fun g hg => (hub.out g hg).1)
      case measure => simp [intOf]; omega
    · obtain rfl : j = n := by omega
      go_wp2
      go_ret
      refine ⟨_, rfl, ?_, hbw⟩
      rw [HN.out, List.take_length] at hown
      exact hown
theorem chunks_nil' (w : World) : Calls Tryd.prog 16 #[.pointer none] w fun e w' => e = .returned (.slice none 0 0) ∧ w = w' := by
  go_enter Tryd.func16, Tryd.ntmps16
  go_wp2
  go_ret
  exact ⟨rfl, rfl⟩
end
theorem infoSpace : ∃ j, Tryd.prog.info? 79 = some j ∧ j.size ≠ 0 := by
  have h : (Tryd.prog.info? 79).map (fun i => i.size) = some 6 := by kernel_rfl
  obtain ⟨j, hj, hs⟩ := Option.map_eq_some_iff.1 h
  exact ⟨j, hj, by rw [hs]; decide⟩
theorem infoStore : ∃ j, Tryd.prog.info? 84 = some j ∧ j.size ≠ 0 := by
  have h : (Tryd.prog.info? 84).map (fun i => i.size) = some 4 := by kernel_rfl
  obtain ⟨j, hj, hs⟩ := Option.map_eq_some_iff.1 h
  exact ⟨j, hj, by rw [hs]; decide⟩
theorem run_neq_ptr_other {P : Program} (w : World) {tp te : TypeId} {j : TypeInfo} {a b : Addr} {ca cb : Array Value} {ta tb : TypeId} (hp : P.underlying tp = some (.pointer te)) (hte : P.info? te = some j) (hsz : j.size ≠ 0)
    (hne : a ≠ b) (ha : w.heap[a.block]? = some (.cells ca ta (0, 0))) (hb : w.heap[b.block]? = some (.cells cb tb (0, 0))) :
    (binOp .neq tp (.pointer (some a)) (.pointer (some b))).run P w = .ok (.bool true) w := by
  have h : ∀ d : Nat, (Op.equalIn (d + 1) tp (.pointer (some a)) (.pointer (some b))).run P w = .ok false w := fun d => by
    simp [Op.equalIn, run_underlying hp, sizeOf, typeInfo, hte, hsz, run_sameAddr_other w hne ha hb]
  simp only [binOp]
  simp [Op.equal, Op.maxDepth, h 9999]
section
variable {w : World} {p q s t : Nat} {cp cq : Array Value}
theorem eql_space (hp : Whole w p 79 cp) (hq : Whole w q 79 cq) (hne : q ≠ p) : ∀ n, (binOp .eql 26 (.pointer (some ⟨q, 0, none⟩)) (.pointer (some ⟨p, 0, none⟩))).run Tryd.prog (w.drewN n) = .ok (.bool false) (w.drewN n) := fun n => by
  obtain ⟨j, hj, hs⟩ := infoSpace
  exact run_eql_ptr_other (w.drewN n) Tryd.underlying26 hj hs (fun e => hne (by injection e)) hq hp
set_option maxHeartbeats 1000000 in
theorem may_ok (h1 : w.cell? ⟨p, 0, none⟩ = some (.pointer (some ⟨s, 0, none⟩))) (h2 : w.cell? ⟨q, 0, none⟩ = some (.pointer (some ⟨s, 0, none⟩))) (hne : q ≠ p) (hp : Whole w p 79 cp) (hq : Whole w q 79 cq) :
    Calls Tryd.prog 51 #[.pointer (some ⟨p, 0, none⟩), .pointer (some ⟨q, 0, none⟩)] w fun e w' => e = .returned (.int .i64 0) ∧ Below w.heap.size w w' := by
  have e1 := eql_space hp hq hne
  have e2 : ∀ n, (binOp .neq 25 (.pointer (some ⟨s, 0, none⟩)) (.pointer (some ⟨s, 0, none⟩))).run Tryd.prog (w.drewN n) = .ok (.bool false) (w.drewN n) := fun n => by
    obtain ⟨j, hj, _⟩ := infoStore
    exact Lib.run_neq_ptr_same (w.drewN n) _ Tryd.underlying25 hj
  have HB := Lib.hid (Below.refl w.heap.size w)
  clear hp hq hne
  go_enter Tryd.func51, Tryd.ntmps51
  go_wp2
  go_quiet (fail)
  go_wp2
  go_ret
  exact ⟨rfl, below_drewN HB.out _⟩
set_option maxHeartbeats 1000000 in
/-- On another store. -/
theorem may_far (h1 : w.cell? ⟨p, 0, none⟩ = some (.pointer (some ⟨s, 0, none⟩))) (h2 : w.cell? ⟨q, 0, none⟩ = some (.pointer (some ⟨t, 0, none⟩))) (hne : q ≠ p) (hp : Whole w p 79 cp) (hq : Whole w q 79 cq)
    {cs ct : Array Value} {ts tt : TypeId} (hs : Whole w s ts cs) (ht : Whole w t tt ct) (hst : t ≠ s) :
    Calls Tryd.prog 51 #[.pointer (some ⟨p, 0, none⟩), .pointer (some ⟨q, 0, none⟩)] w fun e w' => e = .returned (.int .i64 2) ∧ Below w.heap.size w w' := by
  have e1 := eql_space hp hq hne
  have e2 : ∀ n, (binOp .neq 25 (.pointer (some ⟨t, 0, none⟩)) (.pointer (some ⟨s, 0, none⟩))).run Tryd.prog (w.drewN n) = .ok (.bool true) (w.drewN n) := fun n => by
    obtain ⟨j, hj, hz⟩ := infoStore
    exact run_neq_ptr_other (w.drewN n) Tryd.underlying25 hj hz (fun e => hst (by injection e)) ht hs
  have HB := Lib.hid (Below.refl w.heap.size w)
  clear hp hq hne hs ht hst
  go_enter Tryd.func51, Tryd.ntmps51
  go_wp2
  go_quiet (fail)
  go_wp2
  go_ret
  exact ⟨rfl, below_drewN HB.out _⟩
set_option maxHeartbeats 1000000 in
theorem may_none (w : World) (p : Nat) :
    Calls Tryd.prog 51 #[.pointer (some ⟨p, 0, none⟩), .pointer none] w fun e w' => e = .returned (.int .i64 2) ∧ Below w.heap.size w w' := by
  have HB := Lib.hid (Below.refl w.heap.size w)
  go_enter Tryd.func51, Tryd.ntmps51
  go_wp2
  go_quiet (fail)
  go_wp2
  go_ret
  exact ⟨rfl, below_drewN HB.out _⟩
set_option maxHeartbeats 1000000 in
theorem may_same (w : World) (p : Nat) :
    Calls Tryd.prog 51 #[.pointer (some ⟨p, 0, none⟩), .pointer (some ⟨p, 0, none⟩)] w fun e w' => e = .returned (.int .i64 2) ∧ Below w.heap.size w w' := by
  have e1 : ∀ n, (binOp .eql 26 (.pointer (some ⟨p, 0, none⟩)) (.pointer (some ⟨p, 0, none⟩))).run Tryd.prog (w.drewN n) = .ok (.bool true) (w.drewN n) := fun n => by
    obtain ⟨j, hj, _⟩ := infoSpace
    exact run_eql_ptr_same (w.drewN n) _ Tryd.underlying26 hj
  have HB := Lib.hid (Below.refl w.heap.size w)
  go_enter Tryd.func51, Tryd.ntmps51
  go_wp2
  go_quiet (fail)
  go_wp2
  go_ret
  exact ⟨rfl, below_drewN HB.out _⟩
set_option maxHeartbeats 1000000 in
theorem may_nil (w : World) (q : Option Addr) :
    Calls Tryd.prog 51 #[.pointer none, .pointer q] w fun e w' => e = .returned (.int .i64 1) ∧ Below w.heap.size w w' := by
  have HB := Lib.hid (Below.refl w.heap.size w)
  go_enter Tryd.func51, Tryd.ntmps51
  go_wp2
  go_ret
  exact ⟨rfl, HB.out⟩
end
end Go.Proofs.YteencfldehcbbaaDoor
