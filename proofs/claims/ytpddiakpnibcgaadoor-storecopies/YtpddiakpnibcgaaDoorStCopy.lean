/- Contract of Copy of package store. -/
import Derived.Test.YtpddiakpnibcgaaDoorStTake
import Derived.Laws.IdiomCopy
namespace Go.Proofs.YtpddiakpnibcgaaDoor
open Go.RowKit

/-- copy between slices of one array, as one step of a region that draws. -/
theorem step_copy {P : Program} {ops : Array Oper} {o : Oper} {a : Act} {w : World} {K : Act → World → Prop} {Q : Exit → Act → World → Prop} {E : Prop} (hgd : o.guard = none) (d s : Operand) (dT sT : TypeId)
    (ho : o.op = .call { callee := .builtin .copy, args := #[d, s], argTypes := #[dT, sT] }) (elem : TypeId) (hu : P.underlying dT = some (.slice elem)) (hsz : (P.info? elem).map (·.size) = some 1)
    (b off dLen dCap : Nat) (ad : Addr) (sLen sCap : Nat) (hd : a.eval d = .slice (some ⟨b, off, none⟩) dLen dCap) (hs : a.eval s = .slice (some ad) sLen sCap) (cs : List Value) (hn : cs.length = Nat.min sLen dLen)
    (hsrc : ∀ j v, cs[j]? = some v → w.cell? (ad.add j) = some v) (hc : ∀ j, j < cs.length → (w.cell? ⟨b, off + j, none⟩).isSome = true) (hf : ∀ j, j < cs.length → w.frozen? ⟨b, off + j, none⟩ = false) (h1 : ∀ v ∈ cs, v.oneCell' = true)
    (h : K (a.put o.dst (goInt cs.length)) (w.setCells b off cs)) :
    if Region.wanted o (yielded ops a.tmps) = true then Oper.wp P o a w K Q else E := by
  have hw : Region.wanted o (yielded ops a.tmps) = true := by simp [Region.wanted, hgd]
  rw [if_pos hw]
  have hrun := run_copy_cells (P := P) w dT sT o.type elem b off dLen dCap ad sLen sCap cs hu hsz hn hsrc hc hf h1
  unfold Oper.wp
  simp [execOp, ho, resolve, invoke, builtin, hd, hs, hrun, Result.andThen]
  exact h
theorem step_copy0 {P : Program} {ops : Array Oper} {o : Oper} {a : Act} {w : World} {K : Act → World → Prop} {Q : Exit → Act → World → Prop} {E : Prop} (hgd : o.guard = none) (d s : Operand) (dT sT : TypeId)
    (ho : o.op = .call { callee := .builtin .copy, args := #[d, s], argTypes := #[dT, sT] }) (elem : TypeId) (hu : P.underlying dT = some (.slice elem)) (hsz : (P.info? elem).map (·.size) = some 1)
    (dp sp : Option Addr) (dCap sCap : Nat) (hd : a.eval d = .slice dp 0 dCap) (hs : a.eval s = .slice sp 0 sCap)
    (h : K (a.put o.dst (goInt 0)) w) :
    if Region.wanted o (yielded ops a.tmps) = true then Oper.wp P o a w K Q else E := by
  have hw : Region.wanted o (yielded ops a.tmps) = true := by simp [Region.wanted, hgd]
  rw [if_pos hw]
  have hrun := run_copy_none (P := P) w dT sT o.type elem dp sp 0 dCap 0 sCap hu hsz rfl
  unfold Oper.wp
  simp [execOp, ho, resolve, invoke, builtin, hd, hs, hrun, Result.andThen]
  exact h

/-- What Copy says. -/
def copyE (own : Nat → Nat) (C K : Nat) (to fr n : Int) : Int :=
  if inB (C * K) to n = true ∧ inB (C * K) fr n = true then (if anyFree own K to.toNat n.toNat = true ∨ anyFree own K fr.toNat n.toNat = true then 17 else 0) else 3
/-- The words behind it. -/
def cpWd (wd : Nat → Nat) (to fr n q : Nat) : Nat := if to ≤ q ∧ q < to + n then wd (fr + (q - to)) else wd q

section
variable {w w' : World} {B : SB} {C K : Nat} {own wd : Nat → Nat}
set_option maxHeartbeats 1000000 in
theorem copy_no (h : StAt w B C K own wd) (to fr n : Int) (hz : copyE own C K to fr n ≠ 0) :
    Calls Tryd.prog 22 #[.pointer (some ⟨B.s, 0, none⟩), .int .i64 to, .int .i64 fr, .int .i64 n] w fun e w' => e = .returned (.int .i64 (copyE own C K to fr n)) ∧ w = w' := by
  have h1 := Lib.hid (within_any h to n)
  have h2 := Lib.hid (within_any h fr n)
  unfold copyE at *
  by_cases hi : inB (C * K) to n = true ∧ inB (C * K) fr n = true
  · rw [if_pos hi] at hz ⊢
    obtain ⟨i1, i2⟩ := hi
    have j1 := (inB_iff _ _ _).1 i1
    have j2 := (inB_iff _ _ _).1 i2
    obtain ⟨t, rfl⟩ := Int.eq_ofNat_of_zero_le j1.2.1
    obtain ⟨f, rfl⟩ := Int.eq_ofNat_of_zero_le j2.2.1
    obtain ⟨m, rfl⟩ := Int.eq_ofNat_of_zero_le j1.1
    simp only [Int.toNat_natCast] at hz ⊢
    have t1 := Lib.hid (touches_any h t m (by omega))
    have t2 := Lib.hid (touches_any h f m (by omega))
    rw [i1] at h1
    rw [i2] at h2
    clear j1 j2 i1 i2
    have hor : anyFree own K t m = true ∨ anyFree own K t m = false ∧ anyFree own K f m = true := by
      cases e1 : anyFree own K t m
      · cases e2 : anyFree own K f m
        · simp [e1, e2] at hz
        · exact .inr ⟨rfl, rfl⟩
      · exact .inl rfl
    rcases hor with e1 | ⟨e1, e2⟩
    · rw [if_pos (.inl e1)]
      rw [e1] at t1
      clear e1 hz t2
      go_enter Tryd.func22, Tryd.ntmps22
      go_wp2_with (first
        | (go_at_call 42; with_reducible refine h1.out.mono ?_; clear h1; rintro e w' ⟨rfl, rfl⟩)
        | (go_at_call 42; with_reducible refine h2.out.mono ?_; clear h2; rintro e w' ⟨rfl, rfl⟩)
        | (go_at_call 43; with_reducible refine t1.out.mono ?_; clear t1; rintro e w' ⟨rfl, rfl⟩))
      go_ret
      exact ⟨rfl, rfl⟩
    · rw [if_pos (.inr e2)]
      rw [e1] at t1
      rw [e2] at t2
      clear e1 e2 hz
      go_enter Tryd.func22, Tryd.ntmps22
      go_wp2_with (first
        | (go_at_call 42; with_reducible refine h1.out.mono ?_; clear h1; rintro e w' ⟨rfl, rfl⟩)
        | (go_at_call 42; with_reducible refine h2.out.mono ?_; clear h2; rintro e w' ⟨rfl, rfl⟩)
        | (go_at_call 43; with_reducible refine t1.out.mono ?_; clear t1; rintro e w' ⟨rfl, rfl⟩)
        | (go_at_call 43; with_reducible refine t2.out.mono ?_; clear t2; rintro e w' ⟨rfl, rfl⟩))
      go_ret
      exact ⟨rfl, rfl⟩
  · rw [if_neg hi]
    clear hz
    cases i1 : inB (C * K) to n
    · rw [i1] at h1
      clear i1 hi
      go_enter Tryd.func22, Tryd.ntmps22
      go_wp2_with (first
        | (go_at_call 42; with_reducible refine h1.out.mono ?_; clear h1; rintro e w' ⟨rfl, rfl⟩))
      go_ret
      exact ⟨rfl, rfl⟩
    · cases i2 : inB (C * K) fr n
      · rw [i1] at h1
        rw [i2] at h2
        clear i1 i2 hi
        go_enter Tryd.func22, Tryd.ntmps22
        go_wp2_with (first
          | (go_at_call 42; with_reducible refine h1.out.mono ?_; clear h1; rintro e w' ⟨rfl, rfl⟩)
          | (go_at_call 42; with_reducible refine h2.out.mono ?_; clear h2; rintro e w' ⟨rfl, rfl⟩))
        go_ret
        exact ⟨rfl, rfl⟩
      · exact absurd ⟨i1, i2⟩ hi
theorem scopy_nil (w : World) : Calls Tryd.prog 22 #[.pointer none, .int .i64 0, .int .i64 0, .int .i64 0] w fun e w' => e = .returned (.int .i64 1) ∧ w = w' := by
  go_enter Tryd.func22, Tryd.ntmps22
  go_wp2
  go_ret
  exact ⟨rfl, rfl⟩
theorem StAt.copied (h : StAt w B C K own wd) (t f m : Nat) (ht : t + m ≤ C * K) :
    OnlyIn [B.o, B.c, B.v] w (w.setCells B.v t ((List.range m).map fun i => .int .u64 (wd (f + i) : Nat))) ∧ StAt (w.setCells B.v t ((List.range m).map fun i => .int .u64 (wd (f + i) : Nat))) B C K own (cpWd wd t f m) := by
  obtain ⟨⟨n1, n2, n3, n4⟩, ⟨n5, n6, n7⟩, n8, n9⟩ := h.ne
  have ha := OnlyAt.setCells B.v ((List.range m).map fun i => .int .u64 (wd (f + i) : Nat)) t w
  have hO : OnlyIn [B.o, B.c, B.v] w (w.setCells B.v t ((List.range m).map fun i => .int .u64 (wd (f + i) : Nat))) := OnlyIn.of_at ha (by simp)
  obtain ⟨ws, hm, hq⟩ := h.map
  refine ⟨hO, h.turn hO ?_ (h.orow.block (ha.block _ (Ne.symm n5))) ⟨ws, hm.blocks (ha.block _ (Ne.symm n6)) (ha.block _ (Ne.symm n7)), hq⟩ (fun q => ?_) h.olt h.opast⟩
  · have := h.wrow.storedMany (g := fun q => wd (f + (q - t))) t ((List.range m).map fun i => .int .u64 (wd (f + i) : Nat)) (by simpa using ht) (fun j v hv => by
      simp only [List.getElem?_map, Option.map_eq_some_iff] at hv
      obtain ⟨i, hi, rfl⟩ := hv
      have hlt : j < m := by
        rcases Nat.lt_or_ge j m with h | h
        · exact h
        · rw [List.getElem?_eq_none (by simpa using h)] at hi; cases hi
      rw [List.getElem?_range hlt] at hi
      injection hi with hi
      subst hi
      rw [show t + j - t = j by omega])
    refine this.congr fun q hq => ?_
    simp only [List.length_map, List.length_range]
    rfl
  · unfold cpWd
    split
    · exact h.wlt _
    · exact h.wlt _
set_option maxHeartbeats 2000000 in
theorem copy_ok (h : StAt w B C K own wd) (t f m : Nat) (hm0 : 1 ≤ m) (ht : t + m ≤ C * K) (hf : f + m ≤ C * K) (e1 : anyFree own K t m = false) (e2 : anyFree own K f m = false) :
    Calls Tryd.prog 22 #[.pointer (some ⟨B.s, 0, none⟩), .int .i64 t, .int .i64 f, .int .i64 m] w (WrotePost w B C K own (cpWd wd t f m)) := by
  have h1 := within_any h (t : Int) (m : Int)
  have h2 := within_any h (f : Int) (m : Int)
  rw [(inB_iff (C * K) (t : Int) (m : Int)).2 (by omega)] at h1
  rw [(inB_iff (C * K) (f : Int) (m : Int)).2 (by omega)] at h2
  have t1 := touches_any h t m ht
  have t2 := touches_any h f m hf
  rw [e1] at t1
  rw [e2] at t2
  have H1 := Lib.hid h1
  have H2 := Lib.hid h2
  have T1 := Lib.hid t1
  have T2 := Lib.hid t2
  have c1 := h.words
  have hM := h.all
  have hd := (show StAt w.drew B C K own wd from h.heap rfl)
  have HF := Lib.hid (hd.copied t f m ht)
  have hrow := hd.wrow
  obtain ⟨cs, hcs⟩ : ∃ cs : List Value, cs = (List.range m).map fun i => .int .u64 (wd (f + i) : Nat) := ⟨_, rfl⟩
  have hl : cs.length = m := by rw [hcs]; simp
  have HS := Lib.hid (show ∀ (j : Nat) (v : Value), cs[j]? = some v → w.drew.cell? ((⟨B.v, f, none⟩ : Addr).add j) = some v from fun j v hv => by
    rw [hcs, List.getElem?_map, Option.map_eq_some_iff] at hv
    obtain ⟨i, hi, rfl⟩ := hv
    have hlt : j < m := by
      rcases Nat.lt_or_ge j m with h | h
      · exact h
      · rw [List.getElem?_eq_none (by simpa using h)] at hi; cases hi
    rw [List.getElem?_range hlt] at hi
    injection hi with hi
    subst hi
    have := hrow.cell (f + j) (by omega)
    unfold Addr.add
    by_cases e : j = 0
    · subst e; simpa using this
    · simpa [e] using this)
  have HC := Lib.hid (show ∀ j, j < cs.length → (w.drew.cell? ⟨B.v, t + j, none⟩).isSome = true from fun j hj => by rw [hrow.cell (t + j) (by omega)]; rfl)
  have HZ := Lib.hid (show ∀ j, j < cs.length → w.drew.frozen? ⟨B.v, t + j, none⟩ = false from fun j hj => hrow.thaw (t + j) (by omega))
  have HO := Lib.hid (show ∀ v ∈ cs, v.oneCell' = true from fun v hv => by
    rw [hcs] at hv
    obtain ⟨i, _, rfl⟩ := List.mem_map.1 hv
    rfl)
  rw [← hcs] at HF
  have HL := Lib.hid hl
  have hi1 : (Tryd.prog.info? 30).map (·.size) = some 1 := by kernel_rfl
  have HI1 := Lib.hid hi1
  clear h1 h2 t1 t2 e1 e2 hrow hcs hl hd h hi1
  generalize cpWd wd t f m = wd' at *
  generalize C * K = M at *
  go_enter Tryd.func22, Tryd.ntmps22
  go_wp2_with (first
    | (go_at_call 42; with_reducible refine H1.out.mono ?_; clear H1; rintro e w' ⟨rfl, rfl⟩)
    | (go_at_call 42; with_reducible refine H2.out.mono ?_; clear H2; rintro e w' ⟨rfl, rfl⟩)
    | (go_at_call 43; with_reducible refine T1.out.mono ?_; clear T1; rintro e w' ⟨rfl, rfl⟩)
    | (go_at_call 43; with_reducible refine T2.out.mono ?_; clear T2; rintro e w' ⟨rfl, rfl⟩))
  have y1 := wrapOk ((t : Int) + (m : Int)) (by omega) (by omega)
  have y2 := wrapOk ((f : Int) + (m : Int)) (by omega) (by omega)
  have z1 : ((t : Int) + (m : Int)).toNat = t + m := by omega
  have z2 : ((f : Int) + (m : Int)).toNat = f + m := by omega
  have y4 : max ((t : Int) + (m : Int)) 0 = (t : Int) + (m : Int) := by omega
  have y5 : max ((f : Int) + (m : Int)) 0 = (f : Int) + (m : Int) := by omega
  have y6 : (t : Int) + (m : Int) ≤ (M : Int) := by omega
  have y7 : (f : Int) + (m : Int) ≤ (M : Int) := by omega
  have y8 : ¬ M = t := by omega
  have y9 : ¬ M = f := by omega
  have x1 : (0 : Int) ≤ (t : Int) + (m : Int) := by omega
  have x2 : (0 : Int) ≤ (f : Int) + (m : Int) := by omega
  have x3 : (t : Int) ≤ (t : Int) + (m : Int) := by omega
  have x4 : (f : Int) ≤ (f : Int) + (m : Int) := by omega
  have x5 : t + m - t = m := by omega
  have x6 : f + m - f = m := by omega
  go_region_law (refine step_copy rfl (.tmp 41) (.tmp 50) 37 37 rfl 30 Tryd.underlying37 HI1.out B.v t m (M - t) ⟨B.v, f, none⟩ m (M - f) (by simp [Act.eval, Act.put]) (by simp [Act.eval, Act.put]) cs (by rw [HL.out]; exact (Nat.min_self m).symm) (by exact HS.out) (by exact HC.out) (by exact HZ.out) HO.out ?_)
  all_goals
    go_wp2
    go_ret
    exact ⟨rfl, (OnlyIn.refl _ w).drew.trans HF.out.1, HF.out.2⟩
set_option maxHeartbeats 2000000 in
theorem copy_zero (h : StAt w B C K own wd) (t f : Nat) (ht : t ≤ C * K) (hf : f ≤ C * K) :
    Calls Tryd.prog 22 #[.pointer (some ⟨B.s, 0, none⟩), .int .i64 t, .int .i64 f, .int .i64 0] w (WrotePost w B C K own wd) := by
  have h1 := within_any h (t : Int) 0
  have h2 := within_any h (f : Int) 0
  rw [(inB_iff (C * K) (t : Int) 0).2 (by omega)] at h1
  rw [(inB_iff (C * K) (f : Int) 0).2 (by omega)] at h2
  have t1 : Calls Tryd.prog 43 #[.pointer (some ⟨B.s, 0, none⟩), .int .i64 t, .int .i64 0] w fun e w' => e = .returned (.bool false) ∧ w = w' := touches_any h t 0 (by omega)
  have t2 : Calls Tryd.prog 43 #[.pointer (some ⟨B.s, 0, none⟩), .int .i64 f, .int .i64 0] w fun e w' => e = .returned (.bool false) ∧ w = w' := touches_any h f 0 (by omega)
  have H1 := Lib.hid h1
  have H2 := Lib.hid h2
  have T1 := Lib.hid t1
  have T2 := Lib.hid t2
  have c1 := h.words
  have hM := h.all
  have HF := Lib.hid (show StAt w.drew B C K own wd from h.heap rfl)
  have hi1 : (Tryd.prog.info? 30).map (·.size) = some 1 := by kernel_rfl
  have HI1 := Lib.hid hi1
  clear h1 h2 t1 t2 h hi1
  generalize C * K = M at *
  have y1 := wrapOk (t : Int) (by omega) (by omega)
  have y2 := wrapOk (f : Int) (by omega) (by omega)
  have y3 := wrapOk (M : Int) (by omega) (by omega)
  have y6 : (t : Int) ≤ (M : Int) := by omega
  have y7 : (f : Int) ≤ (M : Int) := by omega
  by_cases y8 : M = t
  all_goals by_cases y9 : M = f
  all_goals first | (subst y8; subst y9) | subst y8 | subst y9 | skip
  all_goals
    go_enter Tryd.func22, Tryd.ntmps22
    go_wp2_with (first
      | (go_at_call 42; first | (with_reducible refine H1.out.mono ?_; rintro e w' ⟨rfl, rfl⟩) | (with_reducible refine H2.out.mono ?_; rintro e w' ⟨rfl, rfl⟩))
      | (go_at_call 43; first | (with_reducible refine T1.out.mono ?_; rintro e w' ⟨rfl, rfl⟩) | (with_reducible refine T2.out.mono ?_; rintro e w' ⟨rfl, rfl⟩)))
    go_region_law (refine step_copy0 rfl (.tmp 41) (.tmp 50) 37 37 rfl 30 Tryd.underlying37 HI1.out _ _ _ _ (by simp [Act.eval, Act.put]; exact ⟨rfl, rfl⟩) (by simp [Act.eval, Act.put]; exact ⟨rfl, rfl⟩) ?_)
    all_goals
      go_wp2
      go_ret
      exact ⟨rfl, (OnlyIn.refl _ w).drew, HF.out⟩
end
end Go.Proofs.YtpddiakpnibcgaaDoor
