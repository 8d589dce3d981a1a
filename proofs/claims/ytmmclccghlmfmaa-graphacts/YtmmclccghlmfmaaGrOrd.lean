/- The contract of graph's Order. -/
import Derived.Test.YtmmclccghlmfmaaGrTg
import Derived.WalkMore
namespace Go.Proofs.Ytmmclccghlmfmaa
open Go.RowKit Go.Lib Go.Sort Go.Maps
open Go.ChangeShapes (lits)
open Go.WideElems (Fit rd rg pl rd_val)

theorem ZI.tg {es : List (Int × Int)} (h : EI es) (x : Int) : ZI (GM.tg es x) := fun _ hy => (h _ (GM.mem_tg.1 hy)).2
theorem ZI.walk {es : List (Int × Int)} {rs : List Int} (h : EI es) (hr : ZI rs) (k : Nat) : ZI (GM.walk es rs k) := fun y hy => by
  rcases List.mem_append.1 (GM.walk_from hy) with h1 | h1
  · exact hr y h1
  · obtain ⟨e, he, rfl⟩ := List.mem_map.1 h1
    exact (h e he).2
theorem ZI.ord {es : List (Int × Int)} {rs : List Int} (h : EI es) (hr : ZI rs) : ZI (GM.ord es rs) := ZI.walk h hr _

/-- Looked up later: what is told reads as it did. -/
theorem TgAt.look_at {w w' : World} {base b : Nat} {es : List (Int × Int)} {x : Int} (h : TgAt w base b es) (hb : Below w.heap.size w w') (hx : I64 x) :
    ∃ v, (Instr.lookup 42 (.map (some b)) (.int .i64 x) false).run Try.prog w' = .ok v w' ∧ NewZ base w v (GM.tg es x) := by
  obtain ⟨D, ⟨en, clock, hh, F, hs, rfl, hbb, hlen, hap⟩, hm, hD⟩ := h
  have hlt : b < w.heap.size := (Array.getElem?_eq_some_iff.1 hh).1
  have hDx := hD x
  rcases Maps.fit_look false mLaw Try.underlying42 (mZeroS w') ((hb.block b hlt).trans hh) F (mKey hx) with ⟨hrun, _, hat⟩ | ⟨e0, y, _, _, hrun, hR, hat, _⟩
  · rw [hat] at hDx
    have e : GM.tg es x = [] := lits_inj (b := []) hDx.symm
    rw [e]
    exact ⟨_, hrun, NewZ.nil _ _⟩
  · obtain ⟨zs, ho, rfl⟩ := rowElem_inv hR
    rw [hat] at hDx
    simp only at hDx
    rw [itm_row ho] at hDx
    have e := lits_inj hDx
    subst e
    exact ⟨_, hrun, ho.1⟩

theorem row_notmap {w : World} {lo e size n c : Nat} {v : Value} {xs : List Value} {en : Array MapEntry} {cl : Nat} (h : w.ownsRow lo e size v n xs) (hc : w.heap[c]? = some (.map en cl)) : some c ≠ v.ownBlock := by
  rcases h.2 with ⟨rfl, _⟩ | ⟨g, cap, cur, rfl, _, hh, _⟩
  · simp [Value.ownBlock]
  · intro e1
    simp [Value.ownBlock] at e1
    subst e1
    rw [hc] at hh
    cases hh
theorem CmAt.map {w : World} {m : Nat} {l : List Int} (h : CmAt w m l) : ∃ en cl, w.heap[m]? = some (.map en cl) := by
  obtain ⟨D, ⟨es, cl, hb, _⟩, _⟩ := h
  exact ⟨es, cl, hb⟩
theorem NewZ.grown {w w' : World} {base : Nat} {v : Value} {l : List Int} {row : Option Nat} (h : NewZ base w v l) (hg : w.grownBy w' row) (hne : v.ownBlock = none ∨ v.ownBlock ≠ row) : NewZ base w' v l := World.ownsRow.kept h hg hne

/-- What Order holds: who has been come to, as a map and as a row. -/
structure OrS (w1 : World) (v : Value) (l : List Int) (wr : World) : Prop where
  row : NewZ w1.heap.size wr v l
  come : CmAt wr w1.heap.size l
  bel : Below w1.heap.size w1 wr
section
variable {w1 wr w2 w3 : World} {v v' : Value} {l : List Int} {x : Int}
theorem OrS.made (w : World) : OrS w (.slice none 0 0) [] (w.alloc (.map #[] 0)) := ⟨NewZ.nil _ _, CmAt.made w, (Below.refl _ _).alloc (Nat.le_refl _) _⟩
theorem OrS.ne (h : OrS w1 v l wr) : v.ownBlock = none ∨ v.ownBlock ≠ some w1.heap.size := by
  obtain ⟨en, cl, hb⟩ := h.come.map
  exact .inr fun e => row_notmap h.row.own hb e.symm
theorem OrS.add {o : Obj} (h : OrS w1 v l wr) (h2 : CmAt w2 w1.heap.size (l ++ [x])) (g2 : wr.grownBy w2 (some w1.heap.size)) (h3 : w3.ownsRow w1.heap.size 3 1 v' (l.length + 1) (l.map (Value.int .i64) ++ [.int .i64 x])) (g3 : (w2.alloc o).grownBy w3 v.ownBlock) : OrS w1 v' (l ++ [x]) w3 := by
  have hs := h.bel.size
  have h2s := g2.size
  refine ⟨NewZ.snoc h3, h2.keep ?_, ?_⟩
  · have hlt := h2.lt
    have e1 := g3.block w1.heap.size (by simp; omega) (h.ne.elim (fun e => by rw [e]; simp) fun e c => e c.symm)
    rw [e1]
    exact Below.heap_alloc w2 o _ hlt
  · exact ((h.bel.grown g2 hs (fun j hj => by cases hj; exact Nat.le_refl _)).alloc (by omega) o).grown g3 (by simp; omega) (fun j hj => (h.row.own.lt j hj).1)
end

/-- At the outer loop's head. -/
structure OrH (w1 : World) (es : List (Int × Int)) (rs : List Int) (k : Nat) (v : Value) (A : Option Addr) (n : Nat) (l row : List Int) (wr : World) : Prop where
  st : OrS w1 v l wr
  zs : ZS w1 A n row
  int : ZI row
  eq : GM.adds l row = GM.walk es rs k
  lo : k ≤ l.length
  few : n ≤ 1000

set_option maxHeartbeats 4000000 in
set_option maxRecDepth 100000 in
theorem order_any {w : World} {A B : Option Addr} {n m c d : Nat} {rs : List Int} {es : List (Int × Int)} (h : ZS w A n rs) (he : ES w B m es) (hr : ZI rs) (hi : EI es) (hn : n ≤ 1000) (hm : m ≤ 1000) :
    Calls Try.prog 14 #[.slice A n c, .slice B m d] w fun e w' => ∃ v, e = .returned v ∧ NewZ w.heap.size w' v (GM.ord es rs) ∧ Below w.heap.size w w' := by
  have hmm := @run_makeMap Try.prog
  obtain ⟨i0, hi0, hz0, hz1, hz2⟩ := info_parts infoZ
  have HC := Lib.hid (targets_any (c := d) he hi hm)
  have HZ := Lib.hid h
  have HR := Lib.hid hr
  have HI := Lib.hid hi
  have hl1 := h.len
  have hl2 := he.len
  clear h hi he hr
  go_enter Try.func14, Try.ntmps14
  go_wp2_with fail
  refine HC.out.mono ?_
  rintro e w1 ⟨base, tb, rfl, htg, hb1, htb⟩
  have HT := Lib.hid htg
  have HB1 := Lib.hid hb1
  have HZ1 := Lib.hid (HZ.out.below hb1)
  clear HC htg hb1 HZ
  go_wp2_with fail
  go_loopw [7, 8, 9] (fun o r i wr => ∃ (k : Nat) (l row : List Int) (A' : Option Addr) (n' c' : Nat), i = .int .i64 k ∧ r = .slice A' n' c' ∧ Hid (OrH w1 es rs k o A' n' l row wr)) (fun _ _ i _ => n + m + 1 - (intOf i).toNat)
  case atStart => exact ⟨0, [], rs, _, _, _, rfl, rfl, Lib.hid ⟨OrS.made w1, HZ1.out, HR.out, rfl, Nat.zero_le _, hn⟩⟩
  case round =>
    obtain ⟨k, l, row, A', n', c', rfl, rfl, HH⟩ := hrel
    have hrl := HH.out.zs.len
    have hn' := HH.out.few
    have hwl : (GM.walk es rs k).length ≤ n + m := by have := GM.walk_len es rs k; omega
    go_wp2
    go_step3
    go_wp2
    go_step3
    go_wp2_with fail
    go_loopw [7, 20] (fun o i wr => ∃ j : Nat, j ≤ n' ∧ i = .int .i64 j ∧ Hid (OrS w1 o (GM.adds l (row.take j)) wr)) (fun _ i _ => n' - (intOf i).toNat)
    case atStart => exact ⟨0, Nat.zero_le _, rfl, Lib.hid (by rw [List.take_zero]; exact HH.out.st)⟩
    case round =>
      obtain ⟨j, hj, rfl, HS⟩ := hrel
      by_cases hlt : j < n'
      · obtain ⟨b, off, rfl, hb, c0⟩ := HH.out.zs.at_ hlt
        have d0 := (HS.out.bel.cell (p := ⟨b, _, none⟩) hb).trans c0
        have hI := HH.out.int _ (List.getElem_mem (l := row) (n := j) (by omega))
        have hst : GM.adds l (row.take (j + 1)) = GM.add (GM.adds l (row.take j)) (row[j]'(by omega)) := by rw [List.take_succ_eq_append_getElem (by omega), GM.adds_snoc]
        obtain ⟨x, hx⟩ : ∃ x, x = row[j]'(by omega) := ⟨_, rfl⟩
        rw [← hx] at d0 hI hst
        have hml : (GM.adds l (row.take j)).length ≤ n + m := by
          obtain ⟨s, hs, _⟩ := GM.adds_ext (row.drop j) (GM.adds l (row.take j))
          have e := HH.out.eq
          rw [← List.take_append_drop j row, GM.adds_append, hs] at e
          have := congrArg List.length e
          rw [List.length_append] at this
          omega
        obtain ⟨L, hL⟩ : ∃ L, L = GM.adds l (row.take j) := ⟨_, rfl⟩
        rw [← hL] at hst hml HS
        have HI0 := Lib.hid hI
        have HST := Lib.hid hst
        clear c0 hx hL hst
        by_cases hin : x ∈ L
        · have hlk := HS.out.come.look hI
          rw [decide_eq_true hin] at hlk
          have e : GM.add L x = L := GM.add_in hin
          have HE := Lib.hid e
          clear hI hin e
          go_wp2
          go_roundw
          case rel => exact ⟨j + 1, by omega, by go_num, by rw [HST.out, HE.out]; exact HS⟩
          case measure => simp [intOf]; omega
        · have hlk := HS.out.come.look hI
          rw [decide_eq_false hin] at hlk
          obtain ⟨w2, hrun, hc2, hg2⟩ := HS.out.come.put hI (by omega)
          have e : GM.add L x = L ++ [x] := GM.add_out hin
          have HE := Lib.hid e
          have HC2 := Lib.hid hc2
          have HG2 := Lib.hid hg2
          have hlo := HS.out.bel.size
          have hlo2 := hg2.size
          have HN2 := Lib.hid ((HS.out.row.grown hg2 HS.out.ne).own)
          clear hI hin e hc2 hg2
          go_wp2_with (first
            | (at_builtin; refine wpList_append_own _ rfl _ _ 22 rfl w1.heap.size 3 i0 _ 1 8 Try.underlying22 hi0 hz0 hz1 hz2 rfl (by decide) _ _ _ rfl (HN2.out.alloc _) ⟨w2.heap.size, 0, none⟩ 1 1 [.int .i64 x] rfl rfl (cell_one_new _ _ _) (by simp [Value.oneCell']) (by unfold maxLen; omega) (by omega) (by simp; omega) ?_; intro v' w3 hown' hgrow _; have HS3 := Lib.hid (HS.out.add HC2.out HG2.out hown' hgrow); clear hown' hgrow))
          go_roundw
          case rel => exact ⟨j + 1, by omega, by go_num, by rw [HST.out, HE.out]; exact HS3⟩
          case measure => simp [intOf]; omega
      · obtain rfl : j = n' := by omega
        have hs := HS.out
        rw [List.take_of_length_le (by omega), HH.out.eq] at hs
        have HSE := Lib.hid hs
        have hk := HH.out.lo
        have hll : l.length ≤ (GM.walk es rs k).length := by
          obtain ⟨s, hs, _⟩ := GM.adds_ext row l
          rw [← HH.out.eq, hs, List.length_append]
          omega
        clear hs
        obtain ⟨A2, c2, rfl, hcap⟩ := HSE.out.row.slice
        obtain ⟨N, hN⟩ : ∃ N, N = (GM.walk es rs k).length := ⟨_, rfl⟩
        rw [← hN] at hwl hll hcap ⊢
        have HN := Lib.hid hN
        by_cases hend : k = N
        · have hD : ((k : Int) == (N : Int)) = true := by simp; omega
          have hfin : GM.ord es rs = GM.walk es rs k := GM.ord_end (by omega)
          have HF := Lib.hid hfin
          clear hN hfin
          go_wp2
          rw [Exit.noGoto_ret]
          go_wp2
          go_ret
          refine ⟨_, rfl, ?_, HB1.out.trans (HSE.out.bel.mono HB1.out.size)⟩
          rw [HF.out, HN.out]
          exact HSE.out.row.less HB1.out.size
        · have hD : ((k : Int) == (N : Int)) = false := by simp; omega
          have hkN : k < (GM.walk es rs k).length := by omega
          obtain ⟨g, cap, e1, hg1, hg2, c0⟩ := HSE.out.row.cell hkN
          injection e1 with e1 _ e2
          subst e1 e2
          have hI := ZI.walk HI.out HR.out k _ (List.getElem_mem hkN)
          have hw := GM.walk_succ (es := es) (rs := rs) (k := k) (List.getElem?_eq_getElem hkN)
          obtain ⟨x, hx⟩ : ∃ x, x = (GM.walk es rs k)[k] := ⟨_, rfl⟩
          rw [← hx] at c0 hI hw
          obtain ⟨v2, hlk, hv2⟩ := HT.out.look_at HSE.out.bel hI
          obtain ⟨A3, c3, rfl, _⟩ := hv2.slice
          have HV := Lib.hid hv2.zs
          have HW := Lib.hid hw
          have htl := GM.tg_len es x
          clear hv2 hw hI hx hN
          go_wp2
          go_roundw
          case rel => exact ⟨k + 1, GM.walk es rs k, GM.tg es x, _, _, _, by go_num, rfl, Lib.hid ⟨by rw [HN.out]; exact HSE.out, HV.out, ZI.tg HI.out x, HW.out.symm, by omega, by omega⟩⟩
          case measure => simp [intOf]; omega
end Go.Proofs.Ytmmclccghlmfmaa
