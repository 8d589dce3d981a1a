/- Contracts of release and add: a part's chunks freed, or given. -/
import Derived.Test.YteencfldehcbbaaDoorBpRem
namespace Go.Proofs.YteencfldehcbbaaDoor
open Go.RowKit Go.Sort BP
set_option linter.unusedVariables false

theorem cs_take_mem {f k j c : Nat} (hj : j ≤ k) : c ∈ (cs (f, k)).take j ↔ f ≤ c ∧ c < f + j := by
  have e : (cs (f, k)).take j = cs (f, j) := by
    unfold cs
    rw [← List.map_take, List.take_range, Nat.min_eq_left hj]
  rw [e, cs_mem]
theorem setO_next {own : Nat → Nat} {f k j x : Nat} (hj : j < k) : setO own ((cs (f, k)).take (j + 1)) x = (fun q => if q = f + j then x else setO own ((cs (f, k)).take j) x q) := by
  funext q
  unfold setO
  by_cases e : q = f + j
  · rw [if_pos e, if_pos ((cs_take_mem (by omega)).2 (by omega))]
  · rw [if_neg e]
    by_cases e2 : f ≤ q ∧ q < f + j
    · rw [if_pos ((cs_take_mem (by omega)).2 (by omega)), if_pos ((cs_take_mem (by omega)).2 e2)]
    · rw [if_neg fun h => by have := (cs_take_mem (by omega)).1 h; omega, if_neg fun h => e2 ((cs_take_mem (by omega)).1 h)]
theorem setO_nil (own : Nat → Nat) (x : Nat) : setO own [] x = own := by funext q; simp [setO]
theorem setO_full {own : Nat → Nat} {f k x : Nat} : setO own ((cs (f, k)).take k) x = setO own (cs (f, k)) x := by rw [List.take_of_length_le (by rw [cs_len]; exact Nat.le_refl _)]
section
variable {w0 w : World} {B : SB} {C K o o' p p' : Nat} {v v' : Value} {D : Dt}
/-- A loop's state: so many chunks are turned. -/
structure RL (w0 w : World) (B : SB) (C K o o' p p' : Nat) (v v' : Value) (D : Dt) (f k x j g : Nat) (w1 wr : World) : Prop where
  co : Co w0 wr B C K o o' p p' v v' ⟨setO D.own ((cs (f, k)).take j) x, D.wd, D.S, D.T⟩
  tn : Turn (coF B p p' v v') (coF B p p' v v') w wr
  row : Row .i64 wr g k (fun i => f + i)
  out : g ∉ coF B p p' v v' ∧ g < wr.heap.size
theorem RL.next {f k x j g : Nat} {w1 wr wr' : World} {own : Nat → Nat} (h : RL w0 w B C K o o' p p' v v' D f k x j g w1 wr) (hT : Tab w0) (hj : j < k) (ho : OnlyIn [B.o, B.c, B.v] wr wr') (hs : StAt wr' B C K own D.wd) (e : own = fun q => if q = f + j then x else setO D.own ((cs (f, k)).take j) x q) :
    RL w0 w B C K o o' p p' v v' D f k x (j + 1) g w1 wr' := by
  have hg : g ∉ [B.o, B.c, B.v] := fun hx => h.out.1 (coF_mem.2 (.inl (by simp [SB.bl] at hx ⊢; omega)))
  subst e
  refine ⟨?_, h.tn.trans (Co.turn_store ho), h.row.block (ho.block g hg), h.out.1, by rw [ho.size]; exact h.out.2⟩
  rw [setO_next hj]
  exact h.co.store hT ho hs
set_option maxHeartbeats 2000000 in
theorem release_any (h : Co w0 w B C K o o' p p' v v' D) (hT : Tab w0) (f k : Nat) (hf : f + k ≤ C) (hown : ∀ c, f ≤ c → c < f + k → D.own c ≠ 0) :
    Calls Tryd.prog 47 #[.pointer (some ⟨p, 0, none⟩), .agg #[.int .i64 f, .int .i64 k]] w fun e w' => e = .returned (.tuple #[]) ∧ Co w0 w' B C K o o' p p' v v' ⟨setO D.own (cs (f, k)) 0, D.wd, D.S, D.T⟩ ∧ Turn (coF B p p' v v') (coF B p p' v v') w w' := by
  have hC := h.held.st.C2
  have hb := (Below.refl w.heap.size w).alloc (Nat.le_refl _) (.cells #[.int .i64 f, .int .i64 k] 77)
  have hpa := pall_any f k (w.alloc (.cells #[.int .i64 f, .int .i64 k] 77)) (by omega) (by omega)
  have HPA := Lib.hid hpa
  have HB := Lib.hid hb
  have HH := Lib.hid h
  have HOW := Lib.hid hown
  clear hb hpa h hown
  go_enter Tryd.func47, Tryd.ntmps47
  go_wp2_with (first | (go_at_call 39; refine HPA.out.mono ?_; rintro e w1 ⟨g, rfl, hg1, hg2, hrow, hb1⟩; have HR0 : Hid (RL w0 w B C K o o' p p' v v' D f k 0 0 g w1 w1) := (by
      have hbb := HB.out.trans (hb1.mono (by simp))
      refine Lib.hid ⟨?_, Turn.of_below hbb, hrow, fun hx => ?_, hg2⟩
      · rw [List.take_zero, setO_nil]; exact HH.out.later hT hbb
      · have := (HH.out.win g hx).2; simp at hg1; omega); clear hg1 hg2 hrow hb1))
  go_loopw [5, 9] (fun _ x wr => ∃ j : Nat, j ≤ k ∧ x = .int .i64 j ∧ Hid (RL w0 w B C K o o' p p' v v' D f k 0 j g w1 wr)) (fun _ x _ => k - (intOf x).toNat)
  case atStart => exact ⟨0, Nat.zero_le _, rfl, HR0⟩
  case round =>
    obtain ⟨j, hj, rfl, HR⟩ := hrel
    by_cases hlt : j < k
    · have c0 := HR.out.row.cell j hlt
      have p0 := HR.out.co.a.c0
      have hrel := release_ok HR.out.co.held.st (f + j) (by omega) (by
        show setO D.own ((cs (f, k)).take j) 0 (f + j) ≠ 0
        rw [setO_out fun hx => by have := (cs_take_mem (by omega)).1 hx; omega]
        exact HOW.out _ (by omega) (by omega))
      have HC := Lib.hid hrel
      clear hrel
      go_wp2_with (first | (go_at_call 63; refine HC.out.mono ?_; rintro e w2 ⟨rfl, ho2, hs2⟩; have HR2 := Lib.hid (HR.out.next hT hlt ho2 hs2 rfl); clear ho2 hs2))
      go_roundw
      case rel => exact ⟨j + 1, by omega, by go_num, HR2⟩
      case measure => simp [intOf]; omega
    · obtain rfl : j = k := by omega
      go_wp2
      go_end0
      have := HR.out.co
      rw [setO_full] at this
      exact ⟨rfl, this, HR.out.tn⟩
theorem own_drew {w : World} {base n k : Nat} {t : TypeId} {v : Value} {xs : List Value} (h : w.ownsRow base t k v n xs) : w.drew.ownsRow base t k v n xs := h
theorem heap_new_drew (w : World) (o : Obj) : (w.alloc o).drew.heap[w.heap.size]? = some o := heap_alloc_new w o
/-- A part is appended to the first one's row. -/
theorem push_mid {w3 : World} {n f k g cap pa pb fl : Nat} {own wd : Nat → Nat} {P : List (Nat × Nat)} {T : Sp} {tmp : Obj} (h : Co w0 w B C K o o' p p' v v' ⟨own, wd, ⟨P, (pa, pb), fl⟩, T⟩) (hT : Tab w0) (hn : n = P.length) {W : World} (hW : Below w.heap.size w W) (hWs : W.heap.size = w.heap.size)
    (hown : w3.ownsRow w0.heap.size 77 2 (.slice (some ⟨g, 0, none⟩) (n + 1) cap) (n + 1) (flatP P ++ [.int .i64 (f : Nat), .int .i64 (k : Nat)])) (hgr : (W.alloc tmp).grownBy w3 v.ownBlock) (hat : v.ownBlock = some g ∨ g = w.heap.size + 1) :
    w3.cell? ⟨p, 2, none⟩ = some v ∧ w3.frozen? ⟨p, 2, none⟩ = false ∧ p < w3.heap.size ∧
    Hid (Co w0 (w3.setCell ⟨p, 2, none⟩ (.slice (some ⟨g, 0, none⟩) (n + 1) cap)) B C K o o' p p' (.slice (some ⟨g, 0, none⟩) (n + 1) cap) v' ⟨own, wd, ⟨P ++ [(f, k)], (pa, pb), fl⟩, T⟩ ∧
      Turn (coF B p p' v v') (coF B p p' (.slice (some ⟨g, 0, none⟩) (n + 1) cap) v') w (w3.setCell ⟨p, 2, none⟩ (.slice (some ⟨g, 0, none⟩) (n + 1) cap))) := by
  subst hn
  have hA : Aft (ob v) w w3 := (Aft.of_below (hW.alloc hW.size tmp)).trans ⟨hgr.os, hgr.tape, hgr.output, by have := hgr.size; simp at this; simp; omega, fun q hq hs => hgr.block q (by simp at hq ⊢; omega) fun e => hs (ob_mem.2 e.symm)⟩
  have hbox := hA.whole h.a.box (fun hx => h.a.ne (ob_mem.1 hx))
  have hr : PR w3 w0.heap.size (.slice (some ⟨g, 0, none⟩) (P.length + 1) cap) (P ++ [(f, k)]) := by
    unfold PR
    rw [flatP_app, List.length_append]
    exact hown
  refine ⟨(hbox.cell 2).trans rfl, hbox.free 2, hbox.lt, Lib.hid (h.done hT hA hr (fun q hq => ?_) ((OnlyAt.refl p w3).setCell 2 _) (hbox.set 2 _))⟩
  have e : g = q := by simpa [Value.ownBlock] using hq
  subst e
  rcases hat with e | e
  · exact .inl e
  · exact .inr (by omega)
end
section
variable {w0 w : World} {B : SB} {C K o o' p p' : Nat} {v v' : Value} {D : Dt}
set_option maxHeartbeats 4000000 in
set_option maxRecDepth 100000 in
theorem add_any (h : Co w0 w B C K o o' p p' v v' D) (hT : Tab w0) (f k : Nat) (hf : f + k ≤ C) (ho1 : 1 ≤ o) (ho2 : o < 9223372036854775808) (hlen : D.S.parts.length ≤ 5000) (hown : ∀ c, f ≤ c → c < f + k → D.own c ≠ 0) :
    Calls Tryd.prog 52 #[.pointer (some ⟨p, 0, none⟩), .agg #[.int .i64 f, .int .i64 k]] w (CoPost (.tuple #[]) w0 B C K o o' p p' v v' ⟨setO D.own (cs (f, k)) o, D.wd, ⟨D.S.parts ++ [(f, k)], D.S.pr, D.S.fl⟩, D.T⟩ w) := by
  obtain ⟨i0, hi0, hz0, hz1, hz2⟩ := infoPart_parts
  have hC := h.held.st.C2
  have hb := (Below.refl w.heap.size w).alloc (Nat.le_refl _) (.cells #[.int .i64 f, .int .i64 k] 77)
  have hX := Whole.fresh w 77 #[.int .i64 f, .int .i64 k]
  have hpa := pall_any f k (w.alloc (.cells #[.int .i64 f, .int .i64 k] 77)) (by omega) (by omega)
  obtain ⟨A, cp, rfl⟩ := h.a.row.slice
  have HPA := Lib.hid hpa
  have HB := Lib.hid hb
  have HX := Lib.hid hX
  have HH := Lib.hid h
  have HH1 := Lib.hid (h.later hT hb)
  have HOW := Lib.hid hown
  have hnF : w.heap.size ∉ coF B p p' (.slice A D.S.parts.length cp) v' := fun hx => by have := (h.win _ hx).2; omega
  have HNF := Lib.hid hnF
  obtain ⟨own, wd, ⟨P, ⟨pa, pb⟩, fl⟩, T⟩ := D
  simp only at HH HH1 HOW hlen hnF ⊢
  obtain ⟨n, hn⟩ : ∃ n, n = P.length := ⟨_, rfl⟩
  rw [← hn] at HH HH1 hlen HNF ⊢
  have HN := Lib.hid hn
  clear hb hpa h hown hX hn hnF
  go_enter Tryd.func52, Tryd.ntmps52
  go_wp2_with (first | (go_at_call 39; refine HPA.out.mono ?_; rintro e w1 ⟨g, rfl, hg1, hg2, hrow, hb1⟩; have HR0 : Hid (RL w0 (w.alloc (.cells #[.int .i64 f, .int .i64 k] 77)) B C K o o' p p' (.slice A n cp) v' ⟨own, wd, ⟨P, (pa, pb), fl⟩, T⟩ f k o 0 g w1 w1) := (by
      refine Lib.hid ⟨?_, Turn.of_below hb1, hrow, fun hx => ?_, hg2⟩
      · rw [List.take_zero, setO_nil]; exact HH1.out.later hT hb1
      · have := (HH1.out.win g hx).2; omega); clear hg1 hg2 hrow hb1))
  go_loopw [5, 9] (fun _ x wr => ∃ j : Nat, j ≤ k ∧ x = .int .i64 j ∧ Hid (RL w0 (w.alloc (.cells #[.int .i64 f, .int .i64 k] 77)) B C K o o' p p' (.slice A n cp) v' ⟨own, wd, ⟨P, (pa, pb), fl⟩, T⟩ f k o j g w1 wr)) (fun _ x _ => k - (intOf x).toNat)
  case atStart => exact ⟨0, Nat.zero_le _, rfl, HR0⟩
  case round =>
    obtain ⟨j, hj, rfl, HR⟩ := hrel
    by_cases hlt : j < k
    · have c0 := HR.out.row.cell j hlt
      have p0 := HR.out.co.a.c0
      have p1 := HR.out.co.a.c1
      have hrel := fun (W : World) (hW : W.heap = wr.heap) => give_ok (HR.out.co.held.st.heap hW) (f + j) o (by omega) (by
        show setO own ((cs (f, k)).take j) o (f + j) ≠ 0
        rw [setO_out fun hx => by have := (cs_take_mem (by omega)).1 hx; omega]
        exact HOW.out _ (by omega) (by omega)) ho1 ho2
      have HC := Lib.hid hrel
      have e1 : ((f + j : Nat) : Int) = (f : Int) + (j : Int) := by omega
      rw [e1] at HC c0
      clear hrel e1
      go_wp2_with fail
      go_region_held3 (fun w' => w'.cell? ⟨p, 0, none⟩ = some (.pointer (some ⟨B.s, 0, none⟩)) ∧ w'.cell? ⟨p, 1, none⟩ = some (.int .i64 (o : Nat))) (simp [go_sem, *])
        (first | (go_at_call 66; refine (HC.out _ (by exact rfl)).mono ?_; rintro e w2 ⟨rfl, ho2', hs2⟩; have HR2 := Lib.hid (HR.out.next hT hlt ⟨ho2'.os, ho2'.tape, ho2'.output, ho2'.size, ho2'.block⟩ hs2 rfl); have k0 := HR2.out.co.a.c0; have k1 := HR2.out.co.a.c1; clear ho2' hs2))
      all_goals
        go_wp2
        go_roundw
        case rel => exact ⟨j + 1, by omega, by go_num, HR2⟩
        case measure => simp [intOf]; omega
    · obtain rfl : j = k := by omega
      have hco := HR.out.co
      rw [setO_full] at hco
      have HCO := Lib.hid hco
      have hwx := HR.out.tn.aft.whole HX.out HNF.out
      have x0 := hwx.p0
      have x1 := hwx.p1
      have p2 := hco.a.c2
      have p2a := fun ob => bcellB ((Below.refl wr.heap.size wr).alloc (Nat.le_refl _) ob) p2
      have hbs : w0.heap.size ≤ wr.heap.size := hco.bel.size
      clear hco hwx
      go_wp2_with fail
      go_region_law (first
        | (refine step_append_lies _ rfl (.tmp 28) (.tmp 30) 75 rfl w0.heap.size 77 i0 _ 2 16 Tryd.underlying75 hi0 hz0 hz1 hz2 rfl (by decide) (.slice A n cp) n (flatP P) (by simp [Act.eval]) (own_drew ((show wr.ownsRow w0.heap.size 77 2 (.slice A n cp) n (flatP P) by rw [HN.out]; have := HCO.out.a.row; rw [HN.out] at this; exact this).alloc _)) ⟨wr.heap.size, 0, none⟩ 1 1 [.int .i64 f, .int .i64 j] (by simp [Act.eval]) rfl (World.news_of_block (heap_new_drew wr _)) (by simp [Value.oneCell']) (by decide) (by unfold maxLen; omega) (by omega) (by simp; omega) (wr.heap.size + 1) (by simp) ?_; intro g' cap w3 hown hgr hat hlt3; obtain ⟨q0, q1, q2, HPM⟩ := push_mid HCO.out hT HN.out (W := wr.drew) ((Below.refl _ _).drew) rfl hown ⟨hgr.os, hgr.tape, hgr.output, hgr.size, hgr.block⟩ hat; clear hown hgr hat))
      all_goals
        go_wp2
        go_end0
        obtain ⟨hc, ht⟩ := HPM.out
        exact ⟨rfl, _, hc, ((Turn.of_below HB.out).trans HR.out.tn).trans ht⟩
end
end Go.Proofs.YteencfldehcbbaaDoor
