/- The contract of the law package's grown. -/
import Derived.Test.YtldlolgdglmocaaDoorTbAct
namespace Go.Proofs.YtldlolgdglmocaaDoor
open Go.RowKit

theorem flatT_at {l : List (Int × Int)} {j : Nat} {u : Value} (h : (flatT l)[j]? = some u) : ∃ x, l[j / 2]? = some x ∧ u = if j % 2 = 0 then .int .i64 x.1 else .int .i64 x.2 := by
  have hj : j < l.length * 2 := by
    have := (List.getElem?_eq_some_iff.1 h).1
    rwa [flatT_len] at this
  have hl : j / 2 < l.length := by omega
  have hg := flatT_get l (j / 2) l[j / 2] (List.getElem?_eq_getElem hl)
  refine ⟨l[j / 2], List.getElem?_eq_getElem hl, ?_⟩
  rcases Nat.mod_two_eq_zero_or_one j with e | e
  · have ej : j = j / 2 * 2 := by omega
    rw [if_pos e]
    rw [ej, hg.1] at h
    injection h with h
    exact h.symm
  · have ej : j = j / 2 * 2 + 1 := by omega
    rw [if_neg (by omega)]
    rw [ej, hg.2] at h
    injection h with h
    exact h.symm
theorem flatT_one (l : List (Int × Int)) : ∀ u ∈ flatT l, u.oneCell' = true := by
  intro u hu
  obtain ⟨x, _, hx⟩ := List.mem_flatMap.1 hu
  exact encT_one x u hx
set_option maxRecDepth 10000 in
/-- 'told = append(told, x)': x in a block of its own. -/
theorem append_tok (w : World) {ops : Array Oper} {rest : List Oper} {o : Oper} {a : Act} {Q : Exit → Act → World → Prop} (hgd : o.guard = none) (s x : Operand)
    (ho : o.op = .call { callee := .builtin .append, args := #[s, x], argTypes := #[31, 31] })
    (base : Nat) (v : Value) (l : List (Int × Int)) (hs : a.eval s = v) (hown : TR w base v l)
    (g : Nat) (t : TypeId) (p q : Int) (hx : a.eval x = .slice (some ⟨g, 0, none⟩) 1 1) (hw : Whole w g t #[.int .i64 p, .int .i64 q])
    (h63 : l.length ≤ 1000000) (hbase : base ≤ w.heap.size)
    (h : ∀ v' w', TR w' base v' (l ++ [(p, q)]) → w.grownBy w' v.ownBlock → wpList Tryd.prog ops Q rest (a.put o.dst v') w') : wpList Tryd.prog ops Q (o :: rest) a w := by
  obtain ⟨i0, hi0, hz0, hz1, hz2⟩ := infoTok_parts
  obtain ⟨k0, k1⟩ := hw.two
  refine wpList_append_own_at w hgd s x 31 ho base 33 i0 _ 2 16 Tryd.underlying31 hi0 hz0 hz1 hz2 rfl (by decide) v l.length (flatT l) hs hown ⟨g, 0, none⟩ 1 1 (flatT [(p, q)]) hx (by rw [flatT_len]; rfl) ?_ (flatT_one _) (by unfold maxLen; omega) (by omega) hbase ?_
  · intro j u hu
    have hj : j < 2 := by
      have := (List.getElem?_eq_some_iff.1 hu).1
      rw [flatT_len] at this
      simpa using this
    match j, hj with
    | 0, _ => simp [flatT, encT] at hu; subst hu; exact k0
    | 1, _ => simp [flatT, encT] at hu; subst hu; exact k1
  · intro v' w' h1 h2 _ _
    refine h v' w' ?_ h2
    unfold TR
    rw [flatT_app, List.length_append]
    exact h1

theorem size8 (n : Int) : ∃ N : Nat, 1 ≤ N ∧ N ≤ 8 ∧ 1 + (if n < 0 then 0 else n) % 8 = (N : Int) := by
  refine ⟨(1 + (if n < 0 then 0 else n) % 8).toNat, ?_⟩
  split <;> omega
/-- A token with small numbers. -/
def TokOk (x : Int × Int) : Prop := ∃ k y : Nat, x = ((k : Int), (y : Int)) ∧ k ≤ 4096 ∧ y ≤ 256
theorem addI_ok {w : World} {B : TB} {N : Nat} {S : Nat → Sl} (h : TbAt w B N S) : TokOk (((addI S N : Nat) : Int), ((addG S N : Nat) : Int)) := by
  refine ⟨_, _, rfl, ?_, ?_⟩
  · have := h.N2
    unfold addI
    split <;> omega
  · have := (h.gen (freeAt S N)).2
    unfold addG
    split <;> omega
/-- What grown leaves. -/
def GrownPost (n : Nat) (w : World) (e : Ending) (w' : World) : Prop :=
  (100 < n ∧ e = .returned (.tuple #[.pointer none, .slice none 0 0]) ∧ Below w.heap.size w w') ∨
  (n ≤ 100 ∧ ∃ (B : TB) (N : Nat) (S : Nat → Sl) (base : Nat) (v : Value) (l : List (Int × Int)), e = .returned (.tuple #[.pointer (some ⟨B.t, 0, none⟩), v]) ∧ N ≤ 8 ∧ l.length ≤ 100 ∧ Lt w w' B N S base v l ∧ ∀ x ∈ l, TokOk x)
/-- Where its loop stands. -/
def GrAt (w : World) (B : TB) (N base n : Nat) (v x : Value) (wr : World) : Prop :=
  ∃ (k : Nat) (S : Nat → Sl) (l : List (Int × Int)), k ≤ n ∧ x = .int .i64 k ∧ l.length ≤ k ∧ Lt w wr B N S base v l ∧ ∀ y ∈ l, TokOk y
theorem lt_new {w w1 : World} {B : TB} {N : Nat} {S : Nat → Sl} (h : Ht w w1 B N S) : Lt w w1 B N S w1.heap.size (.slice none 0 0) [] := ⟨h, TR.nil _ _, h.win, Nat.le_refl _⟩

set_option maxRecDepth 100000 in
set_option maxHeartbeats 8000000 in
theorem grown_any (m : Int) (A : Option Addr) (n c : Nat) (la : List Ac) (w : World) (hl : TA w w.heap.size A n la) (hT : Tab w) :
    Calls Tryd.prog 24 #[.int .i64 m, .slice A n c] w (GrownPost n w) := by
  obtain ⟨N, N1, N2, hN⟩ := size8 m
  have HN := Lib.hid hN
  have HL := Lib.hid hl
  clear hN hl
  go_enter Tryd.func24, Tryd.ntmps24
  go_upto_region 1 with (fail)
  have NW := Lib.hid (tnew_ok N w N1 (by omega))
  have K2 : Hid (∀ z : Int, z = (N : Int) → Calls Tryd.prog 9 #[.int .i64 z] w (TNewPost N w)) := Lib.hid (fun z hz => by rw [hz]; exact NW.out)
  clear NW
  go_cut [6, 7] (fun s t wc => ∃ B : TB, s = .pointer (some ⟨B.t, 0, none⟩) ∧ t = .int .i64 0 ∧ Ht w wc B N (fun _ => Sl.first))
  case first =>
    by_cases h1 : m < 0
    · obtain rfl : N = 1 := by have := HN.out; split at this <;> omega
      have K3 : Hid (Calls Tryd.prog 9 #[.int .i64 1] w (TNewPost 1 w)) := Lib.hid (K2.out 1 rfl)
      go_wp2_with fail
      refine K3.out.mono ?_
      rintro e w1 ⟨B, rfl, hs1, hb1, hw1⟩
      go_wp2
      all_goals go_meet
      all_goals exact ⟨B, rfl, rfl, ht_new hT hs1 hb1 hw1⟩
    · have h2 : 0 ≤ m := by omega
      go_wp2_with fail
      all_goals
        refine (K2.out _ (by have := HN.out; split at this <;> omega)).mono ?_
        rintro e w1 ⟨B, rfl, hs1, hb1, hw1⟩
        go_wp2
        all_goals go_meet
        all_goals exact ⟨B, rfl, rfl, ht_new hT hs1 hb1 hw1⟩
  case rest =>
    obtain ⟨B, rfl, rfl, hk1⟩ := hcut
    clear HN K2
    have HK1 := Lib.hid hk1
    clear hk1
    by_cases h100 : 100 < n
    · have d : (100 : Int) < (n : Int) := by omega
      go_wp2
      go_ret2
      exact .inl ⟨h100, rfl, HK1.out.bel⟩
    · have d : decide ((100 : Int) < (n : Int)) = false := by simp; omega
      go_wp2_with fail
      rename World => w1
      go_loopw [8, 35] (GrAt w B N w1.heap.size n) (fun _ x _ => n - (intOf x).toNat)
      case atStart => exact ⟨0, _, [], Nat.zero_le _, rfl, Nat.le_refl _, lt_new HK1.out, fun y hy => by simp at hy⟩
      case round =>
        obtain ⟨k, S, l, hk, rfl, hlk, hL, hTk⟩ := hrel
        have HQ := Lib.hid hL
        have HTO := Lib.hid hTk
        clear hTk
        by_cases hlt : k < n
        · obtain ⟨b, off, f, rfl, hb, hf⟩ := (HL.out.below hL.ht.bel).at_ hlt
          obtain ⟨kd, wh, rw, ti, tg, ⟨ea, er, eh, ep⟩⟩ := f
          obtain ⟨f0, f1, f2, f3, f4, f5, f6, f7, f8⟩ := hf
          dsimp only at f0 f1 f2 f3 f4 f5 f6 f7 f8
          have g0 : wr.cell? ⟨b, off + k * 9, none⟩ = some (.int .i64 kd) := f0
          clear f0
          have hL1 := hL.alloc hT (.cells #[.int .i64 kd, .int .i64 wh, .bool rw, .int .i64 ti, .int .i64 tg, .int .i64 ea, .int .i64 er, .bool eh, .bool ep] 37)
          have TK := token_of ⟨kd, wh, rw, ti, tg, ⟨ea, er, eh, ep⟩⟩ _ l _ _ hL1.tr (by omega)
          unfold Ac.cells at TK
          dsimp only at TK
          have HTK := Lib.hid TK
          have HL1 := Lib.hid hL1
          have HX1 := Lib.hid (Whole.fresh wr 37 #[.int .i64 kd, .int .i64 wh, .bool rw, .int .i64 ti, .int .i64 tg, .int .i64 ea, .int .i64 er, .bool eh, .bool ep])
          have HF := Lib.hid (hL.not hL.le)
          clear TK hL1 hL
          go_wp2_with fail
          refine HTK.out.mono ?_
          rintro e w3 ⟨⟨xi, xg⟩, rfl, _, hb3⟩
          have hL3 := (HL1.out.later hT hb3).alloc hT (.cells #[.int .i64 xi, .int .i64 xg] 33)
          have x3 := (HX1.out.below hb3 HX1.out.lt).alloc (.cells #[.int .i64 xi, .int .i64 xg] 33)
          have y3 := Whole.fresh w3 33 #[.int .i64 xi, .int .i64 xg]
          have a0 : (w3.alloc (.cells #[.int .i64 xi, .int .i64 xg] 33)).cell? ⟨wr.heap.size, 0, none⟩ = some (.int .i64 kd) := x3.cell 0
          have a5 : (w3.alloc (.cells #[.int .i64 xi, .int .i64 xg] 33)).cell? ⟨wr.heap.size, 5, none⟩ = some (.int .i64 ea) := x3.cell 5
          have a6 : (w3.alloc (.cells #[.int .i64 xi, .int .i64 xg] 33)).cell? ⟨wr.heap.size, 6, none⟩ = some (.int .i64 er) := x3.cell 6
          have a7 : (w3.alloc (.cells #[.int .i64 xi, .int .i64 xg] 33)).cell? ⟨wr.heap.size, 7, none⟩ = some (.bool eh) := x3.cell 7
          have a8 : (w3.alloc (.cells #[.int .i64 xi, .int .i64 xg] 33)).cell? ⟨wr.heap.size, 8, none⟩ = some (.bool ep) := x3.cell 8
          obtain ⟨b0, b1⟩ := y3.two
          have HL3 := Lib.hid hL3
          clear hb3 HTK HL1 HX1 x3 y3 HQ g0 f1 f2 f3 f4 f5 f6 f7 f8
          by_cases k0 : kd = 0
          · subst k0
            by_cases hfr : freeAt S N < N
            · have HOK := Lib.hid (addI_ok hL3.ht.st)
              have A1 := Lib.hid (add_at hL3.ht.st hL3.ht.tab ⟨ea, er, eh, ep⟩ ⟨rfl, rfl, (show addE S N = 0 by unfold addE; rw [if_pos hfr])⟩)
              clear hL3 hfr
              go_wp2_with fail
              refine A1.out.mono ?_
              rintro e w4 ⟨rfl, ho4, hs4⟩
              have hL4 := (HL3.out.step hT ho4 hs4).alloc hT (.cells #[.int .i64 (addI S N : Nat), .int .i64 (addG S N : Nat)] 33)
              have HL4 := Lib.hid hL4
              have HL5 := Lib.hid (hL4.alloc hT (.cells #[.int .i64 (addI S N : Nat), .int .i64 (addG S N : Nat)] 33))
              obtain ⟨c0, c1⟩ := (Whole.fresh w4 33 #[.int .i64 (addI S N : Nat), .int .i64 (addG S N : Nat)]).two
              clear hL4 ho4 hs4 A1
              go_wp2_with (first
                | (at_builtin; refine append_tok _ rfl _ _ rfl _ _ l rfl HL5.out.tr _ _ _ _ rfl (Whole.fresh' (by simp)) (by omega) HL5.out.le ?_; intro v' w6 hr6 hg6; have HR6 := Lib.hid hr6; have HG6 := Lib.hid hg6; clear hr6 hg6))
              go_roundw
              case rel => exact ⟨k + 1, _, _, by omega, by go_num, by simp; omega, HL4.out.grown hT HR6.out HG6.out, fun y hy => by
                rcases List.mem_append.1 hy with h | h
                · exact HTO.out y h
                · simp at h; subst h; exact HOK.out⟩
              case measure => simp [intOf]; omega
            · have A1 := Lib.hid (add_at hL3.ht.st hL3.ht.tab ⟨ea, er, eh, ep⟩ ⟨rfl, rfl, (show addE S N = 12 by unfold addE; rw [if_neg hfr])⟩)
              clear hL3 hfr
              go_wp2_with fail
              refine A1.out.mono ?_
              rintro e w4 ⟨rfl, ho4, hs4⟩
              have HL4 := Lib.hid ((HL3.out.step hT ho4 hs4).alloc hT (.cells #[.int .i64 (addI S N : Nat), .int .i64 (addG S N : Nat)] 33))
              clear ho4 hs4 A1
              go_wp2
              go_roundw
              case rel => exact ⟨k + 1, _, l, by omega, by go_num, by omega, HL4.out, HTO.out⟩
              case measure => simp [intOf]; omega
          · have d0 : (kd == 0) = false := by simpa using k0
            by_cases k2 : kd = 2
            · subst k2
              have A1 : Calls Tryd.prog 18 #[.pointer (some ⟨B.t, 0, none⟩), .agg #[.int .i64 xi, .int .i64 xg], .agg #[.int .i64 ea, .int .i64 er, .bool eh, .bool ep]] _ _ := set_all hL3.ht.st xi xg ⟨ea, er, eh, ep⟩
              have HA1 := Lib.hid A1
              clear hL3 A1
              go_wp2_with fail
              refine HA1.out.mono ?_
              rintro e w4 ⟨rfl, ho4, hs4⟩
              have HL4 := Lib.hid (HL3.out.step hT ho4 hs4)
              clear ho4 hs4 HA1
              go_wp2
              go_roundw
              case rel => exact ⟨k + 1, _, l, by omega, by go_num, by omega, HL4.out, HTO.out⟩
              case measure => simp [intOf]; omega
            · have d2 : (kd == 2) = false := by simpa using k2
              by_cases k3 : kd = 3
              · subst k3
                have HA1 := Lib.hid (drop_all hL3.ht.st xi xg)
                clear hL3
                go_wp2_with fail
                refine HA1.out.mono ?_
                rintro e w4 ⟨rfl, ho4, hs4⟩
                have HL4 := Lib.hid (HL3.out.step hT ho4 hs4)
                clear ho4 hs4 HA1
                go_wp2
                go_roundw
                case rel => exact ⟨k + 1, _, l, by omega, by go_num, by omega, HL4.out, HTO.out⟩
                case measure => simp [intOf]; omega
              · have d3 : (kd == 3) = false := by simpa using k3
                clear hL3
                go_wp2
                go_roundw
                case rel => exact ⟨k + 1, _, l, by omega, by go_num, by omega, HL3.out, HTO.out⟩
                case measure => simp [intOf]; omega
        · clear hL
          go_wp2
          go_ret2
          exact .inr ⟨by omega, B, N, S, _, _, l, rfl, N2, by omega, HQ.out, HTO.out⟩
end Go.Proofs.YtldlolgdglmocaaDoor
