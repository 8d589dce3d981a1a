/- No token is told twice: plain data, and the state of the law TableOnce. -/
import Derived.Test.YtldlolgdglmocaaDoorTbSets
import Derived.Test.YtldlolgdglmocaaDoorTbRet
namespace Go.Proofs.YtldlolgdglmocaaDoor
open Go.RowKit

theorem cnt_one (f f' : Nat → Bool) (k : Nat) (hf : f k = false) (hf' : f' k = true) (ho : ∀ q, q ≠ k → f' q = f q) : ∀ N, k < N → BM.cnt f' N = BM.cnt f N + 1
  | 0, h => absurd h (by omega)
  | N + 1, h => by
    rw [BM.cnt, BM.cnt]
    by_cases e : k = N
    · subst e
      rw [hf, hf', BM.cnt_congr f' f k fun i hi => ho i (by omega)]
      rfl
    · rw [cnt_one f f' k hf hf' ho N (by omega), ho N (fun h => e h.symm)]
      omega
structure OnceI (S : Nat → Sl) (N : Nat) (l lg : List (Int × Int)) : Prop where
  told : ∀ x ∈ l, ∃ k y : Nat, x = ((k : Int), (y : Int)) ∧ (y < (S k).gen ∨ (y = (S k).gen ∧ (S k).used = true))
  gone : ∀ x ∈ lg, ∃ k y : Nat, x = ((k : Int), (y : Int)) ∧ y < (S k).gen
  cnt : BM.cnt (isUsed S) N + lg.length = l.length
theorem once_new (N : Nat) : OnceI (fun _ => Sl.first) N [] [] := ⟨fun _ h => by simp at h, fun _ h => by simp at h, by rw [BM.cnt_none (isUsed fun _ => Sl.first) _ (fun _ _ => rfl)]; rfl⟩
section
variable {S : Nat → Sl} {N : Nat} {l lg : List (Int × Int)}
theorem OnceI.add (h : OnceI S N l lg) (hf : freeAt S N < N) (e : En) : OnceI (addSt S N e) N (l ++ [(((addI S N : Nat) : Int), ((addG S N : Nat) : Int))]) lg := by
  obtain ⟨hu, hg⟩ := freeAt_is hf
  unfold addSt addI addG
  rw [if_pos hf, if_pos hf, if_pos hf]
  generalize freeAt S N = k at *
  have hgen : ∀ q, (addS S k e q).gen = (S q).gen := fun q => by
    unfold addS
    by_cases eq : q = k
    · subst eq; rw [upd_same]
    · rw [upd_other _ _ eq]
  have hk : (addS S k e k).used = true := by unfold addS; rw [upd_same]
  refine ⟨fun x hx => ?_, fun x hx => ?_, ?_⟩
  · rcases List.mem_append.1 hx with hx | hx
    · obtain ⟨q, y, rfl, h1⟩ := h.told x hx
      refine ⟨q, y, rfl, ?_⟩
      rw [hgen]
      rcases h1 with h1 | ⟨h1, h2⟩
      · exact .inl h1
      · refine .inr ⟨h1, ?_⟩
        by_cases eq : q = k
        · subst eq; exact hk
        · unfold addS; rw [upd_other _ _ eq]; exact h2
    · simp at hx
      exact ⟨k, (S k).gen, hx, .inr ⟨by rw [hgen], hk⟩⟩
  · obtain ⟨q, y, rfl, h1⟩ := h.gone x hx
    exact ⟨q, y, rfl, by rw [hgen]; exact h1⟩
  · have := cnt_one (isUsed S) (isUsed (addS S k e)) k hu hk (fun q hq => by unfold isUsed addS; rw [upd_other _ _ hq]) N hf
    have := h.cnt
    simp
    omega
theorem OnceI.drop (h : OnceI S N l lg) {i g : Int} (hf : freshB S N i g = true) : OnceI (dropSt S N i g) N l (lg ++ [(i, g)]) := by
  unfold dropSt
  rw [if_pos hf]
  obtain ⟨k, rfl, hk, hu, rfl⟩ := freshB_iff.1 hf
  rw [Int.toNat_natCast]
  have hgen : ∀ q, (S q).gen ≤ (dropS S k q).gen := fun q => by
    unfold dropS
    by_cases eq : q = k
    · subst eq; rw [upd_same]; exact Nat.le_succ _
    · rw [upd_other _ _ eq]; exact Nat.le_refl _
  have hgk : (dropS S k k).gen = (S k).gen + 1 := by unfold dropS; rw [upd_same]
  refine ⟨fun x hx => ?_, fun x hx => ?_, ?_⟩
  · obtain ⟨q, y, rfl, h1⟩ := h.told x hx
    refine ⟨q, y, rfl, ?_⟩
    by_cases eq : q = k
    · subst eq; rw [hgk]; left; omega
    · unfold dropS; rw [upd_other _ _ eq]; exact h1
  · rcases List.mem_append.1 hx with hx | hx
    · obtain ⟨q, y, rfl, h1⟩ := h.gone x hx
      exact ⟨q, y, rfl, Nat.lt_of_lt_of_le h1 (hgen q)⟩
    · simp at hx
      exact ⟨k, (S k).gen, hx, by omega⟩
  · have := cnt_one (isUsed (dropS S k)) (isUsed S) k (by unfold isUsed dropS; rw [upd_same]) hu (fun q hq => by unfold isUsed dropS; rw [upd_other _ _ hq]) N hk
    have := h.cnt
    simp
    omega
theorem OnceI.nodrop (h : OnceI S N l lg) {i g : Int} (hf : freshB S N i g = false) : OnceI (dropSt S N i g) N l lg := by
  unfold dropSt
  rw [hf]
  exact h
theorem OnceI.stale (h : OnceI S N l lg) {j : Nat} {i g : Int} (hx : lg[j]? = some (i, g)) : freshB S N i g = false := by
  obtain ⟨k, y, e, h1⟩ := h.gone _ (List.mem_of_getElem? hx)
  injection e with e1 e2
  subst e1 e2
  refine freshB_not fun q hq _ _ hg => ?_
  obtain rfl : k = q := by omega
  omega
theorem OnceI.new (h : OnceI S N l lg) (hf : freeAt S N < N) {j : Nat} {i g : Int} (hx : l[j]? = some (i, g)) : ¬ (i = (addI S N : Nat) ∧ g = (addG S N : Nat)) := by
  rintro ⟨rfl, rfl⟩
  obtain ⟨hu, _⟩ := freeAt_is hf
  obtain ⟨k, y, e, h1⟩ := h.told _ (List.mem_of_getElem? hx)
  unfold addI addG at e
  rw [if_pos hf, if_pos hf] at e
  injection e with e1 e2
  have e3 : freeAt S N = k := by omega
  rw [e3] at hu e2
  rw [hu] at h1
  rcases h1 with h1 | ⟨_, h1⟩
  · omega
  · cases h1
theorem stale_set {i g : Int} {e : En} (h : freshB S N i g = false) : setSt S N i g e = S := by unfold setSt; rw [h]; rfl
theorem stale_drop {i g : Int} (h : freshB S N i g = false) : dropSt S N i g = S := by unfold dropSt; rw [h]; rfl
theorem stale_get {i g : Int} (h : freshB S N i g = false) : getE S N i g = En.zero := by unfold getE; rw [h]; rfl
end

/-- A table, the tokens told, those that are gone. -/
structure Lo (w0 w : World) (B : TB) (N : Nat) (S : Nat → Sl) (base : Nat) (v : Value) (l : List (Int × Int)) (u : Value) (lg : List (Int × Int)) : Prop where
  lt : Lt w0 w B N S base v l
  tr : TR w base u lg
  ne : ∀ g, v.ownBlock = some g → u.ownBlock ≠ some g
section
variable {w0 w w' : World} {B : TB} {N base : Nat} {S S' : Nat → Sl} {v v' u u' : Value} {l l' lg lg' : List (Int × Int)}
theorem Lo.step (h : Lo w0 w B N S base v l u lg) (hT : Tab w0) (ho : Aft B.wr w w') (hs : TbAt w' B N S') : Lo w0 w' B N S' base v l u lg :=
  ⟨h.lt.step hT ho hs, h.tr.aft ho h.lt.win.wr, h.ne⟩
theorem Lo.later (h : Lo w0 w B N S base v l u lg) (hT : Tab w0) (hb : Below w.heap.size w w') : Lo w0 w' B N S base v l u lg := ⟨h.lt.later hT hb, h.tr.below hb, h.ne⟩
theorem Lo.alloc (h : Lo w0 w B N S base v l u lg) (hT : Tab w0) (o : Obj) : Lo w0 (w.alloc o) B N S base v l u lg := h.later hT ((Below.refl _ _).alloc (Nat.le_refl _) o)
theorem Lo.drewN (h : Lo w0 w B N S base v l u lg) (m : Nat) : Lo w0 (w.drewN m) B N S base v l u lg := ⟨h.lt.drewN m, h.tr.keep fun _ _ _ => rfl, h.ne⟩
theorem own_apart {a b : Value} (h : ∀ g, a.ownBlock = some g → b.ownBlock ≠ some g) : b.ownBlock = none ∨ b.ownBlock ≠ a.ownBlock := by
  cases hv : b.ownBlock with
  | none => exact .inl rfl
  | some k => exact .inr fun hu => h k hu.symm hv
theorem own_new {a a' b : Value} {n : Nat} (h : ∀ g, a.ownBlock = some g → b.ownBlock ≠ some g) (hat : a'.ownBlock = a.ownBlock ∨ a'.ownBlock = some n) (hb : ∀ g, b.ownBlock = some g → g < n) : ∀ g, a'.ownBlock = some g → b.ownBlock ≠ some g := by
  intro g hg hv
  rcases hat with hat | hat
  · exact h g (hat.symm.trans hg) hv
  · have e1 := hat.symm.trans hg
    injection e1 with e1
    have := hb g hv
    omega
/-- Behind an append to the tokens told. -/
theorem Lo.told (h : Lo w0 w B N S base v l u lg) (hT : Tab w0) {tmp : Obj} (hr : TR w' base v' l') (hg : (w.alloc tmp).grownBy w' v.ownBlock) (hat : v'.ownBlock = v.ownBlock ∨ v'.ownBlock = some (w.alloc tmp).heap.size) : Lo w0 w' B N S base v' l' u lg :=
  ⟨h.lt.grown hT hr hg, (h.tr.alloc tmp).kept hg (own_apart h.ne), own_new h.ne hat fun g hu => by have := (h.tr.lt g hu).2; simp; omega⟩
/-- Behind an append to those gone. -/
theorem Lo.gone (h : Lo w0 w B N S base v l u lg) (hT : Tab w0) {tmp : Obj} (hr : TR w' base u' lg') (hg : (w.alloc tmp).grownBy w' u.ownBlock) (hat : u'.ownBlock = u.ownBlock ∨ u'.ownBlock = some (w.alloc tmp).heap.size) : Lo w0 w' B N S base v l u' lg' := by
  have hne : ∀ g, u.ownBlock = some g → v.ownBlock ≠ some g := fun g hg hv => h.ne g hv hg
  have hlt := h.tr.lt
  have hle := h.lt.le
  have hb : Below base w w' := ((Below.refl base w).alloc h.lt.le tmp).grown hg (by simp; omega) (fun g hg => (hlt g hg).1)
  have hs : w.heap.size ≤ w'.heap.size := hb.size
  have hbw : Below w0.heap.size w0 w' := h.lt.ht.bel.trans (hb.mono (by obtain ⟨⟨a1, a2⟩, _⟩ := h.lt.win; omega))
  refine ⟨⟨⟨h.lt.ht.st.below hb h.lt.win, hbw, h.lt.ht.win.more hs, hT.below hbw hT.pos⟩, (h.lt.tr.alloc tmp).kept hg (own_apart hne), h.lt.win, Nat.le_trans h.lt.le hs⟩, hr, ?_⟩
  have hn := own_new hne hat fun g hu => by have := (h.lt.tr.lt g hu).2; simp; omega
  exact fun g hv hu => hn g hu hv
theorem lo_new {w1 : World} (h : Ht w0 w1 B N S) : Lo w0 w1 B N S w1.heap.size (.slice none 0 0) [] (.slice none 0 0) [] := ⟨lt_new h, TR.nil _ _, fun g h => by simp [Value.ownBlock] at h⟩
end
set_option maxRecDepth 10000 in
/-- append_tok, with where the row went. -/
theorem append_tok2 (w : World) {ops : Array Oper} {rest : List Oper} {o : Oper} {a : Act} {Q : Exit → Act → World → Prop} (hgd : o.guard = none) (s x : Operand)
    (ho : o.op = .call { callee := .builtin .append, args := #[s, x], argTypes := #[31, 31] })
    (base : Nat) (v : Value) (l : List (Int × Int)) (hs : a.eval s = v) (hown : TR w base v l)
    (g : Nat) (t : TypeId) (p q : Int) (hx : a.eval x = .slice (some ⟨g, 0, none⟩) 1 1) (hw : Whole w g t #[.int .i64 p, .int .i64 q])
    (h63 : l.length ≤ 1000000) (hbase : base ≤ w.heap.size)
    (h : ∀ v' w', TR w' base v' (l ++ [(p, q)]) → w.grownBy w' v.ownBlock → (v'.ownBlock = v.ownBlock ∨ v'.ownBlock = some w.heap.size) → wpList Tryd.prog ops Q rest (a.put o.dst v') w') : wpList Tryd.prog ops Q (o :: rest) a w := by
  obtain ⟨i0, hi0, hz0, hz1, hz2⟩ := infoTok_parts
  obtain ⟨k0, k1⟩ := hw.two
  refine wpList_append_own_at w hgd s x 31 ho base 33 i0 _ 2 16 Tryd.underlying31 hi0 hz0 hz1 hz2 rfl (by decide) v l.length (flatT l) hs hown ⟨g, 0, none⟩ 1 1 (flatT [(p, q)]) hx (by rw [flatT_len]; rfl) ?_ (flatT_one _) (by unfold maxLen; omega) (by omega) hbase ?_
  · intro j u hu
    have hj : j < 2 := by
      have := (List.getElem?_eq_some_iff.1 hu).1
      rw [flatT_len] at this
      simpa using this
    match j, hj with
    | 0, _ => simp [flatT, encT] at hu; subst hu; exact k0
    | 1, _ => simp [flatT, encT] at hu; subst hu; exact k1
  · intro v' w' h1 h2 _ h4
    refine h v' w' ?_ h2 h4
    unfold TR
    rw [flatT_app, List.length_append]
    exact h1
theorem Whole.apart {w : World} {g base : Nat} {t : TypeId} {cs : Array Value} {v : Value} {l : List (Int × Int)} (h : Whole w g t cs) (hr : TR w base v l) (ht : t ≠ 33) : some g ≠ v.ownBlock := by
  rcases hr.2 with ⟨rfl, _⟩ | ⟨g', cap, cur, rfl, hg, hh, _⟩
  · simp [Value.ownBlock]
  · intro e
    simp [Value.ownBlock] at e
    subst e
    unfold Whole at h
    rw [hh] at h
    simp at h
    exact ht h.2.symm
theorem Whole.kept {w w' : World} {g : Nat} {t : TypeId} {cs : Array Value} {tmp : Obj} {r : Option Nat} (h : Whole w g t cs) (hg : (w.alloc tmp).grownBy w' r) (hne : some g ≠ r) : Whole w' g t cs := (hg.block g (h.alloc tmp).lt hne).trans (h.alloc tmp)
theorem size6 (n : Int) : ∃ N : Nat, 1 ≤ N ∧ N ≤ 6 ∧ 1 + (if n < 0 then 0 else n) % 6 = (N : Int) := by
  refine ⟨(1 + (if n < 0 then 0 else n) % 6).toNat, ?_⟩
  split <;> omega
end Go.Proofs.YtldlolgdglmocaaDoor
