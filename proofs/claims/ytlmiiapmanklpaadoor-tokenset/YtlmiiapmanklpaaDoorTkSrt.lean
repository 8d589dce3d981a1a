/- Contract of Sort of package token. -/
import Derived.Test.YtlmiiapmanklpaaDoorTkApp
import Derived.Test.YtlmiiapmanklpaaDoorTkComp
import Derived.Test.YtlmiiapmanklpaaDoorTkText
namespace Go.Proofs.YtlmiiapmanklpaaDoor
open Go.RowKit

/-- All of them may be. -/
def TM.allR (l : List (Int × Int)) : Bool := l.all fun x => TM.right x.1 x.2
/-- What Sort answers. -/
def TM.sortE (l : List (Int × Int)) : Int := if TM.allR l = true then (if l.length ≤ 64 then 0 else 18) else 3
def TM.sortL (l : List (Int × Int)) : List (Int × Int) := if TM.sortE l = 0 then TM.sort l else []

theorem TM.allR_take (l : List (Int × Int)) (k : Nat) (a b : Int) (hd : l.drop k = (a, b) :: l.drop (k + 1)) (h : TM.allR (l.take k) = true) (hr : TM.right a b = true) : TM.allR (l.take (k + 1)) = true := by
  unfold TM.allR at *
  have hk : l[k]? = some (a, b) := by
    have := congrArg (fun m => m[0]?) hd
    simpa using this
  rw [List.take_add_one, List.all_append, h, hk]
  simp [hr]
theorem TM.allR_wrong (l : List (Int × Int)) (k : Nat) (a b : Int) (hd : l.drop k = (a, b) :: l.drop (k + 1)) (hr : TM.right a b = false) : TM.allR l = false := by
  unfold TM.allR
  have hk : l[k]? = some (a, b) := by
    have := congrArg (fun m => m[0]?) hd
    simpa using this
  rw [List.all_eq_false]
  exact ⟨(a, b), List.mem_of_getElem? hk, by simp [hr]⟩

theorem TM.sort_nil : TM.sort [] = [] := by
  have := (TM.sort_is []).2.2
  exact List.eq_nil_of_length_eq_zero (by simpa using this)
/-- What Sort leaves. -/
def SortIs (E : Int) (l : List (Int × Int)) (w : World) (e : Ending) (w' : World) : Prop :=
  ∃ A c, e = .returned (.tuple #[.slice A l.length c, .int .i64 E]) ∧ TS w' w'.heap.size A l.length c l ∧ Below w.heap.size w w'
theorem SortIs.none {E : Int} {w w' : World} (hb : Below w.heap.size w w') : SortIs E [] w (.returned (.tuple #[.slice none 0 0, .int .i64 E])) w' :=
  ⟨Option.none, 0, rfl, ⟨⟨rfl, fun h => absurd h (by simp)⟩, fun _ => rfl, Nat.le_refl _⟩, hb⟩

set_option maxHeartbeats 400000 in
theorem compact_tiny (p : Option Addr) (c : Nat) (w : World) :
    Calls Tryd.prog 23 #[.slice p 0 c] w fun e w' => e = .returned (.slice p 0 c) ∧ w' = w := by
  go_enter Tryd.func23, Tryd.ntmps23
  go_wp2
  go_ret
  exact ⟨rfl, rfl⟩
theorem compact_list (g c : Nat) (m : List (Int × Int)) (k : Nat) (hk : m.length = k) (w : World) (hH : RA w g m.toArray) (hsz : k ≤ 1000) (hcap : k ≤ c) :
    Calls Tryd.prog 23 #[.slice (some ⟨g, 0, none⟩) k c] w fun e w' => e = .returned (.slice (some ⟨g, 0, none⟩) (Lib.compactUpTo m.toArray k).length c) ∧ Only g w w' ∧ RA w' g (Lib.compactUpTo m.toArray k).toArray := by
  have h := compact_any g c m.toArray w hH (by simpa [hk] using hsz) (by simpa [hk] using hcap)
  simpa only [List.size_toArray, hk] using h
theorem sortFunc_list (g c : Nat) (m : List (Int × Int)) (k : Nat) (hk : m.length = k) (w : World) (hH : RA w g m.toArray) (hg : g < w.heap.size) (hsz : k ≤ 1000) (B : Nat) (hB : B ≤ g) :
    Calls Tryd.prog 22 #[.slice (some ⟨g, 0, none⟩) k c, .func (.func 15) #[] #[]] w fun e w' => e = .returned (.tuple #[]) ∧ Below B w w' ∧ RA w' g (TM.row m).toArray := by
  have h := sortFunc_any g c m.toArray w hH hg (by simp [hk]; omega) B hB
  simpa only [List.size_toArray, hk] using h

set_option maxHeartbeats 2000000 in
set_option maxRecDepth 100000 in
theorem sort_core (A : Option Addr) (n c : Nat) (l : List (Int × Int)) (E : Int) (r : List (Int × Int)) (w : World) (hn : n ≤ 1000) (hl : TS w w.heap.size A n c l)
    (N1 : Hid (TM.allR l = false → E = 3 ∧ r = [])) (N2 : Hid (TM.allR l = true → 64 < n → E = 18 ∧ r = [])) (N3 : Hid (TM.allR l = true → n ≤ 64 → E = 0 ∧ r = TM.sort l)) :
    Calls Tryd.prog 17 #[.slice A n c] w (SortIs E r w) := by
  have HL := Lib.hid hl
  clear hl
  go_enter Tryd.func17, Tryd.ntmps17
  go_wp2_with fail
  go_loopg [9] n (fun g i wr => ∃ k : Nat, k ≤ n ∧ i = .int .i64 k ∧ Hid (n - k ≤ g) ∧ Hid (TM.allR (l.take k) = true) ∧ Hid (Below w.heap.size w wr))
  case atStart => exact ⟨0, Nat.zero_le _, rfl, Lib.hid (Nat.le_refl _), Lib.hid rfl, Lib.hid (Below.refl _ _)⟩
  case round =>
    obtain ⟨k, hk, rfl, HG, HA, HB⟩ := hrel
    by_cases hlt : k < n
    · obtain ⟨b, off, x, y, rfl, hbB, hd, hc0, hc1⟩ := (HL.out.fs.below HB.out).at_ hlt
      have HD := Lib.hid hd
      have hbR : b < wr.heap.size := Nat.lt_of_lt_of_le hbB HB.out.size
      clear hd
      have hrr := tright_below x y
      by_cases hr : TM.right x y = true
      · rw [hr] at hrr
        have HR := Lib.hid hr
        clear hr
        go_wp2_with fail
        refine (hrr _).mono ?_
        rintro e w1 ⟨rfl, hb⟩
        have HB1 := Lib.hid ((HB.out.alloc HB.out.size _).trans (hb.mono (by have := HB.out.size; simp; omega)))
        clear hb
        go_wp2
        go_roundg (n - (k + 1))
        case measure => have := HG.out; omega
        case rel => exact ⟨k + 1, by omega, by go_num, Lib.hid (Nat.le_refl _), Lib.hid (TM.allR_take l k x y HD.out HA.out HR.out), HB1⟩
      · have hr' : TM.right x y = false := by simpa using hr
        rw [hr'] at hrr
        obtain ⟨rfl, rfl⟩ := N1.out (TM.allR_wrong l k x y HD.out hr')
        clear hr hr' N1 N2 N3
        go_wp2_with fail
        refine (hrr _).mono ?_
        rintro e w1 ⟨rfl, hb⟩
        have HB1 := Lib.hid ((HB.out.alloc HB.out.size _).trans (hb.mono (by have := HB.out.size; simp; omega)))
        clear hb
        go_wp2
        go_ret2
        exact SortIs.none HB1.out
    · have hkn : k = n := by omega
      subst hkn
      have hall : TM.allR l = true := by
        have := HA.out
        rwa [List.take_of_length_le (by rw [HL.out.len]; exact Nat.le_refl _)] at this
      by_cases h64 : 64 < k
      · obtain ⟨rfl, rfl⟩ := N2.out hall h64
        clear N1 N2 N3 hall
        go_wp2
        go_ret2
        exact SortIs.none HB.out
      · obtain ⟨rfl, rfl⟩ := N3.out hall (by omega)
        clear N1 N2 N3 hall HA HG
        have hsz := HB.out.size
        go_wp2_with (first
          | (at_builtin
             refine wpList_append_ts _ rfl _ _ rfl w.heap.size (.slice none 0 0) 0 [] rfl (World.ownsRow_nil _ _ _ _) w.heap.size A k c l rfl (HL.out.below HB.out) (by omega) hsz ?_
             intro v2 w2 ho2 hg2
             rw [Nat.zero_add, List.nil_append] at ho2
             obtain ⟨A2, c2, rfl, hlen, hts, hrow⟩ := own_ts ho2
             have HO := Lib.hid hts
             have HRow := Lib.hid hrow
             have HB2 := Lib.hid (HB.out.grown hg2 hsz (by simp [Value.ownBlock]))
             clear ho2 hg2 hts hrow))
        rcases Nat.eq_zero_or_pos k with hk0 | hk0
        · subst hk0
          have hl0 : l = [] := List.eq_nil_of_length_eq_zero hlen
          subst hl0
          refine (sortFunc_none A2 c2 _).mono ?_
          rintro e w3 ⟨rfl, rfl⟩
          go_wp2_with fail
          refine (compact_tiny A2 c2 _).mono ?_
          rintro e w4 ⟨rfl, rfl⟩
          go_wp2
          go_ret2
          unfold SortIs
          rw [TM.sort_nil]
          exact ⟨A2, c2, rfl, HO.out, HB2.out⟩
        · obtain ⟨g, rfl, hwg, hg2, hRA⟩ := HRow.out hk0
          have hc2 := HO.out.le
          refine (sortFunc_list g c2 l k hlen _ hRA hg2 (by omega) w.heap.size hwg).mono ?_
          rintro e w3 ⟨rfl, hb3, hR3⟩
          have HR3 := Lib.hid hR3
          have HB3 := Lib.hid (HB2.out.trans hb3)
          have hg3 : g < w3.heap.size := by
            obtain ⟨c0, _⟩ := hR3 0 (by simp [TM.row_len, hlen]; exact hk0)
            exact block_lt_of_cell c0
          clear hRA hR3 hb3 HRow HO
          go_wp2_with fail
          refine (compact_list g c2 (TM.row l) k (by rw [TM.row_len, hlen]) _ HR3.out (by omega) hc2).mono ?_
          rintro e w4 ⟨rfl, ho4, hR4⟩
          have HO4 := Lib.hid ho4
          have HR4 := Lib.hid hR4
          clear ho4 hR4
          have hsl : Lib.compactUpTo (TM.row l).toArray k = TM.sort l := by unfold TM.sort; rw [TM.row_len, hlen]
          rw [hsl]
          go_wp2
          go_ret2
          refine ⟨_, c2, rfl, ?_, HB3.out.trans (HO4.out.below hwg)⟩
          have h4 := HR4.out
          rw [hsl] at h4
          have hle := (TM.sort_is l).2.2
          exact RA.ts h4 rfl (by rw [HO4.out.size]; exact hg3) (by omega)

theorem sort_any (A : Option Addr) (n c : Nat) (l : List (Int × Int)) (w : World) (hn : n ≤ 1000) (hl : TS w w.heap.size A n c l) :
    Calls Tryd.prog 17 #[.slice A n c] w (SortIs (TM.sortE l) (TM.sortL l) w) := by
  have hlen := hl.len
  refine sort_core A n c l _ _ w hn hl (Lib.hid fun h => ?_) (Lib.hid fun h h2 => ?_) (Lib.hid fun h h2 => ?_)
  · have e : TM.sortE l = 3 := by unfold TM.sortE; rw [h]; rfl
    exact ⟨e, by unfold TM.sortL; rw [e]; rfl⟩
  · have e : TM.sortE l = 18 := by unfold TM.sortE; rw [if_pos h, if_neg (by omega)]
    exact ⟨e, by unfold TM.sortL; rw [e]; rfl⟩
  · have e : TM.sortE l = 0 := by unfold TM.sortE; rw [if_pos h, if_pos (by omega)]
    exact ⟨e, by unfold TM.sortL; rw [if_pos e]⟩
end Go.Proofs.YtlmiiapmanklpaaDoor
