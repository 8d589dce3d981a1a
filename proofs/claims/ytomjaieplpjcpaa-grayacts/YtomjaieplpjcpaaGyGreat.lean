/- The law package's great: are acts more than are looked at? -/
import Derived.Test.YtomjaieplpjcpaaGyActsM
import Derived.Test.YtomjaieplpjcpaaGyAlive
namespace Go.Proofs.Ytomjaieplpjcpaa
open Go.RowKit Go.Lib Go.Sort Go.Maps
set_option linter.unusedVariables false

/-- What great leaves. -/
def GrtE (n : Nat) (ls : List Ac) (w : World) (e : Ending) (w' : World) : Prop := ∃ b, e = .returned (.bool b) ∧ (b = false → n ≤ 80 ∧ ∀ a ∈ ls, a.xs.length ≤ 40) ∧ Below w.heap.size w w'
set_option maxHeartbeats 1000000 in
theorem agreat_any {w : World} {A : Option Addr} {n c : Nat} {ls : List Ac} (h : AS w A n ls) :
    Calls Try.prog 17 #[.slice A n c] w (GrtE n ls w) := by
  have H := Lib.hid h
  have hl := h.1
  clear h
  go_enter Try.func17, Try.ntmps17
  by_cases hbig : 80 < n
  · go_wp2
    go_ret
    exact ⟨true, rfl, by simp, Below.refl _ w⟩
  · have hn : n ≤ 80 := by omega
    go_wp2
    go_loopw [10] (fun i wr => ∃ k : Nat, k ≤ n ∧ i = .int .i64 k ∧ Hid (∀ x ∈ ls.take k, x.xs.length ≤ 40) ∧ Hid (Below w.heap.size w wr)) (fun i _ => n - (intOf i).toNat)
    case atStart => exact ⟨0, Nat.zero_le _, rfl, Lib.hid (by simp), Lib.hid (Below.refl _ w)⟩
    case round =>
      obtain ⟨k, hk, rfl, HNO, HB⟩ := hrel
      by_cases hlt : k < n
      · obtain ⟨b, off, hkl, rfl, hb, c0, c1, c2, hz, _⟩ := H.out.at_ hlt
        have d0 := (HB.out.cell (p := ⟨b, _, none⟩) hb).trans c0
        have d1 := (HB.out.cell (p := ⟨b, _, none⟩) hb).trans c1
        have d2 := (HB.out.cell (p := ⟨b, _, none⟩) hb).trans c2
        have hlen := hz.len
        obtain ⟨y, hy⟩ : ∃ y, y = ls[k]'hkl := ⟨_, rfl⟩
        rw [← hy] at d0 d1 d2 hlen
        have HY := Lib.hid hy
        clear c0 c1 c2 hz hy
        obtain ⟨K, X, A', n', c', xs⟩ := y
        have hlen : xs.length = n' := hlen
        have d0 : wr.cell? ⟨b, off + k * 3, none⟩ = some (.int .i64 K) := d0
        have d1 : wr.cell? ⟨b, off + k * 3 + 1, none⟩ = some (.int .i64 X) := d1
        have d2 : wr.cell? ⟨b, off + k * 3 + 2, none⟩ = some (.slice A' n' c') := d2
        by_cases he : 40 < n'
        · go_wp2
          go_ret
          exact ⟨true, rfl, by simp, HB.out.alloc HB.out.size _⟩
        · go_wp2
          go_roundw
          case rel =>
            refine ⟨k + 1, by omega, by go_num, Lib.hid fun z hm => ?_, Lib.hid (HB.out.alloc HB.out.size _)⟩
            rw [List.take_succ_eq_append_getElem hkl, List.mem_append] at hm
            rcases hm with hm | hm
            · exact HNO.out z hm
            · rw [List.mem_singleton, ← HY.out] at hm
              rw [hm]
              show xs.length ≤ 40
              omega
          case measure => simp [intOf]; omega
      · obtain rfl : k = n := by omega
        go_wp2
        go_ret
        have hno := HNO.out
        rw [List.take_of_length_le (by omega)] at hno
        exact ⟨false, rfl, fun _ => ⟨hn, hno⟩, HB.out⟩
end Go.Proofs.Ytomjaieplpjcpaa
