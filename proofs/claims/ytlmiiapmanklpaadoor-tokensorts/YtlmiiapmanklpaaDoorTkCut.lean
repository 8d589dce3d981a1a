/- Contracts of the library's CutPrefix, Cut and Atoi, as package token calls them. -/
import Derived.Test.YtlmiiapmanklpaaDoorTkText
import Derived.Lib.CutLaws
import Derived.Lib.AtoiErrMem
namespace Go.Proofs.YtlmiiapmanklpaaDoor
open Go.RowKit Go.Sort

theorem cutPrefix_any (s : ByteArray) (w : World) : Calls Tryd.prog 25 #[.string s, .string ⟨#[35]⟩] w fun e w' => e = .returned (.tuple #[.string ⟨(Lib.trimPrefix s.data.toList [35]).toArray⟩, .bool (Lib.hasPrefix s.data.toList [35])]) ∧ w' = w :=
  Any.strings_CutPrefix Tryd.lays103 s ⟨#[35]⟩ w
theorem indexDot_any (s : ByteArray) (w : World) : Calls Tryd.prog 51 #[.string s, .string ⟨#[46]⟩] w fun e w' => e = .returned (.int .i64 (Lib.index s.data.toList [46])) ∧ w' = w := by
  rw [Lib.index_one]
  exact Any.stringslite_Index_one Tryd.lays219 s 46 w

set_option maxHeartbeats 2000000 in
set_option maxRecDepth 100000 in
theorem liteCut_any (s : ByteArray) (w : World) (hs : s.size ≤ 281474976710656) :
    Calls Tryd.prog 33 #[.string s, .string ⟨#[46]⟩] w fun e w' => e = .returned (.tuple #[.string ⟨(Lib.cut s.data.toList [46]).1.toArray⟩, .string ⟨(Lib.cut s.data.toList [46]).2.1.toArray⟩, .bool (Lib.cut s.data.toList [46]).2.2]) ∧ ∃ n, w' = w.drewN n := by
  have hI := indexDot_any s
  rcases Lib.indexB_cases s ⟨#[46]⟩ with hix | ⟨i, hix, hroom⟩
  · obtain ⟨e1, e2, e3⟩ := Lib.cutB_miss s ⟨#[46]⟩ hix
    have e1' : (⟨(Lib.cut s.data.toList [46]).1.toArray⟩ : ByteArray) = s := e1
    have e2' : (⟨(Lib.cut s.data.toList [46]).2.1.toArray⟩ : ByteArray) = ByteArray.empty := e2
    have e3' : (Lib.cut s.data.toList [46]).2.2 = false := e3
    rw [e1', e2', e3']
    have hx : Lib.index s.data.toList [46] = -1 := hix
    rw [hx] at hI
    clear hix e1 e2 e3 e1' e2' e3' hx
    go_enter Tryd.func33, Tryd.ntmps33
    go_wp2_with fail
    refine (hI _).mono ?_
    rintro e w' ⟨rfl, rfl⟩
    go_wp2
    go_ret3
    exact ⟨rfl, 0, rfl⟩
  · obtain ⟨e1, e2, e3⟩ := Lib.cutB_hit s ⟨#[46]⟩ i hix
    have e1' : (⟨(Lib.cut s.data.toList [46]).1.toArray⟩ : ByteArray) = s.extract 0 i := e1
    have e2' : (⟨(Lib.cut s.data.toList [46]).2.1.toArray⟩ : ByteArray) = s.extract (i + 1) s.size := e2
    have e3' : (Lib.cut s.data.toList [46]).2.2 = true := e3
    rw [e1', e2', e3']
    have hx : Lib.index s.data.toList [46] = i := hix
    rw [hx] at hI
    have hroom' : i + 1 ≤ s.size := hroom
    clear hix e1 e2 e3 e1' e2' e3' hx hroom
    have c1 : (0 : Int) ≤ ↑i := by omega
    have c2 : (↑i : Int) ≤ ↑s.size := by omega
    have c3 : (0 : Int) ≤ ↑i + 1 := by omega
    have c4 : (↑i + 1 : Int) ≤ ↑s.size := by omega
    go_enter Tryd.func33, Tryd.ntmps33
    go_wp2_with fail
    refine (hI _).mono ?_
    rintro e w' ⟨rfl, rfl⟩
    go_wp2_with fail
    go_region
    go_wp2
    go_ret3
    exact ⟨rfl, 1, rfl⟩

set_option maxHeartbeats 1000000 in
theorem cut_any (s : ByteArray) (w : World) (hs : s.size ≤ 281474976710656) :
    Calls Tryd.prog 26 #[.string s, .string ⟨#[46]⟩] w fun e w' => e = .returned (.tuple #[.string ⟨(Lib.cut s.data.toList [46]).1.toArray⟩, .string ⟨(Lib.cut s.data.toList [46]).2.1.toArray⟩, .bool (Lib.cut s.data.toList [46]).2.2]) ∧ ∃ n, w' = w.drewN n := by
  have hC := fun W => liteCut_any s W hs
  generalize (⟨(Lib.cut s.data.toList [46]).1.toArray⟩ : ByteArray) = p at hC ⊢
  generalize (⟨(Lib.cut s.data.toList [46]).2.1.toArray⟩ : ByteArray) = q at hC ⊢
  generalize (Lib.cut s.data.toList [46]).2.2 = f at hC ⊢
  go_enter Tryd.func26, Tryd.ntmps26
  go_wp2_with fail
  refine (hC _).mono ?_
  rintro e w' ⟨rfl, n, rfl⟩
  go_wp2
  go_ret3
  exact ⟨rfl, n, rfl⟩

theorem atoi_ok (s : ByteArray) (hs : s.size ≤ 281474976710656) (v : Int) (h : Lib.atoiAll s.data.toList = .ok v) (w : World) :
    Calls Tryd.prog 27 #[.string s] w fun e w' => e = .returned (.tuple #[.int .i64 v, .nilIface]) ∧ Below w.heap.size w w' :=
  (Any.strconv_Atoi_ok Tryd.laysC172 s (by omega) v h w).mono fun _ _ ⟨he, hw⟩ => ⟨he, by
    rcases hw with rfl | ⟨t, rfl⟩
    · exact Below.refl _ _
    · exact Lib.bytesWorld_below _ _ _⟩
theorem atoi_no (s : ByteArray) (hs : s.size ≤ 281474976710656) (h : ∀ v, Lib.atoiAll s.data.toList ≠ .ok v) (w : World) (hT : Tk w) :
    Calls Tryd.prog 27 #[.string s] w fun e w' => ∃ v N, e = .returned (.tuple #[.int .i64 v, .iface 83 (.pointer (some ⟨N, 0, none⟩))]) ∧ Below w.heap.size w w' := by
  obtain ⟨tp, p, h1⟩ := hT.syn
  obtain ⟨tp', p', h2⟩ := hT.ran
  cases hc : Lib.atoiAll s.data.toList with
  | ok v => exact absurd hc (h v)
  | «syntax» => exact (Any.strconv_Atoi_syntax_var Tryd.laysC172 s hs hc tp p w h1).mono fun _ _ ⟨N, he, _, _, hb⟩ => ⟨0, N, he, hb⟩
  | range => exact (Any.strconv_Atoi_range_var Tryd.laysC172 s hs hc tp' p' w h2).mono fun _ _ ⟨N, he, _, _, hb⟩ => ⟨_, N, he, hb⟩
/-- How Atoi ends. -/
def AtoiIs (s : ByteArray) (w : World) (e : Ending) (w' : World) : Prop :=
  ∃ v ev, e = .returned (.tuple #[.int .i64 v, ev]) ∧ Below w.heap.size w w' ∧ (ev = .nilIface ∧ Hid (Lib.atoiAll s.data.toList = .ok v) ∨ (∃ N, ev = .iface 83 (.pointer (some ⟨N, 0, none⟩))) ∧ Hid (∀ v, Lib.atoiAll s.data.toList ≠ .ok v))
theorem atoi_any (s : ByteArray) (hs : s.size ≤ 281474976710656) (w : World) (hT : Tk w) : Calls Tryd.prog 27 #[.string s] w (AtoiIs s w) := by
  by_cases h : ∃ v, Lib.atoiAll s.data.toList = .ok v
  · obtain ⟨v, h⟩ := h
    exact (atoi_ok s hs v h w).mono fun _ _ ⟨he, hb⟩ => ⟨v, _, he, hb, Or.inl ⟨rfl, Lib.hid h⟩⟩
  · have h' : ∀ v, Lib.atoiAll s.data.toList ≠ .ok v := fun v hv => h ⟨v, hv⟩
    exact (atoi_no s hs h' w hT).mono fun _ _ ⟨v, N, he, hb⟩ => ⟨v, _, he, hb, Or.inr ⟨⟨N, rfl⟩, Lib.hid h'⟩⟩
end Go.Proofs.YtlmiiapmanklpaaDoor
