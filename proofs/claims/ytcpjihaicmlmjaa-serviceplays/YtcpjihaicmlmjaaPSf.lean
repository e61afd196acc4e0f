/- Services: what a Handle told. -/
import Derived.Test.YtcpjihaicmlmjaaPSb
import Derived.Shelf.Strconv.Clone
namespace Go.Proofs.Ytcpjihaicmlmjaa
open Go.Shelf
def clone_ren : Go.Shelf.Ren := ⟨fun | 316 => 41 | n => n, fun | 0 => 0 | 3 => 3 | 4 => 4 | 5 => 5 | 9 => 9 | 37 => 66 | 127 => 75 | n => n, fun | n => n⟩
theorem clone_lays : Go.Proofs.LaysM.n316 Try.prog clone_ren := {
  mixed := by kernel_rfl
  f316 := Try.func41.trans (congrArg some (by kernel_rfl))
  t0 := Try.underlying0
  a0 := Try.isAgg0
  z0 := Try.sizeOf0
  v0 := Try.zeroValue0
  t3 := Try.underlying3
  a3 := Try.isAgg3
  z3 := Try.sizeOf3
  v3 := Try.zeroValue3
  t4 := Try.underlying4
  a4 := Try.isAgg4
  z4 := Try.sizeOf4
  v4 := Try.zeroValue4
  t9 := Try.underlying9
  a9 := Try.isAgg9
  z9 := Try.sizeOf9
  v9 := Try.zeroValue9
  t37 := Try.underlying66
  a37 := Try.isAgg66
  z37 := Try.sizeOf66
  v37 := Try.zeroValue66
  t127 := Try.underlying75
  a127 := Try.isAgg75
  z127 := Try.sizeOf75
  v127 := Try.zeroValue75
  t5 := Try.underlying5
  a5 := Try.isAgg5
  z5 := Try.sizeOf5
  v5 := Try.zeroValue5
  i0 := by kernel_rfl
  i3 := by kernel_rfl
  i4 := by kernel_rfl
  i5 := by kernel_rfl
  i9 := by kernel_rfl
  i37 := by kernel_rfl
  i127 := by kernel_rfl }
theorem clone_inner (s : ByteArray) (w : World) (hlim : s.size ≤ 281474976710656) :
    Calls Try.prog 41 #[.string s] w fun e w' => e = .returned (.string s) ∧ Go.RowKit.Below w.heap.size w w' := Any.stringslite_Clone clone_lays s w hlim
open Go.RowKit in
theorem clone_any (s : ByteArray) (w : World) (hlim : s.size ≤ 281474976710656) :
    Calls Try.prog 34 #[.string s] w fun e w' => e = .returned (.string s) ∧ Below w.heap.size w w' := by
  have H : Hid (Calls Try.prog 41 #[.string s] w fun e w' => e = .returned (.string s) ∧ Below w.heap.size w w') := clone_inner s w hlim
  clear hlim
  go_enter Try.func34, Try.ntmps34
  go_wp2_with fail
  refine H.out.mono ?_
  rintro e w' ⟨rfl, hB⟩
  have HB : Hid (Below w.heap.size w w') := hB
  clear hB
  go_wp2
  go_ret
  exact ⟨rfl, HB.out⟩
open Go.RowKit
/-- what becomes of what a Handle told -/
def toldP (a : Int) (s : ByteArray) : Int × ByteArray := if (a == 0 && okR s.size) = true then (0, s) else if (a == 4) = true then (4, ⟨#[]⟩) else (5, ⟨#[]⟩)
abbrev tup (r : Int × ByteArray) : Value := .tuple #[.int .i64 r.1, .string r.2]
theorem trusted_any (a : Int) (s : ByteArray) (w : World) :
    Calls Try.prog 24 #[.int .i64 a, .string s] w fun e w' => e = .returned (tup (toldP a s)) ∧ Below w.heap.size w w' := by
  have HR := hid (fun w => results_any s w)
  have HCL : Hid (okR s.size = true → ∀ w, Calls Try.prog 34 #[.string s] w fun e w' => e = .returned (.string s) ∧ Below w.heap.size w w') := fun h w => clone_any s w (by
    unfold okR at h
    simp only [Bool.and_eq_true, decide_eq_true_eq] at h
    omega)
  unfold toldP
  generalize okR s.size = k at *
  cases ha : (a == 0)
  · cases h4 : (a == 4)
    all_goals (
      go_enter Try.func24, Try.ntmps24
      go_wp2
      go_ret2
      exact ⟨rfl, Below.refl _ _⟩)
  · obtain rfl : a = 0 := by simpa using ha
    cases k
    · go_enter Try.func24, Try.ntmps24
      go_wp2_with fail
      refine (HR.out _).mono ?_
      rintro _ w' ⟨rfl, hw'⟩
      have HB' : Hid (Below w.heap.size w w') := by rw [hw']; exact Below.refl _ _
      clear hw'
      go_wp2
      go_ret2
      exact ⟨rfl, HB'.out⟩
    · have HCL2 := hid (HCL.out rfl)
      go_enter Try.func24, Try.ntmps24
      go_wp2_with fail
      refine (HR.out _).mono ?_
      rintro _ w' ⟨rfl, hw'⟩
      subst hw'
      go_wp2_with fail
      refine (HCL2.out _).mono ?_
      rintro _ w1 ⟨rfl, hB⟩
      have HB' := hid hB
      clear hB
      go_wp2
      go_ret2
      exact ⟨rfl, HB'.out⟩
theorem told_any (a : Int) (s : ByteArray) (w : World) :
    Calls Try.prog 36 #[.int .i64 a, .string s] w fun e w' => e = .returned (tup (toldP a s)) ∧ w' = w := by
  obtain ⟨n, hn⟩ : ∃ n : Int, (s.size : Int) = n := ⟨_, rfl⟩
  have e : okR s.size = (decide (n ≤ 1000) && (n % 4 == 0)) := by
    unfold okR
    rw [← hn, show ((s.size : Int) % 4 == 0) = decide ((s.size : Int) % 4 = 0) from rfl]
    congr 1 <;> rw [decide_eq_decide] <;> omega
  unfold toldP
  rw [e]
  have hn0 : 0 ≤ n := by omega
  have hm : n.tmod 4 = n % 4 := Int.tmod_eq_emod_of_nonneg hn0
  obtain ⟨m, hm2⟩ : ∃ m, n % 4 = m := ⟨_, rfl⟩
  rw [hm2] at hm ⊢
  clear e hm2
  cases ha : (a == 0)
  · cases h4 : (a == 4)
    · cases h5 : (a == 5)
      · go_enter Try.func36, Try.ntmps36
        go_wp2
        go_ret2
        exact ⟨rfl, rfl⟩
      · obtain rfl : a = 5 := by simpa using h5
        go_enter Try.func36, Try.ntmps36
        go_wp2
        go_ret2
        exact ⟨rfl, rfl⟩
    · obtain rfl : a = 4 := by simpa using h4
      go_enter Try.func36, Try.ntmps36
      go_wp2
      go_ret2
      exact ⟨rfl, rfl⟩
  · obtain rfl : a = 0 := by simpa using ha
    cases h1 : decide (n ≤ 1000)
    · go_enter Try.func36, Try.ntmps36
      go_wp2
      go_ret2
      exact ⟨rfl, rfl⟩
    · cases h2 : (m == 0)
      · have h3 : ¬ m = 0 := by simpa using h2
        go_enter Try.func36, Try.ntmps36
        go_wp2
        go_ret2
        exact ⟨rfl, rfl⟩
      · obtain rfl : m = 0 := by simpa using h2
        go_enter Try.func36, Try.ntmps36
        go_wp2
        go_ret2
        exact ⟨rfl, rfl⟩
end Go.Proofs.Ytcpjihaicmlmjaa
