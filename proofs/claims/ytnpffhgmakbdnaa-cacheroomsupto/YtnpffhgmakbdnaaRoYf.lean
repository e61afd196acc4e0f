/- strings.Clone: the same bytes (the shelf's contract at this program). -/
import Derived.Test.YtnpffhgmakbdnaaRoMm
import Derived.Shelf.Strconv.Clone
namespace Go.Proofs.Ytnpffhgmakbdnaa
open Go.Shelf
def clone_ren : Go.Shelf.Ren := ⟨fun | 316 => 41 | n => n, fun | 0 => 0 | 3 => 3 | 4 => 4 | 5 => 5 | 9 => 9 | 37 => 95 | 127 => 96 | n => n, fun | n => n⟩
theorem clone_lays : Go.Proofs.LaysM.n316 Try.prog clone_ren := {
  mixed := by kernel_rfl
  f316 := Try.func41.trans (congrArg some (by kernel_rfl))
  t0 := Try.underlying0
  a0 := Try.isAgg0
  z0 := Try.sizeOf0
  v0 := Try.zeroValue0
  t3 := Try.underlying3
  a3 := Try.isAgg3
  z3 := Try.sizeOf3
  v3 := Try.zeroValue3
  t4 := Try.underlying4
  a4 := Try.isAgg4
  z4 := Try.sizeOf4
  v4 := Try.zeroValue4
  t9 := Try.underlying9
  a9 := Try.isAgg9
  z9 := Try.sizeOf9
  v9 := Try.zeroValue9
  t37 := Try.underlying95
  a37 := Try.isAgg95
  z37 := Try.sizeOf95
  v37 := Try.zeroValue95
  t127 := Try.underlying96
  a127 := Try.isAgg96
  z127 := Try.sizeOf96
  v127 := Try.zeroValue96
  t5 := Try.underlying5
  a5 := Try.isAgg5
  z5 := Try.sizeOf5
  v5 := Try.zeroValue5
  i0 := by kernel_rfl
  i3 := by kernel_rfl
  i4 := by kernel_rfl
  i5 := by kernel_rfl
  i9 := by kernel_rfl
  i37 := by kernel_rfl
  i127 := by kernel_rfl }

theorem clone_inner (s : ByteArray) (w : World) (hlim : s.size ≤ 281474976710656) :
    Calls Try.prog 41 #[.string s] w fun e w' => e = .returned (.string s) ∧ Go.RowKit.Below w.heap.size w w' := Any.stringslite_Clone clone_lays s w hlim

open Go.RowKit in
theorem clone_any (s : ByteArray) (w : World) (hlim : s.size ≤ 281474976710656) :
    Calls Try.prog 29 #[.string s] w fun e w' => e = .returned (.string s) ∧ Below w.heap.size w w' := by
  have H : Hid (Calls Try.prog 41 #[.string s] w fun e w' => e = .returned (.string s) ∧ Below w.heap.size w w') := clone_inner s w hlim
  clear hlim
  go_enter Try.func29, Try.ntmps29
  go_wp2_with fail
  refine H.out.mono ?_
  rintro e w' ⟨rfl, hB⟩
  have HB : Hid (Below w.heap.size w w') := hB
  clear hB
  go_wp2
  go_ret
  exact ⟨rfl, HB.out⟩



end Go.Proofs.Ytnpffhgmakbdnaa
