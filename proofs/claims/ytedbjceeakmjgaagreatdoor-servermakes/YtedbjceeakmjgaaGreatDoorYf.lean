/- strings.Clone: the same bytes (the shelf's contract at this program). -/
import Derived.Test.YtedbjceeakmjgaaGreatDoorRows
import Derived.WalkKit
import Derived.Below
import Derived.Shelf.Strconv.Clone
namespace Go.Proofs.YtedbjceeakmjgaaGreatDoor
open Go.Shelf
def clone_ren : Go.Shelf.Ren := ⟨fun | 316 => 117 | n => n, fun | 0 => 0 | 3 => 3 | 4 => 4 | 5 => 5 | 9 => 9 | 37 => 128 | 127 => 251 | n => n, fun | n => n⟩
theorem clone_lays : Go.Proofs.LaysM.n316 Tryz.prog clone_ren := {
  mixed := by kernel_rfl
  f316 := Tryz.func117.trans (congrArg some (by kernel_rfl))
  t0 := Tryz.underlying0
  a0 := Tryz.isAgg0
  z0 := Tryz.sizeOf0
  v0 := Tryz.zeroValue0
  t3 := Tryz.underlying3
  a3 := Tryz.isAgg3
  z3 := Tryz.sizeOf3
  v3 := Tryz.zeroValue3
  t4 := Tryz.underlying4
  a4 := Tryz.isAgg4
  z4 := Tryz.sizeOf4
  v4 := Tryz.zeroValue4
  t9 := Tryz.underlying9
  a9 := Tryz.isAgg9
  z9 := Tryz.sizeOf9
  v9 := Tryz.zeroValue9
  t37 := Tryz.underlying128
  a37 := Tryz.isAgg128
  z37 := Tryz.sizeOf128
  v37 := Tryz.zeroValue128
  t127 := Tryz.underlying251
  a127 := Tryz.isAgg251
  z127 := Tryz.sizeOf251
  v127 := Tryz.zeroValue251
  t5 := Tryz.underlying5
  a5 := Tryz.isAgg5
  z5 := Tryz.sizeOf5
  v5 := Tryz.zeroValue5
  i0 := by kernel_rfl
  i3 := by kernel_rfl
  i4 := by kernel_rfl
  i5 := by kernel_rfl
  i9 := by kernel_rfl
  i37 := by kernel_rfl
  i127 := by kernel_rfl }

theorem clone_inner (s : ByteArray) (w : World) (hlim : s.size ≤ 281474976710656) :
    Calls Tryz.prog 117 #[.string s] w fun e w' => e = .returned (.string s) ∧ Go.RowKit.Below w.heap.size w w' := Any.stringslite_Clone clone_lays s w hlim

open Go.RowKit in
theorem clone_any (s : ByteArray) (w : World) (hlim : s.size ≤ 281474976710656) :
    Calls Tryz.prog 73 #[.string s] w fun e w' => e = .returned (.string s) ∧ Below w.heap.size w w' := by
  have H : Hid (Calls Tryz.prog 117 #[.string s] w fun e w' => e = .returned (.string s) ∧ Below w.heap.size w w') := clone_inner s w hlim
  clear hlim
  go_enter Tryz.func73, Tryz.ntmps73
  go_wp2_with fail
  refine H.out.mono ?_
  rintro e w' ⟨rfl, hB⟩
  have HB : Hid (Below w.heap.size w w') := hB
  clear hB
  go_wp2
  go_ret
  exact ⟨rfl, HB.out⟩



end Go.Proofs.YtedbjceeakmjgaaGreatDoor
