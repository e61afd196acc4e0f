/- The law's own first call, run to its end by the kernel. -/
import Derived.Test.YtedbjceeakmjgaaGreatDoorZg
namespace Go.Proofs.YtedbjceeakmjgaaGreatDoor
open Go.RowKit
noncomputable def runM : Option (Value × Ev.Mem × Nat) := Ev.evCall Tryz.prog givM 3000 4 [] .lf 1000
def goodM : Option (Value × Ev.Mem × Nat) → Bool
  | some (.bool true, _, _) => true
  | _ => false
set_option maxRecDepth 100000 in
theorem run_good : goodM runM = true := by kernel_rfl
theorem awake_any (w : World) : Calls Tryz.prog 4 #[] w fun e w' => e = .returned (.bool true) ∧ Below w.heap.size w w' := by
  have h := run_good
  unfold goodM at h
  split at h
  · rename_i h' n' hr
    have hc := Ev.evCall_ok givM_ok (by kernel_rfl) 3000 4 [] .lf 1000 (.bool true) h' n' hr (fun _ => none) w []
      ⟨fun b L hb => (by cases hb), fun _ _ => rfl, fun b b' L L' hb => (by cases hb), fun b L o hb => (by cases hb)⟩ .nil
    refine Calls.mono hc fun e w' he => ?_
    cases e with
    | returned v' =>
      obtain ⟨g, h1, h2⟩ := he
      cases h1
      exact ⟨rfl, h2.same.2.1, h2.same.1, h2.same.2.2, h2.size, fun k hk => h2.frame k hk (fun b L hb => (by cases hb))⟩
    | panicked c => exact he.elim
    | outgrown => exact he.elim
  · cases h
end Go.Proofs.YtedbjceeakmjgaaGreatDoor
