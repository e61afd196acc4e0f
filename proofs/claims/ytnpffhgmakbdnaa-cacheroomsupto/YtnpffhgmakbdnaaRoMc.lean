/- Small functions of the cache. -/
import Derived.Test.YtnpffhgmakbdnaaRoMb
namespace Go.Proofs.Ytnpffhgmakbdnaa
open Go.RowKit
def inB (n l h : Int) : Bool := decide (l ≤ n) && decide (n ≤ h)
theorem within_any (w : World) (n l h : Int) : Calls Try.prog 35 #[.int .i64 n, .int .i64 l, .int .i64 h] w fun e w' => e = .returned (.bool (inB n l h)) ∧ w' = w := by
  unfold inB
  cases h1 : decide (l ≤ n) <;> cases h2 : decide (n ≤ h)
  all_goals (
    go_enter Try.func35, Try.ntmps35
    go_wp2
    go_ret
    exact ⟨rfl, rfl⟩)
theorem isSeq_any (w : World) (n : Int) : Calls Try.prog 31 #[.int .i64 n] w fun e w' => e = .returned (.bool (inB n 1 4294967295)) ∧ w' = w := by
  have H := hid (within_any w n 1 4294967295)
  generalize inB n 1 4294967295 = q at *
  go_enter Try.func31, Try.ntmps31
  go_wp2_with fail
  refine H.out.mono ?_
  rintro _ _ ⟨rfl, rfl⟩
  go_wp2
  go_ret
  exact ⟨rfl, rfl⟩
theorem below_box (w : World) (o : Obj) : Below w.heap.size w (w.alloc o) := (Below.refl _ _).alloc (Nat.le_refl _) _
theorem isClient_any (w : World) (a i : Int) : Calls Try.prog 30 #[whoV a i] w fun e w' => e = .returned (.bool (inB a 1 16777215 && inB i 1 4611686018427387904)) ∧ Below w.heap.size w w' := by
  obtain ⟨w0, hw0⟩ : ∃ w0, w.alloc (.cells #[.int .i64 a, .int .i64 i] 37) = w0 := ⟨_, rfl⟩
  have HB : Hid (Below w.heap.size w w0) := by rw [← hw0]; exact below_box _ _
  have kb : w0.heap[w.heap.size]? = some (.cells #[.int .i64 a, .int .i64 i] 37) := by rw [← hw0]; exact (MapKept.heap_alloc w _).1
  obtain ⟨A0, hA⟩ : ∃ A0, w.heap.size = A0 := ⟨_, rfl⟩
  rw [hA] at kb HB ⊢
  have c0 : w0.cell? ⟨A0, 0, none⟩ = some (.int .i64 a) := by unfold World.cell?; rw [kb]; rfl
  have c1 : w0.cell? ⟨A0, 1, none⟩ = some (.int .i64 i) := by unfold World.cell?; rw [kb]; rfl
  have H1 := hid (within_any w0 a 1 16777215)
  have H2 := hid (within_any w0 i 1 4611686018427387904)
  clear kb
  cases h1 : inB a 1 16777215 <;> rw [h1] at H1
  · go_enter Try.func30, Try.ntmps30
    go_wp2_with fail
    refine H1.out.mono ?_
    rintro _ _ ⟨rfl, rfl⟩
    go_wp2
    go_ret
    exact ⟨rfl, HB.out⟩
  · generalize inB i 1 4611686018427387904 = q at *
    go_enter Try.func30, Try.ntmps30
    go_wp2_with fail
    refine H1.out.mono ?_
    rintro _ _ ⟨rfl, rfl⟩
    go_wp2_with fail
    refine H2.out.mono ?_
    rintro _ _ ⟨rfl, rfl⟩
    go_wp2
    go_ret
    exact ⟨rfl, HB.out⟩
theorem size_any {w : World} {p mm : Nat} {g : Cf} (hp : w.heap[p]? = some (meO g mm)) (e : En) :
    Calls Try.prog 42 #[ptr p, enV e] w fun r w' => r = .returned (.int .i64 (sz g.rs e)) ∧ Below w.heap.size w w' := by
  obtain ⟨q, ans, rep⟩ := e
  obtain ⟨w0, hw0⟩ : ∃ w0, w.alloc (.cells #[.bool ans, .string rep] 79) = w0 := ⟨_, rfl⟩
  have B0 : Below w.heap.size w w0 := by rw [← hw0]; exact below_box _ _
  have kb : w0.heap[w.heap.size]? = some (.cells #[.bool ans, .string rep] 79) := by rw [← hw0]; exact (MapKept.heap_alloc w _).1
  have hlt : p < w.heap.size := (Array.getElem?_eq_some_iff.1 hp).1
  have k3 : w0.cell? ⟨p, 3, none⟩ = some (.int .i64 g.rs) := by unfold World.cell?; rw [(B0.block p hlt).trans hp]; rfl
  have HB := hid B0
  obtain ⟨A0, hA⟩ : ∃ A0, w.heap.size = A0 := ⟨_, rfl⟩
  rw [hA] at kb HB ⊢
  have c0 : w0.cell? ⟨A0, 0, none⟩ = some (.bool ans) := by unfold World.cell?; rw [kb]; rfl
  have c1 : w0.cell? ⟨A0, 1, none⟩ = some (.string rep) := by unfold World.cell?; rw [kb]; rfl
  clear kb B0 hp hlt
  cases ans
  · go_enter Try.func42, Try.ntmps42
    go_wp2
    go_ret
    exact ⟨rfl, HB.out⟩
  · go_enter Try.func42, Try.ntmps42
    go_wp2
    go_ret
    exact ⟨rfl, HB.out⟩
end Go.Proofs.Ytnpffhgmakbdnaa
