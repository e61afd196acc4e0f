/- wanted, busy. -/
import Derived.Test.YtkkamilmjaochaaPBh
namespace Go.Proofs.Ytkkamilmjaochaa
open Go.RowKit
abbrev I64 (n : Int) : Prop := -9223372036854775808 ≤ n ∧ n ≤ 9223372036854775807
def wantP (k : KeyP) (v : Int) : Bool := decide (0 < pickP v 3) || (k.n == 4)
theorem wanted_any (w : World) (k : KeyP) (v : Int) (hv : I64 v) : Calls Try.prog 69 #[keyV k, .int .i64 v] w fun e w' => e = .returned (.bool (wantP k v)) ∧ Below w.heap.size w w' := by
  obtain ⟨w0, hw0⟩ : ∃ w0, w.alloc (.cells #[.string k.s, .int .i64 k.n] 32) = w0 := ⟨_, rfl⟩
  have B0 : Below w.heap.size w w0 := by rw [← hw0]; exact (Below.refl _ _).alloc (Nat.le_refl _) _
  obtain ⟨A0, hA⟩ : ∃ A0, w.heap.size = A0 := ⟨_, rfl⟩
  have kb : w0.heap[A0]? = some (.cells #[.string k.s, .int .i64 k.n] 32) := by rw [← hw0, ← hA]; exact (MapKept.heap_alloc w _).1
  have k1 : w0.cell? ⟨A0, 1, none⟩ = some (.int .i64 k.n) := by unfold World.cell?; rw [kb]; rfl
  have HP := hid (pick_any v 3 w0 hv.1 hv.2 (by omega) (by omega))
  have HB := hid B0
  rw [hA] at HB ⊢
  unfold wantP
  obtain ⟨q, hq⟩ : ∃ q, pickP v 3 = q := ⟨_, rfl⟩
  rw [hq] at HP ⊢
  clear B0 kb hq
  cases h1 : decide (0 < q)
  · obtain ⟨b4, hb4⟩ : ∃ b4, (k.n == 4) = b4 := ⟨_, rfl⟩
    rw [hb4]
    go_enter Try.func69, Try.ntmps69
    go_wp2_with fail
    refine HP.out.mono ?_
    rintro _ w' ⟨rfl, hw'⟩
    subst hw'
    go_wp2
    go_ret
    exact ⟨rfl, HB.out⟩
  · go_enter Try.func69, Try.ntmps69
    go_wp2_with fail
    refine HP.out.mono ?_
    rintro _ w' ⟨rfl, hw'⟩
    subst hw'
    go_wp2
    go_ret
    exact ⟨rfl, HB.out⟩
abbrev kk (n : Int) : KeyP := ⟨⟨#[107]⟩, n⟩
def busyK (m n : Int) : KeyP := kk (pickP (wrap64 (n + m)) 9)
theorem bld32 (w : World) (n : Int) : (Instr.build 32 #[(0, .string ⟨#[107]⟩), (1, .int .i64 n)]).run Try.prog w = .ok (.agg #[.string ⟨#[107]⟩, .int .i64 n]) w := by kernel_rfl
theorem wrap64_in (x : Int) : I64 (wrap64 x) := by unfold wrap64 I64; omega
theorem busyK_ok (m n : Int) : KOk (busyK m n) := by
  have h := pickP_in (wrap64 (n + m)) 9 (by omega)
  refine ⟨by show (1 : Nat) ≤ maxLen; unfold maxLen; omega, ?_⟩
  show (Lit.int .i64 (pickP (wrap64 (n + m)) 9)).wf = true
  generalize pickP (wrap64 (n + m)) 9 = q at *
  have hmin : IntKind.i64.min = -9223372036854775808 := rfl
  have hmax : IntKind.i64.max = 9223372036854775807 := rfl
  simp only [Lit.wf, Bool.and_eq_true, decide_eq_true_eq]
  omega
set_option maxRecDepth 8000 in
theorem busy_any (w : World) (m n : Int) (hm : I64 m) : Calls Try.prog 68 #[.int .i64 m, .int .i64 n] w fun e w' => e = .returned (.tuple #[.int .i64 (pickP m 6), keyV (busyK m n)]) ∧ Below w.heap.size w w' := by
  obtain ⟨A, hA⟩ : ∃ A, w.heap.size = A := ⟨_, rfl⟩
  obtain ⟨w0, hw0⟩ : ∃ w0, w.alloc (.cells #[.string ⟨#[]⟩, .int .i64 0] 32) = w0 := ⟨_, rfl⟩
  obtain ⟨q, hq⟩ : ∃ q, pickP (wrap64 (n + m)) 9 = q := ⟨_, rfl⟩
  obtain ⟨w1, hw1⟩ : ∃ w1, w0.setCell ⟨A, 0, none⟩ (.string ⟨#[107]⟩) = w1 := ⟨_, rfl⟩
  obtain ⟨w2, hw2⟩ : ∃ w2, w1.setCell ⟨A, 1, none⟩ (.int .i64 q) = w2 := ⟨_, rfl⟩
  have k0 : w0.heap[A]? = some (.cells #[.string ⟨#[]⟩, .int .i64 0] 32) := by rw [← hw0, ← hA]; exact (MapKept.heap_alloc w _).1
  have k1 : w1.heap[A]? = some (.cells #[.string ⟨#[107]⟩, .int .i64 0] 32) := by rw [← hw1]; unfold World.setCell; simp [Array.getElem?_modify, k0]
  have k2 : w2.heap[A]? = some (.cells #[.string ⟨#[107]⟩, .int .i64 q] 32) := by rw [← hw2]; unfold World.setCell; simp [Array.getElem?_modify, k1]
  have HB : Hid (Below A w w2) := by
    have b0 : Below A w w0 := by rw [← hw0, ← hA]; exact (Below.refl _ _).alloc (Nat.le_refl _) _
    refine ⟨?_, ?_, ?_, ?_, fun b hb => ?_⟩
    · rw [← hw2, ← hw1]; exact b0.os
    · rw [← hw2, ← hw1]; exact b0.tape
    · rw [← hw2, ← hw1]; exact b0.output
    · rw [← hw2, ← hw1]; simpa [World.setCell] using b0.size
    · rw [← hw2, Below.heap_setCell _ _ _ _ (show b ≠ A by omega), ← hw1, Below.heap_setCell _ _ _ _ (show b ≠ A by omega)]; exact b0.block b hb
  have c00 : w0.cell? ⟨A, 0, none⟩ = some (.string ⟨#[]⟩) := by unfold World.cell?; rw [k0]; rfl
  have c01 : w0.cell? ⟨A, 1, none⟩ = some (.int .i64 0) := by unfold World.cell?; rw [k0]; rfl
  have c11 : w1.cell? ⟨A, 1, none⟩ = some (.int .i64 0) := by unfold World.cell?; rw [k1]; rfl
  have c20 : w2.cell? ⟨A, 0, none⟩ = some (.string ⟨#[107]⟩) := by unfold World.cell?; rw [k2]; rfl
  have c21 : w2.cell? ⟨A, 1, none⟩ = some (.int .i64 q) := by unfold World.cell?; rw [k2]; rfl
  have f0 : ∀ n, w0.frozen? ⟨A, n, none⟩ = false := fun n => by unfold World.frozen?; rw [k0]; rfl
  have f1 : ∀ n, w1.frozen? ⟨A, n, none⟩ = false := fun n => by unfold World.frozen?; rw [k1]; rfl
  have HP1 := hid (pick_any m 6 w0 hm.1 hm.2 (by omega) (by omega))
  have HP2 := hid (pick_any (wrap64 (n + m)) 9 w0 (wrap64_in _).1 (wrap64_in _).2 (by omega) (by omega))
  have hb := bld32
  unfold busyK
  rw [hq] at HP2 ⊢
  rw [hA]
  clear k0 k1 k2 hq hm
  generalize pickP m 6 = r at *
  go_enter Try.func68, Try.ntmps68
  go_wp2_with fail
  refine HP1.out.mono ?_
  rintro _ w' ⟨rfl, hw'⟩
  subst hw'
  go_wp2_with fail
  refine HP2.out.mono ?_
  rintro _ w'' ⟨rfl, hw'⟩
  subst hw'
  go_wp2
  refine bodyPost_ret (v := .tuple #[.int .i64 r, .agg #[.string ⟨#[107]⟩, .int .i64 q]]) (by simp [results, Try.results68, go_sem, c20, c21]) rfl ⟨rfl, HB.out⟩
end Go.Proofs.Ytkkamilmjaochaa
