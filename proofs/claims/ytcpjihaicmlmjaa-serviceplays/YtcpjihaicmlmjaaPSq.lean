/- Services: what a Handle tells. -/
import Derived.Test.YtcpjihaicmlmjaaPSf
import Derived.Deep.OwnRows
import Derived.Laws.Panics
namespace Go.Proofs.Ytcpjihaicmlmjaa
open Go.RowKit
set_option maxRecDepth 8000 in
theorem tells_core (p n M : Int) (m : Nat) (C : Array Value) (B Z BZ : ByteArray) (two : Bool) (w : World) (hne : B.toList.isEmpty = false) (hi0 : ∀ w, (Instr.index 9 (.string B) (.int .i64 0)).run Try.prog w = .ok (.int .u8 n) w)
    (h2 : decide (1 < (B.size : Int)) = two) (hk : two = false ∧ M = 0 ∨ two = true ∧ ∃ k, (∀ w, (Instr.index 9 (.string B) (.int .i64 1)).run Try.prog w = .ok (.int .u8 k) w) ∧ wrap64 k = k ∧ wrap64 (k * 8) = M)
    (hwn : wrap64 n = n) (hr : n < 200 ∨ n = 255)
    (hmk : ∀ w, (Instr.makeSlice 66 (.int .i64 M) (.int .i64 M)).run Try.prog w = .ok (.slice (some ⟨w.heap.size, 0, none⟩) m m) (w.alloc (.cells C 5)))
    (hcv : ∀ w S, w.heap[S]? = some (.cells C 5) → (convert 66 9 (.slice (some ⟨S, 0, none⟩) m m)).run Try.prog w = .ok (.string Z) w)
    (hsum : ¬ 9223372036854775807 < B.size + Z.size) (hBZ : B ++ Z = BZ) :
    Calls Try.prog 15 #[.int .i64 p, .string B] w fun e w' => e = .returned (.tuple #[.int .i64 (if n = 255 then p else n), .string BZ]) ∧ Below w.heap.size w w' := by
  obtain ⟨R, hR⟩ : ∃ R, (if n = 255 then p else n) = R := ⟨_, rfl⟩
  rw [hR]
  have HRR := hid hR
  obtain ⟨w0, hw0⟩ : ∃ w0, w.alloc (.cells #[.int .i64 0] 3) = w0 := ⟨_, rfl⟩
  have B0 : Below w.heap.size w w0 := by rw [← hw0]; exact (Below.refl _ _).alloc (Nat.le_refl _) _
  obtain ⟨S1, hS1⟩ : ∃ S1, w0.heap.size = S1 := ⟨_, rfl⟩
  obtain ⟨w1, hw1⟩ : ∃ w1, w0.drew.alloc (.cells C 5) = w1 := ⟨_, rfl⟩
  have B1 : Below w0.heap.size w0 w1 := by rw [← hw1]; exact ⟨rfl, rfl, rfl, by simp, fun k hk => Below.heap_alloc w0.drew _ k hk⟩
  have HB := hid (B0.trans (B1.mono B0.size))
  have hc1 := hcv w1 S1 (by rw [← hw1, ← hS1]; exact heap_alloc_new w0.drew _)
  have hbs : ∀ w : World, (Instr.buildSlice 32 1 #[(0, .int .i64 0)]).run Try.prog w = .ok (.slice (some ⟨w.heap.size, 0, none⟩) 1 1) (w.alloc (.cells #[.int .i64 0] 3)) := fun _ => by kernel_rfl
  clear B0 B1 hcv hR
  rcases hr with hr | rfl
  · have h255 : (n == 255) = false := by simp; omega
    have hR : n = R := by rw [← HRR.out, if_neg (by omega)]
    subst hR
    clear HRR
    rcases hk with ⟨rfl, rfl⟩ | ⟨rfl, k, hi1, hwk, hwm⟩
    · go_enter Try.func15, Try.ntmps15
      go_wp2_with fail
      go_region_law (fail)
      all_goals (
        go_wp2
        go_ret2
        exact ⟨rfl, HB.out⟩)
    · go_enter Try.func15, Try.ntmps15
      go_wp2_with fail
      go_region_law (fail)
      all_goals (
        go_wp2
        go_ret2
        exact ⟨rfl, HB.out⟩)
  · have hR : p = R := by rw [← HRR.out, if_pos rfl]
    subst hR
    clear HRR
    rcases hk with ⟨rfl, rfl⟩ | ⟨rfl, k, hi1, hwk, hwm⟩
    · go_enter Try.func15, Try.ntmps15
      go_wp2_with fail
      go_region_law (fail)
      all_goals (
        go_wp2
        go_ret2
        exact ⟨rfl, HB.out⟩)
    · go_enter Try.func15, Try.ntmps15
      go_wp2_with fail
      go_region_law (fail)
      all_goals (
        go_wp2
        go_ret2
        exact ⟨rfl, HB.out⟩)
/-- how many bytes more -/
def moreP : List UInt8 → Nat
  | _ :: y :: _ => y.toNat * 8
  | _ => 0
/-- what the law's Handle tells; none: it breaks -/
def tellsP (p : Int) : List UInt8 → Option (Int × List UInt8)
  | [] => some (0, [110, 111, 110, 101])
  | x :: r => if 200 ≤ x.toNat ∧ x.toNat < 255 then none else some (if (x.toNat : Int) = 255 then p else (x.toNat : Int), (x :: r) ++ List.replicate (moreP (x :: r)) 0)
abbrev tupL (r : Int × List UInt8) : Value := .tuple #[.int .i64 r.1, .string ⟨r.2.toArray⟩]
theorem wrap_u8 (x : UInt8) : wrap64 (x.toNat : Int) = (x.toNat : Int) := by
  have := x.toNat_lt
  unfold wrap64; omega
theorem wrap_u88 (x : UInt8) : wrap64 ((x.toNat : Int) * 8) = ((x.toNat * 8 : Nat) : Int) := by
  have := x.toNat_lt
  unfold wrap64; omega
theorem more_le (s : List UInt8) : moreP s ≤ 2040 := by
  match s with
  | [] => simp [moreP]
  | [_] => simp [moreP]
  | _ :: y :: _ =>
    have := y.toNat_lt
    simp only [moreP]
    omega
theorem info5 : (Try.prog.info? 5).map (fun i => (i.zero, i.size, i.bytes)) = some (some (.int .u8 0), 1, 1) := by kernel_rfl
theorem made_u8 (m : Nat) (w : World) (S : Nat) (h : w.heap[S]? = some (.cells (madeCells #[.int .u8 0] m) 5)) : (convert 66 9 (.slice (some ⟨S, 0, none⟩) m m)).run Try.prog w = .ok (.string ⟨(List.replicate m (0 : UInt8)).toArray⟩) w := by
  have := run_convert_bytes_back (P := Try.prog) w 66 9 5 ⟨S, 0, none⟩ m (List.replicate m (0 : UInt8)) Try.underlying66 Try.underlying5 Try.underlying9 (fun j hj => by
    rw [Addr.add_lit, Nat.zero_add]
    unfold World.cell?
    rw [h]
    show (madeCells #[.int .u8 0] m)[j]? = _
    simp at hj
    simp [madeCells, hj, Nat.mod_one])
  simpa using this
theorem tells_ok (p : Int) (s : List UInt8) (r : Int × List UInt8) (h : tellsP p s = some r) (hl : s.length ≤ 281474976710656) (w : World) :
    Calls Try.prog 15 #[.int .i64 p, .string ⟨s.toArray⟩] w fun e w' => e = .returned (tupL r) ∧ Below w.heap.size w w' := by
  cases s with
  | nil =>
    cases h
    go_enter Try.func15, Try.ntmps15
    go_wp2
    go_ret2
    exact ⟨rfl, Below.refl _ _⟩
  | cons x s =>
    simp only [tellsP] at h
    split at h
    · cases h
    rename_i hx
    injection h with h
    subst h
    have hxl := x.toNat_lt
    have hmo := more_le (x :: s)
    refine tells_core p (x.toNat : Int) ((moreP (x :: s) : Nat) : Int) (moreP (x :: s)) _ ⟨(x :: s).toArray⟩ _ _ (decide (1 < (x :: s).length)) w (by rw [ByteArray.toList_mk]; rfl) (fun w => by kernel_rfl) ?_ ?_ (wrap_u8 x) (by omega) (fun w => run_make_row' (P := Try.prog) 66 5 (.int .u8 0) 1 Try.underlying66 info5 rfl .i64 .i64 _ (by omega) (by omega) w) (fun w S h => made_u8 _ w S h) (by simp only [ByteArray.size, List.size_toArray, List.length_replicate]; omega) ?_
    · rw [decide_eq_decide]
      simp only [ByteArray.size, List.size_toArray]
      omega
    · cases s with
      | nil => exact .inl ⟨rfl, rfl⟩
      | cons y s => exact .inr ⟨by simp, (y.toNat : Int), fun w => by kernel_rfl, wrap_u8 y, wrap_u88 y⟩
    · rw [ByteArray.mk_append_mk]
theorem bounds_far {P : Program} {α : Type} (x y : Int) (code : BoundsCode) (h : 31 < x) (w : World) : (boundsPanic .i64 x y code : Sem α).run P w = .halt (.panic (boundsValue P (IntKind.i64.wrap x) y true code.toNat)) w := by
  have h1 : ¬ x ≤ 31 := by omega
  unfold boundsPanic boundsValue
  simp [runtimePanic, goPanic, go_sem, h1]
set_option maxRecDepth 8000 in
theorem tells_none (p : Int) (s : List UInt8) (h : tellsP p s = none) (w : World) :
    Calls Try.prog 15 #[.int .i64 p, .string ⟨s.toArray⟩] w fun e w' => (∃ u v, e = .panicked [{ v := .iface u v, recovered := false }]) ∧ Below w.heap.size w w' := by
  cases s with
  | nil => cases h
  | cons x s =>
    simp only [tellsP] at h
    split at h
    · rename_i hx
      have hne : (⟨(x :: s).toArray⟩ : ByteArray).toList.isEmpty = false := by rw [ByteArray.toList_mk]; rfl
      have hi0 : ∀ w, (Instr.index 9 (.string ⟨(x :: s).toArray⟩) (.int .i64 0)).run Try.prog w = .ok (.int .u8 (x.toNat : Int)) w := fun w => by kernel_rfl
      have hwn := wrap_u8 x
      obtain ⟨n, hn⟩ : ∃ n, (x.toNat : Int) = n := ⟨_, rfl⟩
      have h1 : (200 : Int) ≤ n := by omega
      have h2 : n < 255 := by omega
      have h3 : 0 ≤ n := by omega
      have h4 : ¬ n < 1 := by omega
      rw [hn] at hi0 hwn
      generalize (⟨(x :: s).toArray⟩ : ByteArray) = B at *
      obtain ⟨w0, hw0⟩ : ∃ w0, w.alloc (.cells #[.int .i64 0] 3) = w0 := ⟨_, rfl⟩
      have HB : Hid (Below w.heap.size w w0) := by rw [← hw0]; exact (Below.refl _ _).alloc (Nat.le_refl _) _
      have hbs : ∀ w : World, (Instr.buildSlice 32 1 #[(0, .int .i64 0)]).run Try.prog w = .ok (.slice (some ⟨w.heap.size, 0, none⟩) 1 1) (w.alloc (.cells #[.int .i64 0] 3)) := fun _ => by kernel_rfl
      have hbp : ∀ w, (boundsPanic .i64 n 1 .index : Sem Value).run Try.prog w = .halt (.panic (boundsValue Try.prog (IntKind.i64.wrap n) 1 true BoundsCode.index.toNat)) w := fun w => bounds_far n 1 .index (by omega) w
      unfold boundsValue at hbp
      generalize Try.prog.rt.boundsError = U at *
      generalize (Value.agg #[.int .i64 (IntKind.i64.wrap n), .int .i64 1, .bool true, .int .u8 (BoundsCode.index.toNat : Int)]) = V at *
      clear hn h hx
      go_enter Try.func15, Try.ntmps15
      go_wp2
      exact ⟨rfl, ⟨_, _, rfl⟩, HB.out⟩
    · cases h
end Go.Proofs.Ytcpjihaicmlmjaa
