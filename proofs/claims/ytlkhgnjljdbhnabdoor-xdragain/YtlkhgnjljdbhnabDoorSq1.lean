/- The statements' own helpers: a raw number as a word, as one of some. puts, kind by kind: whatever the Writer's call does. puts: a kind whose call draws its order. puts: a kind whose call draws its order. -/
import Derived.Test.YtlkhgnjljdbhnabDoorRq4
import Derived.Test.YtlkhgnjljdbhnabDoorYq2
import Derived.Deep.RegionWith
import Derived.BigRegion
import Derived.Deep.RegionHeld
namespace Go.Proofs.YtlkhgnjljdbhnabDoor
open Go.RowKit

theorem word_rd (n : Int) (w : World) : Calls Tryd.prog 26 #[.int .i64 n] w fun e w' => e = .returned (.int .i64 (n % 4294967296)) ∧ w' = w := by
  have hb : bits .and .i64 n 4294967295 = n % 4294967296 := i64_mask_rd n 32 (by omega)
  go_enter Tryd.func26, Tryd.ntmps26
  go_wp2
  go_ret
  exact ⟨by rw [← hb]; rfl, rfl⟩

def withinF (n most : Int) : Int := (if n < 0 then -(n + 1) else n) % most

theorem within_core (n m z : Int) (w : World) (hm : 0 < m) (hn : 0 ≤ n) (hn1 : n ≤ 9223372036854775807) (hz : n.tmod m = z) : Calls Tryd.prog 33 #[.int .i64 n, .int .i64 m] w fun e w' => e = .returned (.int .i64 z) ∧ w' = w := by
  have hm0 : (m == 0) = false := beq_eq_false_iff_ne.2 (by omega)
  have hm1 : ¬ m = -1 := by omega
  have hn2 : ¬ n < 0 := by omega
  go_enter Tryd.func33, Tryd.ntmps33
  go_wp2
  go_ret
  exact ⟨by rw [← hz]; rfl, rfl⟩
theorem within_neg (n m z : Int) (w : World) (hm : 0 < m) (hn : n < 0) (hn1 : -9223372036854775808 ≤ n) (hz : (-(n + 1)).tmod m = z) : Calls Tryd.prog 33 #[.int .i64 n, .int .i64 m] w fun e w' => e = .returned (.int .i64 z) ∧ w' = w := by
  have hm0 : (m == 0) = false := beq_eq_false_iff_ne.2 (by omega)
  have hm1 : ¬ m = -1 := by omega
  go_enter Tryd.func33, Tryd.ntmps33
  go_wp2
  go_ret
  exact ⟨by rw [← hz]; rfl, rfl⟩
theorem within_rd (n m : Int) (w : World) (hm : 0 < m) (h0 : -9223372036854775808 ≤ n) (h1 : n ≤ 9223372036854775807) : Calls Tryd.prog 33 #[.int .i64 n, .int .i64 m] w fun e w' => e = .returned (.int .i64 (withinF n m)) ∧ w' = w := by
  unfold withinF
  by_cases hn : n < 0
  · rw [if_pos hn]
    exact within_neg n m _ w hm hn h0 (Int.tmod_eq_emod_of_nonneg (by omega))
  · rw [if_neg hn]
    exact within_core n m _ w hm (by omega) h1 (Int.tmod_eq_emod_of_nonneg (by omega))
theorem withinF_bd (n m : Int) (hm : 0 < m) : 0 ≤ withinF n m ∧ withinF n m < m := ⟨Int.emod_nonneg _ (by omega), Int.emod_lt_of_pos _ hm⟩
theorem below_dr {B : Nat} {a w : World} (h : Below B a w) : Below B a w.drew := below_drew h 1
end Go.Proofs.YtlkhgnjljdbhnabDoor
namespace Go.Proofs.YtlkhgnjljdbhnabDoor
open Go.RowKit

set_option maxRecDepth 4000 in
theorem puts_1 {Q : World → Prop} (p : Nat) (N MM : Int) (o : Bool) (s : ByteArray) (a b : Nat) (w : World) (y : Int) (hy0 : 0 ≤ y) (hy1 : y < 4294967296)
    (H1 : Hid (∀ w, Calls Tryd.prog 26 #[.int .i64 N] w fun e w' => e = .returned (.int .i64 y) ∧ w' = w))
    (HW : Hid (∀ w1, Below w.heap.size w w1 → Calls Tryd.prog 20 #[.pointer (some ⟨p, 0, none⟩), .int .i64 (y - 2147483648)] w1 fun e w' => e = .returned (.tuple #[]) ∧ Q w'))
    :
    Calls Tryd.prog 9 #[.pointer (some ⟨p, 0, none⟩), opcV 1 N MM o s a b] w fun e w' => e = .returned (.tuple #[]) ∧ Q w' := by
  have HA : Hid (Below w.heap.size w (w.alloc (.cells #[.int .i64 1, .int .i64 N, .int .i64 MM, .bool o, .string s, .int .u32 a, .int .u64 b] 32))) := (Below.refl _ _).alloc (Nat.le_refl _) _
  unfold opcV
  go_enter Tryd.func9, Tryd.ntmps9
  go_wp2_with fail
  refine (H1.out _).mono ?_
  rintro e w1 ⟨rfl, hw⟩
  have hw1 := hw.symm
  clear hw
  subst hw1
  go_wp2_with fail
  refine (HW.out _ HA.out).mono ?_
  rintro e w2 ⟨rfl, hQ⟩
  have HQ : Hid (Q w2) := hQ
  clear hQ
  go_wp2
  first | go_end0 | refine bodyPost_ret (results_none rfl _ _ _) rfl ?_
  exact ⟨rfl, HQ.out⟩

set_option maxRecDepth 4000 in
theorem puts_2 {Q : World → Prop} (p : Nat) (N MM : Int) (o : Bool) (s : ByteArray) (a b : Nat) (w : World) (y : Int)
    (H1 : Hid (∀ w, Calls Tryd.prog 26 #[.int .i64 N] w fun e w' => e = .returned (.int .i64 y) ∧ w' = w))
    (HW : Hid (∀ w1, Below w.heap.size w w1 → Calls Tryd.prog 27 #[.pointer (some ⟨p, 0, none⟩), .int .i64 y] w1 fun e w' => e = .returned (.tuple #[]) ∧ Q w'))
    :
    Calls Tryd.prog 9 #[.pointer (some ⟨p, 0, none⟩), opcV 2 N MM o s a b] w fun e w' => e = .returned (.tuple #[]) ∧ Q w' := by
  have HA : Hid (Below w.heap.size w (w.alloc (.cells #[.int .i64 2, .int .i64 N, .int .i64 MM, .bool o, .string s, .int .u32 a, .int .u64 b] 32))) := (Below.refl _ _).alloc (Nat.le_refl _) _
  unfold opcV
  go_enter Tryd.func9, Tryd.ntmps9
  go_wp2_with fail
  refine (H1.out _).mono ?_
  rintro e w1 ⟨rfl, hw⟩
  have hw1 := hw.symm
  clear hw
  subst hw1
  go_wp2_with fail
  refine (HW.out _ HA.out).mono ?_
  rintro e w2 ⟨rfl, hQ⟩
  have HQ : Hid (Q w2) := hQ
  clear hQ
  go_wp2
  first | go_end0 | refine bodyPost_ret (results_none rfl _ _ _) rfl ?_
  exact ⟨rfl, HQ.out⟩

set_option maxRecDepth 4000 in
theorem puts_3 {Q : World → Prop} (p : Nat) (N MM : Int) (o : Bool) (s : ByteArray) (a b : Nat) (w : World) 
    (HW : Hid (∀ w1, Below w.heap.size w w1 → Calls Tryd.prog 28 #[.pointer (some ⟨p, 0, none⟩), .int .i64 N] w1 fun e w' => e = .returned (.tuple #[]) ∧ Q w'))
    :
    Calls Tryd.prog 9 #[.pointer (some ⟨p, 0, none⟩), opcV 3 N MM o s a b] w fun e w' => e = .returned (.tuple #[]) ∧ Q w' := by
  have HA : Hid (Below w.heap.size w (w.alloc (.cells #[.int .i64 3, .int .i64 N, .int .i64 MM, .bool o, .string s, .int .u32 a, .int .u64 b] 32))) := (Below.refl _ _).alloc (Nat.le_refl _) _
  unfold opcV
  go_enter Tryd.func9, Tryd.ntmps9
  go_wp2_with fail
  refine (HW.out _ HA.out).mono ?_
  rintro e w2 ⟨rfl, hQ⟩
  have HQ : Hid (Q w2) := hQ
  clear hQ
  go_wp2
  first | go_end0 | refine bodyPost_ret (results_none rfl _ _ _) rfl ?_
  exact ⟨rfl, HQ.out⟩

set_option maxRecDepth 4000 in
theorem puts_4 {Q : World → Prop} (p : Nat) (N MM : Int) (o : Bool) (s : ByteArray) (a b : Nat) (w : World) (t : Bool) (ht : (N.tmod 2 != 0) = t)
    (HW : Hid (∀ w1, Below w.heap.size w w1 → Calls Tryd.prog 29 #[.pointer (some ⟨p, 0, none⟩), .bool t] w1 fun e w' => e = .returned (.tuple #[]) ∧ Q w'))
    :
    Calls Tryd.prog 9 #[.pointer (some ⟨p, 0, none⟩), opcV 4 N MM o s a b] w fun e w' => e = .returned (.tuple #[]) ∧ Q w' := by
  have HA : Hid (Below w.heap.size w (w.alloc (.cells #[.int .i64 4, .int .i64 N, .int .i64 MM, .bool o, .string s, .int .u32 a, .int .u64 b] 32))) := (Below.refl _ _).alloc (Nat.le_refl _) _
  unfold opcV
  go_enter Tryd.func9, Tryd.ntmps9
  go_wp2_with fail
  refine (HW.out _ HA.out).mono ?_
  rintro e w2 ⟨rfl, hQ⟩
  have HQ : Hid (Q w2) := hQ
  clear hQ
  go_wp2
  first | go_end0 | refine bodyPost_ret (results_none rfl _ _ _) rfl ?_
  exact ⟨rfl, HQ.out⟩

set_option maxRecDepth 4000 in
theorem puts_5 {Q : World → Prop} (p : Nat) (N MM : Int) (o : Bool) (s : ByteArray) (a b : Nat) (w : World) 
    (H1 : Hid (∀ w, Calls Tryd.prog 30 #[.int .u32 a] w (AsBits32 a w)))
    (HW : Hid (∀ x, x < 4294967296 → c32 x = c32 a → ∀ w1, Below w.heap.size w w1 → Calls Tryd.prog 23 #[.pointer (some ⟨p, 0, none⟩), .float .f32 x] w1 fun e w' => e = .returned (.tuple #[]) ∧ Q w'))
    :
    Calls Tryd.prog 9 #[.pointer (some ⟨p, 0, none⟩), opcV 5 N MM o s a b] w fun e w' => e = .returned (.tuple #[]) ∧ Q w' := by
  have HA : Hid (Below w.heap.size w (w.alloc (.cells #[.int .i64 5, .int .i64 N, .int .i64 MM, .bool o, .string s, .int .u32 a, .int .u64 b] 32))) := (Below.refl _ _).alloc (Nat.le_refl _) _
  unfold opcV
  go_enter Tryd.func9, Tryd.ntmps9
  go_wp2_with fail
  refine (H1.out _).mono ?_
  rintro e w1 ⟨x, rfl, hx, hc, kk, hw⟩
  subst hw
  have HX : Hid (x < 4294967296 ∧ c32 x = c32 a) := ⟨hx, hc⟩
  clear hx hc
  have HB : Hid (Below w.heap.size w ((w.alloc (.cells #[.int .i64 5, .int .i64 N, .int .i64 MM, .bool o, .string s, .int .u32 a, .int .u64 b] 32)).drewN kk)) := below_drew HA.out kk
  go_wp2_with fail
  refine (HW.out _ HX.out.1 HX.out.2 _ HB.out).mono ?_
  rintro e w2 ⟨rfl, hQ⟩
  have HQ : Hid (Q w2) := hQ
  clear hQ
  go_wp2
  first | go_end0 | refine bodyPost_ret (results_none rfl _ _ _) rfl ?_
  exact ⟨rfl, HQ.out⟩

set_option maxRecDepth 4000 in
theorem puts_6 {Q : World → Prop} (p : Nat) (N MM : Int) (o : Bool) (s : ByteArray) (a b : Nat) (w : World) 
    (H1 : Hid (∀ w, Calls Tryd.prog 32 #[.int .u64 b] w (AsBits64 b w)))
    (HW : Hid (∀ x, x < 18446744073709551616 → c64 x = c64 b → ∀ w1, Below w.heap.size w w1 → Calls Tryd.prog 31 #[.pointer (some ⟨p, 0, none⟩), .float .f64 x] w1 fun e w' => e = .returned (.tuple #[]) ∧ Q w'))
    :
    Calls Tryd.prog 9 #[.pointer (some ⟨p, 0, none⟩), opcV 6 N MM o s a b] w fun e w' => e = .returned (.tuple #[]) ∧ Q w' := by
  have HA : Hid (Below w.heap.size w (w.alloc (.cells #[.int .i64 6, .int .i64 N, .int .i64 MM, .bool o, .string s, .int .u32 a, .int .u64 b] 32))) := (Below.refl _ _).alloc (Nat.le_refl _) _
  unfold opcV
  go_enter Tryd.func9, Tryd.ntmps9
  go_wp2_with fail
  refine (H1.out _).mono ?_
  rintro e w1 ⟨x, rfl, hx, hc, kk, hw⟩
  subst hw
  have HX : Hid (x < 18446744073709551616 ∧ c64 x = c64 b) := ⟨hx, hc⟩
  clear hx hc
  have HB : Hid (Below w.heap.size w ((w.alloc (.cells #[.int .i64 6, .int .i64 N, .int .i64 MM, .bool o, .string s, .int .u32 a, .int .u64 b] 32)).drewN kk)) := below_drew HA.out kk
  go_wp2_with fail
  refine (HW.out _ HX.out.1 HX.out.2 _ HB.out).mono ?_
  rintro e w2 ⟨rfl, hQ⟩
  have HQ : Hid (Q w2) := hQ
  clear hQ
  go_wp2
  first | go_end0 | refine bodyPost_ret (results_none rfl _ _ _) rfl ?_
  exact ⟨rfl, HQ.out⟩

set_option maxRecDepth 4000 in
theorem puts_7 {Q : World → Prop} (p : Nat) (N MM : Int) (o : Bool) (s : ByteArray) (a b : Nat) (w : World) 
    (HW : Hid (∀ w1, Below w.heap.size w w1 → Calls Tryd.prog 21 #[.pointer (some ⟨p, 0, none⟩), .int .i64 s.size, .string s] w1 fun e w' => e = .returned (.tuple #[]) ∧ Q w'))
    :
    Calls Tryd.prog 9 #[.pointer (some ⟨p, 0, none⟩), opcV 7 N MM o s a b] w fun e w' => e = .returned (.tuple #[]) ∧ Q w' := by
  have HA : Hid (Below w.heap.size w (w.alloc (.cells #[.int .i64 7, .int .i64 N, .int .i64 MM, .bool o, .string s, .int .u32 a, .int .u64 b] 32))) := (Below.refl _ _).alloc (Nat.le_refl _) _
  unfold opcV
  go_enter Tryd.func9, Tryd.ntmps9
  go_wp2_with fail
  refine (HW.out _ HA.out).mono ?_
  rintro e w2 ⟨rfl, hQ⟩
  have HQ : Hid (Q w2) := hQ
  clear hQ
  go_wp2
  first | go_end0 | refine bodyPost_ret (results_none rfl _ _ _) rfl ?_
  exact ⟨rfl, HQ.out⟩

set_option maxRecDepth 4000 in
theorem puts_none (p : Nat) (K N MM : Int) (o : Bool) (s : ByteArray) (a b : Nat) (w : World) (h1 : (K == 1) = false) (h2 : (K == 2) = false) (h3 : (K == 3) = false) (h4 : (K == 4) = false) (h5 : (K == 5) = false) (h6 : (K == 6) = false) (h7 : (K == 7) = false) (h8 : (K == 8) = false) (h9 : (K == 9) = false) :
    Calls Tryd.prog 9 #[.pointer (some ⟨p, 0, none⟩), opcV K N MM o s a b] w fun e w' => e = .returned (.tuple #[]) ∧ Below w.heap.size w w' := by
  unfold opcV
  go_enter Tryd.func9, Tryd.ntmps9
  go_wp2
  first | go_end0 | refine bodyPost_ret (results_none rfl _ _ _) rfl ?_
  exact ⟨rfl, (Below.refl _ _).alloc (Nat.le_refl _) _⟩
end Go.Proofs.YtlkhgnjljdbhnabDoor
namespace Go.Proofs.YtlkhgnjljdbhnabDoor
open Go.RowKit

set_option maxRecDepth 4000 in
set_option maxHeartbeats 8000000 in
theorem puts_8 {Q : World → Prop} (p : Nat) (N MM : Int) (o : Bool) (s : ByteArray) (a b : Nat) (w : World) (y : Int)
    (H1 : Hid (∀ w, Calls Tryd.prog 33 #[.int .i64 N, .int .i64 9] w fun e w' => e = .returned (.int .i64 y) ∧ w' = w))
    (HW : Hid (∀ w1, Below (w.alloc (.cells #[.int .i64 8, .int .i64 N, .int .i64 MM, .bool o, .string s, .int .u32 a, .int .u64 b] 32)).heap.size (w.alloc (.cells #[.int .i64 8, .int .i64 N, .int .i64 MM, .bool o, .string s, .int .u32 a, .int .u64 b] 32)) w1 → Calls Tryd.prog 22 #[.pointer (some ⟨p, 0, none⟩), .int .i64 (IntKind.i64.wrap ((s.size : Int) + y)), .string s] w1 fun e w' => e = .returned (.tuple #[]) ∧ Q w'))
    (HC : Hid (∀ w1, Q w1 → ∀ j, w1.cell? ⟨w.heap.size, j, none⟩ = (w.alloc (.cells #[.int .i64 8, .int .i64 N, .int .i64 MM, .bool o, .string s, .int .u32 a, .int .u64 b] 32)).cell? ⟨w.heap.size, j, none⟩)) :
    Calls Tryd.prog 9 #[.pointer (some ⟨p, 0, none⟩), opcV 8 N MM o s a b] w fun e w' => e = .returned (.tuple #[]) ∧ Q w' := by
  unfold opcV
  go_enter Tryd.func9, Tryd.ntmps9
  go_wp2_with fail
  go_region_held (fun w' => w'.cell? ⟨w.heap.size, 1, none⟩ = some (.int .i64 N) ∧ w'.cell? ⟨w.heap.size, 4, none⟩ = some (.string s)) (go_keep) (first
    | (go_at_call 33; refine (H1.out _).mono ?_; rintro e w1 ⟨rfl, rfl⟩)
    | (go_at_call 22; refine (HW.out _ (below_dr (Below.refl _ _))).mono ?_; rintro e w2 ⟨rfl, hQ⟩; have hc1 : w2.cell? ⟨w.heap.size, 1, none⟩ = some (.int .i64 N) := (by (rw [HC.out w2 hQ 1]; simp)); have hc4 : w2.cell? ⟨w.heap.size, 4, none⟩ = some (.string s) := (by (rw [HC.out w2 hQ 4]; simp)); have HQ : Hid (Q w2) := hQ; clear hQ))
  all_goals (
    go_wp2
    first | go_end0 | refine bodyPost_ret (results_none rfl _ _ _) rfl ?_
    exact ⟨rfl, HQ.out⟩)
end Go.Proofs.YtlkhgnjljdbhnabDoor
namespace Go.Proofs.YtlkhgnjljdbhnabDoor
open Go.RowKit

set_option maxRecDepth 4000 in
set_option maxHeartbeats 8000000 in
theorem puts_9 {Q : World → Prop} (p : Nat) (N MM : Int) (o : Bool) (s : ByteArray) (a b : Nat) (w : World) (y z : Int)
    (H1 : Hid (∀ w, Calls Tryd.prog 26 #[.int .i64 N] w fun e w' => e = .returned (.int .i64 y) ∧ w' = w))
    (H2 : Hid (∀ w, Calls Tryd.prog 33 #[.int .i64 MM, .int .i64 (IntKind.i64.wrap (y + 1))] w fun e w' => e = .returned (.int .i64 z) ∧ w' = w))
    (HW : Hid (∀ w1, Below (w.alloc (.cells #[.int .i64 9, .int .i64 N, .int .i64 MM, .bool o, .string s, .int .u32 a, .int .u64 b] 32)).heap.size (w.alloc (.cells #[.int .i64 9, .int .i64 N, .int .i64 MM, .bool o, .string s, .int .u32 a, .int .u64 b] 32)) w1 → Calls Tryd.prog 34 #[.pointer (some ⟨p, 0, none⟩), .int .i64 y, .int .i64 z] w1 fun e w' => e = .returned (.tuple #[]) ∧ Q w'))
    (HC : Hid (∀ w1, Q w1 → ∀ j, w1.cell? ⟨w.heap.size, j, none⟩ = (w.alloc (.cells #[.int .i64 9, .int .i64 N, .int .i64 MM, .bool o, .string s, .int .u32 a, .int .u64 b] 32)).cell? ⟨w.heap.size, j, none⟩)) :
    Calls Tryd.prog 9 #[.pointer (some ⟨p, 0, none⟩), opcV 9 N MM o s a b] w fun e w' => e = .returned (.tuple #[]) ∧ Q w' := by
  unfold opcV
  go_enter Tryd.func9, Tryd.ntmps9
  go_wp2_with fail
  go_region_held (fun w' => w'.cell? ⟨w.heap.size, 1, none⟩ = some (.int .i64 N) ∧ w'.cell? ⟨w.heap.size, 2, none⟩ = some (.int .i64 MM)) (go_keep) (first
    | (go_at_call 26; refine (H1.out _).mono ?_; rintro e w1 ⟨rfl, rfl⟩)
    | (go_at_call 33; refine (H2.out _).mono ?_; rintro e w1 ⟨rfl, rfl⟩)
    | (go_at_call 34; refine (HW.out _ (below_dr (Below.refl _ _))).mono ?_; rintro e w2 ⟨rfl, hQ⟩; have hc1 : w2.cell? ⟨w.heap.size, 1, none⟩ = some (.int .i64 N) := (by (rw [HC.out w2 hQ 1]; simp)); have hc2 : w2.cell? ⟨w.heap.size, 2, none⟩ = some (.int .i64 MM) := (by (rw [HC.out w2 hQ 2]; simp)); have HQ : Hid (Q w2) := hQ; clear hQ))
  all_goals (
    go_wp2
    first | go_end0 | refine bodyPost_ret (results_none rfl _ _ _) rfl ?_
    exact ⟨rfl, HQ.out⟩)
end Go.Proofs.YtlkhgnjljdbhnabDoor
