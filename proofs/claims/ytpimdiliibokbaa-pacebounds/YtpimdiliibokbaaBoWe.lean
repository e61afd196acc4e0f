/- PaceWaits: its walk. -/
import Derived.Test.YtpimdiliibokbaaBoWd
namespace Go.Proofs.Ytpimdiliibokbaa
open Go.RowKit
/-- a region that draws its order, whose operations yield the same in every world of a class -/
theorem wp_region_class {P : Program} {Z : Type} (f : Z → World) {id : Nat} {Q : Exit → Act → World → Prop} {a : Act} {w : World} {l : List Oper} (hm : P.follows .mixedOrders = true) (hB : Region.lexB .any l.toArray = true) (hC : ∃ z, w.drew = f z)
    (h : wpQuiet P l.toArray (fun w' => ∃ z, w' = f z) (fun a' => ∀ w', (∃ z, w' = f z) → Q .normal a' w') l a) : (Code.region id l.toArray true).wp P Q a w :=
  wp_region_quiet (C := fun w' => ∃ z, w' = f z) hm hB hC (by simpa using h)
/-- numbers that lie in memory -/
structure IntsAt (w : World) (b off len : Nat) (V : Nat → Int) : Prop where
  c : ∀ i, i < len → w.cell? ⟨b, off + i, none⟩ = some (.int .i64 (V i))
  ok : ∀ i, i < len → -9223372036854775808 ≤ V i ∧ V i ≤ 9223372036854775807
theorem IntsAt.below {w w' : World} {b off len : Nat} {V : Nat → Int} (h : IntsAt w b off len V) (hB : Below w.heap.size w w') : IntsAt w' b off len V := by
  refine ⟨fun i hi => ?_, h.ok⟩
  exact (World.cell?_of_block (a := ⟨b, off + i, none⟩) (hB.block b (World.block_lt_of_cell? w ⟨b, off + i, none⟩ (h.c i hi)))).trans (h.c i hi)
theorem meas {n j : Nat} {q : Int} (hq : q = (j : Int) + 1) (hj : (j : Int) < (n : Int)) : n - (intOf (.int .i64 q)).toNat < n - (intOf (.int .i64 (j : Int))).toNat := by
  subst hq
  show n - ((j : Int) + 1).toNat < n - (j : Int).toNat
  omega
theorem Box.drew {w w0 : World} {A : Nat} {b c t : Int} (h : Box w w0 A b c t) : Box w w0.drew A b c t := ⟨h.be.drew, h.at_, h.new⟩
set_option maxHeartbeats 1000000 in
set_option maxRecDepth 8000 in
theorem waits_any (b c t : Int) (oS : Option Addr) (sb off len cap : Nat) (V : Nat → Int) (w : World) (hoa : 0 < len → oS = some ⟨sb, off, none⟩) (hv : IntsAt w sb off len V) (hlen : len ≤ 140737488355328) :
    Calls Try.prog 3 #[paV b c t, .slice oS len cap] w fun e w' => e = .returned (.bool true) ∧ Below w.heap.size w w' := by
  have HL := hid hlen
  have HV := hid hv
  have HA := hid hoa
  clear hlen hv hoa
  obtain ⟨w0, hw0⟩ : ∃ w0, w.alloc (paC b c t) = w0 := ⟨_, rfl⟩
  have HB : Hid (Box w w0 w.heap.size b c t) := by rw [← hw0]; exact Box.mk' w b c t
  obtain ⟨A, hA⟩ : ∃ A, w.heap.size = A := ⟨_, rfl⟩
  rw [hA] at HB ⊢
  obtain ⟨Z, f, hf1, hf2⟩ : ∃ (Z : Type) (f : Z → World), (∀ z, Box w (f z) A b c t) ∧ ∀ w', Box w w' A b c t → ∃ z, w' = f z := ⟨{ w' // Box w w' A b c t }, Subtype.val, fun z => z.2, fun w' h => ⟨⟨w', h⟩, rfl⟩⟩
  have HZ := hid (And.intro hf1 hf2)
  clear hf1 hf2
  have cz0 : ∀ z, (f z).cell? ⟨A, 0, none⟩ = some (.int .i64 b) := fun z => (HZ.out.1 z).c0
  have cz1 : ∀ z, (f z).cell? ⟨A, 1, none⟩ = some (.int .i64 c) := fun z => (HZ.out.1 z).c1
  have cz2 : ∀ z, (f z).cell? ⟨A, 2, none⟩ = some (.int .i64 t) := fun z => (HZ.out.1 z).c2
  obtain ⟨rq, hrq⟩ : ∃ rq, rightP b c t = rq := ⟨_, rfl⟩
  obtain ⟨tq, htq⟩ : ∃ tq, totalP b c t = tq := ⟨_, rfl⟩
  have H8 : Hid (∀ z, Calls Try.prog 8 #[paV b c t] (f z) fun e w'' => e = .returned (.bool rq) ∧ ∃ z', w'' = f z') := fun z => by
    rw [← hrq]; exact (right_any (f z) b c t).mono fun e w'' ⟨h1, h2⟩ => ⟨h1, HZ.out.2 _ ((HZ.out.1 z).on h2)⟩
  have H9 : Hid (∀ z, Calls Try.prog 9 #[paV b c t] (f z) fun e w'' => e = .returned (.bool rq) ∧ ∃ z', w'' = f z') := fun z => by
    rw [← hrq]; exact (dright_any (f z) b c t).mono fun e w'' ⟨h1, h2⟩ => ⟨h1, HZ.out.2 _ ((HZ.out.1 z).on h2)⟩
  have H10 : Hid (∀ z, Calls Try.prog 10 #[paV b c t] (f z) fun e w'' => e = .returned (.int .i64 tq) ∧ ∃ z', w'' = f z') := fun z => by
    rw [← htq]; exact (total_any (f z) b c t).mono fun e w'' ⟨h1, h2⟩ => ⟨h1, HZ.out.2 _ ((HZ.out.1 z).on h2)⟩
  have H11 : Hid (∀ z, Calls Try.prog 11 #[paV b c t] (f z) fun e w'' => e = .returned (.int .i64 tq) ∧ ∃ z', w'' = f z') := fun z => by
    rw [← htq]; exact (dtotal_any (f z) b c t).mono fun e w'' ⟨h1, h2⟩ => ⟨h1, HZ.out.2 _ ((HZ.out.1 z).on h2)⟩
  have H12 : Hid (∀ n : Int, -9223372036854775808 ≤ n ∧ n ≤ 9223372036854775807 → ∀ z, Calls Try.prog 12 #[paV b c t, .int .i64 n] (f z) fun e w'' => e = .returned (.int .i64 (waitP b c t n)) ∧ ∃ z', w'' = f z') := fun n hn z =>
    (wait_any (f z) b c t n hn).mono fun e w'' ⟨h1, h2⟩ => ⟨h1, HZ.out.2 _ ((HZ.out.1 z).on h2)⟩
  have H13 : Hid (∀ n : Int, -9223372036854775808 ≤ n ∧ n ≤ 9223372036854775807 → ∀ z, Calls Try.prog 13 #[paV b c t, .int .i64 n] (f z) fun e w'' => e = .returned (.int .i64 (waitP b c t n)) ∧ ∃ z', w'' = f z') := fun n hn z =>
    (dwait_any (f z) b c t n hn).mono fun e w'' ⟨h1, h2⟩ => ⟨h1, HZ.out.2 _ ((HZ.out.1 z).on h2)⟩
  have kq : (rq == rq) = true := by simp
  have kt : (tq == tq) = true := by simp
  clear hrq htq
  go_enter Try.func3, Try.ntmps3
  go_wp2_with fail
  refine (awake_any w0).mono ?_
  rintro _ w1 ⟨rfl, e1⟩
  have HZ0 := hid (HZ.out.2 _ (HB.out.on e1).drew)
  have instZ : Nonempty Z := ⟨HZ0.out.choose⟩
  clear e1 HB hw0
  go_wp2_with fail
  refine wp_region_class f (by kernel_rfl) (by kernel_rfl) HZ0.out ?_
  repeat (go_big_quiet_step (first | (go_at_call 8; exact H8.out _) | (go_at_call 9; exact H9.out _) | (go_at_call 10; exact H10.out _) | (go_at_call 11; exact H11.out _)))
  refine wpQuiet_nil ?_
  rintro _ ⟨z1, rfl⟩
  clear H8 H9 H10 H11
  go_wp2_with fail
  go_loopw [6] (fun u6 wr => ∃ (i : Nat) (z : Z), u6 = .int .i64 i ∧ i ≤ len ∧ wr = f z) (fun u6 _ => len - (intOf u6).toNat)
  case atStart => exact ⟨0, z1, rfl, Nat.zero_le _, rfl⟩
  case round =>
    obtain ⟨i, z, rfl, hi, rfl⟩ := hrel
    by_cases hlt : i < len
    · have hi' : (i : Int) < (len : Int) := by omega
      have hoa2 := HA.out (by omega)
      subst hoa2
      have hwi : wrap64 ((i : Int) + 1) = (i : Int) + 1 := by have h1 := HL.out; unfold wrap64; omega
      obtain ⟨n, hn⟩ : ∃ n, V i = n := ⟨_, rfl⟩
      have hok := HV.out.ok i hlt
      have uz : ∀ z, (f z).cell? ⟨sb, off + i, none⟩ = some (.int .i64 n) := fun z => by
        rw [← hn]
        have := (HZ.out.1 z).be
        rw [← hA] at this
        exact (HV.out.below this).c i hlt
      rw [hn] at hok
      have G12 := hid (H12.out n hok)
      have G13 := hid (H13.out n hok)
      obtain ⟨v, hv⟩ : ∃ v, waitP b c t n = v := ⟨_, rfl⟩
      rw [hv] at G12 G13
      have kv : (v == v) = true := by simp
      have HZ1 := hid (HZ.out.2 _ (HZ.out.1 z).drew)
      clear hok hn hv
      go_wp2_with fail
      refine wp_region_class f (by kernel_rfl) (by kernel_rfl) HZ1.out ?_
      repeat (go_big_quiet_step (first | (go_at_call 12; exact G12.out _) | (go_at_call 13; exact G13.out _)))
      refine wpQuiet_nil ?_
      rintro _ ⟨z2, rfl⟩
      go_wp2
      go_roundw
      case rel => exact ⟨i + 1, z2, by first | (rw [hwi]; rfl) | rfl, hlt, by first | trivial | rfl⟩
      case measure => first | exact meas hwi hi' | exact meas rfl hi'
    · obtain rfl : i = len := by omega
      have HE := hid (HZ.out.1 z).be
      go_wp2
      go_ret
      exact ⟨rfl, HE.out⟩
end Go.Proofs.Ytpimdiliibokbaa
