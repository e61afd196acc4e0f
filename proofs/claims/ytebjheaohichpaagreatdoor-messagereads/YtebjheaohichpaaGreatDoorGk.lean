/- The document's Writer. -/
import Derived.Test.YtebjheaohichpaaGreatDoorGi
import Derived.Below
import Derived.Sort.Row
import Derived.Lib.ItoaMem
import Derived.BigQuiet
import Derived.Deep.QuietTactic
import Derived.Deep.RegionWith
import Derived.LaidEql
import Derived.Laws.BitsAllLaws
import Derived.Laws.FloatArith
import Derived.Lib.AppendStr
import Derived.RowKitTokens
import Derived.Stop.Asserts
import Derived.WalkKit
import Derived.WalkLawsBesides
import Derived.WalkSpells
namespace Go.Proofs.YtebjheaohichpaaGreatDoor
open Go.RowKit
def encB (b : UInt8) : Value := .int .u8 (b.toNat : Int)

theorem holds_store {w : World} {blk : Nat} {d : Array UInt8} {i : Nat} {c : UInt8} (h : Go.Sort.Holds encB w blk 0 d) (hi : i < d.size) :
    Go.Sort.Holds encB (w.setCell ⟨blk, i, none⟩ (.int .u8 (c.toNat : Int))) blk 0 (d.setIfInBounds i c) := by
  intro j hj
  rw [Array.size_setIfInBounds] at hj
  obtain ⟨h1, h2⟩ := h j hj
  refine ⟨?_, by rw [World.frozen?_setCell]; exact h2⟩
  by_cases e : i = j
  · subst e
    rw [Nat.zero_add] at h1 ⊢
    rw [World.cell?_setCell_same _ _ _ h1]
    simp [encB, hi]
  · rw [World.cell?_setCell_other _ _ _ _ (fun hh => e (by simpa using congrArg Addr.off hh)), h1]
    simp [e, hj]

theorem set_get (d : Array UInt8) (j t : Nat) (c : UInt8) (h : t < d.size) : (d.setIfInBounds j c)[t]! = if j = t then c else d[t]! := by
  rw [getElem!_pos _ t (by simpa using h), Array.getElem_setIfInBounds, getElem!_pos d t h]

theorem in_eq {k : IntKind} {a b : Int} (h : a = b) : Value.int k a = .int k b := by rw [h]

theorem i64_and255 (n : Int) : bits .and .i64 n 255 = n % 256 := i64_mask n 8 (by omega)
theorem by_digit (S t : Nat) (n : Int) (ht : t < S) : (n % ((256 ^ S : Nat) : Int)).toNat / 256 ^ t % 256 = (n / ((256 ^ t : Nat) : Int) % 256).toNat := by
  have hS : (0 : Int) < ((256 ^ S : Nat) : Int) := by have := Nat.pow_pos (n := S) (show 0 < 256 by omega); omega
  have hT : 0 < 256 ^ t := Nat.pow_pos (by omega)
  have h0 := Int.emod_nonneg n (show ((256 ^ S : Nat) : Int) ≠ 0 by omega)
  obtain ⟨j, rfl⟩ : ∃ j, S = t + 1 + j := ⟨S - (t + 1), by omega⟩
  have e : ((256 ^ (t + 1 + j) : Nat) : Int) = ((256 ^ t : Nat) : Int) * (256 * ((256 ^ j : Nat) : Int)) := by
    rw [Nat.add_assoc, Nat.pow_add, Nat.pow_add, Int.natCast_mul, Int.natCast_mul]
    rfl
  have h1 : (n % ((256 ^ (t + 1 + j) : Nat) : Int)) / ((256 ^ t : Nat) : Int) % 256 = n / ((256 ^ t : Nat) : Int) % 256 := by
    rw [e]
    have hT' : (0 : Int) < ((256 ^ t : Nat) : Int) := by omega
    generalize ((256 ^ t : Nat) : Int) = T at *
    generalize ((256 ^ j : Nat) : Int) = J at *
    have e1 : n % (T * (256 * J)) = n + T * (256 * (-(J * (n / (T * (256 * J)))))) := by
      rw [Int.emod_def, Int.mul_neg, Int.mul_neg, ← Int.sub_eq_add_neg, Int.mul_assoc, Int.mul_assoc]
    rw [e1, Int.add_mul_ediv_left _ _ (by omega), Int.add_mul_emod_self_left]
  have h2 : (((n % ((256 ^ (t + 1 + j) : Nat) : Int)).toNat / 256 ^ t % 256 : Nat) : Int) = n / ((256 ^ t : Nat) : Int) % 256 := by
    rw [Int.natCast_emod, Int.natCast_ediv, Int.toNat_of_nonneg h0]
    exact h1
  omega

theorem div_step (n : Int) (k : Nat) : n / ((256 ^ k : Nat) : Int) / 256 = n / ((256 ^ (k + 1) : Nat) : Int) := by
  have hT : 0 < 256 ^ k := Nat.pow_pos (by omega)
  rw [Nat.pow_succ, Int.natCast_mul, Int.ediv_ediv_of_nonneg (by omega)]
  rfl

set_option maxRecDepth 4000 in
set_option maxHeartbeats 2000000 in
theorem By_any (S : Nat) (Z : Array Value) (n : Int) (w : World) (hS0 : 1 ≤ S) (hS : S ≤ 8) (hn0 : -9223372036854775808 ≤ n) (hn1 : n ≤ 9223372036854775807)
    (hmk : ∀ w, (Instr.makeSlice 43 (.int .i64 (S : Int)) (.int .i64 (S : Int))).run Tryz.prog w = .ok (.slice (some ⟨w.heap.size, 0, none⟩) S S) (w.alloc (.cells Z 5)))
    (hst : ∀ w : World, Go.Sort.Holds encB (w.alloc (.cells Z 5)) w.heap.size 0 (Array.replicate S (0 : UInt8))) :
    Calls Tryz.prog 53 #[.int .i64 n, .int .i64 (S : Int)] w fun e w' => e = .returned (B (byL S n)) ∧ Below w.heap.size w w' := by
  have HST : Hid (Go.Sort.Holds encB (w.alloc (.cells Z 5)) w.heap.size 0 (Array.replicate S (0 : UInt8))) := hst w
  have HN : Hid (-9223372036854775808 ≤ n ∧ n ≤ 9223372036854775807) := ⟨hn0, hn1⟩
  clear hst hn0 hn1
  unfold B
  go_enter Tryz.func53, Tryz.ntmps53
  go_wp2
  go_loopw [0, 6] (fun vn vi wr => ∃ (k : Nat) (N i : Int) (d : Array UInt8), vn = .int .i64 N ∧ vi = .int .i64 i ∧ Hid (i = (S : Int) - 1 - k) ∧ i < (S : Int) ∧ -1 ≤ i ∧ k ≤ S ∧ -9223372036854775808 ≤ N ∧ N ≤ 9223372036854775807 ∧ Hid (N = n / ((256 ^ k : Nat) : Int)) ∧ Hid (d.size = S) ∧ Hid (Go.Sort.Holds encB wr w.heap.size 0 d) ∧ Hid (Below w.heap.size w wr) ∧ Hid (∀ t, t < k → d[S - 1 - t]! = UInt8.ofNat (n / ((256 ^ t : Nat) : Int) % 256).toNat)) (fun _ vi _ => (intOf vi + 2).toNat)
  case atStart =>
    exact ⟨0, n, (S : Int) - 1, Array.replicate S 0, rfl, rfl, (show (S : Int) - 1 = (S : Int) - 1 - ((0 : Nat) : Int) from by omega), by omega, by omega, by omega, HN.out.1, HN.out.2, (show n = n / ((256 ^ 0 : Nat) : Int) from by simp), (show (Array.replicate S (0 : UInt8)).size = S from by simp), HST.out, (Below.refl _ _).alloc (Nat.le_refl _) _, fun t ht => by omega⟩
  case round =>
    obtain ⟨k, N, i, d, rfl, rfl, HI, hiS, hi1, hk, hN0, hN1, HNe, HS, HH, HB, HD⟩ := hrel
    have HK : Hid (k ≤ S) := hk
    clear hk
    by_cases hi0 : 0 ≤ i
    · obtain ⟨zn, hzn⟩ : ∃ zn : Nat, i = (zn : Int) := ⟨i.toNat, by omega⟩
      subst hzn
      have hzs : zn < d.size := by rw [HS.out]; omega
      obtain ⟨hcell, hfro⟩ := HH.out zn hzs
      rw [Nat.zero_add] at hcell hfro
      obtain ⟨v, hv⟩ : ∃ v : Int, N % 256 = v := ⟨_, rfl⟩
      have hand : bits .and .i64 N 255 = v := by rw [i64_and255, hv]
      have hv0 : 0 ≤ v := by omega
      have hv1 : v < 256 := by omega
      clear hv hmk
      have hcn : v = ((UInt8.ofNat v.toNat).toNat : Int) := by rw [UInt8.toNat_ofNat_of_lt' (show v.toNat < 256 by omega)]; omega
      have HNx : Hid (Go.Sort.Holds encB (wr.setCell ⟨w.heap.size, zn, none⟩ (.int .u8 v)) w.heap.size 0 (d.setIfInBounds zn (UInt8.ofNat v.toNat))) := by
        show Go.Sort.Holds encB (wr.setCell ⟨w.heap.size, zn, none⟩ (.int .u8 v)) w.heap.size 0 (d.setIfInBounds zn (UInt8.ofNat v.toNat))
        have := holds_store (c := UInt8.ofNat v.toNat) HH.out hzs
        rw [← hcn] at this
        exact this
      have HV : Hid (v = N % 256) := by show v = N % 256; rw [← hand, i64_and255]
      clear hcn
      go_wp2
      go_roundw
      case rel =>
        have hI := HI.out
        have hk := HK.out
        refine ⟨k + 1, N / 256, (zn : Int) - 1, d.setIfInBounds zn (UInt8.ofNat v.toNat), by first | rfl | go_num, by first | rfl | go_num, (show (zn : Int) - 1 = (S : Int) - 1 - ((k + 1 : Nat) : Int) from by omega), by omega, by omega, by omega, by omega, by omega, ?_, ?_, HNx.out, HB.out.setCell (Nat.le_refl _) _, ?_⟩
        · show N / 256 = _
          rw [HNe.out, div_step]
        · show (d.setIfInBounds zn (UInt8.ofNat v.toNat)).size = S
          rw [Array.size_setIfInBounds]; exact HS.out
        · intro t ht
          have hSz := HS.out
          have hI := HI.out
          have hk := HK.out
          by_cases htk : t = k
          · subst htk
            have e : S - 1 - t = zn := by omega
            rw [e, Go.Sort.getElem!_set_same _ _ _ hzs, HV.out, HNe.out]
          · rw [Go.Sort.getElem!_set_other _ _ _ _ (by omega)]
            exact HD.out t (by omega)
      case measure => simp [intOf]; omega
    · have hk2 : k = S := by have := HI.out; have := HK.out; omega
      have hcv : (convert 43 9 (.slice (some ⟨w.heap.size, 0, none⟩) S S)).run Tryz.prog wr = .ok (.string ⟨(byL S n).toArray⟩) wr := by
        have h := run_convert_bytes_back (P := Tryz.prog) wr 43 9 5 ⟨w.heap.size, 0, none⟩ S (byL S n) Tryz.underlying43 Tryz.underlying5 Tryz.underlying9 (fun t ht => by
          have ht2 : t < S := by unfold byL at ht; rw [beL_len] at ht; exact ht
          have hc := (HH.out t (by rw [HS.out]; exact ht2)).1
          have ea : (Addr.add ⟨w.heap.size, 0, none⟩ t) = ⟨w.heap.size, 0 + t, none⟩ := Lib.add_plain _ _ _
          rw [ea, hc]
          have hd := HD.out (S - 1 - t) (by omega)
          rw [show S - 1 - (S - 1 - t) = t from by omega] at hd
          rw [hd]
          show some (Value.int .u8 ((UInt8.ofNat (n / ((256 ^ (S - 1 - t) : Nat) : Int) % 256).toNat).toNat : Int)) = _
          have hgt : (byL S n)[t]'ht = UInt8.ofNat ((n % ((256 ^ S : Nat) : Int)).toNat / 256 ^ (S - 1 - t) % 256) := beL_get S _ t ht2
          rw [hgt, by_digit S (S - 1 - t) n (by omega)])
        unfold byL at h
        rw [beL_len] at h
        exact h
      clear hmk
      go_wp2
      go_ret
      exact ⟨rfl, HB.out⟩

def zeroB (k : Nat) : Array Value := Array.replicate k (.int .u8 0)
theorem holds_zero (k : Nat) (w : World) : Go.Sort.Holds encB (w.alloc (.cells (zeroB k) 5)) w.heap.size 0 (Array.replicate k (0 : UInt8)) := by
  intro j hj
  rw [Array.size_replicate] at hj
  refine ⟨?_, World.frozen?_alloc_new _ _ _ _⟩
  rw [World.cell?_alloc_new, Nat.zero_add]
  simp [encB, zeroB, hj]

theorem By4 (n : Int) (w : World) (h0 : -9223372036854775808 ≤ n) (h1 : n ≤ 9223372036854775807) : Calls Tryz.prog 53 #[.int .i64 n, .int .i64 4] w fun e w' => e = .returned (B (byL 4 n)) ∧ Below w.heap.size w w' :=
  By_any 4 (zeroB 4) n w (by omega) (by omega) h0 h1 (fun w => by kernel_rfl) (holds_zero 4)
theorem By8 (n : Int) (w : World) (h0 : -9223372036854775808 ≤ n) (h1 : n ≤ 9223372036854775807) : Calls Tryz.prog 53 #[.int .i64 n, .int .i64 8] w fun e w' => e = .returned (B (byL 8 n)) ∧ Below w.heap.size w w' :=
  By_any 8 (zeroB 8) n w (by omega) (by omega) h0 h1 (fun w => by kernel_rfl) (holds_zero 8)

theorem mk_small (k : Nat) (h : k ≤ 3) (w : World) : (Instr.makeSlice 43 (.int .i64 (k : Int)) (.int .i64 (k : Int))).run Tryz.prog w = .ok (.slice (some ⟨w.heap.size, 0, none⟩) k k) (w.alloc (.cells (zeroB k) 5)) := by
  rcases (by omega : k = 0 ∨ k = 1 ∨ k = 2 ∨ k = 3) with rfl | rfl | rfl | rfl <;> kernel_rfl

theorem back_small (k : Nat) (w : World) : (convert 43 9 (.slice (some ⟨w.heap.size, 0, none⟩) k k)).run Tryz.prog (w.alloc (.cells (zeroB k) 5)) = .ok (.string ⟨(List.replicate k (0 : UInt8)).toArray⟩) (w.alloc (.cells (zeroB k) 5)) := by
  have h := run_convert_bytes_back (P := Tryz.prog) (w.alloc (.cells (zeroB k) 5)) 43 9 5 ⟨w.heap.size, 0, none⟩ k (List.replicate k (0 : UInt8)) Tryz.underlying43 Tryz.underlying5 Tryz.underlying9 (fun t ht => by
    have ht2 : t < k := by rw [List.length_replicate] at ht; exact ht
    have ea : (Addr.add ⟨w.heap.size, 0, none⟩ t) = ⟨w.heap.size, 0 + t, none⟩ := Lib.add_plain _ _ _
    rw [ea, (holds_zero k w t (by rw [Array.size_replicate]; exact ht2)).1]
    simp [encB, ht2])
  rw [List.length_replicate] at h
  exact h

set_option maxHeartbeats 400000 in
theorem Padding_core (n m z : Int) (w w1 : World) (v : Value) (t : ByteArray) (_hz0 : 0 ≤ z) (_hz1 : z ≤ 3) (hm0 : 0 ≤ m) (hm1 : m ≤ 3) (hm : n.tmod 4 = m) (hz : (4 - m).tmod 4 = z)
    (hmk : (Instr.makeSlice 43 (.int .i64 z) (.int .i64 z)).run Tryz.prog w = .ok v w1) (hcv : (convert 43 9 v).run Tryz.prog w1 = .ok (.string t) w1) :
    Calls Tryz.prog 77 #[.int .i64 n] w fun e w' => e = .returned (.string t) ∧ w' = w1 := by
  go_enter Tryz.func77, Tryz.ntmps77
  go_wp2
  go_ret
  exact ⟨rfl, rfl⟩

theorem Padding_any (n : Nat) (w : World) : Calls Tryz.prog 77 #[.int .i64 n] w fun e w' => e = .returned (B (padL n)) ∧ Below w.heap.size w w' := by
  have hp : padN n ≤ 3 := by unfold padN; omega
  have h1 : (n : Int).tmod 4 = ((n % 4 : Nat) : Int) := by rw [Int.tmod_eq_emod_of_nonneg (by omega)]; omega
  have h2 : (4 - ((n % 4 : Nat) : Int)).tmod 4 = ((padN n : Nat) : Int) := by
    rw [Int.tmod_eq_emod_of_nonneg (by omega)]; unfold padN; omega
  refine (Padding_core (n : Int) _ _ w _ _ _ (by omega) (by omega) (by omega) (by omega) h1 h2 (mk_small _ hp w) (back_small _ w)).mono fun e w' ⟨a, b⟩ => ⟨a, ?_⟩
  rw [b]; exact (Below.refl _ _).alloc (Nat.le_refl _) _



theorem RW.setS {w : World} {p : Nat} {S : ByteArray} {M E : Int} (h : RW w p S M E) (T : ByteArray) : RW (w.setCell ⟨p, 0, none⟩ (.string T)) p T M E :=
  ⟨World.cell?_setCell_same _ _ _ h.s, by rw [World.cell?_setCell_other _ _ _ _ (by simp)]; exact h.m, by rw [World.cell?_setCell_other _ _ _ _ (by simp)]; exact h.e,
   by rw [World.frozen?_setCell]; exact h.f0, by rw [World.frozen?_setCell]; exact h.f1, by rw [World.frozen?_setCell]; exact h.f2⟩
set_option maxHeartbeats 1000000 in
theorem lays_wrong (p : Nat) (s S : ByteArray) (M E : Int) (w : World) (h : RW w p S M E) (hE : (E == 0) = false) :
    Calls Tryz.prog 52 #[.pointer (some ⟨p, 0, none⟩), .string s] w fun e w' => e = .returned (.tuple #[]) ∧ w' = w := by
  have h2 := h.e
  clear h
  go_enter Tryz.func52, Tryz.ntmps52
  go_wp2
  first | go_end0 | refine bodyPost_ret (results_none rfl _ _ _) rfl ?_
  exact ⟨rfl, rfl⟩

set_option maxHeartbeats 1000000 in
theorem lays_long (p : Nat) (s S : ByteArray) (M : Int) (w : World) (h : RW w p S M 0) (hl : M < (S.size : Int) + (s.size : Int)) (hs : (S.size : Int) + (s.size : Int) ≤ 9223372036854775807) :
    Calls Tryz.prog 52 #[.pointer (some ⟨p, 0, none⟩), .string s] w fun e w' => e = .returned (.tuple #[]) ∧ ∃ k, w' = (w.drewN k).setCell ⟨p, 2, none⟩ (.int .i64 23) := by
  have h0 := h.s
  have h1 := h.m
  have h2 := h.e
  have h5 := h.f2
  have hw : IntKind.i64.wrap ((S.size : Int) + (s.size : Int)) = (S.size : Int) + (s.size : Int) := by rw [IntKind.wrap_i64]; omega
  clear h
  go_enter Tryz.func52, Tryz.ntmps52
  go_wp2_with fail
  go_quiet (fail)
  go_wp2
  first | go_end0 | refine bodyPost_ret (results_none rfl _ _ _) rfl ?_
  exact ⟨rfl, _, rfl⟩

set_option maxHeartbeats 1000000 in
theorem lays_fits (p : Nat) (s S : ByteArray) (M : Int) (w : World) (h : RW w p S M 0) (hl : (S.size : Int) + (s.size : Int) ≤ M) (hs : (S.size : Int) + (s.size : Int) ≤ 9223372036854775807) :
    Calls Tryz.prog 52 #[.pointer (some ⟨p, 0, none⟩), .string s] w fun e w' => e = .returned (.tuple #[]) ∧ ∃ k, w' = (w.drewN k).setCell ⟨p, 0, none⟩ (.string (S ++ s)) := by
  have h0 := h.s
  have h1 := h.m
  have h2 := h.e
  have h5 := h.f0
  have hw : IntKind.i64.wrap ((S.size : Int) + (s.size : Int)) = (S.size : Int) + (s.size : Int) := by rw [IntKind.wrap_i64]; omega
  have hln : (9223372036854775807 < S.size + s.size) = False := by apply eq_false; omega
  clear h hs
  go_enter Tryz.func52, Tryz.ntmps52
  go_wp2_with fail
  go_quiet (fail)
  go_wp2
  first | go_end0 | refine bodyPost_ret (results_none rfl _ _ _) rfl ?_
  exact ⟨rfl, _, rfl⟩

theorem lays_any (p : Nat) (s S : ByteArray) (M E : Int) (w : World) (h : RW w p S M E) (hs : (S.size : Int) + (s.size : Int) ≤ 9223372036854775807) :
    Calls Tryz.prog 52 #[.pointer (some ⟨p, 0, none⟩), .string s] w fun e w' => e = .returned (.tuple #[]) ∧ RW w' p (rlay M S E s).1 M (rlay M S E s).2 ∧ Only p w w' := by
  unfold rlay
  by_cases hE : E = 0
  · subst hE
    rw [if_neg (by simp)]
    by_cases hl : M < (S.size : Int) + (s.size : Int)
    · rw [if_pos hl]
      refine (lays_long p s S M w h hl hs).mono ?_
      rintro e w' ⟨rfl, k, rfl⟩
      exact ⟨rfl, (h.drewN k).setE 23, (Only.drewN p w k).trans (Only.setCell _ _ _)⟩
    · rw [if_neg hl]
      refine (lays_fits p s S M w h (by omega) hs).mono ?_
      rintro e w' ⟨rfl, k, rfl⟩
      exact ⟨rfl, (h.drewN k).setS (S ++ s), (Only.drewN p w k).trans (Only.setCell _ _ _)⟩
  · rw [if_pos hE]
    refine (lays_wrong p s S M E w h (beq_eq_false_iff_ne.2 hE)).mono ?_
    rintro e w' ⟨rfl, rfl⟩
    exact ⟨rfl, h, Only.refl _ _⟩


/-- What a call of the Writer leaves. -/
def Wrote (p : Nat) (M : Int) (r : ByteArray × Int) (w : World) (e : Ending) (w' : World) : Prop := e = .returned (.tuple #[]) ∧ RW w' p r.1 M r.2 ∧ Only p w w'

/-- By, then laid down. -/
theorem by_lays (p : Nat) (l : List UInt8) (S : ByteArray) (M E : Int) (w w1 : World) (h : RW w p S M E) (hs : (S.size : Int) + (l.length : Int) ≤ 9223372036854775807) (hB : Below w.heap.size w w1) :
    Calls Tryz.prog 52 #[.pointer (some ⟨p, 0, none⟩), .string ⟨l.toArray⟩] w1 fun e w' => Wrote p M (rlay M S E ⟨l.toArray⟩) w e w' := by
  refine (lays_any p ⟨l.toArray⟩ S M E w1 (h.below hB) (by rw [bL_size]; exact hs)).mono ?_
  rintro e w' ⟨h1, h2, h3⟩
  exact ⟨h1, h2, (Only.of_below hB).trans h3⟩

set_option maxHeartbeats 400000 in
theorem word_any (n : Int) (w : World) : Calls Tryz.prog 50 #[.int .i64 n] w fun e w' => e = .returned (.bool (decide (0 ≤ n) && decide (n ≤ 4294967295))) ∧ w' = w := by
  by_cases h0 : 0 ≤ n
  · by_cases h1 : n ≤ 4294967295
    · rw [decide_eq_true h0, decide_eq_true h1]
      go_enter Tryz.func50, Tryz.ntmps50
      go_wp2
      go_ret
      exact ⟨rfl, rfl⟩
    · rw [decide_eq_true h0, decide_eq_false h1]
      have h2 : decide (n ≤ 4294967295) = false := decide_eq_false h1
      go_enter Tryz.func50, Tryz.ntmps50
      go_wp2
      go_ret
      exact ⟨rfl, rfl⟩
  · rw [decide_eq_false h0]
    have h2 : decide (0 ≤ n) = false := decide_eq_false h0
    go_enter Tryz.func50, Tryz.ntmps50
    go_wp2
    go_ret
    exact ⟨rfl, rfl⟩

set_option maxHeartbeats 400000 in
theorem ruint_ok (p : Nat) (n : Int) (S : ByteArray) (M E : Int) (w : World) (h : RW w p S M E) (hs : (S.size : Int) + 4 ≤ 9223372036854775807) (h0 : 0 ≤ n) (h1 : n ≤ 4294967295) :
    Calls Tryz.prog 23 #[.pointer (some ⟨p, 0, none⟩), .int .i64 n] w fun e w' => Wrote p M (rlay M S E ⟨(byL 4 n).toArray⟩) w e w' := by
  have H1 : Hid (∀ w, Calls Tryz.prog 53 #[.int .i64 n, .int .i64 4] w fun e w' => e = .returned (B (byL 4 n)) ∧ Below w.heap.size w w') := fun w => By4 n w (by omega) (by omega)
  have HW0 : Hid (∀ w, Calls Tryz.prog 50 #[.int .i64 n] w fun e w' => e = .returned (.bool true) ∧ w' = w) := fun w => by
    have := word_any n w; rw [decide_eq_true h0, decide_eq_true h1] at this; exact this
  have H2 : Hid (∀ w1, Below w.heap.size w w1 → Calls Tryz.prog 52 #[.pointer (some ⟨p, 0, none⟩), .string ⟨(byL 4 n).toArray⟩] w1 fun e w' => Wrote p M (rlay M S E ⟨(byL 4 n).toArray⟩) w e w') := fun w1 hB => by_lays p _ S M E w w1 h (by rw [byL_len]; exact hs) hB
  clear h hs
  unfold B at H1
  go_enter Tryz.func23, Tryz.ntmps23
  go_wp2_with fail
  refine (HW0.out _).mono ?_
  rintro e w9 ⟨rfl, hw⟩
  rw [hw]
  clear hw
  go_wp2_with fail
  refine (H1.out _).mono ?_
  rintro e w1 ⟨rfl, hB⟩
  have HB : Hid (Below w.heap.size w w1) := hB
  clear hB
  go_wp2_with fail
  refine (H2.out _ HB.out).mono ?_
  rintro e w2 ⟨rfl, h3, h4⟩
  have HW : Hid (RW w2 p (rlay M S E ⟨(byL 4 n).toArray⟩).1 M (rlay M S E ⟨(byL 4 n).toArray⟩).2 ∧ Only p w w2) := ⟨h3, h4⟩
  clear h3 h4
  go_wp2
  first | go_end0 | refine bodyPost_ret (results_none rfl _ _ _) rfl ?_
  exact ⟨rfl, HW.out.1, HW.out.2⟩

theorem lays_wrote (p : Nat) (s S : ByteArray) (M E : Int) (w0 w : World) (h : RW w p S M E) (hO : Only p w0 w) (hs : (S.size : Int) + (s.size : Int) ≤ 9223372036854775807) :
    Calls Tryz.prog 52 #[.pointer (some ⟨p, 0, none⟩), .string s] w fun e w' => Wrote p M (rlay M S E s) w0 e w' := by
  refine (lays_any p s S M E w h hs).mono ?_
  rintro e w' ⟨h1, h2, h3⟩
  exact ⟨h1, h2, hO.trans h3⟩


theorem step_below {p : Nat} {S : ByteArray} {M E : Int} {w w1 w2 : World} (h : RW w1 p S M E ∧ Only p w w1) (hB : Below w1.heap.size w1 w2) : RW w2 p S M E ∧ Only p w w2 :=
  ⟨h.1.below hB, h.2.trans (Only.of_below hB)⟩
set_option maxHeartbeats 600000 in
theorem ropaque_ok (p : Nat) (m : Int) (s : ByteArray) (S : ByteArray) (M E : Int) (w : World) (h : RW w p S M E) (hs : (S.size : Int) + ((s.size : Int) + 7) ≤ 9223372036854775807) (hw : (decide (0 ≤ m) && decide (m ≤ 4294967295)) = true) (hln1 : (9223372036854775807 < (byL 4 (s.size : Int)).length + s.size) = False) (hln : (9223372036854775807 < (byL 4 (s.size : Int)).length + s.size + (padL s.size).length) = False) (hsz : (s.size : Int) ≤ 9223372036854775807) (hb : (s.size : Int) ≤ m) :
    Calls Tryz.prog 54 #[.pointer (some ⟨p, 0, none⟩), .int .i64 m, .string s] w fun e w' => Wrote p M (rlay M S E (⟨(byL 4 (s.size : Int)).toArray⟩ ++ s ++ ⟨(padL s.size).toArray⟩)) w e w' := by
  have HW0 : Hid (∀ w, Calls Tryz.prog 50 #[.int .i64 m] w fun e w' => e = .returned (.bool true) ∧ w' = w) := fun w => by
    have := word_any m w; rw [hw] at this; exact this
  have H3 : Hid (∀ w, Calls Tryz.prog 53 #[.int .i64 (s.size : Int), .int .i64 4] w fun e w' => e = .returned (.string ⟨(byL 4 (s.size : Int)).toArray⟩) ∧ Below w.heap.size w w') := fun w => By4 (s.size : Int) w (by omega) hsz
  have H1 : Hid (∀ w, Calls Tryz.prog 77 #[.int .i64 (s.size : Int)] w fun e w' => e = .returned (.string ⟨(padL s.size).toArray⟩) ∧ Below w.heap.size w w') := fun w => Padding_any s.size w
  have H2 : Hid (∀ w1, RW w1 p S M E ∧ Only p w w1 → Calls Tryz.prog 52 #[.pointer (some ⟨p, 0, none⟩), .string (⟨(byL 4 (s.size : Int)).toArray⟩ ++ s ++ ⟨(padL s.size).toArray⟩)] w1 fun e w' => Wrote p M (rlay M S E (⟨(byL 4 (s.size : Int)).toArray⟩ ++ s ++ ⟨(padL s.size).toArray⟩)) w e w') := fun w1 hR => lays_wrote p _ S M _ w w1 hR.1 hR.2 (by rw [ByteArray.size_append, ByteArray.size_append, size_bytes (padL s.size), size_bytes (byL 4 (s.size : Int)), byL_len]; have := padL_len s.size; omega)
  have HI : Hid (RW w p S M E ∧ Only p w w) := ⟨h, Only.refl _ _⟩
  clear h hs hw hsz
  go_enter Tryz.func54, Tryz.ntmps54
  go_wp2_with fail
  refine (HW0.out _).mono ?_
  rintro e w9 ⟨rfl, hw9⟩
  rw [hw9]
  clear hw9
  go_wp2_with fail
  refine (H3.out _).mono ?_
  rintro e wa ⟨rfl, hB⟩
  have HA : Hid (RW wa p S M E ∧ Only p w wa) := step_below HI.out hB
  clear hB
  go_wp2_with fail
  refine (H1.out _).mono ?_
  rintro e wb0 ⟨rfl, hB⟩
  have HB0 : Hid (RW wb0 p S M E ∧ Only p w wb0) := step_below HA.out hB
  clear hB
  go_wp2_with fail
  refine (H2.out _ HB0.out).mono ?_
  rintro e w8 ⟨rfl, h3, h5⟩
  have HW : Hid (RW w8 p (rlay M S E (⟨(byL 4 (s.size : Int)).toArray⟩ ++ s ++ ⟨(padL s.size).toArray⟩)).1 M (rlay M S E (⟨(byL 4 (s.size : Int)).toArray⟩ ++ s ++ ⟨(padL s.size).toArray⟩)).2 ∧ Only p w w8) := ⟨h3, h5⟩
  clear h3 h5
  go_wp2
  first | go_end0 | refine bodyPost_ret (results_none rfl _ _ _) rfl ?_
  exact ⟨rfl, HW.out.1, HW.out.2⟩



set_option maxHeartbeats 1000000 in
theorem rnew (m : Int) (w : World) : Calls Tryz.prog 22 #[.int .i64 m] w fun e w' => e = .returned (.pointer (some ⟨w.heap.size, 0, none⟩)) ∧ w' = w.alloc (.cells #[.string ⟨#[]⟩, .int .i64 (max m 0), .int .i64 0] 105) := by
  go_enter Tryz.func22, Tryz.ntmps22
  go_wp2
  go_ret
  exact ⟨rfl, rfl⟩

theorem RW.new (m : Int) (w : World) : RW (w.alloc (.cells #[.string ⟨#[]⟩, .int .i64 (max m 0), .int .i64 0] 105)) w.heap.size ⟨#[]⟩ (max m 0) 0 :=
  ⟨by simp, by simp, by simp, by simp, by simp, by simp⟩



end Go.Proofs.YtebjheaohichpaaGreatDoor
