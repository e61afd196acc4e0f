/- Numbers by bytes, the highest first: the program's way and the document's own. The document's own bytes of a number, and its padding. The document's own Writer: what lies in its block, what one laying does, what else stays. The document's own Writer, call by call. The document's own Writer: counts, texts of a fixed size, texts of any size. A text appended to bytes of one's own: what it yields, and where that lies. -/
import Derived.Test.YtlkhgnjljdbhnabGreatDoorXq1
import Derived.Deep.QuietTactic
import Derived.BigQuiet
import Derived.Lib.AppendStr
namespace Go.Proofs.YtlkhgnjljdbhnabGreatDoor
open Go.RowKit
theorem size_bytes (l : List UInt8) : (⟨l.toArray⟩ : ByteArray).size = l.length := by
  show l.toArray.size = _
  simp
theorem c64_lt (x : Nat) (h : x < 18446744073709551616) : c64 x < 18446744073709551616 := by
  cases hx : nan64 x with
  | true => rw [c64_nan x hx]; omega
  | false => rw [c64_num x hx]; exact h

/-- A number by k bytes, the highest first. -/
def beL (k n : Nat) : List UInt8 := (List.range k).map fun t => UInt8.ofNat (n / 256 ^ (k - 1 - t) % 256)
theorem beL_len (k n : Nat) : (beL k n).length = k := by simp [beL]
theorem beL_get (k n t : Nat) (h : t < k) : (beL k n)[t]'(by rw [beL_len]; exact h) = UInt8.ofNat (n / 256 ^ (k - 1 - t) % 256) := by simp [beL]
theorem byte_nat (x : Nat) : ((UInt8.ofNat (x % 256)).toNat : Int) = (x : Int) % 256 := by
  rw [UInt8.toNat_ofNat_of_lt' (show x % 256 < 256 by omega)]; omega

theorem four_cells (n : Nat) (w : World) (b0 b1 b2 b3 : Int) (h0 : b0 = (n : Int) / 16777216 % 256) (h1 : b1 = (n : Int) / 65536 % 256) (h2 : b2 = (n : Int) / 256 % 256) (h3 : b3 = (n : Int) % 256) :
    (convert 63 9 (.slice (some ⟨w.heap.size, 0, none⟩) 4 4)).run Tryz.prog (w.alloc (.cells #[.int .u8 b0, .int .u8 b1, .int .u8 b2, .int .u8 b3] 5)) = .ok (.string ⟨(beL 4 n).toArray⟩) (w.alloc (.cells #[.int .u8 b0, .int .u8 b1, .int .u8 b2, .int .u8 b3] 5)) := by
  have h := run_convert_bytes_back (P := Tryz.prog) (w.alloc (.cells #[.int .u8 b0, .int .u8 b1, .int .u8 b2, .int .u8 b3] 5)) 63 9 5 ⟨w.heap.size, 0, none⟩ 4 (beL 4 n) Tryz.underlying63 Tryz.underlying5 Tryz.underlying9 (fun t ht => by
    have ht2 : t < 4 := by rw [beL_len] at ht; exact ht
    have ea : (Addr.add ⟨w.heap.size, 0, none⟩ t) = ⟨w.heap.size, 0 + t, none⟩ := Lib.add_plain _ _ _
    rw [ea, World.cell?_alloc_new, beL_get 4 n t ht2, byte_nat]
    rcases (by omega : t = 0 ∨ t = 1 ∨ t = 2 ∨ t = 3) with rfl | rfl | rfl | rfl
    · show some (Value.int .u8 b0) = _
      rw [h0, show (n : Int) / 16777216 % 256 = ((n / 256 ^ (4 - 1 - 0) : Nat) : Int) % 256 from by rw [show (256 : Nat) ^ (4 - 1 - 0) = 16777216 from by decide]; omega]
    · show some (Value.int .u8 b1) = _
      rw [h1, show (n : Int) / 65536 % 256 = ((n / 256 ^ (4 - 1 - 1) : Nat) : Int) % 256 from by rw [show (256 : Nat) ^ (4 - 1 - 1) = 65536 from by decide]; omega]
    · show some (Value.int .u8 b2) = _
      rw [h2, show (n : Int) / 256 % 256 = ((n / 256 ^ (4 - 1 - 2) : Nat) : Int) % 256 from by rw [show (256 : Nat) ^ (4 - 1 - 2) = 256 from by decide]; omega]
    · show some (Value.int .u8 b3) = _
      rw [h3, show (n : Int) % 256 = ((n / 256 ^ (4 - 1 - 3) : Nat) : Int) % 256 from by rw [show (256 : Nat) ^ (4 - 1 - 3) = 1 from by decide]; omega])
  rw [beL_len] at h
  exact h

set_option maxRecDepth 4000 in
set_option maxHeartbeats 400000 in
theorem fourBytes_any (n : Nat) (w : World) (hn : n < 4294967296) :
    Calls Tryz.prog 51 #[.int .u32 n] w fun e w' => e = .returned (B (beL 4 n)) ∧ Below w.heap.size w w' := by
  obtain ⟨N, hN⟩ : ∃ N : Int, (n : Int) = N := ⟨_, rfl⟩
  have hN0 : 0 ≤ N := by omega
  have hN1 : N < 4294967296 := by omega
  have hcv := four_cells n w (N / 16777216) (N / 65536 % 256) (N / 256 % 256) (N % 256) (by rw [hN]; omega) (by rw [hN]) (by rw [hN]) (by rw [hN])
  rw [hN]
  clear hN hn
  unfold B
  go_enter Tryz.func51, Tryz.ntmps51
  go_wp2
  go_ret
  exact ⟨rfl, (Below.refl _ _).alloc (Nat.le_refl _) _⟩

def padN (n : Nat) : Nat := (4 - n % 4) % 4

theorem noughts3 (k : Nat) (h : k ≤ 3) : (⟨#[0, 0, 0]⟩ : ByteArray).extract 0 k = ⟨(List.replicate k (0 : UInt8)).toArray⟩ := by
  have : ∀ k : Fin 4, (⟨#[0, 0, 0]⟩ : ByteArray).extract 0 k.val = ⟨(List.replicate k.val (0 : UInt8)).toArray⟩ := by decide
  exact this ⟨k, by omega⟩

set_option maxHeartbeats 400000 in
theorem padding_core (n z : Int) (w : World) (h0 : -9223372036854775807 ≤ n) (h1 : n ≤ 9223372036854775807) (hz : bits .and .i64 (-n) 3 = z) (hz0 : 0 ≤ z) (hz1 : z ≤ 3) :
    Calls Tryz.prog 53 #[.int .i64 n] w fun e w' => e = .returned (.string ((⟨#[0, 0, 0]⟩ : ByteArray).extract 0 z.toNat)) ∧ w' = w := by
  go_enter Tryz.func53, Tryz.ntmps53
  go_wp2
  go_ret
  exact ⟨rfl, rfl⟩


end Go.Proofs.YtlkhgnjljdbhnabGreatDoor
namespace Go.Proofs.YtlkhgnjljdbhnabGreatDoor
open Go.RowKit
/-- The lowest bits of a whole number. -/
theorem i64_mask (n : Int) (k : Nat) (hk : k < 63) : bits .and .i64 n ((2 ^ k - 1 : Nat) : Int) = n % ((2 ^ k : Nat) : Int) := by
  have hp : 2 ^ k ≤ 2 ^ 62 := Nat.pow_le_pow_right (by omega) (by omega)
  have e62 : (2 : Nat) ^ 62 = 4611686018427387904 := by decide
  have hpos := Nat.two_pow_pos k
  have hm0 := Int.emod_nonneg n (show ((2 ^ k : Nat) : Int) ≠ 0 by omega)
  have hm1 := Int.emod_lt_of_pos n (show (0 : Int) < ((2 ^ k : Nat) : Int) by omega)
  unfold bits
  have e : (BitVec.ofInt IntKind.i64.bits n &&& BitVec.ofInt IntKind.i64.bits ((2 ^ k - 1 : Nat) : Int)).toNat = (n % ((2 ^ k : Nat) : Int)).toNat := by
    rw [BitVec.toNat_and]
    show (BitVec.ofInt 64 n).toNat &&& (BitVec.ofInt 64 ((2 ^ k - 1 : Nat) : Int)).toNat = _
    rw [BitVec.toNat_ofInt, BitVec.toNat_ofInt]
    have h1 : (((2 ^ k - 1 : Nat) : Int) % ((2 ^ 64 : Nat) : Int)).toNat = 2 ^ k - 1 := by
      rw [Int.emod_eq_of_lt (by omega) (by rw [show (2 : Nat) ^ 64 = 18446744073709551616 from by decide]; omega)]; omega
    rw [h1, Nat.and_two_pow_sub_one_eq_mod]
    have h2 : ((n % ((2 ^ 64 : Nat) : Int)).toNat : Int) = n % ((2 ^ 64 : Nat) : Int) := Int.toNat_of_nonneg (Int.emod_nonneg _ (by decide))
    have h3 : (2 ^ k : Nat) ∣ 2 ^ 64 := Nat.pow_dvd_pow 2 (by omega)
    have h4 : n % ((2 ^ 64 : Nat) : Int) % ((2 ^ k : Nat) : Int) = n % ((2 ^ k : Nat) : Int) := Int.emod_emod_of_dvd n (Int.natCast_dvd_natCast.2 h3)
    have h5 : (((n % ((2 ^ 64 : Nat) : Int)).toNat % 2 ^ k : Nat) : Int) = n % ((2 ^ k : Nat) : Int) := by
      rw [Int.natCast_emod, h2, h4]
    omega
  show IntKind.i64.wrap (((BitVec.ofInt IntKind.i64.bits n &&& BitVec.ofInt IntKind.i64.bits ((2 ^ k - 1 : Nat) : Int)).toNat : Nat) : Int) = _
  rw [e, Int.toNat_of_nonneg hm0, IntKind.wrap_i64]
  rw [e62] at hp
  have hlt : n % ((2 ^ k : Nat) : Int) < 4611686018427387904 := by omega
  generalize n % ((2 ^ k : Nat) : Int) = z at *
  omega

theorem i64_and3 (n : Int) : bits .and .i64 n 3 = n % 4 := i64_mask n 2 (by omega)

/-- The bytes of a whole number, one below 0 as the number that is so much greater. -/
def byL (S : Nat) (n : Int) : List UInt8 := beL S (n % ((256 ^ S : Nat) : Int)).toNat

/-- The noughts behind so many bytes. -/
def padL (n : Nat) : List UInt8 := List.replicate (padN n) 0

theorem padding_any (n : Nat) (w : World) (h : (n : Int) ≤ 9223372036854775807) : Calls Tryz.prog 53 #[.int .i64 n] w fun e w' => e = .returned (B (padL n)) ∧ w' = w := by
  have hz : bits .and .i64 (-(n : Int)) 3 = ((padN n : Nat) : Int) := by
    rw [i64_and3]; unfold padN; omega
  have hp : padN n ≤ 3 := by unfold padN; omega
  have r := padding_core (n : Int) _ w (by omega) h hz (by omega) (by omega)
  rw [Int.toNat_natCast, noughts3 _ hp] at r
  exact r

end Go.Proofs.YtlkhgnjljdbhnabGreatDoor
namespace Go.Proofs.YtlkhgnjljdbhnabGreatDoor
open Go.RowKit
/-- All blocks below the heap's end but one are as they were. -/
structure Only (p : Nat) (w w' : World) : Prop where
  os : w'.os = w.os
  tape : w'.tape = w.tape
  output : w'.output = w.output
  size : w.heap.size ≤ w'.heap.size
  block : ∀ b, b < w.heap.size → b ≠ p → w'.heap[b]? = w.heap[b]?

theorem Only.refl (p : Nat) (w : World) : Only p w w := ⟨rfl, rfl, rfl, Nat.le_refl _, fun _ _ _ => rfl⟩
theorem Only.trans {p : Nat} {a b c : World} (h : Only p a b) (k : Only p b c) : Only p a c :=
  ⟨k.os.trans h.os, k.tape.trans h.tape, k.output.trans h.output, Nat.le_trans h.size k.size, fun i hi hp => (k.block i (Nat.lt_of_lt_of_le hi h.size) hp).trans (h.block i hi hp)⟩
theorem Only.of_below {p : Nat} {a b : World} (h : Below a.heap.size a b) : Only p a b := ⟨h.os, h.tape, h.output, h.size, fun i hi _ => h.block i hi⟩
theorem Only.drewN (p : Nat) (w : World) (k : Nat) : Only p w (w.drewN k) := Only.of_below (below_drewN (Below.refl _ _) k)
theorem Only.setCell {p : Nat} (w : World) (o : Nat) (v : Value) : Only p w (w.setCell ⟨p, o, none⟩ v) :=
  ⟨rfl, rfl, rfl, by simp [World.setCell], fun b _ hb => Below.heap_setCell _ _ _ _ hb⟩

/-- A Writer of the document's: what it holds, how much it may, what was wrong first. -/
structure RW (w : World) (p : Nat) (S : ByteArray) (M E : Int) : Prop where
  s : w.cell? ⟨p, 0, none⟩ = some (.string S)
  m : w.cell? ⟨p, 1, none⟩ = some (.int .i64 M)
  e : w.cell? ⟨p, 2, none⟩ = some (.int .i64 E)
  f0 : w.frozen? ⟨p, 0, none⟩ = false
  f1 : w.frozen? ⟨p, 1, none⟩ = false
  f2 : w.frozen? ⟨p, 2, none⟩ = false

theorem RW.lt {w : World} {p : Nat} {S : ByteArray} {M E : Int} (h : RW w p S M E) : p < w.heap.size := by
  rcases Nat.lt_or_ge p w.heap.size with h1 | h1
  · exact h1
  · have := h.s
    simp [World.cell?, Array.getElem?_eq_none h1] at this

theorem RW.drewN {w : World} {p : Nat} {S : ByteArray} {M E : Int} (h : RW w p S M E) (k : Nat) : RW (w.drewN k) p S M E :=
  ⟨h.s, h.m, h.e, h.f0, h.f1, h.f2⟩

theorem RW.setE {w : World} {p : Nat} {S : ByteArray} {M E : Int} (h : RW w p S M E) (F : Int) : RW (w.setCell ⟨p, 2, none⟩ (.int .i64 F)) p S M F :=
  ⟨by rw [World.cell?_setCell_other _ _ _ _ (by simp)]; exact h.s, by rw [World.cell?_setCell_other _ _ _ _ (by simp)]; exact h.m, World.cell?_setCell_same _ _ _ h.e,
   by rw [World.frozen?_setCell]; exact h.f0, by rw [World.frozen?_setCell]; exact h.f1, by rw [World.frozen?_setCell]; exact h.f2⟩

/-- What laying a text does. -/
def rlay (M : Int) (S : ByteArray) (E : Int) (s : ByteArray) : ByteArray × Int := if E ≠ 0 then (S, E) else if M < (S.size : Int) + (s.size : Int) then (S, 23) else (S ++ s, 0)

end Go.Proofs.YtlkhgnjljdbhnabGreatDoor
namespace Go.Proofs.YtlkhgnjljdbhnabGreatDoor
open Go.RowKit
theorem RW.of_block {w w' : World} {p : Nat} {S : ByteArray} {M E : Int} (h : RW w p S M E) (hb : w'.heap[p]? = w.heap[p]?) : RW w' p S M E := by
  obtain ⟨h1, h2, h3, h4, h5, h6⟩ := h
  refine ⟨?_, ?_, ?_, ?_, ?_, ?_⟩ <;> unfold World.cell? World.frozen? at * <;> simp only [hb] <;> assumption
theorem RW.below {w w' : World} {p : Nat} {S : ByteArray} {M E : Int} (h : RW w p S M E) (hb : Below w.heap.size w w') : RW w' p S M E := h.of_block (hb.block p h.lt)

/-- What a call of the Writer leaves. -/
def Wrote (p : Nat) (M : Int) (r : ByteArray × Int) (w : World) (e : Ending) (w' : World) : Prop := e = .returned (.tuple #[]) ∧ RW w' p r.1 M r.2 ∧ Only p w w'

theorem byL_len (k : Nat) (n : Int) : (byL k n).length = k := by unfold byL; exact beL_len _ _

end Go.Proofs.YtlkhgnjljdbhnabGreatDoor
namespace Go.Proofs.YtlkhgnjljdbhnabGreatDoor
open Go.RowKit
theorem padL_len (n : Nat) : (padL n).length ≤ 3 := by unfold padL padN; rw [List.length_replicate]; omega

end Go.Proofs.YtlkhgnjljdbhnabGreatDoor
namespace Go.Proofs.YtlkhgnjljdbhnabGreatDoor
open Go.RowKit Go.Lib
theorem info5_ex : ∃ i : TypeInfo, Tryz.prog.info? 5 = some i ∧ i.zero = some (.int .u8 0) ∧ i.size = 1 ∧ i.bytes = 1 :=
  ⟨(Tryz.prog.info? 5).getD default, by kernel_rfl, by kernel_rfl, by kernel_rfl, by kernel_rfl⟩

theorem append_at (base : Nat) (v : Value) (n : Nat) (xs : List Value) (s : ByteArray) (w : World) (ty : TypeId) (hown : w.ownsRow base 5 1 v n xs) (hb : n + s.size ≤ 140737488355328) (hbase : base ≤ w.heap.size) :
    ∃ v' w', (Builtin.append_ #[63, 9] ty #[v, .string s]).run Tryz.prog w = .ok v' w' ∧ w'.ownsRow base 5 1 v' (n + s.size) (xs ++ strCells s) ∧ w.grownBy w' v.ownBlock ∧ (v'.ownBlock = v.ownBlock ∨ v'.ownBlock = some w.heap.size) := by
  have h63 : n + s.size ≤ maxLen := Nat.le_trans hb (by decide)
  obtain ⟨info5, info5_is, info5_zero, info5_size, info5_bytes⟩ := info5_ex
  obtain ⟨v', w', hr, h1, h2, h3⟩ := run_append_own_string (P := Tryz.prog) w base 63 9 ty 5 info5 Tryz.underlying63 Tryz.underlying9 info5_is info5_zero info5_size info5_bytes v n xs hown s h63 hb hbase
  refine ⟨v', w', hr, h1, h2, ?_⟩
  have hxl : xs.length = n := by simpa using hown.1
  rcases hown.2 with ⟨rfl, rfl⟩ | ⟨g, cap, cur, rfl, hbg, hg, hnc, hcm, hcs, htake⟩
  · by_cases hm : s.size = 0
    · left
      rw [h3.2 ⟨rfl, hm⟩]
    · right
      have hr2 := run_append_nil_string (P := Tryz.prog) w 63 9 ty 5 info5 (.int .u8 0) Tryz.underlying63 Tryz.underlying9 info5_is info5_zero s (by omega) (by omega) (by rw [info5_bytes]; omega)
      rw [hr2] at hr
      cases hr
      rfl
  · by_cases hroom : n + s.size ≤ cap
    · left
      have hr2 := run_append_room_string (P := Tryz.prog) w 63 9 ty 5 info5 Tryz.underlying63 Tryz.underlying9 info5_is info5_size g n cap cur hg s hroom (by simp at hcs; omega)
      rw [hr2] at hr
      cases hr
      rfl
    · right
      have holds : ∀ j u, xs[j]? = some u → w.cell? ((⟨g, 0, none⟩ : Addr).add j) = some u := hown.cells (g := g) rfl
      have hr2 := run_append_grow_string (P := Tryz.prog) w 63 9 ty 5 info5 (.int .u8 0) Tryz.underlying63 Tryz.underlying9 info5_is info5_zero ⟨g, 0, none⟩ n cap xs (by rw [info5_size]; simpa using hxl) holds s (by omega) (by omega) (by rw [info5_bytes]; exact growslice_fits (by omega) (by omega))
      rw [hr2] at hr
      cases hr
      rfl

/-- The operation, for a walk. -/
theorem wpList_append_at {ops : Array Oper} {rest : List Oper} {o : Oper} {a : Act} {Q : Exit → Act → World → Prop} {w : World} (hgd : o.guard = none) (sl x : Operand)
    (ho : o.op = .call { callee := .builtin .append, args := #[sl, x], argTypes := #[63, 9] })
    (base : Nat) (v : Value) (n : Nat) (xs : List Value) (hs : a.eval sl = v) (hown : w.ownsRow base 5 1 v n xs) (s : ByteArray) (hx : a.eval x = .string s)
    (hb : n + s.size ≤ 140737488355328) (hbase : base ≤ w.heap.size)
    (h : ∀ v' w', w'.ownsRow base 5 1 v' (n + s.size) (xs ++ strCells s) → w.grownBy w' v.ownBlock → (v'.ownBlock = v.ownBlock ∨ v'.ownBlock = some w.heap.size) → wpList Tryz.prog ops Q rest (a.put o.dst v') w') : wpList Tryz.prog ops Q (o :: rest) a w := by
  refine wpList_plain hgd fun K hK => ?_
  obtain ⟨v', w', hr, h2, h3, h4⟩ := append_at base v n xs s w o.type hown hb hbase
  unfold Oper.wp execOp
  simp only [ho, resolve, invoke, builtin, Sem.run_bind, Sem.run_pure, Result.andThen_ok, List.map_toArray, List.map_cons, List.map_nil, hs, hx, hr]
  exact hK _ _ (h v' w' h2 h3 h4)


end Go.Proofs.YtlkhgnjljdbhnabGreatDoor
