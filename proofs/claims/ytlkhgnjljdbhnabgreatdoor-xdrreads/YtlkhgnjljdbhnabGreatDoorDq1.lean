/- The document's own Reader in memory: what is left, what was wrong first. The document's own padding. The document's own number of some bytes, and its Reader's Uint, Int, Hyper. The document's own Reader: Uint, Int, Hyper, Bool. The document's own Reader: numbers with a point. -/
import Derived.Test.YtlkhgnjljdbhnabGreatDoorRq4
import Derived.Deep.RegionWith
namespace Go.Proofs.YtlkhgnjljdbhnabGreatDoor
open Go.RowKit

structure DR (w : World) (p : Nat) (l : List UInt8) (E : Int) : Prop where
  l : w.cell? ⟨p, 0, none⟩ = some (.string ⟨l.toArray⟩)
  e : w.cell? ⟨p, 1, none⟩ = some (.int .i64 E)
  f0 : w.frozen? ⟨p, 0, none⟩ = false
  f1 : w.frozen? ⟨p, 1, none⟩ = false

theorem DR.lt {w : World} {p : Nat} {l : List UInt8} {E : Int} (h : DR w p l E) : p < w.heap.size := by
  rcases Nat.lt_or_ge p w.heap.size with h1 | h1
  · exact h1
  · have := h.l
    simp [World.cell?, Array.getElem?_eq_none h1] at this
theorem DR.below {w w' : World} {p : Nat} {l : List UInt8} {E : Int} (h : DR w p l E) (hB : Below w.heap.size w w') : DR w' p l E := by
  have hb := hB.block p h.lt
  exact ⟨(cells_same hb 0).1.trans h.l, (cells_same hb 1).1.trans h.e, (cells_same hb 0).2.trans h.f0, (cells_same hb 1).2.trans h.f1⟩
theorem DR.setE {w : World} {p : Nat} {l : List UInt8} {E : Int} (h : DR w p l E) (F : Int) : DR (w.setCell ⟨p, 1, none⟩ (.int .i64 F)) p l F :=
  ⟨by rw [World.cell?_setCell_other _ _ _ _ (by simp)]; exact h.l, World.cell?_setCell_same _ _ _ h.e, by rw [World.frozen?_setCell]; exact h.f0, by rw [World.frozen?_setCell]; exact h.f1⟩
theorem DR.setL {w : World} {p : Nat} {l : List UInt8} {E : Int} (h : DR w p l E) (m : List UInt8) : DR (w.setCell ⟨p, 0, none⟩ (.string ⟨m.toArray⟩)) p m E :=
  ⟨World.cell?_setCell_same _ _ _ h.l, by rw [World.cell?_setCell_other _ _ _ _ (by simp)]; exact h.e, by rw [World.frozen?_setCell]; exact h.f0, by rw [World.frozen?_setCell]; exact h.f1⟩
theorem DR.drewN {w : World} {p : Nat} {l : List UInt8} {E : Int} (h : DR w p l E) (k : Nat) : DR (w.drewN k) p l E := ⟨h.l, h.e, h.f0, h.f1⟩

/-- what a call answers, and what stands behind it -/
def DPost {α : Type} (p : Nat) (l : List UInt8) (E : Int) (d : α) (f : List UInt8 → Rd α) (v : α → Value) (w : World) (e : Ending) (w' : World) : Prop :=
  e = .returned (v ((⟨l, E⟩ : Rs).go d f).1) ∧ DR w' p ((⟨l, E⟩ : Rs).go d f).2.l ((⟨l, E⟩ : Rs).go d f).2.e ∧ Sole p w w'

theorem dfail_first (p : Nat) (F : Int) (w : World) (h1 : w.cell? ⟨p, 1, none⟩ = some (.int .i64 0)) (hf : w.frozen? ⟨p, 1, none⟩ = false) : Calls Tryz.prog 45 #[.pointer (some ⟨p, 0, none⟩), .int .i64 F] w fun e w' => e = .returned (.tuple #[]) ∧ w' = w.setCell ⟨p, 1, none⟩ (.int .i64 F) := by
  go_enter Tryz.func45, Tryz.ntmps45
  go_wp2
  first | go_end0 | refine bodyPost_ret (results_none rfl _ _ _) rfl ?_
  exact ⟨rfl, rfl⟩
theorem dfail_later (p : Nat) (E F : Int) (w : World) (h1 : w.cell? ⟨p, 1, none⟩ = some (.int .i64 E)) (hE : (E == 0) = false) : Calls Tryz.prog 45 #[.pointer (some ⟨p, 0, none⟩), .int .i64 F] w fun e w' => e = .returned (.tuple #[]) ∧ w' = w := by
  go_enter Tryz.func45, Tryz.ntmps45
  go_wp2
  first | go_end0 | refine bodyPost_ret (results_none rfl _ _ _) rfl ?_
  exact ⟨rfl, rfl⟩
theorem dfail_any (p : Nat) (l : List UInt8) (E F : Int) (w : World) (h : DR w p l E) : Calls Tryz.prog 45 #[.pointer (some ⟨p, 0, none⟩), .int .i64 F] w fun e w' => e = .returned (.tuple #[]) ∧ DR w' p l (if E = 0 then F else E) ∧ Sole p w w' := by
  by_cases hE : E = 0
  · subst hE
    refine (dfail_first p F w h.e h.f1).mono ?_
    rintro e w' ⟨rfl, rfl⟩
    exact ⟨rfl, h.setE F, Sole.setCell w 1 _⟩
  · rw [if_neg hE]
    refine (dfail_later p E F w h.e (beq_eq_false_iff_ne.2 hE)).mono ?_
    rintro e w' ⟨rfl, rfl⟩
    exact ⟨rfl, h, Sole.refl _ _⟩

theorem dwrong_any (p : Nat) (E : Int) (w : World) (h1 : w.cell? ⟨p, 1, none⟩ = some (.int .i64 E)) : Calls Tryz.prog 12 #[.pointer (some ⟨p, 0, none⟩)] w fun e w' => e = .returned (.int .i64 E) ∧ w' = w := by
  go_enter Tryz.func12, Tryz.ntmps12
  go_wp2
  go_ret
  exact ⟨rfl, rfl⟩
theorem dleft_any (p : Nat) (s : ByteArray) (w : World) (h1 : w.cell? ⟨p, 0, none⟩ = some (.string s)) : Calls Tryz.prog 10 #[.pointer (some ⟨p, 0, none⟩)] w fun e w' => e = .returned (.int .i64 s.size) ∧ w' = w := by
  go_enter Tryz.func10, Tryz.ntmps10
  go_wp2
  go_ret
  exact ⟨rfl, rfl⟩
theorem dnew_any (l : List UInt8) (w : World) : Calls Tryz.prog 7 #[.string ⟨l.toArray⟩] w fun e w' => e = .returned (.pointer (some ⟨w.heap.size, 0, none⟩)) ∧ w' = w.alloc (.cells #[.string ⟨l.toArray⟩, .int .i64 0] 54) := by
  go_enter Tryz.func7, Tryz.ntmps7
  go_wp2
  go_ret
  exact ⟨rfl, rfl⟩
theorem DR.new (l : List UInt8) (w : World) : DR (w.alloc (.cells #[.string ⟨l.toArray⟩, .int .i64 0] 54)) w.heap.size l 0 := by
  refine ⟨?_, ?_, ?_, ?_⟩ <;> simp

theorem ddone_bad (p : Nat) (E : Int) (w : World) (h1 : w.cell? ⟨p, 1, none⟩ = some (.int .i64 E)) (hE : (E == 0) = false) : Calls Tryz.prog 14 #[.pointer (some ⟨p, 0, none⟩)] w fun e w' => e = .returned (.int .i64 E) ∧ Below w.heap.size w w' := by
  go_enter Tryz.func14, Tryz.ntmps14
  go_wp2
  go_ret
  exact ⟨rfl, Below.refl _ _⟩
theorem ddone_end (p : Nat) (w : World) (h0 : w.cell? ⟨p, 0, none⟩ = some (.string ⟨#[]⟩)) (h1 : w.cell? ⟨p, 1, none⟩ = some (.int .i64 0)) : Calls Tryz.prog 14 #[.pointer (some ⟨p, 0, none⟩)] w fun e w' => e = .returned (.int .i64 0) ∧ Below w.heap.size w w' := by
  go_enter Tryz.func14, Tryz.ntmps14
  go_wp2
  go_ret
  exact ⟨rfl, Below.refl _ _⟩
theorem ddone_more (p : Nat) (s : ByteArray) (w : World) (h0 : w.cell? ⟨p, 0, none⟩ = some (.string s)) (hs : (s.toList == []) = false) (h1 : w.cell? ⟨p, 1, none⟩ = some (.int .i64 0)) : Calls Tryz.prog 14 #[.pointer (some ⟨p, 0, none⟩)] w fun e w' => e = .returned (.int .i64 21) ∧ Below w.heap.size w w' := by
  go_enter Tryz.func14, Tryz.ntmps14
  go_wp2
  go_ret
  exact ⟨rfl, Below.refl _ _⟩
theorem ddone_any (p : Nat) (l : List UInt8) (E : Int) (w : World) (h : DR w p l E) : Calls Tryz.prog 14 #[.pointer (some ⟨p, 0, none⟩)] w fun e w' => e = .returned (.int .i64 (rdDone l E)) ∧ Below w.heap.size w w' := by
  unfold rdDone
  by_cases he : E = 0
  · subst he
    by_cases hl : l = []
    · subst hl
      rw [if_neg (by simp)]
      exact ddone_end p w h.l h.e
    · rw [if_pos ⟨rfl, hl⟩]
      refine ddone_more p _ w h.l ?_ h.e
      rw [ByteArray.toList_eq]
      exact beq_eq_false_iff_ne.2 (by simpa using hl)
  · rw [if_neg (fun c => he c.1)]
    exact ddone_bad p E w h.e (beq_eq_false_iff_ne.2 he)

theorem there_bad (p : Nat) (n E : Int) (w : World) (h1 : w.cell? ⟨p, 1, none⟩ = some (.int .i64 E)) (hE : (E == 0) = false) : Calls Tryz.prog 59 #[.pointer (some ⟨p, 0, none⟩), .int .i64 n] w fun e w' => e = .returned (.bool false) ∧ w' = w := by
  go_enter Tryz.func59, Tryz.ntmps59
  go_wp2
  go_ret
  exact ⟨rfl, rfl⟩
theorem there_ok (p : Nat) (n : Int) (s : ByteArray) (w : World) (h0 : w.cell? ⟨p, 0, none⟩ = some (.string s)) (h1 : w.cell? ⟨p, 1, none⟩ = some (.int .i64 0)) (hn : ¬ (s.size : Int) < n) : Calls Tryz.prog 59 #[.pointer (some ⟨p, 0, none⟩), .int .i64 n] w fun e w' => e = .returned (.bool true) ∧ w' = w := by
  go_enter Tryz.func59, Tryz.ntmps59
  go_wp2
  go_ret
  exact ⟨rfl, rfl⟩
theorem there_short (p : Nat) (n : Int) (s : ByteArray) (w : World) (h0 : w.cell? ⟨p, 0, none⟩ = some (.string s)) (h1 : w.cell? ⟨p, 1, none⟩ = some (.int .i64 0)) (hf : w.frozen? ⟨p, 1, none⟩ = false) (hn : (s.size : Int) < n) : Calls Tryz.prog 59 #[.pointer (some ⟨p, 0, none⟩), .int .i64 n] w fun e w' => e = .returned (.bool false) ∧ w' = w.setCell ⟨p, 1, none⟩ (.int .i64 20) := by
  go_enter Tryz.func59, Tryz.ntmps59
  go_wp2
  go_ret
  exact ⟨rfl, rfl⟩

theorem takes_core (p : Nat) (n : Nat) (s a b : ByteArray) (w : World) (h0 : w.cell? ⟨p, 0, none⟩ = some (.string s)) (hf : w.frozen? ⟨p, 0, none⟩ = false) (hn : (n : Int) ≤ (s.size : Int)) (ha : s.extract 0 n = a) (hb : s.extract n s.size = b) :
    Calls Tryz.prog 60 #[.pointer (some ⟨p, 0, none⟩), .int .i64 n] w fun e w' => e = .returned (.string a) ∧ w' = w.setCell ⟨p, 0, none⟩ (.string b) := by
  go_enter Tryz.func60, Tryz.ntmps60
  go_wp2
  go_ret
  exact ⟨by rw [← ha]; rfl, by rw [← hb]⟩
theorem takes_any (p n : Nat) (l : List UInt8) (E : Int) (w : World) (h : DR w p l E) (hn : n ≤ l.length) :
    Calls Tryz.prog 60 #[.pointer (some ⟨p, 0, none⟩), .int .i64 n] w fun e w' => e = .returned (.string ⟨(l.take n).toArray⟩) ∧ DR w' p (l.drop n) E ∧ Sole p w w' := by
  refine (takes_core p n _ _ _ w h.l h.f0 (by rw [Bs_size]; omega) (show (⟨l.toArray⟩ : ByteArray).extract 0 n = ⟨(l.take n).toArray⟩ by rw [Bs_extract]; simp) (show (⟨l.toArray⟩ : ByteArray).extract n (⟨l.toArray⟩ : ByteArray).size = ⟨(l.drop n).toArray⟩ by rw [Bs_size, Bs_from])).mono ?_
  rintro e w' ⟨rfl, rfl⟩
  exact ⟨rfl, h.setL _, Sole.setCell w 0 _⟩

theorem dword_any (n : Int) (w : World) : Calls Tryz.prog 68 #[.int .i64 n] w fun e w' => e = .returned (.bool (decide (0 ≤ n) && decide (n ≤ 4294967295))) ∧ w' = w := by
  by_cases h0 : 0 ≤ n
  · by_cases h1 : n ≤ 4294967295
    · rw [decide_eq_true h0, decide_eq_true h1]
      go_enter Tryz.func68, Tryz.ntmps68
      go_wp2
      go_ret
      exact ⟨rfl, rfl⟩
    · rw [decide_eq_true h0, decide_eq_false h1]
      go_enter Tryz.func68, Tryz.ntmps68
      go_wp2
      go_ret
      exact ⟨rfl, rfl⟩
  · rw [decide_eq_false h0]
    go_enter Tryz.func68, Tryz.ntmps68
    go_wp2
    go_ret
    exact ⟨rfl, rfl⟩
end Go.Proofs.YtlkhgnjljdbhnabGreatDoor
namespace Go.Proofs.YtlkhgnjljdbhnabGreatDoor
open Go.RowKit




def zeroB (k : Nat) : Array Value := Array.replicate k (.int .u8 0)
theorem mk_small (k : Nat) (h : k ≤ 3) (w : World) : (Instr.makeSlice 63 (.int .i64 (k : Int)) (.int .i64 (k : Int))).run Tryz.prog w = .ok (.slice (some ⟨w.heap.size, 0, none⟩) k k) (w.alloc (.cells (zeroB k) 5)) := by
  rcases (by omega : k = 0 ∨ k = 1 ∨ k = 2 ∨ k = 3) with rfl | rfl | rfl | rfl <;> kernel_rfl

theorem back_small (k : Nat) (w : World) : (convert 63 9 (.slice (some ⟨w.heap.size, 0, none⟩) k k)).run Tryz.prog (w.alloc (.cells (zeroB k) 5)) = .ok (.string ⟨(List.replicate k (0 : UInt8)).toArray⟩) (w.alloc (.cells (zeroB k) 5)) := by
  have h := run_convert_bytes_back (P := Tryz.prog) (w.alloc (.cells (zeroB k) 5)) 63 9 5 ⟨w.heap.size, 0, none⟩ k (List.replicate k (0 : UInt8)) Tryz.underlying63 Tryz.underlying5 Tryz.underlying9 (fun t ht => by
    have ht2 : t < k := by rw [List.length_replicate] at ht; exact ht
    have ea : (Addr.add ⟨w.heap.size, 0, none⟩ t) = ⟨w.heap.size, 0 + t, none⟩ := Lib.add_plain _ _ _
    rw [ea, World.cell?_alloc_new, Nat.zero_add]
    simp [zeroB, ht2])
  rw [List.length_replicate] at h
  exact h

set_option maxHeartbeats 400000 in
theorem Padding_core (n m z : Int) (w w1 : World) (v : Value) (t : ByteArray) (_hz0 : 0 ≤ z) (_hz1 : z ≤ 3) (hm0 : 0 ≤ m) (hm1 : m ≤ 3) (hm : n.tmod 4 = m) (hz : (4 - m).tmod 4 = z)
    (hmk : (Instr.makeSlice 63 (.int .i64 z) (.int .i64 z)).run Tryz.prog w = .ok v w1) (hcv : (convert 63 9 v).run Tryz.prog w1 = .ok (.string t) w1) :
    Calls Tryz.prog 80 #[.int .i64 n] w fun e w' => e = .returned (.string t) ∧ w' = w1 := by
  go_enter Tryz.func80, Tryz.ntmps80
  go_wp2
  go_ret
  exact ⟨rfl, rfl⟩

theorem Padding_any (n : Nat) (w : World) : Calls Tryz.prog 80 #[.int .i64 n] w fun e w' => e = .returned (B (padL n)) ∧ Below w.heap.size w w' := by
  have hp : padN n ≤ 3 := by unfold padN; omega
  have h1 : (n : Int).tmod 4 = ((n % 4 : Nat) : Int) := by rw [Int.tmod_eq_emod_of_nonneg (by omega)]; omega
  have h2 : (4 - ((n % 4 : Nat) : Int)).tmod 4 = ((padN n : Nat) : Int) := by
    rw [Int.tmod_eq_emod_of_nonneg (by omega)]; unfold padN; omega
  refine (Padding_core (n : Int) _ _ w _ _ _ (by omega) (by omega) (by omega) (by omega) h1 h2 (mk_small _ hp w) (back_small _ w)).mono fun e w' ⟨a, b⟩ => ⟨a, ?_⟩
  rw [b]; exact (Below.refl _ _).alloc (Nat.le_refl _) _



end Go.Proofs.YtlkhgnjljdbhnabGreatDoor
namespace Go.Proofs.YtlkhgnjljdbhnabGreatDoor
open Go.RowKit

theorem i64_or_byte (x b : Nat) (hx : x < 72057594037927936) (hb : b < 256) : bits .or .i64 (IntKind.i64.wrap ((x : Int) * 256)) (b : Int) = IntKind.i64.wrap ((x * 256 + b : Nat) : Int) := by
  unfold bits
  have p8 : (2 : Nat) ^ 8 = 256 := by decide
  have e : (BitVec.ofInt IntKind.i64.bits (IntKind.i64.wrap ((x : Int) * 256)) ||| BitVec.ofInt IntKind.i64.bits (b : Int)).toNat = x * 256 + b := by
    rw [BitVec.toNat_or]
    show (BitVec.ofInt 64 (IntKind.i64.wrap ((x : Int) * 256))).toNat ||| (BitVec.ofInt 64 (b : Int)).toNat = _
    rw [BitVec.toNat_ofInt, BitVec.toNat_ofInt, IntKind.wrap_i64]
    have h64 : ((2 ^ 64 : Nat) : Int) = 18446744073709551616 := by decide
    rw [h64]
    have h1 : (((x : Int) * 256 + 9223372036854775808) % 18446744073709551616 - 9223372036854775808) % 18446744073709551616 = ((x * 256 : Nat) : Int) := by omega
    have h2 : (b : Int) % 18446744073709551616 = (b : Int) := by omega
    rw [h1, h2, Int.toNat_natCast, Int.toNat_natCast, nat_join 8 _ _ (by rw [p8]; omega) (by rw [p8]; omega)]
  show IntKind.i64.wrap (((BitVec.ofInt IntKind.i64.bits (IntKind.i64.wrap ((x : Int) * 256)) ||| BitVec.ofInt IntKind.i64.bits (b : Int)).toNat : Nat) : Int) = _
  rw [e]

theorem w64_eq (z : Int) : wrap64 z = IntKind.i64.wrap z := by unfold wrap64; rw [IntKind.wrap_i64]

theorem beN_take (l : List UInt8) (i : Nat) (h : i < l.length) : beN (l.take (i + 1)) = beN (l.take i) * 256 + l[i].toNat := by
  rw [List.take_succ_eq_append_getElem h, beN_snoc]

set_option maxRecDepth 4000 in
set_option maxHeartbeats 4000000 in
theorem number_rd (l : List UInt8) (w : World) (hl : l.length ≤ 8) : Calls Tryz.prog 61 #[.string ⟨l.toArray⟩] w fun e w' => e = .returned (.int .i64 (IntKind.i64.wrap (beN l : Int))) ∧ Below w.heap.size w w' := by
  have HL : Hid (l.length ≤ 8) := hl
  have hl' : (l.length : Int) ≤ 8 := by omega
  clear hl
  go_enter Tryz.func61, Tryz.ntmps61
  go_wp2_with fail
  go_loopw [3, 4] (fun n i wr => ∃ k : Nat, i = .int .i64 k ∧ k ≤ l.length ∧ n = .int .i64 (IntKind.i64.wrap (beN (l.take k) : Int)) ∧ Hid (Below w.heap.size w wr)) (fun _ i _ => l.length - (intOf i).toNat)
  case atStart => exact ⟨0, rfl, by omega, by rfl, Below.refl _ _⟩
  case round =>
    obtain ⟨k, rfl, hk, rfl, HB⟩ := hrel
    by_cases hlt : k < l.length
    · have hx : beN (l.take k) < 72057594037927936 := by
        have h1 := beN_lt k (l.take k) (by rw [List.length_take]; omega)
        have h2 : (256 : Nat) ^ k ≤ 256 ^ 7 := Nat.pow_le_pow_right (by decide) (by have := HL.out; omega)
        have h3 : (256 : Nat) ^ 7 = 72057594037927936 := by decide
        omega
      have hs := beN_take l k hlt
      have hb := l[k].toNat_lt
      obtain ⟨x, hxe⟩ : ∃ x, beN (l.take k) = x := ⟨_, rfl⟩
      rw [hxe] at hx hs
      have hw : IntKind.i64.wrap (beN (l.take k) : Int) = (x : Int) := by rw [hxe, IntKind.wrap_i64]; omega
      have HOR : Hid (bits .or .i64 (wrap64 ((x : Int) * 256)) (wrap64 ((l[k].toNat : Nat) : Int)) = IntKind.i64.wrap (beN (l.take (k + 1)) : Int)) := by
        show _ = _
        rw [hs, w64_eq, show wrap64 ((l[k].toNat : Nat) : Int) = ((l[k].toNat : Nat) : Int) by unfold wrap64; omega]
        exact i64_or_byte x _ hx hb
      rw [hw]
      have hx0 : 0 ≤ (x : Int) := by omega
      have hx1 : (x : Int) < 72057594037927936 := by omega
      clear hs hb hxe hw
      go_wp2
      go_roundw
      case rel => exact ⟨k + 1, by go_num, by omega, congrArg (Value.int .i64) HOR.out, HB⟩
      case measure => simp [intOf]; omega
    · obtain rfl : k = l.length := by omega
      go_wp2
      go_ret
      refine ⟨?_, HB.out⟩
      show Ending.returned (.int .i64 (IntKind.i64.wrap (beN (l.take l.length) : Int))) = _
      rw [List.take_length]

theorem number4 (l : List UInt8) (w : World) (hl : l.length = 4) : Calls Tryz.prog 61 #[.string ⟨l.toArray⟩] w fun e w' => e = .returned (.int .i64 (beN l : Int)) ∧ Below w.heap.size w w' := by
  have h := number_rd l w (by omega)
  have h1 := beN_lt 4 l hl
  have h2 : (256 : Nat) ^ 4 = 4294967296 := by decide
  rwa [show IntKind.i64.wrap (beN l : Int) = (beN l : Int) by rw [IntKind.wrap_i64]; omega] at h
theorem number8 (l : List UInt8) (w : World) (hl : l.length = 8) : Calls Tryz.prog 61 #[.string ⟨l.toArray⟩] w fun e w' => e = .returned (.int .i64 (sgn64r (beN l))) ∧ Below w.heap.size w w' := by
  have h := number_rd l w (by omega)
  have h1 := beN_lt 8 l hl
  have h2 : (256 : Nat) ^ 8 = 18446744073709551616 := by decide
  rwa [show IntKind.i64.wrap (beN l : Int) = sgn64r (beN l) by rw [IntKind.wrap_i64]; unfold sgn64r; split <;> omega] at h

/-- whether so many bytes are there, behind each way -/
theorem there_no (p : Nat) (n : Int) (l : List UInt8) (E F : Int) (w : World) (h : DR w p l E) (hF : (if E = 0 then (if (l.length : Int) < n then 20 else 0) else E) = F) (hF0 : F ≠ 0) :
    Calls Tryz.prog 59 #[.pointer (some ⟨p, 0, none⟩), .int .i64 n] w fun e w' => e = .returned (.bool false) ∧ DR w' p l F ∧ Sole p w w' := by
  by_cases hE : E = 0
  · subst hE
    rw [if_pos rfl] at hF
    by_cases hn : (l.length : Int) < n
    · rw [if_pos hn] at hF
      subst hF
      refine (there_short p n _ w h.l h.e h.f1 (by rw [Bs_size]; exact hn)).mono ?_
      rintro e w' ⟨rfl, rfl⟩
      exact ⟨rfl, h.setE 20, Sole.setCell w 1 _⟩
    · rw [if_neg hn] at hF
      exact absurd hF.symm hF0
  · rw [if_neg hE] at hF
    subst hF
    refine (there_bad p n E w h.e (beq_eq_false_iff_ne.2 hE)).mono ?_
    rintro e w' ⟨rfl, rfl⟩
    exact ⟨rfl, h, Sole.refl _ _⟩
theorem there_yes (p : Nat) (n : Int) (l : List UInt8) (w : World) (h : DR w p l 0) (hn : ¬ (l.length : Int) < n) :
    Calls Tryz.prog 59 #[.pointer (some ⟨p, 0, none⟩), .int .i64 n] w fun e w' => e = .returned (.bool true) ∧ w' = w :=
  there_ok p n _ w h.l h.e (by rw [Bs_size]; exact hn)

theorem DPost.bad {α : Type} {p : Nat} {l : List UInt8} {E F : Int} {d : α} {f : List UInt8 → Rd α} {v : α → Value} {w : World} {e : Ending} {w' : World} (hF : (if E = 0 then (f l).wrong else E) = F) (hF0 : F ≠ 0)
    (h : e = .returned (v d) ∧ DR w' p l F ∧ Sole p w w') : DPost p l E d f v w e w' := by
  unfold DPost Rs.go
  by_cases hE : E = 0
  · rw [if_pos hE] at hF
    subst hE
    rw [if_neg (by simp), if_pos (by rw [hF]; exact hF0), hF]
    exact h
  · rw [if_neg hE] at hF
    rw [if_pos hE, hF]
    exact h
theorem DPost.good {α : Type} {p k : Nat} {l : List UInt8} {d x : α} {f : List UInt8 → Rd α} {v : α → Value} {w : World} {e : Ending} {w' : World} (hf : f l = ⟨0, k, x⟩)
    (h : e = .returned (v x) ∧ DR w' p (l.drop k) 0 ∧ Sole p w w') : DPost p l 0 d f v w e w' := by
  unfold DPost Rs.go
  rw [if_neg (by simp), hf, if_neg (by simp)]
  exact h
end Go.Proofs.YtlkhgnjljdbhnabGreatDoor
namespace Go.Proofs.YtlkhgnjljdbhnabGreatDoor
open Go.RowKit

theorem duint_A {Q : World → Prop} (p : Nat) (w : World) (HT : Hid (Calls Tryz.prog 59 #[.pointer (some ⟨p, 0, none⟩), .int .i64 4] w fun e w' => e = .returned (.bool false) ∧ Q w')) :
    Calls Tryz.prog 26 #[.pointer (some ⟨p, 0, none⟩)] w fun e w' => e = .returned (.int .i64 0) ∧ Q w' := by
  go_enter Tryz.func26, Tryz.ntmps26
  go_wp2_with fail
  refine HT.out.mono ?_
  rintro e w1 ⟨rfl, hQ⟩
  have HQ : Hid (Q w1) := hQ
  clear hQ
  go_wp2
  go_ret
  exact ⟨rfl, HQ.out⟩
theorem duint_B {R Q : World → Prop} (p : Nat) (a : ByteArray) (z : Int) (w : World) (HT : Hid (Calls Tryz.prog 59 #[.pointer (some ⟨p, 0, none⟩), .int .i64 4] w fun e w' => e = .returned (.bool true) ∧ w' = w))
    (HK : Hid (Calls Tryz.prog 60 #[.pointer (some ⟨p, 0, none⟩), .int .i64 4] w fun e w' => e = .returned (.string a) ∧ R w')) (HN : Hid (∀ w1, R w1 → Calls Tryz.prog 61 #[.string a] w1 fun e w' => e = .returned (.int .i64 z) ∧ Q w')) :
    Calls Tryz.prog 26 #[.pointer (some ⟨p, 0, none⟩)] w fun e w' => e = .returned (.int .i64 z) ∧ Q w' := by
  go_enter Tryz.func26, Tryz.ntmps26
  go_wp2_with fail
  refine HT.out.mono ?_
  rintro e w0 ⟨rfl, hw⟩
  have hw1 := hw.symm
  clear hw
  subst hw1
  go_wp2_with fail
  refine HK.out.mono ?_
  rintro e w2 ⟨rfl, hR⟩
  have Hw2 : Hid (R w2) := hR
  clear hR
  go_wp2_with fail
  refine (HN.out _ Hw2.out).mono ?_
  rintro e w3 ⟨rfl, hQ⟩
  have HQ : Hid (Q w3) := hQ
  clear hQ
  go_wp2
  go_ret
  exact ⟨rfl, HQ.out⟩

theorem dhyper_A {Q : World → Prop} (p : Nat) (w : World) (HT : Hid (Calls Tryz.prog 59 #[.pointer (some ⟨p, 0, none⟩), .int .i64 8] w fun e w' => e = .returned (.bool false) ∧ Q w')) :
    Calls Tryz.prog 28 #[.pointer (some ⟨p, 0, none⟩)] w fun e w' => e = .returned (.int .i64 0) ∧ Q w' := by
  go_enter Tryz.func28, Tryz.ntmps28
  go_wp2_with fail
  refine HT.out.mono ?_
  rintro e w1 ⟨rfl, hQ⟩
  have HQ : Hid (Q w1) := hQ
  clear hQ
  go_wp2
  go_ret
  exact ⟨rfl, HQ.out⟩
theorem dhyper_B {R Q : World → Prop} (p : Nat) (a : ByteArray) (z : Int) (w : World) (HT : Hid (Calls Tryz.prog 59 #[.pointer (some ⟨p, 0, none⟩), .int .i64 8] w fun e w' => e = .returned (.bool true) ∧ w' = w))
    (HK : Hid (Calls Tryz.prog 60 #[.pointer (some ⟨p, 0, none⟩), .int .i64 8] w fun e w' => e = .returned (.string a) ∧ R w')) (HN : Hid (∀ w1, R w1 → Calls Tryz.prog 61 #[.string a] w1 fun e w' => e = .returned (.int .i64 z) ∧ Q w')) :
    Calls Tryz.prog 28 #[.pointer (some ⟨p, 0, none⟩)] w fun e w' => e = .returned (.int .i64 z) ∧ Q w' := by
  go_enter Tryz.func28, Tryz.ntmps28
  go_wp2_with fail
  refine HT.out.mono ?_
  rintro e w0 ⟨rfl, hw⟩
  have hw1 := hw.symm
  clear hw
  subst hw1
  go_wp2_with fail
  refine HK.out.mono ?_
  rintro e w2 ⟨rfl, hR⟩
  have Hw2 : Hid (R w2) := hR
  clear hR
  go_wp2_with fail
  refine (HN.out _ Hw2.out).mono ?_
  rintro e w3 ⟨rfl, hQ⟩
  have HQ : Hid (Q w3) := hQ
  clear hQ
  go_wp2
  go_ret
  exact ⟨rfl, HQ.out⟩

theorem short_of (l : List UInt8) (E F : Int) (k : Nat) (f : Int) (hf : f = if l.length < k then 20 else 0) (h : (if E = 0 then f else E) = F) : (if E = 0 then (if (l.length : Int) < (k : Int) then 20 else 0) else E) = F := by
  rw [← h, hf]
  split
  · by_cases hl : l.length < k
    · rw [if_pos (by omega), if_pos hl]
    · rw [if_neg (by omega), if_neg hl]
  · rfl

theorem duint_any (p : Nat) (l : List UInt8) (E : Int) (w : World) (h : DR w p l E) : Calls Tryz.prog 26 #[.pointer (some ⟨p, 0, none⟩)] w (DPost p l E 0 rdWord (fun n => .int .i64 (n : Int)) w) := by
  obtain ⟨F, hF⟩ : ∃ F, (if E = 0 then (rdWord l).wrong else E) = F := ⟨_, rfl⟩
  have hwr : (rdWord l).wrong = if l.length < 4 then 20 else 0 := by unfold rdWord; split <;> rfl
  by_cases hF0 : F = 0
  · have hE : E = 0 := by
      by_cases hE : E = 0
      · exact hE
      · rw [if_neg hE] at hF; omega
    subst hE
    rw [if_pos rfl, hwr] at hF
    have hl : ¬ l.length < 4 := by intro c; rw [if_pos c] at hF; omega
    have ht : (l.take 4).length = 4 := by rw [List.length_take]; omega
    refine (duint_B (R := fun w' => DR w' p (l.drop 4) 0 ∧ Sole p w w') (Q := fun w' => DR w' p (l.drop 4) 0 ∧ Sole p w w') p _ _ w (there_yes p 4 l w h (by omega)) (takes_any p 4 l 0 w h (by omega)) (fun w1 h1 => (number4 _ w1 ht).mono fun e w' hp => ⟨hp.1, h1.1.below hp.2, h1.2.below_after hp.2⟩)).mono ?_
    exact fun e w' hp => DPost.good (k := 4) (x := beN (l.take 4)) (by unfold rdWord; rw [if_neg hl]) hp
  · refine (duint_A p w (there_no p 4 l E F w h (short_of l E F 4 _ hwr hF) hF0)).mono ?_
    exact fun e w' hp => DPost.bad hF hF0 hp
theorem dhyper_any (p : Nat) (l : List UInt8) (E : Int) (w : World) (h : DR w p l E) : Calls Tryz.prog 28 #[.pointer (some ⟨p, 0, none⟩)] w (DPost p l E 0 rdHyper (fun n => .int .i64 (sgn64r n)) w) := by
  obtain ⟨F, hF⟩ : ∃ F, (if E = 0 then (rdHyper l).wrong else E) = F := ⟨_, rfl⟩
  have hwr : (rdHyper l).wrong = if l.length < 8 then 20 else 0 := by unfold rdHyper; split <;> rfl
  by_cases hF0 : F = 0
  · have hE : E = 0 := by
      by_cases hE : E = 0
      · exact hE
      · rw [if_neg hE] at hF; omega
    subst hE
    rw [if_pos rfl, hwr] at hF
    have hl : ¬ l.length < 8 := by intro c; rw [if_pos c] at hF; omega
    have ht : (l.take 8).length = 8 := by rw [List.length_take]; omega
    refine (dhyper_B (R := fun w' => DR w' p (l.drop 8) 0 ∧ Sole p w w') (Q := fun w' => DR w' p (l.drop 8) 0 ∧ Sole p w w') p _ _ w (there_yes p 8 l w h (by omega)) (takes_any p 8 l 0 w h (by omega)) (fun w1 h1 => (number8 _ w1 ht).mono fun e w' hp => ⟨hp.1, h1.1.below hp.2, h1.2.below_after hp.2⟩)).mono ?_
    exact fun e w' hp => DPost.good (k := 8) (x := beN (l.take 8)) (by unfold rdHyper; rw [if_neg hl]) hp
  · refine (dhyper_A p w (there_no p 8 l E F w h (short_of l E F 8 _ hwr hF) hF0)).mono ?_
    exact fun e w' hp => DPost.bad hF hF0 hp

theorem dint_core {Q : World → Prop} (p : Nat) (n : Int) (w : World) (h0 : 0 ≤ n) (h1 : n < 4294967296) (HU : Hid (Calls Tryz.prog 26 #[.pointer (some ⟨p, 0, none⟩)] w fun e w' => e = .returned (.int .i64 n) ∧ Q w')) :
    Calls Tryz.prog 25 #[.pointer (some ⟨p, 0, none⟩)] w fun e w' => e = .returned (.int .i64 (if n < 2147483648 then n else n - 4294967296)) ∧ Q w' := by
  by_cases hn : n < 2147483648
  · rw [if_pos hn]
    go_enter Tryz.func25, Tryz.ntmps25
    go_wp2_with fail
    refine HU.out.mono ?_
    rintro e w1 ⟨rfl, hQ⟩
    have HQ : Hid (Q w1) := hQ
    clear hQ
    go_wp2
    go_ret
    exact ⟨rfl, HQ.out⟩
  · rw [if_neg hn]
    go_enter Tryz.func25, Tryz.ntmps25
    go_wp2_with fail
    refine HU.out.mono ?_
    rintro e w1 ⟨rfl, hQ⟩
    have HQ : Hid (Q w1) := hQ
    clear hQ
    go_wp2
    go_ret
    exact ⟨rfl, HQ.out⟩
theorem go_word_lt (l : List UInt8) (E : Int) : ((⟨l, E⟩ : Rs).go 0 rdWord).1 < 4294967296 := by
  rw [go_case]
  split
  · exact (rdWord_size l).2.2
  · show 0 < 4294967296; decide
theorem sgn32_if (n : Nat) : (if (n : Int) < 2147483648 then (n : Int) else (n : Int) - 4294967296) = sgn32r n := by
  unfold sgn32r
  split <;> split <;> omega
theorem dint_any (p : Nat) (l : List UInt8) (E : Int) (w : World) (h : DR w p l E) : Calls Tryz.prog 25 #[.pointer (some ⟨p, 0, none⟩)] w (DPost p l E 0 rdWord (fun n => .int .i64 (sgn32r n)) w) := by
  have hlt := go_word_lt l E
  refine (dint_core p _ w (by omega) (by omega) (duint_any p l E w h)).mono fun e w' hp => ⟨?_, hp.2⟩
  rw [hp.1, sgn32_if]

theorem dbool_A {Q : World → Prop} (p : Nat) (w : World) (HT : Hid (Calls Tryz.prog 59 #[.pointer (some ⟨p, 0, none⟩), .int .i64 4] w fun e w' => e = .returned (.bool false) ∧ Q w')) :
    Calls Tryz.prog 30 #[.pointer (some ⟨p, 0, none⟩)] w fun e w' => e = .returned (.bool false) ∧ Q w' := by
  go_enter Tryz.func30, Tryz.ntmps30
  go_wp2_with fail
  refine HT.out.mono ?_
  rintro e w1 ⟨rfl, hQ⟩
  have HQ : Hid (Q w1) := hQ
  clear hQ
  go_wp2
  go_ret
  exact ⟨rfl, HQ.out⟩
theorem dbool_B {R : World → Prop} (p : Nat) (s a : ByteArray) (n : Int) (w : World) (h0 : w.cell? ⟨p, 0, none⟩ = some (.string s)) (h4 : (4 : Int) ≤ (s.size : Int)) (ha : s.extract 0 4 = a) (hn : 1 < n) (HT : Hid (Calls Tryz.prog 59 #[.pointer (some ⟨p, 0, none⟩), .int .i64 4] w fun e w' => e = .returned (.bool true) ∧ w' = w))
    (HN : Hid (Calls Tryz.prog 61 #[.string a] w fun e w' => e = .returned (.int .i64 n) ∧ R w')) (HC : Hid (∀ w1, R w1 → w1.cell? ⟨p, 1, none⟩ = some (.int .i64 0) ∧ w1.frozen? ⟨p, 1, none⟩ = false)) :
    Calls Tryz.prog 30 #[.pointer (some ⟨p, 0, none⟩)] w fun e w' => e = .returned (.bool false) ∧ ∃ w1, R w1 ∧ w' = w1.setCell ⟨p, 1, none⟩ (.int .i64 25) := by
  go_enter Tryz.func30, Tryz.ntmps30
  go_wp2_with fail
  refine HT.out.mono ?_
  rintro e w0 ⟨rfl, hw⟩
  have hw1 := hw.symm
  clear hw
  subst hw1
  go_wp2_with fail
  refine HN.out.mono ?_
  rintro e w2 ⟨rfl, hR⟩
  obtain ⟨hc, hf⟩ := HC.out w2 hR
  have HR2 : Hid (R w2) := hR
  clear hR
  go_wp2
  go_ret
  exact ⟨rfl, w2, HR2.out, rfl⟩
theorem dbool_C {R Q : World → Prop} (p : Nat) (s a b : ByteArray) (n : Int) (w : World) (h0 : w.cell? ⟨p, 0, none⟩ = some (.string s)) (h4 : (4 : Int) ≤ (s.size : Int)) (ha : s.extract 0 4 = a) (hn : ¬ 1 < n) (HT : Hid (Calls Tryz.prog 59 #[.pointer (some ⟨p, 0, none⟩), .int .i64 4] w fun e w' => e = .returned (.bool true) ∧ w' = w))
    (HN : Hid (Calls Tryz.prog 61 #[.string a] w fun e w' => e = .returned (.int .i64 n) ∧ R w')) (HK : Hid (∀ w1, R w1 → Calls Tryz.prog 60 #[.pointer (some ⟨p, 0, none⟩), .int .i64 4] w1 fun e w' => e = .returned (.string b) ∧ Q w')) :
    Calls Tryz.prog 30 #[.pointer (some ⟨p, 0, none⟩)] w fun e w' => e = .returned (.bool (n == 1)) ∧ Q w' := by
  go_enter Tryz.func30, Tryz.ntmps30
  go_wp2_with fail
  refine HT.out.mono ?_
  rintro e w0 ⟨rfl, hw⟩
  have hw1 := hw.symm
  clear hw
  subst hw1
  go_wp2_with fail
  refine HN.out.mono ?_
  rintro e w2 ⟨rfl, hR⟩
  have HR2 : Hid (R w2) := hR
  clear hR
  go_wp2_with fail
  refine (HK.out _ HR2.out).mono ?_
  rintro e w3 ⟨rfl, hQ⟩
  have HQ : Hid (Q w3) := hQ
  clear hQ
  go_wp2
  go_ret
  exact ⟨rfl, HQ.out⟩
theorem ext_take (l : List UInt8) (n : Nat) : (⟨l.toArray⟩ : ByteArray).extract 0 n = ⟨(l.take n).toArray⟩ := by rw [Bs_extract]; simp
theorem dbool_any (p : Nat) (l : List UInt8) (E : Int) (w : World) (h : DR w p l E) : Calls Tryz.prog 30 #[.pointer (some ⟨p, 0, none⟩)] w (DPost p l E false rdBool (fun b => .bool b) w) := by
  have hwr : (rdWord l).wrong = if l.length < 4 then 20 else 0 := by unfold rdWord; split <;> rfl
  by_cases hok : E = 0 ∧ ¬ l.length < 4
  · obtain ⟨rfl, hl⟩ := hok
    have ht : (l.take 4).length = 4 := by rw [List.length_take]; omega
    have hw0 : (rdWord l).wrong = 0 := by rw [hwr, if_neg hl]
    have hv : (rdWord l).val = beN (l.take 4) := by unfold rdWord; rw [if_neg hl]
    have hN : Calls Tryz.prog 61 #[.string ⟨(l.take 4).toArray⟩] w fun e w' => e = .returned (.int .i64 (beN (l.take 4) : Int)) ∧ (DR w' p l 0 ∧ Below w.heap.size w w') := (number4 _ w ht).mono fun e w' hp => ⟨hp.1, h.below hp.2, hp.2⟩
    by_cases hn : 1 < beN (l.take 4)
    · refine (dbool_B p _ _ _ w h.l (by rw [Bs_size]; omega) (ext_take l 4) (by omega) (there_yes p 4 l w h (by omega)) hN (fun w1 h1 => ⟨h1.1.e, h1.1.f1⟩)).mono ?_
      rintro e w' ⟨rfl, w1, ⟨hd, hB⟩, rfl⟩
      exact DPost.bad (F := 25) (by rw [if_pos rfl]; unfold rdBool; rw [if_neg (by simp [hw0]), if_pos (by rw [hv]; exact hn)]) (by decide) ⟨rfl, hd.setE 25, (Sole.of_below hB).trans (Sole.setCell w1 1 _)⟩
    · refine (dbool_C (R := fun w' => DR w' p l 0 ∧ Below w.heap.size w w') (Q := fun w' => DR w' p (l.drop 4) 0 ∧ Sole p w w') p _ _ _ _ w h.l (by rw [Bs_size]; omega) (ext_take l 4) (by omega) (there_yes p 4 l w h (by omega)) hN (fun w1 h1 => (takes_any p 4 l 0 w1 h1.1 (by omega)).mono fun e w' hp => ⟨hp.1, hp.2.1, (Sole.of_below h1.2).trans hp.2.2⟩)).mono ?_
      intro e w' hp
      refine DPost.good (k := 4) (x := beN (l.take 4) == 1) (by unfold rdBool; rw [if_neg (by simp [hw0]), if_neg (by rw [hv]; exact hn), hv]) ?_
      have e1 : ((beN (l.take 4) : Int) == 1) = (beN (l.take 4) == 1) := by
        rw [Bool.eq_iff_iff]; simp only [beq_iff_eq]; omega
      rw [e1] at hp; exact hp
  · obtain ⟨F, hF⟩ : ∃ F, (if E = 0 then (if l.length < 4 then 20 else 0) else E) = F := ⟨_, rfl⟩
    have hF0 : F ≠ 0 := by
      intro c
      rw [c] at hF
      apply hok
      by_cases hE : E = 0
      · rw [if_pos hE] at hF
        exact ⟨hE, fun c => by rw [if_pos c] at hF; omega⟩
      · rw [if_neg hE] at hF; exact absurd hF hE
    refine (dbool_A p w (there_no p 4 l E F w h (short_of l E F 4 _ rfl hF) hF0)).mono ?_
    refine fun e w' hp => DPost.bad (F := F) ?_ hF0 hp
    rw [← hF]
    by_cases hE : E = 0
    · rw [if_pos hE, if_pos hE]
      by_cases hl : l.length < 4
      · unfold rdBool; rw [if_pos (by rw [hwr, if_pos hl]; decide), hwr]
      · exact absurd ⟨hE, hl⟩ hok
    · rw [if_neg hE, if_neg hE]
end Go.Proofs.YtlkhgnjljdbhnabGreatDoor
namespace Go.Proofs.YtlkhgnjljdbhnabGreatDoor
open Go.RowKit

theorem c32_same (x y : Nat) (hx : nan32 x = true) (hy : nan32 y = true) : c32 x = c32 y := by rw [c32_nan x hx, c32_nan y hy]
theorem c64_same (x y : Nat) (hx : nan64 x = true) (hy : nan64 y = true) : c64 x = c64 y := by unfold c64; rw [if_pos hx, if_pos hy]

theorem dfloat_A {Q : World → Prop} (p : Nat) (w : World) (HT : Hid (Calls Tryz.prog 59 #[.pointer (some ⟨p, 0, none⟩), .int .i64 4] w fun e w' => e = .returned (.bool false) ∧ Q w')) :
    Calls Tryz.prog 33 #[.pointer (some ⟨p, 0, none⟩)] w fun e w' => e = .returned (.float .f32 0) ∧ Q w' := by
  go_enter Tryz.func33, Tryz.ntmps33
  go_wp2_with fail
  refine HT.out.mono ?_
  rintro e w1 ⟨rfl, hQ⟩
  have HQ : Hid (Q w1) := hQ
  clear hQ
  go_wp2
  go_ret
  exact ⟨rfl, HQ.out⟩
theorem dfloat_B {R : World → Prop} (p : Nat) (s a : ByteArray) (n : Int) (w : World) (h0 : w.cell? ⟨p, 0, none⟩ = some (.string s)) (h4 : (4 : Int) ≤ (s.size : Int)) (ha : s.extract 0 4 = a) (HT : Hid (Calls Tryz.prog 59 #[.pointer (some ⟨p, 0, none⟩), .int .i64 4] w fun e w' => e = .returned (.bool true) ∧ w' = w))
    (HN : Hid (Calls Tryz.prog 61 #[.string a] w fun e w' => e = .returned (.int .i64 n) ∧ R w'))
    (HF : Hid (∀ zz w1, zz = n % 4294967296 → Calls Tryz.prog 64 #[.int .u32 zz] w1 fun e w' => e = .returned (.tuple #[.float .f32 0, .int .i64 10]) ∧ w' = w1))
    (HC : Hid (∀ w1, R w1 → w1.cell? ⟨p, 1, none⟩ = some (.int .i64 0) ∧ w1.frozen? ⟨p, 1, none⟩ = false)) :
    Calls Tryz.prog 33 #[.pointer (some ⟨p, 0, none⟩)] w fun e w' => e = .returned (.float .f32 0) ∧ ∃ w1, R w1 ∧ w' = w1.setCell ⟨p, 1, none⟩ (.int .i64 26) := by
  go_enter Tryz.func33, Tryz.ntmps33
  go_wp2_with fail
  refine HT.out.mono ?_
  rintro e w0 ⟨rfl, hw⟩
  have hw1 := hw.symm
  clear hw
  subst hw1
  go_wp2_with fail
  refine HN.out.mono ?_
  rintro e w2 ⟨rfl, hR⟩
  obtain ⟨hc, hf⟩ := HC.out w2 hR
  have HR2 : Hid (R w2) := hR
  clear hR
  go_wp2_with fail
  refine (HF.out _ _ (by first | rfl | (rw [IntKind.wrap_u32]))).mono ?_
  rintro e w3 ⟨rfl, hw⟩
  have hw1 := hw.symm
  clear hw
  subst hw1
  go_wp2
  go_ret
  exact ⟨rfl, _, HR2.out, rfl⟩
theorem dfloat_C {R Q : World → Prop} (p : Nat) (s a b : ByteArray) (n : Int) (G : Nat → Prop) (w : World) (h0 : w.cell? ⟨p, 0, none⟩ = some (.string s)) (h4 : (4 : Int) ≤ (s.size : Int)) (ha : s.extract 0 4 = a) (HT : Hid (Calls Tryz.prog 59 #[.pointer (some ⟨p, 0, none⟩), .int .i64 4] w fun e w' => e = .returned (.bool true) ∧ w' = w))
    (HN : Hid (Calls Tryz.prog 61 #[.string a] w fun e w' => e = .returned (.int .i64 n) ∧ R w'))
    (HF : Hid (∀ zz w1, zz = n % 4294967296 → R w1 → Calls Tryz.prog 64 #[.int .u32 zz] w1 fun e w' => ∃ z, e = .returned (.tuple #[.float .f32 z, .int .i64 0]) ∧ G z ∧ R w'))
    (HK : Hid (∀ w1, R w1 → Calls Tryz.prog 60 #[.pointer (some ⟨p, 0, none⟩), .int .i64 4] w1 fun e w' => e = .returned (.string b) ∧ Q w')) :
    Calls Tryz.prog 33 #[.pointer (some ⟨p, 0, none⟩)] w fun e w' => ∃ z, e = .returned (.float .f32 z) ∧ G z ∧ Q w' := by
  go_enter Tryz.func33, Tryz.ntmps33
  go_wp2_with fail
  refine HT.out.mono ?_
  rintro e w0 ⟨rfl, hw⟩
  have hw1 := hw.symm
  clear hw
  subst hw1
  go_wp2_with fail
  refine HN.out.mono ?_
  rintro e w2 ⟨rfl, hR⟩
  have HR2 : Hid (R w2) := hR
  clear hR
  go_wp2_with fail
  refine (HF.out _ _ (by first | rfl | (rw [IntKind.wrap_u32])) HR2.out).mono ?_
  rintro e w3 ⟨z, rfl, hG, hR⟩
  have HR3 : Hid (G z ∧ R w3) := ⟨hG, hR⟩
  clear hG hR
  go_wp2_with fail
  refine (HK.out _ HR3.out.2).mono ?_
  rintro e w4 ⟨rfl, hQ⟩
  have HQ : Hid (Q w4) := hQ
  clear hQ
  go_wp2
  go_ret
  exact ⟨z, rfl, HR3.out.1, HQ.out⟩

/-- a number with a point: the same one, whatever NaN it is -/
def DfloatPost (p : Nat) (l : List UInt8) (E : Int) (w : World) (e : Ending) (w' : World) : Prop :=
  ∃ z, e = .returned (.float .f32 z) ∧ (z < 4294967296 ∧ c32 z = c32 ((⟨l, E⟩ : Rs).go 0 rdFloat).1) ∧ DR w' p ((⟨l, E⟩ : Rs).go 0 rdFloat).2.l ((⟨l, E⟩ : Rs).go 0 rdFloat).2.e ∧ Sole p w w'
theorem dfloat_any (p : Nat) (l : List UInt8) (E : Int) (w : World) (h : DR w p l E) : Calls Tryz.prog 33 #[.pointer (some ⟨p, 0, none⟩)] w (DfloatPost p l E w) := by
  have hwr : (rdWord l).wrong = if l.length < 4 then 20 else 0 := by unfold rdWord; split <;> rfl
  by_cases hok : E = 0 ∧ ¬ l.length < 4
  · obtain ⟨rfl, hl⟩ := hok
    have ht : (l.take 4).length = 4 := by rw [List.length_take]; omega
    have hw0 : (rdWord l).wrong = 0 := by rw [hwr, if_neg hl]
    have hv : (rdWord l).val = beN (l.take 4) := by unfold rdWord; rw [if_neg hl]
    have hlt := (rdWord_size l).2.2
    rw [hv] at hlt
    have hN : Calls Tryz.prog 61 #[.string ⟨(l.take 4).toArray⟩] w fun e w' => e = .returned (.int .i64 ((beN (l.take 4) : Int))) ∧ (DR w' p l 0 ∧ Below w.heap.size w w') := (number4 _ w ht).mono fun e w' hp => ⟨hp.1, h.below hp.2, hp.2⟩
    have hmod : ((beN (l.take 4) : Int)) % 4294967296 = (beN (l.take 4) : Int) := by omega
    by_cases hn : nan32 (beN (l.take 4)) = true ∧ beN (l.take 4) ≠ 2143289344
    · refine (dfloat_B p _ _ _ w h.l (by rw [Bs_size]; omega) (ext_take l 4) (there_yes p 4 l w h (by omega)) hN (fun zz w1 hz => by rw [hz, hmod]; exact from32_bad _ w1 hlt hn.1 hn.2) (fun w1 h1 => ⟨h1.1.e, h1.1.f1⟩)).mono ?_
      rintro e w' ⟨rfl, w1, ⟨hd, hB⟩, rfl⟩
      have hr : rdFloat l = ⟨26, 4, 0⟩ := by unfold rdFloat; rw [if_neg (by simp [hw0]), if_pos (by rw [hv]; exact hn)]
      refine ⟨0, rfl, ?_, ?_⟩
      · unfold Rs.go; rw [if_neg (by simp), hr, if_pos (by decide)]; exact ⟨by decide, rfl⟩
      · unfold Rs.go; rw [if_neg (by simp), hr, if_pos (by decide)]; exact ⟨hd.setE 26, (Sole.of_below hB).trans (Sole.setCell w1 1 _)⟩
    · have hr : rdFloat l = ⟨0, 4, beN (l.take 4)⟩ := by unfold rdFloat; rw [if_neg (by simp [hw0]), if_neg (by rw [hv]; exact hn), hv]
      refine (dfloat_C (R := fun w' => DR w' p l 0 ∧ Below w.heap.size w w') (Q := fun w' => DR w' p (l.drop 4) 0 ∧ Sole p w w') p _ _ _ _ (fun z => z < 4294967296 ∧ c32 z = c32 (beN (l.take 4))) w h.l (by rw [Bs_size]; omega) (ext_take l 4) (there_yes p 4 l w h (by omega)) hN (fun zz w1 hz h1 => ?_) (fun w1 h1 => (takes_any p 4 l 0 w1 h1.1 (by omega)).mono fun e w' hp => ⟨hp.1, hp.2.1, (Sole.of_below h1.2).trans hp.2.2⟩)).mono ?_
      · rw [hz, hmod]
        cases hnn : nan32 (beN (l.take 4))
        · refine (from32_ok _ w1 hlt hnn).mono ?_
          rintro e w' ⟨rfl, rfl⟩
          exact ⟨_, rfl, ⟨hlt, rfl⟩, h1⟩
        · have hq : beN (l.take 4) = 2143289344 := by
            by_cases hq : beN (l.take 4) = 2143289344
            · exact hq
            · exact absurd ⟨hnn, hq⟩ hn
          rw [hq]
          refine (from32_nan w1).mono ?_
          rintro e w' ⟨z, hz1, hz2, rfl, k, rfl⟩
          exact ⟨z, rfl, ⟨hz2, c32_same _ _ hz1 (by decide)⟩, h1.1.drewN k, below_drew h1.2 k⟩
      · rintro e w' ⟨z, rfl, hG, hQ⟩
        refine ⟨z, rfl, ?_, ?_⟩
        · unfold Rs.go; rw [if_neg (by simp), hr, if_neg (by simp)]; exact hG
        · unfold Rs.go; rw [if_neg (by simp), hr, if_neg (by simp)]; exact hQ
  · obtain ⟨F, hF⟩ : ∃ F, (if E = 0 then (if l.length < 4 then 20 else 0) else E) = F := ⟨_, rfl⟩
    have hF0 : F ≠ 0 := by
      intro c
      rw [c] at hF
      apply hok
      by_cases hE : E = 0
      · rw [if_pos hE] at hF
        exact ⟨hE, fun c => by rw [if_pos c] at hF; omega⟩
      · rw [if_neg hE] at hF; exact absurd hF hE
    have hgo : (⟨l, E⟩ : Rs).go 0 rdFloat = (0, ⟨l, F⟩) := by
      unfold Rs.go
      by_cases hE : E = 0
      · rw [if_pos hE] at hF
        by_cases hl : l.length < 4
        · rw [if_pos hl] at hF
          have hr : (rdFloat l).wrong = 20 := by unfold rdFloat; rw [if_pos (by rw [hwr, if_pos hl]; decide), hwr, if_pos hl]
          rw [if_neg (by simp [hE]), hr, if_pos (by decide), hF]
        · exact absurd ⟨hE, hl⟩ hok
      · rw [if_neg hE] at hF
        rw [if_pos hE, hF]
    refine (dfloat_A p w (there_no p 4 l E F w h (short_of l E F 4 _ rfl hF) hF0)).mono ?_
    rintro e w' ⟨rfl, hd, hS⟩
    refine ⟨0, rfl, ?_, ?_⟩
    · rw [hgo]; exact ⟨by decide, rfl⟩
    · rw [hgo]; exact ⟨hd, hS⟩

theorem ddouble_A {Q : World → Prop} (p : Nat) (w : World) (HT : Hid (Calls Tryz.prog 59 #[.pointer (some ⟨p, 0, none⟩), .int .i64 8] w fun e w' => e = .returned (.bool false) ∧ Q w')) :
    Calls Tryz.prog 36 #[.pointer (some ⟨p, 0, none⟩)] w fun e w' => e = .returned (.float .f64 0) ∧ Q w' := by
  go_enter Tryz.func36, Tryz.ntmps36
  go_wp2_with fail
  refine HT.out.mono ?_
  rintro e w1 ⟨rfl, hQ⟩
  have HQ : Hid (Q w1) := hQ
  clear hQ
  go_wp2
  go_ret
  exact ⟨rfl, HQ.out⟩
theorem ddouble_B {R : World → Prop} (p : Nat) (s a : ByteArray) (n : Int) (w : World) (h0 : w.cell? ⟨p, 0, none⟩ = some (.string s)) (h4 : (8 : Int) ≤ (s.size : Int)) (ha : s.extract 0 8 = a) (HT : Hid (Calls Tryz.prog 59 #[.pointer (some ⟨p, 0, none⟩), .int .i64 8] w fun e w' => e = .returned (.bool true) ∧ w' = w))
    (HN : Hid (Calls Tryz.prog 61 #[.string a] w fun e w' => e = .returned (.int .i64 n) ∧ R w'))
    (HF : Hid (∀ zz w1, zz = n % 18446744073709551616 → Calls Tryz.prog 67 #[.int .u64 zz] w1 fun e w' => e = .returned (.tuple #[.float .f64 0, .int .i64 10]) ∧ w' = w1))
    (HC : Hid (∀ w1, R w1 → w1.cell? ⟨p, 1, none⟩ = some (.int .i64 0) ∧ w1.frozen? ⟨p, 1, none⟩ = false)) :
    Calls Tryz.prog 36 #[.pointer (some ⟨p, 0, none⟩)] w fun e w' => e = .returned (.float .f64 0) ∧ ∃ w1, R w1 ∧ w' = w1.setCell ⟨p, 1, none⟩ (.int .i64 26) := by
  go_enter Tryz.func36, Tryz.ntmps36
  go_wp2_with fail
  refine HT.out.mono ?_
  rintro e w0 ⟨rfl, hw⟩
  have hw1 := hw.symm
  clear hw
  subst hw1
  go_wp2_with fail
  refine HN.out.mono ?_
  rintro e w2 ⟨rfl, hR⟩
  obtain ⟨hc, hf⟩ := HC.out w2 hR
  have HR2 : Hid (R w2) := hR
  clear hR
  go_wp2_with fail
  refine (HF.out _ _ (by first | rfl | (rw [IntKind.wrap_u64]))).mono ?_
  rintro e w3 ⟨rfl, hw⟩
  have hw1 := hw.symm
  clear hw
  subst hw1
  go_wp2
  go_ret
  exact ⟨rfl, _, HR2.out, rfl⟩
theorem ddouble_C {R Q : World → Prop} (p : Nat) (s a b : ByteArray) (n : Int) (G : Nat → Prop) (w : World) (h0 : w.cell? ⟨p, 0, none⟩ = some (.string s)) (h4 : (8 : Int) ≤ (s.size : Int)) (ha : s.extract 0 8 = a) (HT : Hid (Calls Tryz.prog 59 #[.pointer (some ⟨p, 0, none⟩), .int .i64 8] w fun e w' => e = .returned (.bool true) ∧ w' = w))
    (HN : Hid (Calls Tryz.prog 61 #[.string a] w fun e w' => e = .returned (.int .i64 n) ∧ R w'))
    (HF : Hid (∀ zz w1, zz = n % 18446744073709551616 → R w1 → Calls Tryz.prog 67 #[.int .u64 zz] w1 fun e w' => ∃ z, e = .returned (.tuple #[.float .f64 z, .int .i64 0]) ∧ G z ∧ R w'))
    (HK : Hid (∀ w1, R w1 → Calls Tryz.prog 60 #[.pointer (some ⟨p, 0, none⟩), .int .i64 8] w1 fun e w' => e = .returned (.string b) ∧ Q w')) :
    Calls Tryz.prog 36 #[.pointer (some ⟨p, 0, none⟩)] w fun e w' => ∃ z, e = .returned (.float .f64 z) ∧ G z ∧ Q w' := by
  go_enter Tryz.func36, Tryz.ntmps36
  go_wp2_with fail
  refine HT.out.mono ?_
  rintro e w0 ⟨rfl, hw⟩
  have hw1 := hw.symm
  clear hw
  subst hw1
  go_wp2_with fail
  refine HN.out.mono ?_
  rintro e w2 ⟨rfl, hR⟩
  have HR2 : Hid (R w2) := hR
  clear hR
  go_wp2_with fail
  refine (HF.out _ _ (by first | rfl | (rw [IntKind.wrap_u64])) HR2.out).mono ?_
  rintro e w3 ⟨z, rfl, hG, hR⟩
  have HR3 : Hid (G z ∧ R w3) := ⟨hG, hR⟩
  clear hG hR
  go_wp2_with fail
  refine (HK.out _ HR3.out.2).mono ?_
  rintro e w4 ⟨rfl, hQ⟩
  have HQ : Hid (Q w4) := hQ
  clear hQ
  go_wp2
  go_ret
  exact ⟨z, rfl, HR3.out.1, HQ.out⟩

/-- a number with a point: the same one, whatever NaN it is -/
def DdoublePost (p : Nat) (l : List UInt8) (E : Int) (w : World) (e : Ending) (w' : World) : Prop :=
  ∃ z, e = .returned (.float .f64 z) ∧ (z < 18446744073709551616 ∧ c64 z = c64 ((⟨l, E⟩ : Rs).go 0 rdDouble).1) ∧ DR w' p ((⟨l, E⟩ : Rs).go 0 rdDouble).2.l ((⟨l, E⟩ : Rs).go 0 rdDouble).2.e ∧ Sole p w w'
theorem ddouble_any (p : Nat) (l : List UInt8) (E : Int) (w : World) (h : DR w p l E) : Calls Tryz.prog 36 #[.pointer (some ⟨p, 0, none⟩)] w (DdoublePost p l E w) := by
  have hwr : (rdHyper l).wrong = if l.length < 8 then 20 else 0 := by unfold rdHyper; split <;> rfl
  by_cases hok : E = 0 ∧ ¬ l.length < 8
  · obtain ⟨rfl, hl⟩ := hok
    have ht : (l.take 8).length = 8 := by rw [List.length_take]; omega
    have hw0 : (rdHyper l).wrong = 0 := by rw [hwr, if_neg hl]
    have hv : (rdHyper l).val = beN (l.take 8) := by unfold rdHyper; rw [if_neg hl]
    have hlt := (rdHyper_size l).2.2
    rw [hv] at hlt
    have hN : Calls Tryz.prog 61 #[.string ⟨(l.take 8).toArray⟩] w fun e w' => e = .returned (.int .i64 (sgn64r (beN (l.take 8)))) ∧ (DR w' p l 0 ∧ Below w.heap.size w w') := (number8 _ w ht).mono fun e w' hp => ⟨hp.1, h.below hp.2, hp.2⟩
    have hmod : (sgn64r (beN (l.take 8))) % 18446744073709551616 = (beN (l.take 8) : Int) := by unfold sgn64r; split <;> omega
    by_cases hn : nan64 (beN (l.take 8)) = true ∧ beN (l.take 8) ≠ 9221120237041090560
    · refine (ddouble_B p _ _ _ w h.l (by rw [Bs_size]; omega) (ext_take l 8) (there_yes p 8 l w h (by omega)) hN (fun zz w1 hz => by rw [hz, hmod]; exact from64_bad _ w1 hlt hn.1 hn.2) (fun w1 h1 => ⟨h1.1.e, h1.1.f1⟩)).mono ?_
      rintro e w' ⟨rfl, w1, ⟨hd, hB⟩, rfl⟩
      have hr : rdDouble l = ⟨26, 8, 0⟩ := by unfold rdDouble; rw [if_neg (by simp [hw0]), if_pos (by rw [hv]; exact hn)]
      refine ⟨0, rfl, ?_, ?_⟩
      · unfold Rs.go; rw [if_neg (by simp), hr, if_pos (by decide)]; exact ⟨by decide, rfl⟩
      · unfold Rs.go; rw [if_neg (by simp), hr, if_pos (by decide)]; exact ⟨hd.setE 26, (Sole.of_below hB).trans (Sole.setCell w1 1 _)⟩
    · have hr : rdDouble l = ⟨0, 8, beN (l.take 8)⟩ := by unfold rdDouble; rw [if_neg (by simp [hw0]), if_neg (by rw [hv]; exact hn), hv]
      refine (ddouble_C (R := fun w' => DR w' p l 0 ∧ Below w.heap.size w w') (Q := fun w' => DR w' p (l.drop 8) 0 ∧ Sole p w w') p _ _ _ _ (fun z => z < 18446744073709551616 ∧ c64 z = c64 (beN (l.take 8))) w h.l (by rw [Bs_size]; omega) (ext_take l 8) (there_yes p 8 l w h (by omega)) hN (fun zz w1 hz h1 => ?_) (fun w1 h1 => (takes_any p 8 l 0 w1 h1.1 (by omega)).mono fun e w' hp => ⟨hp.1, hp.2.1, (Sole.of_below h1.2).trans hp.2.2⟩)).mono ?_
      · rw [hz, hmod]
        cases hnn : nan64 (beN (l.take 8))
        · refine (from64_ok _ w1 hlt hnn).mono ?_
          rintro e w' ⟨rfl, rfl⟩
          exact ⟨_, rfl, ⟨hlt, rfl⟩, h1⟩
        · have hq : beN (l.take 8) = 9221120237041090560 := by
            by_cases hq : beN (l.take 8) = 9221120237041090560
            · exact hq
            · exact absurd ⟨hnn, hq⟩ hn
          rw [hq]
          refine (from64_nan w1).mono ?_
          rintro e w' ⟨⟨z, hz1, hz2, rfl⟩, rfl⟩
          exact ⟨z, rfl, ⟨hz2, c64_same _ _ hz1 (by decide)⟩, h1.1.drewN 1, below_drew h1.2 1⟩
      · rintro e w' ⟨z, rfl, hG, hQ⟩
        refine ⟨z, rfl, ?_, ?_⟩
        · unfold Rs.go; rw [if_neg (by simp), hr, if_neg (by simp)]; exact hG
        · unfold Rs.go; rw [if_neg (by simp), hr, if_neg (by simp)]; exact hQ
  · obtain ⟨F, hF⟩ : ∃ F, (if E = 0 then (if l.length < 8 then 20 else 0) else E) = F := ⟨_, rfl⟩
    have hF0 : F ≠ 0 := by
      intro c
      rw [c] at hF
      apply hok
      by_cases hE : E = 0
      · rw [if_pos hE] at hF
        exact ⟨hE, fun c => by rw [if_pos c] at hF; omega⟩
      · rw [if_neg hE] at hF; exact absurd hF hE
    have hgo : (⟨l, E⟩ : Rs).go 0 rdDouble = (0, ⟨l, F⟩) := by
      unfold Rs.go
      by_cases hE : E = 0
      · rw [if_pos hE] at hF
        by_cases hl : l.length < 8
        · rw [if_pos hl] at hF
          have hr : (rdDouble l).wrong = 20 := by unfold rdDouble; rw [if_pos (by rw [hwr, if_pos hl]; decide), hwr, if_pos hl]
          rw [if_neg (by simp [hE]), hr, if_pos (by decide), hF]
        · exact absurd ⟨hE, hl⟩ hok
      · rw [if_neg hE] at hF
        rw [if_pos hE, hF]
    refine (ddouble_A p w (there_no p 8 l E F w h (short_of l E F 8 _ rfl hF) hF0)).mono ?_
    rintro e w' ⟨rfl, hd, hS⟩
    refine ⟨0, rfl, ?_, ?_⟩
    · rw [hgo]; exact ⟨by decide, rfl⟩
    · rw [hgo]; exact ⟨hd, hS⟩
end Go.Proofs.YtlkhgnjljdbhnabGreatDoor
