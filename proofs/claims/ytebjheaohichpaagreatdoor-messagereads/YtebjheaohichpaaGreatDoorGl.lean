/- The document's own Reader in memory: what is left, what was wrong first. The document's own padding: as its Writer has it. The document's own number of some bytes, and its Reader's Uint, Int, Hyper. The document's own Reader: Uint, Int, Hyper, Bool. The document's own Reader: texts. The document's own Reader: Fixed, Count, Opaque, Rest. The document's own Reader: Count, Opaque. -/
import Derived.Test.YtebjheaohichpaaGreatDoorGg
import Derived.Deep.RegionWith
import Derived.Test.YtebjheaohichpaaGreatDoorGk
import Derived.Deep.RegionHeld
namespace Go.Proofs.YtebjheaohichpaaGreatDoor
open Go.RowKit
structure DR (w : World) (p : Nat) (l : List UInt8) (E : Int) : Prop where
  l : w.cell? ⟨p, 0, none⟩ = some (.string ⟨l.toArray⟩)
  e : w.cell? ⟨p, 1, none⟩ = some (.int .i64 E)
  f0 : w.frozen? ⟨p, 0, none⟩ = false
  f1 : w.frozen? ⟨p, 1, none⟩ = false

theorem DR.lt {w : World} {p : Nat} {l : List UInt8} {E : Int} (h : DR w p l E) : p < w.heap.size := by
  rcases Nat.lt_or_ge p w.heap.size with h1 | h1
  · exact h1
  · have := h.l
    simp [World.cell?, Array.getElem?_eq_none h1] at this
theorem DR.below {w w' : World} {p : Nat} {l : List UInt8} {E : Int} (h : DR w p l E) (hB : Below w.heap.size w w') : DR w' p l E := by
  have hb := hB.block p h.lt
  exact ⟨(cells_same hb 0).1.trans h.l, (cells_same hb 1).1.trans h.e, (cells_same hb 0).2.trans h.f0, (cells_same hb 1).2.trans h.f1⟩
theorem DR.setE {w : World} {p : Nat} {l : List UInt8} {E : Int} (h : DR w p l E) (F : Int) : DR (w.setCell ⟨p, 1, none⟩ (.int .i64 F)) p l F :=
  ⟨by rw [World.cell?_setCell_other _ _ _ _ (by simp)]; exact h.l, World.cell?_setCell_same _ _ _ h.e, by rw [World.frozen?_setCell]; exact h.f0, by rw [World.frozen?_setCell]; exact h.f1⟩
theorem DR.setL {w : World} {p : Nat} {l : List UInt8} {E : Int} (h : DR w p l E) (m : List UInt8) : DR (w.setCell ⟨p, 0, none⟩ (.string ⟨m.toArray⟩)) p m E :=
  ⟨World.cell?_setCell_same _ _ _ h.l, by rw [World.cell?_setCell_other _ _ _ _ (by simp)]; exact h.e, by rw [World.frozen?_setCell]; exact h.f0, by rw [World.frozen?_setCell]; exact h.f1⟩
/-- what a call answers, and what stands behind it -/
def DPost {α : Type} (p : Nat) (l : List UInt8) (E : Int) (d : α) (f : List UInt8 → Rd α) (v : α → Value) (w : World) (e : Ending) (w' : World) : Prop :=
  e = .returned (v ((⟨l, E⟩ : Rs).go d f).1) ∧ DR w' p ((⟨l, E⟩ : Rs).go d f).2.l ((⟨l, E⟩ : Rs).go d f).2.e ∧ Sole p w w'

theorem dfail_first (p : Nat) (F : Int) (w : World) (h1 : w.cell? ⟨p, 1, none⟩ = some (.int .i64 0)) (hf : w.frozen? ⟨p, 1, none⟩ = false) : Calls Tryz.prog 90 #[.pointer (some ⟨p, 0, none⟩), .int .i64 F] w fun e w' => e = .returned (.tuple #[]) ∧ w' = w.setCell ⟨p, 1, none⟩ (.int .i64 F) := by
  go_enter Tryz.func90, Tryz.ntmps90
  go_wp2
  first | go_end0 | refine bodyPost_ret (results_none rfl _ _ _) rfl ?_
  exact ⟨rfl, rfl⟩
theorem dfail_later (p : Nat) (E F : Int) (w : World) (h1 : w.cell? ⟨p, 1, none⟩ = some (.int .i64 E)) (hE : (E == 0) = false) : Calls Tryz.prog 90 #[.pointer (some ⟨p, 0, none⟩), .int .i64 F] w fun e w' => e = .returned (.tuple #[]) ∧ w' = w := by
  go_enter Tryz.func90, Tryz.ntmps90
  go_wp2
  first | go_end0 | refine bodyPost_ret (results_none rfl _ _ _) rfl ?_
  exact ⟨rfl, rfl⟩
theorem dfail_any (p : Nat) (l : List UInt8) (E F : Int) (w : World) (h : DR w p l E) : Calls Tryz.prog 90 #[.pointer (some ⟨p, 0, none⟩), .int .i64 F] w fun e w' => e = .returned (.tuple #[]) ∧ DR w' p l (if E = 0 then F else E) ∧ Sole p w w' := by
  by_cases hE : E = 0
  · subst hE
    refine (dfail_first p F w h.e h.f1).mono ?_
    rintro e w' ⟨rfl, rfl⟩
    exact ⟨rfl, h.setE F, Sole.setCell w 1 _⟩
  · rw [if_neg hE]
    refine (dfail_later p E F w h.e (beq_eq_false_iff_ne.2 hE)).mono ?_
    rintro e w' ⟨rfl, rfl⟩
    exact ⟨rfl, h, Sole.refl _ _⟩

theorem dnew_any (l : List UInt8) (w : World) : Calls Tryz.prog 59 #[.string ⟨l.toArray⟩] w fun e w' => e = .returned (.pointer (some ⟨w.heap.size, 0, none⟩)) ∧ w' = w.alloc (.cells #[.string ⟨l.toArray⟩, .int .i64 0] 142) := by
  go_enter Tryz.func59, Tryz.ntmps59
  go_wp2
  go_ret
  exact ⟨rfl, rfl⟩
theorem DR.new (l : List UInt8) (w : World) : DR (w.alloc (.cells #[.string ⟨l.toArray⟩, .int .i64 0] 142)) w.heap.size l 0 := by
  refine ⟨?_, ?_, ?_, ?_⟩ <;> simp

theorem there_bad (p : Nat) (n E : Int) (w : World) (h1 : w.cell? ⟨p, 1, none⟩ = some (.int .i64 E)) (hE : (E == 0) = false) : Calls Tryz.prog 78 #[.pointer (some ⟨p, 0, none⟩), .int .i64 n] w fun e w' => e = .returned (.bool false) ∧ w' = w := by
  go_enter Tryz.func78, Tryz.ntmps78
  go_wp2
  go_ret
  exact ⟨rfl, rfl⟩
theorem there_ok (p : Nat) (n : Int) (s : ByteArray) (w : World) (h0 : w.cell? ⟨p, 0, none⟩ = some (.string s)) (h1 : w.cell? ⟨p, 1, none⟩ = some (.int .i64 0)) (hn : ¬ (s.size : Int) < n) : Calls Tryz.prog 78 #[.pointer (some ⟨p, 0, none⟩), .int .i64 n] w fun e w' => e = .returned (.bool true) ∧ w' = w := by
  go_enter Tryz.func78, Tryz.ntmps78
  go_wp2
  go_ret
  exact ⟨rfl, rfl⟩
theorem there_short (p : Nat) (n : Int) (s : ByteArray) (w : World) (h0 : w.cell? ⟨p, 0, none⟩ = some (.string s)) (h1 : w.cell? ⟨p, 1, none⟩ = some (.int .i64 0)) (hf : w.frozen? ⟨p, 1, none⟩ = false) (hn : (s.size : Int) < n) : Calls Tryz.prog 78 #[.pointer (some ⟨p, 0, none⟩), .int .i64 n] w fun e w' => e = .returned (.bool false) ∧ w' = w.setCell ⟨p, 1, none⟩ (.int .i64 20) := by
  go_enter Tryz.func78, Tryz.ntmps78
  go_wp2
  go_ret
  exact ⟨rfl, rfl⟩

theorem takes_core (p : Nat) (n : Nat) (s a b : ByteArray) (w : World) (h0 : w.cell? ⟨p, 0, none⟩ = some (.string s)) (hf : w.frozen? ⟨p, 0, none⟩ = false) (hn : (n : Int) ≤ (s.size : Int)) (ha : s.extract 0 n = a) (hb : s.extract n s.size = b) :
    Calls Tryz.prog 79 #[.pointer (some ⟨p, 0, none⟩), .int .i64 n] w fun e w' => e = .returned (.string a) ∧ w' = w.setCell ⟨p, 0, none⟩ (.string b) := by
  go_enter Tryz.func79, Tryz.ntmps79
  go_wp2
  go_ret
  exact ⟨by rw [← ha]; rfl, by rw [← hb]⟩
theorem takes_any (p n : Nat) (l : List UInt8) (E : Int) (w : World) (h : DR w p l E) (hn : n ≤ l.length) :
    Calls Tryz.prog 79 #[.pointer (some ⟨p, 0, none⟩), .int .i64 n] w fun e w' => e = .returned (.string ⟨(l.take n).toArray⟩) ∧ DR w' p (l.drop n) E ∧ Sole p w w' := by
  refine (takes_core p n _ _ _ w h.l h.f0 (by rw [Bs_size]; omega) (show (⟨l.toArray⟩ : ByteArray).extract 0 n = ⟨(l.take n).toArray⟩ by rw [Bs_extract]; simp) (show (⟨l.toArray⟩ : ByteArray).extract n (⟨l.toArray⟩ : ByteArray).size = ⟨(l.drop n).toArray⟩ by rw [Bs_size, Bs_from])).mono ?_
  rintro e w' ⟨rfl, rfl⟩
  exact ⟨rfl, h.setL _, Sole.setCell w 0 _⟩

theorem dword_any (n : Int) (w : World) : Calls Tryz.prog 50 #[.int .i64 n] w fun e w' => e = .returned (.bool (decide (0 ≤ n) && decide (n ≤ 4294967295))) ∧ w' = w := by
  by_cases h0 : 0 ≤ n
  · by_cases h1 : n ≤ 4294967295
    · rw [decide_eq_true h0, decide_eq_true h1]
      go_enter Tryz.func50, Tryz.ntmps50
      go_wp2
      go_ret
      exact ⟨rfl, rfl⟩
    · rw [decide_eq_true h0, decide_eq_false h1]
      go_enter Tryz.func50, Tryz.ntmps50
      go_wp2
      go_ret
      exact ⟨rfl, rfl⟩
  · rw [decide_eq_false h0]
    go_enter Tryz.func50, Tryz.ntmps50
    go_wp2
    go_ret
    exact ⟨rfl, rfl⟩

end Go.Proofs.YtebjheaohichpaaGreatDoor

namespace Go.Proofs.YtebjheaohichpaaGreatDoor
open Go.RowKit
theorem i64_or_byte (x b : Nat) (hx : x < 72057594037927936) (hb : b < 256) : bits .or .i64 (IntKind.i64.wrap ((x : Int) * 256)) (b : Int) = IntKind.i64.wrap ((x * 256 + b : Nat) : Int) := by
  unfold bits
  have p8 : (2 : Nat) ^ 8 = 256 := by decide
  have e : (BitVec.ofInt IntKind.i64.bits (IntKind.i64.wrap ((x : Int) * 256)) ||| BitVec.ofInt IntKind.i64.bits (b : Int)).toNat = x * 256 + b := by
    rw [BitVec.toNat_or]
    show (BitVec.ofInt 64 (IntKind.i64.wrap ((x : Int) * 256))).toNat ||| (BitVec.ofInt 64 (b : Int)).toNat = _
    rw [BitVec.toNat_ofInt, BitVec.toNat_ofInt, IntKind.wrap_i64]
    have h64 : ((2 ^ 64 : Nat) : Int) = 18446744073709551616 := by decide
    rw [h64]
    have h1 : (((x : Int) * 256 + 9223372036854775808) % 18446744073709551616 - 9223372036854775808) % 18446744073709551616 = ((x * 256 : Nat) : Int) := by omega
    have h2 : (b : Int) % 18446744073709551616 = (b : Int) := by omega
    rw [h1, h2, Int.toNat_natCast, Int.toNat_natCast, nat_join 8 _ _ (by rw [p8]; omega) (by rw [p8]; omega)]
  show IntKind.i64.wrap (((BitVec.ofInt IntKind.i64.bits (IntKind.i64.wrap ((x : Int) * 256)) ||| BitVec.ofInt IntKind.i64.bits (b : Int)).toNat : Nat) : Int) = _
  rw [e]

theorem w64_eq (z : Int) : wrap64 z = IntKind.i64.wrap z := by unfold wrap64; rw [IntKind.wrap_i64]

theorem beN_take (l : List UInt8) (i : Nat) (h : i < l.length) : beN (l.take (i + 1)) = beN (l.take i) * 256 + l[i].toNat := by
  rw [List.take_succ_eq_append_getElem h, beN_snoc]

set_option maxRecDepth 4000 in
set_option maxHeartbeats 4000000 in
theorem number_rd (l : List UInt8) (w : World) (hl : l.length ≤ 8) : Calls Tryz.prog 80 #[.string ⟨l.toArray⟩] w fun e w' => e = .returned (.int .i64 (IntKind.i64.wrap (beN l : Int))) ∧ Below w.heap.size w w' := by
  have HL : Hid (l.length ≤ 8) := hl
  have hl' : (l.length : Int) ≤ 8 := by omega
  clear hl
  go_enter Tryz.func80, Tryz.ntmps80
  go_wp2_with fail
  go_loopw [3, 4] (fun n i wr => ∃ k : Nat, i = .int .i64 k ∧ k ≤ l.length ∧ n = .int .i64 (IntKind.i64.wrap (beN (l.take k) : Int)) ∧ Hid (Below w.heap.size w wr)) (fun _ i _ => l.length - (intOf i).toNat)
  case atStart => exact ⟨0, rfl, by omega, by rfl, Below.refl _ _⟩
  case round =>
    obtain ⟨k, rfl, hk, rfl, HB⟩ := hrel
    by_cases hlt : k < l.length
    · have hx : beN (l.take k) < 72057594037927936 := by
        have h1 := beN_lt k (l.take k) (by rw [List.length_take]; omega)
        have h2 : (256 : Nat) ^ k ≤ 256 ^ 7 := Nat.pow_le_pow_right (by decide) (by have := HL.out; omega)
        have h3 : (256 : Nat) ^ 7 = 72057594037927936 := by decide
        omega
      have hs := beN_take l k hlt
      have hb := l[k].toNat_lt
      obtain ⟨x, hxe⟩ : ∃ x, beN (l.take k) = x := ⟨_, rfl⟩
      rw [hxe] at hx hs
      have hw : IntKind.i64.wrap (beN (l.take k) : Int) = (x : Int) := by rw [hxe, IntKind.wrap_i64]; omega
      have HOR : Hid (bits .or .i64 (wrap64 ((x : Int) * 256)) (wrap64 ((l[k].toNat : Nat) : Int)) = IntKind.i64.wrap (beN (l.take (k + 1)) : Int)) := by
        show _ = _
        rw [hs, w64_eq, show wrap64 ((l[k].toNat : Nat) : Int) = ((l[k].toNat : Nat) : Int) by unfold wrap64; omega]
        exact i64_or_byte x _ hx hb
      rw [hw]
      have hx0 : 0 ≤ (x : Int) := by omega
      have hx1 : (x : Int) < 72057594037927936 := by omega
      clear hs hb hxe hw
      go_wp2
      go_roundw
      case rel => exact ⟨k + 1, by go_num, by omega, congrArg (Value.int .i64) HOR.out, HB⟩
      case measure => simp [intOf]; omega
    · obtain rfl : k = l.length := by omega
      go_wp2
      go_ret
      refine ⟨?_, HB.out⟩
      show Ending.returned (.int .i64 (IntKind.i64.wrap (beN (l.take l.length) : Int))) = _
      rw [List.take_length]

theorem number4 (l : List UInt8) (w : World) (hl : l.length = 4) : Calls Tryz.prog 80 #[.string ⟨l.toArray⟩] w fun e w' => e = .returned (.int .i64 (beN l : Int)) ∧ Below w.heap.size w w' := by
  have h := number_rd l w (by omega)
  have h1 := beN_lt 4 l hl
  have h2 : (256 : Nat) ^ 4 = 4294967296 := by decide
  rwa [show IntKind.i64.wrap (beN l : Int) = (beN l : Int) by rw [IntKind.wrap_i64]; omega] at h
theorem number8 (l : List UInt8) (w : World) (hl : l.length = 8) : Calls Tryz.prog 80 #[.string ⟨l.toArray⟩] w fun e w' => e = .returned (.int .i64 (sgn64r (beN l))) ∧ Below w.heap.size w w' := by
  have h := number_rd l w (by omega)
  have h1 := beN_lt 8 l hl
  have h2 : (256 : Nat) ^ 8 = 18446744073709551616 := by decide
  rwa [show IntKind.i64.wrap (beN l : Int) = sgn64r (beN l) by rw [IntKind.wrap_i64]; unfold sgn64r; split <;> omega] at h

/-- whether so many bytes are there, behind each way -/
theorem there_no (p : Nat) (n : Int) (l : List UInt8) (E F : Int) (w : World) (h : DR w p l E) (hF : (if E = 0 then (if (l.length : Int) < n then 20 else 0) else E) = F) (hF0 : F ≠ 0) :
    Calls Tryz.prog 78 #[.pointer (some ⟨p, 0, none⟩), .int .i64 n] w fun e w' => e = .returned (.bool false) ∧ DR w' p l F ∧ Sole p w w' := by
  by_cases hE : E = 0
  · subst hE
    rw [if_pos rfl] at hF
    by_cases hn : (l.length : Int) < n
    · rw [if_pos hn] at hF
      subst hF
      refine (there_short p n _ w h.l h.e h.f1 (by rw [Bs_size]; exact hn)).mono ?_
      rintro e w' ⟨rfl, rfl⟩
      exact ⟨rfl, h.setE 20, Sole.setCell w 1 _⟩
    · rw [if_neg hn] at hF
      exact absurd hF.symm hF0
  · rw [if_neg hE] at hF
    subst hF
    refine (there_bad p n E w h.e (beq_eq_false_iff_ne.2 hE)).mono ?_
    rintro e w' ⟨rfl, rfl⟩
    exact ⟨rfl, h, Sole.refl _ _⟩
theorem there_yes (p : Nat) (n : Int) (l : List UInt8) (w : World) (h : DR w p l 0) (hn : ¬ (l.length : Int) < n) :
    Calls Tryz.prog 78 #[.pointer (some ⟨p, 0, none⟩), .int .i64 n] w fun e w' => e = .returned (.bool true) ∧ w' = w :=
  there_ok p n _ w h.l h.e (by rw [Bs_size]; exact hn)

theorem DPost.bad {α : Type} {p : Nat} {l : List UInt8} {E F : Int} {d : α} {f : List UInt8 → Rd α} {v : α → Value} {w : World} {e : Ending} {w' : World} (hF : (if E = 0 then (f l).wrong else E) = F) (hF0 : F ≠ 0)
    (h : e = .returned (v d) ∧ DR w' p l F ∧ Sole p w w') : DPost p l E d f v w e w' := by
  unfold DPost Rs.go
  by_cases hE : E = 0
  · rw [if_pos hE] at hF
    subst hE
    rw [if_neg (by simp), if_pos (by rw [hF]; exact hF0), hF]
    exact h
  · rw [if_neg hE] at hF
    rw [if_pos hE, hF]
    exact h
theorem DPost.good {α : Type} {p k : Nat} {l : List UInt8} {d x : α} {f : List UInt8 → Rd α} {v : α → Value} {w : World} {e : Ending} {w' : World} (hf : f l = ⟨0, k, x⟩)
    (h : e = .returned (v x) ∧ DR w' p (l.drop k) 0 ∧ Sole p w w') : DPost p l 0 d f v w e w' := by
  unfold DPost Rs.go
  rw [if_neg (by simp), hf, if_neg (by simp)]
  exact h

end Go.Proofs.YtebjheaohichpaaGreatDoor
namespace Go.Proofs.YtebjheaohichpaaGreatDoor
open Go.RowKit
theorem duint_A {Q : World → Prop} (p : Nat) (w : World) (HT : Hid (Calls Tryz.prog 78 #[.pointer (some ⟨p, 0, none⟩), .int .i64 4] w fun e w' => e = .returned (.bool false) ∧ Q w')) :
    Calls Tryz.prog 60 #[.pointer (some ⟨p, 0, none⟩)] w fun e w' => e = .returned (.int .i64 0) ∧ Q w' := by
  go_enter Tryz.func60, Tryz.ntmps60
  go_wp2_with fail
  refine HT.out.mono ?_
  rintro e w1 ⟨rfl, hQ⟩
  have HQ : Hid (Q w1) := hQ
  clear hQ
  go_wp2
  go_ret
  exact ⟨rfl, HQ.out⟩
theorem duint_B {R Q : World → Prop} (p : Nat) (a : ByteArray) (z : Int) (w : World) (HT : Hid (Calls Tryz.prog 78 #[.pointer (some ⟨p, 0, none⟩), .int .i64 4] w fun e w' => e = .returned (.bool true) ∧ w' = w))
    (HK : Hid (Calls Tryz.prog 79 #[.pointer (some ⟨p, 0, none⟩), .int .i64 4] w fun e w' => e = .returned (.string a) ∧ R w')) (HN : Hid (∀ w1, R w1 → Calls Tryz.prog 80 #[.string a] w1 fun e w' => e = .returned (.int .i64 z) ∧ Q w')) :
    Calls Tryz.prog 60 #[.pointer (some ⟨p, 0, none⟩)] w fun e w' => e = .returned (.int .i64 z) ∧ Q w' := by
  go_enter Tryz.func60, Tryz.ntmps60
  go_wp2_with fail
  refine HT.out.mono ?_
  rintro e w0 ⟨rfl, hw⟩
  have hw1 := hw.symm
  clear hw
  subst hw1
  go_wp2_with fail
  refine HK.out.mono ?_
  rintro e w2 ⟨rfl, hR⟩
  have Hw2 : Hid (R w2) := hR
  clear hR
  go_wp2_with fail
  refine (HN.out _ Hw2.out).mono ?_
  rintro e w3 ⟨rfl, hQ⟩
  have HQ : Hid (Q w3) := hQ
  clear hQ
  go_wp2
  go_ret
  exact ⟨rfl, HQ.out⟩

theorem short_of (l : List UInt8) (E F : Int) (k : Nat) (f : Int) (hf : f = if l.length < k then 20 else 0) (h : (if E = 0 then f else E) = F) : (if E = 0 then (if (l.length : Int) < (k : Int) then 20 else 0) else E) = F := by
  rw [← h, hf]
  split
  · by_cases hl : l.length < k
    · rw [if_pos (by omega), if_pos hl]
    · rw [if_neg (by omega), if_neg hl]
  · rfl

theorem duint_any (p : Nat) (l : List UInt8) (E : Int) (w : World) (h : DR w p l E) : Calls Tryz.prog 60 #[.pointer (some ⟨p, 0, none⟩)] w (DPost p l E 0 rdWord (fun n => .int .i64 (n : Int)) w) := by
  obtain ⟨F, hF⟩ : ∃ F, (if E = 0 then (rdWord l).wrong else E) = F := ⟨_, rfl⟩
  have hwr : (rdWord l).wrong = if l.length < 4 then 20 else 0 := by unfold rdWord; split <;> rfl
  by_cases hF0 : F = 0
  · have hE : E = 0 := by
      by_cases hE : E = 0
      · exact hE
      · rw [if_neg hE] at hF; omega
    subst hE
    rw [if_pos rfl, hwr] at hF
    have hl : ¬ l.length < 4 := by intro c; rw [if_pos c] at hF; omega
    have ht : (l.take 4).length = 4 := by rw [List.length_take]; omega
    refine (duint_B (R := fun w' => DR w' p (l.drop 4) 0 ∧ Sole p w w') (Q := fun w' => DR w' p (l.drop 4) 0 ∧ Sole p w w') p _ _ w (there_yes p 4 l w h (by omega)) (takes_any p 4 l 0 w h (by omega)) (fun w1 h1 => (number4 _ w1 ht).mono fun e w' hp => ⟨hp.1, h1.1.below hp.2, h1.2.below_after hp.2⟩)).mono ?_
    exact fun e w' hp => DPost.good (k := 4) (x := beN (l.take 4)) (by unfold rdWord; rw [if_neg hl]) hp
  · refine (duint_A p w (there_no p 4 l E F w h (short_of l E F 4 _ hwr hF) hF0)).mono ?_
    exact fun e w' hp => DPost.bad hF hF0 hp
theorem ext_take (l : List UInt8) (n : Nat) : (⟨l.toArray⟩ : ByteArray).extract 0 n = ⟨(l.take n).toArray⟩ := by rw [Bs_extract]; simp
end Go.Proofs.YtebjheaohichpaaGreatDoor
namespace Go.Proofs.YtebjheaohichpaaGreatDoor
open Go.RowKit
theorem below_dr {B : Nat} {a w : World} (h : Below B a w) : Below B a w.drew := below_drew h 1

set_option maxRecDepth 4000 in
theorem op_A {Q : World → Prop} (p : Nat) (a n z : Int) (P : ByteArray) (w : World) (ha0 : 0 ≤ a) (ha1 : a ≤ 4) (hn0 : 0 ≤ n) (hn1 : n ≤ 4294967295) (hP : (P.size : Int) ≤ 3) (hz : a + n + (P.size : Int) = z)
    (HP : Hid (∀ w, Calls Tryz.prog 77 #[.int .i64 n] w fun e w' => e = .returned (.string P) ∧ Below w.heap.size w w'))
    (HT : Hid (∀ w1, Below w.heap.size w w1 → Calls Tryz.prog 78 #[.pointer (some ⟨p, 0, none⟩), .int .i64 z] w1 fun e w' => e = .returned (.bool false) ∧ Q w')) :
    Calls Tryz.prog 85 #[.pointer (some ⟨p, 0, none⟩), .int .i64 a, .int .i64 n] w fun e w' => e = .returned (.string ⟨#[]⟩) ∧ Q w' := by
  go_enter Tryz.func85, Tryz.ntmps85
  go_wp2_with fail
  refine (HP.out _).mono ?_
  rintro e w1 ⟨rfl, hB⟩
  have HB : Hid (Below w.heap.size w w1) := hB
  clear hB
  go_wp2_with fail
  refine (HT.out _ HB.out).mono ?_
  rintro e w2 ⟨rfl, hQ⟩
  have HQ : Hid (Q w2) := hQ
  clear hQ
  go_wp2
  go_ret
  exact ⟨rfl, HQ.out⟩

set_option maxRecDepth 4000 in
theorem op_B (p : Nat) (a n z : Int) (P s X : ByteArray) (w : World) (ha0 : 0 ≤ a) (ha1 : a ≤ 4) (hn0 : 0 ≤ n) (hn1 : n ≤ 4294967295) (hP : (P.size : Int) ≤ 3) (hz : a + n + (P.size : Int) = z) (hzs : z ≤ (s.size : Int))
    (hX : s.extract (a + n).toNat z.toNat = X) (hne : (X.toList == P.toList) = false)
    (HP : Hid (∀ w, Calls Tryz.prog 77 #[.int .i64 n] w fun e w' => e = .returned (.string P) ∧ Below w.heap.size w w'))
    (HC : Hid (∀ w1, Below w.heap.size w w1 → w1.cell? ⟨p, 0, none⟩ = some (.string s) ∧ w1.cell? ⟨p, 1, none⟩ = some (.int .i64 0) ∧ w1.frozen? ⟨p, 1, none⟩ = false))
    (HT : Hid (∀ w1, Below w.heap.size w w1 → Calls Tryz.prog 78 #[.pointer (some ⟨p, 0, none⟩), .int .i64 z] w1 fun e w' => e = .returned (.bool true) ∧ w' = w1)) :
    Calls Tryz.prog 85 #[.pointer (some ⟨p, 0, none⟩), .int .i64 a, .int .i64 n] w fun e w' => e = .returned (.string ⟨#[]⟩) ∧ ∃ w1, Below w.heap.size w w1 ∧ w' = w1.setCell ⟨p, 1, none⟩ (.int .i64 24) := by
  have hsl : ∀ w, (Instr.slice 9 (.string s) (some (.int .i64 (IntKind.i64.wrap (a + n)))) (some (.int .i64 (IntKind.i64.wrap (IntKind.i64.wrap (a + n) + (P.size : Int))))) none).run Tryz.prog w = .ok (.string X) w := fun w => by
    have e1 : IntKind.i64.wrap (a + n) = a + n := by rw [IntKind.wrap_i64]; omega
    rw [e1, hz, show IntKind.i64.wrap z = z by rw [IntKind.wrap_i64]; omega, slice_rd w s (a + n) z (by omega) (by omega) hzs, hX]
  clear hX hzs
  go_enter Tryz.func85, Tryz.ntmps85
  go_wp2_with fail
  refine (HP.out _).mono ?_
  rintro e w1 ⟨rfl, hB⟩
  obtain ⟨hc0, hc1, hf1⟩ := HC.out w1 hB
  have HB : Hid (Below w.heap.size w w1) := hB
  clear hB
  go_wp2_with fail
  refine (HT.out _ HB.out).mono ?_
  rintro e w2 ⟨rfl, hw⟩
  have hw1 := hw.symm
  clear hw
  subst hw1
  go_wp2_with fail
  have hd0 : w1.drew.cell? ⟨p, 0, none⟩ = some (.string s) := hc0
  have HB1 : Hid (Below w.heap.size w w1.drew) := below_dr HB.out
  go_region_held (fun w' => w'.cell? ⟨p, 0, none⟩ = some (.string s)) (first | exact hc3 | exact hd0) (first | (go_at_call 77; refine (HP.out _).mono ?_; rintro e w3 ⟨rfl, hB3⟩; have hB4 : Below w.heap.size w w3 := HB1.out.trans (hB3.mono HB1.out.size); obtain ⟨hc3, hc4, hf4⟩ := HC.out w3 hB4; have HB4 : Hid (Below w.heap.size w w3) := hB4; clear hB3 hB4))
  all_goals (
    go_wp2
    go_ret
    exact ⟨rfl, _, HB4.out, rfl⟩)

set_option maxRecDepth 4000 in
theorem op_C {Q : World → Prop} (p : Nat) (a n z : Int) (P s t u : ByteArray) (w : World) (ha0 : 0 ≤ a) (ha1 : a ≤ 4) (hn0 : 0 ≤ n) (hn1 : n ≤ 4294967295) (hP : (P.size : Int) ≤ 3) (hz : a + n + (P.size : Int) = z) (hzs : z ≤ (s.size : Int))
    (hX : s.extract (a + n).toNat z.toNat = P) (ht : (t.size : Int) = z) (hu : t.extract a.toNat (a + n).toNat = u)
    (HP : Hid (∀ w, Calls Tryz.prog 77 #[.int .i64 n] w fun e w' => e = .returned (.string P) ∧ Below w.heap.size w w'))
    (HC : Hid (∀ w1, Below w.heap.size w w1 → w1.cell? ⟨p, 0, none⟩ = some (.string s) ∧ w1.cell? ⟨p, 1, none⟩ = some (.int .i64 0) ∧ w1.frozen? ⟨p, 1, none⟩ = false))
    (HT : Hid (∀ w1, Below w.heap.size w w1 → Calls Tryz.prog 78 #[.pointer (some ⟨p, 0, none⟩), .int .i64 z] w1 fun e w' => e = .returned (.bool true) ∧ w' = w1))
    (HK : Hid (∀ w1, Below w.heap.size w w1 → Calls Tryz.prog 79 #[.pointer (some ⟨p, 0, none⟩), .int .i64 z] w1 fun e w' => e = .returned (.string t) ∧ Q w')) :
    Calls Tryz.prog 85 #[.pointer (some ⟨p, 0, none⟩), .int .i64 a, .int .i64 n] w fun e w' => e = .returned (.string u) ∧ Q w' := by
  have hsl : ∀ w, (Instr.slice 9 (.string s) (some (.int .i64 (IntKind.i64.wrap (a + n)))) (some (.int .i64 (IntKind.i64.wrap (IntKind.i64.wrap (a + n) + (P.size : Int))))) none).run Tryz.prog w = .ok (.string P) w := fun w => by
    have e1 : IntKind.i64.wrap (a + n) = a + n := by rw [IntKind.wrap_i64]; omega
    rw [e1, hz, show IntKind.i64.wrap z = z by rw [IntKind.wrap_i64]; omega, slice_rd w s (a + n) z (by omega) (by omega) hzs, hX]
  have hs2 : ∀ w, (Instr.slice 9 (.string t) (some (.int .i64 a)) (some (.int .i64 (a + n))) none).run Tryz.prog w = .ok (.string u) w := fun w => by
    rw [slice_rd w t a (a + n) ha0 (by omega) (by omega), hu]
  clear hX hzs ht hu
  go_enter Tryz.func85, Tryz.ntmps85
  go_wp2_with fail
  refine (HP.out _).mono ?_
  rintro e w1 ⟨rfl, hB⟩
  obtain ⟨hc0, hc1, hf1⟩ := HC.out w1 hB
  have HB : Hid (Below w.heap.size w w1) := hB
  clear hB
  go_wp2_with fail
  refine (HT.out _ HB.out).mono ?_
  rintro e w2 ⟨rfl, hw⟩
  have hw1 := hw.symm
  clear hw
  subst hw1
  go_wp2_with fail
  have hd0 : w1.drew.cell? ⟨p, 0, none⟩ = some (.string s) := hc0
  have HB1 : Hid (Below w.heap.size w w1.drew) := below_dr HB.out
  go_region_held (fun w' => w'.cell? ⟨p, 0, none⟩ = some (.string s)) (first | exact hc3 | exact hd0) (first | (go_at_call 77; refine (HP.out _).mono ?_; rintro e w3 ⟨rfl, hB3⟩; have hB4 : Below w.heap.size w w3 := HB1.out.trans (hB3.mono HB1.out.size); obtain ⟨hc3, hc4, hf4⟩ := HC.out w3 hB4; have HB4 : Hid (Below w.heap.size w w3) := hB4; clear hB3 hB4))
  all_goals (
    go_wp2_with fail
    refine (HK.out _ HB4.out).mono ?_
    rintro e w5 ⟨rfl, hQ⟩
    have HQ : Hid (Q w5) := hQ
    clear hQ
    go_wp2
    go_ret
    exact ⟨rfl, HQ.out⟩)

end Go.Proofs.YtebjheaohichpaaGreatDoor
namespace Go.Proofs.YtebjheaohichpaaGreatDoor
open Go.RowKit
theorem Padding_rd (n : Nat) (w : World) : Calls Tryz.prog 77 #[.int .i64 n] w fun e w' => e = .returned (.string ⟨(padB n).toArray⟩) ∧ Below w.heap.size w w' := Padding_any n w
theorem opaque_short (p a n : Nat) (l : List UInt8) (w : World) (h : DR w p l 0) (ha : a ≤ 4) (hn : n ≤ 4294967295) (hs : l.length < a + n + pads n) :
    Calls Tryz.prog 85 #[.pointer (some ⟨p, 0, none⟩), .int .i64 a, .int .i64 n] w fun e w' => e = .returned (.string ⟨#[]⟩) ∧ (DR w' p l 20 ∧ Sole p w w') := by
  have hp3 : pads n ≤ 3 := by unfold pads; omega
  refine op_A p a n ((a + n + pads n : Nat) : Int) _ w (by omega) (by omega) (by omega) (by omega) (by rw [Bs_size, padB_len]; omega) (by rw [Bs_size, padB_len]; omega) (Padding_rd n) (fun w1 hB => ?_)
  exact (there_no p _ l 0 20 w1 (h.below hB) (by rw [if_pos rfl, if_pos (by omega)]) (by decide)).mono fun e w' hp => ⟨hp.1, hp.2.1, (Sole.of_below hB).trans hp.2.2⟩
theorem opaque_pad (p a n : Nat) (l : List UInt8) (w : World) (h : DR w p l 0) (ha : a ≤ 4) (hn : n ≤ 4294967295) (hs : a + n + pads n ≤ l.length) (hne : ((l.drop a).drop n).take (pads n) ≠ padB n) :
    Calls Tryz.prog 85 #[.pointer (some ⟨p, 0, none⟩), .int .i64 a, .int .i64 n] w fun e w' => e = .returned (.string ⟨#[]⟩) ∧ (DR w' p l 24 ∧ Sole p w w') := by
  have hp3 : pads n ≤ 3 := by unfold pads; omega
  have hX : (⟨l.toArray⟩ : ByteArray).extract ((a : Int) + (n : Int)).toNat (((a + n + pads n : Nat) : Int)).toNat = ⟨(((l.drop a).drop n).take (pads n)).toArray⟩ := by
    rw [Bs_extract, List.drop_drop, show ((a : Int) + (n : Int)).toNat = a + n by omega, Int.toNat_natCast, show a + n + pads n - (a + n) = pads n by omega]
  refine (op_B p a n ((a + n + pads n : Nat) : Int) _ _ _ w (by omega) (by omega) (by omega) (by omega) (by rw [Bs_size, padB_len]; omega) (by rw [Bs_size, padB_len]; omega) (by rw [Bs_size]; omega) hX (by rw [ByteArray.toList_eq, ByteArray.toList_eq]; exact beq_eq_false_iff_ne.2 (by simpa using hne)) (Padding_rd n)
    (fun w1 hB => ⟨(h.below hB).l, (h.below hB).e, (h.below hB).f1⟩) (fun w1 hB => there_yes p _ l w1 (h.below hB) (by omega))).mono ?_
  rintro e w' ⟨rfl, w1, hB, rfl⟩
  exact ⟨rfl, (h.below hB).setE 24, (Sole.of_below hB).trans (Sole.setCell w1 1 _)⟩
theorem opaque_good (p a n : Nat) (l : List UInt8) (w : World) (h : DR w p l 0) (ha : a ≤ 4) (hn : n ≤ 4294967295) (hs : a + n + pads n ≤ l.length) (hpe : ((l.drop a).drop n).take (pads n) = padB n) :
    Calls Tryz.prog 85 #[.pointer (some ⟨p, 0, none⟩), .int .i64 a, .int .i64 n] w fun e w' => e = .returned (.string ⟨((l.drop a).take n).toArray⟩) ∧ (DR w' p (l.drop (a + (n + pads n))) 0 ∧ Sole p w w') := by
  have hp3 : pads n ≤ 3 := by unfold pads; omega
  have hX : (⟨l.toArray⟩ : ByteArray).extract ((a : Int) + (n : Int)).toNat (((a + n + pads n : Nat) : Int)).toNat = ⟨(padB n).toArray⟩ := by
    rw [Bs_extract, show ((a : Int) + (n : Int)).toNat = a + n by omega, Int.toNat_natCast, show a + n + pads n - (a + n) = pads n by omega, ← hpe, List.drop_drop]
  have hu : (⟨(l.take (a + n + pads n)).toArray⟩ : ByteArray).extract (a : Int).toNat ((a : Int) + (n : Int)).toNat = ⟨((l.drop a).take n).toArray⟩ := by
    rw [Bs_extract, show ((a : Int) + (n : Int)).toNat = a + n by omega, Int.toNat_natCast, show a + n - a = n by omega, List.drop_take, List.take_take, Nat.min_eq_left (by omega)]
  refine (op_C (Q := fun w' => DR w' p (l.drop (a + n + pads n)) 0 ∧ Sole p w w') p a n ((a + n + pads n : Nat) : Int) _ _ _ _ w (by omega) (by omega) (by omega) (by omega) (by rw [Bs_size, padB_len]; omega) (by rw [Bs_size, padB_len]; omega) (by rw [Bs_size]; omega) hX (by rw [Bs_size, List.length_take]; omega) hu (Padding_rd n)
    (fun w1 hB => ⟨(h.below hB).l, (h.below hB).e, (h.below hB).f1⟩) (fun w1 hB => there_yes p _ l w1 (h.below hB) (by omega)) (fun w1 hB => (takes_any p _ l 0 w1 (h.below hB) hs).mono fun e w' hp => ⟨hp.1, hp.2.1, (Sole.of_below hB).trans hp.2.2⟩)).mono ?_
  rw [Nat.add_assoc]
  exact fun e w' hp => hp

theorem opaque_bad (p a n : Nat) (l : List UInt8) (w : World) (h : DR w p l 0) (ha : a ≤ 4) (hal : a ≤ l.length) (hn : n ≤ 4294967295) (hw : (rdText n (l.drop a)).wrong ≠ 0) :
    Calls Tryz.prog 85 #[.pointer (some ⟨p, 0, none⟩), .int .i64 a, .int .i64 n] w fun e w' => e = .returned (.string ⟨#[]⟩) ∧ (DR w' p l (rdText n (l.drop a)).wrong ∧ Sole p w w') := by
  unfold rdText at hw ⊢
  by_cases h1 : (l.drop a).length < n + pads n
  · rw [if_pos h1]
    rw [List.length_drop] at h1
    exact opaque_short p a n l w h ha hn (by omega)
  · rw [if_neg h1] at hw ⊢
    rw [List.length_drop] at h1
    by_cases h2 : ((l.drop a).drop n).take (pads n) ≠ padB n
    · rw [if_pos h2]
      exact opaque_pad p a n l w h ha hn (by omega) h2
    · rw [if_neg h2] at hw; exact absurd rfl hw
theorem opaque_ok (p a n : Nat) (l : List UInt8) (w : World) (h : DR w p l 0) (ha : a ≤ 4) (hal : a ≤ l.length) (hn : n ≤ 4294967295) (hw : (rdText n (l.drop a)).wrong = 0) :
    Calls Tryz.prog 85 #[.pointer (some ⟨p, 0, none⟩), .int .i64 a, .int .i64 n] w fun e w' => e = .returned (.string ⟨(rdText n (l.drop a)).val.toArray⟩) ∧ (DR w' p (l.drop (a + (n + pads n))) 0 ∧ Sole p w w') := by
  unfold rdText at hw ⊢
  by_cases h1 : (l.drop a).length < n + pads n
  · rw [if_pos h1] at hw; cases hw
  · rw [if_neg h1] at hw ⊢
    rw [List.length_drop] at h1
    by_cases h2 : ((l.drop a).drop n).take (pads n) ≠ padB n
    · rw [if_pos h2] at hw; cases hw
    · rw [if_neg h2]
      exact opaque_good p a n l w h ha hn (by omega) (Decidable.not_not.1 h2)

end Go.Proofs.YtebjheaohichpaaGreatDoor
namespace Go.Proofs.YtebjheaohichpaaGreatDoor
open Go.RowKit
theorem rd_eta {α : Type} (r : Rd α) : r = ⟨r.wrong, r.size, r.val⟩ := rfl
theorem cnt_A {R Q : World → Prop} (p : Nat) (m : Int) (w : World) (HW : Hid (∀ w, Calls Tryz.prog 50 #[.int .i64 m] w fun e w' => e = .returned (.bool false) ∧ w' = w))
    (HF : Hid (Calls Tryz.prog 90 #[.pointer (some ⟨p, 0, none⟩), .int .i64 22] w fun e w' => e = .returned (.tuple #[]) ∧ R w')) (HT : Hid (∀ w1, R w1 → Calls Tryz.prog 78 #[.pointer (some ⟨p, 0, none⟩), .int .i64 4] w1 fun e w' => e = .returned (.bool false) ∧ Q w')) :
    Calls Tryz.prog 84 #[.pointer (some ⟨p, 0, none⟩), .int .i64 m] w fun e w' => e = .returned (.tuple #[.int .i64 0, .bool false]) ∧ Q w' := by
  go_enter Tryz.func84, Tryz.ntmps84
  go_wp2_with fail
  refine (HW.out _).mono ?_
  rintro e w0 ⟨rfl, hw⟩
  have hw1 := hw.symm
  clear hw
  subst hw1
  go_wp2_with fail
  refine HF.out.mono ?_
  rintro e w2 ⟨rfl, hR⟩
  have HR : Hid (R w2) := hR
  clear hR
  go_wp2_with fail
  refine (HT.out _ HR.out).mono ?_
  rintro e w9 ⟨rfl, hQ⟩
  have HQ : Hid (Q w9) := hQ
  clear hQ
  go_wp2
  go_ret2
  exact ⟨rfl, HQ.out⟩

theorem cnt_B {Q : World → Prop} (p : Nat) (m : Int) (w : World) (HW : Hid (∀ w, Calls Tryz.prog 50 #[.int .i64 m] w fun e w' => e = .returned (.bool true) ∧ w' = w))
    (HT : Hid (Calls Tryz.prog 78 #[.pointer (some ⟨p, 0, none⟩), .int .i64 4] w fun e w' => e = .returned (.bool false) ∧ Q w')) :
    Calls Tryz.prog 84 #[.pointer (some ⟨p, 0, none⟩), .int .i64 m] w fun e w' => e = .returned (.tuple #[.int .i64 0, .bool false]) ∧ Q w' := by
  go_enter Tryz.func84, Tryz.ntmps84
  go_wp2_with fail
  refine (HW.out _).mono ?_
  rintro e w0 ⟨rfl, hw⟩
  have hw1 := hw.symm
  clear hw
  subst hw1
  go_wp2_with fail
  refine HT.out.mono ?_
  rintro e w9 ⟨rfl, hQ⟩
  have HQ : Hid (Q w9) := hQ
  clear hQ
  go_wp2
  go_ret2
  exact ⟨rfl, HQ.out⟩

theorem cnt_C {R : World → Prop} (p : Nat) (m n : Int) (s a : ByteArray) (w : World) (h0 : w.cell? ⟨p, 0, none⟩ = some (.string s)) (h4 : (4 : Int) ≤ (s.size : Int)) (ha : s.extract 0 4 = a) (hn : m < n) (HW : Hid (∀ w, Calls Tryz.prog 50 #[.int .i64 m] w fun e w' => e = .returned (.bool true) ∧ w' = w))
    (HT : Hid (Calls Tryz.prog 78 #[.pointer (some ⟨p, 0, none⟩), .int .i64 4] w fun e w' => e = .returned (.bool true) ∧ w' = w)) (HN : Hid (Calls Tryz.prog 80 #[.string a] w fun e w' => e = .returned (.int .i64 n) ∧ R w')) (HC : Hid (∀ w1, R w1 → w1.cell? ⟨p, 1, none⟩ = some (.int .i64 0) ∧ w1.frozen? ⟨p, 1, none⟩ = false)) :
    Calls Tryz.prog 84 #[.pointer (some ⟨p, 0, none⟩), .int .i64 m] w fun e w' => e = .returned (.tuple #[.int .i64 0, .bool false]) ∧ ∃ w1, R w1 ∧ w' = w1.setCell ⟨p, 1, none⟩ (.int .i64 23) := by
  go_enter Tryz.func84, Tryz.ntmps84
  go_wp2_with fail
  refine (HW.out _).mono ?_
  rintro e w0 ⟨rfl, hw⟩
  have hw1 := hw.symm
  clear hw
  subst hw1
  go_wp2_with fail
  refine HT.out.mono ?_
  rintro e w0 ⟨rfl, hw⟩
  have hw1 := hw.symm
  clear hw
  subst hw1
  go_wp2_with fail
  refine HN.out.mono ?_
  rintro e w2 ⟨rfl, hR⟩
  obtain ⟨hc, hf⟩ := HC.out w2 hR
  have HR : Hid (R w2) := hR
  clear hR
  go_wp2
  go_ret2
  exact ⟨rfl, w2, HR.out, rfl⟩
theorem cnt_D {R : World → Prop} (p : Nat) (m n : Int) (s a : ByteArray) (w : World) (h0 : w.cell? ⟨p, 0, none⟩ = some (.string s)) (h4 : (4 : Int) ≤ (s.size : Int)) (ha : s.extract 0 4 = a) (hn : ¬ m < n) (HW : Hid (∀ w, Calls Tryz.prog 50 #[.int .i64 m] w fun e w' => e = .returned (.bool true) ∧ w' = w))
    (HT : Hid (Calls Tryz.prog 78 #[.pointer (some ⟨p, 0, none⟩), .int .i64 4] w fun e w' => e = .returned (.bool true) ∧ w' = w)) (HN : Hid (Calls Tryz.prog 80 #[.string a] w fun e w' => e = .returned (.int .i64 n) ∧ R w')) :
    Calls Tryz.prog 84 #[.pointer (some ⟨p, 0, none⟩), .int .i64 m] w fun e w' => e = .returned (.tuple #[.int .i64 n, .bool true]) ∧ R w' := by
  go_enter Tryz.func84, Tryz.ntmps84
  go_wp2_with fail
  refine (HW.out _).mono ?_
  rintro e w0 ⟨rfl, hw⟩
  have hw1 := hw.symm
  clear hw
  subst hw1
  go_wp2_with fail
  refine HT.out.mono ?_
  rintro e w0 ⟨rfl, hw⟩
  have hw1 := hw.symm
  clear hw
  subst hw1
  go_wp2_with fail
  refine HN.out.mono ?_
  rintro e w2 ⟨rfl, hR⟩
  have HR : Hid (R w2) := hR
  clear hR
  go_wp2
  go_ret2
  exact ⟨rfl, HR.out⟩

theorem counted_bad (p : Nat) (m : Int) (l : List UInt8) (E F : Int) (w : World) (h : DR w p l E) (hF : (if E = 0 then (rdCount m l).wrong else E) = F) (hF0 : F ≠ 0) :
    Calls Tryz.prog 84 #[.pointer (some ⟨p, 0, none⟩), .int .i64 m] w fun e w' => e = .returned (.tuple #[.int .i64 0, .bool false]) ∧ (DR w' p l F ∧ Sole p w w') := by
  have hW := dword_any m
  by_cases hw : m < 0 ∨ 4294967295 < m
  · have hr : (rdCount m l).wrong = 22 := by unfold rdCount; rw [if_pos hw]
    rw [hr] at hF
    refine cnt_A (R := fun w' => DR w' p l F ∧ Sole p w w') p m w (fun w => by have := hW w; rwa [show (decide (0 ≤ m) && decide (m ≤ 4294967295)) = false by rcases hw with h | h <;> simp <;> omega] at this) (by have := dfail_any p l E 22 w h; rwa [hF] at this) (fun w1 h1 => ?_)
    exact (there_no p 4 l F F w1 h1.1 (by rw [if_neg hF0]) hF0).mono fun e w' hp => ⟨hp.1, hp.2.1, h1.2.trans hp.2.2⟩
  · have hWt : ∀ w, Calls Tryz.prog 50 #[.int .i64 m] w fun e w' => e = .returned (.bool true) ∧ w' = w := fun w => by have := hW w; rwa [show (decide (0 ≤ m) && decide (m ≤ 4294967295)) = true by simp; omega] at this
    by_cases hs : E = 0 ∧ ¬ l.length < 4
    · obtain ⟨rfl, hl⟩ := hs
      rw [if_pos rfl] at hF
      have ht : (l.take 4).length = 4 := by rw [List.length_take]; omega
      have hlong : m < (beN (l.take 4) : Int) ∧ F = 23 := by
        unfold rdCount at hF
        rw [if_neg hw, if_neg hl] at hF
        by_cases hc : m < (beN (l.take 4) : Int)
        · rw [if_pos hc] at hF; exact ⟨hc, hF.symm⟩
        · rw [if_neg hc] at hF; exact absurd hF.symm hF0
      obtain ⟨hc, rfl⟩ := hlong
      refine (cnt_C (R := fun w' => DR w' p l 0 ∧ Below w.heap.size w w') p m _ _ _ w h.l (by rw [Bs_size]; omega) (ext_take l 4) hc hWt (there_yes p 4 l w h (by omega)) ((number4 _ w ht).mono fun e w' hp => ⟨hp.1, h.below hp.2, hp.2⟩) (fun w1 h1 => ⟨h1.1.e, h1.1.f1⟩)).mono ?_
      rintro e w' ⟨rfl, w1, ⟨hd, hB⟩, rfl⟩
      exact ⟨rfl, hd.setE 23, (Sole.of_below hB).trans (Sole.setCell w1 1 _)⟩
    · refine cnt_B p m w hWt (there_no p 4 l E F w h ?_ hF0)
      rw [← hF]
      by_cases hE : E = 0
      · rw [if_pos hE, if_pos hE]
        have hl : l.length < 4 := Decidable.not_not.1 fun c => hs ⟨hE, c⟩
        rw [if_pos (by omega)]
        unfold rdCount
        rw [if_neg hw, if_pos hl]
      · rw [if_neg hE, if_neg hE]
theorem counted_ok (p : Nat) (m : Int) (l : List UInt8) (w : World) (h : DR w p l 0) (hw0 : (rdCount m l).wrong = 0) :
    Calls Tryz.prog 84 #[.pointer (some ⟨p, 0, none⟩), .int .i64 m] w fun e w' => e = .returned (.tuple #[.int .i64 ((rdCount m l).val : Int), .bool true]) ∧ (DR w' p l 0 ∧ Below w.heap.size w w') := by
  have hW := dword_any m
  unfold rdCount at hw0 ⊢
  by_cases hw : m < 0 ∨ 4294967295 < m
  · rw [if_pos hw] at hw0; cases hw0
  · rw [if_neg hw] at hw0 ⊢
    by_cases hl : l.length < 4
    · rw [if_pos hl] at hw0; cases hw0
    · rw [if_neg hl] at hw0 ⊢
      by_cases hc : m < (beN (l.take 4) : Int)
      · rw [if_pos hc] at hw0; cases hw0
      · rw [if_neg hc]
        have ht : (l.take 4).length = 4 := by rw [List.length_take]; omega
        exact cnt_D (R := fun w' => DR w' p l 0 ∧ Below w.heap.size w w') p m _ _ _ w h.l (by rw [Bs_size]; omega) (ext_take l 4) hc (fun w => by have := hW w; rwa [show (decide (0 ≤ m) && decide (m ≤ 4294967295)) = true by simp; omega] at this) (there_yes p 4 l w h (by omega)) ((number4 _ w ht).mono fun e w' hp => ⟨hp.1, h.below hp.2, hp.2⟩)

theorem dopaque_A {Q : World → Prop} (p : Nat) (m : Int) (w : World) (HC : Hid (Calls Tryz.prog 84 #[.pointer (some ⟨p, 0, none⟩), .int .i64 m] w fun e w' => e = .returned (.tuple #[.int .i64 0, .bool false]) ∧ Q w')) :
    Calls Tryz.prog 81 #[.pointer (some ⟨p, 0, none⟩), .int .i64 m] w fun e w' => e = .returned (.string ⟨#[]⟩) ∧ Q w' := by
  go_enter Tryz.func81, Tryz.ntmps81
  go_wp2_with fail
  refine HC.out.mono ?_
  rintro e w9 ⟨rfl, hQ⟩
  have HQ : Hid (Q w9) := hQ
  clear hQ
  go_wp2
  go_ret
  exact ⟨rfl, HQ.out⟩

theorem dopaque_B {R Q : World → Prop} (p : Nat) (m n : Int) (t : ByteArray) (w : World) (HC : Hid (Calls Tryz.prog 84 #[.pointer (some ⟨p, 0, none⟩), .int .i64 m] w fun e w' => e = .returned (.tuple #[.int .i64 n, .bool true]) ∧ R w')) (HK : Hid (∀ w1, R w1 → Calls Tryz.prog 85 #[.pointer (some ⟨p, 0, none⟩), .int .i64 4, .int .i64 n] w1 fun e w' => e = .returned (.string t) ∧ Q w')) :
    Calls Tryz.prog 81 #[.pointer (some ⟨p, 0, none⟩), .int .i64 m] w fun e w' => e = .returned (.string t) ∧ Q w' := by
  go_enter Tryz.func81, Tryz.ntmps81
  go_wp2_with fail
  refine HC.out.mono ?_
  rintro e w2 ⟨rfl, hR⟩
  have HR : Hid (R w2) := hR
  clear hR
  go_wp2_with fail
  refine (HK.out _ HR.out).mono ?_
  rintro e w9 ⟨rfl, hQ⟩
  have HQ : Hid (Q w9) := hQ
  clear hQ
  go_wp2
  go_ret
  exact ⟨rfl, HQ.out⟩

theorem dopaque_any (p : Nat) (m : Int) (l : List UInt8) (E : Int) (w : World) (h : DR w p l E) : Calls Tryz.prog 81 #[.pointer (some ⟨p, 0, none⟩), .int .i64 m] w (DPost p l E [] (rdOpaque m) (fun s => Bs s) w) := by
  by_cases hc : E = 0 ∧ (rdCount m l).wrong = 0
  · obtain ⟨rfl, hw⟩ := hc
    obtain ⟨_, h4, hlt⟩ := rdCount_size m l
    have h4 := h4 hw
    generalize hk : (rdCount m l).val = k at *
    have hop : rdOpaque m l = ⟨(rdText k (l.drop 4)).wrong, 4 + (k + pads k), (rdText k (l.drop 4)).val⟩ := by
      unfold rdOpaque; rw [if_neg (by simp [hw]), hk, rdText_size]
    have hC := counted_ok p m l w h hw
    rw [hk] at hC
    by_cases hw2 : (rdText k (l.drop 4)).wrong = 0
    · refine (dopaque_B (R := fun w' => DR w' p l 0 ∧ Below w.heap.size w w') (Q := fun w' => DR w' p (l.drop (4 + (k + pads k))) 0 ∧ Sole p w w') p m _ _ w hC (fun w1 h1 => (opaque_ok p 4 k l w1 h1.1 (by omega) h4 (by omega) hw2).mono fun e w' hp => ⟨hp.1, hp.2.1, (Sole.of_below h1.2).trans hp.2.2⟩)).mono ?_
      exact fun e w' hp => DPost.good (k := 4 + (k + pads k)) (x := (rdText k (l.drop 4)).val) (by rw [hop, hw2]) hp
    · refine (dopaque_B (R := fun w' => DR w' p l 0 ∧ Below w.heap.size w w') (Q := fun w' => DR w' p l (rdText k (l.drop 4)).wrong ∧ Sole p w w') p m _ _ w hC (fun w1 h1 => (opaque_bad p 4 k l w1 h1.1 (by omega) h4 (by omega) hw2).mono fun e w' hp => ⟨hp.1, hp.2.1, (Sole.of_below h1.2).trans hp.2.2⟩)).mono ?_
      exact fun e w' hp => DPost.bad (F := (rdText k (l.drop 4)).wrong) (by rw [if_pos rfl, hop]) hw2 hp
  · obtain ⟨F, hF⟩ : ∃ F, (if E = 0 then (rdCount m l).wrong else E) = F := ⟨_, rfl⟩
    have hF0 : F ≠ 0 := by
      intro c
      rw [c] at hF
      apply hc
      by_cases hE : E = 0
      · rw [if_pos hE] at hF; exact ⟨hE, hF⟩
      · rw [if_neg hE] at hF; exact absurd hF hE
    refine (dopaque_A p m w (counted_bad p m l E F w h hF hF0)).mono ?_
    refine fun e w' hp => DPost.bad (F := F) ?_ hF0 hp
    rw [← hF]
    by_cases hE : E = 0
    · rw [if_pos hE, if_pos hE]
      unfold rdOpaque
      rw [if_pos (fun c => hc ⟨hE, c⟩)]
    · rw [if_neg hE, if_neg hE]

end Go.Proofs.YtebjheaohichpaaGreatDoor
