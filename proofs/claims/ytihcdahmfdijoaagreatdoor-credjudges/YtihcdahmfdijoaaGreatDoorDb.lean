/- The document's own number of some bytes, and its Reader's Uint, Int, Hyper. -/
import Derived.Test.YtihcdahmfdijoaaGreatDoorDp
namespace Go.Proofs.YtihcdahmfdijoaaGreatDoor
open Go.RowKit
theorem i64_or_byte (x b : Nat) (hx : x < 72057594037927936) (hb : b < 256) : bits .or .i64 (IntKind.i64.wrap ((x : Int) * 256)) (b : Int) = IntKind.i64.wrap ((x * 256 + b : Nat) : Int) := by
  unfold bits
  have p8 : (2 : Nat) ^ 8 = 256 := by decide
  have e : (BitVec.ofInt IntKind.i64.bits (IntKind.i64.wrap ((x : Int) * 256)) ||| BitVec.ofInt IntKind.i64.bits (b : Int)).toNat = x * 256 + b := by
    rw [BitVec.toNat_or]
    show (BitVec.ofInt 64 (IntKind.i64.wrap ((x : Int) * 256))).toNat ||| (BitVec.ofInt 64 (b : Int)).toNat = _
    rw [BitVec.toNat_ofInt, BitVec.toNat_ofInt, IntKind.wrap_i64]
    have h64 : ((2 ^ 64 : Nat) : Int) = 18446744073709551616 := by decide
    rw [h64]
    have h1 : (((x : Int) * 256 + 9223372036854775808) % 18446744073709551616 - 9223372036854775808) % 18446744073709551616 = ((x * 256 : Nat) : Int) := by omega
    have h2 : (b : Int) % 18446744073709551616 = (b : Int) := by omega
    rw [h1, h2, Int.toNat_natCast, Int.toNat_natCast, nat_join 8 _ _ (by rw [p8]; omega) (by rw [p8]; omega)]
  show IntKind.i64.wrap (((BitVec.ofInt IntKind.i64.bits (IntKind.i64.wrap ((x : Int) * 256)) ||| BitVec.ofInt IntKind.i64.bits (b : Int)).toNat : Nat) : Int) = _
  rw [e]

theorem w64_eq (z : Int) : wrap64 z = IntKind.i64.wrap z := by unfold wrap64; rw [IntKind.wrap_i64]

theorem beN_take (l : List UInt8) (i : Nat) (h : i < l.length) : beN (l.take (i + 1)) = beN (l.take i) * 256 + l[i].toNat := by
  rw [List.take_succ_eq_append_getElem h, beN_snoc]

set_option maxRecDepth 4000 in
set_option maxHeartbeats 4000000 in
theorem number_rd (l : List UInt8) (w : World) (hl : l.length ≤ 8) : Calls Tryz.prog 52 #[.string ⟨l.toArray⟩] w fun e w' => e = .returned (.int .i64 (IntKind.i64.wrap (beN l : Int))) ∧ Below w.heap.size w w' := by
  have HL : Hid (l.length ≤ 8) := hl
  have hl' : (l.length : Int) ≤ 8 := by omega
  clear hl
  go_enter Tryz.func52, Tryz.ntmps52
  go_wp2_with fail
  go_loopw [3, 4] (fun n i wr => ∃ k : Nat, i = .int .i64 k ∧ k ≤ l.length ∧ n = .int .i64 (IntKind.i64.wrap (beN (l.take k) : Int)) ∧ Hid (Below w.heap.size w wr)) (fun _ i _ => l.length - (intOf i).toNat)
  case atStart => exact ⟨0, rfl, by omega, by rfl, Below.refl _ _⟩
  case round =>
    obtain ⟨k, rfl, hk, rfl, HB⟩ := hrel
    by_cases hlt : k < l.length
    · have hx : beN (l.take k) < 72057594037927936 := by
        have h1 := beN_lt k (l.take k) (by rw [List.length_take]; omega)
        have h2 : (256 : Nat) ^ k ≤ 256 ^ 7 := Nat.pow_le_pow_right (by decide) (by have := HL.out; omega)
        have h3 : (256 : Nat) ^ 7 = 72057594037927936 := by decide
        omega
      have hs := beN_take l k hlt
      have hb := l[k].toNat_lt
      obtain ⟨x, hxe⟩ : ∃ x, beN (l.take k) = x := ⟨_, rfl⟩
      rw [hxe] at hx hs
      have hw : IntKind.i64.wrap (beN (l.take k) : Int) = (x : Int) := by rw [hxe, IntKind.wrap_i64]; omega
      have HOR : Hid (bits .or .i64 (wrap64 ((x : Int) * 256)) (wrap64 ((l[k].toNat : Nat) : Int)) = IntKind.i64.wrap (beN (l.take (k + 1)) : Int)) := by
        show _ = _
        rw [hs, w64_eq, show wrap64 ((l[k].toNat : Nat) : Int) = ((l[k].toNat : Nat) : Int) by unfold wrap64; omega]
        exact i64_or_byte x _ hx hb
      rw [hw]
      have hx0 : 0 ≤ (x : Int) := by omega
      have hx1 : (x : Int) < 72057594037927936 := by omega
      clear hs hb hxe hw
      go_wp2
      go_roundw
      case rel => exact ⟨k + 1, by go_num, by omega, congrArg (Value.int .i64) HOR.out, HB⟩
      case measure => simp [intOf]; omega
    · obtain rfl : k = l.length := by omega
      go_wp2
      go_ret
      refine ⟨?_, HB.out⟩
      show Ending.returned (.int .i64 (IntKind.i64.wrap (beN (l.take l.length) : Int))) = _
      rw [List.take_length]

theorem number4 (l : List UInt8) (w : World) (hl : l.length = 4) : Calls Tryz.prog 52 #[.string ⟨l.toArray⟩] w fun e w' => e = .returned (.int .i64 (beN l : Int)) ∧ Below w.heap.size w w' := by
  have h := number_rd l w (by omega)
  have h1 := beN_lt 4 l hl
  have h2 : (256 : Nat) ^ 4 = 4294967296 := by decide
  rwa [show IntKind.i64.wrap (beN l : Int) = (beN l : Int) by rw [IntKind.wrap_i64]; omega] at h
theorem number8 (l : List UInt8) (w : World) (hl : l.length = 8) : Calls Tryz.prog 52 #[.string ⟨l.toArray⟩] w fun e w' => e = .returned (.int .i64 (sgn64r (beN l))) ∧ Below w.heap.size w w' := by
  have h := number_rd l w (by omega)
  have h1 := beN_lt 8 l hl
  have h2 : (256 : Nat) ^ 8 = 18446744073709551616 := by decide
  rwa [show IntKind.i64.wrap (beN l : Int) = sgn64r (beN l) by rw [IntKind.wrap_i64]; unfold sgn64r; split <;> omega] at h

/-- whether so many bytes are there, behind each way -/
theorem there_no (p : Nat) (n : Int) (l : List UInt8) (E F : Int) (w : World) (h : DR w p l E) (hF : (if E = 0 then (if (l.length : Int) < n then 20 else 0) else E) = F) (hF0 : F ≠ 0) :
    Calls Tryz.prog 50 #[.pointer (some ⟨p, 0, none⟩), .int .i64 n] w fun e w' => e = .returned (.bool false) ∧ DR w' p l F ∧ Sole p w w' := by
  by_cases hE : E = 0
  · subst hE
    rw [if_pos rfl] at hF
    by_cases hn : (l.length : Int) < n
    · rw [if_pos hn] at hF
      subst hF
      refine (there_short p n _ w h.l h.e h.f1 (by rw [Bs_size]; exact hn)).mono ?_
      rintro e w' ⟨rfl, rfl⟩
      exact ⟨rfl, h.setE 20, Sole.setCell w 1 _⟩
    · rw [if_neg hn] at hF
      exact absurd hF.symm hF0
  · rw [if_neg hE] at hF
    subst hF
    refine (there_bad p n E w h.e (beq_eq_false_iff_ne.2 hE)).mono ?_
    rintro e w' ⟨rfl, rfl⟩
    exact ⟨rfl, h, Sole.refl _ _⟩
theorem there_yes (p : Nat) (n : Int) (l : List UInt8) (w : World) (h : DR w p l 0) (hn : ¬ (l.length : Int) < n) :
    Calls Tryz.prog 50 #[.pointer (some ⟨p, 0, none⟩), .int .i64 n] w fun e w' => e = .returned (.bool true) ∧ w' = w :=
  there_ok p n _ w h.l h.e (by rw [Bs_size]; exact hn)

theorem DPost.bad {α : Type} {p : Nat} {l : List UInt8} {E F : Int} {d : α} {f : List UInt8 → Rd α} {v : α → Value} {w : World} {e : Ending} {w' : World} (hF : (if E = 0 then (f l).wrong else E) = F) (hF0 : F ≠ 0)
    (h : e = .returned (v d) ∧ DR w' p l F ∧ Sole p w w') : DPost p l E d f v w e w' := by
  unfold DPost Rs.go
  by_cases hE : E = 0
  · rw [if_pos hE] at hF
    subst hE
    rw [if_neg (by simp), if_pos (by rw [hF]; exact hF0), hF]
    exact h
  · rw [if_neg hE] at hF
    rw [if_pos hE, hF]
    exact h
theorem DPost.good {α : Type} {p k : Nat} {l : List UInt8} {d x : α} {f : List UInt8 → Rd α} {v : α → Value} {w : World} {e : Ending} {w' : World} (hf : f l = ⟨0, k, x⟩)
    (h : e = .returned (v x) ∧ DR w' p (l.drop k) 0 ∧ Sole p w w') : DPost p l 0 d f v w e w' := by
  unfold DPost Rs.go
  rw [if_neg (by simp), hf, if_neg (by simp)]
  exact h

end Go.Proofs.YtihcdahmfdijoaaGreatDoor
