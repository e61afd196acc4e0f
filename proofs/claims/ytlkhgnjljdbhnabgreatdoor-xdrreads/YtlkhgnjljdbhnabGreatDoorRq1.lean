/- Reading by fours: plain mathematics (no dump): what a reading answers, that it tells what was laid down, and that there is one way to lay it down. Reading by fours, plain mathematics: what is read of any text is laid down as just the bytes that were taken. The program's readings of a text: a word. The program's readings of a text: a word of 64 bits, a count. The program's readings of a text: 64 bits, padding, a text. -/
import Derived.Test.YtlkhgnjljdbhnabGreatDoorYq2
import Derived.WalkKit
import Derived.Below
import Derived.Deep.QuietTactic
import Derived.BigQuiet
import Derived.Laws.BitsAllLaws
namespace Go.Proofs.YtlkhgnjljdbhnabGreatDoor

/-- k bytes, the highest first -/
def nbL (k n : Nat) : List UInt8 := (List.range k).map fun t => UInt8.ofNat (n / 256 ^ (k - 1 - t) % 256)
def beN (l : List UInt8) : Nat := l.foldl (fun n b => n * 256 + b.toNat) 0

theorem beN_snoc (l : List UInt8) (b : UInt8) : beN (l ++ [b]) = beN l * 256 + b.toNat := by simp [beN, List.foldl_append]

theorem nbL_succ (k n : Nat) : nbL (k + 1) n = nbL k (n / 256) ++ [UInt8.ofNat (n % 256)] := by
  unfold nbL
  rw [List.range_succ, List.map_append]
  congr 1
  · apply List.map_congr_left
    intro t ht
    have h := List.mem_range.1 ht
    rw [show k + 1 - 1 - t = (k - 1 - t) + 1 by omega, Nat.pow_succ, Nat.mul_comm, ← Nat.div_div_eq_div_mul]
  · simp

theorem snoc_cases (l : List UInt8) (h : l ≠ []) : ∃ (m : List UInt8) (b : UInt8), l = m ++ [b] := ⟨l.dropLast, l.getLast h, (List.dropLast_concat_getLast h).symm⟩

theorem beN_lt (k : Nat) (l : List UInt8) (h : l.length = k) : beN l < 256 ^ k := by
  induction k generalizing l with
  | zero => rw [List.length_eq_zero_iff.1 h]; simp [beN]
  | succ k ih =>
    obtain ⟨m, b, rfl⟩ := snoc_cases l (by intro e; rw [e] at h; simp at h)
    have h1 := ih m (by simpa using h)
    have h2 := b.toNat_lt
    rw [beN_snoc, Nat.pow_succ]
    omega

/-- one way -/
theorem nbL_beN (k : Nat) (l : List UInt8) (h : l.length = k) : nbL k (beN l) = l := by
  induction k generalizing l with
  | zero => rw [List.length_eq_zero_iff.1 h]; rfl
  | succ k ih =>
    obtain ⟨m, b, rfl⟩ := snoc_cases l (by intro e; rw [e] at h; simp at h)
    have h1 := ih m (by simpa using h)
    have h2 : b.toNat < 256 := b.toNat_lt
    rw [beN_snoc, nbL_succ, show (beN m * 256 + b.toNat) / 256 = beN m by omega, h1, show (beN m * 256 + b.toNat) % 256 = b.toNat by omega]
    simp

/-- a Reader: what is left, what was wrong first -/
structure Rs where
  l : List UInt8
  e : Int

/-- what one reading answers of what is left: what is wrong, how many bytes it takes, what it tells -/
structure Rd (α : Type) where
  wrong : Int
  size : Nat
  val : α

def Rs.go {α : Type} (st : Rs) (d : α) (f : List UInt8 → Rd α) : α × Rs :=
  if st.e ≠ 0 then (d, st) else if (f st.l).wrong ≠ 0 then (d, ⟨st.l, (f st.l).wrong⟩) else ((f st.l).val, ⟨st.l.drop (f st.l).size, 0⟩)

def pads (n : Nat) : Nat := (4 - n % 4) % 4
def padB (n : Nat) : List UInt8 := List.replicate (pads n) 0
theorem padB_len (n : Nat) : (padB n).length = pads n := by simp [padB]

def rdWord (l : List UInt8) : Rd Nat := if l.length < 4 then ⟨20, 4, 0⟩ else ⟨0, 4, beN (l.take 4)⟩
def rdHyper (l : List UInt8) : Rd Nat := if l.length < 8 then ⟨20, 8, 0⟩ else ⟨0, 8, beN (l.take 8)⟩
def rdCount (most : Int) (l : List UInt8) : Rd Nat :=
  if most < 0 ∨ 4294967295 < most then ⟨22, 4, 0⟩ else if l.length < 4 then ⟨20, 4, 0⟩ else if most < (beN (l.take 4) : Int) then ⟨23, 4, 0⟩ else ⟨0, 4, beN (l.take 4)⟩
def rdText (n : Nat) (l : List UInt8) : Rd (List UInt8) :=
  if l.length < n + pads n then ⟨20, n + pads n, []⟩ else if (l.drop n).take (pads n) ≠ padB n then ⟨24, n + pads n, []⟩ else ⟨0, n + pads n, l.take n⟩
def rdFixed (n : Int) (l : List UInt8) : Rd (List UInt8) := if n < 0 ∨ 4294967295 < n then ⟨22, 0, []⟩ else rdText n.toNat l
def rdOpaque (most : Int) (l : List UInt8) : Rd (List UInt8) :=
  if (rdCount most l).wrong ≠ 0 then ⟨(rdCount most l).wrong, 4, []⟩ else ⟨(rdText (rdCount most l).val (l.drop 4)).wrong, 4 + (rdText (rdCount most l).val (l.drop 4)).size, (rdText (rdCount most l).val (l.drop 4)).val⟩

/-- what was laid down as b is read as v by f: whole, with whatever behind it; a unit shorter it is too short -/
structure Good {α : Type} (f : List UInt8 → Rd α) (b : List UInt8) (v : α) : Prop where
  full : ∀ r, f (b ++ r) = ⟨0, b.length, v⟩
  fours : b.length % 4 = 0
  short : b ≠ [] → (f (b.take (b.length - 4))).wrong = 20

/-- Any reading that tells more than another of the same bytes (a sign, a truth, a number with a point). -/
theorem Good.map {α β : Type} {f : List UInt8 → Rd α} {b : List UInt8} {v : α} (h : Good f b v) (g : List UInt8 → Rd β) (u : β) (hok : ∀ l, f l = ⟨0, b.length, v⟩ → g l = ⟨0, b.length, u⟩) (hsh : ∀ l, (f l).wrong = 20 → (g l).wrong = 20) : Good g b u :=
  ⟨fun r => hok _ (h.full r), h.fours, fun hb => hsh _ (h.short hb)⟩

/-- one call, its value forgotten -/
structure Call where
  α : Type
  d : α
  f : List UInt8 → Rd α
  b : List UInt8
  v : α
  good : Good f b v

def laid : List Call → List UInt8
  | [] => []
  | c :: cs => c.b ++ laid cs

end Go.Proofs.YtlkhgnjljdbhnabGreatDoor
namespace Go.Proofs.YtlkhgnjljdbhnabGreatDoor

/-- what f reads of l is laid down as the bytes that it takes: lay says how a value is laid down -/
def One {α : Type} (f : List UInt8 → Rd α) (lay : α → List UInt8) (P : α → Prop) : Prop :=
  ∀ l, (f l).wrong = 0 → (f l).size ≤ l.length ∧ lay (f l).val = l.take (f l).size ∧ P (f l).val

theorem one_word : One rdWord (nbL 4) (fun n => n < 4294967296) := by
  intro l h
  unfold rdWord at h ⊢
  split at h
  · cases h
  · rename_i hl
    rw [if_neg hl]
    have h4 : (l.take 4).length = 4 := by rw [List.length_take]; omega
    exact ⟨by show 4 ≤ _; omega, nbL_beN 4 _ h4, by simpa using beN_lt 4 _ h4⟩

theorem one_hyper : One rdHyper (nbL 8) (fun n => n < 18446744073709551616) := by
  intro l h
  unfold rdHyper at h ⊢
  split at h
  · cases h
  · rename_i hl
    rw [if_neg hl]
    have h4 : (l.take 8).length = 8 := by rw [List.length_take]; omega
    exact ⟨by show 8 ≤ _; omega, nbL_beN 8 _ h4, by simpa using beN_lt 8 _ h4⟩

theorem one_count (most : Int) : One (rdCount most) (nbL 4) (fun n => 0 ≤ most ∧ most ≤ 4294967295 ∧ (n : Int) ≤ most) := by
  intro l h
  unfold rdCount at h ⊢
  split at h
  · cases h
  · rename_i hm
    rw [if_neg hm]
    split at h
    · cases h
    · rename_i hl
      rw [if_neg hl]
      split at h
      · cases h
      · rename_i hn
        rw [if_neg hn]
        have h4 : (l.take 4).length = 4 := by rw [List.length_take]; omega
        exact ⟨by show 4 ≤ _; omega, nbL_beN 4 _ h4, by show 0 ≤ most ∧ most ≤ _ ∧ ((beN (l.take 4) : Nat) : Int) ≤ most; omega⟩

theorem one_text (n : Nat) : One (rdText n) (fun s => s ++ padB n) (fun s => s.length = n) := by
  intro l h
  unfold rdText at h ⊢
  split at h
  · cases h
  · rename_i hl
    rw [if_neg hl]
    split at h
    · cases h
    · rename_i hp
      rw [if_neg hp]
      have hp2 : (l.drop n).take (pads n) = padB n := Decidable.not_not.1 hp
      refine ⟨by show n + pads n ≤ _; omega, ?_, by show (l.take n).length = n; rw [List.length_take]; omega⟩
      show l.take n ++ padB n = l.take (n + pads n)
      rw [← hp2, ← List.take_add]

theorem one_fixed (n : Int) : One (rdFixed n) (fun s => s ++ padB s.length) (fun s => (s.length : Int) = n ∧ n ≤ 4294967295) := by
  intro l h
  unfold rdFixed at h ⊢
  split at h
  · cases h
  · rename_i hn
    rw [if_neg hn]
    obtain ⟨h1, h2, h3⟩ := one_text n.toNat l h
    refine ⟨h1, ?_, ?_⟩
    · rw [← h2]; show _ ++ padB (rdText n.toNat l).val.length = _; rw [h3]
    · show ((rdText n.toNat l).val.length : Int) = n ∧ _; rw [h3]; omega

theorem one_opaque (most : Int) : One (rdOpaque most) (fun s => nbL 4 s.length ++ (s ++ padB s.length)) (fun s => 0 ≤ most ∧ most ≤ 4294967295 ∧ (s.length : Int) ≤ most) := by
  intro l h
  unfold rdOpaque at h ⊢
  split at h
  · rename_i hc; exact absurd h hc
  · rename_i hc
    rw [if_neg hc]
    have hc0 : (rdCount most l).wrong = 0 := Decidable.not_not.1 hc
    obtain ⟨h1, h2, h3⟩ := one_count most l hc0
    obtain ⟨t1, t2, t3⟩ := one_text _ _ h
    have hs : (rdCount most l).size = 4 := by
      unfold rdCount; split
      · rfl
      · split
        · rfl
        · split <;> rfl
    rw [hs] at h1 h2
    rw [List.length_drop] at t1
    have t2' : (rdText (rdCount most l).val (l.drop 4)).val ++ padB (rdCount most l).val = (l.drop 4).take (rdText (rdCount most l).val (l.drop 4)).size := t2
    refine ⟨by show 4 + _ ≤ _; omega, ?_, ?_⟩
    · show nbL 4 (rdText (rdCount most l).val (l.drop 4)).val.length ++ ((rdText (rdCount most l).val (l.drop 4)).val ++ padB (rdText (rdCount most l).val (l.drop 4)).val.length) = l.take (4 + (rdText (rdCount most l).val (l.drop 4)).size)
      rw [t3, h2, t2', ← List.take_add]
    · show 0 ≤ most ∧ most ≤ 4294967295 ∧ ((rdText (rdCount most l).val (l.drop 4)).val.length : Int) ≤ most
      rw [t3]; exact h3


end Go.Proofs.YtlkhgnjljdbhnabGreatDoor
namespace Go.Proofs.YtlkhgnjljdbhnabGreatDoor
open Go.RowKit
def Bs (l : List UInt8) : Value := .string ⟨l.toArray⟩
def trW (e : Int) : Value := if e = 0 then .nilIface else .iface 80 (.agg #[.int .i64 e])

theorem frontWord_short (l : List UInt8) (w : World) (h : l.length < 4) : Calls Tryz.prog 55 #[Bs l] w fun e w' => e = .returned (.tuple #[.int .u32 0, .iface 80 (.agg #[.int .i64 20])]) ∧ w' = w := by
  have hs : (⟨l.toArray⟩ : ByteArray).size = l.length := by simp [ByteArray.size]
  have h' : (l.length : Int) < 4 := by omega
  unfold Bs
  go_enter Tryz.func55, Tryz.ntmps55
  go_wp2
  go_ret2
  exact ⟨rfl, rfl⟩

theorem word_bits (a b c d : Nat) (ha : a < 256) (hb : b < 256) (hc : c < 256) (hd : d < 256) :
    bits .or .u32 (bits .or .u32 (bits .or .u32 ((a : Int) % 4294967296 * 16777216 % 4294967296) ((b : Int) % 4294967296 * 65536 % 4294967296)) ((c : Int) % 4294967296 * 256 % 4294967296)) ((d : Int) % 4294967296) = (((((a * 256 + b) * 256 + c) * 256 + d : Nat)) : Int) := by
  rw [show (a : Int) % 4294967296 * 16777216 % 4294967296 = ((a * 16777216 : Nat) : Int) by omega, show (b : Int) % 4294967296 * 65536 % 4294967296 = ((b * 65536 : Nat) : Int) by omega, show (c : Int) % 4294967296 * 256 % 4294967296 = ((c * 256 : Nat) : Int) by omega, show (d : Int) % 4294967296 = ((d : Nat) : Int) by omega]
  have p24 : (2 : Nat) ^ 24 = 16777216 := by decide
  have p16 : (2 : Nat) ^ 16 = 65536 := by decide
  have p8 : (2 : Nat) ^ 8 = 256 := by decide
  rw [u32_or_nat _ _ (by omega) (by omega), nat_join 24 _ _ (by rw [p24]; omega) (by rw [p24]; omega)]
  rw [u32_or_nat _ _ (by omega) (by omega), nat_join 16 _ _ (by rw [p16]; omega) (by rw [p16]; omega)]
  rw [u32_or_nat _ _ (by omega) (by omega), nat_join 8 _ _ (by rw [p8]; omega) (by rw [p8]; omega)]
  omega

theorem take_four (l : List UInt8) (h : 4 ≤ l.length) : beN (l.take 4) = ((l[0].toNat * 256 + l[1].toNat) * 256 + l[2].toNat) * 256 + l[3].toNat := by
  match l, h with
  | a :: b :: c :: d :: r, _ => simp [beN]

theorem below_drew {B : Nat} {a w : World} (h : Below B a w) (k : Nat) : Below B a (w.drewN k) := ⟨h.os, h.tape, h.output, h.size, h.block⟩

set_option maxRecDepth 4000 in
theorem frontWord_ok (l : List UInt8) (w : World) (h : 4 ≤ l.length) : Calls Tryz.prog 55 #[Bs l] w fun e w' => e = .returned (.tuple #[.int .u32 (beN (l.take 4)), .nilIface]) ∧ Below w.heap.size w w' := by
  have h' : ¬ (l.length : Int) < 4 := by omega
  have h0 : 0 < l.length := by omega
  have h1 : 1 < l.length := by omega
  have h2 : 2 < l.length := by omega
  have h3 : 3 < l.length := by omega
  have i0 : (0 : Int) < l.length := by omega
  have i1 : (1 : Int) < l.length := by omega
  have i2 : (2 : Int) < l.length := by omega
  have i3 : (3 : Int) < l.length := by omega
  have g0 : ({ data := l.toArray } : ByteArray)[0] = l[0] := rfl
  have g1 : ({ data := l.toArray } : ByteArray)[1] = l[1] := rfl
  have g2 : ({ data := l.toArray } : ByteArray)[2] = l[2] := rfl
  have g3 : ({ data := l.toArray } : ByteArray)[3] = l[3] := rfl
  unfold Bs
  go_enter Tryz.func55, Tryz.ntmps55
  go_wp2
  go_quiet (fail)
  go_wp2
  go_ret2
  refine ⟨?_, below_drew (Below.refl _ _) _⟩
  rw [take_four l h]
  show Ending.returned (.tuple #[.int .u32 (bits .or .u32 (bits .or .u32 (bits .or .u32 ((l[0].toNat : Int) % 4294967296 * 16777216 % 4294967296) ((l[1].toNat : Int) % 4294967296 * 65536 % 4294967296)) ((l[2].toNat : Int) % 4294967296 * 256 % 4294967296)) ((l[3].toNat : Int) % 4294967296)), .nilIface]) = _
  rw [word_bits _ _ _ _ l[0].toNat_lt l[1].toNat_lt l[2].toNat_lt l[3].toNat_lt]

/-- what the program's reading of a word answers -/
theorem frontWord_any (l : List UInt8) (w : World) : Calls Tryz.prog 55 #[Bs l] w fun e w' => e = .returned (.tuple #[.int .u32 (rdWord l).val, trW (rdWord l).wrong]) ∧ Below w.heap.size w w' := by
  unfold rdWord
  by_cases h : l.length < 4
  · rw [if_pos h]
    refine (frontWord_short l w h).mono ?_
    rintro e w' ⟨rfl, rfl⟩
    exact ⟨rfl, Below.refl _ _⟩
  · rw [if_neg h]
    exact frontWord_ok l w (by omega)

end Go.Proofs.YtlkhgnjljdbhnabGreatDoor
namespace Go.Proofs.YtlkhgnjljdbhnabGreatDoor
open Go.RowKit
theorem isWord_rd (n : Int) (w : World) : Calls Tryz.prog 52 #[.int .i64 n] w fun e w' => e = .returned (.bool (decide (0 ≤ n) && decide (n ≤ 4294967295))) ∧ w' = w := by
  by_cases h0 : 0 ≤ n
  · by_cases h1 : n ≤ 4294967295
    · rw [decide_eq_true h0, decide_eq_true h1]
      go_enter Tryz.func52, Tryz.ntmps52
      go_wp2
      go_ret
      exact ⟨rfl, rfl⟩
    · rw [decide_eq_true h0, decide_eq_false h1]
      have h2 : decide (n ≤ 4294967295) = false := decide_eq_false h1
      go_enter Tryz.func52, Tryz.ntmps52
      go_wp2
      go_ret
      exact ⟨rfl, rfl⟩
  · rw [decide_eq_false h0]
    have h2 : decide (0 ≤ n) = false := decide_eq_false h0
    go_enter Tryz.func52, Tryz.ntmps52
    go_wp2
    go_ret
    exact ⟨rfl, rfl⟩

theorem neq91 (v : Value) (w : World) : (binOp .neq 48 (.iface 80 v) .nilIface).run Tryz.prog w = .ok (.bool true) w := by kernel_rfl

theorem frontCount_range (most : Int) (l : List UInt8) (w : World) (h : most < 0 ∨ 4294967295 < most) : Calls Tryz.prog 70 #[Bs l, .int .i64 most] w fun e w' => e = .returned (.tuple #[.int .i64 0, trW 22]) ∧ Below w.heap.size w w' := by
  have H1 : Hid (∀ w, Calls Tryz.prog 52 #[.int .i64 most] w fun e w' => e = .returned (.bool false) ∧ w' = w) := fun w => by
    have := isWord_rd most w
    rwa [show (decide (0 ≤ most) && decide (most ≤ 4294967295)) = false by rcases h with h | h <;> simp <;> omega] at this
  clear h
  unfold Bs
  go_enter Tryz.func70, Tryz.ntmps70
  go_wp2_with fail
  refine (H1.out _).mono ?_
  rintro e w1 ⟨rfl, hw⟩
  have hw1 := hw.symm
  clear hw
  subst hw1
  go_wp2
  go_ret2
  exact ⟨rfl, Below.refl _ _⟩

theorem frontCount_short (most : Int) (l : List UInt8) (w : World) (h0 : 0 ≤ most) (h1 : most ≤ 4294967295) (hl : l.length < 4) : Calls Tryz.prog 70 #[Bs l, .int .i64 most] w fun e w' => e = .returned (.tuple #[.int .i64 0, trW 20]) ∧ Below w.heap.size w w' := by
  have H1 : Hid (∀ w, Calls Tryz.prog 52 #[.int .i64 most] w fun e w' => e = .returned (.bool true) ∧ w' = w) := fun w => by
    have := isWord_rd most w
    rwa [decide_eq_true h0, decide_eq_true h1] at this
  have H2 : Hid (∀ w, Calls Tryz.prog 55 #[Bs l] w fun e w' => e = .returned (.tuple #[.int .u32 0, .iface 80 (.agg #[.int .i64 20])]) ∧ w' = w) := fun w => frontWord_short l w hl
  clear hl
  go_enter Tryz.func70, Tryz.ntmps70
  go_wp2_with fail
  refine (H1.out _).mono ?_
  rintro e w1 ⟨rfl, hw⟩
  have hw1 := hw.symm
  clear hw
  subst hw1
  go_wp2_with fail
  refine (H2.out _).mono ?_
  rintro e w1 ⟨rfl, hw⟩
  have hw1 := hw.symm
  clear hw
  subst hw1
  have hn := fun w => neq91 (.agg #[.int .i64 20]) w
  go_wp2
  go_ret2
  exact ⟨rfl, Below.refl _ _⟩

/-- the last step: within the bound or above it -/
theorem frontCount_full (most : Int) (l : List UInt8) (w : World) (h0 : 0 ≤ most) (h1 : most ≤ 4294967295) (hl : 4 ≤ l.length) (b : Bool) (hb : decide (most < (beN (l.take 4) : Int)) = b) :
    Calls Tryz.prog 70 #[Bs l, .int .i64 most] w fun e w' => e = .returned (.tuple #[.int .i64 (if b then 0 else (beN (l.take 4) : Int)), trW (if b then 23 else 0)]) ∧ Below w.heap.size w w' := by
  have H1 : Hid (∀ w, Calls Tryz.prog 52 #[.int .i64 most] w fun e w' => e = .returned (.bool true) ∧ w' = w) := fun w => by
    have := isWord_rd most w
    rwa [decide_eq_true h0, decide_eq_true h1] at this
  have H2 : Hid (∀ w, Calls Tryz.prog 55 #[Bs l] w fun e w' => e = .returned (.tuple #[.int .u32 (beN (l.take 4)), .nilIface]) ∧ Below w.heap.size w w') := fun w => frontWord_ok l w hl
  have hlt : beN (l.take 4) < 4294967296 := by
    have := beN_lt 4 (l.take 4) (by rw [List.length_take]; omega)
    simpa using this
  generalize beN (l.take 4) = n at *
  have hn0 : 0 ≤ (n : Int) := by omega
  have hn1 : (n : Int) < 4294967296 := by omega
  generalize (n : Int) = N at *
  clear hl
  cases b
  · have hm : ¬ most < N := of_decide_eq_false hb
    go_enter Tryz.func70, Tryz.ntmps70
    go_wp2_with fail
    refine (H1.out _).mono ?_
    rintro e w1 ⟨rfl, hw⟩
    have hw1 := hw.symm
    clear hw
    subst hw1
    go_wp2_with fail
    refine (H2.out _).mono ?_
    rintro e w2 ⟨rfl, hB⟩
    have HB : Hid (Below w.heap.size w w2) := hB
    clear hB
    go_wp2
    go_ret2
    exact ⟨rfl, HB.out⟩
  · have hm : most < N := of_decide_eq_true hb
    go_enter Tryz.func70, Tryz.ntmps70
    go_wp2_with fail
    refine (H1.out _).mono ?_
    rintro e w1 ⟨rfl, hw⟩
    have hw1 := hw.symm
    clear hw
    subst hw1
    go_wp2_with fail
    refine (H2.out _).mono ?_
    rintro e w2 ⟨rfl, hB⟩
    have HB : Hid (Below w.heap.size w w2) := hB
    clear hB
    go_wp2
    go_ret2
    exact ⟨rfl, HB.out⟩

theorem frontCount_any (most : Int) (l : List UInt8) (w : World) : Calls Tryz.prog 70 #[Bs l, .int .i64 most] w fun e w' => e = .returned (.tuple #[.int .i64 (rdCount most l).val, trW (rdCount most l).wrong]) ∧ Below w.heap.size w w' := by
  unfold rdCount
  by_cases hm : most < 0 ∨ 4294967295 < most
  · rw [if_pos hm]; exact frontCount_range most l w hm
  · rw [if_neg hm]
    by_cases hl : l.length < 4
    · rw [if_pos hl]; exact frontCount_short most l w (by omega) (by omega) hl
    · rw [if_neg hl]
      by_cases hn : most < (beN (l.take 4) : Int)
      · rw [if_pos hn]; exact frontCount_full most l w (by omega) (by omega) (by omega) true (decide_eq_true hn)
      · rw [if_neg hn]; exact frontCount_full most l w (by omega) (by omega) (by omega) false (decide_eq_false hn)

end Go.Proofs.YtlkhgnjljdbhnabGreatDoor
namespace Go.Proofs.YtlkhgnjljdbhnabGreatDoor
open Go.RowKit
theorem Bs_extract (l : List UInt8) (i j : Nat) : (⟨l.toArray⟩ : ByteArray).extract i j = ⟨((l.drop i).take (j - i)).toArray⟩ := by
  apply ByteArray.ext; simp
theorem Bs_from (l : List UInt8) (i : Nat) : (⟨l.toArray⟩ : ByteArray).extract i l.length = ⟨(l.drop i).toArray⟩ := by
  rw [Bs_extract, List.take_of_length_le (by simp)]

theorem frontHyper_short (l : List UInt8) (w : World) (h : l.length < 8) : Calls Tryz.prog 62 #[Bs l] w fun e w' => e = .returned (.tuple #[.int .u64 0, trW 20]) ∧ w' = w := by
  have h' : (l.length : Int) < 8 := by omega
  unfold Bs
  go_enter Tryz.func62, Tryz.ntmps62
  go_wp2
  go_ret2
  exact ⟨rfl, rfl⟩

theorem take_eight (l : List UInt8) (h : 8 ≤ l.length) : beN (l.take 8) = beN (l.take 4) * 4294967296 + beN ((l.drop 4).take 4) := by
  match l, h with
  | a :: b :: c :: d :: e :: f :: g :: h :: r, _ => simp [beN]; omega

theorem hyper_bits (a b : Nat) (ha : a < 4294967296) (hb : b < 4294967296) : bits .or .u64 ((a : Int) * 4294967296) (b : Int) = ((a * 4294967296 + b : Nat) : Int) := by
  have p32 : (2 : Nat) ^ 32 = 4294967296 := by decide
  rw [show (a : Int) * 4294967296 = ((a * 4294967296 : Nat) : Int) by omega, u64_or_nat _ _ (by omega) (by omega), nat_join 32 _ _ (by rw [p32]; omega) (by rw [p32]; omega)]

set_option maxRecDepth 4000 in
theorem frontHyper_ok (l : List UInt8) (w : World) (h : 8 ≤ l.length) : Calls Tryz.prog 62 #[Bs l] w fun e w' => e = .returned (.tuple #[.int .u64 (beN (l.take 8)), .nilIface]) ∧ Below w.heap.size w w' := by
  have h' : ¬ (l.length : Int) < 8 := by omega
  have i4 : (4 : Int) ≤ l.length := by omega
  have H1 : Hid (∀ w, Calls Tryz.prog 55 #[.string ⟨l.toArray⟩] w fun e w' => e = .returned (.tuple #[.int .u32 (beN (l.take 4)), .nilIface]) ∧ Below w.heap.size w w') := fun w => frontWord_ok l w (by omega)
  have H2 : Hid (∀ w, Calls Tryz.prog 55 #[.string ((⟨l.toArray⟩ : ByteArray).extract 4 l.length)] w fun e w' => e = .returned (.tuple #[.int .u32 (beN ((l.drop 4).take 4)), .nilIface]) ∧ Below w.heap.size w w') := fun w => by
    rw [Bs_from]; exact frontWord_ok (l.drop 4) w (by rw [List.length_drop]; omega)
  have ha : beN (l.take 4) < 4294967296 := by simpa using beN_lt 4 (l.take 4) (by rw [List.length_take]; omega)
  have hb : beN ((l.drop 4).take 4) < 4294967296 := by simpa using beN_lt 4 ((l.drop 4).take 4) (by rw [List.length_take, List.length_drop]; omega)
  rw [take_eight l h]
  have hbits := hyper_bits _ _ ha hb
  generalize beN (l.take 4) = x at *
  generalize beN ((l.drop 4).take 4) = y at *
  have hx0 : 0 ≤ (x : Int) := by omega
  have hx1 : (x : Int) < 4294967296 := by omega
  have hy0 : 0 ≤ (y : Int) := by omega
  have hy1 : (y : Int) < 4294967296 := by omega
  have HBT : Hid (bits .or .u64 ((x : Int) * 4294967296) (y : Int) = ((x * 4294967296 + y : Nat) : Int)) := hbits
  clear hbits
  unfold Bs
  go_enter Tryz.func62, Tryz.ntmps62
  go_wp2_with fail
  refine (H1.out _).mono ?_
  rintro e w1 ⟨rfl, hB⟩
  have HB : Hid (Below w.heap.size w w1) := hB
  clear hB
  go_wp2_with fail
  refine (H2.out _).mono ?_
  rintro e w2 ⟨rfl, hB⟩
  have HB2 : Hid (Below w.heap.size w w2) := HB.out.trans (hB.mono HB.out.size)
  clear hB
  go_wp2
  go_ret2
  exact ⟨by rw [← HBT.out]; rfl, HB2.out⟩

theorem frontHyper_any (l : List UInt8) (w : World) : Calls Tryz.prog 62 #[Bs l] w fun e w' => e = .returned (.tuple #[.int .u64 (rdHyper l).val, trW (rdHyper l).wrong]) ∧ Below w.heap.size w w' := by
  unfold rdHyper
  by_cases h : l.length < 8
  · rw [if_pos h]
    refine (frontHyper_short l w h).mono ?_
    rintro e w' ⟨rfl, rfl⟩
    exact ⟨rfl, Below.refl _ _⟩
  · rw [if_neg h]
    exact frontHyper_ok l w (by omega)

theorem i64_mask_rd (n : Int) (k : Nat) (hk : k < 63) : bits .and .i64 n ((2 ^ k - 1 : Nat) : Int) = n % ((2 ^ k : Nat) : Int) := by
  have hp : 2 ^ k ≤ 2 ^ 62 := Nat.pow_le_pow_right (by omega) (by omega)
  have e62 : (2 : Nat) ^ 62 = 4611686018427387904 := by decide
  have hpos := Nat.two_pow_pos k
  have hm0 := Int.emod_nonneg n (show ((2 ^ k : Nat) : Int) ≠ 0 by omega)
  have hm1 := Int.emod_lt_of_pos n (show (0 : Int) < ((2 ^ k : Nat) : Int) by omega)
  unfold bits
  have e : (BitVec.ofInt IntKind.i64.bits n &&& BitVec.ofInt IntKind.i64.bits ((2 ^ k - 1 : Nat) : Int)).toNat = (n % ((2 ^ k : Nat) : Int)).toNat := by
    rw [BitVec.toNat_and]
    show (BitVec.ofInt 64 n).toNat &&& (BitVec.ofInt 64 ((2 ^ k - 1 : Nat) : Int)).toNat = _
    rw [BitVec.toNat_ofInt, BitVec.toNat_ofInt]
    have h1 : (((2 ^ k - 1 : Nat) : Int) % ((2 ^ 64 : Nat) : Int)).toNat = 2 ^ k - 1 := by
      rw [Int.emod_eq_of_lt (by omega) (by rw [show (2 : Nat) ^ 64 = 18446744073709551616 from by decide]; omega)]; omega
    rw [h1, Nat.and_two_pow_sub_one_eq_mod]
    have h2 : ((n % ((2 ^ 64 : Nat) : Int)).toNat : Int) = n % ((2 ^ 64 : Nat) : Int) := Int.toNat_of_nonneg (Int.emod_nonneg _ (by decide))
    have h3 : (2 ^ k : Nat) ∣ 2 ^ 64 := Nat.pow_dvd_pow 2 (by omega)
    have h4 : n % ((2 ^ 64 : Nat) : Int) % ((2 ^ k : Nat) : Int) = n % ((2 ^ k : Nat) : Int) := Int.emod_emod_of_dvd n (Int.natCast_dvd_natCast.2 h3)
    have h5 : (((n % ((2 ^ 64 : Nat) : Int)).toNat % 2 ^ k : Nat) : Int) = n % ((2 ^ k : Nat) : Int) := by
      rw [Int.natCast_emod, h2, h4]
    omega
  show IntKind.i64.wrap (((BitVec.ofInt IntKind.i64.bits n &&& BitVec.ofInt IntKind.i64.bits ((2 ^ k - 1 : Nat) : Int)).toNat : Nat) : Int) = _
  rw [e, Int.toNat_of_nonneg hm0, IntKind.wrap_i64]
  rw [e62] at hp
  have hlt : n % ((2 ^ k : Nat) : Int) < 4611686018427387904 := by omega
  generalize n % ((2 ^ k : Nat) : Int) = z at *
  omega


theorem i64_and3_rd (n : Int) : bits .and .i64 n 3 = n % 4 := i64_mask_rd n 2 (by omega)
theorem noughts3_rd (k : Nat) (h : k ≤ 3) : (⟨#[0, 0, 0]⟩ : ByteArray).extract 0 k = ⟨(List.replicate k (0 : UInt8)).toArray⟩ := by
  have : ∀ k : Fin 4, (⟨#[0, 0, 0]⟩ : ByteArray).extract 0 k.val = ⟨(List.replicate k.val (0 : UInt8)).toArray⟩ := by decide
  exact this ⟨k, by omega⟩
theorem padding_rd_core (n z : Int) (w : World) (h0 : -9223372036854775807 ≤ n) (h1 : n ≤ 9223372036854775807) (hz : bits .and .i64 (-n) 3 = z) (hz0 : 0 ≤ z) (hz1 : z ≤ 3) :
    Calls Tryz.prog 53 #[.int .i64 n] w fun e w' => e = .returned (.string ((⟨#[0, 0, 0]⟩ : ByteArray).extract 0 z.toNat)) ∧ w' = w := by
  go_enter Tryz.func53, Tryz.ntmps53
  go_wp2
  go_ret
  exact ⟨rfl, rfl⟩
theorem padding_rd (n : Nat) (w : World) (h : (n : Int) ≤ 9223372036854775807) : Calls Tryz.prog 53 #[.int .i64 n] w fun e w' => e = .returned (Bs (padB n)) ∧ w' = w := by
  have hz : bits .and .i64 (-(n : Int)) 3 = ((pads n : Nat) : Int) := by
    rw [i64_and3_rd]; unfold pads; omega
  have hp : pads n ≤ 3 := by unfold pads; omega
  have r := padding_rd_core (n : Int) _ w (by omega) h hz (by omega) (by omega)
  rw [Int.toNat_natCast, noughts3_rd _ hp] at r
  exact r

end Go.Proofs.YtlkhgnjljdbhnabGreatDoor
