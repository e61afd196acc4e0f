/- Reading by fours: plain mathematics (no dump): what a reading answers, that it tells what was laid down, and that there is one way to lay it down. Reading by fours, plain mathematics: what is read of any text is laid down as just the bytes that were taken. The program's readings of a text: a word. The program's readings of a text: a word of 64 bits, a count. -/
import Derived.Test.YtfcbjcebkahehaaGreatDoorZad
import Derived.WalkKit
import Derived.Below
import Derived.Deep.QuietTactic
import Derived.BigQuiet
import Derived.Laws.BitsAllLaws
namespace Go.Proofs.YtfcbjcebkahehaaGreatDoor

/-- k bytes, the highest first -/
def nbL (k n : Nat) : List UInt8 := (List.range k).map fun t => UInt8.ofNat (n / 256 ^ (k - 1 - t) % 256)
def beN (l : List UInt8) : Nat := l.foldl (fun n b => n * 256 + b.toNat) 0

theorem beN_snoc (l : List UInt8) (b : UInt8) : beN (l ++ [b]) = beN l * 256 + b.toNat := by simp [beN, List.foldl_append]

theorem nbL_len (k n : Nat) : (nbL k n).length = k := by simp [nbL]
theorem nbL_succ (k n : Nat) : nbL (k + 1) n = nbL k (n / 256) ++ [UInt8.ofNat (n % 256)] := by
  unfold nbL
  rw [List.range_succ, List.map_append]
  congr 1
  · apply List.map_congr_left
    intro t ht
    have h := List.mem_range.1 ht
    rw [show k + 1 - 1 - t = (k - 1 - t) + 1 by omega, Nat.pow_succ, Nat.mul_comm, ← Nat.div_div_eq_div_mul]
  · simp

theorem byte_val (n : Nat) : (UInt8.ofNat (n % 256)).toNat = n % 256 := by
  rw [UInt8.toNat_ofNat']
  omega

theorem beN_nbL (k n : Nat) : beN (nbL k n) = n % 256 ^ k := by
  induction k generalizing n with
  | zero => simp [nbL, beN, Nat.mod_one]
  | succ k ih =>
    rw [nbL_succ, beN_snoc, ih, byte_val, Nat.pow_succ, Nat.mul_comm (256 ^ k) 256, Nat.mod_mul]
    omega

theorem snoc_cases (l : List UInt8) (h : l ≠ []) : ∃ (m : List UInt8) (b : UInt8), l = m ++ [b] := ⟨l.dropLast, l.getLast h, (List.dropLast_concat_getLast h).symm⟩

theorem beN_lt (k : Nat) (l : List UInt8) (h : l.length = k) : beN l < 256 ^ k := by
  induction k generalizing l with
  | zero => rw [List.length_eq_zero_iff.1 h]; simp [beN]
  | succ k ih =>
    obtain ⟨m, b, rfl⟩ := snoc_cases l (by intro e; rw [e] at h; simp at h)
    have h1 := ih m (by simpa using h)
    have h2 := b.toNat_lt
    rw [beN_snoc, Nat.pow_succ]
    omega

/-- one way -/
theorem nbL_beN (k : Nat) (l : List UInt8) (h : l.length = k) : nbL k (beN l) = l := by
  induction k generalizing l with
  | zero => rw [List.length_eq_zero_iff.1 h]; rfl
  | succ k ih =>
    obtain ⟨m, b, rfl⟩ := snoc_cases l (by intro e; rw [e] at h; simp at h)
    have h1 := ih m (by simpa using h)
    have h2 : b.toNat < 256 := b.toNat_lt
    rw [beN_snoc, nbL_succ, show (beN m * 256 + b.toNat) / 256 = beN m by omega, h1, show (beN m * 256 + b.toNat) % 256 = b.toNat by omega]
    simp

/-- a Reader: what is left, what was wrong first -/
structure Rs where
  l : List UInt8
  e : Int

/-- what one reading answers of what is left: what is wrong, how many bytes it takes, what it tells -/
structure Rd (α : Type) where
  wrong : Int
  size : Nat
  val : α

def Rs.go {α : Type} (st : Rs) (d : α) (f : List UInt8 → Rd α) : α × Rs :=
  if st.e ≠ 0 then (d, st) else if (f st.l).wrong ≠ 0 then (d, ⟨st.l, (f st.l).wrong⟩) else ((f st.l).val, ⟨st.l.drop (f st.l).size, 0⟩)

def pads (n : Nat) : Nat := (4 - n % 4) % 4
def padB (n : Nat) : List UInt8 := List.replicate (pads n) 0
theorem padB_len (n : Nat) : (padB n).length = pads n := by simp [padB]

def rdWord (l : List UInt8) : Rd Nat := if l.length < 4 then ⟨20, 4, 0⟩ else ⟨0, 4, beN (l.take 4)⟩
def rdHyper (l : List UInt8) : Rd Nat := if l.length < 8 then ⟨20, 8, 0⟩ else ⟨0, 8, beN (l.take 8)⟩
def rdCount (most : Int) (l : List UInt8) : Rd Nat :=
  if most < 0 ∨ 4294967295 < most then ⟨22, 4, 0⟩ else if l.length < 4 then ⟨20, 4, 0⟩ else if most < (beN (l.take 4) : Int) then ⟨23, 4, 0⟩ else ⟨0, 4, beN (l.take 4)⟩
def rdText (n : Nat) (l : List UInt8) : Rd (List UInt8) :=
  if l.length < n + pads n then ⟨20, n + pads n, []⟩ else if (l.drop n).take (pads n) ≠ padB n then ⟨24, n + pads n, []⟩ else ⟨0, n + pads n, l.take n⟩
def rdFixed (n : Int) (l : List UInt8) : Rd (List UInt8) := if n < 0 ∨ 4294967295 < n then ⟨22, 0, []⟩ else rdText n.toNat l
def rdOpaque (most : Int) (l : List UInt8) : Rd (List UInt8) :=
  if (rdCount most l).wrong ≠ 0 then ⟨(rdCount most l).wrong, 4, []⟩ else ⟨(rdText (rdCount most l).val (l.drop 4)).wrong, 4 + (rdText (rdCount most l).val (l.drop 4)).size, (rdText (rdCount most l).val (l.drop 4)).val⟩

/-- what was laid down as b is read as v by f: whole, with whatever behind it; a unit shorter it is too short -/
structure Good {α : Type} (f : List UInt8 → Rd α) (b : List UInt8) (v : α) : Prop where
  full : ∀ r, f (b ++ r) = ⟨0, b.length, v⟩
  fours : b.length % 4 = 0
  short : b ≠ [] → (f (b.take (b.length - 4))).wrong = 20

theorem good_word (n : Nat) (h : n < 4294967296) : Good rdWord (nbL 4 n) n := by
  refine ⟨fun r => ?_, by rw [nbL_len], fun _ => by simp [rdWord, nbL_len]⟩
  have h4 : (nbL 4 n ++ r).take 4 = nbL 4 n := by rw [List.take_append_of_le_length (by rw [nbL_len]; omega), List.take_of_length_le (by rw [nbL_len]; omega)]
  unfold rdWord
  rw [if_neg (by rw [List.length_append, nbL_len]; omega), h4, beN_nbL, nbL_len, Nat.mod_eq_of_lt (by simpa using h)]

theorem good_hyper (n : Nat) (h : n < 18446744073709551616) : Good rdHyper (nbL 8 n) n := by
  refine ⟨fun r => ?_, by rw [nbL_len], fun _ => by simp [rdHyper, nbL_len]⟩
  have h4 : (nbL 8 n ++ r).take 8 = nbL 8 n := by rw [List.take_append_of_le_length (by rw [nbL_len]; omega), List.take_of_length_le (by rw [nbL_len]; omega)]
  unfold rdHyper
  rw [if_neg (by rw [List.length_append, nbL_len]; omega), h4, beN_nbL, nbL_len, Nat.mod_eq_of_lt (by simpa using h)]

theorem good_count (most : Int) (n : Nat) (h0 : (n : Int) ≤ most) (h1 : most ≤ 4294967295) : Good (rdCount most) (nbL 4 n) n := by
  have hn : n < 4294967296 := by omega
  refine ⟨fun r => ?_, by rw [nbL_len], fun _ => ?_⟩
  · have h4 : (nbL 4 n ++ r).take 4 = nbL 4 n := by rw [List.take_append_of_le_length (by rw [nbL_len]; omega), List.take_of_length_le (by rw [nbL_len]; omega)]
    unfold rdCount
    rw [if_neg (by omega), if_neg (by rw [List.length_append, nbL_len]; omega), h4, beN_nbL, nbL_len, Nat.mod_eq_of_lt (by simpa using hn), if_neg (by omega)]
  · unfold rdCount
    rw [if_neg (by omega), if_pos (by simp [nbL_len])]

theorem good_text (s : List UInt8) : Good (rdText s.length) (s ++ padB s.length) s := by
  refine ⟨fun r => ?_, ?_, fun h => ?_⟩
  · unfold rdText
    rw [if_neg (by simp only [List.length_append, padB_len]; omega), if_neg, List.append_assoc, List.take_left' rfl, List.length_append, padB_len]
    rw [List.append_assoc, List.drop_left' rfl, List.take_left' (padB_len _)]
    simp
  · rw [List.length_append, padB_len]; unfold pads; omega
  · have hp : 4 ≤ (s ++ padB s.length).length := by
      have : 0 < (s ++ padB s.length).length := List.length_pos_iff.2 h
      have h4 : (s ++ padB s.length).length % 4 = 0 := by rw [List.length_append, padB_len]; unfold pads; omega
      omega
    unfold rdText
    rw [if_pos (by rw [List.length_take]; rw [List.length_append, padB_len] at hp ⊢; omega)]

theorem good_opaque (most : Int) (s : List UInt8) (h0 : (s.length : Int) ≤ most) (h1 : most ≤ 4294967295) : Good (rdOpaque most) (nbL 4 s.length ++ (s ++ padB s.length)) s := by
  have hc := good_count most s.length h0 h1
  have ht := good_text s
  refine ⟨fun r => ?_, ?_, fun _ => ?_⟩
  · unfold rdOpaque
    rw [List.append_assoc, hc.full, if_neg (by simp), List.drop_left' (nbL_len _ _), ht.full]
    simp [nbL_len]
  · rw [List.length_append, nbL_len]; have := ht.fours; omega
  · by_cases he : s ++ padB s.length = []
    · rw [he, List.append_nil]
      unfold rdOpaque
      rw [if_pos (by rw [hc.short (by intro e; have := nbL_len 4 s.length; rw [e] at this; cases this)]; decide)]
      exact hc.short (by intro e; have := nbL_len 4 s.length; rw [e] at this; cases this)
    · have hp : 4 ≤ (s ++ padB s.length).length := by
        have : 0 < (s ++ padB s.length).length := List.length_pos_iff.2 he
        have := ht.fours; omega
      have e2 : (nbL 4 s.length ++ (s ++ padB s.length)).take ((nbL 4 s.length ++ (s ++ padB s.length)).length - 4) = nbL 4 s.length ++ (s ++ padB s.length).take ((s ++ padB s.length).length - 4) := by
        rw [List.take_append]
        congr 1
        · apply List.take_of_length_le; rw [List.length_append, nbL_len]; omega
      rw [e2]
      unfold rdOpaque
      rw [hc.full, if_neg (by simp), List.drop_left' (nbL_len _ _)]
      exact ht.short he

/-- Any reading that tells more than another of the same bytes (a sign, a truth, a number with a point). -/
theorem Good.map {α β : Type} {f : List UInt8 → Rd α} {b : List UInt8} {v : α} (h : Good f b v) (g : List UInt8 → Rd β) (u : β) (hok : ∀ l, f l = ⟨0, b.length, v⟩ → g l = ⟨0, b.length, u⟩) (hsh : ∀ l, (f l).wrong = 20 → (g l).wrong = 20) : Good g b u :=
  ⟨fun r => hok _ (h.full r), h.fours, fun hb => hsh _ (h.short hb)⟩

/-- one call, its value forgotten -/
structure Call where
  α : Type
  d : α
  f : List UInt8 → Rd α
  b : List UInt8
  v : α
  good : Good f b v

def Rs.after (st : Rs) (c : Call) : Rs := (st.go c.d c.f).2
def laid : List Call → List UInt8
  | [] => []
  | c :: cs => c.b ++ laid cs

theorem stays (cs : List Call) (st : Rs) (h : st.e ≠ 0) : cs.foldl Rs.after st = st := by
  induction cs with
  | nil => rfl
  | cons c cs ih =>
    have : st.after c = st := by unfold Rs.after Rs.go; rw [if_pos h]
    rw [List.foldl_cons, this]; exact ih

end Go.Proofs.YtfcbjcebkahehaaGreatDoor
namespace Go.Proofs.YtfcbjcebkahehaaGreatDoor

/-- what f reads of l is laid down as the bytes that it takes: lay says how a value is laid down -/
def One {α : Type} (f : List UInt8 → Rd α) (lay : α → List UInt8) (P : α → Prop) : Prop :=
  ∀ l, (f l).wrong = 0 → (f l).size ≤ l.length ∧ lay (f l).val = l.take (f l).size ∧ P (f l).val

theorem one_word : One rdWord (nbL 4) (fun n => n < 4294967296) := by
  intro l h
  unfold rdWord at h ⊢
  split at h
  · cases h
  · rename_i hl
    rw [if_neg hl]
    have h4 : (l.take 4).length = 4 := by rw [List.length_take]; omega
    exact ⟨by show 4 ≤ _; omega, nbL_beN 4 _ h4, by simpa using beN_lt 4 _ h4⟩

theorem one_hyper : One rdHyper (nbL 8) (fun n => n < 18446744073709551616) := by
  intro l h
  unfold rdHyper at h ⊢
  split at h
  · cases h
  · rename_i hl
    rw [if_neg hl]
    have h4 : (l.take 8).length = 8 := by rw [List.length_take]; omega
    exact ⟨by show 8 ≤ _; omega, nbL_beN 8 _ h4, by simpa using beN_lt 8 _ h4⟩

theorem one_count (most : Int) : One (rdCount most) (nbL 4) (fun n => 0 ≤ most ∧ most ≤ 4294967295 ∧ (n : Int) ≤ most) := by
  intro l h
  unfold rdCount at h ⊢
  split at h
  · cases h
  · rename_i hm
    rw [if_neg hm]
    split at h
    · cases h
    · rename_i hl
      rw [if_neg hl]
      split at h
      · cases h
      · rename_i hn
        rw [if_neg hn]
        have h4 : (l.take 4).length = 4 := by rw [List.length_take]; omega
        exact ⟨by show 4 ≤ _; omega, nbL_beN 4 _ h4, by show 0 ≤ most ∧ most ≤ _ ∧ ((beN (l.take 4) : Nat) : Int) ≤ most; omega⟩

theorem one_text (n : Nat) : One (rdText n) (fun s => s ++ padB n) (fun s => s.length = n) := by
  intro l h
  unfold rdText at h ⊢
  split at h
  · cases h
  · rename_i hl
    rw [if_neg hl]
    split at h
    · cases h
    · rename_i hp
      rw [if_neg hp]
      have hp2 : (l.drop n).take (pads n) = padB n := Decidable.not_not.1 hp
      refine ⟨by show n + pads n ≤ _; omega, ?_, by show (l.take n).length = n; rw [List.length_take]; omega⟩
      show l.take n ++ padB n = l.take (n + pads n)
      rw [← hp2, ← List.take_add]

theorem one_opaque (most : Int) : One (rdOpaque most) (fun s => nbL 4 s.length ++ (s ++ padB s.length)) (fun s => 0 ≤ most ∧ most ≤ 4294967295 ∧ (s.length : Int) ≤ most) := by
  intro l h
  unfold rdOpaque at h ⊢
  split at h
  · rename_i hc; exact absurd h hc
  · rename_i hc
    rw [if_neg hc]
    have hc0 : (rdCount most l).wrong = 0 := Decidable.not_not.1 hc
    obtain ⟨h1, h2, h3⟩ := one_count most l hc0
    obtain ⟨t1, t2, t3⟩ := one_text _ _ h
    have hs : (rdCount most l).size = 4 := by
      unfold rdCount; split
      · rfl
      · split
        · rfl
        · split <;> rfl
    rw [hs] at h1 h2
    rw [List.length_drop] at t1
    have t2' : (rdText (rdCount most l).val (l.drop 4)).val ++ padB (rdCount most l).val = (l.drop 4).take (rdText (rdCount most l).val (l.drop 4)).size := t2
    refine ⟨by show 4 + _ ≤ _; omega, ?_, ?_⟩
    · show nbL 4 (rdText (rdCount most l).val (l.drop 4)).val.length ++ ((rdText (rdCount most l).val (l.drop 4)).val ++ padB (rdText (rdCount most l).val (l.drop 4)).val.length) = l.take (4 + (rdText (rdCount most l).val (l.drop 4)).size)
      rw [t3, h2, t2', ← List.take_add]
    · show 0 ≤ most ∧ most ≤ 4294967295 ∧ ((rdText (rdCount most l).val (l.drop 4)).val.length : Int) ≤ most
      rw [t3]; exact h3


end Go.Proofs.YtfcbjcebkahehaaGreatDoor
namespace Go.Proofs.YtfcbjcebkahehaaGreatDoor
open Go.RowKit
def Bs (l : List UInt8) : Value := .string ⟨l.toArray⟩
def trW (e : Int) : Value := if e = 0 then .nilIface else .iface 244 (.agg #[.int .i64 e])

theorem frontWord_short (l : List UInt8) (w : World) (h : l.length < 4) : Calls Tryz.prog 158 #[Bs l] w fun e w' => e = .returned (.tuple #[.int .u32 0, .iface 244 (.agg #[.int .i64 20])]) ∧ w' = w := by
  have hs : (⟨l.toArray⟩ : ByteArray).size = l.length := by simp [ByteArray.size]
  have h' : (l.length : Int) < 4 := by omega
  unfold Bs
  go_enter Tryz.func158, Tryz.ntmps158
  go_wp2
  go_ret2
  exact ⟨rfl, rfl⟩

theorem word_bits (a b c d : Nat) (ha : a < 256) (hb : b < 256) (hc : c < 256) (hd : d < 256) :
    bits .or .u32 (bits .or .u32 (bits .or .u32 ((a : Int) % 4294967296 * 16777216 % 4294967296) ((b : Int) % 4294967296 * 65536 % 4294967296)) ((c : Int) % 4294967296 * 256 % 4294967296)) ((d : Int) % 4294967296) = (((((a * 256 + b) * 256 + c) * 256 + d : Nat)) : Int) := by
  rw [show (a : Int) % 4294967296 * 16777216 % 4294967296 = ((a * 16777216 : Nat) : Int) by omega, show (b : Int) % 4294967296 * 65536 % 4294967296 = ((b * 65536 : Nat) : Int) by omega, show (c : Int) % 4294967296 * 256 % 4294967296 = ((c * 256 : Nat) : Int) by omega, show (d : Int) % 4294967296 = ((d : Nat) : Int) by omega]
  have p24 : (2 : Nat) ^ 24 = 16777216 := by decide
  have p16 : (2 : Nat) ^ 16 = 65536 := by decide
  have p8 : (2 : Nat) ^ 8 = 256 := by decide
  rw [u32_or_nat _ _ (by omega) (by omega), nat_join 24 _ _ (by rw [p24]; omega) (by rw [p24]; omega)]
  rw [u32_or_nat _ _ (by omega) (by omega), nat_join 16 _ _ (by rw [p16]; omega) (by rw [p16]; omega)]
  rw [u32_or_nat _ _ (by omega) (by omega), nat_join 8 _ _ (by rw [p8]; omega) (by rw [p8]; omega)]
  omega

theorem take_four (l : List UInt8) (h : 4 ≤ l.length) : beN (l.take 4) = ((l[0].toNat * 256 + l[1].toNat) * 256 + l[2].toNat) * 256 + l[3].toNat := by
  match l, h with
  | a :: b :: c :: d :: r, _ => simp [beN]

theorem below_drew {B : Nat} {a w : World} (h : Below B a w) (k : Nat) : Below B a (w.drewN k) := ⟨h.os, h.tape, h.output, h.size, h.block⟩

set_option maxRecDepth 4000 in
theorem frontWord_ok (l : List UInt8) (w : World) (h : 4 ≤ l.length) : Calls Tryz.prog 158 #[Bs l] w fun e w' => e = .returned (.tuple #[.int .u32 (beN (l.take 4)), .nilIface]) ∧ Below w.heap.size w w' := by
  have h' : ¬ (l.length : Int) < 4 := by omega
  have h0 : 0 < l.length := by omega
  have h1 : 1 < l.length := by omega
  have h2 : 2 < l.length := by omega
  have h3 : 3 < l.length := by omega
  have i0 : (0 : Int) < l.length := by omega
  have i1 : (1 : Int) < l.length := by omega
  have i2 : (2 : Int) < l.length := by omega
  have i3 : (3 : Int) < l.length := by omega
  have g0 : ({ data := l.toArray } : ByteArray)[0] = l[0] := rfl
  have g1 : ({ data := l.toArray } : ByteArray)[1] = l[1] := rfl
  have g2 : ({ data := l.toArray } : ByteArray)[2] = l[2] := rfl
  have g3 : ({ data := l.toArray } : ByteArray)[3] = l[3] := rfl
  unfold Bs
  go_enter Tryz.func158, Tryz.ntmps158
  go_wp2
  go_quiet (fail)
  go_wp2
  go_ret2
  refine ⟨?_, below_drew (Below.refl _ _) _⟩
  rw [take_four l h]
  show Ending.returned (.tuple #[.int .u32 (bits .or .u32 (bits .or .u32 (bits .or .u32 ((l[0].toNat : Int) % 4294967296 * 16777216 % 4294967296) ((l[1].toNat : Int) % 4294967296 * 65536 % 4294967296)) ((l[2].toNat : Int) % 4294967296 * 256 % 4294967296)) ((l[3].toNat : Int) % 4294967296)), .nilIface]) = _
  rw [word_bits _ _ _ _ l[0].toNat_lt l[1].toNat_lt l[2].toNat_lt l[3].toNat_lt]

/-- what the program's reading of a word answers -/
theorem frontWord_any (l : List UInt8) (w : World) : Calls Tryz.prog 158 #[Bs l] w fun e w' => e = .returned (.tuple #[.int .u32 (rdWord l).val, trW (rdWord l).wrong]) ∧ Below w.heap.size w w' := by
  unfold rdWord
  by_cases h : l.length < 4
  · rw [if_pos h]
    refine (frontWord_short l w h).mono ?_
    rintro e w' ⟨rfl, rfl⟩
    exact ⟨rfl, Below.refl _ _⟩
  · rw [if_neg h]
    exact frontWord_ok l w (by omega)

end Go.Proofs.YtfcbjcebkahehaaGreatDoor
namespace Go.Proofs.YtfcbjcebkahehaaGreatDoor
open Go.RowKit
theorem isWord_rd (n : Int) (w : World) : Calls Tryz.prog 155 #[.int .i64 n] w fun e w' => e = .returned (.bool (decide (0 ≤ n) && decide (n ≤ 4294967295))) ∧ w' = w := by
  by_cases h0 : 0 ≤ n
  · by_cases h1 : n ≤ 4294967295
    · rw [decide_eq_true h0, decide_eq_true h1]
      go_enter Tryz.func155, Tryz.ntmps155
      go_wp2
      go_ret
      exact ⟨rfl, rfl⟩
    · rw [decide_eq_true h0, decide_eq_false h1]
      have h2 : decide (n ≤ 4294967295) = false := decide_eq_false h1
      go_enter Tryz.func155, Tryz.ntmps155
      go_wp2
      go_ret
      exact ⟨rfl, rfl⟩
  · rw [decide_eq_false h0]
    have h2 : decide (0 ≤ n) = false := decide_eq_false h0
    go_enter Tryz.func155, Tryz.ntmps155
    go_wp2
    go_ret
    exact ⟨rfl, rfl⟩

theorem neq91 (v : Value) (w : World) : (binOp .neq 177 (.iface 244 v) .nilIface).run Tryz.prog w = .ok (.bool true) w := by kernel_rfl

theorem frontCount_range (most : Int) (l : List UInt8) (w : World) (h : most < 0 ∨ 4294967295 < most) : Calls Tryz.prog 160 #[Bs l, .int .i64 most] w fun e w' => e = .returned (.tuple #[.int .i64 0, trW 22]) ∧ Below w.heap.size w w' := by
  have H1 : Hid (∀ w, Calls Tryz.prog 155 #[.int .i64 most] w fun e w' => e = .returned (.bool false) ∧ w' = w) := fun w => by
    have := isWord_rd most w
    rwa [show (decide (0 ≤ most) && decide (most ≤ 4294967295)) = false by rcases h with h | h <;> simp <;> omega] at this
  clear h
  unfold Bs
  go_enter Tryz.func160, Tryz.ntmps160
  go_wp2_with fail
  refine (H1.out _).mono ?_
  rintro e w1 ⟨rfl, hw⟩
  have hw1 := hw.symm
  clear hw
  subst hw1
  go_wp2
  go_ret2
  exact ⟨rfl, Below.refl _ _⟩

theorem frontCount_short (most : Int) (l : List UInt8) (w : World) (h0 : 0 ≤ most) (h1 : most ≤ 4294967295) (hl : l.length < 4) : Calls Tryz.prog 160 #[Bs l, .int .i64 most] w fun e w' => e = .returned (.tuple #[.int .i64 0, trW 20]) ∧ Below w.heap.size w w' := by
  have H1 : Hid (∀ w, Calls Tryz.prog 155 #[.int .i64 most] w fun e w' => e = .returned (.bool true) ∧ w' = w) := fun w => by
    have := isWord_rd most w
    rwa [decide_eq_true h0, decide_eq_true h1] at this
  have H2 : Hid (∀ w, Calls Tryz.prog 158 #[Bs l] w fun e w' => e = .returned (.tuple #[.int .u32 0, .iface 244 (.agg #[.int .i64 20])]) ∧ w' = w) := fun w => frontWord_short l w hl
  clear hl
  go_enter Tryz.func160, Tryz.ntmps160
  go_wp2_with fail
  refine (H1.out _).mono ?_
  rintro e w1 ⟨rfl, hw⟩
  have hw1 := hw.symm
  clear hw
  subst hw1
  go_wp2_with fail
  refine (H2.out _).mono ?_
  rintro e w1 ⟨rfl, hw⟩
  have hw1 := hw.symm
  clear hw
  subst hw1
  have hn := fun w => neq91 (.agg #[.int .i64 20]) w
  go_wp2
  go_ret2
  exact ⟨rfl, Below.refl _ _⟩

/-- the last step: within the bound or above it -/
theorem frontCount_full (most : Int) (l : List UInt8) (w : World) (h0 : 0 ≤ most) (h1 : most ≤ 4294967295) (hl : 4 ≤ l.length) (b : Bool) (hb : decide (most < (beN (l.take 4) : Int)) = b) :
    Calls Tryz.prog 160 #[Bs l, .int .i64 most] w fun e w' => e = .returned (.tuple #[.int .i64 (if b then 0 else (beN (l.take 4) : Int)), trW (if b then 23 else 0)]) ∧ Below w.heap.size w w' := by
  have H1 : Hid (∀ w, Calls Tryz.prog 155 #[.int .i64 most] w fun e w' => e = .returned (.bool true) ∧ w' = w) := fun w => by
    have := isWord_rd most w
    rwa [decide_eq_true h0, decide_eq_true h1] at this
  have H2 : Hid (∀ w, Calls Tryz.prog 158 #[Bs l] w fun e w' => e = .returned (.tuple #[.int .u32 (beN (l.take 4)), .nilIface]) ∧ Below w.heap.size w w') := fun w => frontWord_ok l w hl
  have hlt : beN (l.take 4) < 4294967296 := by
    have := beN_lt 4 (l.take 4) (by rw [List.length_take]; omega)
    simpa using this
  generalize beN (l.take 4) = n at *
  have hn0 : 0 ≤ (n : Int) := by omega
  have hn1 : (n : Int) < 4294967296 := by omega
  generalize (n : Int) = N at *
  clear hl
  cases b
  · have hm : ¬ most < N := of_decide_eq_false hb
    go_enter Tryz.func160, Tryz.ntmps160
    go_wp2_with fail
    refine (H1.out _).mono ?_
    rintro e w1 ⟨rfl, hw⟩
    have hw1 := hw.symm
    clear hw
    subst hw1
    go_wp2_with fail
    refine (H2.out _).mono ?_
    rintro e w2 ⟨rfl, hB⟩
    have HB : Hid (Below w.heap.size w w2) := hB
    clear hB
    go_wp2
    go_ret2
    exact ⟨rfl, HB.out⟩
  · have hm : most < N := of_decide_eq_true hb
    go_enter Tryz.func160, Tryz.ntmps160
    go_wp2_with fail
    refine (H1.out _).mono ?_
    rintro e w1 ⟨rfl, hw⟩
    have hw1 := hw.symm
    clear hw
    subst hw1
    go_wp2_with fail
    refine (H2.out _).mono ?_
    rintro e w2 ⟨rfl, hB⟩
    have HB : Hid (Below w.heap.size w w2) := hB
    clear hB
    go_wp2
    go_ret2
    exact ⟨rfl, HB.out⟩

theorem frontCount_any (most : Int) (l : List UInt8) (w : World) : Calls Tryz.prog 160 #[Bs l, .int .i64 most] w fun e w' => e = .returned (.tuple #[.int .i64 (rdCount most l).val, trW (rdCount most l).wrong]) ∧ Below w.heap.size w w' := by
  unfold rdCount
  by_cases hm : most < 0 ∨ 4294967295 < most
  · rw [if_pos hm]; exact frontCount_range most l w hm
  · rw [if_neg hm]
    by_cases hl : l.length < 4
    · rw [if_pos hl]; exact frontCount_short most l w (by omega) (by omega) hl
    · rw [if_neg hl]
      by_cases hn : most < (beN (l.take 4) : Int)
      · rw [if_pos hn]; exact frontCount_full most l w (by omega) (by omega) (by omega) true (decide_eq_true hn)
      · rw [if_neg hn]; exact frontCount_full most l w (by omega) (by omega) (by omega) false (decide_eq_false hn)

end Go.Proofs.YtfcbjcebkahehaaGreatDoor
