/- Texts of numbers, in plain lists: the whole. -/
import Derived.Test.YtbbikogpfpghbaaDoorW17
import Derived.Lib.IndexBytes
namespace Go.Proofs.YtbbikogpfpghbaaDoor

theorem ctz_ge (x sh : Nat) (h0 : x ≠ 0) (hx : x < 18446744073709551616) : sh ≤ Lib.ctz 64 x ↔ x % 2 ^ sh = 0 := by
  obtain ⟨m, hm, _⟩ := Lib.ctzFrom_spec 64 x (by omega) (Nat.lt_of_lt_of_eq hx (by decide))
  have e : Lib.ctz 64 x = Lib.ctzFrom 64 x := by unfold Lib.ctz; simp [h0]
  rw [e]
  generalize Lib.ctzFrom 64 x = k at *
  subst hm
  constructor
  · intro h
    obtain ⟨d, rfl⟩ : ∃ d, k = sh + d := ⟨k - sh, by omega⟩
    rw [Nat.pow_add, Nat.mul_assoc, Nat.mul_mod_right]
  · intro h
    rcases Nat.lt_or_ge k sh with hk | hk
    · exfalso
      obtain ⟨d, rfl⟩ : ∃ d, sh = k + (d + 1) := ⟨sh - k - 1, by omega⟩
      rw [Nat.pow_add, Nat.mul_mod_mul_left] at h
      have hp := Nat.two_pow_pos k
      have h2 : (2 * m + 1) % 2 ^ (d + 1) = 0 := by
        rcases Nat.mul_eq_zero.1 h with h | h
        · omega
        · exact h
      have h3 : (2 * m + 1) % 2 = 0 := by
        have := Nat.mod_mod_of_dvd (2 * m + 1) (Nat.dvd_of_mod_eq_zero (by rw [Nat.pow_succ]; exact Nat.mul_mod_left _ _) : 2 ∣ 2 ^ (d + 1))
        rw [h2] at this
        exact this.symm
      omega
    · exact hk

/-- Bits of a fraction and a power; none, where no number is that. -/
def packL (F : Nat) (e : Int) : Option Nat :=
  if e < -1074 ∨ 1023 < e then none
  else if -1022 ≤ e then some ((e + 1023).toNat * 4503599627370496 + F)
  else if Lib.ctz 64 (4503599627370496 + F) < (-1022 - e).toNat then none else some ((4503599627370496 + F) / 2 ^ (-1022 - e).toNat)

theorem low_parts (F : Nat) (h0 : F ≠ 0) (hF : F < 4503599627370496) : 4503599627370496 ≤ F * 2 ^ (53 - Lib.bitLen F) ∧ F * 2 ^ (53 - Lib.bitLen F) < 9007199254740992 ∧ 1 ≤ 53 - Lib.bitLen F ∧ 53 - Lib.bitLen F ≤ 52 ∧ ((53 - Lib.bitLen F : Nat) : Int) = 53 - (Lib.bitLen F : Int) := by
  have hb := bitLen_log F h0 (by omega)
  have hl := log51 F hF
  have h1 := Fl.log2_mul_pow F (53 - Lib.bitLen F) h0
  have hz : F * 2 ^ (53 - Lib.bitLen F) ≠ 0 := Nat.mul_ne_zero h0 (by have := Nat.two_pow_pos (53 - Lib.bitLen F); omega)
  have h2 := Nat.log2_self_le hz
  have h3 := @Nat.lt_log2_self (F * 2 ^ (53 - Lib.bitLen F))
  rw [h1, show F.log2 + (53 - Lib.bitLen F) = 52 by omega] at h2 h3
  rw [show (2 : Nat) ^ 52 = 4503599627370496 from by decide] at h2
  rw [show (2 : Nat) ^ (52 + 1) = 9007199254740992 from by decide] at h3
  exact ⟨h2, h3, by omega, by omega, by omega⟩

theorem pack_back (E F : Nat) (hE : E ≤ 2046) (hF : F < 4503599627370496) (h0 : R E F ≠ 0) : packL (frc E F) (pwr E F) = some (R E F) := by
  have hp := pwr_bd E F hE hF h0
  unfold packL
  rw [if_neg (by omega)]
  unfold frc pwr
  by_cases hz : E = 0
  · subst hz
    have hF0 : F ≠ 0 := by intro e; apply h0; subst e; rfl
    obtain ⟨h1, h2, h3, h4, h5⟩ := low_parts F hF0 hF
    rw [if_pos rfl, if_pos rfl, if_neg (by omega)]
    have hsh : (-1022 - (-1022 - (53 - (Lib.bitLen F : Int)))).toNat = 53 - Lib.bitLen F := by omega
    rw [hsh]
    have hK : 4503599627370496 + F * 2 ^ (53 - Lib.bitLen F) % 4503599627370496 = F * 2 ^ (53 - Lib.bitLen F) := by omega
    rw [hK]
    have hc := (ctz_ge (F * 2 ^ (53 - Lib.bitLen F)) (53 - Lib.bitLen F) (by omega) (by omega)).2 (Nat.mul_mod_left _ _)
    rw [if_neg (by omega), Nat.mul_div_cancel _ (Nat.two_pow_pos _)]
    unfold R
    rw [Nat.zero_mul, Nat.zero_add]
  · rw [if_neg hz, if_neg hz, if_pos (by omega)]
    have : ((E : Int) - 1023 + 1023).toNat = E := by omega
    rw [this]
    rfl

theorem pack_forth (F : Nat) (e : Int) (b : Nat) (hF : F < 4503599627370496) (h : packL F e = some b) : b < 9218868437227405312 ∧ b ≠ 0 ∧ frc (b / 4503599627370496) (b % 4503599627370496) = F ∧ pwr (b / 4503599627370496) (b % 4503599627370496) = e := by
  unfold packL at h
  split at h
  · simp at h
  · rename_i hr
    have hr' : -1074 ≤ e ∧ e ≤ 1023 := by omega
    clear hr
    split at h
    · rename_i he
      simp only [Option.some.injEq] at h
      obtain ⟨E, hE⟩ : ∃ E : Nat, (e + 1023).toNat = E := ⟨_, rfl⟩
      rw [hE] at h
      have hE1 : 1 ≤ E := by omega
      have hE2 : E ≤ 2046 := by omega
      have e1 : b / 4503599627370496 = E := by omega
      have e2 : b % 4503599627370496 = F := by omega
      have e3 : b = R E F := h.symm
      refine ⟨by rw [e3]; exact R_lt E F hE2 hF, by have := R_ge E F hE1; omega, ?_, ?_⟩
      · rw [e1, e2]; unfold frc; rw [if_neg (by omega)]
      · rw [e1, e2]; unfold pwr; rw [if_neg (by omega)]; omega
    · rename_i he
      obtain ⟨sh, hsh⟩ : ∃ sh : Nat, (-1022 - e).toNat = sh := ⟨_, rfl⟩
      rw [hsh] at h
      have hs1 : 1 ≤ sh := by omega
      have hs2 : sh ≤ 52 := by omega
      split at h
      · simp at h
      · rename_i hc
        simp only [Option.some.injEq] at h
        have hd := (ctz_ge (4503599627370496 + F) sh (by omega) (by omega)).1 (by omega)
        have hm := Nat.div_add_mod (4503599627370496 + F) (2 ^ sh)
        rw [hd, Nat.add_zero, h, Nat.mul_comm] at hm
        have hb0 : b ≠ 0 := by intro e0; subst e0; omega
        have hl := Fl.log2_mul_pow b sh hb0
        have hl2 : (b * 2 ^ sh).log2 = 52 := by
          rw [hm, Nat.log2_eq_iff (by omega)]
          rw [show (2 : Nat) ^ 52 = 4503599627370496 from by decide, show (2 : Nat) ^ (52 + 1) = 9007199254740992 from by decide]
          omega
        have hlb : b.log2 = 52 - sh := by omega
        have hb1 : b < 4503599627370496 := by
          have := @Nat.lt_log2_self b
          rw [hlb] at this
          exact Nat.lt_of_lt_of_le this (Nat.le_trans (Nat.pow_le_pow_right (by omega) (by omega : 52 - sh + 1 ≤ 52)) (by decide))
        have hbl := bitLen_log b hb0 (by omega)
        have e1 : b / 4503599627370496 = 0 := Nat.div_eq_of_lt hb1
        have e2 : b % 4503599627370496 = b := Nat.mod_eq_of_lt hb1
        have e3 : 53 - Lib.bitLen b = sh := by omega
        refine ⟨by omega, hb0, ?_, ?_⟩
        · rw [e1, e2]; unfold frc; rw [if_pos rfl, e3, hm]; omega
        · rw [e1, e2]; unfold pwr; rw [if_pos rfl]; omega

/-! Parting at a letter. -/
theorem cut_at (f b : List UInt8) (c : UInt8) (h : c ∉ f) : Lib.cut (f ++ c :: b) [c] = (f, b, true) := by
  have hi : Lib.indexByte (f ++ c :: b) c = (f.length : Int) := by
    induction f with
    | nil => simp [Lib.indexByte]
    | cons x f ih =>
      have hx : (x == c) = false := by
        rw [beq_eq_false_iff_ne]; intro e; exact h (by rw [e]; exact .head _)
      have ih' := ih (fun hm => h (.tail _ hm))
      simp only [List.cons_append, Lib.indexByte, hx, ih', Bool.false_eq_true, if_false]
      rw [if_neg (by simp), List.length_cons]
      omega
  unfold Lib.cut
  rw [Lib.index_one, hi, if_pos (by omega)]
  simp

theorem of_cut (s : List UInt8) (c : UInt8) (h : (Lib.cut s [c]).2.2 = true) : s = (Lib.cut s [c]).1 ++ c :: (Lib.cut s [c]).2.1 := by
  have key : ∀ s : List UInt8, 0 ≤ Lib.indexByte s c → s = s.take (Lib.indexByte s c).toNat ++ c :: s.drop ((Lib.indexByte s c).toNat + 1) := by
    intro s
    induction s with
    | nil => intro h; simp [Lib.indexByte] at h
    | cons x s ih =>
      intro h
      by_cases hx : (x == c) = true
      · have e : Lib.indexByte (x :: s) c = 0 := by simp [Lib.indexByte, hx]
        rw [e]
        have : x = c := by simpa using hx
        simp [this]
      · rw [Bool.not_eq_true] at hx
        by_cases hm : (Lib.indexByte s c == -1) = true
        · have e : Lib.indexByte (x :: s) c = -1 := by simp [Lib.indexByte, hx, hm]
          rw [e] at h; omega
        · rw [Bool.not_eq_true] at hm
          have e : Lib.indexByte (x :: s) c = Lib.indexByte s c + 1 := by simp [Lib.indexByte, hx, hm]
          rw [e] at h ⊢
          have hne : Lib.indexByte s c ≠ -1 := by simpa using hm
          have h0 : 0 ≤ Lib.indexByte s c := by omega
          have ih' := ih h0
          have e2 : (Lib.indexByte s c + 1).toNat = (Lib.indexByte s c).toNat + 1 := by omega
          rw [e2, List.take_succ_cons, List.drop_succ_cons, List.cons_append, ← ih']
  unfold Lib.cut at h ⊢
  rw [Lib.index_one] at h ⊢
  by_cases hp : 0 ≤ Lib.indexByte s c
  · rw [if_pos hp] at h ⊢
    exact key s hp
  · rw [if_neg hp] at h; simp at h

def parseSizeL (s : List UInt8) : Option Nat :=
  if s = [105, 110, 102] then some 9218868437227405312 else if s = [48, 120, 48, 112, 43, 48] then some 0
  else if Lib.hasPrefix s [48, 120, 49] = false ∨ (Lib.cut (Lib.trimPrefix s [48, 120, 49]) [112]).2.2 = false then none
  else (parseFracL (Lib.cut (Lib.trimPrefix s [48, 120, 49]) [112]).1).bind fun F => (parsePowL (Lib.cut (Lib.trimPrefix s [48, 120, 49]) [112]).2.1).bind fun e => packL F e

theorem mem_dig (c : UInt8) (k V : Nat) (h : c ∈ dig k V) : ∃ x, x < 16 ∧ c = hexB x := by
  unfold dig at h
  obtain ⟨t, _, rfl⟩ := List.mem_map.1 h
  exact ⟨_, Nat.mod_lt _ (by omega), rfl⟩

theorem no_p (F : Nat) (hF : F < 4503599627370496) : (112 : UInt8) ∉ fracL F := by
  intro h
  unfold fracL at h
  rw [hex14_dig F hF] at h
  split at h
  · simp at h
  · rcases List.mem_cons.1 h with h | h
    · exact absurd h (by decide)
    · have hm : (112 : UInt8) ∈ dig 13 F := by
        rw [trim_split (dig 13 F) 48]
        exact List.mem_append_left _ h
      obtain ⟨x, hx, e⟩ := mem_dig _ _ _ hm
      have : ∀ x : Fin 16, (112 : UInt8) ≠ hexB x.val := by decide
      exact this ⟨x, hx⟩ e

theorem pre3 (l : List UInt8) : Lib.hasPrefix ([48, 120, 49] ++ l) [48, 120, 49] = true ∧ Lib.trimPrefix ([48, 120, 49] ++ l) [48, 120, 49] = l := by
  have h : Lib.hasPrefix ([48, 120, 49] ++ l) [48, 120, 49] = true := by simp [Lib.hasPrefix]
  refine ⟨h, ?_⟩
  unfold Lib.trimPrefix
  rw [h]
  simp

theorem of_pre3 (s : List UInt8) (h : Lib.hasPrefix s [48, 120, 49] = true) : s = [48, 120, 49] ++ Lib.trimPrefix s [48, 120, 49] := by
  have hp : [48, 120, 49] <+: s := by simpa [Lib.hasPrefix] using h
  obtain ⟨t, rfl⟩ := hp
  rw [(pre3 t).2]

theorem size_back (r : Nat) (h : r ≤ 9218868437227405312) : parseSizeL (sizeT r) = some r := by
  unfold sizeT
  by_cases h1 : r = 9218868437227405312
  · subst h1; rfl
  · rw [if_neg h1]
    by_cases h2 : r = 0
    · subst h2; rfl
    · rw [if_neg h2]
      have hE : r / 4503599627370496 ≤ 2046 := by omega
      have hF : r % 4503599627370496 < 4503599627370496 := by omega
      have hr := R_split r
      generalize r / 4503599627370496 = E at *
      generalize r % 4503599627370496 = F at *
      subst hr
      have hp := pwr_bd E F hE hF h2
      have hs : sizeL E F = [48, 120, 49] ++ (fracL (frc E F) ++ 112 :: powL (pwr E F)) := by unfold sizeL; simp
      have hc := cut_at (fracL (frc E F)) (powL (pwr E F)) 112 (no_p _ (frc_lt E F hF))
      unfold parseSizeL
      rw [hs, (pre3 _).1, (pre3 _).2, hc, if_neg (by simp), if_neg (by simp), if_neg (by simp)]
      simp only
      rw [frac_back _ (frc_lt E F hF), Option.bind_some, pow_back _ hp.1 hp.2, Option.bind_some, pack_back E F hE hF h2]

theorem size_forth (s : List UInt8) (b : Nat) (h : parseSizeL s = some b) : s = sizeT b ∧ b ≤ 9218868437227405312 := by
  unfold parseSizeL at h
  split at h
  · rename_i hs
    simp only [Option.some.injEq] at h
    subst h
    exact ⟨hs, by omega⟩
  · split at h
    · rename_i hs
      simp only [Option.some.injEq] at h
      subst h
      exact ⟨hs, by omega⟩
    · split at h
      · simp at h
      · rename_i hc
        simp only [not_or, Bool.not_eq_false] at hc
        obtain ⟨F, h1, h⟩ := Option.bind_eq_some_iff.1 h
        obtain ⟨e, h2, h3⟩ := Option.bind_eq_some_iff.1 h
        obtain ⟨hf, hF⟩ := frac_forth _ F h1
        have hpw := pow_forth _ e h2
        obtain ⟨hb, hb0, hfr, hpr⟩ := pack_forth F e b hF h3
        refine ⟨?_, by omega⟩
        unfold sizeT
        rw [if_neg (by omega), if_neg hb0]
        unfold sizeL
        rw [hfr, hpr, ← hf, ← hpw]
        have h4 := of_pre3 s hc.1
        have h5 := of_cut _ _ hc.2
        clear h1 h2 h h3 hf hpw hfr hpr hc
        generalize Lib.trimPrefix s [48, 120, 49] = X at *
        rw [h4]
        have h6 := congrArg (fun l => [48, 120, 49] ++ l) h5
        simpa using h6

/-- A text read: the bits of its number; none, if it is of none. -/
def parseSignedL (s : List UInt8) : Option Nat := (parseSizeL (Lib.trimPrefix s [45])).map fun b => if Lib.hasPrefix s [45] then b + 9223372036854775808 else b
def parseL (s : List UInt8) : Option Nat := if s = [110, 97, 110] then some 9221120237041090560 else parseSignedL s

theorem pre1 (l : List UInt8) : Lib.hasPrefix (45 :: l) [45] = true ∧ Lib.trimPrefix (45 :: l) [45] = l := by
  have h : Lib.hasPrefix (45 :: l) [45] = true := by simp [Lib.hasPrefix]
  refine ⟨h, ?_⟩
  unfold Lib.trimPrefix
  rw [h]
  simp

theorem sizeT_head (r : Nat) : ∃ c l, sizeT r = c :: l ∧ (c = 105 ∨ c = 48) := by
  unfold sizeT
  split
  · exact ⟨_, _, rfl, .inl rfl⟩
  · split
    · exact ⟨_, _, rfl, .inr rfl⟩
    · exact ⟨48, _, by unfold sizeL; rfl, .inr rfl⟩

/-- What is told is read back. -/
theorem text_back (x : Nat) (h : x < 18446744073709551616) : parseL (textL x) = some (c64 x) := by
  cases hx : nan64 x with
  | true => rw [textL_nan x hx, c64_nan x hx]; rfl
  | false =>
    rw [c64_num x hx]
    have hle : x % 9223372036854775808 ≤ 9218868437227405312 := by
      unfold nan64 at hx; rw [decide_eq_false_iff_not] at hx; omega
    have hb := size_back _ hle
    obtain ⟨c, l, hcl, hc⟩ := sizeT_head (x % 9223372036854775808)
    unfold textL
    rw [hx]
    simp only [Bool.false_eq_true, if_false]
    by_cases hn : 9223372036854775808 ≤ x
    · rw [if_pos hn]
      unfold parseL parseSignedL
      rw [List.singleton_append, (pre1 _).1, (pre1 _).2, hb, if_neg (by simp)]
      simp only [Option.map_some, if_true]
      congr 1; omega
    · rw [if_neg hn, List.nil_append]
      have hx2 : x % 9223372036854775808 = x := by omega
      rw [hx2] at hb hcl ⊢
      have hpf : Lib.hasPrefix (sizeT x) [45] = false := by
        rw [hcl]; rcases hc with rfl | rfl <;> rfl
      have htp : Lib.trimPrefix (sizeT x) [45] = sizeT x := by unfold Lib.trimPrefix; rw [hpf]; rfl
      unfold parseL parseSignedL
      rw [hpf, htp, hb, if_neg (by rw [hcl]; rcases hc with rfl | rfl <;> simp)]
      rfl

/-- What is read is told as it stood. -/
theorem text_forth (s : List UInt8) (z : Nat) (h : parseL s = some z) : textL z = s ∧ z < 18446744073709551616 ∧ c64 z = z := by
  unfold parseL at h
  split at h
  · rename_i hs
    simp only [Option.some.injEq] at h
    subst h
    exact ⟨by rw [hs]; decide, by omega, by decide⟩
  · unfold parseSignedL at h
    obtain ⟨b, hb, hz⟩ := Option.map_eq_some_iff.1 h
    obtain ⟨hs, hle⟩ := size_forth _ _ hb
    by_cases hp : Lib.hasPrefix s [45] = true
    · rw [if_pos hp] at hz
      have hn : nan64 z = false := by unfold nan64; rw [decide_eq_false_iff_not]; omega
      refine ⟨?_, by omega, c64_num z hn⟩
      have hpp : [45] <+: s := by simpa [Lib.hasPrefix] using hp
      obtain ⟨t, rfl⟩ := hpp
      rw [List.singleton_append, (pre1 t).2] at hs
      have hm : z % 9223372036854775808 = b := by omega
      unfold textL
      rw [hn, if_neg (by simp), if_pos (by omega), hm, hs]
    · rw [if_neg hp] at hz
      subst hz
      have hn : nan64 b = false := by unfold nan64; rw [decide_eq_false_iff_not]; omega
      refine ⟨?_, by omega, c64_num b hn⟩
      have htp : Lib.trimPrefix s [45] = s := by unfold Lib.trimPrefix; rw [Bool.not_eq_true] at hp; rw [hp]; rfl
      rw [htp] at hs
      unfold textL
      rw [hn, if_neg (by simp), if_neg (by omega), List.nil_append, hs, Nat.mod_eq_of_lt (by omega)]

end Go.Proofs.YtbbikogpfpghbaaDoor
