/- One operation of a script: what puts lays down, and gets reads. One operation of a script: numbers with a point, texts, counts; any kind. A row of calls: what was laid down behind some of them, what is left behind some of them. -/
import Derived.Test.YtlkhgnjljdbhnabDoorSq3
import Derived.Test.YtlkhgnjljdbhnabDoorSq4
import Derived.Test.YtlkhgnjljdbhnabDoorSq1
namespace Go.Proofs.YtlkhgnjljdbhnabDoor
open Go.RowKit

def PutsAs (K N MM : Int) (o : Bool) (s : ByteArray) (a b : Nat) (c : List UInt8) : Prop :=
  ∀ (w : World) (p : Nat) (v : Value) (M : Int) (S : ByteArray), PW w p v M (Lib.strCells S) 0 → 0 ≤ M → M ≤ 9223372036854775807 → S.size + (s.size + 16) ≤ 140737488355328 → ((S.size + c.length : Nat) : Int) ≤ M →
    Calls Tryd.prog 9 #[.pointer (some ⟨p, 0, none⟩), opcV K N MM o s a b] w fun e w' => e = .returned (.tuple #[]) ∧ ∃ v', PW w' p v' M (Lib.strCells (S ++ ⟨c.toArray⟩)) 0 ∧ Kept p v v' w w'

def GetsAs (K N MM : Int) (o : Bool) (s : ByteArray) (a b : Nat) (c : Call) : Prop :=
  ∀ (w : World) (p : Nat) (l : List UInt8) (E : Int), RR w p l E → l.length ≤ 281474976710656 →
    Calls Tryd.prog 13 #[.pointer (some ⟨p, 0, none⟩), opcV K N MM o s a b] w fun e w' => ∃ x : Bool, e = .returned (.bool x) ∧ RR w' p ((⟨l, E⟩ : Rs).after c).l ((⟨l, E⟩ : Rs).after c).e ∧ Sole p w w' ∧ (((⟨l, E⟩ : Rs).go c.d c.f).1 = c.v → x = true)

theorem rlay_room (M : Int) (S J : ByteArray) (h : ((S.size + J.size : Nat) : Int) ≤ M) : rlay M S 0 J = (S ++ J, 0) := by
  unfold rlay
  rw [if_neg (by simp), if_neg (by omega)]

theorem puts_q {w : World} {p : Nat} {v : Value} {M : Int} {S J : ByteArray} (c : List UInt8) (hJ : J = ⟨c.toArray⟩) (hr : ((S.size + c.length : Nat) : Int) ≤ M) {w1 : World} (hB : Below w.heap.size w w1) {e : Ending} {w' : World}
    (h : PWrote p v M (rlay M S 0 J) w1 e w') : e = .returned (.tuple #[]) ∧ ∃ v', PW w' p v' M (Lib.strCells (S ++ ⟨c.toArray⟩)) 0 ∧ Kept p v v' w w' := by
  rw [rlay_room M S J (by rw [hJ, Bs_size]; exact hr), hJ] at h
  obtain ⟨h1, v', h2, h3⟩ := h
  exact ⟨h1, v', h2, (Kept.of_below hB).trans h3⟩

theorem gets_hc {p : Nat} {w : World} {x : Obj} {l : List UInt8} {E : Int} (hlt : p < w.heap.size) : ∀ w1 : World, (RR w1 p l E ∧ Sole p (w.alloc x) w1) → ∀ j, w1.cell? ⟨w.heap.size, j, none⟩ = (w.alloc x).cell? ⟨w.heap.size, j, none⟩ :=
  fun w1 h j => (cells_same (h.2.block w.heap.size (by simp) (by omega)) j).1

theorem sole_alloc {p : Nat} {w w' : World} {x : Obj} (h : Sole p (w.alloc x) w') : Sole p w w' := (Sole.of_below ((Below.refl _ _).alloc (Nat.le_refl _) _)).trans h

theorem RR.alloc {w : World} {p : Nat} {l : List UInt8} {E : Int} (h : RR w p l E) (x : Obj) : RR (w.alloc x) p l E := h.below ((Below.refl _ _).alloc (Nat.le_refl _) _)

/-- a Reader's call behind the operation's own cells -/
theorem gets_hr {α : Type} {p : Nat} {l : List UInt8} {E : Int} {d : α} {f : List UInt8 → Rd α} {v : α → Value} {w w1 : World} {fn : FuncId} {args : Array Value} (hB : Below w.heap.size w w1) (h : Calls Tryd.prog fn args w1 (RPost p l E d f v w1)) :
    Calls Tryd.prog fn args w1 fun e w' => e = .returned (v ((⟨l, E⟩ : Rs).go d f).1) ∧ (RR w' p ((⟨l, E⟩ : Rs).go d f).2.l ((⟨l, E⟩ : Rs).go d f).2.e ∧ Sole p w w') :=
  h.mono fun _ _ hp => ⟨hp.1, hp.2.1, (Sole.of_below hB).trans hp.2.2⟩

/-- a Writer's call behind the operation's own cells -/
theorem puts_hc {p : Nat} {w : World} {x : Obj} {v : Value} {M : Int} {xs : List Value} {R : Value → World → Prop} (h : PW w p v M xs 0) : ∀ w1 : World, (∃ v', R v' w1 ∧ Kept p v v' (w.alloc x) w1) → ∀ j, w1.cell? ⟨w.heap.size, j, none⟩ = (w.alloc x).cell? ⟨w.heap.size, j, none⟩ := by
  rintro w1 ⟨v', _, k⟩ j
  have hp := h.lt
  exact (cells_same (k.block w.heap.size (by simp) (by omega) (fun e => by have := (h.own.lt _ e.symm).2; omega)) j).1

/-- the values of one call, as gets compares them -/
theorem gets_out {α : Type} {p : Nat} {l : List UInt8} {E : Int} {w w' : World} {e : Ending} {x : Bool} {obj : Obj} (c : Call) (hα : c.α = α) (d : α) (f : List UInt8 → Rd α) (hd : c.d ≍ d) (hf : c.f ≍ f)
    (hx : ((⟨l, E⟩ : Rs).go c.d c.f).1 = c.v → x = true)
    (h : e = .returned (.bool x) ∧ RR w' p ((⟨l, E⟩ : Rs).go d f).2.l ((⟨l, E⟩ : Rs).go d f).2.e ∧ Sole p (w.alloc obj) w') :
    ∃ x : Bool, e = .returned (.bool x) ∧ RR w' p ((⟨l, E⟩ : Rs).after c).l ((⟨l, E⟩ : Rs).after c).e ∧ Sole p w w' ∧ (((⟨l, E⟩ : Rs).go c.d c.f).1 = c.v → x = true) := by
  subst hα
  obtain rfl := eq_of_heq hd
  obtain rfl := eq_of_heq hf
  exact ⟨x, h.1, h.2.1, sole_alloc h.2.2, hx⟩

theorem byL_nb (k : Nat) (n : Int) : byL k n = nbL k (n % ((256 ^ k : Nat) : Int)).toNat := rfl
theorem beL_nb (k n : Nat) : beL k n = nbL k n := rfl

theorem op_int (N MM : Int) (o : Bool) (s : ByteArray) (a b : Nat) : ∃ c : Call, c.b.length ≤ 16 + s.size ∧ PutsAs 1 N MM o s a b c.b ∧ GetsAs 1 N MM o s a b c := by
  have hy0 : 0 ≤ N % 4294967296 := Int.emod_nonneg _ (by decide)
  have hy1 : N % 4294967296 < 4294967296 := Int.emod_lt_of_pos _ (by decide)
  generalize hy : N % 4294967296 = y at *
  obtain ⟨m, hm⟩ : ∃ m : Nat, (y - 2147483648) % 4294967296 = (m : Int) := ⟨((y - 2147483648) % 4294967296).toNat, by omega⟩
  have hb : byL 4 (y - 2147483648) = nbL 4 m := by
    rw [byL_nb, show ((256 ^ 4 : Nat) : Int) = 4294967296 by decide, hm, Int.toNat_natCast]
  refine ⟨⟨Nat, 0, rdWord, nbL 4 m, m, good_word m (by omega)⟩, by simp only [nbL_len]; omega, ?_, ?_⟩
  · intro w p v M S h h0 h1 h2 h3
    have h3' : ((S.size + 4 : Nat) : Int) ≤ M := by have : ((S.size + (nbL 4 m).length : Nat) : Int) ≤ M := h3; rwa [nbL_len] at this
    exact puts_1 p N MM o s a b w y hy0 hy1 (fun w => hy ▸ word_rd N w) (fun w1 hB => (pint_ok p v (y - 2147483648) M 0 S w1 (h.below hB) h0 h1 (by omega) (by simp; omega)).mono fun e w' hp => puts_q (nbL 4 m) (by rw [hb]) h3 hB hp)
  · intro w p l E h hl
    refine (gets_1 p N MM o s a b w y (sgn32r ((⟨l, E⟩ : Rs).go 0 rdWord).1) hy0 hy1 (fun w => hy ▸ word_rd N w) (fun w1 hB => gets_hr (d := 0) (f := rdWord) (v := fun n => .int .i64 (sgn32r n)) hB (rint_any p l E w1 ((h.alloc _).below hB))) (gets_hc h.lt) RR.sole_below).mono fun e w' hp => gets_out _ rfl 0 rdWord HEq.rfl HEq.rfl ?_ hp
    intro hv
    replace hv : ((⟨l, E⟩ : Rs).go 0 rdWord).1 = m := hv
    rw [hv, beq_iff_eq]
    unfold sgn32r; split <;> omega

theorem op_uint (N MM : Int) (o : Bool) (s : ByteArray) (a b : Nat) : ∃ c : Call, c.b.length ≤ 16 + s.size ∧ PutsAs 2 N MM o s a b c.b ∧ GetsAs 2 N MM o s a b c := by
  obtain ⟨m, hm⟩ : ∃ m : Nat, N % 4294967296 = (m : Int) := ⟨(N % 4294967296).toNat, by omega⟩
  have hb : byL 4 (m : Int) = nbL 4 m := by
    rw [byL_nb, show ((256 ^ 4 : Nat) : Int) = 4294967296 by decide, show (m : Int) % 4294967296 = (m : Int) by omega, Int.toNat_natCast]
  refine ⟨⟨Nat, 0, rdWord, nbL 4 m, m, good_word m (by omega)⟩, by simp only [nbL_len]; omega, ?_, ?_⟩
  · intro w p v M S h h0 h1 h2 h3
    exact puts_2 p N MM o s a b w m (fun w => hm ▸ word_rd N w) (fun w1 hB => (puint_ok p v m M 0 S w1 (h.below hB) h0 h1 (by omega) (by simp; omega)).mono fun e w' hp => puts_q (nbL 4 m) (by rw [hb]) h3 hB hp)
  · intro w p l E h hl
    refine (gets_2 p N MM o s a b w m (((⟨l, E⟩ : Rs).go 0 rdWord).1 : Nat) (fun w => hm ▸ word_rd N w) (fun w1 hB => gets_hr (d := 0) (f := rdWord) (v := fun n => .int .i64 (n : Int)) hB (ruint_any p l E w1 ((h.alloc _).below hB))) (gets_hc h.lt) RR.sole_below).mono fun e w' hp => gets_out _ rfl 0 rdWord HEq.rfl HEq.rfl ?_ hp
    intro hv
    replace hv : ((⟨l, E⟩ : Rs).go 0 rdWord).1 = m := hv
    rw [hv, beq_iff_eq]

theorem op_hyper (N MM : Int) (o : Bool) (s : ByteArray) (a b : Nat) (h0 : -9223372036854775808 ≤ N) (h1 : N ≤ 9223372036854775807) : ∃ c : Call, c.b.length ≤ 16 + s.size ∧ PutsAs 3 N MM o s a b c.b ∧ GetsAs 3 N MM o s a b c := by
  obtain ⟨m, hm⟩ : ∃ m : Nat, N % 18446744073709551616 = (m : Int) := ⟨(N % 18446744073709551616).toNat, by omega⟩
  have hb : byL 8 N = nbL 8 m := by
    rw [byL_nb, show ((256 ^ 8 : Nat) : Int) = 18446744073709551616 by decide, hm, Int.toNat_natCast]
  refine ⟨⟨Nat, 0, rdHyper, nbL 8 m, m, good_hyper m (by omega)⟩, by simp only [nbL_len]; omega, ?_, ?_⟩
  · intro w p v M S h h0 h1 h2 h3
    exact puts_3 p N MM o s a b w (fun w1 hB => (phyper p v N M 0 S w1 (h.below hB) h0 h1 (by omega)).mono fun e w' hp => puts_q (nbL 8 m) (by rw [hb]) h3 hB hp)
  · intro w p l E h hl
    refine (gets_3 p N MM o s a b w (sgn64r ((⟨l, E⟩ : Rs).go 0 rdHyper).1) (fun w1 hB => gets_hr (d := 0) (f := rdHyper) (v := fun n => .int .i64 (sgn64r n)) hB (rhyper_any p l E w1 ((h.alloc _).below hB))) (gets_hc h.lt) RR.sole_below).mono fun e w' hp => gets_out _ rfl 0 rdHyper HEq.rfl HEq.rfl ?_ hp
    intro hv
    replace hv : ((⟨l, E⟩ : Rs).go 0 rdHyper).1 = m := hv
    rw [hv, beq_iff_eq]
    unfold sgn64r; split <;> omega

theorem good_bool (t : Bool) : Good rdBool (nbL 4 (if t then 1 else 0)) t := by
  refine (good_word (if t then 1 else 0) (by cases t <;> decide)).map rdBool t ?_ ?_
  · intro l h
    unfold rdBool
    rw [h, nbL_len]
    cases t <;> rfl
  · intro l h
    unfold rdBool
    rw [if_pos (by rw [h]; decide), h]

theorem op_bool (N MM : Int) (o : Bool) (s : ByteArray) (a b : Nat) : ∃ c : Call, c.b.length ≤ 16 + s.size ∧ PutsAs 4 N MM o s a b c.b ∧ GetsAs 4 N MM o s a b c := by
  generalize ht : (N.tmod 2 != 0) = t
  refine ⟨⟨Bool, false, rdBool, nbL 4 (if t then 1 else 0), t, good_bool t⟩, by simp only [nbL_len]; omega, ?_, ?_⟩
  · intro w p v M S h h0 h1 h2 h3
    refine puts_4 p N MM o s a b w t ht (fun w1 hB => ?_)
    cases t
    · exact (pbool_false p v M 0 S w1 (h.below hB) h0 h1 (by omega)).mono fun e w' hp => puts_q (nbL 4 0) rfl h3 hB hp
    · exact (pbool_true p v M 0 S w1 (h.below hB) h0 h1 (by omega)).mono fun e w' hp => puts_q (nbL 4 1) rfl h3 hB hp
  · intro w p l E h hl
    refine (gets_4 p N MM o s a b w t ((⟨l, E⟩ : Rs).go false rdBool).1 ht (fun w1 hB => gets_hr (d := false) (f := rdBool) (v := fun b => .bool b) hB (rbool_any p l E w1 ((h.alloc _).below hB))) (gets_hc h.lt) RR.sole_below).mono fun e w' hp => gets_out _ rfl false rdBool HEq.rfl HEq.rfl ?_ hp
    intro hv
    replace hv : ((⟨l, E⟩ : Rs).go false rdBool).1 = t := hv
    rw [hv, beq_iff_eq]
end Go.Proofs.YtlkhgnjljdbhnabDoor
namespace Go.Proofs.YtlkhgnjljdbhnabDoor
open Go.RowKit

theorem c32_c32 (a : Nat) : c32 (c32 a) = c32 a := by
  cases h : nan32 a
  · rw [c32_num a h, c32_num a h]
  · rw [c32_nan a h]; decide
theorem c64_c64 (a : Nat) : c64 (c64 a) = c64 a := by
  unfold c64
  cases h : nan64 a
  · simp [h]
  · simp only [if_true]; decide
theorem c32_fit (a : Nat) : ¬ (nan32 (c32 a) = true ∧ c32 a ≠ 2143289344) := by
  cases h : nan32 a
  · rw [c32_num a h, h]; simp
  · rw [c32_nan a h]; simp
theorem c64_fit (a : Nat) : ¬ (nan64 (c64 a) = true ∧ c64 a ≠ 9221120237041090560) := by
  unfold c64
  cases h : nan64 a
  · simp [h]
  · simp
theorem good_float (a : Nat) (h : c32 a < 4294967296) : Good rdFloat (nbL 4 (c32 a)) (c32 a) := by
  refine (good_word (c32 a) h).map rdFloat (c32 a) ?_ ?_
  · intro l h
    unfold rdFloat
    rw [h, nbL_len, if_neg (by simp), if_neg (c32_fit a)]
  · intro l h
    unfold rdFloat
    rw [if_pos (by rw [h]; decide), h]
theorem good_double (a : Nat) (h : c64 a < 18446744073709551616) : Good rdDouble (nbL 8 (c64 a)) (c64 a) := by
  refine (good_hyper (c64 a) h).map rdDouble (c64 a) ?_ ?_
  · intro l h
    unfold rdDouble
    rw [h, nbL_len, if_neg (by simp), if_neg (c64_fit a)]
  · intro l h
    unfold rdDouble
    rw [if_pos (by rw [h]; decide), h]

theorem rdFloat_lt (l : List UInt8) (E : Int) : ((⟨l, E⟩ : Rs).go 0 rdFloat).1 < 4294967296 := by
  rw [go_case]
  split
  · show (rdFloat l).val < _
    unfold rdFloat
    split
    · show 0 < 4294967296; decide
    · split
      · decide
      · exact (rdWord_size l).2.2
  · show 0 < 4294967296; decide

theorem rdDouble_lt (l : List UInt8) (E : Int) : ((⟨l, E⟩ : Rs).go 0 rdDouble).1 < 18446744073709551616 := by
  rw [go_case]
  split
  · show (rdDouble l).val < _
    unfold rdDouble
    split
    · show 0 < 18446744073709551616; decide
    · split
      · decide
      · exact (rdHyper_size l).2.2
  · show 0 < 18446744073709551616; decide

theorem op_float (N MM : Int) (o : Bool) (s : ByteArray) (a b : Nat) (ha : a < 4294967296) : ∃ c : Call, c.b.length ≤ 16 + s.size ∧ PutsAs 5 N MM o s a b c.b ∧ GetsAs 5 N MM o s a b c := by
  have hc := c32_lt a ha
  refine ⟨⟨Nat, 0, rdFloat, nbL 4 (c32 a), c32 a, good_float a hc⟩, by simp only [nbL_len]; omega, ?_, ?_⟩
  · intro w p v M S h h0 h1 h2 h3
    exact puts_5 p N MM o s a b w (fun w => single_any a w ha) (fun x hx hxc w1 hB => (pfloat p x v M 0 S w1 (h.below hB) h0 h1 (by omega) hx (by rw [hxc]; exact hc)).mono fun e w' hp => puts_q (nbL 4 (c32 a)) (by rw [beL_nb, hxc]) h3 hB hp)
  · intro w p l E h hl
    refine (gets_5 p N MM o s a b w ((⟨l, E⟩ : Rs).go 0 rdFloat).1 (fun w1 hB => gets_hr (d := 0) (f := rdFloat) (v := fun n => .float .f32 n) hB (rfloat_any p l E w1 ((h.alloc _).below hB))) (gets_hc h.lt) RR.sole_below (fun w => single_any a w ha) (fun y hy hyc w => by have := rsame32 _ y w (rdFloat_lt l E) hy; rwa [hyc] at this)).mono fun e w' hp => gets_out _ rfl 0 rdFloat HEq.rfl HEq.rfl ?_ hp
    intro hv
    replace hv : ((⟨l, E⟩ : Rs).go 0 rdFloat).1 = c32 a := hv
    rw [hv, beq_iff_eq, c32_c32]
theorem op_double (N MM : Int) (o : Bool) (s : ByteArray) (a b : Nat) (hb : b < 18446744073709551616) : ∃ c : Call, c.b.length ≤ 16 + s.size ∧ PutsAs 6 N MM o s a b c.b ∧ GetsAs 6 N MM o s a b c := by
  have hc := c64_lt b hb
  refine ⟨⟨Nat, 0, rdDouble, nbL 8 (c64 b), c64 b, good_double b hc⟩, by simp only [nbL_len]; omega, ?_, ?_⟩
  · intro w p v M S h h0 h1 h2 h3
    exact puts_6 p N MM o s a b w (fun w => double_any b w hb) (fun x hx hxc w1 hB => (pdouble p x v M 0 S w1 (h.below hB) h0 h1 (by omega) hx (by rw [hxc]; exact hc)).mono fun e w' hp => puts_q (nbL 8 (c64 b)) (by rw [beL_nb, hxc]) h3 hB hp)
  · intro w p l E h hl
    refine (gets_6 p N MM o s a b w ((⟨l, E⟩ : Rs).go 0 rdDouble).1 (fun w1 hB => gets_hr (d := 0) (f := rdDouble) (v := fun n => .float .f64 n) hB (rdouble_any p l E w1 ((h.alloc _).below hB))) (gets_hc h.lt) RR.sole_below (fun w => double_any b w hb) (fun y hy hyc w => by have := rsame64 _ y w (rdDouble_lt l E) hy; rwa [hyc] at this)).mono fun e w' hp => gets_out _ rfl 0 rdDouble HEq.rfl HEq.rfl ?_ hp
    intro hv
    replace hv : ((⟨l, E⟩ : Rs).go 0 rdDouble).1 = c64 b := hv
    rw [hv, beq_iff_eq, c64_c64]

theorem padL_padB (n : Nat) : padL n = padB n := rfl
theorem bytes_app (s : ByteArray) (t : List UInt8) : s ++ ⟨t.toArray⟩ = ⟨(s.data.toList ++ t).toArray⟩ := by
  apply ByteArray.ext; simp
theorem bytes_pre (t : List UInt8) (s : ByteArray) : (⟨t.toArray⟩ : ByteArray) ++ s = ⟨(t ++ s.data.toList).toArray⟩ := by
  apply ByteArray.ext; simp
theorem size_list (s : ByteArray) : s.data.toList.length = s.size := rfl

theorem op_fixed (N MM : Int) (o : Bool) (s : ByteArray) (a b : Nat) (hs : s.size ≤ 2147483647) : ∃ c : Call, c.b.length ≤ 16 + s.size ∧ PutsAs 7 N MM o s a b c.b ∧ GetsAs 7 N MM o s a b c := by
  have hg := good_fixed s.data.toList (by rw [size_list]; omega)
  rw [size_list] at hg
  have hp3 : pads s.size ≤ 3 := by unfold pads; omega
  refine ⟨⟨List UInt8, [], rdFixed s.size, s.data.toList ++ padB s.size, s.data.toList, hg⟩, by simp only [List.length_append, padB_len, size_list]; omega, ?_, ?_⟩
  · intro w p v M S h h0 h1 h2 h3
    exact puts_7 p N MM o s a b w (fun w1 hB => (pfixed_ok p v s.size M 0 S s w1 (h.below hB) h0 h1 (by omega) (by simp; omega) rfl).mono fun e w' hp => puts_q _ (by rw [padL_padB, bytes_app]) h3 hB hp)
  · intro w p l E h hl
    refine (gets_7 p N MM o s a b w ⟨((⟨l, E⟩ : Rs).go [] (rdFixed s.size)).1.toArray⟩ (fun w1 hB => gets_hr (d := []) (f := rdFixed s.size) (v := fun s => Bs s) hB (rfixed_any p s.size l E w1 ((h.alloc _).below hB) (by omega) (by omega))) (gets_hc h.lt) RR.sole_below).mono fun e w' hp => gets_out _ rfl [] (rdFixed s.size) HEq.rfl HEq.rfl ?_ hp
    intro hv
    replace hv : ((⟨l, E⟩ : Rs).go [] (rdFixed s.size)).1 = s.data.toList := hv
    rw [hv, ByteArray.toList_eq, beq_iff_eq]

theorem op_opaque (N MM : Int) (o : Bool) (s : ByteArray) (a b : Nat) (hs : s.size ≤ 2147483647) (h0 : -9223372036854775808 ≤ N) (h1 : N ≤ 9223372036854775807) : ∃ c : Call, c.b.length ≤ 16 + s.size ∧ PutsAs 8 N MM o s a b c.b ∧ GetsAs 8 N MM o s a b c := by
  have hw := withinF_bd N 9 (by decide)
  have hW : ∀ w, Calls Tryd.prog 33 #[.int .i64 N, .int .i64 9] w fun e w' => e = .returned (.int .i64 (withinF N 9)) ∧ w' = w := fun w => within_rd N 9 w (by decide) h0 h1
  generalize withinF N 9 = y at *
  have hwr : IntKind.i64.wrap ((s.size : Int) + y) = (s.size : Int) + y := by rw [IntKind.wrap_i64]; omega
  have hg := good_opaque ((s.size : Int) + y) s.data.toList (by rw [size_list]; omega) (by omega)
  rw [size_list] at hg
  have hp3 : pads s.size ≤ 3 := by unfold pads; omega
  have hb : byL 4 (s.size : Int) = nbL 4 s.size := by
    rw [byL_nb, show ((256 ^ 4 : Nat) : Int) = 4294967296 by decide, show (s.size : Int) % 4294967296 = (s.size : Int) by omega, Int.toNat_natCast]
  refine ⟨⟨List UInt8, [], rdOpaque ((s.size : Int) + y), nbL 4 s.size ++ (s.data.toList ++ padB s.size), s.data.toList, hg⟩, by simp only [List.length_append, padB_len, size_list, nbL_len]; omega, ?_, ?_⟩
  · intro w p v M S h h0 h1 h2 h3
    refine (puts_8 (Q := fun w' => ∃ v', PW w' p v' M (Lib.strCells (S ++ ⟨(nbL 4 s.size ++ (s.data.toList ++ padB s.size)).toArray⟩)) 0 ∧ Kept p v v' (w.alloc _) w') p N MM o s a b w y hW (fun w1 hB => by
      rw [hwr]
      exact (popaque_ok p v ((s.size : Int) + y) M 0 S s w1 ((h.below ((Below.refl _ _).alloc (Nat.le_refl _) _)).below hB) h0 h1 (by omega) (by simp; omega) (by omega)).mono fun e w' hp => puts_q _ (by rw [padL_padB, hb, bytes_pre, bapp, List.append_assoc]) h3 hB hp) (puts_hc h)).mono ?_
    rintro e w' ⟨rfl, v', hp, hk⟩
    exact ⟨rfl, v', hp, (Kept.of_below ((Below.refl _ _).alloc (Nat.le_refl _) _)).trans hk⟩
  · intro w p l E h hl
    refine (gets_8 p N MM o s a b w ⟨((⟨l, E⟩ : Rs).go [] (rdOpaque ((s.size : Int) + y))).1.toArray⟩ y hW (fun w1 hB => by rw [hwr]; exact gets_hr (d := []) (f := rdOpaque ((s.size : Int) + y)) (v := fun s => Bs s) hB (ropaque_any p ((s.size : Int) + y) l E w1 ((h.alloc _).below hB) hl)) (gets_hc h.lt)).mono fun e w' hp => gets_out _ rfl [] (rdOpaque ((s.size : Int) + y)) HEq.rfl HEq.rfl ?_ hp
    intro hv
    replace hv : ((⟨l, E⟩ : Rs).go [] (rdOpaque ((s.size : Int) + y))).1 = s.data.toList := hv
    rw [hv, ByteArray.toList_eq, beq_iff_eq]

theorem op_count (N MM : Int) (o : Bool) (s : ByteArray) (a b : Nat) (h0 : -9223372036854775808 ≤ MM) (h1 : MM ≤ 9223372036854775807) : ∃ c : Call, c.b.length ≤ 16 + s.size ∧ PutsAs 9 N MM o s a b c.b ∧ GetsAs 9 N MM o s a b c := by
  obtain ⟨y, hy⟩ : ∃ y : Nat, N % 4294967296 = (y : Int) := ⟨(N % 4294967296).toNat, by omega⟩
  have hwr : IntKind.i64.wrap ((y : Int) + 1) = (y : Int) + 1 := by rw [IntKind.wrap_i64]; omega
  have hw := withinF_bd MM ((y : Int) + 1) (by omega)
  have hW : ∀ w, Calls Tryd.prog 33 #[.int .i64 MM, .int .i64 ((y : Int) + 1)] w fun e w' => e = .returned (.int .i64 (withinF MM ((y : Int) + 1))) ∧ w' = w := fun w => within_rd MM _ w (by omega) h0 h1
  obtain ⟨z, hz⟩ : ∃ z : Nat, withinF MM ((y : Int) + 1) = (z : Int) := ⟨(withinF MM ((y : Int) + 1)).toNat, by omega⟩
  rw [hz] at hw hW
  have hb : byL 4 (z : Int) = nbL 4 z := by
    rw [byL_nb, show ((256 ^ 4 : Nat) : Int) = 4294967296 by decide, show (z : Int) % 4294967296 = (z : Int) by omega, Int.toNat_natCast]
  refine ⟨⟨Nat, 0, rdCount y, nbL 4 z, z, good_count y z (by omega) (by omega)⟩, by simp only [nbL_len]; omega, ?_, ?_⟩
  · intro w p v M S h h0 h1 h2 h3
    refine (puts_9 (Q := fun w' => ∃ v', PW w' p v' M (Lib.strCells (S ++ ⟨(nbL 4 z).toArray⟩)) 0 ∧ Kept p v v' (w.alloc _) w') p N MM o s a b w y z (fun w => hy ▸ word_rd N w) (by rw [hwr]; exact hW) (fun w1 hB =>
      (pcount_ok p v y z M 0 S w1 ((h.below ((Below.refl _ _).alloc (Nat.le_refl _) _)).below hB) h0 h1 (by omega) (by simp; omega) (by omega) (by omega)).mono fun e w' hp => puts_q (nbL 4 z) (by rw [hb]) h3 hB hp) (puts_hc h)).mono ?_
    rintro e w' ⟨rfl, v', hp, hk⟩
    exact ⟨rfl, v', hp, (Kept.of_below ((Below.refl _ _).alloc (Nat.le_refl _) _)).trans hk⟩
  · intro w p l E h hl
    refine (gets_9 p N MM o s a b w y z (((⟨l, E⟩ : Rs).go 0 (rdCount y)).1 : Nat) (fun w => hy ▸ word_rd N w) (by rw [hwr]; exact hW) (fun w1 hB => gets_hr (d := 0) (f := rdCount y) (v := fun n => .int .i64 (n : Int)) hB (rcount_any p y l E w1 ((h.alloc _).below hB))) (gets_hc h.lt)).mono fun e w' hp => gets_out _ rfl 0 (rdCount y) HEq.rfl HEq.rfl ?_ hp
    intro hv
    replace hv : ((⟨l, E⟩ : Rs).go 0 (rdCount y)).1 = z := hv
    rw [hv, beq_iff_eq]

def rdNone (_ : List UInt8) : Rd Unit := ⟨0, 0, ()⟩
theorem go_none (st : Rs) : (st.go () rdNone).2 = st := by
  unfold Rs.go rdNone
  split
  · rfl
  · rename_i h
    have he : st.e = 0 := Decidable.not_not.1 h
    rw [if_neg (by simp)]
    cases st; simp at he ⊢; exact he.symm
theorem app_nil (S : ByteArray) : S ++ (⟨([] : List UInt8).toArray⟩ : ByteArray) = S := by apply ByteArray.ext; simp
theorem op_none (K N MM : Int) (o : Bool) (s : ByteArray) (a b : Nat) (hK : ∀ j : Int, 1 ≤ j → j ≤ 9 → K ≠ j) : ∃ c : Call, c.b.length ≤ 16 + s.size ∧ PutsAs K N MM o s a b c.b ∧ GetsAs K N MM o s a b c := by
  have hk : ∀ j : Int, 1 ≤ j → j ≤ 9 → (K == j) = false := fun j h0 h1 => beq_eq_false_iff_ne.2 (hK j h0 h1)
  refine ⟨⟨Unit, (), rdNone, [], (), ⟨fun r => rfl, rfl, fun h => absurd rfl h⟩⟩, by simp, ?_, ?_⟩
  · intro w p v M S h h0 h1 h2 h3
    refine (puts_none p K N MM o s a b w (hk 1 (by decide) (by decide)) (hk 2 (by decide) (by decide)) (hk 3 (by decide) (by decide)) (hk 4 (by decide) (by decide)) (hk 5 (by decide) (by decide)) (hk 6 (by decide) (by decide)) (hk 7 (by decide) (by decide)) (hk 8 (by decide) (by decide)) (hk 9 (by decide) (by decide))).mono ?_
    rintro e w' ⟨rfl, hB⟩
    exact ⟨rfl, v, by rw [app_nil]; exact h.below hB, Kept.of_below hB⟩
  · intro w p l E h hl
    refine (gets_none p K N MM o s a b w (hk 1 (by decide) (by decide)) (hk 2 (by decide) (by decide)) (hk 3 (by decide) (by decide)) (hk 4 (by decide) (by decide)) (hk 5 (by decide) (by decide)) (hk 6 (by decide) (by decide)) (hk 7 (by decide) (by decide)) (hk 8 (by decide) (by decide)) (hk 9 (by decide) (by decide))).mono ?_
    rintro e w' ⟨rfl, hB⟩
    refine ⟨true, rfl, ?_, Sole.of_below hB, fun _ => rfl⟩
    unfold Rs.after
    rw [go_none]
    exact h.below hB

/-- any operation is some call that is right -/
theorem op_any (K N MM : Int) (o : Bool) (s : ByteArray) (a b : Nat) (hs : s.size ≤ 2147483647) (h0 : -9223372036854775808 ≤ N) (h1 : N ≤ 9223372036854775807) (h2 : -9223372036854775808 ≤ MM) (h3 : MM ≤ 9223372036854775807) (ha : a < 4294967296) (hb : b < 18446744073709551616) :
    ∃ c : Call, c.b.length ≤ 16 + s.size ∧ PutsAs K N MM o s a b c.b ∧ GetsAs K N MM o s a b c := by
  by_cases k1 : K = 1
  · subst k1; exact op_int N MM o s a b
  by_cases k2 : K = 2
  · subst k2; exact op_uint N MM o s a b
  by_cases k3 : K = 3
  · subst k3; exact op_hyper N MM o s a b h0 h1
  by_cases k4 : K = 4
  · subst k4; exact op_bool N MM o s a b
  by_cases k5 : K = 5
  · subst k5; exact op_float N MM o s a b ha
  by_cases k6 : K = 6
  · subst k6; exact op_double N MM o s a b hb
  by_cases k7 : K = 7
  · subst k7; exact op_fixed N MM o s a b hs
  by_cases k8 : K = 8
  · subst k8; exact op_opaque N MM o s a b hs h0 h1
  by_cases k9 : K = 9
  · subst k9; exact op_count N MM o s a b h2 h3
  exact op_none K N MM o s a b (fun j h0 h1 => by omega)
end Go.Proofs.YtlkhgnjljdbhnabDoor
namespace Go.Proofs.YtlkhgnjljdbhnabDoor
open Go.RowKit

theorem laid_append (xs ys : List Call) : laid (xs ++ ys) = laid xs ++ laid ys := by
  induction xs with
  | nil => rfl
  | cons c xs ih => simp only [List.cons_append, laid, ih, List.append_assoc]

def csl (cs : Nat → Call) (k : Nat) : List Call := (List.range k).map cs
theorem csl_succ (cs : Nat → Call) (k : Nat) : csl cs (k + 1) = csl cs k ++ [cs k] := by
  unfold csl; rw [List.range_succ, List.map_append]; rfl
theorem csl_len (cs : Nat → Call) (k : Nat) : (csl cs k).length = k := by simp [csl]
def laidN (cs : Nat → Call) (k : Nat) : List UInt8 := laid (csl cs k)
theorem laidN_succ (cs : Nat → Call) (k : Nat) : laidN cs (k + 1) = laidN cs k ++ (cs k).b := by
  unfold laidN; rw [csl_succ, laid_append]; simp [laid]
theorem laidN_le (cs : Nat → Call) (T : Nat → ByteArray) (n : Nat) (h : ∀ i, i < n → (cs i).b.length ≤ 16 + (T i).size) : ∀ k, k ≤ n → (laidN cs k).length ≤ wsum T k := by
  intro k
  induction k with
  | zero => intro _; exact Nat.le_refl _
  | succ k ih =>
    intro hk
    have h1 := ih (by omega)
    have h2 := h k (by omega)
    rw [laidN_succ, List.length_append]
    show _ ≤ wsum T k + (16 + (T k).size)
    omega
theorem laidN_fours (cs : Nat → Call) (k : Nat) : (laidN cs k).length % 4 = 0 := laid_fours _

/-- a Reader behind some calls -/
def stN (cs : Nat → Call) (st : Rs) (k : Nat) : Rs := (csl cs k).foldl Rs.after st
theorem stN_zero (cs : Nat → Call) (st : Rs) : stN cs st 0 = st := rfl
theorem stN_succ (cs : Nat → Call) (st : Rs) (k : Nat) : stN cs st (k + 1) = (stN cs st k).after (cs k) := by
  unfold stN; rw [csl_succ, List.foldl_append]; rfl
theorem after_len (st : Rs) (c : Call) : (st.after c).l.length ≤ st.l.length := by
  unfold Rs.after Rs.go
  split
  · exact Nat.le_refl _
  · split
    · exact Nat.le_refl _
    · simp
theorem stN_len (cs : Nat → Call) (st : Rs) (k : Nat) : (stN cs st k).l.length ≤ st.l.length := by
  induction k with
  | zero => exact Nat.le_refl _
  | succ k ih => rw [stN_succ]; exact Nat.le_trans (after_len _ _) ih

theorem csl_split (cs : Nat → Call) (n k : Nat) (h : k ≤ n) : csl cs n = csl cs k ++ (csl cs n).drop k := by
  have : (csl cs n).take k = csl cs k := by
    unfold csl
    rw [← List.map_take, List.take_range, Nat.min_eq_left h]
  rw [← this, List.take_append_drop]

theorem stN_full (cs : Nat → Call) (n k : Nat) (h : k ≤ n) (r : List UInt8) : stN cs ⟨laidN cs n ++ r, 0⟩ k = ⟨laid ((csl cs n).drop k) ++ r, 0⟩ := by
  unfold laidN stN
  conv => lhs; rw [csl_split cs n k h]
  rw [laid_append, List.append_assoc]
  exact back_full _ _
theorem csl_drop (cs : Nat → Call) (n k : Nat) (h : k < n) : (csl cs n).drop k = cs k :: (csl cs n).drop (k + 1) := by
  rw [List.drop_eq_getElem_cons (by rw [csl_len]; exact h)]
  congr 1
  simp [csl]
/-- each call tells what was laid down -/
theorem stN_tells (cs : Nat → Call) (n k : Nat) (h : k < n) (r : List UInt8) : ((stN cs ⟨laidN cs n ++ r, 0⟩ k).go (cs k).d (cs k).f).1 = (cs k).v := by
  rw [stN_full cs n k (by omega), csl_drop cs n k h]
  simp only [laid, List.append_assoc, go_full]
theorem stN_end (cs : Nat → Call) (n : Nat) (r : List UInt8) : stN cs ⟨laidN cs n ++ r, 0⟩ n = ⟨r, 0⟩ := back_full _ _
theorem stN_short (cs : Nat → Call) (n : Nat) (h : laidN cs n ≠ []) : (stN cs ⟨(laidN cs n).take ((laidN cs n).length - 4), 0⟩ n).e = 20 := back_short _ h

/-- what a Writer's call leaves of the rest -/
theorem kept_below {n0 p : Nat} {w a c : World} {v v' : Value} {M E : Int} {xs : List Value} (hB : Below n0 w a) (hn : n0 ≤ a.heap.size) (h : PW a p v M xs E) (k : Kept p v v' a c) (hp : n0 ≤ p) : Below n0 w c := by
  refine ⟨k.os.trans hB.os, k.tape.trans hB.tape, k.output.trans hB.output, Nat.le_trans hB.size k.size, fun i hi => ?_⟩
  refine (k.block i (Nat.lt_of_lt_of_le hi hn) (by omega) (fun e => ?_)).trans (hB.block i hi)
  have := (h.own.lt i e.symm).1
  omega
theorem sole_below {n0 p : Nat} {w a c : World} (hB : Below n0 w a) (hn : n0 ≤ a.heap.size) (k : Sole p a c) (hp : n0 ≤ p) : Below n0 w c :=
  ⟨k.os.trans hB.os, k.tape.trans hB.tape, k.output.trans hB.output, Nat.le_trans hB.size k.size, fun i hi => (k.block i (Nat.lt_of_lt_of_le hi hn) (by omega)).trans (hB.block i hi)⟩
end Go.Proofs.YtlkhgnjljdbhnabDoor
