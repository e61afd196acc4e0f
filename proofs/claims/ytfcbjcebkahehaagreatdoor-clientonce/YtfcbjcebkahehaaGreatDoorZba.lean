/- message: the fields of a message, read. message: fields of any kind. -/
import Derived.Test.YtfcbjcebkahehaaGreatDoorMe
import Derived.Test.YtfcbjcebkahehaaGreatDoorZax
import Derived.Test.YtfcbjcebkahehaaGreatDoorZay
namespace Go.Proofs.YtfcbjcebkahehaaGreatDoor
open Go.RowKit
set_option maxRecDepth 4000 in
set_option maxHeartbeats 1000000 in
theorem tail_read_ok {R : World → Prop} (b i p : Nat) (N : ByteArray) (L : Int) (w : World) (hp : p < w.heap.size) (hL : 0 ≤ L) (hm : decide (L ≤ 1000 ∧ L % 4 = 0) = true)
    (HL : Hid (∀ w1, Below w.heap.size w w1 → Calls Tryz.prog 245 #[.pointer (some ⟨p, 0, none⟩)] w1 fun e w' => e = .returned (.int .i64 L) ∧ w' = w1))
    (HR : Hid (∀ w1, Below w.heap.size w w1 → Calls Tryz.prog 125 #[.pointer (some ⟨p, 0, none⟩)] w1 fun e w' => e = .returned (.string N) ∧ R w' ∧ Sole p w1 w'))
    (HC : Hid (∀ w', R w' → (∃ v, w'.cell? ⟨b, i, none⟩ = some v) ∧ w'.frozen? ⟨b, i, none⟩ = false)) :
    Calls Tryz.prog 243 #[.agg #[.pointer (some ⟨b, i, none⟩), fv 124, fv 125], .pointer (some ⟨p, 0, none⟩)] w fun e w'' => e = .returned (.tuple #[]) ∧ ∃ w', R w' ∧ w'' = w'.setCell ⟨b, i, none⟩ (.string N) := by
  unfold fv
  obtain ⟨wa, hwa⟩ : ∃ x, w.alloc (.cells #[.pointer (some ⟨b, i, none⟩), .func (.func 124) #[] #[], .func (.func 125) #[] #[]] 217) = x := ⟨_, rfl⟩
  obtain ⟨hk, hB, hz⟩ := boxed w wa _ _ hwa
  have HB := hid hB
  have a0 := hk.cell 0 rfl
  have a2 := hk.cell 2 rfl
  have HS : Hid (∀ w1 w', w1.heap[w.heap.size]? = wa.heap[w.heap.size]? → w.heap.size < w1.heap.size → Sole p w1 w' → w'.heap[w.heap.size]? = wa.heap[w.heap.size]?) := fun w1 w' e e2 h => by
    rw [h.block w.heap.size e2 (by omega), e]
  have HZ := hid hz
  have HT : Hid (∀ w, Calls Tryz.prog 244 #[.int .i64 L] w fun e w' => e = .returned (.bool true) ∧ w' = w) := fun w => by
    have := tailMay_any L w hL
    rwa [hm] at this
  clear hk hB hz hp hm hL
  go_enter Tryz.func243, Tryz.ntmps243
  go_wp2_with fail
  refine (HL.out _ HB.out).mono ?_
  rintro e w0 ⟨rfl, hw0⟩
  have hw1 := hw0.symm
  clear hw0
  subst hw1
  go_wp2_with fail
  refine (HT.out _).mono ?_
  rintro e w0 ⟨rfl, hw0⟩
  have hw1 := hw0.symm
  clear hw0
  subst hw1
  go_wp2_with fail
  go_region_with (first
    | (refine (HR.out _ (below_drew HB.out 1)).mono ?_
       rintro e w2 ⟨rfl, hR, hS⟩
       obtain ⟨⟨v, hv⟩, hf⟩ := HC.out _ hR
       have hx := HS.out _ _ (by rfl) (by show _ < wa.heap.size; have := HZ.out; omega) hS
       have b0 := (cells_same hx 0).1.trans a0
       have HX := hid hR
       clear hR hS hx))
  all_goals (
    go_wp2
    first | go_end0 | refine bodyPost_ret (results_none rfl _ _ _) rfl ?_
    exact ⟨rfl, w2, HX.out, rfl⟩)
set_option maxRecDepth 4000 in
set_option maxHeartbeats 1000000 in
theorem tail_read_bad {R Q : World → Prop} (b i p : Nat) (N : ByteArray) (L : Int) (w : World) (hp : p < w.heap.size) (hL : 0 ≤ L) (hm : decide (L ≤ 1000 ∧ L % 4 = 0) = false)
    (HL : Hid (∀ w1, Below w.heap.size w w1 → Calls Tryz.prog 245 #[.pointer (some ⟨p, 0, none⟩)] w1 fun e w' => e = .returned (.int .i64 L) ∧ w' = w1))
    (HF : Hid (∀ w1, Below w.heap.size w w1 → Calls Tryz.prog 189 #[.pointer (some ⟨p, 0, none⟩), .int .i64 121] w1 fun e w' => e = .returned (.tuple #[]) ∧ Q w' ∧ Sole p w1 w'))
    (HR : Hid (∀ w1 k, Q w1 → Calls Tryz.prog 125 #[.pointer (some ⟨p, 0, none⟩)] (w1.drewN k) fun e w' => e = .returned (.string N) ∧ R w' ∧ Sole p (w1.drewN k) w'))
    (HC : Hid (∀ w', R w' → (∃ v, w'.cell? ⟨b, i, none⟩ = some v) ∧ w'.frozen? ⟨b, i, none⟩ = false)) :
    Calls Tryz.prog 243 #[.agg #[.pointer (some ⟨b, i, none⟩), fv 124, fv 125], .pointer (some ⟨p, 0, none⟩)] w fun e w'' => e = .returned (.tuple #[]) ∧ ∃ w', R w' ∧ w'' = w'.setCell ⟨b, i, none⟩ (.string N) := by
  unfold fv
  obtain ⟨wa, hwa⟩ : ∃ x, w.alloc (.cells #[.pointer (some ⟨b, i, none⟩), .func (.func 124) #[] #[], .func (.func 125) #[] #[]] 217) = x := ⟨_, rfl⟩
  obtain ⟨hk, hB, hz⟩ := boxed w wa _ _ hwa
  have HB := hid hB
  have a0 := hk.cell 0 rfl
  have a2 := hk.cell 2 rfl
  have HS : Hid (∀ w1 w', w1.heap[w.heap.size]? = wa.heap[w.heap.size]? → w.heap.size < w1.heap.size → Sole p w1 w' → w'.heap[w.heap.size]? = wa.heap[w.heap.size]?) := fun w1 w' e e2 h => by
    rw [h.block w.heap.size e2 (by omega), e]
  have HZ := hid hz
  have HT : Hid (∀ w, Calls Tryz.prog 244 #[.int .i64 L] w fun e w' => e = .returned (.bool false) ∧ w' = w) := fun w => by
    have := tailMay_any L w hL
    rwa [hm] at this
  clear hk hB hz hp hm hL
  go_enter Tryz.func243, Tryz.ntmps243
  go_wp2_with fail
  refine (HL.out _ HB.out).mono ?_
  rintro e w0 ⟨rfl, hw0⟩
  have hw1 := hw0.symm
  clear hw0
  subst hw1
  go_wp2_with fail
  refine (HT.out _).mono ?_
  rintro e w0 ⟨rfl, hw0⟩
  have hw1 := hw0.symm
  clear hw0
  subst hw1
  go_wp2_with fail
  refine (HF.out _ HB.out).mono ?_
  rintro e w5 ⟨rfl, hQ, hS5⟩
  have hx5 := HS.out _ _ (by rfl) (by have := HZ.out; omega) hS5
  have c0 := (cells_same hx5 0).1.trans a0
  have c2 := (cells_same hx5 2).1.trans a2
  have HQ5 := hid (And.intro hQ (And.intro hx5 hS5.size))
  clear hQ hS5 hx5
  go_wp2_with fail
  go_region_with (first
    | (refine (HR.out _ 1 HQ5.out.1).mono ?_
       rintro e w2 ⟨rfl, hR, hS⟩
       obtain ⟨⟨v, hv⟩, hf⟩ := HC.out _ hR
       have hx := HS.out _ _ (by exact HQ5.out.2.1) (by show _ < w5.heap.size; have := HZ.out; have := HQ5.out.2.2; omega) hS
       have b0 := (cells_same hx 0).1.trans a0
       have HX := hid hR
       clear hR hS hx))
  all_goals (
    go_wp2
    first | go_end0 | refine bodyPost_ret (results_none rfl _ _ _) rfl ?_
    exact ⟨rfl, w2, HX.out, rfl⟩)
end Go.Proofs.YtfcbjcebkahehaaGreatDoor
namespace Go.Proofs.YtfcbjcebkahehaaGreatDoor
open Go.RowKit
/-- a field: where in its block it lies, and its kind -/
inductive Fd where
  | word (i : Nat)
  | flag (i : Nat)
  | small (i : Nat) (m : Int)
  | body (i : Nat) (m : Int)
  | sign (n : Int)
  | tail (i : Nat)
def Fd.ty : Fd → TypeId
  | .word _ => 191
  | .flag _ => 199
  | .small _ _ => 204
  | .body _ _ => 211
  | .sign _ => 193
  | .tail _ => 217
def Fd.agg (b : Nat) : Fd → Value
  | .word i => .agg #[.pointer (some ⟨b, i, none⟩), fv 116, fv 117]
  | .flag i => .agg #[.pointer (some ⟨b, i, none⟩), fv 118, fv 119]
  | .small i m => .agg #[.pointer (some ⟨b, i, none⟩), .int .i64 m, fv 120, fv 121]
  | .body i m => .agg #[.pointer (some ⟨b, i, none⟩), .int .i64 m, fv 122, fv 123]
  | .sign n => .agg #[.int .i64 n, fv 116, fv 117]
  | .tail i => .agg #[.pointer (some ⟨b, i, none⟩), fv 124, fv 125]
def Fd.layK : Fd → Nat
  | .word _ => 224
  | .flag _ => 231
  | .small _ _ => 235
  | .body _ _ => 238
  | .sign _ => 228
  | .tail _ => 242
def Fd.readK : Fd → Nat
  | .word _ => 225
  | .flag _ => 232
  | .small _ _ => 236
  | .body _ _ => 239
  | .sign _ => 229
  | .tail _ => 243
def Fd.emptyK : Fd → Nat
  | .word _ => 223
  | .flag _ => 230
  | .small _ _ => 234
  | .body _ _ => 237
  | .sign _ => 227
  | .tail _ => 241
/-- what a row of a table lays down: may it be, and its bytes -/
inductive Lays (cs : List Value) : Bool → Fd → Prop → List UInt8 → Prop
  | word {i : Nat} {n : Int} : cs[i]? = some (.int .i64 n) → Lays cs true (.word i) (isW n) (nbL 4 n.toNat)
  | flag {i : Nat} {x : Bool} : cs[i]? = some (.bool x) → Lays cs true (.flag i) True (nbL 4 (if x then 1 else 0))
  | small {i : Nat} {m n : Int} : cs[i]? = some (.int .i64 n) → 0 ≤ m → m ≤ 1000 → Lays cs true (.small i m) (0 ≤ n ∧ n ≤ m) (nbL 4 n.toNat)
  | body {i : Nat} {m : Int} {s : List UInt8} : cs[i]? = some (.string ⟨s.toArray⟩) → 0 ≤ m → m ≤ 1000 → Lays cs true (.body i m) ((s.length : Int) ≤ m) (nbL 4 s.length ++ (s ++ padB s.length))
  | sign {n : Int} : isW n → Lays cs true (.sign n) True (nbL 4 n.toNat)
  | tail {i : Nat} {s : List UInt8} : cs[i]? = some (.string ⟨s.toArray⟩) → s.length ≤ 140737488355328 → Lays cs true (.tail i) (plainB s) s
  | noWord {i : Nat} {n : Int} : cs[i]? = some (.int .i64 n) → Lays cs false (.word i) (n = 0) []
  | noSmall {i : Nat} {m n : Int} : cs[i]? = some (.int .i64 n) → Lays cs false (.small i m) (n = 0) []
  | noBody {i : Nat} {m : Int} {s : List UInt8} : cs[i]? = some (.string ⟨s.toArray⟩) → Lays cs false (.body i m) (s = []) []
  | noTail {i : Nat} {s : List UInt8} : cs[i]? = some (.string ⟨s.toArray⟩) → Lays cs false (.tail i) (s = []) []
theorem KPost.behind {F : Nat → Prop} {p : Nat} {M : Int} {P : Prop} {l : List UInt8} {w w1 w' : World} {e : Ending} (hB : Below w.heap.size w w1) (hF : Ok F w p) (h : KPost F p M P l w1 e w') : e = .returned (.tuple #[]) ∧ KPost F p M P l w e w' :=
  ⟨h.1, h.1, h.2.1, (Fr.of_below hB fun i hi => (hF i hi).1).trans h.2.2⟩
theorem KPost.iff {F : Nat → Prop} {p : Nat} {M : Int} {P Q : Prop} {l m : List UInt8} {w w' : World} {e : Ending} (h : KPost F p M P l w e w') (hq : Q ↔ P) (hl : P → l = m) : KPost F p M Q m w e w' := ⟨h.1, h.2.1.iff hq hl, h.2.2⟩
theorem plain_dec (s : List UInt8) : decide ((((⟨s.toArray⟩ : ByteArray).size : Nat) : Int) ≤ 1000 ∧ (((⟨s.toArray⟩ : ByteArray).size : Nat) : Int) % 4 = 0) = decide (plainB s) := by
  rw [ba_size]
  apply decide_eq_decide.2
  unfold plainB
  omega
theorem ba_toList (l : List UInt8) : (⟨l.toArray⟩ : ByteArray).toList = l := by rw [ByteArray.toList_eq]
theorem lay_fd {F : Nat → Prop} {b p : Nat} {cs : List Value} {t : TypeId} {f : Fd} {A : Prop} {x : List UInt8} {M : Int} {P : Prop} {l : List UInt8} {w : World} (hL : Lays cs true f A x) (hb : Bk w b cs t) (hFb : F b) (h : WrK F w p M P l) (hF : Ok F w p)
    (hM0 : 0 ≤ M) (hM1 : M ≤ 2147483647) (hr : P → A → (l.length : Int) + x.length ≤ M) : Calls Tryz.prog f.layK #[f.agg b, .pointer (some ⟨p, 0, none⟩)] w (KPost F p M (P ∧ A) (l ++ x) w) := by
  have hp := h.lt
  cases hL with
  | word hc => exact word_lay b _ p _ w hb.lt (hb.cell _ hc) fun w1 hB => (k_uint F p _ M P l w1 (h.below hB) (hF.below hB.size) hM0 hM1 (fun q a => by have := hr q a; rw [nbL_len] at this; omega)).mono fun e w' hp => hp.behind hB hF
  | flag hc => exact flag_lay b _ p _ w hb.lt (hb.cell _ hc) fun w1 hB => (k_bool F p _ M P l w1 (h.below hB) (hF.below hB.size) hM0 hM1 (fun q => by have := hr q trivial; rw [nbL_len] at this; omega)).mono fun e w' hp => hp.behind hB hF
  | small hc h0 h1 => exact small_lay b _ p _ _ w hb.lt (hb.cell _ hc) fun w1 hB => (k_count F p _ M _ P l w1 (h.below hB) (hF.below hB.size) hM0 hM1 h0 (by omega) (fun q a => by have := hr q a; rw [nbL_len] at this; omega)).mono fun e w' hp => hp.behind hB hF
  | @body i m s hc h0 h1 => exact body_lay b _ p _ _ w hb.lt (hb.cell _ hc) fun w1 hB => (k_opaque F p _ M s P l w1 (h.below hB) (hF.below hB.size) hM0 hM1 h0 (by omega) (fun q a => by have := hr q a; simp only [List.length_append, nbL_len, padB_len] at this; omega) h1).mono fun e w' hp => hp.behind hB hF
  | sign hn => exact sign_lay p _ w fun w1 hB => (k_uint F p _ M P l w1 (h.below hB) (hF.below hB.size) hM0 hM1 (fun q _ => by have := hr q trivial; rw [nbL_len] at this; omega)).mono fun e w' hp => (hp.iff (Q := P ∧ True) ⟨fun q => ⟨q.1, hn⟩, fun q => ⟨q.1, trivial⟩⟩ fun _ => rfl).behind hB hF
  | tail hc hs =>
    by_cases hA : plainB x
    · exact tail_ok b _ p _ w hb.lt (hb.cell _ hc) (by rw [plain_dec]; exact decide_eq_true hA) fun w1 hB => (k_raw F p M x P l w1 (h.below hB) (hF.below hB.size) hM0 hM1 hs (fun q _ => hr q hA)).mono fun e w' hp => (hp.iff (Q := P ∧ plainB x) ⟨fun q => ⟨q.1, q.2.2⟩, fun q => ⟨q.1, hA⟩⟩ fun _ => rfl).behind hB hF
    · refine tail_bad b _ p _ w hb.lt (hb.cell _ hc) (by rw [plain_dec]; exact decide_eq_false hA) fun w1 hB hz => ?_
      have h1 : WrK (fun y => F y ∨ y = w.heap.size) w1 p M P l := h.more hB fun y hy => hy.imp id fun e => by omega
      have hG : Ok (fun y => F y ∨ y = w.heap.size) w1 p := fun y hy => hy.elim (fun q => ⟨by have := (hF y q).1; omega, (hF y q).2⟩) fun q => ⟨by omega, by omega⟩
      refine (k_fail _ p M 120 P l w1 h1 hG (by decide)).mono fun e w' hk => ⟨hk.1, hk.2.2.block b (.inl hFb), hk.2.2.block _ (.inr rfl), fun k => ?_⟩
      have hB2 : Below w'.heap.size w' (w'.drewN k) := below_drew (Below.refl _ _) k
      refine (k_raw F p M x (P ∧ False) l (w'.drewN k) ((hk.2.1.less fun y hy => .inl hy).below hB2) (hF.below (Nat.le_trans hB.size (Nat.le_trans hk.2.2.size hB2.size))) hM0 hM1 hs (fun q => q.2.elim)).mono fun e2 w2 hp2 => ?_
      have h3 := hp2.iff (Q := P ∧ plainB x) ⟨fun q => absurd q.2 hA, fun q => q.1.2.elim⟩ fun _ => rfl
      refine ⟨h3.1, h3.1, h3.2.1, ?_⟩
      exact (Fr.of_below hB fun i hi => (hF i hi).1).trans (((hk.2.2.mono fun i hi => .inl hi).trans (Fr.of_below hB2 fun i hi => Nat.lt_of_lt_of_le (hF i hi).1 (Nat.le_trans hB.size hk.2.2.size))).trans h3.2.2)
theorem empty_fd {b : Nat} {cs : List Value} {t : TypeId} {f : Fd} {A : Prop} {x : List UInt8} {w : World} (hL : Lays cs false f A x) (hb : Bk w b cs t) : Calls Tryz.prog f.emptyK #[f.agg b] w fun e w' => (∃ y : Bool, e = .returned (.bool y) ∧ (y = true ↔ A)) ∧ Below w.heap.size w w' := by
  cases hL with
  | noWord hc => exact (word_empty b _ _ w hb.lt (hb.cell _ hc)).mono fun e w' hp => ⟨⟨_, hp.1, beq_iff_eq⟩, hp.2⟩
  | noSmall hc => exact (small_empty b _ _ _ w hb.lt (hb.cell _ hc)).mono fun e w' hp => ⟨⟨_, hp.1, beq_iff_eq⟩, hp.2⟩
  | @noBody i m s hc => exact (body_empty b _ _ _ w hb.lt (hb.cell _ hc)).mono fun e w' hp => ⟨⟨_, hp.1, by rw [List.isEmpty_iff, ba_toList]⟩, hp.2⟩
  | @noTail i s hc => exact (tail_empty b _ _ w hb.lt (hb.cell _ hc)).mono fun e w' hp => ⟨⟨_, hp.1, by rw [List.isEmpty_iff, ba_toList]⟩, hp.2⟩
theorem no_bytes {cs : List Value} {f : Fd} {A : Prop} {x : List UInt8} (hL : Lays cs false f A x) : x = [] := by cases hL <;> rfl
end Go.Proofs.YtfcbjcebkahehaaGreatDoor
