/- message: fields of any kind. -/
import Derived.Test.YtebjheaohichpaaGreatDoorGm
import Derived.Test.YtebjheaohichpaaGreatDoorGn
import Derived.Test.YtebjheaohichpaaGreatDoorMk
namespace Go.Proofs.YtebjheaohichpaaGreatDoor
open Go.RowKit
/-- a field: where in its block it lies, and its kind -/
inductive Fd where
  | word (i : Nat)
  | flag (i : Nat)
  | small (i : Nat) (m : Int)
  | body (i : Nat) (m : Int)
  | sign (n : Int)
  | tail (i : Nat)
def Fd.ty : Fd → TypeId
  | .word _ => 86
  | .flag _ => 112
  | .small _ _ => 118
  | .body _ _ => 95
  | .sign _ => 88
  | .tail _ => 101
def Fd.agg (b : Nat) : Fd → Value
  | .word i => .agg #[.pointer (some ⟨b, i, none⟩), fv 40, fv 41]
  | .flag i => .agg #[.pointer (some ⟨b, i, none⟩), fv 55, fv 56]
  | .small i m => .agg #[.pointer (some ⟨b, i, none⟩), .int .i64 m, fv 57, fv 58]
  | .body i m => .agg #[.pointer (some ⟨b, i, none⟩), .int .i64 m, fv 42, fv 43]
  | .sign n => .agg #[.int .i64 n, fv 40, fv 41]
  | .tail i => .agg #[.pointer (some ⟨b, i, none⟩), fv 44, fv 45]
def Fd.layK : Fd → Nat
  | .word _ => 113
  | .flag _ => 130
  | .small _ _ => 134
  | .body _ _ => 121
  | .sign _ => 117
  | .tail _ => 125
def Fd.readK : Fd → Nat
  | .word _ => 114
  | .flag _ => 131
  | .small _ _ => 135
  | .body _ _ => 122
  | .sign _ => 118
  | .tail _ => 126
def Fd.emptyK : Fd → Nat
  | .word _ => 112
  | .flag _ => 129
  | .small _ _ => 133
  | .body _ _ => 120
  | .sign _ => 116
  | .tail _ => 124
/-- what a row of a table lays down: may it be, and its bytes -/
inductive Lays (cs : List Value) : Bool → Fd → Prop → List UInt8 → Prop
  | word {i : Nat} {n : Int} : cs[i]? = some (.int .i64 n) → Lays cs true (.word i) (isW n) (nbL 4 n.toNat)
  | flag {i : Nat} {x : Bool} : cs[i]? = some (.bool x) → Lays cs true (.flag i) True (nbL 4 (if x then 1 else 0))
  | small {i : Nat} {m n : Int} : cs[i]? = some (.int .i64 n) → 0 ≤ m → m ≤ 1000 → Lays cs true (.small i m) (0 ≤ n ∧ n ≤ m) (nbL 4 n.toNat)
  | body {i : Nat} {m : Int} {s : List UInt8} : cs[i]? = some (.string ⟨s.toArray⟩) → 0 ≤ m → m ≤ 1000 → Lays cs true (.body i m) ((s.length : Int) ≤ m) (nbL 4 s.length ++ (s ++ padB s.length))
  | sign {n : Int} : isW n → Lays cs true (.sign n) True (nbL 4 n.toNat)
  | tail {i : Nat} {s : List UInt8} : cs[i]? = some (.string ⟨s.toArray⟩) → s.length ≤ 140737488355328 → Lays cs true (.tail i) (plainB s) s
  | noWord {i : Nat} {n : Int} : cs[i]? = some (.int .i64 n) → Lays cs false (.word i) (n = 0) []
  | noSmall {i : Nat} {m n : Int} : cs[i]? = some (.int .i64 n) → Lays cs false (.small i m) (n = 0) []
  | noBody {i : Nat} {m : Int} {s : List UInt8} : cs[i]? = some (.string ⟨s.toArray⟩) → Lays cs false (.body i m) (s = []) []
  | noTail {i : Nat} {s : List UInt8} : cs[i]? = some (.string ⟨s.toArray⟩) → Lays cs false (.tail i) (s = []) []
theorem KPost.behind {F : Nat → Prop} {p : Nat} {M : Int} {P : Prop} {l : List UInt8} {w w1 w' : World} {e : Ending} (hB : Below w.heap.size w w1) (hF : Ok F w p) (h : KPost F p M P l w1 e w') : e = .returned (.tuple #[]) ∧ KPost F p M P l w e w' :=
  ⟨h.1, h.1, h.2.1, (Fr.of_below hB fun i hi => (hF i hi).1).trans h.2.2⟩
theorem KPost.iff {F : Nat → Prop} {p : Nat} {M : Int} {P Q : Prop} {l m : List UInt8} {w w' : World} {e : Ending} (h : KPost F p M P l w e w') (hq : Q ↔ P) (hl : P → l = m) : KPost F p M Q m w e w' := ⟨h.1, h.2.1.iff hq hl, h.2.2⟩
theorem plain_dec (s : List UInt8) : decide ((((⟨s.toArray⟩ : ByteArray).size : Nat) : Int) ≤ 1000 ∧ (((⟨s.toArray⟩ : ByteArray).size : Nat) : Int) % 4 = 0) = decide (plainB s) := by
  rw [ba_size]
  apply decide_eq_decide.2
  unfold plainB
  omega
theorem ba_toList (l : List UInt8) : (⟨l.toArray⟩ : ByteArray).toList = l := by rw [ByteArray.toList_eq]
theorem lay_fd {F : Nat → Prop} {b p : Nat} {cs : List Value} {t : TypeId} {f : Fd} {A : Prop} {x : List UInt8} {M : Int} {P : Prop} {l : List UInt8} {w : World} (hL : Lays cs true f A x) (hb : Bk w b cs t) (hFb : F b) (h : WrK F w p M P l) (hF : Ok F w p)
    (hM0 : 0 ≤ M) (hM1 : M ≤ 2147483647) (hr : P → A → (l.length : Int) + x.length ≤ M) : Calls Tryz.prog f.layK #[f.agg b, .pointer (some ⟨p, 0, none⟩)] w (KPost F p M (P ∧ A) (l ++ x) w) := by
  have hp := h.lt
  cases hL with
  | word hc => exact word_lay b _ p _ w hb.lt (hb.cell _ hc) fun w1 hB => (k_uint F p _ M P l w1 (h.below hB) (hF.below hB.size) hM0 hM1 (fun q a => by have := hr q a; rw [nbL_len] at this; omega)).mono fun e w' hp => hp.behind hB hF
  | flag hc => exact flag_lay b _ p _ w hb.lt (hb.cell _ hc) fun w1 hB => (k_bool F p _ M P l w1 (h.below hB) (hF.below hB.size) hM0 hM1 (fun q => by have := hr q trivial; rw [nbL_len] at this; omega)).mono fun e w' hp => hp.behind hB hF
  | small hc h0 h1 => exact small_lay b _ p _ _ w hb.lt (hb.cell _ hc) fun w1 hB => (k_count F p _ M _ P l w1 (h.below hB) (hF.below hB.size) hM0 hM1 h0 (by omega) (fun q a => by have := hr q a; rw [nbL_len] at this; omega)).mono fun e w' hp => hp.behind hB hF
  | @body i m s hc h0 h1 => exact body_lay b _ p _ _ w hb.lt (hb.cell _ hc) fun w1 hB => (k_opaque F p _ M s P l w1 (h.below hB) (hF.below hB.size) hM0 hM1 h0 (by omega) (fun q a => by have := hr q a; simp only [List.length_append, nbL_len, padB_len] at this; omega) h1).mono fun e w' hp => hp.behind hB hF
  | sign hn => exact sign_lay p _ w fun w1 hB => (k_uint F p _ M P l w1 (h.below hB) (hF.below hB.size) hM0 hM1 (fun q _ => by have := hr q trivial; rw [nbL_len] at this; omega)).mono fun e w' hp => (hp.iff (Q := P ∧ True) ⟨fun q => ⟨q.1, hn⟩, fun q => ⟨q.1, trivial⟩⟩ fun _ => rfl).behind hB hF
  | tail hc hs =>
    by_cases hA : plainB x
    · exact tail_ok b _ p _ w hb.lt (hb.cell _ hc) (by rw [plain_dec]; exact decide_eq_true hA) fun w1 hB => (k_raw F p M x P l w1 (h.below hB) (hF.below hB.size) hM0 hM1 hs (fun q _ => hr q hA)).mono fun e w' hp => (hp.iff (Q := P ∧ plainB x) ⟨fun q => ⟨q.1, q.2.2⟩, fun q => ⟨q.1, hA⟩⟩ fun _ => rfl).behind hB hF
    · refine tail_bad b _ p _ w hb.lt (hb.cell _ hc) (by rw [plain_dec]; exact decide_eq_false hA) fun w1 hB hz => ?_
      have h1 : WrK (fun y => F y ∨ y = w.heap.size) w1 p M P l := h.more hB fun y hy => hy.imp id fun e => by omega
      have hG : Ok (fun y => F y ∨ y = w.heap.size) w1 p := fun y hy => hy.elim (fun q => ⟨by have := (hF y q).1; omega, (hF y q).2⟩) fun q => ⟨by omega, by omega⟩
      refine (k_fail _ p M 120 P l w1 h1 hG (by decide)).mono fun e w' hk => ⟨hk.1, hk.2.2.block b (.inl hFb), hk.2.2.block _ (.inr rfl), fun k => ?_⟩
      have hB2 : Below w'.heap.size w' (w'.drewN k) := below_drew (Below.refl _ _) k
      refine (k_raw F p M x (P ∧ False) l (w'.drewN k) ((hk.2.1.less fun y hy => .inl hy).below hB2) (hF.below (Nat.le_trans hB.size (Nat.le_trans hk.2.2.size hB2.size))) hM0 hM1 hs (fun q => q.2.elim)).mono fun e2 w2 hp2 => ?_
      have h3 := hp2.iff (Q := P ∧ plainB x) ⟨fun q => absurd q.2 hA, fun q => q.1.2.elim⟩ fun _ => rfl
      refine ⟨h3.1, h3.1, h3.2.1, ?_⟩
      exact (Fr.of_below hB fun i hi => (hF i hi).1).trans (((hk.2.2.mono fun i hi => .inl hi).trans (Fr.of_below hB2 fun i hi => Nat.lt_of_lt_of_le (hF i hi).1 (Nat.le_trans hB.size hk.2.2.size))).trans h3.2.2)
theorem empty_fd {b : Nat} {cs : List Value} {t : TypeId} {f : Fd} {A : Prop} {x : List UInt8} {w : World} (hL : Lays cs false f A x) (hb : Bk w b cs t) : Calls Tryz.prog f.emptyK #[f.agg b] w fun e w' => (∃ y : Bool, e = .returned (.bool y) ∧ (y = true ↔ A)) ∧ Below w.heap.size w w' := by
  cases hL with
  | noWord hc => exact (word_empty b _ _ w hb.lt (hb.cell _ hc)).mono fun e w' hp => ⟨⟨_, hp.1, beq_iff_eq⟩, hp.2⟩
  | noSmall hc => exact (small_empty b _ _ _ w hb.lt (hb.cell _ hc)).mono fun e w' hp => ⟨⟨_, hp.1, beq_iff_eq⟩, hp.2⟩
  | @noBody i m s hc => exact (body_empty b _ _ _ w hb.lt (hb.cell _ hc)).mono fun e w' hp => ⟨⟨_, hp.1, by rw [List.isEmpty_iff, ba_toList]⟩, hp.2⟩
  | @noTail i s hc => exact (tail_empty b _ _ w hb.lt (hb.cell _ hc)).mono fun e w' hp => ⟨⟨_, hp.1, by rw [List.isEmpty_iff, ba_toList]⟩, hp.2⟩
theorem no_bytes {cs : List Value} {f : Fd} {A : Prop} {x : List UInt8} (hL : Lays cs false f A x) : x = [] := by cases hL <;> rfl
end Go.Proofs.YtebjheaohichpaaGreatDoor
