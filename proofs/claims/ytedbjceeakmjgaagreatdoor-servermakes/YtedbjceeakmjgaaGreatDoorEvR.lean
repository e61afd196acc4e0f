/- The evaluator of closed runs: EvR -/
import Derived.Test.YtedbjceeakmjgaaGreatDoorEvB
namespace Go.Proofs.YtedbjceeakmjgaaGreatDoor.Ev
set_option linter.unusedSimpArgs false

abbrev Ren := Nat → Option Loc

/-- An abstract value, and what it stands for. -/
inductive VR (f : Ren) : Value → Value → Prop
  | bool (b : Bool) : VR f (.bool b) (.bool b)
  | int (k : IntKind) (n : Int) : VR f (.int k n) (.int k n)
  | float (k : FloatKind) (b : Nat) : VR f (.float k b) (.float k b)
  | string (s : ByteArray) : VR f (.string s) (.string s)
  | pnil : VR f (.pointer none) (.pointer none)
  | ptr {b o : Nat} {L : Loc} (h : f b = some L) : VR f (.pointer (some ⟨b, o, none⟩)) (.pointer (some ⟨L.n, o + L.sh, none⟩))
  | snil (l c : Nat) : VR f (.slice none l c) (.slice none l c)
  | slice {b o len cap cap' : Nat} {L : Loc} (h : f b = some L) (hl : len ≤ cap') (h1 : cap ≠ 0 → cap' = cap ∧ o + L.sh + cap * L.sz ≤ L.C)
      (h0 : cap = 0 → o + L.sh + cap' * L.sz = L.C) : VR f (.slice (some ⟨b, o, none⟩) len cap) (.slice (some ⟨L.n, o + L.sh, none⟩) len cap')
  | sliceE {b s o' cap' : Nat} {L : Loc} (h : f b = some L) (h0 : cap' = 0 ∨ o' + cap' * L.sz = L.C) :
      VR f (.slice (some ⟨b, 0, some s⟩) 0 0) (.slice (some ⟨L.n, o', none⟩) 0 cap')
  | mnil : VR f (.map none) (.map none)
  | map {b : Nat} {L : Loc} (h : f b = some L) : VR f (.map (some b)) (.map (some L.n))
  | func (fn : Fn) (a a' b b' : List Value) (ha : a.length = a'.length) (hb : b.length = b'.length)
      (h1 : ∀ (i : Nat) (v v' : Value), a[i]? = some v → a'[i]? = some v' → VR f v v') (h2 : ∀ (i : Nat) (v v' : Value), b[i]? = some v → b'[i]? = some v' → VR f v v') :
      VR f (.func fn ⟨a⟩ ⟨b⟩) (.func fn ⟨a'⟩ ⟨b'⟩)
  | nilFunc : VR f .nilFunc .nilFunc
  | iface (t : TypeId) {v v' : Value} (h : VR f v v') : VR f (.iface t v) (.iface t v')
  | nilIface : VR f .nilIface .nilIface
  | agg (a a' : List Value) (ha : a.length = a'.length) (h1 : ∀ (i : Nat) (v v' : Value), a[i]? = some v → a'[i]? = some v' → VR f v v') : VR f (.agg ⟨a⟩) (.agg ⟨a'⟩)
  | tuple (a a' : List Value) (ha : a.length = a'.length) (h1 : ∀ (i : Nat) (v v' : Value), a[i]? = some v → a'[i]? = some v' → VR f v v') : VR f (.tuple ⟨a⟩) (.tuple ⟨a'⟩)

/-- rows of values. -/
inductive VL (f : Ren) : List Value → List Value → Prop
  | nil : VL f [] []
  | cons {v v' : Value} {l l' : List Value} (h : VR f v v') (t : VL f l l') : VL f (v :: l) (v' :: l')

theorem VL.len {f : Ren} {l l' : List Value} (h : VL f l l') : l.length = l'.length := by
  induction h with
  | nil => rfl
  | cons _ _ ih => simp [ih]

theorem VL.at {f : Ren} {l l' : List Value} (h : VL f l l') : ∀ (i : Nat) (v v' : Value), l[i]? = some v → l'[i]? = some v' → VR f v v' := by
  induction h with
  | nil => intro i v v' hv; simp at hv
  | cons h t ih =>
    intro i v v' hv hv'
    cases i with
    | zero => simp at hv hv'; subst hv; subst hv'; exact h
    | succ i => simp at hv hv'; exact ih i v v' hv hv'

theorem VL.of {f : Ren} : ∀ (l l' : List Value), l.length = l'.length → (∀ (i : Nat) (v v' : Value), l[i]? = some v → l'[i]? = some v' → VR f v v') → VL f l l'
  | [], [], _, _ => .nil
  | [], _ :: _, h, _ => by simp at h
  | _ :: _, [], h, _ => by simp at h
  | v :: l, v' :: l', h, hh => .cons (hh 0 v v' rfl rfl) (VL.of l l' (by simpa using h) fun i a b ha hb => hh (i + 1) a b (by simpa using ha) (by simpa using hb))

theorem VL.ex {f : Ren} {l l' : List Value} (h : VL f l l') {i : Nat} {v : Value} (hv : l[i]? = some v) : ∃ v', l'[i]? = some v' ∧ VR f v v' := by
  have hi : i < l'.length := by rw [← h.len]; exact (List.getElem?_eq_some_iff.1 hv).1
  exact ⟨l'[i], List.getElem?_eq_getElem hi, h.at i v _ hv (List.getElem?_eq_getElem hi)⟩

theorem VR.agg' {f : Ren} {a a' : List Value} (h : VL f a a') : VR f (.agg ⟨a⟩) (.agg ⟨a'⟩) := .agg a a' h.len h.at
theorem VR.tuple' {f : Ren} {a a' : List Value} (h : VL f a a') : VR f (.tuple ⟨a⟩) (.tuple ⟨a'⟩) := .tuple a a' h.len h.at
theorem VR.func' {f : Ren} (fn : Fn) {a a' b b' : List Value} (h : VL f a a') (k : VL f b b') : VR f (.func fn ⟨a⟩ ⟨b⟩) (.func fn ⟨a'⟩ ⟨b'⟩) := .func fn a a' b b' h.len k.len h.at k.at

theorem VL.append {f : Ren} {a a' b b' : List Value} (h : VL f a a') (k : VL f b b') : VL f (a ++ b) (a' ++ b') := by
  induction h with
  | nil => exact k
  | cons h _ ih => exact .cons h ih

theorem VL.single {f : Ren} {v v' : Value} (h : VR f v v') : VL f [v] [v'] := .cons h .nil

theorem VL.get {f : Ren} {a a' : List Value} (h : VL f a a') : ∀ {n : Nat} {v : Value}, listGet a n = some v → ∃ v', listGet a' n = some v' ∧ VR f v v' := by
  induction h with
  | nil => intro n v hv; cases hv
  | @cons x x' l l' h t ih =>
    intro n v hv
    cases n with
    | zero => cases hv; exact ⟨x', rfl, h⟩
    | succ n => exact ih (n := n) hv

theorem listGet_eq {α : Type} : ∀ (l : List α) (n : Nat), listGet l n = l[n]?
  | [], n => by simp [listGet]
  | a :: l, 0 => by simp [listGet]
  | a :: l, n + 1 => by simp [listGet, listGet_eq l n]

theorem VL.drop {f : Ren} {a a' : List Value} (h : VL f a a') : ∀ (n : Nat), VL f (listDrop n a) (listDrop n a') := by
  induction h with
  | nil => intro n; cases n <;> exact .nil
  | cons h t ih =>
    intro n
    cases n with
    | zero => exact .cons h t
    | succ n => exact ih n

theorem listDrop_eq {α : Type} : ∀ (n : Nat) (l : List α), listDrop n l = l.drop n
  | 0, l => by simp [listDrop]
  | n + 1, [] => by simp [listDrop]
  | n + 1, a :: l => by simp [listDrop, listDrop_eq n l]

theorem listTake_eq {α : Type} : ∀ (n : Nat) (l r : List α), listTake n l = some r → r = l.take n ∧ n ≤ l.length
  | 0, l, r, h => by cases h; simp
  | n + 1, [], r, h => by cases h
  | n + 1, a :: l, r, h => by
    unfold listTake at h
    split at h
    · rename_i r' hr
      cases h
      obtain ⟨h1, h2⟩ := listTake_eq n l r' hr
      exact ⟨by simp [h1], by simp [h2]⟩
    · cases h

theorem VL.take {f : Ren} {a a' : List Value} (h : VL f a a') : ∀ (n : Nat), VL f (a.take n) (a'.take n) := by
  induction h with
  | nil => intro n; simp; exact .nil
  | cons h t ih =>
    intro n
    cases n with
    | zero => simp; exact .nil
    | succ n => simp; exact .cons h (ih n)

/-- more names may be known. -/
def RLe (f g : Ren) : Prop := ∀ b L, f b = some L → g b = some L

theorem VR.mono {f g : Ren} (hfg : RLe f g) {v v' : Value} (h : VR f v v') : VR g v v' := by
  induction h with
  | bool b => exact .bool b
  | int k n => exact .int k n
  | float k b => exact .float k b
  | string s => exact .string s
  | pnil => exact .pnil
  | ptr h => exact .ptr (hfg _ _ h)
  | snil l c => exact .snil l c
  | slice h hl h1 h0 => exact .slice (hfg _ _ h) hl h1 h0
  | sliceE h h0 => exact .sliceE (hfg _ _ h) h0
  | mnil => exact .mnil
  | map h => exact .map (hfg _ _ h)
  | func fn a a' b b' ha hb _ _ i1 i2 => exact .func fn a a' b b' ha hb i1 i2
  | nilFunc => exact .nilFunc
  | iface t _ ih => exact .iface t ih
  | nilIface => exact .nilIface
  | agg a a' ha _ ih => exact .agg a a' ha ih
  | tuple a a' ha _ ih => exact .tuple a a' ha ih

theorem VL.mono {f g : Ren} (hfg : RLe f g) {l l' : List Value} (h : VL f l l') : VL g l l' := by
  induction h with
  | nil => exact .nil
  | cons h _ ih => exact .cons (h.mono hfg) ih

theorem vl_eq_of {a a' : List Value} (ha : a.length = a'.length) (h : ∀ (i : Nat) (v v' : Value), a[i]? = some v → a'[i]? = some v' → v' = v) : a' = a := by
  apply List.ext_getElem?
  intro i
  by_cases hi : i < a.length
  · have hi' : i < a'.length := ha ▸ hi
    rw [List.getElem?_eq_getElem hi, List.getElem?_eq_getElem hi']
    exact congrArg some (h i _ _ (List.getElem?_eq_getElem hi) (List.getElem?_eq_getElem hi'))
  · rw [List.getElem?_eq_none (by omega), List.getElem?_eq_none (by omega)]

/-- what has no pointers stands for itself. -/
theorem VR.ground {f : Ren} {v v' : Value} (h : VR f v v') : ∀ d, Ev.ground d v = true → v' = v := by
  induction h with
  | bool b => intros; rfl
  | int k n => intros; rfl
  | float k b => intros; rfl
  | string s => intros; rfl
  | pnil => intros; rfl
  | ptr h => intro d hd; cases d <;> simp [Ev.ground] at hd
  | snil l c => intros; rfl
  | slice => intro d hd; cases d <;> simp [Ev.ground] at hd
  | sliceE => intro d hd; cases d <;> simp [Ev.ground] at hd
  | mnil => intros; rfl
  | map h => intro d hd; cases d <;> simp [Ev.ground] at hd
  | func fn a a' b b' ha hb _ _ i1 i2 => intro d hd; cases d <;> simp [Ev.ground] at hd
  | nilFunc => intros; rfl
  | iface t _ ih => intro d hd; cases d with
    | zero => simp [Ev.ground] at hd
    | succ d => simp only [Ev.ground] at hd; rw [ih d hd]
  | nilIface => intros; rfl
  | agg a a' ha _ ih => intro d hd; cases d with
    | zero => simp [Ev.ground] at hd
    | succ d =>
      simp only [Ev.ground, List.all_eq_true] at hd
      rw [vl_eq_of ha fun i v v' hv hv' => ih i v v' hv hv' d (hd v (List.mem_of_getElem? hv))]
  | tuple a a' ha _ ih => intro d hd; cases d with
    | zero => simp [Ev.ground] at hd
    | succ d =>
      simp only [Ev.ground, List.all_eq_true] at hd
      rw [vl_eq_of ha fun i v v' hv hv' => ih i v v' hv hv' d (hd v (List.mem_of_getElem? hv))]

theorem vr_ground {f : Ren} : ∀ (d : Nat) (v : Value), Ev.ground d v = true → VR f v v
  | 0, _, h => by simp [Ev.ground] at h
  | d + 1, v, h => by
    cases v with
    | bool b => exact .bool b
    | int k n => exact .int k n
    | float k b => exact .float k b
    | complex => simp [Ev.ground] at h
    | string s => exact .string s
    | pointer a => cases a with
      | none => exact .pnil
      | some a => simp [Ev.ground] at h
    | slice a l c => cases a with
      | none => exact .snil l c
      | some a => simp [Ev.ground] at h
    | map a => cases a with
      | none => exact .mnil
      | some a => simp [Ev.ground] at h
    | chan a => simp [Ev.ground] at h
    | func => simp [Ev.ground] at h
    | nilFunc => exact .nilFunc
    | iface t v => exact .iface t (vr_ground d v (by simpa [Ev.ground] using h))
    | nilIface => exact .nilIface
    | agg a =>
      obtain ⟨l⟩ := a
      simp only [Ev.ground, List.all_eq_true] at h
      refine .agg l l rfl fun i v v' hv hv' => ?_
      rw [hv] at hv'; cases hv'
      exact vr_ground d v (h v (List.mem_of_getElem? hv))
    | tuple a =>
      obtain ⟨l⟩ := a
      simp only [Ev.ground, List.all_eq_true] at h
      refine .tuple l l rfl fun i v v' hv hv' => ?_
      rw [hv] at hv'; cases hv'
      exact vr_ground d v (h v (List.mem_of_getElem? hv))

theorem vl_ground {f : Ren} (d : Nat) : ∀ (l : List Value), (∀ v ∈ l, Ev.ground d v = true) → VL f l l
  | [], _ => .nil
  | v :: l, h => .cons (vr_ground d v (h v (by simp))) (vl_ground d l fun x hx => h x (by simp [hx]))

theorem VR.cells {f : Ren} {v v' : Value} (h : VR f v v') : VL f (cellsA v) (cellsA v') := by
  cases h with
  | agg a a' ha h1 => exact VL.of a a' ha h1
  | ptr h => exact .single (.ptr h)
  | slice h hl h1 h0 => exact .single (.slice h hl h1 h0)
  | sliceE h h0 => exact .single (.sliceE h h0)
  | map h => exact .single (.map h)
  | func fn a a' b b' ha hb h1 h2 => exact .single (.func fn a a' b b' ha hb h1 h2)
  | iface t h => exact .single (.iface t h)
  | tuple a a' ha h1 => exact .single (.tuple a a' ha h1)
  | bool b => exact .single (.bool b)
  | int k n => exact .single (.int k n)
  | float k n => exact .single (.float k n)
  | string k => exact .single (.string k)
  | pnil => exact .single .pnil
  | snil l c => exact .single (.snil l c)
  | mnil => exact .single .mnil
  | nilFunc => exact .single .nilFunc
  | nilIface => exact .single .nilIface

theorem cellsA_eq (v : Value) : v.cells = ⟨cellsA v⟩ := by cases v <;> rfl

theorem VR.one {f : Ren} {v v' : Value} (h : VR f v v') : oneA v' = oneA v := by cases h <;> rfl

theorem VR.natV {f : Ren} {v v' : Value} (h : VR f v v') {n : Nat} (hn : Ev.natV v = some n) : ∃ k, v' = .int k (.ofNat n) := by
  unfold Ev.natV at hn
  split at hn
  · cases hn; cases h; exact ⟨_, rfl⟩
  · cases hn

end Go.Proofs.YtedbjceeakmjgaaGreatDoor.Ev
