/- A shelf in memory: a ring of things, each with two neighbours; a map that finds them. Plainly first. -/
import Derived.Test.YtkkamilmjaochaaRows
import Derived.WalkKit
import Derived.Below
import Derived.Maps.Keyed
import Derived.DeepKeys4
import Derived.Carry
import Derived.Deep.AppendLies
import Derived.Deep.RegionLaw
import Derived.BigRegion
import Derived.Laws.IdiomStrings
import Derived.Laws.StructEq
import Derived.Deep.QuietTactic
import Derived.BigQuiet
namespace Go.Proofs.Ytkkamilmjaochaa
open Go.RowKit
theorem hid {T : Prop} (h : T) : Hid T := h

/-! ### chains -/
def Path (f : Nat → Nat) : Nat → List Nat → Nat → Prop
  | a, [], z => f a = z
  | a, b :: l, z => f a = b ∧ Path f b l z
def upd (f : Nat → Nat) (x y : Nat) : Nat → Nat := fun b => if b = x then y else f b
def lastOf : Nat → List Nat → Nat
  | a, [] => a
  | _, b :: l => lastOf b l
def headOf : List Nat → Nat → Nat
  | [], z => z
  | b :: _, _ => b
theorem upd_same (f : Nat → Nat) (x y : Nat) : upd f x y x = y := if_pos rfl
theorem upd_ne (f : Nat → Nat) {x y b : Nat} (h : b ≠ x) : upd f x y b = f b := if_neg h
theorem Path.app {f : Nat → Nat} {t : Nat} {B : List Nat} {z : Nat} : ∀ {A : List Nat} {a : Nat}, Path f a (A ++ t :: B) z ↔ Path f a A t ∧ Path f t B z
  | [], a => Iff.rfl
  | b :: A, a => by
    show (f a = b ∧ Path f b (A ++ t :: B) z) ↔ (f a = b ∧ Path f b A t) ∧ _
    rw [Path.app (A := A)]
    exact and_assoc.symm
theorem Path.other {f : Nat → Nat} {x y z : Nat} : ∀ {l : List Nat} {a : Nat}, x ∉ a :: l → Path f a l z → Path (upd f x y) a l z
  | [], a, h, p => (upd_ne f (fun e => h (by simp [e]))).trans p
  | b :: l, a, h, p => ⟨(upd_ne f (fun e => h (by simp [e]))).trans p.1, Path.other (fun e => h (List.mem_cons_of_mem _ e)) p.2⟩
theorem lastOf_mem : ∀ (a : Nat) (l : List Nat), lastOf a l ∈ a :: l
  | a, [] => by simp [lastOf]
  | a, b :: l => List.mem_cons_of_mem _ (lastOf_mem b l)
theorem Path.turn {f : Nat → Nat} {y z : Nat} : ∀ {l : List Nat} {a : Nat}, (a :: l).Nodup → Path f a l z → Path (upd f (lastOf a l) y) a l y
  | [], a, _, _ => upd_same f a y
  | b :: l, a, h, p => by
    have h2 := (List.nodup_cons.1 h)
    refine ⟨?_, Path.turn h2.2 p.2⟩
    have hm := lastOf_mem b l
    have hne : a ≠ lastOf b l := fun e => h2.1 (by rw [e]; exact hm)
    show upd f (lastOf b l) y a = b
    rw [upd_ne f hne]
    exact p.1
theorem Path.last {f : Nat → Nat} {z : Nat} : ∀ {l : List Nat} {a : Nat}, Path f a l z → f (lastOf a l) = z
  | [], _, p => p
  | b :: l, _, p => show f (lastOf b l) = z from Path.last p.2
theorem Path.head {f : Nat → Nat} {z a : Nat} : ∀ {l : List Nat}, Path f a l z → f a = headOf l z
  | [], p => p
  | _ :: _, p => p.1
theorem Path.step {f : Nat → Nat} {z : Nat} : ∀ {l : List Nat} {a i x b : Nat}, Path f a l z → (a :: l)[i]? = some x → l[i]? = some b → f x = b
  | [], _, _, _, _, _, _, h => by simp at h
  | c :: l, a, 0, x, b, p, hx, hb => by
    simp at hx hb
    subst hx; subst hb
    exact p.1
  | c :: l, a, i + 1, x, b, p, hx, hb => Path.step (l := l) (i := i) p.2 (by simpa using hx) (by simpa using hb)
theorem lastOf_app (t : Nat) : ∀ (a : Nat) (l : List Nat), lastOf a (l ++ [t]) = t
  | _, [] => rfl
  | _, b :: l => lastOf_app t b l
theorem lastOf_rev (l : List Nat) (a : Nat) : lastOf a l.reverse = headOf l a := by
  cases l with
  | nil => rfl
  | cons b l => rw [List.reverse_cons, lastOf_app]; rfl
theorem headOf_rev (l : List Nat) (a : Nat) : headOf l.reverse a = lastOf a l := by
  rw [← lastOf_rev, List.reverse_reverse]
theorem Path.drop {f : Nat → Nat} {a t z : Nat} {A B : List Nat} (h : (a :: (A ++ t :: B)).Nodup) (p : Path f a (A ++ t :: B) z) : Path (upd f (lastOf a A) (headOf B z)) a (A ++ B) z := by
  obtain ⟨p1, p2⟩ := Path.app.1 p
  have h1 : (a :: A).Nodup := List.Nodup.sublist (by simp) h
  cases B with
  | nil => rw [List.append_nil]; exact p1.turn h1
  | cons y B =>
    refine Path.app.2 ⟨p1.turn h1, Path.other (fun e => ?_) p2.2⟩
    have hd : (a :: A ++ t :: y :: B).Nodup := h
    have := (List.nodup_append.1 hd).2.2 _ (lastOf_mem a A) _ (List.mem_cons_of_mem t e)
    exact this rfl
theorem Path.put {f : Nat → Nat} {a t z : Nat} {l : List Nat} (h : (a :: l).Nodup) (ht : t ∉ a :: l) (p : Path f a l z) : Path (upd (upd f (lastOf a l) t) t z) a (l ++ [t]) z :=
  Path.app.2 ⟨Path.other ht (p.turn h), upd_same _ _ _⟩
theorem Path.put0 {f : Nat → Nat} {a t z : Nat} {l : List Nat} (h : (a :: l).Nodup) (ht : t ∉ a :: l) (p : Path f a l z) : Path (upd (upd f t (headOf l z)) a t) a (t :: l) z := by
  have h2 := List.nodup_cons.1 h
  have hta : t ≠ a := fun e => ht (by simp [e])
  refine ⟨upd_same _ _ _, ?_⟩
  cases l with
  | nil => exact (upd_ne _ hta).trans (upd_same _ _ _)
  | cons b l => exact ⟨(upd_ne _ hta).trans (upd_same _ _ _), Path.other h2.1 (Path.other (fun e => ht (List.mem_cons_of_mem _ e)) p.2)⟩

/-! ### things -/
structure Th (κ ν : Type) where
  b : Nat
  k : κ
  v : ν
abbrev ptr (b : Nat) : Value := .pointer (some ⟨b, 0, none⟩)
/-- a kind of shelf: how a thing lies in its block, its key as a value, the types -/
structure Kd (κ ν : Type) where
  nd : κ → ν → Value → Value → Obj
  zk : κ
  zv : ν
  kv : κ → Value
  ok : κ → Prop
  ia : Nat
  sty : TypeId
  mt : TypeId
  kt : TypeId
  et : TypeId
  map : Try.prog.underlying mt = some (.map kt et)
  keyed : Maps.Keyed Try.prog kt
  zero : ∀ w, (zeroValue et).run Try.prog w = .ok (.pointer none) w
  key : ∀ k, ok k → ∃ l, keyOf Try.prog kt (kv k) = some l
  inj : ∀ {a b}, kv a = kv b → a = b
  setA : ∀ {w : World} {b : Nat} {k v a c}, w.heap[b]? = some (nd k v a c) → ∀ x, (w.setCell ⟨b, ia, none⟩ x).heap[b]? = some (nd k v x c)
  setB : ∀ {w : World} {b : Nat} {k v a c}, w.heap[b]? = some (nd k v a c) → ∀ x, (w.setCell ⟨b, ia + 1, none⟩ x).heap[b]? = some (nd k v a x)
  notS : ∀ k v a c cs, nd k v a c ≠ .cells cs sty (0, 0)
  notM : ∀ k v a c es n, nd k v a c ≠ .map es n

section
variable {κ ν : Type}
def Nodes (I : Kd κ ν) (w : World) (nx pv : Nat → Nat) (l : List (Th κ ν)) : Prop := ∀ t ∈ l, w.heap[t.b]? = some (I.nd t.k t.v (ptr (pv t.b)) (ptr (nx t.b)))
theorem Nodes.join {I : Kd κ ν} {w : World} {nx pv : Nat → Nat} {l : List (Th κ ν)} (h : Nodes I w nx pv l) (a b : Nat) :
    Nodes I ((w.setCell ⟨a, I.ia + 1, none⟩ (ptr b)).setCell ⟨b, I.ia, none⟩ (ptr a)) (upd nx a b) (upd pv b a) l := by
  intro t ht
  have h1 := h t ht
  have h2 : (w.setCell ⟨a, I.ia + 1, none⟩ (ptr b)).heap[t.b]? = some (I.nd t.k t.v (ptr (pv t.b)) (ptr (upd nx a b t.b))) := by
    by_cases e : t.b = a
    · rw [e, upd_same]; rw [e] at h1; exact I.setB h1 _
    · rw [upd_ne nx e, Below.heap_setCell _ _ _ _ e]; exact h1
  by_cases e : t.b = b
  · rw [e, upd_same]; rw [e] at h2; exact I.setA h2 _
  · rw [upd_ne pv e, Below.heap_setCell _ _ _ _ e]; exact h2

theorem same_of_key : ∀ {L : List (Th κ ν)}, (L.map Th.k).Nodup → ∀ {a b : Th κ ν}, a ∈ L → b ∈ L → a.k = b.k → a = b
  | [], _, _, _, h, _, _ => by simp at h
  | x :: L, hd, a, b, ha, hb, e => by
    obtain ⟨h1, h2⟩ := List.nodup_cons.1 hd
    rcases List.mem_cons.1 ha with ea | ha2 <;> rcases List.mem_cons.1 hb with eb | hb2
    · rw [ea, eb]
    · rw [ea] at e; exact absurd (List.mem_map.2 ⟨b, hb2, e.symm⟩) h1
    · rw [eb] at e; exact absurd (List.mem_map.2 ⟨a, ha2, e⟩) h1
    · exact same_of_key h2 ha2 hb2 e
theorem erase_perm {α : Type} : ∀ {l : List α} {j : Nat} {x : α}, l[j]? = some x → l.Perm (x :: l.eraseIdx j)
  | [], _, _, h => by simp at h
  | y :: l, 0, x, h => by
    simp at h
    subst h
    exact List.Perm.refl _
  | y :: l, j + 1, x, h => by
    have := erase_perm (l := l) (j := j) (x := x) (by simpa using h)
    exact (this.cons y).trans (List.Perm.swap _ _ _)
/-- the map finds just the things -/
def MP (I : Kd κ ν) (w : World) (m : Nat) (L : List (Th κ ν)) : Prop :=
  ∃ es clock, w.heap[m]? = some (.map es clock) ∧ (es.toList.map fun e => (e.key, e.val)).Perm (L.map fun t => (I.kv t.k, ptr t.b))
variable {I : Kd κ ν} {w : World} {m : Nat} {L : List (Th κ ν)}
theorem MP.keys {es : Array MapEntry} (h : (es.toList.map fun e => (e.key, e.val)).Perm (L.map fun t => (I.kv t.k, ptr t.b))) (ho : ∀ t ∈ L, I.ok t.k) : ∀ e ∈ es.toList, ∃ l, keyOf Try.prog I.kt e.key = some l := by
  intro e he
  have := h.mem_iff.1 (List.mem_map.2 ⟨e, he, rfl⟩)
  obtain ⟨t, ht, e1⟩ := List.mem_map.1 this
  have e2 : I.kv t.k = e.key := (Prod.mk.inj e1).1
  rw [← e2]
  exact I.key _ (ho t ht)
theorem MP.look_some (h : MP I w m L) (ho : ∀ t ∈ L, I.ok t.k) (hd : (L.map Th.k).Nodup) {t : Th κ ν} (ht : t ∈ L) :
    (Instr.lookup I.mt (.map (some m)) (I.kv t.k) true).run Try.prog w = .ok (.tuple #[ptr t.b, .bool true]) w := by
  obtain ⟨es, clock, hb, hp⟩ := h
  obtain ⟨l, hl⟩ := I.key t.k (ho t ht)
  have hm := hp.mem_iff.2 (List.mem_map.2 ⟨t, ht, rfl⟩)
  rcases I.keyed.find w hl es.toList (MP.keys hp ho) with ⟨h1, h2⟩ | ⟨j, e, h1, h2, h3⟩
  · obtain ⟨e, he, e1⟩ := List.mem_map.1 hm
    exact absurd (Prod.mk.inj e1).1 (h2 e he)
  · have hv : e.val = ptr t.b := by
      obtain ⟨t', ht', e1⟩ := List.mem_map.1 (hp.mem_iff.1 (List.mem_map.2 ⟨e, List.mem_of_getElem? h2, rfl⟩))
      obtain ⟨e2, e3⟩ := Prod.mk.inj e1
      have e4 : t'.k = t.k := I.inj (e2.trans h3)
      have : t' = t := same_of_key hd ht' ht e4
      rw [← e3, this]
    have e0 : es.isEmpty = es.isEmpty := rfl
    simp [Instr.lookup, run_underlying I.map, MapKept.run_getObj_map hb, I.keyed.check w _ hl, h1, hv, Result.andThen]
theorem MP.look_none (h : MP I w m L) (ho : ∀ t ∈ L, I.ok t.k) {k : κ} (hk : I.ok k) (hn : ∀ t ∈ L, t.k ≠ k) :
    (Instr.lookup I.mt (.map (some m)) (I.kv k) true).run Try.prog w = .ok (.tuple #[.pointer none, .bool false]) w := by
  obtain ⟨es, clock, hb, hp⟩ := h
  obtain ⟨l, hl⟩ := I.key k hk
  rcases I.keyed.find w hl es.toList (MP.keys hp ho) with ⟨h1, h2⟩ | ⟨j, e, h1, h2, h3⟩
  · simp [Instr.lookup, run_underlying I.map, MapKept.run_getObj_map hb, I.keyed.check w _ hl, h1, I.zero, Result.andThen]
  · obtain ⟨t', ht', e1⟩ := List.mem_map.1 (hp.mem_iff.1 (List.mem_map.2 ⟨e, List.mem_of_getElem? h2, rfl⟩))
    exact absurd (I.inj ((Prod.mk.inj e1).1.trans h3)) (hn t' ht')
theorem MP.len (h : MP I w m L) (ty : TypeId) : (Builtin.len_ #[I.mt] ty #[.map (some m)]).run Try.prog w = .ok (.int .i64 L.length) w := by
  obtain ⟨es, clock, hb, hp⟩ := h
  have hl : es.size = L.length := by simpa using hp.length_eq
  simp [Builtin.len_, run_underlying I.map, MapKept.run_getObj_map hb, hl, goInt, Result.andThen]
theorem MP.store (h : MP I w m L) (ho : ∀ t ∈ L, I.ok t.k) {k : κ} (hk : I.ok k) (hn : ∀ t ∈ L, t.k ≠ k) (b : Nat) (v : ν) :
    ∃ w', (Instr.mapUpdate I.mt (.map (some m)) (I.kv k) (ptr b)).run Try.prog w = .ok () w' ∧ MP I w' m (L ++ [⟨b, k, v⟩]) ∧ w'.os = w.os ∧ w'.tape = w.tape ∧ w'.output = w.output ∧ w'.heap.size = w.heap.size ∧ ∀ x, x ≠ m → w'.heap[x]? = w.heap[x]? := by
  obtain ⟨es, clock, hb, hp⟩ := h
  obtain ⟨l, hl⟩ := I.key k hk
  rcases I.keyed.find w hl es.toList (MP.keys hp ho) with ⟨h1, h2⟩ | ⟨j, e, h1, h2, h3⟩
  · refine ⟨ChangeMaps.setBlock w m (.map (es.push ⟨I.kv k, ptr b, clock⟩) (clock + 1)), ?_, ⟨_, _, ChangeMaps.heap_setBlock_same hb _, ?_⟩, rfl, rfl, rfl, by simp [ChangeMaps.setBlock], fun x hx => ChangeMaps.heap_setBlock_other hb _ hx⟩
    · simp [Instr.mapUpdate, run_underlying I.map, MapKept.run_getObj_map hb, I.keyed.check w _ hl, h1, MapKept.run_setObj_map _ hb, Result.andThen, ChangeMaps.setBlock]
    · simp only [Array.toList_push, List.map_append, List.map_cons, List.map_nil]
      exact hp.append_right _
  · obtain ⟨t', ht', e1⟩ := List.mem_map.1 (hp.mem_iff.1 (List.mem_map.2 ⟨e, List.mem_of_getElem? h2, rfl⟩))
    exact absurd (I.inj ((Prod.mk.inj e1).1.trans h3)) (hn t' ht')
theorem MP.drop {A B : List (Th κ ν)} {t : Th κ ν} (h : MP I w m (A ++ t :: B)) (ho : ∀ x ∈ A ++ t :: B, I.ok x.k) (hd : ((A ++ t :: B).map Th.k).Nodup) (ty : TypeId) :
    ∃ w', (Builtin.delete_ #[I.mt, I.kt] ty #[.map (some m), I.kv t.k]).run Try.prog w = .ok (.tuple #[]) w' ∧ MP I w' m (A ++ B) ∧ w'.os = w.os ∧ w'.tape = w.tape ∧ w'.output = w.output ∧ w'.heap.size = w.heap.size ∧ ∀ x, x ≠ m → w'.heap[x]? = w.heap[x]? := by
  obtain ⟨es, clock, hb, hp⟩ := h
  have ht : t ∈ A ++ t :: B := by simp
  obtain ⟨l, hl⟩ := I.key t.k (ho t ht)
  rcases I.keyed.find w hl es.toList (MP.keys hp ho) with ⟨h1, h2⟩ | ⟨j, e, h1, h2, h3⟩
  · obtain ⟨e, he, e1⟩ := List.mem_map.1 (hp.mem_iff.2 (List.mem_map.2 ⟨t, ht, rfl⟩))
    exact absurd (Prod.mk.inj e1).1 (h2 e he)
  · have hj : j < es.size := by simpa using (List.getElem?_eq_some_iff.1 h2).1
    refine ⟨ChangeMaps.setBlock w m (.map (es.eraseIdxIfInBounds j) clock), ?_, ⟨_, _, ChangeMaps.heap_setBlock_same hb _, ?_⟩, rfl, rfl, rfl, by simp [ChangeMaps.setBlock], fun x hx => ChangeMaps.heap_setBlock_other hb _ hx⟩
    · simp [Builtin.delete_, run_underlying I.map, MapKept.run_getObj_map hb, I.keyed.check w _ hl, h1, MapKept.run_setObj_map _ hb, Result.andThen, ChangeMaps.setBlock]
    · have hv : (e.key, e.val) = (I.kv t.k, ptr t.b) := by
        obtain ⟨t', ht', e1⟩ := List.mem_map.1 (hp.mem_iff.1 (List.mem_map.2 ⟨e, List.mem_of_getElem? h2, rfl⟩))
        obtain ⟨e2, e3⟩ := Prod.mk.inj e1
        have e4 : t'.k = t.k := I.inj (e2.trans h3)
        have : t' = t := same_of_key hd ht' ht e4
        rw [← e1, this]
      have hl2 : (es.eraseIdxIfInBounds j).toList = es.toList.eraseIdx j := by
        unfold Array.eraseIdxIfInBounds
        rw [dif_pos hj, Array.toList_eraseIdx]
      rw [hl2, ChangeMaps.map_eraseIdx]
      have hp2 : (es.toList.map fun e => (e.key, e.val)).Perm ((I.kv t.k, ptr t.b) :: (es.toList.map fun e => (e.key, e.val)).eraseIdx j) := by
        have hg : (es.toList.map fun e => (e.key, e.val))[j]? = some (I.kv t.k, ptr t.b) := by simp only [List.getElem?_map, h2, Option.map_some, hv]
        exact erase_perm hg
      have hp3 : ((A ++ t :: B).map fun t => (I.kv t.k, ptr t.b)).Perm ((I.kv t.k, ptr t.b) :: (A ++ B).map fun t => (I.kv t.k, ptr t.b)) := by
        simp only [List.map_append, List.map_cons]
        exact List.perm_middle
      exact List.Perm.cons_inv (hp2.symm.trans (hp.trans hp3))
end
end Go.Proofs.Ytkkamilmjaochaa
