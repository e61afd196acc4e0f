/- Maps in memory: which pairs they hold, in whatever order; ranging over one. -/
import Derived.Test.YtnpffhgmakbdnaaRows
import Derived.WalkKit
import Derived.Below
import Derived.Maps.Keyed
import Derived.Maps.RangeRun
import Derived.DeepKeys4
import Derived.Carry
import Derived.Deep.AppendLies
import Derived.Deep.RegionLaw
import Derived.BigRegion
import Derived.Laws.IdiomStrings
import Derived.Laws.StructEq
import Derived.Deep.QuietTactic
import Derived.BigQuiet
namespace Go.Proofs.Ytnpffhgmakbdnaa
open Go.RowKit
theorem hid {T : Prop} (h : T) : Hid T := h
abbrev ptr (b : Nat) : Value := .pointer (some ⟨b, 0, none⟩)
/-- a kind of map: its types; an entry as a key and a value -/
structure Kd (α : Type) where
  f : α → Value × Value
  mt : TypeId
  kt : TypeId
  et : TypeId
  zv : Value
  map : Try.prog.underlying mt = some (.map kt et)
  keyed : Maps.Keyed Try.prog kt
  zero : ∀ w, (zeroValue et).run Try.prog w = .ok zv w
  inj : ∀ {a b}, f a = f b → a = b
section
variable {α : Type}
theorem erase_perm {β : Type} : ∀ {l : List β} {j : Nat} {x : β}, l[j]? = some x → l.Perm (x :: l.eraseIdx j)
  | [], _, _, h => by simp at h
  | y :: l, 0, x, h => by
    simp at h
    subst h
    exact List.Perm.refl _
  | y :: l, j + 1, x, h => by
    have := erase_perm (l := l) (j := j) (x := x) (by simpa using h)
    exact (this.cons y).trans (List.Perm.swap _ _ _)
theorem erase_filter {β : Type} {p : β → Bool} : ∀ {l : List β} {j : Nat} {x : β}, l[j]? = some x → p x = false → (l.eraseIdx j).filter p = l.filter p
  | [], _, _, h, _ => by simp at h
  | y :: l, 0, x, h, hp => by
    simp at h
    subst h
    simp [hp]
  | y :: l, j + 1, x, h, hp => by
    have := erase_filter (p := p) (l := l) (j := j) (x := x) (by simpa using h) hp
    simp only [List.eraseIdx_cons_succ, List.filter_cons, this]
abbrev kvs (es : Array MapEntry) : List (Value × Value) := es.toList.map fun e => (e.key, e.val)
/-- the keys are keys, none twice -/
structure Ok (I : Kd α) (L : List α) : Prop where
  key : ∀ x ∈ L, ∃ l, keyOf Try.prog I.kt (I.f x).1 = some l
  nd : (L.map fun x => (I.f x).1).Nodup
def MM (I : Kd α) (w : World) (m : Nat) (L : List α) : Prop :=
  ∃ es clock, w.heap[m]? = some (.map es clock) ∧ (kvs es).Perm (L.map I.f) ∧ (es.toList.map MapEntry.born).Nodup ∧ ∀ e ∈ es.toList, e.born < clock
variable {I : Kd α} {w : World} {m : Nat} {L : List α}
theorem MM.kept {w' : World} (h : MM I w m L) (hk : w'.heap[m]? = w.heap[m]?) : MM I w' m L := by
  obtain ⟨es, c, h1, h2⟩ := h
  exact ⟨es, c, hk.trans h1, h2⟩
theorem MM.perm {L' : List α} (h : MM I w m L) (hp : L.Perm L') : MM I w m L' := by
  obtain ⟨es, c, h1, h2, h3⟩ := h
  exact ⟨es, c, h1, h2.trans (hp.map _), h3⟩
theorem MM.lt (h : MM I w m L) : m < w.heap.size := by
  obtain ⟨es, c, h1, _⟩ := h
  exact (Array.getElem?_eq_some_iff.1 h1).1
theorem Ok.perm {L' : List α} (h : Ok I L) (hp : L.Perm L') : Ok I L' :=
  ⟨fun x hx => h.key x (hp.mem_iff.2 hx), (hp.map _).nodup_iff.1 h.nd⟩
theorem Ok.sub {L' : List α} (h : Ok I L) (hp : L'.Sublist L) : Ok I L' :=
  ⟨fun x hx => h.key x (hp.subset hx), (hp.map _).nodup h.nd⟩
theorem nd_inj {β γ : Type} {f : β → γ} : ∀ {l : List β}, (l.map f).Nodup → ∀ {a b : β}, a ∈ l → b ∈ l → f a = f b → a = b
  | [], _, _, _, h, _, _ => by simp at h
  | x :: l, hd, a, b, ha, hb, e => by
    obtain ⟨h1, h2⟩ := List.nodup_cons.1 hd
    rcases List.mem_cons.1 ha with ea | ha2 <;> rcases List.mem_cons.1 hb with eb | hb2
    · rw [ea, eb]
    · rw [ea] at e; exact absurd (List.mem_map.2 ⟨b, hb2, e.symm⟩) h1
    · rw [eb] at e; exact absurd (List.mem_map.2 ⟨a, ha2, e⟩) h1
    · exact nd_inj h2 ha2 hb2 e
theorem Ok.same (h : Ok I L) {a b : α} (ha : a ∈ L) (hb : b ∈ L) (e : (I.f a).1 = (I.f b).1) : a = b := nd_inj (f := fun x => (I.f x).1) h.nd ha hb e
theorem keys_of {es : Array MapEntry} (h : (kvs es).Perm (L.map I.f)) (ho : Ok I L) : ∀ e ∈ es.toList, ∃ l, keyOf Try.prog I.kt e.key = some l := by
  intro e he
  obtain ⟨x, hx, e1⟩ := List.mem_map.1 (h.mem_iff.1 (List.mem_map.2 ⟨e, he, rfl⟩))
  rw [show e.key = (I.f x).1 by rw [e1]]
  exact ho.key x hx
/-- where a key stands -/
theorem find_some {es : Array MapEntry} (h : (kvs es).Perm (L.map I.f)) (ho : Ok I L) {x : α} (hx : x ∈ L) (w : World) :
    ∃ j e l, keyOf Try.prog I.kt (I.f x).1 = some l ∧ (Instr.findKey I.kt (I.f x).1 es.toList).run Try.prog w = .ok (some (j, e.val)) w ∧ es.toList[j]? = some e ∧ (e.key, e.val) = I.f x := by
  obtain ⟨l, hl⟩ := ho.key x hx
  rcases I.keyed.find w hl es.toList (keys_of h ho) with ⟨h1, h2⟩ | ⟨j, e, h1, h2, h3⟩
  · obtain ⟨e, he, e1⟩ := List.mem_map.1 (h.mem_iff.2 (List.mem_map.2 ⟨x, hx, rfl⟩))
    exact absurd (by rw [← e1]) (h2 e he)
  · refine ⟨j, e, l, hl, h1, h2, ?_⟩
    obtain ⟨y, hy, e1⟩ := List.mem_map.1 (h.mem_iff.1 (List.mem_map.2 ⟨e, List.mem_of_getElem? h2, rfl⟩))
    have e2 : (I.f y).1 = (I.f x).1 := by rw [e1]; exact h3
    rw [← e1, ho.same hy hx e2]
theorem find_none {es : Array MapEntry} (h : (kvs es).Perm (L.map I.f)) (ho : Ok I L) {k : Value} {l : Lit} (hk : keyOf Try.prog I.kt k = some l) (hn : ∀ x ∈ L, (I.f x).1 ≠ k) (w : World) :
    (Instr.findKey I.kt k es.toList).run Try.prog w = .ok none w := by
  rcases I.keyed.find w hk es.toList (keys_of h ho) with ⟨h1, h2⟩ | ⟨j, e, h1, h2, h3⟩
  · exact h1
  · obtain ⟨y, hy, e1⟩ := List.mem_map.1 (h.mem_iff.1 (List.mem_map.2 ⟨e, List.mem_of_getElem? h2, rfl⟩))
    exact absurd (by rw [e1]; exact h3) (hn y hy)
theorem MM.look_some (h : MM I w m L) (ho : Ok I L) {x : α} (hx : x ∈ L) :
    (Instr.lookup I.mt (.map (some m)) (I.f x).1 true).run Try.prog w = .ok (.tuple #[(I.f x).2, .bool true]) w := by
  obtain ⟨es, clock, hb, hp, _⟩ := h
  obtain ⟨j, e, l, hl, h1, h2, h3⟩ := find_some hp ho hx w
  have hv : e.val = (I.f x).2 := by rw [← h3]
  simp [Instr.lookup, run_underlying I.map, MapKept.run_getObj_map hb, I.keyed.check w _ hl, h1, hv, Result.andThen]
theorem MM.look_plain (h : MM I w m L) (ho : Ok I L) {x : α} (hx : x ∈ L) :
    (Instr.lookup I.mt (.map (some m)) (I.f x).1 false).run Try.prog w = .ok (I.f x).2 w := by
  obtain ⟨es, clock, hb, hp, _⟩ := h
  obtain ⟨j, e, l, hl, h1, h2, h3⟩ := find_some hp ho hx w
  have hv : e.val = (I.f x).2 := by rw [← h3]
  simp [Instr.lookup, run_underlying I.map, MapKept.run_getObj_map hb, I.keyed.check w _ hl, h1, hv, Result.andThen]
theorem MM.look_none (h : MM I w m L) (ho : Ok I L) {k : Value} {l : Lit} (hk : keyOf Try.prog I.kt k = some l) (hn : ∀ x ∈ L, (I.f x).1 ≠ k) :
    (Instr.lookup I.mt (.map (some m)) k true).run Try.prog w = .ok (.tuple #[I.zv, .bool false]) w := by
  obtain ⟨es, clock, hb, hp, _⟩ := h
  have h1 := find_none hp ho hk hn w
  simp [Instr.lookup, run_underlying I.map, MapKept.run_getObj_map hb, I.keyed.check w _ hk, h1, I.zero, Result.andThen]
theorem MM.len (h : MM I w m L) (ty : TypeId) : (Builtin.len_ #[I.mt] ty #[.map (some m)]).run Try.prog w = .ok (.int .i64 L.length) w := by
  obtain ⟨es, clock, hb, hp, _⟩ := h
  have hl : es.size = L.length := by simpa using hp.length_eq
  simp [Builtin.len_, run_underlying I.map, MapKept.run_getObj_map hb, hl, goInt, Result.andThen]
/-- only the block m is another -/
structure Only (m : Nat) (w w' : World) : Prop where
  os : w'.os = w.os
  tape : w'.tape = w.tape
  output : w'.output = w.output
  size : w'.heap.size = w.heap.size
  kept : ∀ x, x ≠ m → w'.heap[x]? = w.heap[x]?
theorem Only.block (w : World) {m : Nat} {es : Array MapEntry} {c : Nat} (hb : w.heap[m]? = some (.map es c)) (o : Obj) : Only m w (ChangeMaps.setBlock w m o) :=
  ⟨rfl, rfl, rfl, by simp [ChangeMaps.setBlock], fun x hx => ChangeMaps.heap_setBlock_other hb _ hx⟩
theorem MM.store (h : MM I w m L) (ho : Ok I L) {x : α} {l : Lit} (hk : keyOf Try.prog I.kt (I.f x).1 = some l) (hn : ∀ y ∈ L, (I.f y).1 ≠ (I.f x).1) :
    ∃ w', (Instr.mapUpdate I.mt (.map (some m)) (I.f x).1 (I.f x).2).run Try.prog w = .ok () w' ∧ MM I w' m (L ++ [x]) ∧ Only m w w' := by
  obtain ⟨es, clock, hb, hp, hn2, hc⟩ := h
  have h1 := find_none hp ho hk hn w
  refine ⟨ChangeMaps.setBlock w m (.map (es.push ⟨(I.f x).1, (I.f x).2, clock⟩) (clock + 1)), ?_, ⟨_, _, ChangeMaps.heap_setBlock_same hb _, ?_, ?_, ?_⟩, Only.block w hb _⟩
  · simp [Instr.mapUpdate, run_underlying I.map, MapKept.run_getObj_map hb, I.keyed.check w _ hk, h1, MapKept.run_setObj_map _ hb, Result.andThen, ChangeMaps.setBlock]
  · simp only [kvs, Array.toList_push, List.map_append, List.map_cons, List.map_nil]
    exact hp.append_right _
  · simp only [Array.toList_push, List.map_append, List.map_cons, List.map_nil]
    refine List.nodup_append.2 ⟨hn2, by simp, ?_⟩
    intro a ha b hb2
    obtain ⟨e, he, rfl⟩ := List.mem_map.1 ha
    have := hc e he
    simp at hb2
    omega
  · intro e he
    simp only [Array.toList_push, List.mem_append, List.mem_singleton] at he
    rcases he with he | he
    · have := hc e he; omega
    · rw [he]; simp
theorem MM.again {A B : List α} {x y : α} (h : MM I w m (A ++ x :: B)) (ho : Ok I (A ++ x :: B)) (hxy : (I.f y).1 = (I.f x).1) :
    ∃ w', (Instr.mapUpdate I.mt (.map (some m)) (I.f x).1 (I.f y).2).run Try.prog w = .ok () w' ∧ MM I w' m (A ++ y :: B) ∧ Only m w w' := by
  obtain ⟨es, clock, hb, hp, hn2, hc⟩ := h
  obtain ⟨j, e, l, hl, h1, h2, h3⟩ := find_some hp ho (x := x) (by simp) w
  have hj : j < es.size := by simpa using (List.getElem?_eq_some_iff.1 h2).1
  have hek : e.key = (I.f x).1 := by rw [← h3]
  have hej : es[j]? = some e := by simpa using h2
  refine ⟨ChangeMaps.setBlock w m (.map (es.modify j fun e => { e with key := (I.f x).1, val := (I.f y).2 }) clock), ?_, ⟨_, _, ChangeMaps.heap_setBlock_same hb _, ?_, ?_, ?_⟩, Only.block w hb _⟩
  · simp [Instr.mapUpdate, run_underlying I.map, MapKept.run_getObj_map hb, I.keyed.check w _ hl, h1, hej, hek, I.keyed.stays w hl, MapKept.run_setObj_map _ hb, Result.andThen, ChangeMaps.setBlock]
  · simp only [kvs, Array.toList_modify]
    rw [ChangeMaps.modify_eq_set _ _ _ _ h2, List.map_set]
    have hg : (kvs es)[j]? = some (I.f x) := by simp only [kvs, List.getElem?_map, h2, Option.map_some, h3]
    have hp2 : (kvs es).Perm (I.f x :: (kvs es).eraseIdx j) := erase_perm hg
    have hp3 : ((A ++ x :: B).map I.f).Perm (I.f x :: (A ++ B).map I.f) := by
      simp only [List.map_append, List.map_cons]
      exact List.perm_middle
    have hp4 := List.Perm.cons_inv (hp2.symm.trans (hp.trans hp3))
    have hg2 : ((kvs es).set j (I.f y))[j]? = some (I.f y) := by
      rw [List.getElem?_set_self]
      simpa using hj
    have hp5 : ((kvs es).set j (I.f y)).Perm (I.f y :: (kvs es).eraseIdx j) := by
      have := erase_perm hg2
      rwa [List.eraseIdx_set_eq] at this
    have hp6 : ((A ++ y :: B).map I.f).Perm (I.f y :: (A ++ B).map I.f) := by
      simp only [List.map_append, List.map_cons]
      exact List.perm_middle
    have e9 : ((I.f x).1, (I.f y).2) = I.f y := by rw [← hxy]
    simp only [e9]
    exact hp5.trans ((hp4.cons _).trans hp6.symm)
  · rw [Array.toList_modify, ChangeMaps.modify_eq_set _ _ _ _ h2, List.map_set]
    have : (es.toList.map MapEntry.born).set j e.born = es.toList.map MapEntry.born := by
      apply List.ext_getElem? 
      intro i
      rw [List.getElem?_set]
      by_cases hi : j = i
      · subst hi
        rw [if_pos rfl, if_pos (by simpa using hj), List.getElem?_map, h2]
        rfl
      · simp [hi]
    rw [this]
    exact hn2
  · intro e2 he2
    rw [Array.toList_modify, ChangeMaps.modify_eq_set _ _ _ _ h2] at he2
    rcases List.mem_or_eq_of_mem_set he2 with h9 | h9
    · exact hc e2 h9
    · rw [h9]; exact hc e (List.mem_of_getElem? h2)
/-- ranging: all that is there; what is to come; what has come just now -/
def RG (I : Kd α) (w : World) (m r : Nat) (L rest : List α) (cur : Option α) : Prop :=
  ∃ es clock since seen c0, w.heap[m]? = some (.map es clock) ∧ w.heap[r]? = some (.mapIter (some m) since seen c0) ∧ (kvs es).Perm (L.map I.f) ∧ (es.toList.map MapEntry.born).Nodup ∧ (∀ e ∈ es.toList, e.born < since) ∧ since ≤ c0 ∧ since ≤ clock ∧
    (kvs (leftOf es seen)).Perm (rest.map I.f) ∧ ∀ x, cur = some x → c0 = clock ∧ ∃ (e : MapEntry) (s0 : Array Nat), e ∈ es.toList ∧ (e.key, e.val) = I.f x ∧ seen = s0.push e.born
theorem RG.kept {w' : World} {r : Nat} {rest : List α} {cur : Option α} (h : RG I w m r L rest cur) (hk : w'.heap[m]? = w.heap[m]?) (hr : w'.heap[r]? = w.heap[r]?) : RG I w' m r L rest cur := by
  obtain ⟨es, c, s, q, c0, h1, h2, h3⟩ := h
  exact ⟨es, c, s, q, c0, hk.trans h1, hr.trans h2, h3⟩
theorem RG.mm {r : Nat} {rest : List α} {cur : Option α} (h : RG I w m r L rest cur) : MM I w m L := by
  obtain ⟨es, c, s, q, c0, h1, _, h3, h4, h5, _, h7, _⟩ := h
  exact ⟨es, c, h1, h3, h4, fun e he => Nat.lt_of_lt_of_le (h5 e he) h7⟩
theorem RG.lt {r : Nat} {rest : List α} {cur : Option α} (h : RG I w m r L rest cur) : r < w.heap.size ∧ r ≠ m := by
  obtain ⟨es, c, s, q, c0, h1, h2, _⟩ := h
  exact ⟨(Array.getElem?_eq_some_iff.1 h2).1, fun e => by rw [e, h1] at h2; cases h2⟩
theorem MM.range (h : MM I w m L) : ∃ w', (Instr.range I.mt (.map (some m))).run Try.prog w = .ok (ptr w.heap.size) w' ∧ RG I w' m w.heap.size L L none ∧ Below w.heap.size w w' := by
  have hlt := h.lt
  obtain ⟨es, clock, hb, hp, hn, hc⟩ := h
  refine ⟨_, run_range_map w I.mt I.kt I.et m es clock I.map hb, ⟨es, clock, clock, #[], clock, (heap_alloc_old w _ hlt).trans hb, heap_alloc_new w _, hp, hn, hc, Nat.le_refl _, Nat.le_refl _, ?_, fun x hx => by cases hx⟩, (Below.refl _ _).alloc (Nat.le_refl _) _⟩
  have : leftOf es #[] = es := by unfold leftOf; simp
  rw [this]
  exact hp
theorem filter_out {p : MapEntry → Bool} {e : MapEntry} (hpe : p e = true) : ∀ {l : List MapEntry}, (l.map MapEntry.born).Nodup → e ∈ l → (l.filter p).Perm (e :: l.filter fun x => p x && !(x.born == e.born))
  | [], _, h => by simp at h
  | x :: l, hd, he => by
    obtain ⟨h1, h2⟩ := List.nodup_cons.1 hd
    by_cases hx : x = e
    · subst hx
      have : l.filter (fun y => p y && !(y.born == x.born)) = l.filter p := List.filter_congr fun y hy => by
        have : y.born ≠ x.born := fun q => h1 (List.mem_map.2 ⟨y, hy, q⟩)
        simp [this]
      simp [hpe, this]
    · have he2 : e ∈ l := by
        rcases List.mem_cons.1 he with h | h
        · exact absurd h.symm hx
        · exact h
      have hb : x.born ≠ e.born := fun q => h1 (List.mem_map.2 ⟨e, he2, q.symm⟩)
      have ih := filter_out hpe h2 he2
      by_cases hpx : p x = true
      · rw [List.filter_cons_of_pos hpx, List.filter_cons_of_pos (by simp [hpx, hb])]
        exact (ih.cons x).trans (List.Perm.swap _ _ _)
      · rw [List.filter_cons_of_neg hpx, List.filter_cons_of_neg (by simp [hpx])]
        exact ih
theorem left_push {es : Array MapEntry} {seen : Array Nat} {e : MapEntry} (hn : (es.toList.map MapEntry.born).Nodup) (he : e ∈ es.toList) (hs : seen.contains e.born = false) :
    ((leftOf es seen).toList).Perm (e :: (leftOf es (seen.push e.born)).toList) := by
  have h := filter_out (p := fun x => !seen.contains x.born) (e := e) (by rw [hs]; rfl) hn he
  unfold leftOf
  rw [Array.toList_filter, Array.toList_filter]
  have e2 : es.toList.filter (fun x => !(seen.push e.born).contains x.born) = es.toList.filter (fun x => !seen.contains x.born && !(x.born == e.born)) := List.filter_congr fun y _ => by
    rw [Array.contains_push]
    cases seen.contains y.born <;> simp
  rw [e2]
  exact h
theorem RG.next {r : Nat} {rest : List α} {cur : Option α} (h : RG I w m r L rest cur) :
    (rest = [] ∧ ∀ ty, (Instr.next (ptr r) false ty).run Try.prog w = .ok (.tuple #[.bool false]) w) ∨
    ∃ x rest' w', rest.Perm (x :: rest') ∧ x ∈ L ∧ (∀ ty, (Instr.next (ptr r) false ty).run Try.prog w = .ok (.tuple #[.bool true, (I.f x).1, (I.f x).2]) w') ∧ RG I w' m r L rest' (some x) ∧ Only r w w' := by
  obtain ⟨es, clock, since, seen, c0, hb, hr, hp, hn, hold, hsc, hcl, hl, _⟩ := h
  rcases run_next_at (P := Try.prog) w 0 r m since c0 seen es clock hr hb hold hsc with ⟨h0, h1⟩ | ⟨e, he, w1, hw1, h1⟩
  · refine .inl ⟨?_, fun _ => h1⟩
    have := hl.length_eq
    simp [kvs] at this
    rw [h0] at this
    exact List.eq_nil_of_length_eq_zero this.symm
  · right
    obtain ⟨he1, he2⟩ := mem_left he
    obtain ⟨x, hx, hfx⟩ := List.mem_map.1 (hl.mem_iff.1 (List.mem_map.2 ⟨e, he, rfl⟩))
    obtain ⟨y, hy, hfy⟩ := List.mem_map.1 (hp.mem_iff.1 (List.mem_map.2 ⟨e, he1, rfl⟩))
    obtain ⟨A, B, rfl⟩ := List.append_of_mem hx
    have hb1 : w1.heap[m]? = w.heap[m]? := by rcases hw1 with rfl | rfl <;> rfl
    have hr1 : w1.heap[r]? = w.heap[r]? := by rcases hw1 with rfl | rfl <;> rfl
    have hlt : r < w.heap.size := (Array.getElem?_eq_some_iff.1 hr).1
    have o1 : Only r w (ChangeMaps.setBlock w1 r (.mapIter (some m) since (seen.push e.born) clock)) := by
      rcases hw1 with rfl | rfl <;> exact ⟨rfl, rfl, rfl, by simp [ChangeMaps.setBlock], fun x hx => Array.getElem?_setIfInBounds_ne (fun q => hx q.symm)⟩
    have hrr : (ChangeMaps.setBlock w1 r (.mapIter (some m) since (seen.push e.born) clock)).heap[r]? = some (.mapIter (some m) since (seen.push e.born) clock) := by
      have : r < w1.heap.size := by rcases hw1 with rfl | rfl <;> exact hlt
      simp [ChangeMaps.setBlock, this]
    have hne : m ≠ r := fun q => by rw [← q, hb] at hr; cases hr
    refine ⟨x, A ++ B, _, List.perm_middle, ?_, ?_, ⟨es, clock, since, seen.push e.born, clock, (o1.kept m hne).trans hb, hrr, hp, hn, hold, hcl, hcl, ?_, fun z hz => ?_⟩, o1⟩
    · rw [I.inj (hfx.trans hfy.symm)]; exact hy
    · intro ty; rw [hfx]; exact h1
    · have h5 := (left_push hn he1 he2).map fun e : MapEntry => (e.key, e.val)
      have h6 := h5.symm.trans hl
      simp only [List.map_append, List.map_cons] at h6
      rw [hfx] at h6
      rw [List.map_append]
      exact List.Perm.cons_inv (h6.trans List.perm_middle)
    · cases hz
      exact ⟨rfl, e, seen, he1, hfx.symm, rfl⟩
theorem RG.entry {r : Nat} {rest : List α} {x : α} (h : RG I w m r L rest (some x)) : (Instr.entry (ptr r)).run Try.prog w = .ok (.tuple #[(I.f x).1, (I.f x).2]) w := by
  obtain ⟨es, clock, since, seen, c0, hb, hr, hp, hn, hold, hsc, hcl, hl, hc⟩ := h
  obtain ⟨rfl, e, s0, he, hf, rfl⟩ := hc x rfl
  rw [← hf]
  exact run_entry_at w r m since s0 es _ e hr hb he hn
theorem RG.drop {r : Nat} {rest A B : List α} {x : α} (h : RG I w m r (A ++ x :: B) rest (some x)) (ho : Ok I (A ++ x :: B)) :
    ∃ w', (∀ ty, (Builtin.delete_ #[I.mt, I.kt] ty #[.map (some m), (I.f x).1]).run Try.prog w = .ok (.tuple #[]) w') ∧ RG I w' m r (A ++ B) rest none ∧ Only m w w' := by
  obtain ⟨es, clock, since, seen, c0, hb, hr, hp, hn, hold, hsc, hcl, hl, hc⟩ := h
  obtain ⟨rfl, e0, s0, he0, hf0, rfl⟩ := hc x rfl
  obtain ⟨j, e, l, hk, h1, h2, h3⟩ := find_some hp ho (x := x) (by simp) w
  have hj : j < es.size := by simpa using (List.getElem?_eq_some_iff.1 h2).1
  have hl2 : (es.eraseIdxIfInBounds j).toList = es.toList.eraseIdx j := by
    unfold Array.eraseIdxIfInBounds
    rw [dif_pos hj, Array.toList_eraseIdx]
  have hg : (kvs es)[j]? = some (I.f x) := by simp only [kvs, List.getElem?_map, h2, Option.map_some, h3]
  have hp2 : (kvs es).Perm (I.f x :: (kvs es).eraseIdx j) := erase_perm hg
  have hp3 : ((A ++ x :: B).map I.f).Perm (I.f x :: (A ++ B).map I.f) := by
    simp only [List.map_append, List.map_cons]
    exact List.perm_middle
  have hee : e = e0 := by
    have h9 : ((kvs es).map Prod.fst).Nodup := by
      have := (hp.map Prod.fst).nodup_iff.2 (by rw [List.map_map]; exact ho.nd)
      exact this
    have h10 : (es.toList.map MapEntry.key).Nodup := by simpa [kvs, List.map_map, Function.comp_def] using h9
    refine nd_inj h10 (List.mem_of_getElem? h2) he0 ?_
    have a1 : e.key = (I.f x).1 := by rw [← h3]
    have a2 : e0.key = (I.f x).1 := by rw [← hf0]
    rw [a1, a2]
  have hne : r ≠ m := fun q => by rw [q, hb] at hr; cases hr
  refine ⟨ChangeMaps.setBlock w m (.map (es.eraseIdxIfInBounds j) c0), ?_, ⟨_, _, since, _, _, ChangeMaps.heap_setBlock_same hb _, (ChangeMaps.heap_setBlock_other hb _ hne).trans hr, ?_, ?_, ?_, hsc, hcl, ?_, fun z hz => by cases hz⟩, Only.block w hb _⟩
  · intro ty
    simp [Builtin.delete_, run_underlying I.map, MapKept.run_getObj_map hb, I.keyed.check w _ hk, h1, MapKept.run_setObj_map _ hb, Result.andThen, ChangeMaps.setBlock]
  · rw [show kvs (es.eraseIdxIfInBounds j) = (kvs es).eraseIdx j by simp only [kvs]; rw [hl2, ChangeMaps.map_eraseIdx]]
    exact List.Perm.cons_inv (hp2.symm.trans (hp.trans hp3))
  · rw [hl2]
    exact ((List.eraseIdx_sublist _ _).map _).nodup hn
  · intro y hy
    rw [hl2] at hy
    exact hold y (List.mem_of_mem_eraseIdx hy)
  · have : (leftOf (es.eraseIdxIfInBounds j) (s0.push e0.born)).toList = (leftOf es (s0.push e0.born)).toList := by
      unfold leftOf
      rw [Array.toList_filter, Array.toList_filter, hl2]
      refine erase_filter h2 ?_
      rw [hee]
      simp
    simp only [kvs] at hl ⊢
    rw [this]
    exact hl
/-- how many are to come -/
def leftN (w : World) (m r : Nat) : Nat := match w.heap[m]?, w.heap[r]? with
  | some (.map es _), some (.mapIter _ _ seen _) => (leftOf es seen).size
  | _, _ => 0
theorem RG.left {r : Nat} {rest : List α} {cur : Option α} (h : RG I w m r L rest cur) : leftN w m r = rest.length := by
  obtain ⟨es, c, s, q, c0, h1, h2, _, _, _, _, _, h3, _⟩ := h
  unfold leftN
  rw [h1, h2]
  simpa [kvs] using h3.length_eq
theorem Only.trans2 {m r : Nat} {a b c : World} (h : Only m a b) (k : Only r b c) (x : Nat) (h1 : x ≠ m) (h2 : x ≠ r) : c.heap[x]? = a.heap[x]? := (k.kept x h2).trans (h.kept x h1)
end
end Go.Proofs.Ytnpffhgmakbdnaa
