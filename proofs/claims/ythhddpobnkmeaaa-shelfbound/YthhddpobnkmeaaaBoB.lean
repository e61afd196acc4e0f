/- The shelf S: of ByteArray and Int. The shelf S: Keys. awake. -/
import Derived.Test.YthhddpobnkmeaaaBoA
namespace Go.Proofs.Ythhddpobnkmeaaa
open Go.RowKit
abbrev ndS (k : ByteArray) (v : Int) (a c : Value) : Obj := .cells #[.string k, .int .i64 v, a, c] 149 (0, 0)
theorem setAS {w : World} {b : Nat} {k v a c} (h : w.heap[b]? = some (ndS k v a c)) (x : Value) : (w.setCell ⟨b, 2, none⟩ x).heap[b]? = some (ndS k v x c) := by unfold World.setCell; simp [Array.getElem?_modify, h]
theorem setBS {w : World} {b : Nat} {k v a c} (h : w.heap[b]? = some (ndS k v a c)) (x : Value) : (w.setCell ⟨b, 3, none⟩ x).heap[b]? = some (ndS k v a x) := by unfold World.setCell; simp [Array.getElem?_modify, h]
def kdS : Kd ByteArray Int where
  nd := ndS
  zk := ⟨#[]⟩
  zv := 0
  kv k := .string k
  ok k := k.size ≤ maxLen
  ia := 2
  sty := 152
  mt := 150
  kt := 9
  et := 147
  map := Try.underlying150
  keyed := Maps.string_keyed Try.underlying9
  zero := fun w => by kernel_rfl
  key := fun k h => ⟨_, WideMaps.keyOf_string_mk Try.underlying9 h⟩
  inj := fun {a b} h => by injection h
  setA := setAS
  setB := setBS
  notS := fun k v a c cs h => by injection h with _ h2; exact absurd h2 (by decide)
  notM := fun k v a c es n h => by cases h
theorem joinS_any {w : World} {a b : Nat} {k v x y k' v' x' y'} (ha : w.heap[a]? = some (ndS k v x y)) (hb : w.heap[b]? = some (ndS k' v' x' y')) :
    Calls Try.prog 57 #[ptr a, ptr b] w fun e w' => e = .returned (.tuple #[]) ∧ w' = joined 2 w a b := by
  have c1 : w.cell? ⟨a, 3, none⟩ = some y := by unfold World.cell?; rw [ha]; rfl
  have f1 : w.frozen? ⟨a, 3, none⟩ = false := by unfold World.frozen?; rw [ha]; rfl
  have hb2 : ∃ y2, (w.setCell ⟨a, 3, none⟩ (ptr b)).heap[b]? = some (ndS k' v' x' y2) := by
    by_cases e : b = a
    · subst e; exact ⟨_, setBS hb _⟩
    · exact ⟨_, (Below.heap_setCell _ _ _ _ e).trans hb⟩
  obtain ⟨y2, hb2⟩ := hb2
  have c2 : (w.setCell ⟨a, 3, none⟩ (ptr b)).cell? ⟨b, 2, none⟩ = some x' := by unfold World.cell?; rw [hb2]; rfl
  have f2 : (w.setCell ⟨a, 3, none⟩ (ptr b)).frozen? ⟨b, 2, none⟩ = false := by unfold World.frozen?; rw [hb2]; rfl
  clear hb2 ha hb
  go_enter Try.func57, Try.ntmps57
  go_wp2
  go_end0
  exact ⟨rfl, rfl⟩

theorem newS_bad (w : World) (n : Int) (h : (decide (n < 0) || decide (1048576 < n)) = true) :
    Calls Try.prog 33 #[.int .i64 n] w fun e w' => e = .returned (.tuple #[.pointer none, .int .i64 1]) ∧ w' = w := by
  cases h1 : decide (n < 0) <;> cases h2 : decide (1048576 < n)
  · simp [h1, h2] at h
  all_goals (
    clear h
    go_enter Try.func33, Try.ntmps33
    go_wp2
    go_ret2
    exact ⟨rfl, rfl⟩)
theorem newS_good (w : World) (n : Int) (k : Nat) (hk : n = k) (hm : k ≤ 1048576) :
    Calls Try.prog 33 #[.int .i64 n] w fun e w' => e = .returned (.tuple #[ptr (w.heap.size + 2), .int .i64 0]) ∧ SH kdS w' (w.heap.size + 2) k (w.heap.size + 1) w.heap.size [] ∧ Below w.heap.size w w' := by
  have h1 : decide (n < 0) = false := by simp; omega
  have h2 : decide (1048576 < n) = false := by simp; omega
  have hmk : ∀ w : World, (Instr.makeMap 150 none).run Try.prog w = .ok (.map (some w.heap.size)) (w.alloc (.map #[] 0)) := fun _ => rfl
  have HF := hid (SH.fresh kdS w k hm)
  rw [← hk] at HF
  clear hk hm
  go_enter Try.func33, Try.ntmps33
  go_wp2
  go_ret2
  exact ⟨rfl, HF.out⟩
theorem getS_some {w : World} {p most m r : Nat} {L : List (Th ByteArray Int)} (h : SH kdS w p most m r L) {t : Th ByteArray Int} (ht : t ∈ L) :
    Calls Try.prog 36 #[ptr p, (fun k : ByteArray => .string k) t.k] w fun e w' => e = .returned (.tuple #[(fun v : Int => .int .i64 v) t.v, .bool true]) ∧ w' = w := by
  have h1 := h.c1
  have h2 : (Instr.lookup 150 (.map (some m)) ((fun k : ByteArray => .string k) t.k) true).run Try.prog w = .ok (.tuple #[ptr t.b, .bool true]) w := h.mp.look_some h.ok h.kd ht
  obtain ⟨a, c, h3⟩ := h.node (List.mem_cons_of_mem _ ht)
  obtain ⟨b, k, v⟩ := t
  have h4 : w.cell? ⟨b, 1, none⟩ = some (.int .i64 v) := by unfold World.cell?; rw [show w.heap[b]? = some (ndS k v a c) from h3]; rfl
  clear h h3
  simp only at h2
  go_enter Try.func36, Try.ntmps36
  go_wp2
  go_ret2
  exact ⟨rfl, rfl⟩
theorem getS_none {w : World} {p most m r : Nat} {L : List (Th ByteArray Int)} (h : SH kdS w p most m r L) (k : ByteArray) (hk : k.size ≤ maxLen) (hn : ∀ t ∈ L, t.k ≠ k) :
    Calls Try.prog 36 #[ptr p, .string k] w fun e w' => e = .returned (.tuple #[(fun v : Int => .int .i64 v) 0, .bool false]) ∧ w' = w := by
  have h1 := h.c1
  have h2 : (Instr.lookup 150 (.map (some m)) (.string k) true).run Try.prog w = .ok (.tuple #[.pointer none, .bool false]) w := h.mp.look_none h.ok hk hn
  clear h hn hk
  go_enter Try.func36, Try.ntmps36
  go_wp2
  go_ret2
  exact ⟨rfl, rfl⟩
theorem lenS_any {w : World} {p most m r : Nat} {L : List (Th ByteArray Int)} (h : SH kdS w p most m r L) :
    Calls Try.prog 38 #[ptr p] w fun e w' => e = .returned (.int .i64 L.length) ∧ w' = w := by
  have h1 := h.c1
  have h2 : ∀ ty, (Builtin.len_ #[150] ty #[.map (some m)]).run Try.prog w = .ok (.int .i64 L.length) w := h.mp.len
  generalize L.length = n at *
  clear h
  go_enter Try.func38, Try.ntmps38
  go_wp2
  go_ret
  exact ⟨rfl, rfl⟩
theorem setVS {w : World} {b : Nat} {k v a c} (h : w.heap[b]? = some (ndS k v a c)) (x : Int) : (w.setCell ⟨b, 1, none⟩ ((fun v : Int => .int .i64 v) x)).heap[b]? = some (ndS k x a c) := by unfold World.setCell; simp [Array.getElem?_modify, h]
theorem putS_some {w : World} {p most m r : Nat} {A B : List (Th ByteArray Int)} {t : Th ByteArray Int} (h : SH kdS w p most m r (A ++ t :: B)) (v : Int) :
    Calls Try.prog 34 #[ptr p, (fun k : ByteArray => .string k) t.k, .int .i64 v] w fun e w' => e = .returned (.int .i64 0) ∧ SH kdS w' p most m r (A ++ ⟨t.b, t.k, v⟩ :: B) ∧ Chg (foot p m r (A ++ t :: B)) (foot p m r (A ++ ⟨t.b, t.k, v⟩ :: B)) w w' := by
  have h1 := h.c1
  have ht : t ∈ A ++ t :: B := by simp
  have h2 : (Instr.lookup 150 (.map (some m)) ((fun k : ByteArray => .string k) t.k) true).run Try.prog w = .ok (.tuple #[ptr t.b, .bool true]) w := h.mp.look_some h.ok h.kd ht
  obtain ⟨a, c, h3⟩ := h.node (List.mem_cons_of_mem _ ht)
  have HS := hid (h.write (w' := w.setCell ⟨t.b, 1, none⟩ (.int .i64 v)) v (fun a c e => setVS (k := t.k) (v := t.v) e v) (fun x hx => Below.heap_setCell _ _ _ _ hx))
  have HC : Hid (Chg (foot p m r (A ++ t :: B)) (foot p m r (A ++ ⟨t.b, t.k, v⟩ :: B)) w (w.setCell ⟨t.b, 1, none⟩ (.int .i64 v))) :=
    ⟨rfl, rfl, rfl, by simp, fun x _ hx => Below.heap_setCell _ _ _ _ (fun e => hx (by simp [show x = t.b from e])), fun x hx => .inl (by simpa using hx)⟩
  obtain ⟨b, k, u⟩ := t
  have h4 : w.cell? ⟨b, 1, none⟩ = some ((fun v : Int => .int .i64 v) u) := by unfold World.cell?; rw [show w.heap[b]? = some (ndS k u a c) from h3]; rfl
  have h5 : w.frozen? ⟨b, 1, none⟩ = false := by unfold World.frozen?; rw [show w.heap[b]? = some (ndS k u a c) from h3]; rfl
  clear h h3 ht
  simp only at h2 HS HC
  go_enter Try.func34, Try.ntmps34
  go_wp2
  go_ret
  exact ⟨rfl, HS.out, HC.out⟩
theorem putS_full {w : World} {p most m r : Nat} {L : List (Th ByteArray Int)} (h : SH kdS w p most m r L) (k : ByteArray) (v : Int) (hk : k.size ≤ maxLen) (hn : ∀ t ∈ L, t.k ≠ k) (hl : L.length = most) :
    Calls Try.prog 34 #[ptr p, .string k, .int .i64 v] w fun e w' => e = .returned (.int .i64 140) ∧ SH kdS w' p most m r L ∧ Chg (foot p m r L) (foot p m r L) w w' := by
  have h1 := h.c1
  have h0 := h.c0
  have h2 : (Instr.lookup 150 (.map (some m)) (.string k) true).run Try.prog w = .ok (.tuple #[.pointer none, .bool false]) w := h.mp.look_none h.ok hk hn
  have h3 : ∀ ty, (Builtin.len_ #[150] ty #[.map (some m)]).run Try.prog w.drew = .ok (.int .i64 most) w.drew := fun ty => by rw [← hl]; exact h.drew.mp.len ty
  have HP : Hid (SH kdS w.drew p most m r L ∧ Chg (foot p m r L) (foot p m r L) w w.drew) := ⟨h.drew, Chg.drew _ _⟩
  generalize hq : (most : Int) = q at h0 h3
  clear h hn hk hl hq
  go_enter Try.func34, Try.ntmps34
  go_wp2
  go_region
  all_goals (
    go_wp2
    go_ret
    exact ⟨rfl, HP.out⟩)
theorem bldS (w : World) (k : ByteArray) (v : Int) : (Instr.build 149 #[(0, .string k), (1, .int .i64 v)]).run Try.prog w = .ok (.agg #[.string k, .int .i64 v, .pointer none, .pointer none]) w := by kernel_rfl
set_option maxRecDepth 4000 in
theorem putS_new {w : World} {p most m r : Nat} {L : List (Th ByteArray Int)} (h : SH kdS w p most m r L) (k : ByteArray) (v : Int) (hk : k.size ≤ maxLen) (hn : ∀ t ∈ L, t.k ≠ k) (hl : L.length < most) :
    Calls Try.prog 34 #[ptr p, .string k, .int .i64 v] w fun e w' => e = .returned (.int .i64 0) ∧ SH kdS w' p most m r (L ++ [⟨w.heap.size, k, v⟩]) ∧ Chg (foot p m r L) (foot p m r (L ++ [⟨w.heap.size, k, v⟩])) w w' := by
  have h1 := h.c1
  have h0 := h.c0
  have h2 : (Instr.lookup 150 (.map (some m)) (.string k) true).run Try.prog w = .ok (.tuple #[.pointer none, .bool false]) w := h.mp.look_none h.ok hk hn
  have h3 : ∀ ty, (Builtin.len_ #[150] ty #[.map (some m)]).run Try.prog w.drew = .ok (.int .i64 L.length) w.drew := h.drew.mp.len
  have h4 : decide ((most : Int) ≤ (L.length : Int)) = false := by simp; omega
  obtain ⟨N, hN⟩ : ∃ N, N = w.heap.size := ⟨_, rfl⟩
  obtain ⟨w1, hw1⟩ : ∃ w1, w.drew.alloc (.cells #[.string k, .int .i64 v, .pointer none, .pointer none] 149) = w1 := ⟨_, rfl⟩
  have a1 : w1.heap[N]? = some (ndS k v (.pointer none) (.pointer none)) := by rw [← hw1, hN]; exact (MapKept.heap_alloc w.drew _).1
  have a2 : ∀ x, x < N → w1.heap[x]? = w.heap[x]? := fun x hx => by rw [← hw1]; exact Below.heap_alloc w.drew _ _ (show x < w.heap.size by rw [← hN]; exact hx)
  have a3 : w1.heap.size = N + 1 := by rw [← hw1, hN]; simp
  have hpN : p < N := by rw [hN]; exact h.lt p (by simp)
  have m1 : MP kdS w1 m L := h.mp.kept (a2 m (by rw [hN]; exact h.lt m (by simp)))
  obtain ⟨w2, b1, b2, b3, b4, b5, b6, b7⟩ := m1.store h.ok hk hn N v
  obtain ⟨s1, s2, ⟨c1, c2, c3, ⟨_, _, _, _, c4⟩, c5⟩, ⟨d1, ⟨_, _, _, _, d2⟩, ⟨_, _, _, _, d3⟩⟩⟩ := h.add hk hn hl hN a3 a1 a2 (by rw [← hw1]; exact ⟨rfl, rfl, rfl⟩) b2 b7 b6 ⟨b3, b4, b5⟩
  have x1 : w1.cell? ⟨p, 1, none⟩ = some (.map (some m)) := (World.cell?_of_block (a := ⟨p, 1, none⟩) (a2 p hpN)).trans h1
  have x2 : w2.cell? ⟨p, 2, none⟩ = some (ptr r) := (World.cell?_of_block (a := ⟨p, 2, none⟩) c1).trans h.c2
  have x3 : w2.cell? ⟨r, 2, none⟩ = some (ptr (lastOf r (bs L))) := by unfold World.cell?; rw [c2, show w.heap[r]? = some (ndS _ _ _ _) from h.ring]; rfl
  have x4 : (joined 2 w2 (lastOf r (bs L)) N).cell? ⟨p, 2, none⟩ = some (ptr r) := (World.cell?_of_block (a := ⟨p, 2, none⟩) d1).trans h.c2
  have J1 := hid (joinS_any (w := w2) c4 c3)
  have J2 := hid (joinS_any (w := joined 2 w2 (lastOf r (bs L)) N) d2 d3)
  have HP := hid (And.intro s1 s2)
  change Hid (SH kdS (joined 2 (joined 2 w2 (lastOf r (bs L)) N) N r) p most m r (L ++ [⟨N, k, v⟩]) ∧ Chg (foot p m r L) (foot p m r (L ++ [⟨N, k, v⟩])) w (joined 2 (joined 2 w2 (lastOf r (bs L)) N) N r)) at HP
  have b1' : (Instr.mapUpdate 150 (.map (some m)) (.string k) (ptr N)).run Try.prog w1 = .ok () w2 := b1
  generalize hw4 : joined 2 (joined 2 w2 (lastOf r (bs L)) N) N r = w4 at *
  generalize hw3 : joined 2 w2 (lastOf r (bs L)) N = w3 at *
  generalize lastOf r (bs L) = x at *
  generalize hL : (L.length : Int) = n at *
  generalize hq : (most : Int) = q at *
  rw [← hN]
  have HN := hid hN
  have hN' := hN.symm
  clear h hn hk hl hq hL a1 a2 a3 m1 b1 b2 b3 b4 b5 b6 b7 s1 s2 c1 c2 c3 c4 c5 d1 d2 d3 hpN hN hw3 hw4
  go_enter Try.func34, Try.ntmps34
  go_wp2
  go_region
  go_wp2_with fail
  refine J1.out.mono ?_
  rintro _ _ ⟨rfl, rfl⟩
  go_wp2_with fail
  refine J2.out.mono ?_
  rintro _ _ ⟨rfl, rfl⟩
  go_wp2
  go_ret
  exact ⟨rfl, HP.out⟩
theorem dropS_none {w : World} {p most m r : Nat} {L : List (Th ByteArray Int)} (h : SH kdS w p most m r L) (k : ByteArray) (hk : k.size ≤ maxLen) (hn : ∀ t ∈ L, t.k ≠ k) :
    Calls Try.prog 37 #[ptr p, .string k] w fun e w' => e = .returned (.int .i64 141) ∧ w' = w := by
  have h1 := h.c1
  have h2 : (Instr.lookup 150 (.map (some m)) (.string k) true).run Try.prog w = .ok (.tuple #[.pointer none, .bool false]) w := h.mp.look_none h.ok hk hn
  clear h hn hk
  go_enter Try.func37, Try.ntmps37
  go_wp2
  go_ret
  exact ⟨rfl, rfl⟩
set_option maxRecDepth 4000 in
theorem dropS_some {w : World} {p most m r : Nat} {A B : List (Th ByteArray Int)} {t : Th ByteArray Int} (h : SH kdS w p most m r (A ++ t :: B)) :
    Calls Try.prog 37 #[ptr p, (fun k : ByteArray => .string k) t.k] w fun e w' => e = .returned (.int .i64 0) ∧ SH kdS w' p most m r (A ++ B) ∧ Chg (foot p m r (A ++ t :: B)) (foot p m r (A ++ B)) w w' := by
  have h1 := h.c1
  have ht : t ∈ A ++ t :: B := by simp
  have h2 : (Instr.lookup 150 (.map (some m)) ((fun k : ByteArray => .string k) t.k) true).run Try.prog w = .ok (.tuple #[ptr t.b, .bool true]) w := h.mp.look_some h.ok h.kd ht
  obtain ⟨w1, b1, b2, b3, b4, b5, b6, b7⟩ := h.mp.drop h.ok h.kd 0
  obtain ⟨s1, s2, c1, ⟨_, _, _, _, c2⟩, ⟨_, _, _, _, c3⟩⟩ := h.less (w1 := w1.drew) b2 b7 b6 ⟨b3, b4, b5⟩
  have HP := hid (And.intro s1 s2)
  change Hid (SH kdS (joined 2 w1.drew (lastOf r (bs A)) (headOf (bs B) r)) p most m r (A ++ B) ∧ Chg (foot p m r (A ++ t :: B)) (foot p m r (A ++ B)) w (joined 2 w1.drew (lastOf r (bs A)) (headOf (bs B) r))) at HP
  have J := hid (joinS_any (w := w1.drew) c2 c3)
  have x1 : w1.cell? ⟨t.b, 2, none⟩ = some (ptr (lastOf r (bs A))) := by unfold World.cell?; rw [show w1.heap[t.b]? = some (ndS _ _ _ _) from c1]; rfl
  have x2 : w1.cell? ⟨t.b, 3, none⟩ = some (ptr (headOf (bs B) r)) := by unfold World.cell?; rw [show w1.heap[t.b]? = some (ndS _ _ _ _) from c1]; rfl
  have b1' : (Builtin.delete_ #[150, 9] 0 #[.map (some m), (fun k : ByteArray => .string k) t.k]).run Try.prog w = .ok (.tuple #[]) w1 := b1
  generalize hw4 : joined 2 w1.drew (lastOf r (bs A)) (headOf (bs B) r) = w4 at *
  generalize lastOf r (bs A) = x at *
  generalize headOf (bs B) r = y at *
  obtain ⟨b, k, u⟩ := t
  simp only at h2 HP x1 x2 b1'
  clear h ht b1 b2 b3 b4 b5 b6 b7 s1 s2 c1 c2 c3 hw4
  go_enter Try.func37, Try.ntmps37
  go_wp2_with fail
  go_region_with (first | (go_at_call 57; refine J.out.mono ?_; rintro _ _ ⟨rfl, rfl⟩))
  all_goals (
    go_wp2
    go_ret
    exact ⟨rfl, HP.out⟩)
end Go.Proofs.Ythhddpobnkmeaaa
namespace Go.Proofs.Ythhddpobnkmeaaa
open Go.RowKit
def kcS (k : ByteArray) : List Value := [.string k]
def kcsS (l : List ByteArray) : List Value := l.flatMap kcS
theorem kinfoS : ∃ i : TypeInfo, Try.prog.info? 9 = some i ∧ i.zero = some ((fun k : ByteArray => .string k) ⟨#[]⟩) ∧ i.size = 1 ∧ i.bytes = 16 :=
  ⟨(Try.prog.info? 9).getD default, by kernel_rfl, by kernel_rfl, by kernel_rfl, by kernel_rfl⟩
theorem kcsS_one (l : List ByteArray) : ∀ u ∈ kcsS l, u.oneCell' = true := by
  intro u hu
  obtain ⟨k, _, hk⟩ := List.mem_flatMap.1 hu
  simp [kcS] at hk
  rcases hk with rfl <;> rfl
theorem kcsS_len (l : List ByteArray) : (kcsS l).length = l.length * 1 := by
  induction l with
  | nil => rfl
  | cons t ts ih => simp [kcsS, kcS] at ih ⊢; try omega
/-- a list of keys, grown by one: where its block lies -/
theorem kappS {w : World} {B n : Nat} {v : Value} {xs : List Value} (h : w.ownsRow B 9 1 v n xs) (hB : B ≤ w.heap.size) (k : ByteArray) {N : Nat} (hb : w.heap[N]? = some (.cells #[.string k] 9 (0, 0))) (hn : n ≤ 100000000000) :
    ∃ g cap w', (∀ ty, (Builtin.append_ #[53, 53] ty #[v, .slice (some ⟨N, 0, none⟩) 1 1]).run Try.prog w = .ok (.slice (some ⟨g, 0, none⟩) (n + 1) cap) w') ∧ w'.ownsRow B 9 1 (.slice (some ⟨g, 0, none⟩) (n + 1) cap) (n + 1) (xs ++ kcS k) ∧ w.grownBy w' v.ownBlock ∧ (v.ownBlock = some g ∨ g = w.heap.size) ∧ g < w'.heap.size := by
  obtain ⟨i, hi, hz, hs, hby⟩ := kinfoS
  obtain ⟨g, cap, w', hr, ho, hg, hat, hlt⟩ := run_append_lies (P := Try.prog) w 53 0 B 9 i _ 1 16 Try.underlying53 hi hz hs hby rfl (by decide) v n xs h ⟨N, 0, none⟩ 1 1 (kcS k) rfl (World.news_of_block hb) (fun u hu => kcsS_one [k] u (by simpa [kcsS] using hu)) (by omega) (by unfold maxLen; omega) (by omega) hB w.heap.size rfl
  exact ⟨g, cap, w', fun ty => hr, ho, hg, hat, hlt⟩
def KRS (w : World) (r B n : Nat) (L : List (Th ByteArray Int)) (j x g cap : Nat) (wr : World) : Prop :=
  j ≤ n ∧ (r :: bs L)[j]? = some x ∧ wr.ownsRow B 9 1 (.slice (some ⟨g, 0, none⟩) j cap) j (kcsS ((L.take j).map Th.k)) ∧ Below B w wr
theorem keysS_any {w : World} {p most m r : Nat} {L : List (Th ByteArray Int)} (h : SH kdS w p most m r L) :
    Calls Try.prog 35 #[ptr p] w fun e w' => ∃ g cap, e = .returned (.slice (some ⟨g, 0, none⟩) L.length cap) ∧ w'.ownsRow w.heap.size 9 1 (.slice (some ⟨g, 0, none⟩) L.length cap) L.length (kcsS (L.map Th.k)) ∧ Below w.heap.size w w' := by
  obtain ⟨i, hi, hz, hs, hby⟩ := kinfoS
  have h20 := h.m20
  have hll := h.len
  obtain ⟨w0, m1, m2, m3⟩ := run_make_own (P := Try.prog) w w.heap.size 53 9 i _ 1 Try.underlying53 hi hz hs .i64 .i64 L.length (by rw [hby]; omega) (by unfold maxLen; omega) (Nat.le_refl _)
  have B0 : Below w.heap.size w w0 := ⟨m3.os, m3.tape, m3.output, m3.size, fun k hk => m3.block k hk (by simp)⟩
  have h1 := h.c1
  have h2 : ∀ ty, (Builtin.len_ #[150] ty #[.map (some m)]).run Try.prog w = .ok (.int .i64 L.length) w := h.mp.len
  have h3 : ∀ ty, (Builtin.len_ #[150] ty #[.map (some m)]).run Try.prog w0 = .ok (.int .i64 L.length) w0 := (h.below B0).mp.len
  have h4 := (h.below B0).c1
  have h5 := (h.below B0).c2
  obtain ⟨n, hn⟩ : ∃ n, n = L.length := ⟨_, rfl⟩
  obtain ⟨B, hB⟩ : ∃ B, B = w.heap.size := ⟨_, rfl⟩
  have HH := hid h
  have HB0 := hid B0
  have HO := hid m2
  have HL : Hid (n = L.length ∧ n ≤ 1048576) := ⟨hn, by omega⟩
  have HB := hid hB
  rw [← hn] at h2 h3 m1 HO ⊢
  rw [← hB] at HO m1 HB0 ⊢
  clear h h20 hll hi hz hs hby m2 m3 B0 hn hB
  go_enter Try.func35, Try.ntmps35
  go_wp2
  go_loopw [3, 4, 20] (fun v t i wr => ∃ j x g cap : Nat, i = .int .i64 j ∧ t = ptr x ∧ v = .slice (some ⟨g, 0, none⟩) j cap ∧ KRS w r B n L j x g cap wr) (fun _ _ i _ => n - (intOf i).toNat)
  case atStart => exact ⟨0, r, B, n, rfl, rfl, rfl, by omega, rfl, HO.out, HB0.out⟩
  case round =>
    obtain ⟨j, x, g, cap, rfl, rfl, rfl, e1, e2, e3, e4⟩ := hrel
    obtain ⟨hnL, hn20⟩ := HL.out
    by_cases hlt : j < n
    · have hj' : (j : Int) < (n : Int) := by omega
      have hjL : j < L.length := by omega
      have hBw := HB.out
      obtain ⟨⟨k0, v0, a0, n1⟩, a2, c2, n2⟩ := (HH.out.below (hBw ▸ e4)).next e2 (List.getElem?_eq_getElem hjL)
      have hbs : B ≤ wr.heap.size := by rw [hBw]; exact e4.size
      have x1 : wr.cell? ⟨x, 3, none⟩ = some (ptr (L[j]'hjL).b) := by unfold World.cell?; rw [show wr.heap[x]? = some (ndS _ _ _ _) from n1]; rfl
      have n2' : wr.heap[(L[j]'hjL).b]? = some (ndS (L[j]'hjL).k (L[j]'hjL).v a2 c2) := n2
      obtain ⟨w1, hw1⟩ : ∃ w1, wr.alloc (.cells ((fun k : ByteArray => #[.string k]) (L[j]'hjL).k) 9) = w1 := ⟨_, rfl⟩
      have B1 : Below B w w1 := by rw [← hw1]; exact e4.alloc hbs _
      obtain ⟨N, hN⟩ : ∃ N, wr.heap.size = N := ⟨_, rfl⟩
      obtain ⟨g', cap', w2, hap, ho, hg, hat, hl2⟩ := kappS (w := w1) (B := B) (n := j) (v := .slice (some ⟨g, 0, none⟩) j cap) (by rw [← hw1]; exact own_block e3 (fun b hb => by cases hb; exact Below.heap_alloc _ _ _ (e3.lt g rfl).2)) (by rw [← hw1]; simp; omega) (L[j]'hjL).k (N := N) (by rw [← hw1, ← hN]; exact (MapKept.heap_alloc wr _).1) (by omega)
      have HR : Hid (KRS w r B n L (j + 1) (L[j]'hjL).b g' cap' w2) := by
        refine ⟨hlt, by simp [hjL], ?_, B1.grown hg (by rw [← hw1]; simp; omega) (fun k hk => ?_)⟩
        · rw [List.take_add_one, List.getElem?_eq_getElem hjL]
          simp only [Option.toList_some, List.map_append, List.map_cons, List.map_nil]
          rw [show kcsS (List.map Th.k (L.take j) ++ [(L[j]'hjL).k]) = kcsS (List.map Th.k (L.take j)) ++ kcS (L[j]'hjL).k by simp [kcsS]]
          exact ho
        · cases hk
          exact (e3.lt g rfl).1
      have hwr : wrap64 ((j : Int) + 1) = (j : Int) + 1 := by unfold wrap64; omega
      generalize (L[j]'hjL) = t at *
      obtain ⟨b, k, v⟩ := t
      simp only at x1 n2' hw1 HR
      have x2 : wr.cell? ⟨b, 0, none⟩ = some (.string k) := by unfold World.cell?; rw [n2']; rfl
      clear n1 n2 n2' e1 e2 e3 e4 hbs B1 ho hg hat hl2 hBw hnL hn20 hjL hlt
      go_wp2_with (at_builtin; refine Hid.out ?_)
      refine (show Hid _ from ?_)
      refine wpList_app rfl _ _ 53 rfl _ _ _ _ rfl rfl (hap _) ?_
      go_wp2
      go_roundw
      case rel => exact ⟨j + 1, _, _, _, by rw [hwr]; rfl, rfl, rfl, HR.out⟩
      case measure => exact meas hwr hj'
    · obtain rfl : j = n := by omega
      have HR : Hid (wr.ownsRow B 9 1 (.slice (some ⟨g, 0, none⟩) j cap) j (kcsS (L.map Th.k)) ∧ Below B w wr) := by
        rw [List.take_of_length_le (by omega)] at e3
        exact ⟨e3, e4⟩
      clear e1 e2 e3 e4 hnL hn20 hlt HL HH HB0 HO
      go_wp2
      go_ret
      exact ⟨_, _, rfl, HR.out⟩
end Go.Proofs.Ythhddpobnkmeaaa
namespace Go.Proofs.Ythhddpobnkmeaaa
open Go.RowKit
abbrev sA : ByteArray := ⟨#[97]⟩
abbrev sB : ByteArray := ⟨#[98]⟩
abbrev sC : ByteArray := ⟨#[99]⟩
theorem ok_of (s : ByteArray) (h : s.size ≤ 100) : kdS.ok s := by show s.size ≤ maxLen; unfold maxLen; omega
set_option maxRecDepth 8000 in
theorem awake_any (w : World) : Calls Try.prog 7 #[] w fun e w' => e = .returned (.bool true) ∧ Below w.heap.size w w' := by
  obtain ⟨r, hr⟩ : ∃ r, r = w.heap.size := ⟨_, rfl⟩
  have HQ := hid hr
  rw [← hr]
  go_enter Try.func7, Try.ntmps7
  go_wp2_with fail
  refine (newS_good w 2 2 rfl (by omega)).mono ?_
  rw [← hr]
  rintro _ w1 ⟨rfl, h1, c1⟩
  have O1 : Hid (OS kdS r w w1 (r + 2) 2 (r + 1) r []) := ⟨h1, c1, by simp, by rw [hr]; exact c1.size⟩
  generalize r + 2 = p at *
  generalize r + 1 = m at *
  clear h1 c1 hr
  go_wp2_with fail
  refine (newS_bad w1 (-1) (by decide)).mono ?_
  rintro _ _ ⟨rfl, rfl⟩
  go_wp2_with fail
  -- Put(a, 1)
  refine (putS_new O1.out.sh sA 1 (ok_of _ (by decide)) (by simp) (by simp)).mono ?_
  rintro _ w2 ⟨rfl, h1, c1⟩
  have O2 := hid (O1.out.step h1 c1)
  clear h1 c1 O1
  go_wp2_with fail
  -- Put(b, 2)
  refine (putS_new O2.out.sh sB 2 (ok_of _ (by decide)) (by simp) (by simp)).mono ?_
  rintro _ w3 ⟨rfl, h1, c1⟩
  have O3 := hid (O2.out.step h1 c1)
  clear h1 c1 O2
  simp only [List.nil_append, List.cons_append] at O3
  obtain ⟨b1, b2, O3⟩ : ∃ b1 b2, Hid (OS kdS r w w3 p 2 m r [⟨b1, sA, 1⟩, ⟨b2, sB, 2⟩]) := ⟨_, _, O3⟩
  go_wp2_with fail
  -- Put(c, 3)
  refine (putS_full O3.out.sh sC 3 (ok_of _ (by decide)) (by simp) (by simp)).mono ?_
  rintro _ w4 ⟨rfl, h1, c1⟩
  have O4 := hid (O3.out.step h1 c1)
  clear h1 c1
  go_wp2_with fail
  -- Put(a, 9)
  refine (putS_some (A := []) (t := ⟨b1, sA, 1⟩) (B := [⟨b2, sB, 2⟩]) O4.out.sh 9).mono ?_
  rintro _ w5 ⟨rfl, h1, c1⟩
  have O5 := hid (O4.out.step h1 c1)
  clear h1 c1
  simp only [List.nil_append] at O5
  go_wp2_with fail
  -- Keys
  refine (keysS_any O5.out.sh).mono ?_
  rintro _ w6 ⟨g, cap, rfl, k1, c1⟩
  have O6 := hid (O5.out.below c1)
  have x0 : w6.cell? ⟨g, 0, none⟩ = some (.string ⟨#[97]⟩) := k1.cells (g := g) rfl 0 _ rfl
  have x1 : w6.cell? ⟨g, 1, none⟩ = some (.string ⟨#[98]⟩) := k1.cells (g := g) rfl 1 _ rfl
  simp only [List.length_cons, List.length_nil]
  have HG : Hid (g < w6.heap.size ∧ g ∉ foot p m r [⟨b1, sA, 9⟩, ⟨b2, sB, 2⟩]) := ⟨(k1.lt g rfl).2, fun e => by have := (k1.lt g rfl).1; have := O5.out.sh.lt g e; omega⟩
  clear c1 k1
  go_wp2_with fail
  -- Get(a), Get(c)
  refine (getS_some O6.out.sh (t := ⟨b1, sA, 9⟩) (by simp)).mono ?_
  rintro _ _ ⟨rfl, rfl⟩
  go_wp2_with fail
  refine (getS_none O6.out.sh sC (ok_of _ (by decide)) (by simp)).mono ?_
  rintro _ _ ⟨rfl, rfl⟩
  go_wp2_with fail
  -- Drop(a), Drop(a)
  refine (dropS_some (A := []) (t := ⟨b1, sA, 9⟩) (B := [⟨b2, sB, 2⟩]) O6.out.sh).mono ?_
  rintro _ w7 ⟨rfl, h1, c1⟩
  have O7 := hid (O6.out.step h1 c1)
  have y0 : w7.cell? ⟨g, 0, none⟩ = some (.string ⟨#[97]⟩) := (World.cell?_of_block (a := ⟨g, 0, none⟩) (c1.kept g HG.out.1 HG.out.2)).trans x0
  have y1 : w7.cell? ⟨g, 1, none⟩ = some (.string ⟨#[98]⟩) := (World.cell?_of_block (a := ⟨g, 1, none⟩) (c1.kept g HG.out.1 HG.out.2)).trans x1
  clear h1 c1 x0 x1
  simp only [List.nil_append] at O7
  go_wp2_with fail
  refine (dropS_none O7.out.sh sA (ok_of _ (by decide)) (by simp)).mono ?_
  rintro _ _ ⟨rfl, rfl⟩
  go_wp2_with fail
  -- Len
  refine (lenS_any O7.out.sh).mono ?_
  rintro _ _ ⟨rfl, rfl⟩
  have HB := hid O7.out.be
  go_wp2
  go_ret
  exact ⟨rfl, HB.out⟩
end Go.Proofs.Ythhddpobnkmeaaa
