/- The shelf S: of ByteArray and Int. -/
import Derived.Test.YtkkamilmjaochaaPAb
namespace Go.Proofs.Ytkkamilmjaochaa
open Go.RowKit
abbrev ndS (k : ByteArray) (v : Int) (a c : Value) : Obj := .cells #[.string k, .int .i64 v, a, c] 149 (0, 0)
theorem setAS {w : World} {b : Nat} {k v a c} (h : w.heap[b]? = some (ndS k v a c)) (x : Value) : (w.setCell ⟨b, 2, none⟩ x).heap[b]? = some (ndS k v x c) := by unfold World.setCell; simp [Array.getElem?_modify, h]
theorem setBS {w : World} {b : Nat} {k v a c} (h : w.heap[b]? = some (ndS k v a c)) (x : Value) : (w.setCell ⟨b, 3, none⟩ x).heap[b]? = some (ndS k v a x) := by unfold World.setCell; simp [Array.getElem?_modify, h]
def kdS : Kd ByteArray Int where
  nd := ndS
  zk := ⟨#[]⟩
  zv := 0
  kv k := .string k
  ok k := k.size ≤ maxLen
  ia := 2
  sty := 152
  mt := 150
  kt := 9
  et := 147
  map := Try.underlying150
  keyed := Maps.string_keyed Try.underlying9
  zero := fun w => by kernel_rfl
  key := fun k h => ⟨_, WideMaps.keyOf_string_mk Try.underlying9 h⟩
  inj := fun {a b} h => by injection h
  setA := setAS
  setB := setBS
  notS := fun k v a c cs h => by injection h with _ h2; exact absurd h2 (by decide)
  notM := fun k v a c es n h => by cases h
theorem joinS_any {w : World} {a b : Nat} {k v x y k' v' x' y'} (ha : w.heap[a]? = some (ndS k v x y)) (hb : w.heap[b]? = some (ndS k' v' x' y')) :
    Calls Try.prog 57 #[ptr a, ptr b] w fun e w' => e = .returned (.tuple #[]) ∧ w' = joined 2 w a b := by
  have c1 : w.cell? ⟨a, 3, none⟩ = some y := by unfold World.cell?; rw [ha]; rfl
  have f1 : w.frozen? ⟨a, 3, none⟩ = false := by unfold World.frozen?; rw [ha]; rfl
  have hb2 : ∃ y2, (w.setCell ⟨a, 3, none⟩ (ptr b)).heap[b]? = some (ndS k' v' x' y2) := by
    by_cases e : b = a
    · subst e; exact ⟨_, setBS hb _⟩
    · exact ⟨_, (Below.heap_setCell _ _ _ _ e).trans hb⟩
  obtain ⟨y2, hb2⟩ := hb2
  have c2 : (w.setCell ⟨a, 3, none⟩ (ptr b)).cell? ⟨b, 2, none⟩ = some x' := by unfold World.cell?; rw [hb2]; rfl
  have f2 : (w.setCell ⟨a, 3, none⟩ (ptr b)).frozen? ⟨b, 2, none⟩ = false := by unfold World.frozen?; rw [hb2]; rfl
  clear hb2 ha hb
  go_enter Try.func57, Try.ntmps57
  go_wp2
  go_end0
  exact ⟨rfl, rfl⟩

theorem newS_bad (w : World) (n : Int) (h : (decide (n < 0) || decide (1048576 < n)) = true) :
    Calls Try.prog 33 #[.int .i64 n] w fun e w' => e = .returned (.tuple #[.pointer none, .int .i64 1]) ∧ w' = w := by
  cases h1 : decide (n < 0) <;> cases h2 : decide (1048576 < n)
  · simp [h1, h2] at h
  all_goals (
    clear h
    go_enter Try.func33, Try.ntmps33
    go_wp2
    go_ret2
    exact ⟨rfl, rfl⟩)
theorem newS_good (w : World) (n : Int) (k : Nat) (hk : n = k) (hm : k ≤ 1048576) :
    Calls Try.prog 33 #[.int .i64 n] w fun e w' => e = .returned (.tuple #[ptr (w.heap.size + 2), .int .i64 0]) ∧ SH kdS w' (w.heap.size + 2) k (w.heap.size + 1) w.heap.size [] ∧ Below w.heap.size w w' := by
  have h1 : decide (n < 0) = false := by simp; omega
  have h2 : decide (1048576 < n) = false := by simp; omega
  have hmk : ∀ w : World, (Instr.makeMap 150 none).run Try.prog w = .ok (.map (some w.heap.size)) (w.alloc (.map #[] 0)) := fun _ => rfl
  have HF := hid (SH.fresh kdS w k hm)
  rw [← hk] at HF
  clear hk hm
  go_enter Try.func33, Try.ntmps33
  go_wp2
  go_ret2
  exact ⟨rfl, HF.out⟩
theorem getS_some {w : World} {p most m r : Nat} {L : List (Th ByteArray Int)} (h : SH kdS w p most m r L) {t : Th ByteArray Int} (ht : t ∈ L) :
    Calls Try.prog 36 #[ptr p, (fun k : ByteArray => .string k) t.k] w fun e w' => e = .returned (.tuple #[(fun v : Int => .int .i64 v) t.v, .bool true]) ∧ w' = w := by
  have h1 := h.c1
  have h2 : (Instr.lookup 150 (.map (some m)) ((fun k : ByteArray => .string k) t.k) true).run Try.prog w = .ok (.tuple #[ptr t.b, .bool true]) w := h.mp.look_some h.ok h.kd ht
  obtain ⟨a, c, h3⟩ := h.node (List.mem_cons_of_mem _ ht)
  obtain ⟨b, k, v⟩ := t
  have h4 : w.cell? ⟨b, 1, none⟩ = some (.int .i64 v) := by unfold World.cell?; rw [show w.heap[b]? = some (ndS k v a c) from h3]; rfl
  clear h h3
  simp only at h2
  go_enter Try.func36, Try.ntmps36
  go_wp2
  go_ret2
  exact ⟨rfl, rfl⟩
theorem getS_none {w : World} {p most m r : Nat} {L : List (Th ByteArray Int)} (h : SH kdS w p most m r L) (k : ByteArray) (hk : k.size ≤ maxLen) (hn : ∀ t ∈ L, t.k ≠ k) :
    Calls Try.prog 36 #[ptr p, .string k] w fun e w' => e = .returned (.tuple #[(fun v : Int => .int .i64 v) 0, .bool false]) ∧ w' = w := by
  have h1 := h.c1
  have h2 : (Instr.lookup 150 (.map (some m)) (.string k) true).run Try.prog w = .ok (.tuple #[.pointer none, .bool false]) w := h.mp.look_none h.ok hk hn
  clear h hn hk
  go_enter Try.func36, Try.ntmps36
  go_wp2
  go_ret2
  exact ⟨rfl, rfl⟩
theorem lenS_any {w : World} {p most m r : Nat} {L : List (Th ByteArray Int)} (h : SH kdS w p most m r L) :
    Calls Try.prog 38 #[ptr p] w fun e w' => e = .returned (.int .i64 L.length) ∧ w' = w := by
  have h1 := h.c1
  have h2 : ∀ ty, (Builtin.len_ #[150] ty #[.map (some m)]).run Try.prog w = .ok (.int .i64 L.length) w := h.mp.len
  generalize L.length = n at *
  clear h
  go_enter Try.func38, Try.ntmps38
  go_wp2
  go_ret
  exact ⟨rfl, rfl⟩
theorem setVS {w : World} {b : Nat} {k v a c} (h : w.heap[b]? = some (ndS k v a c)) (x : Int) : (w.setCell ⟨b, 1, none⟩ ((fun v : Int => .int .i64 v) x)).heap[b]? = some (ndS k x a c) := by unfold World.setCell; simp [Array.getElem?_modify, h]
theorem putS_some {w : World} {p most m r : Nat} {A B : List (Th ByteArray Int)} {t : Th ByteArray Int} (h : SH kdS w p most m r (A ++ t :: B)) (v : Int) :
    Calls Try.prog 34 #[ptr p, (fun k : ByteArray => .string k) t.k, .int .i64 v] w fun e w' => e = .returned (.int .i64 0) ∧ SH kdS w' p most m r (A ++ ⟨t.b, t.k, v⟩ :: B) ∧ Chg (foot p m r (A ++ t :: B)) (foot p m r (A ++ ⟨t.b, t.k, v⟩ :: B)) w w' := by
  have h1 := h.c1
  have ht : t ∈ A ++ t :: B := by simp
  have h2 : (Instr.lookup 150 (.map (some m)) ((fun k : ByteArray => .string k) t.k) true).run Try.prog w = .ok (.tuple #[ptr t.b, .bool true]) w := h.mp.look_some h.ok h.kd ht
  obtain ⟨a, c, h3⟩ := h.node (List.mem_cons_of_mem _ ht)
  have HS := hid (h.write (w' := w.setCell ⟨t.b, 1, none⟩ (.int .i64 v)) v (fun a c e => setVS (k := t.k) (v := t.v) e v) (fun x hx => Below.heap_setCell _ _ _ _ hx))
  have HC : Hid (Chg (foot p m r (A ++ t :: B)) (foot p m r (A ++ ⟨t.b, t.k, v⟩ :: B)) w (w.setCell ⟨t.b, 1, none⟩ (.int .i64 v))) :=
    ⟨rfl, rfl, rfl, by simp, fun x _ hx => Below.heap_setCell _ _ _ _ (fun e => hx (by simp [show x = t.b from e])), fun x hx => .inl (by simpa using hx)⟩
  obtain ⟨b, k, u⟩ := t
  have h4 : w.cell? ⟨b, 1, none⟩ = some ((fun v : Int => .int .i64 v) u) := by unfold World.cell?; rw [show w.heap[b]? = some (ndS k u a c) from h3]; rfl
  have h5 : w.frozen? ⟨b, 1, none⟩ = false := by unfold World.frozen?; rw [show w.heap[b]? = some (ndS k u a c) from h3]; rfl
  clear h h3 ht
  simp only at h2 HS HC
  go_enter Try.func34, Try.ntmps34
  go_wp2
  go_ret
  exact ⟨rfl, HS.out, HC.out⟩
theorem putS_full {w : World} {p most m r : Nat} {L : List (Th ByteArray Int)} (h : SH kdS w p most m r L) (k : ByteArray) (v : Int) (hk : k.size ≤ maxLen) (hn : ∀ t ∈ L, t.k ≠ k) (hl : L.length = most) :
    Calls Try.prog 34 #[ptr p, .string k, .int .i64 v] w fun e w' => e = .returned (.int .i64 140) ∧ SH kdS w' p most m r L ∧ Chg (foot p m r L) (foot p m r L) w w' := by
  have h1 := h.c1
  have h0 := h.c0
  have h2 : (Instr.lookup 150 (.map (some m)) (.string k) true).run Try.prog w = .ok (.tuple #[.pointer none, .bool false]) w := h.mp.look_none h.ok hk hn
  have h3 : ∀ ty, (Builtin.len_ #[150] ty #[.map (some m)]).run Try.prog w.drew = .ok (.int .i64 most) w.drew := fun ty => by rw [← hl]; exact h.drew.mp.len ty
  have HP : Hid (SH kdS w.drew p most m r L ∧ Chg (foot p m r L) (foot p m r L) w w.drew) := ⟨h.drew, Chg.drew _ _⟩
  generalize hq : (most : Int) = q at h0 h3
  clear h hn hk hl hq
  go_enter Try.func34, Try.ntmps34
  go_wp2
  go_region
  all_goals (
    go_wp2
    go_ret
    exact ⟨rfl, HP.out⟩)
theorem bldS (w : World) (k : ByteArray) (v : Int) : (Instr.build 149 #[(0, .string k), (1, .int .i64 v)]).run Try.prog w = .ok (.agg #[.string k, .int .i64 v, .pointer none, .pointer none]) w := by kernel_rfl
set_option maxRecDepth 4000 in
theorem putS_new {w : World} {p most m r : Nat} {L : List (Th ByteArray Int)} (h : SH kdS w p most m r L) (k : ByteArray) (v : Int) (hk : k.size ≤ maxLen) (hn : ∀ t ∈ L, t.k ≠ k) (hl : L.length < most) :
    Calls Try.prog 34 #[ptr p, .string k, .int .i64 v] w fun e w' => e = .returned (.int .i64 0) ∧ SH kdS w' p most m r (L ++ [⟨w.heap.size, k, v⟩]) ∧ Chg (foot p m r L) (foot p m r (L ++ [⟨w.heap.size, k, v⟩])) w w' := by
  have h1 := h.c1
  have h0 := h.c0
  have h2 : (Instr.lookup 150 (.map (some m)) (.string k) true).run Try.prog w = .ok (.tuple #[.pointer none, .bool false]) w := h.mp.look_none h.ok hk hn
  have h3 : ∀ ty, (Builtin.len_ #[150] ty #[.map (some m)]).run Try.prog w.drew = .ok (.int .i64 L.length) w.drew := h.drew.mp.len
  have h4 : decide ((most : Int) ≤ (L.length : Int)) = false := by simp; omega
  obtain ⟨N, hN⟩ : ∃ N, N = w.heap.size := ⟨_, rfl⟩
  obtain ⟨w1, hw1⟩ : ∃ w1, w.drew.alloc (.cells #[.string k, .int .i64 v, .pointer none, .pointer none] 149) = w1 := ⟨_, rfl⟩
  have a1 : w1.heap[N]? = some (ndS k v (.pointer none) (.pointer none)) := by rw [← hw1, hN]; exact (MapKept.heap_alloc w.drew _).1
  have a2 : ∀ x, x < N → w1.heap[x]? = w.heap[x]? := fun x hx => by rw [← hw1]; exact Below.heap_alloc w.drew _ _ (show x < w.heap.size by rw [← hN]; exact hx)
  have a3 : w1.heap.size = N + 1 := by rw [← hw1, hN]; simp
  have hpN : p < N := by rw [hN]; exact h.lt p (by simp)
  have m1 : MP kdS w1 m L := h.mp.kept (a2 m (by rw [hN]; exact h.lt m (by simp)))
  obtain ⟨w2, b1, b2, b3, b4, b5, b6, b7⟩ := m1.store h.ok hk hn N v
  obtain ⟨s1, s2, ⟨c1, c2, c3, ⟨_, _, _, _, c4⟩, c5⟩, ⟨d1, ⟨_, _, _, _, d2⟩, ⟨_, _, _, _, d3⟩⟩⟩ := h.add hk hn hl hN a3 a1 a2 (by rw [← hw1]; exact ⟨rfl, rfl, rfl⟩) b2 b7 b6 ⟨b3, b4, b5⟩
  have x1 : w1.cell? ⟨p, 1, none⟩ = some (.map (some m)) := (World.cell?_of_block (a := ⟨p, 1, none⟩) (a2 p hpN)).trans h1
  have x2 : w2.cell? ⟨p, 2, none⟩ = some (ptr r) := (World.cell?_of_block (a := ⟨p, 2, none⟩) c1).trans h.c2
  have x3 : w2.cell? ⟨r, 2, none⟩ = some (ptr (lastOf r (bs L))) := by unfold World.cell?; rw [c2, show w.heap[r]? = some (ndS _ _ _ _) from h.ring]; rfl
  have x4 : (joined 2 w2 (lastOf r (bs L)) N).cell? ⟨p, 2, none⟩ = some (ptr r) := (World.cell?_of_block (a := ⟨p, 2, none⟩) d1).trans h.c2
  have J1 := hid (joinS_any (w := w2) c4 c3)
  have J2 := hid (joinS_any (w := joined 2 w2 (lastOf r (bs L)) N) d2 d3)
  have HP := hid (And.intro s1 s2)
  change Hid (SH kdS (joined 2 (joined 2 w2 (lastOf r (bs L)) N) N r) p most m r (L ++ [⟨N, k, v⟩]) ∧ Chg (foot p m r L) (foot p m r (L ++ [⟨N, k, v⟩])) w (joined 2 (joined 2 w2 (lastOf r (bs L)) N) N r)) at HP
  have b1' : (Instr.mapUpdate 150 (.map (some m)) (.string k) (ptr N)).run Try.prog w1 = .ok () w2 := b1
  generalize hw4 : joined 2 (joined 2 w2 (lastOf r (bs L)) N) N r = w4 at *
  generalize hw3 : joined 2 w2 (lastOf r (bs L)) N = w3 at *
  generalize lastOf r (bs L) = x at *
  generalize hL : (L.length : Int) = n at *
  generalize hq : (most : Int) = q at *
  rw [← hN]
  have HN := hid hN
  have hN' := hN.symm
  clear h hn hk hl hq hL a1 a2 a3 m1 b1 b2 b3 b4 b5 b6 b7 s1 s2 c1 c2 c3 c4 c5 d1 d2 d3 hpN hN hw3 hw4
  go_enter Try.func34, Try.ntmps34
  go_wp2
  go_region
  go_wp2_with fail
  refine J1.out.mono ?_
  rintro _ _ ⟨rfl, rfl⟩
  go_wp2_with fail
  refine J2.out.mono ?_
  rintro _ _ ⟨rfl, rfl⟩
  go_wp2
  go_ret
  exact ⟨rfl, HP.out⟩
theorem dropS_none {w : World} {p most m r : Nat} {L : List (Th ByteArray Int)} (h : SH kdS w p most m r L) (k : ByteArray) (hk : k.size ≤ maxLen) (hn : ∀ t ∈ L, t.k ≠ k) :
    Calls Try.prog 37 #[ptr p, .string k] w fun e w' => e = .returned (.int .i64 141) ∧ w' = w := by
  have h1 := h.c1
  have h2 : (Instr.lookup 150 (.map (some m)) (.string k) true).run Try.prog w = .ok (.tuple #[.pointer none, .bool false]) w := h.mp.look_none h.ok hk hn
  clear h hn hk
  go_enter Try.func37, Try.ntmps37
  go_wp2
  go_ret
  exact ⟨rfl, rfl⟩
set_option maxRecDepth 4000 in
theorem dropS_some {w : World} {p most m r : Nat} {A B : List (Th ByteArray Int)} {t : Th ByteArray Int} (h : SH kdS w p most m r (A ++ t :: B)) :
    Calls Try.prog 37 #[ptr p, (fun k : ByteArray => .string k) t.k] w fun e w' => e = .returned (.int .i64 0) ∧ SH kdS w' p most m r (A ++ B) ∧ Chg (foot p m r (A ++ t :: B)) (foot p m r (A ++ B)) w w' := by
  have h1 := h.c1
  have ht : t ∈ A ++ t :: B := by simp
  have h2 : (Instr.lookup 150 (.map (some m)) ((fun k : ByteArray => .string k) t.k) true).run Try.prog w = .ok (.tuple #[ptr t.b, .bool true]) w := h.mp.look_some h.ok h.kd ht
  obtain ⟨w1, b1, b2, b3, b4, b5, b6, b7⟩ := h.mp.drop h.ok h.kd 0
  obtain ⟨s1, s2, c1, ⟨_, _, _, _, c2⟩, ⟨_, _, _, _, c3⟩⟩ := h.less (w1 := w1.drew) b2 b7 b6 ⟨b3, b4, b5⟩
  have HP := hid (And.intro s1 s2)
  change Hid (SH kdS (joined 2 w1.drew (lastOf r (bs A)) (headOf (bs B) r)) p most m r (A ++ B) ∧ Chg (foot p m r (A ++ t :: B)) (foot p m r (A ++ B)) w (joined 2 w1.drew (lastOf r (bs A)) (headOf (bs B) r))) at HP
  have J := hid (joinS_any (w := w1.drew) c2 c3)
  have x1 : w1.cell? ⟨t.b, 2, none⟩ = some (ptr (lastOf r (bs A))) := by unfold World.cell?; rw [show w1.heap[t.b]? = some (ndS _ _ _ _) from c1]; rfl
  have x2 : w1.cell? ⟨t.b, 3, none⟩ = some (ptr (headOf (bs B) r)) := by unfold World.cell?; rw [show w1.heap[t.b]? = some (ndS _ _ _ _) from c1]; rfl
  have b1' : (Builtin.delete_ #[150, 9] 0 #[.map (some m), (fun k : ByteArray => .string k) t.k]).run Try.prog w = .ok (.tuple #[]) w1 := b1
  generalize hw4 : joined 2 w1.drew (lastOf r (bs A)) (headOf (bs B) r) = w4 at *
  generalize lastOf r (bs A) = x at *
  generalize headOf (bs B) r = y at *
  obtain ⟨b, k, u⟩ := t
  simp only at h2 HP x1 x2 b1'
  clear h ht b1 b2 b3 b4 b5 b6 b7 s1 s2 c1 c2 c3 hw4
  go_enter Try.func37, Try.ntmps37
  go_wp2_with fail
  go_region_with (first | (go_at_call 57; refine J.out.mono ?_; rintro _ _ ⟨rfl, rfl⟩))
  all_goals (
    go_wp2
    go_ret
    exact ⟨rfl, HP.out⟩)
end Go.Proofs.Ytkkamilmjaochaa
