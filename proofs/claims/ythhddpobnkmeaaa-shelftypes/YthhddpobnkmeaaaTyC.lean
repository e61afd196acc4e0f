/- The shelf T: of TwoP and (Option Addr × Nat × Nat). The shelf P: of ByteArray and (Option Addr). The shelf B: of Bool and Unit. -/
import Derived.Test.YthhddpobnkmeaaaTyA
namespace Go.Proofs.Ythhddpobnkmeaaa
open Go.RowKit
abbrev ndT (k : TwoP) (v : (Option Addr × Nat × Nat)) (a c : Value) : Obj := .cells #[.int .u8 k.a0, .int .u8 k.a1, .bool k.b, .slice v.1 v.2.1 v.2.2, a, c] 125 (0, 0)
theorem setAT {w : World} {b : Nat} {k v a c} (h : w.heap[b]? = some (ndT k v a c)) (x : Value) : (w.setCell ⟨b, 4, none⟩ x).heap[b]? = some (ndT k v x c) := by unfold World.setCell; simp [Array.getElem?_modify, h]
theorem setBT {w : World} {b : Nat} {k v a c} (h : w.heap[b]? = some (ndT k v a c)) (x : Value) : (w.setCell ⟨b, 5, none⟩ x).heap[b]? = some (ndT k v a x) := by unfold World.setCell; simp [Array.getElem?_modify, h]
def kdT : Kd TwoP (Option Addr × Nat × Nat) where
  nd := ndT
  zk := ⟨0, 0, false⟩
  zv := (none, 0, 0)
  kv k := .agg #[.int .u8 k.a0, .int .u8 k.a1, .bool k.b]
  ok k := (Lit.int .u8 k.a0).wf = true ∧ (Lit.int .u8 k.a1).wf = true
  ia := 4
  sty := 128
  mt := 126
  kt := 71
  et := 123
  map := Try.underlying126
  keyed := keyed71
  zero := fun w => by kernel_rfl
  key := fun k h => key71 k h
  inj := fun {a b} h => by cases a; cases b; simp at h; simp [h]
  setA := setAT
  setB := setBT
  notS := fun k v a c cs h => by injection h with _ h2; exact absurd h2 (by decide)
  notM := fun k v a c es n h => by cases h
theorem joinT_any {w : World} {a b : Nat} {k v x y k' v' x' y'} (ha : w.heap[a]? = some (ndT k v x y)) (hb : w.heap[b]? = some (ndT k' v' x' y')) :
    Calls Try.prog 54 #[ptr a, ptr b] w fun e w' => e = .returned (.tuple #[]) ∧ w' = joined 4 w a b := by
  have c1 : w.cell? ⟨a, 5, none⟩ = some y := by unfold World.cell?; rw [ha]; rfl
  have f1 : w.frozen? ⟨a, 5, none⟩ = false := by unfold World.frozen?; rw [ha]; rfl
  have hb2 : ∃ y2, (w.setCell ⟨a, 5, none⟩ (ptr b)).heap[b]? = some (ndT k' v' x' y2) := by
    by_cases e : b = a
    · subst e; exact ⟨_, setBT hb _⟩
    · exact ⟨_, (Below.heap_setCell _ _ _ _ e).trans hb⟩
  obtain ⟨y2, hb2⟩ := hb2
  have c2 : (w.setCell ⟨a, 5, none⟩ (ptr b)).cell? ⟨b, 4, none⟩ = some x' := by unfold World.cell?; rw [hb2]; rfl
  have f2 : (w.setCell ⟨a, 5, none⟩ (ptr b)).frozen? ⟨b, 4, none⟩ = false := by unfold World.frozen?; rw [hb2]; rfl
  clear hb2 ha hb
  go_enter Try.func54, Try.ntmps54
  go_wp2
  go_end0
  exact ⟨rfl, rfl⟩

theorem newT_bad (w : World) (n : Int) (h : (decide (n < 0) || decide (1048576 < n)) = true) :
    Calls Try.prog 22 #[.int .i64 n] w fun e w' => e = .returned (.tuple #[.pointer none, .int .i64 1]) ∧ w' = w := by
  cases h1 : decide (n < 0) <;> cases h2 : decide (1048576 < n)
  · simp [h1, h2] at h
  all_goals (
    clear h
    go_enter Try.func22, Try.ntmps22
    go_wp2
    go_ret2
    exact ⟨rfl, rfl⟩)
theorem newT_good (w : World) (n : Int) (k : Nat) (hk : n = k) (hm : k ≤ 1048576) :
    Calls Try.prog 22 #[.int .i64 n] w fun e w' => e = .returned (.tuple #[ptr (w.heap.size + 2), .int .i64 0]) ∧ SH kdT w' (w.heap.size + 2) k (w.heap.size + 1) w.heap.size [] ∧ Below w.heap.size w w' := by
  have h1 : decide (n < 0) = false := by simp; omega
  have h2 : decide (1048576 < n) = false := by simp; omega
  have hmk : ∀ w : World, (Instr.makeMap 126 none).run Try.prog w = .ok (.map (some w.heap.size)) (w.alloc (.map #[] 0)) := fun _ => rfl
  have HF := hid (SH.fresh kdT w k hm)
  rw [← hk] at HF
  clear hk hm
  go_enter Try.func22, Try.ntmps22
  go_wp2
  go_ret2
  exact ⟨rfl, HF.out⟩
theorem lenT_any {w : World} {p most m r : Nat} {L : List (Th TwoP (Option Addr × Nat × Nat))} (h : SH kdT w p most m r L) :
    Calls Try.prog 31 #[ptr p] w fun e w' => e = .returned (.int .i64 L.length) ∧ w' = w := by
  have h1 := h.c1
  have h2 : ∀ ty, (Builtin.len_ #[126] ty #[.map (some m)]).run Try.prog w = .ok (.int .i64 L.length) w := h.mp.len
  generalize L.length = n at *
  clear h
  go_enter Try.func31, Try.ntmps31
  go_wp2
  go_ret
  exact ⟨rfl, rfl⟩

theorem getT_some {w : World} {p most m r : Nat} {L : List (Th TwoP (Option Addr × Nat × Nat))} (h : SH kdT w p most m r L) {t : Th TwoP (Option Addr × Nat × Nat)} (ht : t ∈ L) :
    Calls Try.prog 26 #[ptr p, (fun k : TwoP => .agg #[.int .u8 k.a0, .int .u8 k.a1, .bool k.b]) t.k] w fun e w' => e = .returned (.tuple #[(fun v : (Option Addr × Nat × Nat) => .slice v.1 v.2.1 v.2.2) t.v, .bool true]) ∧ Below w.heap.size w w' := by
  obtain ⟨w0, hw0⟩ : ∃ w0, w.alloc (.cells ((fun k : TwoP => #[.int .u8 k.a0, .int .u8 k.a1, .bool k.b]) t.k) 71) = w0 := ⟨_, rfl⟩
  have B0 : Below w.heap.size w w0 := by rw [← hw0]; exact (Below.refl _ _).alloc (Nat.le_refl _) _
  have kb : w0.heap[w.heap.size]? = some (.cells ((fun k : TwoP => #[.int .u8 k.a0, .int .u8 k.a1, .bool k.b]) t.k) 71) := by rw [← hw0]; exact (MapKept.heap_alloc w _).1
  have h0 := h.below B0
  have HB : Hid (Below w.heap.size w w0.drew) := B0.drew
  have h1 := h0.c1
  have h2 : (Instr.lookup 126 (.map (some m)) ((fun k : TwoP => .agg #[.int .u8 k.a0, .int .u8 k.a1, .bool k.b]) t.k) true).run Try.prog w0.drew = .ok (.tuple #[ptr t.b, .bool true]) w0.drew := h0.drew.mp.look_some h0.ok h0.kd ht
  obtain ⟨a, c, h3⟩ := h0.node (List.mem_cons_of_mem _ ht)
  obtain ⟨b, k, v⟩ := t
  have h4 : w0.cell? ⟨b, 3, none⟩ = some (.slice v.1 v.2.1 v.2.2) := by unfold World.cell?; rw [show w0.heap[b]? = some (ndT k v a c) from h3]; rfl
  obtain ⟨A0, hA⟩ : ∃ A0, w.heap.size = A0 := ⟨_, rfl⟩
  rw [hA] at kb HB ⊢
  have cK0 : w0.cell? ⟨A0, 0, none⟩ = some (.int .u8 k.a0) := by unfold World.cell?; rw [kb]; rfl
  have cK1 : w0.cell? ⟨A0, 1, none⟩ = some (.int .u8 k.a1) := by unfold World.cell?; rw [kb]; rfl
  have cK2 : w0.cell? ⟨A0, 2, none⟩ = some (.bool k.b) := by unfold World.cell?; rw [kb]; rfl
  clear h h0 h3 B0 kb
  simp only at h2 hw0
  go_enter Try.func26, Try.ntmps26
  go_wp2
  go_region
  all_goals (
    go_wp2
    go_ret2
    exact ⟨rfl, HB.out⟩)
theorem getT_none {w : World} {p most m r : Nat} {L : List (Th TwoP (Option Addr × Nat × Nat))} (h : SH kdT w p most m r L) (k : TwoP) (hk : (Lit.int .u8 k.a0).wf = true ∧ (Lit.int .u8 k.a1).wf = true) (hn : ∀ t ∈ L, t.k ≠ k) :
    Calls Try.prog 26 #[ptr p, .agg #[.int .u8 k.a0, .int .u8 k.a1, .bool k.b]] w fun e w' => e = .returned (.tuple #[(fun v : (Option Addr × Nat × Nat) => .slice v.1 v.2.1 v.2.2) (none, 0, 0), .bool false]) ∧ Below w.heap.size w w' := by
  obtain ⟨w0, hw0⟩ : ∃ w0, w.alloc (.cells #[.int .u8 k.a0, .int .u8 k.a1, .bool k.b] 71) = w0 := ⟨_, rfl⟩
  have B0 : Below w.heap.size w w0 := by rw [← hw0]; exact (Below.refl _ _).alloc (Nat.le_refl _) _
  have kb : w0.heap[w.heap.size]? = some (.cells #[.int .u8 k.a0, .int .u8 k.a1, .bool k.b] 71) := by rw [← hw0]; exact (MapKept.heap_alloc w _).1
  have h0 := h.below B0
  have HB : Hid (Below w.heap.size w w0.drew) := B0.drew
  have h1 := h0.c1
  have h2 : (Instr.lookup 126 (.map (some m)) (.agg #[.int .u8 k.a0, .int .u8 k.a1, .bool k.b]) true).run Try.prog w0.drew = .ok (.tuple #[.pointer none, .bool false]) w0.drew := h0.drew.mp.look_none h0.ok hk hn
  obtain ⟨A0, hA⟩ : ∃ A0, w.heap.size = A0 := ⟨_, rfl⟩
  rw [hA] at kb HB ⊢
  have cK0 : w0.cell? ⟨A0, 0, none⟩ = some (.int .u8 k.a0) := by unfold World.cell?; rw [kb]; rfl
  have cK1 : w0.cell? ⟨A0, 1, none⟩ = some (.int .u8 k.a1) := by unfold World.cell?; rw [kb]; rfl
  have cK2 : w0.cell? ⟨A0, 2, none⟩ = some (.bool k.b) := by unfold World.cell?; rw [kb]; rfl
  clear h h0 hn hk B0 kb
  go_enter Try.func26, Try.ntmps26
  go_wp2
  go_region
  all_goals (
    go_wp2
    go_ret2
    exact ⟨rfl, HB.out⟩)
theorem setVT {w : World} {b : Nat} {k v a c} (h : w.heap[b]? = some (ndT k v a c)) (x : (Option Addr × Nat × Nat)) : (w.setCell ⟨b, 3, none⟩ ((fun v : (Option Addr × Nat × Nat) => .slice v.1 v.2.1 v.2.2) x)).heap[b]? = some (ndT k x a c) := by unfold World.setCell; simp [Array.getElem?_modify, h]
theorem putT_some {w : World} {p most m r : Nat} {A B : List (Th TwoP (Option Addr × Nat × Nat))} {t : Th TwoP (Option Addr × Nat × Nat)} (h : SH kdT w p most m r (A ++ t :: B)) (v : (Option Addr × Nat × Nat)) :
    Calls Try.prog 25 #[ptr p, (fun k : TwoP => .agg #[.int .u8 k.a0, .int .u8 k.a1, .bool k.b]) t.k, .slice v.1 v.2.1 v.2.2] w fun e w' => e = .returned (.int .i64 0) ∧ SH kdT w' p most m r (A ++ ⟨t.b, t.k, v⟩ :: B) ∧ Chg (foot p m r (A ++ t :: B)) (foot p m r (A ++ ⟨t.b, t.k, v⟩ :: B)) w w' := by
  obtain ⟨w0, hw0⟩ : ∃ w0, w.alloc (.cells ((fun k : TwoP => #[.int .u8 k.a0, .int .u8 k.a1, .bool k.b]) t.k) 71) = w0 := ⟨_, rfl⟩
  have B0 : Below w.heap.size w w0 := by rw [← hw0]; exact (Below.refl _ _).alloc (Nat.le_refl _) _
  have kb : w0.heap[w.heap.size]? = some (.cells ((fun k : TwoP => #[.int .u8 k.a0, .int .u8 k.a1, .bool k.b]) t.k) 71) := by rw [← hw0]; exact (MapKept.heap_alloc w _).1
  have h0 := h.below B0
  have h1 := h0.c1
  have ht : t ∈ A ++ t :: B := by simp
  have h2 : (Instr.lookup 126 (.map (some m)) ((fun k : TwoP => .agg #[.int .u8 k.a0, .int .u8 k.a1, .bool k.b]) t.k) true).run Try.prog w0.drew = .ok (.tuple #[ptr t.b, .bool true]) w0.drew := h0.drew.mp.look_some h0.ok h0.kd ht
  obtain ⟨a, c, h3⟩ := h0.node (List.mem_cons_of_mem _ ht)
  have HS := hid (h0.drew.write (w' := w0.drew.setCell ⟨t.b, 3, none⟩ (.slice v.1 v.2.1 v.2.2)) v (fun a c e => setVT (k := t.k) (v := t.v) e v) (fun x hx => Below.heap_setCell _ _ _ _ hx))
  have HC : Hid (Chg (foot p m r (A ++ t :: B)) (foot p m r (A ++ ⟨t.b, t.k, v⟩ :: B)) w (w0.drew.setCell ⟨t.b, 3, none⟩ (.slice v.1 v.2.1 v.2.2))) :=
    (Chg.of_below (w' := w0.drew) _ B0.drew).trans ⟨rfl, rfl, rfl, by simp, fun x _ hx => Below.heap_setCell _ _ _ _ (fun e => hx (by simp [show x = t.b from e])), fun x hx => .inl (by simpa using hx)⟩
  obtain ⟨b, k, u⟩ := t
  have h4 : w0.cell? ⟨b, 3, none⟩ = some ((fun v : (Option Addr × Nat × Nat) => .slice v.1 v.2.1 v.2.2) u) := by unfold World.cell?; rw [show w0.heap[b]? = some (ndT k u a c) from h3]; rfl
  have h5 : w0.frozen? ⟨b, 3, none⟩ = false := by unfold World.frozen?; rw [show w0.heap[b]? = some (ndT k u a c) from h3]; rfl
  obtain ⟨A0, hA⟩ : ∃ A0, w.heap.size = A0 := ⟨_, rfl⟩
  rw [hA] at kb
  have cK0 : w0.cell? ⟨A0, 0, none⟩ = some (.int .u8 k.a0) := by unfold World.cell?; rw [kb]; rfl
  have cK1 : w0.cell? ⟨A0, 1, none⟩ = some (.int .u8 k.a1) := by unfold World.cell?; rw [kb]; rfl
  have cK2 : w0.cell? ⟨A0, 2, none⟩ = some (.bool k.b) := by unfold World.cell?; rw [kb]; rfl
  clear h h0 h3 ht kb B0
  simp only at h2 HS HC hw0
  go_enter Try.func25, Try.ntmps25
  go_wp2
  go_region
  all_goals (
    go_wp2
    go_ret
    exact ⟨rfl, HS.out, HC.out⟩)
theorem putT_full {w : World} {p most m r : Nat} {L : List (Th TwoP (Option Addr × Nat × Nat))} (h : SH kdT w p most m r L) (k : TwoP) (v : (Option Addr × Nat × Nat)) (hk : (Lit.int .u8 k.a0).wf = true ∧ (Lit.int .u8 k.a1).wf = true) (hn : ∀ t ∈ L, t.k ≠ k) (hl : L.length = most) :
    Calls Try.prog 25 #[ptr p, .agg #[.int .u8 k.a0, .int .u8 k.a1, .bool k.b], .slice v.1 v.2.1 v.2.2] w fun e w' => e = .returned (.int .i64 140) ∧ SH kdT w' p most m r L ∧ Chg (foot p m r L) (foot p m r L) w w' := by
  obtain ⟨w0, hw0⟩ : ∃ w0, w.alloc (.cells #[.int .u8 k.a0, .int .u8 k.a1, .bool k.b] 71) = w0 := ⟨_, rfl⟩
  have B0 : Below w.heap.size w w0 := by rw [← hw0]; exact (Below.refl _ _).alloc (Nat.le_refl _) _
  have kb : w0.heap[w.heap.size]? = some (.cells #[.int .u8 k.a0, .int .u8 k.a1, .bool k.b] 71) := by rw [← hw0]; exact (MapKept.heap_alloc w _).1
  have h0 := h.below B0
  have h1 := h0.c1
  have h00 := h0.c0
  have h2 : (Instr.lookup 126 (.map (some m)) (.agg #[.int .u8 k.a0, .int .u8 k.a1, .bool k.b]) true).run Try.prog w0.drew = .ok (.tuple #[.pointer none, .bool false]) w0.drew := h0.drew.mp.look_none h0.ok hk hn
  have h3 : ∀ ty, (Builtin.len_ #[126] ty #[.map (some m)]).run Try.prog w0.drew.drew = .ok (.int .i64 most) w0.drew.drew := fun ty => by rw [← hl]; exact h0.drew.drew.mp.len ty
  have HP : Hid (SH kdT w0.drew.drew p most m r L ∧ Chg (foot p m r L) (foot p m r L) w w0.drew.drew) := ⟨h0.drew.drew, Chg.of_below _ B0.drew.drew⟩
  obtain ⟨A0, hA⟩ : ∃ A0, w.heap.size = A0 := ⟨_, rfl⟩
  rw [hA] at kb
  have cK0 : w0.cell? ⟨A0, 0, none⟩ = some (.int .u8 k.a0) := by unfold World.cell?; rw [kb]; rfl
  have cK1 : w0.cell? ⟨A0, 1, none⟩ = some (.int .u8 k.a1) := by unfold World.cell?; rw [kb]; rfl
  have cK2 : w0.cell? ⟨A0, 2, none⟩ = some (.bool k.b) := by unfold World.cell?; rw [kb]; rfl
  generalize hq : (most : Int) = q at h00 h3
  clear h h0 hn hk hl hq kb B0
  go_enter Try.func25, Try.ntmps25
  go_wp2
  go_region
  go_wp2
  go_region
  all_goals (
    go_wp2
    go_ret
    exact ⟨rfl, HP.out⟩)
set_option maxRecDepth 4000 in
theorem putT_new {w : World} {p most m r : Nat} {L : List (Th TwoP (Option Addr × Nat × Nat))} (h : SH kdT w p most m r L) (k : TwoP) (v : (Option Addr × Nat × Nat)) (hk : (Lit.int .u8 k.a0).wf = true ∧ (Lit.int .u8 k.a1).wf = true) (hn : ∀ t ∈ L, t.k ≠ k) (hl : L.length < most) :
    Calls Try.prog 25 #[ptr p, .agg #[.int .u8 k.a0, .int .u8 k.a1, .bool k.b], .slice v.1 v.2.1 v.2.2] w fun e w' => ∃ b, e = .returned (.int .i64 0) ∧ SH kdT w' p most m r (L ++ [⟨b, k, v⟩]) ∧ Chg (foot p m r L) (foot p m r (L ++ [⟨b, k, v⟩])) w w' := by
  obtain ⟨w0, hw0⟩ : ∃ w0, w.alloc (.cells #[.int .u8 k.a0, .int .u8 k.a1, .bool k.b] 71) = w0 := ⟨_, rfl⟩
  have B0 : Below w.heap.size w w0 := by rw [← hw0]; exact (Below.refl _ _).alloc (Nat.le_refl _) _
  have kb : w0.heap[w.heap.size]? = some (.cells #[.int .u8 k.a0, .int .u8 k.a1, .bool k.b] 71) := by rw [← hw0]; exact (MapKept.heap_alloc w _).1
  have h0 := h.below B0
  have h1 := h0.c1
  have h00 := h0.c0
  have h2 : (Instr.lookup 126 (.map (some m)) (.agg #[.int .u8 k.a0, .int .u8 k.a1, .bool k.b]) true).run Try.prog w0.drew = .ok (.tuple #[.pointer none, .bool false]) w0.drew := h0.drew.mp.look_none h0.ok hk hn
  have h3 : ∀ ty, (Builtin.len_ #[126] ty #[.map (some m)]).run Try.prog w0.drew.drew = .ok (.int .i64 L.length) w0.drew.drew := h0.drew.drew.mp.len
  have h4 : decide ((most : Int) ≤ (L.length : Int)) = false := by simp; omega
  obtain ⟨N, hN⟩ : ∃ N, N = w0.heap.size := ⟨_, rfl⟩
  obtain ⟨w1, hw1⟩ : ∃ w1, w0.drew.drew.alloc (.cells #[.int .u8 k.a0, .int .u8 k.a1, .bool k.b, .slice v.1 v.2.1 v.2.2, .pointer none, .pointer none] 125) = w1 := ⟨_, rfl⟩
  have a1 : w1.drew.heap[N]? = some (ndT k v (.pointer none) (.pointer none)) := by rw [← hw1, hN]; exact (MapKept.heap_alloc w0.drew.drew _).1
  have a2 : ∀ x, x < N → w1.drew.heap[x]? = w0.heap[x]? := fun x hx => by rw [← hw1]; exact Below.heap_alloc w0.drew.drew _ _ (show x < w0.heap.size by rw [← hN]; exact hx)
  have a3 : w1.drew.heap.size = N + 1 := by rw [← hw1, hN]; simp
  have hpN : p < N := by rw [hN]; exact h0.lt p (by simp)
  have hAN : w.heap.size < N := by rw [hN, ← hw0]; simp
  have m1 : MP kdT w1.drew m L := h0.mp.kept (a2 m (by rw [hN]; exact h0.lt m (by simp)))
  obtain ⟨w2, b1, b2, b3, b4, b5, b6, b7⟩ := m1.store h0.ok hk hn N v
  obtain ⟨s1, s2, ⟨c1, c2, c3, ⟨_, _, _, _, c4⟩, c5⟩, ⟨d1, ⟨_, _, _, _, d2⟩, ⟨_, _, _, _, d3⟩⟩⟩ := h0.add hk hn hl hN a3 a1 a2 (by rw [← hw1]; exact ⟨rfl, rfl, rfl⟩) b2 b7 b6 ⟨b3, b4, b5⟩
  have x1 : w1.cell? ⟨p, 1, none⟩ = some (.map (some m)) := (World.cell?_of_block (w' := w1) (a := ⟨p, 1, none⟩) (a2 p hpN)).trans h1
  have x2 : w2.cell? ⟨p, 2, none⟩ = some (ptr r) := (World.cell?_of_block (a := ⟨p, 2, none⟩) c1).trans h0.c2
  have x3 : w2.cell? ⟨r, 4, none⟩ = some (ptr (lastOf r (bs L))) := by unfold World.cell?; rw [c2, show w0.heap[r]? = some (ndT _ _ _ _) from h0.ring]; rfl
  have x4 : (joined 4 w2 (lastOf r (bs L)) N).cell? ⟨p, 2, none⟩ = some (ptr r) := (World.cell?_of_block (a := ⟨p, 2, none⟩) d1).trans h0.c2
  have kb1 : w1.heap[w.heap.size]? = some (.cells #[.int .u8 k.a0, .int .u8 k.a1, .bool k.b] 71) := (a2 _ hAN).trans kb
  have J1 := hid (joinT_any (w := w2) c4 c3)
  have J2 := hid (joinT_any (w := joined 4 w2 (lastOf r (bs L)) N) d2 d3)
  have HP := hid (And.intro s1 ((Chg.of_below _ B0).trans s2))
  change Hid (SH kdT (joined 4 (joined 4 w2 (lastOf r (bs L)) N) N r) p most m r (L ++ [⟨N, k, v⟩]) ∧ Chg (foot p m r L) (foot p m r (L ++ [⟨N, k, v⟩])) w (joined 4 (joined 4 w2 (lastOf r (bs L)) N) N r)) at HP
  have b1' : (Instr.mapUpdate 126 (.map (some m)) (.agg #[.int .u8 k.a0, .int .u8 k.a1, .bool k.b]) (ptr N)).run Try.prog w1.drew = .ok () w2 := b1
  generalize hw4 : joined 4 (joined 4 w2 (lastOf r (bs L)) N) N r = w4 at *
  generalize hw3 : joined 4 w2 (lastOf r (bs L)) N = w3 at *
  generalize lastOf r (bs L) = x at *
  generalize hL : (L.length : Int) = n at *
  generalize hq : (most : Int) = q at *
  have hN' := hN.symm
  obtain ⟨A0, hA⟩ : ∃ A0, w.heap.size = A0 := ⟨_, rfl⟩
  rw [hA] at kb kb1
  have cK0 : w0.cell? ⟨A0, 0, none⟩ = some (.int .u8 k.a0) := by unfold World.cell?; rw [kb]; rfl
  have cK1 : w0.cell? ⟨A0, 1, none⟩ = some (.int .u8 k.a1) := by unfold World.cell?; rw [kb]; rfl
  have cK2 : w0.cell? ⟨A0, 2, none⟩ = some (.bool k.b) := by unfold World.cell?; rw [kb]; rfl
  have dK0 : w1.cell? ⟨A0, 0, none⟩ = some (.int .u8 k.a0) := by unfold World.cell?; rw [kb1]; rfl
  have dK1 : w1.cell? ⟨A0, 1, none⟩ = some (.int .u8 k.a1) := by unfold World.cell?; rw [kb1]; rfl
  have dK2 : w1.cell? ⟨A0, 2, none⟩ = some (.bool k.b) := by unfold World.cell?; rw [kb1]; rfl
  clear h h0 hn hk hl hq hL a1 a2 a3 m1 b1 b2 b3 b4 b5 b6 b7 s1 s2 c1 c2 c3 c4 c5 d1 d2 d3 hpN hN hw3 hw4 kb kb1 hAN B0
  go_enter Try.func25, Try.ntmps25
  go_wp2
  go_region
  go_wp2
  go_region
  go_wp2
  go_region
  all_goals (
    go_wp2_with fail
    refine J1.out.mono ?_
    rintro _ _ ⟨rfl, rfl⟩
    go_wp2_with fail
    refine J2.out.mono ?_
    rintro _ _ ⟨rfl, rfl⟩
    go_wp2
    go_ret
    exact ⟨_, rfl, HP.out⟩)


end Go.Proofs.Ythhddpobnkmeaaa
namespace Go.Proofs.Ythhddpobnkmeaaa
open Go.RowKit
abbrev ndP (k : ByteArray) (v : (Option Addr)) (a c : Value) : Obj := .cells #[.string k, .pointer v, a, c] 131 (0, 0)
theorem setAP {w : World} {b : Nat} {k v a c} (h : w.heap[b]? = some (ndP k v a c)) (x : Value) : (w.setCell ⟨b, 2, none⟩ x).heap[b]? = some (ndP k v x c) := by unfold World.setCell; simp [Array.getElem?_modify, h]
theorem setBP {w : World} {b : Nat} {k v a c} (h : w.heap[b]? = some (ndP k v a c)) (x : Value) : (w.setCell ⟨b, 3, none⟩ x).heap[b]? = some (ndP k v a x) := by unfold World.setCell; simp [Array.getElem?_modify, h]
def kdP : Kd ByteArray (Option Addr) where
  nd := ndP
  zk := ⟨#[]⟩
  zv := none
  kv k := .string k
  ok k := k.size ≤ maxLen
  ia := 2
  sty := 134
  mt := 132
  kt := 9
  et := 129
  map := Try.underlying132
  keyed := Maps.string_keyed Try.underlying9
  zero := fun w => by kernel_rfl
  key := fun k h => ⟨_, WideMaps.keyOf_string_mk Try.underlying9 h⟩
  inj := fun {a b} h => by injection h
  setA := setAP
  setB := setBP
  notS := fun k v a c cs h => by injection h with _ h2; exact absurd h2 (by decide)
  notM := fun k v a c es n h => by cases h
theorem joinP_any {w : World} {a b : Nat} {k v x y k' v' x' y'} (ha : w.heap[a]? = some (ndP k v x y)) (hb : w.heap[b]? = some (ndP k' v' x' y')) :
    Calls Try.prog 55 #[ptr a, ptr b] w fun e w' => e = .returned (.tuple #[]) ∧ w' = joined 2 w a b := by
  have c1 : w.cell? ⟨a, 3, none⟩ = some y := by unfold World.cell?; rw [ha]; rfl
  have f1 : w.frozen? ⟨a, 3, none⟩ = false := by unfold World.frozen?; rw [ha]; rfl
  have hb2 : ∃ y2, (w.setCell ⟨a, 3, none⟩ (ptr b)).heap[b]? = some (ndP k' v' x' y2) := by
    by_cases e : b = a
    · subst e; exact ⟨_, setBP hb _⟩
    · exact ⟨_, (Below.heap_setCell _ _ _ _ e).trans hb⟩
  obtain ⟨y2, hb2⟩ := hb2
  have c2 : (w.setCell ⟨a, 3, none⟩ (ptr b)).cell? ⟨b, 2, none⟩ = some x' := by unfold World.cell?; rw [hb2]; rfl
  have f2 : (w.setCell ⟨a, 3, none⟩ (ptr b)).frozen? ⟨b, 2, none⟩ = false := by unfold World.frozen?; rw [hb2]; rfl
  clear hb2 ha hb
  go_enter Try.func55, Try.ntmps55
  go_wp2
  go_end0
  exact ⟨rfl, rfl⟩

theorem newP_bad (w : World) (n : Int) (h : (decide (n < 0) || decide (1048576 < n)) = true) :
    Calls Try.prog 23 #[.int .i64 n] w fun e w' => e = .returned (.tuple #[.pointer none, .int .i64 1]) ∧ w' = w := by
  cases h1 : decide (n < 0) <;> cases h2 : decide (1048576 < n)
  · simp [h1, h2] at h
  all_goals (
    clear h
    go_enter Try.func23, Try.ntmps23
    go_wp2
    go_ret2
    exact ⟨rfl, rfl⟩)
theorem newP_good (w : World) (n : Int) (k : Nat) (hk : n = k) (hm : k ≤ 1048576) :
    Calls Try.prog 23 #[.int .i64 n] w fun e w' => e = .returned (.tuple #[ptr (w.heap.size + 2), .int .i64 0]) ∧ SH kdP w' (w.heap.size + 2) k (w.heap.size + 1) w.heap.size [] ∧ Below w.heap.size w w' := by
  have h1 : decide (n < 0) = false := by simp; omega
  have h2 : decide (1048576 < n) = false := by simp; omega
  have hmk : ∀ w : World, (Instr.makeMap 132 none).run Try.prog w = .ok (.map (some w.heap.size)) (w.alloc (.map #[] 0)) := fun _ => rfl
  have HF := hid (SH.fresh kdP w k hm)
  rw [← hk] at HF
  clear hk hm
  go_enter Try.func23, Try.ntmps23
  go_wp2
  go_ret2
  exact ⟨rfl, HF.out⟩
theorem getP_some {w : World} {p most m r : Nat} {L : List (Th ByteArray (Option Addr))} (h : SH kdP w p most m r L) {t : Th ByteArray (Option Addr)} (ht : t ∈ L) :
    Calls Try.prog 28 #[ptr p, (fun k : ByteArray => .string k) t.k] w fun e w' => e = .returned (.tuple #[(fun v : (Option Addr) => .pointer v) t.v, .bool true]) ∧ w' = w := by
  have h1 := h.c1
  have h2 : (Instr.lookup 132 (.map (some m)) ((fun k : ByteArray => .string k) t.k) true).run Try.prog w = .ok (.tuple #[ptr t.b, .bool true]) w := h.mp.look_some h.ok h.kd ht
  obtain ⟨a, c, h3⟩ := h.node (List.mem_cons_of_mem _ ht)
  obtain ⟨b, k, v⟩ := t
  have h4 : w.cell? ⟨b, 1, none⟩ = some (.pointer v) := by unfold World.cell?; rw [show w.heap[b]? = some (ndP k v a c) from h3]; rfl
  clear h h3
  simp only at h2
  go_enter Try.func28, Try.ntmps28
  go_wp2
  go_ret2
  exact ⟨rfl, rfl⟩
theorem getP_none {w : World} {p most m r : Nat} {L : List (Th ByteArray (Option Addr))} (h : SH kdP w p most m r L) (k : ByteArray) (hk : k.size ≤ maxLen) (hn : ∀ t ∈ L, t.k ≠ k) :
    Calls Try.prog 28 #[ptr p, .string k] w fun e w' => e = .returned (.tuple #[(fun v : (Option Addr) => .pointer v) none, .bool false]) ∧ w' = w := by
  have h1 := h.c1
  have h2 : (Instr.lookup 132 (.map (some m)) (.string k) true).run Try.prog w = .ok (.tuple #[.pointer none, .bool false]) w := h.mp.look_none h.ok hk hn
  clear h hn hk
  go_enter Try.func28, Try.ntmps28
  go_wp2
  go_ret2
  exact ⟨rfl, rfl⟩

theorem setVP {w : World} {b : Nat} {k v a c} (h : w.heap[b]? = some (ndP k v a c)) (x : (Option Addr)) : (w.setCell ⟨b, 1, none⟩ ((fun v : (Option Addr) => .pointer v) x)).heap[b]? = some (ndP k x a c) := by unfold World.setCell; simp [Array.getElem?_modify, h]
theorem putP_some {w : World} {p most m r : Nat} {A B : List (Th ByteArray (Option Addr))} {t : Th ByteArray (Option Addr)} (h : SH kdP w p most m r (A ++ t :: B)) (v : (Option Addr)) :
    Calls Try.prog 27 #[ptr p, (fun k : ByteArray => .string k) t.k, .pointer v] w fun e w' => e = .returned (.int .i64 0) ∧ SH kdP w' p most m r (A ++ ⟨t.b, t.k, v⟩ :: B) ∧ Chg (foot p m r (A ++ t :: B)) (foot p m r (A ++ ⟨t.b, t.k, v⟩ :: B)) w w' := by
  have h1 := h.c1
  have ht : t ∈ A ++ t :: B := by simp
  have h2 : (Instr.lookup 132 (.map (some m)) ((fun k : ByteArray => .string k) t.k) true).run Try.prog w = .ok (.tuple #[ptr t.b, .bool true]) w := h.mp.look_some h.ok h.kd ht
  obtain ⟨a, c, h3⟩ := h.node (List.mem_cons_of_mem _ ht)
  have HS := hid (h.write (w' := w.setCell ⟨t.b, 1, none⟩ (.pointer v)) v (fun a c e => setVP (k := t.k) (v := t.v) e v) (fun x hx => Below.heap_setCell _ _ _ _ hx))
  have HC : Hid (Chg (foot p m r (A ++ t :: B)) (foot p m r (A ++ ⟨t.b, t.k, v⟩ :: B)) w (w.setCell ⟨t.b, 1, none⟩ (.pointer v))) :=
    ⟨rfl, rfl, rfl, by simp, fun x _ hx => Below.heap_setCell _ _ _ _ (fun e => hx (by simp [show x = t.b from e])), fun x hx => .inl (by simpa using hx)⟩
  obtain ⟨b, k, u⟩ := t
  have h4 : w.cell? ⟨b, 1, none⟩ = some ((fun v : (Option Addr) => .pointer v) u) := by unfold World.cell?; rw [show w.heap[b]? = some (ndP k u a c) from h3]; rfl
  have h5 : w.frozen? ⟨b, 1, none⟩ = false := by unfold World.frozen?; rw [show w.heap[b]? = some (ndP k u a c) from h3]; rfl
  clear h h3 ht
  simp only at h2 HS HC
  go_enter Try.func27, Try.ntmps27
  go_wp2
  go_ret
  exact ⟨rfl, HS.out, HC.out⟩
theorem putP_full {w : World} {p most m r : Nat} {L : List (Th ByteArray (Option Addr))} (h : SH kdP w p most m r L) (k : ByteArray) (v : (Option Addr)) (hk : k.size ≤ maxLen) (hn : ∀ t ∈ L, t.k ≠ k) (hl : L.length = most) :
    Calls Try.prog 27 #[ptr p, .string k, .pointer v] w fun e w' => e = .returned (.int .i64 140) ∧ SH kdP w' p most m r L ∧ Chg (foot p m r L) (foot p m r L) w w' := by
  have h1 := h.c1
  have h0 := h.c0
  have h2 : (Instr.lookup 132 (.map (some m)) (.string k) true).run Try.prog w = .ok (.tuple #[.pointer none, .bool false]) w := h.mp.look_none h.ok hk hn
  have h3 : ∀ ty, (Builtin.len_ #[132] ty #[.map (some m)]).run Try.prog w.drew = .ok (.int .i64 most) w.drew := fun ty => by rw [← hl]; exact h.drew.mp.len ty
  have HP : Hid (SH kdP w.drew p most m r L ∧ Chg (foot p m r L) (foot p m r L) w w.drew) := ⟨h.drew, Chg.drew _ _⟩
  generalize hq : (most : Int) = q at h0 h3
  clear h hn hk hl hq
  go_enter Try.func27, Try.ntmps27
  go_wp2
  go_region
  all_goals (
    go_wp2
    go_ret
    exact ⟨rfl, HP.out⟩)
theorem bldP (w : World) (k : ByteArray) (v : (Option Addr)) : (Instr.build 131 #[(0, .string k), (1, .pointer v)]).run Try.prog w = .ok (.agg #[.string k, .pointer v, .pointer none, .pointer none]) w := by kernel_rfl
set_option maxRecDepth 4000 in
theorem putP_new {w : World} {p most m r : Nat} {L : List (Th ByteArray (Option Addr))} (h : SH kdP w p most m r L) (k : ByteArray) (v : (Option Addr)) (hk : k.size ≤ maxLen) (hn : ∀ t ∈ L, t.k ≠ k) (hl : L.length < most) :
    Calls Try.prog 27 #[ptr p, .string k, .pointer v] w fun e w' => e = .returned (.int .i64 0) ∧ SH kdP w' p most m r (L ++ [⟨w.heap.size, k, v⟩]) ∧ Chg (foot p m r L) (foot p m r (L ++ [⟨w.heap.size, k, v⟩])) w w' := by
  have h1 := h.c1
  have h0 := h.c0
  have h2 : (Instr.lookup 132 (.map (some m)) (.string k) true).run Try.prog w = .ok (.tuple #[.pointer none, .bool false]) w := h.mp.look_none h.ok hk hn
  have h3 : ∀ ty, (Builtin.len_ #[132] ty #[.map (some m)]).run Try.prog w.drew = .ok (.int .i64 L.length) w.drew := h.drew.mp.len
  have h4 : decide ((most : Int) ≤ (L.length : Int)) = false := by simp; omega
  obtain ⟨N, hN⟩ : ∃ N, N = w.heap.size := ⟨_, rfl⟩
  obtain ⟨w1, hw1⟩ : ∃ w1, w.drew.alloc (.cells #[.string k, .pointer v, .pointer none, .pointer none] 131) = w1 := ⟨_, rfl⟩
  have a1 : w1.heap[N]? = some (ndP k v (.pointer none) (.pointer none)) := by rw [← hw1, hN]; exact (MapKept.heap_alloc w.drew _).1
  have a2 : ∀ x, x < N → w1.heap[x]? = w.heap[x]? := fun x hx => by rw [← hw1]; exact Below.heap_alloc w.drew _ _ (show x < w.heap.size by rw [← hN]; exact hx)
  have a3 : w1.heap.size = N + 1 := by rw [← hw1, hN]; simp
  have hpN : p < N := by rw [hN]; exact h.lt p (by simp)
  have m1 : MP kdP w1 m L := h.mp.kept (a2 m (by rw [hN]; exact h.lt m (by simp)))
  obtain ⟨w2, b1, b2, b3, b4, b5, b6, b7⟩ := m1.store h.ok hk hn N v
  obtain ⟨s1, s2, ⟨c1, c2, c3, ⟨_, _, _, _, c4⟩, c5⟩, ⟨d1, ⟨_, _, _, _, d2⟩, ⟨_, _, _, _, d3⟩⟩⟩ := h.add hk hn hl hN a3 a1 a2 (by rw [← hw1]; exact ⟨rfl, rfl, rfl⟩) b2 b7 b6 ⟨b3, b4, b5⟩
  have x1 : w1.cell? ⟨p, 1, none⟩ = some (.map (some m)) := (World.cell?_of_block (a := ⟨p, 1, none⟩) (a2 p hpN)).trans h1
  have x2 : w2.cell? ⟨p, 2, none⟩ = some (ptr r) := (World.cell?_of_block (a := ⟨p, 2, none⟩) c1).trans h.c2
  have x3 : w2.cell? ⟨r, 2, none⟩ = some (ptr (lastOf r (bs L))) := by unfold World.cell?; rw [c2, show w.heap[r]? = some (ndP _ _ _ _) from h.ring]; rfl
  have x4 : (joined 2 w2 (lastOf r (bs L)) N).cell? ⟨p, 2, none⟩ = some (ptr r) := (World.cell?_of_block (a := ⟨p, 2, none⟩) d1).trans h.c2
  have J1 := hid (joinP_any (w := w2) c4 c3)
  have J2 := hid (joinP_any (w := joined 2 w2 (lastOf r (bs L)) N) d2 d3)
  have HP := hid (And.intro s1 s2)
  change Hid (SH kdP (joined 2 (joined 2 w2 (lastOf r (bs L)) N) N r) p most m r (L ++ [⟨N, k, v⟩]) ∧ Chg (foot p m r L) (foot p m r (L ++ [⟨N, k, v⟩])) w (joined 2 (joined 2 w2 (lastOf r (bs L)) N) N r)) at HP
  have b1' : (Instr.mapUpdate 132 (.map (some m)) (.string k) (ptr N)).run Try.prog w1 = .ok () w2 := b1
  generalize hw4 : joined 2 (joined 2 w2 (lastOf r (bs L)) N) N r = w4 at *
  generalize hw3 : joined 2 w2 (lastOf r (bs L)) N = w3 at *
  generalize lastOf r (bs L) = x at *
  generalize hL : (L.length : Int) = n at *
  generalize hq : (most : Int) = q at *
  rw [← hN]
  have HN := hid hN
  have hN' := hN.symm
  clear h hn hk hl hq hL a1 a2 a3 m1 b1 b2 b3 b4 b5 b6 b7 s1 s2 c1 c2 c3 c4 c5 d1 d2 d3 hpN hN hw3 hw4
  go_enter Try.func27, Try.ntmps27
  go_wp2
  go_region
  go_wp2_with fail
  refine J1.out.mono ?_
  rintro _ _ ⟨rfl, rfl⟩
  go_wp2_with fail
  refine J2.out.mono ?_
  rintro _ _ ⟨rfl, rfl⟩
  go_wp2
  go_ret
  exact ⟨rfl, HP.out⟩


end Go.Proofs.Ythhddpobnkmeaaa
namespace Go.Proofs.Ythhddpobnkmeaaa
open Go.RowKit
abbrev ndB (k : Bool) (_v : Unit) (a c : Value) : Obj := .cells #[.bool k, a, c] 137 (0, 0)
theorem setAB {w : World} {b : Nat} {k v a c} (h : w.heap[b]? = some (ndB k v a c)) (x : Value) : (w.setCell ⟨b, 1, none⟩ x).heap[b]? = some (ndB k v x c) := by unfold World.setCell; simp [Array.getElem?_modify, h]
theorem setBB {w : World} {b : Nat} {k v a c} (h : w.heap[b]? = some (ndB k v a c)) (x : Value) : (w.setCell ⟨b, 2, none⟩ x).heap[b]? = some (ndB k v a x) := by unfold World.setCell; simp [Array.getElem?_modify, h]
def kdB : Kd Bool Unit where
  nd := ndB
  zk := false
  zv := ()
  kv k := .bool k
  ok k := True
  ia := 1
  sty := 140
  mt := 138
  kt := 4
  et := 135
  map := Try.underlying138
  keyed := Maps.bool_keyed Try.underlying4
  zero := fun w => by kernel_rfl
  key := fun k _ => ⟨_, Maps.keyOf_bool_mk Try.underlying4 k⟩
  inj := fun {a b} h => by injection h
  setA := setAB
  setB := setBB
  notS := fun k v a c cs h => by injection h with _ h2; exact absurd h2 (by decide)
  notM := fun k v a c es n h => by cases h
theorem joinB_any {w : World} {a b : Nat} {k v x y k' v' x' y'} (ha : w.heap[a]? = some (ndB k v x y)) (hb : w.heap[b]? = some (ndB k' v' x' y')) :
    Calls Try.prog 56 #[ptr a, ptr b] w fun e w' => e = .returned (.tuple #[]) ∧ w' = joined 1 w a b := by
  have c1 : w.cell? ⟨a, 2, none⟩ = some y := by unfold World.cell?; rw [ha]; rfl
  have f1 : w.frozen? ⟨a, 2, none⟩ = false := by unfold World.frozen?; rw [ha]; rfl
  have hb2 : ∃ y2, (w.setCell ⟨a, 2, none⟩ (ptr b)).heap[b]? = some (ndB k' v' x' y2) := by
    by_cases e : b = a
    · subst e; exact ⟨_, setBB hb _⟩
    · exact ⟨_, (Below.heap_setCell _ _ _ _ e).trans hb⟩
  obtain ⟨y2, hb2⟩ := hb2
  have c2 : (w.setCell ⟨a, 2, none⟩ (ptr b)).cell? ⟨b, 1, none⟩ = some x' := by unfold World.cell?; rw [hb2]; rfl
  have f2 : (w.setCell ⟨a, 2, none⟩ (ptr b)).frozen? ⟨b, 1, none⟩ = false := by unfold World.frozen?; rw [hb2]; rfl
  clear hb2 ha hb
  go_enter Try.func56, Try.ntmps56
  go_wp2
  go_end0
  exact ⟨rfl, rfl⟩

theorem newB_bad (w : World) (n : Int) (h : (decide (n < 0) || decide (1048576 < n)) = true) :
    Calls Try.prog 24 #[.int .i64 n] w fun e w' => e = .returned (.tuple #[.pointer none, .int .i64 1]) ∧ w' = w := by
  cases h1 : decide (n < 0) <;> cases h2 : decide (1048576 < n)
  · simp [h1, h2] at h
  all_goals (
    clear h
    go_enter Try.func24, Try.ntmps24
    go_wp2
    go_ret2
    exact ⟨rfl, rfl⟩)
theorem newB_good (w : World) (n : Int) (k : Nat) (hk : n = k) (hm : k ≤ 1048576) :
    Calls Try.prog 24 #[.int .i64 n] w fun e w' => e = .returned (.tuple #[ptr (w.heap.size + 2), .int .i64 0]) ∧ SH kdB w' (w.heap.size + 2) k (w.heap.size + 1) w.heap.size [] ∧ Below w.heap.size w w' := by
  have h1 : decide (n < 0) = false := by simp; omega
  have h2 : decide (1048576 < n) = false := by simp; omega
  have hmk : ∀ w : World, (Instr.makeMap 138 none).run Try.prog w = .ok (.map (some w.heap.size)) (w.alloc (.map #[] 0)) := fun _ => rfl
  have HF := hid (SH.fresh kdB w k hm)
  rw [← hk] at HF
  clear hk hm
  go_enter Try.func24, Try.ntmps24
  go_wp2
  go_ret2
  exact ⟨rfl, HF.out⟩

theorem putB_full {w : World} {p m r : Nat} (h : SH kdB w p 0 m r []) :
    Calls Try.prog 29 #[ptr p, .bool true, .agg #[]] w fun e w' => e = .returned (.int .i64 140) ∧ Below w.heap.size w w' := by
  obtain ⟨w0, hw0⟩ : ∃ w0, w.alloc (.cells #[] 79) = w0 := ⟨_, rfl⟩
  have B0 : Below w.heap.size w w0 := by rw [← hw0]; exact (Below.refl _ _).alloc (Nat.le_refl _) _
  have h0 := h.below B0
  have h1 := h0.c1
  have h00 := h0.c0
  have h2 : (Instr.lookup 138 (.map (some m)) (.bool true) true).run Try.prog w0 = .ok (.tuple #[.pointer none, .bool false]) w0 := h0.mp.look_none (I := kdB) h0.ok (k := true) trivial (by simp)
  have h3 : ∀ ty, (Builtin.len_ #[138] ty #[.map (some m)]).run Try.prog w0.drew = .ok (.int .i64 0) w0.drew := h0.drew.mp.len
  have HB : Hid (Below w.heap.size w w0.drew) := B0.drew
  simp only [Int.natCast_zero] at h00
  clear h h0 B0
  go_enter Try.func29, Try.ntmps29
  go_wp2
  go_region
  all_goals (
    go_wp2
    go_ret
    exact ⟨rfl, HB.out⟩)
theorem getB_none {w : World} {p m r : Nat} (h : SH kdB w p 0 m r []) :
    Calls Try.prog 30 #[ptr p, .bool true] w fun e w' => e = .returned (.tuple #[.agg #[], .bool false]) ∧ Below w.heap.size w w' := by
  obtain ⟨w0, hw0⟩ : ∃ w0, w.alloc (.cells #[] 79) = w0 := ⟨_, rfl⟩
  have B0 : Below w.heap.size w w0 := by rw [← hw0]; exact (Below.refl _ _).alloc (Nat.le_refl _) _
  have h0 := h.below B0
  have h1 := h0.c1
  have h2 : (Instr.lookup 138 (.map (some m)) (.bool true) true).run Try.prog w0 = .ok (.tuple #[.pointer none, .bool false]) w0 := h0.mp.look_none (I := kdB) h0.ok (k := true) trivial (by simp)
  have HB : Hid (Below w.heap.size w (w0.alloc (.cells #[] 79))) := B0.alloc B0.size _
  clear h h0 B0
  go_enter Try.func30, Try.ntmps30
  go_wp2
  refine bodyPost_ret (v := .tuple #[.agg #[], .bool false]) (by simp [results, Try.results30, go_sem]) rfl ⟨rfl, HB.out⟩
end Go.Proofs.Ythhddpobnkmeaaa
