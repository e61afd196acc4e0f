/- The shelf K: of KeyP and Int. -/
import Derived.Test.YtkkamilmjaochaaPAc
namespace Go.Proofs.Ytkkamilmjaochaa
open Go.RowKit
abbrev ndK (k : KeyP) (v : Int) (a c : Value) : Obj := .cells #[.string k.s, .int .i64 k.n, .int .i64 v, a, c] 99 (0, 0)
theorem setAK {w : World} {b : Nat} {k v a c} (h : w.heap[b]? = some (ndK k v a c)) (x : Value) : (w.setCell ⟨b, 3, none⟩ x).heap[b]? = some (ndK k v x c) := by unfold World.setCell; simp [Array.getElem?_modify, h]
theorem setBK {w : World} {b : Nat} {k v a c} (h : w.heap[b]? = some (ndK k v a c)) (x : Value) : (w.setCell ⟨b, 4, none⟩ x).heap[b]? = some (ndK k v a x) := by unfold World.setCell; simp [Array.getElem?_modify, h]
def kdK : Kd KeyP Int where
  nd := ndK
  zk := ⟨⟨#[]⟩, 0⟩
  zv := 0
  kv k := .agg #[.string k.s, .int .i64 k.n]
  ok k := k.s.size ≤ maxLen ∧ (Lit.int .i64 k.n).wf = true
  ia := 3
  sty := 102
  mt := 100
  kt := 32
  et := 97
  map := Try.underlying100
  keyed := keyed32
  zero := fun w => by kernel_rfl
  key := fun k h => key32 k h
  inj := fun {a b} h => by cases a; cases b; simp at h; simp [h]
  setA := setAK
  setB := setBK
  notS := fun k v a c cs h => by injection h with _ h2; exact absurd h2 (by decide)
  notM := fun k v a c es n h => by cases h
theorem joinK_any {w : World} {a b : Nat} {k v x y k' v' x' y'} (ha : w.heap[a]? = some (ndK k v x y)) (hb : w.heap[b]? = some (ndK k' v' x' y')) :
    Calls Try.prog 58 #[ptr a, ptr b] w fun e w' => e = .returned (.tuple #[]) ∧ w' = joined 3 w a b := by
  have c1 : w.cell? ⟨a, 4, none⟩ = some y := by unfold World.cell?; rw [ha]; rfl
  have f1 : w.frozen? ⟨a, 4, none⟩ = false := by unfold World.frozen?; rw [ha]; rfl
  have hb2 : ∃ y2, (w.setCell ⟨a, 4, none⟩ (ptr b)).heap[b]? = some (ndK k' v' x' y2) := by
    by_cases e : b = a
    · subst e; exact ⟨_, setBK hb _⟩
    · exact ⟨_, (Below.heap_setCell _ _ _ _ e).trans hb⟩
  obtain ⟨y2, hb2⟩ := hb2
  have c2 : (w.setCell ⟨a, 4, none⟩ (ptr b)).cell? ⟨b, 3, none⟩ = some x' := by unfold World.cell?; rw [hb2]; rfl
  have f2 : (w.setCell ⟨a, 4, none⟩ (ptr b)).frozen? ⟨b, 3, none⟩ = false := by unfold World.frozen?; rw [hb2]; rfl
  clear hb2 ha hb
  go_enter Try.func58, Try.ntmps58
  go_wp2
  go_end0
  exact ⟨rfl, rfl⟩

theorem newK_bad (w : World) (n : Int) (h : (decide (n < 0) || decide (1048576 < n)) = true) :
    Calls Try.prog 8 #[.int .i64 n] w fun e w' => e = .returned (.tuple #[.pointer none, .int .i64 1]) ∧ w' = w := by
  cases h1 : decide (n < 0) <;> cases h2 : decide (1048576 < n)
  · simp [h1, h2] at h
  all_goals (
    clear h
    go_enter Try.func8, Try.ntmps8
    go_wp2
    go_ret2
    exact ⟨rfl, rfl⟩)
theorem newK_good (w : World) (n : Int) (k : Nat) (hk : n = k) (hm : k ≤ 1048576) :
    Calls Try.prog 8 #[.int .i64 n] w fun e w' => e = .returned (.tuple #[ptr (w.heap.size + 2), .int .i64 0]) ∧ SH kdK w' (w.heap.size + 2) k (w.heap.size + 1) w.heap.size [] ∧ Below w.heap.size w w' := by
  have h1 : decide (n < 0) = false := by simp; omega
  have h2 : decide (1048576 < n) = false := by simp; omega
  have hmk : ∀ w : World, (Instr.makeMap 100 none).run Try.prog w = .ok (.map (some w.heap.size)) (w.alloc (.map #[] 0)) := fun _ => rfl
  have HF := hid (SH.fresh kdK w k hm)
  rw [← hk] at HF
  clear hk hm
  go_enter Try.func8, Try.ntmps8
  go_wp2
  go_ret2
  exact ⟨rfl, HF.out⟩
theorem lenK_any {w : World} {p most m r : Nat} {L : List (Th KeyP Int)} (h : SH kdK w p most m r L) :
    Calls Try.prog 50 #[ptr p] w fun e w' => e = .returned (.int .i64 L.length) ∧ w' = w := by
  have h1 := h.c1
  have h2 : ∀ ty, (Builtin.len_ #[100] ty #[.map (some m)]).run Try.prog w = .ok (.int .i64 L.length) w := h.mp.len
  generalize L.length = n at *
  clear h
  go_enter Try.func50, Try.ntmps50
  go_wp2
  go_ret
  exact ⟨rfl, rfl⟩

theorem getK_some {w : World} {p most m r : Nat} {L : List (Th KeyP Int)} (h : SH kdK w p most m r L) {t : Th KeyP Int} (ht : t ∈ L) :
    Calls Try.prog 41 #[ptr p, (fun k : KeyP => .agg #[.string k.s, .int .i64 k.n]) t.k] w fun e w' => e = .returned (.tuple #[(fun v : Int => .int .i64 v) t.v, .bool true]) ∧ Below w.heap.size w w' := by
  obtain ⟨w0, hw0⟩ : ∃ w0, w.alloc (.cells ((fun k : KeyP => #[.string k.s, .int .i64 k.n]) t.k) 32) = w0 := ⟨_, rfl⟩
  have B0 : Below w.heap.size w w0 := by rw [← hw0]; exact (Below.refl _ _).alloc (Nat.le_refl _) _
  have kb : w0.heap[w.heap.size]? = some (.cells ((fun k : KeyP => #[.string k.s, .int .i64 k.n]) t.k) 32) := by rw [← hw0]; exact (MapKept.heap_alloc w _).1
  have h0 := h.below B0
  have HB : Hid (Below w.heap.size w w0.drew) := B0.drew
  have h1 := h0.c1
  have h2 : (Instr.lookup 100 (.map (some m)) ((fun k : KeyP => .agg #[.string k.s, .int .i64 k.n]) t.k) true).run Try.prog w0.drew = .ok (.tuple #[ptr t.b, .bool true]) w0.drew := h0.drew.mp.look_some h0.ok h0.kd ht
  obtain ⟨a, c, h3⟩ := h0.node (List.mem_cons_of_mem _ ht)
  obtain ⟨b, k, v⟩ := t
  have h4 : w0.cell? ⟨b, 2, none⟩ = some (.int .i64 v) := by unfold World.cell?; rw [show w0.heap[b]? = some (ndK k v a c) from h3]; rfl
  obtain ⟨A0, hA⟩ : ∃ A0, w.heap.size = A0 := ⟨_, rfl⟩
  rw [hA] at kb HB ⊢
  have cK0 : w0.cell? ⟨A0, 0, none⟩ = some (.string k.s) := by unfold World.cell?; rw [kb]; rfl
  have cK1 : w0.cell? ⟨A0, 1, none⟩ = some (.int .i64 k.n) := by unfold World.cell?; rw [kb]; rfl
  clear h h0 h3 B0 kb
  simp only at h2 hw0
  go_enter Try.func41, Try.ntmps41
  go_wp2
  go_region
  all_goals (
    go_wp2
    go_ret2
    exact ⟨rfl, HB.out⟩)
theorem getK_none {w : World} {p most m r : Nat} {L : List (Th KeyP Int)} (h : SH kdK w p most m r L) (k : KeyP) (hk : k.s.size ≤ maxLen ∧ (Lit.int .i64 k.n).wf = true) (hn : ∀ t ∈ L, t.k ≠ k) :
    Calls Try.prog 41 #[ptr p, .agg #[.string k.s, .int .i64 k.n]] w fun e w' => e = .returned (.tuple #[(fun v : Int => .int .i64 v) 0, .bool false]) ∧ Below w.heap.size w w' := by
  obtain ⟨w0, hw0⟩ : ∃ w0, w.alloc (.cells #[.string k.s, .int .i64 k.n] 32) = w0 := ⟨_, rfl⟩
  have B0 : Below w.heap.size w w0 := by rw [← hw0]; exact (Below.refl _ _).alloc (Nat.le_refl _) _
  have kb : w0.heap[w.heap.size]? = some (.cells #[.string k.s, .int .i64 k.n] 32) := by rw [← hw0]; exact (MapKept.heap_alloc w _).1
  have h0 := h.below B0
  have HB : Hid (Below w.heap.size w w0.drew) := B0.drew
  have h1 := h0.c1
  have h2 : (Instr.lookup 100 (.map (some m)) (.agg #[.string k.s, .int .i64 k.n]) true).run Try.prog w0.drew = .ok (.tuple #[.pointer none, .bool false]) w0.drew := h0.drew.mp.look_none h0.ok hk hn
  obtain ⟨A0, hA⟩ : ∃ A0, w.heap.size = A0 := ⟨_, rfl⟩
  rw [hA] at kb HB ⊢
  have cK0 : w0.cell? ⟨A0, 0, none⟩ = some (.string k.s) := by unfold World.cell?; rw [kb]; rfl
  have cK1 : w0.cell? ⟨A0, 1, none⟩ = some (.int .i64 k.n) := by unfold World.cell?; rw [kb]; rfl
  clear h h0 hn hk B0 kb
  go_enter Try.func41, Try.ntmps41
  go_wp2
  go_region
  all_goals (
    go_wp2
    go_ret2
    exact ⟨rfl, HB.out⟩)
theorem setVK {w : World} {b : Nat} {k v a c} (h : w.heap[b]? = some (ndK k v a c)) (x : Int) : (w.setCell ⟨b, 2, none⟩ ((fun v : Int => .int .i64 v) x)).heap[b]? = some (ndK k x a c) := by unfold World.setCell; simp [Array.getElem?_modify, h]
theorem putK_some {w : World} {p most m r : Nat} {A B : List (Th KeyP Int)} {t : Th KeyP Int} (h : SH kdK w p most m r (A ++ t :: B)) (v : Int) :
    Calls Try.prog 39 #[ptr p, (fun k : KeyP => .agg #[.string k.s, .int .i64 k.n]) t.k, .int .i64 v] w fun e w' => e = .returned (.int .i64 0) ∧ SH kdK w' p most m r (A ++ ⟨t.b, t.k, v⟩ :: B) ∧ Chg (foot p m r (A ++ t :: B)) (foot p m r (A ++ ⟨t.b, t.k, v⟩ :: B)) w w' := by
  obtain ⟨w0, hw0⟩ : ∃ w0, w.alloc (.cells ((fun k : KeyP => #[.string k.s, .int .i64 k.n]) t.k) 32) = w0 := ⟨_, rfl⟩
  have B0 : Below w.heap.size w w0 := by rw [← hw0]; exact (Below.refl _ _).alloc (Nat.le_refl _) _
  have kb : w0.heap[w.heap.size]? = some (.cells ((fun k : KeyP => #[.string k.s, .int .i64 k.n]) t.k) 32) := by rw [← hw0]; exact (MapKept.heap_alloc w _).1
  have h0 := h.below B0
  have h1 := h0.c1
  have ht : t ∈ A ++ t :: B := by simp
  have h2 : (Instr.lookup 100 (.map (some m)) ((fun k : KeyP => .agg #[.string k.s, .int .i64 k.n]) t.k) true).run Try.prog w0.drew = .ok (.tuple #[ptr t.b, .bool true]) w0.drew := h0.drew.mp.look_some h0.ok h0.kd ht
  obtain ⟨a, c, h3⟩ := h0.node (List.mem_cons_of_mem _ ht)
  have HS := hid (h0.drew.write (w' := w0.drew.setCell ⟨t.b, 2, none⟩ (.int .i64 v)) v (fun a c e => setVK (k := t.k) (v := t.v) e v) (fun x hx => Below.heap_setCell _ _ _ _ hx))
  have HC : Hid (Chg (foot p m r (A ++ t :: B)) (foot p m r (A ++ ⟨t.b, t.k, v⟩ :: B)) w (w0.drew.setCell ⟨t.b, 2, none⟩ (.int .i64 v))) :=
    (Chg.of_below (w' := w0.drew) _ B0.drew).trans ⟨rfl, rfl, rfl, by simp, fun x _ hx => Below.heap_setCell _ _ _ _ (fun e => hx (by simp [show x = t.b from e])), fun x hx => .inl (by simpa using hx)⟩
  obtain ⟨b, k, u⟩ := t
  have h4 : w0.cell? ⟨b, 2, none⟩ = some ((fun v : Int => .int .i64 v) u) := by unfold World.cell?; rw [show w0.heap[b]? = some (ndK k u a c) from h3]; rfl
  have h5 : w0.frozen? ⟨b, 2, none⟩ = false := by unfold World.frozen?; rw [show w0.heap[b]? = some (ndK k u a c) from h3]; rfl
  obtain ⟨A0, hA⟩ : ∃ A0, w.heap.size = A0 := ⟨_, rfl⟩
  rw [hA] at kb
  have cK0 : w0.cell? ⟨A0, 0, none⟩ = some (.string k.s) := by unfold World.cell?; rw [kb]; rfl
  have cK1 : w0.cell? ⟨A0, 1, none⟩ = some (.int .i64 k.n) := by unfold World.cell?; rw [kb]; rfl
  clear h h0 h3 ht kb B0
  simp only at h2 HS HC hw0
  go_enter Try.func39, Try.ntmps39
  go_wp2
  go_region
  all_goals (
    go_wp2
    go_ret
    exact ⟨rfl, HS.out, HC.out⟩)
theorem putK_full {w : World} {p most m r : Nat} {L : List (Th KeyP Int)} (h : SH kdK w p most m r L) (k : KeyP) (v : Int) (hk : k.s.size ≤ maxLen ∧ (Lit.int .i64 k.n).wf = true) (hn : ∀ t ∈ L, t.k ≠ k) (hl : L.length = most) :
    Calls Try.prog 39 #[ptr p, .agg #[.string k.s, .int .i64 k.n], .int .i64 v] w fun e w' => e = .returned (.int .i64 140) ∧ SH kdK w' p most m r L ∧ Chg (foot p m r L) (foot p m r L) w w' := by
  obtain ⟨w0, hw0⟩ : ∃ w0, w.alloc (.cells #[.string k.s, .int .i64 k.n] 32) = w0 := ⟨_, rfl⟩
  have B0 : Below w.heap.size w w0 := by rw [← hw0]; exact (Below.refl _ _).alloc (Nat.le_refl _) _
  have kb : w0.heap[w.heap.size]? = some (.cells #[.string k.s, .int .i64 k.n] 32) := by rw [← hw0]; exact (MapKept.heap_alloc w _).1
  have h0 := h.below B0
  have h1 := h0.c1
  have h00 := h0.c0
  have h2 : (Instr.lookup 100 (.map (some m)) (.agg #[.string k.s, .int .i64 k.n]) true).run Try.prog w0.drew = .ok (.tuple #[.pointer none, .bool false]) w0.drew := h0.drew.mp.look_none h0.ok hk hn
  have h3 : ∀ ty, (Builtin.len_ #[100] ty #[.map (some m)]).run Try.prog w0.drew.drew = .ok (.int .i64 most) w0.drew.drew := fun ty => by rw [← hl]; exact h0.drew.drew.mp.len ty
  have HP : Hid (SH kdK w0.drew.drew p most m r L ∧ Chg (foot p m r L) (foot p m r L) w w0.drew.drew) := ⟨h0.drew.drew, Chg.of_below _ B0.drew.drew⟩
  obtain ⟨A0, hA⟩ : ∃ A0, w.heap.size = A0 := ⟨_, rfl⟩
  rw [hA] at kb
  have cK0 : w0.cell? ⟨A0, 0, none⟩ = some (.string k.s) := by unfold World.cell?; rw [kb]; rfl
  have cK1 : w0.cell? ⟨A0, 1, none⟩ = some (.int .i64 k.n) := by unfold World.cell?; rw [kb]; rfl
  generalize hq : (most : Int) = q at h00 h3
  clear h h0 hn hk hl hq kb B0
  go_enter Try.func39, Try.ntmps39
  go_wp2
  go_region
  go_wp2
  go_region
  all_goals (
    go_wp2
    go_ret
    exact ⟨rfl, HP.out⟩)
set_option maxRecDepth 4000 in
theorem putK_new {w : World} {p most m r : Nat} {L : List (Th KeyP Int)} (h : SH kdK w p most m r L) (k : KeyP) (v : Int) (hk : k.s.size ≤ maxLen ∧ (Lit.int .i64 k.n).wf = true) (hn : ∀ t ∈ L, t.k ≠ k) (hl : L.length < most) :
    Calls Try.prog 39 #[ptr p, .agg #[.string k.s, .int .i64 k.n], .int .i64 v] w fun e w' => ∃ b, e = .returned (.int .i64 0) ∧ SH kdK w' p most m r (L ++ [⟨b, k, v⟩]) ∧ Chg (foot p m r L) (foot p m r (L ++ [⟨b, k, v⟩])) w w' := by
  obtain ⟨w0, hw0⟩ : ∃ w0, w.alloc (.cells #[.string k.s, .int .i64 k.n] 32) = w0 := ⟨_, rfl⟩
  have B0 : Below w.heap.size w w0 := by rw [← hw0]; exact (Below.refl _ _).alloc (Nat.le_refl _) _
  have kb : w0.heap[w.heap.size]? = some (.cells #[.string k.s, .int .i64 k.n] 32) := by rw [← hw0]; exact (MapKept.heap_alloc w _).1
  have h0 := h.below B0
  have h1 := h0.c1
  have h00 := h0.c0
  have h2 : (Instr.lookup 100 (.map (some m)) (.agg #[.string k.s, .int .i64 k.n]) true).run Try.prog w0.drew = .ok (.tuple #[.pointer none, .bool false]) w0.drew := h0.drew.mp.look_none h0.ok hk hn
  have h3 : ∀ ty, (Builtin.len_ #[100] ty #[.map (some m)]).run Try.prog w0.drew.drew = .ok (.int .i64 L.length) w0.drew.drew := h0.drew.drew.mp.len
  have h4 : decide ((most : Int) ≤ (L.length : Int)) = false := by simp; omega
  obtain ⟨N, hN⟩ : ∃ N, N = w0.heap.size := ⟨_, rfl⟩
  obtain ⟨w1, hw1⟩ : ∃ w1, w0.drew.drew.alloc (.cells #[.string k.s, .int .i64 k.n, .int .i64 v, .pointer none, .pointer none] 99) = w1 := ⟨_, rfl⟩
  have a1 : w1.drew.heap[N]? = some (ndK k v (.pointer none) (.pointer none)) := by rw [← hw1, hN]; exact (MapKept.heap_alloc w0.drew.drew _).1
  have a2 : ∀ x, x < N → w1.drew.heap[x]? = w0.heap[x]? := fun x hx => by rw [← hw1]; exact Below.heap_alloc w0.drew.drew _ _ (show x < w0.heap.size by rw [← hN]; exact hx)
  have a3 : w1.drew.heap.size = N + 1 := by rw [← hw1, hN]; simp
  have hpN : p < N := by rw [hN]; exact h0.lt p (by simp)
  have hAN : w.heap.size < N := by rw [hN, ← hw0]; simp
  have m1 : MP kdK w1.drew m L := h0.mp.kept (a2 m (by rw [hN]; exact h0.lt m (by simp)))
  obtain ⟨w2, b1, b2, b3, b4, b5, b6, b7⟩ := m1.store h0.ok hk hn N v
  obtain ⟨s1, s2, ⟨c1, c2, c3, ⟨_, _, _, _, c4⟩, c5⟩, ⟨d1, ⟨_, _, _, _, d2⟩, ⟨_, _, _, _, d3⟩⟩⟩ := h0.add hk hn hl hN a3 a1 a2 (by rw [← hw1]; exact ⟨rfl, rfl, rfl⟩) b2 b7 b6 ⟨b3, b4, b5⟩
  have x1 : w1.cell? ⟨p, 1, none⟩ = some (.map (some m)) := (World.cell?_of_block (w' := w1) (a := ⟨p, 1, none⟩) (a2 p hpN)).trans h1
  have x2 : w2.cell? ⟨p, 2, none⟩ = some (ptr r) := (World.cell?_of_block (a := ⟨p, 2, none⟩) c1).trans h0.c2
  have x3 : w2.cell? ⟨r, 3, none⟩ = some (ptr (lastOf r (bs L))) := by unfold World.cell?; rw [c2, show w0.heap[r]? = some (ndK _ _ _ _) from h0.ring]; rfl
  have x4 : (joined 3 w2 (lastOf r (bs L)) N).cell? ⟨p, 2, none⟩ = some (ptr r) := (World.cell?_of_block (a := ⟨p, 2, none⟩) d1).trans h0.c2
  have kb1 : w1.heap[w.heap.size]? = some (.cells #[.string k.s, .int .i64 k.n] 32) := (a2 _ hAN).trans kb
  have J1 := hid (joinK_any (w := w2) c4 c3)
  have J2 := hid (joinK_any (w := joined 3 w2 (lastOf r (bs L)) N) d2 d3)
  have HP := hid (And.intro s1 ((Chg.of_below _ B0).trans s2))
  change Hid (SH kdK (joined 3 (joined 3 w2 (lastOf r (bs L)) N) N r) p most m r (L ++ [⟨N, k, v⟩]) ∧ Chg (foot p m r L) (foot p m r (L ++ [⟨N, k, v⟩])) w (joined 3 (joined 3 w2 (lastOf r (bs L)) N) N r)) at HP
  have b1' : (Instr.mapUpdate 100 (.map (some m)) (.agg #[.string k.s, .int .i64 k.n]) (ptr N)).run Try.prog w1.drew = .ok () w2 := b1
  generalize hw4 : joined 3 (joined 3 w2 (lastOf r (bs L)) N) N r = w4 at *
  generalize hw3 : joined 3 w2 (lastOf r (bs L)) N = w3 at *
  generalize lastOf r (bs L) = x at *
  generalize hL : (L.length : Int) = n at *
  generalize hq : (most : Int) = q at *
  have hN' := hN.symm
  obtain ⟨A0, hA⟩ : ∃ A0, w.heap.size = A0 := ⟨_, rfl⟩
  rw [hA] at kb kb1
  have cK0 : w0.cell? ⟨A0, 0, none⟩ = some (.string k.s) := by unfold World.cell?; rw [kb]; rfl
  have cK1 : w0.cell? ⟨A0, 1, none⟩ = some (.int .i64 k.n) := by unfold World.cell?; rw [kb]; rfl
  have dK0 : w1.cell? ⟨A0, 0, none⟩ = some (.string k.s) := by unfold World.cell?; rw [kb1]; rfl
  have dK1 : w1.cell? ⟨A0, 1, none⟩ = some (.int .i64 k.n) := by unfold World.cell?; rw [kb1]; rfl
  clear h h0 hn hk hl hq hL a1 a2 a3 m1 b1 b2 b3 b4 b5 b6 b7 s1 s2 c1 c2 c3 c4 c5 d1 d2 d3 hpN hN hw3 hw4 kb kb1 hAN B0
  go_enter Try.func39, Try.ntmps39
  go_wp2
  go_region
  go_wp2
  go_region
  go_wp2
  go_region
  all_goals (
    go_wp2_with fail
    refine J1.out.mono ?_
    rintro _ _ ⟨rfl, rfl⟩
    go_wp2_with fail
    refine J2.out.mono ?_
    rintro _ _ ⟨rfl, rfl⟩
    go_wp2
    go_ret
    exact ⟨_, rfl, HP.out⟩)
theorem dropK_none {w : World} {p most m r : Nat} {L : List (Th KeyP Int)} (h : SH kdK w p most m r L) (k : KeyP) (hk : k.s.size ≤ maxLen ∧ (Lit.int .i64 k.n).wf = true) (hn : ∀ t ∈ L, t.k ≠ k) :
    Calls Try.prog 43 #[ptr p, .agg #[.string k.s, .int .i64 k.n]] w fun e w' => e = .returned (.int .i64 141) ∧ Below w.heap.size w w' := by
  obtain ⟨w0, hw0⟩ : ∃ w0, w.alloc (.cells #[.string k.s, .int .i64 k.n] 32) = w0 := ⟨_, rfl⟩
  have B0 : Below w.heap.size w w0 := by rw [← hw0]; exact (Below.refl _ _).alloc (Nat.le_refl _) _
  have kb : w0.heap[w.heap.size]? = some (.cells #[.string k.s, .int .i64 k.n] 32) := by rw [← hw0]; exact (MapKept.heap_alloc w _).1
  have h0 := h.below B0
  have HB : Hid (Below w.heap.size w w0.drew) := B0.drew
  have h1 := h0.c1
  have h2 : (Instr.lookup 100 (.map (some m)) (.agg #[.string k.s, .int .i64 k.n]) true).run Try.prog w0.drew = .ok (.tuple #[.pointer none, .bool false]) w0.drew := h0.drew.mp.look_none h0.ok hk hn
  obtain ⟨A0, hA⟩ : ∃ A0, w.heap.size = A0 := ⟨_, rfl⟩
  rw [hA] at kb HB ⊢
  have cK0 : w0.cell? ⟨A0, 0, none⟩ = some (.string k.s) := by unfold World.cell?; rw [kb]; rfl
  have cK1 : w0.cell? ⟨A0, 1, none⟩ = some (.int .i64 k.n) := by unfold World.cell?; rw [kb]; rfl
  clear h h0 hn hk B0 kb
  go_enter Try.func43, Try.ntmps43
  go_wp2
  go_region
  all_goals (
    go_wp2
    go_ret
    exact ⟨rfl, HB.out⟩)
set_option maxRecDepth 4000 in
theorem dropK_some {w : World} {p most m r : Nat} {A B : List (Th KeyP Int)} {t : Th KeyP Int} (h : SH kdK w p most m r (A ++ t :: B)) :
    Calls Try.prog 43 #[ptr p, (fun k : KeyP => .agg #[.string k.s, .int .i64 k.n]) t.k] w fun e w' => e = .returned (.int .i64 0) ∧ SH kdK w' p most m r (A ++ B) ∧ Chg (foot p m r (A ++ t :: B)) (foot p m r (A ++ B)) w w' := by
  obtain ⟨w0, hw0⟩ : ∃ w0, w.alloc (.cells ((fun k : KeyP => #[.string k.s, .int .i64 k.n]) t.k) 32) = w0 := ⟨_, rfl⟩
  have B0 : Below w.heap.size w w0 := by rw [← hw0]; exact (Below.refl _ _).alloc (Nat.le_refl _) _
  have kb : w0.heap[w.heap.size]? = some (.cells ((fun k : KeyP => #[.string k.s, .int .i64 k.n]) t.k) 32) := by rw [← hw0]; exact (MapKept.heap_alloc w _).1
  have h0 := h.below B0
  have h1 := h0.c1
  have ht : t ∈ A ++ t :: B := by simp
  have h2 : (Instr.lookup 100 (.map (some m)) ((fun k : KeyP => .agg #[.string k.s, .int .i64 k.n]) t.k) true).run Try.prog w0.drew = .ok (.tuple #[ptr t.b, .bool true]) w0.drew := h0.drew.mp.look_some h0.ok h0.kd ht
  obtain ⟨w1, b1, b2, b3, b4, b5, b6, b7⟩ := h0.drew.drew.mp.drop h0.ok h0.kd 0
  obtain ⟨s1, s2, c1, ⟨_, _, _, _, c2⟩, ⟨_, _, _, _, c3⟩⟩ := h0.drew.drew.less (w1 := w1.drew) b2 b7 b6 ⟨b3, b4, b5⟩
  have HP := hid (And.intro s1 ((Chg.of_below _ B0.drew.drew).trans s2))
  change Hid (SH kdK (joined 3 w1.drew (lastOf r (bs A)) (headOf (bs B) r)) p most m r (A ++ B) ∧ Chg (foot p m r (A ++ t :: B)) (foot p m r (A ++ B)) w (joined 3 w1.drew (lastOf r (bs A)) (headOf (bs B) r))) at HP
  have J := hid (joinK_any (w := w1.drew) c2 c3)
  have x1 : w1.cell? ⟨t.b, 3, none⟩ = some (ptr (lastOf r (bs A))) := by unfold World.cell?; rw [show w1.heap[t.b]? = some (ndK _ _ _ _) from c1]; rfl
  have x2 : w1.cell? ⟨t.b, 4, none⟩ = some (ptr (headOf (bs B) r)) := by unfold World.cell?; rw [show w1.heap[t.b]? = some (ndK _ _ _ _) from c1]; rfl
  have b1' : (Builtin.delete_ #[100, 32] 0 #[.map (some m), (fun k : KeyP => .agg #[.string k.s, .int .i64 k.n]) t.k]).run Try.prog w0.drew.drew = .ok (.tuple #[]) w1 := b1
  generalize hw4 : joined 3 w1.drew (lastOf r (bs A)) (headOf (bs B) r) = w4 at *
  generalize lastOf r (bs A) = x at *
  generalize headOf (bs B) r = y at *
  obtain ⟨b, k, u⟩ := t
  simp only at h2 HP x1 x2 b1' hw0 kb
  obtain ⟨A0, hA⟩ : ∃ A0, w.heap.size = A0 := ⟨_, rfl⟩
  rw [hA] at kb
  have cK0 : w0.cell? ⟨A0, 0, none⟩ = some (.string k.s) := by unfold World.cell?; rw [kb]; rfl
  have cK1 : w0.cell? ⟨A0, 1, none⟩ = some (.int .i64 k.n) := by unfold World.cell?; rw [kb]; rfl
  clear h h0 ht b1 b2 b3 b4 b5 b6 b7 s1 s2 c1 c2 c3 hw4 kb B0
  go_enter Try.func43, Try.ntmps43
  go_wp2_with fail
  go_region
  go_wp2_with fail
  go_region
  go_wp2_with fail
  go_region_with (first | (go_at_call 58; refine J.out.mono ?_; rintro _ _ ⟨rfl, rfl⟩))
  all_goals (
    go_wp2
    go_ret
    exact ⟨rfl, HP.out⟩)
end Go.Proofs.Ytkkamilmjaochaa
