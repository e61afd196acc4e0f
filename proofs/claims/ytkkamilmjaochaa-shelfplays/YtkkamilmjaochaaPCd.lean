/- ShelfPlays: two sides and the book. Tags: 0 what came in, 4 the two numbers, 5 the list of sides, 100 .. and 200 .. the sides. -/
import Derived.Test.YtkkamilmjaochaaPCc
import Derived.Test.YtkkamilmjaochaaPKa
namespace Go.Proofs.Ytkkamilmjaochaa
open Go.RowKit
def ptrC (y : Nat) : List Value := [ptr y]
theorem ptrL (y : Nat) : (ptrC y).length = 1 := rfl
theorem ptrO (y : Nat) : ∀ u ∈ ptrC y, u.oneCell' = true := by
  intro u hu
  simp only [ptrC, List.mem_cons, List.not_mem_nil, or_false] at hu
  subst hu; rfl
theorem info36 : ∃ i : TypeInfo, Try.prog.info? 36 = some i ∧ i.zero = some (.pointer none) ∧ i.size = 1 ∧ i.bytes = 8 :=
  ⟨(Try.prog.info? 36).getD default, by kernel_rfl, by kernel_rfl, by kernel_rfl, by kernel_rfl⟩
theorem bld39 (w : World) : (Instr.build 39 #[(0, .pointer none), (1, .pointer none)]).run Try.prog w = .ok (.agg #[.pointer none, .pointer none, .slice none 0 0, .slice none 0 0]) w := by kernel_rfl
theorem bld39p (w : World) (a b : Nat) : (Instr.build 39 #[(0, ptr a), (1, ptr b)]).run Try.prog w = .ok (.agg #[ptr a, ptr b, .slice none 0 0, .slice none 0 0]) w := by kernel_rfl
theorem bld43 (w : World) : (Instr.build 43 #[]).run Try.prog w = .ok (.agg #[.slice none 0 0, .slice none 0 0, .slice none 0 0, .int .i64 0]) w := by kernel_rfl
theorem bls25 (w : World) (y : Nat) : (Instr.buildSlice 25 1 #[(0, ptr y)]).run Try.prog w = .ok (.slice (some ⟨w.heap.size, 0, none⟩) 1 1) (w.alloc (.cells #[ptr y] 36)) := by kernel_rfl
theorem bls26 (w : World) (a b : Int) : (Instr.buildSlice 26 2 #[(0, .int .i64 a), (1, .int .i64 b)]).run Try.prog w = .ok (.slice (some ⟨w.heap.size, 0, none⟩) 2 2) (w.alloc (.cells #[.int .i64 a, .int .i64 b] 3)) := by kernel_rfl
def SdN (K : Nat → Nat) (w : World) (β y : Nat) : Prop := TB K w β y (.cells #[.pointer none, .pointer none, .slice none 0 0, .slice none 0 0] 39)
def SdA (K : Nat → Nat) (w : World) (B β y x : Nat) : Prop := ∃ p m r most L, VOk L ∧ ∃ A W va vw, SD K w B β y p m r x most L L A W va vw
def Sd (K : Nat → Nat) (w : World) (B β y : Nat) : Prop := SdN K w β y ∨ ∃ x, SdA K w B β y x
theorem Sd.mv {T : Nat → Prop} {K K' : Nat → Nat} {w w' : World} {B β y : Nat} (h : Sd K w B β y) (m : Mv T w w' K K') (ht : ∀ t, T t → ¬ (β ≤ t ∧ t ≤ β + 5)) : Sd K' w' B β y := by
  have n : ∀ j, j ≤ 5 → ¬ T (β + j) := fun j hj e => ht _ e (by omega)
  rcases h with h | ⟨x, p, q, r, most, L, hV, A, W, va, vw, sd⟩
  · exact .inl (TB.mv h m (n 0 (by omega)))
  · exact .inr ⟨x, p, q, r, most, L, hV, A, W, va, vw, sd.mv m (n 0 (by omega)) (n 1 (by omega)) (n 2 (by omega)) (n 3 (by omega)) (n 4 (by omega)) (n 5 (by omega))⟩
structure LS (W : World) (K : Nat → Nat) (w : World) (v : Value) (ys : List Nat) : Prop where
  bs : BS W w K
  l : RW 36 1 ptrC K w W.heap.size 5 v ys
  sd : ∀ q y, ys[q]? = some y → Sd K w W.heap.size (100 + 100 * q) y
  two : ys.length ≤ 2
section
variable {W : World} {K K' : Nat → Nat} {w w' : World} {v : Value} {ys : List Nat} {bb N n : Nat}
theorem LS.mv {T : Nat → Prop} (h : LS W K w v ys) (m : Mv T w w' K K') (ht : ∀ t, T t → t = 1 ∨ t = 6 ∨ t = 7 ∨ t = 8 ∨ 1000 ≤ t) : LS W K' w' v ys :=
  have k : ∀ t, t ≠ 1 ∧ t ≠ 6 ∧ t ≠ 7 ∧ t ≠ 8 ∧ t < 1000 → ¬ T t := fun t h e => by have := ht t e; omega
  ⟨h.bs.mv m (k 0 (by omega)), h.l.mv m (k 5 (by omega)), fun q y hy => (h.sd q y hy).mv m (fun t e e2 => by
    have := ht t e
    have := (List.getElem?_eq_some_iff.1 hy).1
    have := h.two
    omega), h.two⟩
theorem LS.hB (h : LS W K w v ys) : W.heap.size ≤ w.heap.size := h.bs.be.size
theorem LS.ops {b off len : Nat} {O : Nat → OpP} (h : LS W K w v ys) (ho : OpsAt W b off len O) : OpsAt w b off len O := ho.below h.bs.be
theorem LS.cell {g cap m : Nat} (h : LS W K w (.slice (some ⟨g, 0, none⟩) m cap) ys) (hm : ys.length = m) {q y : Nat} (hy : ys[q]? = some y) : w.cell? ⟨g, q, none⟩ = some (ptr y) := by
  have := h.l.cell ptrL hm hy 0 (by omega)
  rw [Nat.mul_one, Nat.add_zero] at this
  exact this
/-- one side more -/
theorem LS.push {y : Nat} (h : LS W K w v ys) (hy : Sd K w W.heap.size (100 + 100 * ys.length) y) (hl : ys.length < 2) {S1 : Nat} {w1 : World} (hS1 : w.heap.size = S1) (hw1 : w.alloc (.cells #[ptr y] 36) = w1) :
    ∃ g c w2 K2, (∀ r, (Builtin.append_ #[25, 25] r #[v, .slice (some ⟨S1, 0, none⟩) 1 1]).run Try.prog w1 = .ok (.slice (some ⟨g, 0, none⟩) (ys.length + 1) c) w2) ∧ LS W K2 w2 (.slice (some ⟨g, 0, none⟩) (ys.length + 1) c) (ys ++ [y]) ∧ Mv (fun t => t = 5) w w2 K K2 := by
  have m1 : Mv (fun _ => False) w w1 K (ext w K (fun _ => 3)) := by rw [← hw1]; exact Mv.alloc _ _ _ _
  have h1 := h.mv m1 (fun _ h => h.elim)
  have hy1 := hy.mv m1 (fun _ h => h.elim)
  obtain ⟨i, hi, hz, hs, hby⟩ := info36
  obtain ⟨v', w', K', q1, q2, q3⟩ := RW.app (ty := 25) Try.underlying25 hi hz hs hby rfl (by omega) ptrL ptrO h1.l h1.hB (N := S1) (x := y) (cs := #[ptr y]) rfl (by rw [← hw1, ← hS1]; exact (MapKept.heap_alloc w _).1) (by omega) (by omega)
  obtain ⟨oa, c, e, _, hg⟩ := q2.form
  obtain ⟨g, rfl⟩ := hg (by rw [List.length_append]; simp)
  rw [List.length_append, List.length_singleton] at e
  subst e
  refine ⟨g, c, w', K', q1, ⟨h1.bs.mv q3 (by omega), q2, fun q y' hy' => ?_, by rw [List.length_append, List.length_singleton]; omega⟩, (m1.mono (fun _ h => h.elim)).trans q3⟩
  rcases Nat.lt_or_ge q ys.length with hq | hq
  · rw [List.getElem?_append_left hq] at hy'
    exact (h1.sd q y' hy').mv q3 (fun t e => by omega)
  · have hq2 := (List.getElem?_eq_some_iff.1 hy').1
    rw [List.length_append, List.length_singleton] at hq2
    obtain rfl : q = ys.length := by omega
    rw [List.getElem?_append_right (Nat.le_refl _), Nat.sub_self] at hy'
    cases hy'
    exact hy1.mv q3 (fun t e => by omega)
theorem SdA.y1 {B β y x : Nat} (h : SdA K w B β y x) : w.cell? ⟨y, 1, none⟩ = some (ptr x) := by obtain ⟨_, _, _, _, _, _, _, _, _, _, sd⟩ := h; exact sd.y1
theorem SdN.y1 {β y : Nat} (h : SdN K w β y) : w.cell? ⟨y, 1, none⟩ = some (.pointer none) := by unfold World.cell?; rw [TB.at_ h]; rfl
theorem LS.step {q y x : Nat} {o : OpP} (h : LS W K w v ys) (hb : BKx K w W.heap.size bb N n) (hy : ys[q]? = some y) (ha : SdA K w W.heap.size (100 + 100 * q) y x) (ho : I64 o.m ∧ I64 o.n) (hv : I64 o.v) (hk : KOk o.k) (hn : N + n ≤ 9000000000) :
    Calls Try.prog 11 #[ptr y, opV o, ptr bb] w fun e w' => e = .returned (.bool true) ∧ Hid (∃ K' n', n' ≤ n + 2 ∧ LS W K' w' v ys ∧ BKx K' w' W.heap.size bb N n') := by
  obtain ⟨p, m, r, most, L, hV, A, W', va, vw, sd⟩ := ha
  have hq := (List.getElem?_eq_some_iff.1 hy).1
  have h2 := h.two
  refine (step_any ⟨A, W', va, vw, sd⟩ hb (by omega) o ho hv hk hV hn).mono ?_
  rintro _ w' ⟨rfl, K', n', L', e1, e2, e3, e4, mv⟩
  refine ⟨rfl, K', n', e1, ⟨h.bs.mv mv (by unfold TZ TQ; omega), h.l.mv mv (by unfold TZ TQ; omega), fun q' y' hy' => ?_, h2⟩, e4⟩
  have hq' := (List.getElem?_eq_some_iff.1 hy').1
  by_cases e : q' = q
  · subst e
    rw [hy] at hy'
    cases hy'
    exact .inr ⟨x, p, m, r, most, L', e2, e3⟩
  · exact (h.sd q' y' hy').mv mv (fun t e5 => by unfold TZ TQ at e5; omega)
theorem LS.still (h : LS W K w v ys) (hb : BKx K w W.heap.size bb N n) (hn : N + n ≤ 9000000000) :
    Calls Try.prog 12 #[ptr bb] w fun e w' => e = .returned (.bool true) ∧ Hid (∃ K', LS W K' w' v ys ∧ BKx K' w' W.heap.size bb (N + n) 0) := by
  obtain ⟨vf, vw, va, FL, WL, AL, h1, h2⟩ := hb
  refine (still_any h1 (by omega)).mono ?_
  rintro _ w' ⟨rfl, K', va', AL', e1, mv⟩
  rw [h2] at e1
  exact ⟨rfl, K', h.mv mv (fun t e => by unfold TS3 at e; omega), _, _, _, _, _, _, e1, rfl⟩
theorem LS.alike {q y : Nat} (h : LS W K w v ys) (hb : BKx K w W.heap.size bb N n) (hy : ys[q]? = some y) :
    Calls Try.prog 13 #[ptr y] w fun e w' => e = .returned (.bool true) ∧ Hid (∃ K', LS W K' w' v ys ∧ BKx K' w' W.heap.size bb N n) := by
  rcases h.sd q y hy with h1 | ⟨x, p, m, r, most, L, hV, A, W', va, vw, sd⟩
  · refine (alike_nil w y _ _ _ (TB.at_ h1)).mono ?_
    rintro _ w' ⟨rfl, rfl⟩
    exact ⟨rfl, K, h, hb⟩
  · refine (alike_any sd).mono ?_
    rintro _ w' ⟨rfl, hbe⟩
    have mv := Mv.of_below hbe K (fun _ => 3)
    exact ⟨rfl, _, h.mv mv (fun _ e => e.elim), hb.mv mv (fun _ e => e.elim)⟩
/-- the shelf and the document's, made -/
theorem LS.make {mo : Int} {k : Nat} (h : LS W K w v ys) (hk : mo = k) (hm : k ≤ 1048576) {ga : Nat} {ob : Obj} (hg : TB K w 4 ga ob) :
    Calls Try.prog 8 #[.int .i64 mo] w fun e w' => ∃ p, e = .returned (.tuple #[ptr p, .int .i64 0]) ∧ Hid (∃ K' m r, LS W K' w' v ys ∧ TB K' w' 4 ga ob ∧ TS kdK K' w' (100 + 100 * ys.length + 3) p k m r []) := by
  refine (newK_good w mo k hk hm).mono ?_
  rintro _ w' ⟨rfl, s, hbe⟩
  obtain ⟨K', ts, mv⟩ := TS.made s hbe (by omega) K (100 + 100 * ys.length + 3)
  exact ⟨_, rfl, K', _, _, h.mv mv (fun _ e => e.elim), hg.mv mv id, ts⟩
theorem LS.doc {mo : Int} {k p m r : Nat} (h : LS W K w v ys) (hk : mo = k) (hm : k ≤ 1048576) {ga : Nat} {ob : Obj} (hg : TB K w 4 ga ob) (ts : TS kdK K w (100 + 100 * ys.length + 3) p k m r []) :
    Calls Try.prog 9 #[.int .i64 mo] w fun e w' => ∃ x, e = .returned (.tuple #[ptr x, .int .i64 0]) ∧ Hid (∃ K', LS W K' w' v ys ∧ TB K' w' 4 ga ob ∧ TS kdK K' w' (100 + 100 * ys.length + 3) p k m r [] ∧ DS K' w' W.heap.size (100 + 100 * ys.length + 4) x k (.slice none 0 0) []) := by
  refine (dnew_good w K W.heap.size (100 + 100 * ys.length + 4) mo k hk hm).mono ?_
  rintro _ w' ⟨x, K', rfl, ds, mv⟩
  exact ⟨x, rfl, K', h.mv mv (fun _ e => e.elim), hg.mv mv id, ts.mv mv id, ds⟩
/-- a side is made of them -/
theorem LS.sideA {k p m r x : Nat} (h : LS W K w v ys) {ga : Nat} {ob : Obj} (hg : TB K w 4 ga ob) (ts : TS kdK K w (100 + 100 * ys.length + 3) p k m r []) (ds : DS K w W.heap.size (100 + 100 * ys.length + 4) x k (.slice none 0 0) []) {S1 : Nat} {w1 : World} (hS1 : w.heap.size = S1) (hw1 : w.alloc (.cells #[ptr p, ptr x, .slice none 0 0, .slice none 0 0] 39) = w1) :
    ∃ K1, LS W K1 w1 v ys ∧ TB K1 w1 4 ga ob ∧ Sd K1 w1 W.heap.size (100 + 100 * ys.length) S1 := by
  have m1 : Mv (fun _ => False) w w1 K (ext w K (fun _ => 100 + 100 * ys.length)) := by rw [← hw1]; exact Mv.alloc _ _ _ _
  refine ⟨_, h.mv m1 (fun _ e => e.elim), hg.mv m1 id, .inr ⟨x, p, m, r, k, [], (fun z hz => by cases hz), [], [], .slice none 0 0, .slice none 0 0, ?_, RW.nil _ _ _ _ _ _ _, RW.nil _ _ _ _ _ _ _, ⟨[], rfl, ts.mv m1 id⟩, ⟨_, ds.mv m1 id id⟩⟩⟩
  have := TB.new w K (fun _ => 100 + 100 * ys.length) (.cells #[ptr p, ptr x, .slice none 0 0, .slice none 0 0] 39) (t := 100 + 100 * ys.length) rfl
  rw [hw1, hS1] at this
  exact this
theorem LS.sideN (h : LS W K w v ys) {ga : Nat} {ob : Obj} (hg : TB K w 4 ga ob) {S1 : Nat} {w1 : World} (hS1 : w.heap.size = S1) (hw1 : w.alloc (.cells #[.pointer none, .pointer none, .slice none 0 0, .slice none 0 0] 39) = w1) :
    ∃ K1, LS W K1 w1 v ys ∧ TB K1 w1 4 ga ob ∧ Sd K1 w1 W.heap.size (100 + 100 * ys.length) S1 := by
  have m1 : Mv (fun _ => False) w w1 K (ext w K (fun _ => 100 + 100 * ys.length)) := by rw [← hw1]; exact Mv.alloc _ _ _ _
  refine ⟨_, h.mv m1 (fun _ e => e.elim), hg.mv m1 id, .inl ?_⟩
  have := TB.new w K (fun _ => 100 + 100 * ys.length) (.cells #[.pointer none, .pointer none, .slice none 0 0, .slice none 0 0] 39) (t := 100 + 100 * ys.length) rfl
  rw [hw1, hS1] at this
  exact this
/-- the book is made -/
theorem LS.book (h : LS W K w v ys) {S1 : Nat} {w1 : World} (hS1 : w.heap.size = S1) (hw1 : w.alloc (.cells #[.slice none 0 0, .slice none 0 0, .slice none 0 0, .int .i64 0] 43) = w1) : ∃ K1, LS W K1 w1 v ys ∧ BKx K1 w1 W.heap.size S1 0 0 := by
  have m1 : Mv (fun _ => False) w w1 K (ext w K (fun _ => 1)) := by rw [← hw1]; exact Mv.alloc _ _ _ _
  have hb := TB.new w K (fun _ => 1) (.cells #[.slice none 0 0, .slice none 0 0, .slice none 0 0, .int .i64 0] 43) (t := 1) rfl
  rw [hw1, hS1] at hb
  exact ⟨_, h.mv m1 (fun _ e => e.elim), _, _, _, [], [], [], ⟨hb, RW.nil _ _ _ _ _ _ _, RW.nil _ _ _ _ _ _ _, RW.nil _ _ _ _ _ _ _, rfl, rfl, fun j s hs => by simp at hs, fun t s hs => by simp at hs, Nat.le_trans h.hB m1.size⟩, rfl⟩
end
end Go.Proofs.Ytkkamilmjaochaa
