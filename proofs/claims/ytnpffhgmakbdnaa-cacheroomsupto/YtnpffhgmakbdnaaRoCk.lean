/- A script and four numbers that are handed in, opened. -/
import Derived.Test.YtnpffhgmakbdnaaRoFr
import Derived.Test.YtnpffhgmakbdnaaRoOb
import Derived.SizedLaws
namespace Go.Proofs.Ytnpffhgmakbdnaa
open Go.ChangeMaps Go.ChangeShapes Go.WideShapes Go.ChangeAt Go.RowKit
theorem wf_i64 {n : Int} (h : (Lit.int .i64 n).wf = true) : In64 n := by
  have hmin : IntKind.i64.min = -9223372036854775808 := rfl
  have hmax : IntKind.i64.max = 9223372036854775807 := rfl
  simp only [Lit.wf, Bool.and_eq_true, decide_eq_true_eq] at h
  unfold In64
  omega
theorem list2 {α : Type} (l : List α) (h : l.length = 2) : ∃ a b, l = [a, b] := by
  match l, h with
  | [a, b], _ => exact ⟨a, b, rfl⟩
theorem list4 {α : Type} (l : List α) (h : l.length = 4) : ∃ a b c d, l = [a, b, c, d] := by
  match l, h with
  | [a, b, c, d], _ => exact ⟨a, b, c, d, rfl⟩
theorem list8 {α : Type} (l : List α) (h : l.length = 8) : ∃ a b c d e f g i, l = [a, b, c, d, e, f, g, i] := by
  match l, h with
  | [a, b, c, d, e, f, g, i], _ => exact ⟨a, b, c, d, e, f, g, i, rfl⟩
theorem list9 {α : Type} (l : List α) (h : l.length = 9) : ∃ a b c d e f g i j, l = [a, b, c, d, e, f, g, i, j] := by
  match l, h with
  | [a, b, c, d, e, f, g, i, j], _ => exact ⟨a, b, c, d, e, f, g, i, j, rfl⟩
theorem cells4 : Try.prog.cellsOf 4 = 1 := by kernel_rfl
theorem cells9 : Try.prog.cellsOf 9 = 1 := by kernel_rfl
/-- One step, in its nine cells. -/
structure OpAt (w : World) (a : Addr) (i : Nat) (x : OpR) : Prop where
  c : ∀ k, k < 9 → w.cell? (a.add (i * 9 + k)) = (opC x)[k]?
  ok : OpOk x
theorem op_at {H : Type} {enc : TypeId × Value → H} {w : World} {base : Nat} {sp : Nat → Bool} {held : Bool} {n : Nat} {a : Addr} {i : Nat} {cs : List Value} {x : DataW H × List MemPlace}
    (h1 : w.cells? base (a.add (i * 9)) 9 = some cs) (h2 : DataW.trod enc Try.prog w base sp held n 39 cs = some x) : ∃ y, OpAt w a i y := by
  obtain ⟨_, hlen, hcell⟩ := World.cells?_some h1
  obtain ⟨xs, k, _, _, _, hxl, hf⟩ := DataW.trod_struct Try.underlying39 h2
  obtain ⟨y0, y1, y2, y3, y4, y5, y6, y7, rfl⟩ := list8 xs hxl
  obtain ⟨v0, v1, v2, v3, v4, v5, v6, v7, v8, rfl⟩ := list9 cs hlen
  have g0 : DataW.trod enc Try.prog w base sp held k 4 (([v0, v1, v2, v3, v4, v5, v6, v7, v8].drop 0).take (Try.prog.cellsOf 4)) = some y0 := hf 0 _ rfl
  have g1 : DataW.trod enc Try.prog w base sp held k 4 (([v0, v1, v2, v3, v4, v5, v6, v7, v8].drop 1).take (Try.prog.cellsOf 4)) = some y1 := hf 1 _ rfl
  have g2 : DataW.trod enc Try.prog w base sp held k 3 (([v0, v1, v2, v3, v4, v5, v6, v7, v8].drop 2).take (Try.prog.cellsOf 3)) = some y2 := hf 2 _ rfl
  have g3 : DataW.trod enc Try.prog w base sp held k 3 (([v0, v1, v2, v3, v4, v5, v6, v7, v8].drop 3).take (Try.prog.cellsOf 3)) = some y3 := hf 3 _ rfl
  have g4 : DataW.trod enc Try.prog w base sp held k 3 (([v0, v1, v2, v3, v4, v5, v6, v7, v8].drop 4).take (Try.prog.cellsOf 3)) = some y4 := hf 4 _ rfl
  have g5 : DataW.trod enc Try.prog w base sp held k 3 (([v0, v1, v2, v3, v4, v5, v6, v7, v8].drop 5).take (Try.prog.cellsOf 3)) = some y5 := hf 5 _ rfl
  have g6 : DataW.trod enc Try.prog w base sp held k 37 (([v0, v1, v2, v3, v4, v5, v6, v7, v8].drop 6).take (Try.prog.cellsOf 37)) = some y6 := hf 6 _ rfl
  have g7 : DataW.trod enc Try.prog w base sp held k 9 (([v0, v1, v2, v3, v4, v5, v6, v7, v8].drop 8).take (Try.prog.cellsOf 9)) = some y7 := hf 7 _ rfl
  rw [cells4] at g0 g1
  rw [cells3] at g2 g3 g4 g5
  rw [cells37] at g6
  rw [cells9] at g7
  obtain ⟨zs, k', _, _, _, hzl, hz⟩ := DataW.trod_struct Try.underlying37 g6
  obtain ⟨u0, u1, rfl⟩ := list2 zs hzl
  have t0 : DataW.trod enc Try.prog w base sp held k' 3 (([v6, v7].drop 0).take (Try.prog.cellsOf 3)) = some u0 := hz 0 _ rfl
  have t1 : DataW.trod enc Try.prog w base sp held k' 3 (([v6, v7].drop 1).take (Try.prog.cellsOf 3)) = some u1 := hz 1 _ rfl
  rw [cells3] at t0 t1
  obtain ⟨z0, q0, _⟩ := DataW.trod_bool Try.underlying4 (x := y0) g0
  obtain ⟨z1, q1, _⟩ := DataW.trod_bool Try.underlying4 (x := y1) g1
  obtain ⟨z2, q2, _, w2⟩ := DataW.trod_int Try.underlying3 (x := y2) g2
  obtain ⟨z3, q3, _, w3⟩ := DataW.trod_int Try.underlying3 (x := y3) g3
  obtain ⟨z4, q4, _, w4⟩ := DataW.trod_int Try.underlying3 (x := y4) g4
  obtain ⟨z5, q5, _, w5⟩ := DataW.trod_int Try.underlying3 (x := y5) g5
  obtain ⟨z6, q6, _, w6⟩ := DataW.trod_int Try.underlying3 (x := u0) t0
  obtain ⟨z7, q7, _, w7⟩ := DataW.trod_int Try.underlying3 (x := u1) t1
  obtain ⟨z8, q8, _⟩ := DataW.trod_string Try.underlying9 (x := y7) g7
  simp at q0 q1 q2 q3 q4 q5 q6 q7 q8
  subst q0 q1 q2 q3 q4 q5 q6 q7 q8
  refine ⟨⟨z0, z1, z2, z3, z4, z5, z6, z7, z8⟩, fun k hk => ?_, ⟨wf_i64 w3, wf_i64 w4, wf_i64 w5, wf_i64 w6, wf_i64 w7⟩⟩
  have e := hcell k hk
  rw [Go.Deep.add_add] at e
  rw [e]
  match k, hk with
  | 0, _ => rfl
  | 1, _ => rfl
  | 2, _ => rfl
  | 3, _ => rfl
  | 4, _ => rfl
  | 5, _ => rfl
  | 6, _ => rfl
  | 7, _ => rfl
  | 8, _ => rfl
set_option maxRecDepth 100000 in
theorem open_ops {H : Type} {enc : TypeId × Value → H} {W : World} {base : Nat} {v : Value} {d : DataW H} {ps : List MemPlace} (h : DataW.Trod enc Try.prog W 0 (fun _ => true) true 24 v d ps) (hv : Value.okWide Try.prog W .any base 24 v) :
    ∃ (oa : Option Addr) (b off len cap : Nat) (O : Nat → OpR), v = .slice oa len cap ∧ (0 < len → oa = some ⟨b, off, none⟩) ∧ OpsAt W b off len O ∧ (0 < len → ∃ elems spare, d = .slice elems spare ∧ elems.length = len) := by
  obtain ⟨fuel, hf⟩ := h
  have hc : Try.prog.cellsOf 39 = 9 := by kernel_rfl
  rcases Go.Deep.open_slice Try.underlying24 hf with ⟨h0, _⟩ | ⟨a, len, cap, m, n, D, Pl, h0, _, hl, hm, hmm, hx0, hx⟩
  · have hv0 : v = .slice none 0 0 := by
      obtain ⟨a', l', c', rfl⟩ := okWide_slice Try.underlying24 hv
      simpa [Value.cells] using h0
    exact ⟨none, 0, 0, 0, 0, fun _ => ⟨false, false, 0, 0, 0, 0, 0, 0, ⟨#[]⟩⟩, hv0, fun h => absurd h (by omega), ⟨fun i hi => absurd hi (by omega), fun i hi => absurd hi (by omega)⟩, fun h => absurd h (by omega)⟩
  · have hv0 : v = .slice (some a) len cap := by
      obtain ⟨a', l', c', rfl⟩ := okWide_slice Try.underlying24 hv
      simpa [Value.cells] using h0
    have hlm : len ≤ m := by rw [hmm]; simp; exact hl
    rw [hc] at hx
    have inst : Inhabited OpR := ⟨⟨false, false, 0, 0, 0, 0, 0, 0, ⟨#[]⟩⟩⟩
    obtain ⟨f, hfx⟩ := Go.Deep.choose_lt (α := OpR) (p := fun i y => OpAt W a i y) (n := len) (fun i hi => by
      obtain ⟨cs', h1, h2⟩ := hx i (by omega)
      exact op_at h1 h2)
    obtain ⟨b, off, spot⟩ := a
    have hspot : 0 < len → spot = none := fun hp => by
      have h9 : W.cell? (Addr.add ⟨b, off, spot⟩ (0 * 9 + 0)) = some (.bool (f 0).other) := (hfx 0 hp).c 0 (by omega)
      simpa [Addr.add] using World.cell?_spot h9
    refine ⟨some ⟨b, off, spot⟩, b, off, len, cap, f, hv0, ?_, ⟨fun i hi k hk => ?_, fun i hi => (hfx i hi).ok⟩, fun _ => ?_⟩
    · intro hp
      rw [hspot hp]
    · have hs := hspot (by omega)
      subst hs
      rw [Nat.add_assoc, ← Go.WideShapes.add_plain]
      exact (hfx i hi).c k hk
    · obtain ⟨e1, _⟩ := Prod.mk.inj hx0
      exact ⟨_, _, e1, by simp⟩
theorem okWide_array {P : Program} {w : World} {r : _} {base : Nat} {t : TypeId} {v : Value} {n : Nat} {e : TypeId} (ht : P.underlying t = some (.array n e)) (h : Value.okWide P w r base t v) : ∃ cs, v = .agg cs ∧ cs.size = P.cellsOf t := by
  simp only [Value.okWide, ht] at h
  obtain ⟨cs, h1, h2, _⟩ := h
  exact ⟨cs, h1, h2⟩
theorem open_raw {H : Type} {enc : TypeId × Value → H} {W : World} {base : Nat} {v : Value} {d : DataW H} {ps : List MemPlace} (h : DataW.Trod enc Try.prog W 0 (fun _ => true) true 42 v d ps) (hv : Value.okWide Try.prog W .any base 42 v) :
    ∃ r0 r1 r2 r3, v = .agg #[.int .i64 r0, .int .i64 r1, .int .i64 r2, .int .i64 r3] ∧ In64 r0 ∧ In64 r1 ∧ In64 r2 ∧ In64 r3 := by
  obtain ⟨fuel, hf⟩ := h
  obtain ⟨cs, rfl, hs⟩ := okWide_array Try.underlying42 hv
  obtain ⟨xs, k, _, _, hlen, hxl, hx⟩ := DataW.trod_array Try.underlying42 hf
  have hc : Try.prog.cellsOf 42 = 4 := by kernel_rfl
  rw [hc] at hs
  obtain ⟨l⟩ := cs
  obtain ⟨v0, v1, v2, v3, rfl⟩ := list4 l (by simpa using hs)
  obtain ⟨y0, y1, y2, y3, rfl⟩ := list4 xs hxl
  rw [cells3] at hx
  have g0 : DataW.trod enc Try.prog W 0 (fun _ => true) true k 3 [v0] = some y0 := hx 0 (by omega)
  have g1 : DataW.trod enc Try.prog W 0 (fun _ => true) true k 3 [v1] = some y1 := hx 1 (by omega)
  have g2 : DataW.trod enc Try.prog W 0 (fun _ => true) true k 3 [v2] = some y2 := hx 2 (by omega)
  have g3 : DataW.trod enc Try.prog W 0 (fun _ => true) true k 3 [v3] = some y3 := hx 3 (by omega)
  obtain ⟨z0, q0, _, w0⟩ := DataW.trod_int Try.underlying3 (x := y0) g0
  obtain ⟨z1, q1, _, w1⟩ := DataW.trod_int Try.underlying3 (x := y1) g1
  obtain ⟨z2, q2, _, w2⟩ := DataW.trod_int Try.underlying3 (x := y2) g2
  obtain ⟨z3, q3, _, w3⟩ := DataW.trod_int Try.underlying3 (x := y3) g3
  simp at q0 q1 q2 q3
  subst q0 q1 q2 q3
  exact ⟨z0, z1, z2, z3, rfl, wf_i64 w0, wf_i64 w1, wf_i64 w2, wf_i64 w3⟩
end Go.Proofs.Ytnpffhgmakbdnaa
