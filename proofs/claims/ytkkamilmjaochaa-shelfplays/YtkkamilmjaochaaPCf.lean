/- A script of Ops that is handed in, opened. -/
import Derived.Test.YtkkamilmjaochaaPFr
import Derived.Test.YtkkamilmjaochaaPCc
namespace Go.Proofs.Ytkkamilmjaochaa
open Go.ChangeMaps Go.ChangeShapes Go.WideShapes Go.ChangeAt Go.RowKit
theorem wf_i64 {n : Int} (h : (Lit.int .i64 n).wf = true) : -9223372036854775808 ≤ n ∧ n ≤ 9223372036854775807 := by
  have hmin : IntKind.i64.min = -9223372036854775808 := rfl
  have hmax : IntKind.i64.max = 9223372036854775807 := rfl
  simp only [Lit.wf, Bool.and_eq_true, decide_eq_true_eq] at h
  omega
theorem list2 {α : Type} (l : List α) (h : l.length = 2) : ∃ a b, l = [a, b] := by
  match l, h with
  | [a, b], _ => exact ⟨a, b, rfl⟩
theorem list6 {α : Type} (l : List α) (h : l.length = 6) : ∃ a b c d e f, l = [a, b, c, d, e, f] := by
  match l, h with
  | [a, b, c, d, e, f], _ => exact ⟨a, b, c, d, e, f, rfl⟩
theorem list7 {α : Type} (l : List α) (h : l.length = 7) : ∃ a b c d e f g, l = [a, b, c, d, e, f, g] := by
  match l, h with
  | [a, b, c, d, e, f, g], _ => exact ⟨a, b, c, d, e, f, g, rfl⟩
/-- One call of the script, in its seven cells. -/
structure OpAt (w : World) (a : Addr) (i : Nat) (x : OpP) : Prop where
  c0 : w.cell? (a.add (i * 7)) = some (.int .i64 x.kd)
  c1 : w.cell? (a.add (i * 7 + 1)) = some (.int .i64 x.on)
  c2 : w.cell? (a.add (i * 7 + 2)) = some (.string x.k.s)
  c3 : w.cell? (a.add (i * 7 + 3)) = some (.int .i64 x.k.n)
  c4 : w.cell? (a.add (i * 7 + 4)) = some (.int .i64 x.v)
  c5 : w.cell? (a.add (i * 7 + 5)) = some (.int .i64 x.n)
  c6 : w.cell? (a.add (i * 7 + 6)) = some (.int .i64 x.m)
  on : I64 x.on
  v : I64 x.v
  n : I64 x.n
  m : I64 x.m
  kn : (Lit.int .i64 x.k.n).wf = true
  s : (x.k.s.size : Int) ≤ 9223372036854775807
theorem op_at {H : Type} {enc : TypeId × Value → H} {w : World} {base : Nat} {sp : Nat → Bool} {held : Bool} {n : Nat} {a : Addr} {i : Nat} {cs : List Value} {x : DataW H × List MemPlace}
    (h1 : w.cells? base (a.add (i * 7)) 7 = some cs) (h2 : DataW.trod enc Try.prog w base sp held n 46 cs = some x) : ∃ y, OpAt w a i y := by
  obtain ⟨_, hlen, hcell⟩ := World.cells?_some h1
  obtain ⟨xs, k, _, _, _, hxl, hf⟩ := DataW.trod_struct Try.underlying46 h2
  obtain ⟨y0, y1, y2, y3, y4, y5, rfl⟩ := list6 xs hxl
  obtain ⟨v0, v1, v2, v3, v4, v5, v6, rfl⟩ := list7 cs hlen
  have k3 : Try.prog.cellsOf 3 = 1 := by kernel_rfl
  have k9 : Try.prog.cellsOf 9 = 1 := by kernel_rfl
  have k32 : Try.prog.cellsOf 32 = 2 := by kernel_rfl
  have g0 : DataW.trod enc Try.prog w base sp held k 3 (([v0, v1, v2, v3, v4, v5, v6].drop 0).take (Try.prog.cellsOf 3)) = some y0 := hf 0 _ rfl
  rw [k3] at g0
  have g1 : DataW.trod enc Try.prog w base sp held k 3 (([v0, v1, v2, v3, v4, v5, v6].drop 1).take (Try.prog.cellsOf 3)) = some y1 := hf 1 _ rfl
  rw [k3] at g1
  have g2 : DataW.trod enc Try.prog w base sp held k 32 (([v0, v1, v2, v3, v4, v5, v6].drop 2).take (Try.prog.cellsOf 32)) = some y2 := hf 2 _ rfl
  rw [k32] at g2
  have g3 : DataW.trod enc Try.prog w base sp held k 3 (([v0, v1, v2, v3, v4, v5, v6].drop 4).take (Try.prog.cellsOf 3)) = some y3 := hf 3 _ rfl
  rw [k3] at g3
  have g4 : DataW.trod enc Try.prog w base sp held k 3 (([v0, v1, v2, v3, v4, v5, v6].drop 5).take (Try.prog.cellsOf 3)) = some y4 := hf 4 _ rfl
  rw [k3] at g4
  have g5 : DataW.trod enc Try.prog w base sp held k 3 (([v0, v1, v2, v3, v4, v5, v6].drop 6).take (Try.prog.cellsOf 3)) = some y5 := hf 5 _ rfl
  rw [k3] at g5
  have g2' : DataW.trod enc Try.prog w base sp held k 32 [v2, v3] = some y2 := g2
  obtain ⟨zs, k', _, _, _, hzl, hz⟩ := DataW.trod_struct Try.underlying32 g2'
  obtain ⟨u0, u1, rfl⟩ := list2 zs hzl
  have t0 : DataW.trod enc Try.prog w base sp held k' 9 (([v2, v3].drop 0).take (Try.prog.cellsOf 9)) = some u0 := hz 0 _ rfl
  rw [k9] at t0
  have t1 : DataW.trod enc Try.prog w base sp held k' 3 (([v2, v3].drop 1).take (Try.prog.cellsOf 3)) = some u1 := hz 1 _ rfl
  rw [k3] at t1
  have e0 := hcell 0 (by omega)
  have e1 := hcell 1 (by omega)
  have e2 := hcell 2 (by omega)
  have e3 := hcell 3 (by omega)
  have e4 := hcell 4 (by omega)
  have e5 := hcell 5 (by omega)
  have e6 := hcell 6 (by omega)
  rw [Go.Deep.add_add] at e0 e1 e2 e3 e4 e5 e6
  obtain ⟨z0, q0, _, w0⟩ := DataW.trod_int Try.underlying3 (x := y0) g0
  obtain ⟨z1, q1, _, w1⟩ := DataW.trod_int Try.underlying3 (x := y1) g1
  obtain ⟨z2, q2, _, w2⟩ := DataW.trod_string Try.underlying9 (x := u0) t0
  obtain ⟨z3, q3, _, w3⟩ := DataW.trod_int Try.underlying3 (x := u1) t1
  obtain ⟨z4, q4, _, w4⟩ := DataW.trod_int Try.underlying3 (x := y3) g3
  obtain ⟨z5, q5, _, w5⟩ := DataW.trod_int Try.underlying3 (x := y4) g4
  obtain ⟨z6, q6, _, w6⟩ := DataW.trod_int Try.underlying3 (x := y5) g5
  simp at q0 q1 q2 q3 q4 q5 q6
  subst q0 q1 q2 q3 q4 q5 q6
  refine ⟨⟨z0, z1, ⟨z2, z3⟩, z4, z5, z6⟩, ⟨by simpa using e0, by simpa using e1, by simpa using e2, by simpa using e3, by simpa using e4, by simpa using e5, by simpa using e6, wf_i64 w1, wf_i64 w4, wf_i64 w5, wf_i64 w6, w3, ?_⟩⟩
  have hz2 : z2.size ≤ 9223372036854775807 := Nat.le_trans w2 (by decide)
  show (z2.size : Int) ≤ 9223372036854775807
  omega
set_option maxRecDepth 100000 in
theorem open_ops {H : Type} {enc : TypeId × Value → H} {W : World} {base : Nat} {v : Value} {d : DataW H} {ps : List MemPlace} (h : DataW.Trod enc Try.prog W 0 (fun _ => true) true 22 v d ps) (hv : Value.okWide Try.prog W .any base 22 v) :
    ∃ (oa : Option Addr) (b off len cap : Nat) (O : Nat → OpP), v = .slice oa len cap ∧ (0 < len → oa = some ⟨b, off, none⟩) ∧ len ≤ maxLen ∧ OpsAt W b off len O := by
  obtain ⟨fuel, hf⟩ := h
  have hc : Try.prog.cellsOf 46 = 7 := by kernel_rfl
  rcases Go.Deep.open_slice Try.underlying22 hf with ⟨h0, _⟩ | ⟨a, len, cap, m, n, D, Pl, h0, _, hl, hm, hmm, _, hx⟩
  · have hv0 : v = .slice none 0 0 := by
      obtain ⟨a', l', c', rfl⟩ := okWide_slice Try.underlying22 hv
      simpa [Value.cells] using h0
    exact ⟨none, 0, 0, 0, 0, fun _ => ⟨0, 0, ⟨⟨#[]⟩, 0⟩, 0, 0, 0⟩, hv0, fun h => absurd h (by omega), Nat.zero_le _, ⟨fun i hi => absurd hi (by omega), fun i hi => absurd hi (by omega), fun i hi => absurd hi (by omega), fun i hi => absurd hi (by omega), fun i hi => absurd hi (by omega), fun i hi => absurd hi (by omega), fun i hi => absurd hi (by omega), fun i hi => absurd hi (by omega), fun i hi => absurd hi (by omega), fun i hi => absurd hi (by omega), fun i hi => absurd hi (by omega), fun i hi => absurd hi (by omega), fun i hi => absurd hi (by omega)⟩⟩
  · have hv0 : v = .slice (some a) len cap := by
      obtain ⟨a', l', c', rfl⟩ := okWide_slice Try.underlying22 hv
      simpa [Value.cells] using h0
    have hlm : len ≤ m := by rw [hmm]; simp; exact hl
    rw [hc] at hx
    have inst : Inhabited OpP := ⟨⟨0, 0, ⟨⟨#[]⟩, 0⟩, 0, 0, 0⟩⟩
    obtain ⟨f, hfx⟩ := Go.Deep.choose_lt (α := OpP) (p := fun i y => OpAt W a i y) (n := len) (fun i hi => by
      obtain ⟨cs', h1, h2⟩ := hx i (by omega)
      exact op_at h1 h2)
    obtain ⟨b, off, spot⟩ := a
    refine ⟨some ⟨b, off, spot⟩, b, off, len, cap, f, hv0, ?_, Nat.le_trans hl hm, ?_⟩
    · intro hp
      have hs : spot = none := by simpa [Addr.add] using World.cell?_spot ((hfx 0 hp).c0)
      rw [hs]
    · by_cases hp : 0 < len
      · have hs : spot = none := by simpa [Addr.add] using World.cell?_spot ((hfx 0 hp).c0)
        subst hs
        refine ⟨fun i hi => ?_, fun i hi => ?_, fun i hi => ?_, fun i hi => ?_, fun i hi => ?_, fun i hi => ?_, fun i hi => ?_, fun i hi => (hfx i hi).on, fun i hi => (hfx i hi).v, fun i hi => (hfx i hi).n, fun i hi => (hfx i hi).m, fun i hi => (hfx i hi).kn, fun i hi => (hfx i hi).s⟩
        · rw [← Go.WideShapes.add_plain]; exact (hfx i hi).c0
        · rw [Nat.add_assoc, ← Go.WideShapes.add_plain]; exact (hfx i hi).c1
        · rw [Nat.add_assoc, ← Go.WideShapes.add_plain]; exact (hfx i hi).c2
        · rw [Nat.add_assoc, ← Go.WideShapes.add_plain]; exact (hfx i hi).c3
        · rw [Nat.add_assoc, ← Go.WideShapes.add_plain]; exact (hfx i hi).c4
        · rw [Nat.add_assoc, ← Go.WideShapes.add_plain]; exact (hfx i hi).c5
        · rw [Nat.add_assoc, ← Go.WideShapes.add_plain]; exact (hfx i hi).c6
      · exact ⟨fun i hi => absurd hi (by omega), fun i hi => absurd hi (by omega), fun i hi => absurd hi (by omega), fun i hi => absurd hi (by omega), fun i hi => absurd hi (by omega), fun i hi => absurd hi (by omega), fun i hi => absurd hi (by omega), fun i hi => absurd hi (by omega), fun i hi => absurd hi (by omega), fun i hi => absurd hi (by omega), fun i hi => absurd hi (by omega), fun i hi => absurd hi (by omega), fun i hi => absurd hi (by omega)⟩
end Go.Proofs.Ytkkamilmjaochaa
