/- A script that is handed in, opened. -/
import Derived.Test.YtcpjihaicmlmjaaPCk
import Derived.Test.YtcpjihaicmlmjaaPTh
namespace Go.Proofs.Ytcpjihaicmlmjaa
open Go.ChangeMaps Go.ChangeShapes Go.WideShapes Go.ChangeAt Go.RowKit
theorem cells4 : Try.prog.cellsOf 4 = 1 := by kernel_rfl
theorem cells9 : Try.prog.cellsOf 9 = 1 := by kernel_rfl
theorem cells32 : Try.prog.cellsOf 32 = 1 := by kernel_rfl
theorem cells34 : Try.prog.cellsOf 34 = 9 := by kernel_rfl
theorem bytes34 : Try.prog.bytesOf 34 = 80 := by kernel_rfl
theorem list9 {α : Type} (l : List α) (h : l.length = 9) : ∃ a b c d e f g i j, l = [a, b, c, d, e, f, g, i, j] := by
  match l, h with
  | [a, b, c, d, e, f, g, i, j], _ => exact ⟨a, b, c, d, e, f, g, i, j, rfl⟩
theorem weights_all {H : Type} {P : Program} {e : TypeId} {l : List (DataW H)} (h : (DataW.weightsAll P e l).all (· ≤ reachBytes) = true) {d : DataW H} (hd : d ∈ l) : (d.weights P e).all (· ≤ reachBytes) = true := by
  induction l with
  | nil => simp at hd
  | cons x r ih =>
    rw [DataW.weightsAll, List.all_append, Bool.and_eq_true] at h
    rcases List.mem_cons.1 hd with rfl | hd
    · exact h.1
    · exact ih h.2 hd
theorem reach44 {n k : Nat} (h : (n + k) * 8 ≤ reachBytes) : n ≤ 17592186044415 := by
  have := reachBytes_lt
  omega
/-- one step of a script, in its nine cells -/
structure OpAt (w : World) (a : Addr) (i : Nat) (o : OpR) : Prop where
  c : ∀ k, k < 9 → w.cell? (a.add (i * 9 + k)) = (opA o)[k]?
  g : GsAt w w.heap.size o.oa o.procs
  i64 : ∀ j, j < o.procs.length → I64 (o.procs.getD j 0)
  n64 : I64 o.prog ∧ I64 o.vers ∧ I64 o.proc
  len : o.procs.length ≤ 17592186044415 ∧ o.args.length ≤ 281474976710656
theorem op_at {H : Type} {enc : TypeId × Value → H} {w : World} {sp : Nat → Bool} {held : Bool} {n : Nat} {a : Addr} {i : Nat} {cs : List Value} {x : DataW H × List MemPlace}
    (h1 : w.cells? 0 (a.add (i * 9)) 9 = some cs) (h2 : DataW.trod enc Try.prog w 0 sp held n 34 cs = some x) (hz : (x.1.weights Try.prog 34).all (· ≤ reachBytes) = true) : ∃ o, OpAt w a i o := by
  obtain ⟨_, hlen, hcell⟩ := World.cells?_some h1
  obtain ⟨xs, k, _, hx, _, hxl, hf⟩ := DataW.trod_struct Try.underlying34 h2
  obtain ⟨y0, y1, y2, y3, y4, y5, y6, y7, y8, rfl⟩ := list9 xs hxl
  obtain ⟨v0, v1, v2, v3, v4, v5, v6, v7, v8, rfl⟩ := list9 cs hlen
  have g0 : DataW.trod enc Try.prog w 0 sp held k 4 (([v0, v1, v2, v3, v4, v5, v6, v7, v8].drop 0).take (Try.prog.cellsOf 4)) = some y0 := hf 0 _ rfl
  have g1 : DataW.trod enc Try.prog w 0 sp held k 4 (([v0, v1, v2, v3, v4, v5, v6, v7, v8].drop 1).take (Try.prog.cellsOf 4)) = some y1 := hf 1 _ rfl
  have g2 : DataW.trod enc Try.prog w 0 sp held k 4 (([v0, v1, v2, v3, v4, v5, v6, v7, v8].drop 2).take (Try.prog.cellsOf 4)) = some y2 := hf 2 _ rfl
  have g3 : DataW.trod enc Try.prog w 0 sp held k 3 (([v0, v1, v2, v3, v4, v5, v6, v7, v8].drop 3).take (Try.prog.cellsOf 3)) = some y3 := hf 3 _ rfl
  have g4 : DataW.trod enc Try.prog w 0 sp held k 3 (([v0, v1, v2, v3, v4, v5, v6, v7, v8].drop 4).take (Try.prog.cellsOf 3)) = some y4 := hf 4 _ rfl
  have g5 : DataW.trod enc Try.prog w 0 sp held k 3 (([v0, v1, v2, v3, v4, v5, v6, v7, v8].drop 5).take (Try.prog.cellsOf 3)) = some y5 := hf 5 _ rfl
  have g6 : DataW.trod enc Try.prog w 0 sp held k 3 (([v0, v1, v2, v3, v4, v5, v6, v7, v8].drop 6).take (Try.prog.cellsOf 3)) = some y6 := hf 6 _ rfl
  have g7 : DataW.trod enc Try.prog w 0 sp held k 32 (([v0, v1, v2, v3, v4, v5, v6, v7, v8].drop 7).take (Try.prog.cellsOf 32)) = some y7 := hf 7 _ rfl
  have g8 : DataW.trod enc Try.prog w 0 sp held k 9 (([v0, v1, v2, v3, v4, v5, v6, v7, v8].drop 8).take (Try.prog.cellsOf 9)) = some y8 := hf 8 _ rfl
  rw [cells4] at g0 g1 g2
  rw [cells3] at g3 g4 g5 g6
  rw [cells32] at g7
  rw [cells9] at g8
  obtain ⟨z0, q0, _⟩ := DataW.trod_bool Try.underlying4 (x := y0) g0
  obtain ⟨z1, q1, _⟩ := DataW.trod_bool Try.underlying4 (x := y1) g1
  obtain ⟨z2, q2, _⟩ := DataW.trod_bool Try.underlying4 (x := y2) g2
  obtain ⟨z3, q3, _, w3⟩ := DataW.trod_int Try.underlying3 (x := y3) g3
  obtain ⟨z4, q4, _, w4⟩ := DataW.trod_int Try.underlying3 (x := y4) g4
  obtain ⟨z5, q5, _, w5⟩ := DataW.trod_int Try.underlying3 (x := y5) g5
  obtain ⟨z6, q6, _, w6⟩ := DataW.trod_int Try.underlying3 (x := y6) g6
  have g7' : DataW.trod enc Try.prog w 0 sp held k 32 [v7] = some y7 := g7
  obtain ⟨gs, oa, cap, q7, hg, h64, hd⟩ := ints_up g7'
  obtain ⟨z8, q8, e8, _⟩ := DataW.trod_string Try.underlying9 (x := y8) g8
  simp at q0 q1 q2 q3 q4 q5 q6 q8
  subst q0 q1 q2 q3 q4 q5 q6 q7 q8
  rw [hx] at hz
  simp [DataW.weights, DataW.weightsEach, Try.underlying34] at hz
  have hb : (⟨z8.data.toList.toArray⟩ : ByteArray) = z8 := by simp
  refine ⟨⟨z0, z1, z2, z3, z4, z5, z6, gs, oa, cap, z8.data.toList⟩, fun k hk => ?_, hg, h64, ⟨wf_i64 w4, wf_i64 w5, wf_i64 w6⟩, ?_, ?_⟩
  · have e := hcell k hk
    rw [Go.Deep.add_add] at e
    rw [e]
    match k, hk with
    | 0, _ => rfl
    | 1, _ => rfl
    | 2, _ => rfl
    | 3, _ => rfl
    | 4, _ => rfl
    | 5, _ => rfl
    | 6, _ => rfl
    | 7, _ => rfl
    | 8, _ =>
      show some (Value.string z8) = some (Value.string ⟨z8.data.toList.toArray⟩)
      rw [hb]
  · show gs.length ≤ _
    rcases Nat.eq_zero_or_pos gs.length with e | e
    · rw [e]; omega
    · obtain ⟨elems, spare, e1, e2⟩ := hd e
      have hs := hz.2.2.2.2.2.2.2.1 ((elems.length + spare.length) * Try.prog.bytesOf 3) (by rw [e1]; simp [DataW.weights, Try.underlying32])
      rw [bytes3, e2] at hs
      exact reach44 hs
  · show z8.data.toList.length ≤ _
    have hs := hz.2.2.2.2.2.2.2.2 z8.data.toList.length (by rw [e8]; simp [DataW.weights])
    have := reachBytes_lt
    omega
set_option maxRecDepth 100000 in
theorem open_ops {H : Type} {enc : TypeId × Value → H} {W : World} {base : Nat} {v : Value} {d : DataW H} {ps : List MemPlace} (h : DataW.Trod enc Try.prog W 0 (fun _ => true) true 22 v d ps) (hv : Value.okWide Try.prog W .any base 22 v) (hz : (d.weights Try.prog 22).all (· ≤ reachBytes) = true) :
    ∃ (oa : Option Addr) (b off len cap : Nat) (O : Nat → OpR), v = .slice oa len cap ∧ (0 < len → oa = some ⟨b, off, none⟩) ∧ OpsAt W b off len O ∧ (0 < len → b < W.heap.size) ∧ len ≤ 100000000000000 := by
  obtain ⟨fuel, hf⟩ := h
  rcases Go.Deep.open_slice Try.underlying22 hf with ⟨h0, _⟩ | ⟨a, len, cap, m, n, D, Pl, h0, _, hl, hm, hmm, hx0, hx⟩
  · have hv0 : v = .slice none 0 0 := by
      obtain ⟨a', l', c', rfl⟩ := okWide_slice Try.underlying22 hv
      simpa [Value.cells] using h0
    exact ⟨none, 0, 0, 0, 0, fun _ => ⟨false, false, false, 0, 0, 0, 0, [], none, 0, []⟩, hv0, fun h => absurd h (by omega), ⟨fun i hi => absurd hi (by omega), fun i hi => absurd hi (by omega), fun i hi => absurd hi (by omega), fun i hi => absurd hi (by omega), fun i hi => absurd hi (by omega)⟩, fun h => absurd h (by omega), by omega⟩
  · have hv0 : v = .slice (some a) len cap := by
      obtain ⟨a', l', c', rfl⟩ := okWide_slice Try.underlying22 hv
      simpa [Value.cells] using h0
    have hlm : len ≤ m := by rw [hmm]; simp; exact hl
    rw [cells34] at hx
    obtain ⟨e1, _⟩ := Prod.mk.inj hx0
    rw [e1] at hz
    simp only [DataW.weights, Try.underlying22, List.all_cons, List.all_append, Bool.and_eq_true] at hz
    have hbig : len ≤ 100000000000000 := by
      have h1 := hz.1
      rw [bytes34] at h1
      simp at h1
      have := reachBytes_lt
      omega
    have inst : Inhabited OpR := ⟨⟨false, false, false, 0, 0, 0, 0, [], none, 0, []⟩⟩
    obtain ⟨f, hfx⟩ := Go.Deep.choose_lt (α := OpR) (p := fun i y => OpAt W a i y) (n := len) (fun i hi => by
      obtain ⟨cs', h1, h2⟩ := hx i (by omega)
      exact op_at h1 h2 (weights_all hz.2.1 (List.mem_map.2 ⟨i, List.mem_range.2 hi, rfl⟩)))
    obtain ⟨b, off, spot⟩ := a
    have hc0 : 0 < len → W.cell? (Addr.add ⟨b, off, spot⟩ (0 * 9 + 0)) = some (.bool (f 0).other) := fun hp => (hfx 0 hp).c 0 (by omega)
    have hspot : 0 < len → spot = none := fun hp => by
      simpa [Addr.add] using World.cell?_spot (hc0 hp)
    refine ⟨some ⟨b, off, spot⟩, b, off, len, cap, f, hv0, ?_, ⟨fun i hi k hk => ?_, fun i hi => (hfx i hi).g, fun i hi => (hfx i hi).i64, fun i hi => (hfx i hi).n64, fun i hi => (hfx i hi).len⟩, fun hp => ?_, hbig⟩
    · intro hp
      rw [hspot hp]
    · have hs := hspot (by omega)
      subst hs
      rw [Nat.add_assoc, ← Go.WideShapes.add_plain]
      exact (hfx i hi).c k hk
    · have := World.block_lt_of_cell? W _ (hc0 hp)
      simpa [Addr.add] using this
end Go.Proofs.Ytcpjihaicmlmjaa
