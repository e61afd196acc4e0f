/- A script that is handed in, opened; the variable of the library. -/
import Derived.Test.YtlkhgnjljdbhnabGreatDoorRows
import Derived.ProofKit
import Derived.OpenShut
import Derived.LaidMore
import Derived.Lay
import Derived.SevenTiedAt
import Derived.Stop.Joined
import Derived.Test.YtlkhgnjljdbhnabGreatDoorYq2
import Derived.ChangeMaps5
import Derived.Carry
import Derived.LaidHandle
import Derived.Deep.Slices
namespace Go.Proofs.YtlkhgnjljdbhnabGreatDoor
open Go.ChangeMaps Go.ChangeShapes Go.WideShapes Go.ChangeAt Go.RowKit

theorem own : ownKnob Tryz.prog.godebug = none := by kernel_rfl

set_option maxRecDepth 100000 in
/-- The row's step, with the world's shape kept for the contract. -/
theorem lift_law {H : Type} {enc : TypeId × Value → H} {os : Os} {f : FuncId} {fn : Func} {s : ChangeSpec} {X : World → Array Value → Prop}
    (hX : ∀ (w w' : World) (args : Array Value), w.heap = w'.heap → X w args → X w' args) (started : os.Started) (noInit : Tryz.checked.prog.inits.idxOf? f = none) (hfn : Tryz.checked.prog.funcs[f]? = some fn)
    (witness : ∃ (w : World) (tape : Tape) (i : Input), w.os = os ∧ (w.forCall tape i).Shaped Tryz.checked.prog ∧ i.vars = [] ∧ Input.okWide Tryz.checked.prog (w.forCall tape i) .any w.heap.size f i ∧
      ((s.pre enc Tryz.checked.prog fn [] false (w.forCall tape i).memory i.args ∧ X (w.forCall tape i).memory i.args) ∧ sizedMet enc Tryz.checked.prog fn (OpenSpec.ofChange s) false (w.forCall tape i).memory i.args) ∧ ({} : Assume).holds Tryz.checked.prog (lone (Frame.enter Tryz.checked.prog f i.args .normal) [] (w.forCall tape i)))
    (contract : ∀ (W : World) (base : Nat) (args : Array Value) (ds gs : List (DataW H)) (before : List MemPlace),
      (∀ (j : Nat) t v, fn.params[j]? = some t → args[j]? = some v → Value.okWide Tryz.checked.prog W .any base t v) →
      DataW.Whole enc Tryz.checked.prog fn.params.toList s.vars false W args.toList ds gs before →
      (DataW.weightsEach Tryz.checked.prog (fn.params.toList ++ s.plain.varTypes Tryz.checked.prog) (ds ++ gs)).all (· ≤ reachBytes) = true → X W args → W.ShapedOpen Tryz.checked.prog →
      Calls Tryz.checked.prog f args W fun e W' => ∃ v, e = .returned v ∧ s.post enc Tryz.checked.prog fn false true false false W args v W') :
    ReturnsInHanded {} Tryz.checked os f .any (fun w args => (s.pre enc Tryz.checked.prog fn [] false w args ∧ X w args) ∧ sizedMet enc Tryz.checked.prog fn (OpenSpec.ofChange s) false w args) (s.post enc Tryz.checked.prog fn false true false false) := by
  refine returnsInHanded_of_calls own started noInit witness ?_
  intro w tape i _ hsh _ hok hpre _
  obtain ⟨_, _, _, fn', hfn', _, _, _, _, hval⟩ := hok
  obtain rfl : fn' = fn := Option.some.inj (hfn'.symm.trans hfn)
  obtain ⟨⟨⟨ds, gs, before, hw, _⟩, hx⟩, hz⟩ := hpre
  refine (contract (w.forCall tape i) w.heap.size i.args ds gs before hval (DataW.Whole.of_heap (w' := w.forCall tape i) (by rfl) hw) (hz.weights hw) (hX _ _ _ (by rfl) hx) hsh).mono ?_
  rintro e W' ⟨v, rfl, hp⟩
  exact ChangeSpec.post_blind hp

theorem err_rt : (Tryz.prog.cutTypes.find? (·.1 == "internal/reflectlite.rtype")).map (·.2) = some 114 := by kernel_rfl
theorem err_row : ((List.range 154).filter fun t => Tryz.prog.rowNamed t [101, 114, 114, 111, 114]) = [48] := by kernel_rfl
theorem err_types : Tryz.prog.types.size = 154 := by kernel_rfl
theorem err_glob : Tryz.prog.globalNamed "errors.errorType" = some 0 := by kernel_rfl

theorem errT_of {W : World} (h : laidMetH Tryz.prog [("errors.errorType", Rows.laid_errors_errorType)] W) : ErrT W := by
  have h' : laidMet Tryz.prog [] W ∧ handlesMet Tryz.prog [("errors.errorType", Rows.laid_errors_errorType)] W := h
  obtain ⟨name, u, ty, e1, e2, e3, e4, e5⟩ := h'.2 _ (List.mem_singleton.2 rfl)
  have en : name = [101, 114, 114, 111, 114] := (Option.some.inj e1).symm
  subst en
  obtain rfl := Option.some.inj (err_rt.symm.trans e2)
  have hm : ty ∈ (List.range 154).filter fun t => Tryz.prog.rowNamed t [101, 114, 114, 111, 114] := List.mem_filter.2 ⟨List.mem_range.2 (by rw [← err_types]; exact e3), e4⟩
  rw [err_row] at hm
  obtain rfl := List.mem_singleton.1 hm
  have hh : typeHandle Tryz.prog 48 = .pointer (some ⟨2, 48, none⟩) := by kernel_rfl
  rw [hh] at e5
  simpa [ErrT] using World.var?_cell err_glob e5 0

theorem wf_i64 {n : Int} (h : (Lit.int .i64 n).wf = true) : -9223372036854775808 ≤ n ∧ n ≤ 9223372036854775807 := by
  have hmin : IntKind.i64.min = -9223372036854775808 := rfl
  have hmax : IntKind.i64.max = 9223372036854775807 := rfl
  simp only [Lit.wf, Bool.and_eq_true, decide_eq_true_eq] at h
  omega
theorem wf_u32 {n : Int} (h : (Lit.int .u32 n).wf = true) : 0 ≤ n ∧ n < 4294967296 := by
  have hmin : IntKind.u32.min = 0 := rfl
  have hmax : IntKind.u32.max = 4294967295 := rfl
  simp only [Lit.wf, Bool.and_eq_true, decide_eq_true_eq] at h
  omega
theorem wf_u64 {n : Int} (h : (Lit.int .u64 n).wf = true) : 0 ≤ n ∧ n < 18446744073709551616 := by
  have hmin : IntKind.u64.min = 0 := rfl
  have hmax : IntKind.u64.max = 18446744073709551615 := rfl
  simp only [Lit.wf, Bool.and_eq_true, decide_eq_true_eq] at h
  omega

/-- One call of the script, in its seven cells. -/
structure OpAt (w : World) (a : Addr) (i : Nat) (x : (Int × Int × Int) × (Bool × ByteArray) × (Nat × Nat)) : Prop where
  c0 : w.cell? (a.add (i * 7)) = some (.int .i64 x.1.1)
  c1 : w.cell? (a.add (i * 7 + 1)) = some (.int .i64 x.1.2.1)
  c2 : w.cell? (a.add (i * 7 + 2)) = some (.int .i64 x.1.2.2)
  c3 : w.cell? (a.add (i * 7 + 3)) = some (.bool x.2.1.1)
  c4 : w.cell? (a.add (i * 7 + 4)) = some (.string x.2.1.2)
  c5 : w.cell? (a.add (i * 7 + 5)) = some (.int .u32 x.2.2.1)
  c6 : w.cell? (a.add (i * 7 + 6)) = some (.int .u64 x.2.2.2)
  n : -9223372036854775808 ≤ x.1.2.1 ∧ x.1.2.1 ≤ 9223372036854775807
  m : -9223372036854775808 ≤ x.1.2.2 ∧ x.1.2.2 ≤ 9223372036854775807
  a : x.2.2.1 < 4294967296
  b : x.2.2.2 < 18446744073709551616


theorem list7 {α : Type} (l : List α) (h : l.length = 7) : ∃ a b c d e f g, l = [a, b, c, d, e, f, g] := by
  match l, h with
  | [a, b, c, d, e, f, g], _ => exact ⟨a, b, c, d, e, f, g, rfl⟩

/-- One call, opened. -/
theorem op_at {H : Type} {enc : TypeId × Value → H} {w : World} {base : Nat} {sp : Nat → Bool} {held : Bool} {n : Nat} {a : Addr} {i : Nat} {cs : List Value} {x : DataW H × List MemPlace}
    (h1 : w.cells? base (a.add (i * 7)) 7 = some cs) (h2 : DataW.trod enc Tryz.prog w base sp held n 32 cs = some x) : ∃ y, OpAt w a i y := by
  obtain ⟨_, hlen, hcell⟩ := World.cells?_some h1
  obtain ⟨xs, k, _, _, _, hxl, hf⟩ := DataW.trod_struct Tryz.underlying32 h2
  obtain ⟨y0, y1, y2, y3, y4, y5, y6, rfl⟩ := list7 xs hxl
  obtain ⟨v0, v1, v2, v3, v4, v5, v6, rfl⟩ := list7 cs hlen
  have k3 : Tryz.prog.cellsOf 3 = 1 := by kernel_rfl
  have k4 : Tryz.prog.cellsOf 4 = 1 := by kernel_rfl
  have k9 : Tryz.prog.cellsOf 9 = 1 := by kernel_rfl
  have k29 : Tryz.prog.cellsOf 29 = 1 := by kernel_rfl
  have k30 : Tryz.prog.cellsOf 30 = 1 := by kernel_rfl
  have g0 : DataW.trod enc Tryz.prog w base sp held k 3 (([v0, v1, v2, v3, v4, v5, v6].drop 0).take (Tryz.prog.cellsOf 3)) = some y0 := hf 0 _ rfl
  rw [k3] at g0
  have g1 : DataW.trod enc Tryz.prog w base sp held k 3 (([v0, v1, v2, v3, v4, v5, v6].drop 1).take (Tryz.prog.cellsOf 3)) = some y1 := hf 1 _ rfl
  rw [k3] at g1
  have g2 : DataW.trod enc Tryz.prog w base sp held k 3 (([v0, v1, v2, v3, v4, v5, v6].drop 2).take (Tryz.prog.cellsOf 3)) = some y2 := hf 2 _ rfl
  rw [k3] at g2
  have g3 : DataW.trod enc Tryz.prog w base sp held k 4 (([v0, v1, v2, v3, v4, v5, v6].drop 3).take (Tryz.prog.cellsOf 4)) = some y3 := hf 3 _ rfl
  rw [k4] at g3
  have g4 : DataW.trod enc Tryz.prog w base sp held k 9 (([v0, v1, v2, v3, v4, v5, v6].drop 4).take (Tryz.prog.cellsOf 9)) = some y4 := hf 4 _ rfl
  rw [k9] at g4
  have g5 : DataW.trod enc Tryz.prog w base sp held k 29 (([v0, v1, v2, v3, v4, v5, v6].drop 5).take (Tryz.prog.cellsOf 29)) = some y5 := hf 5 _ rfl
  rw [k29] at g5
  have g6 : DataW.trod enc Tryz.prog w base sp held k 30 (([v0, v1, v2, v3, v4, v5, v6].drop 6).take (Tryz.prog.cellsOf 30)) = some y6 := hf 6 _ rfl
  rw [k30] at g6
  have e0 := hcell 0 (by omega)
  have e1 := hcell 1 (by omega)
  have e2 := hcell 2 (by omega)
  have e3 := hcell 3 (by omega)
  have e4 := hcell 4 (by omega)
  have e5 := hcell 5 (by omega)
  have e6 := hcell 6 (by omega)
  rw [Go.Deep.add_add] at e0 e1 e2 e3 e4 e5 e6
  obtain ⟨z0, q0, _, w0⟩ := DataW.trod_int Tryz.underlying3 (x := y0) g0
  obtain ⟨z1, q1, _, w1⟩ := DataW.trod_int Tryz.underlying3 (x := y1) g1
  obtain ⟨z2, q2, _, w2⟩ := DataW.trod_int Tryz.underlying3 (x := y2) g2
  obtain ⟨z3, q3, _⟩ := DataW.trod_bool Tryz.underlying4 (x := y3) g3
  obtain ⟨z4, q4, _, _⟩ := DataW.trod_string Tryz.underlying9 (x := y4) g4
  obtain ⟨z5, q5, _, w5⟩ := DataW.trod_int Tryz.underlying29 (x := y5) g5
  obtain ⟨z6, q6, _, w6⟩ := DataW.trod_int Tryz.underlying30 (x := y6) g6
  simp at q0 q1 q2 q3 q4 q5 q6
  subst q0 q1 q2 q3 q4 q5 q6
  refine ⟨((z0, z1, z2), (z3, z4), (z5.toNat, z6.toNat)), ⟨by simpa using e0, by simpa using e1, by simpa using e2, by simpa using e3, by simpa using e4, ?_, ?_, wf_i64 w1, wf_i64 w2, ?_, ?_⟩⟩
  · have := (wf_u32 w5).1
    show w.cell? _ = some (.int .u32 ((z5.toNat : Nat) : Int))
    rw [Int.toNat_of_nonneg this]; simpa using e5
  · have := (wf_u64 w6).1
    show w.cell? _ = some (.int .u64 ((z6.toNat : Nat) : Int))
    rw [Int.toNat_of_nonneg this]; simpa using e6
  · have := wf_u32 w5; show z5.toNat < _; omega
  · have := wf_u64 w6; show z6.toNat < _; omega

set_option maxRecDepth 100000 in
/-- A script, opened. -/
theorem open_script {H : Type} {enc : TypeId × Value → H} {W : World} {base : Nat} {v : Value} {d : DataW H} {ps : List MemPlace} (h : DataW.Trod enc Tryz.prog W 0 (fun _ => true) true 22 v d ps) (hv : Value.okWide Tryz.prog W .any base 22 v) :
    ∃ (oa : Option Addr) (b off len cap : Nat) (K N MM : Nat → Int) (O : Nat → Bool) (T : Nat → ByteArray) (A B : Nat → Nat), v = .slice oa len cap ∧ (0 < len → oa = some ⟨b, off, none⟩) ∧ len ≤ maxLen ∧ Ops W b off len K N MM O T A B := by
  obtain ⟨fuel, hf⟩ := h
  have hc : Tryz.prog.cellsOf 32 = 7 := by kernel_rfl
  rcases Go.Deep.open_slice Tryz.underlying22 hf with ⟨h0, _⟩ | ⟨a, len, cap, m, n, D, Pl, h0, _, hl, hm, hmm, _, hx⟩
  · have hv0 : v = .slice none 0 0 := by
      obtain ⟨a', l', c', rfl⟩ := okWide_slice Tryz.underlying22 hv
      simpa [Value.cells] using h0
    exact ⟨none, 0, 0, 0, 0, fun _ => 0, fun _ => 0, fun _ => 0, fun _ => false, fun _ => ⟨#[]⟩, fun _ => 0, fun _ => 0, hv0, fun h => absurd h (by omega), Nat.zero_le _,
      ⟨fun i hi => absurd hi (by omega), fun i hi => absurd hi (by omega), fun i hi => absurd hi (by omega), fun i hi => absurd hi (by omega), fun i hi => absurd hi (by omega), fun i hi => absurd hi (by omega), fun i hi => absurd hi (by omega), fun i hi => absurd hi (by omega), fun i hi => absurd hi (by omega), fun i hi => absurd hi (by omega), fun i hi => absurd hi (by omega)⟩⟩
  · have hv0 : v = .slice (some a) len cap := by
      obtain ⟨a', l', c', rfl⟩ := okWide_slice Tryz.underlying22 hv
      simpa [Value.cells] using h0
    have hlm : len ≤ m := by rw [hmm]; simp; exact hl
    rw [hc] at hx
    obtain ⟨f, hfx⟩ := Go.Deep.choose_lt (α := (Int × Int × Int) × (Bool × ByteArray) × (Nat × Nat)) (p := fun i y => OpAt W a i y) (n := len) (fun i hi => by
      obtain ⟨cs', h1, h2⟩ := hx i (by omega)
      exact op_at h1 h2)
    obtain ⟨b, off, spot⟩ := a
    refine ⟨some ⟨b, off, spot⟩, b, off, len, cap, fun i => (f i).1.1, fun i => (f i).1.2.1, fun i => (f i).1.2.2, fun i => (f i).2.1.1, fun i => (f i).2.1.2, fun i => (f i).2.2.1, fun i => (f i).2.2.2, hv0, ?_, Nat.le_trans hl hm, ?_⟩
    · intro hp
      have hs : spot = none := by simpa [Addr.add] using World.cell?_spot ((hfx 0 hp).c0)
      rw [hs]
    · by_cases hp : 0 < len
      · have hs : spot = none := by simpa [Addr.add] using World.cell?_spot ((hfx 0 hp).c0)
        subst hs
        refine ⟨fun i hi => ?_, fun i hi => ?_, fun i hi => ?_, fun i hi => ?_, fun i hi => ?_, fun i hi => ?_, fun i hi => ?_, fun i hi => (hfx i hi).n, fun i hi => (hfx i hi).m, fun i hi => (hfx i hi).a, fun i hi => (hfx i hi).b⟩
        · rw [← Go.WideShapes.add_plain]; exact (hfx i hi).c0
        · rw [Nat.add_assoc, ← Go.WideShapes.add_plain]; exact (hfx i hi).c1
        · rw [Nat.add_assoc, ← Go.WideShapes.add_plain]; exact (hfx i hi).c2
        · rw [Nat.add_assoc, ← Go.WideShapes.add_plain]; exact (hfx i hi).c3
        · rw [Nat.add_assoc, ← Go.WideShapes.add_plain]; exact (hfx i hi).c4
        · rw [Nat.add_assoc, ← Go.WideShapes.add_plain]; exact (hfx i hi).c5
        · rw [Nat.add_assoc, ← Go.WideShapes.add_plain]; exact (hfx i hi).c6
      · exact ⟨fun i hi => absurd hi (by omega), fun i hi => absurd hi (by omega), fun i hi => absurd hi (by omega), fun i hi => absurd hi (by omega), fun i hi => absurd hi (by omega), fun i hi => absurd hi (by omega), fun i hi => absurd hi (by omega), fun i hi => absurd hi (by omega), fun i hi => absurd hi (by omega), fun i hi => absurd hi (by omega), fun i hi => absurd hi (by omega)⟩
end Go.Proofs.YtlkhgnjljdbhnabGreatDoor
