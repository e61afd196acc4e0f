/- ClientOnce: a script that is handed in, opened. -/
import Derived.Test.YtfcbjcebkahehaaGreatDoorZbg
import Derived.Test.YtfcbjcebkahehaaGreatDoorNc
import Derived.Deep.Slices
namespace Go.Proofs.YtfcbjcebkahehaaGreatDoor
open Go.ChangeMaps Go.ChangeShapes Go.WideShapes Go.ChangeAt Go.RowKit
theorem oc3 : Tryz.prog.cellsOf 3 = 1 := by kernel_rfl
theorem oc9 : Tryz.prog.cellsOf 9 = 1 := by kernel_rfl
theorem oc66 : Tryz.prog.cellsOf 66 = 3 := by kernel_rfl
theorem three_of {α : Type} (l : List α) (h : l.length = 3) : ∃ a b c, l = [a, b, c] := by
  match l, h with
  | [a, b, c], _ => exact ⟨a, b, c, rfl⟩
theorem wfi64 {n : Int} (h : (Lit.int .i64 n).wf = true) : -9223372036854775808 ≤ n ∧ n ≤ 9223372036854775807 := by
  have hmin : IntKind.i64.min = -9223372036854775808 := rfl
  have hmax : IntKind.i64.max = 9223372036854775807 := rfl
  simp only [Lit.wf, Bool.and_eq_true, decide_eq_true_eq] at h
  omega
theorem reach48 {n : Nat} (h : n ≤ reachBytes) : n ≤ 281474976710656 := by unfold reachBytes at h; omega
theorem weightsAll_mem {H : Type} {P : Program} {e : TypeId} : ∀ {l : List (DataW H)} {d : DataW H}, (DataW.weightsAll P e l).all (· ≤ reachBytes) = true → d ∈ l → (d.weights P e).all (· ≤ reachBytes) = true
  | [], _, _, h => by cases h
  | x :: l, d, hw, h => by
    rw [DataW.weightsAll, List.all_append, Bool.and_eq_true] at hw
    rcases List.mem_cons.1 h with rfl | h
    · exact hw.1
    · exact weightsAll_mem hw.2 h
/-- one step, opened -/
structure ActAt (w : World) (a : Addr) (i : Nat) (y : Int × Int × ByteArray) : Prop where
  c0 : w.cell? (a.add (i * 3)) = some (.int .i64 y.1)
  c1 : w.cell? (a.add (i * 3 + 1)) = some (.int .i64 y.2.1)
  c2 : w.cell? (a.add (i * 3 + 2)) = some (.string y.2.2)
  n : -9223372036854775808 ≤ y.2.1 ∧ y.2.1 ≤ 9223372036854775807
  s : y.2.2.size ≤ 281474976710656
set_option maxRecDepth 20000 in
theorem act_at {H : Type} {enc : TypeId × Value → H} {w : World} {base : Nat} {sp : Nat → Bool} {held : Bool} {n : Nat} {a : Addr} {i : Nat} {cs : List Value} {x : DataW H × List MemPlace}
    (h1 : w.cells? base (a.add (i * 3)) 3 = some cs) (h2 : DataW.trod enc Tryz.prog w base sp held n 66 cs = some x) (hw : (x.1.weights Tryz.prog 66).all (· ≤ reachBytes) = true) : ∃ y, ActAt w a i y := by
  obtain ⟨_, hlen, hcell⟩ := World.cells?_some h1
  obtain ⟨xs, k, _, hx, _, hxl, hf⟩ := DataW.trod_struct Tryz.underlying66 h2
  obtain ⟨y0, y1, y2, rfl⟩ := three_of xs hxl
  obtain ⟨v0, v1, v2, rfl⟩ := three_of cs hlen
  have g0 : DataW.trod enc Tryz.prog w base sp held k 3 (([v0, v1, v2].drop 0).take (Tryz.prog.cellsOf 3)) = some y0 := hf 0 _ rfl
  rw [oc3] at g0
  have g1 : DataW.trod enc Tryz.prog w base sp held k 3 (([v0, v1, v2].drop 1).take (Tryz.prog.cellsOf 3)) = some y1 := hf 1 _ rfl
  rw [oc3] at g1
  have g2 : DataW.trod enc Tryz.prog w base sp held k 9 (([v0, v1, v2].drop 2).take (Tryz.prog.cellsOf 9)) = some y2 := hf 2 _ rfl
  rw [oc9] at g2
  have e0 := hcell 0 (by omega)
  have e1 := hcell 1 (by omega)
  have e2 := hcell 2 (by omega)
  rw [Go.Deep.add_add] at e0 e1 e2
  obtain ⟨z0, q0, rfl, w0⟩ := DataW.trod_int Tryz.underlying3 (x := y0) g0
  obtain ⟨z1, q1, rfl, w1⟩ := DataW.trod_int Tryz.underlying3 (x := y1) g1
  obtain ⟨z2, q2, rfl, w2⟩ := DataW.trod_string Tryz.underlying9 (x := y2) g2
  simp at q0 q1 q2
  subst q0 q1 q2
  refine ⟨⟨z0, z1, z2⟩, ⟨by simpa using e0, by simpa using e1, by simpa using e2, wfi64 w1, ?_⟩⟩
  rw [hx] at hw
  simp [DataW.weights, DataW.weightsEach, Tryz.underlying66] at hw
  exact reach48 hw
set_option maxRecDepth 100000 in
/-- a script, opened -/
theorem open_acts {H : Type} {enc : TypeId × Value → H} {W : World} {base : Nat} {v : Value} {d : DataW H} {ps : List MemPlace} (h : DataW.Trod enc Tryz.prog W 0 (fun _ => true) true 56 v d ps) (hv : Value.okWide Tryz.prog W .any base 56 v) (hw : (d.weights Tryz.prog 56).all (· ≤ reachBytes) = true) :
    ∃ (oa : Option Addr) (len cap : Nat) (A : Nat → Int × Int × ByteArray), v = .slice oa len cap ∧ Cl.ActsAt W oa len A := by
  obtain ⟨fuel, hf⟩ := h
  rcases Go.Deep.open_slice Tryz.underlying56 hf with ⟨h0, _⟩ | ⟨a, len, cap, m, n, D, Pl, h0, _, hl, hm, hmm, hd, hx⟩
  · have hv0 : v = .slice none 0 0 := by
      obtain ⟨a', l', c', rfl⟩ := okWide_slice Tryz.underlying56 hv
      simpa [Value.cells] using h0
    exact ⟨none, 0, 0, fun _ => (0, 0, ⟨#[]⟩), hv0, ⟨fun h => absurd h (by omega), fun j hj => absurd hj (by omega)⟩⟩
  · have hv0 : v = .slice (some a) len cap := by
      obtain ⟨a', l', c', rfl⟩ := okWide_slice Tryz.underlying56 hv
      simpa [Value.cells] using h0
    have hlm : len ≤ m := by rw [hmm]; simp; exact hl
    rw [oc66] at hx
    have hd1 : d = .slice ((List.range len).map D) ((List.range (m - len)).map fun j => D (len + j)) := congrArg Prod.fst hd
    have hwe : ∀ i, i < len → ((D i).weights Tryz.prog 66).all (· ≤ reachBytes) = true := fun i hi => by
      rw [hd1] at hw
      simp only [DataW.weights, Tryz.underlying56] at hw
      rw [List.all_cons, Bool.and_eq_true, List.all_append, Bool.and_eq_true] at hw
      exact weightsAll_mem hw.2.1 (List.mem_map_of_mem (List.mem_range.2 hi))
    have inst : Inhabited (Int × Int × ByteArray) := ⟨(0, 0, ⟨#[]⟩)⟩
    obtain ⟨f, hfx⟩ := Go.Deep.choose_lt (α := Int × Int × ByteArray) (p := fun i y => ActAt W a i y) (n := len) (fun i hi => by
      obtain ⟨cs', h1, h2⟩ := hx i (by omega)
      exact act_at h1 h2 (hwe i hi))
    obtain ⟨b, off, spot⟩ := a
    refine ⟨some ⟨b, off, spot⟩, len, cap, f, hv0, ⟨fun hp => ?_, fun j hj => ⟨(hfx j hj).n, (hfx j hj).s⟩⟩⟩
    have hs : spot = none := by simpa [Addr.add] using World.cell?_spot ((hfx 0 hp).c0)
    subst hs
    refine ⟨b, off, rfl, World.block_lt_of_cell? _ _ (hfx 0 hp).c0, fun j hj => ⟨?_, ?_, ?_⟩⟩
    · rw [← Go.WideShapes.add_plain]; exact (hfx j hj).c0
    · rw [Nat.add_assoc, ← Go.WideShapes.add_plain]; exact (hfx j hj).c1
    · rw [Nat.add_assoc, ← Go.WideShapes.add_plain]; exact (hfx j hj).c2
end Go.Proofs.YtfcbjcebkahehaaGreatDoor
