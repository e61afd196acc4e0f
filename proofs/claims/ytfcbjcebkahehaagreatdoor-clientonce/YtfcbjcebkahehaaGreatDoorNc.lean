/- Arguments that are handed in, opened; the variable of the library. -/
import Derived.Test.YtfcbjcebkahehaaGreatDoorCt
import Derived.ProofKit
import Derived.OpenShut
import Derived.LaidMore
import Derived.Lay
import Derived.SevenTiedAt
import Derived.Stop.Joined
import Derived.ChangeMaps5
import Derived.Carry
import Derived.LaidHandle
import Derived.Deep.Slices
namespace Go.Proofs.YtfcbjcebkahehaaGreatDoor
open Go.ChangeMaps Go.ChangeShapes Go.WideShapes Go.ChangeAt Go.RowKit
theorem own : ownKnob Tryz.prog.godebug = none := by kernel_rfl

set_option maxRecDepth 100000 in
/-- The row's step, with the world's shape kept for the contract. -/
theorem lift_law {H : Type} {enc : TypeId × Value → H} {os : Os} {f : FuncId} {fn : Func} {s : ChangeSpec} {X : World → Array Value → Prop}
    (hX : ∀ (w w' : World) (args : Array Value), w.heap = w'.heap → X w args → X w' args) (started : os.Started) (noInit : Tryz.checked.prog.inits.idxOf? f = none) (hfn : Tryz.checked.prog.funcs[f]? = some fn)
    (witness : ∃ (w : World) (tape : Tape) (i : Input), w.os = os ∧ (w.forCall tape i).Shaped Tryz.checked.prog ∧ i.vars = [] ∧ Input.okWide Tryz.checked.prog (w.forCall tape i) .any w.heap.size f i ∧
      ((s.pre enc Tryz.checked.prog fn [] false (w.forCall tape i).memory i.args ∧ X (w.forCall tape i).memory i.args) ∧ sizedMet enc Tryz.checked.prog fn (OpenSpec.ofChange s) false (w.forCall tape i).memory i.args) ∧ ({} : Assume).holds Tryz.checked.prog (lone (Frame.enter Tryz.checked.prog f i.args .normal) [] (w.forCall tape i)))
    (contract : ∀ (W : World) (base : Nat) (args : Array Value) (ds gs : List (DataW H)) (before : List MemPlace),
      (∀ (j : Nat) t v, fn.params[j]? = some t → args[j]? = some v → Value.okWide Tryz.checked.prog W .any base t v) →
      DataW.Whole enc Tryz.checked.prog fn.params.toList s.vars false W args.toList ds gs before →
      (DataW.weightsEach Tryz.checked.prog (fn.params.toList ++ s.plain.varTypes Tryz.checked.prog) (ds ++ gs)).all (· ≤ reachBytes) = true → X W args → W.ShapedOpen Tryz.checked.prog →
      Calls Tryz.checked.prog f args W fun e W' => ∃ v, e = .returned v ∧ s.post enc Tryz.checked.prog fn false true false false W args v W') :
    ReturnsInHanded {} Tryz.checked os f .any (fun w args => (s.pre enc Tryz.checked.prog fn [] false w args ∧ X w args) ∧ sizedMet enc Tryz.checked.prog fn (OpenSpec.ofChange s) false w args) (s.post enc Tryz.checked.prog fn false true false false) := by
  refine returnsInHanded_of_calls own started noInit witness ?_
  intro w tape i _ hsh _ hok hpre _
  obtain ⟨_, _, _, fn', hfn', _, _, _, _, hval⟩ := hok
  obtain rfl : fn' = fn := Option.some.inj (hfn'.symm.trans hfn)
  obtain ⟨⟨⟨ds, gs, before, hw, _⟩, hx⟩, hz⟩ := hpre
  refine (contract (w.forCall tape i) w.heap.size i.args ds gs before hval (DataW.Whole.of_heap (w' := w.forCall tape i) (by rfl) hw) (hz.weights hw) (hX _ _ _ (by rfl) hx) hsh).mono ?_
  rintro e W' ⟨v, rfl, hp⟩
  exact ChangeSpec.post_blind hp

theorem err_rt : (Tryz.prog.cutTypes.find? (·.1 == "internal/reflectlite.rtype")).map (·.2) = some 283 := by kernel_rfl
theorem err_row : ((List.range 332).filter fun t => Tryz.prog.rowNamed t [101, 114, 114, 111, 114]) = [177] := by kernel_rfl
theorem err_types : Tryz.prog.types.size = 332 := by kernel_rfl
theorem err_glob : Tryz.prog.globalNamed "errors.errorType" = some 1 := by kernel_rfl

theorem errT_of {W : World} (h : laidMetH Tryz.prog [("errors.errorType", Rows.laid_errors_errorType)] W) : ErrT W := by
  have h' : laidMet Tryz.prog [] W ∧ handlesMet Tryz.prog [("errors.errorType", Rows.laid_errors_errorType)] W := h
  obtain ⟨name, u, ty, e1, e2, e3, e4, e5⟩ := h'.2 _ (List.mem_singleton.2 rfl)
  have en : name = [101, 114, 114, 111, 114] := (Option.some.inj e1).symm
  subst en
  obtain rfl := Option.some.inj (err_rt.symm.trans e2)
  have hm : ty ∈ (List.range 332).filter fun t => Tryz.prog.rowNamed t [101, 114, 114, 111, 114] := List.mem_filter.2 ⟨List.mem_range.2 (by rw [← err_types]; exact e3), e4⟩
  rw [err_row] at hm
  obtain rfl := List.mem_singleton.1 hm
  have hh : typeHandle Tryz.prog 177 = .pointer (some ⟨2, 177, none⟩) := by kernel_rfl
  rw [hh] at e5
  simpa [ErrT] using World.var?_cell err_glob e5 0

theorem wf_i64 {n : Int} (h : (Lit.int .i64 n).wf = true) : -9223372036854775808 ≤ n ∧ n ≤ 9223372036854775807 := by
  have hmin : IntKind.i64.min = -9223372036854775808 := rfl
  have hmax : IntKind.i64.max = 9223372036854775807 := rfl
  simp only [Lit.wf, Bool.and_eq_true, decide_eq_true_eq] at h
  omega
theorem cellsI : Tryz.prog.cellsOf 3 = 1 := by kernel_rfl
theorem cellsS : Tryz.prog.cellsOf 9 = 1 := by kernel_rfl
theorem cellsL : Tryz.prog.cellsOf 24 = 1 := by kernel_rfl
theorem cellsSy : Tryz.prog.cellsOf 26 = 5 := by kernel_rfl
theorem cellsMk : Tryz.prog.cellsOf 131 = 8 := by kernel_rfl
theorem cellsAu : Tryz.prog.cellsOf 44 = 2 := by kernel_rfl
theorem cellsCl : Tryz.prog.cellsOf 108 = 10 := by kernel_rfl
theorem list2 {α : Type} (l : List α) (h : l.length = 2) : ∃ a b, l = [a, b] := by
  match l, h with
  | [a, b], _ => exact ⟨a, b, rfl⟩
theorem list4 {α : Type} (l : List α) (h : l.length = 4) : ∃ a b c d, l = [a, b, c, d] := by
  match l, h with
  | [a, b, c, d], _ => exact ⟨a, b, c, d, rfl⟩
theorem list5 {α : Type} (l : List α) (h : l.length = 5) : ∃ a b c d e, l = [a, b, c, d, e] := by
  match l, h with
  | [a, b, c, d, e], _ => exact ⟨a, b, c, d, e, rfl⟩
theorem list8 {α : Type} (l : List α) (h : l.length = 8) : ∃ a b c d e f g i, l = [a, b, c, d, e, f, g, i] := by
  match l, h with
  | [a, b, c, d, e, f, g, i], _ => exact ⟨a, b, c, d, e, f, g, i, rfl⟩
theorem list10 {α : Type} (l : List α) (h : l.length = 10) : ∃ a b c d e f g i j k, l = [a, b, c, d, e, f, g, i, j, k] := by
  match l, h with
  | [a, b, c, d, e, f, g, i, j, k], _ => exact ⟨a, b, c, d, e, f, g, i, j, k, rfl⟩
theorem ba_again (s : ByteArray) : (⟨s.data.toList.toArray⟩ : ByteArray) = s := by simp
section
variable {H : Type} {enc : TypeId × Value → H} {w : World} {sp : Nat → Bool} {held : Bool}
/-- a list of numbers, opened -/
theorem ints_up {fuel : Nat} {v : Value} {x : DataW H × List MemPlace} (h : DataW.trod enc Tryz.prog w 0 sp held fuel 24 [v] = some x) :
    ∃ (gs : List Int) (oa : Option Addr) (cap : Nat), v = .slice oa gs.length cap ∧ GsAt w w.heap.size oa gs ∧ gs.length ≤ cap ∧ cap ≤ maxLen := by
  rcases DataW.trod_slice Tryz.underlying24 h with ⟨h5, _⟩ | ⟨a, len, cap, elems, rest, n', hn, h5, _, _, hlc, hcm, hel, hrow, _⟩
  · rw [List.cons.injEq] at h5
    exact ⟨[], none, 0, h5.1, fun h0 => by simp at h0, by simp, by unfold maxLen; omega⟩
  · rw [List.cons.injEq] at h5
    rw [cellsI] at hrow
    have hone : ∀ i, i < len → ∃ z : Int, w.cell? (a.add i) = some (.int .i64 z) := by
      intro i hi
      have hr := hrow i hi
      obtain ⟨y, hy⟩ : ∃ y, elems[i]? = some y := ⟨elems[i]'(by omega), List.getElem?_eq_getElem (by omega)⟩
      rw [hy, Option.bind_eq_some_iff] at hr
      obtain ⟨ds, hd1, hd2⟩ := hr
      obtain ⟨_, hdl, hdc⟩ := World.cells?_some hd1
      obtain ⟨z, hz, _, _⟩ := DataW.trod_int Tryz.underlying3 hd2
      have g0 := hdc 0 (by omega)
      rw [hz, Addr.add_zero', Nat.mul_one] at g0
      exact ⟨z, by simpa using g0⟩
    obtain ⟨f, hf⟩ : ∃ f : Nat → Int, ∀ i, i < len → w.cell? (a.add i) = some (.int .i64 (f i)) :=
      ⟨fun i => if hi : i < len then (hone i hi).choose else 0, fun i hi => by simp only [dif_pos hi]; exact (hone i hi).choose_spec⟩
    refine ⟨(List.range len).map f, some a, cap, by simpa using h5.1, fun h0 => ?_, by simpa using hlc, hcm⟩
    have h0' : 0 < len := by simpa using h0
    obtain ⟨g, o, spot⟩ := a
    have hc := hf 0 h0'
    rw [Addr.add_zero'] at hc
    have hspot : spot = none := World.cell?_spot hc
    subst hspot
    refine ⟨g, o, rfl, World.block_lt_of_cell? w _ hc, fun i hi => ?_⟩
    have hi' : i < len := by simpa using hi
    have := hf i hi'
    have e : ((List.range len).map f).getD i 0 = f i := by rw [List.getD_eq_getElem?_getD]; simp [hi']
    rw [e]
    simp only [Go.WideShapes.add_plain] at this
    exact this
/-- a sys, opened -/
theorem sys_up {fuel : Nat} {cs : List Value} {x : DataW H × List MemPlace} (h : DataW.trod enc Tryz.prog w 0 sp held fuel 26 cs = some x) :
    ∃ (s : SysP) (oa : Option Addr) (cap : Nat), cs = [.int .i64 s.stamp, .string ⟨s.machine.toArray⟩, .int .i64 s.user, .int .i64 s.group, .slice oa s.groups.length cap] ∧ GsAt w w.heap.size oa s.groups ∧ s.groups.length ≤ cap ∧ cap ≤ maxLen := by
  obtain ⟨xs, n, _, _, hl, hlen, hall⟩ := DataW.trod_struct Tryz.underlying26 h
  rw [cellsSy] at hl
  obtain ⟨v0, v1, v2, v3, v4, rfl⟩ := list5 cs hl
  obtain ⟨y0, y1, y2, y3, y4, rfl⟩ := list5 xs hlen
  have e0 := hall 0 { name := "Stamp", type := 3, offset := 0, embedded := false, tag := "", pkgPath := "", byteOffset := 0 } rfl
  have e1 := hall 1 { name := "Machine", type := 9, offset := 1, embedded := false, tag := "", pkgPath := "", byteOffset := 8 } rfl
  have e2 := hall 2 { name := "User", type := 3, offset := 2, embedded := false, tag := "", pkgPath := "", byteOffset := 24 } rfl
  have e3 := hall 3 { name := "Group", type := 3, offset := 3, embedded := false, tag := "", pkgPath := "", byteOffset := 32 } rfl
  have e4 := hall 4 { name := "Groups", type := 24, offset := 4, embedded := false, tag := "", pkgPath := "", byteOffset := 40 } rfl
  dsimp only at e0 e1 e2 e3 e4
  rw [cellsI] at e0 e2 e3
  rw [cellsS] at e1
  rw [cellsL] at e4
  obtain ⟨z0, hz0, _, _⟩ := DataW.trod_int Tryz.underlying3 (cs := [v0]) (x := y0) e0
  obtain ⟨z1, hz1, _, _⟩ := DataW.trod_string Tryz.underlying9 (cs := [v1]) (x := y1) e1
  obtain ⟨z2, hz2, _, _⟩ := DataW.trod_int Tryz.underlying3 (cs := [v2]) (x := y2) e2
  obtain ⟨z3, hz3, _, _⟩ := DataW.trod_int Tryz.underlying3 (cs := [v3]) (x := y3) e3
  obtain ⟨gs, oa, cap, hz4, hg, hc, hm⟩ := ints_up (v := v4) (x := y4) e4
  rw [List.cons.injEq] at hz0 hz1 hz2 hz3
  refine ⟨⟨z0, z1.data.toList, z2, z3, gs⟩, oa, cap, ?_, hg, hc, hm⟩
  rw [hz0.1, hz1.1, hz2.1, hz3.1, hz4]
/-- a mark, opened -/
theorem mark_up {fuel : Nat} {cs : List Value} {x : DataW H × List MemPlace} (h : DataW.trod enc Tryz.prog w 0 sp held fuel 131 cs = some x) :
    ∃ (m : MarkP) (oa : Option Addr) (cap : Nat), cs = [.int .i64 m.inst, .int .i64 m.seq, .int .i64 m.water, .int .i64 m.sys.stamp, .string ⟨m.sys.machine.toArray⟩, .int .i64 m.sys.user, .int .i64 m.sys.group, .slice oa m.sys.groups.length cap] ∧ GsAt w w.heap.size oa m.sys.groups ∧ m.sys.groups.length ≤ cap ∧ cap ≤ maxLen := by
  obtain ⟨xs, n, _, _, hl, hlen, hall⟩ := DataW.trod_struct Tryz.underlying131 h
  rw [cellsMk] at hl
  obtain ⟨v0, v1, v2, v3, v4, v5, v6, v7, rfl⟩ := list8 cs hl
  obtain ⟨y0, y1, y2, y3, rfl⟩ := list4 xs hlen
  have e0 := hall 0 { name := "Instance", type := 3, offset := 0, embedded := false, tag := "", pkgPath := "", byteOffset := 0 } rfl
  have e1 := hall 1 { name := "Sequence", type := 3, offset := 1, embedded := false, tag := "", pkgPath := "", byteOffset := 8 } rfl
  have e2 := hall 2 { name := "Water", type := 3, offset := 2, embedded := false, tag := "", pkgPath := "", byteOffset := 16 } rfl
  have e3 := hall 3 { name := "Sys", type := 26, offset := 3, embedded := false, tag := "", pkgPath := "", byteOffset := 24 } rfl
  dsimp only at e0 e1 e2 e3
  rw [cellsI] at e0 e1 e2
  rw [cellsSy] at e3
  obtain ⟨z0, hz0, _, _⟩ := DataW.trod_int Tryz.underlying3 (cs := [v0]) (x := y0) e0
  obtain ⟨z1, hz1, _, _⟩ := DataW.trod_int Tryz.underlying3 (cs := [v1]) (x := y1) e1
  obtain ⟨z2, hz2, _, _⟩ := DataW.trod_int Tryz.underlying3 (cs := [v2]) (x := y2) e2
  obtain ⟨s, oa, cap, hs, hg, hc, hm⟩ := sys_up (cs := [v3, v4, v5, v6, v7]) (x := y3) e3
  rw [List.cons.injEq] at hz0 hz1 hz2
  refine ⟨⟨z0, z1, z2, s⟩, oa, cap, ?_, hg, hc, hm⟩
  rw [hz0.1, hz1.1, hz2.1, hs]
/-- a credential, opened -/
theorem auth_up {fuel : Nat} {cs : List Value} {x : DataW H × List MemPlace} (h : DataW.trod enc Tryz.prog w 0 sp held fuel 44 cs = some x) :
    ∃ (f : Int) (b : List UInt8), cs = [.int .i64 f, .string ⟨b.toArray⟩] := by
  obtain ⟨xs, n, _, _, hl, hlen, hall⟩ := DataW.trod_struct Tryz.underlying44 h
  rw [cellsAu] at hl
  obtain ⟨v0, v1, rfl⟩ := list2 cs hl
  obtain ⟨y0, y1, rfl⟩ := list2 xs hlen
  have e0 := hall 0 { name := "Flavor", type := 3, offset := 0, embedded := false, tag := "", pkgPath := "", byteOffset := 0 } rfl
  have e1 := hall 1 { name := "Body", type := 9, offset := 1, embedded := false, tag := "", pkgPath := "", byteOffset := 8 } rfl
  dsimp only at e0 e1
  rw [cellsI] at e0
  rw [cellsS] at e1
  obtain ⟨z0, hz0, _, _⟩ := DataW.trod_int Tryz.underlying3 (cs := [v0]) (x := y0) e0
  obtain ⟨z1, hz1, _, _⟩ := DataW.trod_string Tryz.underlying9 (cs := [v1]) (x := y1) e1
  rw [List.cons.injEq] at hz0 hz1
  refine ⟨z0, z1.data.toList, ?_⟩
  rw [hz0.1, hz1.1]
/-- a call, opened -/
theorem call_up {fuel : Nat} {cs : List Value} {x : DataW H × List MemPlace} (h : DataW.trod enc Tryz.prog w 0 sp held fuel 108 cs = some x) :
    ∃ (xid rpc prog vers proc cf vf : Int) (cr vb : List UInt8) (ar : ByteArray), cs = [.int .i64 xid, .int .i64 rpc, .int .i64 prog, .int .i64 vers, .int .i64 proc, .int .i64 cf, .string ⟨cr.toArray⟩, .int .i64 vf, .string ⟨vb.toArray⟩, .string ar] := by
  obtain ⟨xs, n, _, _, hl, hlen, hall⟩ := DataW.trod_struct Tryz.underlying108 h
  rw [cellsCl] at hl
  obtain ⟨v0, v1, v2, v3, v4, v5, v6, v7, v8, v9, rfl⟩ := list10 cs hl
  obtain ⟨y0, y1, y2, y3, y4, y5, y6, y7, rfl⟩ := list8 xs hlen
  have e0 := hall 0 { name := "Xid", type := 3, offset := 0, embedded := false, tag := "", pkgPath := "", byteOffset := 0 } rfl
  have e1 := hall 1 { name := "Rpc", type := 3, offset := 1, embedded := false, tag := "", pkgPath := "", byteOffset := 8 } rfl
  have e2 := hall 2 { name := "Prog", type := 3, offset := 2, embedded := false, tag := "", pkgPath := "", byteOffset := 16 } rfl
  have e3 := hall 3 { name := "Vers", type := 3, offset := 3, embedded := false, tag := "", pkgPath := "", byteOffset := 24 } rfl
  have e4 := hall 4 { name := "Proc", type := 3, offset := 4, embedded := false, tag := "", pkgPath := "", byteOffset := 32 } rfl
  have e5 := hall 5 { name := "Cred", type := 44, offset := 5, embedded := false, tag := "", pkgPath := "", byteOffset := 40 } rfl
  have e6 := hall 6 { name := "Verf", type := 44, offset := 7, embedded := false, tag := "", pkgPath := "", byteOffset := 64 } rfl
  have e7 := hall 7 { name := "Args", type := 9, offset := 9, embedded := false, tag := "", pkgPath := "", byteOffset := 88 } rfl
  dsimp only at e0 e1 e2 e3 e4 e5 e6 e7
  rw [cellsI] at e0 e1 e2 e3 e4
  rw [cellsAu] at e5 e6
  rw [cellsS] at e7
  obtain ⟨z0, hz0, _, _⟩ := DataW.trod_int Tryz.underlying3 (cs := [v0]) (x := y0) e0
  obtain ⟨z1, hz1, _, _⟩ := DataW.trod_int Tryz.underlying3 (cs := [v1]) (x := y1) e1
  obtain ⟨z2, hz2, _, _⟩ := DataW.trod_int Tryz.underlying3 (cs := [v2]) (x := y2) e2
  obtain ⟨z3, hz3, _, _⟩ := DataW.trod_int Tryz.underlying3 (cs := [v3]) (x := y3) e3
  obtain ⟨z4, hz4, _, _⟩ := DataW.trod_int Tryz.underlying3 (cs := [v4]) (x := y4) e4
  obtain ⟨cf, cr, hz5⟩ := auth_up (cs := [v5, v6]) (x := y5) e5
  obtain ⟨vf, vb, hz6⟩ := auth_up (cs := [v7, v8]) (x := y6) e6
  obtain ⟨z7, hz7, _, _⟩ := DataW.trod_string Tryz.underlying9 (cs := [v9]) (x := y7) e7
  simp only [List.cons.injEq, and_true] at hz0 hz1 hz2 hz3 hz4 hz5 hz6 hz7
  refine ⟨z0, z1, z2, z3, z4, cf, vf, cr, vb, z7, ?_⟩
  rw [hz0, hz1, hz2, hz3, hz4, hz5.1, hz5.2, hz6.1, hz6.2, hz7]
end
end Go.Proofs.YtfcbjcebkahehaaGreatDoor
