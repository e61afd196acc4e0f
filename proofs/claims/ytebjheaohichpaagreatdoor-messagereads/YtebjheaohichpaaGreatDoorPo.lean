/- Arguments that are handed in, opened: calls, replies, texts; the variable of the library. -/
import Derived.Test.YtebjheaohichpaaGreatDoorGz
import Derived.ProofKit
import Derived.OpenShut
import Derived.LaidMore
import Derived.Lay
import Derived.SevenTiedAt
import Derived.Stop.Joined
import Derived.ChangeMaps5
import Derived.Carry
import Derived.LaidHandle
import Derived.Deep.Slices
import Derived.SizedLaws
namespace Go.Proofs.YtebjheaohichpaaGreatDoor
open Go.ChangeMaps Go.ChangeShapes Go.WideShapes Go.ChangeAt Go.RowKit
theorem own : ownKnob Tryz.prog.godebug = none := by kernel_rfl

set_option maxRecDepth 100000 in
/-- The row's step, with the world's shape kept for the contract. -/
theorem lift_law {H : Type} {enc : TypeId × Value → H} {os : Os} {f : FuncId} {fn : Func} {s : ChangeSpec} {X : World → Array Value → Prop}
    (hX : ∀ (w w' : World) (args : Array Value), w.heap = w'.heap → X w args → X w' args) (started : os.Started) (noInit : Tryz.checked.prog.inits.idxOf? f = none) (hfn : Tryz.checked.prog.funcs[f]? = some fn)
    (witness : ∃ (w : World) (tape : Tape) (i : Input), w.os = os ∧ (w.forCall tape i).Shaped Tryz.checked.prog ∧ i.vars = [] ∧ Input.okWide Tryz.checked.prog (w.forCall tape i) .any w.heap.size f i ∧
      ((s.pre enc Tryz.checked.prog fn [] false (w.forCall tape i).memory i.args ∧ X (w.forCall tape i).memory i.args) ∧ sizedMet enc Tryz.checked.prog fn (OpenSpec.ofChange s) false (w.forCall tape i).memory i.args) ∧ ({} : Assume).holds Tryz.checked.prog (lone (Frame.enter Tryz.checked.prog f i.args .normal) [] (w.forCall tape i)))
    (contract : ∀ (W : World) (base : Nat) (args : Array Value) (ds gs : List (DataW H)) (before : List MemPlace),
      (∀ (j : Nat) t v, fn.params[j]? = some t → args[j]? = some v → Value.okWide Tryz.checked.prog W .any base t v) →
      DataW.Whole enc Tryz.checked.prog fn.params.toList s.vars false W args.toList ds gs before →
      (DataW.weightsEach Tryz.checked.prog (fn.params.toList ++ s.plain.varTypes Tryz.checked.prog) (ds ++ gs)).all (· ≤ reachBytes) = true → X W args → W.ShapedOpen Tryz.checked.prog →
      Calls Tryz.checked.prog f args W fun e W' => ∃ v, e = .returned v ∧ s.post enc Tryz.checked.prog fn false true false false W args v W') :
    ReturnsInHanded {} Tryz.checked os f .any (fun w args => (s.pre enc Tryz.checked.prog fn [] false w args ∧ X w args) ∧ sizedMet enc Tryz.checked.prog fn (OpenSpec.ofChange s) false w args) (s.post enc Tryz.checked.prog fn false true false false) := by
  refine returnsInHanded_of_calls own started noInit witness ?_
  intro w tape i _ hsh _ hok hpre _
  obtain ⟨_, _, _, fn', hfn', _, _, _, _, hval⟩ := hok
  obtain rfl : fn' = fn := Option.some.inj (hfn'.symm.trans hfn)
  obtain ⟨⟨⟨ds, gs, before, hw, _⟩, hx⟩, hz⟩ := hpre
  refine (contract (w.forCall tape i) w.heap.size i.args ds gs before hval (DataW.Whole.of_heap (w' := w.forCall tape i) (by rfl) hw) (hz.weights hw) (hX _ _ _ (by rfl) hx) hsh).mono ?_
  rintro e W' ⟨v, rfl, hp⟩
  exact ChangeSpec.post_blind hp

theorem err_rt : (Tryz.prog.cutTypes.find? (·.1 == "internal/reflectlite.rtype")).map (·.2) = some 163 := by kernel_rfl
theorem err_row : ((List.range 203).filter fun t => Tryz.prog.rowNamed t [101, 114, 114, 111, 114]) = [70] := by kernel_rfl
theorem err_types : Tryz.prog.types.size = 203 := by kernel_rfl
theorem err_glob : Tryz.prog.globalNamed "errors.errorType" = some 0 := by kernel_rfl

theorem errT_of {W : World} (h : laidMetH Tryz.prog [("errors.errorType", Rows.laid_errors_errorType)] W) : ErrT W := by
  have h' : laidMet Tryz.prog [] W ∧ handlesMet Tryz.prog [("errors.errorType", Rows.laid_errors_errorType)] W := h
  obtain ⟨name, u, ty, e1, e2, e3, e4, e5⟩ := h'.2 _ (List.mem_singleton.2 rfl)
  have en : name = [101, 114, 114, 111, 114] := (Option.some.inj e1).symm
  subst en
  obtain rfl := Option.some.inj (err_rt.symm.trans e2)
  have hm : ty ∈ (List.range 203).filter fun t => Tryz.prog.rowNamed t [101, 114, 114, 111, 114] := List.mem_filter.2 ⟨List.mem_range.2 (by rw [← err_types]; exact e3), e4⟩
  rw [err_row] at hm
  obtain rfl := List.mem_singleton.1 hm
  have hh : typeHandle Tryz.prog 70 = .pointer (some ⟨1, 70, none⟩) := by kernel_rfl
  rw [hh] at e5
  simpa [ErrT] using World.var?_cell err_glob e5 0

theorem wf_i64 {n : Int} (h : (Lit.int .i64 n).wf = true) : -9223372036854775808 ≤ n ∧ n ≤ 9223372036854775807 := by
  have hmin : IntKind.i64.min = -9223372036854775808 := rfl
  have hmax : IntKind.i64.max = 9223372036854775807 := rfl
  simp only [Lit.wf, Bool.and_eq_true, decide_eq_true_eq] at h
  omega
theorem cellsI : Tryz.prog.cellsOf 3 = 1 := by kernel_rfl
theorem cellsS : Tryz.prog.cellsOf 9 = 1 := by kernel_rfl
theorem cellsB : Tryz.prog.cellsOf 4 = 1 := by kernel_rfl
theorem cellsAu : Tryz.prog.cellsOf 23 = 2 := by kernel_rfl
theorem cellsCl : Tryz.prog.cellsOf 25 = 10 := by kernel_rfl
theorem cellsRe : Tryz.prog.cellsOf 27 = 10 := by kernel_rfl
theorem list2 {α : Type} (l : List α) (h : l.length = 2) : ∃ a b, l = [a, b] := by
  match l, h with
  | [a, b], _ => exact ⟨a, b, rfl⟩
theorem list8 {α : Type} (l : List α) (h : l.length = 8) : ∃ a b c d e f g i, l = [a, b, c, d, e, f, g, i] := by
  match l, h with
  | [a, b, c, d, e, f, g, i], _ => exact ⟨a, b, c, d, e, f, g, i, rfl⟩
theorem list9 {α : Type} (l : List α) (h : l.length = 9) : ∃ a b c d e f g i j, l = [a, b, c, d, e, f, g, i, j] := by
  match l, h with
  | [a, b, c, d, e, f, g, i, j], _ => exact ⟨a, b, c, d, e, f, g, i, j, rfl⟩
theorem list10 {α : Type} (l : List α) (h : l.length = 10) : ∃ a b c d e f g i j k, l = [a, b, c, d, e, f, g, i, j, k] := by
  match l, h with
  | [a, b, c, d, e, f, g, i, j, k], _ => exact ⟨a, b, c, d, e, f, g, i, j, k, rfl⟩
theorem reach47 {n : Nat} (h : n ≤ reachBytes) : n ≤ 140737488355328 := by
  have := reachBytes_lt
  omega
theorem ba_list (s : ByteArray) : (⟨s.data.toList.toArray⟩ : ByteArray) = s := by simp
section
variable {H : Type} {enc : TypeId × Value → H} {w : World} {sp : Nat → Bool} {held : Bool}
/-- a credential, opened -/
theorem auth_up {fuel : Nat} {cs : List Value} {x : DataW H × List MemPlace} (h : DataW.trod enc Tryz.prog w 0 sp held fuel 23 cs = some x) :
    ∃ a : AuthP, cs = [.int .i64 a.flavor, .string ⟨a.body.toArray⟩] ∧ In64 a.flavor ∧ x = (.agg [.lit (.int .i64 a.flavor), .lit (.string a.body)], []) := by
  obtain ⟨xs, n, _, hx, hl, hlen, hall⟩ := DataW.trod_struct Tryz.underlying23 h
  rw [cellsAu] at hl
  obtain ⟨v0, v1, rfl⟩ := list2 cs hl
  obtain ⟨y0, y1, rfl⟩ := list2 xs hlen
  have e0 := hall 0 { name := "Flavor", type := 3, offset := 0, embedded := false, tag := "", pkgPath := "", byteOffset := 0 } rfl
  have e1 := hall 1 { name := "Body", type := 9, offset := 1, embedded := false, tag := "", pkgPath := "", byteOffset := 8 } rfl
  dsimp only at e0 e1
  rw [cellsI] at e0
  rw [cellsS] at e1
  obtain ⟨z0, hz0, rfl, i0⟩ := DataW.trod_int Tryz.underlying3 (cs := [v0]) (x := y0) e0
  obtain ⟨z1, hz1, rfl, _⟩ := DataW.trod_string Tryz.underlying9 (cs := [v1]) (x := y1) e1
  rw [List.cons.injEq] at hz0 hz1
  refine ⟨⟨z0, z1.data.toList⟩, ?_, wf_i64 i0, hx⟩
  rw [hz0.1, hz1.1]
/-- a call, opened -/
theorem call_up {fuel : Nat} {cs : List Value} {x : DataW H × List MemPlace} (h : DataW.trod enc Tryz.prog w 0 sp held fuel 25 cs = some x) :
    ∃ c : CallP, cs = callV c ∧ ((x.1.weights Tryz.prog 25).all (· ≤ reachBytes) = true → Call64 c) := by
  obtain ⟨xs, n, _, hx, hl, hlen, hall⟩ := DataW.trod_struct Tryz.underlying25 h
  rw [cellsCl] at hl
  obtain ⟨v0, v1, v2, v3, v4, v5, v6, v7, v8, v9, rfl⟩ := list10 cs hl
  obtain ⟨y0, y1, y2, y3, y4, y5, y6, y7, rfl⟩ := list8 xs hlen
  have e0 := hall 0 { name := "Xid", type := 3, offset := 0, embedded := false, tag := "", pkgPath := "", byteOffset := 0 } rfl
  have e1 := hall 1 { name := "Rpc", type := 3, offset := 1, embedded := false, tag := "", pkgPath := "", byteOffset := 8 } rfl
  have e2 := hall 2 { name := "Prog", type := 3, offset := 2, embedded := false, tag := "", pkgPath := "", byteOffset := 16 } rfl
  have e3 := hall 3 { name := "Vers", type := 3, offset := 3, embedded := false, tag := "", pkgPath := "", byteOffset := 24 } rfl
  have e4 := hall 4 { name := "Proc", type := 3, offset := 4, embedded := false, tag := "", pkgPath := "", byteOffset := 32 } rfl
  have e5 := hall 5 { name := "Cred", type := 23, offset := 5, embedded := false, tag := "", pkgPath := "", byteOffset := 40 } rfl
  have e6 := hall 6 { name := "Verf", type := 23, offset := 7, embedded := false, tag := "", pkgPath := "", byteOffset := 64 } rfl
  have e7 := hall 7 { name := "Args", type := 9, offset := 9, embedded := false, tag := "", pkgPath := "", byteOffset := 88 } rfl
  dsimp only at e0 e1 e2 e3 e4 e5 e6 e7
  rw [cellsI] at e0 e1 e2 e3 e4
  rw [cellsAu] at e5 e6
  rw [cellsS] at e7
  obtain ⟨z0, hz0, rfl, i0⟩ := DataW.trod_int Tryz.underlying3 (cs := [v0]) (x := y0) e0
  obtain ⟨z1, hz1, rfl, i1⟩ := DataW.trod_int Tryz.underlying3 (cs := [v1]) (x := y1) e1
  obtain ⟨z2, hz2, rfl, i2⟩ := DataW.trod_int Tryz.underlying3 (cs := [v2]) (x := y2) e2
  obtain ⟨z3, hz3, rfl, i3⟩ := DataW.trod_int Tryz.underlying3 (cs := [v3]) (x := y3) e3
  obtain ⟨z4, hz4, rfl, i4⟩ := DataW.trod_int Tryz.underlying3 (cs := [v4]) (x := y4) e4
  obtain ⟨z5, hz5, i5, rfl⟩ := auth_up (cs := [v5, v6]) (x := y5) e5
  obtain ⟨z6, hz6, i6, rfl⟩ := auth_up (cs := [v7, v8]) (x := y6) e6
  obtain ⟨z7, hz7, rfl, _⟩ := DataW.trod_string Tryz.underlying9 (cs := [v9]) (x := y7) e7
  simp only [List.cons.injEq, and_true] at hz0 hz1 hz2 hz3 hz4 hz5 hz6 hz7
  refine ⟨⟨z0, z1, z2, z3, z4, z5, z6, z7.data.toList⟩, ?_, fun hw => ?_⟩
  · rw [hz0, hz1, hz2, hz3, hz4, hz5.1, hz5.2, hz6.1, hz6.2, hz7]
    rfl
  · rw [hx] at hw
    simp [DataW.weights, DataW.weightsEach, Tryz.underlying25, Tryz.underlying23] at hw
    exact ⟨wf_i64 i0, wf_i64 i1, wf_i64 i2, wf_i64 i3, wf_i64 i4, i5, i6, reach47 hw.1, reach47 hw.2.1, reach47 hw.2.2⟩
/-- a reply, opened -/
theorem reply_up {fuel : Nat} {cs : List Value} {x : DataW H × List MemPlace} (h : DataW.trod enc Tryz.prog w 0 sp held fuel 27 cs = some x) :
    ∃ c : ReplyP, cs = replyV c ∧ ((x.1.weights Tryz.prog 27).all (· ≤ reachBytes) = true → Reply64 c) := by
  obtain ⟨xs, n, _, hx, hl, hlen, hall⟩ := DataW.trod_struct Tryz.underlying27 h
  rw [cellsRe] at hl
  obtain ⟨v0, v1, v2, v3, v4, v5, v6, v7, v8, v9, rfl⟩ := list10 cs hl
  obtain ⟨y0, y1, y2, y3, y4, y5, y6, y7, y8, rfl⟩ := list9 xs hlen
  have e0 := hall 0 { name := "Xid", type := 3, offset := 0, embedded := false, tag := "", pkgPath := "", byteOffset := 0 } rfl
  have e1 := hall 1 { name := "Denied", type := 4, offset := 1, embedded := false, tag := "", pkgPath := "", byteOffset := 8 } rfl
  have e2 := hall 2 { name := "Verf", type := 23, offset := 2, embedded := false, tag := "", pkgPath := "", byteOffset := 16 } rfl
  have e3 := hall 3 { name := "Accept", type := 3, offset := 4, embedded := false, tag := "", pkgPath := "", byteOffset := 40 } rfl
  have e4 := hall 4 { name := "Reject", type := 3, offset := 5, embedded := false, tag := "", pkgPath := "", byteOffset := 48 } rfl
  have e5 := hall 5 { name := "Why", type := 3, offset := 6, embedded := false, tag := "", pkgPath := "", byteOffset := 56 } rfl
  have e6 := hall 6 { name := "Low", type := 3, offset := 7, embedded := false, tag := "", pkgPath := "", byteOffset := 64 } rfl
  have e7 := hall 7 { name := "High", type := 3, offset := 8, embedded := false, tag := "", pkgPath := "", byteOffset := 72 } rfl
  have e8 := hall 8 { name := "Results", type := 9, offset := 9, embedded := false, tag := "", pkgPath := "", byteOffset := 80 } rfl
  dsimp only at e0 e1 e2 e3 e4 e5 e6 e7 e8
  rw [cellsI] at e0 e3 e4 e5 e6 e7
  rw [cellsAu] at e2
  rw [cellsS] at e8
  rw [cellsB] at e1
  obtain ⟨z0, hz0, rfl, i0⟩ := DataW.trod_int Tryz.underlying3 (cs := [v0]) (x := y0) e0
  obtain ⟨z1, hz1, rfl⟩ := DataW.trod_bool Tryz.underlying4 (cs := [v1]) (x := y1) e1
  obtain ⟨z2, hz2, i2, rfl⟩ := auth_up (cs := [v2, v3]) (x := y2) e2
  obtain ⟨z3, hz3, rfl, i3⟩ := DataW.trod_int Tryz.underlying3 (cs := [v4]) (x := y3) e3
  obtain ⟨z4, hz4, rfl, i4⟩ := DataW.trod_int Tryz.underlying3 (cs := [v5]) (x := y4) e4
  obtain ⟨z5, hz5, rfl, i5⟩ := DataW.trod_int Tryz.underlying3 (cs := [v6]) (x := y5) e5
  obtain ⟨z6, hz6, rfl, i6⟩ := DataW.trod_int Tryz.underlying3 (cs := [v7]) (x := y6) e6
  obtain ⟨z7, hz7, rfl, i7⟩ := DataW.trod_int Tryz.underlying3 (cs := [v8]) (x := y7) e7
  obtain ⟨z8, hz8, rfl, _⟩ := DataW.trod_string Tryz.underlying9 (cs := [v9]) (x := y8) e8
  simp only [List.cons.injEq, and_true] at hz0 hz1 hz2 hz3 hz4 hz5 hz6 hz7 hz8
  refine ⟨⟨z0, z1, z2, z3, z6, z7, z8.data.toList, z4, z5⟩, ?_, fun hw => ?_⟩
  · rw [hz0, hz1, hz2.1, hz2.2, hz3, hz4, hz5, hz6, hz7, hz8]
    rfl
  · rw [hx] at hw
    simp [DataW.weights, DataW.weightsEach, Tryz.underlying27, Tryz.underlying23] at hw
    exact ⟨wf_i64 i0, i2, wf_i64 i3, wf_i64 i4, wf_i64 i5, wf_i64 i6, wf_i64 i7, reach47 hw.1, reach47 hw.2⟩
end
theorem sized_at {H : Type} {P : Program} {ts : List TypeId} {ds : List (DataW H)} (h : (DataW.weightsEach P ts ds).all (· ≤ reachBytes) = true) {j : Nat} {t : TypeId} {d : DataW H} (ht : ts[j]? = some t) (hd : ds[j]? = some d) : (d.weights P t).all (· ≤ reachBytes) = true := by
  induction ts generalizing ds j with
  | nil => simp at ht
  | cons u us ih =>
    cases ds with
    | nil => simp at hd
    | cons e es =>
      rw [DataW.weightsEach, List.all_append, Bool.and_eq_true] at h
      cases j with
      | zero =>
        simp only [List.getElem?_cons_zero, Option.some.injEq] at ht hd
        subst ht hd
        exact h.1
      | succ j => exact ih h.2 (by simpa using ht) (by simpa using hd)
end Go.Proofs.YtebjheaohichpaaGreatDoor
