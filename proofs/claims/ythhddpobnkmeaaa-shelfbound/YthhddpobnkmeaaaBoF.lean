/- From a contract to the row: the frame of the plain rows. A script of acts that is handed in, opened. Proved: whatever the input, the law ShelfBound of callboxlaw14 (S6, the stage's theorem: a shelf of texts under numbers has just what a plain list of pairs would have, never more than it may, no key twice, in the order of coming) returns true, and each argument reads behind the call as it read before. No condition. -/
import Derived.Test.YthhddpobnkmeaaaRows
import Derived.ProofKit
import Derived.OpenShut
import Derived.LaidMore
import Derived.Lay
import Derived.SevenTiedAt
import Derived.Stop.Joined
import Derived.ChangeMaps5
import Derived.Carry
import Derived.LaidHandle
import Derived.Deep.Slices
import Derived.Test.YthhddpobnkmeaaaBoD
import Derived.Test.YthhddpobnkmeaaaBoE
namespace Go.Proofs.Ythhddpobnkmeaaa
open Go.ChangeMaps Go.ChangeShapes Go.WideShapes Go.ChangeAt Go.RowKit

theorem own : ownKnob Try.prog.godebug = none := by kernel_rfl

set_option maxRecDepth 100000 in
/-- The row's step. -/
theorem lift_law {H : Type} {enc : TypeId × Value → H} {os : Os} {f : FuncId} {fn : Func} {s : ChangeSpec}
    (started : os.Started) (noInit : Try.checked.prog.inits.idxOf? f = none) (hfn : Try.checked.prog.funcs[f]? = some fn)
    (witness : ∃ (w : World) (tape : Tape) (i : Input), w.os = os ∧ (w.forCall tape i).Shaped Try.checked.prog ∧ i.vars = [] ∧ Input.okWide Try.checked.prog (w.forCall tape i) .any w.heap.size f i ∧
      ((s.pre enc Try.checked.prog fn [] false (w.forCall tape i).memory i.args ∧ True) ∧ sizedMet enc Try.checked.prog fn (OpenSpec.ofChange s) false (w.forCall tape i).memory i.args) ∧ ({} : Assume).holds Try.checked.prog (lone (Frame.enter Try.checked.prog f i.args .normal) [] (w.forCall tape i)))
    (contract : ∀ (W : World) (base : Nat) (args : Array Value) (ds gs : List (DataW H)) (before : List MemPlace),
      (∀ (j : Nat) t v, fn.params[j]? = some t → args[j]? = some v → Value.okWide Try.checked.prog W .any base t v) →
      DataW.Whole enc Try.checked.prog fn.params.toList s.vars false W args.toList ds gs before →
      (DataW.weightsEach Try.checked.prog (fn.params.toList ++ s.plain.varTypes Try.checked.prog) (ds ++ gs)).all (· ≤ reachBytes) = true → W.ShapedOpen Try.checked.prog →
      Calls Try.checked.prog f args W fun e W' => ∃ v, e = .returned v ∧ s.post enc Try.checked.prog fn false true false false W args v W') :
    ReturnsInHanded {} Try.checked os f .any (fun w args => s.pre enc Try.checked.prog fn [] false w args ∧ sizedMet enc Try.checked.prog fn (OpenSpec.ofChange s) false w args) (s.post enc Try.checked.prog fn false true false false) := by
  obtain ⟨w0, tape0, i0, k1, k2, k3, k4, ⟨⟨k5, _⟩, k6⟩, k7⟩ := witness
  refine returnsInHanded_of_calls own started noInit ⟨w0, tape0, i0, k1, k2, k3, k4, ⟨k5, k6⟩, k7⟩ ?_
  intro w tape i _ hsh _ hok hpre _
  obtain ⟨_, _, _, fn', hfn', _, _, _, _, hval⟩ := hok
  obtain rfl : fn' = fn := Option.some.inj (hfn'.symm.trans hfn)
  obtain ⟨⟨ds, gs, before, hw, _⟩, hz⟩ := hpre
  refine (contract (w.forCall tape i) w.heap.size i.args ds gs before hval (DataW.Whole.of_heap (w' := w.forCall tape i) (by rfl) hw) (hz.weights hw) hsh).mono ?_
  rintro e W' ⟨v, rfl, hp⟩
  exact ChangeSpec.post_blind hp

theorem list_bytes (s : ByteArray) : (⟨s.data.toList.toArray⟩ : ByteArray) = s := by simp

end Go.Proofs.Ythhddpobnkmeaaa
namespace Go.Proofs.Ythhddpobnkmeaaa
open Go.ChangeMaps Go.ChangeShapes Go.WideShapes Go.ChangeAt Go.RowKit
theorem wf_i64 {n : Int} (h : (Lit.int .i64 n).wf = true) : -9223372036854775808 ≤ n ∧ n ≤ 9223372036854775807 := by
  have hmin : IntKind.i64.min = -9223372036854775808 := rfl
  have hmax : IntKind.i64.max = 9223372036854775807 := rfl
  simp only [Lit.wf, Bool.and_eq_true, decide_eq_true_eq] at h
  omega
theorem list3 {α : Type} (l : List α) (h : l.length = 3) : ∃ a b c, l = [a, b, c] := by
  match l, h with
  | [a, b, c], _ => exact ⟨a, b, c, rfl⟩
/-- One act, in its three cells. -/
structure ActAt (w : World) (a : Addr) (i : Nat) (x : ActR) : Prop where
  c0 : w.cell? (a.add (i * 3)) = some (.int .i64 x.kind)
  c1 : w.cell? (a.add (i * 3 + 1)) = some (.int .i64 x.k)
  c2 : w.cell? (a.add (i * 3 + 2)) = some (.int .i64 x.n)
  k : -9223372036854775808 ≤ x.k ∧ x.k ≤ 9223372036854775807
  n : -9223372036854775808 ≤ x.n ∧ x.n ≤ 9223372036854775807
theorem act_at {H : Type} {enc : TypeId × Value → H} {w : World} {base : Nat} {sp : Nat → Bool} {held : Bool} {n : Nat} {a : Addr} {i : Nat} {cs : List Value} {x : DataW H × List MemPlace}
    (h1 : w.cells? base (a.add (i * 3)) 3 = some cs) (h2 : DataW.trod enc Try.prog w base sp held n 55 cs = some x) : ∃ y, ActAt w a i y := by
  obtain ⟨_, hlen, hcell⟩ := World.cells?_some h1
  obtain ⟨xs, k, _, _, _, hxl, hf⟩ := DataW.trod_struct Try.underlying55 h2
  obtain ⟨y0, y1, y2, rfl⟩ := list3 xs hxl
  obtain ⟨v0, v1, v2, rfl⟩ := list3 cs hlen
  have k3 : Try.prog.cellsOf 3 = 1 := by kernel_rfl
  have g0 : DataW.trod enc Try.prog w base sp held k 3 (([v0, v1, v2].drop 0).take (Try.prog.cellsOf 3)) = some y0 := hf 0 _ rfl
  rw [k3] at g0
  have g1 : DataW.trod enc Try.prog w base sp held k 3 (([v0, v1, v2].drop 1).take (Try.prog.cellsOf 3)) = some y1 := hf 1 _ rfl
  rw [k3] at g1
  have g2 : DataW.trod enc Try.prog w base sp held k 3 (([v0, v1, v2].drop 2).take (Try.prog.cellsOf 3)) = some y2 := hf 2 _ rfl
  rw [k3] at g2
  have e0 := hcell 0 (by omega)
  have e1 := hcell 1 (by omega)
  have e2 := hcell 2 (by omega)
  rw [Go.Deep.add_add] at e0 e1 e2
  obtain ⟨z0, q0, _, w0⟩ := DataW.trod_int Try.underlying3 (x := y0) g0
  obtain ⟨z1, q1, _, w1⟩ := DataW.trod_int Try.underlying3 (x := y1) g1
  obtain ⟨z2, q2, _, w2⟩ := DataW.trod_int Try.underlying3 (x := y2) g2
  simp at q0 q1 q2
  subst q0 q1 q2
  exact ⟨⟨z0, z1, z2⟩, by simpa using e0, by simpa using e1, by simpa using e2, wf_i64 w1, wf_i64 w2⟩
set_option maxRecDepth 100000 in
theorem open_acts {H : Type} {enc : TypeId × Value → H} {W : World} {base : Nat} {v : Value} {d : DataW H} {ps : List MemPlace} (h : DataW.Trod enc Try.prog W 0 (fun _ => true) true 49 v d ps) (hv : Value.okWide Try.prog W .any base 49 v) :
    ∃ (oa : Option Addr) (b off len cap : Nat) (O : Nat → ActR), v = .slice oa len cap ∧ (0 < len → oa = some ⟨b, off, none⟩) ∧ ActsAt W b off len O := by
  obtain ⟨fuel, hf⟩ := h
  have hc : Try.prog.cellsOf 55 = 3 := by kernel_rfl
  rcases Go.Deep.open_slice Try.underlying49 hf with ⟨h0, _⟩ | ⟨a, len, cap, m, n, D, Pl, h0, _, hl, hm, hmm, _, hx⟩
  · have hv0 : v = .slice none 0 0 := by
      obtain ⟨a', l', c', rfl⟩ := okWide_slice Try.underlying49 hv
      simpa [Value.cells] using h0
    exact ⟨none, 0, 0, 0, 0, fun _ => ⟨0, 0, 0⟩, hv0, fun h => absurd h (by omega), ⟨fun i hi => absurd hi (by omega), fun i hi => absurd hi (by omega), fun i hi => absurd hi (by omega), fun i hi => absurd hi (by omega), fun i hi => absurd hi (by omega)⟩⟩
  · have hv0 : v = .slice (some a) len cap := by
      obtain ⟨a', l', c', rfl⟩ := okWide_slice Try.underlying49 hv
      simpa [Value.cells] using h0
    have hlm : len ≤ m := by rw [hmm]; simp; exact hl
    rw [hc] at hx
    have inst : Inhabited ActR := ⟨⟨0, 0, 0⟩⟩
    obtain ⟨f, hfx⟩ := Go.Deep.choose_lt (α := ActR) (p := fun i y => ActAt W a i y) (n := len) (fun i hi => by
      obtain ⟨cs', h1, h2⟩ := hx i (by omega)
      exact act_at h1 h2)
    obtain ⟨b, off, spot⟩ := a
    refine ⟨some ⟨b, off, spot⟩, b, off, len, cap, f, hv0, ?_, ?_⟩
    · intro hp
      have hs : spot = none := by simpa [Addr.add] using World.cell?_spot ((hfx 0 hp).c0)
      rw [hs]
    · by_cases hp : 0 < len
      · have hs : spot = none := by simpa [Addr.add] using World.cell?_spot ((hfx 0 hp).c0)
        subst hs
        refine ⟨fun i hi => ?_, fun i hi => ?_, fun i hi => ?_, fun i hi => (hfx i hi).k, fun i hi => (hfx i hi).n⟩
        · rw [← Go.WideShapes.add_plain]; exact (hfx i hi).c0
        · rw [Nat.add_assoc, ← Go.WideShapes.add_plain]; exact (hfx i hi).c1
        · rw [Nat.add_assoc, ← Go.WideShapes.add_plain]; exact (hfx i hi).c2
      · exact ⟨fun i hi => absurd hi (by omega), fun i hi => absurd hi (by omega), fun i hi => absurd hi (by omega), fun i hi => absurd hi (by omega), fun i hi => absurd hi (by omega)⟩
end Go.Proofs.Ythhddpobnkmeaaa
namespace Go.Proofs.Ythhddpobnkmeaaa
open Go.ChangeMaps Go.ChangeShapes Go.WideShapes Go.ChangeAt Go.RowKit
set_option maxRecDepth 8000 in
theorem bound_long (w : World) (most : Int) (oa : Option Addr) (len cap : Nat) (h : decide (2147483647 < (len : Int)) = true) : Calls Try.prog 4 #[.int .i64 most, .slice oa len cap] w fun e w' => e = .returned (.bool true) ∧ Below w.heap.size w w' := by
  obtain ⟨w0, hw0⟩ : ∃ w0, w.alloc (.cells #[.slice oa len cap] 49) = w0 := ⟨_, rfl⟩
  obtain ⟨pa, hpa⟩ : ∃ pa, w.heap.size = pa := ⟨_, rfl⟩
  have H : Hid (Below w.heap.size w w0) := by rw [← hw0]; exact (Below.refl _ _).alloc (Nat.le_refl _) _
  have x3 : w0.cell? ⟨pa, 0, none⟩ = some (.slice oa len cap) := by
    unfold World.cell?
    rw [← hw0, ← hpa, show (w.alloc (.cells #[.slice oa len cap] 49)).heap[w.heap.size]? = some (.cells #[.slice oa len cap] 49) from (MapKept.heap_alloc w _).1]
    rfl
  rw [hpa] at H ⊢
  go_enter Try.func4, Try.ntmps4
  go_wp2
  go_ret
  exact ⟨rfl, H.out⟩
set_option maxRecDepth 100000 in
theorem shelfBound_lifted (os : Os) (started : os.Started) (H : Type) (enc : TypeId × Value → H) :
    ReturnsInHanded {} Try.checked os 4 .any (fun w args => Rows.shelfBoundSpec.pre enc Try.prog Try.f4 [] false w args ∧ sizedMet enc Try.prog Try.f4 (OpenSpec.ofChange Rows.shelfBoundSpec) false w args)
      (Rows.shelfBoundSpec.post enc Try.prog Try.f4 false true false false) := by
  refine lift_law started (by kernel_rfl) Try.func4
    (ChangeSpec.witness_shaped (enc := enc) (C := Try.checked) (os := os) (X := fun _ _ => True) false
      (World.holding Try.prog os ⟨#[], #[], []⟩) #[.int .i64 0, .slice none 0 0] 8 rfl
      (World.shaped_of_ZipB (by kernel_rfl) (by kernel_rfl)) (by kernel_rfl) (by kernel_rfl) (by kernel_rfl)
      trivial) ?_
  intro W base args ds gs before hval0 hW _ _
  have hval : ∀ (j : Nat) t v, Try.f4.params[j]? = some t → args[j]? = some v → Value.okWide Try.prog W .any base t v := hval0
  have hW' := hW
  obtain ⟨p, q, hA0, hV, rfl, _, _⟩ := hW
  have hA : DataW.TrodAll enc Try.prog W 0 (fun _ => true) true Try.f4.params.toList args.toList ds p := hA0
  have hlt := hA.lt
  rw [Try.params4] at hA hval
  obtain ⟨v0, v1, d0, d1, p0, p1, rfl, rfl, rfl, h0, h1⟩ := trodAll_two hA
  obtain ⟨rfl, rfl⟩ := trodVars_none hV
  have k0 := h0
  obtain ⟨n, rfl, rfl, rfl, w0⟩ := open_int Try.underlying3 (hval 0 3 v0 rfl rfl) h0
  obtain ⟨oa, b, off, len, cap, O, rfl, hoa, hops⟩ := open_acts h1 (hval 1 49 v1 rfl rfl)
  clear hA0 hval0
  have key : Calls Try.prog 4 #[.int .i64 n, .slice oa len cap] W fun e w' => e = .returned (.bool true) ∧ Below W.heap.size W w' := by
    cases hs : decide (2147483647 < (len : Int))
    · exact bound_any n (wf_i64 w0) oa b off len cap O W hoa hops hs
    · exact bound_long W n oa len cap hs
  refine key.mono fun e W' ⟨he, hg⟩ => ?_
  subst he
  have hs0 := Below.trod (by kernel_rfl) (by kernel_rfl) (of_decide_eq_true (by kernel_rfl)) k0 hg (fun x hx => hlt x (by simp at hx))
  have hs1 := Below.trod (by kernel_rfl) (by kernel_rfl) (of_decide_eq_true (by kernel_rfl)) h1 hg (fun x hx => hlt x (by simpa using hx))
  exact ⟨_, rfl, _, _, _, [], _, [], hW', trodAll_mk1 (shut_bool Try.underlying4 _), trodAll_mk2 hs0 hs1, rfl, hg.frame _, fun h => by cases h⟩
theorem shelfBound_holds : Rows.ShelfBoundSaid :=
  OpenClaim.holds_of_wide 4 Try.f4 rfl rfl rfl rfl rfl rfl rfl ⟨rfl, rfl, rfl, rfl, rfl⟩ rfl rfl rfl rfl rfl (by kernel_rfl) Try.func4 (by kernel_rfl)
    (of_decide_eq_true (by kernel_rfl)) (by unfold Func.isWrapper; first | (rw [if_pos (by decide +kernel)]; kernel_rfl) | (rw [if_neg (by decide +kernel)]; exact ⟨rfl, rfl⟩))
    (fun os started H enc _ => shelfBound_lifted os started H enc)
#print axioms shelfBound_holds
end Go.Proofs.Ythhddpobnkmeaaa
