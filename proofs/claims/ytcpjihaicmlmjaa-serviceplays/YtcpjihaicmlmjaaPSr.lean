/- Services: a Handle is called; what it breaks is caught. -/
import Derived.Test.YtcpjihaicmlmjaaPSq
import Derived.Test.YtcpjihaicmlmjaaPSg
import Derived.Defers
import Derived.Recover
namespace Go.Proofs.Ytcpjihaicmlmjaa
open Go.RowKit
theorem catch_idle (w : World) : CallsD Try.prog 35 #[] .returning w fun e u' w' => e = .returned (.tuple #[]) ∧ u' = .returning ∧ w' = w := by
  refine callsD_of_wpS Try.func35 rfl fun c₀ cs hu => ?_
  apply wpS_region
  cases c₀
  simp_all [wpOpsS, go_sem, recoverD, Try.ntmps35, bodyPostS, results, Try.results35]
theorem catch_panic (u : TypeId) (pv : Value) (older : List PanicEntry) (w : World) : CallsD Try.prog 35 #[] (.panicking ({ v := .iface u pv, recovered := false } :: older)) w fun e u' w' => e = .returned (.tuple #[]) ∧ u' = .panicking ({ v := .iface u pv, recovered := true } :: older) ∧ w' = w := by
  refine callsD_of_wpS Try.func35 rfl fun c₀ cs hu => ?_
  apply wpS_region
  simp [wpOpsS, go_sem, recoverD, hu, Try.ntmps35, bodyPostS, results, Try.results35]
def handledP (p : Int) (a : List UInt8) : Int × ByteArray :=
  match tellsP p a with
  | some r => (r.1, ⟨r.2.toArray⟩)
  | none => (5, ⟨#[]⟩)
set_option maxRecDepth 8000 in
theorem handle_any (s : Sv) (p : Int) (a : List UInt8) (hl : a.length ≤ 281474976710656) (w : World) :
    Calls Try.prog 25 #[.agg (svA s hd), .int .i64 p, .string ⟨a.toArray⟩] w fun e w' => e = .returned (tup (handledP p a)) ∧ Below w.heap.size w w' := by
  obtain ⟨w0, hw0⟩ : ∃ w0, w.alloc (.cells (svA s hd) 48) = w0 := ⟨_, rfl⟩
  obtain ⟨S0, hS0⟩ : ∃ S0, w.heap.size = S0 := ⟨_, rfl⟩
  have B0 : Below w.heap.size w w0 := by rw [← hw0]; exact (Below.refl _ _).alloc (Nat.le_refl _) _
  have k0 : w0.heap[S0]? = some (.cells (svA s hd) 48) := by rw [← hw0, ← hS0]; exact (MapKept.heap_alloc w _).1
  have c3 : w0.cell? ⟨S0, 3, none⟩ = some hd := by unfold World.cell?; rw [k0]; rfl
  have HB0 := hid B0
  unfold handledP
  cases hr : tellsP p a with
  | some r =>
    have HT := hid (tells_ok p a r hr hl w0)
    clear B0 k0 hr hl
    generalize (⟨a.toArray⟩ : ByteArray) = A at *
    go_enter_defers Try.func25, Try.ntmps25
    go_wp2_with fail
    refine HT.out.mono ?_
    rintro _ w1 ⟨rfl, hb1⟩
    have HB1 := hid (HB0.out.trans (hb1.mono HB0.out.size))
    clear hb1
    go_wp2
    refine leaves_cons (f := 35) (args := #[]) (by simp) (by simp [go_sem]) ?_
    refine (catch_idle _).mono ?_
    rintro e u' w'' ⟨rfl, rfl, rfl⟩
    simp [Leaves, settle, results, Try.results25, go_sem]
    exact HB1.out
  | none =>
    have HT := hid (tells_none p a hr w0)
    clear B0 k0 hr hl
    generalize (⟨a.toArray⟩ : ByteArray) = A at *
    go_enter_defers Try.func25, Try.ntmps25
    go_wp2_with fail
    refine HT.out.mono ?_
    rintro _ w1 ⟨⟨u, v, rfl⟩, hb1⟩
    have HB1 := hid (HB0.out.trans (hb1.mono HB0.out.size))
    clear hb1
    go_wp2
    refine leaves_cons (f := 35) (args := #[]) (by simp) (by simp [go_sem]) ?_
    refine (catch_panic u v [] _).mono ?_
    rintro e u' w'' ⟨rfl, rfl, rfl⟩
    simp [Leaves, settle, results, Try.results25, go_sem]
    exact HB1.out
end Go.Proofs.Ytcpjihaicmlmjaa
