/- Services: a service has a procedure; may it be? -/
import Derived.Test.YtcpjihaicmlmjaaPSe
namespace Go.Proofs.Ytcpjihaicmlmjaa
open Go.RowKit
/-- a service: its numbers, and where its procedures lie -/
structure Sv where
  prog : Int
  vers : Int
  procs : List Int
  oa : Option Addr
  cap : Nat
abbrev hd : Value := .func (.func 15) #[] #[]
abbrev svA (s : Sv) (h : Value) : Array Value := #[.int .i64 s.prog, .int .i64 s.vers, .slice s.oa s.procs.length s.cap, h]
abbrev rvA (s : Sv) : Array Value := #[.int .i64 s.prog, .int .i64 s.vers, .slice s.oa s.procs.length s.cap]
def hasP (gs : List Int) (p : Int) : Bool := decide (p ∈ gs) || (p == 0)
theorem has_any (s : Sv) (p : Int) (w : World) (hg : GsAt w w.heap.size s.oa s.procs) (hl : s.procs.length ≤ 100000000000000) (hri : riseP 0 s.procs = true) :
    Calls Try.prog 21 #[.agg (svA s hd), .int .i64 p] w fun e w' => e = .returned (.bool (hasP s.procs p)) ∧ Below w.heap.size w w' := by
  obtain ⟨w0, hw0⟩ : ∃ w0, w.alloc (.cells (svA s hd) 48) = w0 := ⟨_, rfl⟩
  obtain ⟨S0, hS0⟩ : ∃ S0, w.heap.size = S0 := ⟨_, rfl⟩
  have B0 : Below w.heap.size w w0 := by rw [← hw0]; exact (Below.refl _ _).alloc (Nat.le_refl _) _
  have k0 : w0.heap[S0]? = some (.cells (svA s hd) 48) := by rw [← hw0, ← hS0]; exact (MapKept.heap_alloc w _).1
  have c2 : w0.cell? ⟨S0, 2, none⟩ = some (.slice s.oa s.procs.length s.cap) := by unfold World.cell?; rw [k0]; rfl
  have HS := hid (search_any s.oa s.cap s.procs p w0 ((hg.below B0).mono B0.size) hl hri)
  have HB : Hid (∀ w', Below w0.heap.size w0 w' → Below w.heap.size w w') := fun w' hb => B0.trans (hb.mono B0.size)
  unfold hasP
  generalize s.procs.length = n at *
  generalize decide (p ∈ s.procs) = r at *
  clear hg hl hri B0 k0
  go_enter Try.func21, Try.ntmps21
  go_wp2_with fail
  refine HS.out.mono ?_
  rintro _ w1 ⟨⟨i, rfl⟩, hb1⟩
  have HB1 := hid (HB.out _ hb1)
  clear hb1 HS HB c2
  cases r
  · cases hp : (p == 0)
    all_goals (
      go_wp2
      go_ret
      exact ⟨by simp [hp], HB1.out⟩)
  · go_wp2
    go_ret
    exact ⟨rfl, HB1.out⟩
end Go.Proofs.Ytcpjihaicmlmjaa
