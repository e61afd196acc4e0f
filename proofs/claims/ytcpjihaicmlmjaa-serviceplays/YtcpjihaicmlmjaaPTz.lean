/- Services: structs of nine cells laid into blocks; a step of a script. -/
import Derived.Test.YtcpjihaicmlmjaaPSt
namespace Go.Proofs.Ytcpjihaicmlmjaa
open Go.RowKit
theorem over9 (w : World) (ty : TypeId) (z0 z1 z2 z3 z4 z5 z6 z7 z8 a0 a1 a2 a3 a4 a5 a6 a7 a8 : Value) (S : Nat) (k0 : w.heap[S]? = some (.cells #[z0, z1, z2, z3, z4, z5, z6, z7, z8] ty)) : ∃ w1 w2 w3 w4 w5 w6 w7 w8 w9, (w.setCell ⟨S, 0, none⟩ a0 = w1 ∧ w1.setCell ⟨S, 1, none⟩ a1 = w2 ∧ w2.setCell ⟨S, 2, none⟩ a2 = w3 ∧ w3.setCell ⟨S, 3, none⟩ a3 = w4 ∧ w4.setCell ⟨S, 4, none⟩ a4 = w5 ∧ w5.setCell ⟨S, 5, none⟩ a5 = w6 ∧ w6.setCell ⟨S, 6, none⟩ a6 = w7 ∧ w7.setCell ⟨S, 7, none⟩ a7 = w8 ∧ w8.setCell ⟨S, 8, none⟩ a8 = w9) ∧ (w.cell? ⟨S, 0, none⟩ = some z0 ∧ w1.cell? ⟨S, 1, none⟩ = some z1 ∧ w2.cell? ⟨S, 2, none⟩ = some z2 ∧ w3.cell? ⟨S, 3, none⟩ = some z3 ∧ w4.cell? ⟨S, 4, none⟩ = some z4 ∧ w5.cell? ⟨S, 5, none⟩ = some z5 ∧ w6.cell? ⟨S, 6, none⟩ = some z6 ∧ w7.cell? ⟨S, 7, none⟩ = some z7 ∧ w8.cell? ⟨S, 8, none⟩ = some z8) ∧ (w.frozen? ⟨S, 0, none⟩ = false ∧ w1.frozen? ⟨S, 1, none⟩ = false ∧ w2.frozen? ⟨S, 2, none⟩ = false ∧ w3.frozen? ⟨S, 3, none⟩ = false ∧ w4.frozen? ⟨S, 4, none⟩ = false ∧ w5.frozen? ⟨S, 5, none⟩ = false ∧ w6.frozen? ⟨S, 6, none⟩ = false ∧ w7.frozen? ⟨S, 7, none⟩ = false ∧ w8.frozen? ⟨S, 8, none⟩ = false) ∧ w9.heap[S]? = some (.cells #[a0, a1, a2, a3, a4, a5, a6, a7, a8] ty) ∧ (∀ B W, Below B W w → B ≤ S → Below B W w9) ∧ w9.heap.size = w.heap.size := by
  refine ⟨_, _, _, _, _, _, _, _, _, ⟨rfl, rfl, rfl, rfl, rfl, rfl, rfl, rfl, rfl⟩, ?_⟩
  have b0 : ∀ B W, Below B W w → B ≤ S → Below B W w := fun _ _ h _ => h
  obtain ⟨w1, e1⟩ : ∃ x, w.setCell ⟨S, 0, none⟩ a0 = x := ⟨_, rfl⟩
  rw [e1]
  have k1 : w1.heap[S]? = some (.cells #[a0, z1, z2, z3, z4, z5, z6, z7, z8] ty) := by rw [← e1]; unfold World.setCell; simp [Array.getElem?_modify, k0]
  have s1 : w1.heap.size = w.heap.size := by rw [← e1]; simp [World.setCell]
  have b1 : ∀ B W, Below B W w → B ≤ S → Below B W w1 := fun B W h hB => by rw [← e1]; exact below_set (b0 B W h hB) hB _ _
  obtain ⟨w2, e2⟩ : ∃ x, w1.setCell ⟨S, 1, none⟩ a1 = x := ⟨_, rfl⟩
  rw [e2]
  have k2 : w2.heap[S]? = some (.cells #[a0, a1, z2, z3, z4, z5, z6, z7, z8] ty) := by rw [← e2]; unfold World.setCell; simp [Array.getElem?_modify, k1]
  have s2 : w2.heap.size = w.heap.size := by rw [← e2]; simpa [World.setCell] using s1
  have b2 : ∀ B W, Below B W w → B ≤ S → Below B W w2 := fun B W h hB => by rw [← e2]; exact below_set (b1 B W h hB) hB _ _
  obtain ⟨w3, e3⟩ : ∃ x, w2.setCell ⟨S, 2, none⟩ a2 = x := ⟨_, rfl⟩
  rw [e3]
  have k3 : w3.heap[S]? = some (.cells #[a0, a1, a2, z3, z4, z5, z6, z7, z8] ty) := by rw [← e3]; unfold World.setCell; simp [Array.getElem?_modify, k2]
  have s3 : w3.heap.size = w.heap.size := by rw [← e3]; simpa [World.setCell] using s2
  have b3 : ∀ B W, Below B W w → B ≤ S → Below B W w3 := fun B W h hB => by rw [← e3]; exact below_set (b2 B W h hB) hB _ _
  obtain ⟨w4, e4⟩ : ∃ x, w3.setCell ⟨S, 3, none⟩ a3 = x := ⟨_, rfl⟩
  rw [e4]
  have k4 : w4.heap[S]? = some (.cells #[a0, a1, a2, a3, z4, z5, z6, z7, z8] ty) := by rw [← e4]; unfold World.setCell; simp [Array.getElem?_modify, k3]
  have s4 : w4.heap.size = w.heap.size := by rw [← e4]; simpa [World.setCell] using s3
  have b4 : ∀ B W, Below B W w → B ≤ S → Below B W w4 := fun B W h hB => by rw [← e4]; exact below_set (b3 B W h hB) hB _ _
  obtain ⟨w5, e5⟩ : ∃ x, w4.setCell ⟨S, 4, none⟩ a4 = x := ⟨_, rfl⟩
  rw [e5]
  have k5 : w5.heap[S]? = some (.cells #[a0, a1, a2, a3, a4, z5, z6, z7, z8] ty) := by rw [← e5]; unfold World.setCell; simp [Array.getElem?_modify, k4]
  have s5 : w5.heap.size = w.heap.size := by rw [← e5]; simpa [World.setCell] using s4
  have b5 : ∀ B W, Below B W w → B ≤ S → Below B W w5 := fun B W h hB => by rw [← e5]; exact below_set (b4 B W h hB) hB _ _
  obtain ⟨w6, e6⟩ : ∃ x, w5.setCell ⟨S, 5, none⟩ a5 = x := ⟨_, rfl⟩
  rw [e6]
  have k6 : w6.heap[S]? = some (.cells #[a0, a1, a2, a3, a4, a5, z6, z7, z8] ty) := by rw [← e6]; unfold World.setCell; simp [Array.getElem?_modify, k5]
  have s6 : w6.heap.size = w.heap.size := by rw [← e6]; simpa [World.setCell] using s5
  have b6 : ∀ B W, Below B W w → B ≤ S → Below B W w6 := fun B W h hB => by rw [← e6]; exact below_set (b5 B W h hB) hB _ _
  obtain ⟨w7, e7⟩ : ∃ x, w6.setCell ⟨S, 6, none⟩ a6 = x := ⟨_, rfl⟩
  rw [e7]
  have k7 : w7.heap[S]? = some (.cells #[a0, a1, a2, a3, a4, a5, a6, z7, z8] ty) := by rw [← e7]; unfold World.setCell; simp [Array.getElem?_modify, k6]
  have s7 : w7.heap.size = w.heap.size := by rw [← e7]; simpa [World.setCell] using s6
  have b7 : ∀ B W, Below B W w → B ≤ S → Below B W w7 := fun B W h hB => by rw [← e7]; exact below_set (b6 B W h hB) hB _ _
  obtain ⟨w8, e8⟩ : ∃ x, w7.setCell ⟨S, 7, none⟩ a7 = x := ⟨_, rfl⟩
  rw [e8]
  have k8 : w8.heap[S]? = some (.cells #[a0, a1, a2, a3, a4, a5, a6, a7, z8] ty) := by rw [← e8]; unfold World.setCell; simp [Array.getElem?_modify, k7]
  have s8 : w8.heap.size = w.heap.size := by rw [← e8]; simpa [World.setCell] using s7
  have b8 : ∀ B W, Below B W w → B ≤ S → Below B W w8 := fun B W h hB => by rw [← e8]; exact below_set (b7 B W h hB) hB _ _
  obtain ⟨w9, e9⟩ : ∃ x, w8.setCell ⟨S, 8, none⟩ a8 = x := ⟨_, rfl⟩
  rw [e9]
  have k9 : w9.heap[S]? = some (.cells #[a0, a1, a2, a3, a4, a5, a6, a7, a8] ty) := by rw [← e9]; unfold World.setCell; simp [Array.getElem?_modify, k8]
  have s9 : w9.heap.size = w.heap.size := by rw [← e9]; simpa [World.setCell] using s8
  have b9 : ∀ B W, Below B W w → B ≤ S → Below B W w9 := fun B W h hB => by rw [← e9]; exact below_set (b8 B W h hB) hB _ _
  exact ⟨⟨by unfold World.cell?; rw [k0]; rfl, by unfold World.cell?; rw [k1]; rfl, by unfold World.cell?; rw [k2]; rfl, by unfold World.cell?; rw [k3]; rfl, by unfold World.cell?; rw [k4]; rfl, by unfold World.cell?; rw [k5]; rfl, by unfold World.cell?; rw [k6]; rfl, by unfold World.cell?; rw [k7]; rfl, by unfold World.cell?; rw [k8]; rfl⟩, ⟨by unfold World.frozen?; rw [k0]; rfl, by unfold World.frozen?; rw [k1]; rfl, by unfold World.frozen?; rw [k2]; rfl, by unfold World.frozen?; rw [k3]; rfl, by unfold World.frozen?; rw [k4]; rfl, by unfold World.frozen?; rw [k5]; rfl, by unfold World.frozen?; rw [k6]; rfl, by unfold World.frozen?; rw [k7]; rfl, by unfold World.frozen?; rw [k8]; rfl⟩, k9, b9, s9⟩
/-- a step of a script -/
structure OpR where
  other : Bool
  near : Bool
  none : Bool
  what : Int
  prog : Int
  vers : Int
  proc : Int
  procs : List Int
  oa : Option Addr
  cap : Nat
  args : List UInt8
abbrev opA (o : OpR) : Array Value := #[.bool o.other, .bool o.near, .bool o.none, .int .i64 o.what, .int .i64 o.prog, .int .i64 o.vers, .int .i64 o.proc, .slice o.oa o.procs.length o.cap, .string ⟨o.args.toArray⟩]
abbrev op0 : Array Value := #[.bool false, .bool false, .bool false, .int .i64 0, .int .i64 0, .int .i64 0, .int .i64 0, .slice none 0 0, .string ⟨#[]⟩]
theorem op_cells {w : World} {S : Nat} {o : OpR} (k : w.heap[S]? = some (.cells (opA o) 34)) : w.cell? ⟨S, 0, none⟩ = some (.bool o.other) ∧ w.cell? ⟨S, 1, none⟩ = some (.bool o.near) ∧ w.cell? ⟨S, 2, none⟩ = some (.bool o.none) ∧ w.cell? ⟨S, 3, none⟩ = some (.int .i64 o.what) ∧ w.cell? ⟨S, 4, none⟩ = some (.int .i64 o.prog) ∧ w.cell? ⟨S, 5, none⟩ = some (.int .i64 o.vers) ∧ w.cell? ⟨S, 6, none⟩ = some (.int .i64 o.proc) ∧ w.cell? ⟨S, 7, none⟩ = some (.slice o.oa o.procs.length o.cap) ∧ w.cell? ⟨S, 8, none⟩ = some (.string ⟨o.args.toArray⟩) := by
  refine ⟨?_, ?_, ?_, ?_, ?_, ?_, ?_, ?_, ?_⟩
  all_goals (unfold World.cell?; rw [k]; rfl)
theorem op_frozen {w : World} {S : Nat} {cs : Array Value} {ty : TypeId} (k : w.heap[S]? = some (.cells cs ty)) (n : Nat) : w.frozen? ⟨S, n, none⟩ = false := by unfold World.frozen?; rw [k]; rfl
end Go.Proofs.Ytcpjihaicmlmjaa
