/- Services: the one of a program and version. -/
import Derived.Test.YtcpjihaicmlmjaaPSk
namespace Go.Proofs.Ytcpjihaicmlmjaa
open Go.RowKit
def isIt (p v : Int) (s : Sv) : Bool := (s.prog == p) && (s.vers == v)
abbrev nilSv : Value := .agg #[.int .i64 0, .int .i64 0, .slice none 0 0, .nilFunc]
def svcV : Option Sv → Value
  | some s => .tuple #[.agg (svA s hd), .bool true]
  | none => .tuple #[nilSv, .bool false]
theorem run_store_func {P : Program} {w : World} {a : Addr} {m : Mode} (f : Fn) (x y : Array Value) : (store a (.func f x y) m).run P w = stored P w a (.func f x y) m := run_store P w a _ m rfl
theorem run_store_nilFunc {P : Program} {w : World} {a : Addr} {m : Mode} : (store a .nilFunc m).run P w = stored P w a .nilFunc m := run_store P w a _ m rfl
attribute [local go_sem] run_store_func run_store_nilFunc
theorem over4 (w : World) (ty : TypeId) (z0 z1 z2 z3 a0 a1 a2 a3 : Value) (S : Nat) (k0 : w.heap[S]? = some (.cells #[z0, z1, z2, z3] ty)) : ∃ w1 w2 w3 w4, (w.setCell ⟨S, 0, none⟩ a0 = w1 ∧ w1.setCell ⟨S, 1, none⟩ a1 = w2 ∧ w2.setCell ⟨S, 2, none⟩ a2 = w3 ∧ w3.setCell ⟨S, 3, none⟩ a3 = w4) ∧ (w.cell? ⟨S, 0, none⟩ = some z0 ∧ w.cell? ⟨S, 1, none⟩ = some z1 ∧ w.cell? ⟨S, 2, none⟩ = some z2 ∧ w.cell? ⟨S, 3, none⟩ = some z3 ∧ w1.cell? ⟨S, 1, none⟩ = some z1 ∧ w1.cell? ⟨S, 2, none⟩ = some z2 ∧ w1.cell? ⟨S, 3, none⟩ = some z3 ∧ w2.cell? ⟨S, 2, none⟩ = some z2 ∧ w2.cell? ⟨S, 3, none⟩ = some z3 ∧ w3.cell? ⟨S, 3, none⟩ = some z3) ∧ ((∀ n, w.frozen? ⟨S, n, none⟩ = false) ∧ (∀ n, w1.frozen? ⟨S, n, none⟩ = false) ∧ (∀ n, w2.frozen? ⟨S, n, none⟩ = false) ∧ (∀ n, w3.frozen? ⟨S, n, none⟩ = false)) ∧ w4.heap[S]? = some (.cells #[a0, a1, a2, a3] ty) ∧ (∀ B W, Below B W w → B ≤ S → Below B W w4) ∧ w4.heap.size = w.heap.size := by
  refine ⟨_, _, _, _, ⟨rfl, rfl, rfl, rfl⟩, ?_⟩
  have b0 : ∀ B W, Below B W w → B ≤ S → Below B W w := fun _ _ h _ => h
  obtain ⟨w1, e1⟩ : ∃ x, w.setCell ⟨S, 0, none⟩ a0 = x := ⟨_, rfl⟩
  rw [e1]
  have k1 : w1.heap[S]? = some (.cells #[a0, z1, z2, z3] ty) := by rw [← e1]; unfold World.setCell; simp [Array.getElem?_modify, k0]
  have s1 : w1.heap.size = w.heap.size := by rw [← e1]; simp [World.setCell]
  have b1 : ∀ B W, Below B W w → B ≤ S → Below B W w1 := fun B W h hB => by rw [← e1]; exact below_set (b0 B W h hB) hB _ _
  obtain ⟨w2, e2⟩ : ∃ x, w1.setCell ⟨S, 1, none⟩ a1 = x := ⟨_, rfl⟩
  rw [e2]
  have k2 : w2.heap[S]? = some (.cells #[a0, a1, z2, z3] ty) := by rw [← e2]; unfold World.setCell; simp [Array.getElem?_modify, k1]
  have s2 : w2.heap.size = w.heap.size := by rw [← e2]; simpa [World.setCell] using s1
  have b2 : ∀ B W, Below B W w → B ≤ S → Below B W w2 := fun B W h hB => by rw [← e2]; exact below_set (b1 B W h hB) hB _ _
  obtain ⟨w3, e3⟩ : ∃ x, w2.setCell ⟨S, 2, none⟩ a2 = x := ⟨_, rfl⟩
  rw [e3]
  have k3 : w3.heap[S]? = some (.cells #[a0, a1, a2, z3] ty) := by rw [← e3]; unfold World.setCell; simp [Array.getElem?_modify, k2]
  have s3 : w3.heap.size = w.heap.size := by rw [← e3]; simpa [World.setCell] using s2
  have b3 : ∀ B W, Below B W w → B ≤ S → Below B W w3 := fun B W h hB => by rw [← e3]; exact below_set (b2 B W h hB) hB _ _
  obtain ⟨w4, e4⟩ : ∃ x, w3.setCell ⟨S, 3, none⟩ a3 = x := ⟨_, rfl⟩
  rw [e4]
  have k4 : w4.heap[S]? = some (.cells #[a0, a1, a2, a3] ty) := by rw [← e4]; unfold World.setCell; simp [Array.getElem?_modify, k3]
  have s4 : w4.heap.size = w.heap.size := by rw [← e4]; simpa [World.setCell] using s3
  have b4 : ∀ B W, Below B W w → B ≤ S → Below B W w4 := fun B W h hB => by rw [← e4]; exact below_set (b3 B W h hB) hB _ _
  exact ⟨⟨by unfold World.cell?; rw [k0]; rfl, by unfold World.cell?; rw [k0]; rfl, by unfold World.cell?; rw [k0]; rfl, by unfold World.cell?; rw [k0]; rfl, by unfold World.cell?; rw [k1]; rfl, by unfold World.cell?; rw [k1]; rfl, by unfold World.cell?; rw [k1]; rfl, by unfold World.cell?; rw [k2]; rfl, by unfold World.cell?; rw [k2]; rfl, by unfold World.cell?; rw [k3]; rfl⟩, ⟨fun n => by unfold World.frozen?; rw [k0]; rfl, fun n => by unfold World.frozen?; rw [k1]; rfl, fun n => by unfold World.frozen?; rw [k2]; rfl, fun n => by unfold World.frozen?; rw [k3]; rfl⟩, k4, b4, s4⟩
theorem bld48 (w : World) : (Instr.build 48 #[]).run Try.prog w = .ok nilSv w := by kernel_rfl
theorem find_at {α : Type} (f : α → Bool) (L : List α) (j : Nat) (s : α) (hs : L[j]? = some s) : (L.drop j).find? f = if f s = true then some s else (L.drop (j + 1)).find? f := by
  have hj : j < L.length := (List.getElem?_eq_some_iff.1 hs).1
  have e : L[j] = s := (List.getElem?_eq_some_iff.1 hs).2
  rw [List.drop_eq_getElem_cons hj, e]
  simp only [List.find?_cons]
  cases f s <;> simp
set_option maxRecDepth 8000 in
set_option maxHeartbeats 1000000 in
theorem service_any {K : Nat → Nat} {w : World} {t b : Nat} {oa : Option Addr} {cap : Nat} {L : List Sv} (h : PR K w t b oa cap L) (p v : Int) :
    Calls Try.prog 18 #[ptr b, .int .i64 p, .int .i64 v] w fun e w' => e = .returned (svcV (L.find? (isIt p v))) ∧ Below w.heap.size w w' := by
  obtain ⟨S, hS⟩ : ∃ S, w.heap.size = S := ⟨_, rfl⟩
  obtain ⟨w0, hw0⟩ : ∃ w0, w.alloc (.cells #[.int .i64 0, .int .i64 0, .slice none 0 0, .nilFunc] 48) = w0 := ⟨_, rfl⟩
  have B0 : Below w.heap.size w w0 := by rw [← hw0]; exact (Below.refl _ _).alloc (Nat.le_refl _) _
  have H0 := hid (h.below B0 (fun _ => 5))
  have c0 := H0.out.c0
  obtain ⟨n, hn⟩ : ∃ n, L.length = n := ⟨_, rfl⟩
  have HN := hid hn
  obtain ⟨r, hr⟩ : ∃ r, L.find? (isIt p v) = r := ⟨_, rfl⟩
  have HR := hid hr
  have HM := hid (hn ▸ h.most)
  have HB0 := hid B0
  have k0 : w0.heap[S]? = some (.cells #[.int .i64 0, .int .i64 0, .slice none 0 0, .nilFunc] 48) := by rw [← hw0, ← hS]; exact (MapKept.heap_alloc w _).1
  have HK0 := hid k0
  rw [hn] at c0
  rw [hr]
  clear h hn hr B0 k0
  go_enter Try.func18, Try.ntmps18
  go_wp2_with fail
  go_loopw [15] (fun ix wr => ∃ (j : Nat), ix = .int .i64 j ∧ j ≤ n ∧ Hid ((L.drop j).find? (isIt p v) = r) ∧ Hid (Below w0.heap.size w0 wr)) (fun ix _ => n - (intOf ix).toNat)
  case atStart => exact ⟨0, rfl, by omega, (by simpa using HR.out : (L.drop 0).find? (isIt p v) = r), (Below.refl _ _ : Below w0.heap.size w0 w0)⟩
  case round =>
    obtain ⟨j, rfl, hj, HE, HB⟩ := hrel
    by_cases hlt : j < n
    · obtain ⟨g, ho, hg, hc⟩ := H0.out.at_ (by have := HN.out; omega)
      obtain ⟨s, hs⟩ : ∃ s, L[j]? = some s := ⟨L[j]'(by have := HN.out; omega), List.getElem?_eq_getElem _⟩
      have HS := hid hs
      have d0 : wr.cell? ⟨g, j * 4, none⟩ = some (.int .i64 s.prog) := (cell_of_block (HB.out.block g hg)).trans (hc j s hs 0 (by omega))
      have d1 : wr.cell? ⟨g, j * 4 + 1, none⟩ = some (.int .i64 s.vers) := (cell_of_block (HB.out.block g hg)).trans (hc j s hs 1 (by omega))
      have d2 : wr.cell? ⟨g, j * 4 + 2, none⟩ = some (.slice s.oa s.procs.length s.cap) := (cell_of_block (HB.out.block g hg)).trans (hc j s hs 2 (by omega))
      have d3 : wr.cell? ⟨g, j * 4 + 3, none⟩ = some hd := (cell_of_block (HB.out.block g hg)).trans (hc j s hs 3 (by omega))
      have HE2 := hid ((find_at (isIt p v) L j s hs).symm.trans HE.out)
      subst ho
      have j0 : (0 : Int) ≤ (j : Int) := by omega
      have j1 : (j : Int) < (n : Int) := by omega
      have hw := wrapJ hlt (Nat.le_trans HM.out (by omega))
      obtain ⟨S1, hS1⟩ : ∃ S1, wr.heap.size = S1 := ⟨_, rfl⟩
      obtain ⟨w1, w2, w3, w4, w5, ⟨e1, e2, e3, e4, e5⟩, ⟨x10, x11, x12, x13, x21, x22, x23, x32, x33, x43⟩, ⟨f1, f2, f3, f4⟩, k5, b5, s5⟩ := box4 wr 48 (.int .i64 0) (.int .i64 0) (.slice none 0 0) .nilFunc (.int .i64 s.prog) (.int .i64 s.vers) (.slice s.oa s.procs.length s.cap) hd S1 hS1
      have y0 : w5.cell? ⟨S1, 0, none⟩ = some (.int .i64 s.prog) := by unfold World.cell?; rw [k5]; rfl
      have y1 : w5.cell? ⟨S1, 1, none⟩ = some (.int .i64 s.vers) := by unfold World.cell?; rw [k5]; rfl
      have y2 : w5.cell? ⟨S1, 2, none⟩ = some (.slice s.oa s.procs.length s.cap) := by unfold World.cell?; rw [k5]; rfl
      have y3 : w5.cell? ⟨S1, 3, none⟩ = some hd := by unfold World.cell?; rw [k5]; rfl
      have HB5 : Hid (Below w0.heap.size w0 w5) := HB.out.trans (b5.mono HB.out.size)
      clear hc b5
      have k5 := hid k5
      cases hp : (s.prog == p)
      · have hr : Hid ((L.drop (j + 1)).find? (isIt p v) = r) := by
          have := HE2.out
          rw [if_neg (by unfold isIt; rw [hp]; simp)] at this
          exact this
        go_wp2
        go_roundw
        case rel => exact ⟨j + 1, by go_num, hlt, hr, HB5⟩
        case measure => exact meas (by go_num) j1
      · cases hv : (s.vers == v)
        · have hr : Hid ((L.drop (j + 1)).find? (isIt p v) = r) := by
            have := HE2.out
            rw [if_neg (by unfold isIt; rw [hp, hv]; simp)] at this
            exact this
          go_wp2
          go_roundw
          case rel => exact ⟨j + 1, by go_num, hlt, hr, HB5⟩
          case measure => exact meas (by go_num) j1
        · have hr : some s = r := by
            have := HE2.out
            rw [if_pos (by unfold isIt; rw [hp, hv]; rfl)] at this
            exact this
          subst hr
          obtain ⟨u1, u2, u3, u4, ⟨g1, g2, g3, g4⟩, ⟨m00, m01, m02, m03, m11, m12, m13, m22, m23, m33⟩, ⟨n0, n1, n2, n3⟩, l4, bb4, ss4⟩ := over4 w5 48 (.int .i64 0) (.int .i64 0) (.slice none 0 0) .nilFunc (.int .i64 s.prog) (.int .i64 s.vers) (.slice s.oa s.procs.length s.cap) hd S ((HB5.out.block S (by rw [← hw0]; simp; omega)).trans HK0.out)
          have z0 : u4.cell? ⟨S, 0, none⟩ = some (.int .i64 s.prog) := by unfold World.cell?; rw [l4]; rfl
          have z1 : u4.cell? ⟨S, 1, none⟩ = some (.int .i64 s.vers) := by unfold World.cell?; rw [l4]; rfl
          have z2 : u4.cell? ⟨S, 2, none⟩ = some (.slice s.oa s.procs.length s.cap) := by unfold World.cell?; rw [l4]; rfl
          have z3 : u4.cell? ⟨S, 3, none⟩ = some hd := by unfold World.cell?; rw [l4]; rfl
          have HF : Hid (Below w.heap.size w u4) := bb4 _ _ (HB0.out.trans (HB5.out.mono HB0.out.size)) (Nat.le_of_eq hS)
          clear bb4 l4 ss4
          go_wp2
          refine bodyPost_ret (v := svcV (some s)) (by simp [results, Try.results18, go_sem, z0, z1, z2, z3, svcV]) rfl ?_
          exact ⟨rfl, HF.out⟩
    · obtain rfl : j = n := by omega
      have hr : none = r := by
        rw [← HE.out, List.drop_eq_nil_of_le (by have := HN.out; omega)]; rfl
      subst hr
      obtain ⟨u1, u2, u3, u4, ⟨g1, g2, g3, g4⟩, ⟨m00, m01, m02, m03, m11, m12, m13, m22, m23, m33⟩, ⟨n0, n1, n2, n3⟩, l4, bb4, ss4⟩ := over4 wr 48 (.int .i64 0) (.int .i64 0) (.slice none 0 0) .nilFunc (.int .i64 0) (.int .i64 0) (.slice none 0 0) .nilFunc S ((HB.out.block S (by rw [← hw0]; simp; omega)).trans HK0.out)
      have z0 : u4.cell? ⟨S, 0, none⟩ = some (.int .i64 0) := by unfold World.cell?; rw [l4]; rfl
      have z1 : u4.cell? ⟨S, 1, none⟩ = some (.int .i64 0) := by unfold World.cell?; rw [l4]; rfl
      have z2 : u4.cell? ⟨S, 2, none⟩ = some (.slice none 0 0) := by unfold World.cell?; rw [l4]; rfl
      have z3 : u4.cell? ⟨S, 3, none⟩ = some .nilFunc := by unfold World.cell?; rw [l4]; rfl
      have HF : Hid (Below w.heap.size w u4) := bb4 _ _ (HB0.out.trans (HB.out.mono HB0.out.size)) (Nat.le_of_eq hS)
      have hbl := bld48
      clear bb4 l4 ss4
      go_wp2
      refine bodyPost_ret (v := svcV none) (by simp [results, Try.results18, go_sem, z0, z1, z2, z3, svcV]) rfl ?_
      exact ⟨rfl, HF.out⟩
end Go.Proofs.Ytcpjihaicmlmjaa
