/- The law. -/
import Derived.Test.YtedbjceeakmjgaaGreatDoorZc
import Derived.Test.YtedbjceeakmjgaaGreatDoorZd
namespace Go.Proofs.YtedbjceeakmjgaaGreatDoor
open Go.RowKit
theorem makes_any (w : World) (a c e b r : Int) : Calls Tryz.prog 3 #[.agg #[.int .i64 a, .int .i64 c, .int .i64 e, .int .i64 b, .int .i64 r]] w fun x w' => x = .returned (.bool true) ∧ Below w.heap.size w w' := by
  have HA : Hid (∀ w, Calls Tryz.prog 4 #[] w fun e w' => e = .returned (.bool true) ∧ Below w.heap.size w w') := awake_any
  have HN : Hid (∀ w, Calls Tryz.prog 5 #[.agg #[.int .i64 a, .int .i64 c, .int .i64 e, .int .i64 b, .int .i64 r]] w fun x w' => ∃ v, x = .returned (.tuple #[v, .int .i64 (if inB a 1 16777215 && mayB c e b r then 0 else 200)]) ∧
    (if inB a 1 16777215 && mayB c e b r then ∃ p, v = ptr p else v = .pointer none) ∧ Below w.heap.size w w') := fun w => server_new w a c e b r
  have HR : Hid (∀ w, Calls Tryz.prog 6 #[.agg #[.int .i64 a, .int .i64 c, .int .i64 e, .int .i64 b, .int .i64 r]] w fun x w' => ∃ v, x = .returned (.tuple #[v, .int .i64 (if inB a 1 16777215 && mayB c e b r then 0 else 200)]) ∧
    (if inB a 1 16777215 && mayB c e b r then ∃ p, v = ptr p else v = .pointer none) ∧ Below w.heap.size w w') := fun w => ref_server w a c e b r
  obtain ⟨w0, hw0⟩ : ∃ w0, w.alloc (.cells #[.int .i64 a, .int .i64 c, .int .i64 e, .int .i64 b, .int .i64 r] 25) = w0 := ⟨_, rfl⟩
  have HB : Hid (Below w.heap.size w w0) := by rw [← hw0]; exact below_box _ _
  have kb : w0.heap[w.heap.size]? = some (.cells #[.int .i64 a, .int .i64 c, .int .i64 e, .int .i64 b, .int .i64 r] 25) := by rw [← hw0]; exact (MapKept.heap_alloc w _).1
  have HL := hid (Array.getElem?_eq_some_iff.1 kb).1
  obtain ⟨A0, hA⟩ : ∃ A0, w.heap.size = A0 := ⟨_, rfl⟩
  rw [hA] at kb HB HL ⊢
  have HK := hid kb
  clear kb
  generalize (inB a 1 16777215 && mayB c e b r) = q at HN HR
  cases q <;> simp only [Bool.false_eq_true, if_false, if_true] at HN HR
  · go_enter Tryz.func3, Tryz.ntmps3
    go_wp2_with fail
    refine (HA.out _).mono ?_
    rintro _ w1 ⟨rfl, hb1⟩
    have HB1 : Hid (Below A0 w w1) := HB.out.trans (hb1.mono (by have := HB.out.size; omega))
    have k1 : w1.heap[A0]? = some (.cells #[.int .i64 a, .int .i64 c, .int .i64 e, .int .i64 b, .int .i64 r] 25) := by rw [hb1.block A0 HL.out]; exact HK.out
    have HL1 := hid (Array.getElem?_eq_some_iff.1 k1).1
    have HK1 := hid k1
    have c0 : w1.cell? ⟨A0, 0, none⟩ = some (.int .i64 a) := by unfold World.cell?; rw [k1]; rfl
    have c1 : w1.cell? ⟨A0, 1, none⟩ = some (.int .i64 c) := by unfold World.cell?; rw [k1]; rfl
    have c2 : w1.cell? ⟨A0, 2, none⟩ = some (.int .i64 e) := by unfold World.cell?; rw [k1]; rfl
    have c3 : w1.cell? ⟨A0, 3, none⟩ = some (.int .i64 b) := by unfold World.cell?; rw [k1]; rfl
    have c4 : w1.cell? ⟨A0, 4, none⟩ = some (.int .i64 r) := by unfold World.cell?; rw [k1]; rfl
    clear hb1 k1
    go_wp2_with fail
    refine (HN.out _).mono ?_
    rintro _ w2 ⟨_, rfl, rfl, hb2⟩
    have HB2 : Hid (Below A0 w w2) := HB1.out.trans (hb2.mono (by have := HB1.out.size; have := HB.out.size; omega))
    have k2 : w2.heap[A0]? = some (.cells #[.int .i64 a, .int .i64 c, .int .i64 e, .int .i64 b, .int .i64 r] 25) := by rw [hb2.block A0 HL1.out]; exact HK1.out
    clear c0 c1 c2 c3 c4
    have c0 : w2.cell? ⟨A0, 0, none⟩ = some (.int .i64 a) := by unfold World.cell?; rw [k2]; rfl
    have c1 : w2.cell? ⟨A0, 1, none⟩ = some (.int .i64 c) := by unfold World.cell?; rw [k2]; rfl
    have c2 : w2.cell? ⟨A0, 2, none⟩ = some (.int .i64 e) := by unfold World.cell?; rw [k2]; rfl
    have c3 : w2.cell? ⟨A0, 3, none⟩ = some (.int .i64 b) := by unfold World.cell?; rw [k2]; rfl
    have c4 : w2.cell? ⟨A0, 4, none⟩ = some (.int .i64 r) := by unfold World.cell?; rw [k2]; rfl
    clear hb2 k2
    go_wp2_with fail
    refine (HR.out _).mono ?_
    rintro _ w3 ⟨_, rfl, rfl, hb3⟩
    have HB3 : Hid (Below A0 w w3) := HB2.out.trans (hb3.mono (by have := HB2.out.size; have := HB.out.size; omega))
    clear hb3 c0 c1 c2 c3 c4
    go_wp2
    go_ret
    exact ⟨rfl, HB3.out⟩
  · go_enter Tryz.func3, Tryz.ntmps3
    go_wp2_with fail
    refine (HA.out _).mono ?_
    rintro _ w1 ⟨rfl, hb1⟩
    have HB1 : Hid (Below A0 w w1) := HB.out.trans (hb1.mono (by have := HB.out.size; omega))
    have k1 : w1.heap[A0]? = some (.cells #[.int .i64 a, .int .i64 c, .int .i64 e, .int .i64 b, .int .i64 r] 25) := by rw [hb1.block A0 HL.out]; exact HK.out
    have HL1 := hid (Array.getElem?_eq_some_iff.1 k1).1
    have HK1 := hid k1
    have c0 : w1.cell? ⟨A0, 0, none⟩ = some (.int .i64 a) := by unfold World.cell?; rw [k1]; rfl
    have c1 : w1.cell? ⟨A0, 1, none⟩ = some (.int .i64 c) := by unfold World.cell?; rw [k1]; rfl
    have c2 : w1.cell? ⟨A0, 2, none⟩ = some (.int .i64 e) := by unfold World.cell?; rw [k1]; rfl
    have c3 : w1.cell? ⟨A0, 3, none⟩ = some (.int .i64 b) := by unfold World.cell?; rw [k1]; rfl
    have c4 : w1.cell? ⟨A0, 4, none⟩ = some (.int .i64 r) := by unfold World.cell?; rw [k1]; rfl
    clear hb1 k1
    go_wp2_with fail
    refine (HN.out _).mono ?_
    rintro _ w2 ⟨_, rfl, ⟨p, rfl⟩, hb2⟩
    have HB2 : Hid (Below A0 w w2) := HB1.out.trans (hb2.mono (by have := HB1.out.size; have := HB.out.size; omega))
    have k2 : w2.heap[A0]? = some (.cells #[.int .i64 a, .int .i64 c, .int .i64 e, .int .i64 b, .int .i64 r] 25) := by rw [hb2.block A0 HL1.out]; exact HK1.out
    clear c0 c1 c2 c3 c4
    have c0 : w2.cell? ⟨A0, 0, none⟩ = some (.int .i64 a) := by unfold World.cell?; rw [k2]; rfl
    have c1 : w2.cell? ⟨A0, 1, none⟩ = some (.int .i64 c) := by unfold World.cell?; rw [k2]; rfl
    have c2 : w2.cell? ⟨A0, 2, none⟩ = some (.int .i64 e) := by unfold World.cell?; rw [k2]; rfl
    have c3 : w2.cell? ⟨A0, 3, none⟩ = some (.int .i64 b) := by unfold World.cell?; rw [k2]; rfl
    have c4 : w2.cell? ⟨A0, 4, none⟩ = some (.int .i64 r) := by unfold World.cell?; rw [k2]; rfl
    clear hb2 k2
    go_wp2_with fail
    refine (HR.out _).mono ?_
    rintro _ w3 ⟨_, rfl, ⟨p2, rfl⟩, hb3⟩
    have HB3 : Hid (Below A0 w w3) := HB2.out.trans (hb3.mono (by have := HB2.out.size; have := HB.out.size; omega))
    clear hb3 c0 c1 c2 c3 c4
    go_wp2
    go_ret
    exact ⟨rfl, HB3.out⟩
end Go.Proofs.YtedbjceeakmjgaaGreatDoor
