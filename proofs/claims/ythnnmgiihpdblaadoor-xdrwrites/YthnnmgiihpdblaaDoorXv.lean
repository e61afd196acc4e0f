/- Both Writers: new ones; are both alike? -/
import Derived.Test.YthnnmgiihpdblaaDoorXu
namespace Go.Proofs.YthnnmgiihpdblaaDoor
open Go.RowKit

theorem pdone_any (p : Nat) (v : Value) (M E : Int) (S : ByteArray) (w : World) (h : PW w p v M (Lib.strCells S) E) (hT : ErrT w) :
    Calls Tryd.prog 60 #[.pointer (some ⟨p, 0, none⟩)] w fun e w' => e = .returned (.tuple #[.string (if E = 0 then S else ⟨#[]⟩), .int .i64 E]) ∧ Below w.heap.size w w' := by
  by_cases hE : E = 0
  · subst hE
    rw [if_pos rfl]
    refine (pdone_ok p v M S w h).mono ?_
    rintro e w' ⟨h1, k, rfl⟩
    exact ⟨h1, below_drewN (Below.refl _ _) k⟩
  · rw [if_neg hE]
    exact pdone_wrong p v M E S w h hT hE

set_option maxHeartbeats 1000000 in
theorem written_any (p q : Nat) (v : Value) (M E : Int) (S : ByteArray) (w : World) (h : PW w p v M (Lib.strCells S) E) (hR : RW w q S M E) (hT : ErrT w) :
    Calls Tryd.prog 41 #[.pointer (some ⟨p, 0, none⟩), .pointer (some ⟨q, 0, none⟩)] w fun e w' => e = .returned (.bool true) ∧ Below w.heap.size w w' := by
  obtain ⟨t, ht⟩ : ∃ t, t = (if E = 0 then S else ⟨#[]⟩) := ⟨_, rfl⟩
  have H1 : Hid (Calls Tryd.prog 60 #[.pointer (some ⟨p, 0, none⟩)] w fun e w' => e = .returned (.tuple #[.string t, .int .i64 E]) ∧ Below w.heap.size w w') := by rw [ht]; exact pdone_any p v M E S w h hT
  have H2 : Hid (∀ w1, Below w.heap.size w w1 → Calls Tryd.prog 86 #[.pointer (some ⟨q, 0, none⟩)] w1 fun e w' => e = .returned (.tuple #[.string t, .int .i64 E]) ∧ Below w.heap.size w w') := fun w1 hB => by
    rw [ht]
    refine (rdone_any q S M E w1 (hR.below hB)).mono ?_
    rintro e w' ⟨h1, k, rfl⟩
    exact ⟨h1, below_drewN hB k⟩
  have H3 : Hid (∀ w1, Below w.heap.size w w1 → Calls Tryd.prog 64 #[.pointer (some ⟨p, 0, none⟩)] w1 fun e w' => e = .returned (.int .i64 S.size) ∧ Below w.heap.size w w') := fun w1 hB => (plen p v M E S w1 (h.below hB)).mono fun e w' hp => ⟨hp.1, by rw [hp.2]; exact hB⟩
  have H4 : Hid (∀ w1, Below w.heap.size w w1 → Calls Tryd.prog 87 #[.pointer (some ⟨q, 0, none⟩)] w1 fun e w' => e = .returned (.int .i64 S.size) ∧ Below w.heap.size w w') := fun w1 hB => (rlen q S M E w1 (hR.below hB)).mono fun e w' hp => ⟨hp.1, by rw [hp.2]; exact hB⟩
  clear h hR hT ht
  go_enter Tryd.func41, Tryd.ntmps41
  go_wp2_with fail
  refine H1.out.mono ?_
  rintro e w1 ⟨rfl, hB⟩
  have HB1 : Hid (Below w.heap.size w w1) := hB
  clear hB
  go_wp2_with fail
  refine (H2.out _ HB1.out).mono ?_
  rintro e w2 ⟨rfl, hB⟩
  have HB2 : Hid (Below w.heap.size w w2) := hB
  clear hB
  go_wp2_with fail
  refine (H3.out _ HB2.out).mono ?_
  rintro e w3 ⟨rfl, hB⟩
  have HB3 : Hid (Below w.heap.size w w3) := hB
  clear hB
  go_wp2_with fail
  refine (H4.out _ HB3.out).mono ?_
  rintro e w4 ⟨rfl, hB⟩
  have HB4 : Hid (Below w.heap.size w w4) := hB
  clear hB
  go_wp2
  go_ret
  exact ⟨rfl, HB4.out⟩

set_option maxHeartbeats 1000000 in
theorem pnew (m : Int) (w : World) : Calls Tryd.prog 38 #[.int .i64 m] w fun e w' => e = .returned (.pointer (some ⟨w.heap.size, 0, none⟩)) ∧ w' = w.alloc (.cells #[.int .i64 (max m 0), .slice none 0 0, .nilIface] 93) := by
  go_enter Tryd.func38, Tryd.ntmps38
  go_wp2
  go_ret
  exact ⟨rfl, rfl⟩

set_option maxHeartbeats 1000000 in
theorem rnew (m : Int) (w : World) : Calls Tryd.prog 39 #[.int .i64 m] w fun e w' => e = .returned (.pointer (some ⟨w.heap.size, 0, none⟩)) ∧ w' = w.alloc (.cells #[.string ⟨#[]⟩, .int .i64 (max m 0), .int .i64 0] 95) := by
  go_enter Tryd.func39, Tryd.ntmps39
  go_wp2
  go_ret
  exact ⟨rfl, rfl⟩

theorem PW.new (m : Int) (w : World) : PW (w.alloc (.cells #[.int .i64 (max m 0), .slice none 0 0, .nilIface] 93)) w.heap.size (.slice none 0 0) (max m 0) (Lib.strCells ⟨#[]⟩) 0 :=
  ⟨by simp, by simp, by simp [trV], by simp, by simp, World.ownsRow_nil _ _ _ _⟩
theorem RW.new (m : Int) (w : World) : RW (w.alloc (.cells #[.string ⟨#[]⟩, .int .i64 (max m 0), .int .i64 0] 95)) w.heap.size ⟨#[]⟩ (max m 0) 0 :=
  ⟨by simp, by simp, by simp, by simp, by simp, by simp⟩

end Go.Proofs.YthnnmgiihpdblaaDoor
