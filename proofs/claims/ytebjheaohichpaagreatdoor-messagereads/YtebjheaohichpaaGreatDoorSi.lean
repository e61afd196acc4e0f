/- The law's bent: a text with another byte at a place. -/
import Derived.Test.YtebjheaohichpaaGreatDoorSh
import Derived.Test.YtebjheaohichpaaGreatDoorGy
import Derived.Laws.IdiomStrings
namespace Go.Proofs.YtebjheaohichpaaGreatDoor
open Go.RowKit
theorem u8_wrap (n : Int) : ∃ b : UInt8, IntKind.u8.wrap n = (b.toNat : Int) := by
  have h : 0 ≤ IntKind.u8.wrap n ∧ IntKind.u8.wrap n < 256 := by
    have := IntKind.wrap_u8 n
    omega
  refine ⟨UInt8.ofNat (IntKind.u8.wrap n).toNat, ?_⟩
  have hl : (IntKind.u8.wrap n).toNat < UInt8.size := by
    show _ < 256
    omega
  rw [UInt8.toNat_ofNat_of_lt' hl]
  omega
theorem bytesRow_at' (s : ByteArray) (cap : Nat) (j : Nat) (hj : j < s.data.toList.length) : (bytesRow s cap)[j]? = some (.int .u8 (s.data.toList[j].toNat : Int)) := by
  unfold bytesRow
  rw [Array.getElem?_append_left (by simpa using hj)]
  simp at hj ⊢
  simp [hj]
set_option maxRecDepth 4000 in
set_option maxHeartbeats 4000000 in
theorem bent_any (s : ByteArray) (at_ by_ : Int) (w : World) (ha : -9223372036854775808 ≤ at_ ∧ at_ ≤ 9223372036854775807) (hs : s.size ≤ 140737488355328) :
    Calls Tryz.prog 13 #[.string s, .int .i64 at_, .int .i64 by_] w fun e w' => ∃ t : ByteArray, e = .returned (.string t) ∧ t.size = s.size ∧ Below w.heap.size w w' := by
  by_cases h0 : s.size = 0
  · have he : s = ⟨#[]⟩ := by
      obtain ⟨d⟩ := s
      have : d.size = 0 := h0
      rw [Array.eq_empty_of_size_eq_zero this]
    subst he
    clear h0 hs ha
    go_enter Tryz.func13, Tryz.ntmps13
    go_wp2
    go_ret
    exact ⟨_, rfl, rfl, Below.refl _ _⟩
  · have hne : (s.toList == (⟨#[]⟩ : ByteArray).toList) = false := by
      rw [beq_eq_false_iff_ne]
      intro e
      have := congrArg List.length e
      rw [ByteArray.toList_eq, ByteArray.toList_eq] at this
      exact h0 (by simpa using this)
    obtain ⟨cap, hcap⟩ : ∃ c, grownCap w s.size 0 5 = c := ⟨_, rfl⟩
    obtain ⟨w1, hw1⟩ : ∃ y, w.drew.alloc (.cells (bytesRow s cap) 5 ((bytesRow s cap).size, (bytesRow s cap).size + 1)) = y := ⟨_, rfl⟩
    have hcv : (convert 9 43 (.string s)).run Tryz.prog w = .ok (.slice (some ⟨w.heap.size, 0, none⟩) s.size cap) w1 := by
      have := run_bytes_of_string (P := Tryz.prog) w 9 43 5 s Tryz.underlying9 Tryz.underlying43 Tryz.underlying5
      rwa [hcap, hw1] at this
    have hblk : w1.heap[w.heap.size]? = some (.cells (bytesRow s cap) 5 ((bytesRow s cap).size, (bytesRow s cap).size + 1)) := by rw [← hw1]; exact heap_alloc_new w.drew _
    have hB1 : Below w.heap.size w w1 := by rw [← hw1]; exact (Below.refl _ _).drew.alloc (Nat.le_refl _) _
    have hpr := pick_range at_ s.size (by omega)
    obtain ⟨k, hk⟩ : ∃ k : Nat, pickP at_ s.size = (k : Int) := ⟨(pickP at_ s.size).toNat, by omega⟩
    have hkl : k < s.size := by omega
    have HP : Hid (∀ w, Calls Tryz.prog 14 #[.int .i64 at_, .int .i64 s.size] w fun e w' => e = .returned (.int .i64 (k : Int)) ∧ w' = w) := fun w => by
      rw [← hk]; exact pick_any at_ s.size w ha.1 ha.2 (by omega) (by omega)
    obtain ⟨bt, hbt⟩ := u8_wrap by_
    have hlen : s.data.toList.length = s.size := by simp
    have hrow : (bytesRow s cap).size ≥ s.size := by unfold bytesRow; simp
    have c0 : w1.cell? ⟨w.heap.size, k, none⟩ = some (.int .u8 ((s.data.toList[k]'(by omega)).toNat : Int)) := by
      unfold World.cell?
      rw [hblk]
      exact bytesRow_at' s cap k (by omega)
    have f0 : w1.frozen? ⟨w.heap.size, k, none⟩ = false := by
      unfold World.frozen?
      rw [hblk]
      simp
      omega
    obtain ⟨t, ht⟩ : ∃ t : List UInt8, t = s.data.toList.set k bt := ⟨_, rfl⟩
    have htl : t.length = s.size := by rw [ht]; simp
    obtain ⟨w2, hw2⟩ : ∃ y, w1.setCell ⟨w.heap.size, k, none⟩ (.int .u8 (bt.toNat : Int)) = y := ⟨_, rfl⟩
    have hback : (convert 43 9 (.slice (some ⟨w.heap.size, 0, none⟩) s.size cap)).run Tryz.prog w2 = .ok (.string ⟨t.toArray⟩) w2 := by
      rw [← htl]
      refine run_convert_bytes_back w2 43 9 5 ⟨w.heap.size, 0, none⟩ _ t Tryz.underlying43 Tryz.underlying5 Tryz.underlying9 fun j hj => ?_
      rw [← hw2, Addr.add_lit, Nat.zero_add]
      by_cases hjk : j = k
      · subst hjk
        rw [World.cell?_setCell_same _ _ _ c0]
        simp [ht]
      · rw [World.cell?_setCell_other _ _ _ _ (by intro e; injection e; omega)]
        unfold World.cell?
        rw [hblk]
        refine Eq.trans (b := (bytesRow s cap)[j]?) rfl ?_
        rw [bytesRow_at' s cap j (by omega)]
        simp [ht, Ne.symm hjk]
    have HE : Hid (∃ t' : ByteArray, Ending.returned (.string ⟨t.toArray⟩) = .returned (.string t') ∧ t'.size = s.size ∧ Below w.heap.size w w2) := ⟨_, rfl, by rw [← htl]; show t.toArray.size = _; simp, by rw [← hw2]; exact hB1.setCell (Nat.le_refl _) _⟩
    generalize (⟨t.toArray⟩ : ByteArray) = TT_ at *
    have hk' : (k : Int) < (s.size : Int) := by omega
    have hk0 : (0 : Int) ≤ (k : Int) := by omega
    have hne2 : s.toList.isEmpty = false := by first | simpa using hne | (rw [List.isEmpty_eq_false_iff]; simpa using hne)
    obtain ⟨cv, hcv0⟩ : ∃ y, (.int .u8 ((s.data.toList[k]'(by omega)).toNat : Int) : Value) = y := ⟨_, rfl⟩
    rw [hcv0] at c0
    clear hcv0
    clear hblk hB1 hpr hk hrow hcap h0 ha
    go_enter Tryz.func13, Tryz.ntmps13
    go_wp2_with (first | (go_at_call 14; refine (HP.out _).mono ?_; rintro e w' ⟨rfl, hw'⟩; have hw3 := hw'.symm; clear hw'; subst hw3))
    go_ret
    exact HE.out
end Go.Proofs.YtebjheaohichpaaGreatDoor
