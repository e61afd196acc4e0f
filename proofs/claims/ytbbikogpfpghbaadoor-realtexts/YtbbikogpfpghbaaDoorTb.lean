/- A text with another byte at a place. -/
import Derived.Test.YtbbikogpfpghbaaDoorTp
namespace Go.Proofs.YtbbikogpfpghbaaDoor
open Go.RowKit

/-- What the bytes of a text lie as. -/
theorem holds_bytes (s : ByteArray) (w : World) (cap : Nat) :
    Go.Sort.Holds encB (w.drew.alloc (.cells (bytesRow s cap) 5 ((bytesRow s cap).size, (bytesRow s cap).size + 1))) w.heap.size 0 s.data := by
  have hsz : s.data.size ≤ (bytesRow s cap).size := by simp [bytesRow]
  have hh : (w.drew.alloc (.cells (bytesRow s cap) 5 ((bytesRow s cap).size, (bytesRow s cap).size + 1))).heap[w.heap.size]? = some (.cells (bytesRow s cap) 5 ((bytesRow s cap).size, (bytesRow s cap).size + 1)) := by
    show (w.heap.push _)[w.heap.size]? = _
    simp
  intro j hj
  rw [Nat.zero_add]
  refine ⟨?_, ?_⟩
  · unfold World.cell?
    show (match (w.drew.alloc (.cells (bytesRow s cap) 5 ((bytesRow s cap).size, (bytesRow s cap).size + 1))).heap[w.heap.size]? with | some (.cells cs _ _) => _ | _ => _) = _
    rw [hh]
    have hj2 : j < s.size := hj
    simp [bytesRow, encB, Array.getElem?_append]
    rw [if_pos hj2, Array.getElem?_eq_getElem hj, getElem!_pos s.data j hj]
    rfl
  · unfold World.frozen?
    rw [hh]
    simp
    omega

theorem bytes_len (d : Array UInt8) (i : Nat) (c : UInt8) : (d.setIfInBounds i c).toList.length = d.size := by simp

set_option maxHeartbeats 1000000 in
theorem bent_core (s : ByteArray) (at0 by0 : Int) (w : World) (hs : 0 < (s.size : Int)) (hs2 : (s.size : Int) ≤ 100) (ha0 : -9223372036854775808 ≤ at0) (ha1 : at0 ≤ 9223372036854775807) (hne : (s.toList == []) = false) :
    Calls Tryd.prog 32 #[.string s, .int .i64 at0, .int .i64 by0] w fun e w' => ∃ t : ByteArray, Hid (t.size = s.size) ∧ e = .returned (.string t) ∧ Below w.heap.size w w' := by
  obtain ⟨cap, hcap⟩ : ∃ cap, grownCap w s.size 0 5 = cap := ⟨_, rfl⟩
  have hcv := run_bytes_of_string (P := Tryd.prog) w 9 75 5 s Tryd.underlying9 Tryd.underlying75 Tryd.underlying5
  rw [hcap] at hcv
  have HH : Hid (Go.Sort.Holds encB (w.drew.alloc (.cells (bytesRow s cap) 5 ((bytesRow s cap).size, (bytesRow s cap).size + 1))) w.heap.size 0 s.data) := holds_bytes s w cap
  have HBl : Hid (Below w.heap.size w (w.drew.alloc (.cells (bytesRow s cap) 5 ((bytesRow s cap).size, (bytesRow s cap).size + 1)))) := (below_drewN (Below.refl _ _) 1).alloc (Nat.le_refl _) _
  obtain ⟨W1, hW1⟩ : ∃ W1, w.drew.alloc (.cells (bytesRow s cap) 5 ((bytesRow s cap).size, (bytesRow s cap).size + 1)) = W1 := ⟨_, rfl⟩
  rw [hW1] at hcv HH HBl
  clear hW1
  obtain ⟨H, hH⟩ : ∃ H, w.heap.size = H := ⟨_, rfl⟩
  rw [hH] at hcv HH HBl ⊢
  obtain ⟨v, hv⟩ : ∃ v : Int, by0 % 256 = v := ⟨_, rfl⟩
  obtain ⟨c, hc⟩ : ∃ c : UInt8, v = (c.toNat : Int) := ⟨UInt8.ofNat v.toNat, by
    have : v.toNat < 256 := by omega
    rw [UInt8.toNat_ofNat_of_lt' this]; omega⟩
  have HC : Hid (v = (c.toNat : Int)) := hc
  have HP : Hid (∀ w, Calls Tryd.prog 24 #[.int .i64 at0, .int .i64 (s.size : Int)] w fun e w' => ∃ z, 0 ≤ z ∧ z < (s.size : Int) ∧ e = .returned (.int .i64 z) ∧ w' = w) := fun w => pick_any at0 _ w ha0 ha1 hs (by omega)
  clear ha0 ha1 hc hcap hH
  go_enter Tryd.func32, Tryd.ntmps32
  go_wp2_with fail
  refine (HP.out _).mono ?_
  rintro e w2 ⟨z, hz0, hz1, rfl, rfl⟩
  obtain ⟨zn, rfl⟩ : ∃ zn : Nat, z = (zn : Int) := ⟨z.toNat, by omega⟩
  have hzs : zn < s.data.size := by have : (zn : Int) < ((s.data.size : Nat) : Int) := hz1; omega
  obtain ⟨hcell, hfro⟩ := HH.out zn hzs
  rw [Nat.zero_add] at hcell hfro
  have HN : Hid (Go.Sort.Holds encB (w2.setCell ⟨H, zn, none⟩ (.int .u8 v)) H 0 (s.data.setIfInBounds zn c)) := by
    show Go.Sort.Holds encB (w2.setCell ⟨H, zn, none⟩ (.int .u8 v)) H 0 (s.data.setIfInBounds zn c)
    rw [HC.out]; exact holds_store HH.out hzs
  have hcv2 : (convert 75 9 (.slice (some ⟨H, 0, none⟩) s.size cap)).run Tryd.prog (w2.setCell ⟨H, zn, none⟩ (.int .u8 v)) = .ok (.string ⟨s.data.setIfInBounds zn c⟩) (w2.setCell ⟨H, zn, none⟩ (.int .u8 v)) := by
    have h := run_convert_bytes_back (P := Tryd.prog) (w2.setCell ⟨H, zn, none⟩ (.int .u8 v)) 75 9 5 ⟨H, 0, none⟩ cap (s.data.setIfInBounds zn c).toList Tryd.underlying75 Tryd.underlying5 Tryd.underlying9 (fun t ht => by
      have ht2 : t < (s.data.setIfInBounds zn c).size := by simpa using ht
      have hc := (HN.out t ht2).1
      have ea : (Addr.add ⟨H, 0, none⟩ t) = ⟨H, 0 + t, none⟩ := Lib.add_plain _ _ _
      rw [ea, hc, getElem!_pos _ t ht2, Array.getElem_toList]
      rfl)
    rw [bytes_len, Array.toArray_toList] at h
    exact h
  have HT : Hid ((⟨s.data.setIfInBounds zn c⟩ : ByteArray).size = s.size) := by
    show (s.data.setIfInBounds zn c).size = s.data.size
    simp
  go_wp2
  go_ret
  exact ⟨_, HT.out, rfl, HBl.out.setCell (Nat.le_refl _) _⟩

end Go.Proofs.YtbbikogpfpghbaaDoor
