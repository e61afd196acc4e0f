/- What is wrong first: noting it, asking for it, its number; an error of a number. -/
import Derived.Test.YthnnmgiihpdblaaDoorXb
import Derived.Below
namespace Go.Proofs.YthnnmgiihpdblaaDoor
open Go.RowKit Go.Extern.Stop Go.Stop Go.Extern

/-- What a trouble's cell holds: nothing wrong, or the error of a number. -/
def trV (e : Int) : Value := if e = 0 then .nilIface else .iface 132 (.agg #[.int .i64 e])

theorem eql_iface (v : Value) (w : World) : (binOp .eql 89 (.iface 132 v) .nilIface).run Tryd.prog w = .ok (.bool false) w := by kernel_rfl
theorem neq_iface (v : Value) (w : World) : (binOp .neq 89 (.iface 132 v) .nilIface).run Tryd.prog w = .ok (.bool true) w := by kernel_rfl

theorem faultOf_zero (w : World) : Calls Tryd.prog 113 #[.int .i64 0] w fun e w' => e = .returned (trV 0) ∧ w' = w := by
  go_enter Tryd.func113, Tryd.ntmps113
  go_wp2
  go_ret
  exact ⟨rfl, rfl⟩
theorem faultOf_other (e : Int) (w : World) (h : e ≠ 0) : Calls Tryd.prog 113 #[.int .i64 e] w fun r w' => r = .returned (trV e) ∧ w' = w := by
  have hb : (e == 0) = false := beq_eq_false_iff_ne.2 h
  have hT : Hid (trV e = .iface 132 (.agg #[.int .i64 e])) := by show trV e = _; unfold trV; rw [if_neg h]
  clear h
  rw [hT.out]
  go_enter Tryd.func113, Tryd.ntmps113
  go_wp2
  go_ret
  exact ⟨rfl, rfl⟩
theorem faultOf_any (e : Int) (w : World) : Calls Tryd.prog 113 #[.int .i64 e] w fun r w' => r = .returned (trV e) ∧ w' = w := by
  by_cases h : e = 0
  · subst h; exact faultOf_zero w
  · exact faultOf_other e w h

theorem note_nil (tp : Addr) (w : World) (hc : w.cell? tp = some .nilIface) (hf : w.frozen? tp = false) :
    Calls Tryd.prog 112 #[.pointer (some tp), .nilIface] w fun r w' => r = .returned (.tuple #[]) ∧ w' = w.setCell tp .nilIface := by
  go_enter Tryd.func112, Tryd.ntmps112
  go_wp2
  first | go_end0 | refine bodyPost_ret (results_none rfl _ _ _) rfl ?_
  exact ⟨rfl, rfl⟩
theorem note_fault (tp : Addr) (x : Int) (w : World) (hc : w.cell? tp = some .nilIface) (hf : w.frozen? tp = false) :
    Calls Tryd.prog 112 #[.pointer (some tp), .iface 132 (.agg #[.int .i64 x])] w fun r w' => r = .returned (.tuple #[]) ∧ w' = w.setCell tp (.iface 132 (.agg #[.int .i64 x])) := by
  go_enter Tryd.func112, Tryd.ntmps112
  go_wp2
  first | go_end0 | refine bodyPost_ret (results_none rfl _ _ _) rfl ?_
  exact ⟨rfl, rfl⟩
theorem note_first (tp : Addr) (e : Int) (w : World) (hc : w.cell? tp = some (trV 0)) (hf : w.frozen? tp = false) :
    Calls Tryd.prog 112 #[.pointer (some tp), trV e] w fun r w' => r = .returned (.tuple #[]) ∧ w' = w.setCell tp (trV e) := by
  have hc2 : w.cell? tp = some .nilIface := hc
  unfold trV
  by_cases h : e = 0
  · rw [if_pos h]; exact note_nil tp w hc2 hf
  · rw [if_neg h]; exact note_fault tp e w hc2 hf
theorem note_later (tp : Addr) (v x : Value) (w : World) (hc : w.cell? tp = some (.iface 132 x)) :
    Calls Tryd.prog 112 #[.pointer (some tp), v] w fun r w' => r = .returned (.tuple #[]) ∧ w' = w := by
  have q := eql_iface x
  go_enter Tryd.func112, Tryd.ntmps112
  go_wp2
  first | go_end0 | refine bodyPost_ret (results_none rfl _ _ _) rfl ?_
  exact ⟨rfl, rfl⟩
theorem any_no (tp : Addr) (w : World) (hc : w.cell? tp = some .nilIface) : Calls Tryd.prog 101 #[.pointer (some tp)] w fun r w' => r = .returned (.bool false) ∧ w' = w := by
  go_enter Tryd.func101, Tryd.ntmps101
  go_wp2
  go_ret
  exact ⟨rfl, rfl⟩
theorem any_yes (tp : Addr) (x : Value) (w : World) (hc : w.cell? tp = some (.iface 132 x)) : Calls Tryd.prog 101 #[.pointer (some tp)] w fun r w' => r = .returned (.bool true) ∧ w' = w := by
  have q := neq_iface x
  go_enter Tryd.func101, Tryd.ntmps101
  go_wp2
  go_ret
  exact ⟨rfl, rfl⟩
theorem any_any (tp : Addr) (e : Int) (w : World) (hc : w.cell? tp = some (trV e)) : Calls Tryd.prog 101 #[.pointer (some tp)] w fun r w' => r = .returned (.bool (e != 0)) ∧ w' = w := by
  unfold trV at hc
  by_cases h : e = 0
  · rw [if_pos h] at hc; subst h; exact any_no tp w hc
  · rw [if_neg h] at hc
    have : (e != 0) = true := by rw [bne_iff_ne]; exact h
    rw [this]; exact any_yes tp _ w hc

set_option maxHeartbeats 1000000 in
theorem number_no (tp : Addr) (w : World) (hc : w.cell? tp = some .nilIface) : Calls Tryd.prog 102 #[.pointer (some tp)] w fun r w' => r = .returned (.int .i64 0) ∧ Below w.heap.size w w' := by
  have hlt : tp.block < w.heap.size := by
    rcases Nat.lt_or_ge tp.block w.heap.size with h | h
    · exact h
    · simp [World.cell?, Array.getElem?_eq_none h] at hc
  have hc2 : ∀ o, (w.alloc o).cell? tp = some .nilIface := fun o => by rw [World.cell?_alloc_lt _ _ tp hlt]; exact hc
  go_enter Tryd.func102, Tryd.ntmps102
  go_wp2_with (go_at_call 125; refine (as_nil _ _).mono ?_; rintro e w' ⟨rfl, rfl⟩)
  go_ret
  exact ⟨rfl, (Below.refl _ _).alloc (Nat.le_refl _) _⟩

/-- The variable that the layer's own look leans on: the type of errors. -/
def ErrT (w : World) : Prop := w.cell? ⟨1, 0, none⟩ = some (.iface 169 (.agg #[.pointer (some ⟨8, 89, none⟩)]))
theorem ErrT.size {w : World} (h : ErrT w) : 1 < w.heap.size := by
  rcases Nat.lt_or_ge 1 w.heap.size with h1 | h1
  · exact h1
  · unfold ErrT at h
    simp [World.cell?, Array.getElem?_eq_none h1] at h
theorem ErrT.below {w w' : World} (h : ErrT w) (hb : Below w.heap.size w w') : ErrT w' := by
  have hs := h.size
  unfold ErrT at *
  rw [hb.cell (p := ⟨1, 0, none⟩) (show 1 < w.heap.size from hs)]
  exact h

set_option maxHeartbeats 1000000 in
theorem number_yes (tp : Addr) (x : Int) (w : World) (hE : ErrT w) (hc : w.cell? tp = some (.iface 132 (.agg #[.int .i64 x]))) : Calls Tryd.prog 102 #[.pointer (some tp)] w fun r w' => r = .returned (.int .i64 x) ∧ Below w.heap.size w w' := by
  have hlt : tp.block < w.heap.size := by
    rcases Nat.lt_or_ge tp.block w.heap.size with h | h
    · exact h
    · simp [World.cell?, Array.getElem?_eq_none h] at hc
  have hc2 : ∀ o, (w.alloc o).cell? tp = some (.iface 132 (.agg #[.int .i64 x])) := fun o => by rw [World.cell?_alloc_lt _ _ tp hlt]; exact hc
  have h1 : Hid ((w.alloc (.cells #[.int .i64 0] 132)).cell? ⟨w.heap.size, 0, none⟩ = some (.int .i64 0)) := World.cell?_alloc_new w _ _ 0
  have h2 : Hid ((w.alloc (.cells #[.int .i64 0] 132)).frozen? ⟨w.heap.size, 0, none⟩ = false) := World.frozen?_alloc_new _ _ _ _
  have hE2 : Hid (ErrT (w.alloc (.cells #[.int .i64 0] 132))) := hE.below ((Below.refl _ _).alloc (Nat.le_refl _) _)
  have hcell : Hid (((xaW x ⟨w.heap.size, 0, none⟩ (w.alloc (.cells #[.int .i64 0] 132))).setCell ⟨w.heap.size, 0, none⟩ (.int .i64 x)).cell? ⟨w.heap.size, 0, none⟩ = some (.int .i64 x)) := by
    suffices h0 : (xaW x ⟨w.heap.size, 0, none⟩ (w.alloc (.cells #[.int .i64 0] 132))).cell? ⟨w.heap.size, 0, none⟩ = some (.int .i64 0) from World.cell?_setCell_same _ _ _ h0
    unfold xaW
    rw [World.cell?_alloc_lt _ _ ⟨w.heap.size, 0, none⟩ (by simp; omega), World.cell?_alloc_lt _ _ ⟨w.heap.size, 0, none⟩ (by simp; omega), World.cell?_alloc_lt _ _ ⟨w.heap.size, 0, none⟩ (by simp; omega), World.cell?_alloc_lt _ _ ⟨w.heap.size, 0, none⟩ (by simp)]
    exact h1.out
  have hB : Hid (Below w.heap.size w ((xaW x ⟨w.heap.size, 0, none⟩ (w.alloc (.cells #[.int .i64 0] 132))).setCell ⟨w.heap.size, 0, none⟩ (.int .i64 x))) := by
    show Below w.heap.size w _
    unfold xaW
    refine Below.setCell (p := ⟨w.heap.size, 0, none⟩) ?_ (Nat.le_refl _) _
    refine Below.alloc (Below.alloc (Below.alloc (Below.alloc (Below.alloc (Below.refl _ _) (Nat.le_refl _) _) ?_ _) ?_ _) ?_ _) ?_ _ <;> simp <;> omega
  clear hE
  go_enter Tryd.func102, Tryd.ntmps102
  go_wp2_with fail
  refine (as_hit x ⟨w.heap.size, 0, none⟩ (.int .i64 0) _ hE2.out h1.out h2.out).mono ?_
  rintro e w' ⟨rfl, hw⟩
  have hcl := hcell.out
  have hbl := hB
  rw [← hw] at hcl hbl
  clear hw hB hcell h1 h2 hE2 hc2
  go_wp2
  go_ret
  exact ⟨rfl, hbl.out⟩

theorem number_any (tp : Addr) (x : Int) (w : World) (hE : ErrT w) (hc : w.cell? tp = some (trV x)) : Calls Tryd.prog 102 #[.pointer (some tp)] w fun r w' => r = .returned (.int .i64 x) ∧ Below w.heap.size w w' := by
  unfold trV at hc
  by_cases h : x = 0
  · rw [if_pos h] at hc; subst h; exact number_no tp w hc
  · rw [if_neg h] at hc; exact number_yes tp x w hE hc

end Go.Proofs.YthnnmgiihpdblaaDoor
