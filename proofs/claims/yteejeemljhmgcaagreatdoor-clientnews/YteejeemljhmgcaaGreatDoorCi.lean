/- The program reads who somebody says to be. -/
import Derived.Test.YteejeemljhmgcaaGreatDoorCg
import Derived.Deep.AppendLies
namespace Go.Proofs.YteejeemljhmgcaaGreatDoor
open Go.RowKit
theorem rdGs_snoc (n : Nat) (st : Rs) : rdGs (n + 1) st = ((rdGs n st).1 ++ [((((rdGs n st).2).go 0 rdWord).1 : Int)], (((rdGs n st).2).go 0 rdWord).2) := by
  induction n generalizing st with
  | zero => simp [rdGs]
  | succ n ih =>
    rw [rdGs, ih]
    simp [rdGs]
theorem go_len {α : Type} (st : Rs) (d : α) (f : List UInt8 → Rd α) : (st.go d f).2.l.length ≤ st.l.length := by
  unfold Rs.go
  split
  · exact Nat.le_refl _
  · split
    · exact Nat.le_refl _
    · simp
theorem RR.of_block {w w' : World} {p : Nat} {l : List UInt8} {E : Int} (h : RR w p l E) (hb : w'.heap[p]? = w.heap[p]?) : RR w' p l E :=
  ⟨(cells_same hb 0).1.trans h.l, (cells_same hb 1).1.trans h.e, (cells_same hb 0).2.trans h.f0, (cells_same hb 1).2.trans h.f1⟩
theorem RR.set_ne {w : World} {p b : Nat} {l : List UInt8} {E : Int} (h : RR w p l E) (hb : p ≠ b) (i : Nat) (v : Value) : RR (w.setCell ⟨b, i, none⟩ v) p l E :=
  h.of_block (Below.heap_setCell w _ v p hb)
theorem Sole.belowB {w w' : World} {p b : Nat} (h : Sole p w w') (hb : b ≤ p) (hz : b ≤ w.heap.size) : Below b w w' := ⟨h.os, h.tape, h.output, h.size, fun k hk => h.block k (by omega) (by omega)⟩
theorem Bk.sole {w w' : World} {p b : Nat} {cs : List Value} {t : TypeId} (h : Bk w b cs t) (hS : Sole p w w') (hb : b ≠ p) : Bk w' b cs t := (hS.block b h.lt hb).trans h
/-- a call of a function by its contract, as one step of a region that draws its order -/
theorem step_calls {P : Program} {ops : Array Oper} {o : Oper} {a : Act} {w : World} {K : Act → World → Prop} {Q : Exit → Act → World → Prop} {E : Prop} (hg : o.guard = none) (f : FuncId) (args : Array Value)
    (hrun : (execOp a.eval o).run P w = .ok (.enter f args) w) (post : Ending → World → Prop) (hC : Calls P f args w post) (h : ∀ e w', post e w' → ∃ v, e = .returned v ∧ K (a.put o.dst v) w') :
    if Region.wanted o (yielded ops a.tmps) = true then Oper.wp P o a w K Q else E := by
  have hw : Region.wanted o (yielded ops a.tmps) = true := by simp [Region.wanted, hg]
  rw [if_pos hw]
  unfold Oper.wp
  rw [hrun, Oper.upon_enter]
  refine hC.mono fun e w' hp => ?_
  obtain ⟨v, rfl, hk⟩ := h e w' hp
  exact hk
theorem info_int : ∃ i : TypeInfo, Tryz.prog.info? 3 = some i ∧ i.zero = some (.int .i64 0) ∧ i.size = 1 ∧ i.bytes = 8 :=
  ⟨(Tryz.prog.info? 3).getD default, by kernel_rfl, by kernel_rfl, by kernel_rfl, by kernel_rfl⟩
def intsV (gs : List Int) : List Value := gs.map fun g => .int .i64 g
theorem intsV_len (gs : List Int) : (intsV gs).length = gs.length := by simp [intsV]
/-- the numbers that a value of its own has -/
def OwnI (w : World) (base : Nat) (sl : Value) (gs : List Int) : Prop := w.ownsRow base 3 1 sl gs.length (intsV gs)
theorem OwnI.of_blocks {w w' : World} {base : Nat} {sl : Value} {gs : List Int} (h : OwnI w base sl gs) (hb : ∀ g, sl.ownBlock = some g → w'.heap[g]? = w.heap[g]?) : OwnI w' base sl gs := ownsRow_of_block h hb
theorem OwnI.nil (w : World) (base : Nat) : OwnI w base (.slice none 0 0) [] := World.ownsRow_nil _ _ _ _
theorem OwnI.form {w : World} {base : Nat} {sl : Value} {gs : List Int} (h : OwnI w base sl gs) : ∃ a cap, sl = .slice a gs.length cap := by
  rcases h.2 with ⟨rfl, h0⟩ | ⟨g, cap, cur, rfl, _⟩
  · exact ⟨none, 0, by rw [h0]⟩
  · exact ⟨_, cap, rfl⟩
theorem step_appI {ops : Array Oper} {o : Oper} {a : Act} {K : Act → World → Prop} {Q : Exit → Act → World → Prop} {E : Prop} (w : World) (hgd : o.guard = none) (s x : Operand) (ho : o.op = .call { callee := .builtin .append, args := #[s, x], argTypes := #[24, 24] })
    (base : Nat) (gs : List Int) (sl : Value) (hown : OwnI w base sl gs) (hs : a.eval s = sl) (hN : gs.length ≤ 1000000) (q : Nat) (g : Int) (hx : a.eval x = .slice (some ⟨q, 0, none⟩) 1 1)
    (hq : w.heap[q]? = some (.cells #[.int .i64 g] 3)) (hbase : base ≤ w.heap.size)
    (h : ∀ b cap w', OwnI w' base (.slice (some ⟨b, 0, none⟩) (gs.length + 1) cap) (gs ++ [g]) → w.grownBy w' sl.ownBlock → (sl.ownBlock = some b ∨ b = w.heap.size) → K (a.put o.dst (.slice (some ⟨b, 0, none⟩) (gs.length + 1) cap)) w') :
    if Region.wanted o (yielded ops a.tmps) = true then Oper.wp Tryz.prog o a w K Q else E := by
  obtain ⟨inf, hi1, hi2, hi3, hi4⟩ := info_int
  refine step_append_lies w hgd s x 24 ho base 3 inf _ 1 8 Tryz.underlying24 hi1 hi2 hi3 hi4 rfl (by decide) sl gs.length (intsV gs) hs hown ⟨q, 0, none⟩ 1 1 [.int .i64 g] hx rfl (World.news_of_block (cs := #[.int .i64 g]) (t := 3) (fr := (0, 0)) hq) (by simp [Value.oneCell']) (by decide) (by unfold maxLen; omega) (by omega) hbase _ rfl ?_
  intro b cap w' h1 h2 h3 _
  refine h b cap w' ?_ h2 h3
  show w'.ownsRow base _ 1 _ _ _
  rw [List.length_append, List.length_singleton, show intsV (gs ++ [g]) = intsV gs ++ [.int .i64 g] by simp [intsV]]
  exact h1
end Go.Proofs.YteejeemljhmgcaaGreatDoor
