/- PrintMark. The program reads who somebody says to be. -/
import Derived.Test.YtfcbjcebkahehaaGreatDoorZal
import Derived.Deep.AppendLies
namespace Go.Proofs.YtfcbjcebkahehaaGreatDoor
open Go.RowKit
set_option maxRecDepth 4000 in
theorem markOf_any (m : MarkP) (oa : Option Addr) (cap : Nat) (w : World) :
    Calls Tryz.prog 136 #[.agg #[.int .i64 m.inst, .int .i64 m.seq, .int .i64 m.water, .int .i64 m.sys.stamp, .string ⟨m.sys.machine.toArray⟩, .int .i64 m.sys.user, .int .i64 m.sys.group, .slice oa m.sys.groups.length cap]] w fun e w' => e = .returned (.pointer (some ⟨w.heap.size + 1, 0, none⟩)) ∧ w'.heap.size = w.heap.size + 1 + 1 ∧ Below w.heap.size w w' ∧ Bk w' (w.heap.size + 1) [.int .i64 m.sys.stamp, .string ⟨m.sys.machine.toArray⟩, .int .i64 m.sys.user, .int .i64 m.sys.group, .slice oa m.sys.groups.length cap, .int .i64 m.inst, .int .i64 m.seq, .int .i64 m.water] 258 := by
  obtain ⟨i, q, u, st, mc, us, gr, gs⟩ := m
  simp only
  go_enter Tryz.func136, Tryz.ntmps136
  go_wp2
  go_ret
  refine ⟨rfl, by simp, (below_new _ _).alloc (by simp) _, ?_⟩
  have := Bk.new (w.alloc (.cells #[.int .i64 i, .int .i64 q, .int .i64 u, .int .i64 st, .string ⟨mc.toArray⟩, .int .i64 us, .int .i64 gr, .slice oa gs.length cap] 131)) [.int .i64 st, .string ⟨mc.toArray⟩, .int .i64 us, .int .i64 gr, .slice oa gs.length cap, .int .i64 i, .int .i64 q, .int .i64 u] 258
  simpa using this
set_option maxRecDepth 4000 in
theorem printMark_any (m : MarkP) (oa : Option Addr) (cap : Nat) (w : World) (hT : ErrT w) (hg : GsAt w w.heap.size oa m.sys.groups) (hcap : m.sys.groups.length ≤ cap) (hlen : (m.sys.groups.length : Int) ≤ 9223372036854775807) :
    Calls Tryz.prog 94 #[.agg #[.int .i64 m.inst, .int .i64 m.seq, .int .i64 m.water, .int .i64 m.sys.stamp, .string ⟨m.sys.machine.toArray⟩, .int .i64 m.sys.user, .int .i64 m.sys.group, .slice oa m.sys.groups.length cap]] w fun e w' => e = .returned (prV 1296126539 (printM m)) ∧ Below w.heap.size w w' := by
  obtain ⟨w2, hw2⟩ : ∃ x, (w.alloc (.cells #[.int .i64 m.inst, .int .i64 m.seq, .int .i64 m.water, .int .i64 m.sys.stamp, .string ⟨m.sys.machine.toArray⟩, .int .i64 m.sys.user, .int .i64 m.sys.group, .slice oa m.sys.groups.length cap] 131)).alloc (.cells #[.int .i64 0, .string ⟨#[]⟩] 44) = x := ⟨_, rfl⟩
  have HW2 := hid hw2
  have hz2 : w2.heap.size = w.heap.size + 1 + 1 := by rw [← hw2]; simp
  have hB2 : Below w.heap.size w w2 := by
    rw [← hw2]
    exact (below_new _ _).alloc (by simp) _
  have hr2 : Bk w2 (w.heap.size + 1) [.int .i64 0, .string ⟨#[]⟩] 44 := by
    rw [← hw2]
    have := Bk.new (w.alloc (.cells #[.int .i64 m.inst, .int .i64 m.seq, .int .i64 m.water, .int .i64 m.sys.stamp, .string ⟨m.sys.machine.toArray⟩, .int .i64 m.sys.user, .int .i64 m.sys.group, .slice oa m.sys.groups.length cap] 131)) [.int .i64 0, .string ⟨#[]⟩] 44
    simpa using this
  have HMO := hid (markOf_any m oa cap w2)
  have HN : Hid (∀ w, Calls Tryz.prog 76 #[.int .i64 400] w fun e w' => e = .returned (.pointer (some ⟨w.heap.size, 0, none⟩)) ∧ w' = w.alloc (.cells #[.int .i64 400, .slice none 0 0, .nilIface] 181)) := fun w => w_new 400 w (by decide)
  have H2 : Hid (w2.heap.size = w.heap.size + 1 + 1 ∧ Below w.heap.size w w2 ∧ Bk w2 (w.heap.size + 1) [.int .i64 0, .string ⟨#[]⟩] 44 ∧ ErrT w2) := ⟨hz2, hB2, hr2, hT.below hB2⟩
  have HS : Hid (∀ w3 w4, w3.heap.size = w2.heap.size + 1 + 1 → Below w2.heap.size w2 w3 → Bk w3 (w2.heap.size + 1) [.int .i64 m.sys.stamp, .string ⟨m.sys.machine.toArray⟩, .int .i64 m.sys.user, .int .i64 m.sys.group, .slice oa m.sys.groups.length cap, .int .i64 m.inst, .int .i64 m.seq, .int .i64 m.water] 258 → w4 = w3.alloc (.cells #[.int .i64 400, .slice none 0 0, .nilIface] 181) → Calls Tryz.prog 137 #[.pointer (some ⟨w2.heap.size + 1, 0, none⟩), .pointer (some ⟨w3.heap.size, 0, none⟩)] w4 (WPost w3.heap.size 400 (True ∧ m.may) ([] ++ m.body) w4)) := fun w3 w4 hz3 hB3 hk3 h4 => by
    obtain ⟨h1, h2, h3⟩ := WrP.alloc (by decide) h4
    have hk4 := hk3.below h2 (by omega)
    exact mlay_any (w2.heap.size + 1) w3.heap.size m oa cap 400 True [] w4 h1 (by decide) (by decide) (by omega) (hk4.cell 0 rfl) (hk4.cell 1 rfl) (hk4.cell 2 rfl) (hk4.cell 3 rfl) (hk4.cell 4 rfl) (hk4.cell 5 rfl) (hk4.cell 6 rfl) (hk4.cell 7 rfl) ((((hg.below (hB2.mono (Nat.le_refl _))).below (hB3.mono (by omega))).mono (by omega)).below h2) hcap hlen (fun _ => by simp)
  have HP : Hid (∀ p w5, WrP w5 p 400 (True ∧ m.may) ([] ++ m.body) → ErrT w5 → Calls Tryz.prog 113 #[.int .i64 1296126539, .pointer (some ⟨p, 0, none⟩)] w5 fun e w' => e = .returned (prV 1296126539 (printM m)) ∧ Below w5.heap.size w5 w') := fun p w5 h5 hT5 => by
    have := authOf_any p 1296126539 400 m.may m.body w5 (h5.iff (by simp) (fun _ => by simp)) hT5
    exact this
  clear hz2 hB2 hr2 hg hT hw2
  obtain ⟨i, q, u, st, mc, us, gr, gs⟩ := m
  simp only at hcap hlen HS HP HW2 HMO ⊢
  go_enter Tryz.func94, Tryz.ntmps94
  go_wp2_with fail
  rw [HW2.out]
  refine HMO.out.mono ?_
  rintro e w3 ⟨rfl, hz3, hB3, hk3⟩
  have H3 := hid (And.intro hz3 (And.intro hB3 hk3))
  clear hz3 hB3 hk3
  go_wp2_with fail
  refine (HN.out _).mono ?_
  rintro e w4 ⟨rfl, h4⟩
  have H4 := hid h4
  clear h4
  go_wp2_with fail
  refine (HS.out _ _ H3.out.1 H3.out.2.1 H3.out.2.2 H4.out).mono ?_
  rintro e w5 ⟨rfl, h5, hB5⟩
  have H5 := hid h5
  have HB5 : Hid (Below w3.heap.size w3 w5) := (WrP.alloc (by decide) H4.out).2.1.trans hB5
  have HB6 : Hid (Below w2.heap.size w2 w5) := H3.out.2.1.trans (HB5.out.mono (by have := H3.out.1; omega))
  have HT5 : Hid (ErrT w5) := H2.out.2.2.2.below HB6.out
  clear h5 hB5
  go_wp2_with fail
  refine (HP.out _ _ H5.out HT5.out).mono ?_
  rintro e w6 ⟨rfl, hB6⟩
  have hk : Bk w6 (w.heap.size + 1) _ _ := (H2.out.2.2.1.below HB6.out (by have := H2.out.1; omega)).below hB6 (by have := H2.out.1; have := HB6.out.size; omega)
  obtain ⟨x, sb, y, hv⟩ := prV_some 1296126539 (printM ⟨i, q, u, st, mc, us, gr, gs⟩)
  rw [hv]
  have c0 := hk.cell 0 rfl
  have c1 := hk.cell 1 rfl
  have f0 := hk.frozen 0
  have f1 := hk.frozen 1
  have q0 := ((hk.set 0 (.int .i64 x)).set 1 (.string sb)).cell 0 rfl
  have q1 := ((hk.set 0 (.int .i64 x)).set 1 (.string sb)).cell 1 rfl
  have HE : Hid (Below w.heap.size w ((w6.setCell ⟨w.heap.size + 1, 0, none⟩ (.int .i64 x)).setCell ⟨w.heap.size + 1, 1, none⟩ (.string sb))) :=
    (((H2.out.2.1.trans (HB6.out.mono (by have := H2.out.1; omega))).trans (hB6.mono (by have := H2.out.1; have := HB6.out.size; omega))).setCell (by simp) _).setCell (by simp) _
  have HV := hid hv
  clear hB6 hk hv
  go_wp2
  refine bodyPost_ret (v := .tuple #[.agg #[.int .i64 x, .string sb], .int .i64 y]) (by simp [results, Tryz.results94, go_sem, q0, q1]) rfl ⟨by rw [HV.out], HE.out⟩
end Go.Proofs.YtfcbjcebkahehaaGreatDoor
namespace Go.Proofs.YtfcbjcebkahehaaGreatDoor
open Go.RowKit
theorem rdGs_snoc (n : Nat) (st : Rs) : rdGs (n + 1) st = ((rdGs n st).1 ++ [((((rdGs n st).2).go 0 rdWord).1 : Int)], (((rdGs n st).2).go 0 rdWord).2) := by
  induction n generalizing st with
  | zero => simp [rdGs]
  | succ n ih =>
    rw [rdGs, ih]
    simp [rdGs]
theorem go_len {α : Type} (st : Rs) (d : α) (f : List UInt8 → Rd α) : (st.go d f).2.l.length ≤ st.l.length := by
  unfold Rs.go
  split
  · exact Nat.le_refl _
  · split
    · exact Nat.le_refl _
    · simp
theorem RR.of_block {w w' : World} {p : Nat} {l : List UInt8} {E : Int} (h : RR w p l E) (hb : w'.heap[p]? = w.heap[p]?) : RR w' p l E :=
  ⟨(cells_same hb 0).1.trans h.l, (cells_same hb 1).1.trans h.e, (cells_same hb 0).2.trans h.f0, (cells_same hb 1).2.trans h.f1⟩
theorem RR.set_ne {w : World} {p b : Nat} {l : List UInt8} {E : Int} (h : RR w p l E) (hb : p ≠ b) (i : Nat) (v : Value) : RR (w.setCell ⟨b, i, none⟩ v) p l E :=
  h.of_block (Below.heap_setCell w _ v p hb)
theorem Sole.belowB {w w' : World} {p b : Nat} (h : Sole p w w') (hb : b ≤ p) (hz : b ≤ w.heap.size) : Below b w w' := ⟨h.os, h.tape, h.output, h.size, fun k hk => h.block k (by omega) (by omega)⟩
theorem Bk.sole {w w' : World} {p b : Nat} {cs : List Value} {t : TypeId} (h : Bk w b cs t) (hS : Sole p w w') (hb : b ≠ p) : Bk w' b cs t := (hS.block b h.lt hb).trans h
/-- a call of a function by its contract, as one step of a region that draws its order -/
theorem step_calls {P : Program} {ops : Array Oper} {o : Oper} {a : Act} {w : World} {K : Act → World → Prop} {Q : Exit → Act → World → Prop} {E : Prop} (hg : o.guard = none) (f : FuncId) (args : Array Value)
    (hrun : (execOp a.eval o).run P w = .ok (.enter f args) w) (post : Ending → World → Prop) (hC : Calls P f args w post) (h : ∀ e w', post e w' → ∃ v, e = .returned v ∧ K (a.put o.dst v) w') :
    if Region.wanted o (yielded ops a.tmps) = true then Oper.wp P o a w K Q else E := by
  have hw : Region.wanted o (yielded ops a.tmps) = true := by simp [Region.wanted, hg]
  rw [if_pos hw]
  unfold Oper.wp
  rw [hrun, Oper.upon_enter]
  refine hC.mono fun e w' hp => ?_
  obtain ⟨v, rfl, hk⟩ := h e w' hp
  exact hk
theorem info_int : ∃ i : TypeInfo, Tryz.prog.info? 3 = some i ∧ i.zero = some (.int .i64 0) ∧ i.size = 1 ∧ i.bytes = 8 :=
  ⟨(Tryz.prog.info? 3).getD default, by kernel_rfl, by kernel_rfl, by kernel_rfl, by kernel_rfl⟩
def intsV (gs : List Int) : List Value := gs.map fun g => .int .i64 g
theorem intsV_len (gs : List Int) : (intsV gs).length = gs.length := by simp [intsV]
/-- the numbers that a value of its own has -/
def OwnI (w : World) (base : Nat) (sl : Value) (gs : List Int) : Prop := w.ownsRow base 3 1 sl gs.length (intsV gs)
theorem OwnI.of_blocks {w w' : World} {base : Nat} {sl : Value} {gs : List Int} (h : OwnI w base sl gs) (hb : ∀ g, sl.ownBlock = some g → w'.heap[g]? = w.heap[g]?) : OwnI w' base sl gs := ownsRow_of_block h hb
theorem OwnI.nil (w : World) (base : Nat) : OwnI w base (.slice none 0 0) [] := World.ownsRow_nil _ _ _ _
theorem OwnI.form {w : World} {base : Nat} {sl : Value} {gs : List Int} (h : OwnI w base sl gs) : ∃ a cap, sl = .slice a gs.length cap := by
  rcases h.2 with ⟨rfl, h0⟩ | ⟨g, cap, cur, rfl, _⟩
  · exact ⟨none, 0, by rw [h0]⟩
  · exact ⟨_, cap, rfl⟩
theorem step_appI {ops : Array Oper} {o : Oper} {a : Act} {K : Act → World → Prop} {Q : Exit → Act → World → Prop} {E : Prop} (w : World) (hgd : o.guard = none) (s x : Operand) (ho : o.op = .call { callee := .builtin .append, args := #[s, x], argTypes := #[24, 24] })
    (base : Nat) (gs : List Int) (sl : Value) (hown : OwnI w base sl gs) (hs : a.eval s = sl) (hN : gs.length ≤ 1000000) (q : Nat) (g : Int) (hx : a.eval x = .slice (some ⟨q, 0, none⟩) 1 1)
    (hq : w.heap[q]? = some (.cells #[.int .i64 g] 3)) (hbase : base ≤ w.heap.size)
    (h : ∀ b cap w', OwnI w' base (.slice (some ⟨b, 0, none⟩) (gs.length + 1) cap) (gs ++ [g]) → w.grownBy w' sl.ownBlock → (sl.ownBlock = some b ∨ b = w.heap.size) → K (a.put o.dst (.slice (some ⟨b, 0, none⟩) (gs.length + 1) cap)) w') :
    if Region.wanted o (yielded ops a.tmps) = true then Oper.wp Tryz.prog o a w K Q else E := by
  obtain ⟨inf, hi1, hi2, hi3, hi4⟩ := info_int
  refine step_append_lies w hgd s x 24 ho base 3 inf _ 1 8 Tryz.underlying24 hi1 hi2 hi3 hi4 rfl (by decide) sl gs.length (intsV gs) hs hown ⟨q, 0, none⟩ 1 1 [.int .i64 g] hx rfl (World.news_of_block (cs := #[.int .i64 g]) (t := 3) (fr := (0, 0)) hq) (by simp [Value.oneCell']) (by decide) (by unfold maxLen; omega) (by omega) hbase _ rfl ?_
  intro b cap w' h1 h2 h3 _
  refine h b cap w' ?_ h2 h3
  show w'.ownsRow base _ 1 _ _ _
  rw [List.length_append, List.length_singleton, show intsV (gs ++ [g]) = intsV gs ++ [.int .i64 g] by simp [intsV]]
  exact h1
end Go.Proofs.YtfcbjcebkahehaaGreatDoor
