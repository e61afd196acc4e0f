/- errors.As at the layer's own error: Go's text of it, walked at a fault and at no error. errors.As at a fault: true, and the target has its number. What is wrong first: noting it, asking for it, its number; an error of a number. -/
import Derived.Test.YtlkhgnjljdbhnabGreatDoorWa
import Derived.WalkKit
import Derived.LaidEql
import Derived.Stop.Asserts
import Derived.RowKitTokens
import Derived.Below
namespace Go.Proofs.YtlkhgnjljdbhnabGreatDoor
open Go.RowKit Go.Extern.Stop Go.Stop Go.Extern
theorem as_nil (t : Value) (w : World) :
    Calls Tryz.prog 74 #[.nilIface, t] w fun e w' => e = .returned (.bool false) ∧ w' = w := by
  go_enter Tryz.func74, Tryz.ntmps74
  go_wp2
  go_ret
  exact ⟨rfl, rfl⟩

theorem xa_v134 (t : Addr) (w : World) : (ReflectliteValue.unpack (.iface 95 (.pointer (some t)))).run Tryz.prog w
    = .ok (.agg #[.pointer (some ⟨2, 95, none⟩), .pointer (some ⟨w.heap.size, 0, none⟩), .int .u64 150]) (w.alloc (.cells #[.pointer (some t)] 95)) := by kernel_rfl
theorem xa_type134 (a : Addr) (w : World) : (ReflectliteValue.methodAny (ReflectliteValue.valueError "reflectlite.Value.Type" 0) (fun t _ _ _ => ReflectliteType.toType t) #[.agg #[.pointer (some ⟨2, 95, none⟩), .pointer (some a), .int .u64 150]]).run Tryz.prog w
    = .ok (.iface 114 (.agg #[.pointer (some ⟨2, 95, none⟩)])) w := by kernel_rfl
theorem xa_kind134 (w : World) : ((ReflectliteType.abiMethod fun t => (fun a : Nat => Value.int IntKind.u8 (a : Int)) <$> Rtype.kind t) #[.pointer (some ⟨2, 95, none⟩)]).run Tryz.prog w = .ok (.int .u8 22) w := by kernel_rfl
theorem xa_kind132 (w : World) : ((ReflectliteType.abiMethod fun t => (fun a : Nat => Value.int IntKind.u8 (a : Int)) <$> Rtype.kind t) #[.pointer (some ⟨2, 80, none⟩)]).run Tryz.prog w = .ok (.int .u8 25) w := by kernel_rfl
theorem xa_parts134 (a : Addr) (w : World) : (ReflectliteValue.parts (.agg #[.pointer (some ⟨2, 95, none⟩), .pointer (some a), .int .u64 150])).run Tryz.prog w = .ok (some (95, a, 150)) w := by kernel_rfl
theorem xa_isNil134 (a p : Addr) (W : World) (ha : W.cell? a = some (.pointer (some p))) :
    (ReflectliteValue.method (ReflectliteValue.valueError "reflectlite.Value.IsNil" 0) ReflectliteValue.isNil #[.agg #[.pointer (some ⟨2, 95, none⟩), .pointer (some a), .int .u64 150]]).run Tryz.prog W = .ok (.bool false) W := by
  show (Bind.bind (ReflectliteValue.parts (.agg #[.pointer (some ⟨2, 95, none⟩), .pointer (some a), .int .u64 150])) _ : Sem Value).run Tryz.prog W = _
  simp only [Sem.run_bind, xa_parts134, Result.andThen]
  simp [ReflectliteValue.isNil, loadVar, isAgg, underlying, Tryz.underlying95, ha, Result.andThen]
theorem xa_elem134 (w : World) : (ReflectliteType.method ReflectliteType.elem #[.agg #[.pointer (some ⟨2, 95, none⟩)]]).run Tryz.prog w = .ok (.iface 114 (.agg #[.pointer (some ⟨2, 80, none⟩)])) w := by kernel_rfl
theorem xa_implements132 (w : World) : (ReflectliteType.relation "Implements" ReflectliteType.implements_ #[.agg #[.pointer (some ⟨2, 80, none⟩)], .iface 114 (.agg #[.pointer (some ⟨2, 48, none⟩)])]).run Tryz.prog w = .ok (.bool true) w := by kernel_rfl
theorem xa_typeOf132 (v : Value) (w : World) : (ReflectliteType.typeOf #[.iface 80 v]).run Tryz.prog w = .ok (.iface 114 (.agg #[.pointer (some ⟨2, 80, none⟩)])) w := by kernel_rfl
theorem xa_assignable132 (w : World) : (ReflectliteType.relation "AssignableTo" ReflectliteType.assignableTo #[.agg #[.pointer (some ⟨2, 80, none⟩)], .iface 114 (.agg #[.pointer (some ⟨2, 80, none⟩)])]).run Tryz.prog w = .ok (.bool true) w := by kernel_rfl
theorem xa_v132 (n : Int) (w : World) : (ReflectliteValue.unpack (.iface 80 (.agg #[.int .i64 n]))).run Tryz.prog w
    = .ok (.agg #[.pointer (some ⟨2, 80, none⟩), .pointer (some ⟨w.heap.size, 0, none⟩), .int .u64 153]) (w.alloc (.cells #[.int .i64 n] 80)) := by kernel_rfl
theorem xa_elemOf134 (w : World) : (Rtype.elem? 95).run Tryz.prog w = .ok (some 80) w := by kernel_rfl
theorem xa_mk132 (p : Addr) (w : World) : (ReflectliteValue.mk 80 p ReflectliteValue.flagAddr).run Tryz.prog w = .ok (.agg #[.pointer (some ⟨2, 80, none⟩), .pointer (some p), .int .u64 409]) w := by kernel_rfl
theorem xa_elemV134 (a p : Addr) (W : World) (ha : W.cell? a = some (.pointer (some p))) :
    (ReflectliteValue.method (ReflectliteValue.valueError "reflectlite.Value.Elem" 0) ReflectliteValue.elem #[.agg #[.pointer (some ⟨2, 95, none⟩), .pointer (some a), .int .u64 150]]).run Tryz.prog W
      = .ok (.agg #[.pointer (some ⟨2, 80, none⟩), .pointer (some p), .int .u64 409]) W := by
  show (Bind.bind (ReflectliteValue.parts (.agg #[.pointer (some ⟨2, 95, none⟩), .pointer (some a), .int .u64 150])) _ : Sem Value).run Tryz.prog W = _
  simp only [Sem.run_bind, xa_parts134, Result.andThen]
  simp [ReflectliteValue.elem, loadVar, isAgg, underlying, Tryz.underlying95, ha, Result.andThen, xa_elemOf134, xa_mk132]
theorem xa_parts132a (a : Addr) (w : World) : (ReflectliteValue.parts (.agg #[.pointer (some ⟨2, 80, none⟩), .pointer (some a), .int .u64 409])).run Tryz.prog w = .ok (some (80, a, 409)) w := by kernel_rfl
theorem xa_parts132 (a : Addr) (w : World) : (ReflectliteValue.parts (.agg #[.pointer (some ⟨2, 80, none⟩), .pointer (some a), .int .u64 153])).run Tryz.prog w = .ok (some (80, a, 153)) w := by kernel_rfl
theorem xa_direct132 (w : World) : (Rtype.directlyAssignable 80 80).run Tryz.prog w = .ok true w := by kernel_rfl
theorem xa_set132 (ta b : Addr) (n : Int) (old : Value) (W : World) (hb : W.cell? b = some (.int .i64 n)) (ht : W.cell? ta = some old) (hf : W.frozen? ta = false) :
    (ReflectliteValue.set #[.agg #[.pointer (some ⟨2, 80, none⟩), .pointer (some ta), .int .u64 409], .agg #[.pointer (some ⟨2, 80, none⟩), .pointer (some b), .int .u64 153]]).run Tryz.prog W
      = .ok (.tuple #[]) (W.setCell ta (.int .i64 n)) := by
  show (Bind.bind (ReflectliteValue.parts (.agg #[.pointer (some ⟨2, 80, none⟩), .pointer (some ta), .int .u64 409])) _ : Sem Value).run Tryz.prog W = _
  simp only [Sem.run_bind, xa_parts132a, Result.andThen]
  have hl := run_loadCells_list (P := Tryz.prog) W b [.int .i64 n] (fun j v hj => by
    cases j with
    | zero => cases hj; exact hb
    | succ j => cases hj)
  simp only [List.length_singleton] at hl
  simp [Array.getLit, xa_parts132, ReflectliteValue.flagAddr, loadVar, isAgg, underlying, Tryz.underlying80, Result.andThen, xa_direct132, storeVar, Value.cells, storeCells, Addr.add, hl]
  rw [run_store Tryz.prog W ta _ _ (by rfl)]
  simp [ht, hf]

theorem xa_mKind (h : Value) (w : World) : (Go.method 254 114 (.agg #[h]) "Kind").run Tryz.prog w = .ok (102, h) w := by kernel_rfl
theorem xa_mElem (h : Value) (w : World) : (Go.method 254 114 (.agg #[h]) "Elem").run Tryz.prog w = .ok (113, .agg #[h]) w := by kernel_rfl
theorem xa_mImpl (h : Value) (w : World) : (Go.method 254 114 (.agg #[h]) "Implements").run Tryz.prog w = .ok (114, .agg #[h]) w := by kernel_rfl
theorem xa_mAssg (h : Value) (w : World) : (Go.method 254 114 (.agg #[h]) "AssignableTo").run Tryz.prog w = .ok (111, .agg #[h]) w := by kernel_rfl


end Go.Proofs.YtlkhgnjljdbhnabGreatDoor
namespace Go.Proofs.YtlkhgnjljdbhnabGreatDoor
open Go.RowKit Go.Extern.Stop Go.Stop Go.Extern
/-- The blocks that errors.As lays. -/
def xaW (n : Int) (t : Addr) (w : World) : World :=
  (((w.alloc (.cells #[.pointer (some t)] 95)).alloc (.cells #[.pointer (some ⟨2, 95, none⟩), .pointer (some ⟨w.heap.size, 0, none⟩), .int .u64 150] 103)).alloc (.cells #[.pointer (some ⟨2, 95, none⟩), .pointer (some ⟨w.heap.size, 0, none⟩), .int .u64 150] 103)).alloc (.cells #[.int .i64 n] 80)

set_option maxRecDepth 4000 in
set_option maxHeartbeats 4000000 in
theorem as_hit (n : Int) (t : Addr) (old : Value) (w : World) (hg : w.cell? ⟨0, 0, none⟩ = some (.iface 114 (.agg #[.pointer (some ⟨2, 48, none⟩)]))) (ht0 : w.cell? t = some old) (hf0 : w.frozen? t = false) :
    Calls Tryz.prog 74 #[.iface 80 (.agg #[.int .i64 n]), .iface 95 (.pointer (some t))] w fun ev w' => ev = .returned (.bool true) ∧ w' = (xaW n t w).setCell t (.int .i64 n) := by
  unfold xaW
  have h138 := @run_callFunc_extern Tryz.prog 81 _ (fun args => ReflectliteValue.unpack (args.getD 0 (.tuple #[]))) Tryz.func81 (by kernel_rfl) (by kernel_rfl) (by kernel_rfl) (by kernel_rfl)
  have h139 := @run_callFunc_extern Tryz.prog 82 _ (ReflectliteValue.methodAny (ReflectliteValue.valueError "reflectlite.Value.Type" 0) (fun t _ _ _ => ReflectliteType.toType t)) Tryz.func82 (by kernel_rfl) (by kernel_rfl) (by kernel_rfl) (by kernel_rfl)
  have h140 := @run_callFunc_extern Tryz.prog 83 _ (ReflectliteValue.method (ReflectliteValue.valueError "reflectlite.Value.IsNil" 0) ReflectliteValue.isNil) Tryz.func83 (by kernel_rfl) (by kernel_rfl) (by kernel_rfl) (by kernel_rfl)
  have h186 := @run_callFunc_extern Tryz.prog 102 _ (ReflectliteType.abiMethod fun t => do pure (.int .u8 (← Rtype.kind t))) Tryz.func102 (by kernel_rfl) (by kernel_rfl) (by kernel_rfl) (by kernel_rfl)
  have h197 := @run_callFunc_extern Tryz.prog 113 _ (ReflectliteType.method ReflectliteType.elem) Tryz.func113 (by kernel_rfl) (by kernel_rfl) (by kernel_rfl) (by kernel_rfl)
  have h198 := @run_callFunc_extern Tryz.prog 114 _ (ReflectliteType.relation "Implements" ReflectliteType.implements_) Tryz.func114 (by kernel_rfl) (by kernel_rfl) (by kernel_rfl) (by kernel_rfl)
  have h152 := @run_callFunc_extern Tryz.prog 85 _ ReflectliteType.typeOf Tryz.func85 (by kernel_rfl) (by kernel_rfl) (by kernel_rfl) (by kernel_rfl)
  have h195 := @run_callFunc_extern Tryz.prog 111 _ (ReflectliteType.relation "AssignableTo" ReflectliteType.assignableTo) Tryz.func111 (by kernel_rfl) (by kernel_rfl) (by kernel_rfl) (by kernel_rfl)
  have h153 := @run_callFunc_extern Tryz.prog 86 _ (ReflectliteValue.method (ReflectliteValue.valueError "reflectlite.Value.Elem" 0) ReflectliteValue.elem) Tryz.func86 (by kernel_rfl) (by kernel_rfl) (by kernel_rfl) (by kernel_rfl)
  have h154 := @run_callFunc_extern Tryz.prog 87 _ ReflectliteValue.set Tryz.func87 (by kernel_rfl) (by kernel_rfl) (by kernel_rfl) (by kernel_rfl)
  have tO := xa_typeOf132
  have mA := xa_mAssg
  have a1 := xa_assignable132
  have v1 := xa_v132
  have v2 := xa_v134
  have t1 := xa_type134
  have mK := xa_mKind
  have mE := xa_mElem
  have mI := xa_mImpl
  have k1 := xa_kind134
  have k2 := xa_kind132
  have e1 := xa_elem134
  have i1 := xa_implements132
  have n8 := xa_isNil134 ⟨w.heap.size, 0, none⟩ t ((w.alloc (.cells #[.pointer (some t)] 95)).alloc (.cells #[.pointer (some ⟨2, 95, none⟩), .pointer (some ⟨w.heap.size, 0, none⟩), .int .u64 150] 103)) (by simp)
  have hlt : 0 < w.heap.size := by
    rcases Nat.lt_or_ge 0 w.heap.size with h | h
    · exact h
    · simp [World.cell?, Array.getElem?_eq_none h] at hg
  have hg2 : ((w.alloc (.cells #[.pointer (some t)] 95)).alloc (.cells #[.pointer (some ⟨2, 95, none⟩), .pointer (some ⟨w.heap.size, 0, none⟩), .int .u64 150] 103)).cell? ⟨0, 0, none⟩ = some (.iface 114 (.agg #[.pointer (some ⟨2, 48, none⟩)])) := by
    rw [World.cell?_alloc_lt _ _ ⟨0, 0, none⟩ (by simp <;> omega), World.cell?_alloc_lt _ _ ⟨0, 0, none⟩ hlt]; exact hg
  have htl : t.block < w.heap.size := by
    rcases Nat.lt_or_ge t.block w.heap.size with h | h
    · exact h
    · simp [World.cell?, Array.getElem?_eq_none h] at ht0
  have el := xa_elemV134 ⟨w.heap.size, 0, none⟩ t (((w.alloc (.cells #[.pointer (some t)] 95)).alloc (.cells #[.pointer (some ⟨2, 95, none⟩), .pointer (some ⟨w.heap.size, 0, none⟩), .int .u64 150] 103)).alloc (.cells #[.pointer (some ⟨2, 95, none⟩), .pointer (some ⟨w.heap.size, 0, none⟩), .int .u64 150] 103))
    (by rw [World.cell?_alloc_lt _ _ ⟨w.heap.size, 0, none⟩ (by simp <;> omega), World.cell?_alloc_lt _ _ ⟨w.heap.size, 0, none⟩ (by simp), World.cell?_alloc_new]; rfl)
  have st := xa_set132 t ⟨w.heap.size + 1 + 1 + 1, 0, none⟩ n old ((((w.alloc (.cells #[.pointer (some t)] 95)).alloc (.cells #[.pointer (some ⟨2, 95, none⟩), .pointer (some ⟨w.heap.size, 0, none⟩), .int .u64 150] 103)).alloc (.cells #[.pointer (some ⟨2, 95, none⟩), .pointer (some ⟨w.heap.size, 0, none⟩), .int .u64 150] 103)).alloc (.cells #[.int .i64 n] 80))
    (by rw [World.cell?_alloc_at _ _ _ _ (by simp)]; rfl)
    (by rw [World.cell?_alloc_lt _ _ t (by simp <;> omega), World.cell?_alloc_lt _ _ t (by simp <;> omega), World.cell?_alloc_lt _ _ t (by simp <;> omega), World.cell?_alloc_lt _ _ t htl]; exact ht0)
    (by rw [World.frozen?_alloc_old _ _ t (by simp <;> omega), World.frozen?_alloc_old _ _ t (by simp <;> omega), World.frozen?_alloc_old _ _ t (by simp <;> omega), World.frozen?_alloc_old _ _ t (Nat.ne_of_lt htl)]; exact hf0)
  go_enter Tryz.func74, Tryz.ntmps74
  go_wp2
  refine wp_loop_rounds 1 ?_
  rw [rounds_succ]
  go_wp2
  go_ret
  exact ⟨rfl, rfl⟩

end Go.Proofs.YtlkhgnjljdbhnabGreatDoor
namespace Go.Proofs.YtlkhgnjljdbhnabGreatDoor
open Go.RowKit Go.Extern.Stop Go.Stop Go.Extern
/-- What a trouble's cell holds: nothing wrong, or the error of a number. -/
def trV (e : Int) : Value := if e = 0 then .nilIface else .iface 80 (.agg #[.int .i64 e])

theorem eql_iface (v : Value) (w : World) : (binOp .eql 48 (.iface 80 v) .nilIface).run Tryz.prog w = .ok (.bool false) w := by kernel_rfl
theorem neq_iface (v : Value) (w : World) : (binOp .neq 48 (.iface 80 v) .nilIface).run Tryz.prog w = .ok (.bool true) w := by kernel_rfl

theorem faultOf_zero (w : World) : Calls Tryz.prog 73 #[.int .i64 0] w fun e w' => e = .returned (trV 0) ∧ w' = w := by
  go_enter Tryz.func73, Tryz.ntmps73
  go_wp2
  go_ret
  exact ⟨rfl, rfl⟩
theorem faultOf_other (e : Int) (w : World) (h : e ≠ 0) : Calls Tryz.prog 73 #[.int .i64 e] w fun r w' => r = .returned (trV e) ∧ w' = w := by
  have hb : (e == 0) = false := beq_eq_false_iff_ne.2 h
  have hT : Hid (trV e = .iface 80 (.agg #[.int .i64 e])) := by show trV e = _; unfold trV; rw [if_neg h]
  clear h
  rw [hT.out]
  go_enter Tryz.func73, Tryz.ntmps73
  go_wp2
  go_ret
  exact ⟨rfl, rfl⟩
theorem faultOf_any (e : Int) (w : World) : Calls Tryz.prog 73 #[.int .i64 e] w fun r w' => r = .returned (trV e) ∧ w' = w := by
  by_cases h : e = 0
  · subst h; exact faultOf_zero w
  · exact faultOf_other e w h

theorem note_nil (tp : Addr) (w : World) (hc : w.cell? tp = some .nilIface) (hf : w.frozen? tp = false) :
    Calls Tryz.prog 72 #[.pointer (some tp), .nilIface] w fun r w' => r = .returned (.tuple #[]) ∧ w' = w.setCell tp .nilIface := by
  go_enter Tryz.func72, Tryz.ntmps72
  go_wp2
  first | go_end0 | refine bodyPost_ret (results_none rfl _ _ _) rfl ?_
  exact ⟨rfl, rfl⟩
theorem note_fault (tp : Addr) (x : Int) (w : World) (hc : w.cell? tp = some .nilIface) (hf : w.frozen? tp = false) :
    Calls Tryz.prog 72 #[.pointer (some tp), .iface 80 (.agg #[.int .i64 x])] w fun r w' => r = .returned (.tuple #[]) ∧ w' = w.setCell tp (.iface 80 (.agg #[.int .i64 x])) := by
  go_enter Tryz.func72, Tryz.ntmps72
  go_wp2
  first | go_end0 | refine bodyPost_ret (results_none rfl _ _ _) rfl ?_
  exact ⟨rfl, rfl⟩
theorem note_first (tp : Addr) (e : Int) (w : World) (hc : w.cell? tp = some (trV 0)) (hf : w.frozen? tp = false) :
    Calls Tryz.prog 72 #[.pointer (some tp), trV e] w fun r w' => r = .returned (.tuple #[]) ∧ w' = w.setCell tp (trV e) := by
  have hc2 : w.cell? tp = some .nilIface := hc
  unfold trV
  by_cases h : e = 0
  · rw [if_pos h]; exact note_nil tp w hc2 hf
  · rw [if_neg h]; exact note_fault tp e w hc2 hf
theorem note_later (tp : Addr) (v x : Value) (w : World) (hc : w.cell? tp = some (.iface 80 x)) :
    Calls Tryz.prog 72 #[.pointer (some tp), v] w fun r w' => r = .returned (.tuple #[]) ∧ w' = w := by
  have q := eql_iface x
  go_enter Tryz.func72, Tryz.ntmps72
  go_wp2
  first | go_end0 | refine bodyPost_ret (results_none rfl _ _ _) rfl ?_
  exact ⟨rfl, rfl⟩
theorem any_no (tp : Addr) (w : World) (hc : w.cell? tp = some .nilIface) : Calls Tryz.prog 47 #[.pointer (some tp)] w fun r w' => r = .returned (.bool false) ∧ w' = w := by
  go_enter Tryz.func47, Tryz.ntmps47
  go_wp2
  go_ret
  exact ⟨rfl, rfl⟩
theorem any_yes (tp : Addr) (x : Value) (w : World) (hc : w.cell? tp = some (.iface 80 x)) : Calls Tryz.prog 47 #[.pointer (some tp)] w fun r w' => r = .returned (.bool true) ∧ w' = w := by
  have q := neq_iface x
  go_enter Tryz.func47, Tryz.ntmps47
  go_wp2
  go_ret
  exact ⟨rfl, rfl⟩
theorem any_any (tp : Addr) (e : Int) (w : World) (hc : w.cell? tp = some (trV e)) : Calls Tryz.prog 47 #[.pointer (some tp)] w fun r w' => r = .returned (.bool (e != 0)) ∧ w' = w := by
  unfold trV at hc
  by_cases h : e = 0
  · rw [if_pos h] at hc; subst h; exact any_no tp w hc
  · rw [if_neg h] at hc
    have : (e != 0) = true := by rw [bne_iff_ne]; exact h
    rw [this]; exact any_yes tp _ w hc

set_option maxHeartbeats 1000000 in
theorem number_no (tp : Addr) (w : World) (hc : w.cell? tp = some .nilIface) : Calls Tryz.prog 46 #[.pointer (some tp)] w fun r w' => r = .returned (.int .i64 0) ∧ Below w.heap.size w w' := by
  have hlt : tp.block < w.heap.size := by
    rcases Nat.lt_or_ge tp.block w.heap.size with h | h
    · exact h
    · simp [World.cell?, Array.getElem?_eq_none h] at hc
  have hc2 : ∀ o, (w.alloc o).cell? tp = some .nilIface := fun o => by rw [World.cell?_alloc_lt _ _ tp hlt]; exact hc
  go_enter Tryz.func46, Tryz.ntmps46
  go_wp2_with (go_at_call 74; refine (as_nil _ _).mono ?_; rintro e w' ⟨rfl, rfl⟩)
  go_ret
  exact ⟨rfl, (Below.refl _ _).alloc (Nat.le_refl _) _⟩

/-- The variable that the layer's own look leans on: the type of errors. -/
def ErrT (w : World) : Prop := w.cell? ⟨0, 0, none⟩ = some (.iface 114 (.agg #[.pointer (some ⟨2, 48, none⟩)]))
theorem ErrT.size {w : World} (h : ErrT w) : 0 < w.heap.size := by
  rcases Nat.lt_or_ge 0 w.heap.size with h1 | h1
  · exact h1
  · unfold ErrT at h
    simp [World.cell?, Array.getElem?_eq_none h1] at h
theorem ErrT.below {w w' : World} (h : ErrT w) (hb : Below w.heap.size w w') : ErrT w' := by
  have hs := h.size
  unfold ErrT at *
  rw [hb.cell (p := ⟨0, 0, none⟩) (show 0 < w.heap.size from hs)]
  exact h

set_option maxHeartbeats 1000000 in
theorem number_yes (tp : Addr) (x : Int) (w : World) (hE : ErrT w) (hc : w.cell? tp = some (.iface 80 (.agg #[.int .i64 x]))) : Calls Tryz.prog 46 #[.pointer (some tp)] w fun r w' => r = .returned (.int .i64 x) ∧ Below w.heap.size w w' := by
  have hlt : tp.block < w.heap.size := by
    rcases Nat.lt_or_ge tp.block w.heap.size with h | h
    · exact h
    · simp [World.cell?, Array.getElem?_eq_none h] at hc
  have hc2 : ∀ o, (w.alloc o).cell? tp = some (.iface 80 (.agg #[.int .i64 x])) := fun o => by rw [World.cell?_alloc_lt _ _ tp hlt]; exact hc
  have h1 : Hid ((w.alloc (.cells #[.int .i64 0] 80)).cell? ⟨w.heap.size, 0, none⟩ = some (.int .i64 0)) := World.cell?_alloc_new w _ _ 0
  have h2 : Hid ((w.alloc (.cells #[.int .i64 0] 80)).frozen? ⟨w.heap.size, 0, none⟩ = false) := World.frozen?_alloc_new _ _ _ _
  have hE2 : Hid (ErrT (w.alloc (.cells #[.int .i64 0] 80))) := hE.below ((Below.refl _ _).alloc (Nat.le_refl _) _)
  have hcell : Hid (((xaW x ⟨w.heap.size, 0, none⟩ (w.alloc (.cells #[.int .i64 0] 80))).setCell ⟨w.heap.size, 0, none⟩ (.int .i64 x)).cell? ⟨w.heap.size, 0, none⟩ = some (.int .i64 x)) := by
    suffices h0 : (xaW x ⟨w.heap.size, 0, none⟩ (w.alloc (.cells #[.int .i64 0] 80))).cell? ⟨w.heap.size, 0, none⟩ = some (.int .i64 0) from World.cell?_setCell_same _ _ _ h0
    unfold xaW
    rw [World.cell?_alloc_lt _ _ ⟨w.heap.size, 0, none⟩ (by simp; omega), World.cell?_alloc_lt _ _ ⟨w.heap.size, 0, none⟩ (by simp; omega), World.cell?_alloc_lt _ _ ⟨w.heap.size, 0, none⟩ (by simp; omega), World.cell?_alloc_lt _ _ ⟨w.heap.size, 0, none⟩ (by simp)]
    exact h1.out
  have hB : Hid (Below w.heap.size w ((xaW x ⟨w.heap.size, 0, none⟩ (w.alloc (.cells #[.int .i64 0] 80))).setCell ⟨w.heap.size, 0, none⟩ (.int .i64 x))) := by
    show Below w.heap.size w _
    unfold xaW
    refine Below.setCell (p := ⟨w.heap.size, 0, none⟩) ?_ (Nat.le_refl _) _
    refine Below.alloc (Below.alloc (Below.alloc (Below.alloc (Below.alloc (Below.refl _ _) (Nat.le_refl _) _) ?_ _) ?_ _) ?_ _) ?_ _ <;> simp <;> omega
  clear hE
  go_enter Tryz.func46, Tryz.ntmps46
  go_wp2_with fail
  refine (as_hit x ⟨w.heap.size, 0, none⟩ (.int .i64 0) _ hE2.out h1.out h2.out).mono ?_
  rintro e w' ⟨rfl, hw⟩
  have hcl := hcell.out
  have hbl := hB
  rw [← hw] at hcl hbl
  clear hw hB hcell h1 h2 hE2 hc2
  go_wp2
  go_ret
  exact ⟨rfl, hbl.out⟩

theorem number_any (tp : Addr) (x : Int) (w : World) (hE : ErrT w) (hc : w.cell? tp = some (trV x)) : Calls Tryz.prog 46 #[.pointer (some tp)] w fun r w' => r = .returned (.int .i64 x) ∧ Below w.heap.size w w' := by
  unfold trV at hc
  by_cases h : x = 0
  · rw [if_pos h] at hc; subst h; exact number_no tp w hc
  · rw [if_neg h] at hc; exact number_yes tp x w hE hc


end Go.Proofs.YtlkhgnjljdbhnabGreatDoor
