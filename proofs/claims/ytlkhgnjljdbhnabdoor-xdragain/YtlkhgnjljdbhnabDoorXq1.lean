/- errors.As at the layer's own error: Go's text of it, walked at a fault and at no error. errors.As at a fault: true, and the target has its number. What is wrong first: noting it, asking for it, its number; an error of a number. -/
import Derived.Test.YtlkhgnjljdbhnabDoorWa
import Derived.WalkKit
import Derived.LaidEql
import Derived.Stop.Asserts
import Derived.RowKitTokens
import Derived.Below
namespace Go.Proofs.YtlkhgnjljdbhnabDoor
open Go.RowKit Go.Extern.Stop Go.Stop Go.Extern
theorem as_nil (t : Value) (w : World) :
    Calls Tryd.prog 60 #[.nilIface, t] w fun e w' => e = .returned (.bool false) ∧ w' = w := by
  go_enter Tryd.func60, Tryd.ntmps60
  go_wp2
  go_ret
  exact ⟨rfl, rfl⟩

theorem xa_v134 (t : Addr) (w : World) : (ReflectliteValue.unpack (.iface 93 (.pointer (some t)))).run Tryd.prog w
    = .ok (.agg #[.pointer (some ⟨2, 93, none⟩), .pointer (some ⟨w.heap.size, 0, none⟩), .int .u64 150]) (w.alloc (.cells #[.pointer (some t)] 93)) := by kernel_rfl
theorem xa_type134 (a : Addr) (w : World) : (ReflectliteValue.methodAny (ReflectliteValue.valueError "reflectlite.Value.Type" 0) (fun t _ _ _ => ReflectliteType.toType t) #[.agg #[.pointer (some ⟨2, 93, none⟩), .pointer (some a), .int .u64 150]]).run Tryd.prog w
    = .ok (.iface 115 (.agg #[.pointer (some ⟨2, 93, none⟩)])) w := by kernel_rfl
theorem xa_kind134 (w : World) : ((ReflectliteType.abiMethod fun t => (fun a : Nat => Value.int IntKind.u8 (a : Int)) <$> Rtype.kind t) #[.pointer (some ⟨2, 93, none⟩)]).run Tryd.prog w = .ok (.int .u8 22) w := by kernel_rfl
theorem xa_kind132 (w : World) : ((ReflectliteType.abiMethod fun t => (fun a : Nat => Value.int IntKind.u8 (a : Int)) <$> Rtype.kind t) #[.pointer (some ⟨2, 91, none⟩)]).run Tryd.prog w = .ok (.int .u8 25) w := by kernel_rfl
theorem xa_parts134 (a : Addr) (w : World) : (ReflectliteValue.parts (.agg #[.pointer (some ⟨2, 93, none⟩), .pointer (some a), .int .u64 150])).run Tryd.prog w = .ok (some (93, a, 150)) w := by kernel_rfl
theorem xa_isNil134 (a p : Addr) (W : World) (ha : W.cell? a = some (.pointer (some p))) :
    (ReflectliteValue.method (ReflectliteValue.valueError "reflectlite.Value.IsNil" 0) ReflectliteValue.isNil #[.agg #[.pointer (some ⟨2, 93, none⟩), .pointer (some a), .int .u64 150]]).run Tryd.prog W = .ok (.bool false) W := by
  show (Bind.bind (ReflectliteValue.parts (.agg #[.pointer (some ⟨2, 93, none⟩), .pointer (some a), .int .u64 150])) _ : Sem Value).run Tryd.prog W = _
  simp only [Sem.run_bind, xa_parts134, Result.andThen]
  simp [ReflectliteValue.isNil, loadVar, isAgg, underlying, Tryd.underlying93, ha, Result.andThen]
theorem xa_elem134 (w : World) : (ReflectliteType.method ReflectliteType.elem #[.agg #[.pointer (some ⟨2, 93, none⟩)]]).run Tryd.prog w = .ok (.iface 115 (.agg #[.pointer (some ⟨2, 91, none⟩)])) w := by kernel_rfl
theorem xa_implements132 (w : World) : (ReflectliteType.relation "Implements" ReflectliteType.implements_ #[.agg #[.pointer (some ⟨2, 91, none⟩)], .iface 115 (.agg #[.pointer (some ⟨2, 54, none⟩)])]).run Tryd.prog w = .ok (.bool true) w := by kernel_rfl
theorem xa_typeOf132 (v : Value) (w : World) : (ReflectliteType.typeOf #[.iface 91 v]).run Tryd.prog w = .ok (.iface 115 (.agg #[.pointer (some ⟨2, 91, none⟩)])) w := by kernel_rfl
theorem xa_assignable132 (w : World) : (ReflectliteType.relation "AssignableTo" ReflectliteType.assignableTo #[.agg #[.pointer (some ⟨2, 91, none⟩)], .iface 115 (.agg #[.pointer (some ⟨2, 91, none⟩)])]).run Tryd.prog w = .ok (.bool true) w := by kernel_rfl
theorem xa_v132 (n : Int) (w : World) : (ReflectliteValue.unpack (.iface 91 (.agg #[.int .i64 n]))).run Tryd.prog w
    = .ok (.agg #[.pointer (some ⟨2, 91, none⟩), .pointer (some ⟨w.heap.size, 0, none⟩), .int .u64 153]) (w.alloc (.cells #[.int .i64 n] 91)) := by kernel_rfl
theorem xa_elemOf134 (w : World) : (Rtype.elem? 93).run Tryd.prog w = .ok (some 91) w := by kernel_rfl
theorem xa_mk132 (p : Addr) (w : World) : (ReflectliteValue.mk 91 p ReflectliteValue.flagAddr).run Tryd.prog w = .ok (.agg #[.pointer (some ⟨2, 91, none⟩), .pointer (some p), .int .u64 409]) w := by kernel_rfl
theorem xa_elemV134 (a p : Addr) (W : World) (ha : W.cell? a = some (.pointer (some p))) :
    (ReflectliteValue.method (ReflectliteValue.valueError "reflectlite.Value.Elem" 0) ReflectliteValue.elem #[.agg #[.pointer (some ⟨2, 93, none⟩), .pointer (some a), .int .u64 150]]).run Tryd.prog W
      = .ok (.agg #[.pointer (some ⟨2, 91, none⟩), .pointer (some p), .int .u64 409]) W := by
  show (Bind.bind (ReflectliteValue.parts (.agg #[.pointer (some ⟨2, 93, none⟩), .pointer (some a), .int .u64 150])) _ : Sem Value).run Tryd.prog W = _
  simp only [Sem.run_bind, xa_parts134, Result.andThen]
  simp [ReflectliteValue.elem, loadVar, isAgg, underlying, Tryd.underlying93, ha, Result.andThen, xa_elemOf134, xa_mk132]
theorem xa_parts132a (a : Addr) (w : World) : (ReflectliteValue.parts (.agg #[.pointer (some ⟨2, 91, none⟩), .pointer (some a), .int .u64 409])).run Tryd.prog w = .ok (some (91, a, 409)) w := by kernel_rfl
theorem xa_parts132 (a : Addr) (w : World) : (ReflectliteValue.parts (.agg #[.pointer (some ⟨2, 91, none⟩), .pointer (some a), .int .u64 153])).run Tryd.prog w = .ok (some (91, a, 153)) w := by kernel_rfl
theorem xa_direct132 (w : World) : (Rtype.directlyAssignable 91 91).run Tryd.prog w = .ok true w := by kernel_rfl
theorem xa_set132 (ta b : Addr) (n : Int) (old : Value) (W : World) (hb : W.cell? b = some (.int .i64 n)) (ht : W.cell? ta = some old) (hf : W.frozen? ta = false) :
    (ReflectliteValue.set #[.agg #[.pointer (some ⟨2, 91, none⟩), .pointer (some ta), .int .u64 409], .agg #[.pointer (some ⟨2, 91, none⟩), .pointer (some b), .int .u64 153]]).run Tryd.prog W
      = .ok (.tuple #[]) (W.setCell ta (.int .i64 n)) := by
  show (Bind.bind (ReflectliteValue.parts (.agg #[.pointer (some ⟨2, 91, none⟩), .pointer (some ta), .int .u64 409])) _ : Sem Value).run Tryd.prog W = _
  simp only [Sem.run_bind, xa_parts132a, Result.andThen]
  have hl := run_loadCells_list (P := Tryd.prog) W b [.int .i64 n] (fun j v hj => by
    cases j with
    | zero => cases hj; exact hb
    | succ j => cases hj)
  simp only [List.length_singleton] at hl
  simp [Array.getLit, xa_parts132, ReflectliteValue.flagAddr, loadVar, isAgg, underlying, Tryd.underlying91, Result.andThen, xa_direct132, storeVar, Value.cells, storeCells, Addr.add, hl]
  rw [run_store Tryd.prog W ta _ _ (by rfl)]
  simp [ht, hf]

theorem xa_mKind (h : Value) (w : World) : (Go.method 254 115 (.agg #[h]) "Kind").run Tryd.prog w = .ok (91, h) w := by kernel_rfl
theorem xa_mElem (h : Value) (w : World) : (Go.method 254 115 (.agg #[h]) "Elem").run Tryd.prog w = .ok (101, .agg #[h]) w := by kernel_rfl
theorem xa_mImpl (h : Value) (w : World) : (Go.method 254 115 (.agg #[h]) "Implements").run Tryd.prog w = .ok (102, .agg #[h]) w := by kernel_rfl
theorem xa_mAssg (h : Value) (w : World) : (Go.method 254 115 (.agg #[h]) "AssignableTo").run Tryd.prog w = .ok (99, .agg #[h]) w := by kernel_rfl


end Go.Proofs.YtlkhgnjljdbhnabDoor
namespace Go.Proofs.YtlkhgnjljdbhnabDoor
open Go.RowKit Go.Extern.Stop Go.Stop Go.Extern
/-- The blocks that errors.As lays. -/
def xaW (n : Int) (t : Addr) (w : World) : World :=
  (((w.alloc (.cells #[.pointer (some t)] 93)).alloc (.cells #[.pointer (some ⟨2, 93, none⟩), .pointer (some ⟨w.heap.size, 0, none⟩), .int .u64 150] 104)).alloc (.cells #[.pointer (some ⟨2, 93, none⟩), .pointer (some ⟨w.heap.size, 0, none⟩), .int .u64 150] 104)).alloc (.cells #[.int .i64 n] 91)

set_option maxRecDepth 4000 in
set_option maxHeartbeats 4000000 in
theorem as_hit (n : Int) (t : Addr) (old : Value) (w : World) (hg : w.cell? ⟨0, 0, none⟩ = some (.iface 115 (.agg #[.pointer (some ⟨2, 54, none⟩)]))) (ht0 : w.cell? t = some old) (hf0 : w.frozen? t = false) :
    Calls Tryd.prog 60 #[.iface 91 (.agg #[.int .i64 n]), .iface 93 (.pointer (some t))] w fun ev w' => ev = .returned (.bool true) ∧ w' = (xaW n t w).setCell t (.int .i64 n) := by
  unfold xaW
  have h138 := @run_callFunc_extern Tryd.prog 70 _ (fun args => ReflectliteValue.unpack (args.getD 0 (.tuple #[]))) Tryd.func70 (by kernel_rfl) (by kernel_rfl) (by kernel_rfl) (by kernel_rfl)
  have h139 := @run_callFunc_extern Tryd.prog 71 _ (ReflectliteValue.methodAny (ReflectliteValue.valueError "reflectlite.Value.Type" 0) (fun t _ _ _ => ReflectliteType.toType t)) Tryd.func71 (by kernel_rfl) (by kernel_rfl) (by kernel_rfl) (by kernel_rfl)
  have h140 := @run_callFunc_extern Tryd.prog 72 _ (ReflectliteValue.method (ReflectliteValue.valueError "reflectlite.Value.IsNil" 0) ReflectliteValue.isNil) Tryd.func72 (by kernel_rfl) (by kernel_rfl) (by kernel_rfl) (by kernel_rfl)
  have h186 := @run_callFunc_extern Tryd.prog 91 _ (ReflectliteType.abiMethod fun t => do pure (.int .u8 (← Rtype.kind t))) Tryd.func91 (by kernel_rfl) (by kernel_rfl) (by kernel_rfl) (by kernel_rfl)
  have h197 := @run_callFunc_extern Tryd.prog 101 _ (ReflectliteType.method ReflectliteType.elem) Tryd.func101 (by kernel_rfl) (by kernel_rfl) (by kernel_rfl) (by kernel_rfl)
  have h198 := @run_callFunc_extern Tryd.prog 102 _ (ReflectliteType.relation "Implements" ReflectliteType.implements_) Tryd.func102 (by kernel_rfl) (by kernel_rfl) (by kernel_rfl) (by kernel_rfl)
  have h152 := @run_callFunc_extern Tryd.prog 74 _ ReflectliteType.typeOf Tryd.func74 (by kernel_rfl) (by kernel_rfl) (by kernel_rfl) (by kernel_rfl)
  have h195 := @run_callFunc_extern Tryd.prog 99 _ (ReflectliteType.relation "AssignableTo" ReflectliteType.assignableTo) Tryd.func99 (by kernel_rfl) (by kernel_rfl) (by kernel_rfl) (by kernel_rfl)
  have h153 := @run_callFunc_extern Tryd.prog 75 _ (ReflectliteValue.method (ReflectliteValue.valueError "reflectlite.Value.Elem" 0) ReflectliteValue.elem) Tryd.func75 (by kernel_rfl) (by kernel_rfl) (by kernel_rfl) (by kernel_rfl)
  have h154 := @run_callFunc_extern Tryd.prog 76 _ ReflectliteValue.set Tryd.func76 (by kernel_rfl) (by kernel_rfl) (by kernel_rfl) (by kernel_rfl)
  have tO := xa_typeOf132
  have mA := xa_mAssg
  have a1 := xa_assignable132
  have v1 := xa_v132
  have v2 := xa_v134
  have t1 := xa_type134
  have mK := xa_mKind
  have mE := xa_mElem
  have mI := xa_mImpl
  have k1 := xa_kind134
  have k2 := xa_kind132
  have e1 := xa_elem134
  have i1 := xa_implements132
  have n8 := xa_isNil134 ⟨w.heap.size, 0, none⟩ t ((w.alloc (.cells #[.pointer (some t)] 93)).alloc (.cells #[.pointer (some ⟨2, 93, none⟩), .pointer (some ⟨w.heap.size, 0, none⟩), .int .u64 150] 104)) (by simp)
  have hlt : 0 < w.heap.size := by
    rcases Nat.lt_or_ge 0 w.heap.size with h | h
    · exact h
    · simp [World.cell?, Array.getElem?_eq_none h] at hg
  have hg2 : ((w.alloc (.cells #[.pointer (some t)] 93)).alloc (.cells #[.pointer (some ⟨2, 93, none⟩), .pointer (some ⟨w.heap.size, 0, none⟩), .int .u64 150] 104)).cell? ⟨0, 0, none⟩ = some (.iface 115 (.agg #[.pointer (some ⟨2, 54, none⟩)])) := by
    rw [World.cell?_alloc_lt _ _ ⟨0, 0, none⟩ (by simp <;> omega), World.cell?_alloc_lt _ _ ⟨0, 0, none⟩ hlt]; exact hg
  have htl : t.block < w.heap.size := by
    rcases Nat.lt_or_ge t.block w.heap.size with h | h
    · exact h
    · simp [World.cell?, Array.getElem?_eq_none h] at ht0
  have el := xa_elemV134 ⟨w.heap.size, 0, none⟩ t (((w.alloc (.cells #[.pointer (some t)] 93)).alloc (.cells #[.pointer (some ⟨2, 93, none⟩), .pointer (some ⟨w.heap.size, 0, none⟩), .int .u64 150] 104)).alloc (.cells #[.pointer (some ⟨2, 93, none⟩), .pointer (some ⟨w.heap.size, 0, none⟩), .int .u64 150] 104))
    (by rw [World.cell?_alloc_lt _ _ ⟨w.heap.size, 0, none⟩ (by simp <;> omega), World.cell?_alloc_lt _ _ ⟨w.heap.size, 0, none⟩ (by simp), World.cell?_alloc_new]; rfl)
  have st := xa_set132 t ⟨w.heap.size + 1 + 1 + 1, 0, none⟩ n old ((((w.alloc (.cells #[.pointer (some t)] 93)).alloc (.cells #[.pointer (some ⟨2, 93, none⟩), .pointer (some ⟨w.heap.size, 0, none⟩), .int .u64 150] 104)).alloc (.cells #[.pointer (some ⟨2, 93, none⟩), .pointer (some ⟨w.heap.size, 0, none⟩), .int .u64 150] 104)).alloc (.cells #[.int .i64 n] 91))
    (by rw [World.cell?_alloc_at _ _ _ _ (by simp)]; rfl)
    (by rw [World.cell?_alloc_lt _ _ t (by simp <;> omega), World.cell?_alloc_lt _ _ t (by simp <;> omega), World.cell?_alloc_lt _ _ t (by simp <;> omega), World.cell?_alloc_lt _ _ t htl]; exact ht0)
    (by rw [World.frozen?_alloc_old _ _ t (by simp <;> omega), World.frozen?_alloc_old _ _ t (by simp <;> omega), World.frozen?_alloc_old _ _ t (by simp <;> omega), World.frozen?_alloc_old _ _ t (Nat.ne_of_lt htl)]; exact hf0)
  go_enter Tryd.func60, Tryd.ntmps60
  go_wp2
  refine wp_loop_rounds 1 ?_
  rw [rounds_succ]
  go_wp2
  go_ret
  exact ⟨rfl, rfl⟩

end Go.Proofs.YtlkhgnjljdbhnabDoor
namespace Go.Proofs.YtlkhgnjljdbhnabDoor
open Go.RowKit Go.Extern.Stop Go.Stop Go.Extern
/-- What a trouble's cell holds: nothing wrong, or the error of a number. -/
def trV (e : Int) : Value := if e = 0 then .nilIface else .iface 91 (.agg #[.int .i64 e])

theorem eql_iface (v : Value) (w : World) : (binOp .eql 54 (.iface 91 v) .nilIface).run Tryd.prog w = .ok (.bool false) w := by kernel_rfl
theorem neq_iface (v : Value) (w : World) : (binOp .neq 54 (.iface 91 v) .nilIface).run Tryd.prog w = .ok (.bool true) w := by kernel_rfl

theorem faultOf_zero (w : World) : Calls Tryd.prog 65 #[.int .i64 0] w fun e w' => e = .returned (trV 0) ∧ w' = w := by
  go_enter Tryd.func65, Tryd.ntmps65
  go_wp2
  go_ret
  exact ⟨rfl, rfl⟩
theorem faultOf_other (e : Int) (w : World) (h : e ≠ 0) : Calls Tryd.prog 65 #[.int .i64 e] w fun r w' => r = .returned (trV e) ∧ w' = w := by
  have hb : (e == 0) = false := beq_eq_false_iff_ne.2 h
  have hT : Hid (trV e = .iface 91 (.agg #[.int .i64 e])) := by show trV e = _; unfold trV; rw [if_neg h]
  clear h
  rw [hT.out]
  go_enter Tryd.func65, Tryd.ntmps65
  go_wp2
  go_ret
  exact ⟨rfl, rfl⟩
theorem faultOf_any (e : Int) (w : World) : Calls Tryd.prog 65 #[.int .i64 e] w fun r w' => r = .returned (trV e) ∧ w' = w := by
  by_cases h : e = 0
  · subst h; exact faultOf_zero w
  · exact faultOf_other e w h

theorem note_nil (tp : Addr) (w : World) (hc : w.cell? tp = some .nilIface) (hf : w.frozen? tp = false) :
    Calls Tryd.prog 63 #[.pointer (some tp), .nilIface] w fun r w' => r = .returned (.tuple #[]) ∧ w' = w.setCell tp .nilIface := by
  go_enter Tryd.func63, Tryd.ntmps63
  go_wp2
  first | go_end0 | refine bodyPost_ret (results_none rfl _ _ _) rfl ?_
  exact ⟨rfl, rfl⟩
theorem note_fault (tp : Addr) (x : Int) (w : World) (hc : w.cell? tp = some .nilIface) (hf : w.frozen? tp = false) :
    Calls Tryd.prog 63 #[.pointer (some tp), .iface 91 (.agg #[.int .i64 x])] w fun r w' => r = .returned (.tuple #[]) ∧ w' = w.setCell tp (.iface 91 (.agg #[.int .i64 x])) := by
  go_enter Tryd.func63, Tryd.ntmps63
  go_wp2
  first | go_end0 | refine bodyPost_ret (results_none rfl _ _ _) rfl ?_
  exact ⟨rfl, rfl⟩
theorem note_first (tp : Addr) (e : Int) (w : World) (hc : w.cell? tp = some (trV 0)) (hf : w.frozen? tp = false) :
    Calls Tryd.prog 63 #[.pointer (some tp), trV e] w fun r w' => r = .returned (.tuple #[]) ∧ w' = w.setCell tp (trV e) := by
  have hc2 : w.cell? tp = some .nilIface := hc
  unfold trV
  by_cases h : e = 0
  · rw [if_pos h]; exact note_nil tp w hc2 hf
  · rw [if_neg h]; exact note_fault tp e w hc2 hf
theorem note_later (tp : Addr) (v x : Value) (w : World) (hc : w.cell? tp = some (.iface 91 x)) :
    Calls Tryd.prog 63 #[.pointer (some tp), v] w fun r w' => r = .returned (.tuple #[]) ∧ w' = w := by
  have q := eql_iface x
  go_enter Tryd.func63, Tryd.ntmps63
  go_wp2
  first | go_end0 | refine bodyPost_ret (results_none rfl _ _ _) rfl ?_
  exact ⟨rfl, rfl⟩
theorem any_no (tp : Addr) (w : World) (hc : w.cell? tp = some .nilIface) : Calls Tryd.prog 35 #[.pointer (some tp)] w fun r w' => r = .returned (.bool false) ∧ w' = w := by
  go_enter Tryd.func35, Tryd.ntmps35
  go_wp2
  go_ret
  exact ⟨rfl, rfl⟩
theorem any_yes (tp : Addr) (x : Value) (w : World) (hc : w.cell? tp = some (.iface 91 x)) : Calls Tryd.prog 35 #[.pointer (some tp)] w fun r w' => r = .returned (.bool true) ∧ w' = w := by
  have q := neq_iface x
  go_enter Tryd.func35, Tryd.ntmps35
  go_wp2
  go_ret
  exact ⟨rfl, rfl⟩
theorem any_any (tp : Addr) (e : Int) (w : World) (hc : w.cell? tp = some (trV e)) : Calls Tryd.prog 35 #[.pointer (some tp)] w fun r w' => r = .returned (.bool (e != 0)) ∧ w' = w := by
  unfold trV at hc
  by_cases h : e = 0
  · rw [if_pos h] at hc; subst h; exact any_no tp w hc
  · rw [if_neg h] at hc
    have : (e != 0) = true := by rw [bne_iff_ne]; exact h
    rw [this]; exact any_yes tp _ w hc

set_option maxHeartbeats 1000000 in
theorem number_no (tp : Addr) (w : World) (hc : w.cell? tp = some .nilIface) : Calls Tryd.prog 36 #[.pointer (some tp)] w fun r w' => r = .returned (.int .i64 0) ∧ Below w.heap.size w w' := by
  have hlt : tp.block < w.heap.size := by
    rcases Nat.lt_or_ge tp.block w.heap.size with h | h
    · exact h
    · simp [World.cell?, Array.getElem?_eq_none h] at hc
  have hc2 : ∀ o, (w.alloc o).cell? tp = some .nilIface := fun o => by rw [World.cell?_alloc_lt _ _ tp hlt]; exact hc
  go_enter Tryd.func36, Tryd.ntmps36
  go_wp2_with (go_at_call 60; refine (as_nil _ _).mono ?_; rintro e w' ⟨rfl, rfl⟩)
  go_ret
  exact ⟨rfl, (Below.refl _ _).alloc (Nat.le_refl _) _⟩

/-- The variable that the layer's own look leans on: the type of errors. -/
def ErrT (w : World) : Prop := w.cell? ⟨0, 0, none⟩ = some (.iface 115 (.agg #[.pointer (some ⟨2, 54, none⟩)]))
theorem ErrT.size {w : World} (h : ErrT w) : 0 < w.heap.size := by
  rcases Nat.lt_or_ge 0 w.heap.size with h1 | h1
  · exact h1
  · unfold ErrT at h
    simp [World.cell?, Array.getElem?_eq_none h1] at h
theorem ErrT.below {w w' : World} (h : ErrT w) (hb : Below w.heap.size w w') : ErrT w' := by
  have hs := h.size
  unfold ErrT at *
  rw [hb.cell (p := ⟨0, 0, none⟩) (show 0 < w.heap.size from hs)]
  exact h

set_option maxHeartbeats 1000000 in
theorem number_yes (tp : Addr) (x : Int) (w : World) (hE : ErrT w) (hc : w.cell? tp = some (.iface 91 (.agg #[.int .i64 x]))) : Calls Tryd.prog 36 #[.pointer (some tp)] w fun r w' => r = .returned (.int .i64 x) ∧ Below w.heap.size w w' := by
  have hlt : tp.block < w.heap.size := by
    rcases Nat.lt_or_ge tp.block w.heap.size with h | h
    · exact h
    · simp [World.cell?, Array.getElem?_eq_none h] at hc
  have hc2 : ∀ o, (w.alloc o).cell? tp = some (.iface 91 (.agg #[.int .i64 x])) := fun o => by rw [World.cell?_alloc_lt _ _ tp hlt]; exact hc
  have h1 : Hid ((w.alloc (.cells #[.int .i64 0] 91)).cell? ⟨w.heap.size, 0, none⟩ = some (.int .i64 0)) := World.cell?_alloc_new w _ _ 0
  have h2 : Hid ((w.alloc (.cells #[.int .i64 0] 91)).frozen? ⟨w.heap.size, 0, none⟩ = false) := World.frozen?_alloc_new _ _ _ _
  have hE2 : Hid (ErrT (w.alloc (.cells #[.int .i64 0] 91))) := hE.below ((Below.refl _ _).alloc (Nat.le_refl _) _)
  have hcell : Hid (((xaW x ⟨w.heap.size, 0, none⟩ (w.alloc (.cells #[.int .i64 0] 91))).setCell ⟨w.heap.size, 0, none⟩ (.int .i64 x)).cell? ⟨w.heap.size, 0, none⟩ = some (.int .i64 x)) := by
    suffices h0 : (xaW x ⟨w.heap.size, 0, none⟩ (w.alloc (.cells #[.int .i64 0] 91))).cell? ⟨w.heap.size, 0, none⟩ = some (.int .i64 0) from World.cell?_setCell_same _ _ _ h0
    unfold xaW
    rw [World.cell?_alloc_lt _ _ ⟨w.heap.size, 0, none⟩ (by simp; omega), World.cell?_alloc_lt _ _ ⟨w.heap.size, 0, none⟩ (by simp; omega), World.cell?_alloc_lt _ _ ⟨w.heap.size, 0, none⟩ (by simp; omega), World.cell?_alloc_lt _ _ ⟨w.heap.size, 0, none⟩ (by simp)]
    exact h1.out
  have hB : Hid (Below w.heap.size w ((xaW x ⟨w.heap.size, 0, none⟩ (w.alloc (.cells #[.int .i64 0] 91))).setCell ⟨w.heap.size, 0, none⟩ (.int .i64 x))) := by
    show Below w.heap.size w _
    unfold xaW
    refine Below.setCell (p := ⟨w.heap.size, 0, none⟩) ?_ (Nat.le_refl _) _
    refine Below.alloc (Below.alloc (Below.alloc (Below.alloc (Below.alloc (Below.refl _ _) (Nat.le_refl _) _) ?_ _) ?_ _) ?_ _) ?_ _ <;> simp <;> omega
  clear hE
  go_enter Tryd.func36, Tryd.ntmps36
  go_wp2_with fail
  refine (as_hit x ⟨w.heap.size, 0, none⟩ (.int .i64 0) _ hE2.out h1.out h2.out).mono ?_
  rintro e w' ⟨rfl, hw⟩
  have hcl := hcell.out
  have hbl := hB
  rw [← hw] at hcl hbl
  clear hw hB hcell h1 h2 hE2 hc2
  go_wp2
  go_ret
  exact ⟨rfl, hbl.out⟩

theorem number_any (tp : Addr) (x : Int) (w : World) (hE : ErrT w) (hc : w.cell? tp = some (trV x)) : Calls Tryd.prog 36 #[.pointer (some tp)] w fun r w' => r = .returned (.int .i64 x) ∧ Below w.heap.size w w' := by
  unfold trV at hc
  by_cases h : x = 0
  · rw [if_pos h] at hc; subst h; exact number_no tp w hc
  · rw [if_neg h] at hc; exact number_yes tp x w hE hc


end Go.Proofs.YtlkhgnjljdbhnabDoor
