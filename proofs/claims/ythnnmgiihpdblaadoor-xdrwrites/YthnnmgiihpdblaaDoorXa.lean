/- errors.As at the layer's own error: Go's text of it, walked at a fault and at no error. -/
import Derived.Test.YthnnmgiihpdblaaDoorRows
import Derived.WalkKit
import Derived.LaidEql
import Derived.Stop.Asserts
import Derived.RowKitTokens
namespace Go.Proofs.YthnnmgiihpdblaaDoor
open Go.RowKit Go.Extern.Stop Go.Stop Go.Extern

theorem as_nil (t : Value) (w : World) :
    Calls Tryd.prog 125 #[.nilIface, t] w fun e w' => e = .returned (.bool false) ∧ w' = w := by
  go_enter Tryd.func125, Tryd.ntmps125
  go_wp2
  go_ret
  exact ⟨rfl, rfl⟩

theorem xa_v134 (t : Addr) (w : World) : (ReflectliteValue.unpack (.iface 134 (.pointer (some t)))).run Tryd.prog w
    = .ok (.agg #[.pointer (some ⟨8, 134, none⟩), .pointer (some ⟨w.heap.size, 0, none⟩), .int .u64 150]) (w.alloc (.cells #[.pointer (some t)] 134)) := by kernel_rfl
theorem xa_type134 (a : Addr) (w : World) : (ReflectliteValue.methodAny (ReflectliteValue.valueError "reflectlite.Value.Type" 0) (fun t _ _ _ => ReflectliteType.toType t) #[.agg #[.pointer (some ⟨8, 134, none⟩), .pointer (some a), .int .u64 150]]).run Tryd.prog w
    = .ok (.iface 169 (.agg #[.pointer (some ⟨8, 134, none⟩)])) w := by kernel_rfl
theorem xa_kind134 (w : World) : ((ReflectliteType.abiMethod fun t => (fun a : Nat => Value.int IntKind.u8 (a : Int)) <$> Rtype.kind t) #[.pointer (some ⟨8, 134, none⟩)]).run Tryd.prog w = .ok (.int .u8 22) w := by kernel_rfl
theorem xa_kind132 (w : World) : ((ReflectliteType.abiMethod fun t => (fun a : Nat => Value.int IntKind.u8 (a : Int)) <$> Rtype.kind t) #[.pointer (some ⟨8, 132, none⟩)]).run Tryd.prog w = .ok (.int .u8 25) w := by kernel_rfl
theorem xa_parts134 (a : Addr) (w : World) : (ReflectliteValue.parts (.agg #[.pointer (some ⟨8, 134, none⟩), .pointer (some a), .int .u64 150])).run Tryd.prog w = .ok (some (134, a, 150)) w := by kernel_rfl
theorem xa_isNil134 (a p : Addr) (W : World) (ha : W.cell? a = some (.pointer (some p))) :
    (ReflectliteValue.method (ReflectliteValue.valueError "reflectlite.Value.IsNil" 0) ReflectliteValue.isNil #[.agg #[.pointer (some ⟨8, 134, none⟩), .pointer (some a), .int .u64 150]]).run Tryd.prog W = .ok (.bool false) W := by
  show (Bind.bind (ReflectliteValue.parts (.agg #[.pointer (some ⟨8, 134, none⟩), .pointer (some a), .int .u64 150])) _ : Sem Value).run Tryd.prog W = _
  simp only [Sem.run_bind, xa_parts134, Result.andThen]
  simp [ReflectliteValue.isNil, loadVar, isAgg, underlying, Tryd.underlying134, ha, Result.andThen]
theorem xa_elem134 (w : World) : (ReflectliteType.method ReflectliteType.elem #[.agg #[.pointer (some ⟨8, 134, none⟩)]]).run Tryd.prog w = .ok (.iface 169 (.agg #[.pointer (some ⟨8, 132, none⟩)])) w := by kernel_rfl
theorem xa_implements132 (w : World) : (ReflectliteType.relation "Implements" ReflectliteType.implements_ #[.agg #[.pointer (some ⟨8, 132, none⟩)], .iface 169 (.agg #[.pointer (some ⟨8, 89, none⟩)])]).run Tryd.prog w = .ok (.bool true) w := by kernel_rfl
theorem xa_typeOf132 (v : Value) (w : World) : (ReflectliteType.typeOf #[.iface 132 v]).run Tryd.prog w = .ok (.iface 169 (.agg #[.pointer (some ⟨8, 132, none⟩)])) w := by kernel_rfl
theorem xa_assignable132 (w : World) : (ReflectliteType.relation "AssignableTo" ReflectliteType.assignableTo #[.agg #[.pointer (some ⟨8, 132, none⟩)], .iface 169 (.agg #[.pointer (some ⟨8, 132, none⟩)])]).run Tryd.prog w = .ok (.bool true) w := by kernel_rfl
theorem xa_v132 (n : Int) (w : World) : (ReflectliteValue.unpack (.iface 132 (.agg #[.int .i64 n]))).run Tryd.prog w
    = .ok (.agg #[.pointer (some ⟨8, 132, none⟩), .pointer (some ⟨w.heap.size, 0, none⟩), .int .u64 153]) (w.alloc (.cells #[.int .i64 n] 132)) := by kernel_rfl
theorem xa_elemOf134 (w : World) : (Rtype.elem? 134).run Tryd.prog w = .ok (some 132) w := by kernel_rfl
theorem xa_mk132 (p : Addr) (w : World) : (ReflectliteValue.mk 132 p ReflectliteValue.flagAddr).run Tryd.prog w = .ok (.agg #[.pointer (some ⟨8, 132, none⟩), .pointer (some p), .int .u64 409]) w := by kernel_rfl
theorem xa_elemV134 (a p : Addr) (W : World) (ha : W.cell? a = some (.pointer (some p))) :
    (ReflectliteValue.method (ReflectliteValue.valueError "reflectlite.Value.Elem" 0) ReflectliteValue.elem #[.agg #[.pointer (some ⟨8, 134, none⟩), .pointer (some a), .int .u64 150]]).run Tryd.prog W
      = .ok (.agg #[.pointer (some ⟨8, 132, none⟩), .pointer (some p), .int .u64 409]) W := by
  show (Bind.bind (ReflectliteValue.parts (.agg #[.pointer (some ⟨8, 134, none⟩), .pointer (some a), .int .u64 150])) _ : Sem Value).run Tryd.prog W = _
  simp only [Sem.run_bind, xa_parts134, Result.andThen]
  simp [ReflectliteValue.elem, loadVar, isAgg, underlying, Tryd.underlying134, ha, Result.andThen, xa_elemOf134, xa_mk132]
theorem xa_parts132a (a : Addr) (w : World) : (ReflectliteValue.parts (.agg #[.pointer (some ⟨8, 132, none⟩), .pointer (some a), .int .u64 409])).run Tryd.prog w = .ok (some (132, a, 409)) w := by kernel_rfl
theorem xa_parts132 (a : Addr) (w : World) : (ReflectliteValue.parts (.agg #[.pointer (some ⟨8, 132, none⟩), .pointer (some a), .int .u64 153])).run Tryd.prog w = .ok (some (132, a, 153)) w := by kernel_rfl
theorem xa_direct132 (w : World) : (Rtype.directlyAssignable 132 132).run Tryd.prog w = .ok true w := by kernel_rfl
theorem xa_size132 (w : World) : (sizeOf 132).run Tryd.prog w = .ok 1 w := by kernel_rfl

theorem xa_set132 (ta b : Addr) (n : Int) (old : Value) (W : World) (hb : W.cell? b = some (.int .i64 n)) (ht : W.cell? ta = some old) (hf : W.frozen? ta = false) :
    (ReflectliteValue.set #[.agg #[.pointer (some ⟨8, 132, none⟩), .pointer (some ta), .int .u64 409], .agg #[.pointer (some ⟨8, 132, none⟩), .pointer (some b), .int .u64 153]]).run Tryd.prog W
      = .ok (.tuple #[]) (W.setCell ta (.int .i64 n)) := by
  show (Bind.bind (ReflectliteValue.parts (.agg #[.pointer (some ⟨8, 132, none⟩), .pointer (some ta), .int .u64 409])) _ : Sem Value).run Tryd.prog W = _
  simp only [Sem.run_bind, xa_parts132a, Result.andThen]
  have hl := run_loadCells_list (P := Tryd.prog) W b [.int .i64 n] (fun j v hj => by
    cases j with
    | zero => cases hj; exact hb
    | succ j => cases hj)
  simp only [List.length_singleton] at hl
  simp [Array.getLit, xa_parts132, ReflectliteValue.flagAddr, loadVar, isAgg, underlying, Tryd.underlying132, Result.andThen, xa_direct132, storeVar, Value.cells, storeCells, Addr.add, hl]
  rw [run_store Tryd.prog W ta _ _ (by rfl)]
  simp [ht, hf]

theorem xa_mKind (h : Value) (w : World) : (Go.method 325 169 (.agg #[h]) "Kind").run Tryd.prog w = .ok (186, h) w := by kernel_rfl
theorem xa_mElem (h : Value) (w : World) : (Go.method 325 169 (.agg #[h]) "Elem").run Tryd.prog w = .ok (197, .agg #[h]) w := by kernel_rfl
theorem xa_mImpl (h : Value) (w : World) : (Go.method 325 169 (.agg #[h]) "Implements").run Tryd.prog w = .ok (198, .agg #[h]) w := by kernel_rfl
theorem xa_mAssg (h : Value) (w : World) : (Go.method 325 169 (.agg #[h]) "AssignableTo").run Tryd.prog w = .ok (195, .agg #[h]) w := by kernel_rfl

end Go.Proofs.YthnnmgiihpdblaaDoor
