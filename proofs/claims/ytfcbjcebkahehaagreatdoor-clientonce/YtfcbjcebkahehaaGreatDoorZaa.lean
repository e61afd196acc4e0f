/- Some bytes as a text. errors.As at the layer's own error: Go's text of it, walked at a fault and at no error. errors.As at a fault: true, and the target has its number. What is wrong first: noting it, asking for it, its number; an error of a number. Numbers by bytes, the highest first: the program's way and the document's own. The document's own bytes of a number, and its padding. The document's own Writer: what lies in its block, what one laying does, what else stays. The document's own Writer, call by call. The document's own Writer: counts, texts of a fixed size, texts of any size. A text appended to bytes of one's own: what it yields, and where that lies. -/
import Derived.Test.YtfcbjcebkahehaaGreatDoorRows
import Derived.WalkKit
import Derived.WalkSpells
import Derived.WalkLawsBesides
import Derived.Laws.FloatArith
import Derived.Laws.BitsAllLaws
import Derived.LaidEql
import Derived.Stop.Asserts
import Derived.RowKitTokens
import Derived.Below
import Derived.Lib.ItoaMem
import Derived.Deep.QuietTactic
import Derived.BigQuiet
import Derived.Lib.AppendStr
namespace Go.Proofs.YtfcbjcebkahehaaGreatDoor
open Go.RowKit
/-- The text of some bytes. -/
def B (l : List UInt8) : Value := .string ⟨l.toArray⟩
theorem bapp (a b : List UInt8) : (⟨a.toArray⟩ : ByteArray) ++ ⟨b.toArray⟩ = ⟨(a ++ b).toArray⟩ := by
  apply ByteArray.ext
  simp
theorem ret_str {a b : ByteArray} (h : a = b) : Ending.returned (.string a) = .returned (.string b) := by rw [h]
end Go.Proofs.YtfcbjcebkahehaaGreatDoor
namespace Go.Proofs.YtfcbjcebkahehaaGreatDoor
open Go.RowKit Go.Extern.Stop Go.Stop Go.Extern
theorem as_nil (t : Value) (w : World) :
    Calls Tryz.prog 166 #[.nilIface, t] w fun e w' => e = .returned (.bool false) ∧ w' = w := by
  go_enter Tryz.func166, Tryz.ntmps166
  go_wp2
  go_ret
  exact ⟨rfl, rfl⟩

theorem xa_v134 (t : Addr) (w : World) : (ReflectliteValue.unpack (.iface 256 (.pointer (some t)))).run Tryz.prog w
    = .ok (.agg #[.pointer (some ⟨2, 256, none⟩), .pointer (some ⟨w.heap.size, 0, none⟩), .int .u64 150]) (w.alloc (.cells #[.pointer (some t)] 256)) := by kernel_rfl
theorem xa_type134 (a : Addr) (w : World) : (ReflectliteValue.methodAny (ReflectliteValue.valueError "reflectlite.Value.Type" 0) (fun t _ _ _ => ReflectliteType.toType t) #[.agg #[.pointer (some ⟨2, 256, none⟩), .pointer (some a), .int .u64 150]]).run Tryz.prog w
    = .ok (.iface 283 (.agg #[.pointer (some ⟨2, 256, none⟩)])) w := by kernel_rfl
theorem xa_kind134 (w : World) : ((ReflectliteType.abiMethod fun t => (fun a : Nat => Value.int IntKind.u8 (a : Int)) <$> Rtype.kind t) #[.pointer (some ⟨2, 256, none⟩)]).run Tryz.prog w = .ok (.int .u8 22) w := by kernel_rfl
theorem xa_kind132 (w : World) : ((ReflectliteType.abiMethod fun t => (fun a : Nat => Value.int IntKind.u8 (a : Int)) <$> Rtype.kind t) #[.pointer (some ⟨2, 244, none⟩)]).run Tryz.prog w = .ok (.int .u8 25) w := by kernel_rfl
theorem xa_parts134 (a : Addr) (w : World) : (ReflectliteValue.parts (.agg #[.pointer (some ⟨2, 256, none⟩), .pointer (some a), .int .u64 150])).run Tryz.prog w = .ok (some (256, a, 150)) w := by kernel_rfl
theorem xa_isNil134 (a p : Addr) (W : World) (ha : W.cell? a = some (.pointer (some p))) :
    (ReflectliteValue.method (ReflectliteValue.valueError "reflectlite.Value.IsNil" 0) ReflectliteValue.isNil #[.agg #[.pointer (some ⟨2, 256, none⟩), .pointer (some a), .int .u64 150]]).run Tryz.prog W = .ok (.bool false) W := by
  show (Bind.bind (ReflectliteValue.parts (.agg #[.pointer (some ⟨2, 256, none⟩), .pointer (some a), .int .u64 150])) _ : Sem Value).run Tryz.prog W = _
  simp only [Sem.run_bind, xa_parts134, Result.andThen]
  simp [ReflectliteValue.isNil, loadVar, isAgg, underlying, Tryz.underlying256, ha, Result.andThen]
theorem xa_elem134 (w : World) : (ReflectliteType.method ReflectliteType.elem #[.agg #[.pointer (some ⟨2, 256, none⟩)]]).run Tryz.prog w = .ok (.iface 283 (.agg #[.pointer (some ⟨2, 244, none⟩)])) w := by kernel_rfl
theorem xa_implements132 (w : World) : (ReflectliteType.relation "Implements" ReflectliteType.implements_ #[.agg #[.pointer (some ⟨2, 244, none⟩)], .iface 283 (.agg #[.pointer (some ⟨2, 177, none⟩)])]).run Tryz.prog w = .ok (.bool true) w := by kernel_rfl
theorem xa_typeOf132 (v : Value) (w : World) : (ReflectliteType.typeOf #[.iface 244 v]).run Tryz.prog w = .ok (.iface 283 (.agg #[.pointer (some ⟨2, 244, none⟩)])) w := by kernel_rfl
theorem xa_assignable132 (w : World) : (ReflectliteType.relation "AssignableTo" ReflectliteType.assignableTo #[.agg #[.pointer (some ⟨2, 244, none⟩)], .iface 283 (.agg #[.pointer (some ⟨2, 244, none⟩)])]).run Tryz.prog w = .ok (.bool true) w := by kernel_rfl
theorem xa_v132 (n : Int) (w : World) : (ReflectliteValue.unpack (.iface 244 (.agg #[.int .i64 n]))).run Tryz.prog w
    = .ok (.agg #[.pointer (some ⟨2, 244, none⟩), .pointer (some ⟨w.heap.size, 0, none⟩), .int .u64 153]) (w.alloc (.cells #[.int .i64 n] 244)) := by kernel_rfl
theorem xa_elemOf134 (w : World) : (Rtype.elem? 256).run Tryz.prog w = .ok (some 244) w := by kernel_rfl
theorem xa_mk132 (p : Addr) (w : World) : (ReflectliteValue.mk 244 p ReflectliteValue.flagAddr).run Tryz.prog w = .ok (.agg #[.pointer (some ⟨2, 244, none⟩), .pointer (some p), .int .u64 409]) w := by kernel_rfl
theorem xa_elemV134 (a p : Addr) (W : World) (ha : W.cell? a = some (.pointer (some p))) :
    (ReflectliteValue.method (ReflectliteValue.valueError "reflectlite.Value.Elem" 0) ReflectliteValue.elem #[.agg #[.pointer (some ⟨2, 256, none⟩), .pointer (some a), .int .u64 150]]).run Tryz.prog W
      = .ok (.agg #[.pointer (some ⟨2, 244, none⟩), .pointer (some p), .int .u64 409]) W := by
  show (Bind.bind (ReflectliteValue.parts (.agg #[.pointer (some ⟨2, 256, none⟩), .pointer (some a), .int .u64 150])) _ : Sem Value).run Tryz.prog W = _
  simp only [Sem.run_bind, xa_parts134, Result.andThen]
  simp [ReflectliteValue.elem, loadVar, isAgg, underlying, Tryz.underlying256, ha, Result.andThen, xa_elemOf134, xa_mk132]
theorem xa_parts132a (a : Addr) (w : World) : (ReflectliteValue.parts (.agg #[.pointer (some ⟨2, 244, none⟩), .pointer (some a), .int .u64 409])).run Tryz.prog w = .ok (some (244, a, 409)) w := by kernel_rfl
theorem xa_parts132 (a : Addr) (w : World) : (ReflectliteValue.parts (.agg #[.pointer (some ⟨2, 244, none⟩), .pointer (some a), .int .u64 153])).run Tryz.prog w = .ok (some (244, a, 153)) w := by kernel_rfl
theorem xa_direct132 (w : World) : (Rtype.directlyAssignable 244 244).run Tryz.prog w = .ok true w := by kernel_rfl
theorem xa_set132 (ta b : Addr) (n : Int) (old : Value) (W : World) (hb : W.cell? b = some (.int .i64 n)) (ht : W.cell? ta = some old) (hf : W.frozen? ta = false) :
    (ReflectliteValue.set #[.agg #[.pointer (some ⟨2, 244, none⟩), .pointer (some ta), .int .u64 409], .agg #[.pointer (some ⟨2, 244, none⟩), .pointer (some b), .int .u64 153]]).run Tryz.prog W
      = .ok (.tuple #[]) (W.setCell ta (.int .i64 n)) := by
  show (Bind.bind (ReflectliteValue.parts (.agg #[.pointer (some ⟨2, 244, none⟩), .pointer (some ta), .int .u64 409])) _ : Sem Value).run Tryz.prog W = _
  simp only [Sem.run_bind, xa_parts132a, Result.andThen]
  have hl := run_loadCells_list (P := Tryz.prog) W b [.int .i64 n] (fun j v hj => by
    cases j with
    | zero => cases hj; exact hb
    | succ j => cases hj)
  simp only [List.length_singleton] at hl
  simp [Array.getLit, xa_parts132, ReflectliteValue.flagAddr, loadVar, isAgg, underlying, Tryz.underlying244, Result.andThen, xa_direct132, storeVar, Value.cells, storeCells, Addr.add, hl]
  rw [run_store Tryz.prog W ta _ _ (by rfl)]
  simp [ht, hf]

theorem xa_mKind (h : Value) (w : World) : (Go.method 432 283 (.agg #[h]) "Kind").run Tryz.prog w = .ok (219, h) w := by kernel_rfl
theorem xa_mElem (h : Value) (w : World) : (Go.method 432 283 (.agg #[h]) "Elem").run Tryz.prog w = .ok (254, .agg #[h]) w := by kernel_rfl
theorem xa_mImpl (h : Value) (w : World) : (Go.method 432 283 (.agg #[h]) "Implements").run Tryz.prog w = .ok (255, .agg #[h]) w := by kernel_rfl
theorem xa_mAssg (h : Value) (w : World) : (Go.method 432 283 (.agg #[h]) "AssignableTo").run Tryz.prog w = .ok (252, .agg #[h]) w := by kernel_rfl



end Go.Proofs.YtfcbjcebkahehaaGreatDoor
namespace Go.Proofs.YtfcbjcebkahehaaGreatDoor
open Go.RowKit Go.Extern.Stop Go.Stop Go.Extern
/-- The blocks that errors.As lays. -/
def xaW (n : Int) (t : Addr) (w : World) : World :=
  (((w.alloc (.cells #[.pointer (some t)] 256)).alloc (.cells #[.pointer (some ⟨2, 256, none⟩), .pointer (some ⟨w.heap.size, 0, none⟩), .int .u64 150] 268)).alloc (.cells #[.pointer (some ⟨2, 256, none⟩), .pointer (some ⟨w.heap.size, 0, none⟩), .int .u64 150] 268)).alloc (.cells #[.int .i64 n] 244)

set_option maxRecDepth 4000 in
set_option maxHeartbeats 4000000 in
theorem as_hit (n : Int) (t : Addr) (old : Value) (w : World) (hg : w.cell? ⟨1, 0, none⟩ = some (.iface 283 (.agg #[.pointer (some ⟨2, 177, none⟩)]))) (ht0 : w.cell? t = some old) (hf0 : w.frozen? t = false) :
    Calls Tryz.prog 166 #[.iface 244 (.agg #[.int .i64 n]), .iface 256 (.pointer (some t))] w fun ev w' => ev = .returned (.bool true) ∧ w' = (xaW n t w).setCell t (.int .i64 n) := by
  unfold xaW
  have h138 := @run_callFunc_extern Tryz.prog 178 _ (fun args => ReflectliteValue.unpack (args.getD 0 (.tuple #[]))) Tryz.func178 (by kernel_rfl) (by kernel_rfl) (by kernel_rfl) (by kernel_rfl)
  have h139 := @run_callFunc_extern Tryz.prog 179 _ (ReflectliteValue.methodAny (ReflectliteValue.valueError "reflectlite.Value.Type" 0) (fun t _ _ _ => ReflectliteType.toType t)) Tryz.func179 (by kernel_rfl) (by kernel_rfl) (by kernel_rfl) (by kernel_rfl)
  have h140 := @run_callFunc_extern Tryz.prog 180 _ (ReflectliteValue.method (ReflectliteValue.valueError "reflectlite.Value.IsNil" 0) ReflectliteValue.isNil) Tryz.func180 (by kernel_rfl) (by kernel_rfl) (by kernel_rfl) (by kernel_rfl)
  have h186 := @run_callFunc_extern Tryz.prog 219 _ (ReflectliteType.abiMethod fun t => do pure (.int .u8 (← Rtype.kind t))) Tryz.func219 (by kernel_rfl) (by kernel_rfl) (by kernel_rfl) (by kernel_rfl)
  have h197 := @run_callFunc_extern Tryz.prog 254 _ (ReflectliteType.method ReflectliteType.elem) Tryz.func254 (by kernel_rfl) (by kernel_rfl) (by kernel_rfl) (by kernel_rfl)
  have h198 := @run_callFunc_extern Tryz.prog 255 _ (ReflectliteType.relation "Implements" ReflectliteType.implements_) Tryz.func255 (by kernel_rfl) (by kernel_rfl) (by kernel_rfl) (by kernel_rfl)
  have h152 := @run_callFunc_extern Tryz.prog 190 _ ReflectliteType.typeOf Tryz.func190 (by kernel_rfl) (by kernel_rfl) (by kernel_rfl) (by kernel_rfl)
  have h195 := @run_callFunc_extern Tryz.prog 252 _ (ReflectliteType.relation "AssignableTo" ReflectliteType.assignableTo) Tryz.func252 (by kernel_rfl) (by kernel_rfl) (by kernel_rfl) (by kernel_rfl)
  have h153 := @run_callFunc_extern Tryz.prog 191 _ (ReflectliteValue.method (ReflectliteValue.valueError "reflectlite.Value.Elem" 0) ReflectliteValue.elem) Tryz.func191 (by kernel_rfl) (by kernel_rfl) (by kernel_rfl) (by kernel_rfl)
  have h154 := @run_callFunc_extern Tryz.prog 192 _ ReflectliteValue.set Tryz.func192 (by kernel_rfl) (by kernel_rfl) (by kernel_rfl) (by kernel_rfl)
  have tO := xa_typeOf132
  have mA := xa_mAssg
  have a1 := xa_assignable132
  have v1 := xa_v132
  have v2 := xa_v134
  have t1 := xa_type134
  have mK := xa_mKind
  have mE := xa_mElem
  have mI := xa_mImpl
  have k1 := xa_kind134
  have k2 := xa_kind132
  have e1 := xa_elem134
  have i1 := xa_implements132
  have n8 := xa_isNil134 ⟨w.heap.size, 0, none⟩ t ((w.alloc (.cells #[.pointer (some t)] 256)).alloc (.cells #[.pointer (some ⟨2, 256, none⟩), .pointer (some ⟨w.heap.size, 0, none⟩), .int .u64 150] 268)) (by simp)
  have hlt : 1 < w.heap.size := by
    rcases Nat.lt_or_ge 1 w.heap.size with h | h
    · exact h
    · simp [World.cell?, Array.getElem?_eq_none h] at hg
  have hg2 : ((w.alloc (.cells #[.pointer (some t)] 256)).alloc (.cells #[.pointer (some ⟨2, 256, none⟩), .pointer (some ⟨w.heap.size, 0, none⟩), .int .u64 150] 268)).cell? ⟨1, 0, none⟩ = some (.iface 283 (.agg #[.pointer (some ⟨2, 177, none⟩)])) := by
    rw [World.cell?_alloc_lt _ _ ⟨1, 0, none⟩ (by simp <;> omega), World.cell?_alloc_lt _ _ ⟨1, 0, none⟩ hlt]; exact hg
  have htl : t.block < w.heap.size := by
    rcases Nat.lt_or_ge t.block w.heap.size with h | h
    · exact h
    · simp [World.cell?, Array.getElem?_eq_none h] at ht0
  have el := xa_elemV134 ⟨w.heap.size, 0, none⟩ t (((w.alloc (.cells #[.pointer (some t)] 256)).alloc (.cells #[.pointer (some ⟨2, 256, none⟩), .pointer (some ⟨w.heap.size, 0, none⟩), .int .u64 150] 268)).alloc (.cells #[.pointer (some ⟨2, 256, none⟩), .pointer (some ⟨w.heap.size, 0, none⟩), .int .u64 150] 268))
    (by rw [World.cell?_alloc_lt _ _ ⟨w.heap.size, 0, none⟩ (by simp <;> omega), World.cell?_alloc_lt _ _ ⟨w.heap.size, 0, none⟩ (by simp), World.cell?_alloc_new]; rfl)
  have st := xa_set132 t ⟨w.heap.size + 1 + 1 + 1, 0, none⟩ n old ((((w.alloc (.cells #[.pointer (some t)] 256)).alloc (.cells #[.pointer (some ⟨2, 256, none⟩), .pointer (some ⟨w.heap.size, 0, none⟩), .int .u64 150] 268)).alloc (.cells #[.pointer (some ⟨2, 256, none⟩), .pointer (some ⟨w.heap.size, 0, none⟩), .int .u64 150] 268)).alloc (.cells #[.int .i64 n] 244))
    (by rw [World.cell?_alloc_at _ _ _ _ (by simp)]; rfl)
    (by rw [World.cell?_alloc_lt _ _ t (by simp <;> omega), World.cell?_alloc_lt _ _ t (by simp <;> omega), World.cell?_alloc_lt _ _ t (by simp <;> omega), World.cell?_alloc_lt _ _ t htl]; exact ht0)
    (by rw [World.frozen?_alloc_old _ _ t (by simp <;> omega), World.frozen?_alloc_old _ _ t (by simp <;> omega), World.frozen?_alloc_old _ _ t (by simp <;> omega), World.frozen?_alloc_old _ _ t (Nat.ne_of_lt htl)]; exact hf0)
  go_enter Tryz.func166, Tryz.ntmps166
  go_wp2
  refine wp_loop_rounds 1 ?_
  rw [rounds_succ]
  go_wp2
  go_ret
  exact ⟨rfl, rfl⟩


end Go.Proofs.YtfcbjcebkahehaaGreatDoor
namespace Go.Proofs.YtfcbjcebkahehaaGreatDoor
open Go.RowKit Go.Extern.Stop Go.Stop Go.Extern
/-- What a trouble's cell holds: nothing wrong, or the error of a number. -/
def trV (e : Int) : Value := if e = 0 then .nilIface else .iface 244 (.agg #[.int .i64 e])

theorem eql_iface (v : Value) (w : World) : (binOp .eql 177 (.iface 244 v) .nilIface).run Tryz.prog w = .ok (.bool false) w := by kernel_rfl
theorem neq_iface (v : Value) (w : World) : (binOp .neq 177 (.iface 244 v) .nilIface).run Tryz.prog w = .ok (.bool true) w := by kernel_rfl

theorem faultOf_zero (w : World) : Calls Tryz.prog 154 #[.int .i64 0] w fun e w' => e = .returned (trV 0) ∧ w' = w := by
  go_enter Tryz.func154, Tryz.ntmps154
  go_wp2
  go_ret
  exact ⟨rfl, rfl⟩
theorem faultOf_other (e : Int) (w : World) (h : e ≠ 0) : Calls Tryz.prog 154 #[.int .i64 e] w fun r w' => r = .returned (trV e) ∧ w' = w := by
  have hb : (e == 0) = false := beq_eq_false_iff_ne.2 h
  have hT : Hid (trV e = .iface 244 (.agg #[.int .i64 e])) := by show trV e = _; unfold trV; rw [if_neg h]
  clear h
  rw [hT.out]
  go_enter Tryz.func154, Tryz.ntmps154
  go_wp2
  go_ret
  exact ⟨rfl, rfl⟩
theorem faultOf_any (e : Int) (w : World) : Calls Tryz.prog 154 #[.int .i64 e] w fun r w' => r = .returned (trV e) ∧ w' = w := by
  by_cases h : e = 0
  · subst h; exact faultOf_zero w
  · exact faultOf_other e w h

theorem note_nil (tp : Addr) (w : World) (hc : w.cell? tp = some .nilIface) (hf : w.frozen? tp = false) :
    Calls Tryz.prog 153 #[.pointer (some tp), .nilIface] w fun r w' => r = .returned (.tuple #[]) ∧ w' = w.setCell tp .nilIface := by
  go_enter Tryz.func153, Tryz.ntmps153
  go_wp2
  first | go_end0 | refine bodyPost_ret (results_none rfl _ _ _) rfl ?_
  exact ⟨rfl, rfl⟩
theorem note_fault (tp : Addr) (x : Int) (w : World) (hc : w.cell? tp = some .nilIface) (hf : w.frozen? tp = false) :
    Calls Tryz.prog 153 #[.pointer (some tp), .iface 244 (.agg #[.int .i64 x])] w fun r w' => r = .returned (.tuple #[]) ∧ w' = w.setCell tp (.iface 244 (.agg #[.int .i64 x])) := by
  go_enter Tryz.func153, Tryz.ntmps153
  go_wp2
  first | go_end0 | refine bodyPost_ret (results_none rfl _ _ _) rfl ?_
  exact ⟨rfl, rfl⟩
theorem note_first (tp : Addr) (e : Int) (w : World) (hc : w.cell? tp = some (trV 0)) (hf : w.frozen? tp = false) :
    Calls Tryz.prog 153 #[.pointer (some tp), trV e] w fun r w' => r = .returned (.tuple #[]) ∧ w' = w.setCell tp (trV e) := by
  have hc2 : w.cell? tp = some .nilIface := hc
  unfold trV
  by_cases h : e = 0
  · rw [if_pos h]; exact note_nil tp w hc2 hf
  · rw [if_neg h]; exact note_fault tp e w hc2 hf
theorem note_later (tp : Addr) (v x : Value) (w : World) (hc : w.cell? tp = some (.iface 244 x)) :
    Calls Tryz.prog 153 #[.pointer (some tp), v] w fun r w' => r = .returned (.tuple #[]) ∧ w' = w := by
  have q := eql_iface x
  go_enter Tryz.func153, Tryz.ntmps153
  go_wp2
  first | go_end0 | refine bodyPost_ret (results_none rfl _ _ _) rfl ?_
  exact ⟨rfl, rfl⟩
theorem any_no (tp : Addr) (w : World) (hc : w.cell? tp = some .nilIface) : Calls Tryz.prog 134 #[.pointer (some tp)] w fun r w' => r = .returned (.bool false) ∧ w' = w := by
  go_enter Tryz.func134, Tryz.ntmps134
  go_wp2
  go_ret
  exact ⟨rfl, rfl⟩
theorem any_yes (tp : Addr) (x : Value) (w : World) (hc : w.cell? tp = some (.iface 244 x)) : Calls Tryz.prog 134 #[.pointer (some tp)] w fun r w' => r = .returned (.bool true) ∧ w' = w := by
  have q := neq_iface x
  go_enter Tryz.func134, Tryz.ntmps134
  go_wp2
  go_ret
  exact ⟨rfl, rfl⟩
theorem any_any (tp : Addr) (e : Int) (w : World) (hc : w.cell? tp = some (trV e)) : Calls Tryz.prog 134 #[.pointer (some tp)] w fun r w' => r = .returned (.bool (e != 0)) ∧ w' = w := by
  unfold trV at hc
  by_cases h : e = 0
  · rw [if_pos h] at hc; subst h; exact any_no tp w hc
  · rw [if_neg h] at hc
    have : (e != 0) = true := by rw [bne_iff_ne]; exact h
    rw [this]; exact any_yes tp _ w hc

set_option maxHeartbeats 1000000 in
theorem number_no (tp : Addr) (w : World) (hc : w.cell? tp = some .nilIface) : Calls Tryz.prog 135 #[.pointer (some tp)] w fun r w' => r = .returned (.int .i64 0) ∧ Below w.heap.size w w' := by
  have hlt : tp.block < w.heap.size := by
    rcases Nat.lt_or_ge tp.block w.heap.size with h | h
    · exact h
    · simp [World.cell?, Array.getElem?_eq_none h] at hc
  have hc2 : ∀ o, (w.alloc o).cell? tp = some .nilIface := fun o => by rw [World.cell?_alloc_lt _ _ tp hlt]; exact hc
  go_enter Tryz.func135, Tryz.ntmps135
  go_wp2_with (go_at_call 166; refine (as_nil _ _).mono ?_; rintro e w' ⟨rfl, rfl⟩)
  go_ret
  exact ⟨rfl, (Below.refl _ _).alloc (Nat.le_refl _) _⟩

/-- The variable that the layer's own look leans on: the type of errors. -/
def ErrT (w : World) : Prop := w.cell? ⟨1, 0, none⟩ = some (.iface 283 (.agg #[.pointer (some ⟨2, 177, none⟩)]))
theorem ErrT.size {w : World} (h : ErrT w) : 1 < w.heap.size := by
  rcases Nat.lt_or_ge 1 w.heap.size with h1 | h1
  · exact h1
  · unfold ErrT at h
    simp [World.cell?, Array.getElem?_eq_none h1] at h
theorem ErrT.below {w w' : World} (h : ErrT w) (hb : Below w.heap.size w w') : ErrT w' := by
  have hs := h.size
  unfold ErrT at *
  rw [hb.cell (p := ⟨1, 0, none⟩) (show 1 < w.heap.size from hs)]
  exact h

set_option maxHeartbeats 1000000 in
theorem number_yes (tp : Addr) (x : Int) (w : World) (hE : ErrT w) (hc : w.cell? tp = some (.iface 244 (.agg #[.int .i64 x]))) : Calls Tryz.prog 135 #[.pointer (some tp)] w fun r w' => r = .returned (.int .i64 x) ∧ Below w.heap.size w w' := by
  have hlt : tp.block < w.heap.size := by
    rcases Nat.lt_or_ge tp.block w.heap.size with h | h
    · exact h
    · simp [World.cell?, Array.getElem?_eq_none h] at hc
  have hc2 : ∀ o, (w.alloc o).cell? tp = some (.iface 244 (.agg #[.int .i64 x])) := fun o => by rw [World.cell?_alloc_lt _ _ tp hlt]; exact hc
  have h1 : Hid ((w.alloc (.cells #[.int .i64 0] 244)).cell? ⟨w.heap.size, 0, none⟩ = some (.int .i64 0)) := World.cell?_alloc_new w _ _ 0
  have h2 : Hid ((w.alloc (.cells #[.int .i64 0] 244)).frozen? ⟨w.heap.size, 0, none⟩ = false) := World.frozen?_alloc_new _ _ _ _
  have hE2 : Hid (ErrT (w.alloc (.cells #[.int .i64 0] 244))) := hE.below ((Below.refl _ _).alloc (Nat.le_refl _) _)
  have hcell : Hid (((xaW x ⟨w.heap.size, 0, none⟩ (w.alloc (.cells #[.int .i64 0] 244))).setCell ⟨w.heap.size, 0, none⟩ (.int .i64 x)).cell? ⟨w.heap.size, 0, none⟩ = some (.int .i64 x)) := by
    suffices h0 : (xaW x ⟨w.heap.size, 0, none⟩ (w.alloc (.cells #[.int .i64 0] 244))).cell? ⟨w.heap.size, 0, none⟩ = some (.int .i64 0) from World.cell?_setCell_same _ _ _ h0
    unfold xaW
    rw [World.cell?_alloc_lt _ _ ⟨w.heap.size, 0, none⟩ (by simp; omega), World.cell?_alloc_lt _ _ ⟨w.heap.size, 0, none⟩ (by simp; omega), World.cell?_alloc_lt _ _ ⟨w.heap.size, 0, none⟩ (by simp; omega), World.cell?_alloc_lt _ _ ⟨w.heap.size, 0, none⟩ (by simp)]
    exact h1.out
  have hB : Hid (Below w.heap.size w ((xaW x ⟨w.heap.size, 0, none⟩ (w.alloc (.cells #[.int .i64 0] 244))).setCell ⟨w.heap.size, 0, none⟩ (.int .i64 x))) := by
    show Below w.heap.size w _
    unfold xaW
    refine Below.setCell (p := ⟨w.heap.size, 0, none⟩) ?_ (Nat.le_refl _) _
    refine Below.alloc (Below.alloc (Below.alloc (Below.alloc (Below.alloc (Below.refl _ _) (Nat.le_refl _) _) ?_ _) ?_ _) ?_ _) ?_ _ <;> simp <;> omega
  clear hE
  go_enter Tryz.func135, Tryz.ntmps135
  go_wp2_with fail
  refine (as_hit x ⟨w.heap.size, 0, none⟩ (.int .i64 0) _ hE2.out h1.out h2.out).mono ?_
  rintro e w' ⟨rfl, hw⟩
  have hcl := hcell.out
  have hbl := hB
  rw [← hw] at hcl hbl
  clear hw hB hcell h1 h2 hE2 hc2
  go_wp2
  go_ret
  exact ⟨rfl, hbl.out⟩

theorem number_any (tp : Addr) (x : Int) (w : World) (hE : ErrT w) (hc : w.cell? tp = some (trV x)) : Calls Tryz.prog 135 #[.pointer (some tp)] w fun r w' => r = .returned (.int .i64 x) ∧ Below w.heap.size w w' := by
  unfold trV at hc
  by_cases h : x = 0
  · rw [if_pos h] at hc; subst h; exact number_no tp w hc
  · rw [if_neg h] at hc; exact number_yes tp x w hE hc



end Go.Proofs.YtfcbjcebkahehaaGreatDoor
namespace Go.Proofs.YtfcbjcebkahehaaGreatDoor
open Go.RowKit
theorem size_bytes (l : List UInt8) : (⟨l.toArray⟩ : ByteArray).size = l.length := by
  show l.toArray.size = _
  simp
/-- A number by k bytes, the highest first. -/
def beL (k n : Nat) : List UInt8 := (List.range k).map fun t => UInt8.ofNat (n / 256 ^ (k - 1 - t) % 256)
theorem beL_len (k n : Nat) : (beL k n).length = k := by simp [beL]
theorem beL_get (k n t : Nat) (h : t < k) : (beL k n)[t]'(by rw [beL_len]; exact h) = UInt8.ofNat (n / 256 ^ (k - 1 - t) % 256) := by simp [beL]
theorem byte_nat (x : Nat) : ((UInt8.ofNat (x % 256)).toNat : Int) = (x : Int) % 256 := by
  rw [UInt8.toNat_ofNat_of_lt' (show x % 256 < 256 by omega)]; omega

theorem four_cells (n : Nat) (w : World) (b0 b1 b2 b3 : Int) (h0 : b0 = (n : Int) / 16777216 % 256) (h1 : b1 = (n : Int) / 65536 % 256) (h2 : b2 = (n : Int) / 256 % 256) (h3 : b3 = (n : Int) % 256) :
    (convert 174 9 (.slice (some ⟨w.heap.size, 0, none⟩) 4 4)).run Tryz.prog (w.alloc (.cells #[.int .u8 b0, .int .u8 b1, .int .u8 b2, .int .u8 b3] 5)) = .ok (.string ⟨(beL 4 n).toArray⟩) (w.alloc (.cells #[.int .u8 b0, .int .u8 b1, .int .u8 b2, .int .u8 b3] 5)) := by
  have h := run_convert_bytes_back (P := Tryz.prog) (w.alloc (.cells #[.int .u8 b0, .int .u8 b1, .int .u8 b2, .int .u8 b3] 5)) 174 9 5 ⟨w.heap.size, 0, none⟩ 4 (beL 4 n) Tryz.underlying174 Tryz.underlying5 Tryz.underlying9 (fun t ht => by
    have ht2 : t < 4 := by rw [beL_len] at ht; exact ht
    have ea : (Addr.add ⟨w.heap.size, 0, none⟩ t) = ⟨w.heap.size, 0 + t, none⟩ := Lib.add_plain _ _ _
    rw [ea, World.cell?_alloc_new, beL_get 4 n t ht2, byte_nat]
    rcases (by omega : t = 0 ∨ t = 1 ∨ t = 2 ∨ t = 3) with rfl | rfl | rfl | rfl
    · show some (Value.int .u8 b0) = _
      rw [h0, show (n : Int) / 16777216 % 256 = ((n / 256 ^ (4 - 1 - 0) : Nat) : Int) % 256 from by rw [show (256 : Nat) ^ (4 - 1 - 0) = 16777216 from by decide]; omega]
    · show some (Value.int .u8 b1) = _
      rw [h1, show (n : Int) / 65536 % 256 = ((n / 256 ^ (4 - 1 - 1) : Nat) : Int) % 256 from by rw [show (256 : Nat) ^ (4 - 1 - 1) = 65536 from by decide]; omega]
    · show some (Value.int .u8 b2) = _
      rw [h2, show (n : Int) / 256 % 256 = ((n / 256 ^ (4 - 1 - 2) : Nat) : Int) % 256 from by rw [show (256 : Nat) ^ (4 - 1 - 2) = 256 from by decide]; omega]
    · show some (Value.int .u8 b3) = _
      rw [h3, show (n : Int) % 256 = ((n / 256 ^ (4 - 1 - 3) : Nat) : Int) % 256 from by rw [show (256 : Nat) ^ (4 - 1 - 3) = 1 from by decide]; omega])
  rw [beL_len] at h
  exact h

set_option maxRecDepth 4000 in
set_option maxHeartbeats 400000 in
theorem fourBytes_any (n : Nat) (w : World) (hn : n < 4294967296) :
    Calls Tryz.prog 157 #[.int .u32 n] w fun e w' => e = .returned (B (beL 4 n)) ∧ Below w.heap.size w w' := by
  obtain ⟨N, hN⟩ : ∃ N : Int, (n : Int) = N := ⟨_, rfl⟩
  have hN0 : 0 ≤ N := by omega
  have hN1 : N < 4294967296 := by omega
  have hcv := four_cells n w (N / 16777216) (N / 65536 % 256) (N / 256 % 256) (N % 256) (by rw [hN]; omega) (by rw [hN]) (by rw [hN]) (by rw [hN])
  rw [hN]
  clear hN hn
  unfold B
  go_enter Tryz.func157, Tryz.ntmps157
  go_wp2
  go_ret
  exact ⟨rfl, (Below.refl _ _).alloc (Nat.le_refl _) _⟩

theorem beL_eight (n : Nat) : beL 4 (n / 4294967296 % 4294967296) ++ beL 4 (n % 4294967296) = beL 8 n := by
  apply List.ext_getElem
  · rw [List.length_append, beL_len, beL_len, beL_len]
  · intro t h1 h2
    rw [beL_len] at h2
    rw [List.getElem_append]
    have key : ∀ t : Fin 8, ∀ n : Nat, (if t.val < 4 then n / 4294967296 % 4294967296 / 256 ^ (4 - 1 - t.val) % 256 else n % 4294967296 / 256 ^ (4 - 1 - (t.val - 4)) % 256) = n / 256 ^ (8 - 1 - t.val) % 256 := by
      intro t n
      rcases t with ⟨t, ht⟩
      rcases (by omega : t = 0 ∨ t = 1 ∨ t = 2 ∨ t = 3 ∨ t = 4 ∨ t = 5 ∨ t = 6 ∨ t = 7) with rfl | rfl | rfl | rfl | rfl | rfl | rfl | rfl <;> simp <;> omega
    have k := key ⟨t, h2⟩ n
    split
    · rename_i hlt
      rw [beL_len] at hlt
      rw [beL_get 4 _ t hlt, beL_get 8 n t h2]
      rw [if_pos hlt] at k
      rw [k]
    · rename_i hge
      rw [beL_len] at hge
      have e : (beL 4 (n / 4294967296 % 4294967296)).length = 4 := beL_len _ _
      simp only [e]
      rw [beL_get 4 _ (t - 4) (by omega), beL_get 8 n t h2]
      rw [if_neg hge] at k
      rw [k]

set_option maxHeartbeats 400000 in
theorem eightBytes_any (n : Nat) (w : World) (hn : n < 18446744073709551616) :
    Calls Tryz.prog 183 #[.int .u64 n] w fun e w' => e = .returned (B (beL 8 n)) ∧ Below w.heap.size w w' := by
  obtain ⟨N, hN⟩ : ∃ N : Int, (n : Int) = N := ⟨_, rfl⟩
  have hN0 : 0 ≤ N := by omega
  have hN1 : N < 18446744073709551616 := by omega
  have H1 : Hid (∀ w, Calls Tryz.prog 157 #[.int .u32 (N / 4294967296)] w fun e w' => e = .returned (.string ⟨(beL 4 (n / 4294967296 % 4294967296)).toArray⟩) ∧ Below w.heap.size w w') := fun w => by
    have e : N / 4294967296 = ((n / 4294967296 % 4294967296 : Nat) : Int) := by rw [← hN]; omega
    rw [e]; exact fourBytes_any _ w (by omega)
  have H2 : Hid (∀ w, Calls Tryz.prog 157 #[.int .u32 (N % 4294967296)] w fun e w' => e = .returned (.string ⟨(beL 4 (n % 4294967296)).toArray⟩) ∧ Below w.heap.size w w') := fun w => by
    have e : N % 4294967296 = ((n % 4294967296 : Nat) : Int) := by rw [← hN]; omega
    rw [e]; exact fourBytes_any _ w (by omega)
  have HE : Hid ((⟨(beL 4 (n / 4294967296 % 4294967296)).toArray⟩ : ByteArray) ++ ⟨(beL 4 (n % 4294967296)).toArray⟩ = ⟨(beL 8 n).toArray⟩) := by
    show (⟨(beL 4 (n / 4294967296 % 4294967296)).toArray⟩ : ByteArray) ++ ⟨(beL 4 (n % 4294967296)).toArray⟩ = ⟨(beL 8 n).toArray⟩
    rw [bapp, beL_eight]
  obtain ⟨l1, hl1, hll1⟩ : ∃ l : List UInt8, beL 4 (n / 4294967296 % 4294967296) = l ∧ l.length = 4 := ⟨_, rfl, beL_len _ _⟩
  obtain ⟨l2, hl2, hll2⟩ : ∃ l : List UInt8, beL 4 (n % 4294967296) = l ∧ l.length = 4 := ⟨_, rfl, beL_len _ _⟩
  rw [hl1] at H1 HE
  rw [hl2] at H2 HE
  clear hl1 hl2
  rw [hN]
  clear hN hn
  unfold B
  go_enter Tryz.func183, Tryz.ntmps183
  go_wp2_with fail
  refine (H1.out _).mono ?_
  rintro e w1 ⟨rfl, hB⟩
  have HB : Hid (Below w.heap.size w w1) := hB
  clear hB
  go_wp2_with fail
  refine (H2.out _).mono ?_
  rintro e w2 ⟨rfl, hB⟩
  have HB2 : Hid (Below w.heap.size w w2) := HB.out.trans (hB.mono HB.out.size)
  clear hB
  go_wp2
  go_ret
  exact ⟨ret_str HE.out, HB2.out⟩

/-! Padding, both ways. -/
def padN (n : Nat) : Nat := (4 - n % 4) % 4

theorem noughts3 (k : Nat) (h : k ≤ 3) : (⟨#[0, 0, 0]⟩ : ByteArray).extract 0 k = ⟨(List.replicate k (0 : UInt8)).toArray⟩ := by
  have : ∀ k : Fin 4, (⟨#[0, 0, 0]⟩ : ByteArray).extract 0 k.val = ⟨(List.replicate k.val (0 : UInt8)).toArray⟩ := by decide
  exact this ⟨k, by omega⟩

set_option maxHeartbeats 400000 in
theorem padding_core (n z : Int) (w : World) (h0 : -9223372036854775807 ≤ n) (h1 : n ≤ 9223372036854775807) (hz : bits .and .i64 (-n) 3 = z) (hz0 : 0 ≤ z) (hz1 : z ≤ 3) :
    Calls Tryz.prog 161 #[.int .i64 n] w fun e w' => e = .returned (.string ((⟨#[0, 0, 0]⟩ : ByteArray).extract 0 z.toNat)) ∧ w' = w := by
  go_enter Tryz.func161, Tryz.ntmps161
  go_wp2
  go_ret
  exact ⟨rfl, rfl⟩



end Go.Proofs.YtfcbjcebkahehaaGreatDoor
namespace Go.Proofs.YtfcbjcebkahehaaGreatDoor
open Go.RowKit
/-- The lowest bits of a whole number. -/
theorem i64_mask (n : Int) (k : Nat) (hk : k < 63) : bits .and .i64 n ((2 ^ k - 1 : Nat) : Int) = n % ((2 ^ k : Nat) : Int) := by
  have hp : 2 ^ k ≤ 2 ^ 62 := Nat.pow_le_pow_right (by omega) (by omega)
  have e62 : (2 : Nat) ^ 62 = 4611686018427387904 := by decide
  have hpos := Nat.two_pow_pos k
  have hm0 := Int.emod_nonneg n (show ((2 ^ k : Nat) : Int) ≠ 0 by omega)
  have hm1 := Int.emod_lt_of_pos n (show (0 : Int) < ((2 ^ k : Nat) : Int) by omega)
  unfold bits
  have e : (BitVec.ofInt IntKind.i64.bits n &&& BitVec.ofInt IntKind.i64.bits ((2 ^ k - 1 : Nat) : Int)).toNat = (n % ((2 ^ k : Nat) : Int)).toNat := by
    rw [BitVec.toNat_and]
    show (BitVec.ofInt 64 n).toNat &&& (BitVec.ofInt 64 ((2 ^ k - 1 : Nat) : Int)).toNat = _
    rw [BitVec.toNat_ofInt, BitVec.toNat_ofInt]
    have h1 : (((2 ^ k - 1 : Nat) : Int) % ((2 ^ 64 : Nat) : Int)).toNat = 2 ^ k - 1 := by
      rw [Int.emod_eq_of_lt (by omega) (by rw [show (2 : Nat) ^ 64 = 18446744073709551616 from by decide]; omega)]; omega
    rw [h1, Nat.and_two_pow_sub_one_eq_mod]
    have h2 : ((n % ((2 ^ 64 : Nat) : Int)).toNat : Int) = n % ((2 ^ 64 : Nat) : Int) := Int.toNat_of_nonneg (Int.emod_nonneg _ (by decide))
    have h3 : (2 ^ k : Nat) ∣ 2 ^ 64 := Nat.pow_dvd_pow 2 (by omega)
    have h4 : n % ((2 ^ 64 : Nat) : Int) % ((2 ^ k : Nat) : Int) = n % ((2 ^ k : Nat) : Int) := Int.emod_emod_of_dvd n (Int.natCast_dvd_natCast.2 h3)
    have h5 : (((n % ((2 ^ 64 : Nat) : Int)).toNat % 2 ^ k : Nat) : Int) = n % ((2 ^ k : Nat) : Int) := by
      rw [Int.natCast_emod, h2, h4]
    omega
  show IntKind.i64.wrap (((BitVec.ofInt IntKind.i64.bits n &&& BitVec.ofInt IntKind.i64.bits ((2 ^ k - 1 : Nat) : Int)).toNat : Nat) : Int) = _
  rw [e, Int.toNat_of_nonneg hm0, IntKind.wrap_i64]
  rw [e62] at hp
  have hlt : n % ((2 ^ k : Nat) : Int) < 4611686018427387904 := by omega
  generalize n % ((2 ^ k : Nat) : Int) = z at *
  omega

theorem i64_and3 (n : Int) : bits .and .i64 n 3 = n % 4 := i64_mask n 2 (by omega)

/-- The bytes of a whole number, one below 0 as the number that is so much greater. -/
def byL (S : Nat) (n : Int) : List UInt8 := beL S (n % ((256 ^ S : Nat) : Int)).toNat

/-- The noughts behind so many bytes. -/
def padL (n : Nat) : List UInt8 := List.replicate (padN n) 0

theorem padding_any (n : Nat) (w : World) (h : (n : Int) ≤ 9223372036854775807) : Calls Tryz.prog 161 #[.int .i64 n] w fun e w' => e = .returned (B (padL n)) ∧ w' = w := by
  have hz : bits .and .i64 (-(n : Int)) 3 = ((padN n : Nat) : Int) := by
    rw [i64_and3]; unfold padN; omega
  have hp : padN n ≤ 3 := by unfold padN; omega
  have r := padding_core (n : Int) _ w (by omega) h hz (by omega) (by omega)
  rw [Int.toNat_natCast, noughts3 _ hp] at r
  exact r


end Go.Proofs.YtfcbjcebkahehaaGreatDoor
namespace Go.Proofs.YtfcbjcebkahehaaGreatDoor
open Go.RowKit
/-- All blocks below the heap's end but one are as they were. -/
structure Only (p : Nat) (w w' : World) : Prop where
  os : w'.os = w.os
  tape : w'.tape = w.tape
  output : w'.output = w.output
  size : w.heap.size ≤ w'.heap.size
  block : ∀ b, b < w.heap.size → b ≠ p → w'.heap[b]? = w.heap[b]?

theorem Only.refl (p : Nat) (w : World) : Only p w w := ⟨rfl, rfl, rfl, Nat.le_refl _, fun _ _ _ => rfl⟩
theorem Only.trans {p : Nat} {a b c : World} (h : Only p a b) (k : Only p b c) : Only p a c :=
  ⟨k.os.trans h.os, k.tape.trans h.tape, k.output.trans h.output, Nat.le_trans h.size k.size, fun i hi hp => (k.block i (Nat.lt_of_lt_of_le hi h.size) hp).trans (h.block i hi hp)⟩
theorem Only.of_below {p : Nat} {a b : World} (h : Below a.heap.size a b) : Only p a b := ⟨h.os, h.tape, h.output, h.size, fun i hi _ => h.block i hi⟩
theorem Only.drewN (p : Nat) (w : World) (k : Nat) : Only p w (w.drewN k) := Only.of_below (below_drewN (Below.refl _ _) k)
theorem Only.setCell {p : Nat} (w : World) (o : Nat) (v : Value) : Only p w (w.setCell ⟨p, o, none⟩ v) :=
  ⟨rfl, rfl, rfl, by simp [World.setCell], fun b _ hb => Below.heap_setCell _ _ _ _ hb⟩

/-- A Writer of the document's: what it holds, how much it may, what was wrong first. -/
structure RW (w : World) (p : Nat) (S : ByteArray) (M E : Int) : Prop where
  s : w.cell? ⟨p, 0, none⟩ = some (.string S)
  m : w.cell? ⟨p, 1, none⟩ = some (.int .i64 M)
  e : w.cell? ⟨p, 2, none⟩ = some (.int .i64 E)
  f0 : w.frozen? ⟨p, 0, none⟩ = false
  f1 : w.frozen? ⟨p, 1, none⟩ = false
  f2 : w.frozen? ⟨p, 2, none⟩ = false

theorem RW.lt {w : World} {p : Nat} {S : ByteArray} {M E : Int} (h : RW w p S M E) : p < w.heap.size := by
  rcases Nat.lt_or_ge p w.heap.size with h1 | h1
  · exact h1
  · have := h.s
    simp [World.cell?, Array.getElem?_eq_none h1] at this

theorem RW.drewN {w : World} {p : Nat} {S : ByteArray} {M E : Int} (h : RW w p S M E) (k : Nat) : RW (w.drewN k) p S M E :=
  ⟨h.s, h.m, h.e, h.f0, h.f1, h.f2⟩

theorem RW.setE {w : World} {p : Nat} {S : ByteArray} {M E : Int} (h : RW w p S M E) (F : Int) : RW (w.setCell ⟨p, 2, none⟩ (.int .i64 F)) p S M F :=
  ⟨by rw [World.cell?_setCell_other _ _ _ _ (by simp)]; exact h.s, by rw [World.cell?_setCell_other _ _ _ _ (by simp)]; exact h.m, World.cell?_setCell_same _ _ _ h.e,
   by rw [World.frozen?_setCell]; exact h.f0, by rw [World.frozen?_setCell]; exact h.f1, by rw [World.frozen?_setCell]; exact h.f2⟩

/-- What laying a text does. -/
def rlay (M : Int) (S : ByteArray) (E : Int) (s : ByteArray) : ByteArray × Int := if E ≠ 0 then (S, E) else if M < (S.size : Int) + (s.size : Int) then (S, 23) else (S ++ s, 0)

/-- The first that is wrong stays. -/
def firstE (E F : Int) : Int := if E = 0 then F else E

end Go.Proofs.YtfcbjcebkahehaaGreatDoor
namespace Go.Proofs.YtfcbjcebkahehaaGreatDoor
open Go.RowKit
theorem RW.of_block {w w' : World} {p : Nat} {S : ByteArray} {M E : Int} (h : RW w p S M E) (hb : w'.heap[p]? = w.heap[p]?) : RW w' p S M E := by
  obtain ⟨h1, h2, h3, h4, h5, h6⟩ := h
  refine ⟨?_, ?_, ?_, ?_, ?_, ?_⟩ <;> unfold World.cell? World.frozen? at * <;> simp only [hb] <;> assumption
theorem RW.below {w w' : World} {p : Nat} {S : ByteArray} {M E : Int} (h : RW w p S M E) (hb : Below w.heap.size w w') : RW w' p S M E := h.of_block (hb.block p h.lt)

theorem bL_size (l : List UInt8) : ((⟨l.toArray⟩ : ByteArray).size : Int) = l.length := by rw [size_bytes]
theorem byL_len (k : Nat) (n : Int) : (byL k n).length = k := by unfold byL; exact beL_len _ _


end Go.Proofs.YtfcbjcebkahehaaGreatDoor
namespace Go.Proofs.YtfcbjcebkahehaaGreatDoor
open Go.RowKit
theorem padL_len (n : Nat) : (padL n).length ≤ 3 := by unfold padL padN; rw [List.length_replicate]; omega


end Go.Proofs.YtfcbjcebkahehaaGreatDoor
namespace Go.Proofs.YtfcbjcebkahehaaGreatDoor
open Go.RowKit Go.Lib
theorem info5_ex : ∃ i : TypeInfo, Tryz.prog.info? 5 = some i ∧ i.zero = some (.int .u8 0) ∧ i.size = 1 ∧ i.bytes = 1 :=
  ⟨(Tryz.prog.info? 5).getD default, by kernel_rfl, by kernel_rfl, by kernel_rfl, by kernel_rfl⟩

theorem append_at (base : Nat) (v : Value) (n : Nat) (xs : List Value) (s : ByteArray) (w : World) (ty : TypeId) (hown : w.ownsRow base 5 1 v n xs) (hb : n + s.size ≤ 140737488355328) (hbase : base ≤ w.heap.size) :
    ∃ v' w', (Builtin.append_ #[174, 9] ty #[v, .string s]).run Tryz.prog w = .ok v' w' ∧ w'.ownsRow base 5 1 v' (n + s.size) (xs ++ strCells s) ∧ w.grownBy w' v.ownBlock ∧ (v'.ownBlock = v.ownBlock ∨ v'.ownBlock = some w.heap.size) := by
  have h63 : n + s.size ≤ maxLen := Nat.le_trans hb (by decide)
  obtain ⟨info5, info5_is, info5_zero, info5_size, info5_bytes⟩ := info5_ex
  obtain ⟨v', w', hr, h1, h2, h3⟩ := run_append_own_string (P := Tryz.prog) w base 174 9 ty 5 info5 Tryz.underlying174 Tryz.underlying9 info5_is info5_zero info5_size info5_bytes v n xs hown s h63 hb hbase
  refine ⟨v', w', hr, h1, h2, ?_⟩
  have hxl : xs.length = n := by simpa using hown.1
  rcases hown.2 with ⟨rfl, rfl⟩ | ⟨g, cap, cur, rfl, hbg, hg, hnc, hcm, hcs, htake⟩
  · by_cases hm : s.size = 0
    · left
      rw [h3.2 ⟨rfl, hm⟩]
    · right
      have hr2 := run_append_nil_string (P := Tryz.prog) w 174 9 ty 5 info5 (.int .u8 0) Tryz.underlying174 Tryz.underlying9 info5_is info5_zero s (by omega) (by omega) (by rw [info5_bytes]; omega)
      rw [hr2] at hr
      cases hr
      rfl
  · by_cases hroom : n + s.size ≤ cap
    · left
      have hr2 := run_append_room_string (P := Tryz.prog) w 174 9 ty 5 info5 Tryz.underlying174 Tryz.underlying9 info5_is info5_size g n cap cur hg s hroom (by simp at hcs; omega)
      rw [hr2] at hr
      cases hr
      rfl
    · right
      have holds : ∀ j u, xs[j]? = some u → w.cell? ((⟨g, 0, none⟩ : Addr).add j) = some u := hown.cells (g := g) rfl
      have hr2 := run_append_grow_string (P := Tryz.prog) w 174 9 ty 5 info5 (.int .u8 0) Tryz.underlying174 Tryz.underlying9 info5_is info5_zero ⟨g, 0, none⟩ n cap xs (by rw [info5_size]; simpa using hxl) holds s (by omega) (by omega) (by rw [info5_bytes]; exact growslice_fits (by omega) (by omega))
      rw [hr2] at hr
      cases hr
      rfl

/-- The operation, for a walk. -/
theorem wpList_append_at {ops : Array Oper} {rest : List Oper} {o : Oper} {a : Act} {Q : Exit → Act → World → Prop} {w : World} (hgd : o.guard = none) (sl x : Operand)
    (ho : o.op = .call { callee := .builtin .append, args := #[sl, x], argTypes := #[174, 9] })
    (base : Nat) (v : Value) (n : Nat) (xs : List Value) (hs : a.eval sl = v) (hown : w.ownsRow base 5 1 v n xs) (s : ByteArray) (hx : a.eval x = .string s)
    (hb : n + s.size ≤ 140737488355328) (hbase : base ≤ w.heap.size)
    (h : ∀ v' w', w'.ownsRow base 5 1 v' (n + s.size) (xs ++ strCells s) → w.grownBy w' v.ownBlock → (v'.ownBlock = v.ownBlock ∨ v'.ownBlock = some w.heap.size) → wpList Tryz.prog ops Q rest (a.put o.dst v') w') : wpList Tryz.prog ops Q (o :: rest) a w := by
  refine wpList_plain hgd fun K hK => ?_
  obtain ⟨v', w', hr, h2, h3, h4⟩ := append_at base v n xs s w o.type hown hb hbase
  unfold Oper.wp execOp
  simp only [ho, resolve, invoke, builtin, Sem.run_bind, Sem.run_pure, Result.andThen_ok, List.map_toArray, List.map_cons, List.map_nil, hs, hx, hr]
  exact hK _ _ (h v' w' h2 h3 h4)



end Go.Proofs.YtfcbjcebkahehaaGreatDoor
