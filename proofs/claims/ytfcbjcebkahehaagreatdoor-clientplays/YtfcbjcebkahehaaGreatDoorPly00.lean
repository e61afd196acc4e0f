import Derived.Test.YtfcbjcebkahehaaGreatDoorRows
import Derived.WalkKit
import Derived.WalkSpells
import Derived.WalkLawsBesides
import Derived.Laws.FloatArith
import Derived.Laws.BitsAllLaws
import Derived.LaidEql
import Derived.Stop.Asserts
import Derived.RowKitTokens
import Derived.Below
import Derived.Lib.ItoaMem
import Derived.Deep.QuietTactic
import Derived.BigQuiet
import Derived.Lib.AppendStr
import Derived.Deep.RegionWith
set_option maxRecDepth 8000
set_option maxHeartbeats 20000000
set_option linter.unusedSimpArgs false
namespace Go.Proofs.YtfcbjcebkahehaaGreatDoor
abbrev iI (n:Int):Value:=.int .i64 n
open Go.RowKit
def B (l:List UInt8):Value:=.string ⟨l.toArray⟩
theorem bapp (a b:List UInt8):(⟨a.toArray⟩:ByteArray)++⟨b.toArray⟩=⟨(a++b).toArray⟩:=by
 apply ByteArray.ext
 simp
theorem ret_str {a b:ByteArray} (h:a=b):Ending.returned (.string a)=.returned (.string b):=by rw [h]
end Go.Proofs.YtfcbjcebkahehaaGreatDoor
namespace Go.Proofs.YtfcbjcebkahehaaGreatDoor
open Go.RowKit Go.Extern.Stop Go.Stop Go.Extern
theorem as_nil (t:Value) (w:World) :
 Calls Tryz.prog 166 #[.nilIface,t] w fun e w'=>e=.returned (.bool false)∧w'=w:=by
 go_enter Tryz.func166,Tryz.ntmps166
 go_wp2;go_ret;exact ⟨rfl,rfl⟩
theorem xa_v134 (t:Addr) (w:World):(ReflectliteValue.unpack (.iface 256 (.pointer (some t)))).run Tryz.prog w
 = .ok (.agg #[.pointer (some ⟨2,256,none⟩),.pointer (some ⟨w.heap.size,0,none⟩),.int .u64 150]) (w.alloc (.cells #[.pointer (some t)] 256)):=by kernel_rfl
theorem xa_type134 (a:Addr) (w:World):(ReflectliteValue.methodAny (ReflectliteValue.valueError "reflectlite.Value.Type" 0) (fun t _ _ _=>ReflectliteType.toType t) #[.agg #[.pointer (some ⟨2,256,none⟩),.pointer (some a),.int .u64 150]]).run Tryz.prog w
 = .ok (.iface 283 (.agg #[.pointer (some ⟨2,256,none⟩)])) w:=by kernel_rfl
theorem xa_kind134 (w:World):((ReflectliteType.abiMethod fun t=>(fun a:Nat=>Value.int IntKind.u8 (a:Int)) <$> Rtype.kind t) #[.pointer (some ⟨2,256,none⟩)]).run Tryz.prog w=.ok (.int .u8 22) w:=by kernel_rfl
theorem xa_kind132 (w:World):((ReflectliteType.abiMethod fun t=>(fun a:Nat=>Value.int IntKind.u8 (a:Int)) <$> Rtype.kind t) #[.pointer (some ⟨2,244,none⟩)]).run Tryz.prog w=.ok (.int .u8 25) w:=by kernel_rfl
theorem zfq (a:Addr) (w:World):(ReflectliteValue.parts (.agg #[.pointer (some ⟨2,256,none⟩),.pointer (some a),.int .u64 150])).run Tryz.prog w=.ok (some (256,a,150)) w:=by kernel_rfl
theorem xa_isNil134 (a p:Addr) (W:World) (ha:W.cell? a=some (.pointer (some p))) :
 (ReflectliteValue.method (ReflectliteValue.valueError "reflectlite.Value.IsNil" 0) ReflectliteValue.isNil #[.agg #[.pointer (some ⟨2,256,none⟩),.pointer (some a),.int .u64 150]]).run Tryz.prog W=.ok (.bool false) W:=by
 show (Bind.bind (ReflectliteValue.parts (.agg #[.pointer (some ⟨2,256,none⟩),.pointer (some a),.int .u64 150])) _:Sem Value).run Tryz.prog W=_;simp only [Sem.run_bind,zfq,Result.andThen];simp [ReflectliteValue.isNil,loadVar,isAgg,underlying,Tryz.underlying256,ha,Result.andThen]
theorem xa_elem134 (w:World):(ReflectliteType.method ReflectliteType.elem #[.agg #[.pointer (some ⟨2,256,none⟩)]]).run Tryz.prog w=.ok (.iface 283 (.agg #[.pointer (some ⟨2,244,none⟩)])) w:=by kernel_rfl
theorem ze8 (w:World):(ReflectliteType.relation "Implements" ReflectliteType.implements_ #[.agg #[.pointer (some ⟨2,244,none⟩)],.iface 283 (.agg #[.pointer (some ⟨2,177,none⟩)])]).run Tryz.prog w=.ok (.bool true) w:=by kernel_rfl
theorem xa_typeOf132 (v:Value) (w:World):(ReflectliteType.typeOf #[.iface 244 v]).run Tryz.prog w=.ok (.iface 283 (.agg #[.pointer (some ⟨2,244,none⟩)])) w:=by kernel_rfl
theorem ze9 (w:World):(ReflectliteType.relation "AssignableTo" ReflectliteType.assignableTo #[.agg #[.pointer (some ⟨2,244,none⟩)],.iface 283 (.agg #[.pointer (some ⟨2,244,none⟩)])]).run Tryz.prog w=.ok (.bool true) w:=by kernel_rfl
theorem xa_v132 (n:Int) (w:World):(ReflectliteValue.unpack (.iface 244 (.agg #[iI n]))).run Tryz.prog w
 = .ok (.agg #[.pointer (some ⟨2,244,none⟩),.pointer (some ⟨w.heap.size,0,none⟩),.int .u64 153]) (w.alloc (.cells #[iI n] 244)):=by kernel_rfl
theorem xa_elemOf134 (w:World):(Rtype.elem? 256).run Tryz.prog w=.ok (some 244) w:=by kernel_rfl
theorem xa_mk132 (p:Addr) (w:World):(ReflectliteValue.mk 244 p ReflectliteValue.flagAddr).run Tryz.prog w=.ok (.agg #[.pointer (some ⟨2,244,none⟩),.pointer (some p),.int .u64 409]) w:=by kernel_rfl
theorem xa_elemV134 (a p:Addr) (W:World) (ha:W.cell? a=some (.pointer (some p))) :
 (ReflectliteValue.method (ReflectliteValue.valueError "reflectlite.Value.Elem" 0) ReflectliteValue.elem #[.agg #[.pointer (some ⟨2,256,none⟩),.pointer (some a),.int .u64 150]]).run Tryz.prog W
   = .ok (.agg #[.pointer (some ⟨2,244,none⟩),.pointer (some p),.int .u64 409]) W:=by
 show (Bind.bind (ReflectliteValue.parts (.agg #[.pointer (some ⟨2,256,none⟩),.pointer (some a),.int .u64 150])) _:Sem Value).run Tryz.prog W=_;simp only [Sem.run_bind,zfq,Result.andThen];simp [ReflectliteValue.elem,loadVar,isAgg,underlying,Tryz.underlying256,ha,Result.andThen,xa_elemOf134,xa_mk132]
theorem xa_parts132a (a:Addr) (w:World):(ReflectliteValue.parts (.agg #[.pointer (some ⟨2,244,none⟩),.pointer (some a),.int .u64 409])).run Tryz.prog w=.ok (some (244,a,409)) w:=by kernel_rfl
theorem xa_parts132 (a:Addr) (w:World):(ReflectliteValue.parts (.agg #[.pointer (some ⟨2,244,none⟩),.pointer (some a),.int .u64 153])).run Tryz.prog w=.ok (some (244,a,153)) w:=by kernel_rfl
theorem xa_direct132 (w:World):(Rtype.directlyAssignable 244 244).run Tryz.prog w=.ok true w:=by kernel_rfl
theorem xa_set132 (ta b:Addr) (n:Int) (old:Value) (W:World) (hb:W.cell? b=some (iI n)) (ht:W.cell? ta=some old) (hf:W.frozen? ta=false) :
 (ReflectliteValue.set #[.agg #[.pointer (some ⟨2,244,none⟩),.pointer (some ta),.int .u64 409],.agg #[.pointer (some ⟨2,244,none⟩),.pointer (some b),.int .u64 153]]).run Tryz.prog W
   = .ok (.tuple #[]) (W.setCell ta (iI n)):=by
 show (Bind.bind (ReflectliteValue.parts (.agg #[.pointer (some ⟨2,244,none⟩),.pointer (some ta),.int .u64 409])) _:Sem Value).run Tryz.prog W=_;simp only [Sem.run_bind,xa_parts132a,Result.andThen]
 have hl:=run_loadCells_list (P:=Tryz.prog) W b [iI n] (fun j v hj=>by
  cases j with
  | zero=>cases hj;exact hb
  | succ j=>cases hj)
 simp only [List.length_singleton] at hl;simp [Array.getLit,xa_parts132,ReflectliteValue.flagAddr,loadVar,isAgg,underlying,Tryz.underlying244,Result.andThen,xa_direct132,storeVar,Value.cells,storeCells,Addr.add,hl]
 rw [run_store Tryz.prog W ta _ _ (by rfl)];simp [ht,hf]
theorem xa_mKind (h:Value) (w:World):(Go.method 432 283 (.agg #[h]) "Kind").run Tryz.prog w=.ok (219,h) w:=by kernel_rfl
theorem xa_mElem (h:Value) (w:World):(Go.method 432 283 (.agg #[h]) "Elem").run Tryz.prog w=.ok (254,.agg #[h]) w:=by kernel_rfl
theorem xa_mImpl (h:Value) (w:World):(Go.method 432 283 (.agg #[h]) "Implements").run Tryz.prog w=.ok (255,.agg #[h]) w:=by kernel_rfl
theorem xa_mAssg (h:Value) (w:World):(Go.method 432 283 (.agg #[h]) "AssignableTo").run Tryz.prog w=.ok (252,.agg #[h]) w:=by kernel_rfl
def xaW (n:Int) (t:Addr) (w:World):World :=
 (((w.alloc (.cells #[.pointer (some t)] 256)).alloc (.cells #[.pointer (some ⟨2,256,none⟩),.pointer (some ⟨w.heap.size,0,none⟩),.int .u64 150] 268)).alloc (.cells #[.pointer (some ⟨2,256,none⟩),.pointer (some ⟨w.heap.size,0,none⟩),.int .u64 150] 268)).alloc (.cells #[iI n] 244)
theorem as_hit (n:Int) (t:Addr) (old:Value) (w:World) (hg:w.cell? ⟨1,0,none⟩=some (.iface 283 (.agg #[.pointer (some ⟨2,177,none⟩)]))) (ht0:w.cell? t=some old) (hf0:w.frozen? t=false) :
 Calls Tryz.prog 166 #[.iface 244 (.agg #[iI n]),.iface 256 (.pointer (some t))] w fun ev w'=>ev=.returned (.bool true)∧w'=(xaW n t w).setCell t (iI n):=by
 unfold xaW;have h138:=@run_callFunc_extern Tryz.prog 178 _ (fun args=>ReflectliteValue.unpack (args.getD 0 (.tuple #[]))) Tryz.func178 (by kernel_rfl) (by kernel_rfl) (by kernel_rfl) (by kernel_rfl)
 have h139:=@run_callFunc_extern Tryz.prog 179 _ (ReflectliteValue.methodAny (ReflectliteValue.valueError "reflectlite.Value.Type" 0) (fun t _ _ _=>ReflectliteType.toType t)) Tryz.func179 (by kernel_rfl) (by kernel_rfl) (by kernel_rfl) (by kernel_rfl)
 have h140:=@run_callFunc_extern Tryz.prog 180 _ (ReflectliteValue.method (ReflectliteValue.valueError "reflectlite.Value.IsNil" 0) ReflectliteValue.isNil) Tryz.func180 (by kernel_rfl) (by kernel_rfl) (by kernel_rfl) (by kernel_rfl)
 have h186:=@run_callFunc_extern Tryz.prog 219 _ (ReflectliteType.abiMethod fun t=>do pure (.int .u8 (← Rtype.kind t))) Tryz.func219 (by kernel_rfl) (by kernel_rfl) (by kernel_rfl) (by kernel_rfl);have h197:=@run_callFunc_extern Tryz.prog 254 _ (ReflectliteType.method ReflectliteType.elem) Tryz.func254 (by kernel_rfl) (by kernel_rfl) (by kernel_rfl) (by kernel_rfl)
 have h198:=@run_callFunc_extern Tryz.prog 255 _ (ReflectliteType.relation "Implements" ReflectliteType.implements_) Tryz.func255 (by kernel_rfl) (by kernel_rfl) (by kernel_rfl) (by kernel_rfl)
 have h152:=@run_callFunc_extern Tryz.prog 190 _ ReflectliteType.typeOf Tryz.func190 (by kernel_rfl) (by kernel_rfl) (by kernel_rfl) (by kernel_rfl)
 have h195:=@run_callFunc_extern Tryz.prog 252 _ (ReflectliteType.relation "AssignableTo" ReflectliteType.assignableTo) Tryz.func252 (by kernel_rfl) (by kernel_rfl) (by kernel_rfl) (by kernel_rfl)
 have h153:=@run_callFunc_extern Tryz.prog 191 _ (ReflectliteValue.method (ReflectliteValue.valueError "reflectlite.Value.Elem" 0) ReflectliteValue.elem) Tryz.func191 (by kernel_rfl) (by kernel_rfl) (by kernel_rfl) (by kernel_rfl)
 have h154:=@run_callFunc_extern Tryz.prog 192 _ ReflectliteValue.set Tryz.func192 (by kernel_rfl) (by kernel_rfl) (by kernel_rfl) (by kernel_rfl);have tO:=xa_typeOf132;have mA:=xa_mAssg;have a1:=ze9;have v1:=xa_v132;have v2:=xa_v134;have t1:=xa_type134;have mK:=xa_mKind;have mE:=xa_mElem;have mI:=xa_mImpl;have k1:=xa_kind134;have k2:=xa_kind132;have e1:=xa_elem134;have i1:=ze8;have n8:=xa_isNil134 ⟨w.heap.size,0,none⟩ t ((w.alloc (.cells #[.pointer (some t)] 256)).alloc (.cells #[.pointer (some ⟨2,256,none⟩),.pointer (some ⟨w.heap.size,0,none⟩),.int .u64 150] 268)) (by simp);have hlt:1<w.heap.size:=by
  rcases Nat.lt_or_ge 1 w.heap.size with h|h
  · exact h
  · simp [World.cell?,Array.getElem?_eq_none h] at hg
 have hg2:((w.alloc (.cells #[.pointer (some t)] 256)).alloc (.cells #[.pointer (some ⟨2,256,none⟩),.pointer (some ⟨w.heap.size,0,none⟩),.int .u64 150] 268)).cell? ⟨1,0,none⟩=some (.iface 283 (.agg #[.pointer (some ⟨2,177,none⟩)])):=by
  rw [World.cell?_alloc_lt _ _ ⟨1,0,none⟩ (by simp <;> omega),World.cell?_alloc_lt _ _ ⟨1,0,none⟩ hlt];exact hg
 have htl:t.block<w.heap.size:=by
  rcases Nat.lt_or_ge t.block w.heap.size with h|h
  · exact h
  · simp [World.cell?,Array.getElem?_eq_none h] at ht0
 have el:=xa_elemV134 ⟨w.heap.size,0,none⟩ t (((w.alloc (.cells #[.pointer (some t)] 256)).alloc (.cells #[.pointer (some ⟨2,256,none⟩),.pointer (some ⟨w.heap.size,0,none⟩),.int .u64 150] 268)).alloc (.cells #[.pointer (some ⟨2,256,none⟩),.pointer (some ⟨w.heap.size,0,none⟩),.int .u64 150] 268))
  (by rw [World.cell?_alloc_lt _ _ ⟨w.heap.size,0,none⟩ (by simp <;> omega),World.cell?_alloc_lt _ _ ⟨w.heap.size,0,none⟩ (by simp),World.cell?_alloc_new];rfl)
 have st:=xa_set132 t ⟨w.heap.size+1+1+1,0,none⟩ n old ((((w.alloc (.cells #[.pointer (some t)] 256)).alloc (.cells #[.pointer (some ⟨2,256,none⟩),.pointer (some ⟨w.heap.size,0,none⟩),.int .u64 150] 268)).alloc (.cells #[.pointer (some ⟨2,256,none⟩),.pointer (some ⟨w.heap.size,0,none⟩),.int .u64 150] 268)).alloc (.cells #[iI n] 244))
  (by rw [World.cell?_alloc_at _ _ _ _ (by simp)];rfl)
  (by rw [World.cell?_alloc_lt _ _ t (by simp <;> omega),World.cell?_alloc_lt _ _ t (by simp <;> omega),World.cell?_alloc_lt _ _ t (by simp <;> omega),World.cell?_alloc_lt _ _ t htl];exact ht0)
  (by rw [World.frozen?_alloc_old _ _ t (by simp <;> omega),World.frozen?_alloc_old _ _ t (by simp <;> omega),World.frozen?_alloc_old _ _ t (by simp <;> omega),World.frozen?_alloc_old _ _ t (Nat.ne_of_lt htl)];exact hf0)
 go_enter Tryz.func166,Tryz.ntmps166
 go_wp2;refine wp_loop_rounds 1 ?_;rw [rounds_succ];go_wp2;go_ret;exact ⟨rfl,rfl⟩
def trV (e:Int):Value:=if e=0 then .nilIface else .iface 244 (.agg #[iI e])
theorem eql_iface (v:Value) (w:World):(binOp .eql 177 (.iface 244 v) .nilIface).run Tryz.prog w=.ok (.bool false) w:=by kernel_rfl
theorem neq_iface (v:Value) (w:World):(binOp .neq 177 (.iface 244 v) .nilIface).run Tryz.prog w=.ok (.bool true) w:=by kernel_rfl
theorem faultOf_zero (w:World):Calls Tryz.prog 154 #[iI 0] w fun e w'=>e=.returned (trV 0)∧w'=w:=by
 go_enter Tryz.func154,Tryz.ntmps154
 go_wp2;go_ret;exact ⟨rfl,rfl⟩
theorem zh4 (e:Int) (w:World) (h:e≠0):Calls Tryz.prog 154 #[iI e] w fun r w'=>r=.returned (trV e)∧w'=w:=by
 have hb:(e==0)=false:=beq_eq_false_iff_ne.2 h;have hT:Hid (trV e=.iface 244 (.agg #[iI e])):=by show trV e=_;unfold trV;rw [if_neg h]
 clear h;rw [hT.out];go_enter Tryz.func154,Tryz.ntmps154
 go_wp2;go_ret;exact ⟨rfl,rfl⟩
theorem zda (e:Int) (w:World):Calls Tryz.prog 154 #[iI e] w fun r w'=>r=.returned (trV e)∧w'=w:=by
 by_cases h:e=0
 · subst h;exact faultOf_zero w
 · exact zh4 e w h
theorem note_nil (tp:Addr) (w:World) (hc:w.cell? tp=some .nilIface) (hf:w.frozen? tp=false) :
 Calls Tryz.prog 153 #[.pointer (some tp),.nilIface] w fun r w'=>r=.returned (.tuple #[])∧w'=w.setCell tp .nilIface:=by
 go_enter Tryz.func153,Tryz.ntmps153
 go_wp2;first|go_end0|refine bodyPost_ret (results_none rfl _ _ _) rfl ?_
 exact ⟨rfl,rfl⟩
theorem note_fault (tp:Addr) (x:Int) (w:World) (hc:w.cell? tp=some .nilIface) (hf:w.frozen? tp=false) :
 Calls Tryz.prog 153 #[.pointer (some tp),.iface 244 (.agg #[iI x])] w fun r w'=>r=.returned (.tuple #[])∧w'=w.setCell tp (.iface 244 (.agg #[iI x])):=by
 go_enter Tryz.func153,Tryz.ntmps153
 go_wp2;first|go_end0|refine bodyPost_ret (results_none rfl _ _ _) rfl ?_
 exact ⟨rfl,rfl⟩
theorem note_first (tp:Addr) (e:Int) (w:World) (hc:w.cell? tp=some (trV 0)) (hf:w.frozen? tp=false) :
 Calls Tryz.prog 153 #[.pointer (some tp),trV e] w fun r w'=>r=.returned (.tuple #[])∧w'=w.setCell tp (trV e):=by
 have hc2:w.cell? tp=some .nilIface:=hc;unfold trV;by_cases h:e=0
 · rw [if_pos h];exact note_nil tp w hc2 hf
 · rw [if_neg h];exact note_fault tp e w hc2 hf
theorem note_later (tp:Addr) (v x:Value) (w:World) (hc:w.cell? tp=some (.iface 244 x)) :
 Calls Tryz.prog 153 #[.pointer (some tp),v] w fun r w'=>r=.returned (.tuple #[])∧w'=w:=by
 have q:=eql_iface x;go_enter Tryz.func153,Tryz.ntmps153
 go_wp2;first|go_end0|refine bodyPost_ret (results_none rfl _ _ _) rfl ?_
 exact ⟨rfl,rfl⟩
theorem any_no (tp:Addr) (w:World) (hc:w.cell? tp=some .nilIface):Calls Tryz.prog 134 #[.pointer (some tp)] w fun r w'=>r=.returned (.bool false)∧w'=w:=by
 go_enter Tryz.func134,Tryz.ntmps134
 go_wp2;go_ret;exact ⟨rfl,rfl⟩
theorem any_yes (tp:Addr) (x:Value) (w:World) (hc:w.cell? tp=some (.iface 244 x)):Calls Tryz.prog 134 #[.pointer (some tp)] w fun r w'=>r=.returned (.bool true)∧w'=w:=by
 have q:=neq_iface x;go_enter Tryz.func134,Tryz.ntmps134
 go_wp2;go_ret;exact ⟨rfl,rfl⟩
theorem zia (tp:Addr) (e:Int) (w:World) (hc:w.cell? tp=some (trV e)):Calls Tryz.prog 134 #[.pointer (some tp)] w fun r w'=>r=.returned (.bool (e != 0))∧w'=w:=by
 unfold trV at hc;by_cases h:e=0
 · rw [if_pos h] at hc;subst h;exact any_no tp w hc
 · rw [if_neg h] at hc;have:(e != 0)=true:=by rw [bne_iff_ne];exact h
   rw [this];exact any_yes tp _ w hc
theorem number_no (tp:Addr) (w:World) (hc:w.cell? tp=some .nilIface):Calls Tryz.prog 135 #[.pointer (some tp)] w fun r w'=>r=.returned (iI 0)∧Below w.heap.size w w':=by
 have hlt:tp.block<w.heap.size:=by
  rcases Nat.lt_or_ge tp.block w.heap.size with h|h
  · exact h
  · simp [World.cell?,Array.getElem?_eq_none h] at hc
 have hc2:∀ o,(w.alloc o).cell? tp=some .nilIface:=fun o=>by rw [World.cell?_alloc_lt _ _ tp hlt];exact hc
 go_enter Tryz.func135,Tryz.ntmps135
 go_wp2_with (go_at_call 166;refine (as_nil _ _).mono ?_;rintro e w' ⟨rfl,rfl⟩)
 go_ret;exact ⟨rfl,(Below.refl _ _).alloc (Nat.le_refl _) _⟩
def ErrT (w:World):Prop:=w.cell? ⟨1,0,none⟩=some (.iface 283 (.agg #[.pointer (some ⟨2,177,none⟩)]))
theorem ErrT.size {w:World} (h:ErrT w):1<w.heap.size:=by
 rcases Nat.lt_or_ge 1 w.heap.size with h1|h1
 · exact h1
 · unfold ErrT at h;simp [World.cell?,Array.getElem?_eq_none h1] at h
theorem ErrT.below {w w' : World} (h:ErrT w) (hb:Below w.heap.size w w'):ErrT w':=by
 have hs:=h.size;unfold ErrT at *;rw [hb.cell (p:=⟨1,0,none⟩) (show 1<w.heap.size from hs)];exact h
theorem number_yes (tp:Addr) (x:Int) (w:World) (hE:ErrT w) (hc:w.cell? tp=some (.iface 244 (.agg #[iI x]))):Calls Tryz.prog 135 #[.pointer (some tp)] w fun r w'=>r=.returned (iI x)∧Below w.heap.size w w':=by
 have hlt:tp.block<w.heap.size:=by
  rcases Nat.lt_or_ge tp.block w.heap.size with h|h
  · exact h
  · simp [World.cell?,Array.getElem?_eq_none h] at hc
 have hc2:∀ o,(w.alloc o).cell? tp=some (.iface 244 (.agg #[iI x])):=fun o=>by rw [World.cell?_alloc_lt _ _ tp hlt];exact hc
 have h1:Hid ((w.alloc (.cells #[iI 0] 244)).cell? ⟨w.heap.size,0,none⟩=some (iI 0)):=World.cell?_alloc_new w _ _ 0;have h2:Hid ((w.alloc (.cells #[iI 0] 244)).frozen? ⟨w.heap.size,0,none⟩=false):=World.frozen?_alloc_new _ _ _ _;have hE2:Hid (ErrT (w.alloc (.cells #[iI 0] 244))):=hE.below ((Below.refl _ _).alloc (Nat.le_refl _) _);have hcell:Hid (((xaW x ⟨w.heap.size,0,none⟩ (w.alloc (.cells #[iI 0] 244))).setCell ⟨w.heap.size,0,none⟩ (iI x)).cell? ⟨w.heap.size,0,none⟩=some (iI x)):=by
  suffices h0:(xaW x ⟨w.heap.size,0,none⟩ (w.alloc (.cells #[iI 0] 244))).cell? ⟨w.heap.size,0,none⟩=some (iI 0) from World.cell?_setCell_same _ _ _ h0
  unfold xaW;rw [World.cell?_alloc_lt _ _ ⟨w.heap.size,0,none⟩ (by simp;omega),World.cell?_alloc_lt _ _ ⟨w.heap.size,0,none⟩ (by simp;omega),World.cell?_alloc_lt _ _ ⟨w.heap.size,0,none⟩ (by simp;omega),World.cell?_alloc_lt _ _ ⟨w.heap.size,0,none⟩ (by simp)];exact h1.out
 have hB:Hid (Below w.heap.size w ((xaW x ⟨w.heap.size,0,none⟩ (w.alloc (.cells #[iI 0] 244))).setCell ⟨w.heap.size,0,none⟩ (iI x))):=by
  show Below w.heap.size w _;unfold xaW;refine Below.setCell (p:=⟨w.heap.size,0,none⟩) ?_ (Nat.le_refl _) _;refine Below.alloc (Below.alloc (Below.alloc (Below.alloc (Below.alloc (Below.refl _ _) (Nat.le_refl _) _) ?_ _) ?_ _) ?_ _) ?_ _ <;> simp <;> omega
 clear hE;go_enter Tryz.func135,Tryz.ntmps135
 go_wp2_with fail
 refine (as_hit x ⟨w.heap.size,0,none⟩ (iI 0) _ hE2.out h1.out h2.out).mono ?_;rintro e w' ⟨rfl,hw⟩;have hcl:=hcell.out;have hbl:=hB;rw [<- hw] at hcl hbl;clear hw hB hcell h1 h2 hE2 hc2;go_wp2;go_ret;exact ⟨rfl,hbl.out⟩
theorem zg3 (tp:Addr) (x:Int) (w:World) (hE:ErrT w) (hc:w.cell? tp=some (trV x)):Calls Tryz.prog 135 #[.pointer (some tp)] w fun r w'=>r=.returned (iI x)∧Below w.heap.size w w':=by
 unfold trV at hc;by_cases h:x=0
 · rw [if_pos h] at hc;subst h;exact number_no tp w hc
 · rw [if_neg h] at hc;exact number_yes tp x w hE hc
end Go.Proofs.YtfcbjcebkahehaaGreatDoor
namespace Go.Proofs.YtfcbjcebkahehaaGreatDoor
open Go.RowKit
theorem zb3 (l:List UInt8):(⟨l.toArray⟩:ByteArray).size=l.length:=by
 show l.toArray.size=_;simp
def beL (k n:Nat):List UInt8:=(List.range k).map fun t=>UInt8.ofNat (n / 256 ^ (k - 1 - t) % 256)
theorem zb2 (k n:Nat):(beL k n).length=k:=by simp [beL]
theorem ze1 (k n t:Nat) (h:t<k):(beL k n)[t]'(by rw [zb2];exact h)=UInt8.ofNat (n / 256 ^ (k - 1 - t) % 256):=by simp [beL]
theorem byte_nat (x:Nat):((UInt8.ofNat (x % 256)).toNat:Int)=(x:Int) % 256:=by
 rw [UInt8.toNat_ofNat_of_lt' (show x % 256<256 by omega)];omega
theorem four_cells (n:Nat) (w:World) (b0 b1 b2 b3:Int) (h0:b0=(n:Int) / 16777216 % 256) (h1:b1=(n:Int) / 65536 % 256) (h2:b2=(n:Int) / 256 % 256) (h3:b3=(n:Int) % 256) :
 (convert 174 9 (.slice (some ⟨w.heap.size,0,none⟩) 4 4)).run Tryz.prog (w.alloc (.cells #[.int .u8 b0,.int .u8 b1,.int .u8 b2,.int .u8 b3] 5))=.ok (.string ⟨(beL 4 n).toArray⟩) (w.alloc (.cells #[.int .u8 b0,.int .u8 b1,.int .u8 b2,.int .u8 b3] 5)):=by
 have h:=run_convert_bytes_back (P:=Tryz.prog) (w.alloc (.cells #[.int .u8 b0,.int .u8 b1,.int .u8 b2,.int .u8 b3] 5)) 174 9 5 ⟨w.heap.size,0,none⟩ 4 (beL 4 n) Tryz.underlying174 Tryz.underlying5 Tryz.underlying9 (fun t ht=>by
  have ht2:t<4:=by rw [zb2] at ht;exact ht
  have ea:(Addr.add ⟨w.heap.size,0,none⟩ t)=⟨w.heap.size,0+t,none⟩:=Lib.add_plain _ _ _;rw [ea,World.cell?_alloc_new,ze1 4 n t ht2,byte_nat];rcases (by omega:t=0∨t=1∨t=2∨t=3) with rfl|rfl|rfl|rfl
  · show some (Value.int .u8 b0)=_;rw [h0,show (n:Int) / 16777216 % 256=((n / 256 ^ (4 - 1 - 0):Nat):Int) % 256 from by rw [show (256:Nat) ^ (4 - 1 - 0)=16777216 from by decide];omega]
  · show some (Value.int .u8 b1)=_;rw [h1,show (n:Int) / 65536 % 256=((n / 256 ^ (4 - 1 - 1):Nat):Int) % 256 from by rw [show (256:Nat) ^ (4 - 1 - 1)=65536 from by decide];omega]
  · show some (Value.int .u8 b2)=_;rw [h2,show (n:Int) / 256 % 256=((n / 256 ^ (4 - 1 - 2):Nat):Int) % 256 from by rw [show (256:Nat) ^ (4 - 1 - 2)=256 from by decide];omega]
  · show some (Value.int .u8 b3)=_
    rw [h3,show (n:Int) % 256=((n / 256 ^ (4 - 1 - 3):Nat):Int) % 256 from by rw [show (256:Nat) ^ (4 - 1 - 3)=1 from by decide];omega])
 rw [zb2] at h;exact h
theorem zb7 (n:Nat) (w:World) (hn:n<4294967296) :
 Calls Tryz.prog 157 #[.int .u32 n] w fun e w'=>e=.returned (B (beL 4 n))∧Below w.heap.size w w':=by
 obtain ⟨N,hN⟩:∃ N:Int,(n:Int)=N:=⟨_,rfl⟩;have hN0:0<=N:=by omega
 have hN1:N<4294967296:=by omega
 have hcv:=four_cells n w (N / 16777216) (N / 65536 % 256) (N / 256 % 256) (N % 256) (by rw [hN];omega) (by rw [hN]) (by rw [hN]) (by rw [hN]);rw [hN];clear hN hn;unfold B;go_enter Tryz.func157,Tryz.ntmps157
 go_wp2;go_ret;exact ⟨rfl,(Below.refl _ _).alloc (Nat.le_refl _) _⟩
theorem beL_eight (n:Nat):beL 4 (n / 4294967296 % 4294967296)++beL 4 (n % 4294967296)=beL 8 n:=by
 apply List.ext_getElem
 · rw [List.length_append,zb2,zb2,zb2]
 · intro t h1 h2;rw [zb2] at h2;rw [List.getElem_append];have key:∀ t:Fin 8,∀ n:Nat,(if t.val<4 then n / 4294967296 % 4294967296 / 256 ^ (4 - 1 - t.val) % 256 else n % 4294967296 / 256 ^ (4 - 1 - (t.val - 4)) % 256)=n / 256 ^ (8 - 1 - t.val) % 256:=by
    intro t n;rcases t with ⟨t,ht⟩;rcases (by omega:t=0∨t=1∨t=2∨t=3∨t=4∨t=5∨t=6∨t=7) with rfl|rfl|rfl|rfl|rfl|rfl|rfl|rfl <;> simp <;> omega
   have k:=key ⟨t,h2⟩ n;split
   · rename_i hlt;rw [zb2] at hlt;rw [ze1 4 _ t hlt,ze1 8 n t h2];rw [if_pos hlt] at k;rw [k]
   · rename_i hge;rw [zb2] at hge;have e:(beL 4 (n / 4294967296 % 4294967296)).length=4:=zb2 _ _;simp only [e];rw [ze1 4 _ (t - 4) (by omega),ze1 8 n t h2];rw [if_neg hge] at k;rw [k]
theorem zgp (n:Nat) (w:World) (hn:n<18446744073709551616) :
 Calls Tryz.prog 183 #[.int .u64 n] w fun e w'=>e=.returned (B (beL 8 n))∧Below w.heap.size w w':=by
 obtain ⟨N,hN⟩:∃ N:Int,(n:Int)=N:=⟨_,rfl⟩;have hN0:0<=N:=by omega
 have hN1:N<18446744073709551616:=by omega
 have H1:Hid (∀ w,Calls Tryz.prog 157 #[.int .u32 (N / 4294967296)] w fun e w'=>e=.returned (.string ⟨(beL 4 (n / 4294967296 % 4294967296)).toArray⟩)∧Below w.heap.size w w'):=fun w=>by
  have e:N / 4294967296=((n / 4294967296 % 4294967296:Nat):Int):=by rw [<- hN];omega
  rw [e];exact zb7 _ w (by omega)
 have H2:Hid (∀ w,Calls Tryz.prog 157 #[.int .u32 (N % 4294967296)] w fun e w'=>e=.returned (.string ⟨(beL 4 (n % 4294967296)).toArray⟩)∧Below w.heap.size w w'):=fun w=>by
  have e:N % 4294967296=((n % 4294967296:Nat):Int):=by rw [<- hN];omega
  rw [e];exact zb7 _ w (by omega)
 have HE:Hid ((⟨(beL 4 (n / 4294967296 % 4294967296)).toArray⟩:ByteArray)++⟨(beL 4 (n % 4294967296)).toArray⟩=⟨(beL 8 n).toArray⟩):=by
  show (⟨(beL 4 (n / 4294967296 % 4294967296)).toArray⟩:ByteArray)++⟨(beL 4 (n % 4294967296)).toArray⟩=⟨(beL 8 n).toArray⟩;rw [bapp,beL_eight]
 obtain ⟨l1,hl1,hll1⟩:∃ l:List UInt8,beL 4 (n / 4294967296 % 4294967296)=l∧l.length=4:=⟨_,rfl,zb2 _ _⟩;obtain ⟨l2,hl2,hll2⟩:∃ l:List UInt8,beL 4 (n % 4294967296)=l∧l.length=4:=⟨_,rfl,zb2 _ _⟩;rw [hl1] at H1 HE;rw [hl2] at H2 HE;clear hl1 hl2;rw [hN];clear hN hn;unfold B;go_enter Tryz.func183,Tryz.ntmps183
 go_wp2_with fail
 refine (H1.out _).mono ?_;rintro e w1 ⟨rfl,hB⟩;have HB:Hid (Below w.heap.size w w1):=hB;clear hB;go_wp2_with fail
 refine (H2.out _).mono ?_;rintro e w2 ⟨rfl,hB⟩;have Aa:Hid (Below w.heap.size w w2):=HB.out.trans (hB.mono HB.out.size);clear hB;go_wp2;go_ret;exact ⟨ret_str HE.out,Aa.out⟩
/-! Padding, both ways. -/
def padN (n:Nat):Nat:=(4 - n % 4) % 4
theorem noughts3 (k:Nat) (h:k<=3):(⟨#[0,0,0]⟩:ByteArray).extract 0 k=⟨(List.replicate k (0:UInt8)).toArray⟩:=by
 have:∀ k:Fin 4,(⟨#[0,0,0]⟩:ByteArray).extract 0 k.val=⟨(List.replicate k.val (0:UInt8)).toArray⟩:=by decide
 exact this ⟨k,by omega⟩
theorem padding_core (n z:Int) (w:World) (h0:-9223372036854775807<=n) (h1:n<=9223372036854775807) (hz:bits .and .i64 (-n) 3=z) (hz0:0<=z) (hz1:z<=3) :
 Calls Tryz.prog 161 #[iI n] w fun e w'=>e=.returned (.string ((⟨#[0,0,0]⟩:ByteArray).extract 0 z.toNat))∧w'=w:=by
 go_enter Tryz.func161,Tryz.ntmps161
 go_wp2;go_ret;exact ⟨rfl,rfl⟩
theorem i64_mask (n:Int) (k:Nat) (hk:k<63):bits .and .i64 n ((2 ^ k - 1:Nat):Int)=n % ((2 ^ k:Nat):Int):=by
 have hp:2 ^ k<=2 ^ 62:=Nat.pow_le_pow_right (by omega) (by omega);have e62:(2:Nat) ^ 62=4611686018427387904:=by decide
 have hpos:=Nat.two_pow_pos k;have hm0:=Int.emod_nonneg n (show ((2 ^ k:Nat):Int)≠0 by omega);have hm1:=Int.emod_lt_of_pos n (show (0:Int)<((2 ^ k:Nat):Int) by omega);unfold bits;have e:(BitVec.ofInt IntKind.i64.bits n &&& BitVec.ofInt IntKind.i64.bits ((2 ^ k - 1:Nat):Int)).toNat=(n % ((2 ^ k:Nat):Int)).toNat:=by
  rw [BitVec.toNat_and];show (BitVec.ofInt 64 n).toNat &&& (BitVec.ofInt 64 ((2 ^ k - 1:Nat):Int)).toNat=_;rw [BitVec.toNat_ofInt,BitVec.toNat_ofInt];have h1:(((2 ^ k - 1:Nat):Int) % ((2 ^ 64:Nat):Int)).toNat=2 ^ k - 1:=by
   rw [Int.emod_eq_of_lt (by omega) (by rw [show (2:Nat) ^ 64=18446744073709551616 from by decide];omega)];omega
  rw [h1,Nat.and_two_pow_sub_one_eq_mod];have h2:((n % ((2 ^ 64:Nat):Int)).toNat:Int)=n % ((2 ^ 64:Nat):Int):=Int.toNat_of_nonneg (Int.emod_nonneg _ (by decide));have h3:(2 ^ k:Nat)∣2 ^ 64:=Nat.pow_dvd_pow 2 (by omega);have h4:n % ((2 ^ 64:Nat):Int) % ((2 ^ k:Nat):Int)=n % ((2 ^ k:Nat):Int):=Int.emod_emod_of_dvd n (Int.natCast_dvd_natCast.2 h3);have h5:(((n % ((2 ^ 64:Nat):Int)).toNat % 2 ^ k:Nat):Int)=n % ((2 ^ k:Nat):Int):=by
   rw [Int.natCast_emod,h2,h4]
  omega
 show IntKind.i64.wrap (((BitVec.ofInt IntKind.i64.bits n &&& BitVec.ofInt IntKind.i64.bits ((2 ^ k - 1:Nat):Int)).toNat:Nat):Int)=_;rw [e,Int.toNat_of_nonneg hm0,IntKind.wrap_i64];rw [e62] at hp;have hlt:n % ((2 ^ k:Nat):Int)<4611686018427387904:=by omega
 generalize n % ((2 ^ k:Nat):Int)=z at *;omega
theorem i64_and3 (n:Int):bits .and .i64 n 3=n % 4:=i64_mask n 2 (by omega)
def byL (S:Nat) (n:Int):List UInt8:=beL S (n % ((256 ^ S:Nat):Int)).toNat
def padL (n:Nat):List UInt8:=List.replicate (padN n) 0
theorem padding_any (n:Nat) (w:World) (h:(n:Int)<=9223372036854775807):Calls Tryz.prog 161 #[iI n] w fun e w'=>e=.returned (B (padL n))∧w'=w:=by
 have hz:bits .and .i64 (-(n:Int)) 3=((padN n:Nat):Int):=by
  rw [i64_and3];unfold padN;omega
 have hp:padN n<=3:=by unfold padN;omega
 have r:=padding_core (n:Int) _ w (by omega) h hz (by omega) (by omega);rw [Int.toNat_natCast,noughts3 _ hp] at r;exact r
structure Only (p:Nat) (w w' : World):Prop where
 os:w'.os=w.os
 tape:w'.tape=w.tape
 output:w'.output=w.output
 size:w.heap.size<=w'.heap.size
 block:∀ b,b<w.heap.size->b≠p->w'.heap[b]?=w.heap[b]?
theorem Only.refl (p:Nat) (w:World):Only p w w:=⟨rfl,rfl,rfl,Nat.le_refl _,fun _ _ _=>rfl⟩
theorem Only.trans {p:Nat} {a b c:World} (h:Only p a b) (k:Only p b c):Only p a c :=
 ⟨k.os.trans h.os,k.tape.trans h.tape,k.output.trans h.output,Nat.le_trans h.size k.size,fun i hi hp=>(k.block i (Nat.lt_of_lt_of_le hi h.size) hp).trans (h.block i hi hp)⟩
theorem Only.of_below {p:Nat} {a b:World} (h:Below a.heap.size a b):Only p a b:=⟨h.os,h.tape,h.output,h.size,fun i hi _=>h.block i hi⟩
theorem Only.drewN (p:Nat) (w:World) (k:Nat):Only p w (w.drewN k):=Only.of_below (below_drewN (Below.refl _ _) k)
theorem Only.setCell {p:Nat} (w:World) (o:Nat) (v:Value):Only p w (w.setCell ⟨p,o,none⟩ v) :=
 ⟨rfl,rfl,rfl,by simp [World.setCell],fun b _ hb=>Below.heap_setCell _ _ _ _ hb⟩
structure RW (w:World) (p:Nat) (S:ByteArray) (M E:Int):Prop where
 s:w.cell? ⟨p,0,none⟩=some (.string S)
 m:w.cell? ⟨p,1,none⟩=some (iI M)
 e:w.cell? ⟨p,2,none⟩=some (iI E)
 f0:w.frozen? ⟨p,0,none⟩=false
 f1:w.frozen? ⟨p,1,none⟩=false
 f2:w.frozen? ⟨p,2,none⟩=false
theorem RW.lt {w:World} {p:Nat} {S:ByteArray} {M E:Int} (h:RW w p S M E):p<w.heap.size:=by
 rcases Nat.lt_or_ge p w.heap.size with h1|h1
 · exact h1
 · have:=h.s
   simp [World.cell?,Array.getElem?_eq_none h1] at this
theorem RW.drewN {w:World} {p:Nat} {S:ByteArray} {M E:Int} (h:RW w p S M E) (k:Nat):RW (w.drewN k) p S M E :=
 ⟨h.s,h.m,h.e,h.f0,h.f1,h.f2⟩
theorem RW.setE {w:World} {p:Nat} {S:ByteArray} {M E:Int} (h:RW w p S M E) (F:Int):RW (w.setCell ⟨p,2,none⟩ (iI F)) p S M F :=
 ⟨by rw [World.cell?_setCell_other _ _ _ _ (by simp)];exact h.s,by rw [World.cell?_setCell_other _ _ _ _ (by simp)];exact h.m,World.cell?_setCell_same _ _ _ h.e,
  by rw [World.frozen?_setCell];exact h.f0,by rw [World.frozen?_setCell];exact h.f1,by rw [World.frozen?_setCell];exact h.f2⟩
def rlay (M:Int) (S:ByteArray) (E:Int) (s:ByteArray):ByteArray × Int:=if E≠0 then (S,E) else if M<(S.size:Int)+(s.size:Int) then (S,23) else (S++s,0)
def zbc (E F:Int):Int:=if E=0 then F else E
theorem RW.of_block {w w' : World} {p:Nat} {S:ByteArray} {M E:Int} (h:RW w p S M E) (hb:w'.heap[p]?=w.heap[p]?):RW w' p S M E:=by
 obtain ⟨h1,h2,h3,h4,h5,h6⟩:=h;refine ⟨?_,?_,?_,?_,?_,?_⟩ <;> unfold World.cell? World.frozen? at * <;> simp only [hb] <;> assumption
theorem RW.below {w w' : World} {p:Nat} {S:ByteArray} {M E:Int} (h:RW w p S M E) (hb:Below w.heap.size w w'):RW w' p S M E:=h.of_block (hb.block p h.lt)
theorem bL_size (l:List UInt8):((⟨l.toArray⟩:ByteArray).size:Int)=l.length:=by rw [zb3]
theorem zbo (k:Nat) (n:Int):(byL k n).length=k:=by unfold byL;exact zb2 _ _
theorem zhv (n:Nat):(padL n).length<=3:=by unfold padL padN;rw [List.length_replicate];omega
end Go.Proofs.YtfcbjcebkahehaaGreatDoor
namespace Go.Proofs.YtfcbjcebkahehaaGreatDoor
open Go.RowKit Go.Lib
theorem info5_ex:∃ i:TypeInfo,Tryz.prog.info? 5=some i∧i.zero=some (.int .u8 0)∧i.size=1∧i.bytes=1 :=
 ⟨(Tryz.prog.info? 5).getD default,by kernel_rfl,by kernel_rfl,by kernel_rfl,by kernel_rfl⟩
theorem append_at (base:Nat) (v:Value) (n:Nat) (xs:List Value) (s:ByteArray) (w:World) (ty:TypeId) (hown:w.ownsRow base 5 1 v n xs) (hb:n+s.size<=140737488355328) (hbase:base<=w.heap.size) :
 ∃ v' w',(Builtin.append_ #[174,9] ty #[v,.string s]).run Tryz.prog w=.ok v' w'∧w'.ownsRow base 5 1 v' (n+s.size) (xs++strCells s)∧w.grownBy w' v.ownBlock∧(v'.ownBlock=v.ownBlock∨v'.ownBlock=some w.heap.size):=by
 have h63:n+s.size<=maxLen:=Nat.le_trans hb (by decide);obtain ⟨info5,info5_is,info5_zero,info5_size,info5_bytes⟩:=info5_ex;obtain ⟨v',w',hr,h1,h2,h3⟩:=run_append_own_string (P:=Tryz.prog) w base 174 9 ty 5 info5 Tryz.underlying174 Tryz.underlying9 info5_is info5_zero info5_size info5_bytes v n xs hown s h63 hb hbase;refine ⟨v',w',hr,h1,h2,?_⟩;have hxl:xs.length=n:=by simpa using hown.1
 rcases hown.2 with ⟨rfl,rfl⟩|⟨g,cap,cur,rfl,hbg,hg,hnc,hcm,hcs,htake⟩
 · by_cases hm:s.size=0
   · (left);rw [h3.2 ⟨rfl,hm⟩]
   · (right);have hr2:=run_append_nil_string (P:=Tryz.prog) w 174 9 ty 5 info5 (.int .u8 0) Tryz.underlying174 Tryz.underlying9 info5_is info5_zero s (by omega) (by omega) (by rw [info5_bytes];omega);rw [hr2] at hr;cases hr;rfl
 · by_cases hroom:n+s.size<=cap
   · (left);have hr2:=run_append_room_string (P:=Tryz.prog) w 174 9 ty 5 info5 Tryz.underlying174 Tryz.underlying9 info5_is info5_size g n cap cur hg s hroom (by simp at hcs;omega);rw [hr2] at hr;cases hr;rfl
   · (right);have holds:∀ j u,xs[j]?=some u->w.cell? ((⟨g,0,none⟩:Addr).add j)=some u:=hown.cells (g:=g) rfl;have hr2:=run_append_grow_string (P:=Tryz.prog) w 174 9 ty 5 info5 (.int .u8 0) Tryz.underlying174 Tryz.underlying9 info5_is info5_zero ⟨g,0,none⟩ n cap xs (by rw [info5_size];simpa using hxl) holds s (by omega) (by omega) (by rw [info5_bytes];exact growslice_fits (by omega) (by omega));rw [hr2] at hr;cases hr;rfl
theorem zfa {ops:Array Oper} {rest:List Oper} {o:Oper} {a:Act} {Q:Exit->Act->World->Prop} {w:World} (hgd:o.guard=none) (sl x:Operand)
 (ho:o.op=.call { callee:=.builtin .append,args:=#[sl,x],argTypes:=#[174,9] })
 (base:Nat) (v:Value) (n:Nat) (xs:List Value) (hs:a.eval sl=v) (hown:w.ownsRow base 5 1 v n xs) (s:ByteArray) (hx:a.eval x=.string s)
 (hb:n+s.size<=140737488355328) (hbase:base<=w.heap.size)
 (h:∀ v' w',w'.ownsRow base 5 1 v' (n+s.size) (xs++strCells s)->w.grownBy w' v.ownBlock->(v'.ownBlock=v.ownBlock∨v'.ownBlock=some w.heap.size)->wpList Tryz.prog ops Q rest (a.put o.dst v') w'):wpList Tryz.prog ops Q (o::rest) a w:=by
 refine wpList_plain hgd fun K hK=>?_;obtain ⟨v',w',hr,h2,h3,h4⟩:=append_at base v n xs s w o.type hown hb hbase;unfold Oper.wp execOp;simp only [ho,resolve,invoke,builtin,Sem.run_bind,Sem.run_pure,Result.andThen_ok,List.map_toArray,List.map_cons,List.map_nil,hs,hx,hr];exact hK _ _ (h v' w' h2 h3 h4)
structure PW (w:World) (p:Nat) (v:Value) (M:Int) (xs:List Value) (E:Int):Prop where
 m:w.cell? ⟨p,0,none⟩=some (iI M)
 s:w.cell? ⟨p,1,none⟩=some v
 e:w.cell? ⟨p,2,none⟩=some (trV E)
 f1:w.frozen? ⟨p,1,none⟩=false
 f2:w.frozen? ⟨p,2,none⟩=false
 own:w.ownsRow (p+1) 5 1 v xs.length xs
theorem PW.lt {w:World} {p:Nat} {v:Value} {M E:Int} {xs:List Value} (h:PW w p v M xs E):p<w.heap.size:=by
 rcases Nat.lt_or_ge p w.heap.size with h1|h1
 · exact h1
 · have:=h.m
   simp [World.cell?,Array.getElem?_eq_none h1] at this
theorem zf2 (p:Nat) (v:Value) (M F:Int) (xs:List Value) (w:World) (h:PW w p v M xs 0) :
 Calls Tryz.prog 115 #[.pointer (some ⟨p,0,none⟩),iI F] w fun e w'=>e=.returned (.tuple #[])∧∃ k,w'=(w.drewN k).setCell ⟨p,2,none⟩ (trV F):=by
 have h2:=h.e;have h5:=h.f2;have H1:Hid (∀ w,Calls Tryz.prog 154 #[iI F] w fun r w'=>r=.returned (trV F)∧w'=w):=fun w=>zda F w;have H2:Hid (∀ k,Calls Tryz.prog 153 #[.pointer (some ⟨p,2,none⟩),trV F] (w.drewN k) fun r w'=>r=.returned (.tuple #[])∧w'=(w.drewN k).setCell ⟨p,2,none⟩ (trV F)):=fun k=>note_first ⟨p,2,none⟩ F (w.drewN k) h2 h5;clear h h2 h5;go_enter Tryz.func115,Tryz.ntmps115
 go_wp2_with fail
 go_region_with (first|(go_at_call 154;refine (H1.out _).mono ?_;rintro e w' ⟨rfl,rfl⟩)|(go_at_call 153;refine (H2.out 1).mono ?_;rintro e w' ⟨rfl,rfl⟩))
 go_wp2;first|go_end0|refine bodyPost_ret (results_none rfl _ _ _) rfl ?_
 exact ⟨rfl,1,rfl⟩
theorem zf1 (p:Nat) (v:Value) (M E F:Int) (xs:List Value) (w:World) (h:PW w p v M xs E) (hE:E≠0) :
 Calls Tryz.prog 115 #[.pointer (some ⟨p,0,none⟩),iI F] w fun e w'=>e=.returned (.tuple #[])∧∃ k,w'=w.drewN k:=by
 have h2:=h.e;unfold trV at h2;rw [if_neg hE] at h2;have H1:Hid (∀ w,Calls Tryz.prog 154 #[iI F] w fun r w'=>r=.returned (trV F)∧w'=w):=fun w=>zda F w;have H2:Hid (∀ k,Calls Tryz.prog 153 #[.pointer (some ⟨p,2,none⟩),trV F] (w.drewN k) fun r w'=>r=.returned (.tuple #[])∧w'=w.drewN k):=fun k=>note_later ⟨p,2,none⟩ (trV F) _ (w.drewN k) h2;clear h h2;go_enter Tryz.func115,Tryz.ntmps115
 go_wp2_with fail
 go_region_with (first|(go_at_call 154;refine (H1.out _).mono ?_;rintro e w' ⟨rfl,rfl⟩)|(go_at_call 153;refine (H2.out 1).mono ?_;rintro e w' ⟨rfl,rfl⟩))
 go_wp2;first|go_end0|refine bodyPost_ret (results_none rfl _ _ _) rfl ?_
 exact ⟨rfl,1,rfl⟩
end Go.Proofs.YtfcbjcebkahehaaGreatDoor
namespace Go.Proofs.YtfcbjcebkahehaaGreatDoor
open Go.RowKit
def tot (ps:List ByteArray) (k:Nat):Nat:=((ps.take k).map ByteArray.size).sum
theorem zhi (ps:List ByteArray):tot ps 0=0:=rfl
theorem zch (ps:List ByteArray) (k:Nat) (h:k<ps.length):tot ps (k+1)=tot ps k+(ps.getD k ⟨#[]⟩).size:=by
 unfold tot;rw [List.take_add_one,List.map_append,List.sum_append];simp [List.getD,List.getElem?_eq_getElem h]
theorem zff (ps:List ByteArray) (k:Nat) (h:k<=ps.length):tot ps k<=tot ps ps.length:=by
 have:∀ d k,k+d=ps.length->tot ps k<=tot ps ps.length:=by
  intro d;induction d with
  | zero=>intro k hk;rw [<- hk];exact Nat.le_refl _
  | succ d ih =>
   intro k hk;have h1:=ih (k+1) (by omega);have h2:=zch ps k (by omega);omega
 exact this (ps.length - k) k (by omega)
theorem zec {w:World} {base:Nat} {v:Value} {n:Nat} {xs:List Value} (h:w.ownsRow base 5 1 v n xs):∃ a cap,v=.slice a n cap:=by
 rcases h.2 with ⟨rfl,rfl⟩|⟨g,cap,cur,rfl,_⟩
 · exact ⟨none,0,rfl⟩
 · exact ⟨_,cap,rfl⟩
theorem lay_long (p q:Nat) (v:Value) (M:Int) (xs:List Value) (ps:List ByteArray) (w:World) (h:PW w p v M xs 0) (hc:∀ j,j<ps.length->w.cell? ⟨q,j,none⟩=some (.string (ps.getD j ⟨#[]⟩)))
 (hm:ps.length<=100) (hM0:0<=M) (hM1:M<=9223372036854775807) (hT:(tot ps ps.length:Int)<=140737488355328) (hn:(xs.length:Int)<=140737488355328) (hl:M - (xs.length:Int)<(tot ps ps.length:Int)) :
 Calls Tryz.prog 156 #[.pointer (some ⟨p,0,none⟩),.slice (some ⟨q,0,none⟩) ps.length ps.length] w fun e w'=>e=.returned (.tuple #[])∧∃ k,w'=(w.drewN k).setCell ⟨p,2,none⟩ (trV 23):=by
 obtain ⟨a,cap,hv⟩:=zec h.own;have H1:Hid (∀ k,Calls Tryz.prog 115 #[.pointer (some ⟨p,0,none⟩),iI 23] (w.drewN k) fun e w'=>e=.returned (.tuple #[])∧∃ k2,w'=((w.drewN k).drewN k2).setCell ⟨p,2,none⟩ (trV 23)):=fun k =>
  zf2 p v M 23 xs (w.drewN k) ⟨h.m,h.s,h.e,h.f1,h.f2,h.own⟩
 have H2:Hid (∀ k,Calls Tryz.prog 134 #[.pointer (some ⟨p,2,none⟩)] ((w.drewN k).setCell ⟨p,2,none⟩ (trV 23)) fun r w'=>r=.returned (.bool true)∧w'=(w.drewN k).setCell ⟨p,2,none⟩ (trV 23)):=fun k =>
  zia ⟨p,2,none⟩ 23 _ (World.cell?_setCell_same _ _ _ (show (w.drewN k).cell? ⟨p,2,none⟩=some (trV 0) from h.e))
 have hcm:=h.m;have hcs:=h.s;rw [hv] at hcs;obtain ⟨T,hTT⟩:∃ T:Int,(tot ps ps.length:Int)=T:=⟨_,rfl⟩;rw [hTT] at hT hl;have Ab:Hid ((tot ps ps.length:Int)=T):=hTT;obtain ⟨n,hnn⟩:∃ n:Nat,xs.length=n:=⟨_,rfl⟩;rw [hnn] at hcs hl hn;obtain ⟨m,hmm⟩:∃ m:Nat,ps.length=m:=⟨_,rfl⟩;have Aa:Hid (ps.length=m):=hmm;have HC:Hid (∀ j,j<m->w.cell? ⟨q,j,none⟩=some (.string (ps.getD j ⟨#[]⟩))):=fun j hj=>hc j (by rw [hmm];exact hj);rw [hmm] at hm ⊢;clear h hv hTT hnn hmm hc;go_enter Tryz.func156,Tryz.ntmps156
 go_wp2_with fail
 go_loop [4,11] (fun sz ix=>∃ (k:Nat) (Z:Int),ix=iI k∧sz=iI Z∧k<=m∧0<=Z∧Z<=140737488355328∧Hid (Z=(tot ps k:Int))) (fun _ ix=>200 - (intOf ix).toNat)
 case atStart=>exact ⟨0,0,rfl,rfl,by omega,by omega,by omega,(show (0:Int)=(tot ps 0:Int) from by rw [zhi];rfl)⟩
 case round =>
  obtain ⟨k,Z,rfl,rfl,hk,hZ0,hZ1,HZ⟩:=hrel;by_cases hlt:k<m
  · have hcell:=HC.out k hlt;obtain ⟨t,ht⟩:∃ t,ps.getD k ⟨#[]⟩=t:=⟨_,rfl⟩;rw [ht] at hcell;have hsz:Z+(t.size:Int)<=140737488355328:=by
     have h1:=zch ps k (by rw [Aa.out];exact hlt);have h2:=zff ps (k+1) (by rw [Aa.out];omega);have h3:=HZ.out;have h4:=Ab.out;rw [ht] at h1;omega
    have Ac:Hid (Z+(t.size:Int)=(tot ps (k+1):Int)):=by
     show Z+(t.size:Int)=(tot ps (k+1):Int);have h1:=zch ps k (by rw [Aa.out];exact hlt);have h3:=HZ.out;rw [ht] at h1;omega
    clear ht hcm hcs;go_wp2;go_round
    case rel=>exact ⟨k+1,Z+(t.size:Int),by go_num,rfl,by omega,by omega,hsz,Ac.out⟩
    case measure=>simp [intOf];omega
  · obtain rfl:k=m:=(by omega);obtain rfl:Z=T:=(by rw [HZ.out,<- Ab.out,Aa.out]);have hw:IntKind.i64.wrap (M - (n:Int))=M - (n:Int):=(by rw [IntKind.wrap_i64];omega);(go_wp2_with fail);go_quiet (fail)
    (go_wp2_with fail);refine (H1.out _).mono ?_;rintro e w2 ⟨rfl,k2,hw2⟩;rw [World.drewN_drewN] at hw2;subst hw2;(go_wp2_with fail);refine (H2.out _).mono ?_;rintro e w2 ⟨rfl,rfl⟩;go_wp2;(first|go_end0|refine bodyPost_ret (results_none rfl _ _ _) rfl ?_);exact ⟨rfl,_,rfl⟩
structure Kept (p:Nat) (v v' : Value) (w w' : World):Prop where
 os:w'.os=w.os
 tape:w'.tape=w.tape
 output:w'.output=w.output
 size:w.heap.size<=w'.heap.size
 block:∀ b,b<w.heap.size->b≠p->some b≠v.ownBlock->w'.heap[b]?=w.heap[b]?
 row:v'.ownBlock=v.ownBlock∨∃ g,w.heap.size<=g∧v'.ownBlock=some g
theorem cells_of_block {w w' : World} {b:Nat} (h:w'.heap[b]?=w.heap[b]?) (o:Nat):w'.cell? ⟨b,o,none⟩=w.cell? ⟨b,o,none⟩∧w'.frozen? ⟨b,o,none⟩=w.frozen? ⟨b,o,none⟩:=by
 constructor
 · unfold World.cell?;simp only [h]
 · unfold World.frozen?;simp only [h]
def cellsOf (ps:List ByteArray) (k:Nat):List Value:=(ps.take k).flatMap Lib.strCells
theorem ze7 (ps:List ByteArray) (k:Nat) (h:k<ps.length):cellsOf ps (k+1)=cellsOf ps k++Lib.strCells (ps.getD k ⟨#[]⟩):=by
 unfold cellsOf;rw [List.take_add_one,List.flatMap_append];simp [List.getD,List.getElem?_eq_getElem h]
theorem zd3 (ps:List ByteArray) (k:Nat) (h:k<=ps.length):(cellsOf ps k).length=tot ps k:=by
 induction k with
 | zero=>rfl
 | succ k ih=>rw [ze7 ps k (by omega),List.length_append,ih (by omega),zch ps k (by omega),Lib.strCells_length]
theorem kept_step (p:Nat) (v v1 v2:Value) (M:Int) (xs ys:List Value) (w w1 w2:World) (s:ByteArray) (h:PW w1 p v1 M xs 0) (hK:Kept p v v1 w w1)
 (hown:w2.ownsRow (p+1) 5 1 v2 (xs.length+s.size) (xs++Lib.strCells s)) (hg:w1.grownBy w2 v1.ownBlock) (hr:v2.ownBlock=v1.ownBlock∨v2.ownBlock=some w1.heap.size) (hys:ys=xs++Lib.strCells s) :
 PW (w2.setCell ⟨p,1,none⟩ v2) p v2 M ys 0∧Kept p v v2 w (w2.setCell ⟨p,1,none⟩ v2):=by
 subst hys;have hne:some p≠v1.ownBlock:=fun e=>by have:=(h.own.lt p e.symm).1;omega
 have hne2:v2.ownBlock≠some p:=fun e=>by have:=(hown.lt p e).1;omega
 have hp1:p<w1.heap.size:=h.lt;have hb:w2.heap[p]?=w1.heap[p]?:=hg.block p hp1 hne;have hlen:xs.length+s.size=(xs++Lib.strCells s).length:=by rw [List.length_append,Lib.strCells_length]
 rw [hlen] at hown;have hsc:∀ (k:Nat),k≠p->(w2.setCell ⟨p,1,none⟩ v2).heap[k]?=w2.heap[k]?:=fun k hk=>Below.heap_setCell _ _ _ k hk;have hgs:w2.grownBy (w2.setCell ⟨p,1,none⟩ v2) (some p):=⟨rfl,rfl,rfl,by simp,fun k _ hk=>hsc k (fun e=>hk (by rw [e]))⟩;refine ⟨⟨?_,?_,?_,?_,?_,hown.kept hgs (.inr hne2)⟩,⟨?_,?_,?_,?_,?_,?_⟩⟩
 · rw [World.cell?_setCell_other _ _ _ _ (by simp),(cells_of_block hb 0).1];exact h.m
 · exact World.cell?_setCell_same _ _ _ (by rw [(cells_of_block hb 1).1];exact h.s)
 · rw [World.cell?_setCell_other _ _ _ _ (by simp),(cells_of_block hb 2).1];exact h.e
 · rw [World.frozen?_setCell,(cells_of_block hb 1).2];exact h.f1
 · rw [World.frozen?_setCell,(cells_of_block hb 2).2];exact h.f2
 · exact hg.os.trans hK.os
 · exact hg.tape.trans hK.tape
 · exact hg.output.trans hK.output
 · exact Nat.le_trans hK.size (Nat.le_trans hg.size hgs.size)
 · intro b hb1 hb2 hb3;rw [hsc b hb2];have hb4:some b≠v1.ownBlock:=by
    rcases hK.row with e|⟨g,hg1,e⟩
    · rw [e];exact hb3
    · rw [e];intro e2;cases e2;omega
   rw [hg.block b (Nat.lt_of_lt_of_le hb1 hK.size) hb4];exact hK.block b hb1 hb2 hb3
 · rcases hr with e|e
   · rw [e];exact hK.row
   · exact .inr ⟨_,hK.size,e⟩
theorem lay_fits (p q:Nat) (v:Value) (M:Int) (xs:List Value) (ps:List ByteArray) (w:World) (h:PW w p v M xs 0) (hc:∀ j,j<ps.length->w.cell? ⟨q,j,none⟩=some (.string (ps.getD j ⟨#[]⟩))) (hq1:q<w.heap.size) (hqp:q≠p) (hqv:some q≠v.ownBlock)
 (hm:ps.length<=100) (hM0:0<=M) (hM1:M<=9223372036854775807) (hT:(tot ps ps.length:Int)<=140737488355328) (hb:xs.length+tot ps ps.length<=140737488355328) (hn:(xs.length:Int)<=140737488355328) (hl:(tot ps ps.length:Int)<=M - (xs.length:Int)) :
 Calls Tryz.prog 156 #[.pointer (some ⟨p,0,none⟩),.slice (some ⟨q,0,none⟩) ps.length ps.length] w fun e w'=>e=.returned (.tuple #[])∧∃ v',PW w' p v' M (xs++cellsOf ps ps.length) 0∧Kept p v v' w w':=by
 obtain ⟨a,cap,hv⟩:=zec h.own;have H2:Hid (∀ k,Calls Tryz.prog 134 #[.pointer (some ⟨p,2,none⟩)] (w.drewN k) fun r w'=>r=.returned (.bool false)∧w'=w.drewN k):=fun k =>
  zia ⟨p,2,none⟩ 0 _ h.e
 have Ac:Hid (PW w p v M xs 0):=h;have HQ:Hid (q<w.heap.size∧q≠p∧some q≠v.ownBlock):=⟨hq1,hqp,hqv⟩;have Ad:Hid (xs.length+tot ps ps.length<=140737488355328):=hb;have hcm:=h.m;have hcs:=h.s;rw [hv] at hcs;clear hq1 hqp hqv hb;obtain ⟨T,hTT⟩:∃ T:Int,(tot ps ps.length:Int)=T:=⟨_,rfl⟩;rw [hTT] at hT hl;have Ab:Hid ((tot ps ps.length:Int)=T):=hTT;obtain ⟨n,hnn⟩:∃ n:Nat,xs.length=n:=⟨_,rfl⟩;rw [hnn] at hcs hl hn;obtain ⟨m,hmm⟩:∃ m:Nat,ps.length=m:=⟨_,rfl⟩;have Aa:Hid (ps.length=m):=hmm;have HC:Hid (∀ j,j<m->w.cell? ⟨q,j,none⟩=some (.string (ps.getD j ⟨#[]⟩))):=fun j hj=>hc j (by rw [hmm];exact hj);rw [hmm] at hm ⊢;clear h hv hTT hnn hmm hc;go_enter Tryz.func156,Tryz.ntmps156
 go_wp2_with fail
 go_loop [4,11] (fun sz ix=>∃ (k:Nat) (Z:Int),ix=iI k∧sz=iI Z∧k<=m∧0<=Z∧Z<=140737488355328∧Hid (Z=(tot ps k:Int))) (fun _ ix=>200 - (intOf ix).toNat)
 case atStart=>exact ⟨0,0,rfl,rfl,by omega,by omega,by omega,(show (0:Int)=(tot ps 0:Int) from by rw [zhi];rfl)⟩
 case round =>
  obtain ⟨k,Z,rfl,rfl,hk,hZ0,hZ1,HZ⟩:=hrel;by_cases hlt:k<m
  · have hcell:=HC.out k hlt;obtain ⟨t,ht⟩:∃ t,ps.getD k ⟨#[]⟩=t:=⟨_,rfl⟩;rw [ht] at hcell;have hsz:Z+(t.size:Int)<=140737488355328:=by
     have h1:=zch ps k (by rw [Aa.out];exact hlt);have h2:=zff ps (k+1) (by rw [Aa.out];omega);have h3:=HZ.out;have h4:=Ab.out;rw [ht] at h1;omega
    have Ae:Hid (Z+(t.size:Int)=(tot ps (k+1):Int)):=by
     show Z+(t.size:Int)=(tot ps (k+1):Int);have h1:=zch ps k (by rw [Aa.out];exact hlt);have h3:=HZ.out;rw [ht] at h1;omega
    clear ht hcm hcs;go_wp2;go_round
    case rel=>exact ⟨k+1,Z+(t.size:Int),by go_num,rfl,by omega,by omega,hsz,Ae.out⟩
    case measure=>simp [intOf];omega
  · obtain rfl:k=m:=(by omega);obtain rfl:Z=T:=(by rw [HZ.out,<- Ab.out,Aa.out]);have hw:IntKind.i64.wrap (M - (n:Int))=M - (n:Int):=(by rw [IntKind.wrap_i64];omega);(go_wp2_with fail);go_quiet (fail)
    (go_wp2_with fail);refine (H2.out _).mono ?_;rintro e w2 ⟨rfl,hw2⟩;subst hw2;clear hcm hcs hw;(go_wp2_with fail);go_loopw [40] (fun ix wr=>∃ (j:Nat) (v' : Value),ix=iI j∧j<=k∧Hid (PW wr p v' M (xs++cellsOf ps j) 0)∧Hid (Kept p v v' w wr)) (fun ix _=>200 - (intOf ix).toNat)
    case atStart =>
     have e0:xs++cellsOf ps 0=xs:=(by simp [cellsOf]);refine ⟨0,v,rfl,by omega,?_,?_⟩
     · show PW _ p v M (xs++cellsOf ps 0) 0;rw [e0];have h:=Ac.out;exact ⟨h.m,h.s,h.e,h.f1,h.f2,h.own⟩
     · exact (show Kept p v v w _ from ⟨rfl,rfl,rfl,Nat.le_refl _,fun _ _ _ _=>rfl,.inl rfl⟩)
    case round =>
     obtain ⟨j,v',rfl,hj,HP,HK⟩:=hrel;by_cases hlt2:j<k
     · obtain ⟨t,ht⟩:∃ t,ps.getD j ⟨#[]⟩=t:=⟨_,rfl⟩;have hcell:wr.cell? ⟨q,j,none⟩=some (.string t):=by
        rw [(cells_of_block (HK.out.block q HQ.out.1 HQ.out.2.1 HQ.out.2.2) j).1,<- ht];exact HC.out j hlt2
       have hs1:=HP.out.s;have hf1:=HP.out.f1;have hp1:=HP.out.lt;have hsum:(xs++cellsOf ps j).length+t.size<=140737488355328:=by
        have h1:=zch ps j (by rw [Aa.out];exact hlt2);have h2:=zff ps (j+1) (by rw [Aa.out];omega);have h3:=Ad.out;rw [ht] at h1;rw [List.length_append,zd3 ps j (by rw [Aa.out];exact hj)];omega
       have HS:Hid ((xs++cellsOf ps j).length+t.size<=140737488355328):=hsum;have HY:Hid (xs++cellsOf ps (j+1)=(xs++cellsOf ps j)++Lib.strCells t):=by
        show xs++cellsOf ps (j+1)=(xs++cellsOf ps j)++Lib.strCells t;rw [ze7 ps j (by rw [Aa.out];exact hlt2),ht,List.append_assoc]
       have HE:Hid (∀ w2:World,wr.grownBy w2 v'.ownBlock->w2.cell? ⟨p,1,none⟩=some v'∧w2.frozen? ⟨p,1,none⟩=false):=fun w2 hg=>by
        have hb:w2.heap[p]?=wr.heap[p]?:=hg.block p hp1 (fun e=>by have:=(HP.out.own.lt p e.symm).1;omega);exact ⟨(cells_of_block hb 1).1.trans hs1,(cells_of_block hb 1).2.trans hf1⟩
       have Af:Hid (p+1<=wr.heap.size):=hp1;clear ht hsum hp1;(go_wp2_with (at_builtin;refine Hid.out ?_));refine (show Hid _ from ?_);refine zfa rfl _ _ rfl (p+1) v' _ _ rfl HP.out.own t rfl HS.out Af.out ?_;intro v2 w2 ho hg hr;have hst:=(HE.out w2 hg).1;have hfz:=(HE.out w2 hg).2;have HO:Hid (PW (w2.setCell ⟨p,1,none⟩ v2) p v2 M (xs++cellsOf ps (j+1)) 0∧Kept p v v2 w (w2.setCell ⟨p,1,none⟩ v2)):=kept_step p v v' v2 M _ _ w wr w2 t HP.out HK.out ho hg hr HY.out;obtain ⟨a2,cap2,hv2⟩:=zec ho;generalize (xs++cellsOf ps j).length+t.size=n2 at hv2;clear ho hg hr;subst hv2;(go_wp2_with fail);go_roundw
       case rel=>exact ⟨j+1,_,by go_num,by omega,HO.out.1,HO.out.2⟩
       case measure=>simp [intOf];omega
     · obtain rfl:j=k:=(by omega);go_wp2;(first|go_end0|refine bodyPost_ret (results_none rfl _ _ _) rfl ?_);exact ⟨rfl,_,HP.out,HK.out⟩
theorem any_true (p:Nat) (E:Int) (w:World) (h:w.cell? ⟨p,2,none⟩=some (trV E)) (hE:E≠0):Calls Tryz.prog 134 #[.pointer (some ⟨p,2,none⟩)] w fun r w'=>r=.returned (.bool true)∧w'=w:=by
 refine (zia ⟨p,2,none⟩ E w h).mono ?_;rintro e w' ⟨h1,h2⟩;exact ⟨by rw [h1];simp [hE],h2⟩
theorem lay_wrong (p q:Nat) (v:Value) (M E:Int) (xs:List Value) (ps:List ByteArray) (w:World) (h:PW w p v M xs E) (hE:E≠0) (hc:∀ j,j<ps.length->w.cell? ⟨q,j,none⟩=some (.string (ps.getD j ⟨#[]⟩)))
 (hm:ps.length<=100) (hM0:0<=M) (hM1:M<=9223372036854775807) (hT:(tot ps ps.length:Int)<=140737488355328) (hn:(xs.length:Int)<=140737488355328) :
 Calls Tryz.prog 156 #[.pointer (some ⟨p,0,none⟩),.slice (some ⟨q,0,none⟩) ps.length ps.length] w fun e w'=>e=.returned (.tuple #[])∧∃ k,w'=w.drewN k:=by
 obtain ⟨a,cap,hv⟩:=zec h.own;have H1:Hid (∀ k,Calls Tryz.prog 115 #[.pointer (some ⟨p,0,none⟩),iI 23] (w.drewN k) fun e w'=>e=.returned (.tuple #[])∧∃ k2,w'=(w.drewN k).drewN k2):=fun k =>
  zf1 p v M E 23 xs (w.drewN k) ⟨h.m,h.s,h.e,h.f1,h.f2,h.own⟩ hE
 have H2:Hid (∀ k,Calls Tryz.prog 134 #[.pointer (some ⟨p,2,none⟩)] (w.drewN k) fun r w'=>r=.returned (.bool true)∧w'=w.drewN k):=fun k =>
  any_true p E (w.drewN k) h.e hE
 have hcm:=h.m;have hcs:=h.s;rw [hv] at hcs;obtain ⟨T,hTT⟩:∃ T:Int,(tot ps ps.length:Int)=T:=⟨_,rfl⟩;rw [hTT] at hT;have Ab:Hid ((tot ps ps.length:Int)=T):=hTT;obtain ⟨n,hnn⟩:∃ n:Nat,xs.length=n:=⟨_,rfl⟩;rw [hnn] at hcs hn;obtain ⟨m,hmm⟩:∃ m:Nat,ps.length=m:=⟨_,rfl⟩;have Aa:Hid (ps.length=m):=hmm;have HC:Hid (∀ j,j<m->w.cell? ⟨q,j,none⟩=some (.string (ps.getD j ⟨#[]⟩))):=fun j hj=>hc j (by rw [hmm];exact hj);rw [hmm] at hm ⊢;clear h hv hTT hnn hmm hc;go_enter Tryz.func156,Tryz.ntmps156
 go_wp2_with fail
 go_loop [4,11] (fun sz ix=>∃ (k:Nat) (Z:Int),ix=iI k∧sz=iI Z∧k<=m∧0<=Z∧Z<=140737488355328∧Hid (Z=(tot ps k:Int))) (fun _ ix=>200 - (intOf ix).toNat)
 case atStart=>exact ⟨0,0,rfl,rfl,by omega,by omega,by omega,(show (0:Int)=(tot ps 0:Int) from by rw [zhi];rfl)⟩
 case round =>
  obtain ⟨k,Z,rfl,rfl,hk,hZ0,hZ1,HZ⟩:=hrel;by_cases hlt:k<m
  · have hcell:=HC.out k hlt;obtain ⟨t,ht⟩:∃ t,ps.getD k ⟨#[]⟩=t:=⟨_,rfl⟩;rw [ht] at hcell;have hsz:Z+(t.size:Int)<=140737488355328:=by
     have h1:=zch ps k (by rw [Aa.out];exact hlt);have h2:=zff ps (k+1) (by rw [Aa.out];omega);have h3:=HZ.out;have h4:=Ab.out;rw [ht] at h1;omega
    have Ac:Hid (Z+(t.size:Int)=(tot ps (k+1):Int)):=by
     show Z+(t.size:Int)=(tot ps (k+1):Int);have h1:=zch ps k (by rw [Aa.out];exact hlt);have h3:=HZ.out;rw [ht] at h1;omega
    clear ht hcm hcs;go_wp2;go_round
    case rel=>exact ⟨k+1,Z+(t.size:Int),by go_num,rfl,by omega,by omega,hsz,Ac.out⟩
    case measure=>simp [intOf];omega
  · obtain rfl:k=m:=(by omega);obtain rfl:Z=T:=(by rw [HZ.out,<- Ab.out,Aa.out]);have hw:IntKind.i64.wrap (M - (n:Int))=M - (n:Int):=(by rw [IntKind.wrap_i64];omega);by_cases hl:M - (n:Int)<Z
    · (go_wp2_with fail);go_quiet (fail)
      (go_wp2_with fail);refine (H1.out _).mono ?_;rintro e w2 ⟨rfl,k2,hw2⟩;rw [World.drewN_drewN] at hw2;subst hw2;(go_wp2_with fail);refine (H2.out _).mono ?_;rintro e w2 ⟨rfl,rfl⟩;go_wp2;(first|go_end0|refine bodyPost_ret (results_none rfl _ _ _) rfl ?_);exact ⟨rfl,_,rfl⟩
    · (go_wp2_with fail);go_quiet (fail)
      (go_wp2_with fail);refine (H2.out _).mono ?_;rintro e w2 ⟨rfl,rfl⟩;go_wp2;(first|go_end0|refine bodyPost_ret (results_none rfl _ _ _) rfl ?_);exact ⟨rfl,_,rfl⟩
def zay (p:Nat) (v:Value) (M:Int) (r:ByteArray × Int) (w:World) (e:Ending) (w' : World):Prop :=
 e=.returned (.tuple #[])∧∃ v',PW w' p v' M (Lib.strCells r.1) r.2∧Kept p v v' w w'
theorem Kept.drewN (p:Nat) (v:Value) (w:World) (k:Nat):Kept p v v w (w.drewN k):=⟨rfl,rfl,rfl,Nat.le_refl _,fun _ _ _ _=>rfl,.inl rfl⟩
theorem Kept.drewNSet (p:Nat) (v:Value) (w:World) (k o:Nat) (u:Value):Kept p v v w ((w.drewN k).setCell ⟨p,o,none⟩ u) :=
 ⟨rfl,rfl,rfl,by simp [World.setCell],fun b _ hb _=>Below.heap_setCell _ _ _ b hb,.inl rfl⟩
theorem PW.drewN {w:World} {p:Nat} {v:Value} {M E:Int} {xs:List Value} (h:PW w p v M xs E) (k:Nat):PW (w.drewN k) p v M xs E:=⟨h.m,h.s,h.e,h.f1,h.f2,h.own⟩
theorem PW.setE {w:World} {p:Nat} {v:Value} {M E:Int} {xs:List Value} (h:PW w p v M xs E) (F:Int):PW (w.setCell ⟨p,2,none⟩ (trV F)) p v M xs F:=by
 have hgs:w.grownBy (w.setCell ⟨p,2,none⟩ (trV F)) (some p):=⟨rfl,rfl,rfl,by simp,fun k _ hk=>Below.heap_setCell _ _ _ k (fun e=>hk (by rw [e]))⟩;refine ⟨?_,?_,World.cell?_setCell_same _ _ _ h.e,?_,?_,h.own.kept hgs (.inr fun e=>by have:=(h.own.lt p e).1;omega)⟩
 · rw [World.cell?_setCell_other _ _ _ _ (by simp)];exact h.m
 · rw [World.cell?_setCell_other _ _ _ _ (by simp)];exact h.s
 · rw [World.frozen?_setCell];exact h.f1
 · rw [World.frozen?_setCell];exact h.f2
theorem Kept.trans {p:Nat} {v1 v2 v3:Value} {a b c:World} (h:Kept p v1 v2 a b) (k:Kept p v2 v3 b c):Kept p v1 v3 a c:=by
 refine ⟨k.os.trans h.os,k.tape.trans h.tape,k.output.trans h.output,Nat.le_trans h.size k.size,?_,?_⟩
 · intro i hi hp hv;have hv2:some i≠v2.ownBlock:=by
    rcases h.row with e|⟨g,hg1,e⟩
    · rw [e];exact hv
    · rw [e];intro e2;cases e2;omega
   exact (k.block i (Nat.lt_of_lt_of_le hi h.size) hp hv2).trans (h.block i hi hp hv)
 · rcases k.row with e|⟨g,hg1,e⟩
   · rw [e];exact h.row
   · exact .inr ⟨g,Nat.le_trans h.size hg1,e⟩
theorem Kept.of_below {p:Nat} {v:Value} {a b:World} (h:Below a.heap.size a b):Kept p v v a b:=⟨h.os,h.tape,h.output,h.size,fun i hi _ _=>h.block i hi,.inl rfl⟩
theorem PW.below {w w' : World} {p:Nat} {v:Value} {M E:Int} {xs:List Value} (h:PW w p v M xs E) (hB:Below w.heap.size w w'):PW w' p v M xs E:=by
 have hb:w'.heap[p]?=w.heap[p]?:=hB.block p h.lt;have hg:w.grownBy w' none:=⟨hB.os,hB.tape,hB.output,hB.size,fun k hk _=>hB.block k hk⟩
 exact ⟨(cells_of_block hb 0).1.trans h.m,(cells_of_block hb 1).1.trans h.s,(cells_of_block hb 2).1.trans h.e,(cells_of_block hb 1).2.trans h.f1,(cells_of_block hb 2).2.trans h.f2,
  h.own.kept hg (by cases hq:v.ownBlock with|none=>exact .inl rfl|some g=>exact .inr (by simp))⟩
theorem lay_any (p q m:Nat) (v:Value) (M E:Int) (S J:ByteArray) (ps:List ByteArray) (w:World) (h:PW w p v M (Lib.strCells S) E) (hc:∀ j,j<ps.length->w.cell? ⟨q,j,none⟩=some (.string (ps.getD j ⟨#[]⟩)))
 (hq1:q<w.heap.size) (hqp:q≠p) (hqv:some q≠v.ownBlock) (hps:ps.length=m) (hm:m<=100) (hJ:cellsOf ps ps.length=Lib.strCells J) (hM0:0<=M) (hM1:M<=9223372036854775807) (hb:S.size+J.size<=140737488355328) :
 Calls Tryz.prog 156 #[.pointer (some ⟨p,0,none⟩),.slice (some ⟨q,0,none⟩) m m] w (zay p v M (rlay M S E J) w):=by
 subst hps;have hT:tot ps ps.length=J.size:=by rw [<- zd3 ps _ (Nat.le_refl _),hJ,Lib.strCells_length]
 have hL:(Lib.strCells S).length=S.size:=Lib.strCells_length S;unfold rlay;by_cases hE:E=0
 · subst hE;rw [if_neg (by simp)];by_cases hl:M<(S.size:Int)+(J.size:Int)
   · rw [if_pos hl];refine (lay_long p q v M (Lib.strCells S) ps w h hc hm hM0 hM1 (by omega) (by omega) (by omega)).mono ?_;rintro e w' ⟨rfl,k,rfl⟩;exact ⟨rfl,v,(h.drewN k).setE 23,Kept.drewNSet p v w k 2 _⟩
   · rw [if_neg hl];refine (lay_fits p q v M (Lib.strCells S) ps w h hc hq1 hqp hqv hm hM0 hM1 (by omega) (by omega) (by omega) (by omega)).mono ?_;rintro e w' ⟨rfl,v',h1,h2⟩;refine ⟨rfl,v',?_,h2⟩;have e1:Lib.strCells (S++J)=Lib.strCells S++cellsOf ps ps.length:=(by rw [hJ];simp [Lib.strCells]);rw [e1];exact h1
 · rw [if_pos hE];refine (lay_wrong p q v M E (Lib.strCells S) ps w h hE hc hm hM0 hM1 (by omega) (by omega)).mono ?_;rintro e w' ⟨rfl,k,rfl⟩;exact ⟨rfl,v,h.drewN k,Kept.drewN p v w k⟩
theorem zco (p:Nat) (v:Value) (M E F:Int) (S:ByteArray) (w:World) (h:PW w p v M (Lib.strCells S) E) :
 Calls Tryz.prog 115 #[.pointer (some ⟨p,0,none⟩),iI F] w (zay p v M (S,zbc E F) w):=by
 unfold zbc;by_cases hE:E=0
 · subst hE;rw [if_pos rfl];refine (zf2 p v M F _ w h).mono ?_;rintro e w' ⟨rfl,k,rfl⟩;exact ⟨rfl,v,(h.drewN k).setE F,Kept.drewNSet p v w k 2 _⟩
 · rw [if_neg hE];refine (zf1 p v M E F _ w h hE).mono ?_;rintro e w' ⟨rfl,k,rfl⟩;exact ⟨rfl,v,h.drewN k,Kept.drewN p v w k⟩
theorem zay.behind {p:Nat} {v:Value} {M:Int} {r:ByteArray × Int} {w w1:World} {e:Ending} {w' : World} (hB:Below w.heap.size w w1) (h:zay p v M r w1 e w'):zay p v M r w e w':=by
 obtain ⟨h1,v',h2,h3⟩:=h;exact ⟨h1,v',h2,(Kept.of_below hB).trans h3⟩
theorem lay_list (p q m:Nat) (v:Value) (M E:Int) (S J:ByteArray) (ps:List ByteArray) (w w1:World) (h:PW w p v M (Lib.strCells S) E) (hB:Below w.heap.size w w1) (hq0:w.heap.size<=q) (hq1:q<w1.heap.size)
 (hc:∀ j,j<ps.length->w1.cell? ⟨q,j,none⟩=some (.string (ps.getD j ⟨#[]⟩))) (hps:ps.length=m) (hm:m<=100) (hJ:cellsOf ps ps.length=Lib.strCells J) (hM0:0<=M) (hM1:M<=9223372036854775807) (hb:S.size+J.size<=140737488355328) :
 Calls Tryz.prog 156 #[.pointer (some ⟨p,0,none⟩),.slice (some ⟨q,0,none⟩) m m] w1 (zay p v M (rlay M S E J) w):=by
 have hlt:=h.lt;refine (lay_any p q m v M E S J ps w1 (h.below hB) hc hq1 (by omega) (fun e=>?_) hps hm hJ hM0 hM1 hb).mono fun e w' hp=>hp.behind hB;have:=(h.own.lt q e.symm).2
 omega
theorem lay_one (p q:Nat) (v:Value) (M E:Int) (S s:ByteArray) (w w1:World) (h:PW w p v M (Lib.strCells S) E) (hB:Below w.heap.size w w1) (hq0:w.heap.size<=q) (hq1:q<w1.heap.size)
 (hc:w1.cell? ⟨q,0,none⟩=some (.string s)) (hM0:0<=M) (hM1:M<=9223372036854775807) (hb:S.size+s.size<=140737488355328) :
 Calls Tryz.prog 156 #[.pointer (some ⟨p,0,none⟩),.slice (some ⟨q,0,none⟩) 1 1] w1 (zay p v M (rlay M S E s) w) :=
 lay_list p q 1 v M E S s [s] w w1 h hB hq0 hq1 (fun j hj => by obtain rfl : j = 0 := by simp at hj; omega
                                                                exact hc) rfl (by omega) (by simp [cellsOf]) hM0 hM1 hb
theorem lay_three (p q:Nat) (v:Value) (M E:Int) (S s t u:ByteArray) (w w1:World) (h:PW w p v M (Lib.strCells S) E) (hB:Below w.heap.size w w1) (hq0:w.heap.size<=q) (hq1:q<w1.heap.size)
 (hc:w1.cell? ⟨q,0,none⟩=some (.string s)) (hc1:w1.cell? ⟨q,1,none⟩=some (.string t)) (hc2:w1.cell? ⟨q,2,none⟩=some (.string u)) (hM0:0<=M) (hM1:M<=9223372036854775807) (hb:S.size+(s.size+t.size+u.size)<=140737488355328) :
 Calls Tryz.prog 156 #[.pointer (some ⟨p,0,none⟩),.slice (some ⟨q,0,none⟩) 3 3] w1 (zay p v M (rlay M S E (s++t++u)) w) :=
 lay_list p q 3 v M E S (s++t++u) [s,t,u] w w1 h hB hq0 hq1 (fun j hj=>by
  obtain rfl|rfl|rfl:j=0∨j=1∨j=2:=by simp at hj;omega
  · exact hc
  · exact hc1
  · exact hc2) rfl (by omega) (by simp [cellsOf,Lib.strCells]) hM0 hM1 (by rw [ByteArray.size_append,ByteArray.size_append];exact hb)
theorem zca (n:Int) (w:World):Calls Tryz.prog 155 #[iI n] w fun e w'=>e=.returned (.bool (decide (0<=n)&&decide (n<=4294967295)))∧w'=w:=by
 by_cases h0:0<=n
 · by_cases h1:n<=4294967295
   · rw [decide_eq_true h0,decide_eq_true h1];(go_enter Tryz.func155,Tryz.ntmps155);go_wp2;go_ret;exact ⟨rfl,rfl⟩
   · rw [decide_eq_true h0,decide_eq_false h1];have h2:decide (n<=4294967295)=false:=decide_eq_false h1;(go_enter Tryz.func155,Tryz.ntmps155);go_wp2;go_ret;exact ⟨rfl,rfl⟩
 · rw [decide_eq_false h0];have h2:decide (0<=n)=false:=decide_eq_false h0;go_enter Tryz.func155,Tryz.ntmps155
   go_wp2;go_ret;exact ⟨rfl,rfl⟩
theorem zfl (p:Nat) (v:Value) (n M E:Int) (S:ByteArray) (w:World) (h:PW w p v M (Lib.strCells S) E) (hM0:0<=M) (hM1:M<=9223372036854775807) (hb:S.size+4<=140737488355328) (hw:(decide (0<=n)&&decide (n<=4294967295))=true) :
 Calls Tryz.prog 116 #[.pointer (some ⟨p,0,none⟩),iI n] w (zay p v M (rlay M S E ⟨(byL 4 n).toArray⟩) w):=by
 obtain ⟨t,ht⟩:∃ t:ByteArray,t=⟨(byL 4 n).toArray⟩:=⟨_,rfl⟩;have hts:t.size=4:=by rw [ht,zb3,zbo]
 have H:Hid (∀ q w1,Below w.heap.size w w1->w.heap.size<=q->q<w1.heap.size->w1.cell? ⟨q,0,none⟩=some (.string t)->Calls Tryz.prog 156 #[.pointer (some ⟨p,0,none⟩),.slice (some ⟨q,0,none⟩) 1 1] w1 (zay p v M (rlay M S E t) w)) :=
  fun q w1 hB h0 h1 hc=>lay_one p q v M E S t w w1 h hB h0 h1 hc hM0 hM1 (by rw [hts];exact hb)
 have H1:Hid (∀ z w,z=n % 4294967296->Calls Tryz.prog 157 #[.int .u32 z] w fun e w'=>e=.returned (.string t)∧Below w.heap.size w w'):=fun z w hz=>by
  have hz2:z=((n % 4294967296).toNat:Int):=by omega
  rw [hz2,ht];exact zb7 (n % 4294967296).toNat w (by omega)
 have HG:Hid (∀ w,Calls Tryz.prog 155 #[iI n] w fun e w'=>e=.returned (.bool true)∧w'=w):=fun w=>hw ▸ zca n w;rw [<- ht];clear h hM0 hM1 hb hts ht;go_enter Tryz.func116,Tryz.ntmps116
 go_wp2_with fail
 refine (HG.out _).mono ?_;rintro e w0 ⟨rfl,hw0⟩;have hw1:=hw0.symm;clear hw0;subst hw1;go_wp2_with fail
 refine (H1.out _ _ (by first|rfl|(rw [IntKind.wrap_u32])|(simp [IntKind.wrap,IntKind.bits,IntKind.signed])|omega)).mono ?_;rintro e w1 ⟨rfl,hB⟩;have HB:Hid (Below w.heap.size w w1):=hB;clear hB;go_wp2_with fail
 refine (H.out _ _ (HB.out.alloc HB.out.size _) HB.out.size (by simp) (by simp)).mono ?_;intro e w2 hp;obtain ⟨rfl,hp2⟩:=hp;have HP:Hid (∃ v',PW w2 p v' M (Lib.strCells (rlay M S E t).1) (rlay M S E t).2∧Kept p v v' w w2):=hp2;clear hp2;go_wp2;first|go_end0|refine bodyPost_ret (results_none rfl _ _ _) rfl ?_
 exact ⟨rfl,HP.out⟩
theorem puint_bad (p:Nat) (v:Value) (n M E:Int) (S:ByteArray) (w:World) (h:PW w p v M (Lib.strCells S) E) (hw:(decide (0<=n)&&decide (n<=4294967295))=false) :
 Calls Tryz.prog 116 #[.pointer (some ⟨p,0,none⟩),iI n] w (zay p v M (S,zbc E 22) w):=by
 have H:Hid (Calls Tryz.prog 115 #[.pointer (some ⟨p,0,none⟩),iI 22] w (zay p v M (S,zbc E 22) w)):=zco p v M E 22 S w h;have HG:Hid (∀ w,Calls Tryz.prog 155 #[iI n] w fun e w'=>e=.returned (.bool false)∧w'=w):=fun w=>hw ▸ zca n w;clear h;go_enter Tryz.func116,Tryz.ntmps116
 go_wp2_with fail
 refine (HG.out _).mono ?_;rintro e w0 ⟨rfl,hw0⟩;have hw1:=hw0.symm;clear hw0;subst hw1;go_wp2_with fail
 refine H.out.mono ?_;intro e w2 hp;obtain ⟨rfl,hp2⟩:=hp;have HP:Hid (∃ v',PW w2 p v' M (Lib.strCells (S,zbc E 22).1) (S,zbc E 22).2∧Kept p v v' w w2):=hp2;clear hp2;go_wp2;first|go_end0|refine bodyPost_ret (results_none rfl _ _ _) rfl ?_
 exact ⟨rfl,HP.out⟩
theorem phyper (p:Nat) (v:Value) (n M E:Int) (S:ByteArray) (w:World) (h:PW w p v M (Lib.strCells S) E) (hM0:0<=M) (hM1:M<=9223372036854775807) (hb:S.size+8<=140737488355328) :
 Calls Tryz.prog 168 #[.pointer (some ⟨p,0,none⟩),iI n] w (zay p v M (rlay M S E ⟨(byL 8 n).toArray⟩) w):=by
 obtain ⟨t,ht⟩:∃ t:ByteArray,t=⟨(byL 8 n).toArray⟩:=⟨_,rfl⟩;have hts:t.size=8:=by rw [ht,zb3,zbo]
 have H:Hid (∀ q w1,Below w.heap.size w w1->w.heap.size<=q->q<w1.heap.size->w1.cell? ⟨q,0,none⟩=some (.string t)->Calls Tryz.prog 156 #[.pointer (some ⟨p,0,none⟩),.slice (some ⟨q,0,none⟩) 1 1] w1 (zay p v M (rlay M S E t) w)) :=
  fun q w1 hB h0 h1 hc=>lay_one p q v M E S t w w1 h hB h0 h1 hc hM0 hM1 (by rw [hts];exact hb)
 have H1:Hid (∀ z w,z=n % 18446744073709551616->Calls Tryz.prog 183 #[.int .u64 z] w fun e w'=>e=.returned (.string t)∧Below w.heap.size w w'):=fun z w hz=>by
  have hz2:z=((n % 18446744073709551616).toNat:Int):=by omega
  rw [hz2,ht];exact zgp (n % 18446744073709551616).toNat w (by omega)
 rw [<- ht];clear h hM0 hM1 hb hts ht;go_enter Tryz.func168,Tryz.ntmps168
 go_wp2_with fail
 refine (H1.out _ _ (by first|rfl|(rw [IntKind.wrap_u64])|(simp [IntKind.wrap,IntKind.bits,IntKind.signed])|omega)).mono ?_;rintro e w1 ⟨rfl,hB⟩;have HB:Hid (Below w.heap.size w w1):=hB;clear hB;go_wp2_with fail
 refine (H.out _ _ (HB.out.alloc HB.out.size _) HB.out.size (by simp) (by simp)).mono ?_;intro e w2 hp;obtain ⟨rfl,hp2⟩:=hp;have HP:Hid (∃ v',PW w2 p v' M (Lib.strCells (rlay M S E t).1) (rlay M S E t).2∧Kept p v v' w w2):=hp2;clear hp2;go_wp2;first|go_end0|refine bodyPost_ret (results_none rfl _ _ _) rfl ?_
 exact ⟨rfl,HP.out⟩
theorem zf3 (p:Nat) (v:Value) (m n M E:Int) (S:ByteArray) (w:World) (h:PW w p v M (Lib.strCells S) E) (hw:(decide (0<=m)&&decide (m<=4294967295))=true) (hn:0<=n) (hl:m<n) :
 Calls Tryz.prog 120 #[.pointer (some ⟨p,0,none⟩),iI m,iI n] w (zay p v M (S,zbc E 23) w):=by
 have H:Hid (Calls Tryz.prog 115 #[.pointer (some ⟨p,0,none⟩),iI 23] w (zay p v M (S,zbc E 23) w)):=zco p v M E 23 S w h;have HG:Hid (∀ w,Calls Tryz.prog 155 #[iI m] w fun e w'=>e=.returned (.bool true)∧w'=w):=fun w=>hw ▸ zca m w;clear h hw;go_enter Tryz.func120,Tryz.ntmps120
 go_wp2_with fail
 refine (HG.out _).mono ?_;rintro e w0 ⟨rfl,hw0⟩;have hw1:=hw0.symm;clear hw0;subst hw1;go_wp2_with fail
 refine H.out.mono ?_;intro e w2 hp;obtain ⟨rfl,hp2⟩:=hp;have HP:Hid (∃ v',PW w2 p v' M (Lib.strCells (S,zbc E 23).1) (S,zbc E 23).2∧Kept p v v' w w2):=hp2;clear hp2;go_wp2;first|go_end0|refine bodyPost_ret (results_none rfl _ _ _) rfl ?_
 exact ⟨rfl,HP.out⟩
theorem pcount_ok (p:Nat) (v:Value) (m n M E:Int) (S:ByteArray) (w:World) (h:PW w p v M (Lib.strCells S) E) (hM0:0<=M) (hM1:M<=9223372036854775807) (hb:S.size+4<=140737488355328) (hw:(decide (0<=m)&&decide (m<=4294967295))=true) (hn:0<=n) (hl:n<=m) :
 Calls Tryz.prog 120 #[.pointer (some ⟨p,0,none⟩),iI m,iI n] w (zay p v M (rlay M S E ⟨(byL 4 n).toArray⟩) w):=by
 obtain ⟨t,ht⟩:∃ t:ByteArray,t=⟨(byL 4 n).toArray⟩:=⟨_,rfl⟩;have hts:t.size=4:=by rw [ht,zb3,zbo]
 have H:Hid (∀ q w1,Below w.heap.size w w1->w.heap.size<=q->q<w1.heap.size->w1.cell? ⟨q,0,none⟩=some (.string t)->Calls Tryz.prog 156 #[.pointer (some ⟨p,0,none⟩),.slice (some ⟨q,0,none⟩) 1 1] w1 (zay p v M (rlay M S E t) w)) :=
  fun q w1 hB h0 h1 hc=>lay_one p q v M E S t w w1 h hB h0 h1 hc hM0 hM1 (by rw [hts];exact hb)
 have H1:Hid (∀ z w,z=n % 4294967296->Calls Tryz.prog 157 #[.int .u32 z] w fun e w'=>e=.returned (.string t)∧Below w.heap.size w w'):=fun z w hz=>by
  have hz2:z=((n % 4294967296).toNat:Int):=by omega
  rw [hz2,ht];exact zb7 (n % 4294967296).toNat w (by omega)
 have HG:Hid (∀ w,Calls Tryz.prog 155 #[iI m] w fun e w'=>e=.returned (.bool true)∧w'=w):=fun w=>hw ▸ zca m w;rw [<- ht];clear h hM0 hM1 hb hts ht hw;go_enter Tryz.func120,Tryz.ntmps120
 go_wp2_with fail
 refine (HG.out _).mono ?_;rintro e w0 ⟨rfl,hw0⟩;have hw1:=hw0.symm;clear hw0;subst hw1;go_wp2_with fail
 refine (H1.out _ _ (by first|rfl|(rw [IntKind.wrap_u32])|(simp [IntKind.wrap,IntKind.bits,IntKind.signed])|omega)).mono ?_;rintro e w1 ⟨rfl,hB⟩;have HB:Hid (Below w.heap.size w w1):=hB;clear hB;go_wp2_with fail
 refine (H.out _ _ (HB.out.alloc HB.out.size _) HB.out.size (by simp) (by simp)).mono ?_;intro e w2 hp;obtain ⟨rfl,hp2⟩:=hp;have HP:Hid (∃ v',PW w2 p v' M (Lib.strCells (rlay M S E t).1) (rlay M S E t).2∧Kept p v v' w w2):=hp2;clear hp2;go_wp2;first|go_end0|refine bodyPost_ret (results_none rfl _ _ _) rfl ?_
 exact ⟨rfl,HP.out⟩
theorem ze3 (p:Nat) (v:Value) (m M E:Int) (S s:ByteArray) (w:World) (h:PW w p v M (Lib.strCells S) E) (hw:(decide (0<=m)&&decide (m<=4294967295))=true) (hl:m<(s.size:Int)) :
 Calls Tryz.prog 122 #[.pointer (some ⟨p,0,none⟩),iI m,.string s] w (zay p v M (S,zbc E 23) w):=by
 have H:Hid (Calls Tryz.prog 115 #[.pointer (some ⟨p,0,none⟩),iI 23] w (zay p v M (S,zbc E 23) w)):=zco p v M E 23 S w h;have HG:Hid (∀ w,Calls Tryz.prog 155 #[iI m] w fun e w'=>e=.returned (.bool true)∧w'=w):=fun w=>hw ▸ zca m w;clear h hw;go_enter Tryz.func122,Tryz.ntmps122
 go_wp2_with fail
 refine (HG.out _).mono ?_;rintro e w0 ⟨rfl,hw0⟩;have hw1:=hw0.symm;clear hw0;subst hw1;go_wp2_with fail
 refine H.out.mono ?_;intro e w2 hp;obtain ⟨rfl,hp2⟩:=hp;have HP:Hid (∃ v',PW w2 p v' M (Lib.strCells (S,zbc E 23).1) (S,zbc E 23).2∧Kept p v v' w w2):=hp2;clear hp2;go_wp2;first|go_end0|refine bodyPost_ret (results_none rfl _ _ _) rfl ?_
 exact ⟨rfl,HP.out⟩
theorem zg0 (p:Nat) (v:Value) (m M E:Int) (S s:ByteArray) (w:World) (h:PW w p v M (Lib.strCells S) E) (hM0:0<=M) (hM1:M<=9223372036854775807) (hb:S.size+(s.size+7)<=140737488355328) (hw:(decide (0<=m)&&decide (m<=4294967295))=true) (hl:(s.size:Int)<=m) :
 Calls Tryz.prog 122 #[.pointer (some ⟨p,0,none⟩),iI m,.string s] w (zay p v M (rlay M S E (⟨(byL 4 (s.size:Int)).toArray⟩++s++⟨(padL s.size).toArray⟩)) w):=by
 obtain ⟨t,ht⟩:∃ t:ByteArray,t=⟨(padL s.size).toArray⟩:=⟨_,rfl⟩;obtain ⟨u,hu⟩:∃ u:ByteArray,u=⟨(byL 4 (s.size:Int)).toArray⟩:=⟨_,rfl⟩;have hts:t.size<=3:=by rw [ht,zb3];exact zhv s.size
 have hus:u.size=4:=by rw [hu,zb3,zbo]
 have H:Hid (∀ q w1,Below w.heap.size w w1->w.heap.size<=q->q<w1.heap.size->w1.cell? ⟨q,0,none⟩=some (.string u)->w1.cell? ⟨q,1,none⟩=some (.string s)->w1.cell? ⟨q,2,none⟩=some (.string t)->Calls Tryz.prog 156 #[.pointer (some ⟨p,0,none⟩),.slice (some ⟨q,0,none⟩) 3 3] w1 (zay p v M (rlay M S E (u++s++t)) w)) :=
  fun q w1 hB h0 h1 hc hc1 hc2=>lay_three p q v M E S u s t w w1 h hB h0 h1 hc hc1 hc2 hM0 hM1 (by omega)
 have H1:Hid (∀ w,Calls Tryz.prog 161 #[iI (s.size:Int)] w fun e w'=>e=.returned (.string t)∧w'=w):=fun w=>by
  rw [ht];exact padding_any s.size w (by omega)
 have H0:Hid (∀ z w,z=(s.size:Int) % 4294967296->Calls Tryz.prog 157 #[.int .u32 z] w fun e w'=>e=.returned (.string u)∧Below w.heap.size w w'):=fun z w hz=>by
  have hz2:z=(((s.size:Int) % 4294967296).toNat:Int):=by omega
  rw [hz2,hu];exact zb7 ((s.size:Int) % 4294967296).toNat w (by omega)
 have HG:Hid (∀ w,Calls Tryz.prog 155 #[iI m] w fun e w'=>e=.returned (.bool true)∧w'=w):=fun w=>hw ▸ zca m w;rw [<- ht,<- hu];clear h hM0 hM1 hb hts ht hu hus hw;generalize rlay M S E (u++s++t)=r at H ⊢;go_enter Tryz.func122,Tryz.ntmps122
 go_wp2_with fail
 refine (HG.out _).mono ?_;rintro e w0 ⟨rfl,hw0⟩;have hw1:=hw0.symm;clear hw0;subst hw1;go_wp2_with fail
 refine (H0.out _ _ (by first|rfl|(rw [IntKind.wrap_u32])|(simp [IntKind.wrap,IntKind.bits,IntKind.signed])|omega)).mono ?_;rintro e w1 ⟨rfl,hB⟩;have HB:Hid (Below w.heap.size w w1):=hB;clear hB;go_wp2_with fail
 refine (H1.out _).mono ?_;rintro e w0 ⟨rfl,hw0⟩;have hw1:=hw0.symm;clear hw0;subst hw1;go_wp2_with fail
 refine (H.out _ _ (HB.out.alloc HB.out.size _) HB.out.size (by simp) (by simp) (by simp) (by simp)).mono ?_;intro e w2 hp;obtain ⟨rfl,hp2⟩:=hp;have HP:Hid (∃ v',PW w2 p v' M (Lib.strCells r.1) r.2∧Kept p v v' w w2):=hp2;clear hp2;go_wp2;first|go_end0|refine bodyPost_ret (results_none rfl _ _ _) rfl ?_
 exact ⟨rfl,HP.out⟩
theorem pdone_wrong (p:Nat) (v:Value) (M E:Int) (S:ByteArray) (w:World) (h:PW w p v M (Lib.strCells S) E) (hT:ErrT w) (hE:E≠0) :
 Calls Tryz.prog 126 #[.pointer (some ⟨p,0,none⟩)] w fun e w'=>e=.returned (.tuple #[.string ⟨#[]⟩,iI E])∧Below w.heap.size w w':=by
 have H0:Hid (∀ w1,w1=w->Calls Tryz.prog 134 #[.pointer (some ⟨p,2,none⟩)] w1 fun r w'=>r=.returned (.bool true)∧w'=w):=fun w1 e=>by rw [e];exact any_true p E w h.e hE
 have H1:Hid (Calls Tryz.prog 135 #[.pointer (some ⟨p,2,none⟩)] w fun r w'=>r=.returned (iI E)∧Below w.heap.size w w'):=zg3 ⟨p,2,none⟩ E w hT h.e;clear h hT hE;go_enter Tryz.func126,Tryz.ntmps126
 go_wp2_with fail
 refine (H0.out _ rfl).mono ?_;rintro e w0 ⟨rfl,hw0⟩;have hw1:=hw0.symm;clear hw0;subst hw1;go_wp2_with fail
 refine H1.out.mono ?_;rintro e w2 ⟨rfl,hB⟩;have HB:Hid (Below w.heap.size w w2):=hB;clear hB;go_wp2;go_ret2
 exact ⟨rfl,HB.out⟩
theorem own_text {w:World} {base:Nat} {v:Value} {S:ByteArray} (h:w.ownsRow base 5 1 v S.size (Lib.strCells S)):(convert 174 9 v).run Tryz.prog w=.ok (.string S) w:=by
 have hS:(⟨S.data.toList.toArray⟩:ByteArray)=S:=by simp
 have hc:=fun g=>h.cells (g:=g);rcases h.2 with ⟨rfl,h0⟩|⟨g,cap,cur,rfl,_,hg,_⟩
 · have h1:=run_convert_bytes_nil (P:=Tryz.prog) (w:=w) 174 5 Tryz.underlying174 Tryz.underlying5 0 0;have e0:S=⟨#[]⟩:=by
    rw [<- hS];have:S.data.toList=[]:=by rw [<- List.length_eq_zero_iff,Array.length_toList];exact h0
    rw [this]
   rw [e0];exact h1 9 Tryz.underlying9
 · have h1:=run_convert_bytes_back (P:=Tryz.prog) w 174 9 5 ⟨g,0,none⟩ cap S.data.toList Tryz.underlying174 Tryz.underlying5 Tryz.underlying9 (fun t ht=>by
    refine hc g rfl t _ ?_
    simp [Lib.strCells,List.getElem?_map,List.getElem?_eq_getElem ht])
   have hl:S.data.toList.length=S.size:=by simp
   rw [hS,hl] at h1;exact h1
theorem pdone_ok (p:Nat) (v:Value) (M:Int) (S:ByteArray) (w:World) (h:PW w p v M (Lib.strCells S) 0) :
 Calls Tryz.prog 126 #[.pointer (some ⟨p,0,none⟩)] w fun e w'=>e=.returned (.tuple #[.string S,iI 0])∧∃ k,w'=w.drewN k:=by
 have H0:Hid (∀ w1,w1=w->Calls Tryz.prog 134 #[.pointer (some ⟨p,2,none⟩)] w1 fun r w'=>r=.returned (.bool false)∧w'=w):=fun w1 e=>by rw [e];exact zia ⟨p,2,none⟩ 0 w h.e
 obtain ⟨a,cap,hv⟩:=zec h.own;have hs:=h.s;have hcv:=own_text (by have:=h.own;rw [Lib.strCells_length] at this;exact this);rw [hv] at hs hcv;clear h hv;generalize (Lib.strCells S).length=n at hs hcv;go_enter Tryz.func126,Tryz.ntmps126
 go_wp2_with fail
 refine (H0.out _ rfl).mono ?_;rintro e w0 ⟨rfl,hw0⟩;have hw1:=hw0.symm;clear hw0;subst hw1;go_wp2;go_ret2
 exact ⟨rfl,0,rfl⟩
theorem pdone_any (p:Nat) (v:Value) (M E:Int) (S:ByteArray) (w:World) (h:PW w p v M (Lib.strCells S) E) (hT:ErrT w) :
 Calls Tryz.prog 126 #[.pointer (some ⟨p,0,none⟩)] w fun e w'=>e=.returned (.tuple #[.string (if E=0 then S else ⟨#[]⟩),iI E])∧Below w.heap.size w w':=by
 by_cases hE:E=0
 · subst hE;rw [if_pos rfl];refine (pdone_ok p v M S w h).mono ?_;rintro e w' ⟨h1,k,rfl⟩;exact ⟨h1,below_drewN (Below.refl _ _) k⟩
 · rw [if_neg hE];exact pdone_wrong p v M E S w h hT hE
theorem pnew (m:Int) (w:World):Calls Tryz.prog 76 #[iI m] w fun e w'=>e=.returned (.pointer (some ⟨w.heap.size,0,none⟩))∧w'=w.alloc (.cells #[iI (max m 0),.slice none 0 0,.nilIface] 181):=by
 go_enter Tryz.func76,Tryz.ntmps76
 go_wp2
 · go_ret;refine ⟨rfl,?_⟩;rw [Int.max_eq_right (by omega)]
 · go_ret;refine ⟨rfl,?_⟩;rw [Int.max_eq_left (by omega)]
theorem PW.new (m:Int) (w:World):PW (w.alloc (.cells #[iI (max m 0),.slice none 0 0,.nilIface] 181)) w.heap.size (.slice none 0 0) (max m 0) (Lib.strCells ⟨#[]⟩) 0 :=
 ⟨by simp,by simp,by simp [trV],by simp,by simp,World.ownsRow_nil _ _ _ _⟩
structure WW (w:World) (p q:Nat) (v:Value) (M:Int) (S:ByteArray) (E:Int):Prop where
 pw:PW w p v M (Lib.strCells S) E
 rw:RW w q S M E
 pq:p≠q
 qv:some q≠v.ownBlock


def Mine (p q:Nat) (v:Value) (b:Nat):Prop:=b=p∨b=q∨v.ownBlock=some b
structure Two (n0:Nat) (w:World) (p q:Nat) (v:Value) (M:Int) (S:ByteArray) (E:Int) (p2 q2:Nat) (v2:Value) (M2:Int) (S2:ByteArray) (E2:Int):Prop where
 a:WW w p q v M S E
 b:WW w p2 q2 v2 M2 S2 E2
 np:n0<=p
 nq:n0<=q
 np2:n0<=p2
 nq2:n0<=q2
 apart:∀ x,Mine p q v x->Mine p2 q2 v2 x->False
end Go.Proofs.YtfcbjcebkahehaaGreatDoor
