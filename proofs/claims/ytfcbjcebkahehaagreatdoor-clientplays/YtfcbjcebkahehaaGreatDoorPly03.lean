import Derived.Test.YtfcbjcebkahehaaGreatDoorPly02
import Derived.Test.YtfcbjcebkahehaaGreatDoorPly01
import Derived.BigQuiet
import Derived.Deep.QuietTactic
import Derived.Deep.RegionWith
import Derived.LaidEql
import Derived.RowKitTokens
import Derived.WalkKit
import Derived.WalkLawsBesides
import Derived.WalkSpells
import Derived.OwnWalk
import Derived.Laws.CopyOwn
set_option maxRecDepth 8000
set_option maxHeartbeats 20000000
set_option linter.unusedSimpArgs false
namespace Go.Proofs.YtfcbjcebkahehaaGreatDoor.Cl
open Go.RowKit
structure Cf where
 ad:Int
 inst:Int
 first:Int
 win:Int
 pb:Int
 pc:Int
 pt:Int
 sys:SysP
abbrev cfA (c:Cf) (oa:Option Addr) (cap:Nat):Array Value:=#[iI c.ad,iI c.inst,iI c.first,iI c.win,iI c.pb,iI c.pc,iI c.pt,iI c.sys.stamp,.string ⟨c.sys.machine.toArray⟩,iI c.sys.user,iI c.sys.group,.slice oa c.sys.groups.length cap]
def okC (c:Cf):Bool:=decide c.sys.may&&(inB c.ad 1 16777215&&(inB c.inst 1 4611686018427387904&&(inB c.first 1 4294967295&&(inB c.win 1 64&&Pc.rightP c.pb c.pc c.pt))))
theorem prS_is (s:SysP):∃ fl bo,prV 1 (printS s)=.tuple #[.agg #[iI fl,.string bo],iI (if decide s.may then 0 else 110)]:=by
 unfold printS;by_cases h:s.may
 · rw [if_pos h,decide_eq_true h];exact ⟨_,_,rfl⟩
 · rw [if_neg h,decide_eq_false h];exact ⟨_,_,rfl⟩
theorem mayBe_any (c:Cf) (oa:Option Addr) (cap:Nat) (w:World) (hT:ErrT w) (hg:GsAt w w.heap.size oa c.sys.groups) (hcap:c.sys.groups.length<=cap) (hlen:(c.sys.groups.length:Int)<=9223372036854775807) :
 Calls Tryz.prog 44 #[.agg (cfA c oa cap)] w fun e w'=>e=.returned (.bool (okC c))∧Below w.heap.size w w':=by
 obtain ⟨w0,hw0⟩:∃ w0,w.alloc (.cells (cfA c oa cap) 28)=w0:=⟨_,rfl⟩;obtain ⟨S0,hS0⟩:∃ S0,w.heap.size=S0:=⟨_,rfl⟩;have B0:Below w.heap.size w w0:=by rw [<- hw0];exact (Below.refl _ _).alloc (Nat.le_refl _) _
 have k0:w0.heap[S0]?=some (.cells (cfA c oa cap) 28):=by rw [<- hw0,<- hS0];exact (MapKept.heap_alloc w _).1
 have hlt:S0<w0.heap.size:=(Array.getElem?_eq_some_iff.1 k0).1;obtain ⟨fl,bo,hprs⟩:=prS_is c.sys;have HP:Hid (Calls Tryz.prog 71 #[.agg #[iI c.sys.stamp,.string ⟨c.sys.machine.toArray⟩,iI c.sys.user,iI c.sys.group,.slice oa c.sys.groups.length cap]] w0 fun e w'=>e=.returned (.tuple #[.agg #[iI fl,.string bo],iI (if decide c.sys.may then 0 else 110)])∧Below w0.heap.size w0 w'):=by
  have:=printSys_any c.sys oa cap w0 (hT.below B0) (fun h0=>by
   obtain ⟨q,off,e1,e2,e3⟩:=(hg.below B0) h0
   exact ⟨q,off,e1,Nat.lt_of_lt_of_le e2 B0.size,e3⟩) hcap hlen
  rw [hprs] at this;exact this
 have hc:∀ w',Below w0.heap.size w0 w'->∀ k v,(cfA c oa cap)[k]?=some v->w'.cell? ⟨S0,k,none⟩=some v:=fun w' hb k v hk=>by
  unfold World.cell?;rw [hb.block S0 hlt,k0];exact hk
 have HB:Hid (∀ w',Below w0.heap.size w0 w'->Below w.heap.size w w'):=fun w' hb=>B0.trans (hb.mono B0.size);have p0:=hc w0 (Below.refl _ _) 7 _ rfl;have p1:=hc w0 (Below.refl _ _) 8 _ rfl;have p2:=hc w0 (Below.refl _ _) 9 _ rfl;have p3:=hc w0 (Below.refl _ _) 10 _ rfl;have p4:=hc w0 (Below.refl _ _) 11 _ rfl;have HC:=hid hc;obtain ⟨b0,hb0⟩:∃ b,decide c.sys.may=b:=⟨_,rfl⟩;obtain ⟨b1,hb1⟩:∃ b,inB c.ad 1 16777215=b:=⟨_,rfl⟩;obtain ⟨b2,hb2⟩:∃ b,inB c.inst 1 4611686018427387904=b:=⟨_,rfl⟩;obtain ⟨b3,hb3⟩:∃ b,inB c.first 1 4294967295=b:=⟨_,rfl⟩;obtain ⟨b4,hb4⟩:∃ b,inB c.win 1 64=b:=⟨_,rfl⟩;obtain ⟨b5,hb5⟩:∃ b,Pc.rightP c.pb c.pc c.pt=b:=⟨_,rfl⟩;have H1:Hid (∀ w,Calls Tryz.prog 72 #[iI c.ad] w fun e w'=>e=.returned (.bool b1)∧w'=w):=fun w=>by rw [<- hb1];exact zgi w _
 have H2:Hid (∀ w,Calls Tryz.prog 73 #[iI c.inst,iI 1,iI 4611686018427387904] w fun e w'=>e=.returned (.bool b2)∧w'=w):=fun w=>by rw [<- hb2];exact zbp w _ _ _
 have H3:Hid (∀ w,Calls Tryz.prog 73 #[iI c.first,iI 1,iI 4294967295] w fun e w'=>e=.returned (.bool b3)∧w'=w):=fun w=>by rw [<- hb3];exact zbp w _ _ _
 have H4:Hid (∀ w,Calls Tryz.prog 73 #[iI c.win,iI 1,iI 64] w fun e w'=>e=.returned (.bool b4)∧w'=w):=fun w=>by rw [<- hb4];exact zbp w _ _ _
 have H5:Hid (∀ w,Calls Tryz.prog 74 #[.agg #[iI c.pb,iI c.pc,iI c.pt]] w fun e w'=>e=.returned (.bool b5)∧Below w.heap.size w w'):=fun w=>by rw [<- hb5];exact Pc.right_any w _ _ _
 have hok:okC c=(b0&&(b1&&(b2&&(b3&&(b4&&b5))))):=by unfold okC;rw [hb0,hb1,hb2,hb3,hb4,hb5]
 rw [hok];rw [hb0] at HP;have HZ:=hid (And.intro hlt k0);clear hT hg hcap hlen B0 k0 hc hb0 hb1 hb2 hb3 hb4 hb5 hok hlt hprs;go_enter Tryz.func44,Tryz.ntmps44
 go_wp2_with fail
 refine HP.out.mono ?_;rintro _ w1 ⟨rfl,hb1⟩;obtain ⟨S2,hS2⟩:∃ S2,w1.heap.size=S2:=⟨_,rfl⟩;obtain ⟨w2,hw2⟩:∃ w2,w1.alloc (.cells #[iI 0,.string ⟨#[]⟩] 44)=w2:=⟨_,rfl⟩;obtain ⟨w3,hw3⟩:∃ w3,w2.setCell ⟨S2,0,none⟩ (iI fl)=w3:=⟨_,rfl⟩;obtain ⟨w4,hw4⟩:∃ w4,w3.setCell ⟨S2,1,none⟩ (.string bo)=w4:=⟨_,rfl⟩;have k2:w2.heap[S2]?=some (.cells #[iI 0,.string ⟨#[]⟩] 44):=by rw [<- hw2,<- hS2];exact (MapKept.heap_alloc w1 _).1
 have k3:w3.heap[S2]?=some (.cells #[iI fl,.string ⟨#[]⟩] 44):=by rw [<- hw3];unfold World.setCell;simp [Array.getElem?_modify,k2]
 have c20:w2.cell? ⟨S2,0,none⟩=some (iI 0):=by unfold World.cell?;rw [k2];rfl
 have c21:w2.cell? ⟨S2,1,none⟩=some (.string ⟨#[]⟩):=by unfold World.cell?;rw [k2];rfl
 have c31:w3.cell? ⟨S2,1,none⟩=some (.string ⟨#[]⟩):=by unfold World.cell?;rw [k3];rfl
 have f2:∀ n,w2.frozen? ⟨S2,n,none⟩=false:=fun n=>by unfold World.frozen?;rw [k2];rfl
 have f3:∀ n,w3.frozen? ⟨S2,n,none⟩=false:=fun n=>by unfold World.frozen?;rw [k3];rfl
 have hB4:Below w0.heap.size w0 w4:=by
  have hs:=hb1.size;have b2:Below w0.heap.size w0 w2:=by rw [<- hw2];exact hb1.alloc hs _
  refine ⟨?_,?_,?_,?_,fun b hb=>?_⟩
  · rw [<- hw4,<- hw3];exact b2.os
  · rw [<- hw4,<- hw3];exact b2.tape
  · rw [<- hw4,<- hw3];exact b2.output
  · rw [<- hw4,<- hw3];simpa [World.setCell] using b2.size
  · rw [<- hw4,Below.heap_setCell _ _ _ _ (show b≠S2 by omega),<- hw3,Below.heap_setCell _ _ _ _ (show b≠S2 by omega)];exact b2.block b hb
 have q0:=HC.out w4 hB4 0 _ rfl;have q1:=HC.out w4 hB4 1 _ rfl;have q2:=HC.out w4 hB4 2 _ rfl;have q3:=HC.out w4 hB4 3 _ rfl;have q4:=HC.out w4 hB4 4 _ rfl;have q5:=HC.out w4 hB4 5 _ rfl;have q6:=HC.out w4 hB4 6 _ rfl;have Aa:=hid (HB.out w4 hB4);clear hb1 k2 k3 hB4 HC HP p0 p1 p2 p3 p4 HZ HB;cases b0
 · go_wp2;go_ret;exact ⟨rfl,Aa.out⟩
 · go_wp2_with fail
   refine (H1.out _).mono ?_;rintro _ v1 ⟨rfl,hv1⟩;rw [hv1];clear hv1 v1;cases b1
   · go_wp2;go_ret;exact ⟨rfl,Aa.out⟩
   · (go_wp2_with fail);refine (H2.out _).mono ?_;rintro _ v2 ⟨rfl,hv2⟩;rw [hv2];clear hv2 v2;cases b2
     · go_wp2;go_ret;exact ⟨rfl,Aa.out⟩
     · (go_wp2_with fail);refine (H3.out _).mono ?_;rintro _ v3 ⟨rfl,hv3⟩;rw [hv3];clear hv3 v3;cases b3
       · go_wp2;go_ret;exact ⟨rfl,Aa.out⟩
       · (go_wp2_with fail);refine (H4.out _).mono ?_;rintro _ v4 ⟨rfl,hv4⟩;rw [hv4];clear hv4 v4;cases b4
         · go_wp2;go_ret;exact ⟨rfl,Aa.out⟩
         · (go_wp2_with fail);refine (H5.out _).mono ?_;rintro _ v5 ⟨rfl,hv5⟩;have Ab:Hid (Below w.heap.size w v5):=Aa.out.trans (hv5.mono Aa.out.size);clear hv5;cases b5;all_goals (
            go_wp2;go_ret
            exact ⟨rfl,Ab.out⟩)
theorem info3:∃ i:TypeInfo,Tryz.prog.info? 3=some i∧i.zero=some (iI 0)∧i.size=1∧i.bytes=8 :=
 ⟨(Tryz.prog.info? 3).getD default,by kernel_rfl,by kernel_rfl,by kernel_rfl,by kernel_rfl⟩
theorem bls24 (w:World):(Instr.buildSlice 24 0 #[]).run Tryz.prog w=.ok (.slice (some ⟨w.heap.size,0,none⟩) 0 0) (w.alloc (.cells #[] 3)):=by kernel_rfl
def gvs (gs:List Int):List Value:=gs.map fun g=>iI g
def GsN (w:World) (lo:Nat) (oa:Option Addr) (gs:List Int):Prop:=0<gs.length->∃ q off,oa=some ⟨q,off,none⟩∧lo<=q∧q<w.heap.size∧∀ i,i<gs.length->w.cell? ⟨q,off+i,none⟩=some (iI (gs.getD i 0))
theorem GsN.lo {w:World} {lo lo' : Nat} {oa:Option Addr} {gs:List Int} (h:GsN w lo oa gs) (hl:lo'<=lo):GsN w lo' oa gs:=fun h0=>by
 obtain ⟨q,off,e1,e2,e3,e4⟩:=h h0;exact ⟨q,off,e1,Nat.le_trans hl e2,e3,e4⟩
theorem GsN.kept {w w' : World} {lo:Nat} {oa:Option Addr} {gs:List Int} (h:GsN w lo oa gs) (hs:w.heap.size<=w'.heap.size) (hb:∀ q,lo<=q->q<w.heap.size->(∃ off,oa=some ⟨q,off,none⟩)->w'.heap[q]?=w.heap[q]?):GsN w' lo oa gs:=fun h0=>by
 obtain ⟨q,off,e1,e2,e3,e4⟩:=h h0;exact ⟨q,off,e1,e2,Nat.lt_of_lt_of_le e3 hs,fun i hi=>(World.cell?_of_block (a:=⟨q,off+i,none⟩) (hb q e2 e3 ⟨off,e1⟩)).trans (e4 i hi)⟩
theorem gapp_any (gs:List Int) (q off cap:Nat) (w:World) (S:Nat) (hq:∀ i,i<gs.length->w.cell? ⟨q,off+i,none⟩=some (iI (gs.getD i 0))) (hl:gs.length<=1000000) :
 ∃ oa c w',(∀ ty,(Builtin.append_ #[24,24] ty #[.slice (some ⟨S,0,none⟩) 0 0,.slice (some ⟨q,off,none⟩) gs.length cap]).run Tryz.prog w=.ok (.slice oa gs.length c) w')∧gs.length<=c∧GsN w' w.heap.size oa gs∧Below w.heap.size w w'∧(oa=some ⟨S,0,none⟩∨(oa=some ⟨w.heap.size,0,none⟩∧w.heap.size<w'.heap.size)):=by
 obtain ⟨i,hi,hz,hs,hby⟩:=info3;rcases Nat.eq_zero_or_pos gs.length with h0|h0
 · refine ⟨some ⟨S,0,none⟩,0,w,fun ty=>?_,by omega,fun h=>by omega,Below.refl _ _,.inl rfl⟩;rw [h0];simp [Builtin.append_,run_underlying Tryz.underlying24,sizeOf,typeInfo,hi,Builtin.lenOf,Builtin.firstCells,loadCells,loadCellsFrom,storeCells]
 · have hge:=grownCap_ge w gs.length 0 3;have hcm:grownCap w gs.length 0 3<=maxLen:=grownCap_le_maxLen w _ _ _ (by unfold maxLen;omega);have hgl:(gvs gs).length=gs.length:=by unfold gvs;simp
   have hcells:∀ j v,(gvs gs)[j]?=some v->w.cell? ((⟨q,off,none⟩:Addr).add j)=some v:=fun j v hv=>by
    have hj:j<gs.length:=(by have:=(List.getElem?_eq_some_iff.1 hv).1;omega);rw [Addr.add_lit,hq j hj];unfold gvs at hv;rw [List.getElem?_map,List.getElem?_eq_getElem hj] at hv;(simp at hv);rw [<- hv];simp [List.getD,List.getElem?_eq_getElem hj]
   have key:=fun ty=>run_append_grow (P:=Tryz.prog) w 24 ty 3 i _ Tryz.underlying24 hi hz ⟨S,0,none⟩ 0 0 [] (by simp) (fun j v hv=>by simp at hv) ⟨q,off,none⟩ gs.length cap (gvs gs) (by rw [hgl,hs,Nat.mul_one]) hcells (by omega) (by omega) (by rw [hby];exact growslice_fits (by omega) (by omega));simp only [Nat.zero_add,Array.empty_append] at key;refine ⟨_,_,_,key,hge,fun _=>⟨w.heap.size,0,rfl,Nat.le_refl _,by simp,fun j hj=>?_⟩,⟨rfl,rfl,rfl,by simp,fun k hk=>Below.heap_alloc w.drew _ k hk⟩,.inr ⟨rfl,by simp⟩⟩;rw [Nat.zero_add];have hnew:=heap_alloc_new w.drew (.cells ((gvs gs).toArray++Builtin.zeroCells (Value.int IntKind.i64 0).cells (grownCap w gs.length 0 3 - gs.length)) 3);unfold World.cell?;rw [show (w.drew.alloc (.cells ((gvs gs).toArray++Builtin.zeroCells (Value.int IntKind.i64 0).cells (grownCap w gs.length 0 3 - gs.length)) 3)).heap[w.heap.size]?=_ from hnew];show ((gvs gs).toArray++_)[j]?=_;rw [Array.getElem?_append_left (by simpa [gvs] using hj)];unfold gvs;simp [List.getD,List.getElem?_eq_getElem hj]
theorem gclone_any (gs:List Int) (oa:Option Addr) (cap:Nat) (w:World) (hg:GsAt w w.heap.size oa gs) (hn:∀ a,oa=some a->a.spot=none) (hl:gs.length<=1000000) :
 Calls Tryz.prog 46 #[.slice oa gs.length cap] w fun e w'=>∃ oa' cap',e=.returned (.slice oa' gs.length cap')∧gs.length<=cap'∧GsN w' w.heap.size oa' gs∧Below w.heap.size w w'∧(∀ a,oa'=some a->a.spot=none∧w.heap.size<=a.block∧a.block<w'.heap.size):=by
 cases oa with
 | none =>
  have h0:gs.length=0:=by
   rcases Nat.eq_zero_or_pos gs.length with h|h
   · exact h
   · obtain ⟨q,off,e,_⟩:=hg h;cases e
  rw [h0];have HE:Hid (gs.length<=0∧GsN w w.heap.size none gs∧Below w.heap.size w w∧(∀ a:Addr,none=some a->a.spot=none∧w.heap.size<=a.block∧a.block<w.heap.size)):=⟨by omega,fun h=>by omega,Below.refl _ _,fun a h=>by cases h⟩;rw [h0] at HE;have he:∀ w:World,(binOp .eql 24 (.slice none 0 cap) (.slice none 0 0)).run Tryz.prog w=.ok (.bool true) w:=fun _=>by kernel_rfl
  clear hg hn hl h0;go_enter Tryz.func46,Tryz.ntmps46
  go_wp2;go_ret;exact ⟨none,0,rfl,HE.out⟩
 | some a =>
  obtain ⟨q,off,sp⟩:=a;obtain rfl:sp=none:=hn _ rfl;obtain ⟨w0,hw0⟩:∃ w0,w.alloc (.cells #[] 3)=w0:=⟨_,rfl⟩;obtain ⟨S,hS⟩:∃ S,w.heap.size=S:=⟨_,rfl⟩;have B0:Below w.heap.size w w0:=by rw [<- hw0];exact (Below.refl _ _).alloc (Nat.le_refl _) _
  obtain ⟨oa',c',w1,hr,hc',hg',hb',hsp0⟩:=gapp_any gs q off cap w0 S (fun i hi=>by
   obtain ⟨q',off',e1,e2,e3⟩:=(hg.below B0) (by omega);cases e1
   exact e3 i hi) hl
  have hsp:∀ a,oa'=some a->a.spot=none∧w.heap.size<=a.block∧a.block<w1.heap.size:=fun a ha=>by
   have hz:=B0.size;have hz1:=hb'.size;have hz0:w0.heap.size=S+1:=by rw [<- hw0,<- hS];simp
   rcases hsp0 with e|⟨e,e2⟩
   · rw [e] at ha;cases ha;exact ⟨rfl,Nat.le_of_eq hS,by show S<_;omega⟩
   · rw [e] at ha;cases ha;exact ⟨rfl,hz,e2⟩
  have HR:=hid hr;have HE:Hid (gs.length<=c'∧GsN w1 w.heap.size oa' gs∧Below w.heap.size w w1∧(∀ a,oa'=some a->a.spot=none∧w.heap.size<=a.block∧a.block<w1.heap.size)):=⟨hc',hg'.lo B0.size,B0.trans (hb'.mono B0.size),hsp⟩;have he:∀ w:World,(binOp .eql 24 (.slice (some ⟨q,off,none⟩) gs.length cap) (.slice none 0 0)).run Tryz.prog w=.ok (.bool false) w:=fun _=>by kernel_rfl
  have hb:=bls24;generalize gs.length=n at *;clear hg hn hl hr hc' hg' hb' B0 hsp0 hsp;go_enter Tryz.func46,Tryz.ntmps46
  go_wp2_with (at_builtin;refine Hid.out ?_)
  refine (show Hid _ from ?_);refine za5 rfl _ _ 24 rfl _ _ _ _ rfl rfl (HR.out _) ?_;go_wp2;go_ret;exact ⟨oa',c',rfl,HE.out⟩
theorem bld136 (w:World):(Instr.build 136 #[]).run Tryz.prog w=.ok (.agg #[.bool false,.float .f32 0,.float .f32 0]) w:=by kernel_rfl
abbrev meB:Obj:=.cells #[.bool false,.float .f32 0,.float .f32 0] 136
abbrev clB (c:Cf) (oa:Option Addr) (cap:Nat) (next now:Int) (vw vd:Value) (q:Nat):Obj:=.cells #[iI c.ad,iI c.inst,iI c.first,iI c.win,iI c.pb,iI c.pc,iI c.pt,iI c.sys.stamp,.string ⟨c.sys.machine.toArray⟩,iI c.sys.user,iI c.sys.group,.slice oa c.sys.groups.length cap,iI next,iI now,vw,vd,ptr q] 96
theorem meter_any (w:World):Calls Tryz.prog 47 #[] w fun e w'=>e=.returned (ptr w.heap.size)∧w'=w.alloc meB:=by
 have hb:=bld136;obtain ⟨w0,hw0⟩:∃ w0,w.alloc meB=w0:=⟨_,rfl⟩;obtain ⟨S,hS⟩:∃ S,w.heap.size=S:=⟨_,rfl⟩;rw [hw0,hS];go_enter Tryz.func47,Tryz.ntmps47
 go_wp2;go_ret;exact ⟨rfl,rfl⟩
theorem bld96b (c:Cf) (oa:Option Addr) (cap q:Nat) (w:World):(Instr.build 96 #[(0,.agg (cfA c oa cap)),(1,iI c.first),(5,ptr q)]).run Tryz.prog w=.ok (.agg #[iI c.ad,iI c.inst,iI c.first,iI c.win,iI c.pb,iI c.pc,iI c.pt,iI c.sys.stamp,.string ⟨c.sys.machine.toArray⟩,iI c.sys.user,iI c.sys.group,.slice oa c.sys.groups.length cap,iI c.first,iI 0,.slice none 0 0,.slice none 0 0,ptr q]) w:=by kernel_rfl
abbrev cfB (c:Cf) (oa:Option Addr) (cap:Nat):Obj:=.cells (cfA c oa cap) 28
theorem zaa {w:World} {S:Nat} {cs:Array Value} {t:TypeId} (h:w.heap[S]?=some (.cells cs t)) {k:Nat} {v:Value} (hk:cs[k]?=some v):w.cell? ⟨S,k,none⟩=some v:=by
 unfold World.cell?;rw [h];exact hk
theorem zab {w:World} {S:Nat} {cs:Array Value} {t:TypeId} (h:w.heap[S]?=some (.cells cs t)) (k:Nat):w.frozen? ⟨S,k,none⟩=false:=by
 unfold World.frozen?;rw [h];rfl
theorem zae {w:World} {S:Nat} {cs:Array Value} {t:TypeId} (h:w.heap[S]?=some (.cells cs t)) (k:Nat) (v:Value):(w.setCell ⟨S,k,none⟩ v).heap[S]?=some (.cells (cs.setIfInBounds k v) t):=by
 unfold World.setCell;simp [Array.getElem?_modify,h]
theorem zac {w w' : World} {B S k:Nat} {v:Value} (h:Below B w w') (hS:B<=S):Below B w (w'.setCell ⟨S,k,none⟩ v) :=
 ⟨h.os,h.tape,h.output,by simpa [World.setCell] using h.size,fun b hb=>by rw [Below.heap_setCell _ _ _ _ (show b≠S by omega)];exact h.block b hb⟩
structure NewC (w w' : World) (c:Cf) (p:Nat):Prop where
 cl:∃ q oa cap,w'.heap[p]?=some (clB c oa cap c.first 0 (.slice none 0 0) (.slice none 0 0) q)∧w'.heap[q]?=some meB∧c.sys.groups.length<=cap∧GsN w' w.heap.size oa c.sys.groups∧w.heap.size<=q∧p≠q∧(∀ a,oa=some a->a.spot=none∧w.heap.size<=a.block∧a.block≠p∧a.block≠q)
 new:w.heap.size<=p
 be:Below w.heap.size w w'
theorem new_any (c:Cf) (oa:Option Addr) (cap:Nat) (w:World) (hT:ErrT w) (hg:GsAt w w.heap.size oa c.sys.groups) (hcap:c.sys.groups.length<=cap) (hlen:(c.sys.groups.length:Int)<=9223372036854775807) (hsp:∀ a,oa=some a->a.spot=none) (hmc:c.sys.machine.length<=281474976710656) :
 Calls Tryz.prog 14 #[.agg (cfA c oa cap)] w fun e w'=>(okC c=false∧e=.returned (.tuple #[.pointer none,iI 170])∧Below w.heap.size w w')∨(okC c=true∧∃ p,e=.returned (.tuple #[ptr p,iI 0])∧NewC w w' c p):=by
 obtain ⟨w0,hw0⟩:∃ w0,w.alloc (cfB c oa cap)=w0:=⟨_,rfl⟩;obtain ⟨S0,hS0⟩:∃ S0,w.heap.size=S0:=⟨_,rfl⟩;have B0:Below w.heap.size w w0:=by rw [<- hw0];exact (Below.refl _ _).alloc (Nat.le_refl _) _
 have k0:w0.heap[S0]?=some (cfB c oa cap):=by rw [<- hw0,<- hS0];exact (MapKept.heap_alloc w _).1
 have hlt:S0<w0.heap.size:=(Array.getElem?_eq_some_iff.1 k0).1;have g0:GsAt w0 w0.heap.size oa c.sys.groups:=fun h0=>by
  obtain ⟨q,off,e1,e2,e3⟩:=(hg.below B0) h0;exact ⟨q,off,e1,Nat.lt_of_lt_of_le e2 B0.size,e3⟩
 have HM:=hid (mayBe_any c oa cap w0 (hT.below B0) g0 hcap hlen);have a0:=zaa k0 (k:=0) rfl;have a1:=zaa k0 (k:=1) rfl;have a2:=zaa k0 (k:=2) rfl;have a3:=zaa k0 (k:=3) rfl;have a4:=zaa k0 (k:=4) rfl;have a5:=zaa k0 (k:=5) rfl;have a6:=zaa k0 (k:=6) rfl;have a7:=zaa k0 (k:=7) rfl;have a8:=zaa k0 (k:=8) rfl;have a9:=zaa k0 (k:=9) rfl;have a10:=zaa k0 (k:=10) rfl;have a11:=zaa k0 (k:=11) rfl;have HK:Hid (w0.heap[S0]?=some (cfB c oa cap)∧S0<w0.heap.size∧Below w.heap.size w w0∧w.heap.size=S0):=⟨k0,hlt,B0,hS0⟩;have HG:Hid (GsAt w w.heap.size oa c.sys.groups∧c.sys.groups.length<=cap∧(∀ a,oa=some a->a.spot=none)∧c.sys.machine.length<=281474976710656):=⟨hg,hcap,hsp,hmc⟩;obtain ⟨ok,hok⟩:∃ ok,okC c=ok:=⟨_,rfl⟩;have Af:Hid (ok=true->c.sys.groups.length<=16):=fun h=>by
  rw [<- hok] at h;unfold okC at h;simp only [Bool.and_eq_true,decide_eq_true_eq] at h;exact h.1.2.2.2.2.1
 rw [hok] at HM ⊢;clear hT hg hcap hlen hsp hmc B0 k0 hlt g0 hok;go_enter Tryz.func14,Tryz.ntmps14
 go_wp2_with fail
 refine HM.out.mono ?_;rintro _ w1 ⟨rfl,hb1⟩;clear a0 a1 a2 a3 a4 a5 a6 a7 a8 a9 a10 a11 HM;have Ab:=hid hb1;clear hb1;cases ok
 · have HE:Hid (Below w.heap.size w w1):=HK.out.2.2.1.trans (Ab.out.mono HK.out.2.2.1.size);go_wp2;go_ret2
   refine ⟨rfl,?_⟩;rw [<- HK.out.2.2.2];exact HE.out
 · have k1:w1.heap[S0]?=some (cfB c oa cap):=(Ab.out.block S0 HK.out.2.1).trans HK.out.1;have a8:=zaa k1 (k:=8) rfl;have HC:=hid (zgf ⟨c.sys.machine.toArray⟩ w1 (by have:=HG.out.2.2.2;simpa [ByteArray.size] using this));have Ad:=hid k1;clear k1;go_wp2_with fail
   refine HC.out.mono ?_;rintro _ w2 ⟨rfl,hb2⟩;have k2:w2.heap[S0]?=some (cfB c oa cap):=(hb2.block S0 (Array.getElem?_eq_some_iff.1 Ad.out).1).trans Ad.out;have a8:=zaa k2 (k:=8) rfl;have f8:=zab k2 8;obtain ⟨w3,hw3⟩:∃ w3,w2.setCell ⟨S0,8,none⟩ (.string ⟨c.sys.machine.toArray⟩)=w3:=⟨_,rfl⟩;have k3:w3.heap[S0]?=some (cfB c oa cap):=by rw [<- hw3];exact zae k2 8 _
   have B3:Below S0 w w3:=by
    rw [<- hw3];have h1:=HK.out;have h2:Below w.heap.size w w2:=(h1.2.2.1.trans (Ab.out.mono h1.2.2.1.size)).trans (hb2.mono (Nat.le_trans h1.2.2.1.size Ab.out.size));rw [h1.2.2.2] at h2;exact zac h2 (Nat.le_refl _)
   have a11:=zaa k3 (k:=11) rfl;have g3:GsAt w3 w3.heap.size oa c.sys.groups:=fun h0=>by
    have B3':=B3;rw [<- HK.out.2.2.2] at B3';obtain ⟨q,off,e1,e2,e3⟩:=(HG.out.1.below B3') h0;exact ⟨q,off,e1,Nat.lt_of_lt_of_le e2 B3'.size,e3⟩
   have Ae:=hid (gclone_any c.sys.groups oa cap w3 g3 HG.out.2.2.1 (by have:=Af.out trivial;omega));have Ac:Hid (w3.heap[S0]?=some (cfB c oa cap)∧Below S0 w w3):=⟨k3,B3⟩;clear k2 k3 B3 g3 hb2 HC;go_wp2_with fail
   refine Ae.out.mono ?_;rintro _ w4 ⟨oa4,cap4,rfl,hc4,hg4,hb4,hs4⟩;have hl3:S0<w3.heap.size:=(Array.getElem?_eq_some_iff.1 Ac.out.1).1;have k4:w4.heap[S0]?=some (cfB c oa cap):=(hb4.block S0 hl3).trans Ac.out.1;have a11:=zaa k4 (k:=11) rfl;have f11:=zab k4 11;obtain ⟨w5,hw5⟩:∃ w5,w4.setCell ⟨S0,11,none⟩ (.slice oa4 c.sys.groups.length cap4)=w5:=⟨_,rfl⟩;have k5:w5.heap[S0]?=some (cfB c oa4 cap4):=by rw [<- hw5];exact zae k4 11 _
   have hz5:w5.heap.size=w4.heap.size:=by rw [<- hw5];simp [World.setCell]
   have Aa:Hid (Below S0 w w5∧GsN w5 S0 oa4 c.sys.groups∧c.sys.groups.length<=cap4∧(∀ a,oa4=some a->a.spot=none∧S0<=a.block∧a.block<w5.heap.size)∧S0<w5.heap.size):=by
    have h3:=Ac.out.2.size;have h0:=HK.out.2.2.2;refine ⟨?_,?_,hc4,fun a ha=>⟨(hs4 a ha).1,by have:=(hs4 a ha).2;omega,by have:=(hs4 a ha).2;omega⟩,by have:=hb4.size;omega⟩
    · rw [<- hw5];exact zac (Ac.out.2.trans (hb4.mono (by omega))) (Nat.le_refl _)
    · refine (hg4.kept (by omega) (fun q hq _ _=>?_)).lo (by omega);rw [<- hw5,Below.heap_setCell _ _ _ _ (show q≠S0 by omega)]
   obtain ⟨Q,hQ⟩:∃ Q,w5.heap.size=Q:=⟨_,rfl⟩;have s0:w5.cell? ⟨S0,0,none⟩=some (iI c.ad)∧w5.cell? ⟨S0,1,none⟩=some (iI c.inst)∧w5.cell? ⟨S0,2,none⟩=some (iI c.first)∧w5.cell? ⟨S0,3,none⟩=some (iI c.win)∧w5.cell? ⟨S0,4,none⟩=some (iI c.pb)∧w5.cell? ⟨S0,5,none⟩=some (iI c.pc)∧w5.cell? ⟨S0,6,none⟩=some (iI c.pt)∧w5.cell? ⟨S0,7,none⟩=some (iI c.sys.stamp)∧w5.cell? ⟨S0,8,none⟩=some (.string ⟨c.sys.machine.toArray⟩)∧w5.cell? ⟨S0,9,none⟩=some (iI c.sys.user)∧w5.cell? ⟨S0,10,none⟩=some (iI c.sys.group)∧w5.cell? ⟨S0,11,none⟩=some (.slice oa4 c.sys.groups.length cap4):=⟨zaa k5 (k:=0) rfl,zaa k5 (k:=1) rfl,zaa k5 (k:=2) rfl,zaa k5 (k:=3) rfl,zaa k5 (k:=4) rfl,zaa k5 (k:=5) rfl,zaa k5 (k:=6) rfl,zaa k5 (k:=7) rfl,zaa k5 (k:=8) rfl,zaa k5 (k:=9) rfl,zaa k5 (k:=10) rfl,zaa k5 (k:=11) rfl⟩;have s1:∀ i,(w5.drewN i).cell? ⟨S0,0,none⟩=some (iI c.ad)∧(w5.drewN i).cell? ⟨S0,1,none⟩=some (iI c.inst)∧(w5.drewN i).cell? ⟨S0,2,none⟩=some (iI c.first)∧(w5.drewN i).cell? ⟨S0,3,none⟩=some (iI c.win)∧(w5.drewN i).cell? ⟨S0,4,none⟩=some (iI c.pb)∧(w5.drewN i).cell? ⟨S0,5,none⟩=some (iI c.pc)∧(w5.drewN i).cell? ⟨S0,6,none⟩=some (iI c.pt)∧(w5.drewN i).cell? ⟨S0,7,none⟩=some (iI c.sys.stamp)∧(w5.drewN i).cell? ⟨S0,8,none⟩=some (.string ⟨c.sys.machine.toArray⟩)∧(w5.drewN i).cell? ⟨S0,9,none⟩=some (iI c.sys.user)∧(w5.drewN i).cell? ⟨S0,10,none⟩=some (iI c.sys.group)∧(w5.drewN i).cell? ⟨S0,11,none⟩=some (.slice oa4 c.sys.groups.length cap4):=fun _=>s0;have Ag:Hid (∀ i,Calls Tryz.prog 47 #[] (w5.drewN i) fun e w'=>e=.returned (ptr Q)∧Hid (Below w5.heap.size w5 w'∧w'.heap[Q]?=some meB∧w'.heap.size=Q+1)):=fun i=>by
    refine (meter_any (w5.drewN i)).mono ?_;rintro _ w' ⟨rfl,rfl⟩;refine ⟨by rw [<- hQ];rfl,⟨rfl,rfl,rfl,by simp,fun b hb=>Below.heap_alloc (w5.drewN i) _ b hb⟩,?_,?_⟩
    · rw [<- hQ];exact (MapKept.heap_alloc (w5.drewN i) _).1
    · rw [<- hQ];simp
   have Ah:=hid k5;have hb96:=fun w=>bld96b c oa4 cap4 Q w;clear k4 k5 hz5 hc4 hg4 hb4 hs4 hl3 Ae;go_wp2_with fail
   go_region_held3 (fun w'=>w'.cell? ⟨S0,0,none⟩=some (iI c.ad)∧w'.cell? ⟨S0,1,none⟩=some (iI c.inst)∧w'.cell? ⟨S0,2,none⟩=some (iI c.first)∧w'.cell? ⟨S0,3,none⟩=some (iI c.win)∧w'.cell? ⟨S0,4,none⟩=some (iI c.pb)∧w'.cell? ⟨S0,5,none⟩=some (iI c.pc)∧w'.cell? ⟨S0,6,none⟩=some (iI c.pt)∧w'.cell? ⟨S0,7,none⟩=some (iI c.sys.stamp)∧w'.cell? ⟨S0,8,none⟩=some (.string ⟨c.sys.machine.toArray⟩)∧w'.cell? ⟨S0,9,none⟩=some (iI c.sys.user)∧w'.cell? ⟨S0,10,none⟩=some (iI c.sys.group)∧w'.cell? ⟨S0,11,none⟩=some (.slice oa4 c.sys.groups.length cap4)) (first|with_reducible exact s0|with_reducible exact s1 _|with_reducible exact s7|with_reducible exact s9|exact s9|exact s0) (first
    | (go_at_call 47
       refine (Ag.out _).mono ?_;rintro _ w6 ⟨rfl,H6⟩;have k6:w6.heap[S0]?=some (cfB c oa4 cap4):=(H6.out.1.block S0 Aa.out.2.2.2.2).trans Ah.out;have s7:w6.cell? ⟨S0,0,none⟩=some (iI c.ad)∧w6.cell? ⟨S0,1,none⟩=some (iI c.inst)∧w6.cell? ⟨S0,2,none⟩=some (iI c.first)∧w6.cell? ⟨S0,3,none⟩=some (iI c.win)∧w6.cell? ⟨S0,4,none⟩=some (iI c.pb)∧w6.cell? ⟨S0,5,none⟩=some (iI c.pc)∧w6.cell? ⟨S0,6,none⟩=some (iI c.pt)∧w6.cell? ⟨S0,7,none⟩=some (iI c.sys.stamp)∧w6.cell? ⟨S0,8,none⟩=some (.string ⟨c.sys.machine.toArray⟩)∧w6.cell? ⟨S0,9,none⟩=some (iI c.sys.user)∧w6.cell? ⟨S0,10,none⟩=some (iI c.sys.group)∧w6.cell? ⟨S0,11,none⟩=some (.slice oa4 c.sys.groups.length cap4):=⟨zaa k6 (k:=0) rfl,zaa k6 (k:=1) rfl,zaa k6 (k:=2) rfl,zaa k6 (k:=3) rfl,zaa k6 (k:=4) rfl,zaa k6 (k:=5) rfl,zaa k6 (k:=6) rfl,zaa k6 (k:=7) rfl,zaa k6 (k:=8) rfl,zaa k6 (k:=9) rfl,zaa k6 (k:=10) rfl,zaa k6 (k:=11) rfl⟩;obtain ⟨P,hP⟩:∃ P,w6.heap.size=P:=⟨_,rfl⟩;obtain ⟨w7,hw7⟩:∃ w7,w6.alloc (clB c oa4 cap4 c.first 0 (.slice none 0 0) (.slice none 0 0) Q)=w7:=⟨_,rfl⟩;have k7:w7.heap[S0]?=some (cfB c oa4 cap4):=(by rw [<- hw7];exact (Below.heap_alloc _ _ _ (Array.getElem?_eq_some_iff.1 k6).1).trans k6);have s9:w7.cell? ⟨S0,0,none⟩=some (iI c.ad)∧w7.cell? ⟨S0,1,none⟩=some (iI c.inst)∧w7.cell? ⟨S0,2,none⟩=some (iI c.first)∧w7.cell? ⟨S0,3,none⟩=some (iI c.win)∧w7.cell? ⟨S0,4,none⟩=some (iI c.pb)∧w7.cell? ⟨S0,5,none⟩=some (iI c.pc)∧w7.cell? ⟨S0,6,none⟩=some (iI c.pt)∧w7.cell? ⟨S0,7,none⟩=some (iI c.sys.stamp)∧w7.cell? ⟨S0,8,none⟩=some (.string ⟨c.sys.machine.toArray⟩)∧w7.cell? ⟨S0,9,none⟩=some (iI c.sys.user)∧w7.cell? ⟨S0,10,none⟩=some (iI c.sys.group)∧w7.cell? ⟨S0,11,none⟩=some (.slice oa4 c.sys.groups.length cap4):=⟨zaa k7 (k:=0) rfl,zaa k7 (k:=1) rfl,zaa k7 (k:=2) rfl,zaa k7 (k:=3) rfl,zaa k7 (k:=4) rfl,zaa k7 (k:=5) rfl,zaa k7 (k:=6) rfl,zaa k7 (k:=7) rfl,zaa k7 (k:=8) rfl,zaa k7 (k:=9) rfl,zaa k7 (k:=10) rfl,zaa k7 (k:=11) rfl⟩;have HE:Hid (NewC w w7 c P):=by
        have h0:=HK.out.2.2.2;have hq:=H6.out.2.2;have hb7:Below w5.heap.size w5 w7:=(by rw [<- hw7];exact H6.out.1.alloc H6.out.1.size _);refine ⟨⟨Q,oa4,cap4,by rw [<- hw7,<- hP];exact (MapKept.heap_alloc w6 _).1,by rw [<- hw7];exact (Below.heap_alloc _ _ _ (by omega)).trans H6.out.2.1,Aa.out.2.2.1,?_,by have:=Aa.out.2.2.2.2;omega,by omega,fun a ha=>⟨(Aa.out.2.2.2.1 a ha).1,by have:=(Aa.out.2.2.2.1 a ha).2;omega,by have:=(Aa.out.2.2.2.1 a ha).2;have:=H6.out.1.size;omega,by have:=(Aa.out.2.2.2.1 a ha).2;omega⟩⟩,by have:=Aa.out.2.2.2.2;omega,?_⟩
        · rw [h0];exact Aa.out.2.1.kept hb7.size (fun q _ hq _=>hb7.block q hq)
        · rw [h0];exact Aa.out.1.trans (hb7.mono (by have:=Aa.out.2.2.2.2;omega))
       clear k6 k7))
   go_wp2;go_ret2
   exact ⟨P,rfl,HE.out⟩
end Go.Proofs.YtfcbjcebkahehaaGreatDoor.Cl
namespace Go.Proofs.YtfcbjcebkahehaaGreatDoor
open Go.RowKit
theorem zfu (n:Int) (w:World):Calls Tryz.prog 97 #[iI n] w fun e w'=>e=.returned (.bool (decide (isW n)))∧w'=w:=by
 rw [<- zew];by_cases h0:0<=n
 · by_cases h1:n<=4294967295
   · rw [decide_eq_true h0,decide_eq_true h1];have h2:decide (0<=n)=true:=decide_eq_true h0;have h3:decide (n<=4294967295)=true:=decide_eq_true h1;(go_enter Tryz.func97,Tryz.ntmps97);go_wp2;go_ret;exact ⟨rfl,rfl⟩
   · rw [decide_eq_true h0,decide_eq_false h1];have h2:decide (0<=n)=true:=decide_eq_true h0;have h3:decide (n<=4294967295)=false:=decide_eq_false h1;(go_enter Tryz.func97,Tryz.ntmps97);go_wp2;go_ret;exact ⟨rfl,rfl⟩
 · rw [decide_eq_false h0];have h2:decide (0<=n)=false:=decide_eq_false h0;go_enter Tryz.func97,Tryz.ntmps97
   go_wp2;go_ret;exact ⟨rfl,rfl⟩
theorem sysMay_no (st us gr:Int) (mc:List UInt8) (gs:List Int) (oa:Option Addr) (ca:Nat) (x y z:Bool) (w:World) (H1:Hid (∀ w,Calls Tryz.prog 97 #[iI st] w fun e w'=>e=.returned (.bool x)∧w'=w)) (H2:Hid (∀ w,Calls Tryz.prog 97 #[iI us] w fun e w'=>e=.returned (.bool y)∧w'=w)) (H3:Hid (∀ w,Calls Tryz.prog 97 #[iI gr] w fun e w'=>e=.returned (.bool z)∧w'=w)) (hb:x=false∨y=false∨z=false∨(255:Int)<mc.length∨(16:Int)<gs.length) :
 Calls Tryz.prog 60 #[.agg #[iI st,.string ⟨mc.toArray⟩,iI us,iI gr,.slice oa gs.length ca]] w fun e w'=>e=.returned (.bool false)∧Below w.heap.size w w':=by
 obtain ⟨w2,hw2⟩:∃ y,w.alloc (.cells #[iI st,.string ⟨mc.toArray⟩,iI us,iI gr,.slice oa gs.length ca] 26)=y:=⟨_,rfl⟩;have Aa:Hid (Bk w2 w.heap.size [iI st,.string ⟨mc.toArray⟩,iI us,iI gr,.slice oa gs.length ca] 26∧Below w.heap.size w w2):=⟨by rw [<- hw2];exact Bk.new _ _ _,by rw [<- hw2];exact zav _ _⟩;have c0:=Aa.out.1.cell 0 rfl;have c1:=Aa.out.1.cell 1 rfl;have c2:=Aa.out.1.cell 2 rfl;have c3:=Aa.out.1.cell 3 rfl;have c4:=Aa.out.1.cell 4 rfl;have Ab:=hid hw2;clear hw2;cases x
 · clear hb;go_enter Tryz.func60,Tryz.ntmps60
   go_wp2_with fail
   rw [Ab.out];refine (H1.out _).mono ?_;rintro e w1 ⟨rfl,hw⟩;rw [hw];clear hw;go_wp2_with fail
   refine (H2.out _).mono ?_;rintro e w1 ⟨rfl,hw⟩;rw [hw];clear hw;go_wp2_with fail
   refine (H3.out _).mono ?_;rintro e w1 ⟨rfl,hw⟩;rw [hw];clear hw;go_wp2;go_ret;exact ⟨rfl,Aa.out.2⟩
 · cases y
   · clear hb;(go_enter Tryz.func60,Tryz.ntmps60);(go_wp2_with fail);rw [Ab.out];refine (H1.out _).mono ?_;rintro e w1 ⟨rfl,hw⟩;rw [hw];clear hw;(go_wp2_with fail);refine (H2.out _).mono ?_;rintro e w1 ⟨rfl,hw⟩;rw [hw];clear hw;(go_wp2_with fail);refine (H3.out _).mono ?_;rintro e w1 ⟨rfl,hw⟩;rw [hw];clear hw;go_wp2;go_ret;exact ⟨rfl,Aa.out.2⟩
   · cases z
     · clear hb;(go_enter Tryz.func60,Tryz.ntmps60);(go_wp2_with fail);rw [Ab.out];refine (H1.out _).mono ?_;rintro e w1 ⟨rfl,hw⟩;rw [hw];clear hw;(go_wp2_with fail);refine (H2.out _).mono ?_;rintro e w1 ⟨rfl,hw⟩;rw [hw];clear hw;(go_wp2_with fail);refine (H3.out _).mono ?_;rintro e w1 ⟨rfl,hw⟩;rw [hw];clear hw;go_wp2;go_ret;exact ⟨rfl,Aa.out.2⟩
     · by_cases hl:(255:Int)<mc.length
       · clear hb;(go_enter Tryz.func60,Tryz.ntmps60);(go_wp2_with fail);rw [Ab.out];refine (H1.out _).mono ?_;rintro e w1 ⟨rfl,hw⟩;rw [hw];clear hw;(go_wp2_with fail);refine (H2.out _).mono ?_;rintro e w1 ⟨rfl,hw⟩;rw [hw];clear hw;(go_wp2_with fail);refine (H3.out _).mono ?_;rintro e w1 ⟨rfl,hw⟩;rw [hw];clear hw;go_wp2;go_ret;exact ⟨rfl,Aa.out.2⟩
       · have hg:(16:Int)<gs.length:=by
          rcases hb with h|h|h|h|h
          · cases h
          · cases h
          · cases h
          · exact absurd h hl
          · exact h
         clear hb;(go_enter Tryz.func60,Tryz.ntmps60);(go_wp2_with fail);rw [Ab.out];refine (H1.out _).mono ?_;rintro e w1 ⟨rfl,hw⟩;rw [hw];clear hw;(go_wp2_with fail);refine (H2.out _).mono ?_;rintro e w1 ⟨rfl,hw⟩;rw [hw];clear hw;(go_wp2_with fail);refine (H3.out _).mono ?_;rintro e w1 ⟨rfl,hw⟩;rw [hw];clear hw;go_wp2;go_ret;exact ⟨rfl,Aa.out.2⟩
theorem sysMay_yes (st us gr:Int) (mc:List UInt8) (gs:List Int) (oa:Option Addr) (ca:Nat) (x y z:Bool) (w:World) (H1:Hid (∀ w,Calls Tryz.prog 97 #[iI st] w fun e w'=>e=.returned (.bool x)∧w'=w)) (H2:Hid (∀ w,Calls Tryz.prog 97 #[iI us] w fun e w'=>e=.returned (.bool y)∧w'=w)) (H3:Hid (∀ w,Calls Tryz.prog 97 #[iI gr] w fun e w'=>e=.returned (.bool z)∧w'=w)) (hx:x=true) (hy:y=true) (hz:z=true) (hl:¬ (255:Int)<mc.length) (hn:¬ (16:Int)<gs.length) (hg:GsAt w w.heap.size oa gs) (r:Bool) (hr:r=true↔∀ g∈gs,isW g) :
 Calls Tryz.prog 60 #[.agg #[iI st,.string ⟨mc.toArray⟩,iI us,iI gr,.slice oa gs.length ca]] w fun e w'=>e=.returned (.bool r)∧Below w.heap.size w w':=by
 subst hx hy hz;have HG:=hid hg;have HR:=hid hr;have H4:=hid zfu;obtain ⟨n,hN⟩:∃ n,gs.length=n:=⟨_,rfl⟩;have HN:=hid hN;rw [hN] at hn;clear hg hr;rw [hN];clear hN;obtain ⟨w2,hw2⟩:∃ y,w.alloc (.cells #[iI st,.string ⟨mc.toArray⟩,iI us,iI gr,.slice oa n ca] 26)=y:=⟨_,rfl⟩;have Aa:Hid (Bk w2 w.heap.size [iI st,.string ⟨mc.toArray⟩,iI us,iI gr,.slice oa n ca] 26∧Below w.heap.size w w2):=⟨by rw [<- hw2];exact Bk.new _ _ _,by rw [<- hw2];exact zav _ _⟩;have c0:=Aa.out.1.cell 0 rfl;have c1:=Aa.out.1.cell 1 rfl;have c2:=Aa.out.1.cell 2 rfl;have c3:=Aa.out.1.cell 3 rfl;have c4:=Aa.out.1.cell 4 rfl;have Ac:=hid hw2;clear hw2;go_enter Tryz.func60,Tryz.ntmps60
 go_wp2_with fail
 rw [Ac.out];refine (H1.out _).mono ?_;rintro e w1 ⟨rfl,hw⟩;rw [hw];clear hw;go_wp2_with fail
 refine (H2.out _).mono ?_;rintro e w1 ⟨rfl,hw⟩;rw [hw];clear hw;go_wp2_with fail
 refine (H3.out _).mono ?_;rintro e w1 ⟨rfl,hw⟩;rw [hw];clear hw;go_wp2_with fail
 go_loopw [6] (fun ix wr=>∃ j:Nat,ix=iI j∧j<=n∧wr=w2∧Hid (∀ g∈gs.take j,isW g)) (fun ix _=>n - (intOf ix).toNat)
 case atStart=>exact ⟨0,rfl,by omega,rfl,(fun g hg=>by simp at hg:∀ g∈gs.take 0,isW g)⟩
 case round =>
  obtain ⟨j,rfl,hj,hwr,HE⟩:=hrel;subst hwr;by_cases hlt:j<n
  · obtain ⟨q,off,ho,hq,hc⟩:=HG.out (by have:=HN.out;omega);have d1:wr.cell? ⟨q,off+j,none⟩=some (iI (gs.getD j 0)):=(cells_of_block (Aa.out.2.block q hq) _).1.trans (hc j (by have:=HN.out;omega));subst ho;obtain ⟨v,hv⟩:∃ v,gs.getD j 0=v:=⟨_,rfl⟩;rw [hv] at d1;have HV:=hid hv;have i0:(0:Int)<=(j:Int):=(by omega);have i1:(j:Int)<(n:Int):=(by omega);obtain ⟨b,hb⟩:∃ b,decide (isW v)=b:=⟨_,rfl⟩;have H5:=hid (H4.out v);rw [hb] at H5;have Ab:=hid hb;have HJ:Hid (j<gs.length):=(by show _<_;have:=HN.out;omega);clear hc hv hb;(go_wp2_with fail);refine (H5.out _).mono ?_;rintro e w1 ⟨rfl,hw⟩;rw [hw];clear hw;cases b
    · have hr:r=false:=by
       cases r
       · rfl
       · have h1:=(zer gs j HJ.out).1 (fun g hg=>HR.out.1 rfl g (List.mem_of_mem_take hg));rw [HV.out] at h1;exact absurd h1.2 (of_decide_eq_false Ab.out)
      subst hr;go_wp2;go_ret;exact ⟨rfl,Aa.out.2⟩
    · have Ad:Hid (∀ g∈gs.take (j+1),isW g):=(zer gs j HJ.out).2 ⟨HE.out,by rw [HV.out];exact of_decide_eq_true Ab.out⟩;go_wp2;go_roundw
      case rel=>exact ⟨j+1,by go_num,by omega,by trivial,Ad⟩
      case measure=>simp [intOf];omega
  · obtain rfl:j=n:=by omega
    have hr:r=true:=HR.out.2 (by
     have:=HE.out
     rwa [List.take_of_length_le (by have:=HN.out;omega)] at this)
    subst hr;go_wp2;go_ret;exact ⟨rfl,Aa.out.2⟩
theorem zgw (s:SysP) (oa:Option Addr) (ca:Nat) (w:World) (hg:GsAt w w.heap.size oa s.groups) :
 Calls Tryz.prog 60 #[.agg #[iI s.stamp,.string ⟨s.machine.toArray⟩,iI s.user,iI s.group,.slice oa s.groups.length ca]] w fun e w'=>e=.returned (.bool (decide s.may))∧Below w.heap.size w w':=by
 by_cases h:(isW s.stamp∧isW s.user∧isW s.group)∧¬ (255:Int)<s.machine.length∧¬ (16:Int)<s.groups.length
 · refine sysMay_yes s.stamp s.user s.group s.machine s.groups oa ca _ _ _ w (zfu _) (zfu _) (zfu _) (decide_eq_true h.1.1) (decide_eq_true h.1.2.1) (decide_eq_true h.1.2.2) h.2.1 h.2.2 hg _ ?_;rw [decide_eq_true_eq];unfold SysP.may;exact ⟨fun x=>x.2.2.2.2.2,fun x=>⟨h.1.1,h.1.2.1,h.1.2.2,by omega,by omega,x⟩⟩
 · have hf:decide s.may=false:=by
    rw [decide_eq_false_iff_not];intro hm;unfold SysP.may at hm;exact h ⟨⟨hm.1,hm.2.1,hm.2.2.1⟩,by have:=hm.2.2.2.1;omega,by have:=hm.2.2.2.2.1;omega⟩
   rw [hf];refine sysMay_no s.stamp s.user s.group s.machine s.groups oa ca _ _ _ w (zfu _) (zfu _) (zfu _) ?_;by_cases a:isW s.stamp
   · by_cases b:isW s.user
     · by_cases c:isW s.group
       · (right;right;right);by_cases d:(255:Int)<s.machine.length
         · exact .inl d
         · (right);by_cases e:(16:Int)<s.groups.length
           · exact e
           · exact absurd ⟨⟨a,b,c⟩,d,e⟩ h
       · right;right;left;exact decide_eq_false c
     · right;left;exact decide_eq_false b
   · left;exact decide_eq_false a
end Go.Proofs.YtfcbjcebkahehaaGreatDoor
namespace Go.Proofs.YtfcbjcebkahehaaGreatDoor.Cl
open Go.RowKit
abbrev dmB:Obj:=.cells #[.bool false,.float .f32 0,.float .f32 0] 120
abbrev dcB (c:Cf) (oa:Option Addr) (cap:Nat) (time next:Int) (vl vo:Value) (q:Nat):Obj:=.cells #[iI c.ad,iI c.inst,iI c.first,iI c.win,iI c.pb,iI c.pc,iI c.pt,iI c.sys.stamp,.string ⟨c.sys.machine.toArray⟩,iI c.sys.user,iI c.sys.group,.slice oa c.sys.groups.length cap,iI time,iI next,vl,vo,ptr q] 123
theorem bld120 (w:World):(Instr.build 120 #[]).run Tryz.prog w=.ok (.agg #[.bool false,.float .f32 0,.float .f32 0]) w:=by kernel_rfl
theorem bld123 (c:Cf) (oa:Option Addr) (cap q:Nat) (w:World):(Instr.build 123 #[(0,.agg (cfA c oa cap)),(2,iI c.first),(5,ptr q)]).run Tryz.prog w=.ok (.agg #[iI c.ad,iI c.inst,iI c.first,iI c.win,iI c.pb,iI c.pc,iI c.pt,iI c.sys.stamp,.string ⟨c.sys.machine.toArray⟩,iI c.sys.user,iI c.sys.group,.slice oa c.sys.groups.length cap,iI 0,iI c.first,.slice none 0 0,.slice none 0 0,ptr q]) w:=by kernel_rfl
theorem gnil_any (gs:List Int) (oa:Option Addr) (cap:Nat) (w:World) (hg:GsAt w w.heap.size oa gs) (hl:gs.length<=1000000) :
 ∃ oa' c w',(∀ ty,(Builtin.append_ #[24,24] ty #[.slice none 0 0,.slice oa gs.length cap]).run Tryz.prog w=.ok (.slice oa' gs.length c) w')∧gs.length<=c∧GsN w' w.heap.size oa' gs∧Below w.heap.size w w'∧(∀ a,oa'=some a->a.spot=none∧w.heap.size<=a.block):=by
 obtain ⟨i,hi,hz,hs,hby⟩:=info3;rcases Nat.eq_zero_or_pos gs.length with h0|h0
 · refine ⟨none,0,w,fun ty=>?_,by omega,fun h=>by omega,Below.refl _ _,fun a h=>by cases h⟩;rw [h0];cases oa <;> simp [Builtin.append_,run_underlying Tryz.underlying24,sizeOf,typeInfo,hi,Builtin.lenOf,Builtin.firstCells,loadCells,loadCellsFrom]
 · obtain ⟨q,off,rfl,hq,hc⟩:=hg h0;have hgl:(gvs gs).length=gs.length:=by unfold gvs;simp
   have hge:=grownCap_ge w gs.length 0 3;have hcells:∀ j v,(gvs gs)[j]?=some v->w.cell? ((⟨q,off,none⟩:Addr).add j)=some v:=fun j v hv=>by
    have hj:j<gs.length:=(by have:=(List.getElem?_eq_some_iff.1 hv).1;omega);rw [Addr.add_lit,hc j hj];unfold gvs at hv;rw [List.getElem?_map,List.getElem?_eq_getElem hj] at hv;(simp at hv);rw [<- hv];simp [List.getD,List.getElem?_eq_getElem hj]
   have key:=fun ty=>run_append_nil (P:=Tryz.prog) w 24 ty 3 i _ Tryz.underlying24 hi hz ⟨q,off,none⟩ gs.length cap (gvs gs) (by rw [hgl,hs,Nat.mul_one]) hcells h0 (by omega) (by rw [hby];omega);refine ⟨_,_,_,key,hge,fun _=>⟨w.heap.size,0,rfl,Nat.le_refl _,by simp,fun j hj=>?_⟩,⟨rfl,rfl,rfl,by simp,fun k hk=>Below.heap_alloc w.drew _ k hk⟩,fun a ha=>by cases ha;exact ⟨rfl,Nat.le_refl _⟩⟩;rw [Nat.zero_add];have hnew:=heap_alloc_new w.drew (.cells ((gvs gs).toArray++Builtin.zeroCells (Value.int IntKind.i64 0).cells (grownCap w gs.length 0 3 - gs.length)) 3);unfold World.cell?;rw [show (w.drew.alloc (.cells ((gvs gs).toArray++Builtin.zeroCells (Value.int IntKind.i64 0).cells (grownCap w gs.length 0 3 - gs.length)) 3)).heap[w.heap.size]?=_ from hnew];show ((gvs gs).toArray++_)[j]?=_;rw [Array.getElem?_append_left (by simpa [gvs] using hj)];unfold gvs;simp [List.getD,List.getElem?_eq_getElem hj]
structure NewD (w w' : World) (c:Cf) (p:Nat):Prop where
 cl:∃ q oa cap,w'.heap[p]?=some (dcB c oa cap 0 c.first (.slice none 0 0) (.slice none 0 0) q)∧w'.heap[q]?=some dmB∧c.sys.groups.length<=cap∧GsN w' w.heap.size oa c.sys.groups∧w.heap.size<=q∧p≠q∧(∀ a,oa=some a->a.spot=none∧w.heap.size<=a.block)∧q<p∧(0<c.sys.groups.length->∀ a,oa=some a->a.block<q)
 new:w.heap.size<=p
 be:Below w.heap.size w w'
theorem inB_is (n l h:Int):inB n l h=(!decide (n<l)&&!decide (h<n)):=by
 unfold inB;by_cases h1:n<l <;> by_cases h2:h<n <;> simp [h1,h2] <;> omega
theorem zcw (c:Cf) (oa:Option Addr) (cap:Nat) (w:World) (hg:GsAt w w.heap.size oa c.sys.groups) :
 Calls Tryz.prog 26 #[.agg (cfA c oa cap)] w fun e w'=>(okC c=false∧e=.returned (.tuple #[.pointer none,iI 170])∧Below w.heap.size w w')∨(okC c=true∧∃ p,e=.returned (.tuple #[ptr p,iI 0])∧NewD w w' c p):=by
 obtain ⟨w0,hw0⟩:∃ w0,w.alloc (cfB c oa cap)=w0:=⟨_,rfl⟩;obtain ⟨S0,hS0⟩:∃ S0,w.heap.size=S0:=⟨_,rfl⟩;have B0:Below w.heap.size w w0:=by rw [<- hw0];exact (Below.refl _ _).alloc (Nat.le_refl _) _
 have k0:w0.heap[S0]?=some (cfB c oa cap):=by rw [<- hw0,<- hS0];exact (MapKept.heap_alloc w _).1
 have hlt:S0<w0.heap.size:=(Array.getElem?_eq_some_iff.1 k0).1;have HK:Hid (∀ w',Below w0.heap.size w0 w'->w'.heap[S0]?=some (cfB c oa cap)∧Below w.heap.size w w'∧GsAt w' w'.heap.size oa c.sys.groups):=fun w' hb=>by
  have hb' : Below w.heap.size w w':=B0.trans (hb.mono B0.size);refine ⟨(hb.block S0 hlt).trans k0,hb',fun h0=>?_⟩;obtain ⟨q,off,e1,e2,e3⟩:=(hg.below hb') h0;exact ⟨q,off,e1,Nat.lt_of_lt_of_le e2 hb'.size,e3⟩
 obtain ⟨br,hbr⟩:∃ br,Pc.rightP c.pb c.pc c.pt=br:=⟨_,rfl⟩;obtain ⟨bm,hbm⟩:∃ bm,decide c.sys.may=bm:=⟨_,rfl⟩;have HR:Hid (Calls Tryz.prog 59 #[.agg #[iI c.pb,iI c.pc,iI c.pt]] w0 fun e w'=>e=.returned (.bool br)∧Below w0.heap.size w0 w'):=by rw [<- hbr];exact Pc.dright_any w0 _ _ _
 have HM:Hid (∀ w',Below w0.heap.size w0 w'->Calls Tryz.prog 60 #[.agg #[iI c.sys.stamp,.string ⟨c.sys.machine.toArray⟩,iI c.sys.user,iI c.sys.group,.slice oa c.sys.groups.length cap]] w' fun e w''=>e=.returned (.bool bm)∧Below w'.heap.size w' w''):=fun w' hb=>by
  rw [<- hbm];exact zgw c.sys oa cap w' (HK.out w' hb).2.2
 obtain ⟨e1,he1⟩:∃ b,decide (c.ad<1)=b:=⟨_,rfl⟩;obtain ⟨e2,he2⟩:∃ b,decide (16777215<c.ad)=b:=⟨_,rfl⟩;obtain ⟨e3,he3⟩:∃ b,decide (c.inst<1)=b:=⟨_,rfl⟩;obtain ⟨e4,he4⟩:∃ b,decide (4611686018427387904<c.inst)=b:=⟨_,rfl⟩;obtain ⟨e5,he5⟩:∃ b,decide (c.first<1)=b:=⟨_,rfl⟩;obtain ⟨e6,he6⟩:∃ b,decide (4294967295<c.first)=b:=⟨_,rfl⟩;obtain ⟨e7,he7⟩:∃ b,decide (c.win<1)=b:=⟨_,rfl⟩;obtain ⟨e8,he8⟩:∃ b,decide (64<c.win)=b:=⟨_,rfl⟩;have hok:okC c=(bm&&((!e1&&!e2)&&((!e3&&!e4)&&((!e5&&!e6)&&((!e7&&!e8)&&br))))):=by
  unfold okC;rw [hbm,hbr,inB_is,inB_is,inB_is,inB_is,he1,he2,he3,he4,he5,he6,he7,he8]
 have Ae:Hid (bm=true->c.sys.groups.length<=16):=fun h=>by
  rw [<- hbm,decide_eq_true_eq] at h;exact h.2.2.2.2.1
 have a4:w0.cell? ⟨S0,4,none⟩=some (iI c.pb):=zaa k0 rfl;have a5:w0.cell? ⟨S0,5,none⟩=some (iI c.pc):=zaa k0 rfl;have a6:w0.cell? ⟨S0,6,none⟩=some (iI c.pt):=zaa k0 rfl;rw [hok];have Ab:Hid (w.heap.size=S0∧S0<w0.heap.size):=⟨hS0,hlt⟩;clear hg B0 k0 hlt hbr hbm hok;go_enter Tryz.func26,Tryz.ntmps26
 go_wp2_with fail
 refine HR.out.mono ?_;rintro _ w1 ⟨rfl,hb1⟩;have b7:w1.cell? ⟨S0,7,none⟩=some (iI c.sys.stamp):=zaa (HK.out w1 hb1).1 rfl;have b8:w1.cell? ⟨S0,8,none⟩=some (.string ⟨c.sys.machine.toArray⟩):=zaa (HK.out w1 hb1).1 rfl;have b9:w1.cell? ⟨S0,9,none⟩=some (iI c.sys.user):=zaa (HK.out w1 hb1).1 rfl;have b10:w1.cell? ⟨S0,10,none⟩=some (iI c.sys.group):=zaa (HK.out w1 hb1).1 rfl;have b11:w1.cell? ⟨S0,11,none⟩=some (.slice oa c.sys.groups.length cap):=zaa (HK.out w1 hb1).1 rfl;have Af:=hid (HM.out w1 hb1);have Ad:=hid hb1;clear HR a4 a5 a6 hb1 HM;go_wp2_with fail
 refine Af.out.mono ?_;rintro _ w2 ⟨rfl,hb2⟩;have hb02:Below w0.heap.size w0 w2:=Ad.out.trans (hb2.mono Ad.out.size);have d0:w2.cell? ⟨S0,0,none⟩=some (iI c.ad):=zaa (HK.out w2 hb02).1 rfl;have d1:w2.cell? ⟨S0,1,none⟩=some (iI c.inst):=zaa (HK.out w2 hb02).1 rfl;have d2:w2.cell? ⟨S0,2,none⟩=some (iI c.first):=zaa (HK.out w2 hb02).1 rfl;have d3:w2.cell? ⟨S0,3,none⟩=some (iI c.win):=zaa (HK.out w2 hb02).1 rfl;have d4:w2.cell? ⟨S0,4,none⟩=some (iI c.pb):=zaa (HK.out w2 hb02).1 rfl;have d5:w2.cell? ⟨S0,5,none⟩=some (iI c.pc):=zaa (HK.out w2 hb02).1 rfl;have d6:w2.cell? ⟨S0,6,none⟩=some (iI c.pt):=zaa (HK.out w2 hb02).1 rfl;have d7:w2.cell? ⟨S0,7,none⟩=some (iI c.sys.stamp):=zaa (HK.out w2 hb02).1 rfl;have d8:w2.cell? ⟨S0,8,none⟩=some (.string ⟨c.sys.machine.toArray⟩):=zaa (HK.out w2 hb02).1 rfl;have d9:w2.cell? ⟨S0,9,none⟩=some (iI c.sys.user):=zaa (HK.out w2 hb02).1 rfl;have d10:w2.cell? ⟨S0,10,none⟩=some (iI c.sys.group):=zaa (HK.out w2 hb02).1 rfl;have d11:w2.cell? ⟨S0,11,none⟩=some (.slice oa c.sys.groups.length cap):=zaa (HK.out w2 hb02).1 rfl;have Ac:=hid hb02;have Aa:Hid (Below w.heap.size w w2):=(HK.out w2 hb02).2.1;clear b7 b8 b9 b10 b11 Af hb2 hb02 Ad;cases br
 · go_wp2;go_ret2
   first|exact .inl ⟨by simp,rfl,Aa.out⟩|exact ⟨rfl,Aa.out⟩|exact ⟨rfl,by rw [<- Ab.out.1];exact Aa.out⟩
 · cases bm
   · go_wp2;go_ret2
     first|exact .inl ⟨by simp,rfl,Aa.out⟩|exact ⟨rfl,Aa.out⟩|exact ⟨rfl,by rw [<- Ab.out.1];exact Aa.out⟩
   · cases e1;rotate_left
     · go_wp2;go_ret2
       first|exact .inl ⟨by simp,rfl,Aa.out⟩|exact ⟨rfl,Aa.out⟩|exact ⟨rfl,by rw [<- Ab.out.1];exact Aa.out⟩
     · cases e2;rotate_left
       · go_wp2;go_ret2
         first|exact .inl ⟨by simp,rfl,Aa.out⟩|exact ⟨rfl,Aa.out⟩|exact ⟨rfl,by rw [<- Ab.out.1];exact Aa.out⟩
       · cases e3;rotate_left
         · go_wp2;go_ret2
           first|exact .inl ⟨by simp,rfl,Aa.out⟩|exact ⟨rfl,Aa.out⟩|exact ⟨rfl,by rw [<- Ab.out.1];exact Aa.out⟩
         · cases e4;rotate_left
           · go_wp2;go_ret2
             first|exact .inl ⟨by simp,rfl,Aa.out⟩|exact ⟨rfl,Aa.out⟩|exact ⟨rfl,by rw [<- Ab.out.1];exact Aa.out⟩
           · cases e5;rotate_left
             · go_wp2;go_ret2
               first|exact .inl ⟨by simp,rfl,Aa.out⟩|exact ⟨rfl,Aa.out⟩|exact ⟨rfl,by rw [<- Ab.out.1];exact Aa.out⟩
             · cases e6;rotate_left
               · go_wp2;go_ret2
                 first|exact .inl ⟨by simp,rfl,Aa.out⟩|exact ⟨rfl,Aa.out⟩|exact ⟨rfl,by rw [<- Ab.out.1];exact Aa.out⟩
               · cases e7;rotate_left
                 · go_wp2;go_ret2
                   first|exact .inl ⟨by simp,rfl,Aa.out⟩|exact ⟨rfl,Aa.out⟩|exact ⟨rfl,by rw [<- Ab.out.1];exact Aa.out⟩
                 · cases e8;rotate_left
                   · go_wp2;go_ret2
                     first|exact .inl ⟨by simp,rfl,Aa.out⟩|exact ⟨rfl,Aa.out⟩|exact ⟨rfl,by rw [<- Ab.out.1];exact Aa.out⟩
                   · obtain ⟨oa4,cap4,w3,hr3,hc3,hg3,hb3,hs3⟩:=gnil_any c.sys.groups oa cap w2 (HK.out w2 Ac.out).2.2 (by have:=Ae.out rfl;omega);have hz3:=hb3.size;have k3:w3.heap[S0]?=some (cfB c oa cap):=(hb3.block S0 (by have:=Ab.out;have:=Ac.out.size;omega)).trans (HK.out w2 Ac.out).1;have x11:w3.cell? ⟨S0,11,none⟩=some (.slice oa c.sys.groups.length cap):=zaa k3 rfl;have f11:=zab k3 11;obtain ⟨w4,hw4⟩:∃ w4,w3.setCell ⟨S0,11,none⟩ (.slice oa4 c.sys.groups.length cap4)=w4:=⟨_,rfl⟩;have k4:w4.heap[S0]?=some (cfB c oa4 cap4):=(by rw [<- hw4];exact zae k3 11 _);have hz4:w4.heap.size=w3.heap.size:=(by rw [<- hw4];simp [World.setCell]);have g0:w4.cell? ⟨S0,0,none⟩=some (iI c.ad):=zaa k4 rfl;have g1:w4.cell? ⟨S0,1,none⟩=some (iI c.inst):=zaa k4 rfl;have g2:w4.cell? ⟨S0,2,none⟩=some (iI c.first):=zaa k4 rfl;have g3:w4.cell? ⟨S0,3,none⟩=some (iI c.win):=zaa k4 rfl;have g4:w4.cell? ⟨S0,4,none⟩=some (iI c.pb):=zaa k4 rfl;have g5:w4.cell? ⟨S0,5,none⟩=some (iI c.pc):=zaa k4 rfl;have g6:w4.cell? ⟨S0,6,none⟩=some (iI c.pt):=zaa k4 rfl;have g7:w4.cell? ⟨S0,7,none⟩=some (iI c.sys.stamp):=zaa k4 rfl;have g8:w4.cell? ⟨S0,8,none⟩=some (.string ⟨c.sys.machine.toArray⟩):=zaa k4 rfl;have g9:w4.cell? ⟨S0,9,none⟩=some (iI c.sys.user):=zaa k4 rfl;have g10:w4.cell? ⟨S0,10,none⟩=some (iI c.sys.group):=zaa k4 rfl;have g11:w4.cell? ⟨S0,11,none⟩=some (.slice oa4 c.sys.groups.length cap4):=zaa k4 rfl;obtain ⟨Q,hQ⟩:∃ Q,w4.heap.size=Q:=⟨_,rfl⟩;obtain ⟨w5,hw5⟩:∃ w5,w4.alloc dmB=w5:=⟨_,rfl⟩;obtain ⟨P,hP⟩:∃ P,w5.heap.size=P:=⟨_,rfl⟩;obtain ⟨w6,hw6⟩:∃ w6,w5.alloc (dcB c oa4 cap4 0 c.first (.slice none 0 0) (.slice none 0 0) Q)=w6:=⟨_,rfl⟩;have k5:w5.heap[S0]?=some (cfB c oa4 cap4):=(by rw [<- hw5];exact (Below.heap_alloc _ _ _ (Array.getElem?_eq_some_iff.1 k4).1).trans k4);have HE:Hid (NewD w w6 c P):=by
                      have h0:=Ab.out;have h2:=Ac.out.size;have hPQ:P=Q+1:=(by rw [<- hP,<- hw5,<- hQ];simp);have b5:Below w4.heap.size w4 w5:=(by rw [<- hw5];exact (Below.refl _ _).alloc (Nat.le_refl _) _);have b6:Below w4.heap.size w4 w6:=(by rw [<- hw6];exact b5.alloc b5.size _);have bw4:Below w.heap.size w w4:=by
                       rw [<- hw4];exact zac (Aa.out.trans (hb3.mono Aa.out.size)) (by omega)
                      refine ⟨⟨Q,oa4,cap4,by rw [<- hw6,<- hP];exact (MapKept.heap_alloc w5 _).1,?_,hc3,?_,by omega,by omega,fun a ha=>⟨(hs3 a ha).1,by have:=(hs3 a ha).2;have:=Aa.out.size;omega⟩,by omega,fun hgl a ha=>?_⟩,by omega,bw4.trans (b6.mono bw4.size)⟩
                      · rw [<- hw6];refine (Below.heap_alloc _ _ _ (by omega)).trans ?_;rw [<- hw5,<- hQ];exact (MapKept.heap_alloc w4 _).1
                      · refine ((hg3.kept (w':=w4) (by omega) (fun q hq _ _=>?_)).kept b6.size (fun q _ hq _=>b6.block q hq)).lo Aa.out.size;rw [<- hw4,Below.heap_setCell _ _ _ _ (show q≠S0 by omega)]
                      · obtain ⟨q0,off0,e1,_,e3,_⟩:=hg3 hgl;rw [e1] at ha;cases ha;have hz:w4.heap.size=w3.heap.size:=(by rw [<- hw4];simp);show q0<Q;omega
                     have Ag:=hid hr3;have hb1:=bld120;have hb2:=fun w=>bld123 c oa4 cap4 Q w;clear hz3 k3 k4 k5 hz4 hr3 hc3 hg3 hb3 hs3 HK Aa Ae;(go_wp2_with (at_builtin;refine Hid.out ?_));refine (show Hid _ from ?_);refine za5 rfl _ _ 24 rfl _ _ _ _ rfl rfl (Ag.out _) ?_;go_wp2;go_ret2
                     first|exact .inr ⟨by simp,P,rfl,HE.out⟩|exact ⟨P,rfl,HE.out⟩
end Go.Proofs.YtfcbjcebkahehaaGreatDoor.Cl
namespace Go.Proofs.YtfcbjcebkahehaaGreatDoor
open Go.RowKit
theorem zfn (oa ob:Option Addr) (ca cb:Nat) (gs hs:List Int) (w:World) (hg:GsAt w w.heap.size oa gs) (hh:GsAt w w.heap.size ob hs) (hl:(gs.length:Int)<=9223372036854775807) :
 Calls Tryz.prog 38 #[.slice oa gs.length ca,.slice ob hs.length cb] w fun e w'=>e=.returned (.bool (gs==hs))∧Below w.heap.size w w':=by
 by_cases hlen:gs.length=hs.length
 · have HG:=hid hg;have HH:=hid hh;obtain ⟨n,hn⟩:∃ n,gs.length=n:=⟨_,rfl⟩;have hm:hs.length=n:=hlen.symm.trans hn;have HN:=hid (And.intro hn hm);obtain ⟨r,hr⟩:∃ r,(gs==hs)=r:=⟨_,rfl⟩;have HR:Hid ((∀ i,i<n->gs.getD i 0=hs.getD i 0)↔r=true):=by
    show _↔_;rw [<- hr,beq_iff_eq];constructor
    · intro H;(apply List.ext_getElem hlen);intro i h1 h2;(have:=H i (by omega));rwa [List.getD_eq_getElem?_getD,List.getD_eq_getElem?_getD,List.getElem?_eq_getElem h1,List.getElem?_eq_getElem h2] at this
    · intro H i _;rw [H]
   rw [hr,hn,hm];rw [hn] at hl;clear hg hh hn hm hlen hr;go_enter Tryz.func38,Tryz.ntmps38
   go_wp2_with fail
   go_loopw [5] (fun ix wr=>∃ j:Nat,ix=iI j∧j<=n∧Hid (∀ i,i<j->gs.getD i 0=hs.getD i 0)∧Hid (Below w.heap.size w wr)) (fun ix _=>n - (intOf ix).toNat)
   case atStart=>exact ⟨0,rfl,by omega,(fun i hi=>by omega:∀ i,i<0->gs.getD i 0=hs.getD i 0),(Below.refl _ _:Below w.heap.size w w)⟩
   case round =>
    obtain ⟨j,rfl,hj,HE,HB⟩:=hrel;by_cases hlt:j<n
    · obtain ⟨q,off,ho,hq,hc⟩:=HG.out (by have:=HN.out;omega);obtain ⟨q',off',ho',hq',hc'⟩:=HH.out (by have:=HN.out;omega);have d1:wr.cell? ⟨q,off+j,none⟩=some (iI (gs.getD j 0)):=(cells_of_block (HB.out.block q hq) _).1.trans (hc j (by have:=HN.out;omega));have d2:wr.cell? ⟨q',off'+j,none⟩=some (iI (hs.getD j 0)):=(cells_of_block (HB.out.block q' hq') _).1.trans (hc' j (by have:=HN.out;omega));subst ho ho';obtain ⟨x,hx⟩:∃ x,gs.getD j 0=x:=⟨_,rfl⟩;obtain ⟨y,hy⟩:∃ y,hs.getD j 0=y:=⟨_,rfl⟩;rw [hx] at d1;rw [hy] at d2;have HX:=hid (And.intro hx hy);have i0:(0:Int)<=(j:Int):=(by omega);have i1:(j:Int)<(n:Int):=(by omega);clear hc hc' hx hy;by_cases hxy:x=y
      · have Aa:Hid (∀ i,i<j+1->gs.getD i 0=hs.getD i 0):=fun i hi=>by
         rcases Nat.lt_or_ge i j with h|h
         · exact HE.out i h
         · obtain rfl:i=j:=(by omega);rw [HX.out.1,HX.out.2,hxy]
        clear HX;subst hxy;(go_wp2_with fail);go_quiet (fail)
        go_wp2;go_roundw
        case rel=>exact ⟨j+1,by go_num,by omega,Aa,zan HB.out _⟩
        case measure=>simp [intOf];omega
      · have hr:r=false:=by
         cases r
         · rfl
         · exact absurd (HR.out.2 rfl j hlt) (by rw [HX.out.1,HX.out.2];exact hxy)
        subst hr;have e1:(x != y)=true:=bne_iff_ne.2 hxy;(go_wp2_with fail);go_quiet (fail)
        go_wp2;go_ret;exact ⟨rfl,zan HB.out _⟩
    · obtain rfl:j=n:=(by omega);have hr:r=true:=HR.out.1 HE.out;subst hr;go_wp2;go_ret;exact ⟨rfl,HB.out⟩
 · have hb:(gs==hs)=false:=by
    simp only [beq_eq_false_iff_ne,ne_eq];exact fun e=>hlen (by rw [e])
   rw [hb];have h1:((gs.length:Int) != (hs.length:Int))=true:=by simp;omega
   have h2:¬ (gs.length:Int)=(hs.length:Int):=by omega
   generalize gs.length=n at *;generalize hs.length=m at *;go_enter Tryz.func38,Tryz.ntmps38
   go_wp2;go_ret;exact ⟨rfl,Below.refl _ _⟩
theorem row_of_own {w:World} {base g n:Nat} {xs:List Value} (h:w.ownsRow base 3 1 (.slice (some ⟨g,0,none⟩) n n) n xs):Bk w g xs 3:=by
 rcases h.2 with ⟨h1,_⟩|⟨g',cap,cur,h1,_,hg,_,_,hs,ht⟩
 · cases h1
 · cases h1;have e:cur.toList=xs:=by
    rw [<- ht];exact (List.take_of_length_le (by simp at hs ⊢;omega)).symm
   unfold Bk;rw [<- e];exact hg
theorem made_zero (n:Nat):(madeCells (Value.int .i64 0).cells (n*1)).toList=List.replicate n (iI 0):=by
 apply List.ext_getElem
 · simp [madeCells]
 · intro i h1 h2;simp [madeCells,Value.cells,Nat.mod_one]
theorem fill_set (A:List Value) (j k:Nat) (x y:Value):(A++(List.replicate j x++List.replicate (k+1) y)).set (A.length+j) x=A++(List.replicate (j+1) x++List.replicate k y):=by
 rw [List.set_append_right _ _ (by omega),Nat.add_sub_cancel_left,List.set_append_right _ _ (by simp),List.length_replicate,Nat.sub_self,List.replicate_succ,List.set_cons_zero,List.replicate_succ',List.append_assoc];rfl
theorem fill_get (A:List Value) (j k:Nat) (x y:Value):(A++(List.replicate j x++List.replicate (k+1) y))[A.length+j]?=some y:=by
 rw [List.getElem?_append_right (by omega),Nat.add_sub_cancel_left,List.getElem?_append_right (by simp),List.length_replicate,Nat.sub_self];simp
theorem intsV_get (gs:List Int) (i:Nat) (h:i<gs.length):(zci gs)[i]?=some (iI (gs.getD i 0)):=by
 unfold zci;rw [List.getElem?_map,List.getElem?_eq_getElem h,List.getD_eq_getElem?_getD,List.getElem?_eq_getElem h];rfl
theorem copy_into {P:Program} {w w1:World} {dT sT ty elem t:TypeId} {base:Nat} {oa:Option Addr} {ca n:Nat} {gs:List Int} (hu:P.underlying dT=some (.slice elem)) (hs:(P.info? elem).map (·.size)=some 1) (hn:gs.length=n)
 (hk:Bk w1 base (List.replicate (n+4) (iI 0)) t) (hB:Below base w w1) (hg:GsAt w base oa gs) :
 ∃ w2,(Builtin.copy_ #[dT,sT] ty #[.slice (some ⟨base,0,none⟩) (n+4) (n+4),.slice oa n ca]).run P w1=.ok (goInt n) w2∧Bk w2 base (zci gs++(List.replicate 0 (iI (-77))++List.replicate 4 (iI 0))) t∧Below base w w2:=by
 by_cases h0:n=0
 · subst h0;obtain rfl:gs=[]:=List.eq_nil_of_length_eq_zero hn;refine ⟨w1,?_,hk,hB⟩;exact run_copy_none w1 dT sT ty elem _ oa _ _ 0 ca hu hs (by simp)
 · obtain ⟨q,off,hoa,hq,hc⟩:=hg (by omega);subst hoa;have hm:(zci gs).length=Nat.min n (n+4):=by rw [zbz,hn];exact (Nat.min_eq_left (by omega)).symm
   have h:=run_copy_row (P:=P) w1 dT sT ty elem base 0 (n+4) (n+4) ⟨q,off,none⟩ n ca (List.replicate (n+4) (Value.int .i64 0)).toArray t (zci gs) hu hs hk hm (fun j v hj=>?_) (by simp [zbz];omega) (fun v hv=>?_)
   · refine ⟨_,by rw [h,zbz,hn],?_,below_setRow hB (Nat.le_refl _) _⟩;have h2:=fun cs=>setRow_heap w1 base (List.replicate (n+4) (Value.int .i64 0)).toArray cs t (0,0) hk;unfold Bk;rw [h2];have e:zci gs++List.replicate 4 (Value.int .i64 0)=zci gs++(List.replicate 0 (iI (-77))++List.replicate 4 (iI 0)):=rfl;rw [<- e];simp
   · have hj2:j<gs.length:=by
      (have:=(List.getElem?_eq_some_iff.1 hj).1);rwa [zbz] at this
     rw [intsV_get gs j hj2] at hj;cases hj;rw [Go.Lib.add_plain,(cells_of_block (hB.block q hq) _).1];exact hc j hj2
   · obtain ⟨g,_,rfl⟩:=List.mem_map.1 hv;rfl
theorem lent_any (oa:Option Addr) (ca:Nat) (gs:List Int) (w:World) (hg:GsAt w w.heap.size oa gs) (hl:gs.length<=2147483647) :
 Calls Tryz.prog 25 #[.slice oa gs.length ca] w fun e w'=>e=.returned (.slice (some ⟨w.heap.size,0,none⟩) (gs.length+4) (gs.length+4))∧Bk w' w.heap.size (zci gs++List.replicate 4 (iI (-77))) 3∧Below w.heap.size w w':=by
 obtain ⟨inf,hi1,hi2,hi3,hi4⟩:=info_int;obtain ⟨n,hn⟩:∃ n,gs.length=n:=⟨_,rfl⟩;have HN:=hid hn;have HG:=hid hg;rw [hn] at hl ⊢;have HI:=hid (And.intro hi1 (And.intro hi2 (And.intro hi3 hi4)));have HL:=hid hl;have hl2:(n:Int)<=2147483647:=by omega
 have e4:IntKind.i64.wrap ((n:Int)+4)=((n+4:Nat):Int):=by rw [IntKind.wrap_i64];omega
 clear hi1 hi2 hi3 hi4 hg hn hl;go_enter Tryz.func25,Tryz.ntmps25
 go_wp2_with (at_make;refine Hid.out ?_)
 refine (show Hid _ from ?_);refine wpList_make_full _ rfl _ _ 24 rfl w.heap.size 3 inf (iI 0) 1 Tryz.underlying24 HI.out.1 HI.out.2.1 HI.out.2.2.1 .i64 .i64 _ _ (n+4) rfl rfl (by push_cast;rfl) (by push_cast;rfl) (by rw [HI.out.2.2.2];have:=HL.out;omega) (by have:=HL.out;unfold maxLen;omega) (Nat.le_refl _) ?_;intro w1 ho hgr;have hB1:Below w.heap.size w w1:=(Below.refl _ _).grown hgr (Nat.le_refl _) (fun k e=>by cases e);have hk1:=row_of_own ho;rw [made_zero] at hk1;have Aa:=hid hk1;have Ab:=hid hB1;clear ho hgr hk1 hB1 e4;obtain ⟨w2,hcp,hk2,hB2⟩:=copy_into (P:=Tryz.prog) (sT:=24) (ty:=3) (ca:=ca) (t:=3) (base:=w.heap.size) (Tryz.underlying24) (by rw [HI.out.1];simp [HI.out.2.2.1]) HN.out Aa.out Ab.out HG.out;have Ac:Hid (Bk w2 w.heap.size (zci gs++(List.replicate 0 (iI (-77))++List.replicate 4 (iI 0))) 3):=hk2;have Ad:=hid hB2;clear hk2 hB2 Aa Ab;go_wp2;clear hcp;go_loopw [4] (fun ix wr=>∃ j:Nat,ix=iI ((n+j:Nat):Int)∧j<=4∧Hid (Bk wr w.heap.size (zci gs++(List.replicate j (iI (-77))++List.replicate (4 - j) (iI 0))) 3)∧Hid (Below w.heap.size w wr)) (fun ix _=>n+4 - (intOf ix).toNat)
 case atStart=>exact ⟨0,by simp,by omega,Ac,Ad⟩
 case round =>
  obtain ⟨j,rfl,hj,HK,HB⟩:=hrel;by_cases hlt:j<4
  · obtain ⟨k,hk⟩:∃ k,4 - j=k+1:=⟨4 - j - 1,by omega⟩;have c:=HK.out.cell (n+j) (v:=iI 0) (by rw [hk];have:=fill_get (zci gs) j k (iI (-77)) (iI 0);rwa [zbz,HN.out] at this);have f:=HK.out.frozen (n+j);have Ae:Hid (Bk (wr.setCell ⟨w.heap.size,n+j,none⟩ (iI (-77))) w.heap.size (zci gs++(List.replicate (j+1) (iI (-77))++List.replicate (4 - (j+1)) (iI 0))) 3):=by
     have h1:=HK.out.set (n+j) (iI (-77));rw [hk] at h1;have h2:=fill_set (zci gs) j k (iI (-77)) (iI 0);rw [zbz,HN.out] at h2;rw [h2] at h1;rw [show 4 - (j+1)=k by omega];exact h1
    have Af:Hid (Below w.heap.size w (wr.setCell ⟨w.heap.size,n+j,none⟩ (iI (-77)))):=HB.out.setCell (Nat.le_refl _) _;have i0:(0:Int)<=((n+j:Nat):Int):=(by omega);have i1:((n+j:Nat):Int)<((n+4:Nat):Int):=(by omega);have i2:n+j<n+4:=(by omega);clear hk;go_wp2;go_roundw
    case rel=>exact ⟨j+1,by go_num,by omega,Ae,Af⟩
    case measure=>simp [intOf];omega
  · obtain rfl:j=4:=(by omega);go_wp2;go_ret;refine ⟨rfl,?_,HB.out⟩;simpa using HK.out
theorem lent_get (gs:List Int) (i:Nat) (h:i<gs.length):(zci gs++List.replicate 4 (iI (-77)))[i]?=some (iI (gs.getD i 0)):=by
 rw [List.getElem?_append_left (by rw [zbz];exact h)];exact intsV_get gs i h
theorem lent_tail (gs:List Int) (j:Nat) (h:j<4):(zci gs++List.replicate 4 (iI (-77)))[gs.length+j]?=some (iI (-77)):=by
 rw [List.getElem?_append_right (by rw [zbz];omega),zbz,Nat.add_sub_cancel_left,List.getElem?_replicate];simp [h]
theorem lent_gs {w:World} {g:Nat} {gs:List Int} {t:TypeId} (h:Bk w g (zci gs++List.replicate 4 (iI (-77))) t):GsAt w w.heap.size (some ⟨g,0,none⟩) gs:=fun _=>⟨g,0,rfl,h.lt,fun i hi=>by
 rw [Nat.zero_add]
 exact h.cell i (lent_get gs i hi)⟩
def Nums (n:Nat) (xs:List Value):Prop:=xs.length=n∧∀ i,i<n->∃ z,xs[i]?=some (iI z)
theorem Nums.set {n:Nat} {xs:List Value} (h:Nums n xs) (i:Nat) (z:Int):Nums n (xs.set i (iI z)):=by
 refine ⟨by rw [List.length_set];exact h.1,fun j hj=>?_⟩;by_cases e:i=j
 · subst e;exact ⟨z,by rw [List.getElem?_set_self (by rw [h.1];exact hj)]⟩
 · rw [List.getElem?_set_ne e];exact h.2 j hj
theorem lent_nums (gs:List Int):Nums (gs.length+4) (zci gs++List.replicate 4 (iI (-77))):=by
 refine ⟨by simp [zbz],fun i hi=>?_⟩;by_cases h:i<gs.length
 · exact ⟨_,lent_get gs i h⟩
 · have:=lent_tail gs (i - gs.length) (by omega)
   rw [show gs.length+(i - gs.length)=i by omega] at this;exact ⟨_,this⟩
theorem whole_any (g:Nat) (oa:Option Addr) (ca:Nat) (gs:List Int) (w:World) (hk:Bk w g (zci gs++List.replicate 4 (iI (-77))) 3) (hg:GsAt w w.heap.size oa gs) (hl:gs.length<=2147483647) :
 Calls Tryz.prog 27 #[.slice (some ⟨g,0,none⟩) (gs.length+4) (gs.length+4),.slice oa gs.length ca] w fun e w'=>e=.returned (.bool true)∧Sole g w w':=by
 have HI:Hid (Calls Tryz.prog 38 #[.slice (some ⟨g,0,none⟩) gs.length (gs.length+4),.slice oa gs.length ca] w fun e w'=>e=.returned (.bool true)∧Below w.heap.size w w'):=by
  have:=zfn (some ⟨g,0,none⟩) oa (gs.length+4) ca gs gs w (lent_gs hk) hg (by omega)
  rwa [show (gs==gs)=true by simp] at this
 have HC:Hid (∀ wr,Below w.heap.size w wr->Bk wr g (zci gs++List.replicate 4 (iI (-77))) 3):=fun wr h=>hk.below h hk.lt;have HT:=hid (lent_tail gs);have HM:=hid (lent_nums gs);clear hk hg;obtain ⟨n,hn⟩:∃ n,gs.length=n:=⟨_,rfl⟩;rw [hn] at hl HI HT HM ⊢;have hl2:(n:Int)<=2147483647:=by omega
 have s0:(0:Int)<=(n:Int):=by omega
 have s1:(n:Int)<=((n+4:Nat):Int):=by omega
 clear hn hl;go_enter Tryz.func27,Tryz.ntmps27
 go_wp2_with fail
 refine HI.out.mono ?_;rintro e w3 ⟨rfl,hB3⟩;have Aa:=hid hB3;clear HI hB3;go_wp2_with fail
 go_loopw [5,6] (fun is ix wr=>∃ j:Nat,is=.bool true∧ix=iI ((n+j:Nat):Int)∧j<=4∧Hid (Below w.heap.size w wr)) (fun _ ix _=>n+4 - (intOf ix).toNat)
 case atStart=>exact ⟨0,rfl,by simp,by omega,Aa⟩
 case round =>
  obtain ⟨j,rfl,rfl,hj,HB⟩:=hrel;by_cases hlt:j<4
  · have c:=(HC.out wr HB.out).cell (n+j) (HT.out j hlt);have i0:(0:Int)<=((n+j:Nat):Int):=(by omega);have i1:((n+j:Nat):Int)<((n+4:Nat):Int):=(by omega);have i2:n+j<n+4:=(by omega);go_wp2;go_roundw
    case rel=>exact ⟨j+1,rfl,by go_num,by omega,HB⟩
    case measure=>simp [intOf];omega
  · obtain rfl:j=4:=(by omega);have Ab:Hid (∃ xs,Bk wr g xs 3∧Nums (n+4) xs):=⟨_,HC.out wr HB.out,HM.out⟩;have Ac:Hid (Sole g w wr):=Sole.of_below HB.out;clear HC HT HM HB;(go_wp2_with fail);go_loopw [7] (fun ix wr=>∃ j:Nat,ix=iI (j:Int)∧j<=n+4∧Hid (∃ xs,Bk wr g xs 3∧Nums (n+4) xs)∧Hid (Sole g w wr)) (fun ix _=>n+4 - (intOf ix).toNat)
    case atStart=>exact ⟨0,rfl,by omega,Ab,Ac⟩
    case round =>
     obtain ⟨j,rfl,hj,HK,HS⟩:=hrel;by_cases hlt:j<n+4
     · obtain ⟨xs,hk,hx⟩:=HK.out;obtain ⟨z,hz⟩:=hx.2 j hlt;have c:=hk.cell j hz;have f:=hk.frozen j;have Ad:Hid (∃ ys,Bk (wr.setCell ⟨g,j,none⟩ (iI 4)) g ys 3∧Nums (n+4) ys):=⟨_,hk.set j _,hx.set j _⟩;have Ae:Hid (Sole g w (wr.setCell ⟨g,j,none⟩ (iI 4))):=HS.out.trans (Sole.setCell _ _ _);have i0:(0:Int)<=(j:Int):=(by omega);have i1:(j:Int)<((n+4:Nat):Int):=(by omega);clear hk hx hz HK HS;go_wp2;go_roundw
       case rel=>exact ⟨j+1,by go_num,by omega,Ad,Ae⟩
       case measure=>simp [intOf];omega
     · obtain rfl:j=n+4:=(by omega);go_wp2;go_ret;exact ⟨rfl,HS.out⟩
end Go.Proofs.YtfcbjcebkahehaaGreatDoor
namespace Go.Proofs.YtfcbjcebkahehaaGreatDoor.Cl
open Go.RowKit
theorem bld52 (w:World):(Instr.build 52 #[(0,.pointer none),(1,.pointer none)]).run Tryz.prog w=.ok (.agg #[.pointer none,.pointer none,.slice none 0 0]) w:=by kernel_rfl
theorem bld52p (a b:Nat) (w:World):(Instr.build 52 #[(0,ptr a),(1,ptr b)]).run Tryz.prog w=.ok (.agg #[ptr a,ptr b,.slice none 0 0]) w:=by kernel_rfl
theorem cut24 (g n cap j:Nat) (hj:j<=cap) (w:World):(Instr.slice 24 (.slice (some ⟨g,0,none⟩) n cap) none (some (iI (j:Int))) none).run Tryz.prog w=.ok (.slice (some ⟨g,0,none⟩) j cap) w:=by
 obtain ⟨i,hi,_,_,_⟩:=info3;simp [Instr.slice,run_underlying Tryz.underlying24,Instr.sliceBounds,Instr.sliceBound,asIntOf,sizeOf,typeInfo,hi,Addr.add]
 exact fun h=>absurd h (by omega)
end Go.Proofs.YtfcbjcebkahehaaGreatDoor.Cl
