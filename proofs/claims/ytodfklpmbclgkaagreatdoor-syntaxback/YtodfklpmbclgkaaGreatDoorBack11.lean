import Derived.Test.YtodfklpmbclgkaaGreatDoorBack10
import Derived.Laws.StructEq
import Derived.Lib.AppendStr
namespace Go.Proofs.YtodfklpmbclgkaaGreatDoor
open Go.RowKit
/-- the program's variables, as they lie in memory -/
def zd3 (w:World):Prop:=∃ t fr,w.heap[0]?=some (.cells zh8 t fr)
theorem zd3.below {w w' : World} (h:zd3 w) (hB:Below w.heap.size w w'):zd3 w':=by
 obtain ⟨t,fr,h⟩:=h
 exact ⟨t,fr,(hB.block 0 (zep h)).trans h⟩
def zb7 (R:PRes) (w:World) (e:Ending) (w' : World):Prop :=
 match R with
 | .ok t=>∃ v,e=.returned (.tuple #[v,.int .i64 0,.int .i64 0])∧zal w.heap.size t w' v∧Below w.heap.size w w'
 | .err r i=>e=.returned (.tuple #[kidV 0 [] 0 0 (.slice none 0 0),.int .i64 r,.int .i64 i])∧Below w.heap.size w w'
theorem Sole.to_below {p:Nat} {w wp w' : World} (hB:Below w.heap.size w wp) (hp:w.heap.size<=p) (hS:Sole p wp w'):Below w.heap.size w w' :=
 ⟨hS.os.trans hB.os,hS.tape.trans hB.tape,hS.output.trans hB.output,Nat.le_trans hB.size hS.size,fun b hb=>(hS.block b (Nat.lt_of_lt_of_le hb hB.size) (by omega)).trans (hB.block b hb)⟩
theorem bld53 (o:Option Addr) (n c:Nat) (w:World):(Instr.build 53 #[(0,.slice o n c)]).run Tryz.prog w=.ok (.agg #[.slice o n c,.int .i64 0,.int .i64 0,.bool false]) w:=by kernel_rfl
theorem ext0 (a b c:Value) (w:World):(Instr.extract (.tuple #[a,b,c]) 0).run Tryz.prog w=.ok a w:=rfl
theorem ext1 (a b c:Value) (w:World):(Instr.extract (.tuple #[a,b,c]) 1).run Tryz.prog w=.ok b w:=rfl
theorem ext2 (a b c:Value) (w:World):(Instr.extract (.tuple #[a,b,c]) 2).run Tryz.prog w=.ok c w:=rfl
set_option maxHeartbeats 2000000 in
set_option maxRecDepth 4000 in
theorem parse_lex (l:List UInt8) (r:Int) (i:Nat) (hr:r≠0) (w:World) (HS:Hid (∀ w1,Calls Tryz.prog 16 #[.string ⟨l.toArray⟩] w1 fun e w'=>e=.returned (.tuple #[.slice none 0 0,.int .i64 r,.int .i64 i])∧Below w1.heap.size w1 w')) :
 Calls Tryz.prog 11 #[.string ⟨l.toArray⟩] w (zb7 (.err r i) w):=by
 have hmf:∀ (fn:Fn) (first cap:Array Value) (w:World),(Instr.makeFunc fn first cap).run Tryz.prog w=.ok (.func fn first cap) w:=fun _ _ _ _=>rfl
 obtain ⟨wa1,hwa1⟩:∃ x,w.alloc (.cells #[.int .i64 0,.string ⟨#[]⟩,.int .i64 0,.int .i64 0,.slice none 0 0] 29)=x:=⟨_,rfl⟩
 obtain ⟨wa2,hwa2⟩:∃ x,wa1.alloc (.cells #[.int .i64 0] 30)=x:=⟨_,rfl⟩
 obtain ⟨wa3,hwa3⟩:∃ x,wa2.alloc (.cells #[.int .i64 0] 3)=x:=⟨_,rfl⟩
 have b1:Below w.heap.size w wa1:=by rw [<- hwa1];exact zad _ _
 have b2:Below w.heap.size w wa2:=by rw [<- hwa2];exact b1.alloc b1.size _
 have b3:Below w.heap.size w wa3:=by rw [<- hwa3];exact b2.alloc b2.size _
 have kt:Kep w wa3 w.heap.size (kidO 0 [] 0 0 (.slice none 0 0)):=by rw [<- hwa3,<- hwa2,<- hwa1];exact ((Kep.new (Nat.le_refl _) _).alloc _).alloc _
 have ke:Kep w wa3 wa1.heap.size (oneO 0 30):=by rw [<- hwa3,<- hwa2];exact (Kep.new b1.size _).alloc _
 have ka:Kep w wa3 wa2.heap.size (oneO 0 3):=by rw [<- hwa3];exact Kep.new b2.size _
 have HLT:Hid (w.heap.size<wa1.heap.size∧wa1.heap.size<wa2.heap.size):=⟨by rw [<- hwa1];simp,by rw [<- hwa2];simp⟩
 have HB3:=hid b3
 have HK3:=hid3 kt ke ka
 clear b1 b2 b3 kt ke ka
 have hrn:(r != 0)=true:=by simp [hr]
 clear hr
 go_enter_defers Tryz.func11,Tryz.ntmps11
 go_wp2_with fail
 clear hwa1 hwa2 hwa3
 refine (HS.out wa3).mono ?_
 rintro e ws ⟨rfl,hB⟩
 have hlt:=HLT.out
 have k0:Kep w ws w.heap.size (kidO 0 [] 0 0 (.slice none 0 0)):=HK3.out.1.below hB
 have k1:Kep w ws wa1.heap.size (oneO 0 30):=HK3.out.2.1.below hB
 have k2:Kep w ws wa2.heap.size (oneO 0 3):=HK3.out.2.2.below hB
 have HKS:=hid4 k0 k1 k2 (HB3.out.trans (hB.mono HB3.out.size))
 obtain ⟨⟨z0,z1,z2,z3,z4⟩,⟨y0,y1,y2,y3,y4⟩⟩:=zac k0.1
 obtain ⟨e0,g0⟩:=zb2 k1.1
 obtain ⟨a0,b0⟩:=zb2 k2.1
 have m1:¬ w.heap.size=wa1.heap.size:=by omega
 have m2:¬ w.heap.size=wa2.heap.size:=by omega
 have m3:¬ wa1.heap.size=wa2.heap.size:=by omega
 have m4:¬ wa1.heap.size=w.heap.size:=by omega
 have m5:¬ wa2.heap.size=w.heap.size:=by omega
 have m6:¬ wa2.heap.size=wa1.heap.size:=by omega
 have qb:=bldz
 have x0:=ext0
 have x1:=ext1
 have x2:=ext2
 clear k0 k1 k2 hB hlt
 go_wp2
 have hz1:∀ b,b≠wa1.heap.size->b≠wa2.heap.size->((ws.setCell ⟨wa1.heap.size,0,none⟩ (.int .i64 r)).setCell ⟨wa2.heap.size,0,none⟩ (.int .i64 i)).heap[b]?=ws.heap[b]?:=fun b h1 h2=>(Below.heap_setCell _ _ _ _ h2).trans (Below.heap_setCell _ _ _ _ h1)
 have k0:((ws.setCell ⟨wa1.heap.size,0,none⟩ (.int .i64 r)).setCell ⟨wa2.heap.size,0,none⟩ (.int .i64 i)).heap[w.heap.size]?=some (kidO 0 [] 0 0 (.slice none 0 0)):=(hz1 _ m1 m2).trans HKS.out.1.1
 have k1:((ws.setCell ⟨wa1.heap.size,0,none⟩ (.int .i64 r)).setCell ⟨wa2.heap.size,0,none⟩ (.int .i64 i)).heap[wa1.heap.size]?=some (oneO r 30):=(Below.heap_setCell _ _ _ _ m3).trans (zav HKS.out.2.1.1)
 have k2:((ws.setCell ⟨wa1.heap.size,0,none⟩ (.int .i64 r)).setCell ⟨wa2.heap.size,0,none⟩ (.int .i64 i)).heap[wa2.heap.size]?=some (oneO i 3):=zav ((Below.heap_setCell _ _ _ _ m6).trans HKS.out.2.2.1.1)
 have hlt:=HLT.out
 have HBX:Hid (Below w.heap.size w ((ws.setCell ⟨wa1.heap.size,0,none⟩ (.int .i64 r)).setCell ⟨wa2.heap.size,0,none⟩ (.int .i64 i))):=(HKS.out.2.2.2.setCell (p:=⟨wa1.heap.size,0,none⟩) (Nat.le_of_lt hlt.1) _).setCell (p:=⟨wa2.heap.size,0,none⟩) (by show w.heap.size<=wa2.heap.size;omega) _
 clear z0 z1 z2 z3 z4 y0 y1 y2 y3 y4 e0 g0 a0 b0 hz1
 generalize ((ws.setCell ⟨wa1.heap.size,0,none⟩ (.int .i64 r)).setCell ⟨wa2.heap.size,0,none⟩ (.int .i64 i))=wx at k0 k1 k2 HBX ⊢
 have HKX:=hid3 k0 k1 k2
 obtain ⟨⟨z0,z1,z2,z3,z4⟩,⟨y0,y1,y2,y3,y4⟩⟩:=zac k0
 obtain ⟨e0,g0⟩:=zb2 k1
 obtain ⟨a0,b0⟩:=zb2 k2
 clear k0 k1 k2 hlt
 go_region
 all_goals (
  go_wp2
  obtain ⟨u,hu5⟩:∃ u,((((wx.setCell ⟨w.heap.size,0,none⟩ (.int .i64 0)).setCell ⟨w.heap.size,1,none⟩ (.string ⟨#[]⟩)).setCell ⟨w.heap.size,2,none⟩ (.int .i64 0)).setCell ⟨w.heap.size,3,none⟩ (.int .i64 0)).setCell ⟨w.heap.size,4,none⟩ (.slice none 0 0)=u:=⟨_,rfl⟩
  have hut:u.heap[w.heap.size]?=some (kidO 0 [] 0 0 (.slice none 0 0)):=by rw [<- hu5];exact zfj (n:=[]) (a:=0) HKX.out.1
  have hub:∀ b,b≠w.heap.size->u.heap[b]?=wx.heap[b]?:=by rw [<- hu5];exact zb0 wx w.heap.size _ _ _ _ _
  have hbu:Below w.heap.size w u:=by rw [<- hu5];exact HBX.out.trans (zba wx w.heap.size w.heap.size _ _ _ _ _ (Nat.le_refl _))
  rw [hu5]
  have hlt:=HLT.out
  have hz0:((u.setCell ⟨wa1.heap.size,0,none⟩ (.int .i64 r)).setCell ⟨wa2.heap.size,0,none⟩ (.int .i64 i)).drew.heap[w.heap.size]?=some (kidO 0 [] 0 0 (.slice none 0 0)):=(Below.heap_setCell _ _ _ _ m2).trans ((Below.heap_setCell _ _ _ _ m1).trans hut)
  have hz1:((u.setCell ⟨wa1.heap.size,0,none⟩ (.int .i64 r)).setCell ⟨wa2.heap.size,0,none⟩ (.int .i64 i)).drew.heap[wa1.heap.size]?=some (oneO r 30):=(Below.heap_setCell _ _ _ _ m3).trans (zav ((hub _ m4).trans HKX.out.2.1))
  have hz2:((u.setCell ⟨wa1.heap.size,0,none⟩ (.int .i64 r)).setCell ⟨wa2.heap.size,0,none⟩ (.int .i64 i)).drew.heap[wa2.heap.size]?=some (oneO i 3):=zav ((Below.heap_setCell _ _ _ _ m6).trans ((hub _ m5).trans HKX.out.2.2))
  have hbz:Below w.heap.size w ((u.setCell ⟨wa1.heap.size,0,none⟩ (.int .i64 r)).setCell ⟨wa2.heap.size,0,none⟩ (.int .i64 i)).drew:=((hbu.setCell (p:=⟨wa1.heap.size,0,none⟩) (Nat.le_of_lt hlt.1) _).setCell (p:=⟨wa2.heap.size,0,none⟩) (by show w.heap.size<=wa2.heap.size;omega) _).drew
  generalize ((u.setCell ⟨wa1.heap.size,0,none⟩ (.int .i64 r)).setCell ⟨wa2.heap.size,0,none⟩ (.int .i64 i)).drew=wz at hz0 hz1 hz2 hbz ⊢
  have q:=(zac hz0).1
  have q5:=(zb2 hz1).1
  have q6:=(zb2 hz2).1
  obtain ⟨q0,q1,q2,q3,q4⟩:=q
  clear hut hub hbu hz0 hz1 hz2 hu5 z0 z1 z2 z3 z4 y0 y1 y2 y3 y4 e0 g0 a0 b0 qb x0 x1 x2 hmf
  simp [bodyPostD,Leaves,results,Tryz.results11,go_sem,q0,q1,q2,q3,q4,q5,q6]
  exact ⟨rfl,hbz⟩)
/-- what Parse answers of its tokens -/
def treeR (r:Ans Tree):PRes :=
 match r with
 | .ok t _=>.ok t
 | .no e i=>.err e i
set_option maxHeartbeats 2000000 in
set_option maxRecDepth 4000 in
theorem parse_toks (l:List UInt8) (ts:List Tok) (h1:ts.length<=16001) (hE:Ends ts) (h0:0<ts.length) (w:World) (hG:zd3 w) (HS:Hid (∀ w1,Calls Tryz.prog 16 #[.string ⟨l.toArray⟩] w1 fun e w'=>∃ g cap,e=.returned (.tuple #[.slice (some ⟨g,0,none⟩) ts.length cap,.int .i64 0,.int .i64 0])∧w'.ownsRow w1.heap.size 41 4 (.slice (some ⟨g,0,none⟩) ts.length cap) ts.length (Lx.tokCells ts)∧Below w1.heap.size w1 w')) :
 Calls Tryz.prog 11 #[.string ⟨l.toArray⟩] w (zb7 (treeR ((zbb 102 [] ⟨ts,false⟩).bind fun ks s=>Ans.ok (Tree.node 1 [] 0 0 ks) s)) w):=by
 have hmf:∀ (fn:Fn) (first cap:Array Value) (w:World),(Instr.makeFunc fn first cap).run Tryz.prog w=.ok (.func fn first cap) w:=fun _ _ _ _=>rfl
 obtain ⟨wa1,hwa1⟩:∃ x,w.alloc (.cells #[.int .i64 0,.string ⟨#[]⟩,.int .i64 0,.int .i64 0,.slice none 0 0] 29)=x:=⟨_,rfl⟩
 obtain ⟨wa2,hwa2⟩:∃ x,wa1.alloc (.cells #[.int .i64 0] 30)=x:=⟨_,rfl⟩
 obtain ⟨wa3,hwa3⟩:∃ x,wa2.alloc (.cells #[.int .i64 0] 3)=x:=⟨_,rfl⟩
 have b1:Below w.heap.size w wa1:=by rw [<- hwa1];exact zad _ _
 have b2:Below w.heap.size w wa2:=by rw [<- hwa2];exact b1.alloc b1.size _
 have b3:Below w.heap.size w wa3:=by rw [<- hwa3];exact b2.alloc b2.size _
 have kt:Kep w wa3 w.heap.size (kidO 0 [] 0 0 (.slice none 0 0)):=by rw [<- hwa3,<- hwa2,<- hwa1];exact ((Kep.new (Nat.le_refl _) _).alloc _).alloc _
 have ke:Kep w wa3 wa1.heap.size (oneO 0 30):=by rw [<- hwa3,<- hwa2];exact (Kep.new b1.size _).alloc _
 have ka:Kep w wa3 wa2.heap.size (oneO 0 3):=by rw [<- hwa3];exact Kep.new b2.size _
 have HLT:Hid (w.heap.size<wa1.heap.size∧wa1.heap.size<wa2.heap.size):=⟨by rw [<- hwa1];simp,by rw [<- hwa2];simp⟩
 have HB3:=hid b3
 have HK3:=hid3 kt ke ka
 clear b1 b2 b3 kt ke ka
 have HTS:=hid3 h1 hE h0
 have HG:=hid hG
 obtain ⟨R,hR⟩:∃ R,((zbb 102 [] ⟨ts,false⟩).bind fun ks s=>Ans.ok (Tree.node 1 [] 0 0 ks) s)=R:=⟨_,rfl⟩
 rw [hR]
 have HR:=hid hR
 clear h1 hE h0 hR hG
 go_enter_defers Tryz.func11,Tryz.ntmps11
 go_wp2_with fail
 clear hwa1 hwa2 hwa3
 refine (HS.out wa3).mono ?_
 rintro e ws ⟨g,cap,rfl,ho,hB⟩
 have hlt:=HLT.out
 have k0:Kep w ws w.heap.size (kidO 0 [] 0 0 (.slice none 0 0)):=HK3.out.1.below hB
 have k1:Kep w ws wa1.heap.size (oneO 0 30):=HK3.out.2.1.below hB
 have k2:Kep w ws wa2.heap.size (oneO 0 3):=HK3.out.2.2.below hB
 have HKS:=hid4 k0 k1 k2 (HB3.out.trans (hB.mono HB3.out.size))
 have HOW:=hid2 ho HK3.out.2.2.lt
 obtain ⟨e0,g0⟩:=zb2 k1.1
 obtain ⟨a0,b0⟩:=zb2 k2.1
 have m1:¬ w.heap.size=wa1.heap.size:=by omega
 have m2:¬ w.heap.size=wa2.heap.size:=by omega
 have m3:¬ wa1.heap.size=wa2.heap.size:=by omega
 have m4:¬ wa1.heap.size=w.heap.size:=by omega
 have m5:¬ wa2.heap.size=w.heap.size:=by omega
 have m6:¬ wa2.heap.size=wa1.heap.size:=by omega
 have qb:=bld53 (some ⟨g,0,none⟩) ts.length cap
 have x0:=ext0
 have x1:=ext1
 have x2:=ext2
 clear k0 k1 k2 hB hlt ho
 go_wp2_with fail
 have hlt:=HLT.out
 have hz1:∀ b,b≠wa1.heap.size->b≠wa2.heap.size->((ws.setCell ⟨wa1.heap.size,0,none⟩ (.int .i64 0)).setCell ⟨wa2.heap.size,0,none⟩ (.int .i64 0)).heap[b]?=ws.heap[b]?:=fun b h1 h2=>(Below.heap_setCell _ _ _ _ h2).trans (Below.heap_setCell _ _ _ _ h1)
 have k0:Kep w ((ws.setCell ⟨wa1.heap.size,0,none⟩ (.int .i64 0)).setCell ⟨wa2.heap.size,0,none⟩ (.int .i64 0)) w.heap.size (kidO 0 [] 0 0 (.slice none 0 0)):=⟨(hz1 _ m1 m2).trans HKS.out.1.1,Nat.le_refl _⟩
 have k1:Kep w ((ws.setCell ⟨wa1.heap.size,0,none⟩ (.int .i64 0)).setCell ⟨wa2.heap.size,0,none⟩ (.int .i64 0)) wa1.heap.size (oneO 0 30):=⟨(Below.heap_setCell _ _ _ _ m3).trans (zav HKS.out.2.1.1),HKS.out.2.1.2⟩
 have k2:Kep w ((ws.setCell ⟨wa1.heap.size,0,none⟩ (.int .i64 0)).setCell ⟨wa2.heap.size,0,none⟩ (.int .i64 0)) wa2.heap.size (oneO 0 3):=⟨zav ((Below.heap_setCell _ _ _ _ m6).trans HKS.out.2.2.1.1),HKS.out.2.2.1.2⟩
 have hbx:Below w.heap.size w ((ws.setCell ⟨wa1.heap.size,0,none⟩ (.int .i64 0)).setCell ⟨wa2.heap.size,0,none⟩ (.int .i64 0)):=(HKS.out.2.2.2.setCell (p:=⟨wa1.heap.size,0,none⟩) (Nat.le_of_lt hlt.1) _).setCell (p:=⟨wa2.heap.size,0,none⟩) (by show w.heap.size<=wa2.heap.size;omega) _
 have hox:(((ws.setCell ⟨wa1.heap.size,0,none⟩ (.int .i64 0)).setCell ⟨wa2.heap.size,0,none⟩ (.int .i64 0))).ownsRow wa3.heap.size 41 4 (.slice (some ⟨g,0,none⟩) ts.length cap) ts.length (Lx.tokCells ts):=zfq HOW.out.1 (fun q e hl=>hz1 q (by have h1:=(HOW.out.1.lt q e).1;have h2:=HOW.out.2;omega) (by have h1:=(HOW.out.1.lt q e).1;have h2:=HOW.out.2;omega))
 have hsz:(((ws.setCell ⟨wa1.heap.size,0,none⟩ (.int .i64 0)).setCell ⟨wa2.heap.size,0,none⟩ (.int .i64 0))).heap.size=ws.heap.size:=by simp
 clear hz1 e0 g0 a0 b0
 generalize ((ws.setCell ⟨wa1.heap.size,0,none⟩ (.int .i64 0)).setCell ⟨wa2.heap.size,0,none⟩ (.int .i64 0))=wx at k0 k1 k2 hbx hox hsz ⊢
 have hp:w.heap.size<=wx.heap.size:=hbx.size
 have hpp:=PP.made hox HTS.out.1 HTS.out.2.2
 have hbp:Below w.heap.size w (wx.alloc (.cells #[.slice (some ⟨g,0,none⟩) ts.length cap,.int .i64 0,.int .i64 0,.bool false] 53)):=hbx.alloc hbx.size _
 have hba:zb3 wx.heap.size (wx.alloc (.cells #[.slice (some ⟨g,0,none⟩) ts.length cap,.int .i64 0,.int .i64 0,.bool false] 53)):=by
  obtain ⟨t,fr,hg⟩:=HG.out.below hbp
  have h0:0<w.heap.size:=by obtain ⟨t,fr,hg⟩:=HG.out;exact zep hg
  exact ⟨by omega,t,fr,hg⟩
 have HSO:Hid (Calls Tryz.prog 26 #[.pointer (some ⟨wx.heap.size,0,none⟩)] (wx.alloc (.cells #[.slice (some ⟨g,0,none⟩) ts.length cap,.int .i64 0,.int .i64 0,.bool false] 53)) (zao wx.heap.size g cap ts 0 (zal (wx.alloc (.cells #[.slice (some ⟨g,0,none⟩) ts.length cap,.int .i64 0,.int .i64 0,.bool false] 53)).heap.size) R (wx.alloc (.cells #[.slice (some ⟨g,0,none⟩) ts.length cap,.int .i64 0,.int .i64 0,.bool false] 53)))):=by
  have hx:=source_any wx.heap.size g cap ts HTS.out.2.1 0 rfl 0 false (wx.alloc (.cells #[.slice (some ⟨g,0,none⟩) ts.length cap,.int .i64 0,.int .i64 0,.bool false] 53)) hpp hba
  rw [<- HR.out]
  exact hx
 rw [hsz] at HSO
 obtain ⟨wp,hwp⟩:∃ x,wx.alloc (.cells #[.slice (some ⟨g,0,none⟩) ts.length cap,.int .i64 0,.int .i64 0,.bool false] 53)=x:=⟨_,rfl⟩
 rw [hwp] at HSO ⊢
 have HKP:Hid (Kep w wp w.heap.size (kidO 0 [] 0 0 (.slice none 0 0))∧Kep w wp wa1.heap.size (oneO 0 30)∧Kep w wp wa2.heap.size (oneO 0 3)∧Below w.heap.size w wp∧wa2.heap.size<ws.heap.size∧w.heap.size<wp.heap.size):=by
  rw [<- hwp]
  exact ⟨k0.alloc _,k1.alloc _,k2.alloc _,hbp,hsz ▸ k2.lt,by have:=k0.lt;simp;omega⟩
 clear k0 k1 k2 hbx hox hsz hp hpp hbp hba hwp hlt qb
 refine HSO.out.mono ?_
 cases R with
 | no why at_ =>
  rintro e w9 ⟨rfl,hS⟩
  have hkp:=HKP.out
  have hlt:=HLT.out
  have k0:w9.heap[w.heap.size]?=some (kidO 0 [] 0 0 (.slice none 0 0)):=hS.blk hkp.1.1 (by omega)
  have k1:w9.heap[wa1.heap.size]?=some (oneO 0 30):=hS.blk hkp.2.1.1 (by omega)
  have k2:w9.heap[wa2.heap.size]?=some (oneO 0 3):=hS.blk hkp.2.2.1.1 (by omega)
  have HB9:=hid (Sole.to_below hkp.2.2.2.1 (by omega) hS)
  have HK9:=hid3 k0 k1 k2
  clear hS k0 k1 k2 hkp hlt
  go_wp2
  refine leaves_cons (f:=25) (args:=#[.pointer (some ⟨w.heap.size,0,none⟩),.pointer (some ⟨wa1.heap.size,0,none⟩),.pointer (some ⟨wa2.heap.size,0,none⟩)]) (by simp) (by simp [go_sem]) ?_
  refine (catch_fault w.heap.size wa1.heap.size wa2.heap.size why at_ [] w9 0 [] 0 0 (.slice none 0 0) 0 0 HK9.out.1 HK9.out.2.1 HK9.out.2.2 m1 m2 m3).mono ?_
  rintro e u' wz ⟨rfl,rfl,⟨hz0,hz1,hz2⟩,hf,h1,h2,h3,h4⟩
  have hlt:=HLT.out
  have hbz:Below w.heap.size w wz:=⟨h1.trans HB9.out.os,h2.trans HB9.out.tape,h3.trans HB9.out.output,Nat.le_trans HB9.out.size h4,fun b hb=>(hf b (Nat.lt_of_lt_of_le hb HB9.out.size) (by omega) (by omega) (by omega)).trans (HB9.out.block b hb)⟩
  obtain ⟨q0,q1,q2,q3,q4⟩:=(zac hz0).1
  have q5:=(zb2 hz1).1
  have q6:=(zb2 hz2).1
  clear hf h1 h2 h3 h4 hz0 hz1 hz2 x0 x1 x2 hmf
  simp [Leaves,settle,results,Tryz.results11,go_sem,q0,q1,q2,q3,q4,q5,q6]
  exact ⟨rfl,hbz⟩
 | ok t st =>
  rintro e w9 ⟨v,i,full,rfl,hT,rfl,hP,hS⟩
  obtain ⟨k8,n8,m8,a8,ks8⟩:=t
  obtain ⟨sl,rfl,hL⟩:=zah.1 hT
  obtain ⟨o8,l8,c8,rfl⟩:=hL.shape
  have hkp:=HKP.out
  have hlt:=HLT.out
  have k0:Kep w w9 w.heap.size (kidO 0 [] 0 0 (.slice none 0 0)):=⟨hS.blk hkp.1.1 (by omega),Nat.le_refl _⟩
  have k1:w9.heap[wa1.heap.size]?=some (oneO 0 30):=hS.blk hkp.2.1.1 (by omega)
  have k2:w9.heap[wa2.heap.size]?=some (oneO 0 3):=hS.blk hkp.2.2.1.1 (by omega)
  have HB9:=hid (Sole.to_below hkp.2.2.2.1 (by omega) hS)
  have HK9:=hid3 k0.1 k1 k2
  have HL9:Hid (zaf (fun b=>wa2.heap.size<b) w9 ks8 (.slice o8 l8 c8)):=hL.weaken (fun b h=>by have h1:wp.heap.size<=b:=h;have h2:=hkp.2.2.1.lt;omega)
  obtain ⟨⟨z0,z1,z2,z3,z4⟩,⟨y0,y1,y2,y3,y4⟩⟩:=zac k0.1
  obtain ⟨e0,g0⟩:=zb2 k1
  obtain ⟨a0,b0⟩:=zb2 k2
  clear hS hP hT hL k0 k1 k2 hkp hlt
  unfold kidV
  go_wp2
  obtain ⟨u,hu5⟩:∃ u,((((w9.setCell ⟨w.heap.size,0,none⟩ (.int .i64 k8)).setCell ⟨w.heap.size,1,none⟩ (.string ⟨n8.toArray⟩)).setCell ⟨w.heap.size,2,none⟩ (.int .i64 m8)).setCell ⟨w.heap.size,3,none⟩ (.int .i64 a8)).setCell ⟨w.heap.size,4,none⟩ (.slice o8 l8 c8)=u:=⟨_,rfl⟩
  have hut:u.heap[w.heap.size]?=some (kidO k8 n8 m8 a8 (.slice o8 l8 c8)):=by rw [<- hu5];exact zfj HK9.out.1
  have hub:∀ b,b≠w.heap.size->u.heap[b]?=w9.heap[b]?:=by rw [<- hu5];exact zb0 w9 w.heap.size _ _ _ _ _
  have hbu:Below w.heap.size w u:=by rw [<- hu5];exact HB9.out.trans (zba w9 w.heap.size w.heap.size _ _ _ _ _ (Nat.le_refl _))
  rw [hu5]
  have hlt:=HLT.out
  have hz0:((u.setCell ⟨wa1.heap.size,0,none⟩ (.int .i64 0)).setCell ⟨wa2.heap.size,0,none⟩ (.int .i64 0)).heap[w.heap.size]?=some (kidO k8 n8 m8 a8 (.slice o8 l8 c8)):=(Below.heap_setCell _ _ _ _ m2).trans ((Below.heap_setCell _ _ _ _ m1).trans hut)
  have hz1:((u.setCell ⟨wa1.heap.size,0,none⟩ (.int .i64 0)).setCell ⟨wa2.heap.size,0,none⟩ (.int .i64 0)).heap[wa1.heap.size]?=some (oneO 0 30):=(Below.heap_setCell _ _ _ _ m3).trans (zav ((hub _ m4).trans HK9.out.2.1))
  have hz2:((u.setCell ⟨wa1.heap.size,0,none⟩ (.int .i64 0)).setCell ⟨wa2.heap.size,0,none⟩ (.int .i64 0)).heap[wa2.heap.size]?=some (oneO 0 3):=zav ((Below.heap_setCell _ _ _ _ m6).trans ((hub _ m5).trans HK9.out.2.2))
  have hbz:Below w.heap.size w ((u.setCell ⟨wa1.heap.size,0,none⟩ (.int .i64 0)).setCell ⟨wa2.heap.size,0,none⟩ (.int .i64 0)):=(hbu.setCell (p:=⟨wa1.heap.size,0,none⟩) (Nat.le_of_lt hlt.1) _).setCell (p:=⟨wa2.heap.size,0,none⟩) (by show w.heap.size<=wa2.heap.size;omega) _
  have hLz:zaf (fun b=>wa2.heap.size<b) ((u.setCell ⟨wa1.heap.size,0,none⟩ (.int .i64 0)).setCell ⟨wa2.heap.size,0,none⟩ (.int .i64 0)) ks8 (.slice o8 l8 c8):=zaf.frame (fun _ h=>h) (fun b h _=>(Below.heap_setCell _ _ _ _ (show b≠wa2.heap.size by omega)).trans ((Below.heap_setCell _ _ _ _ (show b≠wa1.heap.size by omega)).trans (hub b (by omega)))) HL9.out
  generalize ((u.setCell ⟨wa1.heap.size,0,none⟩ (.int .i64 0)).setCell ⟨wa2.heap.size,0,none⟩ (.int .i64 0))=wz at hz0 hz1 hz2 hbz hLz ⊢
  have HZ:Hid (wz.heap[w.heap.size]?=some (kidO k8 n8 m8 a8 (.slice o8 l8 c8))∧wz.heap[wa1.heap.size]?=some (oneO 0 30)∧wz.heap[wa2.heap.size]?=some (oneO 0 3)∧Below w.heap.size w wz∧zaf (fun b=>wa2.heap.size<b) wz ks8 (.slice o8 l8 c8)):=⟨hz0,hz1,hz2,hbz,hLz⟩
  clear hut hub hbu hz0 hz1 hz2 hbz hLz hu5 z0 z1 z2 z3 z4 y0 y1 y2 y3 y4 e0 g0 a0 b0 hlt
  refine leaves_cons (f:=25) (args:=#[.pointer (some ⟨w.heap.size,0,none⟩),.pointer (some ⟨wa1.heap.size,0,none⟩),.pointer (some ⟨wa2.heap.size,0,none⟩)]) (by simp) (by simp [go_sem]) ?_
  refine (catch_idle w.heap.size wa1.heap.size wa2.heap.size wz).mono ?_
  rintro e u' wy ⟨rfl,rfl,hby⟩
  have hlt:=HLT.out
  have hbw:Below w.heap.size w wy:=HZ.out.2.2.2.1.trans (hby.mono HZ.out.2.2.2.1.size)
  obtain ⟨q0,q1,q2,q3,q4⟩:=(zac (za8 hby HZ.out.1)).1
  have q5:=(zb2 (za8 hby HZ.out.2.1)).1
  have q6:=(zb2 (za8 hby HZ.out.2.2.1)).1
  have hty:zal w.heap.size (.node k8 n8 m8 a8 ks8) wy (kidV k8 n8 m8 a8 (.slice o8 l8 c8)):=zah.2 ⟨_,rfl,(HZ.out.2.2.2.2.below hby).weaken (fun b h=>by show w.heap.size<=b;omega)⟩
  clear hby x0 x1 x2 hmf
  simp [Leaves,settle,results,Tryz.results11,go_sem,q0,q1,q2,q3,q4,q5,q6]
  exact ⟨_,rfl,hty,hbw⟩
theorem zoi {l:List UInt8} {e:Int} {i:Nat} (h:zc7 l=.err e i):e≠0:=by
 rcases Nat.lt_or_ge 16000 l.length with h1|h1
 · unfold zc7 at h;rw [if_pos h1] at h;cases h;decide
 · obtain ⟨us,_,_,hs⟩:=zly h h1
   rcases zlz hs with rfl|rfl|rfl|rfl <;> decide
theorem zcx (l:List UInt8) (w:World) (hG:zd3 w):Calls Tryz.prog 11 #[.string ⟨l.toArray⟩] w (zb7 (zch l) w):=by
 unfold zch
 cases h:zc7 l with
 | err r i =>
  refine parse_lex l r i (zoi h) w (fun w1=>?_)
  have hx:=Lx.scan_any l w1
  rw [h] at hx
  exact hx
 | ok ts =>
  obtain ⟨_,h1,hE,h0⟩:=scan_ok h
  have hx:=parse_toks l ts h1 hE h0 w hG (fun w1=>by
   have hx:=Lx.scan_any l w1
   rw [h] at hx
   exact hx)
  show Calls _ _ _ _ (zb7 (match zbb 102 [] ⟨ts,false⟩ with|.ok ks _=>.ok (.node 1 [] 0 0 ks)|.no e i=>.err e i) w)
  cases hs:zbb 102 [] ⟨ts,false⟩ with
  | ok ks st=>rw [hs] at hx;exact hx
  | no e i=>rw [hs] at hx;exact hx
end Go.Proofs.YtodfklpmbclgkaaGreatDoor
namespace Go.Proofs.YtodfklpmbclgkaaGreatDoor
def ats (l:List Tok):List Nat:=l.map (fun t=>t.at_)
def Suf (a b:List Tok):Prop:=∃ c,b=c++a
def endT (n:Nat):Tok:=⟨5,[],0,n⟩
/-- it ends in the end -/
def EndL (l:List Tok):Prop:=∃ c n,l=c++[endT n]
def code (e:Int):Prop:=e=40∨e=41∨e=42
theorem EndL.tail {t:Tok} {l:List Tok} (h:EndL (t::l)) (ht:¬ (t.kind=5∧t.text=[])):EndL l:=by
 obtain ⟨c,n,h⟩:=h
 cases c with
 | nil =>
  simp at h
  rw [h.1] at ht
  exact absurd ⟨rfl,rfl⟩ ht
 | cons x c =>
  simp at h
  exact ⟨c,n,h.2⟩
theorem EndL.ne {l:List Tok} (h:EndL l):l≠[]:=by
 obtain ⟨c,n,rfl⟩:=h
 simp
theorem Suf.refl (a:List Tok):Suf a a:=⟨[],rfl⟩
theorem Suf.trans {a b c:List Tok} (h:Suf a b) (k:Suf b c):Suf a c:=by
 obtain ⟨x,rfl⟩:=h
 obtain ⟨y,rfl⟩:=k
 exact ⟨y++x,by simp⟩
theorem Suf.cons {a b:List Tok} (t:Tok) (h:Suf a b):Suf a (t::b):=by
 obtain ⟨x,rfl⟩:=h
 exact ⟨t::x,rfl⟩
theorem Suf.ats {a b:List Tok} (h:Suf a b) {n:Nat} (hn:n∈ats a):n∈ats b:=by
 obtain ⟨x,rfl⟩:=h
 simp [Go.Proofs.YtodfklpmbclgkaaGreatDoor.ats] at hn ⊢
 exact Or.inr hn
/-- it told something of what stands in vs -/
def Beyond {α:Type} (r:Ans α) (vs:List Tok):Prop:=(∃ e a,r=.no e a∧a∈ats vs)∨(∃ x ws f,r=.ok x ⟨ws,f⟩∧Suf ws vs∧EndL ws)
structure GoodOn {α:Type} (c:Tok->Prop) (F:PS->Ans α):Prop where
 stay:∀ t L full,c t->EndL (t::L)->(∃ e a,F ⟨t::L,full⟩=.no e a∧a∈ats (t::L)∧code e)∨(∃ x ws f,F ⟨t::L,full⟩=.ok x ⟨ws,f⟩∧Suf ws (t::L)∧EndL ws)
 here:∀ v vs vs' full,c v->EndL vs->EndL vs'->(∃ e,F ⟨v::vs,full⟩=.no e v.at_∧F ⟨v::vs',full⟩=.no e v.at_)∨(∃ x f,F ⟨v::vs,full⟩=.ok x ⟨v::vs,f⟩∧F ⟨v::vs',full⟩=.ok x ⟨v::vs',f⟩)∨(Beyond (F ⟨v::vs,full⟩) vs∧Beyond (F ⟨v::vs',full⟩) vs')
 same:∀ u us v vs vs' full,c u->EndL vs->EndL vs'->(∃ e a,a∈ats (u::us++[v])∧F ⟨u::us++v::vs,full⟩=.no e a∧F ⟨u::us++v::vs',full⟩=.no e a)∨(∃ x us' f,Suf us' (u::us)∧F ⟨u::us++v::vs,full⟩=.ok x ⟨us'++v::vs,f⟩∧F ⟨u::us++v::vs',full⟩=.ok x ⟨us'++v::vs',f⟩)∨(Beyond (F ⟨u::us++v::vs,full⟩) vs∧Beyond (F ⟨u::us++v::vs',full⟩) vs')
 cut:∀ u us v vs n full,c u->EndL (v::vs)->(∃ e a,a∈ats (u::us)∧F ⟨u::us++v::vs,full⟩=.no e a∧F ⟨u::us++[endT n],full⟩=.no e a)∨(∃ x us' f,us'≠[]∧Suf us' (u::us)∧F ⟨u::us++v::vs,full⟩=.ok x ⟨us'++v::vs,f⟩∧F ⟨u::us++[endT n],full⟩=.ok x ⟨us'++[endT n],f⟩)∨(F ⟨u::us++[endT n],full⟩=.no 40 n∨∃ x f,F ⟨u::us++[endT n],full⟩=.ok x ⟨[endT n],f⟩)
/-- at the end it gives up there, or stays there -/
def Fin {α:Type} (F:PS->Ans α):Prop:=∀ n full,F ⟨[endT n],full⟩=.no 40 n∨∃ x f,F ⟨[endT n],full⟩=.ok x ⟨[endT n],f⟩
structure Good {α:Type} (F:PS->Ans α):Prop where
 on:GoodOn (fun _=>True) F
 fin:Fin F
theorem EndL.shape {l:List Tok} (h:EndL l):∃ t r,l=t::r:=by
 cases l with
 | nil=>exact absurd rfl h.ne
 | cons t r=>exact ⟨t,r,rfl⟩
theorem Good.stays {α:Type} {F:PS->Ans α} (h:Good F) (L:List Tok) (full:Bool) (hL:EndL L):(∃ e a,F ⟨L,full⟩=.no e a∧a∈ats L∧code e)∨(∃ x ws f,F ⟨L,full⟩=.ok x ⟨ws,f⟩∧Suf ws L∧EndL ws):=by
 obtain ⟨t,r,rfl⟩:=hL.shape
 exact h.on.stay t r full trivial hL
theorem Good.beyond {α β:Type} {r:Ans α} {G:α->PS->Ans β} {vs:List Tok} (h:Beyond r vs) (hG:∀ x,Good (G x)):Beyond (r.bind G) vs:=by
 rcases h with ⟨e,a,rfl,ha⟩|⟨x,ws,f,rfl,hs,hw⟩
 · exact Or.inl ⟨e,a,rfl,ha⟩
 · rcases (hG x).stays ws f hw with ⟨e,a,h1,h2,_⟩|⟨y,ws',f',h1,h2,h3⟩
   · exact Or.inl ⟨e,a,h1,hs.ats h2⟩
   · exact Or.inr ⟨y,ws',f',h1,h2.trans hs,h3⟩
theorem GoodOn.bind {α β:Type} {c:Tok->Prop} {F:PS->Ans α} {G:α->PS->Ans β} (hF:GoodOn c F) (hG:∀ x,Good (G x)):GoodOn c (fun s=>(F s).bind G):=by
 constructor
 · intro t L full hc hL
   rcases hF.stay t L full hc hL with ⟨e,a,h1,h2,h3⟩|⟨x,ws,f,h1,h2,h3⟩
   · exact Or.inl ⟨e,a,by show (F _).bind G=_;rw [h1];rfl,h2,h3⟩
   · rcases (hG x).stays ws f h3 with ⟨e,a,k1,k2,k3⟩|⟨y,ws',f',k1,k2,k3⟩
     · exact Or.inl ⟨e,a,by show (F _).bind G=_;rw [h1];exact k1,h2.ats k2,k3⟩
     · exact Or.inr ⟨y,ws',f',by show (F _).bind G=_;rw [h1];exact k1,k2.trans h2,k3⟩
 · intro v vs vs' full hc hv hv'
   rcases hF.here v vs vs' full hc hv hv' with ⟨e,h1,h2⟩|⟨x,f,h1,h2⟩|⟨h1,h2⟩
   · exact Or.inl ⟨e,by show (F _).bind G=_;rw [h1];rfl,by show (F _).bind G=_;rw [h2];rfl⟩
   · rcases (hG x).on.here v vs vs' f trivial hv hv' with ⟨e,k1,k2⟩|⟨y,f',k1,k2⟩|⟨k1,k2⟩
     · exact Or.inl ⟨e,by show (F _).bind G=_;rw [h1];exact k1,by show (F _).bind G=_;rw [h2];exact k2⟩
     · exact Or.inr (Or.inl ⟨y,f',by show (F _).bind G=_;rw [h1];exact k1,by show (F _).bind G=_;rw [h2];exact k2⟩)
     · refine Or.inr (Or.inr ⟨?_,?_⟩)
       · show Beyond ((F _).bind G) vs;rw [h1];exact k1
       · show Beyond ((F _).bind G) vs';rw [h2];exact k2
   · exact Or.inr (Or.inr ⟨Good.beyond h1 hG,Good.beyond h2 hG⟩)
 · intro u us v vs vs' full hc hv hv'
   rcases hF.same u us v vs vs' full hc hv hv' with ⟨e,a,h0,h1,h2⟩|⟨x,us',f,h0,h1,h2⟩|⟨h1,h2⟩
   · exact Or.inl ⟨e,a,h0,by show (F _).bind G=_;rw [h1];rfl,by show (F _).bind G=_;rw [h2];rfl⟩
   · have hav:∀ n,n∈ats (us'++[v])->n∈ats (u::us++[v]):=fun n hn=>by
      obtain ⟨y,hy⟩:=h0
      rw [hy]
      simp [ats] at hn ⊢
      rcases hn with h|h
      · exact Or.inr (Or.inl h)
      · exact Or.inr (Or.inr h)
     cases us' with
     | nil =>
      rcases (hG x).on.here v vs vs' f trivial hv hv' with ⟨e,k1,k2⟩|⟨y,f',k1,k2⟩|⟨k1,k2⟩
      · exact Or.inl ⟨e,v.at_,by simp [ats],by show (F _).bind G=_;rw [h1];exact k1,by show (F _).bind G=_;rw [h2];exact k2⟩
      · exact Or.inr (Or.inl ⟨y,[],f',h0,by show (F _).bind G=_;rw [h1];exact k1,by show (F _).bind G=_;rw [h2];exact k2⟩)
      · refine Or.inr (Or.inr ⟨?_,?_⟩)
        · show Beyond ((F _).bind G) vs;rw [h1];exact k1
        · show Beyond ((F _).bind G) vs';rw [h2];exact k2
     | cons u' us' =>
      rcases (hG x).on.same u' us' v vs vs' f trivial hv hv' with ⟨e,a,k0,k1,k2⟩|⟨y,us'',f',k0,k1,k2⟩|⟨k1,k2⟩
      · exact Or.inl ⟨e,a,hav a k0,by show (F _).bind G=_;rw [h1];exact k1,by show (F _).bind G=_;rw [h2];exact k2⟩
      · exact Or.inr (Or.inl ⟨y,us'',f',k0.trans h0,by show (F _).bind G=_;rw [h1];exact k1,by show (F _).bind G=_;rw [h2];exact k2⟩)
      · refine Or.inr (Or.inr ⟨?_,?_⟩)
        · show Beyond ((F _).bind G) vs;rw [h1];exact k1
        · show Beyond ((F _).bind G) vs';rw [h2];exact k2
   · exact Or.inr (Or.inr ⟨Good.beyond h1 hG,Good.beyond h2 hG⟩)
 · intro u us v vs n full hc hv
   have hfin:∀ x f,(G x ⟨[endT n],f⟩=.no 40 n∨∃ y f',G x ⟨[endT n],f⟩=.ok y ⟨[endT n],f'⟩):=fun x f=>(hG x).fin n f
   rcases hF.cut u us v vs n full hc hv with ⟨e,a,h0,h1,h2⟩|⟨x,us',f,h00,h0,h1,h2⟩|h1|⟨x,f,h1⟩
   · exact Or.inl ⟨e,a,h0,by show (F _).bind G=_;rw [h1];rfl,by show (F _).bind G=_;rw [h2];rfl⟩
   · cases us' with
     | nil=>exact absurd rfl h00
     | cons u' us' =>
      rcases (hG x).on.cut u' us' v vs n f trivial hv with ⟨e,a,k0,k1,k2⟩|⟨y,us'',f',k00,k0,k1,k2⟩|k1|⟨y,f',k1⟩
      · exact Or.inl ⟨e,a,h0.ats k0,by show (F _).bind G=_;rw [h1];exact k1,by show (F _).bind G=_;rw [h2];exact k2⟩
      · exact Or.inr (Or.inl ⟨y,us'',f',k00,k0.trans h0,by show (F _).bind G=_;rw [h1];exact k1,by show (F _).bind G=_;rw [h2];exact k2⟩)
      · exact Or.inr (Or.inr (Or.inl (by show (F _).bind G=_;rw [h2];exact k1)))
      · exact Or.inr (Or.inr (Or.inr ⟨y,f',by show (F _).bind G=_;rw [h2];exact k1⟩))
   · exact Or.inr (Or.inr (Or.inl (by show (F _).bind G=_;rw [h1];rfl)))
   · rcases hfin x f with k1|⟨y,f',k1⟩
     · exact Or.inr (Or.inr (Or.inl (by show (F _).bind G=_;rw [h1];exact k1)))
     · exact Or.inr (Or.inr (Or.inr ⟨y,f',by show (F _).bind G=_;rw [h1];exact k1⟩))
theorem Fin.bind {α β:Type} {F:PS->Ans α} {G:α->PS->Ans β} (hF:Fin F) (hG:∀ x,Good (G x)):Fin (fun s=>(F s).bind G):=by
 intro n full
 rcases hF n full with h1|⟨x,f,h1⟩
 · exact Or.inl (by show (F _).bind G=_;rw [h1];rfl)
 · rcases (hG x).fin n f with k1|⟨y,f',k1⟩
   · exact Or.inl (by show (F _).bind G=_;rw [h1];exact k1)
   · exact Or.inr ⟨y,f',by show (F _).bind G=_;rw [h1];exact k1⟩
theorem Good.bind {α β:Type} {F:PS->Ans α} {G:α->PS->Ans β} (hF:Good F) (hG:∀ x,Good (G x)):Good (fun s=>(F s).bind G):=⟨hF.on.bind hG,hF.fin.bind hG⟩
theorem GoodOn.mono {α:Type} {c d:Tok->Prop} {F:PS->Ans α} (h:GoodOn c F) (hd:∀ t,d t->c t):GoodOn d F :=
 ⟨fun t L full hc=>h.stay t L full (hd t hc),fun v vs vs' full hc=>h.here v vs vs' full (hd v hc),fun u us v vs vs' full hc=>h.same u us v vs vs' full (hd u hc),fun u us v vs n full hc=>h.cut u us v vs n full (hd u hc)⟩
/-- what comes decides -/
theorem GoodOn.head {α:Type} {d:Tok->Prop} {F:Tok->PS->Ans α} (h:∀ t,d t->GoodOn (fun x=>x=t) (F t)):GoodOn d (fun s=>F s.hd s) :=
 ⟨fun t L full hc=>(h t hc).stay t L full rfl,fun v vs vs' full hc=>(h v hc).here v vs vs' full rfl,fun u us v vs vs' full hc=>(h u hc).same u us v vs vs' full rfl,fun u us v vs n full hc=>(h u hc).cut u us v vs n full rfl⟩
theorem GoodOn.ite {α:Type} {d:Tok->Prop} {F G:PS->Ans α} (c:Tok->Prop) [∀ t,Decidable (c t)] (hF:GoodOn (fun t=>d t∧c t) F) (hG:GoodOn (fun t=>d t∧¬ c t) G):GoodOn d (fun s=>if c s.hd then F s else G s):=by
 refine GoodOn.head (F:=fun t s=>if c t then F s else G s) fun t hd=>?_
 by_cases h:c t
 · have e:(fun s=>if c t then F s else G s)=F:=funext fun s=>if_pos h
   show GoodOn _ (fun s=>if c t then F s else G s)
   rw [e]
   exact hF.mono (fun x hx=>by rw [hx];exact ⟨hd,h⟩)
 · have e:(fun s=>if c t then F s else G s)=G:=funext fun s=>if_neg h
   show GoodOn _ (fun s=>if c t then F s else G s)
   rw [e]
   exact hG.mono (fun x hx=>by rw [hx];exact ⟨hd,h⟩)
theorem zhy {α:Type} {F G:PS->Ans α} (c:Tok->Prop) [∀ t,Decidable (c t)] (hc:∀ n,¬ c (endT n)) (hF:GoodOn c F) (hG:Good G):Good (fun s=>if c s.hd then F s else G s) :=
 ⟨GoodOn.ite c (hF.mono fun t h=>h.2) (hG.on.mono fun t _=>trivial),fun n full=>by
  show (if c (endT n) then F ⟨[endT n],full⟩ else G ⟨[endT n],full⟩)=_∨_
  rw [if_neg (hc n)]
  rcases hG.fin n full with h|⟨x,f,h⟩
  · exact Or.inl h
  · refine Or.inr ⟨x,f,?_⟩
    show (if c (endT n) then F ⟨[endT n],full⟩ else G ⟨[endT n],full⟩)=_
    rw [if_neg (hc n)]
    exact h⟩
theorem za0 {α:Type} (x:α):Good (fun s=>(.ok x s:Ans α)) :=
 ⟨⟨fun t L full _ hL=>Or.inr ⟨x,t::L,full,rfl,Suf.refl _,hL⟩,fun v vs vs' full _ _ _=>Or.inr (Or.inl ⟨x,full,rfl,rfl⟩),fun u us v vs vs' full _ _ _=>Or.inr (Or.inl ⟨x,u::us,full,Suf.refl _,rfl,rfl⟩),fun u us v vs n full _ _=>Or.inr (Or.inl ⟨x,u::us,full,by simp,Suf.refl _,rfl,rfl⟩)⟩,fun n full=>Or.inr ⟨x,full,rfl⟩⟩
theorem on_bad {α:Type} {c:Tok->Prop} {e:Int} (he:code e):GoodOn c (fun s=>(s.bad e:Ans α)) :=
 ⟨fun t L full _ _=>Or.inl ⟨e,t.at_,rfl,by simp [ats],he⟩,fun v vs vs' full _ _ _=>Or.inl ⟨e,rfl,rfl⟩,fun u us v vs vs' full _ _ _=>Or.inl ⟨e,u.at_,by simp [ats],rfl,rfl⟩,fun u us v vs n full _ _=>Or.inl ⟨e,u.at_,by simp [ats],rfl,rfl⟩⟩
theorem zg3 {α:Type} : Good (fun s=>(s.bad 40:Ans α)):=⟨on_bad (Or.inl rfl),fun _ _=>Or.inl rfl⟩
/-- no end -/
def NE (t:Tok):Prop:=¬ (t.kind=5∧t.text=[])
theorem zek:GoodOn NE PS.take:=by
 have h1:∀ (t:Tok) L,PS.take ⟨t::L,true⟩=.no 42 t.at_:=fun t L=>rfl
 have h2:∀ (t:Tok) L,PS.take ⟨t::L,false⟩=.ok t ⟨L,false⟩:=fun t L=>rfl
 constructor
 · intro t L full hc hL
   cases full
   · exact Or.inr ⟨t,L,false,h2 t L,Suf.cons t (Suf.refl L),hL.tail hc⟩
   · exact Or.inl ⟨42,t.at_,h1 t L,by simp [ats],Or.inr (Or.inr rfl)⟩
 · intro v vs vs' full hc hv hv'
   cases full
   · exact Or.inr (Or.inr ⟨Or.inr ⟨v,vs,false,h2 v vs,Suf.refl _,hv⟩,Or.inr ⟨v,vs',false,h2 v vs',Suf.refl _,hv'⟩⟩)
   · exact Or.inl ⟨42,h1 v vs,h1 v vs'⟩
 · intro u us v vs vs' full hc hv hv'
   cases full
   · exact Or.inr (Or.inl ⟨u,us,false,Suf.cons u (Suf.refl us),h2 _ _,h2 _ _⟩)
   · exact Or.inl ⟨42,u.at_,by simp [ats],h1 _ _,h1 _ _⟩
 · intro u us v vs n full hc hv
   cases full
   · cases us with
     | nil=>exact Or.inr (Or.inr (Or.inr ⟨u,false,h2 u [endT n]⟩))
     | cons u2 us2=>exact Or.inr (Or.inl ⟨u,u2::us2,false,by simp,Suf.cons u (Suf.refl _),h2 _ _,h2 _ _⟩)
   · exact Or.inl ⟨42,u.at_,by simp [ats],h1 _ _,h1 _ _⟩
theorem zdt {α:Type} {F G:PS->Ans α} (c:Tok->Prop) [∀ t,Decidable (c t)] (hF:Good F) (hG:Good G):Good (fun s=>if c s.hd then F s else G s) :=
 ⟨GoodOn.ite c (hF.on.mono fun _ _=>trivial) (hG.on.mono fun _ _=>trivial),fun n full=>by
  by_cases h:c (endT n)
  · have e:(if c (endT n) then F ⟨[endT n],full⟩ else G ⟨[endT n],full⟩)=F ⟨[endT n],full⟩:=if_pos h
    have hx:=hF.fin n full
    rw [<- e] at hx
    exact hx
  · have e:(if c (endT n) then F ⟨[endT n],full⟩ else G ⟨[endT n],full⟩)=G ⟨[endT n],full⟩:=if_neg h
    have hx:=hG.fin n full
    rw [<- e] at hx
    exact hx⟩
theorem zhl {α:Type} {F:PS->Ans α} (a b:Nat) (h:Good F):Good (fun s=>F (s.room a b)):=by
 have e:∀ L full,(⟨L,full⟩:PS).room a b=⟨L,if a=b then true else full⟩:=fun L full=>by
  unfold PS.room
  by_cases h:a=b
  · rw [if_pos h,if_pos h]
  · rw [if_neg h,if_neg h]
 refine ⟨⟨?_,?_,?_,?_⟩,?_⟩
 · intro t L full hc hL;show (∃ e' a',F (PS.room _ a b)=_∧_)∨(∃ x ws f,F (PS.room _ a b)=_∧_);rw [e];exact h.on.stay t L _ hc hL
 · intro v vs vs' full hc h1 h2
   have:=h.on.here v vs vs' (if a=b then true else full) hc h1 h2
   rw [<- e,<- e] at this;exact this
 · intro u us v vs vs' full hc h1 h2
   have:=h.on.same u us v vs vs' (if a=b then true else full) hc h1 h2
   rw [<- e,<- e] at this;exact this
 · intro u us v vs n full hc h1
   have:=h.on.cut u us v vs n (if a=b then true else full) hc h1
   rw [<- e,<- e] at this;exact this
 · intro n full
   have:=h.fin n (if a=b then true else full)
   rw [<- e] at this;exact this
theorem zgd {t:Tok} {x:List UInt8} (hx:x≠[]) (h:(t.text==x)=true):NE t:=fun e=>by
 have h1:t.text=x:=by simpa using h
 rw [e.2] at h1
 exact hx h1.symm
theorem zfn {x:List UInt8} (hx:x≠[]) (n:Nat):¬ ((endT n).text==x)=true:=fun h=>by
 have h1:([]:List UInt8)=x:=by simpa [endT] using h
 exact hx h1.symm
/-- where a word comes, what takes it is good -/
theorem zda {α:Type} {F G:PS->Ans α} (x:List UInt8) (hx:x≠[]) (hF:GoodOn NE F) (hG:Good G):Good (fun s=>if s.sees x=true then F s else G s) :=
 zhy (fun t=>(t.text==x)=true) (zfn hx) (hF.mono fun _ h=>zgd hx h) hG
theorem zbc (x:List UInt8) (hx:x≠[]):Good (fun s=>s.want x):=zda x hx (zek.bind fun _=>za0 ()) zg3
theorem zlw (k:Int) (hk:k≠5):Good (fun s=>s.ofKind k) :=
 zhy (fun t=>t.kind=k) (fun _ h=>hk h.symm) (zek.mono fun _ h e=>hk (h ▸ e.1)) zg3
theorem ze9:Good zdj:=zlw 1 (by decide)
theorem good_ref:Good refP:=ze9.bind fun _=>za0 _
theorem zid:Good numberP:=(zlw 3 (by decide)).bind fun _=>za0 _
theorem zhv (k:Int):GoodOn NE (aloneP k):=zek.bind fun _=>za0 _
theorem zhx:Good valueP:=zdt (fun t=>t.kind=1) good_ref zid
theorem zj3:Good zbv:=zdt (fun t=>t.num<0) zg3 zid
theorem zfm (uns:Bool) (a:Nat):∀ l:List (Int × Bool × List UInt8),(∀ b∈l,b.2.2≠[])->Good (za5 uns a l)
 | []=>fun _=>zg3
 | b::l=>fun h=>by
  have ih:=zfm uns a l (fun x hx=>h x (List.mem_cons_of_mem _ hx))
  have e:za5 uns a (b::l)=fun s=>if (b.2.1==uns&&s.hd.text==b.2.2)=true then s.take.bind (fun _ s=>.ok (.node b.1 [] 0 a []) s) else za5 uns a l s:=by
   funext s
   unfold za5
   by_cases hc:(b.2.1==uns&&s.hd.text==b.2.2)=true
   · rw [if_pos hc,List.find?_cons_of_pos (by exact hc)]
   · rw [if_neg hc,List.find?_cons_of_neg (by exact hc)]
  rw [e]
  refine zhy (fun t=>(b.2.1==uns&&t.text==b.2.2)=true) (fun n hn=>?_) ((zek.bind fun _=>za0 _).mono fun t ht=>?_) ih
  · rw [Bool.and_eq_true] at hn
    exact zfn (h b (List.mem_cons_self ..)) n hn.2
  · rw [Bool.and_eq_true] at ht
    exact zgd (h b (List.mem_cons_self ..)) ht.2
theorem zhq:∀ b∈zau,b.2.2≠[]:=by
 intro b hb
 simp only [zau,List.mem_cons,List.not_mem_nil,or_false] at hb
 rcases hb with rfl|rfl|rfl|rfl|rfl|rfl|rfl <;> decide
theorem bareP_eq (s:PS):bareP s=if s.hd.kind=1 then refP s else if (s.hd.text==za4)=true then s.take.bind (fun _ s'=>za5 true s.hd.at_ zau s') else za5 false s.hd.at_ zau s:=by
 unfold bareP
 by_cases h:s.hd.kind=1
 · rw [if_pos h,if_pos h]
 · rw [if_neg h,if_neg h]
   have e:s.sees za4=(s.hd.text==za4):=rfl
   cases hu:(s.hd.text==za4)
   · rw [if_neg (by simp)]
     show Ans.bind (if s.sees za4=true then _ else _) _=_
     rw [e,hu,if_neg (by simp)]
     rfl
   · rw [if_pos rfl]
     show Ans.bind (if s.sees za4=true then _ else _) _=_
     rw [e,hu,if_pos rfl]
     cases s.take <;> rfl
theorem zlx:Good bareP:=by
 have e:bareP=fun s=>(fun (t:Tok) (s:PS)=>if t.kind=1 then refP s else if (t.text==za4)=true then s.take.bind (fun _ s'=>za5 true t.at_ zau s') else za5 false t.at_ zau s) s.hd s:=funext bareP_eq
 rw [e]
 refine ⟨GoodOn.head (F:=fun (t:Tok) (s:PS)=>if t.kind=1 then refP s else if (t.text==za4)=true then s.take.bind (fun _ s'=>za5 true t.at_ zau s') else za5 false t.at_ zau s) fun t _=>?_,fun n full=>?_⟩
 · by_cases h1:t.kind=1
   · have e1:(fun s=>if t.kind=1 then refP s else if (t.text==za4)=true then s.take.bind (fun _ s'=>za5 true t.at_ zau s') else za5 false t.at_ zau s)=refP:=funext fun s=>if_pos h1
     show GoodOn _ (fun s=>_);rw [e1];exact good_ref.on.mono fun _ _=>trivial
   · by_cases h2:(t.text==za4)=true
     · have e1:(fun s=>if t.kind=1 then refP s else if (t.text==za4)=true then s.take.bind (fun _ s'=>za5 true t.at_ zau s') else za5 false t.at_ zau s)=fun s=>s.take.bind (fun _ s'=>za5 true t.at_ zau s'):=funext fun s=>by rw [if_neg h1,if_pos h2]
       show GoodOn _ (fun s=>_);rw [e1]
       exact (zek.bind fun _=>zfm true t.at_ zau zhq).mono fun x hx=>by rw [hx];exact zgd (by decide) h2
     · have e1:(fun s=>if t.kind=1 then refP s else if (t.text==za4)=true then s.take.bind (fun _ s'=>za5 true t.at_ zau s') else za5 false t.at_ zau s)=fun s=>za5 false t.at_ zau s:=funext fun s=>by rw [if_neg h1,if_neg h2]
       show GoodOn _ (fun s=>_);rw [e1]
       exact (zfm false t.at_ zau zhq).on.mono fun _ _=>trivial
 · exact (zfm false n zau zhq).fin n full
theorem zhm {α:Type} {F G:PS->Ans α} (h:Good G) (e:∀ s,F s=G s):Good F:=by rw [show F=G from funext e];exact h
theorem on_eq {α:Type} {c:Tok->Prop} {F G:PS->Ans α} (h:GoodOn c G) (e:∀ s,F s=G s):GoodOn c F:=by rw [show F=G from funext e];exact h
/-- where one more would be too many, what follows does not matter -/
theorem ziv {s:PS} {a:Nat} : (s.room a a).full=true:=by unfold PS.room;rw [if_pos rfl]
theorem zi1 {F:PS->Ans Tree} (hF:Good F) (hS:zbx F) (ws:List (List UInt8)):∀ (f:Nat) (acc:List Tree),acc.length+f=66->acc.length<=64->Good (zck F ws f acc)
 | 0,acc=>fun h1 h2=>by omega
 | f+1,acc=>fun h1 h2=>by
  have hb:Good (fun s=>(F (s.room acc.length 64)).bind fun t s=>zck F ws f (acc++[t]) s):=by
   rcases Nat.lt_or_ge acc.length 64 with h3|h3
   · exact (zhl acc.length 64 hF).bind fun t=>zi1 hF hS ws f (acc++[t]) (by simp;omega) (by simp;omega)
   · have h4:acc.length=64:=by omega
     refine zhm ((zhl acc.length 64 hF).bind (G:=fun _ s=>Ans.ok [] s) fun _=>za0 _) fun s=>?_
     rw [h4]
     obtain ⟨e,a,h⟩:=hS (s.room 64 64) ziv
     rw [h];rfl
  exact zhm (zdt (fun t=>(acc.isEmpty||!(ws.any fun x=>t.text==x))=true) hb (za0 acc)) fun s=>by rw [zck];rfl
theorem good_more {F:PS->Ans Tree} (hF:Good F) (most:Nat) (hm:most<=64):∀ (f:Nat) (acc:List Tree),acc.length+f=67->acc.length<=most->Good (zeu F most f acc)
 | 0,acc=>fun h1 h2=>by omega
 | f+1,acc=>fun h1 h2=>by
  have e:∀ L full,(⟨L,full⟩:PS).room acc.length most=⟨L,if acc.length=most then true else full⟩:=fun L full=>by
   unfold PS.room
   by_cases h:acc.length=most
   · rw [if_pos h,if_pos h]
   · rw [if_neg h,if_neg h]
  have hr:GoodOn NE (fun s=>(s.room acc.length most).take):=by
   refine ⟨?_,?_,?_,?_⟩
   · intro t L full hc hL;show (∃ e' a',(PS.room _ _ _).take=_∧_)∨(∃ x ws f,(PS.room _ _ _).take=_∧_);rw [e];exact zek.stay t L _ hc hL
   · intro v vs vs' full hc h1 h2
     have:=zek.here v vs vs' (if acc.length=most then true else full) hc h1 h2
     rw [<- e,<- e] at this;exact this
   · intro u us v vs vs' full hc h1 h2
     have:=zek.same u us v vs vs' (if acc.length=most then true else full) hc h1 h2
     rw [<- e,<- e] at this;exact this
   · intro u us v vs n full hc h1
     have:=zek.cut u us v vs n (if acc.length=most then true else full) hc h1
     rw [<- e,<- e] at this;exact this
  have hb:GoodOn NE (fun s=>(s.room acc.length most).take.bind fun _ s=>(F s).bind fun t s=>zeu F most f (acc++[t]) s):=by
   rcases Nat.lt_or_ge acc.length most with h3|h3
   · exact hr.bind fun _=>hF.bind fun t=>good_more hF most hm f (acc++[t]) (by simp;omega) (by simp;omega)
   · have h4:acc.length=most:=by omega
     refine on_eq (hr.bind (G:=fun _ s=>Ans.ok [] s) fun _=>za0 _) fun s=>?_
     rw [h4]
     obtain ⟨e,a,h⟩:=zdg (s.room most most) ziv
     rw [h];rfl
  exact zhm (zda [44] (by simp) hb (za0 acc)) fun s=>by rw [zeu]
theorem zlv {F:PS->Ans Tree} (hF:Good F) (most:Nat) (h1:1<=most) (hm:most<=64):Good (zd7 F most):=hF.bind fun t=>good_more hF most hm 66 [t] (by simp) (by simpa using h1)
theorem good_member:Good memberP:=ze9.bind fun n=>(zbc [61] (by simp)).bind fun _=>zhx.bind fun _=>za0 _
theorem good_members:Good membersP:=(zbc [123] (by simp)).bind fun _=>(zlv good_member 64 (by omega) (by omega)).bind fun l=>(zbc [125] (by simp)).bind fun _=>za0 _
theorem zjl (k:Int) (of:Tree):Good (sizedP k of):=by
 refine ze9.bind fun n=>?_
 have h3:Good (fun s=>if (k==25||k==26)=true then (s.bad 40:Ans Tree) else .ok (named 14 n [of]) s):=zdt (fun _=>(k==25||k==26)=true) zg3 (za0 _)
 have hl:Good (fun s=>(s.want [60]).bind fun _ s=>if s.sees [62] then (s.want [62]).bind fun _ s=>Ans.ok (named 16 n [of]) s else (valueP s).bind fun v s=>(s.want [62]).bind fun _ s=>.ok (named 16 n [of,v]) s):=by
  refine (zbc [60] (by simp)).bind fun _=>?_
  exact zdt (fun t=>(t.text==[62])=true) ((zbc [62] (by simp)).bind fun _=>za0 _) (zhx.bind fun v=>(zbc [62] (by simp)).bind fun _=>za0 _)
 have h2:=zdt (fun t=>(t.text==[60])=true) hl h3
 have h1:GoodOn (fun t=>(t.text==[91]&&k != 26)=true) (fun s=>s.take.bind fun _ s=>(valueP s).bind fun v s=>(s.want [93]).bind fun _ s=>Ans.ok (named 15 n [of,v]) s):=by
  refine (zek.bind fun _=>zhx.bind fun v=>(zbc [93] (by simp)).bind fun _=>za0 _).mono fun t ht=>?_
  rw [Bool.and_eq_true] at ht
  exact zgd (by simp) ht.1
 exact zhy (fun t=>(t.text==[91]&&k != 26)=true) (fun n hn=>by rw [Bool.and_eq_true] at hn;exact zfn (by simp) n hn.1) h1 h2
theorem good_written {B:PS->Ans Tree} (hB:GoodOn NE B):Good (zce B):=by
 refine zhy (fun t=>(t.text==zcj||t.text==za6||t.text==zcm)=true) (fun n hn=>?_) (hB.mono fun t ht=>?_) zlx
 · rw [Bool.or_eq_true,Bool.or_eq_true] at hn
   rcases hn with (h|h)|h
   · exact zfn (by decide) n h
   · exact zfn (by decide) n h
   · exact zfn (by decide) n h
 · rw [Bool.or_eq_true,Bool.or_eq_true] at ht
   rcases ht with (h|h)|h
   · exact zgd (by decide) h
   · exact zgd (by decide) h
   · exact zgd (by decide) h
theorem zh6 {B:PS->Ans Tree} (hB:GoodOn NE B):Good (zbf B):=by
 refine zda zef (by decide) ((zhv 25).bind fun t=>zjl 25 t) ?_
 refine zda zed (by decide) ((zhv 26).bind fun t=>zjl 26 t) ?_
 refine (good_written hB).bind fun of=>?_
 exact zda [42] (by simp) (zek.bind fun _=>ze9.bind fun _=>za0 _) (zjl of.kind of)
theorem zha {B:PS->Ans Tree} (hB:GoodOn NE B):Good (za3 B):=zda zcn (by decide) (zhv 13) (zh6 hB)
theorem zjm {B:PS->Ans Tree} (hB:GoodOn NE B):Good (zbi B):=(zha hB).bind fun t=>(zbc [59] (by simp)).bind fun _=>za0 _
theorem good_fields {B:PS->Ans Tree} (hB:GoodOn NE B) (hS:zbx B):Good (fieldsP B):=(zbc [123] (by simp)).bind fun _=>(zi1 (zjm hB) (zhf hS) [[125]] 66 [] (by simp) (by simp)).bind fun l=>(zbc [125] (by simp)).bind fun _=>za0 _
theorem znr:∀ (f:Nat) (acc:List Tree),acc.length+f=66->acc.length<=64->Good (zcc f acc)
 | 0,acc=>fun h1 h2=>by omega
 | f+1,acc=>fun h1 h2=>by
  have hb:Good (fun s=>((s.room acc.length 64).want zc1).bind fun _ s=>(valueP s).bind fun v s=>(s.want [58]).bind fun _ s=>zcc f (acc++[v]) s):=by
   have hw:=zhl acc.length 64 (zbc zc1 (by decide))
   rcases Nat.lt_or_ge acc.length 64 with h3|h3
   · exact hw.bind fun _=>zhx.bind fun v=>(zbc [58] (by simp)).bind fun _=>znr f (acc++[v]) (by simp;omega) (by simp;omega)
   · have h4:acc.length=64:=by omega
     refine zhm (hw.bind (G:=fun _ s=>Ans.ok [] s) fun _=>za0 _) fun s=>?_
     rw [h4]
     obtain ⟨e,a,h⟩:=zeq zc1 (s.room 64 64) ziv
     have h' : (s.room 64 64).want zc1=.no e a:=h
     rw [h'];rfl
  exact zhm (zdt (fun t=>(acc.isEmpty||t.text==zc1)=true) hb (za0 acc)) fun s=>by rw [zcc];rfl
theorem good_arm {B:PS->Ans Tree} (hB:GoodOn NE B):Good (armP B):=by
 have hx:∀ a,Good (fun s=>(zcc 66 [] s).bind fun l s=>(zbi B s).bind fun t s=>Ans.ok (Tree.node 8 [] 0 a (l++[t])) s):=fun a=>(znr 66 [] (by simp) (by simp)).bind fun l=>(zjm hB).bind fun _=>za0 _
 refine ⟨GoodOn.head (F:=fun t s=>(zcc 66 [] s).bind fun l s=>(zbi B s).bind fun t' s=>Ans.ok (Tree.node 8 [] 0 t.at_ (l++[t'])) s) fun t _=>(hx t.at_).on.mono fun _ _=>trivial,fun n full=>(hx n).fin n full⟩
theorem zmu {B:PS->Ans Tree} (hB:GoodOn NE B):GoodOn NE (zcw B):=(zhv 9).bind fun e=>(zbc [58] (by simp)).bind fun _=>(zjm hB).bind fun t=>by
 obtain ⟨k,n,m,i,ks⟩:=e
 exact za0 _
theorem good_choice {B:PS->Ans Tree} (hB:GoodOn NE B):Good (choiceP B):=by
 refine zhm ?_ (zny B)
 refine (zbc zfd (by decide)).bind fun _=>(zbc [40] (by simp)).bind fun _=>(zha hB).bind fun d_=>(zbc [41] (by simp)).bind fun _=>(zbc [123] (by simp)).bind fun _=>(zi1 (good_arm hB) (zjb B) [za9,[125]] 66 [] (by simp) (by simp)).bind fun l=>?_
 exact zda za9 (by decide) ((zmu hB).bind fun o=>(zbc [125] (by simp)).bind fun _=>za0 _) ((zbc [125] (by simp)).bind fun _=>za0 _)
theorem zoc:∀ (n:Nat) (b:Bool),GoodOn NE (zbz n b)
 | 0,b=>on_bad (Or.inr (Or.inl rfl))
 | n+1,b=>by
  refine zek.bind fun word=>?_
  have hn:Good (fun s=>if b=true then (zdj s).bind fun n s=>Ans.ok (n.text,n.at_) s else .ok ([],word.at_) s):=zdt (fun _=>b=true) (ze9.bind fun _=>za0 _) (za0 _)
  refine hn.bind fun na=>?_
  refine zdt (fun _=>word.text=zcj) (good_members.bind fun _=>za0 _) ?_
  exact zdt (fun _=>word.text=za6) ((good_fields (zoc n false) (zgt n false)).bind fun _=>za0 _) ((good_choice (zoc n false)).bind fun _=>za0 _)
theorem zll (k:Int) {F:PS->Ans Tree} (hF:Good F) (hS:zbx F):GoodOn NE (numberedP k F) :=
 zek.bind fun _=>ze9.bind fun n=>(zbc [123] (by simp)).bind fun _=>(zi1 hF hS [[125]] 66 [] (by simp) (by simp)).bind fun l=>(zbc [125] (by simp)).bind fun _=>(zbc [61] (by simp)).bind fun _=>zj3.bind fun _=>za0 _
theorem good_result:Good resultP:=zda zcn (by decide) (zhv 13) zlx
theorem zmv:Good argumentsP:=zda zcn (by decide) ((zhv 13).bind fun _=>za0 _) (zlv zlx 4 (by omega) (by omega))
theorem zmt:Good zcf:=good_result.bind fun r=>ze9.bind fun n=>(zbc [40] (by simp)).bind fun _=>zmv.bind fun l=>(zbc [41] (by simp)).bind fun _=>(zbc [61] (by simp)).bind fun _=>zj3.bind fun v=>(zbc [59] (by simp)).bind fun _=>za0 _
theorem good_version:Good versionP:=zda zd4 (by decide) ((zll 11 zmt zfe).bind fun t=>(zbc [59] (by simp)).bind fun _=>za0 _) zg3
theorem zhn:Good zbn:=by
 refine zda zdz (by decide) (((zbc zdz (by decide)).bind fun _=>ze9.bind fun n=>(zbc [61] (by simp)).bind fun _=>zid.bind fun _=>za0 _).on.mono fun _ _=>trivial) ?_
 refine zda zd5 (by decide) (zek.bind fun t=>(zh6 (zoc 8 false)).bind fun _=>za0 _) ?_
 refine zhy (fun t=>(t.text==zcj||t.text==za6||t.text==zcm)=true) (fun n hn=>?_) ((zoc 8 true).mono fun t ht=>?_) ?_
 · rw [Bool.or_eq_true,Bool.or_eq_true] at hn
   rcases hn with (h|h)|h
   · exact zfn (by decide) n h
   · exact zfn (by decide) n h
   · exact zfn (by decide) n h
 · rw [Bool.or_eq_true,Bool.or_eq_true] at ht
   rcases ht with (h|h)|h
   · exact zgd (by decide) h
   · exact zgd (by decide) h
   · exact zgd (by decide) h
 · exact zda zee (by decide) (zll 10 good_version zga) zg3
theorem zlu:∀ (f:Nat) (acc:List Tree),acc.length+f=102->acc.length<=100->Good (zbb f acc)
 | 0,acc=>fun h1 h2=>by omega
 | f+1,acc=>fun h1 h2=>by
  have hb:Good (fun s=>(zbn (s.room acc.length 100)).bind fun t s=>(s.want [59]).bind fun _ s=>zbb f (acc++[t]) s):=by
   rcases Nat.lt_or_ge acc.length 100 with h3|h3
   · exact (zhl acc.length 100 zhn).bind fun t=>(zbc [59] (by simp)).bind fun _=>zlu f (acc++[t]) (by simp;omega) (by simp;omega)
   · have h4:acc.length=100:=by omega
     refine zhm ((zhl acc.length 100 zhn).bind (G:=fun _ s=>Ans.ok [] s) fun _=>za0 _) fun s=>?_
     rw [h4]
     obtain ⟨e,a,h⟩:=zer (s.room 100 100) ziv
     rw [h];rfl
  exact zhm (zdt (fun t=>t.kind=5) (za0 acc) hb) fun s=>by rw [zbb]
theorem zi0:Good (zbb 102 []):=zlu 102 [] (by simp) (by simp)
theorem step_same2 {l l' : List UInt8} {i j p:Nat} {t:Option Tok} (hi:i<l.length) (hs:zcd l i=.go t j) (ha:∀ k,k<p->l'.getD k 0=l.getD k 0) (hp:p<=l'.length) (hj:j<=p)
 (hb:runB (l.getD p 0)=false->runB (l'.getD p 0)=false):zcd l' i=.go t j:=by
 have hlt:=zgb hi hs
 have ei:l'.getD i 0=l.getD i 0:=ha i (by omega)
 have stop:runB (l.getD j 0)=false->runB (l'.getD j 0)=false:=fun h=>by
  rcases Nat.lt_or_ge j p with h1|h1
  · rw [ha j h1];exact h
  · obtain rfl:j=p:=by omega
    exact hb h
 have en:zbj l' i=zbj l i:=by unfold zbj;rw [ei]
 unfold zcd at hs
 unfold zcd
 rw [ei,en]
 split at hs
 · rename_i h;rw [if_pos h];exact hs
 rename_i h;rw [if_neg h]
 split at hs
 · rename_i h
   split at hs
   · cases hs
   · rename_i hc
     cases hs
     obtain ⟨h1,h2,h3,h4,h5⟩:=zme hc
     rw [if_pos ⟨h.1,by rw [ha (i+1) (by omega)];exact h.2⟩]
     rw [cend_is (l:=l') (i:=i+2) (j:=j) h1 (by rw [ha _ (by omega)];exact h3) (by rw [ha _ (by omega)];exact h4) fun k h6 h7=>by
      rw [ha k (by omega),ha (k+1) (by omega)];exact h5 k h6 h7]
 split at hs
 · rename_i hc hl
   rw [if_neg (fun h=>(zg0 hl).2.1 h.1),if_pos hl]
   split at hs
   · cases hs
   · rename_i h32
     have hj2:zbd l i=j:=by cases hs;rfl
     have e1:zbd l' i=j:=zgw (by omega) (fun k hk=>ha k (by omega)) hj2 (stop (by rw [<- hj2];exact zfp (by omega)))
     rw [hj2] at hs h32
     rw [e1,if_neg h32,zhs (fun k hk=>ha k (by omega)) (by omega) (by omega)]
     exact hs
 split at hs
 · rename_i hc hl hd
   have h45:zbj l i<j:=by
    have hn:zbj l i<l.length:=by
     rcases Nat.lt_or_ge (zbj l i) l.length with h|h
     · exact h
     · rw [zff h] at hd;cases hd
    have h1:=zei (zfz hd).2.2.2.2.2
    have h2:=zeh (l:=l) (i:=zbj l i+1) (by omega)
    split at hs
    · cases hs
    · cases hs;omega
   have hn47:¬ (l.getD i 0=47∧l'.getD (i+1) 0=42):=fun h=>by
    have:zbj l i=i:=by unfold zbj;rw [h.1];rfl
    rw [this,h.1] at hd;cases hd
   rw [if_neg hn47,if_neg hl,ha _ (by omega),if_pos hd]
   split at hs
   · cases hs
   · rename_i n hn
     have hj2:zbd l (zbj l i)=j:=by cases hs;rfl
     have hi2:zbj l i<=l.length:=by omega
     have e1:zbd l' (zbj l i)=j:=zgw (by omega) (fun k hk=>ha k (by omega)) hj2 (stop (by rw [<- hj2];exact zfp hi2))
     rw [hj2] at hn hs
     rw [e1,zhs (fun k hk=>ha k (by omega)) (by omega) (by omega),hn]
     exact hs
 split at hs
 · rename_i hc hl hd hsg
   have hb2:=zio hsg
   have hn:zbj l i=i:=by unfold zbj;rw [if_neg hb2.2.2.2.1]
   rw [if_neg (fun h=>hb2.2.1 h.1),if_neg hl,hn,ei,if_neg (by rw [hb2.2.2.2.2.1];decide),if_pos hsg]
   have hj2:i+1=j:=by cases hs;rfl
   rw [zhs (fun k hk=>ha k (by omega)) (by omega) (by omega)]
   exact hs
 · cases hs
theorem Reach.same2 {l l' : List UInt8} {i p:Nat} {ts us:List Tok} (h:Reach l i ts p us) (ha:∀ k,k<p->l'.getD k 0=l.getD k 0) (hp:p<=l'.length) (hb:runB (l.getD p 0)=false->runB (l'.getD p 0)=false):Reach l' i ts p us:=by
 induction h with
 | refl=>exact .refl
 | step h hs hr ih =>
  have h1:=zgb h hs
  have h2:=hr.le
  exact .step (by omega) (step_same2 h hs ha hp h2 hb) (ih ha hp hb)
theorem step_at {l:List UInt8} {i j:Nat} {t:Tok} (hs:zcd l i=.go (some t) j):t.at_=i:=by
 unfold zcd at hs
 repeat' split at hs
 all_goals cases hs
 all_goals rfl
theorem zju {l:List UInt8} {i:Nat} {ts vs:List Tok} {R:Res} (h:Scans l i ts R) (hR:R=.ok vs):∃ r,vs=ts++r∧r≠[]:=by
 induction h with
 | done _=>cases hR;exact ⟨_,rfl,by simp⟩
 | err _ _=>cases hR
 | go _ _ _ ih =>
  obtain ⟨r,h1,h2⟩:=ih hR
  exact ⟨_,by rw [h1,List.append_assoc],by simp [h2]⟩
theorem Reach.forth {l:List UInt8} {i k:Nat} {ts us:List Tok} {R:Res} (h:Reach l i ts k us) (hs:Scans l i ts R):Scans l k us R:=by
 induction h with
 | refl=>exact hs
 | step h1 h2 _ ih =>
  cases hs with
  | done h=>omega
  | err h h3=>rw [h2] at h3;cases h3
  | go h h3 h4=>rw [h2] at h3;cases h3;exact ih h4
theorem reach_ats {l:List UInt8} {i k:Nat} {ts us:List Tok} (h:Reach l i ts k us) (ha:∀ t∈ts,t.at_<i):∀ t∈us,t.at_<k:=by
 induction h with
 | refl=>exact ha
 | @step i ts o j k us h1 h2 _ ih =>
  refine ih fun t ht=>?_
  have h3:=zgb h1 h2
  rw [List.mem_append] at ht
  rcases ht with ht|ht
  · have:=ha t ht;omega
  · cases o with
    | none=>simp at ht
    | some x =>
     simp at ht
     have:=step_at h2
     rw [ht]
     omega
theorem reach_le {l:List UInt8} {i k:Nat} {ts us:List Tok} (h:Reach l i ts k us) (hi:i<=l.length):k<=l.length:=by
 induction h with
 | refl=>exact hi
 | step h1 h2 _ ih=>exact ih (zgb h1 h2).2
theorem zes {l:List UInt8} {i:Nat} {ts vs:List Tok} {R:Res} (h:Scans l i ts R):∀ (us ws:List Tok) (v:Tok),R=.ok vs->i<=l.length->vs=us++v::ws->ts.length<=us.length->Reach l i ts v.at_ us:=by
 induction h with
 | @done i0 ts0 h =>
  intro us ws v hR hi he hl
  cases hR
  have h1:=congrArg List.length he
  simp at h1
  obtain ⟨rfl,h2⟩:=List.append_inj he (by omega)
  simp at h2
  obtain ⟨rfl,_⟩:=h2
  have:i0=l.length:=by omega
  subst this
  exact .refl
 | err _ _=>intro us ws v hR;cases hR
 | @go i0 ts0 t j R0 h1 h2 h3 ih =>
  intro us ws v hR hi he hl
  have h4:=zgb h1 h2
  rcases Nat.lt_or_ge us.length (ts0++t.toList).length with h5|h5
  · cases t with
    | none=>simp at h5;omega
    | some x =>
     simp at h5
     obtain ⟨r,h6,_⟩:=zju h3 hR
     rw [he] at h6
     have h7:us=ts0∧v::ws=x::r:=List.append_inj (by rw [h6];simp) (by omega)
     obtain ⟨rfl,h8⟩:=h7
     cases h8
     rw [step_at h2]
     exact .refl
  · exact .step h1 h2 (ih us ws v hR h4.2 he h5)
theorem EndL.suffix {a b:List Tok} (h:EndL (a++b)) (hb:b≠[]):EndL b:=by
 obtain ⟨c,n,h⟩:=h
 rcases List.eq_nil_or_concat b with rfl|⟨b',x,rfl⟩
 · exact absurd rfl hb
 · rw [List.concat_eq_append] at h ⊢
   rw [<- List.append_assoc] at h
   obtain ⟨_,h2⟩:=List.append_inj' h rfl
   cases h2
   exact ⟨b',n,rfl⟩
theorem places {l:List UInt8} {ts:List Tok} {e:Int} {n:Nat} (hs:zc7 l=.ok ts) (hp:zbb 102 [] ⟨ts,false⟩=.no e n) :
 ∃ us v vs,ts=us++v::vs∧v.at_=n∧(∀ x∈us,x.at_≠n)∧code e∧n<=l.length∧(zch (l.take n)=.err 40 n∨∃ t,zch (l.take n)=.ok t) ∧
  (∀ w ws,vs=w::ws->w.at_<=l.length∧∀ rest:List UInt8,(∃ ts2,zc7 (l.take w.at_++[32]++rest)=.ok ts2)->zch (l.take w.at_++[32]++rest)=.err e n):=by
 have hl:=(scan_ok hs).1
 have hS:=zc2 hl
 rw [hs] at hS
 have hEL:EndL ts:=by
  obtain ⟨us,h⟩:=ok_last hS rfl
  exact ⟨us,l.length,h⟩
 obtain ⟨hn,hcode⟩:n∈ats ts∧code e:=by
  rcases zi0.stays ts false hEL with ⟨e',a,h1,h2,h3⟩|⟨x,ws,f,h1,_⟩
  · rw [hp] at h1;cases h1;exact ⟨h2,h3⟩
  · rw [hp] at h1;cases h1
 obtain ⟨v,hv,hvn⟩:=List.mem_map.1 hn
 obtain ⟨us,vs,rfl⟩:=List.append_of_mem hv
 have hR:Reach l 0 [] n us:=hvn ▸ zes hS us vs v rfl (Nat.zero_le _) rfl (Nat.zero_le _)
 have hlt:∀ x∈us,x.at_<n:=reach_ats hR (fun t ht=>by cases ht)
 have hgt:∀ x∈vs,n<x.at_:=fun x hx=>by
  obtain ⟨a,b,rfl⟩:=List.append_of_mem hx
  have h1:=zes hS (us++v::a) b x rfl (Nat.zero_le _) (by simp) (Nat.zero_le _)
  have h2:=reach_ats h1 (fun t ht=>by cases ht) v (by simp)
  omega
 have hle:∀ x∈us++v::vs,x.at_<=l.length:=fun x hx=>by
  obtain ⟨a,b,hab⟩:=List.append_of_mem hx
  have h1:=zes hS a b x rfl (Nat.zero_le _) hab (Nat.zero_le _)
  exact reach_le h1 (Nat.zero_le _)
 have hnl:n<=l.length:=hvn ▸ hle v (by simp)
 have hEv:EndL (v::vs):=hEL.suffix (by simp)
 refine ⟨us,v,vs,rfl,hvn,fun x hx=>Nat.ne_of_lt (hlt x hx),hcode,hnl,?_,?_⟩
 · have hlen:(l.take n).length=n:=by simp;omega
   have hsc:zc7 (l.take n)=.ok (us++[endT n]):=by
    have h1:Reach (l.take n) 0 [] n us:=hR.same (fun k hk=>getD_take hk) (by omega) (Or.inr hlen)
    have h2:Scans (l.take n) n us (.ok (us++[⟨5,[],0,(l.take n).length⟩])):=.done (by omega)
    have h3:=(zc2 (l:=l.take n) (by omega)).det (h1.scans h2)
    rw [h3,hlen];rfl
   have hfin:zbb 102 [] ⟨us++[endT n],false⟩=.no 40 n∨∃ x f,zbb 102 [] ⟨us++[endT n],false⟩=.ok x ⟨[endT n],f⟩:=by
    cases us with
    | nil=>exact zi0.fin n false
    | cons u us =>
     rcases zi0.on.cut u us v vs n false trivial hEv with ⟨e',a,h0,h1,_⟩|⟨x,us',f,_,_,h1,_⟩|h1
     · rw [hp] at h1
       cases h1
       obtain ⟨y,hy,hyn⟩:=List.mem_map.1 h0
       have:=hlt y hy
       omega
     · rw [hp] at h1;cases h1
     · exact h1
   unfold zch
   rw [hsc]
   rcases hfin with h1|⟨x,f,h1⟩
   · exact Or.inl (by show (match zbb 102 [] _ with|.ok ks _=>PRes.ok (.node 1 [] 0 0 ks)|.no e i=>.err e i)=_;rw [h1])
   · exact Or.inr ⟨.node 1 [] 0 0 x,by show (match zbb 102 [] _ with|.ok ks _=>PRes.ok (.node 1 [] 0 0 ks)|.no e i=>.err e i)=_;rw [h1]⟩
 · intro w ws hvs
   subst hvs
   have hwl:=hle w (by simp)
   refine ⟨hwl,?_⟩
   rintro rest ⟨ts2,h2⟩
   have hlen:(l.take w.at_).length=w.at_:=by simp;omega
   have hRw:Reach l 0 [] w.at_ (us++[v]):=zes hS (us++[v]) ws w rfl (Nat.zero_le _) (by simp) (Nat.zero_le _)
   have hR2:Reach (l.take w.at_++[32]++rest) 0 [] w.at_ (us++[v]):=by
    refine hRw.same2 (fun k hk=>?_) (by simp;omega) (fun _=>?_)
    · rw [List.append_assoc,zi2 (by omega)];exact getD_take hk
    · rw [List.append_assoc,zew (by omega),hlen,Nat.sub_self];rfl
   have hS2:=zc2 (scan_ok h2).1
   rw [h2] at hS2
   obtain ⟨r,hr,hrn⟩:=zju (hR2.forth hS2) rfl
   have hEr:EndL r:=by
    obtain ⟨us2,h⟩:=ok_last hS2 rfl
    have h3:EndL (us++[v]++r):=⟨us2,_,hr ▸ h⟩
    exact h3.suffix hrn
   have hEw:EndL (w::ws):=by
    have h3:EndL ([v]++(w::ws)):=hEv
    exact h3.suffix (by simp)
   have hnot:¬ n∈ats (w::ws):=fun h=>by
    obtain ⟨y,hy,hyn⟩:=List.mem_map.1 h
    have:=hgt y hy
    omega
   have hfin:zbb 102 [] ⟨us++v::r,false⟩=.no e n:=by
    cases us with
    | nil =>
     rcases zi0.on.here v (w::ws) r false trivial hEw hEr with ⟨e',h3,h4⟩|⟨x,f,h3,_⟩|⟨h3,_⟩
     · have h5:zbb 102 [] ⟨v::w::ws,false⟩=.no e n:=hp
       rw [h5] at h3;cases h3;exact h4
     · have h5:zbb 102 [] ⟨v::w::ws,false⟩=.no e n:=hp
       rw [h5] at h3;cases h3
     · have h5:zbb 102 [] ⟨v::w::ws,false⟩=.no e n:=hp
       rw [h5] at h3
       rcases h3 with ⟨e',a,h6,h7⟩|⟨x,y,f,h6,_⟩
       · cases h6;exact absurd h7 hnot
       · cases h6
    | cons u us =>
     rcases zi0.on.same u us v (w::ws) r false trivial hEw hEr with ⟨e',a,_,h3,h4⟩|⟨x,us',f,_,h3,_⟩|⟨h3,_⟩
     · rw [hp] at h3;cases h3;exact h4
     · rw [hp] at h3;cases h3
     · rw [hp] at h3
       rcases h3 with ⟨e',a,h6,h7⟩|⟨x,y,f,h6,_⟩
       · cases h6;exact absurd h7 hnot
       · cases h6
   unfold zch
   rw [h2,hr,show us++[v]++r=us++v::r by simp]
   show (match zbb 102 [] _ with|.ok ks _=>PRes.ok (.node 1 [] 0 0 ks)|.no e i=>.err e i)=_
   rw [hfin]
end Go.Proofs.YtodfklpmbclgkaaGreatDoor
namespace Go.Proofs.YtodfklpmbclgkaaGreatDoor.Lx
open Go.RowKit
/-- tokens that lie in memory -/
structure TokAt (w:World) (g off:Nat) (ts:List Tok):Prop where
 c0:∀ i t,ts[i]?=some t->w.cell? ⟨g,off+i*4,none⟩=some (.int .i64 t.kind)
 c1:∀ i t,ts[i]?=some t->w.cell? ⟨g,off+i*4+1,none⟩=some (S t.text)
 c2:∀ i t,ts[i]?=some t->w.cell? ⟨g,off+i*4+2,none⟩=some (.int .i64 t.num)
 c3:∀ i t,ts[i]?=some t->w.cell? ⟨g,off+i*4+3,none⟩=some (.int .i64 t.at_)
def isNameP (l:List UInt8):Bool:=decide (0<l.length)&&(decide (l.length<=32)&&(letB (l.getD 0 0)&&(l.all runB&&!zcb l)))
set_option maxHeartbeats 1000000 in
theorem isName_any (l:List UInt8) (w:World) (hl:(l.length:Int)<=9223372036854775807):Calls Tryz.prog 96 #[S l] w fun e w'=>e=.returned (.bool (isNameP l))∧w'=w:=by
 obtain ⟨R,hR⟩:∃ R,isNameP l=R:=⟨_,rfl⟩
 rw [hR]
 unfold isNameP at hR
 by_cases h0:l.length=0
 · rw [show decide (0<l.length)=false from decide_eq_false (by omega),Bool.false_and] at hR
   subst hR
   obtain rfl:l=[]:=List.length_eq_zero_iff.1 h0
   clear h0
   go_enter Tryz.func96,Tryz.ntmps96
   go_wp2
   go_ret
   exact ⟨rfl,rfl⟩
 · have hn0:((l.length:Int)==0)=false:=beq_eq_false_iff_ne.2 (by omega)
   have hlt0:0<l.length:=by omega
   have h0' : (0:Int)<l.length:=by omega
   rw [decide_eq_true hlt0,Bool.true_and] at hR
   by_cases h32:l.length<=32
   · rw [decide_eq_true h32,Bool.true_and] at hR
     have h32' : decide ((32:Int)<l.length)=false:=decide_eq_false (by omega)
     have hc0:({ data:=l.toArray } : ByteArray)[0]'hlt0=l.getD 0 0:=(getD_lt hlt0).symm
     have H1:Hid (∀ w,Calls Tryz.prog 92 #[.int .u8 ((l.getD 0 0).toNat:Int)] w fun e w'=>e=.returned (.bool (letB (l.getD 0 0)))∧w'=w):=fun w=>zhk _ w
     have HW:Hid (∀ w,Calls Tryz.prog 95 #[S l] w fun e w'=>e=.returned (.bool (zcb l))∧w'=w):=fun w=>znq l w
     generalize letB (l.getD 0 0)=b at *
     generalize l.getD 0 0=c at *
     cases b
     · rw [Bool.false_and] at hR
       subst hR
       go_enter Tryz.func96,Tryz.ntmps96
       go_wp2_with (go_at_call 92;refine (H1.out _).mono ?_;rintro e w' ⟨rfl,rfl⟩)
       go_ret
       exact ⟨rfl,rfl⟩
     · rw [Bool.true_and] at hR
       have HR:=hid hR
       clear hR h0
       go_enter Tryz.func96,Tryz.ntmps96
       go_wp2_with (go_at_call 92;refine (H1.out _).mono ?_;rintro e w' ⟨rfl,rfl⟩)
       go_loop [20] (fun i=>∃ k:Nat,i=.int .i64 k∧k<=l.length∧Hid (∀ j,j<k->runB (l.getD j 0)=true)) (fun i=>l.length - (intOf i).toNat)
       case atStart=>exact ⟨0,rfl,Nat.zero_le _,fun j h2=>by omega⟩
       case round =>
        obtain ⟨k,rfl,hk,HJ⟩:=hrel
        by_cases hlt:k<l.length
        · have hk' : (k:Int)<l.length:=by omega
          have hcs:({ data:=l.toArray } : ByteArray)[k]'hlt=l.getD k 0:=(getD_lt hlt).symm
          have HC:Hid (∀ w,Calls Tryz.prog 90 #[.int .u8 ((l.getD k 0).toNat:Int)] w fun e w'=>e=.returned (.bool (runB (l.getD k 0)))∧w'=w):=fun w=>isRun_any _ w
          have HV:Hid (runB (l.getD k 0)=runB (l.getD k 0)):=rfl
          cases hv:runB (l.getD k 0)
          · have HF:Hid (R=false):=by
             show _=_
             rw [<- HR.out]
             cases ha:l.all runB
             · rfl
             · have:=List.all_eq_true.1 ha _ (zoh hlt)
               rw [hv] at this;cases this
            rw [hv] at HC
            clear hv HV
            generalize l.getD k 0=d at *
            go_wp2_with (go_at_call 90;refine (HC.out _).mono ?_;rintro e w' ⟨rfl,rfl⟩)
            go_ret
            exact ⟨by rw [HF.out];rfl,rfl⟩
          · have HJ2:Hid (∀ j,j<k+1->runB (l.getD j 0)=true):=fun j h2=>by
             rcases Nat.lt_or_ge j k with h3|h3
             · exact HJ.out j h3
             · obtain rfl:j=k:=by omega
               exact hv
            rw [hv] at HC
            clear hv HV
            generalize l.getD k 0=d at *
            go_wp2_with (go_at_call 90;refine (HC.out _).mono ?_;rintro e w' ⟨rfl,rfl⟩)
            go_round
            case rel=>exact ⟨k+1,by go_num,by omega,HJ2.out⟩
            case measure=>simp [intOf];omega
        · obtain rfl:k=l.length:=by omega
          have HF:Hid (R=!zcb l):=by
           show _=_
           rw [<- HR.out,List.all_eq_true.2 fun c hc=>?_]
           · rfl
           · obtain ⟨j,hj,rfl⟩:=List.getElem_of_mem hc
             rw [<- getD_lt hj];exact HJ.out j hj
          generalize zcb l=b at *
          go_wp2_with (go_at_call 95;refine (HW.out _).mono ?_;rintro e w' ⟨rfl,rfl⟩)
          go_ret
          exact ⟨by rw [HF.out];rfl,rfl⟩
   · rw [show decide (l.length<=32)=false from decide_eq_false h32,Bool.false_and] at hR
     subst hR
     have h32' : decide ((32:Int)<l.length)=true:=decide_eq_true (by omega)
     go_enter Tryz.func96,Tryz.ntmps96
     go_wp2
     go_ret
     exact ⟨rfl,rfl⟩
end Go.Proofs.YtodfklpmbclgkaaGreatDoor.Lx
namespace Go.Proofs.YtodfklpmbclgkaaGreatDoor
open Go.RowKit Go.Lib
theorem info5_ex:∃ i:TypeInfo,Tryz.prog.info? 5=some i∧i.zero=some (.int .u8 0)∧i.size=1∧i.bytes=1 :=
 ⟨(Tryz.prog.info? 5).getD default,by kernel_rfl,by kernel_rfl,by kernel_rfl,by kernel_rfl⟩
theorem append_at (base:Nat) (v:Value) (n:Nat) (xs:List Value) (s:ByteArray) (w:World) (ty:TypeId) (hown:w.ownsRow base 5 1 v n xs) (hb:n+s.size<=140737488355328) (hbase:base<=w.heap.size) :
 ∃ v' w',(Builtin.append_ #[66,9] ty #[v,.string s]).run Tryz.prog w=.ok v' w'∧w'.ownsRow base 5 1 v' (n+s.size) (xs++strCells s)∧w.grownBy w' v.ownBlock∧(v'.ownBlock=v.ownBlock∨v'.ownBlock=some w.heap.size):=by
 have h63:n+s.size<=maxLen:=Nat.le_trans hb (by decide)
 obtain ⟨info5,info5_is,info5_zero,info5_size,info5_bytes⟩:=info5_ex
 obtain ⟨v',w',hr,h1,h2,h3⟩:=run_append_own_string (P:=Tryz.prog) w base 66 9 ty 5 info5 Tryz.underlying66 Tryz.underlying9 info5_is info5_zero info5_size info5_bytes v n xs hown s h63 hb hbase
 refine ⟨v',w',hr,h1,h2,?_⟩
 have hxl:xs.length=n:=by simpa using hown.1
 rcases hown.2 with ⟨rfl,rfl⟩|⟨g,cap,cur,rfl,hbg,hg,hnc,hcm,hcs,htake⟩
 · by_cases hm:s.size=0
   · left
     rw [h3.2 ⟨rfl,hm⟩]
   · right
     have hr2:=run_append_nil_string (P:=Tryz.prog) w 66 9 ty 5 info5 (.int .u8 0) Tryz.underlying66 Tryz.underlying9 info5_is info5_zero s (by omega) (by omega) (by rw [info5_bytes];omega)
     rw [hr2] at hr
     cases hr
     rfl
 · by_cases hroom:n+s.size<=cap
   · left
     have hr2:=run_append_room_string (P:=Tryz.prog) w 66 9 ty 5 info5 Tryz.underlying66 Tryz.underlying9 info5_is info5_size g n cap cur hg s hroom (by simp at hcs;omega)
     rw [hr2] at hr
     cases hr
     rfl
   · right
     have holds:∀ j u,xs[j]?=some u->w.cell? ((⟨g,0,none⟩:Addr).add j)=some u:=hown.cells (g:=g) rfl
     have hr2:=run_append_grow_string (P:=Tryz.prog) w 66 9 ty 5 info5 (.int .u8 0) Tryz.underlying66 Tryz.underlying9 info5_is info5_zero ⟨g,0,none⟩ n cap xs (by rw [info5_size];simpa using hxl) holds s (by omega) (by omega) (by rw [info5_bytes];exact growslice_fits (by omega) (by omega))
     rw [hr2] at hr
     cases hr
     rfl
/-- The operation, for a walk. -/
theorem zb4 {ops:Array Oper} {rest:List Oper} {o:Oper} {a:Act} {Q:Exit->Act->World->Prop} {w:World} (hgd:o.guard=none) (sl x:Operand)
 (ho:o.op=.call { callee:=.builtin .append,args:=#[sl,x],argTypes:=#[66,9] })
 (base:Nat) (v:Value) (n:Nat) (xs:List Value) (hs:a.eval sl=v) (hown:w.ownsRow base 5 1 v n xs) (s:ByteArray) (hx:a.eval x=.string s)
 (hb:n+s.size<=140737488355328) (hbase:base<=w.heap.size)
 (h:∀ v' w',w'.ownsRow base 5 1 v' (n+s.size) (xs++strCells s)->w.grownBy w' v.ownBlock->(v'.ownBlock=v.ownBlock∨v'.ownBlock=some w.heap.size)->wpList Tryz.prog ops Q rest (a.put o.dst v') w'):wpList Tryz.prog ops Q (o::rest) a w:=by
 refine wpList_plain hgd fun K hK=>?_
 obtain ⟨v',w',hr,h2,h3,h4⟩:=append_at base v n xs s w o.type hown hb hbase
 unfold Oper.wp execOp
 simp only [ho,resolve,invoke,builtin,Sem.run_bind,Sem.run_pure,Result.andThen_ok,List.map_toArray,List.map_cons,List.map_nil,hs,hx,hr]
 exact hK _ _ (h v' w' h2 h3 h4)
theorem bld50 (w:World):(Instr.build 50 #[(0,.int .i64 43)]).run Tryz.prog w=.ok (.agg #[.int .i64 43,.int .i64 0]) w:=by kernel_rfl
def zaa:Ending:=.panicked [{ v:=.iface 50 (.agg #[.int .i64 43,.int .i64 0]),recovered:=false }]
theorem zar (w:World):Calls Tryz.prog 58 #[.bool true] w fun e w'=>e=.returned (.tuple #[])∧w'=w:=by
 go_enter Tryz.func58,Tryz.ntmps58
 go_wp2
 first|go_end0|refine bodyPost_ret (results_none rfl _ _ _) rfl ?_
 exact ⟨rfl,rfl⟩
theorem zak (w:World):Calls Tryz.prog 58 #[.bool false] w fun e w'=>e=zaa∧w'=w:=by
 have q:=bld50
 go_enter Tryz.func58,Tryz.ntmps58
 go_wp2
 exact ⟨rfl,rfl,rfl⟩
theorem zev (c:Int) (w:World):Calls Tryz.prog 102 #[.int .u8 c] w fun e w'=>e=.returned (.bool (runP c))∧w'=w:=by
 obtain ⟨R,hR⟩:∃ R,runP c=R:=⟨_,rfl⟩
 rw [hR]
 have HR:=hid hR
 clear hR
 rcases (show c<48∨(48<=c∧c<=57)∨(57<c∧c<65)∨(65<=c∧c<=90)∨(90<c∧c<95)∨c=95∨c=96∨(97<=c∧c<=122)∨122<c by omega) with h|⟨h,h'⟩|⟨h,h'⟩|⟨h,h'⟩|⟨h,h'⟩|h|h|⟨h,h'⟩|h
 all_goals (
  go_enter Tryz.func102,Tryz.ntmps102
  go_wp2
  go_ret
  rw [<- HR.out]
  unfold runP zji znx
  refine ⟨congrArg Ending.returned (congrArg Value.bool ?_),rfl⟩
  rw [Bool.eq_iff_iff]
  simp
  omega)
/-- the printer: what it has laid down, how many bodies are open -/
structure PR (w:World) (p:Nat) (txt:List UInt8) (d:Int) (v:Value):Prop where
 c0:w.cell? ⟨p,0,none⟩=some v
 c1:w.cell? ⟨p,1,none⟩=some (.int .i64 d)
 f0:w.frozen? ⟨p,0,none⟩=false
 f1:w.frozen? ⟨p,1,none⟩=false
 own:w.ownsRow (p+1) 5 1 v txt.length (txt.map fun b=>Value.int .u8 b.toNat)
theorem PR.lt {w:World} {p:Nat} {txt:List UInt8} {d:Int} {v:Value} (h:PR w p txt d v):p<w.heap.size:=zhp h.c0
theorem PR.below {w w' : World} {p:Nat} {txt:List UInt8} {d:Int} {v:Value} (h:PR w p txt d v) (hB:Below w.heap.size w w'):PR w' p txt d v :=
 ⟨(zae (hB.block p h.lt) 0).1.trans h.c0,(zae (hB.block p h.lt) 1).1.trans h.c1,(zae (hB.block p h.lt) 0).2.trans h.f0,(zae (hB.block p h.lt) 1).2.trans h.f1,zfq h.own (fun g _ hl=>hB.block g hl)⟩
/-- what is laid down by tokens, or that it is too long -/
def layP:List (List UInt8)->List UInt8->Option (List UInt8)
 | [],txt=>some txt
 | t::ts,txt =>
  if ((if (decide (0<txt.length)&&runB (txt.getLastD 0)&&runB (t.getD 0 0)) then txt++[32] else txt)++t).length<=16000 then layP ts ((if (decide (0<txt.length)&&runB (txt.getLastD 0)&&runB (t.getD 0 0)) then txt++[32] else txt)++t) else none
end Go.Proofs.YtodfklpmbclgkaaGreatDoor
