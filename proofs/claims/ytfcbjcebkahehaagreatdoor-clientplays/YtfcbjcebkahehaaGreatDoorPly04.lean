import Derived.Test.YtfcbjcebkahehaaGreatDoorPly03
import Derived.Test.YtfcbjcebkahehaaGreatDoorPly01
import Derived.Test.YtfcbjcebkahehaaGreatDoorPly02
import Derived.Deep.RegionHeld3
import Derived.Deep.RegionLaw
import Derived.Lib.MinMax
set_option maxRecDepth 8000
set_option maxHeartbeats 20000000
set_option linter.unusedSimpArgs false
namespace Go.Proofs.YtfcbjcebkahehaaGreatDoor.Cl
open Go.RowKit
def zdr (w w' : World) (c:Cf) (s:Nat):Prop :=
 (okC c=false∧w.heap.size<=s∧w'.heap[s]?=some (.cells #[.pointer none,.pointer none,.slice none 0 0] 52)) ∨
 (okC c=true∧∃ p r w4 w5 w6 g,NewC w4 w5 c p∧NewD w5 w6 c r∧Below w.heap.size w w4∧w.heap.size<=g∧g<w4.heap.size∧(∀ b,b<w6.heap.size->b≠g->w'.heap[b]?=w6.heap[b]?)∧w6.heap.size<=s∧w'.heap[s]?=some (.cells #[ptr p,ptr r,.slice none 0 0] 52))
theorem zhc (c:Cf) (oa:Option Addr) (cap n:Nat) (w:World) (hn:c.sys.groups.length=n) (hT:ErrT w) (hg:GsAt w w.heap.size oa c.sys.groups) (hcap:n<=cap) (hl:n<=2147483647) (hmc:c.sys.machine.length<=2147483647) :
 Calls Tryz.prog 8 #[.agg (cfA c oa cap)] w fun e w'=>∃ s,e=.returned (.tuple #[ptr s,.bool true])∧Below w.heap.size w w'∧zdr w w' c s:=by
 obtain ⟨w0,hw0⟩:∃ w0,w.alloc (cfB c oa cap)=w0:=⟨_,rfl⟩;obtain ⟨S0,hS0⟩:∃ S0,w.heap.size=S0:=⟨_,rfl⟩;have B0:Below w.heap.size w w0:=by rw [<- hw0];exact (Below.refl _ _).alloc (Nat.le_refl _) _
 have k0:w0.heap[S0]?=some (cfB c oa cap):=by rw [<- hw0,<- hS0];exact (MapKept.heap_alloc w _).1
 have hlt:S0<w0.heap.size:=(Array.getElem?_eq_some_iff.1 k0).1;have hga:∀ w',Below w.heap.size w w'->GsAt w' w'.heap.size oa c.sys.groups:=fun w' hb h0=>by
  obtain ⟨q,off,e1,e2,e3⟩:=(hg.below hb) h0;exact ⟨q,off,e1,Nat.lt_of_lt_of_le e2 hb.size,e3⟩
 have Ak:=hid hga;have HL:Hid (Calls Tryz.prog 25 #[.slice oa c.sys.groups.length cap] w0 fun e w'=>e=.returned (.slice (some ⟨w0.heap.size,0,none⟩) (n+4) (n+4))∧Bk w' w0.heap.size (zci c.sys.groups++List.replicate 4 (iI (-77))) 3∧Below w0.heap.size w0 w'):=by
  have:=lent_any oa cap c.sys.groups w0 (hga w0 B0) (by omega)
  rw [hn] at this ⊢;exact this
 have HK:Hid (w0.heap[S0]?=some (cfB c oa cap)∧S0<w0.heap.size∧Below w.heap.size w w0∧w.heap.size=S0):=⟨k0,hlt,B0,hS0⟩;have HX:Hid (ErrT w∧n<=cap∧n<=2147483647∧True∧c.sys.machine.length<=2147483647∧c.sys.groups.length=n):=⟨hT,hcap,hl,trivial,hmc,hn⟩;have a11:w0.cell? ⟨S0,11,none⟩=some (.slice oa c.sys.groups.length cap):=zaa k0 rfl;obtain ⟨g,hgg⟩:∃ g,w0.heap.size=g:=⟨_,rfl⟩;rw [hgg] at HL;have Am:=hid hgg;clear hn hT hg hcap hl hmc B0 k0 hlt hga hgg;go_enter Tryz.func8,Tryz.ntmps8
 go_wp2_with fail
 refine HL.out.mono ?_;rintro _ w1 ⟨rfl,hk1,hb1⟩;have hb1' : Below w0.heap.size w0 w1:=by rw [Am.out];exact hb1
 have k1:w1.heap[S0]?=some (cfB c oa cap):=(hb1'.block S0 HK.out.2.1).trans HK.out.1;have b0:w1.cell? ⟨S0,0,none⟩=some (iI c.ad):=zaa k1 rfl;have b1:w1.cell? ⟨S0,1,none⟩=some (iI c.inst):=zaa k1 rfl;have b2:w1.cell? ⟨S0,2,none⟩=some (iI c.first):=zaa k1 rfl;have b3:w1.cell? ⟨S0,3,none⟩=some (iI c.win):=zaa k1 rfl;have b4:w1.cell? ⟨S0,4,none⟩=some (iI c.pb):=zaa k1 rfl;have b5:w1.cell? ⟨S0,5,none⟩=some (iI c.pc):=zaa k1 rfl;have b6:w1.cell? ⟨S0,6,none⟩=some (iI c.pt):=zaa k1 rfl;have b7:w1.cell? ⟨S0,7,none⟩=some (iI c.sys.stamp):=zaa k1 rfl;have b8:w1.cell? ⟨S0,8,none⟩=some (.string ⟨c.sys.machine.toArray⟩):=zaa k1 rfl;have b9:w1.cell? ⟨S0,9,none⟩=some (iI c.sys.user):=zaa k1 rfl;have b10:w1.cell? ⟨S0,10,none⟩=some (iI c.sys.group):=zaa k1 rfl;have b11:w1.cell? ⟨S0,11,none⟩=some (.slice oa c.sys.groups.length cap):=zaa k1 rfl;obtain ⟨S2,hS2⟩:∃ S2,w1.heap.size=S2:=⟨_,rfl⟩;obtain ⟨w2,hw2⟩:∃ w2,w1.alloc (.cells #[iI 0,iI 0,iI 0,iI 0,iI 0,iI 0,iI 0,iI 0,.string ⟨#[]⟩,iI 0,iI 0,.slice none 0 0] 28)=w2:=⟨_,rfl⟩;have k2:w2.heap[S2]?=some (.cells #[iI 0,iI 0,iI 0,iI 0,iI 0,iI 0,iI 0,iI 0,.string ⟨#[]⟩,iI 0,iI 0,.slice none 0 0] 28):=by rw [<- hw2,<- hS2];exact (MapKept.heap_alloc w1 _).1
 have B2:Below w1.heap.size w1 w2:=by rw [<- hw2];exact (Below.refl _ _).alloc (Nat.le_refl _) _
 have hleS:w1.heap.size<=S2:=by omega
 obtain ⟨v1,hv1⟩:∃ y,w2.setCell ⟨S2,0,none⟩ (iI c.ad)=y:=⟨_,rfl⟩;have z0:w2.cell? ⟨S2,0,none⟩=some (iI 0):=zaa k2 rfl;have f0:w2.frozen? ⟨S2,0,none⟩=false:=zab k2 0;have kv1:v1.heap[S2]?=some (.cells #[iI c.ad,iI 0,iI 0,iI 0,iI 0,iI 0,iI 0,iI 0,.string ⟨#[]⟩,iI 0,iI 0,.slice none 0 0] 28):=by rw [<- hv1];exact zae k2 0 _
 have Bv1:Below w1.heap.size w1 v1:=by rw [<- hv1];exact zac B2 hleS
 obtain ⟨v2,hv2⟩:∃ y,v1.setCell ⟨S2,1,none⟩ (iI c.inst)=y:=⟨_,rfl⟩;have z1:v1.cell? ⟨S2,1,none⟩=some (iI 0):=zaa kv1 rfl;have f1:v1.frozen? ⟨S2,1,none⟩=false:=zab kv1 1;have kv2:v2.heap[S2]?=some (.cells #[iI c.ad,iI c.inst,iI 0,iI 0,iI 0,iI 0,iI 0,iI 0,.string ⟨#[]⟩,iI 0,iI 0,.slice none 0 0] 28):=by rw [<- hv2];exact zae kv1 1 _
 have Bv2:Below w1.heap.size w1 v2:=by rw [<- hv2];exact zac Bv1 hleS
 clear kv1 Bv1;obtain ⟨v3,hv3⟩:∃ y,v2.setCell ⟨S2,2,none⟩ (iI c.first)=y:=⟨_,rfl⟩;have z2:v2.cell? ⟨S2,2,none⟩=some (iI 0):=zaa kv2 rfl;have f2:v2.frozen? ⟨S2,2,none⟩=false:=zab kv2 2;have kv3:v3.heap[S2]?=some (.cells #[iI c.ad,iI c.inst,iI c.first,iI 0,iI 0,iI 0,iI 0,iI 0,.string ⟨#[]⟩,iI 0,iI 0,.slice none 0 0] 28):=by rw [<- hv3];exact zae kv2 2 _
 have Bv3:Below w1.heap.size w1 v3:=by rw [<- hv3];exact zac Bv2 hleS
 clear kv2 Bv2;obtain ⟨v4,hv4⟩:∃ y,v3.setCell ⟨S2,3,none⟩ (iI c.win)=y:=⟨_,rfl⟩;have z3:v3.cell? ⟨S2,3,none⟩=some (iI 0):=zaa kv3 rfl;have f3:v3.frozen? ⟨S2,3,none⟩=false:=zab kv3 3;have kv4:v4.heap[S2]?=some (.cells #[iI c.ad,iI c.inst,iI c.first,iI c.win,iI 0,iI 0,iI 0,iI 0,.string ⟨#[]⟩,iI 0,iI 0,.slice none 0 0] 28):=by rw [<- hv4];exact zae kv3 3 _
 have Bv4:Below w1.heap.size w1 v4:=by rw [<- hv4];exact zac Bv3 hleS
 clear kv3 Bv3;obtain ⟨v5,hv5⟩:∃ y,v4.setCell ⟨S2,4,none⟩ (iI c.pb)=y:=⟨_,rfl⟩;have z4:v4.cell? ⟨S2,4,none⟩=some (iI 0):=zaa kv4 rfl;have f4:v4.frozen? ⟨S2,4,none⟩=false:=zab kv4 4;have kv5:v5.heap[S2]?=some (.cells #[iI c.ad,iI c.inst,iI c.first,iI c.win,iI c.pb,iI 0,iI 0,iI 0,.string ⟨#[]⟩,iI 0,iI 0,.slice none 0 0] 28):=by rw [<- hv5];exact zae kv4 4 _
 have Bv5:Below w1.heap.size w1 v5:=by rw [<- hv5];exact zac Bv4 hleS
 clear kv4 Bv4;obtain ⟨v6,hv6⟩:∃ y,v5.setCell ⟨S2,5,none⟩ (iI c.pc)=y:=⟨_,rfl⟩;have z5:v5.cell? ⟨S2,5,none⟩=some (iI 0):=zaa kv5 rfl;have f5:v5.frozen? ⟨S2,5,none⟩=false:=zab kv5 5;have kv6:v6.heap[S2]?=some (.cells #[iI c.ad,iI c.inst,iI c.first,iI c.win,iI c.pb,iI c.pc,iI 0,iI 0,.string ⟨#[]⟩,iI 0,iI 0,.slice none 0 0] 28):=by rw [<- hv6];exact zae kv5 5 _
 have Bv6:Below w1.heap.size w1 v6:=by rw [<- hv6];exact zac Bv5 hleS
 clear kv5 Bv5;obtain ⟨v7,hv7⟩:∃ y,v6.setCell ⟨S2,6,none⟩ (iI c.pt)=y:=⟨_,rfl⟩;have z6:v6.cell? ⟨S2,6,none⟩=some (iI 0):=zaa kv6 rfl;have f6:v6.frozen? ⟨S2,6,none⟩=false:=zab kv6 6;have kv7:v7.heap[S2]?=some (.cells #[iI c.ad,iI c.inst,iI c.first,iI c.win,iI c.pb,iI c.pc,iI c.pt,iI 0,.string ⟨#[]⟩,iI 0,iI 0,.slice none 0 0] 28):=by rw [<- hv7];exact zae kv6 6 _
 have Bv7:Below w1.heap.size w1 v7:=by rw [<- hv7];exact zac Bv6 hleS
 clear kv6 Bv6;obtain ⟨v8,hv8⟩:∃ y,v7.setCell ⟨S2,7,none⟩ (iI c.sys.stamp)=y:=⟨_,rfl⟩;have z7:v7.cell? ⟨S2,7,none⟩=some (iI 0):=zaa kv7 rfl;have f7:v7.frozen? ⟨S2,7,none⟩=false:=zab kv7 7;have kv8:v8.heap[S2]?=some (.cells #[iI c.ad,iI c.inst,iI c.first,iI c.win,iI c.pb,iI c.pc,iI c.pt,iI c.sys.stamp,.string ⟨#[]⟩,iI 0,iI 0,.slice none 0 0] 28):=by rw [<- hv8];exact zae kv7 7 _
 have Bv8:Below w1.heap.size w1 v8:=by rw [<- hv8];exact zac Bv7 hleS
 clear kv7 Bv7;obtain ⟨v9,hv9⟩:∃ y,v8.setCell ⟨S2,8,none⟩ (.string ⟨c.sys.machine.toArray⟩)=y:=⟨_,rfl⟩;have z8:v8.cell? ⟨S2,8,none⟩=some (.string ⟨#[]⟩):=zaa kv8 rfl;have f8:v8.frozen? ⟨S2,8,none⟩=false:=zab kv8 8;have kv9:v9.heap[S2]?=some (.cells #[iI c.ad,iI c.inst,iI c.first,iI c.win,iI c.pb,iI c.pc,iI c.pt,iI c.sys.stamp,.string ⟨c.sys.machine.toArray⟩,iI 0,iI 0,.slice none 0 0] 28):=by rw [<- hv9];exact zae kv8 8 _
 have Bv9:Below w1.heap.size w1 v9:=by rw [<- hv9];exact zac Bv8 hleS
 clear kv8 Bv8;obtain ⟨v10,hv10⟩:∃ y,v9.setCell ⟨S2,9,none⟩ (iI c.sys.user)=y:=⟨_,rfl⟩;have z9:v9.cell? ⟨S2,9,none⟩=some (iI 0):=zaa kv9 rfl;have f9:v9.frozen? ⟨S2,9,none⟩=false:=zab kv9 9;have kv10:v10.heap[S2]?=some (.cells #[iI c.ad,iI c.inst,iI c.first,iI c.win,iI c.pb,iI c.pc,iI c.pt,iI c.sys.stamp,.string ⟨c.sys.machine.toArray⟩,iI c.sys.user,iI 0,.slice none 0 0] 28):=by rw [<- hv10];exact zae kv9 9 _
 have Bv10:Below w1.heap.size w1 v10:=by rw [<- hv10];exact zac Bv9 hleS
 clear kv9 Bv9;obtain ⟨v11,hv11⟩:∃ y,v10.setCell ⟨S2,10,none⟩ (iI c.sys.group)=y:=⟨_,rfl⟩;have z10:v10.cell? ⟨S2,10,none⟩=some (iI 0):=zaa kv10 rfl;have f10:v10.frozen? ⟨S2,10,none⟩=false:=zab kv10 10;have kv11:v11.heap[S2]?=some (.cells #[iI c.ad,iI c.inst,iI c.first,iI c.win,iI c.pb,iI c.pc,iI c.pt,iI c.sys.stamp,.string ⟨c.sys.machine.toArray⟩,iI c.sys.user,iI c.sys.group,.slice none 0 0] 28):=by rw [<- hv11];exact zae kv10 10 _
 have Bv11:Below w1.heap.size w1 v11:=by rw [<- hv11];exact zac Bv10 hleS
 clear kv10 Bv10;obtain ⟨w3,hw3⟩:∃ y,v11.setCell ⟨S2,11,none⟩ (.slice oa c.sys.groups.length cap)=y:=⟨_,rfl⟩;have z11:v11.cell? ⟨S2,11,none⟩=some (.slice none 0 0):=zaa kv11 rfl;have f11:v11.frozen? ⟨S2,11,none⟩=false:=zab kv11 11;have k3:w3.heap[S2]?=some (.cells #[iI c.ad,iI c.inst,iI c.first,iI c.win,iI c.pb,iI c.pc,iI c.pt,iI c.sys.stamp,.string ⟨c.sys.machine.toArray⟩,iI c.sys.user,iI c.sys.group,.slice oa c.sys.groups.length cap] 28):=by rw [<- hw3];exact zae kv11 11 _
 have B3:Below w1.heap.size w1 w3:=by rw [<- hw3];exact zac Bv11 hleS
 clear kv11 Bv11;have Ao:Hid (Below w1.heap.size w1 w3∧w3.heap[S2]?=some (cfB c oa cap)∧w1.heap.size=S2):=⟨B3,k3,hS2⟩;have An:Hid (Below w0.heap.size w0 w1∧w1.heap[S0]?=some (cfB c oa cap)∧Bk w1 g (zci c.sys.groups++List.replicate 4 (iI (-77))) 3):=⟨hb1',k1,hk1⟩;have hlt0:S0<w1.heap.size:=(Array.getElem?_eq_some_iff.1 k1).1;have y11:w3.cell? ⟨S0,11,none⟩=some (.slice oa c.sys.groups.length cap):=zaa ((B3.block S0 hlt0).trans k1) rfl;have y211:w3.cell? ⟨S2,11,none⟩=some (.slice oa c.sys.groups.length cap):=zaa k3 rfl;have fy:=zab k3 11;obtain ⟨w4,hw4⟩:∃ w4,w3.setCell ⟨S2,11,none⟩ (.slice (some ⟨g,0,none⟩) n (n+4))=w4:=⟨_,rfl⟩;have hcut:∀ w:World,(Instr.slice 24 (.slice (some ⟨g,0,none⟩) (n+4) (n+4)) none (some (iI (c.sys.groups.length:Int))) none).run Tryz.prog w=.ok (.slice (some ⟨g,0,none⟩) n (n+4)) w:=fun w=>by
  rw [HX.out.2.2.2.2.2];exact cut24 g (n+4) (n+4) n (by omega) w
 have k4:w4.heap[S2]?=some (.cells #[iI c.ad,iI c.inst,iI c.first,iI c.win,iI c.pb,iI c.pc,iI c.pt,iI c.sys.stamp,.string ⟨c.sys.machine.toArray⟩,iI c.sys.user,iI c.sys.group,.slice (some ⟨g,0,none⟩) n (n+4)] 28):=by rw [<- hw4];exact zae k3 11 _
 have B4:Below w1.heap.size w1 w4:=by rw [<- hw4];exact zac B3 hleS
 have e0:w4.cell? ⟨S2,0,none⟩=some (iI c.ad):=zaa k4 rfl;have e1:w4.cell? ⟨S2,1,none⟩=some (iI c.inst):=zaa k4 rfl;have e2:w4.cell? ⟨S2,2,none⟩=some (iI c.first):=zaa k4 rfl;have e3:w4.cell? ⟨S2,3,none⟩=some (iI c.win):=zaa k4 rfl;have e4:w4.cell? ⟨S2,4,none⟩=some (iI c.pb):=zaa k4 rfl;have e5:w4.cell? ⟨S2,5,none⟩=some (iI c.pc):=zaa k4 rfl;have e6:w4.cell? ⟨S2,6,none⟩=some (iI c.pt):=zaa k4 rfl;have e7:w4.cell? ⟨S2,7,none⟩=some (iI c.sys.stamp):=zaa k4 rfl;have e8:w4.cell? ⟨S2,8,none⟩=some (.string ⟨c.sys.machine.toArray⟩):=zaa k4 rfl;have e9:w4.cell? ⟨S2,9,none⟩=some (iI c.sys.user):=zaa k4 rfl;have e10:w4.cell? ⟨S2,10,none⟩=some (iI c.sys.group):=zaa k4 rfl;have e11:w4.cell? ⟨S2,11,none⟩=some (.slice (some ⟨g,0,none⟩) n (n+4)):=zaa k4 rfl;have Ap:Hid (Below w1.heap.size w1 w4):=B4;have Ab:Hid (Below w.heap.size w w4):=by
  have h1:=HK.out.2.2.1;exact (h1.trans (hb1'.mono h1.size)).trans (B4.mono (Nat.le_trans h1.size hb1'.size))
 have Ag:Hid (Calls Tryz.prog 14 #[.agg #[iI c.ad,iI c.inst,iI c.first,iI c.win,iI c.pb,iI c.pc,iI c.pt,iI c.sys.stamp,.string ⟨c.sys.machine.toArray⟩,iI c.sys.user,iI c.sys.group,.slice (some ⟨g,0,none⟩) n (n+4)]] w4 fun e w'=>(okC c=false∧e=.returned (.tuple #[.pointer none,iI 170])∧Below w4.heap.size w4 w')∨(okC c=true∧∃ p,e=.returned (.tuple #[ptr p,iI 0])∧NewC w4 w' c p)):=by
  have hx:=HX.out;have gl:GsAt w4 w4.heap.size (some ⟨g,0,none⟩) c.sys.groups:=fun h0=>by
   obtain ⟨q,off,e1,e2,e3⟩:=((lent_gs hk1).below B4) h0;exact ⟨q,off,e1,Nat.lt_of_lt_of_le e2 B4.size,e3⟩
  have:=new_any c (some ⟨g,0,none⟩) (n+4) w4 (hx.1.below Ab.out) gl (by omega) (by omega) (fun a ha=>by cases ha;rfl) (by omega)
  unfold cfA at this;rw [hx.2.2.2.2.2] at this;exact this
 have Al:Hid (g<w4.heap.size):=Nat.lt_of_lt_of_le hk1.lt B4.size;clear k1 k2 B2 hleS B3 k3 hb1 hb1' hk1 hlt0 HL a11 k4 B4;go_wp2_with fail
 clear b0 b1 b2 b3 b4 b5 b6 b7 b8 b9 b10 b11 z0 z1 z2 z3 z4 z5 z6 z7 z8 z9 z10 z11 f0 f1 f2 f3 f4 f5 f6 f7 f8 f9 f10 f11 hv1 hv2 hv3 hv4 hv5 hv6 hv7 hv8 hv9 hv10 hv11 hw2 hw3 hw4 hcut y11 y211 fy e0 e1 e2 e3 e4 e5 e6 e7 e8 e9 e10 e11;obtain ⟨ok,hok⟩:∃ ok,okC c=ok:=⟨_,rfl⟩;rw [hok] at Ag;have Ah:=hid hok;clear hok;have Aa:Hid (∀ w5,Below w4.heap.size w4 w5->w5.heap[S0]?=some (cfB c oa cap)∧Below w.heap.size w w5∧Bk w5 g (zci c.sys.groups++List.replicate 4 (iI (-77))) 3):=fun w5 hb=>by
  have h4:=Ap.out;have b15:Below w1.heap.size w1 w5:=h4.trans (hb.mono h4.size);have hw1:=An.out;exact ⟨(b15.block S0 (Array.getElem?_eq_some_iff.1 hw1.2.1).1).trans hw1.2.1,Ab.out.trans (hb.mono Ab.out.size),hw1.2.2.below b15 hw1.2.2.lt⟩
 have Ai:Hid (∀ w5,Below w4.heap.size w4 w5->Calls Tryz.prog 26 #[.agg (cfA c oa cap)] w5 fun e w'=>(ok=false∧e=.returned (.tuple #[.pointer none,iI 170])∧Below w5.heap.size w5 w')∨(ok=true∧∃ p,e=.returned (.tuple #[ptr p,iI 0])∧NewD w5 w' c p)):=fun w5 hb=>by
  have hs:=Aa.out w5 hb;refine (zcw c oa cap w5 (Ak.out w5 hs.2.1)).mono ?_;rintro e w' (⟨e1,e2,e3⟩|⟨e1,p,e2,e3⟩)
  · exact .inl ⟨Ah.out.symm.trans e1,e2,e3⟩
  · exact .inr ⟨Ah.out.symm.trans e1,p,e2,e3⟩
 have Aj:Hid (∀ w6,Below w4.heap.size w4 w6->Calls Tryz.prog 27 #[.slice (some ⟨g,0,none⟩) (n+4) (n+4),.slice oa c.sys.groups.length cap] w6 fun e w'=>e=.returned (.bool true)∧Hid (Below w.heap.size w w'∧Sole g w6 w'∧w.heap.size<=g)):=fun w6 hb=>by
  have hs:=Aa.out w6 hb;have hx:=HX.out;have:=whole_any g oa cap c.sys.groups w6 hs.2.2 (Ak.out w6 hs.2.1) (by omega)
  rw [hx.2.2.2.2.2] at this ⊢;refine this.mono ?_;rintro _ w' ⟨rfl,sl⟩;have hgw:w.heap.size<=g:=by have:=Am.out;have:=HK.out.2.2.1.size;omega
  exact ⟨rfl,hs.2.1.trans (sl.belowB hgw hs.2.1.size),sl,hgw⟩
 clear An Ao Ak HX;refine Ag.out.mono ?_;rintro _ w5 (⟨rfl,rfl,hb5⟩|⟨rfl,p,rfl,hn5⟩)
 · have k5:=(Aa.out w5 hb5).1;have s0:w5.cell? ⟨S0,0,none⟩=some (iI c.ad):=zaa k5 rfl;have s1:w5.cell? ⟨S0,1,none⟩=some (iI c.inst):=zaa k5 rfl;have s2:w5.cell? ⟨S0,2,none⟩=some (iI c.first):=zaa k5 rfl;have s3:w5.cell? ⟨S0,3,none⟩=some (iI c.win):=zaa k5 rfl;have s4:w5.cell? ⟨S0,4,none⟩=some (iI c.pb):=zaa k5 rfl;have s5:w5.cell? ⟨S0,5,none⟩=some (iI c.pc):=zaa k5 rfl;have s6:w5.cell? ⟨S0,6,none⟩=some (iI c.pt):=zaa k5 rfl;have s7:w5.cell? ⟨S0,7,none⟩=some (iI c.sys.stamp):=zaa k5 rfl;have s8:w5.cell? ⟨S0,8,none⟩=some (.string ⟨c.sys.machine.toArray⟩):=zaa k5 rfl;have s9:w5.cell? ⟨S0,9,none⟩=some (iI c.sys.user):=zaa k5 rfl;have s10:w5.cell? ⟨S0,10,none⟩=some (iI c.sys.group):=zaa k5 rfl;have s11:w5.cell? ⟨S0,11,none⟩=some (.slice oa c.sys.groups.length cap):=zaa k5 rfl;have Ac:=hid (Ai.out w5 hb5);have Ad:=hid hb5;clear k5 hb5 Ag;go_wp2_with fail
   refine Ac.out.mono ?_;rintro _ w6 (⟨h6,e6,hb6⟩|⟨h6,q,e6,hb6⟩);rotate_left
   · cases h6
   subst e6;have hb46:Below w4.heap.size w4 w6:=Ad.out.trans (hb6.mono Ad.out.size);have x11:w6.cell? ⟨S0,11,none⟩=some (.slice oa c.sys.groups.length cap):=zaa (Aa.out w6 hb46).1 rfl;have Ae:=hid (Aj.out w6 hb46);clear s0 s1 s2 s3 s4 s5 s6 s7 s8 s9 s10 s11 Ac hb6 hb46 Ai Aj Aa;go_wp2_with fail
   refine Ae.out.mono ?_;rintro _ w7 ⟨rfl,Af⟩;have HE:Hid (Below w.heap.size w (w7.alloc (.cells #[.pointer none,.pointer none,.slice none 0 0] 52))∧zdr w (w7.alloc (.cells #[.pointer none,.pointer none,.slice none 0 0] 52)) c w7.heap.size):=⟨Af.out.1.alloc Af.out.1.size _,.inl ⟨Ah.out,Af.out.1.size,(MapKept.heap_alloc w7 _).1⟩⟩;have hbl:=bld52;clear Ae x11;go_wp2;go_ret2
   exact ⟨_,rfl,HE.out⟩
 · have hb5:=hn5.be;have k5:=(Aa.out w5 hb5).1;have s0:w5.cell? ⟨S0,0,none⟩=some (iI c.ad):=zaa k5 rfl;have s1:w5.cell? ⟨S0,1,none⟩=some (iI c.inst):=zaa k5 rfl;have s2:w5.cell? ⟨S0,2,none⟩=some (iI c.first):=zaa k5 rfl;have s3:w5.cell? ⟨S0,3,none⟩=some (iI c.win):=zaa k5 rfl;have s4:w5.cell? ⟨S0,4,none⟩=some (iI c.pb):=zaa k5 rfl;have s5:w5.cell? ⟨S0,5,none⟩=some (iI c.pc):=zaa k5 rfl;have s6:w5.cell? ⟨S0,6,none⟩=some (iI c.pt):=zaa k5 rfl;have s7:w5.cell? ⟨S0,7,none⟩=some (iI c.sys.stamp):=zaa k5 rfl;have s8:w5.cell? ⟨S0,8,none⟩=some (.string ⟨c.sys.machine.toArray⟩):=zaa k5 rfl;have s9:w5.cell? ⟨S0,9,none⟩=some (iI c.sys.user):=zaa k5 rfl;have s10:w5.cell? ⟨S0,10,none⟩=some (iI c.sys.group):=zaa k5 rfl;have s11:w5.cell? ⟨S0,11,none⟩=some (.slice oa c.sys.groups.length cap):=zaa k5 rfl;have Ac:=hid (Ai.out w5 hb5);have Ad:=hid hb5;have Aq:=hid hn5;clear k5 hb5 Ag hn5;go_wp2_with fail
   refine Ac.out.mono ?_;rintro _ w6 (⟨h6,e6,hb6⟩|⟨h6,q,e6,hd6⟩)
   · cases h6
   subst e6;have hb6:=hd6.be;have Ar:=hid hd6;clear hd6;have hb46:Below w4.heap.size w4 w6:=Ad.out.trans (hb6.mono Ad.out.size);have x11:w6.cell? ⟨S0,11,none⟩=some (.slice oa c.sys.groups.length cap):=zaa (Aa.out w6 hb46).1 rfl;have Ae:=hid (Aj.out w6 hb46);clear s0 s1 s2 s3 s4 s5 s6 s7 s8 s9 s10 s11 Ac hb6 hb46 Ai Aj Aa;go_wp2_with fail
   refine Ae.out.mono ?_;rintro _ w7 ⟨rfl,Af⟩;have HE:Hid (Below w.heap.size w (w7.alloc (.cells #[ptr p,ptr q,.slice none 0 0] 52))∧zdr w (w7.alloc (.cells #[ptr p,ptr q,.slice none 0 0] 52)) c w7.heap.size):=by
    obtain ⟨q1,q2,q3⟩:=Af.out;refine ⟨q1.alloc q1.size _,.inr ⟨Ah.out,p,q,w4,w5,w6,g,Aq.out,Ar.out,Ab.out,q3,Al.out,fun b hb hne=>(Below.heap_alloc _ _ _ (Nat.lt_of_lt_of_le hb q2.size)).trans (q2.block b hb hne),q2.size,(MapKept.heap_alloc w7 _).1⟩⟩
   have hbl:=fun w=>bld52p p q w;clear Ae x11;go_wp2;go_ret2
   exact ⟨_,rfl,HE.out⟩
end Go.Proofs.YtfcbjcebkahehaaGreatDoor.Cl
namespace Go.Proofs.YtfcbjcebkahehaaGreatDoor
open Go.RowKit
theorem pbool_true (p:Nat) (v:Value) (M E:Int) (S:ByteArray) (w:World) (h:PW w p v M (Lib.strCells S) E) (hM0:0<=M) (hM1:M<=9223372036854775807) (hb:S.size+4<=140737488355328) :
 Calls Tryz.prog 118 #[.pointer (some ⟨p,0,none⟩),.bool true] w (zay p v M (rlay M S E ⟨(byL 4 1).toArray⟩) w):=by
 have H:Hid (Calls Tryz.prog 116 #[.pointer (some ⟨p,0,none⟩),iI 1] w (zay p v M (rlay M S E ⟨(byL 4 1).toArray⟩) w)):=zfl p v 1 M E S w h hM0 hM1 hb (by decide);generalize rlay M S E ⟨(byL 4 1).toArray⟩=r at H ⊢;clear h hM0 hM1 hb;go_enter Tryz.func118,Tryz.ntmps118
 go_wp2_with fail
 refine H.out.mono ?_;intro e w2 hp;obtain ⟨rfl,hp2⟩:=hp;have HP:Hid (∃ v',PW w2 p v' M (Lib.strCells r.1) r.2∧Kept p v v' w w2):=hp2;clear hp2;go_wp2;first|go_end0|refine bodyPost_ret (results_none rfl _ _ _) rfl ?_
 exact ⟨rfl,HP.out⟩
theorem pbool_false (p:Nat) (v:Value) (M E:Int) (S:ByteArray) (w:World) (h:PW w p v M (Lib.strCells S) E) (hM0:0<=M) (hM1:M<=9223372036854775807) (hb:S.size+4<=140737488355328) :
 Calls Tryz.prog 118 #[.pointer (some ⟨p,0,none⟩),.bool false] w (zay p v M (rlay M S E ⟨(byL 4 0).toArray⟩) w):=by
 have H:Hid (Calls Tryz.prog 116 #[.pointer (some ⟨p,0,none⟩),iI 0] w (zay p v M (rlay M S E ⟨(byL 4 0).toArray⟩) w)):=zfl p v 0 M E S w h hM0 hM1 hb (by decide);generalize rlay M S E ⟨(byL 4 0).toArray⟩=r at H ⊢;clear h hM0 hM1 hb;go_enter Tryz.func118,Tryz.ntmps118
 go_wp2_with fail
 refine H.out.mono ?_;intro e w2 hp;obtain ⟨rfl,hp2⟩:=hp;have HP:Hid (∃ v',PW w2 p v' M (Lib.strCells r.1) r.2∧Kept p v v' w w2):=hp2;clear hp2;go_wp2;first|go_end0|refine bodyPost_ret (results_none rfl _ _ _) rfl ?_
 exact ⟨rfl,HP.out⟩
theorem pcount_neg (p:Nat) (v:Value) (m n M E:Int) (S:ByteArray) (w:World) (h:PW w p v M (Lib.strCells S) E) (hw:(decide (0<=m)&&decide (m<=4294967295))=true) (hn:n<0) :
 Calls Tryz.prog 120 #[.pointer (some ⟨p,0,none⟩),iI m,iI n] w (zay p v M (S,zbc E 22) w):=by
 have H:Hid (Calls Tryz.prog 115 #[.pointer (some ⟨p,0,none⟩),iI 22] w (zay p v M (S,zbc E 22) w)):=zco p v M E 22 S w h;have HG:Hid (∀ w,Calls Tryz.prog 155 #[iI m] w fun e w'=>e=.returned (.bool true)∧w'=w):=fun w=>hw ▸ zca m w;clear h hw;go_enter Tryz.func120,Tryz.ntmps120
 go_wp2_with fail
 refine (HG.out _).mono ?_;rintro e w0 ⟨rfl,hw0⟩;have hw1:=hw0.symm;clear hw0;subst hw1;go_wp2_with fail
 refine H.out.mono ?_;intro e w2 hp;obtain ⟨rfl,hp2⟩:=hp;have HP:Hid (∃ v',PW w2 p v' M (Lib.strCells (S,zbc E 22).1) (S,zbc E 22).2∧Kept p v v' w w2):=hp2;clear hp2;go_wp2;first|go_end0|refine bodyPost_ret (results_none rfl _ _ _) rfl ?_
 exact ⟨rfl,HP.out⟩
theorem lay_any2 (p q m:Nat) (v:Value) (M E:Int) (S J:ByteArray) (ps:List ByteArray) (w:World) (h:PW w p v M (Lib.strCells S) E) (hc:∀ j,j<ps.length->w.cell? ⟨q,j,none⟩=some (.string (ps.getD j ⟨#[]⟩)))
 (hq1:q<w.heap.size) (hqp:q≠p) (hqv:some q≠v.ownBlock) (hps:ps.length=m) (hm:m<=100) (hJ:cellsOf ps ps.length=Lib.strCells J) (hM0:0<=M) (hM1:M<=2147483647) (hS:(S.size:Int)<=M) (hb:J.size<=140737488355328) :
 Calls Tryz.prog 156 #[.pointer (some ⟨p,0,none⟩),.slice (some ⟨q,0,none⟩) m m] w (zay p v M (rlay M S E J) w):=by
 subst hps;have hT:tot ps ps.length=J.size:=by rw [<- zd3 ps _ (Nat.le_refl _),hJ,Lib.strCells_length]
 have hL:(Lib.strCells S).length=S.size:=Lib.strCells_length S;unfold rlay;by_cases hE:E=0
 · subst hE;rw [if_neg (by simp)];by_cases hl:M<(S.size:Int)+(J.size:Int)
   · rw [if_pos hl];refine (lay_long p q v M (Lib.strCells S) ps w h hc hm hM0 (by omega) (by omega) (by omega) (by omega)).mono ?_;rintro e w' ⟨rfl,k,rfl⟩;exact ⟨rfl,v,(h.drewN k).setE 23,Kept.drewNSet p v w k 2 _⟩
   · rw [if_neg hl];refine (lay_fits p q v M (Lib.strCells S) ps w h hc hq1 hqp hqv hm hM0 (by omega) (by omega) (by omega) (by omega) (by omega)).mono ?_;rintro e w' ⟨rfl,v',h1,h2⟩;refine ⟨rfl,v',?_,h2⟩;have e1:Lib.strCells (S++J)=Lib.strCells S++cellsOf ps ps.length:=(by rw [hJ];simp [Lib.strCells]);rw [e1];exact h1
 · rw [if_pos hE];refine (lay_wrong p q v M E (Lib.strCells S) ps w h hE hc hm hM0 (by omega) (by omega) (by omega)).mono ?_;rintro e w' ⟨rfl,k,rfl⟩;exact ⟨rfl,v,h.drewN k,Kept.drewN p v w k⟩
theorem lay_one2 (p q:Nat) (v:Value) (M E:Int) (S s:ByteArray) (w w1:World) (h:PW w p v M (Lib.strCells S) E) (hB:Below w.heap.size w w1) (hq0:w.heap.size<=q) (hq1:q<w1.heap.size)
 (hc:w1.cell? ⟨q,0,none⟩=some (.string s)) (hM0:0<=M) (hM1:M<=2147483647) (hS:(S.size:Int)<=M) (hb:s.size<=140737488355328) :
 Calls Tryz.prog 156 #[.pointer (some ⟨p,0,none⟩),.slice (some ⟨q,0,none⟩) 1 1] w1 (zay p v M (rlay M S E s) w):=by
 have hlt:=h.lt
 refine (lay_any2 p q 1 v M E S s [s] w1 (h.below hB) (fun j hj=>by
  obtain rfl:j=0:=by simp at hj;omega
  exact hc) hq1 (by omega) (fun e=>?_) rfl (by omega) (by simp [cellsOf]) hM0 hM1 hS hb).mono fun e w' hp=>hp.behind hB
 have:=(h.own.lt q e.symm).2
 omega
theorem praw_bad (p:Nat) (v:Value) (M E:Int) (S s:ByteArray) (w:World) (h:PW w p v M (Lib.strCells S) E) (h4:((s.size:Int) % 4 != 0)=true) :
 Calls Tryz.prog 124 #[.pointer (some ⟨p,0,none⟩),.string s] w (zay p v M (S,zbc E 1) w):=by
 have H:Hid (Calls Tryz.prog 115 #[.pointer (some ⟨p,0,none⟩),iI 1] w (zay p v M (S,zbc E 1) w)):=zco p v M E 1 S w h;generalize (S,zbc E 1)=r at H ⊢;clear h;go_enter Tryz.func124,Tryz.ntmps124
 go_wp2_with fail
 refine H.out.mono ?_;intro e w2 hp;obtain ⟨rfl,hp2⟩:=hp;have HP:Hid (∃ v',PW w2 p v' M (Lib.strCells r.1) r.2∧Kept p v v' w w2):=hp2;clear hp2;go_wp2;first|go_end0|refine bodyPost_ret (results_none rfl _ _ _) rfl ?_
 exact ⟨rfl,HP.out⟩
theorem praw_ok (p:Nat) (v:Value) (M E:Int) (S s:ByteArray) (w:World) (h:PW w p v M (Lib.strCells S) E) (hM0:0<=M) (hM1:M<=2147483647) (hS:(S.size:Int)<=M) (hb:s.size<=140737488355328) (h4:((s.size:Int) % 4 != 0)=false) :
 Calls Tryz.prog 124 #[.pointer (some ⟨p,0,none⟩),.string s] w (zay p v M (rlay M S E s) w):=by
 have H:Hid (∀ q w1,Below w.heap.size w w1->w.heap.size<=q->q<w1.heap.size->w1.cell? ⟨q,0,none⟩=some (.string s)->Calls Tryz.prog 156 #[.pointer (some ⟨p,0,none⟩),.slice (some ⟨q,0,none⟩) 1 1] w1 (zay p v M (rlay M S E s) w)) :=
  fun q w1 hB h0 h1 hc=>lay_one2 p q v M E S s w w1 h hB h0 h1 hc hM0 hM1 hS hb
 have HB:Hid (Below w.heap.size w w):=Below.refl _ _;clear h hM0 hM1 hb hS;go_enter Tryz.func124,Tryz.ntmps124
 go_wp2_with fail
 refine (H.out _ _ (HB.out.alloc HB.out.size _) HB.out.size (by simp) (by simp)).mono ?_;intro e w2 hp;obtain ⟨rfl,hp2⟩:=hp;have HP:Hid (∃ v',PW w2 p v' M (Lib.strCells (rlay M S E s).1) (rlay M S E s).2∧Kept p v v' w w2):=hp2;clear hp2;go_wp2;first|go_end0|refine bodyPost_ret (results_none rfl _ _ _) rfl ?_
 exact ⟨rfl,HP.out⟩
def rdBool (l:List UInt8):Rd Bool:=if (zad l).wrong≠0 then ⟨(zad l).wrong,4,false⟩ else if 1<(zad l).val then ⟨25,4,false⟩ else ⟨0,4,(zad l).val==1⟩
theorem rbool_A {Q:World->Prop} (p:Nat) (n:Int) (x:Value) (s:ByteArray) (w:World) (h0:w.cell? ⟨p,0,none⟩=some (.string s))
 (H1:Hid (Calls Tryz.prog 158 #[.string s] w fun e w'=>e=.returned (.tuple #[.int .u32 n,.iface 244 x])∧Below w.heap.size w w'))
 (H3:Hid (∀ w1,Below w.heap.size w w1->Calls Tryz.prog 159 #[.pointer (some ⟨p,0,none⟩),iI 4,.iface 244 x] w1 fun e w'=>e=.returned (.bool false)∧Q w')) :
 Calls Tryz.prog 119 #[.pointer (some ⟨p,0,none⟩)] w fun e w'=>e=.returned (.bool false)∧Q w':=by
 have q:=zdo x;go_enter Tryz.func119,Tryz.ntmps119
 go_wp2_with fail
 refine H1.out.mono ?_;rintro e w1 ⟨rfl,hB⟩;have HB:Hid (Below w.heap.size w w1):=hB;clear hB;go_wp2_with fail
 refine (H3.out _ HB.out).mono ?_;rintro e w2 ⟨rfl,hQ⟩;have HQ:Hid (Q w2):=hQ;clear hQ;go_wp2;go_ret;exact ⟨rfl,HQ.out⟩
theorem rbool_B {Q:World->Prop} (p:Nat) (n:Int) (s:ByteArray) (w:World) (h0:w.cell? ⟨p,0,none⟩=some (.string s)) (hn:1<n)
 (H1:Hid (Calls Tryz.prog 158 #[.string s] w fun e w'=>e=.returned (.tuple #[.int .u32 n,.nilIface])∧Below w.heap.size w w'))
 (H3:Hid (∀ w1,Below w.heap.size w w1->Calls Tryz.prog 159 #[.pointer (some ⟨p,0,none⟩),iI 4,.iface 244 (.agg #[iI 25])] w1 fun e w'=>e=.returned (.bool false)∧Q w')) :
 Calls Tryz.prog 119 #[.pointer (some ⟨p,0,none⟩)] w fun e w'=>e=.returned (.bool false)∧Q w':=by
 go_enter Tryz.func119,Tryz.ntmps119
 go_wp2_with fail
 refine H1.out.mono ?_;rintro e w1 ⟨rfl,hB⟩;have HB:Hid (Below w.heap.size w w1):=hB;clear hB;go_wp2_with fail
 refine (H3.out _ HB.out).mono ?_;rintro e w2 ⟨rfl,hQ⟩;have HQ:Hid (Q w2):=hQ;clear hQ;go_wp2;go_ret;exact ⟨rfl,HQ.out⟩
theorem rbool_C {Q:World->Prop} (p:Nat) (n:Int) (b:Bool) (s:ByteArray) (w:World) (h0:w.cell? ⟨p,0,none⟩=some (.string s)) (hn:¬ 1<n)
 (H1:Hid (Calls Tryz.prog 158 #[.string s] w fun e w'=>e=.returned (.tuple #[.int .u32 n,.nilIface])∧Below w.heap.size w w'))
 (H3:Hid (∀ w1,Below w.heap.size w w1->Calls Tryz.prog 159 #[.pointer (some ⟨p,0,none⟩),iI 4,.nilIface] w1 fun e w'=>e=.returned (.bool b)∧Q w')) :
 Calls Tryz.prog 119 #[.pointer (some ⟨p,0,none⟩)] w fun e w'=>e=.returned (.bool (if b then n==1 else false))∧Q w':=by
 cases b
 · go_enter Tryz.func119,Tryz.ntmps119
   go_wp2_with fail
   refine H1.out.mono ?_;rintro e w1 ⟨rfl,hB⟩;have HB:Hid (Below w.heap.size w w1):=hB;clear hB;go_wp2_with fail
   refine (H3.out _ HB.out).mono ?_;rintro e w2 ⟨rfl,hQ⟩;have HQ:Hid (Q w2):=hQ;clear hQ;go_wp2;go_ret;exact ⟨rfl,HQ.out⟩
 · go_enter Tryz.func119,Tryz.ntmps119
   go_wp2_with fail
   refine H1.out.mono ?_;rintro e w1 ⟨rfl,hB⟩;have HB:Hid (Below w.heap.size w w1):=hB;clear hB;go_wp2_with fail
   refine (H3.out _ HB.out).mono ?_;rintro e w2 ⟨rfl,hQ⟩;have HQ:Hid (Q w2):=hQ;clear hQ;go_wp2;go_ret;exact ⟨rfl,HQ.out⟩
theorem rbool_any (p:Nat) (l:List UInt8) (E:Int) (w:World) (h:RR w p l E):Calls Tryz.prog 119 #[.pointer (some ⟨p,0,none⟩)] w (zc3 p l E false rdBool (fun b=>.bool b) w):=by
 have hf:=zej l w;by_cases hw:(zad l).wrong=0
 · rw [hw] at hf;have h4:=(zdz l).2.1 hw;by_cases hv:1<(zad l).val
   · refine (rbool_B (Q:=fun w'=>RR w' p l (if E=0 then 25 else E)∧Sole p w w') p _ _ w h.l (by omega) hf (fun w1 hB=>tk_bad p E 25 l w h (by decide) 4 w1 hB)).mono ?_;exact fun e w' hp=>zc3.bad (F:=25) (by unfold rdBool;rw [if_neg (by simp [hw]),if_pos hv]) (by decide) hp
   · obtain ⟨b,hb⟩:∃ b,decide (E=0)=b:=⟨_,rfl⟩;refine (rbool_C (Q:=fun w'=>RR w' p (if b then l.drop 4 else l) E∧Sole p w w') p _ b _ w h.l (by omega) hf (fun w1 hB=>tk_good p 4 E l b w h hb h4 w1 hB)).mono ?_;intro e w' hp;refine zc3.good (k:=4) (x:=(zad l).val==1) b hb (by unfold rdBool;rw [if_neg (by simp [hw]),if_neg hv]) ?_;have e1:(((zad l).val:Int)==1)=((zad l).val==1):=by
      rw [Bool.eq_iff_iff];simp only [beq_iff_eq];omega
     rw [e1] at hp;exact hp
 · rw [trW_ne hw] at hf;have ht:=tk_bad p E _ l w h hw 4;rw [trW_ne hw] at ht;refine (rbool_A (Q:=fun w'=>RR w' p l (if E=0 then (zad l).wrong else E)∧Sole p w w') p _ _ _ w h.l hf ht).mono ?_;exact fun e w' hp=>zc3.bad (F:=(zad l).wrong) (by unfold rdBool;rw [if_pos hw]) hw hp
def zbv (l:List UInt8):Rd (List UInt8):=⟨0,l.length,l⟩
theorem rrest_B {Q:World->Prop} (p:Nat) (b:Bool) (s:ByteArray) (w:World) (h0:w.cell? ⟨p,0,none⟩=some (.string s))
 (H3:Hid (∀ w1,Below w.heap.size w w1->Calls Tryz.prog 159 #[.pointer (some ⟨p,0,none⟩),iI s.size,.nilIface] w1 fun e w'=>e=.returned (.bool b)∧Q w'))
 (H4:Hid (∀ w,Calls Tryz.prog 45 #[.string s] w fun e w'=>e=.returned (.string s)∧Below w.heap.size w w'))
 (Aa:Hid (∀ a c,Q a->Below a.heap.size a c->Q c)) :
 Calls Tryz.prog 125 #[.pointer (some ⟨p,0,none⟩)] w fun e w'=>e=.returned (.string (if b then s else ⟨#[]⟩))∧Q w':=by
 have HB:Hid (Below w.heap.size w w):=Below.refl _ _;cases b
 · go_enter Tryz.func125,Tryz.ntmps125
   go_wp2_with fail
   refine (H3.out _ HB.out).mono ?_;rintro e w2 ⟨rfl,hQ⟩;have HQ:Hid (Q w2):=hQ;clear hQ;go_wp2;go_ret;exact ⟨rfl,HQ.out⟩
 · go_enter Tryz.func125,Tryz.ntmps125
   go_wp2_with fail
   refine (H3.out _ HB.out).mono ?_;rintro e w2 ⟨rfl,hQ⟩;have HQ:Hid (Q w2):=hQ;clear hQ;go_wp2_with fail
   refine (H4.out _).mono ?_;rintro e w3 ⟨rfl,hB3⟩;have Ab:Hid (Q w3):=Aa.out _ _ HQ.out hB3;clear hB3;go_wp2;go_ret;exact ⟨rfl,Ab.out⟩
theorem rrest_any (p:Nat) (l:List UInt8) (E:Int) (w:World) (h:RR w p l E) (hl:l.length<=281474976710656) :
 Calls Tryz.prog 125 #[.pointer (some ⟨p,0,none⟩)] w (zc3 p l E [] zbv (fun s=>Bs s) w):=by
 obtain ⟨b,hb⟩:∃ b,decide (E=0)=b:=⟨_,rfl⟩;refine (rrest_B (Q:=fun w'=>RR w' p (if b then l.drop l.length else l) E∧Sole p w w') p b _ w h.l (fun w1 hB=>by rw [za4];exact tk_good p l.length E l b w h hb (Nat.le_refl _) w1 hB) (clone_rd l hl) RR.sole_below).mono ?_;intro e w' hp;refine zc3.good (k:=l.length) (x:=l) b hb rfl ?_;refine ⟨?_,hp.2⟩;rw [hp.1];cases b <;> rfl
theorem rleft_any (p:Nat) (s:ByteArray) (w:World) (h0:w.cell? ⟨p,0,none⟩=some (.string s)):Calls Tryz.prog 245 #[.pointer (some ⟨p,0,none⟩)] w fun e w'=>e=.returned (iI s.size)∧w'=w:=by
 go_enter Tryz.func245,Tryz.ntmps245
 go_wp2;go_ret;exact ⟨rfl,rfl⟩
def Rs.fail (st:Rs) (F:Int):Rs:=⟨st.l,if st.e=0 then F else st.e⟩
theorem rfail_first (p:Nat) (F:Int) (l:List UInt8) (w:World) (h:RR w p l 0) :
 Calls Tryz.prog 189 #[.pointer (some ⟨p,0,none⟩),iI F] w fun e w'=>e=.returned (.tuple #[])∧∃ k,w'=(w.drewN k).setCell ⟨p,1,none⟩ (trW F):=by
 have h2:=h.e;have h5:=h.f1;have H1:Hid (∀ w,Calls Tryz.prog 154 #[iI F] w fun r w'=>r=.returned (trW F)∧w'=w):=fun w=>zda F w;have H2:Hid (∀ k,Calls Tryz.prog 153 #[.pointer (some ⟨p,1,none⟩),trW F] (w.drewN k) fun r w'=>r=.returned (.tuple #[])∧w'=(w.drewN k).setCell ⟨p,1,none⟩ (trW F)):=fun k=>zef ⟨p,1,none⟩ F (w.drewN k) h2 h5;clear h h2 h5;go_enter Tryz.func189,Tryz.ntmps189
 go_wp2_with fail
 go_region_with (first|(go_at_call 154;refine (H1.out _).mono ?_;rintro e w' ⟨rfl,rfl⟩)|(go_at_call 153;refine (H2.out 1).mono ?_;rintro e w' ⟨rfl,rfl⟩))
 go_wp2;first|go_end0|refine bodyPost_ret (results_none rfl _ _ _) rfl ?_
 exact ⟨rfl,1,rfl⟩
theorem rfail_later (p:Nat) (E F:Int) (l:List UInt8) (w:World) (h:RR w p l E) (hE:E≠0) :
 Calls Tryz.prog 189 #[.pointer (some ⟨p,0,none⟩),iI F] w fun e w'=>e=.returned (.tuple #[])∧∃ k,w'=w.drewN k:=by
 have h2:=h.e;unfold trW at h2;rw [if_neg hE] at h2;have H1:Hid (∀ w,Calls Tryz.prog 154 #[iI F] w fun r w'=>r=.returned (trW F)∧w'=w):=fun w=>zda F w;have H2:Hid (∀ k,Calls Tryz.prog 153 #[.pointer (some ⟨p,1,none⟩),trW F] (w.drewN k) fun r w'=>r=.returned (.tuple #[])∧w'=w.drewN k):=fun k=>zee ⟨p,1,none⟩ (trW F) _ (w.drewN k) h2;clear h h2;go_enter Tryz.func189,Tryz.ntmps189
 go_wp2_with fail
 go_region_with (first|(go_at_call 154;refine (H1.out _).mono ?_;rintro e w' ⟨rfl,rfl⟩)|(go_at_call 153;refine (H2.out 1).mono ?_;rintro e w' ⟨rfl,rfl⟩))
 go_wp2;first|go_end0|refine bodyPost_ret (results_none rfl _ _ _) rfl ?_
 exact ⟨rfl,1,rfl⟩
theorem RR.drewN {w:World} {p:Nat} {l:List UInt8} {E:Int} (h:RR w p l E) (k:Nat):RR (w.drewN k) p l E:=⟨h.l,h.e,h.f0,h.f1⟩
theorem rfail_any (p:Nat) (F:Int) (st:Rs) (w:World) (h:RR w p st.l st.e) :
 Calls Tryz.prog 189 #[.pointer (some ⟨p,0,none⟩),iI F] w fun e w'=>e=.returned (.tuple #[])∧RR w' p (st.fail F).l (st.fail F).e∧Sole p w w':=by
 obtain ⟨l,E⟩:=st;unfold Rs.fail;by_cases hE:E=0
 · subst hE;refine (rfail_first p F l w h).mono ?_;rintro e w' ⟨rfl,k,rfl⟩;exact ⟨rfl,(RR.drewN h k).setE F,(Sole.drewN p w k).trans (Sole.setCell _ _ _)⟩
 · refine (rfail_later p E F l w h hE).mono ?_;rintro e w' ⟨rfl,k,rfl⟩;refine ⟨rfl,?_,Sole.drewN p w k⟩;show RR _ p l (if E=0 then F else E);rw [if_neg hE];exact RR.drewN h k
end Go.Proofs.YtfcbjcebkahehaaGreatDoor
namespace Go.Proofs.YtfcbjcebkahehaaGreatDoor
theorem nat_w {n:Nat} (h:n<4294967296):isW (n:Int):=by unfold isW;omega
structure AuthP where
 flavor:Int
 body:List UInt8
def AuthP.may (a:AuthP):Prop:=isW a.flavor∧a.body.length<=400
instance AuthP.dec (a:AuthP):Decidable a.may:=inferInstanceAs (Decidable (_∧_))
def AuthP.lay (a:AuthP):List UInt8:=nbL 4 a.flavor.toNat++(nbL 4 a.body.length++(a.body++padB a.body.length))
def za7 (st:Rs):AuthP×Rs:=(⟨(st.go 0 zad).1,((st.go 0 zad).2.go [] (zao 400)).1⟩,((st.go 0 zad).2.go [] (zao 400)).2)
theorem zhd (a:AuthP) (h:a.may) (r:List UInt8):za7 ⟨a.lay++r,0⟩=(a,⟨r,0⟩):=by
 obtain ⟨h1,h2⟩:=zbf h.1;unfold za7 AuthP.lay;rw [List.append_assoc,zf8 (zf7 _ h1)];simp only [];rw [zf8 (good_opaque 400 a.body (by have:=h.2;omega) (by decide))];simp only [h2]
theorem auth_back (st:Rs) (h:(za7 st).2.e=0):st.e=0∧(za7 st).1.may∧st.l=(za7 st).1.lay++(za7 st).2.l:=by
 obtain ⟨b1,b2,b3⟩:=zei (one_opaque 400) [] (st.go 0 zad).2 h;obtain ⟨a1,a2,a3⟩:=zei zc8 0 st b1;refine ⟨a1,⟨show isW ((st.go 0 zad).1:Int) from nat_w a2,Int.ofNat_le.1 b2.2.2⟩,?_⟩;show st.l=AuthP.lay ⟨_,_⟩++_;unfold AuthP.lay;rw [a3,b3];simp only [Int.toNat_natCast,List.append_assoc];rfl
theorem zfp (a:AuthP) (h:a.may):a.lay.length<=408∧a.lay.length%4=0:=by
 have:=h.2
 unfold AuthP.lay;simp only [List.length_append,zaf,zau];unfold pads;omega
structure CallP where
 xid:Int
 rpc:Int
 prog:Int
 vers:Int
 proc:Int
 cred:AuthP
 verf:AuthP
 args:List UInt8
def za8 (s:List UInt8):Prop:=s.length<=1000∧s.length%4=0
instance za8.dec (s:List UInt8):Decidable (za8 s):=inferInstanceAs (Decidable (_∧_))
def CallP.may (c:CallP):Prop:=isW c.xid∧c.rpc=2∧isW c.prog∧isW c.vers∧isW c.proc∧c.cred.may∧c.verf.may∧za8 c.args
instance CallP.dec (c:CallP):Decidable c.may:=inferInstanceAs (Decidable (_∧_))
def CallP.lay (c:CallP):List UInt8:=nbL 4 c.xid.toNat++(nbL 4 0++(nbL 4 c.rpc.toNat++(nbL 4 c.prog.toNat++(nbL 4 c.vers.toNat++(nbL 4 c.proc.toNat++(c.cred.lay++(c.verf.lay++c.args)))))))
structure ReplyP where
 xid:Int
 denied:Bool
 verf:AuthP
 accept:Int
 low:Int
 high:Int
 results:List UInt8
 reject:Int
 why:Int
def nulA:AuthP:=⟨0,[]⟩
def ReplyP.may (r:ReplyP):Prop:=isW r.xid∧(if r.denied then r.verf=nulA∧r.accept=0∧r.results=[]∧((r.reject=0∧isW r.low∧isW r.high∧r.why=0)∨(r.reject=1∧r.low=0∧r.high=0∧0<=r.why∧r.why<=14))
 else r.verf.may∧r.reject=0∧r.why=0∧0<=r.accept∧r.accept<=5∧((r.accept=0∧za8 r.results∧r.low=0∧r.high=0)∨(r.accept=2∧isW r.low∧isW r.high∧r.results=[])∨(r.accept≠0∧r.accept≠2∧r.low=0∧r.high=0∧r.results=[])))
def ReplyP.lay (r:ReplyP):List UInt8:=nbL 4 r.xid.toNat++(nbL 4 1++(if r.denied then nbL 4 1++(nbL 4 r.reject.toNat++(if r.reject=1 then nbL 4 r.why.toNat else nbL 4 r.low.toNat++nbL 4 r.high.toNat)) else nbL 4 0++(r.verf.lay++(nbL 4 r.accept.toNat++((if r.accept=2 then nbL 4 r.low.toNat++nbL 4 r.high.toNat else [])++r.results)))))
def rdDen (x:Nat) (st:Rs):ReplyP×Rs:=
 let j:=st.go 0 zad
 if j.1=1 then (⟨x,true,nulA,0,0,0,[],1,(j.2.go 0 zad).1⟩,(j.2.go 0 zad).2)
 else (⟨x,true,nulA,0,(j.2.go 0 zad).1,((j.2.go 0 zad).2.go 0 zad).1,[],j.1,0⟩,((j.2.go 0 zad).2.go 0 zad).2)
theorem zbi {n:Int} (h:isW n) (r:List UInt8):(⟨nbL 4 n.toNat++r,0⟩:Rs).go 0 zad=(n.toNat,⟨r,0⟩):=zf8 (zf7 _ (zbf h).1) 0 r
theorem den_there (r:ReplyP) (h:r.may) (hd:r.denied=true) (x:Nat) (hx:(x:Int)=r.xid):(rdDen x ⟨nbL 4 r.reject.toNat++(if r.reject=1 then nbL 4 r.why.toNat else nbL 4 r.low.toNat++nbL 4 r.high.toNat),0⟩)=(r,⟨[],0⟩):=by
 obtain ⟨rx,rd,rv,ra,rl,rh,rr,rj,rw_⟩:=r;obtain ⟨_,h2⟩:=h;simp only at hd h2 hx ⊢;subst hd;rw [if_pos rfl] at h2;obtain ⟨rfl,rfl,rfl,h3⟩:=h2;rcases h3 with ⟨rfl,h4,h5,rfl⟩|⟨rfl,rfl,rfl,h4,h5⟩
 · unfold rdDen;simp only [show ¬ (0:Int)=1 by decide,if_false];rw [zbi (n:=0) (by decide)];simp only [show ¬ ((0:Int).toNat)=1 by decide,if_false];rw [zbi h4];simp only [];have e:=zbi h5 [];rw [List.append_nil] at e;rw [e];simp only [(zbf h4).2,(zbf h5).2,hx];rfl
 · unfold rdDen;simp only [if_true];rw [zbi (n:=1) (by decide)];simp only [show ((1:Int).toNat)=1 from rfl,if_true];have hw:isW rw_:=by unfold isW;omega
   have e:=zbi hw [];rw [List.append_nil] at e;rw [e];simp only [(zbf hw).2,hx]
end Go.Proofs.YtfcbjcebkahehaaGreatDoor
namespace Go.Proofs.YtfcbjcebkahehaaGreatDoor
open Go.RowKit
theorem Bk.of {w w' : World} {b:Nat} {cs:List Value} {t:TypeId} (h:Bk w b cs t) (hb:w'.heap[b]?=w.heap[b]?):Bk w' b cs t:=hb.trans h
structure Fr (F:Nat->Prop) (w w' : World):Prop where
 os:w'.os=w.os
 tape:w'.tape=w.tape
 output:w'.output=w.output
 size:w.heap.size<=w'.heap.size
 block:∀ b,F b->w'.heap[b]?=w.heap[b]?
theorem Fr.refl (F:Nat->Prop) (w:World):Fr F w w:=⟨rfl,rfl,rfl,Nat.le_refl _,fun _ _=>rfl⟩
theorem Fr.trans {F:Nat->Prop} {a b c:World} (h:Fr F a b) (k:Fr F b c):Fr F a c:=⟨k.os.trans h.os,k.tape.trans h.tape,k.output.trans h.output,Nat.le_trans h.size k.size,fun i hi=>(k.block i hi).trans (h.block i hi)⟩
theorem Fr.mono {F G:Nat->Prop} {a b:World} (h:Fr F a b) (hG:∀ i,G i->F i):Fr G a b:=⟨h.os,h.tape,h.output,h.size,fun i hi=>h.block i (hG i hi)⟩
theorem Fr.of_below {F:Nat->Prop} {a b:World} {B:Nat} (h:Below B a b) (hF:∀ i,F i->i<B):Fr F a b:=⟨h.os,h.tape,h.output,h.size,fun i hi=>h.block i (hF i hi)⟩
theorem Fr.below {F:Nat->Prop} {a b:World} {B:Nat} (h:Fr F a b) (hF:∀ i,i<B->F i):Below B a b:=⟨h.os,h.tape,h.output,h.size,fun i hi=>h.block i (hF i hi)⟩
def WrK (F:Nat->Prop) (w:World) (p:Nat) (M:Int) (P:Prop) (l:List UInt8):Prop :=
 ∃ v S E,PW w p v M (Lib.strCells S) E∧(S.size:Int)<=M∧(E=0↔P)∧(P->S=⟨l.toArray⟩)∧∀ b,v.ownBlock=some b->¬ F b
def Ok (F:Nat->Prop) (w:World) (p:Nat):Prop:=∀ b,F b->b<w.heap.size∧b≠p
def zc4 (F:Nat->Prop) (p:Nat) (M:Int) (P:Prop) (l:List UInt8) (w:World) (e:Ending) (w' : World):Prop :=
 e=.returned (.tuple #[])∧WrK F w' p M P l∧Fr F w w'
theorem WrK.lt {F:Nat->Prop} {w:World} {p:Nat} {M:Int} {P:Prop} {l:List UInt8} (h:WrK F w p M P l):p<w.heap.size:=by
 obtain ⟨v,S,E,h1,_⟩:=h;exact h1.lt
theorem WrK.iff {F:Nat->Prop} {w:World} {p:Nat} {M:Int} {P Q:Prop} {l m:List UInt8} (h:WrK F w p M P l) (hq:Q↔P) (hl:P->l=m):WrK F w p M Q m:=by
 obtain ⟨v,S,E,h1,h2,h3,h4,h5⟩:=h;exact ⟨v,S,E,h1,h2,h3.trans hq.symm,fun q=>by rw [<- hl (hq.1 q)];exact h4 (hq.1 q),h5⟩
theorem WrK.below {F:Nat->Prop} {w w' : World} {p:Nat} {M:Int} {P:Prop} {l:List UInt8} (h:WrK F w p M P l) (hB:Below w.heap.size w w'):WrK F w' p M P l:=by
 obtain ⟨v,S,E,h1,h2⟩:=h;exact ⟨v,S,E,h1.below hB,h2⟩
theorem WrK.less {F G:Nat->Prop} {w:World} {p:Nat} {M:Int} {P:Prop} {l:List UInt8} (h:WrK F w p M P l) (hG:∀ b,G b->F b):WrK G w p M P l:=by
 obtain ⟨v,S,E,h1,h2,h3,h4,h5⟩:=h;exact ⟨v,S,E,h1,h2,h3,h4,fun b e hb=>h5 b e (hG b hb)⟩
theorem WrK.more {F G:Nat->Prop} {w w' : World} {p:Nat} {M:Int} {P:Prop} {l:List UInt8} (h:WrK F w p M P l) (hB:Below w.heap.size w w') (hG:∀ b,G b->F b∨w.heap.size<=b):WrK G w' p M P l:=by
 obtain ⟨v,S,E,h1,h2,h3,h4,h5⟩:=h;refine ⟨v,S,E,h1.below hB,h2,h3,h4,fun b e hb=>?_⟩;rcases hG b hb with h6|h6
 · exact h5 b e h6
 · have:=(h1.own.lt b e).2
   omega
theorem WrK.toP {F:Nat->Prop} {w:World} {p:Nat} {M:Int} {P:Prop} {l:List UInt8} (h:WrK F w p M P l):WrP w p M P l:=by
 obtain ⟨v,S,E,h1,h2,h3,h4,_⟩:=h;exact ⟨v,S,E,h1,h2,h3,h4⟩
theorem Ok.below {F:Nat->Prop} {w w' : World} {p:Nat} (h:Ok F w p) (hz:w.heap.size<=w'.heap.size):Ok F w' p:=fun b hb=>⟨Nat.lt_of_lt_of_le (h b hb).1 hz,(h b hb).2⟩
theorem kept_fr {F:Nat->Prop} {p:Nat} {v v' : Value} {w w' : World} (hF:Ok F w p) (hv:∀ b,v.ownBlock=some b->¬ F b) (k:Kept p v v' w w'):Fr F w w'∧∀ b,v'.ownBlock=some b->¬ F b:=by
 refine ⟨⟨k.os,k.tape,k.output,k.size,fun b hb=>k.block b (hF b hb).1 (hF b hb).2 (fun e=>hv b e.symm hb)⟩,fun b e hb=>?_⟩;rcases k.row with h|⟨g,h1,h2⟩
 · exact hv b (h ▸ e) hb
 · rw [h2] at e;cases e;have:=(hF b hb).1
   omega
theorem zcl {F:Nat->Prop} {p:Nat} {M:Int} {P:Prop} {l t:List UInt8} {v:Value} {S s:ByteArray} {E:Int} {w w' : World} {e:Ending} (hF:Ok F w p) (hv:∀ b,v.ownBlock=some b->¬ F b) (hz:(S.size:Int)<=M) (hP:E=0↔P) (hS:P->S=⟨l.toArray⟩)
 (hs:s=⟨t.toArray⟩) (hr:P->(l.length:Int)+t.length<=M) (hw:zay p v M (rlay M S E s) w e w'):zc4 F p M P (l++t) w e w':=by
 obtain ⟨h1,v',h2,h3⟩:=hw;obtain ⟨k1,k2⟩:=kept_fr hF hv h3;refine ⟨h1,?_,k1⟩;subst hs;by_cases hp:P
 · have e0:=hP.2 hp;have eS:=hS hp;subst eS e0;have hfit:=hr hp;have er:rlay M ⟨l.toArray⟩ 0 ⟨t.toArray⟩=(⟨(l++t).toArray⟩,0):=by
    unfold rlay;rw [if_neg (by simp),if_neg (by rw [zar,zar];omega),bapp]
   rw [er] at h2;exact ⟨v',_,_,h2,by show (((⟨(l++t).toArray⟩:ByteArray).size:Nat):Int)<=M;rw [zar,List.length_append];omega,by simp [hp],fun _=>rfl,k2⟩
 · have e0:E≠0:=fun x=>hp (hP.1 x);have er:rlay M S E ⟨t.toArray⟩=(S,E):=by unfold rlay;rw [if_pos e0]
   rw [er] at h2;exact ⟨v',_,_,h2,hz,hP,fun q=>absurd q hp,k2⟩
theorem zcm {F:Nat->Prop} {p:Nat} {M:Int} {P Q:Prop} {l:List UInt8} {v:Value} {S:ByteArray} {E N:Int} {w w' : World} {e:Ending} (hF:Ok F w p) (hv:∀ b,v.ownBlock=some b->¬ F b) (hz:(S.size:Int)<=M) (hN:N≠0) (hQ:¬ Q)
 (hw:zay p v M (S,zbc E N) w e w'):zc4 F p M (P∧Q) l w e w':=by
 obtain ⟨h1,v',h2,h3⟩:=hw;obtain ⟨k1,k2⟩:=kept_fr hF hv h3;refine ⟨h1,⟨v',_,_,h2,hz,?_,fun q=>absurd q.2 hQ,k2⟩,k1⟩;constructor
 · intro x;have x' : zbc E N=0:=x;unfold zbc at x';split at x'
   · exact absurd x' hN
   · rename_i h0;exact absurd x' h0
 · exact fun q=>absurd q.2 hQ
theorem zc4.more {F:Nat->Prop} {p:Nat} {M:Int} {P Q:Prop} {l:List UInt8} {w w' : World} {e:Ending} (hq:Q) (h:zc4 F p M P l w e w'):zc4 F p M (P∧Q) l w e w' :=
 ⟨h.1,h.2.1.iff ⟨fun x=>x.1,fun x=>⟨x,hq⟩⟩ fun _=>rfl,h.2.2⟩
theorem k_uint (F:Nat->Prop) (p:Nat) (n M:Int) (P:Prop) (l:List UInt8) (w:World) (h:WrK F w p M P l) (hF:Ok F w p) (hM0:0<=M) (hM1:M<=2147483647) (hr:P->isW n->(l.length:Int)+4<=M) :
 Calls Tryz.prog 116 #[.pointer (some ⟨p,0,none⟩),iI n] w (zc4 F p M (P∧isW n) (l++nbL 4 n.toNat) w):=by
 obtain ⟨v,S,E,h1,h2,h3,h4,h5⟩:=h;by_cases hn:isW n
 · refine (zfl p v n M E S w h1 hM0 (by omega) (by omega) (by rw [zew];exact decide_eq_true hn)).mono fun e w' hp=>?_;have e4:=zb1 4 n hn.1 (by have:=hn.2;simp;omega);exact (zcl (t:=nbL 4 n.toNat) hF h5 h2 h3 h4 (by rw [e4]) (by rw [zaf];exact fun q=>hr q hn) hp).more hn
 · refine (puint_bad p v n M E S w h1 (by rw [zew];exact decide_eq_false hn)).mono fun e w' hp=>?_;exact zcm hF h5 h2 (by decide) hn hp
theorem k_bool (F:Nat->Prop) (p:Nat) (x:Bool) (M:Int) (P:Prop) (l:List UInt8) (w:World) (h:WrK F w p M P l) (hF:Ok F w p) (hM0:0<=M) (hM1:M<=2147483647) (hr:P->(l.length:Int)+4<=M) :
 Calls Tryz.prog 118 #[.pointer (some ⟨p,0,none⟩),.bool x] w (zc4 F p M (P∧True) (l++nbL 4 (if x then 1 else 0)) w):=by
 obtain ⟨v,S,E,h1,h2,h3,h4,h5⟩:=h;cases x
 · refine (pbool_false p v M E S w h1 hM0 (by omega) (by omega)).mono fun e w' hp=>?_;have e4:=zb1 4 0 (by decide) (by decide);exact (zcl (t:=nbL 4 0) hF h5 h2 h3 h4 (by rw [e4];rfl) (by rw [zaf];exact hr) hp).more trivial
 · refine (pbool_true p v M E S w h1 hM0 (by omega) (by omega)).mono fun e w' hp=>?_;have e4:=zb1 4 1 (by decide) (by decide);exact (zcl (t:=nbL 4 1) hF h5 h2 h3 h4 (by rw [e4];rfl) (by rw [zaf];exact hr) hp).more trivial
theorem k_opaque (F:Nat->Prop) (p:Nat) (m M:Int) (s:List UInt8) (P:Prop) (l:List UInt8) (w:World) (h:WrK F w p M P l) (hF:Ok F w p) (hM0:0<=M) (hM1:M<=2147483647) (hm0:0<=m) (hm1:m<=4294967295) (hr:P->(s.length:Int)<=m->(l.length:Int)+(4+(s.length+pads s.length:Nat))<=M) (hs:m<=1000) :
 Calls Tryz.prog 122 #[.pointer (some ⟨p,0,none⟩),iI m,.string ⟨s.toArray⟩] w (zc4 F p M (P∧(s.length:Int)<=m) (l++(nbL 4 s.length++(s++padB s.length))) w):=by
 obtain ⟨v,S,E,h1,h2,h3,h4,h5⟩:=h;have hmw:(decide (0<=m)&&decide (m<=4294967295))=true:=by rw [decide_eq_true hm0,decide_eq_true hm1];rfl
 by_cases hn:(s.length:Int)<=m
 · refine (zg0 p v m M E S ⟨s.toArray⟩ w h1 hM0 (by omega) (by have:=zar s;omega) hmw (by have:=zar s;omega)).mono fun e w' hp=>?_;have e4:byL 4 (s.length:Int)=nbL 4 s.length:=by
    (have:=zb1 4 (s.length:Int) (by omega) (by simp;omega));rwa [Int.toNat_natCast] at this
   refine (zcl (P:=P) (t:=nbL 4 s.length++(s++padB s.length)) hF h5 h2 h3 h4 ?_ ?_ hp).more hn
   · rw [zar,e4,zf5,bapp,bapp,List.append_assoc]
   · intro q;(have:=hr q hn);rw [List.length_append,List.length_append,zaf,zau];omega
 · refine (ze3 p v m M E S ⟨s.toArray⟩ w h1 hmw (by have:=zar s;omega)).mono fun e w' hp=>?_;exact zcm hF h5 h2 (by decide) hn hp
theorem k_count (F:Nat->Prop) (p:Nat) (m M n:Int) (P:Prop) (l:List UInt8) (w:World) (h:WrK F w p M P l) (hF:Ok F w p) (hM0:0<=M) (hM1:M<=2147483647) (hm0:0<=m) (hm1:m<=4294967295) (hr:P->(0<=n∧n<=m)->(l.length:Int)+4<=M) :
 Calls Tryz.prog 120 #[.pointer (some ⟨p,0,none⟩),iI m,iI n] w (zc4 F p M (P∧(0<=n∧n<=m)) (l++nbL 4 n.toNat) w):=by
 obtain ⟨v,S,E,h1,h2,h3,h4,h5⟩:=h;have hmw:(decide (0<=m)&&decide (m<=4294967295))=true:=by rw [decide_eq_true hm0,decide_eq_true hm1];rfl
 by_cases h0:0<=n
 · by_cases hn:n<=m
   · refine (pcount_ok p v m n M E S w h1 hM0 (by omega) (by omega) hmw h0 hn).mono fun e w' hp=>?_;have e4:=zb1 4 n h0 (by simp;omega);exact (zcl (t:=nbL 4 n.toNat) hF h5 h2 h3 h4 (by rw [e4]) (by rw [zaf];exact fun q=>hr q ⟨h0,hn⟩) hp).more ⟨h0,hn⟩
   · refine (zf3 p v m n M E S w h1 hmw h0 (by omega)).mono fun e w' hp=>?_;exact zcm hF h5 h2 (by decide) (fun q=>hn q.2) hp
 · refine (pcount_neg p v m n M E S w h1 hmw (by omega)).mono fun e w' hp=>?_;exact zcm hF h5 h2 (by decide) (fun q=>h0 q.1) hp
theorem k_raw (F:Nat->Prop) (p:Nat) (M:Int) (s:List UInt8) (P:Prop) (l:List UInt8) (w:World) (h:WrK F w p M P l) (hF:Ok F w p) (hM0:0<=M) (hM1:M<=2147483647) (hs:s.length<=140737488355328) (hr:P->s.length % 4=0->(l.length:Int)+s.length<=M) :
 Calls Tryz.prog 124 #[.pointer (some ⟨p,0,none⟩),.string ⟨s.toArray⟩] w (zc4 F p M (P∧s.length % 4=0) (l++s) w):=by
 obtain ⟨v,S,E,h1,h2,h3,h4,h5⟩:=h;by_cases hn:s.length % 4=0
 · refine (praw_ok p v M E S ⟨s.toArray⟩ w h1 hM0 hM1 h2 (by have:=zar s;omega) (by rw [zar,bne_eq_false_iff_eq];omega)).mono fun e w' hp=>?_;exact (zcl (t:=s) hF h5 h2 h3 h4 rfl (fun q=>hr q hn) hp).more hn
 · refine (praw_bad p v M E S ⟨s.toArray⟩ w h1 (by rw [zar,bne_iff_ne];omega)).mono fun e w' hp=>?_;exact zcm hF h5 h2 (by decide) hn hp
theorem k_fail (F:Nat->Prop) (p:Nat) (M N:Int) (P:Prop) (l:List UInt8) (w:World) (h:WrK F w p M P l) (hF:Ok F w p) (hN:N≠0) :
 Calls Tryz.prog 115 #[.pointer (some ⟨p,0,none⟩),iI N] w (zc4 F p M (P∧False) l w):=by
 obtain ⟨v,S,E,h1,h2,h3,h4,h5⟩:=h;exact (zco p v M E N S w h1).mono fun e w' hp=>zcm hF h5 h2 hN id hp
def fv (k:Nat):Value:=.func (.func k) #[] #[]
theorem boxed (w wa:World) (cs:List Value) (t:TypeId) (h:w.alloc (.cells cs.toArray t)=wa):Bk wa w.heap.size cs t∧Below w.heap.size w wa∧wa.heap.size=w.heap.size+1:=by
 subst h;exact ⟨Bk.new _ _ _,zav _ _,by simp⟩
theorem word_lay {Q:Ending->World->Prop} (b i p:Nat) (n:Int) (w:World) (hb:b<w.heap.size) (hc:w.cell? ⟨b,i,none⟩=some (iI n))
 (HQ:Hid (∀ w1,Below w.heap.size w w1->Calls Tryz.prog 116 #[.pointer (some ⟨p,0,none⟩),iI n] w1 fun e w'=>e=.returned (.tuple #[])∧Q e w')) :
 Calls Tryz.prog 224 #[.agg #[.pointer (some ⟨b,i,none⟩),fv 116,fv 117],.pointer (some ⟨p,0,none⟩)] w Q:=by
 unfold fv;obtain ⟨wa,hwa⟩:∃ x,w.alloc (.cells #[.pointer (some ⟨b,i,none⟩),.func (.func 116) #[] #[],.func (.func 117) #[] #[]] 191)=x:=⟨_,rfl⟩;obtain ⟨hk,hB,hz⟩:=boxed w wa _ _ hwa;have HB:=hid hB;have a0:=hk.cell 0 rfl;have a1:=hk.cell 1 rfl;have ac:wa.cell? ⟨b,i,none⟩=some (iI n):=(cells_of_block (hB.block b hb) i).1.trans hc;clear hk hB hz hb hc;go_enter Tryz.func224,Tryz.ntmps224
 go_wp2_with fail
 go_region_with (first|(refine (HQ.out _ (zan HB.out 1)).mono ?_;rintro e w' ⟨rfl,h⟩))
 all_goals (
  go_wp2;first|go_end0|refine bodyPost_ret (results_none rfl _ _ _) rfl ?_
  exact h)
theorem flag_lay {Q:Ending->World->Prop} (b i p:Nat) (n:Bool) (w:World) (hb:b<w.heap.size) (hc:w.cell? ⟨b,i,none⟩=some (.bool n))
 (HQ:Hid (∀ w1,Below w.heap.size w w1->Calls Tryz.prog 118 #[.pointer (some ⟨p,0,none⟩),.bool n] w1 fun e w'=>e=.returned (.tuple #[])∧Q e w')) :
 Calls Tryz.prog 231 #[.agg #[.pointer (some ⟨b,i,none⟩),fv 118,fv 119],.pointer (some ⟨p,0,none⟩)] w Q:=by
 unfold fv;obtain ⟨wa,hwa⟩:∃ x,w.alloc (.cells #[.pointer (some ⟨b,i,none⟩),.func (.func 118) #[] #[],.func (.func 119) #[] #[]] 199)=x:=⟨_,rfl⟩;obtain ⟨hk,hB,hz⟩:=boxed w wa _ _ hwa;have HB:=hid hB;have a0:=hk.cell 0 rfl;have a1:=hk.cell 1 rfl;have ac:wa.cell? ⟨b,i,none⟩=some (.bool n):=(cells_of_block (hB.block b hb) i).1.trans hc;clear hk hB hz hb hc;go_enter Tryz.func231,Tryz.ntmps231
 go_wp2_with fail
 go_region_with (first|(refine (HQ.out _ (zan HB.out 1)).mono ?_;rintro e w' ⟨rfl,h⟩))
 all_goals (
  go_wp2;first|go_end0|refine bodyPost_ret (results_none rfl _ _ _) rfl ?_
  exact h)
theorem small_lay {Q:Ending->World->Prop} (b i p:Nat) (m n:Int) (w:World) (hb:b<w.heap.size) (hc:w.cell? ⟨b,i,none⟩=some (iI n))
 (HQ:Hid (∀ w1,Below w.heap.size w w1->Calls Tryz.prog 120 #[.pointer (some ⟨p,0,none⟩),iI m,iI n] w1 fun e w'=>e=.returned (.tuple #[])∧Q e w')) :
 Calls Tryz.prog 235 #[.agg #[.pointer (some ⟨b,i,none⟩),iI m,fv 120,fv 121],.pointer (some ⟨p,0,none⟩)] w Q:=by
 unfold fv;obtain ⟨wa,hwa⟩:∃ x,w.alloc (.cells #[.pointer (some ⟨b,i,none⟩),iI m,.func (.func 120) #[] #[],.func (.func 121) #[] #[]] 204)=x:=⟨_,rfl⟩;obtain ⟨hk,hB,hz⟩:=boxed w wa _ _ hwa;have HB:=hid hB;have a0:=hk.cell 0 rfl;have a1:=hk.cell 1 rfl;have a2:=hk.cell 2 rfl;have ac:wa.cell? ⟨b,i,none⟩=some (iI n):=(cells_of_block (hB.block b hb) i).1.trans hc;clear hk hB hz hb hc;go_enter Tryz.func235,Tryz.ntmps235
 go_wp2_with fail
 go_region_with (first|(refine (HQ.out _ (zan HB.out 1)).mono ?_;rintro e w' ⟨rfl,h⟩))
 all_goals (
  go_wp2;first|go_end0|refine bodyPost_ret (results_none rfl _ _ _) rfl ?_
  exact h)
theorem body_lay {Q:Ending->World->Prop} (b i p:Nat) (m:Int) (n:ByteArray) (w:World) (hb:b<w.heap.size) (hc:w.cell? ⟨b,i,none⟩=some (.string n))
 (HQ:Hid (∀ w1,Below w.heap.size w w1->Calls Tryz.prog 122 #[.pointer (some ⟨p,0,none⟩),iI m,.string n] w1 fun e w'=>e=.returned (.tuple #[])∧Q e w')) :
 Calls Tryz.prog 238 #[.agg #[.pointer (some ⟨b,i,none⟩),iI m,fv 122,fv 123],.pointer (some ⟨p,0,none⟩)] w Q:=by
 unfold fv;obtain ⟨wa,hwa⟩:∃ x,w.alloc (.cells #[.pointer (some ⟨b,i,none⟩),iI m,.func (.func 122) #[] #[],.func (.func 123) #[] #[]] 211)=x:=⟨_,rfl⟩;obtain ⟨hk,hB,hz⟩:=boxed w wa _ _ hwa;have HB:=hid hB;have a0:=hk.cell 0 rfl;have a1:=hk.cell 1 rfl;have a2:=hk.cell 2 rfl;have ac:wa.cell? ⟨b,i,none⟩=some (.string n):=(cells_of_block (hB.block b hb) i).1.trans hc;clear hk hB hz hb hc;go_enter Tryz.func238,Tryz.ntmps238
 go_wp2_with fail
 go_region_with (first|(refine (HQ.out _ (zan HB.out 1)).mono ?_;rintro e w' ⟨rfl,h⟩))
 all_goals (
  go_wp2;first|go_end0|refine bodyPost_ret (results_none rfl _ _ _) rfl ?_
  exact h)
theorem word_empty (b i:Nat) (n:Int) (w:World) (hb:b<w.heap.size) (hc:w.cell? ⟨b,i,none⟩=some (iI n)) :
 Calls Tryz.prog 223 #[.agg #[.pointer (some ⟨b,i,none⟩),fv 116,fv 117]] w fun e w'=>e=.returned (.bool (n==0))∧Below w.heap.size w w':=by
 unfold fv;obtain ⟨wa,hwa⟩:∃ x,w.alloc (.cells #[.pointer (some ⟨b,i,none⟩),.func (.func 116) #[] #[],.func (.func 117) #[] #[]] 191)=x:=⟨_,rfl⟩;obtain ⟨hk,hB,hz⟩:=boxed w wa _ _ hwa;have HB:=hid hB;have a0:=hk.cell 0 rfl;have ac:wa.cell? ⟨b,i,none⟩=some (iI n):=(cells_of_block (hB.block b hb) i).1.trans hc;clear hk hB hz hb hc;go_enter Tryz.func223,Tryz.ntmps223
 go_wp2;go_ret;exact ⟨rfl,HB.out⟩
theorem small_empty (b i:Nat) (m n:Int) (w:World) (hb:b<w.heap.size) (hc:w.cell? ⟨b,i,none⟩=some (iI n)) :
 Calls Tryz.prog 234 #[.agg #[.pointer (some ⟨b,i,none⟩),iI m,fv 120,fv 121]] w fun e w'=>e=.returned (.bool (n==0))∧Below w.heap.size w w':=by
 unfold fv;obtain ⟨wa,hwa⟩:∃ x,w.alloc (.cells #[.pointer (some ⟨b,i,none⟩),iI m,.func (.func 120) #[] #[],.func (.func 121) #[] #[]] 204)=x:=⟨_,rfl⟩;obtain ⟨hk,hB,hz⟩:=boxed w wa _ _ hwa;have HB:=hid hB;have a0:=hk.cell 0 rfl;have ac:wa.cell? ⟨b,i,none⟩=some (iI n):=(cells_of_block (hB.block b hb) i).1.trans hc;clear hk hB hz hb hc;go_enter Tryz.func234,Tryz.ntmps234
 go_wp2;go_ret;exact ⟨rfl,HB.out⟩
theorem body_empty (b i:Nat) (m:Int) (n:ByteArray) (w:World) (hb:b<w.heap.size) (hc:w.cell? ⟨b,i,none⟩=some (.string n)) :
 Calls Tryz.prog 237 #[.agg #[.pointer (some ⟨b,i,none⟩),iI m,fv 122,fv 123]] w fun e w'=>e=.returned (.bool n.toList.isEmpty)∧Below w.heap.size w w':=by
 unfold fv;obtain ⟨wa,hwa⟩:∃ x,w.alloc (.cells #[.pointer (some ⟨b,i,none⟩),iI m,.func (.func 122) #[] #[],.func (.func 123) #[] #[]] 211)=x:=⟨_,rfl⟩;obtain ⟨hk,hB,hz⟩:=boxed w wa _ _ hwa;have HB:=hid hB;have a0:=hk.cell 0 rfl;have ac:wa.cell? ⟨b,i,none⟩=some (.string n):=(cells_of_block (hB.block b hb) i).1.trans hc;clear hk hB hz hb hc;go_enter Tryz.func237,Tryz.ntmps237
 go_wp2;go_ret;exact ⟨rfl,HB.out⟩
theorem tail_empty (b i:Nat) (n:ByteArray) (w:World) (hb:b<w.heap.size) (hc:w.cell? ⟨b,i,none⟩=some (.string n)) :
 Calls Tryz.prog 241 #[.agg #[.pointer (some ⟨b,i,none⟩),fv 124,fv 125]] w fun e w'=>e=.returned (.bool n.toList.isEmpty)∧Below w.heap.size w w':=by
 unfold fv;obtain ⟨wa,hwa⟩:∃ x,w.alloc (.cells #[.pointer (some ⟨b,i,none⟩),.func (.func 124) #[] #[],.func (.func 125) #[] #[]] 217)=x:=⟨_,rfl⟩;obtain ⟨hk,hB,hz⟩:=boxed w wa _ _ hwa;have HB:=hid hB;have a0:=hk.cell 0 rfl;have ac:wa.cell? ⟨b,i,none⟩=some (.string n):=(cells_of_block (hB.block b hb) i).1.trans hc;clear hk hB hz hb hc;go_enter Tryz.func241,Tryz.ntmps241
 go_wp2;go_ret;exact ⟨rfl,HB.out⟩
theorem word_read {R:World->Prop} (b i p:Nat) (N:Int) (w:World) (hp:p<w.heap.size)
 (HR:Hid (∀ w1,Below w.heap.size w w1->Calls Tryz.prog 117 #[.pointer (some ⟨p,0,none⟩)] w1 fun e w'=>e=.returned (iI N)∧R w'∧Sole p w1 w'))
 (HC:Hid (∀ w',R w'->(∃ v,w'.cell? ⟨b,i,none⟩=some v)∧w'.frozen? ⟨b,i,none⟩=false)) :
 Calls Tryz.prog 225 #[.agg #[.pointer (some ⟨b,i,none⟩),fv 116,fv 117],.pointer (some ⟨p,0,none⟩)] w fun e w''=>e=.returned (.tuple #[])∧∃ w',R w'∧w''=w'.setCell ⟨b,i,none⟩ (iI N):=by
 unfold fv;obtain ⟨wa,hwa⟩:∃ x,w.alloc (.cells #[.pointer (some ⟨b,i,none⟩),.func (.func 116) #[] #[],.func (.func 117) #[] #[]] 191)=x:=⟨_,rfl⟩;obtain ⟨hk,hB,hz⟩:=boxed w wa _ _ hwa;have HB:=hid hB;have a0:=hk.cell 0 rfl;have a2:=hk.cell 2 rfl;have HS:Hid (∀ w1 w',w1.heap=wa.heap->Sole p w1 w'->w'.heap[w.heap.size]?=wa.heap[w.heap.size]?):=fun w1 w' e h=>by
  rw [h.block w.heap.size (by rw [e];omega) (by omega),e]
 clear hk hB hz hp;go_enter Tryz.func225,Tryz.ntmps225
 go_wp2_with fail
 go_region_with (first
  | (refine (HR.out _ (zan HB.out 1)).mono ?_
     rintro e w2 ⟨rfl,hR,hS⟩;obtain ⟨⟨v,hv⟩,hf⟩:=HC.out _ hR;have hx:=HS.out _ _ (by rfl) hS;have b0:=(zaj hx 0).1.trans a0;have b2:=(zaj hx 2).1.trans a2;have HX:=hid hR
     clear hR hS hx))
 all_goals (
  go_wp2;first|go_end0|refine bodyPost_ret (results_none rfl _ _ _) rfl ?_
  exact ⟨rfl,w2,HX.out,rfl⟩)
theorem flag_read {R:World->Prop} (b i p:Nat) (N:Bool) (w:World) (hp:p<w.heap.size)
 (HR:Hid (∀ w1,Below w.heap.size w w1->Calls Tryz.prog 119 #[.pointer (some ⟨p,0,none⟩)] w1 fun e w'=>e=.returned (.bool N)∧R w'∧Sole p w1 w'))
 (HC:Hid (∀ w',R w'->(∃ v,w'.cell? ⟨b,i,none⟩=some v)∧w'.frozen? ⟨b,i,none⟩=false)) :
 Calls Tryz.prog 232 #[.agg #[.pointer (some ⟨b,i,none⟩),fv 118,fv 119],.pointer (some ⟨p,0,none⟩)] w fun e w''=>e=.returned (.tuple #[])∧∃ w',R w'∧w''=w'.setCell ⟨b,i,none⟩ (.bool N):=by
 unfold fv;obtain ⟨wa,hwa⟩:∃ x,w.alloc (.cells #[.pointer (some ⟨b,i,none⟩),.func (.func 118) #[] #[],.func (.func 119) #[] #[]] 199)=x:=⟨_,rfl⟩;obtain ⟨hk,hB,hz⟩:=boxed w wa _ _ hwa;have HB:=hid hB;have a0:=hk.cell 0 rfl;have a2:=hk.cell 2 rfl;have HS:Hid (∀ w1 w',w1.heap=wa.heap->Sole p w1 w'->w'.heap[w.heap.size]?=wa.heap[w.heap.size]?):=fun w1 w' e h=>by
  rw [h.block w.heap.size (by rw [e];omega) (by omega),e]
 clear hk hB hz hp;go_enter Tryz.func232,Tryz.ntmps232
 go_wp2_with fail
 go_region_with (first
  | (refine (HR.out _ (zan HB.out 1)).mono ?_
     rintro e w2 ⟨rfl,hR,hS⟩;obtain ⟨⟨v,hv⟩,hf⟩:=HC.out _ hR;have hx:=HS.out _ _ (by rfl) hS;have b0:=(zaj hx 0).1.trans a0;have b2:=(zaj hx 2).1.trans a2;have HX:=hid hR
     clear hR hS hx))
 all_goals (
  go_wp2;first|go_end0|refine bodyPost_ret (results_none rfl _ _ _) rfl ?_
  exact ⟨rfl,w2,HX.out,rfl⟩)
theorem small_read {R:World->Prop} (b i p:Nat) (m N:Int) (w:World) (hp:p<w.heap.size)
 (HR:Hid (∀ w1,Below w.heap.size w w1->Calls Tryz.prog 121 #[.pointer (some ⟨p,0,none⟩),iI m] w1 fun e w'=>e=.returned (iI N)∧R w'∧Sole p w1 w'))
 (HC:Hid (∀ w',R w'->(∃ v,w'.cell? ⟨b,i,none⟩=some v)∧w'.frozen? ⟨b,i,none⟩=false)) :
 Calls Tryz.prog 236 #[.agg #[.pointer (some ⟨b,i,none⟩),iI m,fv 120,fv 121],.pointer (some ⟨p,0,none⟩)] w fun e w''=>e=.returned (.tuple #[])∧∃ w',R w'∧w''=w'.setCell ⟨b,i,none⟩ (iI N):=by
 unfold fv;obtain ⟨wa,hwa⟩:∃ x,w.alloc (.cells #[.pointer (some ⟨b,i,none⟩),iI m,.func (.func 120) #[] #[],.func (.func 121) #[] #[]] 204)=x:=⟨_,rfl⟩;obtain ⟨hk,hB,hz⟩:=boxed w wa _ _ hwa;have HB:=hid hB;have a0:=hk.cell 0 rfl;have a1:=hk.cell 1 rfl;have a3:=hk.cell 3 rfl;have HS:Hid (∀ w1 w',w1.heap=wa.heap->Sole p w1 w'->w'.heap[w.heap.size]?=wa.heap[w.heap.size]?):=fun w1 w' e h=>by
  rw [h.block w.heap.size (by rw [e];omega) (by omega),e]
 clear hk hB hz hp;go_enter Tryz.func236,Tryz.ntmps236
 go_wp2_with fail
 go_region_with (first
  | (refine (HR.out _ (zan HB.out 1)).mono ?_
     rintro e w2 ⟨rfl,hR,hS⟩;obtain ⟨⟨v,hv⟩,hf⟩:=HC.out _ hR;have hx:=HS.out _ _ (by rfl) hS;have b0:=(zaj hx 0).1.trans a0;have b1:=(zaj hx 1).1.trans a1;have b3:=(zaj hx 3).1.trans a3;have HX:=hid hR
     clear hR hS hx))
 all_goals (
  go_wp2;first|go_end0|refine bodyPost_ret (results_none rfl _ _ _) rfl ?_
  exact ⟨rfl,w2,HX.out,rfl⟩)
theorem body_read {R:World->Prop} (b i p:Nat) (m:Int) (N:ByteArray) (w:World) (hp:p<w.heap.size)
 (HR:Hid (∀ w1,Below w.heap.size w w1->Calls Tryz.prog 123 #[.pointer (some ⟨p,0,none⟩),iI m] w1 fun e w'=>e=.returned (.string N)∧R w'∧Sole p w1 w'))
 (HC:Hid (∀ w',R w'->(∃ v,w'.cell? ⟨b,i,none⟩=some v)∧w'.frozen? ⟨b,i,none⟩=false)) :
 Calls Tryz.prog 239 #[.agg #[.pointer (some ⟨b,i,none⟩),iI m,fv 122,fv 123],.pointer (some ⟨p,0,none⟩)] w fun e w''=>e=.returned (.tuple #[])∧∃ w',R w'∧w''=w'.setCell ⟨b,i,none⟩ (.string N):=by
 unfold fv;obtain ⟨wa,hwa⟩:∃ x,w.alloc (.cells #[.pointer (some ⟨b,i,none⟩),iI m,.func (.func 122) #[] #[],.func (.func 123) #[] #[]] 211)=x:=⟨_,rfl⟩;obtain ⟨hk,hB,hz⟩:=boxed w wa _ _ hwa;have HB:=hid hB;have a0:=hk.cell 0 rfl;have a1:=hk.cell 1 rfl;have a3:=hk.cell 3 rfl;have HS:Hid (∀ w1 w',w1.heap=wa.heap->Sole p w1 w'->w'.heap[w.heap.size]?=wa.heap[w.heap.size]?):=fun w1 w' e h=>by
  rw [h.block w.heap.size (by rw [e];omega) (by omega),e]
 clear hk hB hz hp;go_enter Tryz.func239,Tryz.ntmps239
 go_wp2_with fail
 go_region_with (first
  | (refine (HR.out _ (zan HB.out 1)).mono ?_
     rintro e w2 ⟨rfl,hR,hS⟩;obtain ⟨⟨v,hv⟩,hf⟩:=HC.out _ hR;have hx:=HS.out _ _ (by rfl) hS;have b0:=(zaj hx 0).1.trans a0;have b1:=(zaj hx 1).1.trans a1;have b3:=(zaj hx 3).1.trans a3;have HX:=hid hR
     clear hR hS hx))
 all_goals (
  go_wp2;first|go_end0|refine bodyPost_ret (results_none rfl _ _ _) rfl ?_
  exact ⟨rfl,w2,HX.out,rfl⟩)
theorem sign_read_ok {R:World->Prop} (p:Nat) (n N:Int) (w:World) (hp:p<w.heap.size) (hn:(N != n)=false)
 (HR:Hid (∀ w1,Below w.heap.size w w1->Calls Tryz.prog 117 #[.pointer (some ⟨p,0,none⟩)] w1 fun e w'=>e=.returned (iI N)∧R w'∧Sole p w1 w'))
 : Calls Tryz.prog 229 #[.agg #[iI n,fv 116,fv 117],.pointer (some ⟨p,0,none⟩)] w fun e w''=>e=.returned (.tuple #[])∧R w'':=by
 unfold fv;obtain ⟨wa,hwa⟩:∃ x,w.alloc (.cells #[iI n,.func (.func 116) #[] #[],.func (.func 117) #[] #[]] 193)=x:=⟨_,rfl⟩;obtain ⟨hk,hB,hz⟩:=boxed w wa _ _ hwa;have HB:=hid hB;have a0:=hk.cell 0 rfl;have a2:=hk.cell 2 rfl;have HS:Hid (∀ w1 w',w1.heap=wa.heap->Sole p w1 w'->w'.heap[w.heap.size]?=wa.heap[w.heap.size]?):=fun w1 w' e h=>by
  rw [h.block w.heap.size (by rw [e];omega) (by omega),e]
 clear hk hB hz hp;go_enter Tryz.func229,Tryz.ntmps229
 go_wp2_with fail
 go_region_with (first
  | (refine (HR.out _ (zan HB.out 1)).mono ?_
     rintro e w2 ⟨rfl,hR,hS⟩;have hx:=HS.out _ _ (by rfl) hS;have b0:=(zaj hx 0).1.trans a0;have HX:=hid hR
     clear hR hS hx))
 all_goals (
  go_wp2_with fail
  first|go_end0|refine bodyPost_ret (results_none rfl _ _ _) rfl ?_
  exact ⟨rfl,HX.out⟩)
theorem zhk {R Q:World->Prop} (p:Nat) (n N:Int) (w:World) (hp:p<w.heap.size) (hn:(N != n)=true)
 (HR:Hid (∀ w1,Below w.heap.size w w1->Calls Tryz.prog 117 #[.pointer (some ⟨p,0,none⟩)] w1 fun e w'=>e=.returned (iI N)∧R w'∧Sole p w1 w'))
 (HF:Hid (∀ w',R w'->Calls Tryz.prog 189 #[.pointer (some ⟨p,0,none⟩),iI 121] w' fun e w''=>e=.returned (.tuple #[])∧Q w''))
 : Calls Tryz.prog 229 #[.agg #[iI n,fv 116,fv 117],.pointer (some ⟨p,0,none⟩)] w fun e w''=>e=.returned (.tuple #[])∧Q w'':=by
 unfold fv;obtain ⟨wa,hwa⟩:∃ x,w.alloc (.cells #[iI n,.func (.func 116) #[] #[],.func (.func 117) #[] #[]] 193)=x:=⟨_,rfl⟩;obtain ⟨hk,hB,hz⟩:=boxed w wa _ _ hwa;have HB:=hid hB;have a0:=hk.cell 0 rfl;have a2:=hk.cell 2 rfl;have HS:Hid (∀ w1 w',w1.heap=wa.heap->Sole p w1 w'->w'.heap[w.heap.size]?=wa.heap[w.heap.size]?):=fun w1 w' e h=>by
  rw [h.block w.heap.size (by rw [e];omega) (by omega),e]
 clear hk hB hz hp;go_enter Tryz.func229,Tryz.ntmps229
 go_wp2_with fail
 go_region_with (first
  | (refine (HR.out _ (zan HB.out 1)).mono ?_
     rintro e w2 ⟨rfl,hR,hS⟩;have hx:=HS.out _ _ (by rfl) hS;have b0:=(zaj hx 0).1.trans a0;have HX:=hid hR
     clear hR hS hx))
 all_goals (
  go_wp2_with fail
  refine (HF.out _ HX.out).mono ?_;rintro e w3 ⟨rfl,hQ⟩;go_wp2;first|go_end0|refine bodyPost_ret (results_none rfl _ _ _) rfl ?_
  exact ⟨rfl,hQ⟩)
theorem sign_lay {Q:Ending->World->Prop} (p:Nat) (n:Int) (w:World)
 (HQ:Hid (∀ w1,Below w.heap.size w w1->Calls Tryz.prog 116 #[.pointer (some ⟨p,0,none⟩),iI n] w1 fun e w'=>e=.returned (.tuple #[])∧Q e w')) :
 Calls Tryz.prog 228 #[.agg #[iI n,fv 116,fv 117],.pointer (some ⟨p,0,none⟩)] w Q:=by
 unfold fv;obtain ⟨wa,hwa⟩:∃ x,w.alloc (.cells #[iI n,.func (.func 116) #[] #[],.func (.func 117) #[] #[]] 193)=x:=⟨_,rfl⟩;obtain ⟨hk,hB,hz⟩:=boxed w wa _ _ hwa;have HB:=hid hB;have a0:=hk.cell 0 rfl;have a1:=hk.cell 1 rfl;clear hk hB hz;go_enter Tryz.func228,Tryz.ntmps228
 go_wp2_with fail
 refine (HQ.out _ HB.out).mono ?_;rintro e w' ⟨rfl,h⟩;go_wp2;first|go_end0|refine bodyPost_ret (results_none rfl _ _ _) rfl ?_
 exact h
theorem zc6 (n:Int) (w:World) (h0:0<=n):Calls Tryz.prog 244 #[iI n] w fun e w'=>e=.returned (.bool (decide (n<=1000∧n % 4=0)))∧w'=w:=by
 by_cases h1:n<=1000
 · by_cases h2:n % 4=0
   · have h3:(n % 4==0)=true:=beq_iff_eq.2 h2;rw [decide_eq_true ⟨h1,h2⟩];(go_enter Tryz.func244,Tryz.ntmps244);go_wp2;go_ret;exact ⟨rfl,rfl⟩
   · have h3:(n % 4==0)=false:=beq_eq_false_iff_ne.2 h2;rw [decide_eq_false (fun q=>h2 q.2)];(go_enter Tryz.func244,Tryz.ntmps244);go_wp2;go_ret;exact ⟨rfl,rfl⟩
 · rw [decide_eq_false (fun q=>h1 q.1)];go_enter Tryz.func244,Tryz.ntmps244
   go_wp2;go_ret;exact ⟨rfl,rfl⟩
theorem tail_ok {Q:Ending->World->Prop} (b i p:Nat) (n:ByteArray) (w:World) (hb:b<w.heap.size) (hc:w.cell? ⟨b,i,none⟩=some (.string n)) (hm:decide ((n.size:Int)<=1000∧(n.size:Int) % 4=0)=true)
 (HQ:Hid (∀ w1,Below w.heap.size w w1->Calls Tryz.prog 124 #[.pointer (some ⟨p,0,none⟩),.string n] w1 fun e w'=>e=.returned (.tuple #[])∧Q e w')) :
 Calls Tryz.prog 242 #[.agg #[.pointer (some ⟨b,i,none⟩),fv 124,fv 125],.pointer (some ⟨p,0,none⟩)] w Q:=by
 unfold fv;obtain ⟨wa,hwa⟩:∃ x,w.alloc (.cells #[.pointer (some ⟨b,i,none⟩),.func (.func 124) #[] #[],.func (.func 125) #[] #[]] 217)=x:=⟨_,rfl⟩;obtain ⟨hk,hB,hz⟩:=boxed w wa _ _ hwa;have HB:=hid hB;have a0:=hk.cell 0 rfl;have a1:=hk.cell 1 rfl;have ac:wa.cell? ⟨b,i,none⟩=some (.string n):=(cells_of_block (hB.block b hb) i).1.trans hc;have HT:Hid (∀ w,Calls Tryz.prog 244 #[iI n.size] w fun e w'=>e=.returned (.bool true)∧w'=w):=fun w=>by
  have:=zc6 n.size w (by omega)
  rwa [hm] at this
 clear hk hB hz hb hc hm;go_enter Tryz.func242,Tryz.ntmps242
 go_wp2_with fail
 refine (HT.out _).mono ?_;rintro e w0 ⟨rfl,hw0⟩;have hw1:=hw0.symm;clear hw0;subst hw1;go_wp2_with fail
 go_region_with (first|(refine (HQ.out _ (zan HB.out 1)).mono ?_;rintro e w' ⟨rfl,h⟩))
 all_goals (
  go_wp2;first|go_end0|refine bodyPost_ret (results_none rfl _ _ _) rfl ?_
  exact h)
theorem tail_bad {Q:Ending->World->Prop} (b i p:Nat) (n:ByteArray) (w:World) (hb:b<w.heap.size) (hc:w.cell? ⟨b,i,none⟩=some (.string n)) (hm:decide ((n.size:Int)<=1000∧(n.size:Int) % 4=0)=false)
 (HF:Hid (∀ w1,Below w.heap.size w w1->w1.heap.size=w.heap.size+1->Calls Tryz.prog 115 #[.pointer (some ⟨p,0,none⟩),iI 120] w1 fun e w'=>e=.returned (.tuple #[])∧w'.heap[b]?=w1.heap[b]?∧w'.heap[w.heap.size]?=w1.heap[w.heap.size]?∧∀ k,Calls Tryz.prog 124 #[.pointer (some ⟨p,0,none⟩),.string n] (w'.drewN k) fun e w''=>e=.returned (.tuple #[])∧Q e w'')) :
 Calls Tryz.prog 242 #[.agg #[.pointer (some ⟨b,i,none⟩),fv 124,fv 125],.pointer (some ⟨p,0,none⟩)] w Q:=by
 unfold fv;obtain ⟨wa,hwa⟩:∃ x,w.alloc (.cells #[.pointer (some ⟨b,i,none⟩),.func (.func 124) #[] #[],.func (.func 125) #[] #[]] 217)=x:=⟨_,rfl⟩;obtain ⟨hk,hB,hz⟩:=boxed w wa _ _ hwa;have HB:=hid hB;have a0:=hk.cell 0 rfl;have a1:=hk.cell 1 rfl;have ac:wa.cell? ⟨b,i,none⟩=some (.string n):=(cells_of_block (hB.block b hb) i).1.trans hc;have HT:Hid (∀ w,Calls Tryz.prog 244 #[iI n.size] w fun e w'=>e=.returned (.bool false)∧w'=w):=fun w=>by
  have:=zc6 n.size w (by omega)
  rwa [hm] at this
 have HZ:=hid hz;clear hk hB hz hb hc hm;go_enter Tryz.func242,Tryz.ntmps242
 go_wp2_with fail
 refine (HT.out _).mono ?_;rintro e w0 ⟨rfl,hw0⟩;have hw1:=hw0.symm;clear hw0;subst hw1;go_wp2_with fail
 refine (HF.out _ HB.out HZ.out).mono ?_;rintro e w2 ⟨rfl,e1,e2,e3⟩;have H3:=hid e3;have a0:=(zaj e2 0).1.trans a0;have a1:=(zaj e2 1).1.trans a1;have ac:=(zaj e1 i).1.trans ac;clear e1 e2 e3;go_wp2_with fail
 go_region_with (first|(refine (H3.out 1).mono ?_;rintro e w' ⟨rfl,h⟩))
 all_goals (
  go_wp2;first|go_end0|refine bodyPost_ret (results_none rfl _ _ _) rfl ?_
  exact h)
theorem tail_read_ok {R:World->Prop} (b i p:Nat) (N:ByteArray) (L:Int) (w:World) (hp:p<w.heap.size) (hL:0<=L) (hm:decide (L<=1000∧L % 4=0)=true)
 (HL:Hid (∀ w1,Below w.heap.size w w1->Calls Tryz.prog 245 #[.pointer (some ⟨p,0,none⟩)] w1 fun e w'=>e=.returned (iI L)∧w'=w1))
 (HR:Hid (∀ w1,Below w.heap.size w w1->Calls Tryz.prog 125 #[.pointer (some ⟨p,0,none⟩)] w1 fun e w'=>e=.returned (.string N)∧R w'∧Sole p w1 w'))
 (HC:Hid (∀ w',R w'->(∃ v,w'.cell? ⟨b,i,none⟩=some v)∧w'.frozen? ⟨b,i,none⟩=false)) :
 Calls Tryz.prog 243 #[.agg #[.pointer (some ⟨b,i,none⟩),fv 124,fv 125],.pointer (some ⟨p,0,none⟩)] w fun e w''=>e=.returned (.tuple #[])∧∃ w',R w'∧w''=w'.setCell ⟨b,i,none⟩ (.string N):=by
 unfold fv;obtain ⟨wa,hwa⟩:∃ x,w.alloc (.cells #[.pointer (some ⟨b,i,none⟩),.func (.func 124) #[] #[],.func (.func 125) #[] #[]] 217)=x:=⟨_,rfl⟩;obtain ⟨hk,hB,hz⟩:=boxed w wa _ _ hwa;have HB:=hid hB;have a0:=hk.cell 0 rfl;have a2:=hk.cell 2 rfl;have HS:Hid (∀ w1 w',w1.heap[w.heap.size]?=wa.heap[w.heap.size]?->w.heap.size<w1.heap.size->Sole p w1 w'->w'.heap[w.heap.size]?=wa.heap[w.heap.size]?):=fun w1 w' e e2 h=>by
  rw [h.block w.heap.size e2 (by omega),e]
 have HZ:=hid hz;have HT:Hid (∀ w,Calls Tryz.prog 244 #[iI L] w fun e w'=>e=.returned (.bool true)∧w'=w):=fun w=>by
  have:=zc6 L w hL
  rwa [hm] at this
 clear hk hB hz hp hm hL;go_enter Tryz.func243,Tryz.ntmps243
 go_wp2_with fail
 refine (HL.out _ HB.out).mono ?_;rintro e w0 ⟨rfl,hw0⟩;have hw1:=hw0.symm;clear hw0;subst hw1;go_wp2_with fail
 refine (HT.out _).mono ?_;rintro e w0 ⟨rfl,hw0⟩;have hw1:=hw0.symm;clear hw0;subst hw1;go_wp2_with fail
 go_region_with (first
  | (refine (HR.out _ (zan HB.out 1)).mono ?_
     rintro e w2 ⟨rfl,hR,hS⟩;obtain ⟨⟨v,hv⟩,hf⟩:=HC.out _ hR;have hx:=HS.out _ _ (by rfl) (by show _<wa.heap.size;have:=HZ.out;omega) hS;have b0:=(zaj hx 0).1.trans a0;have HX:=hid hR
     clear hR hS hx))
 all_goals (
  go_wp2;first|go_end0|refine bodyPost_ret (results_none rfl _ _ _) rfl ?_
  exact ⟨rfl,w2,HX.out,rfl⟩)
theorem zhj {R Q:World->Prop} (b i p:Nat) (N:ByteArray) (L:Int) (w:World) (hp:p<w.heap.size) (hL:0<=L) (hm:decide (L<=1000∧L % 4=0)=false)
 (HL:Hid (∀ w1,Below w.heap.size w w1->Calls Tryz.prog 245 #[.pointer (some ⟨p,0,none⟩)] w1 fun e w'=>e=.returned (iI L)∧w'=w1))
 (HF:Hid (∀ w1,Below w.heap.size w w1->Calls Tryz.prog 189 #[.pointer (some ⟨p,0,none⟩),iI 121] w1 fun e w'=>e=.returned (.tuple #[])∧Q w'∧Sole p w1 w'))
 (HR:Hid (∀ w1 k,Q w1->Calls Tryz.prog 125 #[.pointer (some ⟨p,0,none⟩)] (w1.drewN k) fun e w'=>e=.returned (.string N)∧R w'∧Sole p (w1.drewN k) w'))
 (HC:Hid (∀ w',R w'->(∃ v,w'.cell? ⟨b,i,none⟩=some v)∧w'.frozen? ⟨b,i,none⟩=false)) :
 Calls Tryz.prog 243 #[.agg #[.pointer (some ⟨b,i,none⟩),fv 124,fv 125],.pointer (some ⟨p,0,none⟩)] w fun e w''=>e=.returned (.tuple #[])∧∃ w',R w'∧w''=w'.setCell ⟨b,i,none⟩ (.string N):=by
 unfold fv;obtain ⟨wa,hwa⟩:∃ x,w.alloc (.cells #[.pointer (some ⟨b,i,none⟩),.func (.func 124) #[] #[],.func (.func 125) #[] #[]] 217)=x:=⟨_,rfl⟩;obtain ⟨hk,hB,hz⟩:=boxed w wa _ _ hwa;have HB:=hid hB;have a0:=hk.cell 0 rfl;have a2:=hk.cell 2 rfl;have HS:Hid (∀ w1 w',w1.heap[w.heap.size]?=wa.heap[w.heap.size]?->w.heap.size<w1.heap.size->Sole p w1 w'->w'.heap[w.heap.size]?=wa.heap[w.heap.size]?):=fun w1 w' e e2 h=>by
  rw [h.block w.heap.size e2 (by omega),e]
 have HZ:=hid hz;have HT:Hid (∀ w,Calls Tryz.prog 244 #[iI L] w fun e w'=>e=.returned (.bool false)∧w'=w):=fun w=>by
  have:=zc6 L w hL
  rwa [hm] at this
 clear hk hB hz hp hm hL;go_enter Tryz.func243,Tryz.ntmps243
 go_wp2_with fail
 refine (HL.out _ HB.out).mono ?_;rintro e w0 ⟨rfl,hw0⟩;have hw1:=hw0.symm;clear hw0;subst hw1;go_wp2_with fail
 refine (HT.out _).mono ?_;rintro e w0 ⟨rfl,hw0⟩;have hw1:=hw0.symm;clear hw0;subst hw1;go_wp2_with fail
 refine (HF.out _ HB.out).mono ?_;rintro e w5 ⟨rfl,hQ,hS5⟩;have hx5:=HS.out _ _ (by rfl) (by have:=HZ.out;omega) hS5;have c0:=(zaj hx5 0).1.trans a0;have c2:=(zaj hx5 2).1.trans a2;have Aa:=hid (And.intro hQ (And.intro hx5 hS5.size));clear hQ hS5 hx5;go_wp2_with fail
 go_region_with (first
  | (refine (HR.out _ 1 Aa.out.1).mono ?_
     rintro e w2 ⟨rfl,hR,hS⟩;obtain ⟨⟨v,hv⟩,hf⟩:=HC.out _ hR;have hx:=HS.out _ _ (by exact Aa.out.2.1) (by show _<w5.heap.size;have:=HZ.out;have:=Aa.out.2.2;omega) hS;have b0:=(zaj hx 0).1.trans a0;have HX:=hid hR
     clear hR hS hx))
 all_goals (
  go_wp2;first|go_end0|refine bodyPost_ret (results_none rfl _ _ _) rfl ?_
  exact ⟨rfl,w2,HX.out,rfl⟩)
end Go.Proofs.YtfcbjcebkahehaaGreatDoor
