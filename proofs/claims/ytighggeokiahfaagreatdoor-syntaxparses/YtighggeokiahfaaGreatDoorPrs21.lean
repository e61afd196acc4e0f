import Derived.Test.YtighggeokiahfaaGreatDoorPrs19
import Derived.Test.YtighggeokiahfaaGreatDoorPrs10
import Derived.Test.YtighggeokiahfaaGreatDoorPrs20
import Derived.BigRegion
set_option maxRecDepth 4000
set_option maxHeartbeats 20000000
namespace Go.Proofs.YtighggeokiahfaaGreatDoor.Dm
open Go.RowKit
theorem prs_more (l m:List UInt8) (w:World) (hl:l.length<=9223372036854775807) (hm:m.length<=9223372036854775807) (h:¬ zjz l m<=2147483647):Calls Tryz.prog 3 #[.string ⟨l.toArray⟩,.string ⟨m.toArray⟩] w fun e w'=>e=.returned (.bool true)∧Below w.heap.size w w':=by
 have Aa:=hid (grd hl hm);have h1:(2147483647:Int)<(zjz l m:Nat):=by omega
 have h2:decide ((2147483647:Int)<(zjz l m:Nat))=true:=by simp;omega
 clear h hl hm;go_enter Tryz.func3,Tryz.ntmps3
 go_wp2_with (first|(go_at_call_of 8 (Value.int .i64 (l.length:Int));refine (Aa.out.a _).mono ?_;rintro e wi ⟨rfl,hwi⟩;rw [hwi];clear hwi wi)|(go_at_call_of 8 (Value.int .i64 (m.length:Int));refine (Aa.out.b _).mono ?_;rintro e wi ⟨rfl,hwi⟩;rw [hwi];clear hwi wi)|(go_at_call 9;refine (Aa.out.c _).mono ?_;rintro e wi ⟨rfl,hwi⟩;rw [hwi];clear hwi wi)|(go_at_call 8;refine (Aa.out.d _).mono ?_;rintro e wi ⟨rfl,hwi⟩;rw [hwi];clear hwi wi))
 go_ret;exact ⟨rfl,Below.refl _ _⟩
def srcP (l m:List UInt8):Nat->List UInt8
 | 1=>m
 | _=>l
theorem prs_cells (w:World) (l m:List UInt8) (q:Nat) (hq:q<3):(w.alloc (.cells #[.string ⟨l.toArray⟩,.string ⟨m.toArray⟩,.string ⟨l.toArray⟩] 9)).cell? ⟨w.heap.size,q,none⟩=some (.string ⟨(srcP l m q).toArray⟩):=by
 have hc:∀ j,(w.alloc (.cells #[.string ⟨l.toArray⟩,.string ⟨m.toArray⟩,.string ⟨l.toArray⟩] 9)).cell? ⟨w.heap.size,j,none⟩=(#[.string ⟨l.toArray⟩,.string ⟨m.toArray⟩,.string ⟨l.toArray⟩]:Array Value)[j]?:=fun j=>cell_of_row _ _ _ _ _ _ (heap_alloc_new _ _);rw [hc];match q,hq with
 | 0,_=>rfl
 | 1,_=>rfl
 | 2,_=>rfl
def zjv:PRes->Tree|.ok t=>t|.err _ _=>zh9
def errOf:PRes->Int|.ok _=>0|.err e _=>e
def placeOf:PRes->Nat|.ok _=>0|.err _ i=>i
theorem parse_u {R:PRes} {w:World} {e:Ending} {w' : World} (h:ParsePost R w e w') {k m:Int} {n:List UInt8} {a:Nat} {ks:List Tree} (ht:zjv R=.node k n m a ks):
 ∃ o l c,e=.returned (.tuple #[kidV k n m a (.slice o l c),.int .i64 (errOf R),.int .i64 (placeOf R:Nat)])∧treeIs w.heap.size (.node k n m a ks) w' (kidV k n m a (.slice o l c))∧Below w.heap.size w w':=by
 cases R with
 | ok t=>
  obtain ⟨v,rfl,hv,hB⟩:=h;have ht:t=.node k n m a ks:=ht;subst ht;obtain ⟨sl,rfl,hl⟩:=treeAt_node.1 hv;obtain ⟨o,l,c,rfl⟩:=ListAt.shape hl;exact ⟨o,l,c,rfl,hv,hB⟩
 | err r i=>
  obtain ⟨rfl,hB⟩:=h;cases ht;exact ⟨none,0,0,rfl,zff,hB⟩
theorem parse_s {R:PRes} {w:World} {e:Ending} {w' : World} (h:_root_.Go.Proofs.YtighggeokiahfaaGreatDoor.ParsePost R w e w') {k m:Int} {n:List UInt8} {a:Nat} {ks:List Tree} (ht:zjv R=.node k n m a ks):
 ∃ o l c,e=.returned (.tuple #[kidV k n m a (.slice o l c),.int .i64 (errOf R),.int .i64 (placeOf R:Nat)])∧_root_.Go.Proofs.YtighggeokiahfaaGreatDoor.treeIs w.heap.size (.node k n m a ks) w' (kidV k n m a (.slice o l c))∧Below w.heap.size w w':=by
 cases R with
 | ok t=>
  obtain ⟨v,rfl,hv,hB⟩:=h;have ht:t=.node k n m a ks:=ht;subst ht;obtain ⟨sl,rfl,hl⟩:=_root_.Go.Proofs.YtighggeokiahfaaGreatDoor.treeAt_node.1 hv;obtain ⟨o,l,c,rfl⟩:=_root_.Go.Proofs.YtighggeokiahfaaGreatDoor.ListAt.shape hl;exact ⟨o,l,c,rfl,hv,hB⟩
 | err r i=>
  obtain ⟨rfl,hB⟩:=h;cases ht;exact ⟨none,0,0,rfl,_root_.Go.Proofs.YtighggeokiahfaaGreatDoor.treeAt_node.2 ⟨_,rfl,_root_.Go.Proofs.YtighggeokiahfaaGreatDoor.listAt_nil⟩,hB⟩
theorem parse_small (l:List UInt8):nodes (zjv (zeo l))<=20000:=by
 cases h:zeo l with
 | ok t=>
  obtain ⟨ts,hs,hn⟩:=parse_nodes h;have:=(scan_ok hs).2.1;show nodes t<=_;omega
 | err e i=>
  show nodes zh9<=_;simp [zh9,nodes,za9]
theorem prs_main (l m:List UInt8) (w:World) (hG:zi6 w) (hl:l.length<=9223372036854775807) (hm:m.length<=9223372036854775807) (h:zjz l m<=2147483647):Calls Tryz.prog 3 #[.string ⟨l.toArray⟩,.string ⟨m.toArray⟩] w fun e w'=>e=.returned (.bool true)∧Below w.heap.size w w':=by
 have Ao:=hid (grd hl hm);have h1:¬ (2147483647:Int)<(zjz l m:Nat):=by omega
 have h2:decide ((2147483647:Int)<(zjz l m:Nat))=false:=by simp;omega
 have HA:Hid (Calls Tryz.prog 10 #[] w (fun e w'=>e=.returned (.bool true)∧Below w.heap.size w w')):=awake_any w hG;have x0:=ext0;have x1:=ext1;have x2:=ext2;have HG:=hid hG;obtain ⟨inf2,hi2⟩:=info27y;have Az:=hid hi2;obtain ⟨inf,hi⟩:=zeg;have HI:=hid hi;clear h hl hm hG hi hi2;go_enter Tryz.func3,Tryz.ntmps3
 go_wp2_with (first|(go_at_call_of 8 (Value.int .i64 (l.length:Int));refine (Ao.out.a _).mono ?_;rintro e wi ⟨rfl,hwi⟩;rw [hwi];clear hwi wi)|(go_at_call_of 8 (Value.int .i64 (m.length:Int));refine (Ao.out.b _).mono ?_;rintro e wi ⟨rfl,hwi⟩;rw [hwi];clear hwi wi)|(go_at_call 9;refine (Ao.out.c _).mono ?_;rintro e wi ⟨rfl,hwi⟩;rw [hwi];clear hwi wi)|(go_at_call 8;refine (Ao.out.d _).mono ?_;rintro e wi ⟨rfl,hwi⟩;rw [hwi];clear hwi wi))
 clear h1 h2;refine HA.out.mono ?_;rintro e w2 ⟨rfl,hB⟩;have Bg:=hid hB;clear hB;go_wp2_with fail
 have Ak:Hid (Below w.heap.size w (w2.alloc (.cells #[.string ⟨l.toArray⟩,.string ⟨m.toArray⟩,.string ⟨l.toArray⟩] 9))):=Bg.out.alloc Bg.out.size _;have Ap:=hid (prs_cells w2 l m);have Ba:Hid (w2.heap.size<(w2.alloc (.cells #[.string ⟨l.toArray⟩,.string ⟨m.toArray⟩,.string ⟨l.toArray⟩] 9)).heap.size):=by show _<(w2.alloc _).heap.size;simp
 generalize w2.alloc (.cells #[.string ⟨l.toArray⟩,.string ⟨m.toArray⟩,.string ⟨l.toArray⟩] 9)=w3 at Ak Ap Ba ⊢;obtain ⟨NB,hNB⟩:∃ x,w2.heap.size=x:=⟨_,rfl⟩;rw [hNB] at Ap Ba;rw [hNB];obtain ⟨src,hsrc⟩:∃ x,srcP l m=x:=⟨_,rfl⟩;rw [hsrc] at Ap;have Bw:Hid (src 0=l):=by rw [<- hsrc];rfl
 clear hNB hsrc Bg Ao HA;go_loopw [7,8,9] (fun bk tr i wr=>∃ (q LN ct cb:Nat) (ot ob:Option Addr) (TX LB:List Value),bk=.slice ob LN cb∧tr=.slice ot q ct∧i=.int .i64 q∧q<=3∧Hid (LB.length=LN∧q<=LN∧LN<=q*20000∧∀ sl∈LB,∃ o n c,sl=.slice o n c∧n<=20000)∧Hid (SP w3 wr wr.heap.size q (zjv (zeo l)) (.slice ot q ct) (.slice ob LN cb) TX LB)) (fun _ _ i _=>3 - (intOf i).toNat)
 case atStart=>exact ⟨0,0,0,0,none,none,[],[],rfl,rfl,rfl,by omega,⟨rfl,by omega,by omega,fun sl h=>by simp at h⟩,SP.start (Below.refl _ _)⟩
 case round =>
  obtain ⟨q,LN,ct,cb,ot,ob,TX,LB,rfl,rfl,rfl,hq,Bb,Ac⟩:=hrel;have Bc:=hid Ac.out.bel;have Bx:=hid (Ak.out.trans (Bc.out.mono Ak.out.size));by_cases hlt:q<3
  case neg =>
   obtain rfl:q=3:=by omega
   have hlt2:¬ ((3:Nat):Int)<3:=by omega
   obtain ⟨k,n,mm,a,ks,hT⟩:∃ k n mm a ks,zjv (zeo l)=.node k n mm a ks:=by cases zjv (zeo l);exact ⟨_,_,_,_,_,rfl⟩
   obtain ⟨v0,v1,v2,v3,v4,ys,hTX,hT0⟩:=Ac.out.fst (by omega);rw [hT] at hT0;have hT1:=weakT _ _ hT0;obtain ⟨sl1,hke,hsl⟩:=treeAt_node.1 hT1;obtain ⟨o1,l1,c1,rfl⟩:=hsl.shape;unfold kidV at hke;cases hke;obtain ⟨gt,cx,he,_,hgt⟩:=Ac.out.town.form (by omega);cases he;have q0:wr.cell? ⟨gt,0,none⟩=some (.int .i64 k):=by rw [Ac.out.town.cellAt 0 (by omega),hTX];rfl
   have q1:wr.cell? ⟨gt,1,none⟩=some (.string ⟨n.toArray⟩):=by rw [Ac.out.town.cellAt 1 (by omega),hTX];rfl
   have q2:wr.cell? ⟨gt,2,none⟩=some (.int .i64 mm):=by rw [Ac.out.town.cellAt 2 (by omega),hTX];rfl
   have q3:wr.cell? ⟨gt,3,none⟩=some (.int .i64 a):=by rw [Ac.out.town.cellAt 3 (by omega),hTX];rfl
   have q4:wr.cell? ⟨gt,4,none⟩=some (.slice o1 l1 c1):=by rw [Ac.out.town.cellAt 4 (by omega),hTX];rfl
   have Aq:Hid (wr.cell? ⟨gt,0,none⟩=some (.int .i64 k)∧wr.cell? ⟨gt,1,none⟩=some (.string ⟨n.toArray⟩)∧wr.cell? ⟨gt,2,none⟩=some (.int .i64 mm)∧wr.cell? ⟨gt,3,none⟩=some (.int .i64 a)∧wr.cell? ⟨gt,4,none⟩=some (.slice o1 l1 c1)):=⟨q0,q1,q2,q3,q4⟩;have Bz:=hid hT1;have Al:=hid hgt;have Bd:Hid (∀ u,Calls Tryz.prog 12 #[.string ⟨l.toArray⟩] u (ParsePost (zeo l) u)):=fun u=>zmu l u;have Ca:=hid hT;obtain ⟨E,hE⟩:∃ E,errOf (zeo l)=E:=⟨_,rfl⟩;obtain ⟨P,hP⟩:∃ P,placeOf (zeo l)=P:=⟨_,rfl⟩;have Ag:Hid (errOf (zeo l)=E∧placeOf (zeo l)=P):=⟨hE,hP⟩;clear hT hTX hT0 hT1 hsl hgt hE hP q0 q1 q2 q3 q4;go_wp2_with fail
   refine (Bd.out wr).mono ?_;intro e w4 hpp;obtain ⟨o2,l2,c2,rfl,hv,hB⟩:=parse_u hpp Ca.out;rw [Ag.out.1,Ag.out.2];have Be:=hid hv;have Ad:=hid hB;clear hpp hv hB;unfold kidV;go_wp2_with fail
   obtain ⟨w5,hw5⟩:∃ z,w4.alloc (.cells #[.int .i64 k,.string ⟨n.toArray⟩,.int .i64 mm,.int .i64 a,.slice o2 l2 c2] 29)=z:=⟨_,rfl⟩;rw [hw5];obtain ⟨B4,hB4⟩:∃ x,w4.heap.size=x:=⟨_,rfl⟩;rw [hB4];have Ab:Hid (Below wr.heap.size wr w5):=by show Below _ _ _;rw [<- hw5];exact Ad.out.alloc Ad.out.size _
   have hk5:w5.heap[B4]?=some (kidO k n mm a (.slice o2 l2 c2)):=by rw [<- hw5,<- hB4];exact heap_alloc_new _ _
   have Am:Hid (∀ u,Below w5.heap.size w5 u->Calls Tryz.prog 13 #[kidV k n mm a (.slice o1 l1 c1),kidV k n mm a (.slice o2 l2 c2)] u (fun e w'=>e=.returned (.bool true)∧Below u.heap.size u w')):=fun u hu=>zl4 _ (.node k n mm a ks) (Nat.le_refl _) _ _ u _ _ (TreeAt.below Bz.out (Ab.out.trans (hu.mono Ab.out.size))) (TreeAt.below Be.out (Below.trans (by rw [<- hw5];exact zab _ _) (hu.mono (by rw [<- hw5];simp))));unfold kidV at Am;obtain ⟨⟨z0,z1,z2,z3,z4⟩,_⟩:=zaa hk5;obtain ⟨y0,y1,y2,y3,y4⟩:w5.cell? ⟨gt,0,none⟩=some (.int .i64 k)∧w5.cell? ⟨gt,1,none⟩=some (.string ⟨n.toArray⟩)∧w5.cell? ⟨gt,2,none⟩=some (.int .i64 mm)∧w5.cell? ⟨gt,3,none⟩=some (.int .i64 a)∧w5.cell? ⟨gt,4,none⟩=some (.slice o1 l1 c1):=⟨(zih (Ab.out.block gt Al.out) _).trans Aq.out.1,(zih (Ab.out.block gt Al.out) _).trans Aq.out.2.1,(zih (Ab.out.block gt Al.out) _).trans Aq.out.2.2.1,(zih (Ab.out.block gt Al.out) _).trans Aq.out.2.2.2.1,(zih (Ab.out.block gt Al.out) _).trans Aq.out.2.2.2.2⟩;have s0:w5.cell? ⟨gt,0,none⟩=some (.int .i64 k)∧w5.cell? ⟨gt,1,none⟩=some (.string ⟨n.toArray⟩)∧w5.cell? ⟨gt,2,none⟩=some (.int .i64 mm)∧w5.cell? ⟨gt,3,none⟩=some (.int .i64 a)∧w5.cell? ⟨gt,4,none⟩=some (.slice o1 l1 c1)∧w5.cell? ⟨B4,0,none⟩=some (.int .i64 k)∧w5.cell? ⟨B4,1,none⟩=some (.string ⟨n.toArray⟩)∧w5.cell? ⟨B4,2,none⟩=some (.int .i64 mm)∧w5.cell? ⟨B4,3,none⟩=some (.int .i64 a)∧w5.cell? ⟨B4,4,none⟩=some (.slice o2 l2 c2):=⟨y0,y1,y2,y3,y4,z0,z1,z2,z3,z4⟩;have s1:∀ i,(w5.drewN i).cell? ⟨gt,0,none⟩=some (.int .i64 k)∧(w5.drewN i).cell? ⟨gt,1,none⟩=some (.string ⟨n.toArray⟩)∧(w5.drewN i).cell? ⟨gt,2,none⟩=some (.int .i64 mm)∧(w5.drewN i).cell? ⟨gt,3,none⟩=some (.int .i64 a)∧(w5.drewN i).cell? ⟨gt,4,none⟩=some (.slice o1 l1 c1)∧(w5.drewN i).cell? ⟨B4,0,none⟩=some (.int .i64 k)∧(w5.drewN i).cell? ⟨B4,1,none⟩=some (.string ⟨n.toArray⟩)∧(w5.drewN i).cell? ⟨B4,2,none⟩=some (.int .i64 mm)∧(w5.drewN i).cell? ⟨B4,3,none⟩=some (.int .i64 a)∧(w5.drewN i).cell? ⟨B4,4,none⟩=some (.slice o2 l2 c2):=fun _=>s0;have Cb:=hid s0;have Bp:Hid (B4<w5.heap.size∧gt<w5.heap.size):=⟨zej hk5,Nat.lt_of_lt_of_le Al.out Ab.out.size⟩;clear hw5 hB4 hk5;go_wp2_with fail
   go_region_held3 (fun w'=>w'.cell? ⟨gt,0,none⟩=some (.int .i64 k)∧w'.cell? ⟨gt,1,none⟩=some (.string ⟨n.toArray⟩)∧w'.cell? ⟨gt,2,none⟩=some (.int .i64 mm)∧w'.cell? ⟨gt,3,none⟩=some (.int .i64 a)∧w'.cell? ⟨gt,4,none⟩=some (.slice o1 l1 c1)∧w'.cell? ⟨B4,0,none⟩=some (.int .i64 k)∧w'.cell? ⟨B4,1,none⟩=some (.string ⟨n.toArray⟩)∧w'.cell? ⟨B4,2,none⟩=some (.int .i64 mm)∧w'.cell? ⟨B4,3,none⟩=some (.int .i64 a)∧w'.cell? ⟨B4,4,none⟩=some (.slice o2 l2 c2)) (first|with_reducible exact s0|with_reducible exact s1 _|with_reducible exact s7|exact s0) (first
    | (go_at_call 13
       refine (Am.out _ (zad (Below.refl _ _) _)).mono ?_;rintro e w7 ⟨rfl,hB0⟩;have hB7:Below w5.heap.size w5 w7:=(zad (Below.refl _ _) _).trans hB0;have An:=hid hB7;have s7:w7.cell? ⟨gt,0,none⟩=some (.int .i64 k)∧w7.cell? ⟨gt,1,none⟩=some (.string ⟨n.toArray⟩)∧w7.cell? ⟨gt,2,none⟩=some (.int .i64 mm)∧w7.cell? ⟨gt,3,none⟩=some (.int .i64 a)∧w7.cell? ⟨gt,4,none⟩=some (.slice o1 l1 c1)∧w7.cell? ⟨B4,0,none⟩=some (.int .i64 k)∧w7.cell? ⟨B4,1,none⟩=some (.string ⟨n.toArray⟩)∧w7.cell? ⟨B4,2,none⟩=some (.int .i64 mm)∧w7.cell? ⟨B4,3,none⟩=some (.int .i64 a)∧w7.cell? ⟨B4,4,none⟩=some (.slice o2 l2 c2):=by
        have f1:=fun o=>zih (hB7.block gt Bp.out.2) o;have f2:=fun o=>zih (hB7.block B4 Bp.out.1) o;have h9:=Cb.out;simp only [<- f1,<- f2] at h9;exact h9
       clear hB0 hB7))
   have Ae:=hid (Ac.out.idle (Ab.out.trans (An.out.mono Ab.out.size)));have Bh:=Bb.out;obtain ⟨eL,l2',l3',l4'⟩:=Bh;subst eL;obtain ⟨gb,cx,he,_,_⟩:=Ae.out.bown.form (by omega);cases he;obtain ⟨G,N,C,K,hLs,hNs⟩:=Ae.out.out
   have Bi:Hid (Calls Tryz.prog 15 #[.slice (some ⟨gb,0,none⟩) LB.length cb] w7 (fun e w'=>e=.returned (.bool true)∧Below w3.heap.size w7 w')):=apart_any w7 w3.heap.size gb LB.length cb G N C K hLs (fun i hi=>by
     obtain ⟨sl,hs,e⟩:=hNs i hi;obtain ⟨o,n,c,e2,hn⟩:=l4' sl hs;rw [e,e2];show n<=_
     omega) (by omega) Ae.out.bel.size
   have Cc:=hid (Ak.out.trans (Ae.out.bel.mono Ak.out.size));have Cd:Hid (w.heap.size<=w3.heap.size):=Ak.out.size;clear hLs hNs l2' l3' l4' s0 s1 s7 y0 y1 y2 y3 y4 z0 z1 z2 z3 z4;go_wp2_with fail
   refine Bi.out.mono ?_;rintro e w9 ⟨rfl,hB⟩;have Ce:=hid (Cc.out.trans (hB.mono Cd.out));clear hB;go_wp2;go_ret;exact ⟨rfl,Ce.out⟩
  have hlt2:(q:Int)<3:=by omega
  have hq0:(0:Int)<=(q:Int):=by omega
  have Bf:=hid hlt;have y0:wr.cell? ⟨NB,q,none⟩=some (.string ⟨(src q).toArray⟩):=(zac (Bc.out.block NB Ba.out) _).1.trans (Ap.out q hlt);obtain ⟨x,hx⟩:∃ x,src q=x:=⟨_,rfl⟩;rw [hx] at y0;have HY:Hid (∀ u,Below wr.heap.size wr u->u.cell? ⟨NB,q,none⟩=some (.string ⟨x.toArray⟩)):=fun u hu=>by
   rw [<- hx];exact (zac ((Bc.out.trans (hu.mono Bc.out.size)).block NB Ba.out) _).1.trans (Ap.out q Bf.out)
  have Cf:Hid (q=0->x=l):=fun e=>by rw [<- hx,e];exact Bw.out
  obtain ⟨R,hR⟩:∃ R,zeo x=R:=⟨_,rfl⟩;have Cg:=hid hR;have Bq:Hid (Calls Tryz.prog 11 #[.string ⟨x.toArray⟩] wr (_root_.Go.Proofs.YtighggeokiahfaaGreatDoor.ParsePost R wr)):=by
   have h1:=zla x wr (HG.out.below Bx.out);rw [hR] at h1;exact h1
  have Bd:Hid (∀ u,Calls Tryz.prog 12 #[.string ⟨x.toArray⟩] u (ParsePost R u)):=fun u=>by
   have h1:=zmu x u;rw [hR] at h1;exact h1
  obtain ⟨k,n,mm,a,ks,hT⟩:∃ k n mm a ks,zjv R=.node k n mm a ks:=by cases zjv R;exact ⟨_,_,_,_,_,rfl⟩
  have HT:=hid hT;have Br:Hid (nodes (.node k n mm a ks)<=20000):=by
   have h1:=parse_small x;rw [hR,hT] at h1;exact h1
  obtain ⟨E,hE⟩:∃ E,errOf R=E:=⟨_,rfl⟩;obtain ⟨P,hP⟩:∃ P,placeOf R=P:=⟨_,rfl⟩;have Ag:Hid (errOf R=E∧placeOf R=P):=⟨hE,hP⟩;clear hx hR hT hE hP hlt;go_wp2_with fail
  refine Bq.out.mono ?_;intro e w4 hpp;obtain ⟨o1,l1,c1,rfl,hv,hB⟩:=parse_s hpp HT.out;rw [Ag.out.1,Ag.out.2];have Bs:=hid hv;have Ad:=hid hB;clear hpp hv hB y0;unfold kidV;have y1:w4.cell? ⟨NB,q,none⟩=some (.string ⟨x.toArray⟩):=HY.out w4 Ad.out;have y1x:∀ z,(w4.alloc z).cell? ⟨NB,q,none⟩=some (.string ⟨x.toArray⟩):=fun z=>HY.out _ (Ad.out.alloc Ad.out.size z);go_wp2_with fail
  obtain ⟨w5,hw5⟩:∃ z,w4.alloc (.cells #[.int .i64 k,.string ⟨n.toArray⟩,.int .i64 mm,.int .i64 a,.slice o1 l1 c1] 29)=z:=⟨_,rfl⟩;rw [hw5];have Ab:Hid (Below wr.heap.size wr w5):=by show Below _ _ _;rw [<- hw5];exact Ad.out.alloc Ad.out.size _
  have Ah:Hid (w5.heap[w4.heap.size]?=some (kidO k n mm a (.slice o1 l1 c1))∧w4.heap.size<w5.heap.size∧wr.heap.size<=w4.heap.size):=⟨by rw [<- hw5];exact heap_alloc_new _ _,by rw [<- hw5];simp,Ad.out.size⟩;have Bt:Hid (_root_.Go.Proofs.YtighggeokiahfaaGreatDoor.TreeAt (fun b=>wr.heap.size<=b∧b<w5.heap.size) w5 (.node k n mm a ks) (kidV k n mm a (.slice o1 l1 c1))):=by
   show _root_.Go.Proofs.YtighggeokiahfaaGreatDoor.TreeAt _ _ _ _;refine _root_.Go.Proofs.YtighggeokiahfaaGreatDoor.TreeAt.frame (fun b hb=>⟨hb.1,Nat.lt_trans hb.2 Ah.out.2.1⟩) (fun b _ hl=>?_) _ _ (_root_.Go.Proofs.YtighggeokiahfaaGreatDoor.TreeAt.there _ _ Bs.out);rw [<- hw5];exact (zab w4 _).block b hl
  clear hw5 y1 y1x Bs;refine (Bd.out w5).mono ?_;intro e w6 hpp;obtain ⟨o2,l2,c2,rfl,hv,hB⟩:=parse_u hpp HT.out;rw [Ag.out.1,Ag.out.2];have Be:=hid hv;have Ar:=hid hB;clear hpp hv hB;unfold kidV;have Ai:Hid (w6.heap[w4.heap.size]?=some (kidO k n mm a (.slice o1 l1 c1))∧w4.heap.size<w6.heap.size):=⟨zaj Ar.out Ah.out.1,Nat.lt_of_lt_of_le Ah.out.2.1 Ar.out.size⟩;obtain ⟨⟨z0,z1,z2,z3,z4⟩,_⟩:=zaa Ai.out.1;have z0x:∀ z,(w6.alloc z).cell? ⟨w4.heap.size,0,none⟩=_:=fun z=>(World.cell?_alloc_lt _ _ _ Ai.out.2).trans z0;have z1x:∀ z,(w6.alloc z).cell? ⟨w4.heap.size,1,none⟩=_:=fun z=>(World.cell?_alloc_lt _ _ _ Ai.out.2).trans z1;have z2x:∀ z,(w6.alloc z).cell? ⟨w4.heap.size,2,none⟩=_:=fun z=>(World.cell?_alloc_lt _ _ _ Ai.out.2).trans z2;have z3x:∀ z,(w6.alloc z).cell? ⟨w4.heap.size,3,none⟩=_:=fun z=>(World.cell?_alloc_lt _ _ _ Ai.out.2).trans z3;have z4x:∀ z,(w6.alloc z).cell? ⟨w4.heap.size,4,none⟩=_:=fun z=>(World.cell?_alloc_lt _ _ _ Ai.out.2).trans z4;go_wp2_with fail
  obtain ⟨w7,hw7⟩:∃ z,w6.alloc (.cells #[.int .i64 k,.string ⟨n.toArray⟩,.int .i64 mm,.int .i64 a,.slice o2 l2 c2] 29)=z:=⟨_,rfl⟩;rw [hw7];have An:Hid (Below w5.heap.size w5 w7):=by show Below _ _ _;rw [<- hw7];exact Ar.out.alloc Ar.out.size _
  have Am:Hid (Calls Tryz.prog 13 #[kidV k n mm a (.slice o1 l1 c1),kidV k n mm a (.slice o2 l2 c2)] w7 (fun e w'=>e=.returned (.bool true)∧Below w7.heap.size w7 w')):=zl4 _ (.node k n mm a ks) (Nat.le_refl _) _ _ w7 _ _ (TreeAt.below (weakT _ _ Bt.out) An.out) (by rw [<- hw7];exact TreeAt.below Be.out (zab _ _));unfold kidV at Am;clear hw7 z0 z1 z2 z3 z4 z0x z1x z2x z3x z4x;refine Am.out.mono ?_;rintro e w8 ⟨rfl,hB⟩;have Af:Hid (Below w5.heap.size w5 w8):=An.out.trans (hB.mono An.out.size);have Au:Hid (Below wr.heap.size wr w8):=Ab.out.trans (Af.out.mono Ab.out.size);have Ch:Hid (w8.heap[w4.heap.size]?=some (kidO k n mm a (.slice o1 l1 c1))):=zaj Af.out Ah.out.1;clear hB An Am Ai Be Ar Bq Bd Ag;have e1:(E != E)=false:=by simp
  have e2:((P:Int) != (P:Int))=false:=by simp
  obtain ⟨⟨z0,z1,z2,z3,z4⟩,_⟩:=zaa Ch.out;go_wp2_with (at_builtin;refine Hid.out ?_)
  refine (show Hid _ from ?_);have Av:=hid (Au.out.alloc Au.out.size (.cells #[.int .i64 k,.string ⟨n.toArray⟩,.int .i64 mm,.int .i64 a,.slice o1 l1 c1] 29));have Aa:=hid (Af.out.alloc Af.out.size (.cells #[.int .i64 k,.string ⟨n.toArray⟩,.int .i64 mm,.int .i64 a,.slice o1 l1 c1] 29));have HU:=hid (Ac.out.idle Av.out);have Ci:Hid (w8.heap.size<(w8.alloc (.cells #[.int .i64 k,.string ⟨n.toArray⟩,.int .i64 mm,.int .i64 a,.slice o1 l1 c1] 29)).heap.size):=by show _<_;simp
  refine zc9 rfl _ _ 27 rfl w3.heap.size 29 inf (.agg #[.int .i64 0,.string ⟨#[]⟩,.int .i64 0,.int .i64 0,.slice none 0 0]) 5 64 Tryz.underlying27 HI.out rfl (by decide) (.slice ot q ct) q TX rfl HU.out.town ⟨w8.heap.size,0,none⟩ 1 [.int .i64 k,.string ⟨n.toArray⟩,.int .i64 mm,.int .i64 a,.slice o1 l1 c1] rfl rfl (World.news_of_block (cs:=#[.int .i64 k,.string ⟨n.toArray⟩,.int .i64 mm,.int .i64 a,.slice o1 l1 c1]) (t:=29) (fr:=(0,0)) (heap_alloc_new _ _)) (by simp [Value.oneCell']) (by unfold maxLen;omega) (by omega) HU.out.bel.size ?_;intro g1 cp1 w9 hown hpart;generalize w8.alloc (.cells #[.int .i64 k,.string ⟨n.toArray⟩,.int .i64 mm,.int .i64 a,.slice o1 l1 c1] 29)=w8a at Av Aa HU Ci hpart;have Bu:=hid (_root_.Go.Proofs.YtighggeokiahfaaGreatDoor.TreeAt.frame (fun _ h=>h) (fun b hb hl=>Aa.out.block b hl) _ _ Bt.out);obtain ⟨hSP9,hgg,hkk⟩:=HU.out.tree (E:=w5.heap.size) (fun g e=>(Ac.out.town.lt g e).2) (fun g e=>(Ac.out.bown.lt g e).2) Aa.out.size (fun e=>by rw [<- Cf.out e,Cg.out,HT.out];exact Bu.out) hown hpart;have Cj:=hid (_root_.Go.Proofs.YtighggeokiahfaaGreatDoor.TreeAt.frame (A':=fun b=>wr.heap.size<=b∧b<w5.heap.size) (fun _ h=>h) (fun b hb hl=>hkk b hl (by have:=hb.1;have:=hb.2;omega)) _ _ Bu.out);have Ck:Hid (w9.heap[w4.heap.size]?=some (kidO k n mm a (.slice o1 l1 c1))):=by
   show _=_;have h1:=Ah.out.2.1;have h2:=Ah.out.2.2;rw [hkk w4.heap.size (Nat.lt_of_lt_of_le h1 Aa.out.size) (by omega)];exact zaj Aa.out Ah.out.1
  have Cl:=hid hSP9;have Cm:=hid hgg;have Bj:Hid (w5.heap.size<=w9.heap.size):=by
   show _<=_;rcases hpart with ⟨_,hg⟩|⟨_,hg⟩
   · exact Nat.le_trans Aa.out.size hg.size
   · exact Nat.le_trans Aa.out.size hg.size
  clear hSP9 hgg hkk hown hpart z0 z1 z2 z3 z4;obtain ⟨ls,hLs,hAp⟩:=lstT_of _ _ Cj.out;have Aw:Hid (ls.length<=20000∧0<ls.length):=by
   have h1:=lstT_len _ _ _ hLs;have h2:=Br.out;refine ⟨by omega,?_⟩;rw [h1,nodes];omega
  have Cn:Hid (∀ sl∈ls,∃ o n c,sl=.slice o n c∧n<=20000):=fun sl hs=>by
   obtain ⟨o,n,c,e,hn⟩:=lstT_lens _ _ _ hLs sl hs;exact ⟨o,n,c,e,Nat.le_trans hn Br.out⟩
  have Bl:=hid (zn2 _ _ _ hLs);have Bm:=hid hLs;have Bi:=hid hAp;clear hLs hAp;obtain ⟨⟨z0,z1,z2,z3,z4⟩,_⟩:=zaa Ck.out;go_wp2_with fail
  refine (lists_any _ (.node k n mm a ks) (Nat.le_refl _) w9 (kidV k n mm a (.slice o1 l1 c1)) ls Bm.out (by have:=Aw.out.1;omega) w9 (Below.refl _ _)).mono ?_;rintro e w10 ⟨g2,cp2,rfl,ho2,hg2,hB10⟩;have Aj:=hid (Cl.out.idle hB10);have Ax:=hid (Apt.frame (fun _ h=>h) (fun b _ hl=>hB10.block b hl) Bi.out);have Co:=hid ho2;have Ay:Hid (w5.heap.size<=w10.heap.size):=Nat.le_trans Bj.out hB10.size;have Bn:Hid (w10.ownsRow w3.heap.size 27 1 (.slice ob LN cb) LN LB):=by
   have h1:=Aj.out.bown;rw [Bb.out.1] at h1;exact h1
  have Bv:Hid (LN+ls.length<=100000):=by show _<=_;have h1:=Bb.out.2.2.1;have h2:=Bf.out;have h3:=Aw.out.1;omega
  clear ho2 hg2 hB10;go_wp2_with (at_builtin;refine wpList_append_lies _ rfl _ _ 26 rfl w3.heap.size 27 inf2 (.slice none 0 0) 1 24 und26y Az.out.1 Az.out.2.1 Az.out.2.2.1 Az.out.2.2.2 rfl (by decide) (.slice ob LN cb) LN LB rfl Bn.out ⟨g2,0,none⟩ ls.length cp2 ls rfl (Nat.mul_one _).symm (zm0 Co.out) Bl.out Aw.out.2 (by have:=Bv.out;unfold maxLen;omega) (by have:=Bv.out;omega) Aj.out.bel.size _ rfl ?_;intro gq cq2 w11 hown hgrow hat hlt;have Bo:=hid4 hgrow hown hat hlt;clear hown hgrow hat hlt)
  go_roundw
  case rel =>
   obtain ⟨hgrow,hown,hat,_⟩:=Bo.out;have hLB:=Bb.out;obtain ⟨e9,h1,h2,h3⟩:=hLB;subst e9;refine ⟨q+1,LB.length+ls.length,cp1,cq2,some ⟨g1,0,none⟩,some ⟨gq,0,none⟩,TX++[.int .i64 k,.string ⟨n.toArray⟩,.int .i64 mm,.int .i64 a,.slice o1 l1 c1],LB++ls,rfl,rfl,by go_num,Bf.out,⟨List.length_append,?_,?_,?_⟩,?_⟩
   · have:=Aw.out.2;omega
   · have:=Aw.out.1;omega
   · intro sl hs;rcases List.mem_append.1 hs with hs|hs
     · exact h3 sl hs
     · exact Cn.out sl hs
   · have hz:=Aj.out.book (E:=w5.heap.size) (fun g e=>by rw [<- ziz e];exact Cm.out) (fun g e=>(Ac.out.bown.lt g e).2) Ab.out.size Ay.out Ax.out hown hgrow hat
     exact hz.up (Nat.le_trans Ay.out hgrow.size) (Nat.le_refl _)
  case measure=>have:=Bf.out;simp [intOf];omega
theorem prs_any (l m:List UInt8) (w:World) (hG:zi6 w) (hl:l.length<=9223372036854775807) (hm:m.length<=9223372036854775807):Calls Tryz.prog 3 #[.string ⟨l.toArray⟩,.string ⟨m.toArray⟩] w fun e w'=>e=.returned (.bool true)∧Below w.heap.size w w':=by
 by_cases h:zjz l m<=2147483647
 · exact prs_main l m w hG hl hm h
 · exact prs_more l m w hl hm h
end Go.Proofs.YtighggeokiahfaaGreatDoor.Dm
