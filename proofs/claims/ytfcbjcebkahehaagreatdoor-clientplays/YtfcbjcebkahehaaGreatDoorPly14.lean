import Derived.Test.YtfcbjcebkahehaaGreatDoorPly10
import Derived.Test.YtfcbjcebkahehaaGreatDoorPly13
import Derived.Test.YtfcbjcebkahehaaGreatDoorPly03
import Derived.Test.YtfcbjcebkahehaaGreatDoorPly02
import Derived.Test.YtfcbjcebkahehaaGreatDoorPly11
import Derived.Test.YtfcbjcebkahehaaGreatDoorPly07
set_option maxRecDepth 8000
set_option maxHeartbeats 20000000
set_option linter.unusedSimpArgs false
namespace Go.Proofs.YtfcbjcebkahehaaGreatDoor.Cl
set_option linter.unusedSimpArgs false
open Go.RowKit
theorem zb9:(Tryz.prog.info? 126).map (·.size)=some 15:=by kernel_rfl
theorem zgz:(Tryz.prog.info? 46).map (·.size)=some 10:=by kernel_rfl
def hitD (n src:Int) (x:Dw):Bool:=decide (x.seq=n)&&decide (x.dst=src)
def DHearQ (K:Nat->Nat) (w w' : World) (B t p:Nat) (c:Cf) (oa:Option Addr) (cap:Nat) (next now:Int) (L:List Dw) (D:List Oc) (q:Mq) (src dst:Int) (r:ReplyP × Int) (h' : Bool) (a' b' : Nat) (e:Ending):Prop :=
 (e=.returned (iI 0)∧(dst≠c.ad∨r.2≠0∨∀ y∈L,hitD r.1.xid src y=false)∧Hid (Below w.heap.size w w')) ∨
 (∃ A x R,e=.returned (iI r.1.xid)∧dst=c.ad∧r.2=0∧L=A++x::R∧hitD r.1.xid src x=true∧(∀ y∈A,hitD r.1.xid src y=false)∧Hid (∃ K' vw' vd',DC K' w' B t p c oa cap next now (A++R) (D++[{ zcy r.1 with seq:=x.seq,at_:=now }]) vw' vd' ⟨q.blk,h',a',b'⟩∧Mv (fun u=>u=t∨u=t+1∨u=t+2∨u=t+5) w w' K K'))
section
variable {K K' : Nat->Nat} {w w' : World} {B t p:Nat} {c:Cf} {oa:Option Addr} {cap:Nat} {next now:Int} {L:List Dw} {D:List Oc} {vw vd:Value} {q:Mq}
theorem DC.meter_any (h:DC K w B t p c oa cap next now L D vw vd q) (n:Int) (a' b' : Nat) (ok:MOk true a' b') (tw:Twin q.h q.m q.s n a' b'):Calls Tryz.prog 109 #[ptr q.blk,iI n] w fun e w'=>e=.returned (.tuple #[])∧Hid (DC K w' B t p c oa cap next now L D vw vd ⟨q.blk,true,a',b'⟩∧Mv (fun u=>u=t+5) w w' K K):=by
 refine (tw w q.blk ⟨h.me.tb.at_⟩).mono ?_;rintro e w' ⟨rfl,mt,ow⟩;have mv:Mv (fun u=>u=t+5) w w' K K:=⟨ow.os,ow.tape,ow.output,ow.size,fun _ _=>rfl,fun b hb hne=>ow.kept b hb (fun e=>hne (by rw [e];exact h.me.tb.k))⟩;exact ⟨rfl,⟨h.cl.mv mv (by omega),h.wr.mv mv (by omega),h.dn.mv mv (by omega),⟨⟨mt.at_,h.me.tb.k⟩,ok⟩,h.gs.mv mv (by omega),h.gl,h.ok,Nat.le_trans h.hB mv.size,fun b hb=>h.h0 b hb⟩,mv⟩
theorem copied (w:World) (x:Dw):∃ SA wA wB,w.heap.size=SA∧w.alloc (.cells #[iI 0,iI 0,iI 0,iI 0,iI 0,iI 0,.string ⟨#[]⟩,iI 0,.string ⟨#[]⟩,.string ⟨#[]⟩,iI 0,iI 0,iI 0,iI 0,iI 0] 126)=wA∧wA.setCells SA 0 (dwC x)=wB∧wA.heap[SA]?=some (.cells #[iI 0,iI 0,iI 0,iI 0,iI 0,iI 0,.string ⟨#[]⟩,iI 0,.string ⟨#[]⟩,.string ⟨#[]⟩,iI 0,iI 0,iI 0,iI 0,iI 0] 126)∧wB.heap[SA]?=some (.cells (dwC x).toArray 126)∧Below w.heap.size w wB:=by
 refine ⟨_,_,_,rfl,rfl,rfl,(MapKept.heap_alloc w _).1,?_,?_⟩
 · exact zat (MapKept.heap_alloc w _).1 _ rfl
 · exact za1 ((Below.refl _ _).alloc (Nat.le_refl _) _) (Nat.le_refl _)
theorem DC.heard_end {A R:List Dw} {x:Dw} {wz:World} {Kz:Nat->Nat} {q' : Mq} {S2:Nat} {RV:List Value} {xid:Int} (P:DC Kz wz B t p c oa cap next now (A++x::R) D vw vd q') (mz:Mv (fun u=>u=t+5) w wz K Kz) (k2:wz.heap[S2]?=some (.cells RV.toArray 46)) (hk:Kz S2=t+7) (h0:RV[0]?=some (iI xid)) (oc:Oc) (hl:D.length<=100000000) (hL:(A++x::R).length<=100000000) :
 Calls Tryz.prog 66 #[ptr p,iI (A.length:Int),.agg (ocC oc).toArray] wz fun e w'=>(∃ v,e=.returned v)∧w'.cell? ⟨S2,0,none⟩=some (iI xid)∧Hid (∃ K' vw' vd',DC K' w' B t p c oa cap next now (A++R) (D++[{ oc with seq:=x.seq,at_:=now }]) vw' vd' q'∧Mv (fun u=>u=t∨u=t+1∨u=t+2∨u=t+5) w w' K K'):=by
 refine (P.ends_any oc hl (by simp at hL;omega)).mono ?_;rintro e w' ⟨he,hh⟩;obtain ⟨K',vw',vd',P',m'⟩:=hh.out;refine ⟨he,?_,K',vw',vd',P',(mz.mono (fun u e=>by omega)).trans (m'.mono (fun u e=>by omega))⟩;exact zaa ((m'.kept S2 (Array.getElem?_eq_some_iff.1 k2).1 (by rw [hk];omega)).trans k2) (by simpa using h0)
theorem DC.hear_any (h:DC K w B t p c oa cap next now L D vw vd q) (src dst:Int) (data:List UInt8) (hlen:data.length<=140737488355328) (hL:L.length<=100000000) (hD:D.length<=100000000) (hnow:∀ x∈L,-1000000000000<=now - x.last∧now - x.last<=1000000000000) (h' : Bool) (a' b' : Nat)
 (hm:∀ A x R,L=A++x::R->dst=c.ad->(za0 data).2=0->hitD (za0 data).1.xid src x=true->(∀ y∈A,hitD (za0 data).1.xid src y=false)->MOk h' a' b'∧(x.giv≠1->h'=q.h∧a'=q.m∧b'=q.s)∧(x.giv=1->h'=true∧Twin q.h q.m q.s (now - x.last) a' b')) :
 Calls Tryz.prog 68 #[ptr p,.agg #[iI src,iI dst,.string ⟨data.toArray⟩]] w fun e w'=>DHearQ K w w' B t p c oa cap next now L D q src dst (za0 data) h' a' b' e:=by
 obtain ⟨S,hS⟩:∃ y,w.heap.size=y:=⟨_,rfl⟩;obtain ⟨ds,hds⟩:∃ ds:ByteArray,(⟨data.toArray⟩:ByteArray)=ds:=⟨_,rfl⟩;obtain ⟨w0,hw0⟩:∃ y,w.alloc (.cells #[iI src,iI dst,.string ds] 78)=y:=⟨_,rfl⟩;have B0:Below w.heap.size w w0:=by rw [<- hw0];exact (Below.refl _ _).alloc (Nat.le_refl _) _
 have k0:w0.heap[S]?=some (.cells #[iI src,iI dst,.string ds] 78):=by rw [<- hw0,<- hS];exact (MapKept.heap_alloc w _).1
 have hl0:=(Array.getElem?_eq_some_iff.1 k0).1;have a2:w0.cell? ⟨S,2,none⟩=some (.string ds):=zaa k0 rfl;have HP:Hid (Calls Tryz.prog 108 #[.string ds] w0 fun e w'=>e=.returned (.tuple #[.agg (zam (za0 data).1).toArray,iI (za0 data).2])∧Below w0.heap.size w0 w'):=by rw [<- hds];exact zgc data w0 hlen
 obtain ⟨pr,hpr⟩:∃ pr,za0 data=pr:=⟨_,rfl⟩;rw [hpr] at HP hm ⊢;obtain ⟨rr,er⟩:=pr;obtain ⟨RV,hRV⟩:∃ y,zam rr=y:=⟨_,rfl⟩;have hRV0:RV[0]?=some (iI rr.xid):=by rw [<- hRV];rfl
 have hRVl:RV.length=10:=by rw [<- hRV];rfl
 have hRV1:∀ v∈RV,v.oneCell'=true:=by rw [<- hRV];intro v hv;simp only [zam,List.mem_cons,List.not_mem_nil,or_false] at hv;rcases hv with rfl|rfl|rfl|rfl|rfl|rfl|rfl|rfl|rfl|rfl <;> rfl
 have HO:Hid (∀ w',Calls Tryz.prog 110 #[.agg RV.toArray] w' fun e w''=>e=.returned (.agg (ocC (zcy rr)).toArray)∧Below w'.heap.size w' w''):=fun w'=>by rw [<- hRV];exact doutcome_any rr w'
 dsimp only at HP hm ⊢
 rw [hRV] at HP;rw [hds];obtain ⟨xid,hxid⟩:∃ y,rr.xid=y:=⟨_,rfl⟩;rw [hxid] at hRV0 hm;have HH:=hid (And.intro h (And.intro B0 (And.intro k0 (And.intro hl0 hnow))));have HL:=hid (And.intro hL hD);have HM:=hid hm;have HX:=hid hxid;have HV:=hid (And.intro hRV0 (And.intro hRVl hRV1));clear h B0 k0 hl0 hnow hL hD hm hds hpr hlen hRV hRV0 hRVl hRV1 hxid;go_enter Tryz.func68,Tryz.ntmps68
 go_wp2_with fail
 refine HP.out.mono ?_;rintro _ w1 ⟨rfl,hb1⟩;have Ac:=hid hb1;clear HP hb1 a2;obtain ⟨S2,hS2⟩:∃ y,w1.heap.size=y:=⟨_,rfl⟩;obtain ⟨wA,hwA⟩:∃ y,w1.alloc (.cells #[iI 0,.bool false,iI 0,.string ⟨#[]⟩,iI 0,iI 0,iI 0,iI 0,iI 0,.string ⟨#[]⟩] 46)=y:=⟨_,rfl⟩;have kA:wA.heap[S2]?=some (.cells #[iI 0,.bool false,iI 0,.string ⟨#[]⟩,iI 0,iI 0,iI 0,iI 0,iI 0,.string ⟨#[]⟩] 46):=by rw [<- hwA,<- hS2];exact (MapKept.heap_alloc w1 _).1
 obtain ⟨w2,hw2⟩:∃ y,wA.setCells S2 0 RV=y:=⟨_,rfl⟩;have Ae:Hid (w2.heap[S2]?=some (.cells RV.toArray 46)):=by rw [<- hw2];exact zat kA _ HV.out.2.1
 have Aa:Hid (Below w0.heap.size w0 w2):=by
  have hb:Below w1.heap.size w1 w2:=by rw [<- hw2,<- hwA];exact za1 ((Below.refl _ _).alloc (Nat.le_refl _) _) (Nat.le_of_eq hS2)
  exact Ac.out.trans (hb.mono Ac.out.size)
 have Ai:=hid kA;have Aj:=hid hw2;clear kA hw2;go_wp2_with (with_reducible refine zba 46 rfl ?_)
 refine (show Hid _ from ?_);refine za6 rfl 46 rfl S2 0 RV Ai.out rfl rfl (by rw [HV.out.2.1];simp) (by rw [HV.out.2.1];exact zgz) HV.out.2.2 Aj.out ?_;have Ag:Hid (S<w0.heap.size∧S2<w2.heap.size∧w.heap.size<=S2):=⟨HH.out.2.2.2.1,(Array.getElem?_eq_some_iff.1 Ae.out).1,by rw [<- hS2];exact Nat.le_trans HH.out.2.1.size Ac.out.size⟩;clear hwA Ai Aj hS2 hw0;clear hS;have HC:Hid (∀ u,Below w2.heap.size w2 u->u.cell? ⟨S,0,none⟩=some (iI src)∧u.cell? ⟨S,1,none⟩=some (iI dst)∧u.cell? ⟨p,0,none⟩=some (iI c.ad)∧u.cell? ⟨S2,0,none⟩=some (iI xid)∧Below w.heap.size w u∧u.heap[S2]?=some (.cells RV.toArray 46)∧DC (ext w K (fun _=>t+7)) u B t p c oa cap next now L D vw vd q∧Mv (fun _=>False) w u K (ext w K (fun _=>t+7))):=fun u hb=>by
  have e1:=Aa.out.trans (hb.mono Aa.out.size);have k1:=(e1.block S Ag.out.1).trans HH.out.2.2.1;have e2:=HH.out.2.1.trans (e1.mono HH.out.2.1.size);have k2:=(hb.block S2 Ag.out.2.1).trans Ae.out;have P:=HH.out.1.below e2 (fun _=>t+7);exact ⟨zaa k1 rfl,zaa k1 rfl,P.ce rfl,zaa k2 (by simpa using HV.out.1),e2,k2,P,Mv.of_below e2 K _⟩
 obtain ⟨s0,s1,s2,s3,_,_,_,_⟩:=HC.out w2 (Below.refl _ _);by_cases hd:dst=c.ad
 case neg =>
  have hne:(dst != c.ad)=true:=by simpa using hd
  have HF:Hid (∀ k,Below w.heap.size w (w2.drewN k)):=fun k=>(HC.out _ (zdb w2 k)).2.2.2.2.1;have HD:=hid hd;clear hd HC Ae Aa Ac HM;go_wp2_with fail
  go_quiet (fail)
  go_wp2;go_ret;exact .inl ⟨rfl,.inl HD.out,HF.out _⟩
 have hne:(dst != c.ad)=false:=by simpa using hd
 by_cases he:er=0
 case neg =>
  have hne2:(er != 0)=true:=by simpa using he
  have HF:Hid (∀ k,Below w.heap.size w (w2.drewN k)):=fun k=>(HC.out _ (zdb w2 k)).2.2.2.2.1;have HD:=hid he;clear hd he HC Ae Aa Ac HM;go_wp2_with fail
  go_quiet (fail)
  go_wp2;go_ret;exact .inl ⟨rfl,.inr (.inl HD.out),HF.out _⟩
 have hne2:(er != 0)=false:=by simpa using he
 have HD:=hid (And.intro hd he);clear hd he Ae Aa Ac;go_wp2_with fail
 go_quiet (fail)
 rename_i nq;have Ak:Hid (Below w2.heap.size w2 (w2.drewN nq)):=zdb w2 nq;generalize w2.drewN nq=w3 at *;clear s0 s1 s2 s3 hne hne2;obtain ⟨n,hn⟩:∃ n,L.length=n:=⟨_,rfl⟩;have HN:=hid hn;clear hn;go_wp2_with fail
 go_loopw [7] (fun u7 wr=>∃ j:Nat,u7=iI (j:Int)∧j<=n∧Hid (Below w2.heap.size w2 wr∧∀ y∈L.take j,hitD xid src y=false)) (fun u7 _=>n - (intOf u7).toNat)
 case atStart=>exact ⟨0,rfl,by omega,Ak.out,fun y hy=>by simp at hy⟩
 case round =>
  obtain ⟨j,rfl,hjn,HR⟩:=hrel;clear Ak;obtain ⟨wo,hwo⟩:∃ yy,yy=wr:=⟨_,rfl⟩;subst hwo;obtain ⟨K1,hK1⟩:∃ y,ext w K (fun _=>t+7)=y:=⟨_,rfl⟩;rw [hK1] at HC;obtain ⟨s0,s1,s2,s3,sB,sR,P1,m1⟩:=HC.out wo HR.out.1;obtain ⟨o14,c14,ew,_,hg⟩:=P1.wr.form;subst ew;have d14:wo.cell? ⟨p,14,none⟩=some (.slice o14 L.length c14):=P1.ce rfl;rw [HN.out] at d14;by_cases hj:j<n
  case neg =>
   have hjn' : j=n:=by omega
   subst hjn';have HF:Hid ((∀ y∈L,hitD rr.xid src y=false)∧Below w.heap.size w wo):=⟨by have:=HR.out.2;rw [HX.out];rwa [List.take_of_length_le (by rw [HN.out];omega)] at this,sB⟩;clear P1 m1 HR hg sR sB HC HM HO HV;go_wp2;go_ret;exact .inl ⟨rfl,.inr (.inr HF.out.1),HF.out.2⟩
  have hji:(j:Int)<(n:Int):=by omega
  obtain ⟨g,rfl⟩:=hg (by rw [HN.out];omega);obtain ⟨x,hx⟩:∃ x,L[j]?=some x:=⟨_,List.getElem?_eq_getElem (by rw [HN.out];omega)⟩;obtain ⟨A,R,hAR,hAj⟩:∃ A R,L=A++x::R∧A.length=j:=by
   obtain ⟨hl,he⟩:=List.getElem?_eq_some_iff.1 hx;exact ⟨L.take j,L.drop (j+1),by rw [<- he,List.getElem_cons_drop];exact (List.take_append_drop j L).symm,by rw [List.length_take];omega⟩
  have Af:Hid (wo.rangeAt g (j*15) (dwC x)):=P1.wr.range dwL rfl hx;obtain ⟨SA,wA,wB,hSA,hwA,hwB,kA,kB,bB⟩:=copied wo x;have HS:=hid (And.intro kA (And.intro hwB bB));have t0:wB.cell? ⟨SA,0,none⟩=some (iI x.seq):=zaa kB rfl;have t10:wB.cell? ⟨SA,10,none⟩=some (iI x.dst):=zaa kB rfl;have t13:wB.cell? ⟨SA,13,none⟩=some (iI x.giv):=zaa kB rfl;have t14:wB.cell? ⟨SA,14,none⟩=some (iI x.last):=zaa kB rfl;have bb2:=HR.out.1.trans (bB.mono HR.out.1.size);have HB2':=hid bb2;obtain ⟨r0,r1,r2,r3,rB,rR,P2,m2⟩:=HC.out wB bb2;have hKS:K1 S2=t+7:=by rw [<- hK1];exact za2 Ag.out.2.2
  have hnx:=HH.out.2.2.2.2 x (by rw [hAR];simp);have Ab:Hid (DC K1 wB B t p c oa cap next now (A++x::R) D (.slice (some ⟨g,0,none⟩) L.length c14) vd q∧Mv (fun _=>False) w wB K K1∧K1 S2=t+7∧wB.heap[S2]?=some (.cells RV.toArray 46)∧(A++x::R).length<=100000000∧D.length<=100000000):=⟨by rw [<- hAR];exact P2,m2,hKS,rR,by rw [<- hAR];exact HL.out.1,HL.out.2⟩
  have HJ:Hid (∀ u,Below w2.heap.size w2 u->hitD xid src x=false->Below w2.heap.size w2 u∧∀ y∈L.take (j+1),hitD xid src y=false):=fun u hb hf=>⟨hb,fun y hy=>by
   rw [List.take_add_one,hx] at hy;rcases List.mem_append.1 hy with k|k
   · exact HR.out.2 y k
   · simp at k;rw [k];exact hf⟩
  have hj1:wrap64 ((j:Int)+1)=(j:Int)+1:=zb0 (by have:=HL.out.1;rw [HN.out] at this;omega);have HZ:Hid (L=A++x::R∧∀ y∈A,hitD xid src y=false):=⟨hAR,fun y hy=>HR.out.2 y (by rw [hAR,<- hAj];simp;exact hy)⟩;have Ad:=hid hAj;clear sB sR P1 m1 hx HR hg s0 s1 s2 s3 kA kB bB bb2 rB rR P2 m2 hKS hwB hAR hAj;by_cases hs:x.seq=xid
  case neg =>
   have hh:hitD xid src x=false:=by unfold hitD;simp [hs]
   have hsn:(x.seq != xid)=true:=by simpa using hs
   have HJ':=hid (HJ.out wB HB2'.out hh);clear Ab HJ HC HM HO HV HZ hh hs Ad hnx;go_wp2_with (with_reducible refine zbj 126 rfl ?_)
   refine (show Hid _ from ?_);refine zbh rfl 126 rfl g (j*15) (dwC x) rfl Af.out Tryz.underlying126 rfl zb9 ?_;go_wp2_with (with_reducible refine zba 126 rfl ?_)
   refine (show Hid _ from ?_);refine za6 rfl 126 rfl SA 0 (dwC x) HS.out.1 rfl rfl (by simp [dwL]) zb9 (dwO x) HS.out.2.1 ?_;clear hwA hSA HS;go_wp2;go_roundw
   case rel=>exact ⟨j+1,by first|rfl|(rw [hj1];rfl),by omega,HJ'.out⟩
   case measure=>exact meas (by first|rfl|exact hj1) hji
  have hsn:(x.seq != xid)=false:=by simpa using hs
  by_cases hd:x.dst=src
  case neg =>
   have hh:hitD xid src x=false:=by unfold hitD;simp [hd]
   have hdn:(x.dst != src)=true:=by simpa using hd
   have HJ':=hid (HJ.out wB HB2'.out hh);clear Ab HJ HC HM HO HV HZ hh hs hd Ad hnx;go_wp2_with (with_reducible refine zbj 126 rfl ?_)
   refine (show Hid _ from ?_);refine zbh rfl 126 rfl g (j*15) (dwC x) rfl Af.out Tryz.underlying126 rfl zb9 ?_;go_wp2_with (with_reducible refine zba 126 rfl ?_)
   refine (show Hid _ from ?_);refine za6 rfl 126 rfl SA 0 (dwC x) HS.out.1 rfl rfl (by simp [dwL]) zb9 (dwO x) HS.out.2.1 ?_;clear hwA hSA HS;go_wp2;go_roundw
   case rel=>exact ⟨j+1,by first|rfl|(rw [hj1];rfl),by omega,HJ'.out⟩
   case measure=>exact meas (by first|rfl|exact hj1) hji
  have hdn:(x.dst != src)=false:=by simpa using hd
  have hh:hitD xid src x=true:=by unfold hitD;simp [hs,hd]
  have hmm:=HM.out A x R HZ.out.1 HD.out.1 HD.out.2 hh HZ.out.2;obtain ⟨K2,hK2⟩:∃ y,K1=y:=⟨_,rfl⟩;have HZ:Hid (L=A++x::R∧hitD xid src x=true∧∀ y∈A,hitD xid src y=false):=⟨HZ.out.1,hh,HZ.out.2⟩;clear HJ HM hh hs hd HC hj1 hK2;by_cases hg1:x.giv=1
  case neg =>
   have hgn:(x.giv==1)=false:=by simpa using hg1
   have HT:Hid (wB.rangeAt S2 0 RV∧∀ w6,Below wB.heap.size wB w6->Calls Tryz.prog 66 #[ptr p,iI (j:Int),.agg (ocC (zcy rr)).toArray] w6 fun e w'=>(∃ v,e=.returned v)∧w'.cell? ⟨S2,0,none⟩=some (iI xid)∧Hid (∃ K' vw' vd',DC K' w' B t p c oa cap next now (A++R) (D++[{ zcy rr with seq:=x.seq,at_:=now }]) vw' vd' ⟨q.blk,h',a',b'⟩∧Mv (fun u=>u=t∨u=t+1∨u=t+2∨u=t+5) w w' K K')):=by
    obtain ⟨q1,q2,q3⟩:=hmm.2.1 hg1;subst q1 q2 q3;obtain ⟨P3,m3,hk,hr,hl1,hl2⟩:=Ab.out;refine ⟨zal hr,fun w6 hb6=>?_⟩;rw [<- Ad.out];exact (P3.below hb6 (fun _=>t+7)).heard_end ((m3.mono (fun _ e=>e.elim)).trans ((Mv.of_below hb6 _ (fun _=>t+7)).mono (fun _ e=>e.elim))) ((hb6.block S2 (Array.getElem?_eq_some_iff.1 hr).1).trans hr) ((zbd (Array.getElem?_eq_some_iff.1 hr).1).trans hk) HV.out.1 (zcy rr) hl2 hl1
   clear Ab hmm hg1 Ad hnx;go_wp2_with (with_reducible refine zbj 126 rfl ?_)
   refine (show Hid _ from ?_);refine zbh rfl 126 rfl g (j*15) (dwC x) rfl Af.out Tryz.underlying126 rfl zb9 ?_;go_wp2_with (with_reducible refine zba 126 rfl ?_)
   refine (show Hid _ from ?_);refine za6 rfl 126 rfl SA 0 (dwC x) HS.out.1 rfl rfl (by simp [dwL]) zb9 (dwO x) HS.out.2.1 ?_;clear hwA hSA HS;go_wp2_with (with_reducible refine zbj 46 rfl ?_)
   refine (show Hid _ from ?_);refine zbh rfl 46 rfl S2 0 RV rfl HT.out.1 Tryz.underlying46 rfl (by rw [HV.out.2.1];exact zgz) ?_;go_wp2_with fail
   refine (HO.out _).mono ?_;rintro _ w6 ⟨rfl,hb6⟩;have HE:=hid (HT.out.2 w6 hb6);clear hb6 HT HO;go_wp2_with fail
   refine HE.out.mono ?_;rintro _ w7 ⟨⟨v7,rfl⟩,z7,HF⟩;clear HE;go_wp2;go_ret;obtain ⟨e1,e2,e3⟩:=HZ.out;refine .inr ⟨A,x,R,by rw [HX.out];rfl,HD.out.1,HD.out.2,e1,by rw [HX.out];exact e2,by rw [HX.out];exact e3,HF⟩
  have hgn:(x.giv==1)=true:=by simpa using hg1
  obtain ⟨hmo,_,hmt⟩:=hmm;obtain ⟨hh1,htw⟩:=hmt hg1;subst hh1;obtain ⟨last,hlast⟩:∃ y,x.last=y:=⟨_,rfl⟩;rw [hlast] at t14 hnx htw;have hsub:wrap64 (now - last)=now - last:=zhh (by omega) (by omega);have hsub2:IntKind.i64.wrap (now - last)=now - last:=by rw [IntWalk.i64_left];exact hsub
  have s16:wB.drew.cell? ⟨p,16,none⟩=some (ptr q.blk)∧wB.drew.cell? ⟨p,12,none⟩=some (iI now)∧wB.drew.cell? ⟨SA,14,none⟩=some (iI last):=⟨Ab.out.1.ce (k:=16) rfl,Ab.out.1.ce (k:=12) rfl,t14⟩;have Al:Hid (Calls Tryz.prog 109 #[ptr q.blk,iI (now - last)] wB.drew fun e w5=>e=.returned (.tuple #[])∧Hid (w5.rangeAt S2 0 RV∧∀ w6,Below w5.heap.size w5 w6->Calls Tryz.prog 66 #[ptr p,iI (j:Int),.agg (ocC (zcy rr)).toArray] w6 fun e w'=>(∃ v,e=.returned v)∧w'.cell? ⟨S2,0,none⟩=some (iI xid)∧Hid (∃ K' vw' vd',DC K' w' B t p c oa cap next now (A++R) (D++[{ zcy rr with seq:=x.seq,at_:=now }]) vw' vd' ⟨q.blk,true,a',b'⟩∧Mv (fun u=>u=t∨u=t+1∨u=t+2∨u=t+5) w w' K K'))):=by
   obtain ⟨P3,m3,hk,hr,hl1,hl2⟩:=Ab.out;have P4:=P3.to (Mv.drew (fun _=>False) wB K1) (fun _ e=>e.elim);refine (P4.meter_any (now - last) a' b' hmo htw).mono ?_;rintro e w5 ⟨he,hh⟩;obtain ⟨P5,m5⟩:=hh.out;have hr4:wB.drew.heap[S2]?=some (.cells RV.toArray 46):=hr;have hr5:w5.heap[S2]?=some (.cells RV.toArray 46):=(m5.kept S2 (Array.getElem?_eq_some_iff.1 hr4).1 (by rw [hk];omega)).trans hr4;refine ⟨he,zal hr5,fun w6 hb6=>?_⟩;rw [<- Ad.out];exact (P5.below hb6 (fun _=>t+7)).heard_end ((m3.mono (fun _ e=>e.elim)).trans (((Mv.drew (fun _=>False) wB K1).mono (fun _ e=>e.elim)).trans (m5.trans ((Mv.of_below hb6 _ (fun _=>t+7)).mono (fun _ e=>e.elim))))) ((hb6.block S2 (Array.getElem?_eq_some_iff.1 hr5).1).trans hr5) ((zbd (Array.getElem?_eq_some_iff.1 hr5).1).trans hk) HV.out.1 (zcy rr) hl2 hl1
  clear Ab hmo htw hnx hg1 Ad hmt;go_wp2_with (with_reducible refine zbj 126 rfl ?_)
  refine (show Hid _ from ?_);refine zbh rfl 126 rfl g (j*15) (dwC x) rfl Af.out Tryz.underlying126 rfl zb9 ?_;go_wp2_with (with_reducible refine zba 126 rfl ?_)
  refine (show Hid _ from ?_);refine za6 rfl 126 rfl SA 0 (dwC x) HS.out.1 rfl rfl (by simp [dwL]) zb9 (dwO x) HS.out.2.1 ?_;clear hwA hSA HS;go_wp2_with fail
  refine zah (S:=fun w'=>w'.cell? ⟨p,16,none⟩=some (ptr q.blk)∧w'.cell? ⟨p,12,none⟩=some (iI now)∧w'.cell? ⟨SA,14,none⟩=some (iI last)) (n:=11) (by kernel_rfl) rfl (by kernel_rfl) (by kernel_rfl) ?_ (fun hHeld=>?_)
  · exact s16
  refine tk 0 ?_ rfl ?_ ?_;rotate_left
  · (intro w hs;(try dsimp only at hs);go_simp;try with_reducible rfl)
  try simp only [gA,gB,gC,Act.put,gE,gF,gG]
  refine tk 1 ?_ rfl ?_ ?_;rotate_left
  · (intro w hs;(try dsimp only at hs);go_simp;try with_reducible rfl)
  try simp only [gA,gB,gC,Act.put,gE,gF,gG]
  refine tk 2 ?_ rfl ?_ ?_;rotate_left
  · (intro w hs;(try dsimp only at hs);go_simp;try with_reducible rfl)
  try simp only [gA,gB,gC,Act.put,gE,gF,gG]
  refine tk 3 ?_ rfl ?_ ?_;rotate_left
  · (intro w hs;(try dsimp only at hs);go_simp;try with_reducible rfl)
  try simp only [gA,gB,gC,Act.put,gE,gF,gG]
  refine tk 4 ?_ rfl ?_ ?_;rotate_left
  · (intro w hs;(try dsimp only at hs);go_simp;try with_reducible rfl)
  try simp only [gA,gB,gC,Act.put,gE,gF,gG]
  refine tk 5 ?_ rfl ?_ ?_;rotate_left
  · (intro w hs;(try dsimp only at hs);go_simp;try with_reducible rfl)
  try simp only [gA,gB,gC,Act.put,gE,gF,gG]
  refine tk 6 ?_ rfl ?_ ?_;rotate_left
  · (intro w hs;(try dsimp only at hs);go_simp;try with_reducible rfl)
  try simp only [gA,gB,gC,Act.put,gE,gF,gG]
  refine tk 7 ?_ rfl ?_ ?_;rotate_left
  · (intro w hs;(try dsimp only at hs);go_simp;try with_reducible rfl)
  try simp only [gA,gB,gC,Act.put,gE,gF,gG]
  refine tk 8 ?_ rfl ?_ ?_;rotate_left
  · (intro w hs;(try dsimp only at hs);go_simp;try with_reducible rfl)
  try simp only [gA,gB,gC,Act.put,gE,gF,gG]
  refine tk 9 ?_ rfl ?_ ?_;rotate_left
  · (intro w hs;(try dsimp only at hs);go_simp;try with_reducible rfl)
  try simp only [gA,gB,gC,Act.put,gE,gF,gG]
  refine tk 10 ?_ rfl ?_ ?_;rotate_left
  · (intro w hs;(try dsimp only at hs);go_simp;try with_reducible rfl)
  try simp only [gA,gB,gC,Act.put,gE,gF,gG]
  refine wpAnyH_done (by kernel_rfl) ?_ _;refine zbx.done ?_;refine wpOp_step (i:=11) rfl (fun KK hK=>?_);have HK:=hid hK;clear hK;go_simp
  refine Al.out.mono ?_;rintro _ w5 ⟨rfl,Ah⟩;refine HK.out _ _ ?_;clear HK Al s16;go_wp2_with (with_reducible refine zbj 46 rfl ?_)
  refine (show Hid _ from ?_);refine zbh rfl 46 rfl S2 0 RV rfl Ah.out.1 Tryz.underlying46 rfl (by rw [HV.out.2.1];exact zgz) ?_;go_wp2_with fail
  refine (HO.out _).mono ?_;rintro _ w6 ⟨rfl,hb6⟩;have HE:=hid (Ah.out.2 w6 hb6);clear hb6 Ah HO;go_wp2_with fail
  refine HE.out.mono ?_;rintro _ w7 ⟨⟨v7,rfl⟩,z7,HF⟩;clear HE;go_wp2;go_ret;obtain ⟨e1,e2,e3⟩:=HZ.out;refine .inr ⟨A,x,R,by rw [HX.out];rfl,HD.out.1,HD.out.2,e1,by rw [HX.out];exact e2,by rw [HX.out];exact e3,HF⟩
end
end Go.Proofs.YtfcbjcebkahehaaGreatDoor.Cl
namespace Go.Proofs.YtfcbjcebkahehaaGreatDoor
open Go.RowKit
theorem markMay_core (i q u st us gr:Int) (mc:List UInt8) (n:Nat) (oa:Option Addr) (ca:Nat) (x:Bool) (w:World) (Ab:∀ w',Below w.heap.size w w'->Calls Tryz.prog 60 #[.agg #[iI st,.string ⟨mc.toArray⟩,iI us,iI gr,.slice oa n ca]] w' fun e w''=>e=.returned (.bool x)∧Below w'.heap.size w' w'') :
 Calls Tryz.prog 99 #[.agg #[iI i,iI q,iI u,iI st,.string ⟨mc.toArray⟩,iI us,iI gr,.slice oa n ca]] w fun e w'=>e=.returned (.bool (x&&zb6 i q u))∧Below w.heap.size w w':=by
 obtain ⟨w2,hw2⟩:∃ y,w.alloc (.cells #[iI i,iI q,iI u,iI st,.string ⟨mc.toArray⟩,iI us,iI gr,.slice oa n ca] 131)=y:=⟨_,rfl⟩;have HK:Hid (Bk w2 w.heap.size [iI i,iI q,iI u,iI st,.string ⟨mc.toArray⟩,iI us,iI gr,.slice oa n ca] 131∧Below w.heap.size w w2):=⟨by rw [<- hw2];exact Bk.new _ _ _,by rw [<- hw2];exact zav _ _⟩;have HS:=hid (Ab w2 HK.out.2);have Aa:=hid hw2;clear hw2 Ab;cases x
 · rw [Bool.false_and];go_enter Tryz.func99,Tryz.ntmps99
   go_wp2_with fail
   rw [Aa.out];refine HS.out.mono ?_;rintro e w3 ⟨rfl,hB3⟩;have hk:=HK.out.1.below hB3 (by have:=HK.out.1.lt;omega);have HB:Hid (Below w.heap.size w w3):=HK.out.2.trans (hB3.mono HK.out.2.size);have c0:=hk.cell 0 rfl;have c1:=hk.cell 1 rfl;have c2:=hk.cell 2 rfl;clear hk hB3;go_wp2;go_ret;exact ⟨rfl,HB.out⟩
 · rw [Bool.true_and];by_cases h1:1<=i
   · have h1d:decide (1<=i)=true:=decide_eq_true h1;by_cases h2:i<=4611686018427387904
     · have h2d:decide (i<=4611686018427387904)=true:=decide_eq_true h2;by_cases h3:1<=q
       · have h3d:decide (1<=q)=true:=decide_eq_true h3;by_cases h4:q<=4294967295
         · have h4d:decide (q<=4294967295)=true:=decide_eq_true h4;by_cases h5:1<=u
           · have h5d:decide (1<=u)=true:=decide_eq_true h5;by_cases h6:u<=4294967295
             · have h6d:decide (u<=4294967295)=true:=decide_eq_true h6;have hr:zb6 i q u=true:=(zcd i q u).2 ⟨⟨h1,h2⟩,⟨h3,h4⟩,⟨h5,h6⟩⟩;rw [hr];clear hr;(go_enter Tryz.func99,Tryz.ntmps99);(go_wp2_with fail);rw [Aa.out];refine HS.out.mono ?_;rintro e w3 ⟨rfl,hB3⟩;have hk:=HK.out.1.below hB3 (by have:=HK.out.1.lt;omega);have HB:Hid (Below w.heap.size w w3):=HK.out.2.trans (hB3.mono HK.out.2.size);have c0:=hk.cell 0 rfl;have c1:=hk.cell 1 rfl;have c2:=hk.cell 2 rfl;clear hk hB3;go_wp2;go_ret;exact ⟨rfl,HB.out⟩
             · have h6d:decide (u<=4294967295)=false:=decide_eq_false h6;have hr:zb6 i q u=false:=(by cases hn:zb6 i q u;rfl;have:=(zcd i q u).1 hn;omega);rw [hr];clear hr;(go_enter Tryz.func99,Tryz.ntmps99);(go_wp2_with fail);rw [Aa.out];refine HS.out.mono ?_;rintro e w3 ⟨rfl,hB3⟩;have hk:=HK.out.1.below hB3 (by have:=HK.out.1.lt;omega);have HB:Hid (Below w.heap.size w w3):=HK.out.2.trans (hB3.mono HK.out.2.size);have c0:=hk.cell 0 rfl;have c1:=hk.cell 1 rfl;have c2:=hk.cell 2 rfl;clear hk hB3;go_wp2;go_ret;exact ⟨rfl,HB.out⟩
           · have h5d:decide (1<=u)=false:=decide_eq_false h5;have hr:zb6 i q u=false:=(by cases hn:zb6 i q u;rfl;have:=(zcd i q u).1 hn;omega);rw [hr];clear hr;(go_enter Tryz.func99,Tryz.ntmps99);(go_wp2_with fail);rw [Aa.out];refine HS.out.mono ?_;rintro e w3 ⟨rfl,hB3⟩;have hk:=HK.out.1.below hB3 (by have:=HK.out.1.lt;omega);have HB:Hid (Below w.heap.size w w3):=HK.out.2.trans (hB3.mono HK.out.2.size);have c0:=hk.cell 0 rfl;have c1:=hk.cell 1 rfl;have c2:=hk.cell 2 rfl;clear hk hB3;go_wp2;go_ret;exact ⟨rfl,HB.out⟩
         · have h4d:decide (q<=4294967295)=false:=decide_eq_false h4;have hr:zb6 i q u=false:=(by cases hn:zb6 i q u;rfl;have:=(zcd i q u).1 hn;omega);rw [hr];clear hr;(go_enter Tryz.func99,Tryz.ntmps99);(go_wp2_with fail);rw [Aa.out];refine HS.out.mono ?_;rintro e w3 ⟨rfl,hB3⟩;have hk:=HK.out.1.below hB3 (by have:=HK.out.1.lt;omega);have HB:Hid (Below w.heap.size w w3):=HK.out.2.trans (hB3.mono HK.out.2.size);have c0:=hk.cell 0 rfl;have c1:=hk.cell 1 rfl;have c2:=hk.cell 2 rfl;clear hk hB3;go_wp2;go_ret;exact ⟨rfl,HB.out⟩
       · have h3d:decide (1<=q)=false:=decide_eq_false h3;have hr:zb6 i q u=false:=(by cases hn:zb6 i q u;rfl;have:=(zcd i q u).1 hn;omega);rw [hr];clear hr;(go_enter Tryz.func99,Tryz.ntmps99);(go_wp2_with fail);rw [Aa.out];refine HS.out.mono ?_;rintro e w3 ⟨rfl,hB3⟩;have hk:=HK.out.1.below hB3 (by have:=HK.out.1.lt;omega);have HB:Hid (Below w.heap.size w w3):=HK.out.2.trans (hB3.mono HK.out.2.size);have c0:=hk.cell 0 rfl;have c1:=hk.cell 1 rfl;have c2:=hk.cell 2 rfl;clear hk hB3;go_wp2;go_ret;exact ⟨rfl,HB.out⟩
     · have h2d:decide (i<=4611686018427387904)=false:=decide_eq_false h2;have hr:zb6 i q u=false:=(by cases hn:zb6 i q u;rfl;have:=(zcd i q u).1 hn;omega);rw [hr];clear hr;(go_enter Tryz.func99,Tryz.ntmps99);(go_wp2_with fail);rw [Aa.out];refine HS.out.mono ?_;rintro e w3 ⟨rfl,hB3⟩;have hk:=HK.out.1.below hB3 (by have:=HK.out.1.lt;omega);have HB:Hid (Below w.heap.size w w3):=HK.out.2.trans (hB3.mono HK.out.2.size);have c0:=hk.cell 0 rfl;have c1:=hk.cell 1 rfl;have c2:=hk.cell 2 rfl;clear hk hB3;go_wp2;go_ret;exact ⟨rfl,HB.out⟩
   · have h1d:decide (1<=i)=false:=decide_eq_false h1;have hr:zb6 i q u=false:=(by cases hn:zb6 i q u;rfl;have:=(zcd i q u).1 hn;omega);rw [hr];clear hr;(go_enter Tryz.func99,Tryz.ntmps99);(go_wp2_with fail);rw [Aa.out];refine HS.out.mono ?_;rintro e w3 ⟨rfl,hB3⟩;have hk:=HK.out.1.below hB3 (by have:=HK.out.1.lt;omega);have HB:Hid (Below w.heap.size w w3):=HK.out.2.trans (hB3.mono HK.out.2.size);have c0:=hk.cell 0 rfl;have c1:=hk.cell 1 rfl;have c2:=hk.cell 2 rfl;clear hk hB3;go_wp2;go_ret;exact ⟨rfl,HB.out⟩
theorem markMay_any (m:MarkP) (oa:Option Addr) (ca:Nat) (w:World) (hg:GsAt w w.heap.size oa m.sys.groups) :
 Calls Tryz.prog 99 #[.agg #[iI m.inst,iI m.seq,iI m.water,iI m.sys.stamp,.string ⟨m.sys.machine.toArray⟩,iI m.sys.user,iI m.sys.group,.slice oa m.sys.groups.length ca]] w fun e w'=>e=.returned (.bool (decide m.may))∧Below w.heap.size w w':=by
 have h:=markMay_core m.inst m.seq m.water m.sys.stamp m.sys.user m.sys.group m.sys.machine m.sys.groups.length oa ca (decide m.sys.may) w (fun w' hB=>zgw m.sys oa ca w' ((hg.below hB).mono hB.size));have e:(decide m.sys.may&&zb6 m.inst m.seq m.water)=decide m.may:=by
  rw [Bool.eq_iff_iff,Bool.and_eq_true,decide_eq_true_eq,decide_eq_true_eq,may_iff];exact ⟨fun x=>⟨x.2,x.1⟩,fun x=>⟨x.2,x.1⟩⟩
 rwa [e] at h
theorem l_hyper (p:Nat) (n M:Int) (l:List UInt8) (w:World) (h:RL w p M l) (h0:0<=n) (h1:n<=9223372036854775807) (hM:M<=2147483647) (hr:(l.length:Int)+8<=M) :
 Calls Tryz.prog 101 #[.pointer (some ⟨p,0,none⟩),iI n] w (zbt p M (l++nbL 8 n.toNat) w):=by
 refine (rhyper p n _ M 0 w h (by rw [zar];omega) (by omega) h1).mono fun e w' hp=>?_;exact lpost (by rw [zb1 8 n h0 (by simp;omega)]) (by rw [zaf];exact hr) hp
theorem l_count (p:Nat) (m M:Int) (n:Nat) (l:List UInt8) (w:World) (h:RL w p M l) (hm1:m<=4294967295) (hn:(n:Int)<=m) (hM:M<=2147483647) (hr:(l.length:Int)+4<=M) :
 Calls Tryz.prog 141 #[.pointer (some ⟨p,0,none⟩),iI m,iI n] w (zbt p M (l++nbL 4 n) w):=by
 refine (rcount_ok p m n _ M 0 w h (by rw [zar];omega) (by rw [decide_eq_true (by omega),decide_eq_true hm1];rfl) (by omega) (by omega) (by omega) hn).mono fun e w' hp=>?_;have e4:=zb1 4 (n:Int) (by omega) (by simp;omega);rw [Int.toNat_natCast] at e4;exact lpost (by rw [e4]) (by rw [zaf];exact hr) hp
theorem GsAt.only {w w' : World} {p:Nat} {oa:Option Addr} {gs:List Int} (h:GsAt w p oa gs) (hz:p<=w.heap.size) (hS:Only p w w'):GsAt w' p oa gs:=fun h0=>by
 obtain ⟨q,off,h1,h2,h3⟩:=h h0;exact ⟨q,off,h1,h2,fun i hi=>(cells_of_block (hS.block q (by omega) (by omega)) _).1.trans (h3 i hi)⟩
theorem rsys_any (p:Nat) (s:SysP) (oa:Option Addr) (ca:Nat) (M:Int) (l:List UInt8) (w:World) (h:RL w p M l) (hm:s.may) (hM:M<=2147483647) (hr:(l.length:Int)+340<=M) (hg:GsAt w p oa s.groups) :
 Calls Tryz.prog 102 #[.pointer (some ⟨p,0,none⟩),.agg #[iI s.stamp,.string ⟨s.machine.toArray⟩,iI s.user,iI s.group,.slice oa s.groups.length ca]] w (zbt p M (l++s.body) w):=by
 obtain ⟨stamp,machine,user,group,gs⟩:=s;obtain ⟨h1,h2,h3,h4,h5,h6⟩:=hm;simp only at h1 h2 h3 h4 h5 h6 hg ⊢;obtain ⟨n,hn⟩:∃ n,gs.length=n:=⟨_,rfl⟩;have HN:=hid hn;rw [hn];rw [hn] at h5;have hp:=h.lt;obtain ⟨w2,hw2⟩:∃ y,w.alloc (.cells #[iI stamp,.string ⟨machine.toArray⟩,iI user,iI group,.slice oa n ca] 26)=y:=⟨_,rfl⟩;have hB2:Below w.heap.size w w2:=by rw [<- hw2];exact zav _ _
 have Ac:Hid (Bk w2 w.heap.size [iI stamp,.string ⟨machine.toArray⟩,iI user,iI group,.slice oa n ca] 26):=by rw [<- hw2];exact Bk.new _ _ _
 have Ad:Hid (Only p w w2):=Only.of_below hB2;have HG:=hid (hg.only (by omega) Ad.out);have HP:Hid (p<w.heap.size∧p<=w2.heap.size):=⟨hp,by have:=hB2.size;omega⟩;have HI:=hid (And.intro h1 (And.intro h2 (And.intro h3 (And.intro h4 (And.intro h5 h6)))));have HR:=hid (And.intro hM hr);have Aj:=hid hw2;have S1:=hid (zbb p stamp M l w2 (h.below hB2) h1 hM (by omega));have K:Hid (∀ w1:World,Only p w2 w1->Bk w1 w.heap.size [iI stamp,.string ⟨machine.toArray⟩,iI user,iI group,.slice oa n ca] 26):=fun w1 hO=>Ac.out.only hO (by omega);have c0:=Ac.out.cell 0 rfl;clear h1 h2 h3 h4 h5 h6 hg hn hp hB2 h hM hr hw2;go_enter Tryz.func102,Tryz.ntmps102
 go_wp2_with fail
 rw [Aj.out];refine S1.out.mono ?_;rintro e w3 ⟨rfl,hr3,hO3⟩;have Ak:=hid hO3;have k3:=K.out _ hO3;have d1:=k3.cell 1 rfl;have S2:=hid (l_opaque p 255 M machine _ w3 hr3 (by decide) (by have:=HI.out.2.2.2.1;omega) HR.out.1 (by have:=HR.out.2;have:=HI.out.2.2.2.1;rw [List.length_append,zaf];unfold pads;omega));clear S1 hr3 hO3 k3 c0;go_wp2_with fail
 refine S2.out.mono ?_;rintro e w4 ⟨rfl,hr4,hO4⟩;have Ae:=hid (Ak.out.trans hO4);have k4:=K.out _ Ae.out;have d2:=k4.cell 2 rfl;obtain ⟨l2,hl2⟩:∃ x,l++nbL 4 stamp.toNat++(nbL 4 machine.length++(machine++padB machine.length))=x:=⟨_,rfl⟩;rw [hl2] at hr4;have Ab:Hid ((l2.length:Int)<=l.length+264):=by
  show _<=_;have:=HI.out.2.2.2.1
  rw [<- hl2];simp only [List.length_append,zaf,zau];unfold pads;omega
 have Al:Hid (l2=l++nbL 4 stamp.toNat++(nbL 4 machine.length++(machine++padB machine.length))):=hl2.symm;have S3:=hid (zbb p user M l2 w4 hr4 HI.out.2.1 HR.out.1 (by have:=HR.out.2;have:=Ab.out;omega));clear S2 hr4 hO4 k4 d1 hl2;go_wp2_with fail
 refine S3.out.mono ?_;rintro e w5 ⟨rfl,hr5,hO5⟩;have Af:=hid (Ae.out.trans hO5);have k5:=K.out _ Af.out;have d3:=k5.cell 3 rfl;have S4:=hid (zbb p group M _ w5 hr5 HI.out.2.2.1 HR.out.1 (by have:=HR.out.2;have:=Ab.out;rw [List.length_append,zaf];omega));clear S3 hr5 hO5 k5 d2;go_wp2_with fail
 refine S4.out.mono ?_;rintro e w6 ⟨rfl,hr6,hO6⟩;have Ag:=hid (Af.out.trans hO6);have k6:=K.out _ Ag.out;have d4:=k6.cell 4 rfl;obtain ⟨l4,hl4⟩:∃ x,l2++nbL 4 user.toNat++nbL 4 group.toNat=x:=⟨_,rfl⟩;rw [hl4] at hr6;have Ah:Hid ((l4.length:Int)<=l.length+272):=by
  show _<=_;have:=Ab.out
  rw [<- hl4];simp only [List.length_append,zaf];omega
 have Am:Hid (l4=l2++nbL 4 user.toNat++nbL 4 group.toNat):=hl4.symm;have S5:=hid (l_count p 16 M n l4 w6 hr6 (by decide) (by have:=HI.out.2.2.2.2.1;omega) HR.out.1 (by have:=HR.out.2;have:=Ah.out;omega));clear S4 hr6 hO6 k6 d3 hl4;go_wp2_with fail
 refine S5.out.mono ?_;rintro e w7 ⟨rfl,hr7,hO7⟩;have An:=hid (Ag.out.trans hO7);have Ao:=hid hr7;clear S5 hr7 hO7 d4;go_wp2_with fail
 go_loopw [4] (fun ix wr=>∃ j:Nat,ix=iI j∧j<=n∧Hid (RL wr p M (l4++nbL 4 n++zbr (gs.take j)))∧Hid (Only p w2 wr)) (fun ix _=>n - (intOf ix).toNat)
 case atStart =>
  refine ⟨0,rfl,by omega,?_,An⟩;show RL _ _ _ _;simpa [zbr] using Ao.out
 case round =>
  obtain ⟨j,rfl,hj,Ai,Aa⟩:=hrel;have hn16:(n:Int)<=16:=by have:=HI.out.2.2.2.2.1;omega
  have kr:=K.out _ Aa.out;have d4:=kr.cell 4 rfl;clear kr;by_cases hlt:j<n
  · obtain ⟨q,off,ho,hq,hc⟩:=(HG.out.only HP.out.2 Aa.out) (by have:=HN.out;omega);have d1:=hc j (by have:=HN.out;omega);subst ho;obtain ⟨v,hv⟩:∃ v,gs.getD j 0=v:=⟨_,rfl⟩;rw [hv] at d1;have HJ:Hid (j<gs.length):=(by show _<_;have:=HN.out;omega);have Ap:Hid (isW v):=by
     show isW v;rw [<- hv];(have:=HJ.out);exact HI.out.2.2.2.2.2 _ (by rw [List.getD_eq_getElem?_getD,List.getElem?_eq_getElem this];exact List.getElem_mem this)
    have S6:=hid (zbb p v M _ wr Ai.out Ap.out HR.out.1 (by
     have h1:=HR.out.2;have h2:=Ah.out;have h3:=HI.out.2.2.2.2.1;simp only [List.length_append,zaf,zdl,List.length_take]
     omega))
    have Aq:Hid (l4++nbL 4 n++zbr (gs.take j)++nbL 4 v.toNat=l4++nbL 4 n++zbr (gs.take (j+1))):=by
     show _=_;rw [zg7 gs j HJ.out,hv,List.append_assoc (l4++nbL 4 n)]
    have i0:(0:Int)<=(j:Int):=(by omega);have i1:(j:Int)<(n:Int):=(by omega);clear hc hv;(go_wp2_with fail);refine S6.out.mono ?_;rintro e w8 ⟨rfl,hr8,hO8⟩;rw [Aq.out] at hr8;have Ar:=hid hr8;have Au:=hid (Aa.out.trans hO8);clear hr8 hO8 S6;go_wp2;go_roundw
    case rel=>exact ⟨j+1,by go_num,by omega,Ar,Au⟩
    case measure=>simp [intOf];omega
  · obtain rfl:j=n:=(by omega);go_wp2;(first|go_end0|refine bodyPost_ret (results_none rfl _ _ _) rfl ?_);refine ⟨rfl,?_,Ad.out.trans Aa.out⟩;(have:=Ai.out);rw [List.take_of_length_le (by have:=HN.out;omega),Am.out,Al.out] at this;unfold SysP.body;simp only [HN.out];simpa only [List.append_assoc] using this
theorem zgm (m:MarkP) (oa:Option Addr) (ca:Nat) (w:World) (hg:GsAt w w.heap.size oa m.sys.groups) :
 Calls Tryz.prog 63 #[.agg #[iI m.inst,iI m.seq,iI m.water,iI m.sys.stamp,.string ⟨m.sys.machine.toArray⟩,iI m.sys.user,iI m.sys.group,.slice oa m.sys.groups.length ca]] w fun e w'=>e=.returned (prV 1296126539 (zea m))∧Below w.heap.size w w':=by
 obtain ⟨w2,hw2⟩:∃ y,y=(w.alloc (.cells #[iI m.inst,iI m.seq,iI m.water,iI m.sys.stamp,.string ⟨m.sys.machine.toArray⟩,iI m.sys.user,iI m.sys.group,.slice oa m.sys.groups.length ca] 131)).alloc (.cells #[iI 0,.string ⟨#[]⟩] 44):=⟨_,rfl⟩;have Aq:Hid ((w.alloc (.cells #[iI m.inst,iI m.seq,iI m.water,iI m.sys.stamp,.string ⟨m.sys.machine.toArray⟩,iI m.sys.user,iI m.sys.group,.slice oa m.sys.groups.length ca] 131)).alloc (.cells #[iI 0,.string ⟨#[]⟩] 44)=w2):=hw2.symm;have H2:=hid (two_start [iI m.inst,iI m.seq,iI m.water,iI m.sys.stamp,.string ⟨m.sys.machine.toArray⟩,iI m.sys.user,iI m.sys.group,.slice oa m.sys.groups.length ca] [iI 0,.string ⟨#[]⟩] _ _ w w2 hw2);have Am:Hid (Bk w2 w.heap.size [iI m.inst,iI m.seq,iI m.water,iI m.sys.stamp,.string ⟨m.sys.machine.toArray⟩,iI m.sys.user,iI m.sys.group,.slice oa m.sys.groups.length ca] 131):=by
  show Bk _ _ _ _;rw [hw2];exact (Bk.new w [iI m.inst,iI m.seq,iI m.water,iI m.sys.stamp,.string ⟨m.sys.machine.toArray⟩,iI m.sys.user,iI m.sys.group,.slice oa m.sys.groups.length ca] _).below (zav _ _) (by simp)
 have Aj:=hid (markMay_any m oa ca w2 ((hg.below H2.out.2.1).mono (by have:=H2.out.2.2;omega)));have Aw:Hid (∀ w,Calls Tryz.prog 100 #[iI 1000] w fun e w'=>e=.returned (.pointer (some ⟨w.heap.size,0,none⟩))∧w'=w.alloc (.cells #[.string ⟨#[]⟩,iI 1000,iI 0] 163)):=fun w=>rnew 1000 w;have HG:=hid hg;clear hw2 hg;obtain ⟨i,q,u,st,mc,us,gr,gs⟩:=m;simp only at Aq H2 Am Aj HG ⊢;obtain ⟨b,hb⟩:∃ b,decide (MarkP.may ⟨i,q,u,st,mc,us,gr,gs⟩)=b:=⟨_,rfl⟩;rw [hb] at Aj;obtain ⟨o,ho⟩:∃ o,zea ⟨i,q,u,st,mc,us,gr,gs⟩=o:=⟨_,rfl⟩;rw [ho];have HO:=hid ho;have Ak:=hid hb;clear ho hb;go_enter Tryz.func63,Tryz.ntmps63
 go_wp2_with fail
 rw [Aq.out];refine Aj.out.mono ?_;rintro e w3 ⟨rfl,hB3⟩;have hz:=H2.out.2.2;have Ac:=hid (H2.out.1.below hB3 (by omega));have Ar:=hid (Am.out.below hB3 (by omega));have Ae:Hid (Below w.heap.size w w3):=H2.out.2.1.trans (hB3.mono (by omega));have An:Hid (w.heap.size+1+1<=w3.heap.size):=by have:=hB3.size;show _<=_;omega
 have Ax:=hid ((HG.out.below Ae.out).mono Ae.out.size);clear hB3 hz Aj Am;cases b
 · have ho:none=o:=by
    rw [<- HO.out];unfold zea;rw [if_neg (of_decide_eq_false Ak.out)]
   subst ho;clear HO Ak;have k0:=Ac.out.cell 0 rfl;have k1:=Ac.out.cell 1 rfl;have f0:=Ac.out.frozen 0;have f1:=Ac.out.frozen 1;have HZ:=(Ac.out.set 0 (iI 0)).set 1 (.string ⟨#[]⟩);have q0:=HZ.cell 0 rfl;have q1:=HZ.cell 1 rfl;have HE:Hid (Below w.heap.size w ((w3.setCell ⟨w.heap.size+1,0,none⟩ (iI 0)).setCell ⟨w.heap.size+1,1,none⟩ (.string ⟨#[]⟩))):=(Ae.out.setCell (by simp) _).setCell (by simp) _;clear HZ;go_wp2;exact bodyPost_ret (v:=prV 1296126539 none) (by unfold prV;simp [results,Tryz.results63,go_sem,q0,q1]) rfl ⟨rfl,HE.out⟩
 · have hmay:MarkP.may ⟨i,q,u,st,mc,us,gr,gs⟩:=of_decide_eq_true Ak.out;obtain ⟨L,hL⟩:∃ L,MarkP.body ⟨i,q,u,st,mc,us,gr,gs⟩=L:=⟨_,rfl⟩;have ho:some L=o:=by
    rw [<- HO.out];unfold zea;rw [if_pos hmay,hL]
   have HL:=hid hL;clear hL;subst ho;clear HO Ak;go_wp2_with fail
   refine (Aw.out _).mono ?_;rintro e w4 ⟨rfl,h4⟩;have H4:Hid (RL w4 w3.heap.size 1000 []∧Below w3.heap.size w3 w4∧w4.heap.size=w3.heap.size+1):=by
    subst h4;exact ⟨RW.new 1000 w3,zav _ _,by simp⟩
   have Aa:=hid (Ar.out.below H4.out.2.1 Ar.out.lt);have Ay:=hid (Ac.out.below H4.out.2.1 Ac.out.lt);have Al:Hid (w.heap.size≠w3.heap.size∧w.heap.size+1≠w3.heap.size):=by have:=An.out;exact ⟨by omega,by omega⟩
   clear h4;have b0:=Aa.out.cell 0 rfl;have b1:=Aa.out.cell 1 rfl;have b2:=Aa.out.cell 2 rfl;have b3:=Aa.out.cell 3 rfl;have b4:=Aa.out.cell 4 rfl;have b5:=Aa.out.cell 5 rfl;have b6:=Aa.out.cell 6 rfl;have b7:=Aa.out.cell 7 rfl;have S1:=hid (l_hyper w3.heap.size i 1000 [] w4 H4.out.1 (by have:=hmay.1.1;simp only at this;omega) (by have:=hmay.1.2;simp only at this;omega) (by decide) (by decide));have Af:=hid hmay;clear hmay;go_wp2_with fail
   refine S1.out.mono ?_;rintro e w5a ⟨rfl,hr5,hO5⟩;have Ao:=hid hO5;have Au:=hid (Aa.out.only hO5 Al.out.1);have S2:=hid (l_hyper w3.heap.size q 1000 _ w5a hr5 (by have:=Af.out.2.1.1;simp only at this;omega) (by have:=Af.out.2.1.2;simp only at this;omega) (by decide) (by rw [List.length_append,zaf];decide));clear hr5 hO5 S1 b0 b1 b2 b3 b4 b5 b6 b7;have b1:=Au.out.cell 1 rfl;go_wp2_with fail
   refine S2.out.mono ?_;rintro e w5b ⟨rfl,hr5,hO5⟩;have Ap:=hid (Ao.out.trans hO5);have Ag:=hid (Au.out.only hO5 Al.out.1);have S3:=hid (l_hyper w3.heap.size u 1000 _ w5b hr5 (by have:=Af.out.2.2.1.1;simp only at this;omega) (by have:=Af.out.2.2.1.2;simp only at this;omega) (by decide) (by simp only [List.length_append,zaf];decide));clear hr5 hO5 S2 b1;have b2:=Ag.out.cell 2 rfl;go_wp2_with fail
   refine S3.out.mono ?_;rintro e w5c ⟨rfl,hr5,hO5⟩;have Ah:=hid (Ap.out.trans hO5);have Ab:=hid (Ag.out.only hO5 Al.out.1);have S4:=hid (rsys_any w3.heap.size ⟨st,mc,us,gr,gs⟩ oa ca 1000 _ w5c hr5 Af.out.2.2.2 (by decide) (by simp only [List.length_append,zaf];decide) ((Ax.out.below (H4.out.2.1.mono (Nat.le_refl _))).only (by have:=H4.out.2.2;omega) Ah.out));clear hr5 hO5 S3 b2;have b3:=Ab.out.cell 3 rfl;have b4:=Ab.out.cell 4 rfl;have b5:=Ab.out.cell 5 rfl;have b6:=Ab.out.cell 6 rfl;have b7:=Ab.out.cell 7 rfl;go_wp2_with fail
   refine S4.out.mono ?_;rintro e w5 ⟨rfl,hr5,hO5⟩;have Av:Hid (RL w5 w3.heap.size 1000 (MarkP.body ⟨i,q,u,st,mc,us,gr,gs⟩)):=by
    show RL _ _ _ _;(have:=hr5);unfold MarkP.body;simpa only [List.nil_append,List.append_assoc] using this
   have Ad:=hid (Ah.out.trans hO5);clear hr5 hO5 S4 b3 b4 b5 b6 b7;have Ai:=hid (Ay.out.only Ad.out Al.out.2);rw [HL.out] at Av;have s0:=Av.out.s;have Az:Hid (Below w.heap.size w w5):=(Ae.out.trans (H4.out.2.1.mono Ae.out.size)).trans ⟨Ad.out.os,Ad.out.tape,Ad.out.output,Ad.out.size,fun k hk=>Ad.out.block k (by have:=H4.out.2.2;have:=An.out;omega) (by have:=An.out;omega)⟩;have k0:=Ai.out.cell 0 rfl;have k1:=Ai.out.cell 1 rfl;have f0:=Ai.out.frozen 0;have f1:=Ai.out.frozen 1;have HZ:=(Ai.out.set 0 (iI 1296126539)).set 1 (.string ⟨L.toArray⟩);have q0:=HZ.cell 0 rfl;have q1:=HZ.cell 1 rfl;have HE:Hid (Below w.heap.size w ((w5.setCell ⟨w.heap.size+1,0,none⟩ (iI 1296126539)).setCell ⟨w.heap.size+1,1,none⟩ (.string ⟨L.toArray⟩))):=(Az.out.setCell (by simp) _).setCell (by simp) _;clear HZ;go_wp2;exact bodyPost_ret (v:=prV 1296126539 (some L)) (by unfold prV;simp [results,Tryz.results63,go_sem,q0,q1]) rfl ⟨rfl,HE.out⟩
end Go.Proofs.YtfcbjcebkahehaaGreatDoor
namespace Go.Proofs.YtfcbjcebkahehaaGreatDoor.Cl
set_option linter.unusedSimpArgs false
open Go.RowKit
theorem size108:(Tryz.prog.info? 108).map (·.size)=some 10:=by kernel_rfl
theorem size44:(Tryz.prog.info? 44).map (·.size)=some 2:=by kernel_rfl
def dueN (c:Cf) (now:Int) (x:Dw):Nat:=dcnt c.pb c.pc c.pt now x.iss 40 0
def dueD (c:Cf) (now:Int) (x:Dw):Bool:=!((dueN c now x:Int)==x.don)
def givD (c:Cf) (now:Int) (x:Dw):Dw:={ x with don:=(dueN c now x:Int),giv:=x.giv+1,last:=now }
def Dw.reqC (x:Dw) (c:Cf) (water:Int):CallP:=⟨x.seq,2,x.prog,x.vers,x.proc,zge ⟨c.inst,x.seq,water,c.sys⟩,⟨0,[]⟩,x.args⟩
def Dw.data (x:Dw) (c:Cf) (water:Int):List UInt8:=(pcP (x.reqC c water)).1
def zcr (c:Cf) (now:Int) (L:List Dw):List Dw:=L.map fun x=>if dueD c now x then givD c now x else x
def zct (c:Cf) (water now:Int) (L:List Dw):List Pk:=(L.filter (dueD c now)).map fun x=>⟨c.ad,x.dst,x.data c water⟩
theorem zem (c:Cf) (now:Int) (L:List Dw):(zcr c now L).length=L.length:=by simp [zcr]
theorem dueLD_app (c:Cf) (now:Int) (A R:List Dw):zcr c now (A++R)=zcr c now A++zcr c now R:=by simp [zcr]
theorem pksLD_app (c:Cf) (water now:Int) (A R:List Dw):zct c water now (A++R)=zct c water now A++zct c water now R:=by simp [zct]
theorem pksLD_len (c:Cf) (water now:Int) (L:List Dw):(zct c water now L).length<=L.length:=by
 unfold zct;rw [List.length_map];exact List.length_filter_le _ _
def Dw.fine (x:Dw):Prop:=(-1000000000000<=x.iss∧x.iss<=1000000000000)∧(0<=x.giv∧x.giv<=1000000000000)∧x.args.length<=1000
def zcx (x:Dw) (fl:Int) (bo:ByteArray):List Value:=[iI x.seq,iI 2,iI x.prog,iI x.vers,iI x.proc,iI fl,.string bo,iI 0,.string ⟨#[]⟩,.string ⟨x.args.toArray⟩]
theorem dcallL (x:Dw) (fl:Int) (bo:ByteArray):(zcx x fl bo).length=10:=rfl
theorem dcallO (x:Dw) (fl:Int) (bo:ByteArray):∀ v∈zcx x fl bo,v.oneCell'=true:=by intro v hv;simp only [zcx,List.mem_cons,List.not_mem_nil,or_false] at hv;rcases hv with rfl|rfl|rfl|rfl|rfl|rfl|rfl|rfl|rfl|rfl <;> rfl
theorem range_call {w:World} {S:Nat} {x:Dw} (h:w.heap[S]?=some (.cells (dwC x).toArray 126)):w.rangeAt S 0 (zcx x 0 ⟨#[]⟩):=fun j v hv=>by
 refine zal h j v ?_;rw [show dwC x=zcx x 0 ⟨#[]⟩++[iI x.dst,iI x.iss,iI x.don,iI x.giv,iI x.last] from rfl,List.getElem?_append_left (List.getElem?_eq_some_iff.1 hv).1];exact hv
theorem copiedC (w:World) (x:Dw):∃ SX wC wD,w.heap.size=SX∧w.alloc (.cells #[iI 0,iI 0,iI 0,iI 0,iI 0,iI 0,.string ⟨#[]⟩,iI 0,.string ⟨#[]⟩,.string ⟨#[]⟩] 108)=wC∧wC.setCells SX 0 (zcx x 0 ⟨#[]⟩)=wD∧wC.heap[SX]?=some (.cells #[iI 0,iI 0,iI 0,iI 0,iI 0,iI 0,.string ⟨#[]⟩,iI 0,.string ⟨#[]⟩,.string ⟨#[]⟩] 108)∧wD.heap[SX]?=some (.cells (zcx x 0 ⟨#[]⟩).toArray 108)∧Below w.heap.size w wD:=by
 refine ⟨_,_,_,rfl,rfl,rfl,(MapKept.heap_alloc w _).1,?_,?_⟩
 · exact zat (MapKept.heap_alloc w _).1 _ rfl
 · exact za1 ((Below.refl _ _).alloc (Nat.le_refl _) _) (Nat.le_refl _)
theorem bld131 (v0 v1 v2 v3 v5 v6:Int) (s:ByteArray) (oa:Option Addr) (l cap:Nat) (w:World):(Instr.build 131 #[(0,iI v0),(1,iI v1),(2,iI v2),(3,.agg #[iI v3,.string s,iI v5,iI v6,.slice oa l cap])]).run Tryz.prog w=.ok (.agg #[iI v0,iI v1,iI v2,iI v3,.string s,iI v5,iI v6,.slice oa l cap]) w:=by kernel_rfl
theorem RW.block {α:Type} {e sz:Nat} {cf:α->List Value} {K:Nat->Nat} {w:World} {B t:Nat} {l:List α} {g n cp:Nat} (h:RW e sz cf K w B t (.slice (some ⟨g,0,none⟩) n cp) l) (hn:l.length=n):∃ cs,w.heap[g]?=some (.cells cs e)∧n*sz<=cs.size:=by
 rcases h.own.2 with ⟨e1,_⟩|⟨g',cap,cur,e1,_,h3,h4,_,h6,_⟩
 · cases e1
 · cases e1;rw [hn] at h4;exact ⟨cur,h3,by rw [h6];exact Nat.mul_le_mul_right _ h4⟩
section
variable {K K' : Nat->Nat} {w w' : World} {B t p:Nat} {c:Cf} {oa:Option Addr} {cap:Nat} {next now:Int} {L:List Dw} {D:List Oc} {vw vd:Value} {q:Mq}
structure DDueR (K:Nat->Nat) (w w' : World) (B t p tp:Nat) (c:Cf) (oa:Option Addr) (cap:Nat) (next now:Int) (L:List Dw) (D:List Oc) (vw vd:Value) (q:Mq) (A R:List Dw) (v:Value):Prop where
 ex:∃ K',DC K' w' B t p c oa cap next now (zcr c now A++R) D vw vd q∧RW 78 3 pkC K' w' B tp v (zct c (zbl next L) now A)∧Mv (fun u=>u=t+1∨u=tp) w w' K K'
 is:A++R=L
theorem mv_new {T:Nat->Prop} {w w1 w2:World} {K K1:Nat->Nat} {S:Nat} (m:Mv T w w1 K K1) (hS:w.heap.size<=S) (m2:Mv (fun u=>u=t+7) w1 w2 K1 K1) (h:∀ b,b≠S->w2.heap[b]?=w1.heap[b]?):Mv T w w2 K K1 :=
 ⟨m2.os.trans m.os,m2.tape.trans m.tape,m2.output.trans m.output,Nat.le_trans m.size m2.size,m.old,fun b hb ht=>(h b (by omega)).trans (m.kept b hb ht)⟩
structure DU (K:Nat->Nat) (w:World) (K' : Nat->Nat) (w' : World) (B t p tp:Nat) (c:Cf) (oa:Option Addr) (cap:Nat) (next now:Int) (L:List Dw) (D:List Oc) (vw vd:Value) (q:Mq) (x:Dw) (l:List Pk) (u3:Value) (SA SX:Nat) (y:Dw) (f:Int) (b:ByteArray):Prop where
 pc:DC K' w' B t p c oa cap next now L D vw vd q
 rw:RW 78 3 pkC K' w' B tp u3 l
 mv:Mv (fun u=>u=t+1∨u=tp) w w' K K'
 ka:K' SA=t+7
 kx:K' SX=t+7
 sa:w'.heap[SA]?=some (.cells (dwC y).toArray 126)
 sx:w'.heap[SX]?=some (.cells (zcx x f b).toArray 108)
 na:w.heap.size<=SA
 nx:w.heap.size<=SX
 ne:SA≠SX
 tp:t+8<tp
section
variable {tp:Nat} {x y:Dw} {l:List Pk} {u3:Value} {SA SX:Nat} {f:Int} {b:ByteArray} {w1 w2:World} {K1:Nat->Nat}
theorem DU.below (h:DU K w K1 w1 B t p tp c oa cap next now L D vw vd q x l u3 SA SX y f b) (hb:Below w1.heap.size w1 w2):DU K w (ext w1 K1 (fun _=>t+7)) w2 B t p tp c oa cap next now L D vw vd q x l u3 SA SX y f b:=by
 have m:=Mv.of_below hb K1 (fun _=>t+7);have la:=(Array.getElem?_eq_some_iff.1 h.sa).1;have lx:=(Array.getElem?_eq_some_iff.1 h.sx).1;exact ⟨h.pc.below hb _,h.rw.mv m (fun e=>e),h.mv.trans (m.mono (fun _ e=>e.elim)),(zbd la).trans h.ka,(zbd lx).trans h.kx,(hb.block SA la).trans h.sa,(hb.block SX lx).trans h.sx,h.na,h.nx,h.ne,h.tp⟩
theorem DU.setA (h:DU K w K1 w1 B t p tp c oa cap next now L D vw vd q x l u3 SA SX y f b) (k:Nat) (v:Value) (y' : Dw) (hy:(dwC y).toArray.setIfInBounds k v=(dwC y').toArray):DU K w K1 (w1.setCell ⟨SA,k,none⟩ v) B t p tp c oa cap next now L D vw vd q x l u3 SA SX y' f b:=by
 have m:=Mv.of_set w1 K1 ⟨SA,k,none⟩ v h.ka;have ht:=h.tp;refine ⟨h.pc.to m (fun t' e=>by omega),h.rw.mv m (by omega),mv_new (t:=t) h.mv h.na m (fun b hb=>Below.heap_setCell _ _ _ _ hb),h.ka,h.kx,?_,?_,h.na,h.nx,h.ne,h.tp⟩
 · rw [<- hy];exact zae h.sa k v
 · rw [Below.heap_setCell _ _ _ _ (Ne.symm h.ne)];exact h.sx
theorem DU.setX (h:DU K w K1 w1 B t p tp c oa cap next now L D vw vd q x l u3 SA SX y f b) (f' : Int) (b' : ByteArray):DU K w K1 (w1.setCells SX 5 [iI f',.string b']) B t p tp c oa cap next now L D vw vd q x l u3 SA SX y f' b':=by
 have m:=mv_sets w1 K1 SX 5 [iI f',.string b'] h.kx;have ht:=h.tp;refine ⟨h.pc.to m (fun t' e=>by omega),h.rw.mv m (by omega),mv_new (t:=t) h.mv h.nx m (fun b hb=>zbm _ _ _ _ _ hb),h.ka,h.kx,?_,?_,h.na,h.nx,h.ne,h.tp⟩
 · rw [zbm _ _ _ _ _ h.ne];exact h.sa
 · show ((w1.setCell ⟨SX,5,none⟩ (iI f')).setCell ⟨SX,6,none⟩ (.string b')).heap[SX]?=_;exact zae (zae h.sx 5 _) 6 _
theorem DU.appd (h:DU K w K1 w1 B t p tp c oa cap next now L D vw vd q x l u3 SA SX y f b) {K2:Nat->Nat} {u4:Value} {l' : List Pk} (R:RW 78 3 pkC K2 w2 B tp u4 l') (m:Mv (fun u=>u=tp) w1 w2 K1 K2):DU K w K2 w2 B t p tp c oa cap next now L D vw vd q x l' u4 SA SX y f b:=by
 have ht:=h.tp;have la:=(Array.getElem?_eq_some_iff.1 h.sa).1;have lx:=(Array.getElem?_eq_some_iff.1 h.sx).1;exact ⟨h.pc.to m (fun t' e=>by omega),R,h.mv.trans (m.mono (fun u e=>.inr e)),(m.old SA la).trans h.ka,(m.old SX lx).trans h.kx,(m.kept SA la (by rw [h.ka];omega)).trans h.sa,(m.kept SX lx (by rw [h.kx];omega)).trans h.sx,h.na,h.nx,h.ne,h.tp⟩
end
theorem DC.due_any (h:DC K w B t p c oa cap next now L D vw vd q) (tp:Nat) (htp:t+8<tp) (hX:∀ x∈L,x.fine) (hL:L.length<=100000000) :
 Calls Tryz.prog 29 #[ptr p] w fun e w'=>∃ v,e=.returned v∧Hid (∃ K',DC K' w' B t p c oa cap next now (zcr c now L) D vw vd q∧RW 78 3 pkC K' w' B tp v (zct c (zbl next L) now L)∧Mv (fun u=>u=t+1∨u=tp) w w' K K'):=by
 obtain ⟨o14,c14,ew,_,hg⟩:=h.wr.form;subst ew;obtain ⟨n,hn⟩:∃ n,L.length=n:=⟨_,rfl⟩;have Ac:=hid h.water_any;obtain ⟨wa,hwa⟩:∃ wa,zbl next L=wa:=⟨_,rfl⟩;rw [hwa] at Ac;have HG:=hid hg;have HN:=hid hn;have HC:Hid (n<=100000000∧t+8<tp):=⟨by omega,htp⟩;have HX:=hid hX;have Aj:=hid hwa;have Ad:Hid (DDueR K w w B t p tp c oa cap next now L D (.slice o14 L.length c14) vd q [] L (.slice none 0 0)):=⟨⟨K,h,RW.nil _ _ _ _ _ _ _,Mv.refl _ _ _⟩,rfl⟩;rw [hn] at Ad;rw [hwa];clear h hg hn hL hX htp hwa;go_enter Tryz.func29,Tryz.ntmps29
 go_wp2_with fail
 refine Ac.out.mono ?_;rintro _ w0 ⟨rfl,hw0⟩;rw [hw0];clear hw0 w0 Ac;go_wp2_with fail
 go_loopw [5,3] (fun u5 u3 wr=>∃ (A R:List Dw) (j:Nat),u5=iI (j:Int)∧j<=n∧Hid (A.length=j∧DDueR K w wr B t p tp c oa cap next now L D (.slice o14 n c14) vd q A R u3)) (fun u5 _ _=>n - (intOf u5).toNat)
 case atStart=>exact ⟨[],L,0,rfl,by omega,rfl,Ad.out⟩
 case round =>
  obtain ⟨A,R,j,rfl,hjn,HR⟩:=hrel;clear Ad;obtain ⟨wo,hwo⟩:∃ yy,yy=wr:=⟨_,rfl⟩;subst hwo;obtain ⟨⟨K1,P1,R1,m1⟩,hAR⟩:=HR.out.2;have hjA:=HR.out.1;have hle:A.length+R.length=n:=by rw [<- HN.out,<- hAR];simp
  have d14:wo.cell? ⟨p,14,none⟩=some (.slice o14 n c14):=P1.ce rfl;cases R with
  | nil =>
   have hj:j=n:=by simp at hle;omega
   subst hj;have HF:Hid (∃ K',DC K' wo B t p c oa cap next now (zcr c now L) D (.slice o14 j c14) vd q∧RW 78 3 pkC K' wo B tp u3 (zct c wa now L)∧Mv (fun u=>u=t+1∨u=tp) w wo K K'):=by
    rw [List.append_nil] at hAR;subst hAR;rw [<- Aj.out];exact ⟨K1,by simpa using P1,R1,m1⟩
   clear P1 R1 m1 hAR hjA hle HR HX HG;go_wp2;go_ret;exact ⟨_,rfl,by rw [HN.out];exact HF.out⟩
  | cons x R =>
   have hjl:j<n:=by simp at hle;omega
   have hji:(j:Int)<(n:Int):=by omega
   obtain ⟨g,rfl⟩:=HG.out (by rw [HN.out];omega);have hxL:x∈L:=by rw [<- hAR];simp
   have hxf:=HX.out x hxL;have hl2:(zcr c now A++x::R).length=n:=by rw [List.length_append,zem];exact hle
   have hxj:(zcr c now A++x::R)[j]?=some x:=by rw [List.getElem?_append_right (by simp [zem];omega)];simp [zem,hjA]
   have Ak:Hid (wo.rangeAt g (j*15) (dwC x)):=P1.wr.range dwL hl2 hxj;obtain ⟨SA,wA,wB,hSA,hwA,hwB,kA,kB,bB⟩:=copied wo x;have HS:=hid (And.intro kA hwB);have Au:Hid (w.heap.size<=SA):=by rw [<- hSA];exact m1.size
   obtain ⟨K2,hK2⟩:∃ y,ext wo K1 (fun _=>t+7)=y:=⟨_,rfl⟩;have PB:DC K2 wB B t p c oa cap next now (zcr c now A++x::R) D (.slice (some ⟨g,0,none⟩) n c14) vd q:=by rw [<- hK2];exact P1.below bB _
   have mB:Mv (fun _=>False) wo wB K1 K2:=by rw [<- hK2];exact Mv.of_below bB K1 _
   have hKA:K2 SA=t+7:=by rw [<- hK2];exact za2 (Nat.le_of_eq hSA)
   have HD:=hid (PB.dues_any x hxf.1);obtain ⟨dn,hdn⟩:∃ dn,dueN c now x=dn:=⟨_,rfl⟩;have hdn' : dcnt c.pb c.pc c.pt now x.iss 40 0=dn:=hdn;rw [hdn'] at HD;have hj1:wrap64 ((j:Int)+1)=(j:Int)+1:=zb0 (by have:=HC.out;omega);have Al:Hid (wB.rangeAt SA 0 (dwC x)):=zal kB;have HP:=hid (And.intro PB (And.intro (R1.mv mB (fun e=>e)) (And.intro (m1.trans (mB.mono (fun _ e=>e.elim))) (And.intro hKA kB))));have HA:=hid (And.intro hjA (And.intro hAR (And.intro hxf (And.intro hdn hl2))));clear P1 R1 m1 hAR hjA hle hxL hxf hl2 hxj kA kB bB hwB hK2 PB mB hKA hdn hdn' HR HX HG HN;go_wp2_with (with_reducible refine zbj 126 rfl ?_)
   refine (show Hid _ from ?_);refine zbh rfl 126 rfl g (j*15) (dwC x) rfl Ak.out Tryz.underlying126 rfl zb9 ?_;go_wp2_with (with_reducible refine zba 126 rfl ?_)
   refine (show Hid _ from ?_);refine za6 rfl 126 rfl SA 0 (dwC x) HS.out.1 rfl rfl (by simp [dwL]) zb9 (dwO x) HS.out.2 ?_;clear hwA hSA HS Ak d14;go_wp2_with (with_reducible refine zbj 126 rfl ?_)
   refine (show Hid _ from ?_);refine zbh rfl 126 rfl SA 0 (dwC x) rfl Al.out Tryz.underlying126 rfl zb9 ?_;go_wp2_with fail
   refine HD.out.mono ?_;rintro _ w1 ⟨rfl,hb1⟩;obtain ⟨PB,RB,mB,hKA,kB⟩:=HP.out;have k1:w1.heap[SA]?=some (.cells (dwC x).toArray 126):=(hb1.block SA (Array.getElem?_eq_some_iff.1 kB).1).trans kB;have t12:w1.cell? ⟨SA,12,none⟩=some (iI x.don):=zaa k1 rfl;obtain ⟨K3,hK3⟩:∃ y,ext wB K2 (fun _=>t+7)=y:=⟨_,rfl⟩;have P3:DC K3 w1 B t p c oa cap next now (zcr c now A++x::R) D (.slice (some ⟨g,0,none⟩) n c14) vd q:=by rw [<- hK3];exact PB.below hb1 _
   have m3:Mv (fun _=>False) wB w1 K2 K3:=by rw [<- hK3];exact Mv.of_below hb1 K2 _
   have hKA3:K3 SA=t+7:=by rw [<- hK3];exact (zbd (Array.getElem?_eq_some_iff.1 kB).1).trans hKA
   have R3:=RB.mv m3 (fun e=>e);have mm3:=mB.trans (m3.mono (fun _ e=>e.elim));clear HD Al HP PB RB mB hKA kB hb1 hK3 m3;by_cases he:(dn:Int)=x.don
   · have heq:((dn:Int)==x.don)=true:=(by simpa using he);have HF:Hid (DDueR K w w1 B t p tp c oa cap next now L D (.slice (some ⟨g,0,none⟩) n c14) vd q (A++[x]) R u3):=by
      have hdw:dueD c now x=false:=(by unfold dueD;rw [HA.out.2.2.2.1,heq];rfl);refine ⟨⟨K3,?_,?_,mm3⟩,by rw [List.append_assoc];exact HA.out.2.1⟩
      · rw [dueLD_app];simpa [zcr,hdw] using P3
      · rw [pksLD_app,show zct c (zbl next L) now [x]=[] by simp [zct,hdw],List.append_nil];exact R3
     clear P3 R3 mm3 k1 hKA3 he;go_wp2;go_roundw
     case rel=>exact ⟨A++[x],R,j+1,by first|rfl|(rw [hj1];rfl),by omega,by have:=HA.out.1;simp;omega,HF.out⟩
     case measure=>exact meas (by first|rfl|exact hj1) hji
   · have heq:((dn:Int)==x.don)=false:=(by simpa using he);have hdw:dueD c now x=true:=(by unfold dueD;rw [HA.out.2.2.2.1,heq];rfl);obtain ⟨SX,wC,wD,hSX,hwC,hwD,kC,kD,bD⟩:=copiedC w1 x;have hAlt:=(Array.getElem?_eq_some_iff.1 k1).1;have U1:DU K w (ext w1 K3 (fun _=>t+7)) wD B t p tp c oa cap next now (zcr c now A++x::R) D (.slice (some ⟨g,0,none⟩) n c14) vd q x (zct c (zbl next L) now A) u3 SA SX x 0 ⟨#[]⟩:=by
      have m:=Mv.of_below bD K3 (fun _=>t+7);exact ⟨P3.below bD _,R3.mv m (fun e=>e),mm3.trans (m.mono (fun _ e=>e.elim)),(zbd hAlt).trans hKA3,za2 (Nat.le_of_eq hSX),(bD.block SA hAlt).trans k1,kD,Au.out,by have:=mm3.size;omega,by omega,HC.out.2⟩
     have Am:Hid (w1.rangeAt SA 0 (zcx x 0 ⟨#[]⟩)):=range_call k1;have HS:=hid (And.intro kC hwD);obtain ⟨mc,hmc⟩:∃ y:ByteArray,(⟨c.sys.machine.toArray⟩:ByteArray)=y:=⟨_,rfl⟩;obtain ⟨gl,hgl⟩:∃ y,c.sys.groups.length=y:=⟨_,rfl⟩;have Ae:=hid (And.intro hmc hgl);have Af:Hid (∀ u,Below wD.heap.size wD u->u.cell? ⟨p,1,none⟩=some (iI c.inst)∧u.cell? ⟨SX,0,none⟩=some (iI x.seq)∧u.cell? ⟨p,7,none⟩=some (iI c.sys.stamp)∧u.cell? ⟨p,8,none⟩=some (.string mc)∧u.cell? ⟨p,9,none⟩=some (iI c.sys.user)∧u.cell? ⟨p,10,none⟩=some (iI c.sys.group)∧u.cell? ⟨p,11,none⟩=some (.slice oa gl cap)):=fun u hb=>by
      have U2:=U1.below hb;rw [<- hmc,<- hgl];exact ⟨U2.pc.ce rfl,zaa U2.sx rfl,U2.pc.ce rfl,U2.pc.ce rfl,U2.pc.ce rfl,U2.pc.ce rfl,U2.pc.ce rfl⟩
     have s10:wD.drew.cell? ⟨p,1,none⟩=some (iI c.inst)∧wD.drew.cell? ⟨SX,0,none⟩=some (iI x.seq)∧wD.drew.cell? ⟨p,7,none⟩=some (iI c.sys.stamp)∧wD.drew.cell? ⟨p,8,none⟩=some (.string mc)∧wD.drew.cell? ⟨p,9,none⟩=some (iI c.sys.user)∧wD.drew.cell? ⟨p,10,none⟩=some (iI c.sys.group)∧wD.drew.cell? ⟨p,11,none⟩=some (.slice oa gl cap):=Af.out wD.drew (zdb wD 1);obtain ⟨m0,hm0⟩:∃ m0:MarkP,m0=⟨c.inst,x.seq,wa,c.sys⟩:=⟨_,rfl⟩;obtain ⟨e0,he0⟩:=prM_is m0;obtain ⟨fl,hfl⟩:∃ y,(zge m0).flavor=y:=⟨_,rfl⟩;obtain ⟨bo,hbo⟩:∃ y:ByteArray,(⟨(zge m0).body.toArray⟩:ByteArray)=y:=⟨_,rfl⟩;have An:Hid (Calls Tryz.prog 63 #[.agg #[iI c.inst,iI x.seq,iI wa,iI c.sys.stamp,.string mc,iI c.sys.user,iI c.sys.group,.slice oa gl cap]] wD.drew fun e w'=>e=.returned (.tuple #[.agg #[iI fl,.string bo],iI e0])∧Below wD.heap.size wD w'):=by
      have hga:GsAt wD.drew wD.drew.heap.size oa c.sys.groups:=U1.pc.gs.at_;(have:=zgm m0 oa cap wD.drew (by rw [hm0];exact hga));rw [he0,hfl,hbo,hm0] at this;rw [<- hmc,<- hgl];exact this.mono fun e w' ⟨h1,h2⟩=>⟨h1,(zdb wD 1).trans h2⟩
     have hcv:zcx x fl bo=zdc (x.reqC c wa):=(by rw [<- hfl,<- hbo,hm0];rfl);have Ao:Hid (∀ u,Calls Tryz.prog 64 #[.agg (zcx x fl bo).toArray] u fun e w'=>e=.returned (.tuple #[.string ⟨(x.data c wa).toArray⟩,iI (pcP (x.reqC c wa)).2])∧Below u.heap.size u w'):=fun u=>by
      rw [hcv];exact zgr (x.reqC c wa) u (by have:=HA.out.2.2.1.2.2;show x.args.length<=_;omega)
     have hb131:=fun v0 v1 v2 v3 v5 v6 s oa l cap w=>bld131 v0 v1 v2 v3 v5 v6 s oa l cap w;have Ap:=hid U1;clear P3 R3 mm3 k1 hKA3 he hAlt kC kD bD hwD hcv hfl hbo hm0 he0 hgl hmc U1;(go_wp2_with (with_reducible refine zbj 108 rfl ?_));refine (show Hid _ from ?_);refine zbh rfl 108 rfl SA 0 (zcx x 0 ⟨#[]⟩) rfl Am.out Tryz.underlying108 rfl size108 ?_;(go_wp2_with (with_reducible refine zba 108 rfl ?_));refine (show Hid _ from ?_);refine za6 rfl 108 rfl SX 0 (zcx x 0 ⟨#[]⟩) HS.out.1 rfl rfl (by simp [dcallL]) size108 (dcallO x 0 ⟨#[]⟩) HS.out.2 ?_;clear hwC hSX HS Am t12;(go_wp2_with fail);refine wp_region_held_drew (S:=fun w'=>w'.cell? ⟨p,1,none⟩=some (iI c.inst)∧w'.cell? ⟨SX,0,none⟩=some (iI x.seq)∧w'.cell? ⟨p,7,none⟩=some (iI c.sys.stamp)∧w'.cell? ⟨p,8,none⟩=some (.string mc)∧w'.cell? ⟨p,9,none⟩=some (iI c.sys.user)∧w'.cell? ⟨p,10,none⟩=some (iI c.sys.group)∧w'.cell? ⟨p,11,none⟩=some (.slice oa gl cap)) (by kernel_rfl) ?_ (fun hHeld=>?_)
     · exact s10
     refine tk 0 ?_ rfl ?_ ?_;rotate_left
     · (intro w hs;(try dsimp only at hs);go_simp;try with_reducible rfl)
     (try simp only [gA,gB,gC,Act.put,gE,gF,gG]);refine tk 1 ?_ rfl ?_ ?_;rotate_left
     · (intro w hs;(try dsimp only at hs);go_simp;try with_reducible rfl)
     (try simp only [gA,gB,gC,Act.put,gE,gF,gG]);refine tk 2 ?_ rfl ?_ ?_;rotate_left
     · (intro w hs;(try dsimp only at hs);go_simp;try with_reducible rfl)
     (try simp only [gA,gB,gC,Act.put,gE,gF,gG]);refine tk 3 ?_ rfl ?_ ?_;rotate_left
     · (intro w hs;(try dsimp only at hs);go_simp;try with_reducible rfl)
     (try simp only [gA,gB,gC,Act.put,gE,gF,gG]);refine tk 4 ?_ rfl ?_ ?_;rotate_left
     · (intro w hs;(try dsimp only at hs);go_simp;try with_reducible rfl)
     (try simp only [gA,gB,gC,Act.put,gE,gF,gG]);refine tk 5 ?_ rfl ?_ ?_;rotate_left
     · (intro w hs;(try dsimp only at hs);go_simp;try with_reducible rfl)
     (try simp only [gA,gB,gC,Act.put,gE,gF,gG]);refine tk 6 ?_ rfl ?_ ?_;rotate_left
     · (intro w hs;(try dsimp only at hs);go_simp;try with_reducible rfl)
     (try simp only [gA,gB,gC,Act.put,gE,gF,gG]);refine tk 7 ?_ rfl ?_ ?_;rotate_left
     · (intro w hs;(try dsimp only at hs);go_simp;try with_reducible rfl)
     (try simp only [gA,gB,gC,Act.put,gE,gF,gG]);refine tk 8 ?_ rfl ?_ ?_;rotate_left
     · (intro w hs;(try dsimp only at hs);go_simp;try with_reducible rfl)
     (try simp only [gA,gB,gC,Act.put,gE,gF,gG]);refine tk 9 ?_ rfl ?_ ?_;rotate_left
     · (intro w hs;(try dsimp only at hs);go_simp;try with_reducible rfl)
     (try simp only [gA,gB,gC,Act.put,gE,gF,gG]);refine tk 10 ?_ rfl ?_ ?_;rotate_left
     · (intro w hs;(try dsimp only at hs);go_simp;try with_reducible rfl)
     (try simp only [gA,gB,gC,Act.put,gE,gF,gG]);refine tk 11 ?_ rfl ?_ ?_;rotate_left
     · (intro w hs;(try dsimp only at hs);go_simp;try with_reducible rfl)
     (try simp only [gA,gB,gC,Act.put,gE,gF,gG]);refine tk 12 ?_ rfl ?_ ?_;rotate_left
     · (intro w hs;(try dsimp only at hs);go_simp;try with_reducible rfl)
     (try simp only [gA,gB,gC,Act.put,gE,gF,gG]);refine tk 13 ?_ rfl ?_ ?_;rotate_left
     · (intro w hs;(try dsimp only at hs);go_simp;try with_reducible rfl)
     (try simp only [gA,gB,gC,Act.put,gE,gF,gG]);refine rd 14 rfl (fun KK hK=>?_);go_simp
     refine An.out.mono ?_;rintro _ w2 ⟨rfl,hb2⟩;refine hK.out _ _ ?_ (fun hHeld2=>?_)
     · exact Af.out w2 hb2
     clear hK hHeld;(try simp only [gA,gB,gC,Act.put,gE,gF,gG]);refine tk 15 ?_ rfl ?_ ?_;rotate_left
     · (intro w hs;(try dsimp only at hs);go_simp;try with_reducible rfl)
     (try simp only [gA,gB,gC,Act.put,gE,gF,gG]);refine tk 16 ?_ rfl ?_ ?_;rotate_left
     · (intro w hs;(try dsimp only at hs);go_simp;try with_reducible rfl)
     (try simp only [gA,gB,gC,Act.put,gE,gF,gG]);refine tk 17 ?_ rfl ?_ ?_;rotate_left
     · (intro w hs;(try dsimp only at hs);go_simp;try with_reducible rfl)
     (try simp only [gA,gB,gC,Act.put,gE,gF,gG]);refine tk 18 ?_ rfl ?_ ?_;rotate_left
     · (intro w hs;(try dsimp only at hs);go_simp;try with_reducible rfl)
     (try simp only [gA,gB,gC,Act.put,gE,gF,gG]);have Ag:=hid (Ap.out.below hb2);have Aa:=hid (Ag.out.setX fl bo);obtain ⟨w3,hw3⟩:∃ y,w2.setCells SX 5 [iI fl,.string bo]=y:=⟨_,rfl⟩;rw [hw3] at Aa;have s3:w3.cell? ⟨p,1,none⟩=some (iI c.inst)∧w3.cell? ⟨SX,0,none⟩=some (iI x.seq)∧w3.cell? ⟨p,7,none⟩=some (iI c.sys.stamp)∧w3.cell? ⟨p,8,none⟩=some (.string mc)∧w3.cell? ⟨p,9,none⟩=some (iI c.sys.user)∧w3.cell? ⟨p,10,none⟩=some (iI c.sys.group)∧w3.cell? ⟨p,11,none⟩=some (.slice oa gl cap):=by
      rw [<- Ae.out.1,<- Ae.out.2];exact ⟨Aa.out.pc.ce rfl,zaa Aa.out.sx rfl,Aa.out.pc.ce rfl,Aa.out.pc.ce rfl,Aa.out.pc.ce rfl,Aa.out.pc.ce rfl,Aa.out.pc.ce rfl⟩
     refine rd 19 rfl (fun KK hK=>?_);refine zcj rfl 44 (.tmp 56) (.tmp 54) rfl SX 5 [iI fl,.string bo] Ag.out.sx rfl rfl (by simp [dcallL]) size44 (by intro v hv;simp only [List.mem_cons,List.not_mem_nil,or_false] at hv;rcases hv with rfl|rfl <;> rfl) hw3 ?_;refine hK.out _ _ ?_ (fun hHeld3=>?_)
     · exact s3
     clear hK hHeld2;(try simp only [gA,gB,gC,Act.put,gE,gF,gG]);refine wpAnyH_done (by kernel_rfl) ?_ _;clear hHeld3 s3 s10 Ag hw3 hb2 An Af Ap Ae;(go_wp2_with (with_reducible refine zbj 108 rfl ?_));refine (show Hid _ from ?_);refine zbh rfl 108 rfl SX 0 (zcx x fl bo) rfl (zal Aa.out.sx) Tryz.underlying108 rfl size108 ?_;(go_wp2_with fail);refine (Ao.out _).mono ?_;rintro _ w4 ⟨rfl,hb4⟩;have Ab:=hid (Aa.out.below hb4);clear hb4 Aa Ao;obtain ⟨K4,Ab⟩:∃ y,Hid (DU K w y w4 B t p tp c oa cap next now (zcr c now A++x::R) D (.slice (some ⟨g,0,none⟩) n c14) vd q x (zct c (zbl next L) now A) u3 SA SX x fl bo):=⟨_,Ab⟩;obtain ⟨dat,hdat⟩:∃ y:ByteArray,(⟨(x.data c wa).toArray⟩:ByteArray)=y:=⟨_,rfl⟩;rw [hdat];have Av:=hid hdat
     clear hdat
     obtain ⟨N5,hN5⟩:∃ y,w4.drew.heap.size=y:=⟨_,rfl⟩;obtain ⟨w5,hw5⟩:∃ y,w4.drew.alloc (.cells #[iI c.ad,iI x.dst,.string dat] 78)=y:=⟨_,rfl⟩;have b5:Below w4.heap.size w4 w5:=(by rw [<- hw5];exact (zdb w4 1).alloc (Nat.le_refl _) _);have U5:=Ab.out.below b5;have s12:w4.drew.cell? ⟨p,0,none⟩=some (iI c.ad)∧w4.drew.cell? ⟨SA,10,none⟩=some (iI x.dst):=⟨(Ab.out.below (zdb w4 1)).pc.ce rfl,zaa (w:=w4.drew) Ab.out.sa rfl⟩;have s5:w5.cell? ⟨p,0,none⟩=some (iI c.ad)∧w5.cell? ⟨SA,10,none⟩=some (iI x.dst):=⟨U5.pc.ce rfl,zaa U5.sa rfl⟩;have k5:w5.heap[N5]?=some (.cells (pkC ⟨c.ad,x.dst,x.data c wa⟩).toArray 78):=by
      rw [<- hw5,<- hN5,<- Av.out];exact (MapKept.heap_alloc w4.drew _).1
     obtain ⟨v6,w6,K6,hr6,R6,m6⟩:=app73 U5.rw U5.pc.hB k5 (by have:=pksLD_len c (zbl next L) now A;have:=HA.out.1;have:=HC.out;omega);have U6:=U5.appd R6 m6;obtain ⟨o6,c6,e6,_,_⟩:=R6.form;subst e6;have s6:w6.cell? ⟨p,0,none⟩=some (iI c.ad)∧w6.cell? ⟨SA,10,none⟩=some (iI x.dst):=⟨U6.pc.ce rfl,zaa U6.sa rfl⟩;obtain ⟨u3o,u3c,eu3,_,_⟩:=Ab.out.rw.form;subst eu3;obtain ⟨l3,hl3⟩:∃ y,(zct c (zbl next L) now A).length=y:=⟨_,rfl⟩;obtain ⟨l6,hl6⟩:∃ y,(zct c (zbl next L) now A++[(⟨c.ad,x.dst,x.data c wa⟩:Pk)]).length=y:=⟨_,rfl⟩;have Ah:=hid hr6;have Aw:=hid U6;rw [hl3,hl6] at Ah;have Aq:Hid (zct c (zbl next L) now A++[(⟨c.ad,x.dst,x.data c wa⟩:Pk)]=zct c (zbl next L) now (A++[x])):=by
      show _=_;rw [pksLD_app,<- Aj.out];congr 1
      unfold zct;rw [List.filter_cons,hdw];rfl
     have y12:w6.cell? ⟨SA,12,none⟩=some (iI x.don):=zaa U6.sa rfl;have f12:w6.frozen? ⟨SA,12,none⟩=false:=zab U6.sa 12;obtain ⟨w7,hw7⟩:∃ y,w6.setCell ⟨SA,12,none⟩ (iI (dn:Int))=y:=⟨_,rfl⟩;have U7:=U6.setA 12 (iI (dn:Int)) { x with don:=(dn:Int) } rfl;rw [hw7] at U7;have y13:w7.cell? ⟨SA,13,none⟩=some (iI x.giv):=zaa U7.sa rfl;have f13:w7.frozen? ⟨SA,13,none⟩=false:=zab U7.sa 13;obtain ⟨w8,hw8⟩:∃ y,w7.setCell ⟨SA,13,none⟩ (iI (x.giv+1))=y:=⟨_,rfl⟩;have U8:=U7.setA 13 (iI (x.giv+1)) { x with don:=(dn:Int),giv:=x.giv+1 } rfl;rw [hw8] at U8;have y14:w8.cell? ⟨SA,14,none⟩=some (iI x.last):=zaa U8.sa rfl;have f14:w8.frozen? ⟨SA,14,none⟩=false:=zab U8.sa 14;have y12n:w8.cell? ⟨p,12,none⟩=some (iI now):=U8.pc.ce rfl;obtain ⟨w9,hw9⟩:∃ y,w8.setCell ⟨SA,14,none⟩ (iI now)=y:=⟨_,rfl⟩;obtain ⟨x',hx'⟩:∃ y,givD c now x=y:=⟨_,rfl⟩;have U9:=U8.setA 14 (iI now) x' (by rw [<- hx'];unfold givD;rw [HA.out.2.2.2.1];rfl);rw [hw9] at U9;have hg1:wrap64 (x.giv+1)=x.giv+1:=(by have:=HA.out.2.2.1.2.1;exact zhh (by omega) (by omega));have s16:w9.drew.cell? ⟨p,14,none⟩=some (.slice (some ⟨g,0,none⟩) n c14)∧w9.drew.rangeAt SA 0 (dwC x'):=⟨U9.pc.ce rfl,zal (w:=w9.drew) U9.sa⟩;have P9:=U9.pc.to (Mv.drew (fun _=>False) w9 K6) (fun _ e=>e.elim);obtain ⟨cs9,hc9,hs9⟩:=P9.wr.block HA.out.2.2.2.2;have hjA:(zcr c now A).length=j:=(by rw [zem];exact HA.out.1);obtain ⟨w10,hw10⟩:∃ y,w9.drew.setCells g (j*15) (dwC x')=y:=⟨_,rfl⟩;have U9d:DU K w K6 w9.drew B t p tp c oa cap next now (zcr c now A++x::R) D (.slice (some ⟨g,0,none⟩) n c14) vd q x (zct c (zbl next L) now A++[(⟨c.ad,x.dst,x.data c wa⟩:Pk)]) (.slice o6 (zct c (zbl next L) now A++[(⟨c.ad,x.dst,x.data c wa⟩:Pk)]).length c6) SA SX x' fl bo :=
      ⟨P9,U9.rw.mv (Mv.drew (fun _=>False) w9 K6) (fun e=>e),U9.mv.trans (Mv.drew _ w9 K6),U9.ka,U9.kx,U9.sa,U9.sx,U9.na,U9.nx,U9.ne,U9.tp⟩
     have Ai:Hid ((w10.cell? ⟨p,14,none⟩=some (.slice (some ⟨g,0,none⟩) n c14)∧w10.rangeAt SA 0 (dwC x'))∧DDueR K w w10 B t p tp c oa cap next now L D (.slice (some ⟨g,0,none⟩) n c14) vd q (A++[x]) R (.slice o6 l6 c6)):=by
      obtain ⟨R10,m10⟩:=RW.sets (x':=x') dwL P9.wr HA.out.2.2.2.2;rw [hjA,hw10] at R10 m10;have ht:=U9d.tp;have cl10:=P9.cl.mv m10 (by omega);have sa10:=(m10.kept SA (Array.getElem?_eq_some_iff.1 U9d.sa).1 (by rw [U9d.ka];omega)).trans U9d.sa;refine ⟨⟨zaa cl10.at_ rfl,zal sa10⟩,⟨K6,⟨cl10,?_,P9.dn.mv m10 (by omega),P9.me.mv m10 (by omega),P9.gs.mv m10 (by omega),P9.gl,P9.ok,Nat.le_trans P9.hB m10.size,fun b hb=>P9.h0 b hb⟩,?_,U9d.mv.trans (m10.mono (fun u e=>.inl e))⟩,by rw [List.append_assoc];exact HA.out.2.1⟩
      · rw [dueLD_app,show zcr c now [x]=[x'] by simp [zcr,hdw,hx'],List.append_assoc];exact R10
      · (have:=U9d.rw.mv m10 (by omega));rw [hl6,Aq.out] at this;exact this
     have hs9' : j*15+(dwC x').length<=cs9.size:=by
      rw [dwL];(have:(j+1)*15<=n*15:=Nat.mul_le_mul_right _ hjl);rw [Nat.succ_mul] at this;exact Nat.le_trans this hs9
     have Ar:=hid (And.intro hc9 hs9');have hb73:=fun v0 v1 s w=>bls73 v0 v1 s w;rw [hl3];clear b5 U5 k5 hr6 R6 m6 U6 U7 U8 U9 P9 hc9 hs9 hs9' U9d hx' hjA hl3 hl6 Aw Aq hdw heq;(go_wp2_with fail);refine zah (S:=fun w'=>w'.cell? ⟨p,0,none⟩=some (iI c.ad)∧w'.cell? ⟨SA,10,none⟩=some (iI x.dst)) (n:=12) (by kernel_rfl) rfl (by kernel_rfl) (by kernel_rfl) ?_ (fun hHeld4=>?_)
     · exact s12
     refine tk 0 ?_ rfl ?_ ?_;rotate_left
     · (intro w hs;(try dsimp only at hs);go_simp;try with_reducible rfl)
     (try simp only [gA,gB,gC,Act.put,gE,gF,gG]);refine tk 1 ?_ rfl ?_ ?_;rotate_left
     · (intro w hs;(try dsimp only at hs);go_simp;try with_reducible rfl)
     (try simp only [gA,gB,gC,Act.put,gE,gF,gG]);refine tk 2 ?_ rfl ?_ ?_;rotate_left
     · (intro w hs;(try dsimp only at hs);go_simp;try with_reducible rfl)
     (try simp only [gA,gB,gC,Act.put,gE,gF,gG]);refine tk 3 ?_ rfl ?_ ?_;rotate_left
     · (intro w hs;(try dsimp only at hs);go_simp;try with_reducible rfl)
     (try simp only [gA,gB,gC,Act.put,gE,gF,gG]);refine tk 4 ?_ rfl ?_ ?_;rotate_left
     · (intro w hs;(try dsimp only at hs);go_simp;try with_reducible rfl)
     (try simp only [gA,gB,gC,Act.put,gE,gF,gG]);refine tk 5 ?_ rfl ?_ ?_;rotate_left
     · (intro w hs;(try dsimp only at hs);go_simp;try with_reducible rfl)
     (try simp only [gA,gB,gC,Act.put,gE,gF,gG]);refine tk 6 ?_ rfl ?_ ?_;rotate_left
     · (intro w hs;(try dsimp only at hs);go_simp;try with_reducible rfl)
     (try simp only [gA,gB,gC,Act.put,gE,gF,gG]);refine tk 7 ?_ rfl ?_ ?_;rotate_left
     · (intro w hs;(try dsimp only at hs);go_simp;try with_reducible rfl)
     (try simp only [gA,gB,gC,Act.put,gE,gF,gG]);refine tk 8 ?_ rfl ?_ ?_;rotate_left
     · (intro w hs;(try dsimp only at hs);go_simp;try with_reducible rfl)
     (try simp only [gA,gB,gC,Act.put,gE,gF,gG]);refine tk 9 ?_ rfl ?_ ?_;rotate_left
     · (intro w hs;(try dsimp only at hs);go_simp;try with_reducible rfl)
     (try simp only [gA,gB,gC,Act.put,gE,gF,gG]);refine rd 10 rfl (fun KK hK=>?_);go_simp
     refine hK.out _ _ ?_ (fun hHeld5=>?_)
     · exact s5
     clear hK hHeld4;(try simp only [gA,gB,gC,Act.put,gE,gF,gG]);refine rd 11 rfl (fun KK hK=>?_);refine zbk rfl (.tmp 62) (.tmp 72) 73 rfl (.slice u3o l3 u3c) (.slice (some ⟨N5,0,none⟩) 1 1) _ _ (by go_simp) (by go_simp) (Ah.out _) ?_;refine hK.out _ _ ?_ (fun hHeld6=>?_)
     · exact s6
     clear hK hHeld5;(try simp only [gA,gB,gC,Act.put,gE,gF,gG]);refine wpAnyH_done (by kernel_rfl) ?_ _;refine zbx.done ?_;refine wpOp_step (i:=12) rfl (fun KK hK=>?_);have HK:=hid hK;clear hK;go_simp
     refine HK.out _ _ ?_;clear HK;clear s12 s5 s6 Ah;(go_wp2_with fail);refine zah (S:=fun w'=>w'.cell? ⟨p,14,none⟩=some (.slice (some ⟨g,0,none⟩) n c14)∧w'.rangeAt SA 0 (dwC x')) (n:=7) (by kernel_rfl) rfl (by kernel_rfl) (by kernel_rfl) ?_ (fun hHeld7=>?_)
     · exact s16
     refine tk 0 ?_ rfl ?_ ?_;rotate_left
     · (intro w hs;(try dsimp only at hs);go_simp;try with_reducible rfl)
     (try simp only [gA,gB,gC,Act.put,gE,gF,gG]);refine tk 1 ?_ rfl ?_ ?_;rotate_left
     · (intro w hs;(try dsimp only at hs);go_simp;try with_reducible rfl)
     (try simp only [gA,gB,gC,Act.put,gE,gF,gG]);refine tk 2 ?_ rfl ?_ ?_;rotate_left
     · (intro w hs;(try dsimp only at hs);go_simp;try with_reducible rfl)
     (try simp only [gA,gB,gC,Act.put,gE,gF,gG]);refine tk 3 ?_ rfl ?_ ?_;rotate_left
     · (intro w hs;(try dsimp only at hs);go_simp;try with_reducible rfl)
     (try simp only [gA,gB,gC,Act.put,gE,gF,gG]);refine tk 4 ?_ rfl ?_ ?_;rotate_left
     · (intro w hs;(try dsimp only at hs);go_simp;try with_reducible rfl)
     (try simp only [gA,gB,gC,Act.put,gE,gF,gG]);refine wpAnyH_take (i:=5) (v:=.agg ((dwC x')).toArray) rfl (by kernel_rfl) (by kernel_rfl) (by kernel_rfl) (fun _ _ _ h=>h) ?_ (by assumption) ?_
     · exact yieldsIf_load_mid rfl 126 _ rfl SA 0 rfl (dwC x') _ (fun w hS=>hS.2) Tryz.underlying126 rfl zb9
     (try simp only [gA,gB,gC,Act.put,gE,gF,gG]);refine tk 6 ?_ rfl ?_ ?_;rotate_left
     · (intro w hs;(try dsimp only at hs);go_simp;try with_reducible rfl)
     (try simp only [gA,gB,gC,Act.put,gE,gF,gG]);refine wpAnyH_done (by kernel_rfl) ?_ _;refine zbx.done ?_;refine wpOp_step (i:=7) rfl (fun KK hK=>?_);have HK:=hid hK;clear hK;with_reducible refine zcj rfl 126 (.tmp 91) (.tmp 90) rfl g (j*15) (dwC x') Ar.out.1 ?_ ?_ Ar.out.2 ?_ (dwO x') hw10 ?_
     · go_simp
     · go_simp
     · exact zb9
     with_reducible refine HK.out _ _ ?_
     clear HK;clear s16;go_wp2;go_roundw
     case rel=>exact ⟨A++[x],R,j+1,by first|rfl|(rw [hj1];rfl),by omega,by have:=HA.out.1;simp;omega,Ai.out.2⟩
     case measure=>exact meas (by first|rfl|exact hj1) hji
end
end Go.Proofs.YtfcbjcebkahehaaGreatDoor.Cl
