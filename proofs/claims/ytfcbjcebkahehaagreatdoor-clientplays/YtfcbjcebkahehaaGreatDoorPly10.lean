import Derived.Test.YtfcbjcebkahehaaGreatDoorPly09
import Derived.Test.YtfcbjcebkahehaaGreatDoorPly07
import Derived.Test.YtfcbjcebkahehaaGreatDoorPly08
import Derived.Test.YtfcbjcebkahehaaGreatDoorPly01
import Derived.Deep.RegionWith
set_option maxRecDepth 8000
set_option maxHeartbeats 20000000
set_option linter.unusedSimpArgs false
namespace Go.Proofs.YtfcbjcebkahehaaGreatDoor.Cl
set_option linter.unusedSimpArgs false
open Go.RowKit
def zby (c:Cf) (now:Int) (x:Dw):Bool:=decide (x.iss+Pc.totalP c.pb c.pc c.pt<=now)
def dOut (now:Int) (x:Dw):Oc:=⟨x.seq,2,0,0,0,0,0,[],now⟩
theorem total_in (b c t:Int) (ht:t<=32):0<=Pc.totalP b c t∧Pc.totalP b c t<=100000000:=by
 unfold Pc.totalP;split
 · have:=Pc.tot_in b c t t.toNat
   have h2:t.toNat<=32:=by omega
   have h3:(t.toNat:Int)*1048576<=32*1048576:=by omega
   omega
 · omega
theorem measD {a n u v:Nat} (h:u+1=n) (k:v=n) (ha:(a:Int)<(n:Int)):u - (intOf (iI (a:Int))).toNat<v - (intOf (iI (a:Int))).toNat:=by
 show u - (a:Int).toNat<v - (a:Int).toNat
 omega
def leftD (p:Nat) (w:World):Nat:=match w.cell? ⟨p,14,none⟩ with|some (.slice _ n _)=>n|_=>0
section
variable {K K' : Nat->Nat} {w w' : World} {B t p:Nat} {c:Cf} {oa:Option Addr} {cap:Nat} {next now:Int} {L:List Dw} {D:List Oc} {vw vd:Value} {q:Mq}
theorem DC.tick_any (h:DC K w B t p c oa cap next now L D vw vd q) (hn:-1000000000000<=now∧now<=1000000000000) (hX:∀ x∈L,-1000000000000<=x.iss∧x.iss<=1000000000000) (hD:D.length+L.length<=100000000) :
 Calls Tryz.prog 31 #[ptr p] w fun e w'=>(∃ v,e=.returned v)∧Hid (∃ K' vw' vd',DC K' w' B t p c oa cap next (now+1) (L.filter fun x=>!zby c (now+1) x) (D++(L.filter (zby c (now+1))).map (dOut (now+1))) vw' vd' q∧Mv (fun u=>u=t∨u=t+1∨u=t+2) w w' K K'):=by
 have c12:=h.ce (k:=12) rfl;have f12:=h.fz 12;obtain ⟨w0,hw0⟩:∃ y,w.setCell ⟨p,12,none⟩ (iI (now+1))=y:=⟨_,rfl⟩;obtain ⟨P0,m0⟩:=h.now_ (now+1);rw [hw0] at P0 m0;obtain ⟨nw,hnw⟩:∃ y,now+1=y:=⟨_,rfl⟩;have hwn:wrap64 (now+1)=now+1:=by unfold wrap64;omega
 rw [hnw] at P0 ⊢;have hok:=h.ok;have hpt:c.pt<=32:=by
  unfold okC Pc.rightP at hok;simp only [Bool.and_eq_true,decide_eq_true_eq,inB,Pc.inB] at hok;omega
 have Aa:=hid (total_in c.pb c.pc c.pt hpt);have HT:=hid (fun u=>Pc.dtotal_any u c.pb c.pc c.pt);obtain ⟨TT,hTT⟩:∃ y,Pc.totalP c.pb c.pc c.pt=y:=⟨_,rfl⟩;rw [hTT] at Aa HT;have Ac:=hid hTT;have HX:=hid hX;have Ad:=hid hD;have Ab:Hid (∃ K' D' vw' vd',DC K' w0 B t p c oa cap next nw ([]++L) D' vw' vd' q∧Mv (fun u=>u=t∨u=t+1∨u=t+2) w w0 K K'∧D'++(L.filter (zby c nw)).map (dOut nw)=D++(L.filter (zby c nw)).map (dOut nw)∧[]++L.filter (fun x=>!zby c nw x)=L.filter (fun x=>!zby c nw x)∧D'.length+L.length<=100000000∧∀ x∈[]++L,-1000000000000<=x.iss∧x.iss<=1000000000000) :=
  ⟨K,D,_,_,P0,m0.mono (fun u e=>.inl e),rfl,rfl,hD,hX⟩
 clear h P0 m0 hok hpt hX hD hTT hnw;go_enter Tryz.func31,Tryz.ntmps31
 go_wp2_with fail
 go_loopw [2] (fun u2 wr=>∃ (A R:List Dw),u2=iI (A.length:Int)∧Hid (∃ K' D' vw' vd',DC K' wr B t p c oa cap next nw (A++R) D' vw' vd' q∧Mv (fun u=>u=t∨u=t+1∨u=t+2) w wr K K'∧D'++(R.filter (zby c nw)).map (dOut nw)=D++(L.filter (zby c nw)).map (dOut nw)∧A++R.filter (fun x=>!zby c nw x)=L.filter (fun x=>!zby c nw x)∧D'.length+R.length<=100000000∧(∀ x∈A++R,-1000000000000<=x.iss∧x.iss<=1000000000000)∧A.length+R.length<=100000000)) (fun u2 wr=>leftD p wr - (intOf u2).toNat)
 case atStart =>
  obtain ⟨K',D',vw',vd',P,m,e1,e2,e3,e4⟩:=Ab.out;exact ⟨[],L,rfl,K',D',vw',vd',P,m,e1,e2,e3,e4,by have:=Ad.out;simp;omega⟩
 case round =>
  obtain ⟨A,R,rfl,HR⟩:=hrel;clear c12 f12 Ab hw0;obtain ⟨wo,hwo⟩:∃ yy,yy=wr:=⟨_,rfl⟩;subst hwo;obtain ⟨K1,D1,vw1,vd1,P1,m1,e1,e2,e3,e4,e5⟩:=HR.out;obtain ⟨o14,c14,ew,_,hg⟩:=P1.wr.form;subst ew;have d14:wo.cell? ⟨p,14,none⟩=some (.slice o14 (A++R).length c14):=P1.ce rfl;have hmz:leftD p wo=(A++R).length:=by unfold leftD;rw [d14]
  cases R with
  | nil =>
   have HF:Hid (∃ K' vw' vd',DC K' wo B t p c oa cap next nw (L.filter fun x=>!zby c nw x) (D++(L.filter (zby c nw)).map (dOut nw)) vw' vd' q∧Mv (fun u=>u=t∨u=t+1∨u=t+2) w wo K K'):=by
    simp only [List.filter_nil,List.map_nil,List.append_nil] at e1 e2 P1;rw [<- e1,<- e2];exact ⟨K1,_,_,P1,m1⟩
   rw [List.append_nil] at d14;obtain ⟨a,ha⟩:∃ a,A.length=a:=⟨_,rfl⟩;rw [ha] at d14 ⊢;clear P1 m1 e1 e2 e3 e4 e5 HR hg hmz ha;go_wp2;first|go_end0|((try simp only [Exit.inBlock,Exit.then]);refine bodyPost_ret (results_none rfl _ _ _) rfl ?_)
   exact ⟨⟨_,rfl⟩,HF.out⟩
  | cons x R =>
   obtain ⟨g,rfl⟩:=hg (by simp;omega);obtain ⟨n,hn⟩:∃ n,(A++x::R).length=n:=⟨_,rfl⟩;obtain ⟨a,ha⟩:∃ a,A.length=a:=⟨_,rfl⟩;have han:a+R.length+1=n:=by rw [<- hn,<- ha];simp;omega
   have xg:wo.cell? ⟨g,a*15+11,none⟩=some (iI x.iss):=P1.cell_ rfl rfl (j:=a) (x:=x) (by rw [<- ha];simp) 11 (by omega);have hxi:=e4 x (by simp);obtain ⟨iss,his⟩:∃ y,x.iss=y:=⟨_,rfl⟩;rw [his] at xg hxi;have hai:(a:Int)<(n:Int):=by omega
   have hsum:-4000000000000<=iss+TT∧iss+TT<=4000000000000:=by have:=Aa.out;omega
   have hov:zby c nw x=decide (iss+TT<=nw):=by unfold zby;rw [his,Ac.out]
   rw [hn] at d14 hmz;have s0:wo.drew.cell? ⟨p,14,none⟩=some (.slice (some ⟨g,0,none⟩) n c14)∧wo.drew.cell? ⟨g,a*15+11,none⟩=some (iI iss)∧wo.drew.cell? ⟨p,4,none⟩=some (iI c.pb)∧wo.drew.cell? ⟨p,5,none⟩=some (iI c.pc)∧wo.drew.cell? ⟨p,6,none⟩=some (iI c.pt)∧wo.drew.cell? ⟨p,12,none⟩=some (iI nw):=by
    rw [hn] at P1;exact ⟨d14,xg,P1.ce rfl,P1.ce rfl,P1.ce rfl,P1.ce rfl⟩
   have HS:Hid (∀ w1,Below wo.heap.size wo.drew w1->w1.cell? ⟨p,14,none⟩=some (.slice (some ⟨g,0,none⟩) n c14)∧w1.cell? ⟨g,a*15+11,none⟩=some (iI iss)∧w1.cell? ⟨p,4,none⟩=some (iI c.pb)∧w1.cell? ⟨p,5,none⟩=some (iI c.pc)∧w1.cell? ⟨p,6,none⟩=some (iI c.pt)∧w1.cell? ⟨p,12,none⟩=some (iI nw)):=fun w1 hb=>by
    have hb' : Below wo.heap.size wo w1:=⟨hb.os,hb.tape,hb.output,hb.size,hb.block⟩;have P2:=P1.below hb' (fun _=>t+7);rw [hn] at P2;refine ⟨P2.ce rfl,?_,P2.ce rfl,P2.ce rfl,P2.ce rfl,P2.ce rfl⟩;(have:=P2.cell_ rfl hn (j:=a) (x:=x) (by rw [<- ha];simp) 11 (by omega));rw [this,<- his];rfl
   have hadd:wrap64 (iss+TT)=iss+TT:=zhh hsum.1 hsum.2;have hadd2:IntKind.i64.wrap (iss+TT)=iss+TT:=by rw [IntWalk.i64_left];exact hadd
   obtain ⟨su,hsu⟩:∃ y,iss+TT=y:=⟨_,rfl⟩;rw [hsu] at hadd hadd2 hov;have HA:=hid (And.intro ha (And.intro han (And.intro hn hov)));rw [ha];cases hb:decide (su<=nw)
   · rw [hb] at HA;have HF:Hid (∀ w1,Below wo.heap.size wo.drew w1->∃ K' D' vw' vd',DC K' w1 B t p c oa cap next nw ((A++[x])++R) D' vw' vd' q∧Mv (fun u=>u=t∨u=t+1∨u=t+2) w w1 K K'∧D'++(R.filter (zby c nw)).map (dOut nw)=D++(L.filter (zby c nw)).map (dOut nw)∧(A++[x])++R.filter (fun x=>!zby c nw x)=L.filter (fun x=>!zby c nw x)∧D'.length+R.length<=100000000∧(∀ y∈(A++[x])++R,-1000000000000<=y.iss∧y.iss<=1000000000000)∧(A++[x]).length+R.length<=100000000∧leftD p w1=n):=fun w1 hbl=>by
      have hb' : Below wo.heap.size wo w1:=⟨hbl.os,hbl.tape,hbl.output,hbl.size,hbl.block⟩;have P2:=P1.below hb' (fun _=>t+7);have e0:=HA.out.2.2.2;refine ⟨_,D1,_,_,by simpa using P2,m1.trans ((Mv.of_below hb' K1 (fun _=>t+7)).mono (fun _ e=>e.elim)),?_,?_,by simp at e3;omega,by simpa using e4,by simp at e5 ⊢;omega,?_⟩
      · rw [<- e1,List.filter_cons,e0];rfl
      · rw [<- e2,List.filter_cons,e0];simp
      · unfold leftD;rw [P2.ce (k:=14) rfl];exact hn
     have hlen:Hid ((A++[x]).length=a+1):=(by rw [List.length_append,ha];rfl);have hj1:wrap64 ((a:Int)+1)=(a:Int)+1:=zb0 (by omega);clear P1 m1 e1 e2 e3 e4 e5 HR hg hxi hsum han hn ha hov;(go_wp2_with fail);refine zah (S:=fun w'=>w'.cell? ⟨p,14,none⟩=some (.slice (some ⟨g,0,none⟩) n c14)∧w'.cell? ⟨g,a*15+11,none⟩=some (iI iss)∧w'.cell? ⟨p,4,none⟩=some (iI c.pb)∧w'.cell? ⟨p,5,none⟩=some (iI c.pc)∧w'.cell? ⟨p,6,none⟩=some (iI c.pt)∧w'.cell? ⟨p,12,none⟩=some (iI nw)) (n:=19) (by kernel_rfl) rfl (by kernel_rfl) (by kernel_rfl) ?_ (fun hHeld=>?_)
     · exact s0
     refine tk 0 ?_ rfl ?_ ?_;rotate_left
     · (intro w hs;(try dsimp only at hs);go_simp;try with_reducible rfl)
     (try simp only [gA,gB,gC,Act.put,gE,gF,gG]);refine tk 1 ?_ rfl ?_ ?_;rotate_left
     · (intro w hs;(try dsimp only at hs);go_simp;try with_reducible rfl)
     (try simp only [gA,gB,gC,Act.put,gE,gF,gG]);refine tk 2 ?_ rfl ?_ ?_;rotate_left
     · (intro w hs;(try dsimp only at hs);go_simp;try with_reducible rfl)
     (try simp only [gA,gB,gC,Act.put,gE,gF,gG]);refine tk 3 ?_ rfl ?_ ?_;rotate_left
     · (intro w hs;(try dsimp only at hs);go_simp;try with_reducible rfl)
     (try simp only [gA,gB,gC,Act.put,gE,gF,gG]);refine tk 4 ?_ rfl ?_ ?_;rotate_left
     · (intro w hs;(try dsimp only at hs);go_simp;try with_reducible rfl)
     (try simp only [gA,gB,gC,Act.put,gE,gF,gG]);refine tk 5 ?_ rfl ?_ ?_;rotate_left
     · (intro w hs;(try dsimp only at hs);go_simp;try with_reducible rfl)
     (try simp only [gA,gB,gC,Act.put,gE,gF,gG]);refine tk 6 ?_ rfl ?_ ?_;rotate_left
     · (intro w hs;(try dsimp only at hs);go_simp;try with_reducible rfl)
     (try simp only [gA,gB,gC,Act.put,gE,gF,gG]);refine tk 7 ?_ rfl ?_ ?_;rotate_left
     · (intro w hs;(try dsimp only at hs);go_simp;try with_reducible rfl)
     (try simp only [gA,gB,gC,Act.put,gE,gF,gG]);refine tk 8 ?_ rfl ?_ ?_;rotate_left
     · (intro w hs;(try dsimp only at hs);go_simp;try with_reducible rfl)
     (try simp only [gA,gB,gC,Act.put,gE,gF,gG]);refine tk 9 ?_ rfl ?_ ?_;rotate_left
     · (intro w hs;(try dsimp only at hs);go_simp;try with_reducible rfl)
     (try simp only [gA,gB,gC,Act.put,gE,gF,gG]);refine tk 10 ?_ rfl ?_ ?_;rotate_left
     · (intro w hs;(try dsimp only at hs);go_simp;try with_reducible rfl)
     (try simp only [gA,gB,gC,Act.put,gE,gF,gG]);refine tk 11 ?_ rfl ?_ ?_;rotate_left
     · (intro w hs;(try dsimp only at hs);go_simp;try with_reducible rfl)
     (try simp only [gA,gB,gC,Act.put,gE,gF,gG]);refine tk 12 ?_ rfl ?_ ?_;rotate_left
     · (intro w hs;(try dsimp only at hs);go_simp;try with_reducible rfl)
     (try simp only [gA,gB,gC,Act.put,gE,gF,gG]);refine tk 15 ?_ rfl ?_ ?_;rotate_left
     · (intro w hs;(try dsimp only at hs);go_simp;try with_reducible rfl)
     (try simp only [gA,gB,gC,Act.put,gE,gF,gG]);refine tk 16 ?_ rfl ?_ ?_;rotate_left
     · (intro w hs;(try dsimp only at hs);go_simp;try with_reducible rfl)
     (try simp only [gA,gB,gC,Act.put,gE,gF,gG]);refine tk 17 ?_ rfl ?_ ?_;rotate_left
     · (intro w hs;(try dsimp only at hs);go_simp;try with_reducible rfl)
     (try simp only [gA,gB,gC,Act.put,gE,gF,gG]);refine tk 18 ?_ rfl ?_ ?_;rotate_left
     · (intro w hs;(try dsimp only at hs);go_simp;try with_reducible rfl)
     (try simp only [gA,gB,gC,Act.put,gE,gF,gG]);refine rd 13 rfl (fun KK hK=>?_);go_simp
     refine (HT.out _).mono ?_;rintro _ w1 ⟨rfl,hb1⟩;refine hK.out _ _ ?_ (fun hHeld1=>?_)
     · exact HS.out w1 hb1
     clear hK hHeld;(try simp only [gA,gB,gC,Act.put,gE,gF,gG]);refine tk 14 ?_ rfl ?_ ?_;rotate_left
     · (intro w hs;(try dsimp only at hs);go_simp;try with_reducible rfl)
     (try simp only [gA,gB,gC,Act.put,gE,gF,gG]);refine wpAnyH_done (by kernel_rfl) ?_ _;refine zbx.done ?_;refine wpOp_step (i:=19) rfl (fun KK hK=>?_);have HK:=hid hK;clear hK;go_simp
     refine HK.out _ _ ?_;clear HK;clear hHeld1 s0;obtain ⟨K',D',vw',vd',Q⟩:=HF.out w1 hb1;have HQ:=hid Q;clear Q HF hb1 HS HT;go_wp2;go_roundw
     case rel=>exact ⟨A++[x],R,by rw [hlen.out];first|rfl|(rw [hj1];rfl),K',D',vw',vd',HQ.out.1,HQ.out.2.1,HQ.out.2.2.1,HQ.out.2.2.2.1,HQ.out.2.2.2.2.1,HQ.out.2.2.2.2.2.1,HQ.out.2.2.2.2.2.2.1⟩
     case measure=>exact (by rw [HQ.out.2.2.2.2.2.2.2,hmz];exact meas (by first|rfl|exact hj1) hai)
   · rw [hb] at HA;have HF:Hid (∀ w1,Below wo.heap.size wo.drew w1->Calls Tryz.prog 66 #[ptr p,iI (a:Int),.agg #[iI 0,iI 2,iI 0,iI 0,iI 0,iI 0,iI 0,.string ⟨#[]⟩,iI 0]] w1 fun e w'=>(∃ v,e=.returned v)∧Hid (∃ K' D' vw' vd',DC K' w' B t p c oa cap next nw (A++R) D' vw' vd' q∧Mv (fun u=>u=t∨u=t+1∨u=t+2) w w' K K'∧D'++(R.filter (zby c nw)).map (dOut nw)=D++(L.filter (zby c nw)).map (dOut nw)∧A++R.filter (fun x=>!zby c nw x)=L.filter (fun x=>!zby c nw x)∧D'.length+R.length<=100000000∧(∀ y∈A++R,-1000000000000<=y.iss∧y.iss<=1000000000000)∧A.length+R.length<=100000000∧leftD p w'+1=n)):=fun w1 hbl=>by
      have hb' : Below wo.heap.size wo w1:=⟨hbl.os,hbl.tape,hbl.output,hbl.size,hbl.block⟩;have P2:=P1.below hb' (fun _=>t+7);have e0:=HA.out.2.2.2;have k:=P2.ends_any ⟨0,2,0,0,0,0,0,[],0⟩ (by simp at e3;omega) (by simp at e5;omega);rw [ha] at k;refine k.mono ?_;rintro e w' ⟨he,hh⟩;refine ⟨he,?_⟩;obtain ⟨K3,vw3,vd3,P3,m3⟩:=hh.out;refine ⟨K3,_,vw3,vd3,P3,m1.trans (((Mv.of_below hb' K1 (fun _=>t+7)).mono (fun _ e=>e.elim)).trans m3),?_,?_,by simp at e3 ⊢;omega,fun y hy=>e4 y (by simp at hy ⊢;exact hy.elim .inl (fun z=>.inr (.inr z))),by simp at e5;omega,?_⟩
      · rw [<- e1,List.filter_cons,e0,if_pos rfl,List.map_cons,List.append_assoc];rfl
      · rw [<- e2,List.filter_cons,e0];rfl
      · obtain ⟨o5,c5,e6,_,_⟩:=P3.wr.form;unfold leftD;rw [P3.ce (k:=14) rfl,e6];show (A++R).length+1=n;simp;omega
     have hbd:=fun w=>bld80 w;have hz:n - 1=n - 1:=rfl;clear P1 m1 e1 e2 e3 e4 e5 HR hg hxi hsum han hn ha hov hz;(go_wp2_with fail);refine zah (S:=fun w'=>w'.cell? ⟨p,14,none⟩=some (.slice (some ⟨g,0,none⟩) n c14)∧w'.cell? ⟨g,a*15+11,none⟩=some (iI iss)∧w'.cell? ⟨p,4,none⟩=some (iI c.pb)∧w'.cell? ⟨p,5,none⟩=some (iI c.pc)∧w'.cell? ⟨p,6,none⟩=some (iI c.pt)∧w'.cell? ⟨p,12,none⟩=some (iI nw)) (n:=19) (by kernel_rfl) rfl (by kernel_rfl) (by kernel_rfl) ?_ (fun hHeld=>?_)
     · exact s0
     refine tk 0 ?_ rfl ?_ ?_;rotate_left
     · (intro w hs;(try dsimp only at hs);go_simp;try with_reducible rfl)
     (try simp only [gA,gB,gC,Act.put,gE,gF,gG]);refine tk 1 ?_ rfl ?_ ?_;rotate_left
     · (intro w hs;(try dsimp only at hs);go_simp;try with_reducible rfl)
     (try simp only [gA,gB,gC,Act.put,gE,gF,gG]);refine tk 2 ?_ rfl ?_ ?_;rotate_left
     · (intro w hs;(try dsimp only at hs);go_simp;try with_reducible rfl)
     (try simp only [gA,gB,gC,Act.put,gE,gF,gG]);refine tk 3 ?_ rfl ?_ ?_;rotate_left
     · (intro w hs;(try dsimp only at hs);go_simp;try with_reducible rfl)
     (try simp only [gA,gB,gC,Act.put,gE,gF,gG]);refine tk 4 ?_ rfl ?_ ?_;rotate_left
     · (intro w hs;(try dsimp only at hs);go_simp;try with_reducible rfl)
     (try simp only [gA,gB,gC,Act.put,gE,gF,gG]);refine tk 5 ?_ rfl ?_ ?_;rotate_left
     · (intro w hs;(try dsimp only at hs);go_simp;try with_reducible rfl)
     (try simp only [gA,gB,gC,Act.put,gE,gF,gG]);refine tk 6 ?_ rfl ?_ ?_;rotate_left
     · (intro w hs;(try dsimp only at hs);go_simp;try with_reducible rfl)
     (try simp only [gA,gB,gC,Act.put,gE,gF,gG]);refine tk 7 ?_ rfl ?_ ?_;rotate_left
     · (intro w hs;(try dsimp only at hs);go_simp;try with_reducible rfl)
     (try simp only [gA,gB,gC,Act.put,gE,gF,gG]);refine tk 8 ?_ rfl ?_ ?_;rotate_left
     · (intro w hs;(try dsimp only at hs);go_simp;try with_reducible rfl)
     (try simp only [gA,gB,gC,Act.put,gE,gF,gG]);refine tk 9 ?_ rfl ?_ ?_;rotate_left
     · (intro w hs;(try dsimp only at hs);go_simp;try with_reducible rfl)
     (try simp only [gA,gB,gC,Act.put,gE,gF,gG]);refine tk 10 ?_ rfl ?_ ?_;rotate_left
     · (intro w hs;(try dsimp only at hs);go_simp;try with_reducible rfl)
     (try simp only [gA,gB,gC,Act.put,gE,gF,gG]);refine tk 11 ?_ rfl ?_ ?_;rotate_left
     · (intro w hs;(try dsimp only at hs);go_simp;try with_reducible rfl)
     (try simp only [gA,gB,gC,Act.put,gE,gF,gG]);refine tk 12 ?_ rfl ?_ ?_;rotate_left
     · (intro w hs;(try dsimp only at hs);go_simp;try with_reducible rfl)
     (try simp only [gA,gB,gC,Act.put,gE,gF,gG]);refine tk 15 ?_ rfl ?_ ?_;rotate_left
     · (intro w hs;(try dsimp only at hs);go_simp;try with_reducible rfl)
     (try simp only [gA,gB,gC,Act.put,gE,gF,gG]);refine tk 16 ?_ rfl ?_ ?_;rotate_left
     · (intro w hs;(try dsimp only at hs);go_simp;try with_reducible rfl)
     (try simp only [gA,gB,gC,Act.put,gE,gF,gG]);refine tk 17 ?_ rfl ?_ ?_;rotate_left
     · (intro w hs;(try dsimp only at hs);go_simp;try with_reducible rfl)
     (try simp only [gA,gB,gC,Act.put,gE,gF,gG]);refine tk 18 ?_ rfl ?_ ?_;rotate_left
     · (intro w hs;(try dsimp only at hs);go_simp;try with_reducible rfl)
     (try simp only [gA,gB,gC,Act.put,gE,gF,gG]);refine rd 13 rfl (fun KK hK=>?_);go_simp
     refine (HT.out _).mono ?_;rintro _ w1 ⟨rfl,hb1⟩;refine hK.out _ _ ?_ (fun hHeld1=>?_)
     · exact HS.out w1 hb1
     clear hK hHeld;(try simp only [gA,gB,gC,Act.put,gE,gF,gG]);refine tk 14 ?_ rfl ?_ ?_;rotate_left
     · (intro w hs;(try dsimp only at hs);go_simp;try with_reducible rfl)
     (try simp only [gA,gB,gC,Act.put,gE,gF,gG]);refine wpAnyH_done (by kernel_rfl) ?_ _;refine zbx.done ?_;refine wpOp_step (i:=19) rfl (fun KK hK=>?_);have HK:=hid hK;clear hK;go_simp
     refine HK.out _ _ ?_;clear HK;clear hHeld1 s0;have HQ:=hid (HF.out w1 hb1);clear HF hb1 HS HT;(go_wp2_with fail);refine HQ.out.mono ?_;rintro _ w3 ⟨⟨v3,rfl⟩,HW⟩;clear HQ;go_wp2;go_roundw
     case rel =>
      obtain ⟨K',D',vw',vd',q1,q2,q3,q4,q5,q6,q7,_⟩:=HW.out;exact ⟨A,R,by rw [HA.out.1],K',D',vw',vd',q1,q2,q3,q4,q5,q6,q7⟩
     case measure =>
      obtain ⟨K',D',vw',vd',q1,q2,q3,q4,q5,q6,q7,q8⟩:=HW.out;exact measD q8 hmz hai
end
end Go.Proofs.YtfcbjcebkahehaaGreatDoor.Cl
namespace Go.Proofs.YtfcbjcebkahehaaGreatDoor.Cl
open Go.RowKit
theorem putC_list:∀ (vs M A:List Value),vs.length=M.length->putC (A++M).toArray A.length vs=(A++vs).toArray
 | [],[],_,_=>rfl
 | [],_::_,_,h=>by simp at h
 | _::_,[],_,h=>by simp at h
 | v::vs,m::M,A,h=>by
  have e:(A++m::M).toArray.setIfInBounds A.length v=((A++[v])++M).toArray:=by
   rw [List.setIfInBounds_toArray,List.set_append_right _ _ (Nat.le_refl _),Nat.sub_self];simp
  have k:=putC_list vs M (A++[v]) (by simpa using h);rw [List.length_append,List.length_singleton] at k;unfold putC;rw [e,k];simp
theorem zat {w:World} {S:Nat} {cs:Array Value} {t:TypeId} (h:w.heap[S]?=some (.cells cs t)) (vs:List Value) (hl:vs.length=cs.size):(w.setCells S 0 vs).heap[S]?=some (.cells vs.toArray t):=by
 have k:=putC_list vs cs.toList [] (by simpa using hl);simp only [List.nil_append,List.length_nil,Array.toArray_toList] at k;rw [setCells_at vs 0 h,k]
theorem zdw:(Tryz.prog.info? 80).map (·.size)=some 9:=by kernel_rfl
theorem dout_den (xid fl acc rej why low high:Int) (dn:Bool) (bo res:ByteArray) (w:World) (h0:dn=true) :
 Calls Tryz.prog 110 #[.agg #[iI xid,.bool dn,iI fl,.string bo,iI acc,iI rej,iI why,iI low,iI high,.string res]] w fun e w'=>e=.returned (.agg #[iI 0,iI 5,iI 0,iI rej,iI why,iI low,iI high,.string ⟨#[]⟩,iI 0])∧Below w.heap.size w w':=by
 subst h0;obtain ⟨S1,hS1⟩:∃ y,w.heap.size=y:=⟨_,rfl⟩;obtain ⟨w1,hw1⟩:∃ y,w.alloc (.cells #[iI xid,.bool true,iI fl,.string bo,iI acc,iI rej,iI why,iI low,iI high,.string res] 46)=y:=⟨_,rfl⟩;have B1:Below w.heap.size w w1:=by rw [<- hw1];exact (Below.refl _ _).alloc (Nat.le_refl _) _
 have k1:w1.heap[S1]?=some (.cells #[iI xid,.bool true,iI fl,.string bo,iI acc,iI rej,iI why,iI low,iI high,.string res] 46):=by rw [<- hw1,<- hS1];exact (MapKept.heap_alloc w _).1
 obtain ⟨S2,hS2⟩:∃ y,w1.heap.size=y:=⟨_,rfl⟩;obtain ⟨w2,hw2⟩:∃ y,w1.alloc (.cells #[iI 0,iI 0,iI 0,iI 0,iI 0,iI 0,iI 0,.string ⟨#[]⟩,iI 0] 80)=y:=⟨_,rfl⟩;have B2:Below w.heap.size w w2:=by rw [<- hw2];exact B1.alloc B1.size _
 have k2:w2.heap[S2]?=some (.cells #[iI 0,iI 0,iI 0,iI 0,iI 0,iI 0,iI 0,.string ⟨#[]⟩,iI 0] 80):=by rw [<- hw2,<- hS2];exact (MapKept.heap_alloc w1 _).1
 have hlt1:S1<S2:=by rw [<- hS2];exact (Array.getElem?_eq_some_iff.1 k1).1
 have k21:w2.heap[S1]?=some (.cells #[iI xid,.bool true,iI fl,.string bo,iI acc,iI rej,iI why,iI low,iI high,.string res] 46):=by rw [<- hw2];exact (Below.heap_alloc _ _ _ (by omega)).trans k1
 have hleS:w.heap.size<=S2:=by omega
 have a1:w2.cell? ⟨S1,1,none⟩=some (.bool true):=zaa k21 rfl;have a4:w2.cell? ⟨S1,4,none⟩=some (iI acc):=zaa k21 rfl;have a5:w2.cell? ⟨S1,5,none⟩=some (iI rej):=zaa k21 rfl;have a6:w2.cell? ⟨S1,6,none⟩=some (iI why):=zaa k21 rfl;have a7:w2.cell? ⟨S1,7,none⟩=some (iI low):=zaa k21 rfl;have a8:w2.cell? ⟨S1,8,none⟩=some (iI high):=zaa k21 rfl;have a9:w2.cell? ⟨S1,9,none⟩=some (.string res):=zaa k21 rfl;obtain ⟨w3,hw3⟩:∃ y,w2.setCells S2 0 [iI 0,iI 5,iI 0,iI rej,iI why,iI low,iI high,.string ⟨#[]⟩,iI 0]=y:=⟨_,rfl⟩;have k3:w3.heap[S2]?=some (.cells #[iI 0,iI 5,iI 0,iI rej,iI why,iI low,iI high,.string ⟨#[]⟩,iI 0] 80):=by rw [<- hw3];exact zat k2 _ rfl
 have B3:Below w.heap.size w w3:=by rw [<- hw3];exact za1 B2 hleS
 have q0:w3.cell? ⟨S2,0,none⟩=some (iI 0):=zaa k3 rfl;have q1:w3.cell? ⟨S2,1,none⟩=some (iI 5):=zaa k3 rfl;have q2:w3.cell? ⟨S2,2,none⟩=some (iI 0):=zaa k3 rfl;have q3:w3.cell? ⟨S2,3,none⟩=some (iI rej):=zaa k3 rfl;have q4:w3.cell? ⟨S2,4,none⟩=some (iI why):=zaa k3 rfl;have q5:w3.cell? ⟨S2,5,none⟩=some (iI low):=zaa k3 rfl;have q6:w3.cell? ⟨S2,6,none⟩=some (iI high):=zaa k3 rfl;have q7:w3.cell? ⟨S2,7,none⟩=some (.string ⟨#[]⟩):=zaa k3 rfl;have q8:w3.cell? ⟨S2,8,none⟩=some (iI 0):=zaa k3 rfl;have HB:=hid B3;have HK:=hid k2;have HW:=hid hw3;have hb:=fun w=>bld80_den rej why low high w;clear k3 B3 k2 B2 k1 B1 k21 hlt1 hleS hw3;go_enter Tryz.func110,Tryz.ntmps110
 go_wp2_with (with_reducible refine zba 80 rfl ?_)
 refine (show Hid _ from ?_);refine za6 rfl 80 rfl S2 0 [iI 0,iI 5,iI 0,iI rej,iI why,iI low,iI high,.string ⟨#[]⟩,iI 0] HK.out rfl rfl (by simp) zdw (by intro v hv;simp only [List.mem_cons,List.not_mem_nil,or_false] at hv;rcases hv with rfl|rfl|rfl|rfl|rfl|rfl|rfl|rfl|rfl <;> rfl) HW.out ?_;go_wp2;refine bodyPost_ret (v:=.agg #[iI 0,iI 5,iI 0,iI rej,iI why,iI low,iI high,.string ⟨#[]⟩,iI 0]) (by simp [results,Tryz.results110,go_sem,q0,q1,q2,q3,q4,q5,q6,q7,q8]) rfl ?_;exact ⟨rfl,HB.out⟩
theorem dout_suc (xid fl acc rej why low high:Int) (dn:Bool) (bo res:ByteArray) (w:World) (h0:dn=false) (h1:acc=0) :
 Calls Tryz.prog 110 #[.agg #[iI xid,.bool dn,iI fl,.string bo,iI acc,iI rej,iI why,iI low,iI high,.string res]] w fun e w'=>e=.returned (.agg #[iI 0,iI 1,iI 0,iI 0,iI 0,iI 0,iI 0,.string res,iI 0])∧Below w.heap.size w w':=by
 subst h0 h1;obtain ⟨S1,hS1⟩:∃ y,w.heap.size=y:=⟨_,rfl⟩;obtain ⟨w1,hw1⟩:∃ y,w.alloc (.cells #[iI xid,.bool false,iI fl,.string bo,iI 0,iI rej,iI why,iI low,iI high,.string res] 46)=y:=⟨_,rfl⟩;have B1:Below w.heap.size w w1:=by rw [<- hw1];exact (Below.refl _ _).alloc (Nat.le_refl _) _
 have k1:w1.heap[S1]?=some (.cells #[iI xid,.bool false,iI fl,.string bo,iI 0,iI rej,iI why,iI low,iI high,.string res] 46):=by rw [<- hw1,<- hS1];exact (MapKept.heap_alloc w _).1
 obtain ⟨S2,hS2⟩:∃ y,w1.heap.size=y:=⟨_,rfl⟩;obtain ⟨w2,hw2⟩:∃ y,w1.alloc (.cells #[iI 0,iI 0,iI 0,iI 0,iI 0,iI 0,iI 0,.string ⟨#[]⟩,iI 0] 80)=y:=⟨_,rfl⟩;have B2:Below w.heap.size w w2:=by rw [<- hw2];exact B1.alloc B1.size _
 have k2:w2.heap[S2]?=some (.cells #[iI 0,iI 0,iI 0,iI 0,iI 0,iI 0,iI 0,.string ⟨#[]⟩,iI 0] 80):=by rw [<- hw2,<- hS2];exact (MapKept.heap_alloc w1 _).1
 have hlt1:S1<S2:=by rw [<- hS2];exact (Array.getElem?_eq_some_iff.1 k1).1
 have k21:w2.heap[S1]?=some (.cells #[iI xid,.bool false,iI fl,.string bo,iI 0,iI rej,iI why,iI low,iI high,.string res] 46):=by rw [<- hw2];exact (Below.heap_alloc _ _ _ (by omega)).trans k1
 have hleS:w.heap.size<=S2:=by omega
 have a1:w2.cell? ⟨S1,1,none⟩=some (.bool false):=zaa k21 rfl;have a4:w2.cell? ⟨S1,4,none⟩=some (iI 0):=zaa k21 rfl;have a5:w2.cell? ⟨S1,5,none⟩=some (iI rej):=zaa k21 rfl;have a6:w2.cell? ⟨S1,6,none⟩=some (iI why):=zaa k21 rfl;have a7:w2.cell? ⟨S1,7,none⟩=some (iI low):=zaa k21 rfl;have a8:w2.cell? ⟨S1,8,none⟩=some (iI high):=zaa k21 rfl;have a9:w2.cell? ⟨S1,9,none⟩=some (.string res):=zaa k21 rfl;obtain ⟨w3,hw3⟩:∃ y,w2.setCells S2 0 [iI 0,iI 1,iI 0,iI 0,iI 0,iI 0,iI 0,.string res,iI 0]=y:=⟨_,rfl⟩;have k3:w3.heap[S2]?=some (.cells #[iI 0,iI 1,iI 0,iI 0,iI 0,iI 0,iI 0,.string res,iI 0] 80):=by rw [<- hw3];exact zat k2 _ rfl
 have B3:Below w.heap.size w w3:=by rw [<- hw3];exact za1 B2 hleS
 have q0:w3.cell? ⟨S2,0,none⟩=some (iI 0):=zaa k3 rfl;have q1:w3.cell? ⟨S2,1,none⟩=some (iI 1):=zaa k3 rfl;have q2:w3.cell? ⟨S2,2,none⟩=some (iI 0):=zaa k3 rfl;have q3:w3.cell? ⟨S2,3,none⟩=some (iI 0):=zaa k3 rfl;have q4:w3.cell? ⟨S2,4,none⟩=some (iI 0):=zaa k3 rfl;have q5:w3.cell? ⟨S2,5,none⟩=some (iI 0):=zaa k3 rfl;have q6:w3.cell? ⟨S2,6,none⟩=some (iI 0):=zaa k3 rfl;have q7:w3.cell? ⟨S2,7,none⟩=some (.string res):=zaa k3 rfl;have q8:w3.cell? ⟨S2,8,none⟩=some (iI 0):=zaa k3 rfl;have HB:=hid B3;have HK:=hid k2;have HW:=hid hw3;have hb:=fun w=>bld80_suc res w;clear k3 B3 k2 B2 k1 B1 k21 hlt1 hleS hw3;go_enter Tryz.func110,Tryz.ntmps110
 go_wp2_with (with_reducible refine zba 80 rfl ?_)
 refine (show Hid _ from ?_);refine za6 rfl 80 rfl S2 0 [iI 0,iI 1,iI 0,iI 0,iI 0,iI 0,iI 0,.string res,iI 0] HK.out rfl rfl (by simp) zdw (by intro v hv;simp only [List.mem_cons,List.not_mem_nil,or_false] at hv;rcases hv with rfl|rfl|rfl|rfl|rfl|rfl|rfl|rfl|rfl <;> rfl) HW.out ?_;go_wp2;refine bodyPost_ret (v:=.agg #[iI 0,iI 1,iI 0,iI 0,iI 0,iI 0,iI 0,.string res,iI 0]) (by simp [results,Tryz.results110,go_sem,q0,q1,q2,q3,q4,q5,q6,q7,q8]) rfl ?_;exact ⟨rfl,HB.out⟩
theorem dout_ref (xid fl acc rej why low high:Int) (dn:Bool) (bo res:ByteArray) (w:World) (h0:dn=false) (h1:acc=5) :
 Calls Tryz.prog 110 #[.agg #[iI xid,.bool dn,iI fl,.string bo,iI acc,iI rej,iI why,iI low,iI high,.string res]] w fun e w'=>e=.returned (.agg #[iI 0,iI 3,iI 0,iI 0,iI 0,iI 0,iI 0,.string ⟨#[]⟩,iI 0])∧Below w.heap.size w w':=by
 subst h0 h1;obtain ⟨S1,hS1⟩:∃ y,w.heap.size=y:=⟨_,rfl⟩;obtain ⟨w1,hw1⟩:∃ y,w.alloc (.cells #[iI xid,.bool false,iI fl,.string bo,iI 5,iI rej,iI why,iI low,iI high,.string res] 46)=y:=⟨_,rfl⟩;have B1:Below w.heap.size w w1:=by rw [<- hw1];exact (Below.refl _ _).alloc (Nat.le_refl _) _
 have k1:w1.heap[S1]?=some (.cells #[iI xid,.bool false,iI fl,.string bo,iI 5,iI rej,iI why,iI low,iI high,.string res] 46):=by rw [<- hw1,<- hS1];exact (MapKept.heap_alloc w _).1
 obtain ⟨S2,hS2⟩:∃ y,w1.heap.size=y:=⟨_,rfl⟩;obtain ⟨w2,hw2⟩:∃ y,w1.alloc (.cells #[iI 0,iI 0,iI 0,iI 0,iI 0,iI 0,iI 0,.string ⟨#[]⟩,iI 0] 80)=y:=⟨_,rfl⟩;have B2:Below w.heap.size w w2:=by rw [<- hw2];exact B1.alloc B1.size _
 have k2:w2.heap[S2]?=some (.cells #[iI 0,iI 0,iI 0,iI 0,iI 0,iI 0,iI 0,.string ⟨#[]⟩,iI 0] 80):=by rw [<- hw2,<- hS2];exact (MapKept.heap_alloc w1 _).1
 have hlt1:S1<S2:=by rw [<- hS2];exact (Array.getElem?_eq_some_iff.1 k1).1
 have k21:w2.heap[S1]?=some (.cells #[iI xid,.bool false,iI fl,.string bo,iI 5,iI rej,iI why,iI low,iI high,.string res] 46):=by rw [<- hw2];exact (Below.heap_alloc _ _ _ (by omega)).trans k1
 have hleS:w.heap.size<=S2:=by omega
 have a1:w2.cell? ⟨S1,1,none⟩=some (.bool false):=zaa k21 rfl;have a4:w2.cell? ⟨S1,4,none⟩=some (iI 5):=zaa k21 rfl;have a5:w2.cell? ⟨S1,5,none⟩=some (iI rej):=zaa k21 rfl;have a6:w2.cell? ⟨S1,6,none⟩=some (iI why):=zaa k21 rfl;have a7:w2.cell? ⟨S1,7,none⟩=some (iI low):=zaa k21 rfl;have a8:w2.cell? ⟨S1,8,none⟩=some (iI high):=zaa k21 rfl;have a9:w2.cell? ⟨S1,9,none⟩=some (.string res):=zaa k21 rfl;obtain ⟨w3,hw3⟩:∃ y,w2.setCells S2 0 [iI 0,iI 3,iI 0,iI 0,iI 0,iI 0,iI 0,.string ⟨#[]⟩,iI 0]=y:=⟨_,rfl⟩;have k3:w3.heap[S2]?=some (.cells #[iI 0,iI 3,iI 0,iI 0,iI 0,iI 0,iI 0,.string ⟨#[]⟩,iI 0] 80):=by rw [<- hw3];exact zat k2 _ rfl
 have B3:Below w.heap.size w w3:=by rw [<- hw3];exact za1 B2 hleS
 have q0:w3.cell? ⟨S2,0,none⟩=some (iI 0):=zaa k3 rfl;have q1:w3.cell? ⟨S2,1,none⟩=some (iI 3):=zaa k3 rfl;have q2:w3.cell? ⟨S2,2,none⟩=some (iI 0):=zaa k3 rfl;have q3:w3.cell? ⟨S2,3,none⟩=some (iI 0):=zaa k3 rfl;have q4:w3.cell? ⟨S2,4,none⟩=some (iI 0):=zaa k3 rfl;have q5:w3.cell? ⟨S2,5,none⟩=some (iI 0):=zaa k3 rfl;have q6:w3.cell? ⟨S2,6,none⟩=some (iI 0):=zaa k3 rfl;have q7:w3.cell? ⟨S2,7,none⟩=some (.string ⟨#[]⟩):=zaa k3 rfl;have q8:w3.cell? ⟨S2,8,none⟩=some (iI 0):=zaa k3 rfl;have HB:=hid B3;have HK:=hid k2;have HW:=hid hw3;have hb:=fun w=>bld80_ref w;clear k3 B3 k2 B2 k1 B1 k21 hlt1 hleS hw3;go_enter Tryz.func110,Tryz.ntmps110
 go_wp2_with (with_reducible refine zba 80 rfl ?_)
 refine (show Hid _ from ?_);refine za6 rfl 80 rfl S2 0 [iI 0,iI 3,iI 0,iI 0,iI 0,iI 0,iI 0,.string ⟨#[]⟩,iI 0] HK.out rfl rfl (by simp) zdw (by intro v hv;simp only [List.mem_cons,List.not_mem_nil,or_false] at hv;rcases hv with rfl|rfl|rfl|rfl|rfl|rfl|rfl|rfl|rfl <;> rfl) HW.out ?_;go_wp2;refine bodyPost_ret (v:=.agg #[iI 0,iI 3,iI 0,iI 0,iI 0,iI 0,iI 0,.string ⟨#[]⟩,iI 0]) (by simp [results,Tryz.results110,go_sem,q0,q1,q2,q3,q4,q5,q6,q7,q8]) rfl ?_;exact ⟨rfl,HB.out⟩
theorem dout_acc (xid fl acc rej why low high:Int) (dn:Bool) (bo res:ByteArray) (w:World) (h0:dn=false) (h1:¬ acc=0) (h2:¬ acc=5) :
 Calls Tryz.prog 110 #[.agg #[iI xid,.bool dn,iI fl,.string bo,iI acc,iI rej,iI why,iI low,iI high,.string res]] w fun e w'=>e=.returned (.agg #[iI 0,iI 4,iI acc,iI 0,iI 0,iI low,iI high,.string ⟨#[]⟩,iI 0])∧Below w.heap.size w w':=by
 subst h0;have e0:(acc==0)=false:=by simpa using h1
 have e5:(acc==5)=false:=by simpa using h2
 clear h1 h2;obtain ⟨S1,hS1⟩:∃ y,w.heap.size=y:=⟨_,rfl⟩;obtain ⟨w1,hw1⟩:∃ y,w.alloc (.cells #[iI xid,.bool false,iI fl,.string bo,iI acc,iI rej,iI why,iI low,iI high,.string res] 46)=y:=⟨_,rfl⟩;have B1:Below w.heap.size w w1:=by rw [<- hw1];exact (Below.refl _ _).alloc (Nat.le_refl _) _
 have k1:w1.heap[S1]?=some (.cells #[iI xid,.bool false,iI fl,.string bo,iI acc,iI rej,iI why,iI low,iI high,.string res] 46):=by rw [<- hw1,<- hS1];exact (MapKept.heap_alloc w _).1
 obtain ⟨S2,hS2⟩:∃ y,w1.heap.size=y:=⟨_,rfl⟩;obtain ⟨w2,hw2⟩:∃ y,w1.alloc (.cells #[iI 0,iI 0,iI 0,iI 0,iI 0,iI 0,iI 0,.string ⟨#[]⟩,iI 0] 80)=y:=⟨_,rfl⟩;have B2:Below w.heap.size w w2:=by rw [<- hw2];exact B1.alloc B1.size _
 have k2:w2.heap[S2]?=some (.cells #[iI 0,iI 0,iI 0,iI 0,iI 0,iI 0,iI 0,.string ⟨#[]⟩,iI 0] 80):=by rw [<- hw2,<- hS2];exact (MapKept.heap_alloc w1 _).1
 have hlt1:S1<S2:=by rw [<- hS2];exact (Array.getElem?_eq_some_iff.1 k1).1
 have k21:w2.heap[S1]?=some (.cells #[iI xid,.bool false,iI fl,.string bo,iI acc,iI rej,iI why,iI low,iI high,.string res] 46):=by rw [<- hw2];exact (Below.heap_alloc _ _ _ (by omega)).trans k1
 have hleS:w.heap.size<=S2:=by omega
 have a1:w2.cell? ⟨S1,1,none⟩=some (.bool false):=zaa k21 rfl;have a4:w2.cell? ⟨S1,4,none⟩=some (iI acc):=zaa k21 rfl;have a5:w2.cell? ⟨S1,5,none⟩=some (iI rej):=zaa k21 rfl;have a6:w2.cell? ⟨S1,6,none⟩=some (iI why):=zaa k21 rfl;have a7:w2.cell? ⟨S1,7,none⟩=some (iI low):=zaa k21 rfl;have a8:w2.cell? ⟨S1,8,none⟩=some (iI high):=zaa k21 rfl;have a9:w2.cell? ⟨S1,9,none⟩=some (.string res):=zaa k21 rfl;obtain ⟨w3,hw3⟩:∃ y,w2.setCells S2 0 [iI 0,iI 4,iI acc,iI 0,iI 0,iI low,iI high,.string ⟨#[]⟩,iI 0]=y:=⟨_,rfl⟩;have k3:w3.heap[S2]?=some (.cells #[iI 0,iI 4,iI acc,iI 0,iI 0,iI low,iI high,.string ⟨#[]⟩,iI 0] 80):=by rw [<- hw3];exact zat k2 _ rfl
 have B3:Below w.heap.size w w3:=by rw [<- hw3];exact za1 B2 hleS
 have q0:w3.cell? ⟨S2,0,none⟩=some (iI 0):=zaa k3 rfl;have q1:w3.cell? ⟨S2,1,none⟩=some (iI 4):=zaa k3 rfl;have q2:w3.cell? ⟨S2,2,none⟩=some (iI acc):=zaa k3 rfl;have q3:w3.cell? ⟨S2,3,none⟩=some (iI 0):=zaa k3 rfl;have q4:w3.cell? ⟨S2,4,none⟩=some (iI 0):=zaa k3 rfl;have q5:w3.cell? ⟨S2,5,none⟩=some (iI low):=zaa k3 rfl;have q6:w3.cell? ⟨S2,6,none⟩=some (iI high):=zaa k3 rfl;have q7:w3.cell? ⟨S2,7,none⟩=some (.string ⟨#[]⟩):=zaa k3 rfl;have q8:w3.cell? ⟨S2,8,none⟩=some (iI 0):=zaa k3 rfl;have HB:=hid B3;have HK:=hid k2;have HW:=hid hw3;have hb:=fun w=>bld80_acc low high acc w;clear k3 B3 k2 B2 k1 B1 k21 hlt1 hleS hw3;go_enter Tryz.func110,Tryz.ntmps110
 go_wp2_with (with_reducible refine zba 80 rfl ?_)
 refine (show Hid _ from ?_);refine za6 rfl 80 rfl S2 0 [iI 0,iI 4,iI acc,iI 0,iI 0,iI low,iI high,.string ⟨#[]⟩,iI 0] HK.out rfl rfl (by simp) zdw (by intro v hv;simp only [List.mem_cons,List.not_mem_nil,or_false] at hv;rcases hv with rfl|rfl|rfl|rfl|rfl|rfl|rfl|rfl|rfl <;> rfl) HW.out ?_;go_wp2;refine bodyPost_ret (v:=.agg #[iI 0,iI 4,iI acc,iI 0,iI 0,iI low,iI high,.string ⟨#[]⟩,iI 0]) (by simp [results,Tryz.results110,go_sem,q0,q1,q2,q3,q4,q5,q6,q7,q8]) rfl ?_;exact ⟨rfl,HB.out⟩
theorem doutcome_any (r:ReplyP) (w:World):Calls Tryz.prog 110 #[.agg (zam r).toArray] w fun e w'=>e=.returned (.agg (ocC (zcy r)).toArray)∧Below w.heap.size w w':=by
 obtain ⟨xid,dn,vf,acc,low,high,res,rej,why⟩:=r;unfold zcy;dsimp only
 cases dn
 · by_cases h0:acc=0
   · rw [if_neg (by decide),if_pos h0];exact dout_suc xid _ acc rej why low high false _ _ w rfl h0
   · by_cases h5:acc=5
     · rw [if_neg (by decide),if_neg h0,if_pos h5];exact dout_ref xid _ acc rej why low high false _ _ w rfl h5
     · rw [if_neg (by decide),if_neg h0,if_neg h5];exact dout_acc xid _ acc rej why low high false _ _ w rfl h0 h5
 · rw [if_pos rfl];exact dout_den xid _ acc rej why low high true _ _ w rfl
end Go.Proofs.YtfcbjcebkahehaaGreatDoor.Cl
namespace Go.Proofs.YtfcbjcebkahehaaGreatDoor.Cl
set_option linter.unusedSimpArgs false
open Go.RowKit
def Twin (h:Bool) (a b:Nat) (n:Int) (a' b' : Nat):Prop:=∀ w A,Mt w 120 A h a b->Calls Tryz.prog 109 #[ptr A,iI n] w fun e w'=>e=.returned (.tuple #[])∧Mt w' 120 A true a' b'∧Own A w w'
def MqR (q q' : Mq) (now:Int) (x:Wt):Prop:=q'.blk=q.blk∧(x.tms≠1->q'=q)∧(x.tms=1->q'.h=true∧Twin q.h q.m q.s (now - x.last) q'.m q'.s)
section
variable {K K' : Nat->Nat} {w w' : World} {B t p:Nat} {c:Cf} {oa:Option Addr} {cap:Nat} {next now:Int} {L:List Wt} {D:List Oc} {vw vd:Value} {q:Mq}
theorem PC.meter_any (h:PC K w B t p c oa cap next now L D vw vd q) (n:Int):∃ a' b',(∀ m,Calls Tryz.prog 86 #[ptr q.blk,iI n] (w.drewN m) fun e w'=>e=.returned (.tuple #[])∧Hid (PC K w' B t p c oa cap next now L D vw vd ⟨q.blk,true,a',b'⟩∧Mv (fun u=>u=t+5) w w' K K))∧Twin q.h q.m q.s n a' b':=by
 obtain ⟨a',b',h1,h2,ok⟩:=hear_both h.me.ok n;refine ⟨a',b',fun m=>?_,h2⟩;have h0:=h.to (zak w K m) (fun _ e=>e.elim);refine (h1 _ _ ⟨h0.me.tb.at_⟩).mono ?_;rintro e w' ⟨rfl,mt,ow⟩;have mv:Mv (fun u=>u=t+5) (w.drewN m) w' K K:=⟨ow.os,ow.tape,ow.output,ow.size,fun _ _=>rfl,fun b hb hne=>ow.kept b hb (fun e=>hne (by rw [e];exact h0.me.tb.k))⟩;exact ⟨rfl,⟨h0.cl.mv mv (by omega),h0.wr.mv mv (by omega),h0.dn.mv mv (by omega),fun y hy=>(h0.cs y hy).mv mv (by omega) (by omega),h0.nd,⟨⟨mt.at_,h0.me.tb.k⟩,ok⟩,h0.gs.mv mv (by omega),h0.gl,h0.ok,Nat.le_trans h0.hB mv.size,h0.er mv (fun t' e=>by omega),h0.h0' mv,h0.b1⟩,((zak w K m).mono (fun _ e=>e.elim)).trans mv⟩
def HearQ (K:Nat->Nat) (w w' : World) (B t p:Nat) (c:Cf) (oa:Option Addr) (cap:Nat) (next now:Int) (L:List Wt) (D:List Oc) (q:Mq) (src dst:Int) (r:ReplyP × Int) (e:Ending):Prop :=
 (e=.returned (iI 0)∧(dst≠c.ad∨r.2≠0∨∀ y∈L,hitW r.1.xid src y=false)∧Hid (Below w.heap.size w w')) ∨
 (∃ A x R,e=.returned (iI r.1.xid)∧dst=c.ad∧r.2=0∧L=A++x::R∧hitW r.1.xid src x=true∧(∀ y∈A,hitW r.1.xid src y=false)∧Hid (∃ K' vw' vd' q',PC K' w' B t p c oa cap next now (A++R) (D++[{ zcy r.1 with seq:=x.seq,at_:=now }]) vw' vd' q'∧MqR q q' now x∧Mv (fun u=>u=t∨u=t+1∨u=t+2∨u=t+5) w w' K K'))
theorem zdb (w:World) (k:Nat):Below w.heap.size w (w.drewN k):=⟨rfl,rfl,rfl,Nat.le_refl _,fun _ _=>rfl⟩
theorem PC.hear_far (h:PC K w B t p c oa cap next now L D vw vd q) (src dst:Int) (data:List UInt8) (hd:dst≠c.ad):Calls Tryz.prog 51 #[ptr p,.agg #[iI src,iI dst,.string ⟨data.toArray⟩]] w fun e w'=>HearQ K w w' B t p c oa cap next now L D q src dst (za0 data) e:=by
 obtain ⟨S,hS⟩:∃ y,w.heap.size=y:=⟨_,rfl⟩;obtain ⟨ds,hds⟩:∃ ds:ByteArray,(⟨data.toArray⟩:ByteArray)=ds:=⟨_,rfl⟩;obtain ⟨w0,hw0⟩:∃ y,w.alloc (.cells #[iI src,iI dst,.string ds] 78)=y:=⟨_,rfl⟩;have B0:Below w.heap.size w w0:=by rw [<- hw0];exact (Below.refl _ _).alloc (Nat.le_refl _) _
 have k0:w0.heap[S]?=some (.cells #[iI src,iI dst,.string ds] 78):=by rw [<- hw0,<- hS];exact (MapKept.heap_alloc w _).1
 have hl0:=(Array.getElem?_eq_some_iff.1 k0).1;have P0:=h.below B0 (fun _=>t+7);have a1:w0.cell? ⟨S,1,none⟩=some (iI dst):=zaa k0 rfl;have a2:w0.cell? ⟨S,2,none⟩=some (.string ds):=zaa k0 rfl;have c0:w0.cell? ⟨p,0,none⟩=some (iI c.ad):=P0.ce rfl;have hne:(dst != c.ad)=true:=by simpa using hd
 have HF:Hid (∀ k,Below w.heap.size w (w0.drewN k)):=fun k=>B0.trans ((zdb w0 k).mono B0.size);have HD:=hid hd;rw [hds];clear h hd P0 k0 B0 hl0 hds;go_enter Tryz.func51,Tryz.ntmps51
 go_wp2_with fail
 go_quiet (fail)
 go_wp2;go_ret;exact .inl ⟨rfl,.inl HD.out,HF.out _⟩
theorem PC.hear_any (h:PC K w B t p c oa cap next now L D vw vd q) (src dst:Int) (data:List UInt8) (hlen:data.length<=281474976710656) (hL:L.length<=100000000) (hD:D.length<=100000000) (hnow:∀ x∈L,-1000000000000<=now - x.last∧now - x.last<=1000000000000):Calls Tryz.prog 51 #[ptr p,.agg #[iI src,iI dst,.string ⟨data.toArray⟩]] w fun e w'=>HearQ K w w' B t p c oa cap next now L D q src dst (za0 data) e:=by
 by_cases hd:dst≠c.ad
 · exact h.hear_far src dst data hd
 have hd:dst=c.ad:=Classical.byContradiction hd;subst hd;obtain ⟨S,hS⟩:∃ y,w.heap.size=y:=⟨_,rfl⟩;obtain ⟨ds,hds⟩:∃ ds:ByteArray,(⟨data.toArray⟩:ByteArray)=ds:=⟨_,rfl⟩;obtain ⟨w0,hw0⟩:∃ y,w.alloc (.cells #[iI src,iI c.ad,.string ds] 78)=y:=⟨_,rfl⟩;have B0:Below w.heap.size w w0:=by rw [<- hw0];exact (Below.refl _ _).alloc (Nat.le_refl _) _
 have k0:w0.heap[S]?=some (.cells #[iI src,iI c.ad,.string ds] 78):=by rw [<- hw0,<- hS];exact (MapKept.heap_alloc w _).1
 have hl0:=(Array.getElem?_eq_some_iff.1 k0).1;have P0:=h.below B0 (fun _=>t+7);have a1:w0.cell? ⟨S,1,none⟩=some (iI c.ad):=zaa k0 rfl;have a2:w0.cell? ⟨S,2,none⟩=some (.string ds):=zaa k0 rfl;have c0:w0.cell? ⟨p,0,none⟩=some (iI c.ad):=P0.ce rfl;have HP:Hid (∀ k,Calls Tryz.prog 52 #[.string ds] (w0.drewN k) fun e w'=>e=.returned (.tuple #[.agg (zam (za0 data).1).toArray,iI (za0 data).2])∧Below (w0.drewN k).heap.size (w0.drewN k) w'):=fun k=>by rw [<- hds];exact zgn data _ (P0.to (zak w0 _ k) (fun _ e=>e.elim)).err hlen
 obtain ⟨pr,hpr⟩:∃ pr,za0 data=pr:=⟨_,rfl⟩;rw [hpr] at HP ⊢;rw [hds];clear hds hpr hlen;obtain ⟨r,er⟩:=pr;obtain ⟨xid,dn,vf,acc,low,high,results,rej,why⟩:=r;obtain ⟨fl,body⟩:=vf;dsimp only at HP ⊢
 obtain ⟨rr,hrr⟩:∃ rr:ReplyP,rr=⟨xid,dn,⟨fl,body⟩,acc,low,high,results,rej,why⟩:=⟨_,rfl⟩;have HP:Hid (∀ k,Calls Tryz.prog 52 #[.string ds] (w0.drewN k) fun e w'=>e=.returned (.tuple #[.agg (zam rr).toArray,iI er])∧Below (w0.drewN k).heap.size (w0.drewN k) w'):=by rw [hrr];exact HP
 obtain ⟨bo,hbo⟩:∃ bo:ByteArray,(⟨body.toArray⟩:ByteArray)=bo:=⟨_,rfl⟩;obtain ⟨res,hres⟩:∃ res:ByteArray,(⟨results.toArray⟩:ByteArray)=res:=⟨_,rfl⟩;have hrV:(zam rr).toArray=#[iI xid,.bool dn,iI fl,.string bo,iI acc,iI rej,iI why,iI low,iI high,.string res]:=by rw [hrr,<- hbo,<- hres];rfl
 have hxid:rr.xid=xid:=by rw [hrr]
 have HO:Hid (∀ w',Calls Tryz.prog 87 #[.agg #[iI xid,.bool dn,iI fl,.string bo,iI acc,iI rej,iI why,iI low,iI high,.string res]] w' fun e w''=>e=.returned (.agg (ocC (zcy rr)).toArray)∧Below w'.heap.size w' w''):=fun w'=>by
  rw [<- hrV];exact outcome_any rr w'
 rw [hrV] at HP;have hg:HearQ K w w B t p c oa cap next now L D q src c.ad (⟨xid,dn,⟨fl,body⟩,acc,low,high,results,rej,why⟩,er)=HearQ K w w B t p c oa cap next now L D q src c.ad (rr,er):=by rw [hrr]
 rw [show (⟨xid,dn,⟨fl,body⟩,acc,low,high,results,rej,why⟩:ReplyP)=rr from hrr.symm];clear hg hrV hrr hbo hres;have HH:=hid (And.intro h (And.intro P0 (And.intro B0 (And.intro k0 (And.intro hl0 hnow)))));have HL:=hid (And.intro hL hD);clear h P0 B0 k0 hl0 hL hD hnow;go_enter Tryz.func51,Tryz.ntmps51
 go_wp2_with fail
 go_quiet (fail)
 go_wp2_with fail
 refine (HP.out _).mono ?_;rintro _ w1 ⟨rfl,hb1⟩;obtain ⟨nq,hb1⟩:∃ nq,Below (w0.drewN nq).heap.size (w0.drewN nq) w1:=⟨_,hb1⟩;clear HP c0;obtain ⟨S2,hS2⟩:∃ y,w1.heap.size=y:=⟨_,rfl⟩;obtain ⟨y0,hy0⟩:∃ y,w1.alloc (.cells #[iI 0,.bool false,iI 0,.string ⟨#[]⟩,iI 0,iI 0,iI 0,iI 0,iI 0,.string ⟨#[]⟩] 46)=y:=⟨_,rfl⟩;have ky0:y0.heap[S2]?=some (.cells #[iI 0,.bool false,iI 0,.string ⟨#[]⟩,iI 0,iI 0,iI 0,iI 0,iI 0,.string ⟨#[]⟩] 46):=by rw [<- hy0,<- hS2];exact (MapKept.heap_alloc w1 _).1
 have By0:Below w1.heap.size w1 y0:=by rw [<- hy0];exact (Below.refl _ _).alloc (Nat.le_refl _) _
 have hley:w1.heap.size<=S2:=by omega
 obtain ⟨y1,hy1⟩:∃ y,y0.setCell ⟨S2,0,none⟩ (iI xid)=y:=⟨_,rfl⟩;have zy0:y0.cell? ⟨S2,0,none⟩=some (iI 0):=zaa ky0 rfl;have fy0:y0.frozen? ⟨S2,0,none⟩=false:=zab ky0 0;have ky1:y1.heap[S2]?=some (.cells #[iI xid,.bool false,iI 0,.string ⟨#[]⟩,iI 0,iI 0,iI 0,iI 0,iI 0,.string ⟨#[]⟩] 46):=by rw [<- hy1];exact zae ky0 0 _
 have By1:Below w1.heap.size w1 y1:=by rw [<- hy1];exact zac By0 hley
 obtain ⟨y2,hy2⟩:∃ y,y1.setCell ⟨S2,1,none⟩ (.bool dn)=y:=⟨_,rfl⟩;have zy1:y1.cell? ⟨S2,1,none⟩=some (.bool false):=zaa ky1 rfl;have fy1:y1.frozen? ⟨S2,1,none⟩=false:=zab ky1 1;have ky2:y2.heap[S2]?=some (.cells #[iI xid,.bool dn,iI 0,.string ⟨#[]⟩,iI 0,iI 0,iI 0,iI 0,iI 0,.string ⟨#[]⟩] 46):=by rw [<- hy2];exact zae ky1 1 _
 have By2:Below w1.heap.size w1 y2:=by rw [<- hy2];exact zac By1 hley
 clear ky1 By1;obtain ⟨y3,hy3⟩:∃ y,y2.setCell ⟨S2,2,none⟩ (iI fl)=y:=⟨_,rfl⟩;have zy2:y2.cell? ⟨S2,2,none⟩=some (iI 0):=zaa ky2 rfl;have fy2:y2.frozen? ⟨S2,2,none⟩=false:=zab ky2 2;have ky3:y3.heap[S2]?=some (.cells #[iI xid,.bool dn,iI fl,.string ⟨#[]⟩,iI 0,iI 0,iI 0,iI 0,iI 0,.string ⟨#[]⟩] 46):=by rw [<- hy3];exact zae ky2 2 _
 have By3:Below w1.heap.size w1 y3:=by rw [<- hy3];exact zac By2 hley
 clear ky2 By2;obtain ⟨y4,hy4⟩:∃ y,y3.setCell ⟨S2,3,none⟩ (.string bo)=y:=⟨_,rfl⟩;have zy3:y3.cell? ⟨S2,3,none⟩=some (.string ⟨#[]⟩):=zaa ky3 rfl;have fy3:y3.frozen? ⟨S2,3,none⟩=false:=zab ky3 3;have ky4:y4.heap[S2]?=some (.cells #[iI xid,.bool dn,iI fl,.string bo,iI 0,iI 0,iI 0,iI 0,iI 0,.string ⟨#[]⟩] 46):=by rw [<- hy4];exact zae ky3 3 _
 have By4:Below w1.heap.size w1 y4:=by rw [<- hy4];exact zac By3 hley
 clear ky3 By3;obtain ⟨y5,hy5⟩:∃ y,y4.setCell ⟨S2,4,none⟩ (iI acc)=y:=⟨_,rfl⟩;have zy4:y4.cell? ⟨S2,4,none⟩=some (iI 0):=zaa ky4 rfl;have fy4:y4.frozen? ⟨S2,4,none⟩=false:=zab ky4 4;have ky5:y5.heap[S2]?=some (.cells #[iI xid,.bool dn,iI fl,.string bo,iI acc,iI 0,iI 0,iI 0,iI 0,.string ⟨#[]⟩] 46):=by rw [<- hy5];exact zae ky4 4 _
 have By5:Below w1.heap.size w1 y5:=by rw [<- hy5];exact zac By4 hley
 clear ky4 By4;obtain ⟨y6,hy6⟩:∃ y,y5.setCell ⟨S2,5,none⟩ (iI rej)=y:=⟨_,rfl⟩;have zy5:y5.cell? ⟨S2,5,none⟩=some (iI 0):=zaa ky5 rfl;have fy5:y5.frozen? ⟨S2,5,none⟩=false:=zab ky5 5;have ky6:y6.heap[S2]?=some (.cells #[iI xid,.bool dn,iI fl,.string bo,iI acc,iI rej,iI 0,iI 0,iI 0,.string ⟨#[]⟩] 46):=by rw [<- hy6];exact zae ky5 5 _
 have By6:Below w1.heap.size w1 y6:=by rw [<- hy6];exact zac By5 hley
 clear ky5 By5;obtain ⟨y7,hy7⟩:∃ y,y6.setCell ⟨S2,6,none⟩ (iI why)=y:=⟨_,rfl⟩;have zy6:y6.cell? ⟨S2,6,none⟩=some (iI 0):=zaa ky6 rfl;have fy6:y6.frozen? ⟨S2,6,none⟩=false:=zab ky6 6;have ky7:y7.heap[S2]?=some (.cells #[iI xid,.bool dn,iI fl,.string bo,iI acc,iI rej,iI why,iI 0,iI 0,.string ⟨#[]⟩] 46):=by rw [<- hy7];exact zae ky6 6 _
 have By7:Below w1.heap.size w1 y7:=by rw [<- hy7];exact zac By6 hley
 clear ky6 By6;obtain ⟨y8,hy8⟩:∃ y,y7.setCell ⟨S2,7,none⟩ (iI low)=y:=⟨_,rfl⟩;have zy7:y7.cell? ⟨S2,7,none⟩=some (iI 0):=zaa ky7 rfl;have fy7:y7.frozen? ⟨S2,7,none⟩=false:=zab ky7 7;have ky8:y8.heap[S2]?=some (.cells #[iI xid,.bool dn,iI fl,.string bo,iI acc,iI rej,iI why,iI low,iI 0,.string ⟨#[]⟩] 46):=by rw [<- hy8];exact zae ky7 7 _
 have By8:Below w1.heap.size w1 y8:=by rw [<- hy8];exact zac By7 hley
 clear ky7 By7;obtain ⟨y9,hy9⟩:∃ y,y8.setCell ⟨S2,8,none⟩ (iI high)=y:=⟨_,rfl⟩;have zy8:y8.cell? ⟨S2,8,none⟩=some (iI 0):=zaa ky8 rfl;have fy8:y8.frozen? ⟨S2,8,none⟩=false:=zab ky8 8;have ky9:y9.heap[S2]?=some (.cells #[iI xid,.bool dn,iI fl,.string bo,iI acc,iI rej,iI why,iI low,iI high,.string ⟨#[]⟩] 46):=by rw [<- hy9];exact zae ky8 8 _
 have By9:Below w1.heap.size w1 y9:=by rw [<- hy9];exact zac By8 hley
 clear ky8 By8;obtain ⟨w2,hw2⟩:∃ y,y9.setCell ⟨S2,9,none⟩ (.string res)=y:=⟨_,rfl⟩;have zy9:y9.cell? ⟨S2,9,none⟩=some (.string ⟨#[]⟩):=zaa ky9 rfl;have fy9:y9.frozen? ⟨S2,9,none⟩=false:=zab ky9 9;have kw2:w2.heap[S2]?=some (.cells #[iI xid,.bool dn,iI fl,.string bo,iI acc,iI rej,iI why,iI low,iI high,.string res] 46):=by rw [<- hw2];exact zae ky9 9 _
 have Bw2:Below w1.heap.size w1 w2:=by rw [<- hw2];exact zac By9 hley
 clear ky9 By9;clear ky0 By0 hley;have Aa:Hid (Below w0.heap.size w0 w2):=((zdb w0 nq).trans hb1).trans (Bw2.mono hb1.size);have Ad:=hid kw2;have r0:w2.cell? ⟨S2,0,none⟩=some (iI xid):=zaa kw2 rfl;have s0:w2.cell? ⟨S,0,none⟩=some (iI src):=zaa ((Aa.out.block S HH.out.2.2.2.2.1).trans HH.out.2.2.2.1) rfl;obtain ⟨K2,hK2⟩:∃ K2,ext w0 (ext w K (fun _=>t+7)) (fun _=>t+7)=K2:=⟨_,rfl⟩;have P2:PC K2 w2 B t p c oa cap next now L D vw vd q:=by rw [<- hK2];exact HH.out.2.1.below Aa.out (fun _=>t+7)
 have m2:Mv (fun _=>False) w w2 K K2:=by rw [<- hK2];exact (Mv.of_below HH.out.2.2.1 K _).trans (Mv.of_below Aa.out _ _)
 have Ab:Hid (Below w.heap.size w w2):=HH.out.2.2.1.trans (Aa.out.mono HH.out.2.2.1.size);have HK:Hid (K2 S2=t+7):=by
  rw [<- hK2];refine za2 ?_;have:=hb1.size
  have h2:(w0.drewN nq).heap.size=w0.heap.size:=rfl;omega
 clear kw2 Bw2 hb1 Aa hK2;by_cases he:er=0
 case neg =>
  have hne:(er != 0)=true:=by simpa using he
  have HE:=hid he;clear P2 m2 he;go_wp2;go_ret;exact .inl ⟨rfl,.inr (.inl HE.out),Ab.out⟩
 subst he;have hI:=P2.index_any S2 S xid src r0 s0 HL.out.1;have HI:=hid hI;have c14:=P2.ce (k:=14) rfl;obtain ⟨o14,c14',ew,_,hg⟩:=P2.wr.form;rw [List.length_map] at ew hg;subst ew;obtain ⟨n,hn⟩:∃ n,L.length=n:=⟨_,rfl⟩;rw [hn] at c14 HI;have Ae:=hid P2;have Af:=hid m2;have HG:=hid hg;have HN:=hid hn;clear P2 m2 hI hg hn;go_wp2_with fail
 refine HI.out.mono ?_;clear HI;rintro _ w3 ⟨⟨nk,hw3⟩,hor⟩;rcases hor with ⟨A,x,R,hLe,hea,hx,hA⟩|⟨rfl,hno⟩
 case inr =>
  have HF:Hid (∀ y∈L,hitW rr.xid src y=false):=by rw [hxid];exact hno
  have Ag:Hid (Below w.heap.size w w3):=by rw [hw3];exact Ab.out.trans ((zdb w2 nk).mono Ab.out.size)
  clear hno hw3 r0 s0;go_wp2;go_ret;exact .inl ⟨rfl,.inr (.inr HF.out),Ag.out⟩
 obtain ⟨a,ha⟩:∃ a,A.length=a:=⟨_,rfl⟩;rw [ha] at hea;subst hea;have han:a<n:=by rw [<- HN.out,hLe,<- ha];simp
 have hai:(a:Int)<(n:Int):=by omega
 obtain ⟨g,rfl⟩:=HG.out (by rw [HN.out];omega);have P3:=Ae.out.to (zak w2 K2 nk) (fun _ e=>e.elim);rw [<- hw3] at P3;have m3:Mv (fun _=>False) w w3 K K2:=Af.out.trans (by rw [hw3];exact zak w2 K2 nk);have c14:w3.cell? ⟨p,14,none⟩=some (.slice (some ⟨g,0,none⟩) n c14'):=by rw [<- HN.out];exact P3.ce (k:=14) rfl
 have xg:w3.cell? ⟨g,a,none⟩=some (ptr x.b):=by
  have:=P3.wr.cell ptrL (by rw [List.length_map]) (j:=a) (x:=x.b) (by rw [hLe,List.map_append,List.getElem?_append_right (by simp;omega)];simp [ha]) 0 (by omega)
  simpa [ptrC] using this
 have hxm:x∈L:=by rw [hLe];simp
 have hx3:=(P3.cs x hxm).me;have x6:w3.cell? ⟨x.b,6,none⟩=some (iI x.tms):=zaa hx3.at_ rfl;have x7:w3.cell? ⟨x.b,7,none⟩=some (iI x.last):=zaa hx3.at_ rfl;have c13:w3.cell? ⟨p,13,none⟩=some (iI now):=P3.ce (k:=13) rfl;have c16:w3.cell? ⟨p,16,none⟩=some (ptr q.blk):=P3.ce (k:=16) rfl;have k3:w3.heap[S2]?=some (.cells #[iI xid,.bool dn,iI fl,.string bo,iI acc,iI rej,iI why,iI low,iI high,.string res] 46):=by rw [hw3];exact Ad.out
 have hnow:=HH.out.2.2.2.2.2 x hxm;have HX:Hid (A.length=a∧L=A++x::R∧hitW xid src x=true∧(∀ y∈A,hitW xid src y=false)):=⟨ha,hLe,hx,hA⟩;have hxt:x.seq=xid:=by
  unfold hitW at hx;simp only [Bool.and_eq_true,decide_eq_true_eq] at hx;exact hx.1
 have HQ:Hid (∀ w4 q',PC K2 w4 B t p c oa cap next now L D (.slice (some ⟨g,0,none⟩) L.length c14') vd q'->Mv (fun u=>u=t+5) w3 w4 K2 K2->MqR q q' now x ->
  w4.heap[S2]?=some (.cells #[iI xid,.bool dn,iI fl,.string bo,iI acc,iI rej,iI why,iI low,iI high,.string res] 46)∧∀ w5,Below w4.heap.size w4 w5->Calls Tryz.prog 58 #[ptr p,iI (a:Int),.agg (ocC (zcy rr)).toArray] w5 fun e w'=>(∃ v,e=.returned v)∧w'.cell? ⟨S2,0,none⟩=some (iI xid)∧Hid (∃ K' vw' vd' q',PC K' w' B t p c oa cap next now (A++R) (D++[{ zcy rr with seq:=x.seq,at_:=now }]) vw' vd' q'∧MqR q q' now x∧Mv (fun u=>u=t∨u=t+1∨u=t+2∨u=t+5) w w' K K')):=by
  intro w4 q' P4 m4 hq;have hl3:=(Array.getElem?_eq_some_iff.1 k3).1;have k4:w4.heap[S2]?=some (.cells #[iI xid,.bool dn,iI fl,.string bo,iI acc,iI rej,iI why,iI low,iI high,.string res] 46):=(m4.kept S2 hl3 (by rw [HK.out];omega)).trans k3;have hl4:=(Array.getElem?_eq_some_iff.1 k4).1;refine ⟨k4,fun w5 hb5=>?_⟩;have P5:=P4.below hb5 (fun _=>t+7);have m5:=Mv.of_below hb5 K2 (fun _=>t+7);have hK5:ext w4 K2 (fun _=>t+7) S2=t+7:=(zbd hl4).trans HK.out;generalize ext w4 K2 (fun _=>t+7)=K5 at P5 m5 hK5;rw [hLe] at P5;have hf:=PC.finish_any (L1:=A) (L2:=R) (x:=x) P5 (zcy rr) HL.out.2 (by have:=HL.out.1;rw [hLe] at this;simp at this;omega);rw [ha] at hf;refine hf.mono ?_;rintro e w6 ⟨he,hh⟩;obtain ⟨K6,vw6,vd6,P6,m6⟩:=hh.out;have hl5:S2<w5.heap.size:=Nat.lt_of_lt_of_le hl4 hb5.size;refine ⟨he,?_,⟨K6,vw6,vd6,q',P6,hq,(m3.mono (fun _ e=>e.elim)).trans ((m4.mono (fun u e=>.inr (.inr (.inr e)))).trans ((m5.mono (fun _ e=>e.elim)).trans (m6.mono (fun u e=>e.elim .inl (fun e=>e.elim (fun e=>.inr (.inl e)) (fun e=>.inr (.inr (.inl e))))))))⟩⟩;exact zaa (((m6.kept S2 hl5 (by rw [hK5];omega)).trans (hb5.block S2 hl4)).trans k4) rfl
 have hfin:∀ (e:Ending) (w6:World),Hid (∃ K' vw' vd' q',PC K' w6 B t p c oa cap next now (A++R) (D++[{ zcy rr with seq:=x.seq,at_:=now }]) vw' vd' q'∧MqR q q' now x∧Mv (fun u=>u=t∨u=t+1∨u=t+2∨u=t+5) w w6 K K')->e=.returned (iI xid)->HearQ K w w6 B t p c oa cap next now L D q src c.ad (rr,0) e:=by
  intro e w6 h6 he;exact .inr ⟨A,x,R,by rw [hxid];exact he,rfl,rfl,hLe,by rw [hxid];exact hx,by rw [hxid];exact hA,h6⟩
 have Ac:=hid hfin;by_cases h1:x.tms=1
 case neg =>
  have ht1:(x.tms==1)=false:=by simpa using h1
  obtain ⟨k4,H5⟩:=HQ.out w3 q P3 (Mv.refl _ _ _) ⟨rfl,fun _=>rfl,fun e=>absurd e h1⟩;have H5:=hid H5;have rv0:w3.cell? ⟨S2,0,none⟩=some (iI xid):=zaa k4 rfl;have rv1:w3.cell? ⟨S2,1,none⟩=some (.bool dn):=zaa k4 rfl;have rv2:w3.cell? ⟨S2,2,none⟩=some (iI fl):=zaa k4 rfl;have rv3:w3.cell? ⟨S2,3,none⟩=some (.string bo):=zaa k4 rfl;have rv4:w3.cell? ⟨S2,4,none⟩=some (iI acc):=zaa k4 rfl;have rv5:w3.cell? ⟨S2,5,none⟩=some (iI rej):=zaa k4 rfl;have rv6:w3.cell? ⟨S2,6,none⟩=some (iI why):=zaa k4 rfl;have rv7:w3.cell? ⟨S2,7,none⟩=some (iI low):=zaa k4 rfl;have rv8:w3.cell? ⟨S2,8,none⟩=some (iI high):=zaa k4 rfl;have rv9:w3.cell? ⟨S2,9,none⟩=some (.string res):=zaa k4 rfl;clear P3 m3 HX hx hA HQ hfin k3 k4 h1 hxt hxm hx3 hnow Ad Ae Af Ab HK hLe ha hw3 r0 s0 x7 c13 c16;go_wp2_with fail
  refine (HO.out _).mono ?_;rintro _ w5 ⟨rfl,hb5⟩;have H6:=hid (H5.out w5 hb5);clear H5 hb5;go_wp2_with fail
  refine H6.out.mono ?_;rintro _ w6 ⟨⟨v6,rfl⟩,r6,H7⟩;clear H6;go_wp2;go_ret;exact Ac.out _ _ H7 rfl
 obtain ⟨a',b',hm,htw⟩:=P3.meter_any (now - x.last);have hsb:wrap64 (now - x.last)=now - x.last:=by unfold wrap64;omega
 have hsi:IntKind.i64.wrap (now - x.last)=now - x.last:=by rw [IntWalk.i64_left];exact hsb
 have s0' : w3.drew.cell? ⟨p,16,none⟩=some (ptr q.blk)∧w3.drew.cell? ⟨p,13,none⟩=some (iI now)∧w3.drew.cell? ⟨x.b,7,none⟩=some (iI x.last):=⟨c16,c13,x7⟩;have HM:Hid (Calls Tryz.prog 86 #[ptr q.blk,iI (now - x.last)] w3.drew fun e w'=>e=.returned (.tuple #[])∧w'.heap[S2]?=some (.cells #[iI xid,.bool dn,iI fl,.string bo,iI acc,iI rej,iI why,iI low,iI high,.string res] 46)∧Hid (∀ w5,Below w'.heap.size w' w5->Calls Tryz.prog 58 #[ptr p,iI (a:Int),.agg (ocC (zcy rr)).toArray] w5 fun e w'=>(∃ v,e=.returned v)∧w'.cell? ⟨S2,0,none⟩=some (iI xid)∧Hid (∃ K' vw' vd' q',PC K' w' B t p c oa cap next now (A++R) (D++[{ zcy rr with seq:=x.seq,at_:=now }]) vw' vd' q'∧MqR q q' now x∧Mv (fun u=>u=t∨u=t+1∨u=t+2∨u=t+5) w w' K K'))):=by
  refine (hm 1).mono ?_;rintro e w4 ⟨he,h4⟩;obtain ⟨k4,h5⟩:=HQ.out w4 _ h4.out.1 h4.out.2 ⟨rfl,fun e=>absurd h1 e,fun _=>⟨rfl,htw⟩⟩;exact ⟨he,k4,h5⟩
 obtain ⟨df,hdf⟩:∃ df,now - x.last=df:=⟨_,rfl⟩;rw [hdf] at hsb hsi HM;rw [h1] at x6;clear P3 m3 HX hx hA HQ hfin k3 h1 hxt hxm hx3 hnow Ad Ae Af Ab HK hLe ha hw3 r0 s0 hm htw;go_wp2_with fail
 refine zah (S:=fun w'=>w'.cell? ⟨p,16,none⟩=some (ptr q.blk)∧w'.cell? ⟨p,13,none⟩=some (iI now)∧w'.cell? ⟨x.b,7,none⟩=some (iI x.last)) (n:=13) (by kernel_rfl) rfl (by kernel_rfl) (by kernel_rfl) ?_ (fun hHeld=>?_)
 · exact s0'
 refine tk 0 ?_ rfl ?_ ?_;rotate_left
 · (intro w hs;(try dsimp only at hs);go_simp;try with_reducible rfl)
 try simp only [gA,gB,gC,Act.put,gE,gF,gG]
 refine tk 1 ?_ rfl ?_ ?_;rotate_left
 · (intro w hs;(try dsimp only at hs);go_simp;try with_reducible rfl)
 try simp only [gA,gB,gC,Act.put,gE,gF,gG]
 refine tk 2 ?_ rfl ?_ ?_;rotate_left
 · (intro w hs;(try dsimp only at hs);go_simp;try with_reducible rfl)
 try simp only [gA,gB,gC,Act.put,gE,gF,gG]
 refine tk 3 ?_ rfl ?_ ?_;rotate_left
 · (intro w hs;(try dsimp only at hs);go_simp;try with_reducible rfl)
 try simp only [gA,gB,gC,Act.put,gE,gF,gG]
 refine tk 4 ?_ rfl ?_ ?_;rotate_left
 · (intro w hs;(try dsimp only at hs);go_simp;try with_reducible rfl)
 try simp only [gA,gB,gC,Act.put,gE,gF,gG]
 refine tk 5 ?_ rfl ?_ ?_;rotate_left
 · (intro w hs;(try dsimp only at hs);go_simp;try with_reducible rfl)
 try simp only [gA,gB,gC,Act.put,gE,gF,gG]
 refine tk 6 ?_ rfl ?_ ?_;rotate_left
 · (intro w hs;(try dsimp only at hs);go_simp;try with_reducible rfl)
 try simp only [gA,gB,gC,Act.put,gE,gF,gG]
 refine tk 7 ?_ rfl ?_ ?_;rotate_left
 · (intro w hs;(try dsimp only at hs);go_simp;try with_reducible rfl)
 try simp only [gA,gB,gC,Act.put,gE,gF,gG]
 refine tk 8 ?_ rfl ?_ ?_;rotate_left
 · (intro w hs;(try dsimp only at hs);go_simp;try with_reducible rfl)
 try simp only [gA,gB,gC,Act.put,gE,gF,gG]
 refine tk 9 ?_ rfl ?_ ?_;rotate_left
 · (intro w hs;(try dsimp only at hs);go_simp;try with_reducible rfl)
 try simp only [gA,gB,gC,Act.put,gE,gF,gG]
 refine tk 10 ?_ rfl ?_ ?_;rotate_left
 · (intro w hs;(try dsimp only at hs);go_simp;try with_reducible rfl)
 try simp only [gA,gB,gC,Act.put,gE,gF,gG]
 refine tk 11 ?_ rfl ?_ ?_;rotate_left
 · (intro w hs;(try dsimp only at hs);go_simp;try with_reducible rfl)
 try simp only [gA,gB,gC,Act.put,gE,gF,gG]
 refine tk 12 ?_ rfl ?_ ?_;rotate_left
 · (intro w hs;(try dsimp only at hs);go_simp;try with_reducible rfl)
 try simp only [gA,gB,gC,Act.put,gE,gF,gG]
 refine wpAnyH_done (by kernel_rfl) ?_ _;refine zbx.done ?_;refine wpOp_step (i:=13) rfl (fun KK hK=>?_);have HK:=hid hK;clear hK;go_simp
 refine HM.out.mono ?_;rintro _ w4 ⟨rfl,k4,H5⟩;have rv0:w4.cell? ⟨S2,0,none⟩=some (iI xid):=zaa k4 rfl;have rv1:w4.cell? ⟨S2,1,none⟩=some (.bool dn):=zaa k4 rfl;have rv2:w4.cell? ⟨S2,2,none⟩=some (iI fl):=zaa k4 rfl;have rv3:w4.cell? ⟨S2,3,none⟩=some (.string bo):=zaa k4 rfl;have rv4:w4.cell? ⟨S2,4,none⟩=some (iI acc):=zaa k4 rfl;have rv5:w4.cell? ⟨S2,5,none⟩=some (iI rej):=zaa k4 rfl;have rv6:w4.cell? ⟨S2,6,none⟩=some (iI why):=zaa k4 rfl;have rv7:w4.cell? ⟨S2,7,none⟩=some (iI low):=zaa k4 rfl;have rv8:w4.cell? ⟨S2,8,none⟩=some (iI high):=zaa k4 rfl;have rv9:w4.cell? ⟨S2,9,none⟩=some (.string res):=zaa k4 rfl;refine HK.out _ _ ?_;clear HK;clear HM x6 x7 c13 c16 c14 xg hHeld;go_wp2_with fail
 refine (HO.out _).mono ?_;rintro _ w5 ⟨rfl,hb5⟩;have H6:=hid (H5.out w5 hb5);clear H5 hb5;go_wp2_with fail
 refine H6.out.mono ?_;rintro _ w6 ⟨⟨v6,rfl⟩,r6,H7⟩;clear H6;go_wp2;go_ret;exact Ac.out _ _ H7 rfl
end
end Go.Proofs.YtfcbjcebkahehaaGreatDoor.Cl
namespace Go.Proofs.YtfcbjcebkahehaaGreatDoor
open Go.RowKit
structure DR (w:World) (p:Nat) (l:List UInt8) (E:Int):Prop where
 l:w.cell? ⟨p,0,none⟩=some (.string ⟨l.toArray⟩)
 e:w.cell? ⟨p,1,none⟩=some (iI E)
 f0:w.frozen? ⟨p,0,none⟩=false
 f1:w.frozen? ⟨p,1,none⟩=false
theorem DR.lt {w:World} {p:Nat} {l:List UInt8} {E:Int} (h:DR w p l E):p<w.heap.size:=by
 rcases Nat.lt_or_ge p w.heap.size with h1|h1
 · exact h1
 · have:=h.l
   simp [World.cell?,Array.getElem?_eq_none h1] at this
theorem DR.below {w w' : World} {p:Nat} {l:List UInt8} {E:Int} (h:DR w p l E) (hB:Below w.heap.size w w'):DR w' p l E:=by
 have hb:=hB.block p h.lt;exact ⟨(zaj hb 0).1.trans h.l,(zaj hb 1).1.trans h.e,(zaj hb 0).2.trans h.f0,(zaj hb 1).2.trans h.f1⟩
theorem DR.setE {w:World} {p:Nat} {l:List UInt8} {E:Int} (h:DR w p l E) (F:Int):DR (w.setCell ⟨p,1,none⟩ (iI F)) p l F :=
 ⟨by rw [World.cell?_setCell_other _ _ _ _ (by simp)];exact h.l,World.cell?_setCell_same _ _ _ h.e,by rw [World.frozen?_setCell];exact h.f0,by rw [World.frozen?_setCell];exact h.f1⟩
theorem DR.setL {w:World} {p:Nat} {l:List UInt8} {E:Int} (h:DR w p l E) (m:List UInt8):DR (w.setCell ⟨p,0,none⟩ (.string ⟨m.toArray⟩)) p m E :=
 ⟨World.cell?_setCell_same _ _ _ h.l,by rw [World.cell?_setCell_other _ _ _ _ (by simp)];exact h.e,by rw [World.frozen?_setCell];exact h.f0,by rw [World.frozen?_setCell];exact h.f1⟩
def zdq {α:Type} (p:Nat) (l:List UInt8) (E:Int) (d:α) (f:List UInt8->Rd α) (v:α->Value) (w:World) (e:Ending) (w' : World):Prop :=
 e=.returned (v ((⟨l,E⟩:Rs).go d f).1)∧DR w' p ((⟨l,E⟩:Rs).go d f).2.l ((⟨l,E⟩:Rs).go d f).2.e∧Sole p w w'
theorem dfail_first (p:Nat) (F:Int) (w:World) (h1:w.cell? ⟨p,1,none⟩=some (iI 0)) (hf:w.frozen? ⟨p,1,none⟩=false):Calls Tryz.prog 193 #[.pointer (some ⟨p,0,none⟩),iI F] w fun e w'=>e=.returned (.tuple #[])∧w'=w.setCell ⟨p,1,none⟩ (iI F):=by
 go_enter Tryz.func193,Tryz.ntmps193
 go_wp2;first|go_end0|refine bodyPost_ret (results_none rfl _ _ _) rfl ?_
 exact ⟨rfl,rfl⟩
theorem dfail_later (p:Nat) (E F:Int) (w:World) (h1:w.cell? ⟨p,1,none⟩=some (iI E)) (hE:(E==0)=false):Calls Tryz.prog 193 #[.pointer (some ⟨p,0,none⟩),iI F] w fun e w'=>e=.returned (.tuple #[])∧w'=w:=by
 go_enter Tryz.func193,Tryz.ntmps193
 go_wp2;first|go_end0|refine bodyPost_ret (results_none rfl _ _ _) rfl ?_
 exact ⟨rfl,rfl⟩
theorem dfail_any (p:Nat) (l:List UInt8) (E F:Int) (w:World) (h:DR w p l E):Calls Tryz.prog 193 #[.pointer (some ⟨p,0,none⟩),iI F] w fun e w'=>e=.returned (.tuple #[])∧DR w' p l (if E=0 then F else E)∧Sole p w w':=by
 by_cases hE:E=0
 · subst hE;refine (dfail_first p F w h.e h.f1).mono ?_;rintro e w' ⟨rfl,rfl⟩;exact ⟨rfl,h.setE F,Sole.setCell w 1 _⟩
 · rw [if_neg hE];refine (dfail_later p E F w h.e (beq_eq_false_iff_ne.2 hE)).mono ?_;rintro e w' ⟨rfl,rfl⟩;exact ⟨rfl,h,Sole.refl _ _⟩
theorem zcw (l:List UInt8) (w:World):Calls Tryz.prog 147 #[.string ⟨l.toArray⟩] w fun e w'=>e=.returned (.pointer (some ⟨w.heap.size,0,none⟩))∧w'=w.alloc (.cells #[.string ⟨l.toArray⟩,iI 0] 261):=by
 go_enter Tryz.func147,Tryz.ntmps147
 go_wp2;go_ret;exact ⟨rfl,rfl⟩
theorem DR.new (l:List UInt8) (w:World):DR (w.alloc (.cells #[.string ⟨l.toArray⟩,iI 0] 261)) w.heap.size l 0:=by
 refine ⟨?_,?_,?_,?_⟩ <;> simp
theorem there_bad (p:Nat) (n E:Int) (w:World) (h1:w.cell? ⟨p,1,none⟩=some (iI E)) (hE:(E==0)=false):Calls Tryz.prog 170 #[.pointer (some ⟨p,0,none⟩),iI n] w fun e w'=>e=.returned (.bool false)∧w'=w:=by
 go_enter Tryz.func170,Tryz.ntmps170
 go_wp2;go_ret;exact ⟨rfl,rfl⟩
theorem there_ok (p:Nat) (n:Int) (s:ByteArray) (w:World) (h0:w.cell? ⟨p,0,none⟩=some (.string s)) (h1:w.cell? ⟨p,1,none⟩=some (iI 0)) (hn:¬ (s.size:Int)<n):Calls Tryz.prog 170 #[.pointer (some ⟨p,0,none⟩),iI n] w fun e w'=>e=.returned (.bool true)∧w'=w:=by
 go_enter Tryz.func170,Tryz.ntmps170
 go_wp2;go_ret;exact ⟨rfl,rfl⟩
theorem there_short (p:Nat) (n:Int) (s:ByteArray) (w:World) (h0:w.cell? ⟨p,0,none⟩=some (.string s)) (h1:w.cell? ⟨p,1,none⟩=some (iI 0)) (hf:w.frozen? ⟨p,1,none⟩=false) (hn:(s.size:Int)<n):Calls Tryz.prog 170 #[.pointer (some ⟨p,0,none⟩),iI n] w fun e w'=>e=.returned (.bool false)∧w'=w.setCell ⟨p,1,none⟩ (iI 20):=by
 go_enter Tryz.func170,Tryz.ntmps170
 go_wp2;go_ret;exact ⟨rfl,rfl⟩
theorem takes_core (p:Nat) (n:Nat) (s a b:ByteArray) (w:World) (h0:w.cell? ⟨p,0,none⟩=some (.string s)) (hf:w.frozen? ⟨p,0,none⟩=false) (hn:(n:Int)<=(s.size:Int)) (ha:s.extract 0 n=a) (hb:s.extract n s.size=b) :
 Calls Tryz.prog 171 #[.pointer (some ⟨p,0,none⟩),iI n] w fun e w'=>e=.returned (.string a)∧w'=w.setCell ⟨p,0,none⟩ (.string b):=by
 go_enter Tryz.func171,Tryz.ntmps171
 go_wp2;go_ret;exact ⟨by rw [<- ha];rfl,by rw [<- hb]⟩
theorem zfr (p n:Nat) (l:List UInt8) (E:Int) (w:World) (h:DR w p l E) (hn:n<=l.length) :
 Calls Tryz.prog 171 #[.pointer (some ⟨p,0,none⟩),iI n] w fun e w'=>e=.returned (.string ⟨(l.take n).toArray⟩)∧DR w' p (l.drop n) E∧Sole p w w':=by
 refine (takes_core p n _ _ _ w h.l h.f0 (by rw [za4];omega) (show (⟨l.toArray⟩:ByteArray).extract 0 n=⟨(l.take n).toArray⟩ by rw [zbu];simp) (show (⟨l.toArray⟩:ByteArray).extract n (⟨l.toArray⟩:ByteArray).size=⟨(l.drop n).toArray⟩ by rw [za4,Bs_from])).mono ?_;rintro e w' ⟨rfl,rfl⟩;exact ⟨rfl,h.setL _,Sole.setCell w 0 _⟩
theorem dword_any (n:Int) (w:World):Calls Tryz.prog 145 #[iI n] w fun e w'=>e=.returned (.bool (decide (0<=n)&&decide (n<=4294967295)))∧w'=w:=by
 by_cases h0:0<=n
 · by_cases h1:n<=4294967295
   · rw [decide_eq_true h0,decide_eq_true h1];(go_enter Tryz.func145,Tryz.ntmps145);go_wp2;go_ret;exact ⟨rfl,rfl⟩
   · rw [decide_eq_true h0,decide_eq_false h1];(go_enter Tryz.func145,Tryz.ntmps145);go_wp2;go_ret;exact ⟨rfl,rfl⟩
 · rw [decide_eq_false h0];go_enter Tryz.func145,Tryz.ntmps145
   go_wp2;go_ret;exact ⟨rfl,rfl⟩
end Go.Proofs.YtfcbjcebkahehaaGreatDoor
