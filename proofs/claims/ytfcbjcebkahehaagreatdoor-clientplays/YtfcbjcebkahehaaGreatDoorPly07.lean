import Derived.Test.YtfcbjcebkahehaaGreatDoorPly06
import Derived.Laws.FloatArith
set_option maxRecDepth 8000
set_option maxHeartbeats 20000000
set_option linter.unusedSimpArgs false
namespace Go.Proofs.YtfcbjcebkahehaaGreatDoor.Cl
set_option linter.unusedSimpArgs false
open Go.RowKit
section
variable {K K' : Nat->Nat} {w w' : World} {B t p:Nat} {c:Cf} {oa:Option Addr} {cap:Nat} {next now:Int} {L:List Wt} {D:List Oc} {vw vd:Value} {q:Mq}
theorem bls75 (v0 v1 v2 v3 v4 v5 v6 v8:Int) (s:ByteArray) (w:World):(Instr.buildSlice 75 1 #[(0,.agg #[iI v0,iI v1,iI v2,iI v3,iI v4,iI v5,iI v6,.string s,iI v8])]).run Tryz.prog w=.ok (.slice (some ⟨w.heap.size,0,none⟩) 1 1) (w.alloc (.cells #[iI v0,iI v1,iI v2,iI v3,iI v4,iI v5,iI v6,.string s,iI v8] 80)):=by kernel_rfl
theorem PC.finish_any {L1 L2:List Wt} {x:Wt} (h:PC K w B t p c oa cap next now (L1++x::L2) D vw vd q) (o:Oc) (hl:D.length<=100000000) (hL:L1.length<=100000000) :
 Calls Tryz.prog 58 #[ptr p,iI (L1.length:Int),.agg (ocC o).toArray] w fun e w'=>(∃ v,e=.returned v)∧Hid (∃ K' vw' vd',PC K' w' B t p c oa cap next now (L1++L2) (D++[{ o with seq:=x.seq,at_:=now }]) vw' vd' q∧Mv (fun u=>u=t∨u=t+1∨u=t+2) w w' K K'):=by
 obtain ⟨s0,st,acc,rej,why,low,high,res,at0⟩:=o;show Calls Tryz.prog 58 #[ptr p,iI (L1.length:Int),.agg #[iI s0,iI st,iI acc,iI rej,iI why,iI low,iI high,.string ⟨res.toArray⟩,iI at0]] w fun e w'=>(∃ v,e=.returned v)∧Hid (∃ K' vw' vd',PC K' w' B t p c oa cap next now (L1++L2) (D++[⟨x.seq,st,acc,rej,why,low,high,res,now⟩]) vw' vd' q∧Mv (fun u=>u=t∨u=t+1∨u=t+2) w w' K K');obtain ⟨S,hS⟩:∃ y,w.heap.size=y:=⟨_,rfl⟩;obtain ⟨w1,hw1⟩:∃ y,w.alloc (.cells #[iI s0,iI st,iI acc,iI rej,iI why,iI low,iI high,.string ⟨res.toArray⟩,iI at0] 80)=y:=⟨_,rfl⟩;have hB1:Below w.heap.size w w1:=by rw [<- hw1];exact (Below.refl _ _).alloc (Nat.le_refl _) _
 have P1:=h.below hB1 (fun _=>t+7);have m1:=Mv.of_below hB1 K (fun _=>t+7);have k1:w1.heap[S]?=some (.cells #[iI s0,iI st,iI acc,iI rej,iI why,iI low,iI high,.string ⟨res.toArray⟩,iI at0] 80):=by rw [<- hw1,<- hS];exact (MapKept.heap_alloc w _).1
 have hKS:ext w K (fun _=>t+7) S=t+7:=za2 (Nat.le_of_eq hS);generalize ext w K (fun _=>t+7)=K1 at P1 m1 hKS;obtain ⟨o14,c14,e14,_,hg⟩:=P1.wr.form;obtain ⟨g,rfl⟩:=hg (by simp;omega);obtain ⟨n,hn⟩:∃ n,((L1++x::L2).map Wt.b).length=n:=⟨_,rfl⟩;rw [hn] at e14;subst e14;obtain ⟨a,ha⟩:∃ a,L1.length=a:=⟨_,rfl⟩;have han:a<n:=by rw [<- hn,<- ha];simp
 obtain ⟨o15,c15,e15,_,_⟩:=P1.dn.form;obtain ⟨d,hd⟩:∃ d,D.length=d:=⟨_,rfl⟩;rw [hd] at e15;subst e15;have hx0:w1.cell? ⟨g,a,none⟩=some (ptr x.b):=by
  have:=P1.wr.cell ptrL hn (j:=a) (x:=x.b) (by rw [<- ha];simp) 0 (by omega)
  simpa [ptrC] using this
 have hx1:w1.cell? ⟨x.b,0,none⟩=some (iI x.seq):=zaa (P1.cs x (by simp)).me.at_ rfl;have s0' : w1.drew.cell? ⟨p,14,none⟩=some (.slice (some ⟨g,0,none⟩) n c14)∧w1.drew.cell? ⟨p,13,none⟩=some (iI now)∧w1.drew.cell? ⟨g,a,none⟩=some (ptr x.b)∧w1.drew.cell? ⟨x.b,0,none⟩=some (iI x.seq):=⟨P1.ce (k:=14) rfl,P1.ce (k:=13) rfl,hx0,hx1⟩;have nS:∀ {u b:Nat} {ob:Obj},TB K1 w1 u b ob->u<t+7->b≠S:=fun hb hu e=>by have:=hb.k;rw [e,hKS] at this;omega
 have hgS:g≠S:=fun e=>by have:=P1.wr.k g rfl;rw [e,hKS] at this;omega
 have hpS:p≠S:=nS P1.cl (by omega);have hbS:x.b≠S:=nS (P1.cs x (by simp)).me (by omega);obtain ⟨wA,hwA⟩:∃ y,w1.drew.setCell ⟨S,0,none⟩ (iI x.seq)=y:=⟨_,rfl⟩;have kA:wA.heap[S]?=some (.cells #[iI x.seq,iI st,iI acc,iI rej,iI why,iI low,iI high,.string ⟨res.toArray⟩,iI at0] 80):=by rw [<- hwA];exact zae (w:=w1.drew) k1 0 _
 have sA:wA.cell? ⟨p,14,none⟩=some (.slice (some ⟨g,0,none⟩) n c14)∧wA.cell? ⟨p,13,none⟩=some (iI now)∧wA.cell? ⟨g,a,none⟩=some (ptr x.b)∧wA.cell? ⟨x.b,0,none⟩=some (iI x.seq):=by
  rw [<- hwA];exact ⟨(World.cell?_of_block (a:=⟨p,14,none⟩) (Below.heap_setCell _ _ _ _ hpS)).trans s0'.1,(World.cell?_of_block (a:=⟨p,13,none⟩) (Below.heap_setCell _ _ _ _ hpS)).trans s0'.2.1,(World.cell?_of_block (a:=⟨g,a,none⟩) (Below.heap_setCell _ _ _ _ hgS)).trans s0'.2.2.1,(World.cell?_of_block (a:=⟨x.b,0,none⟩) (Below.heap_setCell _ _ _ _ hbS)).trans s0'.2.2.2⟩
 obtain ⟨wB,hwB⟩:∃ y,wA.setCell ⟨S,8,none⟩ (iI now)=y:=⟨_,rfl⟩;have kB:wB.heap[S]?=some (.cells #[iI x.seq,iI st,iI acc,iI rej,iI why,iI low,iI high,.string ⟨res.toArray⟩,iI now] 80):=by rw [<- hwB];exact zae kA 8 _
 have mB:Mv (fun u=>u=t+7) w1 wB K1 K1:=by
  rw [<- hwB,<- hwA];exact ((Mv.drew _ w1 K1).trans (Mv.of_set _ K1 ⟨S,0,none⟩ _ hKS)).trans (Mv.of_set _ K1 ⟨S,8,none⟩ _ hKS)
 have PB:=P1.to mB (fun t' e=>by omega);have y0:w1.drew.cell? ⟨S,0,none⟩=some (iI s0):=zaa (w:=w1.drew) k1 rfl;have y1:wA.cell? ⟨S,8,none⟩=some (iI at0):=zaa kA rfl;have f0:w1.drew.frozen? ⟨S,0,none⟩=false:=zab (w:=w1.drew) k1 0;have f1:wA.frozen? ⟨S,8,none⟩=false:=zab kA 8;have z14:wB.cell? ⟨p,14,none⟩=some (.slice (some ⟨g,0,none⟩) n c14):=PB.ce (k:=14) rfl;have HD:Hid (Calls Tryz.prog 96 #[.slice (some ⟨g,0,none⟩) n c14,iI (a:Int),iI ((a:Int)+1)] wB fun e w'=>e=.returned (.slice (some ⟨g,0,none⟩) (n - 1) c14)∧Hid (RW 109 1 ptrC K1 w' B (t+1) (.slice (some ⟨g,0,none⟩) (n - 1) c14) ((L1++L2).map Wt.b)∧Mv (fun u=>u=t+1) wB w' K1 K1)):=by
  have hr:=PB.wr;rw [List.map_append,List.map_cons] at hr;have:=RW.del hr (by rw [<- hn];simp)
  rw [List.length_map,ha,show ((a+1:Nat):Int)=(a:Int)+1 by omega] at this;refine this.mono ?_;rintro e w' ⟨e1,e2,e3⟩;exact ⟨e1,by rw [List.map_append];exact e2,e3⟩
 have HS:Hid (S=w.heap.size∧K1 S=t+7∧wB.heap[S]?=some (.cells #[iI x.seq,iI st,iI acc,iI rej,iI why,iI low,iI high,.string ⟨res.toArray⟩,iI now] 80)∧p≠S∧Mv (fun _=>False) w wB K K1∧PC K1 wB B t p c oa cap next now (L1++x::L2) D (.slice (some ⟨g,0,none⟩) n c14) (.slice o15 d c15) q):=by
  refine ⟨hS.symm,hKS,kB,hpS,?_,PB⟩;refine ⟨mB.os.trans m1.os,mB.tape.trans m1.tape,mB.output.trans m1.output,Nat.le_trans m1.size mB.size,fun b hb=>m1.old b hb ▸ mB.old b (Nat.lt_of_lt_of_le hb m1.size),fun b hb hf=>?_⟩;have hne:b≠S:=by omega
  rw [<- hwB,Below.heap_setCell _ _ _ _ hne,<- hwA,Below.heap_setCell _ _ _ _ hne];exact m1.kept b hb hf
 have hT:Hid (∀ w2,RW 109 1 ptrC K1 w2 B (t+1) (.slice (some ⟨g,0,none⟩) (n - 1) c14) ((L1++L2).map Wt.b)->Mv (fun u=>u=t+1) wB w2 K1 K1->∀ w3,w2.setCell ⟨p,14,none⟩ (.slice (some ⟨g,0,none⟩) (n - 1) c14)=w3 ->
  w2.frozen? ⟨p,14,none⟩=false∧(w2.cell? ⟨p,14,none⟩=some (.slice (some ⟨g,0,none⟩) n c14))∧(∀ w',Below w3.heap.size w3 w'->w'.cell? ⟨p,15,none⟩=some (.slice o15 d c15)∧w'.cell? ⟨S,0,none⟩=some (iI x.seq)∧w'.cell? ⟨S,1,none⟩=some (iI st)∧w'.cell? ⟨S,2,none⟩=some (iI acc)∧w'.cell? ⟨S,3,none⟩=some (iI rej)∧w'.cell? ⟨S,4,none⟩=some (iI why)∧w'.cell? ⟨S,5,none⟩=some (iI low)∧w'.cell? ⟨S,6,none⟩=some (iI high)∧w'.cell? ⟨S,7,none⟩=some (.string ⟨res.toArray⟩)∧w'.cell? ⟨S,8,none⟩=some (iI now)) ∧
  ∀ w4 N4,w3.drew.heap.size=N4->w3.drew.alloc (.cells #[iI x.seq,iI st,iI acc,iI rej,iI why,iI low,iI high,.string ⟨res.toArray⟩,iI now] 80)=w4->∃ o5 c5 w5,(∀ r,(Builtin.append_ #[75,75] r #[.slice o15 d c15,.slice (some ⟨N4,0,none⟩) 1 1]).run Tryz.prog w4=.ok (.slice o5 (d+1) c5) w5)∧(w5.cell? ⟨p,15,none⟩=some (.slice o15 d c15)∧w5.cell? ⟨S,0,none⟩=some (iI x.seq)∧w5.cell? ⟨S,1,none⟩=some (iI st)∧w5.cell? ⟨S,2,none⟩=some (iI acc)∧w5.cell? ⟨S,3,none⟩=some (iI rej)∧w5.cell? ⟨S,4,none⟩=some (iI why)∧w5.cell? ⟨S,5,none⟩=some (iI low)∧w5.cell? ⟨S,6,none⟩=some (iI high)∧w5.cell? ⟨S,7,none⟩=some (.string ⟨res.toArray⟩)∧w5.cell? ⟨S,8,none⟩=some (iI now))∧w5.frozen? ⟨p,15,none⟩=false ∧
   ∀ w6,w5.setCell ⟨p,15,none⟩ (.slice o5 (d+1) c5)=w6->Hid (∃ K' vw' vd',PC K' w6 B t p c oa cap next now (L1++L2) (D++[⟨x.seq,st,acc,rej,why,low,high,res,now⟩]) vw' vd' q∧Mv (fun u=>u=t∨u=t+1∨u=t+2) w w6 K K')):=by
  intro w2 R2 m2 w3 hw3;obtain ⟨hSS,hK,hk,hp,mw,PB⟩:=HS.out;have cl2:=PB.cl.mv m2 (by omega);obtain ⟨P3,m3⟩:=PB.less R2 m2;rw [hw3] at P3 m3;have k3:w3.heap[S]?=some (.cells #[iI x.seq,iI st,iI acc,iI rej,iI why,iI low,iI high,.string ⟨res.toArray⟩,iI now] 80):=(m3.kept S (Array.getElem?_eq_some_iff.1 hk).1 (by rw [hK];omega)).trans hk;have hlt3:=(Array.getElem?_eq_some_iff.1 k3).1;have s3:∀ w',Below w3.heap.size w3 w'->w'.cell? ⟨p,15,none⟩=some (.slice o15 d c15)∧w'.cell? ⟨S,0,none⟩=some (iI x.seq)∧w'.cell? ⟨S,1,none⟩=some (iI st)∧w'.cell? ⟨S,2,none⟩=some (iI acc)∧w'.cell? ⟨S,3,none⟩=some (iI rej)∧w'.cell? ⟨S,4,none⟩=some (iI why)∧w'.cell? ⟨S,5,none⟩=some (iI low)∧w'.cell? ⟨S,6,none⟩=some (iI high)∧w'.cell? ⟨S,7,none⟩=some (.string ⟨res.toArray⟩)∧w'.cell? ⟨S,8,none⟩=some (iI now):=fun w' hb=>⟨zaa ((hb.block p P3.cl.lt).trans P3.cl.at_) rfl,zaa ((hb.block S hlt3).trans k3) rfl,zaa ((hb.block S hlt3).trans k3) rfl,zaa ((hb.block S hlt3).trans k3) rfl,zaa ((hb.block S hlt3).trans k3) rfl,zaa ((hb.block S hlt3).trans k3) rfl,zaa ((hb.block S hlt3).trans k3) rfl,zaa ((hb.block S hlt3).trans k3) rfl,zaa ((hb.block S hlt3).trans k3) rfl,zaa ((hb.block S hlt3).trans k3) rfl⟩;refine ⟨zab cl2.at_ 14,zaa cl2.at_ rfl,s3,fun w4 N4 hN4 hw4=>?_⟩;have b4:Below w3.heap.size w3 w4:=by
   rw [<- hw4];exact (show Below w3.heap.size w3 w3.drew from ⟨rfl,rfl,rfl,Nat.le_refl _,fun _ _=>rfl⟩).alloc (Nat.le_refl _) _
  have P4:=P3.below b4 (fun _=>t+8);have m4:=Mv.of_below b4 K1 (fun _=>t+8);have hN:w4.heap[N4]?=some (.cells (ocC ⟨x.seq,st,acc,rej,why,low,high,res,now⟩).toArray 80):=by rw [<- hw4,<- hN4];exact (MapKept.heap_alloc w3.drew _).1
  have hK4:ext w3 K1 (fun _=>t+8) S=t+7:=(zbd hlt3).trans hK;generalize ext w3 K1 (fun _=>t+8)=K4 at P4 m4 hK4;obtain ⟨o5,c5,w5,K5,hr,hp5,P5,m5⟩:=P4.told hN hl;rw [hd] at hr P5 m5;have k4:w4.heap[S]?=some (.cells #[iI x.seq,iI st,iI acc,iI rej,iI why,iI low,iI high,.string ⟨res.toArray⟩,iI now] 80):=(b4.block S hlt3).trans k3;have kp5:=hp5.trans P4.cl.at_;refine ⟨o5,c5,w5,hr,?_,zab kp5 15,fun w6 hw6=>?_⟩
  · have k5:w5.heap[S]?=some (.cells #[iI x.seq,iI st,iI acc,iI rej,iI why,iI low,iI high,.string ⟨res.toArray⟩,iI now] 80):=by
     have h6:=m5.kept S (Array.getElem?_eq_some_iff.1 k4).1 (by rw [hK4];omega);rw [Below.heap_setCell _ _ _ _ (Ne.symm hp)] at h6;exact h6.trans k4
    exact ⟨zaa kp5 rfl,zaa k5 rfl,zaa k5 rfl,zaa k5 rfl,zaa k5 rfl,zaa k5 rfl,zaa k5 rfl,zaa k5 rfl,zaa k5 rfl,zaa k5 rfl⟩
  · rw [hw6] at P5 m5;exact ⟨K5,_,_,P5,(mw.mono (fun _ e=>e.elim)).trans ((m3.mono (fun u e=>e.elim .inl (fun e=>.inr (.inl e)))).trans ((m4.mono (fun _ e=>e.elim)).trans (m5.mono (fun u e=>e.elim .inl (fun e=>.inr (.inr e))))))⟩
 have hai:(a:Int)<(n:Int):=by omega
 have hwr:wrap64 ((a:Int)+1)=(a:Int)+1:=zb0 (by omega);have hb75:=fun v0 v1 v2 v3 v4 v5 v6 v8 s w=>bls75 v0 v1 v2 v3 v4 v5 v6 v8 s w;have HL:=hid hL;rw [ha];clear h hl hB1 P1 m1 k1 hKS hn ha han hd hx0 hx1 nS hgS hpS hbS kA kB mB PB hL hg HS HL;go_enter Tryz.func58,Tryz.ntmps58
 go_wp2_with fail
 refine zah (S:=fun w'=>w'.cell? ⟨p,14,none⟩=some (.slice (some ⟨g,0,none⟩) n c14)∧w'.cell? ⟨p,13,none⟩=some (iI now)∧w'.cell? ⟨g,a,none⟩=some (ptr x.b)∧w'.cell? ⟨x.b,0,none⟩=some (iI x.seq)) (n:=17) (by kernel_rfl) rfl (by kernel_rfl) (by kernel_rfl) ?_ (fun hHeld=>?_)
 · exact s0'
 refine tk 0 ?_ rfl ?_ ?_;rotate_left
 · (intro w hs;(try dsimp only at hs);go_simp;try with_reducible rfl)
 try simp only [gA,gB,gC,Act.put,gE,gF,gG]
 refine tk 1 ?_ rfl ?_ ?_;rotate_left
 · (intro w hs;(try dsimp only at hs);go_simp;try with_reducible rfl)
 try simp only [gA,gB,gC,Act.put,gE,gF,gG]
 refine tk 2 ?_ rfl ?_ ?_;rotate_left
 · (intro w hs;(try dsimp only at hs);go_simp;try with_reducible rfl)
 try simp only [gA,gB,gC,Act.put,gE,gF,gG]
 refine tk 3 ?_ rfl ?_ ?_;rotate_left
 · (intro w hs;(try dsimp only at hs);go_simp;try with_reducible rfl)
 try simp only [gA,gB,gC,Act.put,gE,gF,gG]
 refine tk 4 ?_ rfl ?_ ?_;rotate_left
 · (intro w hs;(try dsimp only at hs);go_simp;try with_reducible rfl)
 try simp only [gA,gB,gC,Act.put,gE,gF,gG]
 refine tk 5 ?_ rfl ?_ ?_;rotate_left
 · (intro w hs;(try dsimp only at hs);go_simp;try with_reducible rfl)
 try simp only [gA,gB,gC,Act.put,gE,gF,gG]
 refine tk 6 ?_ rfl ?_ ?_;rotate_left
 · (intro w hs;(try dsimp only at hs);go_simp;try with_reducible rfl)
 try simp only [gA,gB,gC,Act.put,gE,gF,gG]
 refine tk 7 ?_ rfl ?_ ?_;rotate_left
 · (intro w hs;(try dsimp only at hs);go_simp;try with_reducible rfl)
 try simp only [gA,gB,gC,Act.put,gE,gF,gG]
 refine tk 8 ?_ rfl ?_ ?_;rotate_left
 · (intro w hs;(try dsimp only at hs);go_simp;try with_reducible rfl)
 try simp only [gA,gB,gC,Act.put,gE,gF,gG]
 refine tk 9 ?_ rfl ?_ ?_;rotate_left
 · (intro w hs;(try dsimp only at hs);go_simp;try with_reducible rfl)
 try simp only [gA,gB,gC,Act.put,gE,gF,gG]
 refine tk 10 ?_ rfl ?_ ?_;rotate_left
 · (intro w hs;(try dsimp only at hs);go_simp;try with_reducible rfl)
 try simp only [gA,gB,gC,Act.put,gE,gF,gG]
 refine tk 11 ?_ rfl ?_ ?_;rotate_left
 · (intro w hs;(try dsimp only at hs);go_simp;try with_reducible rfl)
 try simp only [gA,gB,gC,Act.put,gE,gF,gG]
 refine tk 12 ?_ rfl ?_ ?_;rotate_left
 · (intro w hs;(try dsimp only at hs);go_simp;try with_reducible rfl)
 try simp only [gA,gB,gC,Act.put,gE,gF,gG]
 refine tk 13 ?_ rfl ?_ ?_;rotate_left
 · (intro w hs;(try dsimp only at hs);go_simp;try with_reducible rfl)
 try simp only [gA,gB,gC,Act.put,gE,gF,gG]
 refine tk 14 ?_ rfl ?_ ?_;rotate_left
 · (intro w hs;(try dsimp only at hs);go_simp;try with_reducible rfl)
 try simp only [gA,gB,gC,Act.put,gE,gF,gG]
 refine wpAnyH_ready (rs:=[15]) (by kernel_rfl) (by simp) ?_;refine AllReadyH.cons rfl (fun K hK=>?_) AllReadyH.nil;go_simp
 refine hK.out _ _ ?_ (fun hHeldA=>?_)
 · exact sA
 clear hK hHeld;try simp only [gA,gB,gC,Act.put,gE,gF,gG]
 refine tk 16 ?_ rfl ?_ ?_;rotate_left
 · (intro w hs;(try dsimp only at hs);go_simp;try with_reducible rfl)
 try simp only [gA,gB,gC,Act.put,gE,gF,gG]
 refine wpAnyH_done (by kernel_rfl) ?_ _;refine zbx.done ?_;refine wpOp_step (i:=17) rfl (fun K hK=>?_);have HK:=hid hK;clear hK;go_simp
 refine HK.out _ _ ?_;clear HK;clear hHeldA s0' sA y0 y1 f0 f1;go_wp2_with fail
 refine HD.out.mono ?_;rintro _ w2 ⟨rfl,H2⟩;obtain ⟨w3,hw3⟩:∃ y,w2.setCell ⟨p,14,none⟩ (.slice (some ⟨g,0,none⟩) (n - 1) c14)=y:=⟨_,rfl⟩;obtain ⟨f14,z14',t3,ht4⟩:=hT.out w2 H2.out.1 H2.out.2 w3 hw3;have s3:=t3 w3.drew ⟨rfl,rfl,rfl,Nat.le_refl _,fun _ _=>rfl⟩;obtain ⟨N4,hN4⟩:∃ y,w3.drew.heap.size=y:=⟨_,rfl⟩;obtain ⟨w4,hw4⟩:∃ y,w3.drew.alloc (.cells #[iI x.seq,iI st,iI acc,iI rej,iI why,iI low,iI high,.string ⟨res.toArray⟩,iI now] 80)=y:=⟨_,rfl⟩;have s4:=t3 w4 (by rw [<- hw4];exact (show Below w3.heap.size w3 w3.drew from ⟨rfl,rfl,rfl,Nat.le_refl _,fun _ _=>rfl⟩).alloc (Nat.le_refl _) _);obtain ⟨o5,c5,w5,r5,s5,f5,h6⟩:=ht4 w4 N4 hN4 hw4;obtain ⟨w6,hw6⟩:∃ y,w5.setCell ⟨p,15,none⟩ (.slice o5 (d+1) c5)=y:=⟨_,rfl⟩;have HR:=hid r5;have HF:=h6 w6 hw6;clear r5 h6 t3 ht4 H2 HD hT;go_wp2_with fail
 refine zah (S:=fun w'=>w'.cell? ⟨p,15,none⟩=some (.slice o15 d c15)∧w'.cell? ⟨S,0,none⟩=some (iI x.seq)∧w'.cell? ⟨S,1,none⟩=some (iI st)∧w'.cell? ⟨S,2,none⟩=some (iI acc)∧w'.cell? ⟨S,3,none⟩=some (iI rej)∧w'.cell? ⟨S,4,none⟩=some (iI why)∧w'.cell? ⟨S,5,none⟩=some (iI low)∧w'.cell? ⟨S,6,none⟩=some (iI high)∧w'.cell? ⟨S,7,none⟩=some (.string ⟨res.toArray⟩)∧w'.cell? ⟨S,8,none⟩=some (iI now)) (n:=10) (by kernel_rfl) rfl (by kernel_rfl) (by kernel_rfl) ?_ (fun hHeld3=>?_)
 · exact s3
 refine tk 0 ?_ rfl ?_ ?_;rotate_left
 · (intro w hs;(try dsimp only at hs);go_simp;try with_reducible rfl)
 try simp only [gA,gB,gC,Act.put,gE,gF,gG]
 refine tk 1 ?_ rfl ?_ ?_;rotate_left
 · (intro w hs;(try dsimp only at hs);go_simp;try with_reducible rfl)
 try simp only [gA,gB,gC,Act.put,gE,gF,gG]
 refine tk 2 ?_ rfl ?_ ?_;rotate_left
 · (intro w hs;(try dsimp only at hs);go_simp;try with_reducible rfl)
 try simp only [gA,gB,gC,Act.put,gE,gF,gG]
 refine tk 3 ?_ rfl ?_ ?_;rotate_left
 · (intro w hs;(try dsimp only at hs);go_simp;try with_reducible rfl)
 try simp only [gA,gB,gC,Act.put,gE,gF,gG]
 refine tk 4 ?_ rfl ?_ ?_;rotate_left
 · (intro w hs;(try dsimp only at hs);go_simp;try with_reducible rfl)
 try simp only [gA,gB,gC,Act.put,gE,gF,gG]
 refine tk 5 ?_ rfl ?_ ?_;rotate_left
 · (intro w hs;(try dsimp only at hs);go_simp;try with_reducible rfl)
 try simp only [gA,gB,gC,Act.put,gE,gF,gG]
 refine wpAnyH_ready (rs:=[6]) (by kernel_rfl) (by simp) ?_;refine AllReadyH.cons rfl (fun K hK=>?_) AllReadyH.nil;go_simp
 refine hK.out _ _ ?_ (fun hHeld4=>?_)
 · exact s4
 clear hK hHeld3;try simp only [gA,gB,gC,Act.put,gE,gF,gG]
 refine wpAnyH_ready (rs:=[7]) (by kernel_rfl) (by simp) ?_;refine AllReadyH.cons rfl (fun K hK=>?_) AllReadyH.nil;refine zbk rfl (.tmp 37) (.tmp 39) 75 rfl (.slice o15 d c15) (.slice (some ⟨N4,0,none⟩) 1 1) _ _ (by go_simp) (by go_simp) (HR.out _) ?_;refine hK.out _ _ ?_ (fun hHeld5=>?_)
 · exact s5
 clear hK hHeld4;try simp only [gA,gB,gC,Act.put,gE,gF,gG]
 refine tk 8 ?_ rfl ?_ ?_;rotate_left
 · (intro w hs;(try dsimp only at hs);go_simp;try with_reducible rfl)
 try simp only [gA,gB,gC,Act.put,gE,gF,gG]
 refine tk 9 ?_ rfl ?_ ?_;rotate_left
 · (intro w hs;(try dsimp only at hs);go_simp;try with_reducible rfl)
 try simp only [gA,gB,gC,Act.put,gE,gF,gG]
 refine wpAnyH_done (by kernel_rfl) ?_ _;refine zbx.done ?_;refine wpOp_step (i:=10) rfl (fun K hK=>?_);have HK:=hid hK;clear hK;go_simp
 refine HK.out _ _ ?_;clear HK;clear hHeld5 s3 s4 s5;go_wp2;first|go_end0|((try simp only [Exit.inBlock,Exit.then]);refine bodyPost_ret (results_none rfl _ _ _) rfl ?_)
 exact ⟨⟨_,rfl⟩,HF⟩
end
end Go.Proofs.YtfcbjcebkahehaaGreatDoor.Cl
namespace Go.Proofs.YtfcbjcebkahehaaGreatDoor.Cl
open Go.RowKit
def zbq (now:Int) (x:Wt):Bool:=decide (x.fin<=now)
def tOut (now:Int) (x:Wt):Oc:=⟨x.seq,2,0,0,0,0,0,[],now⟩
def lenC (p:Nat) (w:World):Nat:=match w.cell? ⟨p,14,none⟩ with|some (.slice _ n _)=>n|_=>0
theorem bld80 (w:World):(Instr.build 80 #[(1,iI 2)]).run Tryz.prog w=.ok (.agg #[iI 0,iI 2,iI 0,iI 0,iI 0,iI 0,iI 0,.string ⟨#[]⟩,iI 0]) w:=by kernel_rfl
section
variable {K K' : Nat->Nat} {w w' : World} {B t p:Nat} {c:Cf} {oa:Option Addr} {cap:Nat} {next now:Int} {L:List Wt} {D:List Oc} {vw vd:Value} {q:Mq}
def TickR (K:Nat->Nat) (w w' : World) (B t p:Nat) (c:Cf) (oa:Option Addr) (cap:Nat) (next now:Int) (L:List Wt) (D:List Oc) (q:Mq) (L' : List Wt):Prop :=
 ∃ K' vw' vd' D',PC K' w' B t p c oa cap next now L' D' vw' vd' q∧L'.dropWhile (zbq now)=L.dropWhile (zbq now)∧D'++(L'.takeWhile (zbq now)).map (tOut now)=D++(L.takeWhile (zbq now)).map (tOut now)∧D'.length+L'.length=D.length+L.length∧Mv (fun u=>u=t∨u=t+1∨u=t+2) w w' K K'
theorem PC.tick_any (h:PC K w B t p c oa cap next now L D vw vd q) (hn:-1000000000000<=now∧now<=1000000000000) (hD:D.length+L.length<=100000000) :
 Calls Tryz.prog 21 #[ptr p] w fun e w'=>(∃ v,e=.returned v)∧Hid (∃ K' vw' vd',PC K' w' B t p c oa cap next (now+1) (L.dropWhile (zbq (now+1))) (D++(L.takeWhile (zbq (now+1))).map (tOut (now+1))) vw' vd' q∧Mv (fun u=>u=t∨u=t+1∨u=t+2) w w' K K'):=by
 have c13:=h.ce (k:=13) rfl;have f13:=h.fz 13;obtain ⟨w0,hw0⟩:∃ y,w.setCell ⟨p,13,none⟩ (iI (now+1))=y:=⟨_,rfl⟩;obtain ⟨P0,m0⟩:=h.now_ (now+1);rw [hw0] at P0 m0;obtain ⟨nw,hnw⟩:∃ nw,now+1=nw:=⟨_,rfl⟩;have hwr:wrap64 (now+1)=nw:=by rw [<- hnw];unfold wrap64;omega
 rw [hnw] at P0 hw0 ⊢;have Aa:Hid (TickR K w w0 B t p c oa cap next nw L D q L):=⟨K,vw,vd,D,P0,rfl,rfl,rfl,m0.mono (fun u e=>.inl e)⟩;have HD:=hid hD;clear h hn hD P0 m0 hnw;go_enter Tryz.func21,Tryz.ntmps21
 go_wp2_with fail
 go_loopw [] (fun wr=>∃ L',Hid (TickR K w wr B t p c oa cap next nw L D q L')) (fun wr=>lenC p wr)
 case atStart=>exact ⟨L,Aa⟩
 case round =>
  obtain ⟨L',HR⟩:=hrel;clear Aa c13 f13 hw0 hwr;obtain ⟨wo,hwo⟩:∃ yy,yy=wr:=⟨_,rfl⟩;subst hwo;obtain ⟨K1,vw1,vd1,D1,P1,e1,e2,e3,m1⟩:=HR.out;have c14:wo.cell? ⟨p,14,none⟩=some vw1:=P1.ce (k:=14) rfl;have d13:wo.cell? ⟨p,13,none⟩=some (iI nw):=P1.ce (k:=13) rfl;obtain ⟨o14,c14',ew,_,hg⟩:=P1.wr.form;rw [List.length_map] at ew hg;subst ew;cases L' with
  | nil =>
   have HF:Hid (∀ k,∃ K' vw' vd',PC K' (wo.drewN k) B t p c oa cap next nw (L.dropWhile (zbq nw)) (D++(L.takeWhile (zbq nw)).map (tOut nw)) vw' vd' q∧Mv (fun u=>u=t∨u=t+1∨u=t+2) w (wo.drewN k) K K'):=fun k=>by
    have e1' : L.dropWhile (zbq nw)=[]:=e1.symm;have e2' : D++(L.takeWhile (zbq nw)).map (tOut nw)=D1:=e2.symm.trans (List.append_nil D1);rw [e1',e2'];exact ⟨K1,_,_,P1.to (zak wo K1 k) (fun _ e=>e.elim),m1.trans ((zak wo K1 k).mono (fun _ e=>e.elim))⟩
   clear P1 e1 e2 e3 m1 HR hg d13;go_wp2_with fail
   go_quiet (fail)
   go_wp2;first|go_end0|((try simp only [Exit.inBlock,Exit.then]);refine bodyPost_ret (results_none rfl _ _ _) rfl ?_)
   exact ⟨⟨_,rfl⟩,HF.out _⟩
  | cons x L' =>
   obtain ⟨g,rfl⟩:=hg (by simp);obtain ⟨n,hlen⟩:∃ n,(x::L').length=n:=⟨_,rfl⟩;have x0:wo.cell? ⟨g,0,none⟩=some (ptr x.b):=by
    (have:=P1.wr.cell ptrL (by rw [List.length_map]) (j:=0) (x:=x.b) rfl 0 (by omega));simpa [ptrC] using this
   have x5:wo.cell? ⟨x.b,5,none⟩=some (iI x.fin):=zaa (P1.cs x (by simp)).me.at_ rfl;have hn0:(0:Int)<(n:Int):=by rw [<- hlen];simp
   have hnn:0<n:=by omega
   have hmz:lenC p wo=n:=by unfold lenC;rw [c14];exact hlen
   rw [hlen] at c14;obtain ⟨fin,hfin⟩:∃ fin,x.fin=fin:=⟨_,rfl⟩;rw [hfin] at x5;cases eo:decide (fin<=nw)
   · have HF:Hid (∀ k,∃ K' vw' vd',PC K' (wo.drewN k) B t p c oa cap next nw (L.dropWhile (zbq nw)) (D++(L.takeWhile (zbq nw)).map (tOut nw)) vw' vd' q∧Mv (fun u=>u=t∨u=t+1∨u=t+2) w (wo.drewN k) K K'):=fun k=>by
      have eb:zbq nw x=false:=(by unfold zbq;rw [hfin];exact eo);have e1' : L.dropWhile (zbq nw)=x::L':=e1.symm.trans (List.dropWhile_cons_of_neg (by simp [eb]));have e2' : D++(L.takeWhile (zbq nw)).map (tOut nw)=D1:=e2.symm.trans (by rw [List.takeWhile_cons_of_neg (by simp [eb])];exact List.append_nil D1);rw [e1',e2'];exact ⟨K1,_,_,P1.to (zak wo K1 k) (fun _ e=>e.elim),m1.trans ((zak wo K1 k).mono (fun _ e=>e.elim))⟩
     clear P1 e1 e2 e3 m1 HR hg hfin hlen hmz;(go_wp2_with fail);go_quiet (fail)
     go_wp2;(first|go_end0|((try simp only [Exit.inBlock,Exit.then]);refine bodyPost_ret (results_none rfl _ _ _) rfl ?_));exact ⟨⟨_,rfl⟩,HF.out _⟩
   · have HC:Hid (∀ k,Calls Tryz.prog 58 #[ptr p,iI 0,.agg #[iI 0,iI 2,iI 0,iI 0,iI 0,iI 0,iI 0,.string ⟨#[]⟩,iI 0]] (wo.drewN k) fun e w'=>(∃ v,e=.returned v)∧Hid (TickR K w w' B t p c oa cap next nw L D q L'∧lenC p w'<n)):=fun k=>by
      have P2:=P1.to (zak wo K1 k) (fun _ e=>e.elim);have hDD:=HD.out;refine (PC.finish_any (L1:=[]) (L2:=L') (x:=x) P2 ⟨0,2,0,0,0,0,0,[],0⟩ (by simp at e3;omega) (by simp)).mono ?_;rintro e w' ⟨he,hf⟩;obtain ⟨K',vw',vd',P3,m3⟩:=hf.out;refine ⟨he,⟨K',vw',vd',_,P3,?_,?_,?_,m1.trans (((zak wo K1 k).mono (fun _ e=>e.elim)).trans m3)⟩,?_⟩
      · have eb:zbq nw x=true:=(by unfold zbq;rw [hfin];exact eo);rw [<- e1,List.dropWhile_cons_of_pos eb]
        (try rfl)
      · have eb:zbq nw x=true:=(by unfold zbq;rw [hfin];exact eo);rw [<- e2,List.takeWhile_cons_of_pos eb];simp [tOut]
      · simp at e3 ⊢
        (try omega)
      · obtain ⟨o3,c3,ev,_,_⟩:=P3.wr.form;(have:=P3.ce (k:=14) rfl);unfold lenC;rw [this,ev,<- hlen];simp
     have hb80:=fun w=>bld80 w;clear P1 e1 e2 e3 m1 HR hg hfin hlen;(go_wp2_with fail);go_quiet (fail)
     (go_wp2_with fail);refine (HC.out _).mono ?_;rintro _ w3 ⟨⟨v,rfl⟩,H3⟩;clear HC;go_wp2;go_roundw
     case rel =>
      exact ⟨L',H3.out.1⟩
     case measure=>rw [hmz];exact H3.out.2
end
end Go.Proofs.YtfcbjcebkahehaaGreatDoor.Cl
namespace Go.Proofs.YtfcbjcebkahehaaGreatDoor.Cl
set_option linter.unusedSimpArgs false
open Go.RowKit
structure Pk where
 src:Int
 dst:Int
 data:List UInt8
def pkC (x:Pk):List Value:=[iI x.src,iI x.dst,.string ⟨x.data.toArray⟩]
theorem pkL (x:Pk):(pkC x).length=3:=rfl
theorem pkO (x:Pk):∀ u∈pkC x,u.oneCell'=true:=by
 intro u hu;simp only [pkC,List.mem_cons,List.not_mem_nil,or_false] at hu;rcases hu with rfl|rfl|rfl <;> rfl
theorem info78:∃ i z,Tryz.prog.info? 78=some i∧i.zero=some z∧i.size=3∧i.bytes=32∧z.cells.size=3 :=
 ⟨(Tryz.prog.info? 78).getD default,.agg #[iI 0,iI 0,.string ⟨#[]⟩],by kernel_rfl,by kernel_rfl,by kernel_rfl,by kernel_rfl,by kernel_rfl⟩
theorem under73:Tryz.prog.underlying 73=some (.slice 78):=by kernel_rfl
theorem bls73 (v0 v1:Int) (s:ByteArray) (w:World):(Instr.buildSlice 73 1 #[(0,.agg #[iI v0,iI v1,.string s])]).run Tryz.prog w=.ok (.slice (some ⟨w.heap.size,0,none⟩) 1 1) (w.alloc (.cells #[iI v0,iI v1,.string s] 78)):=by kernel_rfl
theorem app73 {K:Nat->Nat} {w:World} {B t:Nat} {v:Value} {l:List Pk} (h:RW 78 3 pkC K w B t v l) (hB:B<=w.heap.size) {N:Nat} {x:Pk} (hb:w.heap[N]?=some (.cells (pkC x).toArray 78 (0,0))) (hl:l.length<=100000000) :
 ∃ v' w' K',(∀ r,(Builtin.append_ #[73,73] r #[v,.slice (some ⟨N,0,none⟩) 1 1]).run Tryz.prog w=.ok v' w')∧RW 78 3 pkC K' w' B t v' (l++[x])∧Mv (fun x=>x=t) w w' K K':=by
 obtain ⟨i,z,hi,hz,hs,hby,hzs⟩:=info78;exact RW.app (ty:=73) under73 hi hz hs hby hzs (by omega) pkL pkO h hB (N:=N) (x:=x) (cs:=(pkC x).toArray) rfl hb (by omega) (by omega)
def dueW (c:Cf) (now:Int) (x:Wt):Bool:=dueB c.pt now x.snd x.due
def givW (c:Cf) (now:Int) (x:Wt):Wt:={ x with snd:=(runG c.pb c.pc c.pt now 40 (x.snd,x.due)).1,due:=(runG c.pb c.pc c.pt now 40 (x.snd,x.due)).2,tms:=x.tms+1,last:=now }
def dueL (c:Cf) (now:Int) (L:List Wt):List Wt:=L.map fun x=>if dueW c now x then givW c now x else x
def pksL (c:Cf) (water now:Int) (L:List Wt):List Pk:=(L.filter (dueW c now)).map fun x=>⟨c.ad,x.dst,x.data c water⟩
theorem zel (c:Cf) (now:Int) (L:List Wt):(dueL c now L).length=L.length:=by simp [dueL]
theorem zh6 (c:Cf) (now:Int) (A R:List Wt):dueL c now (A++R)=dueL c now A++dueL c now R:=by simp [dueL]
theorem pksL_app (c:Cf) (water now:Int) (A R:List Wt):pksL c water now (A++R)=pksL c water now A++pksL c water now R:=by simp [pksL]
theorem pksL_len (c:Cf) (water now:Int) (L:List Wt):(pksL c water now L).length<=L.length:=by
 unfold pksL;rw [List.length_map];exact List.length_filter_le _ _
theorem water_due (c:Cf) (next now:Int) (A R:List Wt):zaz next (dueL c now A++R)=zaz next (A++R):=by
 cases A with
 | nil=>rfl
 | cons x A =>
  show (if dueW c now x then givW c now x else x).seq=x.seq;split <;> rfl
def Wt.fine (x:Wt):Prop:=0<=x.snd∧(-1000000000000<=x.due∧x.due<=1000000000000)∧(0<=x.tms∧x.tms<=1000000000000)∧x.args.length<=1000
section
variable {K K' : Nat->Nat} {w w' : World} {B t p:Nat} {c:Cf} {oa:Option Addr} {cap:Nat} {next now:Int} {L:List Wt} {D:List Oc} {vw vd:Value} {q:Mq}
theorem PC.toOther {tp:Nat} (h:PC K w B t p c oa cap next now L D vw vd q) (m:Mv (fun u=>u=tp) w w' K K') (ht:t+8<tp):PC K' w' B t p c oa cap next now L D vw vd q:=h.to m (fun t' e=>by omega)
structure DueR (K:Nat->Nat) (w w' : World) (B t p tp:Nat) (c:Cf) (oa:Option Addr) (cap:Nat) (next now:Int) (L:List Wt) (D:List Oc) (vw vd:Value) (q:Mq) (A R:List Wt) (v:Value):Prop where
 ex:∃ K',PC K' w' B t p c oa cap next now (dueL c now A++R) D vw vd q∧RW 78 3 pkC K' w' B tp v (pksL c (zaz next L) now A)∧Mv (fun u=>u=t+3∨u=tp) w w' K K'
 is:A++R=L
theorem PC.due_any (h:PC K w B t p c oa cap next now L D vw vd q) (tp:Nat) (htp:t+8<tp) (hX:∀ x∈L,x.fine) (hL:L.length<=100000000) :
 Calls Tryz.prog 20 #[ptr p] w fun e w'=>∃ v,e=.returned v∧Hid (∃ K',PC K' w' B t p c oa cap next now (dueL c now L) D vw vd q∧RW 78 3 pkC K' w' B tp v (pksL c (zaz next L) now L)∧Mv (fun u=>u=t+3∨u=tp) w w' K K'):=by
 have hok:=h.ok;have hpt:c.pt<=32∧c.sys.groups.length<=16:=by
  unfold okC Pc.rightP at hok;simp only [Bool.and_eq_true,decide_eq_true_eq,inB,Pc.inB] at hok;refine ⟨by omega,?_⟩;have:=hok.1
  exact this.2.2.2.2.1
 have c14:w.cell? ⟨p,14,none⟩=some vw:=h.ce (k:=14) rfl;obtain ⟨o14,c14',ew,_,hg⟩:=h.wr.form;rw [List.length_map] at ew hg;subst ew;obtain ⟨n,hn⟩:∃ n,L.length=n:=⟨_,rfl⟩;have hnI:(n:Int)<=100000000:=by omega
 have HG:=hid hg;have HN:=hid hn;have HC:Hid (c.pt<=32∧c.sys.groups.length<=16∧n<=100000000∧t+8<tp):=⟨hpt.1,hpt.2,by omega,htp⟩;have HX:=hid hX;rw [hn] at c14;have Ab:Hid (DueR K w w B t p tp c oa cap next now L D (.slice o14 L.length c14') vd q [] L (.slice none 0 0)):=⟨⟨K,h,RW.nil _ _ _ _ _ _ _,Mv.refl _ _ _⟩,rfl⟩;rw [hn] at Ab;clear h hok hpt hg hn hL hX htp;go_enter Tryz.func20,Tryz.ntmps20
 go_wp2_with fail
 go_loopw [3,11] (fun u3 u11 wr=>∃ (A R:List Wt) (j:Nat),u11=iI (j:Int)∧j<=n∧Hid (A.length=j∧DueR K w wr B t p tp c oa cap next now L D (.slice o14 n c14') vd q A R u3)) (fun _ u11 _=>n - (intOf u11).toNat)
 case atStart=>exact ⟨[],L,0,rfl,by omega,rfl,Ab.out⟩
 case round =>
  obtain ⟨A,R,j,rfl,hjn,HR⟩:=hrel;clear Ab c14;obtain ⟨wo,hwo⟩:∃ yy,yy=wr:=⟨_,rfl⟩;subst hwo;obtain ⟨⟨K1,P1,R1,m1⟩,hAR⟩:=HR.out.2;have hjA:=HR.out.1;have hle:A.length+R.length=n:=by rw [<- HN.out,<- hAR];simp
  cases R with
  | nil =>
   have hj:j=n:=by simp at hle;omega
   subst hj;have HF:Hid (∃ K',PC K' wo B t p c oa cap next now (dueL c now L) D (.slice o14 j c14') vd q∧RW 78 3 pkC K' wo B tp u3 (pksL c (zaz next L) now L)∧Mv (fun u=>u=t+3∨u=tp) w wo K K'):=by
    rw [List.append_nil] at hAR;subst hAR;exact ⟨K1,by simpa using P1,R1,m1⟩
   clear P1 R1 m1 hAR hjA hle HR HX HG;go_wp2;go_ret;exact ⟨_,rfl,by rw [HN.out];exact HF.out⟩
  | cons x R =>
   have hjl:j<n:=by simp at hle;omega
   have hji:(j:Int)<(n:Int):=by omega
   obtain ⟨g,rfl⟩:=HG.out (by rw [HN.out];omega);have hxL:x∈L:=by rw [<- hAR];simp
   have hxf:=HX.out x hxL;have xg:wo.cell? ⟨g,j,none⟩=some (ptr x.b):=by
    have hl2:((dueL c now A++x::R).map Wt.b).length=n:=(by rw [List.length_map,List.length_append,zel];exact hle);(have:=P1.wr.cell ptrL hl2 (j:=j) (x:=x.b) (by rw [List.map_append,List.getElem?_append_right (by simp [zel];omega)];simp [zel,hjA]) 0 (by omega));simpa [ptrC] using this
   have s0:wo.drew.cell? ⟨p,4,none⟩=some (iI c.pb)∧wo.drew.cell? ⟨p,5,none⟩=some (iI c.pc)∧wo.drew.cell? ⟨p,6,none⟩=some (iI c.pt)∧wo.drew.cell? ⟨p,13,none⟩=some (iI now):=⟨P1.ce (k:=4) rfl,P1.ce (k:=5) rfl,P1.ce (k:=6) rfl,P1.ce (k:=13) rfl⟩;have hx:=P1.cs x (by simp);have HD:=hid (isDue_any c.pb c.pc c.pt now x.snd x.due x.b wo.drew (zaa (w:=wo.drew) hx.me.at_ rfl) (zaa (w:=wo.drew) hx.me.at_ rfl));obtain ⟨bd,hbd⟩:∃ bd,dueB c.pt now x.snd x.due=bd:=⟨_,rfl⟩;rw [hbd] at HD;have hj1:wrap64 ((j:Int)+1)=(j:Int)+1:=zb0 (by have:=HC.out;omega);have Ac:Hid (∀ w1,Below wo.drew.heap.size wo.drew w1->bd=false->DueR K w w1 B t p tp c oa cap next now L D (.slice (some ⟨g,0,none⟩) n c14') vd q (A++[x]) R u3):=fun w1 hb hf=>by
    have b1:Below wo.heap.size wo w1:=⟨hb.os,hb.tape,hb.output,hb.size,hb.block⟩;have hdw:dueW c now x=false:=(by unfold dueW;rw [hbd];exact hf);have mB:=Mv.of_below b1 K1 (fun _=>t+7);refine ⟨⟨_,?_,?_,m1.trans (mB.mono (fun _ e=>e.elim))⟩,by rw [List.append_assoc];exact hAR⟩
    · (have:=P1.below b1 (fun _=>t+7));rw [zh6];simpa [dueL,hdw] using this
    · rw [pksL_app];have:pksL c (zaz next L) now [x]=[]:=by simp [pksL,hdw]
      rw [this,List.append_nil];exact R1.mv mB (fun e=>e)
   have Aa:Hid (∀ w1,Below wo.drew.heap.size wo.drew w1->bd=true->PC (ext wo K1 (fun _=>t+7)) w1 B t p c oa cap next now (dueL c now A++x::R) D (.slice (some ⟨g,0,none⟩) n c14') vd q∧RW 78 3 pkC (ext wo K1 (fun _=>t+7)) w1 B tp u3 (pksL c (zaz next L) now A)∧Mv (fun u=>u=t+3∨u=tp) w w1 K (ext wo K1 (fun _=>t+7))∧dueW c now x=true):=fun w1 hb hf=>by
    have b1:Below wo.heap.size wo w1:=⟨hb.os,hb.tape,hb.output,hb.size,hb.block⟩;have mB:=Mv.of_below b1 K1 (fun _=>t+7);exact ⟨P1.below b1 (fun _=>t+7),R1.mv mB (fun e=>e),m1.trans (mB.mono (fun _ e=>e.elim)),by unfold dueW;rw [hbd];exact hf⟩
   have HA:=hid (And.intro hjA (And.intro hAR hxf));clear P1 R1 m1 hAR hjA hle hxL hxf hbd hx HR HX HG HN;generalize ext wo K1 (fun _=>t+7)=K2 at Aa;go_wp2_with fail
   refine zah (S:=fun w'=>w'.cell? ⟨p,4,none⟩=some (iI c.pb)∧w'.cell? ⟨p,5,none⟩=some (iI c.pc)∧w'.cell? ⟨p,6,none⟩=some (iI c.pt)∧w'.cell? ⟨p,13,none⟩=some (iI now)) (n:=10) (by kernel_rfl) rfl (by kernel_rfl) (by kernel_rfl) ?_ (fun hHeld=>?_)
   · exact s0
   refine tk 0 ?_ rfl ?_ ?_;rotate_left
   · (intro w hs;(try dsimp only at hs);go_simp;try with_reducible rfl)
   try simp only [gA,gB,gC,Act.put,gE,gF,gG]
   refine tk 1 ?_ rfl ?_ ?_;rotate_left
   · (intro w hs;(try dsimp only at hs);go_simp;try with_reducible rfl)
   try simp only [gA,gB,gC,Act.put,gE,gF,gG]
   refine tk 2 ?_ rfl ?_ ?_;rotate_left
   · (intro w hs;(try dsimp only at hs);go_simp;try with_reducible rfl)
   try simp only [gA,gB,gC,Act.put,gE,gF,gG]
   refine tk 3 ?_ rfl ?_ ?_;rotate_left
   · (intro w hs;(try dsimp only at hs);go_simp;try with_reducible rfl)
   try simp only [gA,gB,gC,Act.put,gE,gF,gG]
   refine tk 4 ?_ rfl ?_ ?_;rotate_left
   · (intro w hs;(try dsimp only at hs);go_simp;try with_reducible rfl)
   try simp only [gA,gB,gC,Act.put,gE,gF,gG]
   refine tk 5 ?_ rfl ?_ ?_;rotate_left
   · (intro w hs;(try dsimp only at hs);go_simp;try with_reducible rfl)
   try simp only [gA,gB,gC,Act.put,gE,gF,gG]
   refine tk 6 ?_ rfl ?_ ?_;rotate_left
   · (intro w hs;(try dsimp only at hs);go_simp;try with_reducible rfl)
   try simp only [gA,gB,gC,Act.put,gE,gF,gG]
   refine tk 7 ?_ rfl ?_ ?_;rotate_left
   · (intro w hs;(try dsimp only at hs);go_simp;try with_reducible rfl)
   try simp only [gA,gB,gC,Act.put,gE,gF,gG]
   refine tk 8 ?_ rfl ?_ ?_;rotate_left
   · (intro w hs;(try dsimp only at hs);go_simp;try with_reducible rfl)
   try simp only [gA,gB,gC,Act.put,gE,gF,gG]
   refine tk 9 ?_ rfl ?_ ?_;rotate_left
   · (intro w hs;(try dsimp only at hs);go_simp;try with_reducible rfl)
   try simp only [gA,gB,gC,Act.put,gE,gF,gG]
   refine wpAnyH_done (by kernel_rfl) ?_ _;refine zbx.done ?_;refine wpOp_step (i:=10) rfl (fun KK hK=>?_);have HK:=hid hK;clear hK;go_simp
   refine HD.out.mono ?_;rintro _ w1 ⟨rfl,hb1⟩;refine HK.out _ _ ?_;clear HK s0 xg;cases bd
   · have HZ:=hid (Ac.out w1 hb1 rfl);clear Ac Aa hb1 HD;go_wp2;go_roundw
     case rel=>exact ⟨A++[x],R,j+1,by simp,by omega,by have:=HA.out.1;simp;omega,HZ.out⟩
     case measure=>exact meas rfl hji
   · obtain ⟨P2,R2,m2,hdw⟩:=Aa.out w1 hb1 rfl;have HV:=hid (give_any x.b (iI x.seq) (iI x.dst) x.fn c.pb c.pc c.pt now x.snd x.due x.fin x.tms x.last w1.drew (P2.cs x (by simp)).me.at_ HA.out.2.2.1 HC.out.1 HA.out.2.2.2.1 HA.out.2.2.2.2.1);have s1:w1.drew.cell? ⟨p,4,none⟩=some (iI c.pb)∧w1.drew.cell? ⟨p,5,none⟩=some (iI c.pc)∧w1.drew.cell? ⟨p,6,none⟩=some (iI c.pt)∧w1.drew.cell? ⟨p,13,none⟩=some (iI now):=⟨P2.ce (k:=4) rfl,P2.ce (k:=5) rfl,P2.ce (k:=6) rfl,P2.ce (k:=13) rfl⟩;have HT:Hid (∀ w2,w2.heap[x.b]?=some (gvB (iI x.seq) (iI x.dst) x.fn (runG c.pb c.pc c.pt now 40 (x.snd,x.due)).1 (runG c.pb c.pc c.pt now 40 (x.snd,x.due)).2 x.fin (x.tms+1) now)->w1.drew.grownBy w2 (some x.b)->∃ K3,PC K3 w2 B t p c oa cap next now (dueL c now A++givW c now x::R) D (.slice (some ⟨g,0,none⟩) n c14') vd q∧RW 78 3 pkC K3 w2 B tp u3 (pksL c (zaz next L) now A)∧Mv (fun u=>u=t+3∨u=tp) w w2 K K3):=fun w2 hb hgr=>by
      have htp:=HC.out.2.2.2;have hgr' : w1.grownBy w2 (some x.b):=⟨hgr.os,hgr.tape,hgr.output,hgr.size,hgr.block⟩;obtain ⟨P3,m3⟩:=P2.upd (x':=givW c now x) (w':=w2) ⟨rfl,rfl,rfl,rfl,rfl,rfl⟩ hb hgr';exact ⟨_,P3,R2.mv m3 (by omega),m2.trans (m3.mono (fun u e=>.inl e))⟩
     clear Ac Aa hb1 HD P2 R2 m2;(go_wp2_with fail);refine zah (S:=fun w'=>w'.cell? ⟨p,4,none⟩=some (iI c.pb)∧w'.cell? ⟨p,5,none⟩=some (iI c.pc)∧w'.cell? ⟨p,6,none⟩=some (iI c.pt)∧w'.cell? ⟨p,13,none⟩=some (iI now)) (n:=10) (by kernel_rfl) rfl (by kernel_rfl) (by kernel_rfl) ?_ (fun hHeld6=>?_)
     · exact s1
     refine tk 0 ?_ rfl ?_ ?_;rotate_left
     · (intro w hs;(try dsimp only at hs);go_simp;try with_reducible rfl)
     (try simp only [gA,gB,gC,Act.put,gE,gF,gG]);refine tk 1 ?_ rfl ?_ ?_;rotate_left
     · (intro w hs;(try dsimp only at hs);go_simp;try with_reducible rfl)
     (try simp only [gA,gB,gC,Act.put,gE,gF,gG]);refine tk 2 ?_ rfl ?_ ?_;rotate_left
     · (intro w hs;(try dsimp only at hs);go_simp;try with_reducible rfl)
     (try simp only [gA,gB,gC,Act.put,gE,gF,gG]);refine tk 3 ?_ rfl ?_ ?_;rotate_left
     · (intro w hs;(try dsimp only at hs);go_simp;try with_reducible rfl)
     (try simp only [gA,gB,gC,Act.put,gE,gF,gG]);refine tk 4 ?_ rfl ?_ ?_;rotate_left
     · (intro w hs;(try dsimp only at hs);go_simp;try with_reducible rfl)
     (try simp only [gA,gB,gC,Act.put,gE,gF,gG]);refine tk 5 ?_ rfl ?_ ?_;rotate_left
     · (intro w hs;(try dsimp only at hs);go_simp;try with_reducible rfl)
     (try simp only [gA,gB,gC,Act.put,gE,gF,gG]);refine tk 6 ?_ rfl ?_ ?_;rotate_left
     · (intro w hs;(try dsimp only at hs);go_simp;try with_reducible rfl)
     (try simp only [gA,gB,gC,Act.put,gE,gF,gG]);refine tk 7 ?_ rfl ?_ ?_;rotate_left
     · (intro w hs;(try dsimp only at hs);go_simp;try with_reducible rfl)
     (try simp only [gA,gB,gC,Act.put,gE,gF,gG]);refine tk 8 ?_ rfl ?_ ?_;rotate_left
     · (intro w hs;(try dsimp only at hs);go_simp;try with_reducible rfl)
     (try simp only [gA,gB,gC,Act.put,gE,gF,gG]);refine tk 9 ?_ rfl ?_ ?_;rotate_left
     · (intro w hs;(try dsimp only at hs);go_simp;try with_reducible rfl)
     (try simp only [gA,gB,gC,Act.put,gE,gF,gG]);refine wpAnyH_done (by kernel_rfl) ?_ _;refine zbx.done ?_;refine wpOp_step (i:=10) rfl (fun KK hK=>?_);have HK:=hid hK;clear hK;go_simp
     refine HV.out.mono ?_;rintro _ w2 ⟨⟨v6,rfl⟩,hb2,hg2⟩;refine HK.out _ _ ?_;obtain ⟨K3,P3,R3,m3⟩:=HT.out w2 hb2 hg2;clear HK s1 HV HT hb2 hg2;have hx3:=P3.cs (givW c now x) (by simp);have s3:w2.drew.cell? ⟨x.b,2,none⟩=some (.func (.func 93) #[] #[ptr x.bx,ptr x.bc,ptr x.bt]):=zaa (w:=w2.drew) hx3.me.at_ rfl;have hwa:zaz next (dueL c now A++givW c now x::R)=zaz next L:=by
      rw [<- HA.out.2.1];have h1:=water_due c next now (A++[x]) R;rw [zh6] at h1;simpa [dueL,hdw] using h1
     have HW:Hid (Calls Tryz.prog 23 #[ptr p] w2.drew fun e w'=>e=.returned (iI (zaz next L))∧w'=w2.drew):=by
      (have:=(P3.to (zak w2 K3 1) (fun _ e=>e.elim)).water_any);rw [hwa] at this;exact this
     obtain ⟨wt,hwt⟩:∃ wt,zaz next L=wt:=⟨_,rfl⟩;rw [hwt] at HW R3;have HQ:Hid (Calls Tryz.prog 93 #[iI wt,ptr x.bx,ptr x.bc,ptr x.bt] w2.drew fun e w'=>e=.returned (.agg #[iI c.ad,iI x.dst,.string ⟨((givW c now x).data c wt).toArray⟩])∧Below w2.heap.size w2 w'):=by
      have hP:=P3.to (zak w2 K3 1) (fun _ e=>e.elim);have hl:=HC.out.2.1;refine ((hP.cs (givW c now x) (by simp)).request_any wt hP.err hP.gs.at_ hP.gl (by omega) HA.out.2.2.2.2.2).mono ?_;rintro e w' ⟨e1,hb⟩;exact ⟨e1,hb.os,hb.tape,hb.output,hb.size,hb.block⟩
     obtain ⟨dat,hdat⟩:∃ dat:ByteArray,(⟨((givW c now x).data c wt).toArray⟩:ByteArray)=dat:=⟨_,rfl⟩;rw [hdat] at HQ;have HT:Hid (∀ w3,Below w2.heap.size w2 w3->(w3.cell? ⟨x.b,2,none⟩=some (.func (.func 93) #[] #[ptr x.bx,ptr x.bc,ptr x.bt]))∧∀ w4 N4,w3.heap.size=N4->w3.alloc (.cells #[iI c.ad,iI x.dst,.string dat] 78)=w4->(w4.cell? ⟨x.b,2,none⟩=some (.func (.func 93) #[] #[ptr x.bx,ptr x.bc,ptr x.bt]))∧∃ v5 w5,(∀ r,(Builtin.append_ #[73,73] r #[u3,.slice (some ⟨N4,0,none⟩) 1 1]).run Tryz.prog w4=.ok v5 w5)∧(w5.cell? ⟨x.b,2,none⟩=some (.func (.func 93) #[] #[ptr x.bx,ptr x.bc,ptr x.bt]))∧DueR K w w5 B t p tp c oa cap next now L D (.slice (some ⟨g,0,none⟩) n c14') vd q (A++[x]) R v5):=fun w3 hb3=>by
      have htp:=HC.out.2.2.2;refine ⟨zaa ((hb3.block x.b hx3.me.lt).trans hx3.me.at_) rfl,fun w4 N4 hN4 hw4=>?_⟩;have hb4:Below w2.heap.size w2 w4:=(by rw [<- hw4];exact hb3.alloc hb3.size _);have m4:=Mv.of_below hb4 K3 (fun _=>t+8);have P4:=P3.below hb4 (fun _=>t+8);have R4:=R3.mv m4 (fun e=>e);generalize ext w2 K3 (fun _=>t+8)=K4 at m4 P4 R4;have hN:w4.heap[N4]?=some (.cells (pkC ⟨c.ad,x.dst,(givW c now x).data c wt⟩).toArray 78):=(by rw [<- hw4,<- hN4,<- hdat];exact (MapKept.heap_alloc w3 _).1);obtain ⟨v5,w5,K5,hr,R5,m5⟩:=app73 R4 P4.hB hN (by have:=pksL_len c wt now A;have:=HC.out.2.2.1;have:=HA.out.1;omega);have P5:=P4.toOther m5 htp;refine ⟨zaa ((hb4.block x.b hx3.me.lt).trans hx3.me.at_) rfl,v5,w5,hr,zaa (P5.cs (givW c now x) (by simp)).me.at_ rfl,⟨⟨K5,?_,?_,m3.trans ((m4.mono (fun _ e=>e.elim)).trans (m5.mono (fun u e=>.inr e)))⟩,by rw [List.append_assoc];exact HA.out.2.1⟩⟩
      · rw [zh6];simpa [dueL,hdw] using P5
      · rw [pksL_app,hwt];have:pksL c wt now [x]=[⟨c.ad,x.dst,(givW c now x).data c wt⟩]:=by simp [pksL,hdw];rfl
        rw [this];exact R5
     have hb73:=fun v0 v1 s w=>bls73 v0 v1 s w;clear P3 R3 m3 hx3 hwa hwt hdat hdw;(go_wp2_with fail);refine zah (S:=fun w'=>w'.cell? ⟨x.b,2,none⟩=some (.func (.func 93) #[] #[ptr x.bx,ptr x.bc,ptr x.bt])) (n:=10) (by kernel_rfl) rfl (by kernel_rfl) (by kernel_rfl) ?_ (fun hHeld7=>?_)
     · exact s3
     refine tk 0 ?_ rfl ?_ ?_;rotate_left
     · (intro w hs;(try dsimp only at hs);go_simp;try with_reducible rfl)
     (try simp only [gA,gB,gC,Act.put,gE,gF,gG]);refine tk 1 ?_ rfl ?_ ?_;rotate_left
     · (intro w hs;(try dsimp only at hs);go_simp;try with_reducible rfl)
     (try simp only [gA,gB,gC,Act.put,gE,gF,gG]);refine tk 2 ?_ rfl ?_ ?_;rotate_left
     · (intro w hs;(try dsimp only at hs);go_simp;try with_reducible rfl)
     (try simp only [gA,gB,gC,Act.put,gE,gF,gG]);refine tk 3 ?_ rfl ?_ ?_;rotate_left
     · (intro w hs;(try dsimp only at hs);go_simp;try with_reducible rfl)
     (try simp only [gA,gB,gC,Act.put,gE,gF,gG]);refine tk 4 ?_ rfl ?_ ?_;rotate_left
     · (intro w hs;(try dsimp only at hs);go_simp;try with_reducible rfl)
     (try simp only [gA,gB,gC,Act.put,gE,gF,gG]);refine tk 5 ?_ rfl ?_ ?_;rotate_left
     · (intro w hs;(try dsimp only at hs);go_simp;try with_reducible rfl)
     (try simp only [gA,gB,gC,Act.put,gE,gF,gG]);refine rd 6 rfl (fun KK hK=>?_);go_simp
     refine HW.out.mono ?_;rintro _ _ ⟨rfl,rfl⟩;refine hK.out _ _ ?_ (fun hHeld8=>?_)
     · exact s3
     clear hK hHeld7;(try simp only [gA,gB,gC,Act.put,gE,gF,gG]);refine rd 7 rfl (fun KK hK=>?_);go_simp
     refine HQ.out.mono ?_;rintro _ w3 ⟨rfl,hb3⟩;obtain ⟨s4,ht4⟩:=HT.out w3 hb3;obtain ⟨N4,hN4⟩:∃ y,w3.heap.size=y:=⟨_,rfl⟩;obtain ⟨w4,hw4⟩:∃ y,w3.alloc (.cells #[iI c.ad,iI x.dst,.string dat] 78)=y:=⟨_,rfl⟩;obtain ⟨s5,v5,w5,r5,s6,hfin⟩:=ht4 w4 N4 hN4 hw4;have Ad:=hid r5;have Ae:=hid hfin;clear r5 hfin ht4 hb3 HT;refine hK.out _ _ ?_ (fun hHeld9=>?_)
     · exact s4
     clear hK hHeld8;(try simp only [gA,gB,gC,Act.put,gE,gF,gG]);refine rd 8 rfl (fun KK hK=>?_);go_simp
     refine hK.out _ _ ?_ (fun hHeld10=>?_)
     · exact s5
     clear hK hHeld9;(try simp only [gA,gB,gC,Act.put,gE,gF,gG]);refine rd 9 rfl (fun KK hK=>?_);refine zbk rfl (.tmp 37) (.tmp 45) 73 rfl u3 (.slice (some ⟨N4,0,none⟩) 1 1) _ _ (by go_simp) (by go_simp) (Ad.out _) ?_;refine hK.out _ _ ?_ (fun hHeld11=>?_)
     · exact s6
     clear hK hHeld10;(try simp only [gA,gB,gC,Act.put,gE,gF,gG]);refine wpAnyH_done (by kernel_rfl) ?_ _;refine zbx.done ?_;refine wpOp_step (i:=10) rfl (fun KK hK=>?_);have HK:=hid hK;clear hK;go_simp
     refine HK.out _ _ ?_;clear HK;go_wp2;go_roundw
     case rel=>exact ⟨A++[x],R,j+1,by simp,by omega,by have:=HA.out.1;simp;omega,Ae.out⟩
     case measure=>exact meas rfl hji
end
end Go.Proofs.YtfcbjcebkahehaaGreatDoor.Cl
namespace Go.Proofs.YtfcbjcebkahehaaGreatDoor.Cl
open Go.RowKit
def hitW (n src:Int) (x:Wt):Bool:=decide (x.seq=n)&&decide (x.dst=src)
theorem hit_any (b rb sb:Nat) (seq dst n src:Int) (w:World) (h0:w.cell? ⟨b,0,none⟩=some (iI seq)) (h1:w.cell? ⟨b,1,none⟩=some (iI dst)) (hr:w.cell? ⟨rb,0,none⟩=some (iI n)) (hs:w.cell? ⟨sb,0,none⟩=some (iI src)) :
 Calls Tryz.prog 85 #[ptr b,ptr rb,ptr sb] w fun e w'=>e=.returned (.bool (decide (seq=n)&&decide (dst=src)))∧∃ k,w'=w.drewN k:=by
 by_cases e1:seq=n
 · subst e1;by_cases e2:dst=src
   · subst e2;(go_enter Tryz.func85,Tryz.ntmps85);(go_wp2_with fail);go_quiet (fail)
     go_wp2;go_ret;exact ⟨by simp,_,rfl⟩
   · have e3:(dst==src)=false:=(by simpa using e2);(go_enter Tryz.func85,Tryz.ntmps85);(go_wp2_with fail);go_quiet (fail)
     go_wp2;go_ret;exact ⟨by simp [e2],_,rfl⟩
 · have e3:(seq==n)=false:=by simpa using e1
   go_enter Tryz.func85,Tryz.ntmps85
   go_wp2_with fail
   go_quiet (fail)
   go_wp2;go_ret;exact ⟨by simp [e1],_,rfl⟩
section
variable {K K' : Nat->Nat} {w w' : World} {B t p:Nat} {c:Cf} {oa:Option Addr} {cap:Nat} {next now:Int} {L:List Wt} {D:List Oc} {vw vd:Value} {q:Mq}
theorem PC.index_any (h:PC K w B t p c oa cap next now L D vw vd q) (rb sb:Nat) (m src:Int) (hr:w.cell? ⟨rb,0,none⟩=some (iI m)) (hs:w.cell? ⟨sb,0,none⟩=some (iI src)) (hL:L.length<=100000000) :
 Calls Tryz.prog 84 #[vw,.func (.func 85) #[] #[ptr rb,ptr sb]] w fun e w'=>(∃ k,w'=w.drewN k)∧((∃ A x R,L=A++x::R∧e=.returned (iI (A.length:Int))∧hitW m src x=true∧∀ y∈A,hitW m src y=false)∨(e=.returned (iI (-1))∧∀ y∈L,hitW m src y=false)):=by
 obtain ⟨o14,c14',ew,_,hg⟩:=h.wr.form;rw [List.length_map] at ew hg;subst ew;obtain ⟨n,hn⟩:∃ n,L.length=n:=⟨_,rfl⟩;have HH:Hid (PC K w B t p c oa cap next now L D (.slice o14 n c14') vd q∧w.cell? ⟨rb,0,none⟩=some (iI m)∧w.cell? ⟨sb,0,none⟩=some (iI src)∧n<=100000000):=⟨by rw [<- hn];exact h,hr,hs,by omega⟩;have HG:=hid hg;have HN:=hid hn;rw [hn];clear h hr hs hg hn hL;go_enter Tryz.func84,Tryz.ntmps84
 go_wp2_with fail
 go_loopw [8] (fun u8 wr=>∃ (A R:List Wt) (j:Nat),u8=iI (j:Int)∧j<=n∧Hid (A.length=j∧A++R=L∧(∀ y∈A,hitW m src y=false)∧∃ k,wr=w.drewN k)) (fun u8 _=>n - (intOf u8).toNat)
 case atStart=>exact ⟨[],L,0,rfl,by omega,rfl,rfl,by simp,0,rfl⟩
 case round =>
  obtain ⟨A,R,j,rfl,hjn,HR⟩:=hrel;obtain ⟨wo,hwo⟩:∃ yy,yy=wr:=⟨_,rfl⟩;subst hwo;obtain ⟨hjA,hAR,hall,k,hk⟩:=HR.out;have hle:A.length+R.length=n:=by rw [<- HN.out,<- hAR];simp
  cases R with
  | nil =>
   have hj:j=n:=by simp at hle;omega
   subst hj;have HF:Hid ((∃ k,wo=w.drewN k)∧∀ y∈L,hitW m src y=false):=⟨⟨k,hk⟩,by rw [<- hAR,List.append_nil];exact hall⟩;clear hjA hAR hall hk hle HR HH HG;go_wp2;go_ret;exact ⟨HF.out.1,.inr ⟨rfl,HF.out.2⟩⟩
  | cons x R =>
   have hjl:j<n:=by simp at hle;omega
   have hji:(j:Int)<(n:Int):=by omega
   obtain ⟨g,rfl⟩:=HG.out (by rw [HN.out];omega);obtain ⟨P,hr,hs,hnb⟩:=HH.out;have hx:=P.cs x (by rw [<- hAR];simp);have xg:wo.cell? ⟨g,j,none⟩=some (ptr x.b):=by
    (have:=P.wr.cell ptrL (by rw [List.length_map];exact HN.out) (j:=j) (x:=x.b) (by rw [<- hAR,List.map_append,List.getElem?_append_right (by simp;omega)];simp [hjA]) 0 (by omega));rw [hk];show w.cell? _=_;simpa [ptrC] using this
   have HC:=hid (hit_any x.b rb sb x.seq x.dst m src wo (by rw [hk];exact zaa (w:=w) hx.me.at_ rfl) (by rw [hk];exact zaa (w:=w) hx.me.at_ rfl) (by rw [hk];exact hr) (by rw [hk];exact hs));obtain ⟨bd,hbd⟩:∃ bd,(decide (x.seq=m)&&decide (x.dst=src))=bd:=⟨_,rfl⟩;rw [hbd] at HC;have hj1:wrap64 ((j:Int)+1)=(j:Int)+1:=zb0 (by omega);have HD:Hid (hitW m src x=bd∧A.length=j∧A++x::R=L∧(∀ y∈A,hitW m src y=false)∧wo=w.drewN k):=⟨hbd,hjA,hAR,hall,hk⟩;clear hjA hAR hall hk hle HR HH HG P hr hs hnb hx hbd HN;go_wp2_with fail
   refine HC.out.mono ?_;rintro _ w1 ⟨rfl,k1,hk1⟩
   have HW:Hid (∃ k,w1=w.drewN k):=⟨k+k1,by
    rw [hk1,HD.out.2.2.2.2]
    simp [World.drewN,Nat.add_assoc]⟩
   clear HC hk1;cases bd
   · go_wp2;go_roundw
     case rel=>exact ⟨A++[x],R,j+1,by rw [hj1];simp,by omega,by have:=HD.out.2.1;simp;omega,by rw [List.append_assoc];exact HD.out.2.2.1,fun y hy=>by
      rcases List.mem_append.1 hy with e|e
      · exact HD.out.2.2.2.1 y e
      · simp at e;rw [e];exact HD.out.1,HW.out⟩
     case measure=>exact meas hj1 hji
   · go_wp2;go_ret;exact ⟨HW.out,.inl ⟨A,x,R,HD.out.2.2.1.symm,by rw [HD.out.2.1];rfl,HD.out.1,HD.out.2.2.2.1⟩⟩
end
def intC (n:Int):List Value:=[iI n]
theorem intL (n:Int):(intC n).length=1:=rfl
theorem intO (n:Int):∀ u∈intC n,u.oneCell'=true:=by
 intro u hu;simp only [intC,List.mem_cons,List.not_mem_nil,or_false] at hu;subst hu;rfl
theorem info3i:∃ i z,Tryz.prog.info? 3=some i∧i.zero=some z∧i.size=1∧i.bytes=8∧z.cells.size=1 :=
 ⟨(Tryz.prog.info? 3).getD default,iI 0,by kernel_rfl,by kernel_rfl,by kernel_rfl,by kernel_rfl,by kernel_rfl⟩
theorem under24:Tryz.prog.underlying 24=some (.slice 3):=by kernel_rfl
theorem bls24n (n:Int) (w:World):(Instr.buildSlice 24 1 #[(0,iI n)]).run Tryz.prog w=.ok (.slice (some ⟨w.heap.size,0,none⟩) 1 1) (w.alloc (.cells #[iI n] 3)):=by kernel_rfl
theorem app24 {K:Nat->Nat} {w:World} {B t:Nat} {v:Value} {l:List Int} (h:RW 3 1 intC K w B t v l) (hB:B<=w.heap.size) {N:Nat} {x:Int} (hb:w.heap[N]?=some (.cells #[iI x] 3 (0,0))) (hl:l.length<=100000000) :
 ∃ oa c w' K',(∀ r,(Builtin.append_ #[24,24] r #[v,.slice (some ⟨N,0,none⟩) 1 1]).run Tryz.prog w=.ok (.slice oa (l.length+1) c) w')∧RW 3 1 intC K' w' B t (.slice oa (l.length+1) c) (l++[x])∧Mv (fun x=>x=t) w w' K K':=by
 obtain ⟨i,z,hi,hz,hs,hby,hzs⟩:=info3i;obtain ⟨v',w',K',q1,q2,q3⟩:=RW.app (ty:=24) under24 hi hz hs hby hzs (by omega) intL intO h hB (N:=N) (x:=x) (cs:=(intC x).toArray) rfl hb (by omega) (by omega);obtain ⟨oa,c,e,_,_⟩:=q2.form;rw [List.length_append,List.length_singleton] at e;subst e;exact ⟨oa,c,w',K',q1,q2,q3⟩
theorem app24n {K:Nat->Nat} {w:World} {B t:Nat} {v:Value} {l:List Int} (h:RW 3 1 intC K w B t v l) (hB:B<=w.heap.size) (x:Int) (hl:l.length<=100000000) :
 ∃ oa c w' K',(∀ r,(Builtin.append_ #[24,24] r #[v,.slice (some ⟨w.heap.size,0,none⟩) 1 1]).run Tryz.prog (w.alloc (.cells #[iI x] 3))=.ok (.slice oa (l.length+1) c) w')∧RW 3 1 intC K' w' B t (.slice oa (l.length+1) c) (l++[x])∧Mv (fun x=>x=t) w w' K K':=by
 have m:=Mv.alloc w K (fun _=>t+1) (.cells #[iI x] 3);obtain ⟨oa,c,w',K',r,R,m2⟩:=app24 (h.mv m (fun e=>e)) (Nat.le_trans hB m.size) (MapKept.heap_alloc w _).1 hl;exact ⟨oa,c,w',K',r,R,(m.mono (fun _ e=>e.elim)).trans m2⟩
section
variable {K K' : Nat->Nat} {w w' : World} {B t p:Nat} {c:Cf} {oa:Option Addr} {cap:Nat} {next now:Int} {L:List Wt} {D:List Oc} {vw vd:Value} {q:Mq}
theorem PC.waiting_any (h:PC K w B t p c oa cap next now L D vw vd q) (tp:Nat) (htp:t+8<tp) (hL:L.length<=100000000) :
 Calls Tryz.prog 36 #[ptr p] w fun e w'=>∃ v,e=.returned v∧Hid (∃ K',RW 3 1 intC K' w' B tp v (L.map Wt.seq)∧Mv (fun u=>u=tp) w w' K K'):=by
 have c14:=h.ce (k:=14) rfl;obtain ⟨o14,c14',ew,_,hg⟩:=h.wr.form;rw [List.length_map] at ew hg;subst ew;obtain ⟨n,hn⟩:∃ n,L.length=n:=⟨_,rfl⟩;rw [hn] at c14;have HH:=hid h;have HG:=hid hg;have HN:=hid hn;have HB:=hid hL;clear h hg hn hL;go_enter Tryz.func36,Tryz.ntmps36
 go_wp2_with fail
 go_loopw [11,3] (fun u11 u3 wr=>∃ (j:Nat) (o:Option Addr) (cp:Nat),u11=iI (j:Int)∧u3=.slice o j cp∧j<=n∧Hid (∃ K',RW 3 1 intC K' wr B tp (.slice o j cp) ((L.take j).map Wt.seq)∧Mv (fun u=>u=tp) w wr K K')) (fun u11 _ _=>n - (intOf u11).toNat)
 case atStart=>exact ⟨0,none,0,rfl,rfl,by omega,K,RW.nil _ _ _ _ _ _ _,Mv.refl _ _ _⟩
 case round =>
  obtain ⟨j,o,cp,rfl,rfl,hjn,HR⟩:=hrel;clear c14;obtain ⟨wo,hwo⟩:∃ yy,yy=wr:=⟨_,rfl⟩;subst hwo;by_cases hj:j<n
  · have hji:(j:Int)<(n:Int):=(by omega);obtain ⟨g,rfl⟩:=HG.out (by have:=HN.out;omega);obtain ⟨K1,R1,m1⟩:=HR.out;have P1:=HH.out.toOther m1 htp;obtain ⟨x,hx⟩:∃ x,L[j]?=some x:=⟨_,List.getElem?_eq_getElem (by have:=HN.out;omega)⟩;have xg:wo.cell? ⟨g,j,none⟩=some (ptr x.b):=by
     (have:=P1.wr.cell ptrL (by rw [List.length_map]) (j:=j) (x:=x.b) (by simp [List.getElem?_map,hx]) 0 (by omega));simpa [ptrC] using this
    have x0:wo.cell? ⟨x.b,0,none⟩=some (iI x.seq):=zaa (P1.cs x (List.mem_of_getElem? hx)).me.at_ rfl;obtain ⟨N,hN⟩:∃ y,wo.heap.size=y:=⟨_,rfl⟩;obtain ⟨wn,hwn⟩:∃ y,wo.alloc (.cells #[iI x.seq] 3)=y:=⟨_,rfl⟩;have htk:((L.take j).map Wt.seq).length=j:=(by rw [List.length_map,List.length_take,HN.out];omega);obtain ⟨o2,cp2,w2,K2,hr,R2,m2⟩:=app24n R1 P1.hB x.seq (by rw [htk];have:=HB.out;rw [HN.out] at this;omega);rw [htk,hN,hwn] at hr;rw [htk] at R2;have Aa:=hid hr;have HF:Hid (∃ K',RW 3 1 intC K' w2 B tp (.slice o2 (j+1) cp2) ((L.take (j+1)).map Wt.seq)∧Mv (fun u=>u=tp) w w2 K K'):=by
     refine ⟨K2,?_,m1.trans m2⟩;rw [List.take_add_one,hx];simpa using R2
    have hb:=fun n w=>bls24n n w;have hj1:wrap64 ((j:Int)+1)=(j:Int)+1:=zb0 (by have:=HB.out;rw [HN.out] at this;omega);clear P1 R1 m1 hx htk hr R2 m2 HR;(go_wp2_with (at_builtin;refine Hid.out ?_));refine (show Hid _ from ?_);refine za5 rfl _ _ 24 rfl _ _ _ _ rfl rfl (Aa.out _) ?_;go_wp2;go_roundw
    case rel=>exact ⟨j+1,o2,cp2,by rw [hj1];simp,by simp,by omega,HF.out⟩
    case measure=>exact meas hj1 hji
  · obtain rfl:j=n:=(by omega);have HF:Hid (∃ K',RW 3 1 intC K' wo B tp (.slice o j cp) (L.map Wt.seq)∧Mv (fun u=>u=tp) w wo K K'):=by
     (have:=HR.out);rwa [List.take_of_length_le (by rw [HN.out];omega)] at this
    clear HR;go_wp2;go_ret;exact ⟨_,rfl,HF.out⟩
end
theorem zfn {K:Nat->Nat} {w:World} {B t B' t' : Nat} {v v' : Value} {l m:List Int} (h:RW 3 1 intC K w B t v l) (h' : RW 3 1 intC K w B' t' v' m) (hl:l.length<=100000000) :
 Calls Tryz.prog 38 #[v,v'] w fun e w'=>e=.returned (.bool (decide (l=m)))∧∃ k,w'=w.drewN k:=by
 obtain ⟨o1,c1,rfl,_,hg1⟩:=h.form;obtain ⟨o2,c2,rfl,_,hg2⟩:=h'.form;by_cases hlen:l.length=m.length
 case neg =>
  have hd:decide (l=m)=false:=decide_eq_false (fun e=>hlen (by rw [e]));rw [hd];obtain ⟨a,ha⟩:∃ a,l.length=a:=⟨_,rfl⟩;obtain ⟨b,hb⟩:∃ b,m.length=b:=⟨_,rfl⟩;have hab:a≠b:=by rw [<- ha,<- hb];exact hlen
  rw [ha,hb];have hne:((a:Int) != (b:Int))=true:=by rw [bne_iff_ne];omega
  have hne2:((a:Int)==(b:Int))=false:=by rw [beq_eq_false_iff_ne];omega
  clear h h' hg1 hg2 hl ha hb hd hlen hab;go_enter Tryz.func38,Tryz.ntmps38
  go_wp2;go_ret;exact ⟨rfl,0,rfl⟩
 obtain ⟨n,hn⟩:∃ n,l.length=n:=⟨_,rfl⟩;have hm:m.length=n:=by omega
 have HH:Hid (RW 3 1 intC K w B t (.slice o1 n c1) l∧RW 3 1 intC K w B' t' (.slice o2 n c2) m):=⟨by rw [<- hn];exact h,by rw [<- hm];exact h'⟩;have HG:=hid (And.intro hg1 hg2);have HN:=hid (And.intro hn hm);have HB:Hid (n<=100000000):=by rw [<- hn];exact hl
 rw [hn,hm];clear h h' hg1 hg2 hl hlen hn hm;go_enter Tryz.func38,Tryz.ntmps38
 go_wp2_with fail
 go_loopw [5] (fun u5 wr=>∃ (j:Nat),u5=iI (j:Int)∧j<=n∧Hid ((∃ k,wr=w.drewN k)∧∀ i,i<j->l[i]?=m[i]?)) (fun u5 _=>n - (intOf u5).toNat)
 case atStart=>exact ⟨0,rfl,by omega,⟨0,rfl⟩,fun i hi=>by omega⟩
 case round =>
  obtain ⟨j,rfl,hjn,HR⟩:=hrel;obtain ⟨wo,hwo⟩:∃ yy,yy=wr:=⟨_,rfl⟩;subst hwo;obtain ⟨k,hk⟩:=HR.out.1;by_cases hj:j<n
  · have hji:(j:Int)<(n:Int):=(by omega);obtain ⟨g1,rfl⟩:=HG.out.1 (by have:=HN.out.1;omega);obtain ⟨g2,rfl⟩:=HG.out.2 (by have:=HN.out.2;omega);obtain ⟨x,hx⟩:∃ x,l[j]?=some x:=⟨_,List.getElem?_eq_getElem (by have:=HN.out.1;omega)⟩;obtain ⟨y,hy⟩:∃ y,m[j]?=some y:=⟨_,List.getElem?_eq_getElem (by have:=HN.out.2;omega)⟩;have e1:wo.cell? ⟨g1,j,none⟩=some (iI x):=by
     (have:=HH.out.1.cell intL HN.out.1 hx 0 (by omega));rw [hk];show w.cell? _=_;simpa [intC] using this
    have e2:wo.cell? ⟨g2,j,none⟩=some (iI y):=by
     (have:=HH.out.2.cell intL HN.out.2 hy 0 (by omega));rw [hk];show w.cell? _=_;simpa [intC] using this
    have hj1:wrap64 ((j:Int)+1)=(j:Int)+1:=zb0 (by have:=HB.out;omega);by_cases hxy:x=y
    · subst hxy
      have HF:Hid (∀ k2,(∃ k,wo.drewN k2=w.drewN k)∧∀ i,i<j+1->l[i]?=m[i]?):=fun k2=>⟨⟨k+k2,by rw [hk];simp [World.drewN,Nat.add_assoc]⟩,fun i hi=>by
       rcases Nat.lt_or_ge i j with h|h
       · exact HR.out.2 i h
       · obtain rfl:i=j:=by omega
         rw [hx,hy]⟩
      clear hx hy HR hk;(go_wp2_with fail);go_quiet (fail)
      go_wp2;go_roundw
      case rel=>exact ⟨j+1,by rw [hj1];simp,by omega,HF.out _⟩
      case measure=>exact meas hj1 hji
    · have hne:(x != y)=true:=(by simpa using hxy);have HF:Hid (decide (l=m)=false∧∀ k2,∃ k,wo.drewN k2=w.drewN k):=⟨decide_eq_false (fun e=>hxy (by rw [e,hy] at hx;exact (Option.some.inj hx).symm)),fun k2=>⟨k+k2,by rw [hk];simp [World.drewN,Nat.add_assoc]⟩⟩;clear hx hy hxy HR hk;(go_wp2_with fail);go_quiet (fail)
      go_wp2;go_ret;exact ⟨by rw [HF.out.1];rfl,HF.out.2 _⟩
  · obtain rfl:j=n:=by omega
    have HF:Hid (decide (l=m)=true∧∃ k,wo=w.drewN k):=⟨decide_eq_true (List.ext_getElem? fun i=>by
     rcases Nat.lt_or_ge i j with h|h
     · exact HR.out.2 i h
     · rw [List.getElem?_eq_none (by rw [HN.out.1];exact h),List.getElem?_eq_none (by rw [HN.out.2];exact h)]),HR.out.1⟩
    clear HR hj hk;go_wp2;go_ret;exact ⟨by rw [HF.out.1];rfl,HF.out.2⟩
end Go.Proofs.YtfcbjcebkahehaaGreatDoor.Cl
namespace Go.Proofs.YtfcbjcebkahehaaGreatDoor
namespace Fl
open Ieee
theorem zce (m k:Nat) (hm:m≠0):(m*2 ^ k).log2=m.log2+k:=by
 have h1:2 ^ m.log2<=m:=Nat.log2_self_le hm;have h2:m<2 ^ (m.log2+1):=Nat.lt_log2_self;have hp:0<2 ^ k:=Nat.two_pow_pos k;have h0:m*2 ^ k≠0:=Nat.mul_ne_zero hm (by omega);rw [Nat.log2_eq_iff h0];refine ⟨?_,?_⟩
 · rw [Nat.pow_add];exact Nat.mul_le_mul_right _ h1
 · rw [show m.log2+k+1=(m.log2+1)+k from by omega,Nat.pow_add];exact Nat.mul_lt_mul_of_pos_right h2 hp
theorem zeo (neg:Bool) (n:Nat):Toward.even.cut neg n 0=n:=by
 simp [Toward.cut,Nat.mod_one]
theorem cut_mul (neg:Bool) (n drop k:Nat) (hn:n≠0):Toward.even.cut neg (n*2 ^ k) (drop+k)=Toward.even.cut neg n drop:=by
 have hp:0<2 ^ k:=Nat.two_pow_pos k;unfold Toward.cut;rw [zce n k hn];have hmin:min (drop+k) (n.log2+k+2)=min drop (n.log2+2)+k:=by omega
 rw [hmin];simp only [Nat.one_shiftLeft,Nat.pow_add];generalize 2 ^ (min drop (n.log2+2))=g;have e1:n*2 ^ k / (g*2 ^ k)=n / g:=Nat.mul_div_mul_right _ _ hp;have e2:n*2 ^ k % (g*2 ^ k)=(n % g)*2 ^ k:=Nat.mul_mod_mul_right ..;rw [e1,e2];generalize n % g=r;generalize n / g=q;have e3:decide (g*2 ^ k<2*(r*2 ^ k))=decide (g<2*r):=by
  rw [<- Nat.mul_assoc,decide_eq_decide];exact Nat.mul_lt_mul_right hp
 have e4:(g*2 ^ k==2*(r*2 ^ k))=(g==2*r):=by
  rw [<- Nat.mul_assoc,Bool.eq_iff_iff,beq_iff_eq,beq_iff_eq];constructor
  · intro h;exact Nat.eq_of_mul_eq_mul_right hp h
  · intro h;rw [h]
 rw [e3,e4]
theorem za9 (f:Format) (neg:Bool) (m k:Nat) (p:Int) (hm:m≠0):f.nearest neg (m*2 ^ k) p=f.nearest neg m (p+k):=by
 have hp:0<2 ^ k:=Nat.two_pow_pos k;have h0:m*2 ^ k≠0:=Nat.mul_ne_zero hm (by omega);unfold Format.nearest;rw [if_neg hm,if_neg h0,zce m k hm];have hl:max (p+((m.log2+k:Nat):Int) - (f.fractionBits:Int)) f.leastPlace=max (p+(k:Int)+(m.log2:Int) - (f.fractionBits:Int)) f.leastPlace:=by
  rw [Int.natCast_add];congr 1;omega
 rw [hl];generalize max (p+(k:Int)+(m.log2:Int) - (f.fractionBits:Int)) f.leastPlace=last;have hk:Toward.even.cut neg ((m*2 ^ k) <<< (p - last).toNat) (last - p).toNat=Toward.even.cut neg (m <<< (p+k - last).toNat) (last - (p+k)).toNat:=by
  simp only [Nat.shiftLeft_eq];by_cases h1:last<=p
  · have a1:(last - p).toNat=0:=(by omega);have a2:(last - (p+(k:Int))).toNat=0:=(by omega);have a3:(p+(k:Int) - last).toNat=k+(p - last).toNat:=(by omega);rw [a1,a2,a3,zeo,zeo,Nat.pow_add,Nat.mul_assoc]
  · by_cases h2:last<=p+k
    · have a1:(p - last).toNat=0:=(by omega);have a2:(last - (p+(k:Int))).toNat=0:=(by omega);have a3:k=(p+(k:Int) - last).toNat+(last - p).toNat:=(by omega);rw [a1,a2,zeo,Nat.pow_zero,Nat.mul_one];generalize (p+(k:Int) - last).toNat=x at a3 ⊢;generalize (last - p).toNat=y at a3 ⊢;subst a3;have hz:m*2 ^ x≠0:=Nat.mul_ne_zero hm (by have:=Nat.two_pow_pos x;omega);(have:=cut_mul neg (m*2 ^ x) 0 y hz);rw [Nat.zero_add,zeo,Nat.mul_assoc,<- Nat.pow_add] at this;exact this
    · have a1:(p - last).toNat=0:=(by omega);have a2:(p+(k:Int) - last).toNat=0:=(by omega);have a3:(last - p).toNat=(last - (p+(k:Int))).toNat+k:=(by omega);rw [a1,a2,a3,Nat.pow_zero,Nat.mul_one,Nat.mul_one,cut_mul neg m _ k hm]
 dsimp only
 rw [hk]
def lastOf (f:Format) (m:Nat) (p:Int):Int:=max (p+m.log2 - f.fractionBits) f.leastPlace
theorem zd2 (f:Format) (m:Nat) (h:m<2 ^ (f.fractionBits+1)):m.log2<=f.fractionBits:=by
 by_cases h0:m=0
 · subst h0;simp
 · have:=(Nat.log2_lt h0).2 h;omega
theorem zcp (f:Format) (m:Nat) (p:Int) (h:m<2 ^ (f.fractionBits+1)) (hp:f.leastPlace<=p):lastOf f m p<=p:=by
 have:=zd2 f m h
 unfold lastOf;omega
def zcc (f:Format) (m:Nat) (p:Int):Nat:=(lastOf f m p - f.leastPlace).toNat*f.binade+m*2 ^ (p - lastOf f m p).toNat
theorem zeg (f:Format) (neg:Bool) (m:Nat) (p:Int) (hm:m≠0) (h:m<2 ^ (f.fractionBits+1)) (hp:f.leastPlace<=p) :
 f.nearest neg m p=f.word neg (min (zcc f m p) f.infRung):=by
 have hl:=zcp f m p h hp;unfold Format.nearest zcc;rw [if_neg hm];show f.word neg (min ((lastOf f m p - f.leastPlace).toNat*f.binade+Toward.even.cut neg (m <<< (p - lastOf f m p).toNat) (lastOf f m p - p).toNat) f.infRung)=_;have a1:(lastOf f m p - p).toNat=0:=by omega
 rw [a1,zeo,Nat.shiftLeft_eq]
theorem zaq (f:Format) (neg:Bool) (p:Int):f.nearest neg 0 p=f.word neg 0:=by
 unfold Format.nearest;rw [if_pos rfl]
theorem zfx (f:Format) (neg:Bool) (r:Nat) (h:r<f.signWeight):f.read (f.word neg r) =
 if r<f.binade then .number neg r f.leastPlace
 else if r<f.infRung then .number neg (f.binade+r % f.binade) (f.leastPlace+(r / f.binade - 1:Nat))
 else if r=f.infRung then .infinity neg else .nan neg (r - f.infRung):=by
 have hs:0<f.signWeight:=Nat.two_pow_pos _;unfold Format.read;have e1:f.word neg r % f.signWeight=r:=by
  unfold Format.word;cases neg
  · simpa using Nat.mod_eq_of_lt h
  · simp only [if_true];rw [Nat.add_mod_left,Nat.mod_eq_of_lt h]
 have e2:(f.word neg r / f.signWeight % 2==1)=neg:=by
  unfold Format.word;cases neg
  · simp [Nat.div_eq_of_lt h]
  · simp only [if_true];rw [Nat.add_div_left _ hs,Nat.div_eq_of_lt h];rfl
 simp only [e1,e2]
def zbg (f:Format) (r:Nat):Nat:=if r<f.binade then r else f.binade+r % f.binade
def placeOf (f:Format) (r:Nat):Int:=if r<f.binade then f.leastPlace else f.leastPlace+(r / f.binade - 1:Nat)
theorem zax (f:Format) (neg:Bool) (r:Nat) (h:r<f.infRung):f.read (f.word neg r)=.number neg (zbg f r) (placeOf f r):=by
 have:=f.infRung_lt
 rw [zfx f neg r (by omega)];unfold zbg placeOf;by_cases hb:r<f.binade
 · simp [hb]
 · simp [hb,h]
theorem zc1 (f:Format):2 ^ (f.fractionBits+1)=2*f.binade:=by
 unfold Format.binade;rw [Nat.pow_succ];omega
theorem zfm (f:Format) (r:Nat):zbg f r<2 ^ (f.fractionBits+1):=by
 have hb:0<f.binade:=Nat.two_pow_pos _;have:=Nat.mod_lt r hb
 rw [zc1];unfold zbg;split <;> omega
theorem zb4 (f:Format) (r:Nat):f.leastPlace<=placeOf f r:=by
 unfold placeOf;split <;> omega
theorem zc0 (f:Format) (r:Nat):zbg f r=0↔r=0:=by
 have hb:0<f.binade:=Nat.two_pow_pos _;unfold zbg;split
 · rfl
 · constructor <;> intro h <;> omega
theorem log2_binade (f:Format) (x:Nat) (h:x<f.binade):(f.binade+x).log2=f.fractionBits:=by
 have hb:0<f.binade:=Nat.two_pow_pos _;rw [Nat.log2_eq_iff (by omega)];refine ⟨?_,?_⟩
 · show f.binade<=_;omega
 · rw [zc1];omega
theorem rungOf_parts (f:Format) (r:Nat):zcc f (zbg f r) (placeOf f r)=r:=by
 have hb:0<f.binade:=Nat.two_pow_pos _;unfold zcc;have hl:lastOf f (zbg f r) (placeOf f r)=placeOf f r:=by
  unfold lastOf zbg placeOf;split
  · rename_i h;have:r.log2<=f.fractionBits:=zd2 f r (by rw [zc1];omega)
    omega
  · rw [log2_binade f _ (Nat.mod_lt r hb)];omega
 rw [hl];unfold zbg placeOf;split
 · simp
 · rename_i h;have h1:1<=r / f.binade:=(Nat.one_le_div_iff hb).2 (by omega);have h2:=Nat.div_add_mod r f.binade;have e:(f.leastPlace+((r / f.binade - 1:Nat):Int) - f.leastPlace).toNat=r / f.binade - 1:=by omega
   rw [e,Int.sub_self,Int.toNat_zero,Nat.pow_zero,Nat.mul_one,Nat.sub_mul,Nat.one_mul,Nat.mul_comm (r / f.binade)];have:f.binade<=f.binade*(r / f.binade):=Nat.le_mul_of_pos_right _ (by omega)
   omega
theorem zhx (f:Format) (neg:Bool) (r:Nat) (h:r<f.infRung):f.nearest neg (zbg f r) (placeOf f r)=f.word neg r:=by
 by_cases h0:r=0
 · rw [(zc0 f r).2 h0,zaq,h0]
 · rw [zeg f neg _ _ (fun e=>h0 ((zc0 f r).1 e)) (zfm f r) (zb4 f r),rungOf_parts,Nat.min_eq_left (by omega)]
theorem zcv (f:Format) (m:Nat) (p:Int) (hm:m≠0) (h:m<2 ^ (f.fractionBits+1)) (hp:f.leastPlace<=p) :
 zbg f (zcc f m p)=m*2 ^ (p - lastOf f m p).toNat∧placeOf f (zcc f m p)=lastOf f m p:=by
 have hb:0<f.binade:=Nat.two_pow_pos _;have hl:=zcp f m p h hp;have hL:f.leastPlace<=lastOf f m p:=by unfold lastOf;omega
 have hlog:=zce m (p - lastOf f m p).toNat hm;have hK0:m*2 ^ (p - lastOf f m p).toNat≠0:=Nat.mul_ne_zero hm (by have:=Nat.two_pow_pos (p - lastOf f m p).toNat;omega);have hlo:=Nat.log2_self_le hK0;have hhi:=@Nat.lt_log2_self (m*2 ^ (p - lastOf f m p).toNat);rw [hlog] at hlo hhi;by_cases hc:f.leastPlace<=p+m.log2 - f.fractionBits
 · have hlast:lastOf f m p=p+m.log2 - f.fractionBits:=by unfold lastOf;omega
   have hs:m.log2+(p - lastOf f m p).toNat=f.fractionBits:=by
    (have:=zd2 f m h);rw [hlast];omega
   rw [hs] at hlo hhi;rw [zc1] at hhi;have hlo' : f.binade<=m*2 ^ (p - lastOf f m p).toNat:=hlo;clear hlo;unfold zcc;generalize m*2 ^ (p - lastOf f m p).toNat=K at *;have hn:¬ ((lastOf f m p - f.leastPlace).toNat*f.binade+K<f.binade):=by omega
   have hdiv:((lastOf f m p - f.leastPlace).toNat*f.binade+K) / f.binade=(lastOf f m p - f.leastPlace).toNat+1:=by
    rw [Nat.mul_comm,Nat.mul_add_div hb,Nat.div_eq_of_lt_le (k:=1) (by omega) (by omega)]
   have hmod:((lastOf f m p - f.leastPlace).toNat*f.binade+K) % f.binade=K - f.binade:=by
    rw [Nat.mul_comm,Nat.mul_add_mod,Nat.mod_eq_sub_mod hlo',Nat.mod_eq_of_lt (by omega)]
   unfold zbg placeOf;rw [if_neg hn,if_neg hn,hdiv,hmod];exact ⟨by omega,by omega⟩
 · have hlast:lastOf f m p=f.leastPlace:=by unfold lastOf;omega
   have hs:m.log2+(p - lastOf f m p).toNat+1<=f.fractionBits:=by rw [hlast];omega
   have hK:m*2 ^ (p - lastOf f m p).toNat<f.binade:=Nat.lt_of_lt_of_le hhi (Nat.pow_le_pow_right (by omega) hs);unfold zcc;have e:(lastOf f m p - f.leastPlace).toNat=0:=by omega
   rw [e,Nat.zero_mul,Nat.zero_add];unfold zbg placeOf;rw [if_pos hK,if_pos hK];exact ⟨rfl,hlast.symm⟩
theorem zdi (f:Format) (neg:Bool) (m:Nat) (p:Int) (hm:m≠0) (h:m<2 ^ (f.fractionBits+1)) (hp:f.leastPlace<=p) (hr:zcc f m p<f.infRung) :
 f.read (f.nearest neg m p)=.number neg (m*2 ^ (p - lastOf f m p).toNat) (lastOf f m p):=by
 rw [zeg f neg m p hm h hp,Nat.min_eq_left (by omega),zax f neg _ hr,(zcv f m p hm h hp).1,(zcv f m p hm h hp).2]
theorem mul_two (f:Format) (two:Nat) (h2:f.read two=.number false f.binade (1 - f.fractionBits)) (x:Nat) (s:Bool) (m:Nat) (i:Int) (hx:f.read x=.number s m i) :
 f.mul x two=some (f.nearest s m (i+1)):=by
 unfold Format.mul;rw [hx,h2];simp only [Datum.product,Option.map_some,Format.write,Bool.xor_false];by_cases h0:m=0
 · subst h0;rw [Nat.zero_mul,zaq,zaq]
 · unfold Format.binade;rw [za9 f s m _ _ h0];congr 2;omega
def sizeOf (f:Format) (r:Nat):Nat:=if r<f.binade then r else (f.binade+r % f.binade)*2 ^ (r / f.binade - 1)
theorem zbe (f:Format) (r:Nat):sizeOf f r=zbg f r*2 ^ (placeOf f r - f.leastPlace).toNat:=by
 unfold sizeOf zbg placeOf;split
 · simp
 · congr 2;omega
theorem sizeOf_succ (f:Format) (r:Nat):sizeOf f r<sizeOf f (r+1):=by
 have hb:0<f.binade:=Nat.two_pow_pos _;have hm:=Nat.mod_lt r hb;have hd:=Nat.div_add_mod r f.binade;unfold sizeOf;by_cases h1:r+1<f.binade
 · rw [if_pos (by omega),if_pos h1];omega
 · rw [if_neg h1];by_cases h2:r<f.binade
   · have:r+1=f.binade:=by omega
     rw [if_pos h2,this,Nat.mod_self,Nat.div_self hb];simp;omega
   · rw [if_neg h2];by_cases h3:r % f.binade+1<f.binade
     · have e1:(r+1) % f.binade=r % f.binade+1:=by
        rw [Nat.add_mod,Nat.mod_eq_of_lt (a:=1) (by omega),Nat.mod_eq_of_lt h3]
       have e2:(r+1) / f.binade=r / f.binade:=by
        refine Nat.div_eq_of_lt_le ?_ ?_
        · rw [Nat.mul_comm];omega
        · rw [Nat.add_mul,Nat.mul_comm];omega
       rw [e1,e2];exact Nat.mul_lt_mul_of_pos_right (by omega) (Nat.two_pow_pos _)
     · have e0:r+1=f.binade*(r / f.binade+1):=(by rw [Nat.mul_add];omega);have e1:(r+1) % f.binade=0:=(by rw [e0,Nat.mul_mod_right]);have e2:(r+1) / f.binade=r / f.binade+1:=(by rw [e0,Nat.mul_div_cancel_left _ hb]);have h4:1<=r / f.binade:=(Nat.one_le_div_iff hb).2 (by omega);rw [e1,e2,Nat.add_zero,Nat.add_sub_cancel];have e3:2 ^ (r / f.binade)=2*2 ^ (r / f.binade - 1):=by
        rw [<- Nat.pow_succ'];congr 1;omega
       rw [e3,<- Nat.mul_assoc];exact Nat.mul_lt_mul_of_pos_right (by omega) (Nat.two_pow_pos _)
theorem zcb (f:Format) {r r' : Nat} (h:r<r'):sizeOf f r<sizeOf f r':=by
 induction r' with
 | zero=>omega
 | succ n ih =>
  have:=sizeOf_succ f n
  by_cases e:r=n
  · subst e;exact this
  · have:=ih (by omega);omega
theorem compare_mul (a b k:Nat) (hk:0<k):compare (a*k) (b*k)=compare a b:=by
 rcases Nat.lt_trichotomy a b with h|h|h
 · rw [Nat.compare_eq_lt.2 h,Nat.compare_eq_lt.2 (Nat.mul_lt_mul_of_pos_right h hk)]
 · subst h;simp
 · rw [Nat.compare_eq_gt.2 h,Nat.compare_eq_gt.2 (Nat.mul_lt_mul_of_pos_right h hk)]
theorem zgs (f:Format) (r r' : Nat):compare (sizeOf f r) (sizeOf f r')=compare r r':=by
 rcases Nat.lt_trichotomy r r' with h|h|h
 · rw [Nat.compare_eq_lt.2 h,Nat.compare_eq_lt.2 (zcb f h)]
 · subst h;simp
 · rw [Nat.compare_eq_gt.2 h,Nat.compare_eq_gt.2 (zcb f h)]
theorem compare_cast (a b:Nat):compare (a:Int) (b:Int)=compare a b:=by
 rcases Nat.lt_trichotomy a b with h|h|h
 · rw [Nat.compare_eq_lt.2 h,Int.compare_eq_lt.2 (by omega)]
 · subst h;simp
 · rw [Nat.compare_eq_gt.2 h,Int.compare_eq_gt.2 (by omega)]
theorem common (f:Format) (r r' : Nat) :
 compare (zbg f r <<< (placeOf f r - min (placeOf f r) (placeOf f r')).toNat) (zbg f r' <<< (placeOf f r' - min (placeOf f r) (placeOf f r')).toNat)=compare r r':=by
 rw [<- zgs f r r',zbe,zbe,Nat.shiftLeft_eq,Nat.shiftLeft_eq];have h1:=zb4 f r;have h2:=zb4 f r';generalize placeOf f r=p at *;generalize placeOf f r'=q at *;rw [<- compare_mul _ _ (2 ^ (min p q - f.leastPlace).toNat) (Nat.two_pow_pos _),Nat.mul_assoc,Nat.mul_assoc,<- Nat.pow_add,<- Nat.pow_add];congr 3 <;> omega
theorem order_pos (f:Format) (r r' : Nat) (h:r<f.infRung) (h' : r'<f.infRung):f.order (f.word false r) (f.word false r')=some (compare r r'):=by
 unfold Format.order;rw [zax f false r h,zax f false r' h'];simp only [Datum.order,signed,Bool.false_eq_true,if_false];rw [compare_cast,common]
/-! ### numbers of 64 bits and of 32 -/
theorem inf64:double.infRung=9218868437227405312:=rfl
theorem bi64:double.binade=4503599627370496:=rfl
theorem lp64:double.leastPlace=-1074:=rfl
theorem fb64:double.fractionBits=52:=rfl
theorem inf32:single.infRung=2139095040:=rfl
theorem bi32:single.binade=8388608:=rfl
theorem lp32:single.leastPlace=-149:=rfl
theorem fb32:single.fractionBits=23:=rfl
theorem word_false (f:Format) (r:Nat):f.word false r=r:=rfl
theorem zfj (f:Format) (neg:Bool) (hbi:f.binade<=f.infRung):f.read (f.word neg f.infRung)=.infinity neg:=by
 rw [zfx f neg _ f.infRung_lt,if_neg (by omega),if_neg (by omega),if_pos rfl]
theorem ordPos (f:Format) (r r' : Nat) (h:r<=f.infRung) (h' : r'<=f.infRung) (hbi:f.binade<=f.infRung):f.order r r'=some (compare r r'):=by
 by_cases h1:r<f.infRung
 · by_cases h2:r'<f.infRung
   · exact order_pos f r r' h1 h2
   · have e:r'=f.infRung:=(by omega);subst e;unfold Format.order;rw [<- word_false f r,<- word_false f f.infRung,zax f false r h1,zfj f false hbi,word_false,word_false,Nat.compare_eq_lt.2 h1];rfl
 · have e:r=f.infRung:=by omega
   subst e;by_cases h2:r'<f.infRung
   · unfold Format.order;rw [<- word_false f r',<- word_false f f.infRung,zax f false r' h2,zfj f false hbi,word_false,word_false,Nat.compare_eq_gt.2 h2];rfl
   · have e:r'=f.infRung:=(by omega);subst e;unfold Format.order;rw [<- word_false f f.infRung,zfj f false hbi,word_false];simp [Datum.order]
theorem read_zero (f:Format) (neg:Bool):f.read (f.word neg 0)=.number neg 0 f.leastPlace:=by
 have hs:0<f.signWeight:=Nat.two_pow_pos _;have hb:0<f.binade:=Nat.two_pow_pos _;rw [zfx f neg 0 hs,if_pos hb]
theorem ordNeg (f:Format) (r:Nat) (h:r<=f.infRung) (h0:0<r) (hbi:f.binade<=f.infRung):f.order (f.word true r) 0=some .lt:=by
 unfold Format.order;rw [show f.read 0=.number false 0 f.leastPlace from read_zero f false];by_cases h1:r<f.infRung
 · rw [zax f true r h1];have hm:zbg f r≠0:=fun e=>by have:=(zc0 f r).1 e;omega
   simp only [Datum.order,signed,if_true,Bool.false_eq_true,if_false,Nat.zero_shiftLeft];rw [Int.compare_eq_lt.2];have:0<zbg f r <<< (placeOf f r - min (placeOf f r) f.leastPlace).toNat:=by
    rw [Nat.shiftLeft_eq];exact Nat.mul_pos (by omega) (Nat.two_pow_pos _)
   omega
 · have e:r=f.infRung:=by omega
   subst e;rw [zfj f true hbi];rfl
theorem dbl (f:Format) (two:Nat) (h2:f.read two=.number false f.binade (1 - f.fractionBits)) (s:Bool) (m:Nat) (p:Int) (hm:m≠0) (h:m<2 ^ (f.fractionBits+1)) (hp:f.leastPlace<=p) (hr:zcc f m p<f.infRung) :
 f.mul (f.nearest s m p) two=some (f.nearest s m (p+1)):=by
 have hl:=zcp f m p h hp;rw [mul_two f two h2 _ s _ _ (zdi f s m p hm h hp hr),za9 f s m _ _ hm];congr 2;omega
theorem zfv (f:Format) (m:Nat) (p:Int) (hm:m≠0) (h:m<2 ^ (f.fractionBits+1)) (hp:f.leastPlace<=p) (t:Nat) (ht:p+m.log2 - f.fractionBits - f.leastPlace+1<=t) (h1:1<=t):zcc f m p<t*f.binade+f.binade:=by
 have hb:0<f.binade:=Nat.two_pow_pos _;have hl:=zcp f m p h hp;have e1:=(zcv f m p hm h hp).1;have e2:=zfm f (zcc f m p);rw [e1,zc1] at e2;have h3:(lastOf f m p - f.leastPlace).toNat<=t - 1:=by unfold lastOf;omega
 have h4:=Nat.mul_le_mul_right f.binade h3;have h5:(t - 1)*f.binade+f.binade=t*f.binade:=by
  rw [<- Nat.succ_mul];congr 1;omega
 unfold zcc;omega
theorem bi_le32:single.binade<=single.infRung:=by rw [bi32,inf32];omega
theorem cutz (K j:Nat) (hK:K≠0):Toward.zero.cut false (K*2 ^ j) j=K:=by
 unfold Toward.cut;rw [zce K j hK];have e:min j (K.log2+j+2)=j:=by omega
 rw [e];simp only [Nat.one_shiftLeft,Bool.toNat_false,Nat.add_zero];exact Nat.mul_div_cancel _ (Nat.two_pow_pos _)
theorem ofInt32 (n:Nat):floatOfInt .f32 (n:Int)=single.nearest false n 0:=by
 unfold floatOfInt FloatKind.nearest FloatKind.encode;show single.nearest (decide ((n:Int)<0)) (n:Int).natAbs 0=_;rw [Int.natAbs_natCast];have:decide ((n:Int)<0)=false:=by simp
 rw [this]
theorem xor_top (k r:Nat) (h:r<2 ^ k):r ^^^ 2 ^ k=2 ^ k+r:=by
 apply Nat.eq_of_testBit_eq
 intro i;rw [Nat.testBit_xor,Nat.testBit_two_pow];by_cases hi:i=k
 · subst hi;rw [Nat.testBit_lt_two_pow h,Nat.testBit_two_pow_add_eq,Nat.testBit_lt_two_pow h];simp
 · rcases Nat.lt_or_gt_of_ne hi with h1|h1
   · have hk:decide (k=i)=false:=(by simp;omega);rw [Nat.testBit_two_pow_add_gt h1,hk,Bool.xor_false]
   · have e:2 ^ k+r<2 ^ i:=by
      have:2 ^ (k+1)<=2 ^ i:=Nat.pow_le_pow_right (by omega) h1
      rw [Nat.pow_succ] at this;omega
     have hk:decide (k=i)=false:=(by simp;omega);rw [Nat.testBit_lt_two_pow (Nat.lt_of_le_of_lt (Nat.le_add_left _ _) e),Nat.testBit_lt_two_pow e,hk];rfl
theorem xor_top' (k r:Nat) (h:r<2 ^ k):(2 ^ k+r) ^^^ 2 ^ k=r:=by
 rw [<- xor_top k r h,Nat.xor_assoc,Nat.xor_self,Nat.xor_zero]
end Fl
end Go.Proofs.YtfcbjcebkahehaaGreatDoor
namespace Go.Proofs.YtfcbjcebkahehaaGreatDoor
namespace Fl
open Ieee
def half (n d:Nat):Nat:=n / 2 ^ d+(if 2 ^ d<2*(n % 2 ^ d)∨(2 ^ d=2*(n % 2 ^ d)∧n / 2 ^ d % 2=1) then 1 else 0)
theorem zh8 (neg:Bool) (n d:Nat):Toward.even.cut neg n d=half n d:=by
 have key:∀ g,(n / g+(decide (g<2*(n % g))||(g==2*(n % g)&&n / g % 2==1)).toNat)=n / g+(if g<2*(n % g)∨(g=2*(n % g)∧n / g % 2=1) then 1 else 0):=by
  intro g;congr 1
  by_cases h1:g<2*(n % g)
  · simp [h1]
  · by_cases h2:g=2*(n % g)
    · by_cases h3:n / g % 2=1
      · rw [if_pos (Or.inr ⟨h2,h3⟩)];have:(g==2*(n % g))=true:=(by rw [beq_iff_eq];exact h2);rw [this,h3];simp
      · rw [if_neg (by omega)];have:(n / g % 2==1)=false:=(by rw [beq_eq_false_iff_ne];exact h3);rw [this];simp [h1]
    · rw [if_neg (by omega)];have:(g==2*(n % g))=false:=(by rw [beq_eq_false_iff_ne];exact h2);rw [this];simp [h1]
 show n / (1 <<< min d (n.log2+2))+_=_;by_cases hd:d<=n.log2+2
 · rw [Nat.min_eq_left hd,Nat.one_shiftLeft];exact key (2 ^ d)
 · rw [Nat.min_eq_right (by omega),Nat.one_shiftLeft];refine (key _).trans ?_;have h1:n<2 ^ (n.log2+1):=Nat.lt_log2_self;have h2:2 ^ (n.log2+2)=2*2 ^ (n.log2+1):=by rw [<- Nat.pow_succ']
   have h3:2 ^ (n.log2+2)<=2 ^ d:=Nat.pow_le_pow_right (by omega) (by omega);unfold half;generalize 2 ^ (n.log2+1)=a at *;generalize 2 ^ (n.log2+2)=b at *;generalize 2 ^ d=c at *;rw [Nat.div_eq_of_lt (by omega:n<b),Nat.div_eq_of_lt (by omega:n<c),Nat.mod_eq_of_lt (by omega:n<b),Nat.mod_eq_of_lt (by omega:n<c),if_neg (by omega),if_neg (by omega)]
theorem half_lt (n d:Nat) (a:Nat) (h:n<a*2 ^ d):half n d<=a:=by
 have h1:n / 2 ^ d<a:=Nat.div_lt_of_lt_mul (by rw [Nat.mul_comm];exact h);unfold half;split <;> omega
theorem half_ge (n d:Nat) (a:Nat) (h:a*2 ^ d<=n):a<=half n d:=by
 have h1:a<=n / 2 ^ d:=(Nat.le_div_iff_mul_le (Nat.two_pow_pos d)).2 h;unfold half;omega
theorem word_inj (f:Format) (neg:Bool) (r r' : Nat) (h:f.word neg r=f.word neg r'):r=r':=by
 unfold Format.word at h;cases neg
 · exact h
 · exact Nat.add_left_cancel h
end Fl
end Go.Proofs.YtfcbjcebkahehaaGreatDoor
