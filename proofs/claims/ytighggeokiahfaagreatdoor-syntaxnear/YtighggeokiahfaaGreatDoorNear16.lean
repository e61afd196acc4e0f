import Derived.Test.YtighggeokiahfaaGreatDoorNear15
import Derived.Test.YtighggeokiahfaaGreatDoorNear13
namespace Go.Proofs.YtighggeokiahfaaGreatDoor.Dm
open Go.RowKit
def armC (B:RS->Tree × RS) (A:Nat) (l:List Tree × RS):Tree × RS:=(.node 8 [] 0 A (l.1++[(zcd B true l.2).1]),(zcd B true l.2).2.want [59])
set_option maxHeartbeats 2000000 in
set_option maxRecDepth 4000 in
theorem znt (p g cap:Nat) (ts:List Tok) (hE:Ends ts) (d:Int) (B:RS->Tree × RS) (hDc:DDecl p g cap ts d B):zge p g cap ts d 124 (armD B):=by
 intro s w h
 have Dr:=hid hDc
 clear hDc
 have Ac:Hid (p<w.heap.size∧g<w.heap.size):=⟨h.plt,h.glt⟩
 obtain ⟨R,hR⟩:∃ R,armD B s=R:=⟨_,rfl⟩
 rw [hR]
 have HR:Hid (R=armD B s):=hR.symm
 obtain ⟨wa,hwa⟩:∃ x,w.alloc (.cells #[.int .i64 0,.string ⟨#[]⟩,.int .i64 0,.int .i64 0,.slice none 0 0] 29)=x:=⟨_,rfl⟩
 have HB:Hid (Below w.heap.size w wa):=hidB hwa
 have HK:Hid (Kep w wa w.heap.size (kidO 0 [] 0 0 (.slice none 0 0))):=by show Kep _ _ _ _;rw [<- hwa];exact Kep.new (Nat.le_refl _) _
 have HD:Hid (DS wa p g cap ts d s):=h.below HB.out
 clear h hR
 have HS:Hid (Sole p w wa):=Sole.of_below HB.out
 obtain ⟨i,hi,h1,hh,hs⟩:=HD.out.at_
 have Ec:Hid (DP wa p g cap ts i d s.e s.pl∧s.hd=ts[i]∧s.ts=ts.drop i):=⟨h1,hh,hs⟩
 have Ed:Hid ((i:Int)<=16001):=by show _<=_;have:=h1.ln;omega
 have hl:=h1.look hi
 obtain ⟨E0,hE0⟩:∃ x,s.e=x:=⟨_,rfl⟩
 obtain ⟨K,hK⟩:∃ x,ts[i].kind=x:=⟨_,rfl⟩
 obtain ⟨M,hM⟩:∃ x,ts[i].num=x:=⟨_,rfl⟩
 obtain ⟨A,hA⟩:∃ x,ts[i].at_=x:=⟨_,rfl⟩
 obtain ⟨S,hS⟩:∃ x,ts[i].text=x:=⟨_,rfl⟩
 rw [hE0,hK,hM,hA,hS] at hl
 have HF:Hid (s.e=E0∧s.hd.kind=K∧s.hd.num=M∧s.hd.at_=A∧s.hd.text=S):=⟨hE0,by rw [hh];exact hK,by rw [hh];exact hM,by rw [hh];exact hA,by rw [hh];exact hS⟩
 clear hE0 hK hM hA hS hh hs h1
 obtain ⟨hp,hg,hi',c0,c1,c3,t0,t1,t2,t3,f1⟩:=hl
 have c1x:∀ x,(wa.alloc x).cell? ⟨p,1,none⟩=some (.int .i64 i):=fun x=>by rw [World.cell?_alloc_lt _ _ _ hp];exact c1
 have c3x:∀ x,(wa.alloc x).cell? ⟨p,3,none⟩=some (.int .i64 E0):=fun x=>by rw [World.cell?_alloc_lt _ _ _ hp];exact c3
 have f1x:∀ x,(wa.alloc x).frozen? ⟨p,1,none⟩=false:=fun x=>by rw [World.frozen?_alloc_old _ _ _ (Nat.ne_of_lt hp)];exact f1
 have Dc:Hid (∀ x k,Below wa.heap.size wa ((wa.alloc x).drewN k)):=fun x k=>zaj (zac wa x) k
 have hne:¬ p=wa.heap.size:=by omega
 have hne2:¬ wa.heap.size=p:=by omega
 have him:=Ed.out
 have Ds:Hid (R=armC B A (ze1 ((s.want zb1).n+1) [] (s.want zb1))):=by show _=_;rw [HR.out,<- HF.out.2.2.2.1];rfl
 have hz:wa.heap.size=w.heap.size+1:=by rw [<- hwa];simp
 have Ee:=hid hz
 have c0x:∀ x,(wa.alloc x).cell? ⟨p,0,none⟩=some (.slice (some ⟨g,0,none⟩) ts.length cap):=fun x=>by rw [World.cell?_alloc_lt _ _ _ hp];exact c0
 have t3x:∀ x,(wa.alloc x).cell? ⟨g,i*4+3,none⟩=some (.int .i64 A):=fun x=>by rw [World.cell?_alloc_lt _ _ _ hg];exact t3
 have qb:=bld03x
 have Bn:Hid (∀ b,(fun b=>w.heap.size<b∧b≠w.heap.size+1) b->b≠p):=fun b hb=>by have h1:w.heap.size<b:=hb.1;have:=Ac.out.1;omega
 go_enter Tryz.func124,Tryz.ntmps124
 go_wp2_with fail
 clear hwa
 go_region
 all_goals (
  go_wp2_with fail
  have Dt:Hid (Kep w (wa.alloc (.cells #[.int .i64 8,.string ⟨#[]⟩,.int .i64 0,.int .i64 A,.slice none 0 0] 29)) (w.heap.size+1) (kidO 8 [] 0 A (.slice none 0 0))):=⟨by rw [<- Ee.out];exact heap_alloc_new _ _,Nat.le_succ _⟩
  refine (zan p g cap ts hE d [99,97,115,101] (by simp) s _ (HD.out.below (Dc.out (.cells #[.int .i64 8,.string ⟨#[]⟩,.int .i64 0,.int .i64 A,.slice none 0 0] 29) 1))).mono ?_
  rintro e w1 ⟨rfl,hD,hS⟩
  have Du:=hid ((Sole.of_below (p:=p) (Dc.out (.cells #[.int .i64 8,.string ⟨#[]⟩,.int .i64 0,.int .i64 A,.slice none 0 0] 29) 1)).trans hS)
  obtain ⟨s1,hs1⟩:∃ x,s.want [99,97,115,101]=x:=⟨_,rfl⟩
  rw [show s.want zb1=s1 from hs1] at Ds
  rw [hs1] at hD
  have Ef:=hid hD
  have Eg:=hid (HS.out.trans Du.out)
  have Dd:=hid (HK.out.sole Ac.out.1 Du.out)
  have De:=hid (Dt.out.sole Ac.out.1 ((Sole.drew p _ 1).trans hS))
  have Ci:=hid (ds_n hD)
  have Eh:Hid (zab (fun b=>w.heap.size<b∧b≠w.heap.size+1) w1 [] (.slice none 0 0)):=zbe
  clear hD hS hs1 c0 c1 c3 t0 t1 t2 t3 f1 c1x c3x f1x c0x t3x hne hne2 him hz hp hg hi' qb Dt Dc Ec
  go_wp2_with fail
  go_loopw [] (fun wr=>∃ (acc:List Tree) (N:Nat) (oq:Option Addr) (cq:Nat) (st:RS) (f:Nat),Hid (DS wr p g cap ts d st)∧Hid (Sole p w wr)∧Hid (Kep w wr w.heap.size (kidO 0 [] 0 0 (.slice none 0 0)))∧Hid (Kep w wr (w.heap.size+1) (kidO 8 [] 0 A (.slice oq N cq)))∧Hid (zab (fun b=>w.heap.size<b∧b≠w.heap.size+1) wr acc (.slice oq N cq))∧Hid (R=armC B A (ze1 f acc st))∧Hid (N+f=s1.n+1∧(st.e=0->st.n<f))) (fun wr=>mu p ts.length wr)
  case atStart => exact ⟨[],0,none,0,s1,s1.n+1,Ef,Eg,Dd,De,Eh,Ds,⟨by omega,fun _=>by omega⟩⟩
  case round =>
   obtain ⟨acc,N,oq,cq,st,f,Db,Dv,Cj,Ay,Cf,Dw,Ck⟩:=hrel
   have Dx:Hid (mu p ts.length wr=muS st):=zd8 Db.out
   obtain ⟨e3,e2⟩:=Db.out.e_cell
   obtain ⟨EE,hEE⟩:∃ x,st.e=x:=⟨_,rfl⟩
   have Bo:=hid hEE
   rw [hEE] at e3
   clear hEE
   have Dy:Hid (N<=20000):=by show _<=_;have:=Ck.out.1;have:=Ci.out;omega
   by_cases he:EE=0
   case neg =>
    have he2:(EE==0)=false:=by simp [he]
    have Bv:Hid (R=armC B A (acc,st)):=Dw.out.trans (by rw [zid (by rw [Bo.out];exact he) f acc])
    go_wp2_with fail
    have Cg:Hid (∀ m,Calls Tryz.prog 51 #[.pointer (some ⟨p,0,none⟩),.bool true] (wr.drewN m) (zdj p g cap ts d (zah wr.heap.size) (zcd B true st) wr)):=fun m=>by
     have hB:Below wr.heap.size wr (wr.drewN m):=zaj (Below.refl _ _) m
     exact (Dr.out true st _ (Db.out.below hB)).mono fun e w' hp=>zdj.of_below hB hp
    obtain ⟨⟨v0,v1,v2,v3,v4⟩,⟨y0,y1,y2,y3,y4⟩⟩:=zaa Ay.out.1
    have Cl:Hid (∀ q,(Value.slice oq N cq).ownBlock=some q->w.heap.size<=q):=fun q e=>Nat.le_of_lt (zb0 Cf.out e).1.1
    have Bw:Hid (w.heap.size+1<wr.heap.size):=Ay.out.lt
    go_region_law (first
     | (refine zbw rfl 51 #[.pointer (some ⟨p,0,none⟩),.bool true] (by go_simp) _ (Cg.out _) ?_
        rintro e w5 ⟨v,rfl,hv,hD,hS⟩
        refine ⟨_,rfl,?_⟩
        obtain ⟨k8,n8,m8,a8,ks8,o8,l8,c8,he8,rfl⟩:=zar hv
        obtain ⟨wb,hwb⟩:∃ x,w5.alloc (.cells #[.int .i64 k8,.string ⟨n8.toArray⟩,.int .i64 m8,.int .i64 a8,.slice o8 l8 c8] 29)=x:=⟨_,rfl⟩
        have Dz:=hid hwb
        have hBb:Below w5.heap.size w5 wb:=by rw [<- hwb];exact zac _ _
        have Cm:=hid (hD.below hBb)
        have Cn:=hid ((Dv.out.trans hS).trans (Sole.of_below hBb))
        have Az:=hid ((Ay.out.sole Ac.out.1 hS).below hBb)
        have Bb:=hid ((Cj.out.sole Ac.out.1 hS).below hBb)
        have Co:Hid (zab (fun b=>w.heap.size<b∧b≠w.heap.size+1) wb acc (.slice oq N cq)):=zab.below (zab.sole Cf.out Bn.out hS) hBb
        have Cp:Hid (wb.heap[w5.heap.size]?=some (kidO k8 n8 m8 a8 (.slice o8 l8 c8))):=by show _=_;rw [<- hwb];exact heap_alloc_new _ _
        have Cq:Hid (wr.heap.size<=w5.heap.size∧wb.heap.size=w5.heap.size+1):=⟨hS.size,by rw [<- hwb];simp⟩
        have Bc:Hid (∀ q,(Value.slice oq N cq).ownBlock=some q->(fun b=>w.heap.size<b∧b≠w.heap.size+1) q∧q<wr.heap.size):=fun q e=>zb0 Cf.out e
        have Ch:=hid he8
        have Cr:Hid (zae (fun b=>(fun b=>w.heap.size<b∧b≠w.heap.size+1) b∧(Value.slice oq N cq).ownBlock≠some b) wb (.node k8 n8 m8 a8 ks8) (kidV k8 n8 m8 a8 (.slice o8 l8 c8))):=by
         rw [he8] at hv
         refine (zae.below hv hBb).weaken (fun b hb=>?_)
         have hb1:wr.heap.size<=b:=hb
         have hz4:=Bw.out
         exact ⟨⟨by omega,by omega⟩,fun e=>by have:=(Bc.out b e).2;omega⟩
        have Cs:Hid ((fun b=>w.heap.size<b∧b≠w.heap.size+1) wb.heap.size):=by
         have hb1:wr.heap.size<=wb.heap.size:=by have:=Cq.out;omega
         have hz4:=Bw.out
         exact ⟨by omega,by omega⟩
        have u4:=(zaa (Ay.out.sole Ac.out.1 hS).1).1.2.2.2.2
        have x4:=(zaa Az.out.1).1.2.2.2.2
        clear hv hD hS hBb he8
        unfold kidV)
     | (refine zfl _ rfl _ _ rfl (fun b=>w.heap.size<b∧b≠w.heap.size+1) acc oq N cq Co.out rfl Dy.out w5.heap.size k8 m8 n8 a8 ks8 o8 l8 c8 rfl Cp.out Cr.out Cs.out ?_
        intro gq cq2 w6 hA
        have Bx:=hid (hA.ds Cm.out Cn.out Cl.out Ac.out.1 Ac.out.2)
        have Ct:=hid Bx.out.1
        have Cu:=hid Bx.out.2
        have Aj:=hid (za1 Az.out hA.grow (fun e=>by have h1:=(Bc.out _ e).1;exact h1.2 rfl))
        have Bd:=hid (za1 Bb.out hA.grow (fun e=>by have h1:=(Bc.out _ e).1;exact Nat.lt_irrefl _ h1.1))
        have Cv:Hid (zab (fun b=>w.heap.size<b∧b≠w.heap.size+1) w6 (acc++[.node k8 n8 m8 a8 ks8]) (.slice (some ⟨gq,0,none⟩) (N+1) cq2)):=hA.list
        obtain ⟨⟨j0,j1,j2,j3,j4⟩,⟨g0,g1,g2,g3,g4⟩⟩:=zaa Aj.out.1
        clear hA))
    all_goals (
     have Ak:Hid (DS (w6.setCell ⟨w.heap.size+1,4,none⟩ (.slice (some ⟨gq,0,none⟩) (N+1) cq2)) p g cap ts d (zcd B true st).2∧Sole p w (w6.setCell ⟨w.heap.size+1,4,none⟩ (.slice (some ⟨gq,0,none⟩) (N+1) cq2))∧Kep w (w6.setCell ⟨w.heap.size+1,4,none⟩ (.slice (some ⟨gq,0,none⟩) (N+1) cq2)) (w.heap.size+1) (kidO 8 [] 0 A (.slice (some ⟨gq,0,none⟩) (N+1) cq2))∧Kep w (w6.setCell ⟨w.heap.size+1,4,none⟩ (.slice (some ⟨gq,0,none⟩) (N+1) cq2)) w.heap.size (kidO 0 [] 0 0 (.slice none 0 0))∧zab (fun b=>w.heap.size<b∧b≠w.heap.size+1) (w6.setCell ⟨w.heap.size+1,4,none⟩ (.slice (some ⟨gq,0,none⟩) (N+1) cq2)) (acc++[.node k8 n8 m8 a8 ks8]) (.slice (some ⟨gq,0,none⟩) (N+1) cq2)):=by
      have h2:=Ac.out
      refine ⟨Ct.out.set (by omega) (by omega) _ _,Sole.set Cu.out (by omega) _ _,⟨zai Aj.out.1,Aj.out.2⟩,zci Bd.out (by omega) _ _,zab.but Cv.out (fun b hb=>hb.2) (fun b hb=>Below.heap_setCell _ _ _ _ hb)⟩
     go_wp2_with fail
     generalize w6.setCell ⟨w.heap.size+1,4,none⟩ (.slice (some ⟨gq,0,none⟩) (N+1) cq2)=wcz at Ak ⊢
     have Bz:=hid Ak.out.1
     have Ca:=hid Ak.out.2.1
     have Be:=hid Ak.out.2.2.1
     have Bf:=hid Ak.out.2.2.2.1
     have Cb:=hid Ak.out.2.2.2.2
     clear Ak j0 j1 j2 j3 j4 g0 g1 g2 g3 g4
     refine (zan p g cap ts hE d [59] (by simp) _ _ Bz.out).mono ?_
     rintro e w41 ⟨rfl,hD,hS⟩
     have Av:=hid hS
     have Bg:=hid hD
     have Cc:=hid (Ca.out.trans Av.out)
     have Bh:=hid (Be.out.sole Ac.out.1 Av.out)
     have Al:=hid (Bf.out.sole Ac.out.1 Av.out)
     have Bp:=hid (zab.sole Cb.out (by intro b hb;have hpg:=Ac.out.1;have hb2:=hb;first | (unfold zak at hb2;omega) | exact (Bn.out b hb)) Av.out)
     clear hD hS
     obtain ⟨⟨x0,x1,x2,x3,x4⟩,_⟩:=zaa Bh.out.1
     obtain ⟨⟨z0,z1,z2,z3,z4⟩,⟨y0,y1,y2,y3,y4⟩⟩:=zaa Al.out.1
     go_wp2
     refine ret5 (n:=[]) z0 z1 z2 z3 z4 rfl (fun u q0 q1 q2 q3 q4=>by simp [results,Tryz.results124,go_sem,q0,q1,q2,q3,q4]) Al.out.2 Cc.out ?_
     intro wz hf
     rw [Bv.out]
     have hr2:=Al.out.2
     have hpg:=Ac.out
     exact ⟨_,rfl,(by show zae _ _ (.node 8 [] 0 A _) _;rw [Ch.out];exact za4 Bp.out (fun b h=>Nat.le_of_lt h.1) (fun b h=>Nat.ne_of_gt h.1) hf.2),Bg.out.but (by omega) (by omega) hf.2,hf.1⟩)
   subst he
   obtain ⟨f,rfl⟩:∃ f' : Nat,f=f'+1:=⟨f-1,by have:=Ck.out.2 Bo.out;omega⟩
   have Bv:Hid (R=armC B A (if ((zau st).2.want [58]).is zb1 then ze1 f (acc++[(zau st).1]) ((if (acc++[(zau st).1]).length==64 then ((zau st).2.want [58]).fail 42 else (zau st).2.want [58]).want zb1) else (acc++[(zau st).1],(zau st).2.want [58]))):=by
    show _=_
    rw [Dw.out,ze1,Bo.out];rfl
   go_wp2_with fail
   have Cg:Hid (∀ m,Calls Tryz.prog 122 #[.pointer (some ⟨p,0,none⟩)] (wr.drewN m) (zdj p g cap ts d (zah wr.heap.size) (zau st) wr)):=fun m=>by
    have hB:Below wr.heap.size wr (wr.drewN m):=zaj (Below.refl _ _) m
    exact (zck p g cap ts hE d st _ (Db.out.below hB)).mono fun e w' hp=>zdj.of_below hB hp
   obtain ⟨⟨v0,v1,v2,v3,v4⟩,⟨y0,y1,y2,y3,y4⟩⟩:=zaa Ay.out.1
   have Cl:Hid (∀ q,(Value.slice oq N cq).ownBlock=some q->w.heap.size<=q):=fun q e=>Nat.le_of_lt (zb0 Cf.out e).1.1
   have Bw:Hid (w.heap.size+1<wr.heap.size):=Ay.out.lt
   go_region_law (first
    | (refine zbw rfl 122 #[.pointer (some ⟨p,0,none⟩)] (by go_simp) _ (Cg.out _) ?_
       rintro e w5 ⟨v,rfl,hv,hD,hS⟩
       refine ⟨_,rfl,?_⟩
       obtain ⟨k8,n8,m8,a8,ks8,o8,l8,c8,he8,rfl⟩:=zar hv
       obtain ⟨wb,hwb⟩:∃ x,w5.alloc (.cells #[.int .i64 k8,.string ⟨n8.toArray⟩,.int .i64 m8,.int .i64 a8,.slice o8 l8 c8] 29)=x:=⟨_,rfl⟩
       have Dz:=hid hwb
       have hBb:Below w5.heap.size w5 wb:=by rw [<- hwb];exact zac _ _
       have Cm:=hid (hD.below hBb)
       have Cn:=hid ((Dv.out.trans hS).trans (Sole.of_below hBb))
       have Az:=hid ((Ay.out.sole Ac.out.1 hS).below hBb)
       have Bb:=hid ((Cj.out.sole Ac.out.1 hS).below hBb)
       have Co:Hid (zab (fun b=>w.heap.size<b∧b≠w.heap.size+1) wb acc (.slice oq N cq)):=zab.below (zab.sole Cf.out Bn.out hS) hBb
       have Cp:Hid (wb.heap[w5.heap.size]?=some (kidO k8 n8 m8 a8 (.slice o8 l8 c8))):=by show _=_;rw [<- hwb];exact heap_alloc_new _ _
       have Cq:Hid (wr.heap.size<=w5.heap.size∧wb.heap.size=w5.heap.size+1):=⟨hS.size,by rw [<- hwb];simp⟩
       have Bc:Hid (∀ q,(Value.slice oq N cq).ownBlock=some q->(fun b=>w.heap.size<b∧b≠w.heap.size+1) q∧q<wr.heap.size):=fun q e=>zb0 Cf.out e
       have Ch:=hid he8
       have Cr:Hid (zae (fun b=>(fun b=>w.heap.size<b∧b≠w.heap.size+1) b∧(Value.slice oq N cq).ownBlock≠some b) wb (.node k8 n8 m8 a8 ks8) (kidV k8 n8 m8 a8 (.slice o8 l8 c8))):=by
        rw [he8] at hv
        refine (zae.below hv hBb).weaken (fun b hb=>?_)
        have hb1:wr.heap.size<=b:=hb
        have hz4:=Bw.out
        exact ⟨⟨by omega,by omega⟩,fun e=>by have:=(Bc.out b e).2;omega⟩
       have Cs:Hid ((fun b=>w.heap.size<b∧b≠w.heap.size+1) wb.heap.size):=by
        have hb1:wr.heap.size<=wb.heap.size:=by have:=Cq.out;omega
        have hz4:=Bw.out
        exact ⟨by omega,by omega⟩
       have u4:=(zaa (Ay.out.sole Ac.out.1 hS).1).1.2.2.2.2
       have x4:=(zaa Az.out.1).1.2.2.2.2
       clear hv hD hS hBb he8
       unfold kidV)
    | (refine zfl _ rfl _ _ rfl (fun b=>w.heap.size<b∧b≠w.heap.size+1) acc oq N cq Co.out rfl Dy.out w5.heap.size k8 m8 n8 a8 ks8 o8 l8 c8 rfl Cp.out Cr.out Cs.out ?_
       intro gq cq2 w6 hA
       have Bx:=hid (hA.ds Cm.out Cn.out Cl.out Ac.out.1 Ac.out.2)
       have Ct:=hid Bx.out.1
       have Cu:=hid Bx.out.2
       have Aj:=hid (za1 Az.out hA.grow (fun e=>by have h1:=(Bc.out _ e).1;exact h1.2 rfl))
       have Bd:=hid (za1 Bb.out hA.grow (fun e=>by have h1:=(Bc.out _ e).1;exact Nat.lt_irrefl _ h1.1))
       have Cv:Hid (zab (fun b=>w.heap.size<b∧b≠w.heap.size+1) w6 (acc++[.node k8 n8 m8 a8 ks8]) (.slice (some ⟨gq,0,none⟩) (N+1) cq2)):=hA.list
       obtain ⟨⟨j0,j1,j2,j3,j4⟩,⟨g0,g1,g2,g3,g4⟩⟩:=zaa Aj.out.1
       clear hA))
   all_goals (
    have Ak:Hid (DS (w6.setCell ⟨w.heap.size+1,4,none⟩ (.slice (some ⟨gq,0,none⟩) (N+1) cq2)) p g cap ts d (zau st).2∧Sole p w (w6.setCell ⟨w.heap.size+1,4,none⟩ (.slice (some ⟨gq,0,none⟩) (N+1) cq2))∧Kep w (w6.setCell ⟨w.heap.size+1,4,none⟩ (.slice (some ⟨gq,0,none⟩) (N+1) cq2)) (w.heap.size+1) (kidO 8 [] 0 A (.slice (some ⟨gq,0,none⟩) (N+1) cq2))∧Kep w (w6.setCell ⟨w.heap.size+1,4,none⟩ (.slice (some ⟨gq,0,none⟩) (N+1) cq2)) w.heap.size (kidO 0 [] 0 0 (.slice none 0 0))∧zab (fun b=>w.heap.size<b∧b≠w.heap.size+1) (w6.setCell ⟨w.heap.size+1,4,none⟩ (.slice (some ⟨gq,0,none⟩) (N+1) cq2)) (acc++[.node k8 n8 m8 a8 ks8]) (.slice (some ⟨gq,0,none⟩) (N+1) cq2)):=by
     have h2:=Ac.out
     refine ⟨Ct.out.set (by omega) (by omega) _ _,Sole.set Cu.out (by omega) _ _,⟨zai Aj.out.1,Aj.out.2⟩,zci Bd.out (by omega) _ _,zab.but Cv.out (fun b hb=>hb.2) (fun b hb=>Below.heap_setCell _ _ _ _ hb)⟩
    go_wp2_with fail
    generalize w6.setCell ⟨w.heap.size+1,4,none⟩ (.slice (some ⟨gq,0,none⟩) (N+1) cq2)=wca at Ak ⊢
    have Df:=hid Ak.out.1
    have Dg:=hid Ak.out.2.1
    have Cw:=hid Ak.out.2.2.1
    have Cx:=hid Ak.out.2.2.2.1
    have Dh:=hid Ak.out.2.2.2.2
    clear Ak j0 j1 j2 j3 j4 g0 g1 g2 g3 g4
    refine (zan p g cap ts hE d [58] (by simp) _ _ Df.out).mono ?_
    rintro e w41 ⟨rfl,hD,hS⟩
    have Av:=hid hS
    have Bg:=hid hD
    have Cc:=hid (Dg.out.trans Av.out)
    have Bi:=hid (Cw.out.sole Ac.out.1 Av.out)
    have Bj:=hid (Cx.out.sole Ac.out.1 Av.out)
    have Ba:=hid (zab.sole Dh.out (by intro b hb;have hpg:=Ac.out.1;have hb2:=hb;first | (unfold zak at hb2;omega) | exact (Bn.out b hb)) Av.out)
    clear hD hS
    have Ei:Hid ((acc++[(Tree.node k8 n8 m8 a8 ks8)]).length=N+1):=zgb Ba.out
    rw [Ch.out,Ei.out] at Bv
    obtain ⟨s2,hs2⟩:∃ x,(zau st).2.want [58]=x:=⟨_,rfl⟩
    have Ea:Hid (s2.n<=st.n):=by show _<=_;rw [<- hs2];exact Nat.le_trans (za7 _ _) (zij _)
    rw [hs2] at Bv Bg
    clear hs2 Ch
    go_wp2_with fail
    refine (zea p g cap ts d [99,97,115,101] s2 _ Bg.out).mono ?_
    rintro e w42 ⟨rfl,hB⟩
    have Bl:=hid hB
    have Cd:=hid (Bg.out.below Bl.out)
    have Ce:=hid (Cc.out.trans (Sole.of_below Bl.out))
    have Aa:=hid (Bi.out.below Bl.out)
    have Ae:=hid (Bj.out.below Bl.out)
    have Ab:=hid (zab.below Ba.out Bl.out)
    clear hB
    cases hb:s2.is [99,97,115,101] with
    | false =>
     have Eb:Hid (R=armC B A (acc++[(Tree.node k8 n8 m8 a8 ks8)],s2)):=by show _=_;rw [Bv.out,show s2.is zb1=false from hb];rfl
     clear Bv
     have Di:Hid (N+1<=20000):=by show _<=_;have:=Ck.out.1;have:=Ci.out;omega
     obtain ⟨acc2,hac⟩:∃ x,acc++[(Tree.node k8 n8 m8 a8 ks8)]=x:=⟨_,rfl⟩
     rw [hac] at Eb Ab
     clear hac Cg
     go_wp2_with fail
     have Cg:Hid (∀ m,Calls Tryz.prog 51 #[.pointer (some ⟨p,0,none⟩),.bool true] (w42.drewN m) (zdj p g cap ts d (zah w42.heap.size) (zcd B true s2) w42)):=fun m=>by
      have hB:Below w42.heap.size w42 (w42.drewN m):=zaj (Below.refl _ _) m
      exact (Dr.out true s2 _ (Cd.out.below hB)).mono fun e w' hp=>zdj.of_below hB hp
     obtain ⟨⟨v0,v1,v2,v3,v4⟩,⟨y0,y1,y2,y3,y4⟩⟩:=zaa Aa.out.1
     have Cl:Hid (∀ q,(Value.slice (some ⟨gq,0,none⟩) (N+1) cq2).ownBlock=some q->w.heap.size<=q):=fun q e=>Nat.le_of_lt (zb0 Ab.out e).1.1
     have Bw:Hid (w.heap.size+1<w42.heap.size):=Aa.out.lt
     go_region_law (first
      | (refine zbw rfl 51 #[.pointer (some ⟨p,0,none⟩),.bool true] (by go_simp) _ (Cg.out _) ?_
         rintro e w5 ⟨v,rfl,hv,hD,hS⟩
         refine ⟨_,rfl,?_⟩
         obtain ⟨k8,n8,m8,a8,ks8,o8,l8,c8,he8,rfl⟩:=zar hv
         obtain ⟨wb,hwb⟩:∃ x,w5.alloc (.cells #[.int .i64 k8,.string ⟨n8.toArray⟩,.int .i64 m8,.int .i64 a8,.slice o8 l8 c8] 29)=x:=⟨_,rfl⟩
         have Dz:=hid hwb
         have hBb:Below w5.heap.size w5 wb:=by rw [<- hwb];exact zac _ _
         have Cm:=hid (hD.below hBb)
         have Cn:=hid ((Ce.out.trans hS).trans (Sole.of_below hBb))
         have Af:=hid ((Aa.out.sole Ac.out.1 hS).below hBb)
         have Aw:=hid ((Ae.out.sole Ac.out.1 hS).below hBb)
         have Co:Hid (zab (fun b=>w.heap.size<b∧b≠w.heap.size+1) wb acc2 (.slice (some ⟨gq,0,none⟩) (N+1) cq2)):=zab.below (zab.sole Ab.out Bn.out hS) hBb
         have Cp:Hid (wb.heap[w5.heap.size]?=some (kidO k8 n8 m8 a8 (.slice o8 l8 c8))):=by show _=_;rw [<- hwb];exact heap_alloc_new _ _
         have Cq:Hid (w42.heap.size<=w5.heap.size∧wb.heap.size=w5.heap.size+1):=⟨hS.size,by rw [<- hwb];simp⟩
         have Bc:Hid (∀ q,(Value.slice (some ⟨gq,0,none⟩) (N+1) cq2).ownBlock=some q->(fun b=>w.heap.size<b∧b≠w.heap.size+1) q∧q<w42.heap.size):=fun q e=>zb0 Ab.out e
         have Ch:=hid he8
         have Cr:Hid (zae (fun b=>(fun b=>w.heap.size<b∧b≠w.heap.size+1) b∧(Value.slice (some ⟨gq,0,none⟩) (N+1) cq2).ownBlock≠some b) wb (.node k8 n8 m8 a8 ks8) (kidV k8 n8 m8 a8 (.slice o8 l8 c8))):=by
          rw [he8] at hv
          refine (zae.below hv hBb).weaken (fun b hb=>?_)
          have hb1:w42.heap.size<=b:=hb
          have hz4:=Bw.out
          exact ⟨⟨by omega,by omega⟩,fun e=>by have:=(Bc.out b e).2;omega⟩
         have Cs:Hid ((fun b=>w.heap.size<b∧b≠w.heap.size+1) wb.heap.size):=by
          have hb1:w42.heap.size<=wb.heap.size:=by have:=Cq.out;omega
          have hz4:=Bw.out
          exact ⟨by omega,by omega⟩
         have u4:=(zaa (Aa.out.sole Ac.out.1 hS).1).1.2.2.2.2
         have x4:=(zaa Af.out.1).1.2.2.2.2
         clear hv hD hS hBb he8
         unfold kidV)
      | (refine zfl _ rfl _ _ rfl (fun b=>w.heap.size<b∧b≠w.heap.size+1) acc2 (some ⟨gq,0,none⟩) (N+1) cq2 Co.out rfl Di.out w5.heap.size k8 m8 n8 a8 ks8 o8 l8 c8 rfl Cp.out Cr.out Cs.out ?_
         intro gq cq2 w6 hA
         have Bx:=hid (hA.ds Cm.out Cn.out Cl.out Ac.out.1 Ac.out.2)
         have Ct:=hid Bx.out.1
         have Cu:=hid Bx.out.2
         have Ad:=hid (za1 Af.out hA.grow (fun e=>by have h1:=(Bc.out _ e).1;exact h1.2 rfl))
         have Ax:=hid (za1 Aw.out hA.grow (fun e=>by have h1:=(Bc.out _ e).1;exact Nat.lt_irrefl _ h1.1))
         have Cv:Hid (zab (fun b=>w.heap.size<b∧b≠w.heap.size+1) w6 (acc2++[.node k8 n8 m8 a8 ks8]) (.slice (some ⟨gq,0,none⟩) ((N+1)+1) cq2)):=hA.list
         obtain ⟨⟨j0,j1,j2,j3,j4⟩,⟨g0,g1,g2,g3,g4⟩⟩:=zaa Ad.out.1
         clear hA))
     all_goals (
      have Ak:Hid (DS (w6.setCell ⟨w.heap.size+1,4,none⟩ (.slice (some ⟨gq,0,none⟩) ((N+1)+1) cq2)) p g cap ts d (zcd B true s2).2∧Sole p w (w6.setCell ⟨w.heap.size+1,4,none⟩ (.slice (some ⟨gq,0,none⟩) ((N+1)+1) cq2))∧Kep w (w6.setCell ⟨w.heap.size+1,4,none⟩ (.slice (some ⟨gq,0,none⟩) ((N+1)+1) cq2)) (w.heap.size+1) (kidO 8 [] 0 A (.slice (some ⟨gq,0,none⟩) ((N+1)+1) cq2))∧Kep w (w6.setCell ⟨w.heap.size+1,4,none⟩ (.slice (some ⟨gq,0,none⟩) ((N+1)+1) cq2)) w.heap.size (kidO 0 [] 0 0 (.slice none 0 0))∧zab (fun b=>w.heap.size<b∧b≠w.heap.size+1) (w6.setCell ⟨w.heap.size+1,4,none⟩ (.slice (some ⟨gq,0,none⟩) ((N+1)+1) cq2)) (acc2++[.node k8 n8 m8 a8 ks8]) (.slice (some ⟨gq,0,none⟩) ((N+1)+1) cq2)):=by
       have h2:=Ac.out
       refine ⟨Ct.out.set (by omega) (by omega) _ _,Sole.set Cu.out (by omega) _ _,⟨zai Ad.out.1,Ad.out.2⟩,zci Ax.out (by omega) _ _,zab.but Cv.out (fun b hb=>hb.2) (fun b hb=>Below.heap_setCell _ _ _ _ hb)⟩
      go_wp2_with fail
      generalize w6.setCell ⟨w.heap.size+1,4,none⟩ (.slice (some ⟨gq,0,none⟩) ((N+1)+1) cq2)=wcz at Ak ⊢
      have Bz:=hid Ak.out.1
      have Ca:=hid Ak.out.2.1
      have Be:=hid Ak.out.2.2.1
      have Bf:=hid Ak.out.2.2.2.1
      have Cb:=hid Ak.out.2.2.2.2
      clear Ak j0 j1 j2 j3 j4 g0 g1 g2 g3 g4
      refine (zan p g cap ts hE d [59] (by simp) _ _ Bz.out).mono ?_
      rintro e w73 ⟨rfl,hD,hS⟩
      have Bq:=hid hS
      have Dj:=hid hD
      have Dk:=hid (Ca.out.trans Bq.out)
      have Bm:=hid (Be.out.sole Ac.out.1 Bq.out)
      have Am:=hid (Bf.out.sole Ac.out.1 Bq.out)
      have Br:=hid (zab.sole Cb.out (by intro b hb;have hpg:=Ac.out.1;have hb2:=hb;first | (unfold zak at hb2;omega) | exact (Bn.out b hb)) Bq.out)
      clear hD hS
      obtain ⟨⟨x0,x1,x2,x3,x4⟩,_⟩:=zaa Bm.out.1
      obtain ⟨⟨z0,z1,z2,z3,z4⟩,⟨y0,y1,y2,y3,y4⟩⟩:=zaa Am.out.1
      go_wp2
      refine ret5 (n:=[]) z0 z1 z2 z3 z4 rfl (fun u q0 q1 q2 q3 q4=>by simp [results,Tryz.results124,go_sem,q0,q1,q2,q3,q4]) Am.out.2 Dk.out ?_
      intro wz hf
      rw [Eb.out]
      have hr2:=Am.out.2
      have hpg:=Ac.out
      exact ⟨_,rfl,(by show zae _ _ (.node 8 [] 0 A _) _;rw [Ch.out];exact za4 Br.out (fun b h=>Nat.le_of_lt h.1) (fun b h=>Nat.ne_of_gt h.1) hf.2),Dj.out.but (by omega) (by omega) hf.2,hf.1⟩)
    | true =>
     obtain ⟨⟨x0,x1,x2,x3,x4⟩,_⟩:=zaa Aa.out.1
     by_cases h64:N+1=64
     case pos =>
      have j64:((N:Int)+1==64)=true:=by simp;omega
      have Dl:Hid (R=armC B A (ze1 f (acc++[(Tree.node k8 n8 m8 a8 ks8)]) ((s2.fail 42).want [99,97,115,101]))):=by show _=_;rw [Bv.out,show s2.is zb1=true from hb,h64];rfl
      clear h64
      go_wp2_with fail
      refine (zbu p g cap ts d 42 s2 _ Cd.out).mono ?_
      rintro e w74 ⟨rfl,hD,hS⟩
      have Bs:=hid hS
      have Dm:=hid hD
      have Dn:=hid (Ce.out.trans Bs.out)
      have An:=hid (Aa.out.sole Ac.out.1 Bs.out)
      have Ao:=hid (Ae.out.sole Ac.out.1 Bs.out)
      have Ar:=hid (zab.sole Ab.out (by intro b hb;have hpg:=Ac.out.1;have hb2:=hb;first | (unfold zak at hb2;omega) | exact (Bn.out b hb)) Bs.out)
      clear hD hS
      go_wp2_with fail
      refine (zan p g cap ts hE d [99,97,115,101] (by simp) (s2.fail 42) _ Dm.out).mono ?_
      rintro e w75 ⟨rfl,hD,hS⟩
      have Bt:=hid hS
      have Cy:=hid hD
      have Dp:=hid (Dn.out.trans Bt.out)
      have Ag:=hid (An.out.sole Ac.out.1 Bt.out)
      have Ah:=hid (Ao.out.sole Ac.out.1 Bt.out)
      have Ai:=hid (zab.sole Ar.out (by intro b hb;have hpg:=Ac.out.1;have hb2:=hb;first | (unfold zak at hb2;omega) | exact (Bn.out b hb)) Bt.out)
      clear hD hS
      have Cz:Hid (2*(((s2.fail 42).want [99,97,115,101])).n+(if (((s2.fail 42).want [99,97,115,101])).e=0 then 1 else 0)<2*st.n+(if st.e=0 then 1 else 0)):=(zcp (by simp) (by rw [zez];exact Ea.out) Bo.out)
      go_wp2
      go_roundw
      case rel =>
       refine ⟨_,N+1,some ⟨gq,0,none⟩,cq2,((s2.fail 42).want [99,97,115,101]),f,Cy,Dp,Ah,Ag,Ai,Dl,?_⟩
       have h1:=Ck.out
       have h5:=Cz.out
       rw [if_pos Bo.out] at h5
       refine ⟨by omega,fun h0=>?_⟩
       have h3:=h1.2 Bo.out
       rw [if_pos h0] at h5
       omega
      case measure =>
       rw [zd8 Cy.out,Dx.out,zcc,zcc]
       exact Cz.out
     have j64:((N:Int)+1==64)=false:=by simp;omega
     have Dl:Hid (R=armC B A (ze1 f (acc++[(Tree.node k8 n8 m8 a8 ks8)]) (s2.want [99,97,115,101]))):=by show _=_;rw [Bv.out,show s2.is zb1=true from hb,show (N+1==64)=false by simp;omega];rfl
     clear h64
     go_wp2_with fail
     refine (zan p g cap ts hE d [99,97,115,101] (by simp) s2 _ Cd.out).mono ?_
     rintro e w76 ⟨rfl,hD,hS⟩
     have Bu:=hid hS
     have Da:=hid hD
     have Dq:=hid (Ce.out.trans Bu.out)
     have Ap:=hid (Aa.out.sole Ac.out.1 Bu.out)
     have Aq:=hid (Ae.out.sole Ac.out.1 Bu.out)
     have Au:=hid (zab.sole Ab.out (by intro b hb;have hpg:=Ac.out.1;have hb2:=hb;first | (unfold zak at hb2;omega) | exact (Bn.out b hb)) Bu.out)
     clear hD hS
     have Cz:Hid (2*((s2.want [99,97,115,101])).n+(if ((s2.want [99,97,115,101])).e=0 then 1 else 0)<2*st.n+(if st.e=0 then 1 else 0)):=(zcp (by simp) Ea.out Bo.out)
     go_wp2
     go_roundw
     case rel =>
      refine ⟨_,N+1,some ⟨gq,0,none⟩,cq2,(s2.want [99,97,115,101]),f,Da,Dq,Aq,Ap,Au,Dl,?_⟩
      have h1:=Ck.out
      have h5:=Cz.out
      rw [if_pos Bo.out] at h5
      refine ⟨by omega,fun h0=>?_⟩
      have h3:=h1.2 Bo.out
      rw [if_pos h0] at h5
      omega
     case measure =>
      rw [zd8 Da.out,Dx.out,zcc,zcc]
      exact Cz.out))
theorem bld034x (k a:Int) (o:Option Addr) (n c:Nat) (w:World):(Instr.build 29 #[(0,.int .i64 k),(3,.int .i64 a),(4,.slice o n c)]).run Tryz.prog w=.ok (.agg #[.int .i64 k,.string ⟨#[]⟩,.int .i64 0,.int .i64 a,.slice o n c]) w:=by kernel_rfl
set_option maxHeartbeats 2000000 in
set_option maxRecDepth 4000 in
theorem zhp (p g cap:Nat) (ts:List Tok) (hE:Ends ts) (d:Int) (B:RS->Tree × RS) (hDn:Down B) (hDc:DDecl p g cap ts d B) (hA:zge p g cap ts d 124 (armD B)):zlv p g cap ts d 84 (zgh B):=by
 intro s w h
 have Df:=hid hDc
 have Ez:=hid hDn
 have Fa:=hid hA
 clear hDc hDn hA
 have Af:Hid (p<w.heap.size∧g<w.heap.size):=⟨h.plt,h.glt⟩
 obtain ⟨R,hR⟩:∃ R,zgh B s=R:=⟨_,rfl⟩
 rw [hR]
 have HR:=hid (hR.symm)
 have HD:=hid h
 have HS:Hid (Sole p w w):=Sole.refl _ _
 clear h hR
 go_enter Tryz.func84,Tryz.ntmps84
 go_wp2_with fail
 refine (zan p g cap ts hE d [115,119,105,116,99,104] (by simp) s _ HD.out).mono ?_
 rintro e w1 ⟨rfl,hD,hS⟩
 have Fb:=hid hS
 have Fc:=hid hD
 have Fd:=hid (HS.out.trans Fb.out)
 clear hD hS
 go_wp2_with fail
 refine (zan p g cap ts hE d [40] (by simp) _ _ Fc.out).mono ?_
 rintro e w2 ⟨rfl,hD,hS⟩
 have Fe:=hid hS
 have Ff:=hid hD
 have Es:=hid (Fd.out.trans Fe.out)
 clear hD hS
 go_wp2_with fail
 have Fg:=hid (Sole.size Es.out)
 refine (Df.out true _ _ Ff.out).mono ?_
 rintro e w3 ⟨v,rfl,hv,hD,hS⟩
 have Et:=hid hS
 have Dg:=hid hD
 have Fh:=hid (Es.out.trans Et.out)
 obtain ⟨k3,n3,m3,a3,ks3,o3,l3,c3,he3,rfl⟩:=zar hv
 have Da:=hid he3
 clear he3
 have Dh:=hid hv
 clear hv hD hS
 obtain ⟨dv,hdv⟩:∃ x,zcd B true ((s.want [115,119,105,116,99,104]).want [40])=x:=⟨_,rfl⟩
 have Db:Hid (R=zgl B (zf3 B (((dv.2.want [41]).want [123]).n+1) [dv.1] ((dv.2.want [41]).want [123])).1 (zf3 B (((dv.2.want [41]).want [123]).n+1) [dv.1] ((dv.2.want [41]).want [123])).2):=by
  show _=_
  rw [HR.out,<- hdv];rfl
 rw [hdv] at Dg Da Dh
 clear hdv
 obtain ⟨wq,hwq⟩:∃ x,w3.alloc (.cells #[.int .i64 k3,.string ⟨n3.toArray⟩,.int .i64 m3,.int .i64 a3,.slice o3 l3 c3] 29)=x:=⟨_,rfl⟩
 have Di:Hid (Below w3.heap.size w3 wq):=hidB hwq
 have Fi:=hid (Dg.out.below Di.out)
 have Fj:=hid (Fh.out.trans (Sole.of_below Di.out))
 have Fk:Hid (zab (zak w.heap.size) wq [.node k3 n3 m3 a3 ks3] (.slice (some ⟨w3.heap.size,0,none⟩) 1 1)):=by
  have h1:=Fg.out
  have h2:=Et.out.size
  have h4:zah w2.heap.size (.node k3 n3 m3 a3 ks3) w3 (kidV k3 n3 m3 a3 (.slice o3 l3 c3)):=by rw [<- Da.out];exact Dh.out
  refine zbh (ks:=[.node k3 n3 m3 a3 ks3]) (q:=w3.heap.size) (by rw [<- hwq];exact heap_alloc_new _ _) (by simp) (by unfold zak;omega) (za3 ((zae.below (zae.there _ _ h4) Di.out).weaken (fun b hb=>?_)))
  have hb1:w2.heap.size<=b:=hb.1
  exact ⟨by unfold zak;omega,Nat.ne_of_lt hb.2⟩
 rw [Da.out] at Db
 unfold kidV
 go_wp2_with fail
 clear hwq
 refine (zan p g cap ts hE d [41] (by simp) _ _ Fi.out).mono ?_
 rintro e w21 ⟨rfl,hD,hS⟩
 have Bz:=hid hS
 have Dj:=hid hD
 have Dk:=hid (Fj.out.trans Bz.out)
 have Bl:=hid (zab.sole Fk.out (by intro b hb;have hpg:=Af.out.1;have hb2:=hb;first | (unfold zak at hb2;omega) | exact (Al.out b hb)) Bz.out)
 clear hD hS
 go_wp2_with fail
 refine (zan p g cap ts hE d [123] (by simp) _ _ Dj.out).mono ?_
 rintro e w22 ⟨rfl,hD,hS⟩
 have Ca:=hid hS
 have Ax:=hid hD
 have Dl:=hid (Dk.out.trans Ca.out)
 have Ag:=hid (zab.sole Bl.out (by intro b hb;have hpg:=Af.out.1;have hb2:=hb;first | (unfold zak at hb2;omega) | exact (Al.out b hb)) Ca.out)
 clear hD hS
 obtain ⟨s1,hs1⟩:∃ x,(dv.2.want [41]).want [123]=x:=⟨_,rfl⟩
 rw [hs1] at Ax Db
 clear hs1
 have Bm:=hid (ds_n Ax.out)
 go_wp2_with fail
 go_loopw [3] (fun sl wr=>∃ (acc:List Tree) (N:Nat) (oq:Option Addr) (cq:Nat) (st:RS) (f:Nat),sl=.slice oq N cq∧Hid (DS wr p g cap ts d st)∧Hid (Sole p w wr)∧Hid (zab (zak w.heap.size) wr acc (.slice oq N cq))∧Hid (R=zgl B (zf3 B f acc st).1 (zf3 B f acc st).2)∧Hid (N+f=s1.n+2∧(st.e=0->st.n<f))) (fun _ wr=>mu p ts.length wr)
 case atStart => exact ⟨[(Tree.node k3 n3 m3 a3 ks3)],1,some ⟨w3.heap.size,0,none⟩,1,s1,s1.n+1,rfl,Ax,Dl,Ag,Db,⟨by omega,fun _=>by omega⟩⟩
 case round =>
  clear Ax Ag Db Dg Dh Da
  obtain ⟨acc,N,oq,cq,st,f,rfl,Cb,Dm,Dn,Dc,Bx⟩:=hrel
  have Eu:Hid (mu p ts.length wr=muS st):=zd8 Cb.out
  obtain ⟨e3,e2⟩:=Cb.out.e_cell
  obtain ⟨EE,hEE⟩:∃ x,st.e=x:=⟨_,rfl⟩
  have Bd:=hid hEE
  rw [hEE] at e3
  clear hEE
  by_cases he:EE=0
  case neg =>
   have he2:(EE==0)=false:=by simp [he]
   have Ev:Hid (R=zgl B acc st):=Dc.out.trans (by rw [zjh (by rw [Bd.out];exact he) f acc])
   have Bn:Hid (N<=20000):=by show _<=_;have:=Bx.out.1;have:=Bm.out;omega
   go_wp2_with fail
   obtain ⟨i,hi,h1,hh,hs⟩:=Cb.out.at_
   have Fl:Hid (DP wr p g cap ts i d st.e st.pl∧st.hd=ts[i]∧st.ts=ts.drop i):=⟨h1,hh,hs⟩
   have Dp:Hid ((i:Int)<=16001):=by show _<=_;have:=h1.ln;omega
   have hl:=h1.look hi
   obtain ⟨E0,hE0⟩:∃ x,st.e=x:=⟨_,rfl⟩
   obtain ⟨K,hK⟩:∃ x,ts[i].kind=x:=⟨_,rfl⟩
   obtain ⟨M,hM⟩:∃ x,ts[i].num=x:=⟨_,rfl⟩
   obtain ⟨A,hA⟩:∃ x,ts[i].at_=x:=⟨_,rfl⟩
   obtain ⟨S,hS⟩:∃ x,ts[i].text=x:=⟨_,rfl⟩
   rw [hE0,hK,hM,hA,hS] at hl
   have HF:Hid (st.e=E0∧st.hd.kind=K∧st.hd.num=M∧st.hd.at_=A∧st.hd.text=S):=⟨hE0,by rw [hh];exact hK,by rw [hh];exact hM,by rw [hh];exact hA,by rw [hh];exact hS⟩
   clear hE0 hK hM hA hS hh hs h1
   obtain ⟨hp,hg,hiq,c0,c1,c3,t0,t1,t2,t3,f1⟩:=hl
   have c1x:∀ x,(wr.alloc x).cell? ⟨p,1,none⟩=some (.int .i64 i):=fun x=>by rw [World.cell?_alloc_lt _ _ _ hp];exact c1
   have c3x:∀ x,(wr.alloc x).cell? ⟨p,3,none⟩=some (.int .i64 E0):=fun x=>by rw [World.cell?_alloc_lt _ _ _ hp];exact c3
   have f1x:∀ x,(wr.alloc x).frozen? ⟨p,1,none⟩=false:=fun x=>by rw [World.frozen?_alloc_old _ _ _ (Nat.ne_of_lt hp)];exact f1
   have Fm:Hid (∀ x k,Below wr.heap.size wr ((wr.alloc x).drewN k)):=fun x k=>zaj (zac wr x) k
   have hne:¬ p=wr.heap.size:=by omega
   have hne2:¬ wr.heap.size=p:=by omega
   have him:=Dp.out
   have qb:=bld034x
   go_region
   all_goals (
    go_wp2_with fail
    refine (zch p g cap ts hE d [100,101,102,97,117,108,116] (by simp) st _ (Cb.out.below (zal _))).mono ?_
    rintro e w41 ⟨rfl,hD,hS⟩
    have Cc:=hid ((Sole.of_below (p:=p) (zal _)).trans hS)
    have Ay:=hid hD
    have Cd:=hid (Dm.out.trans Cc.out)
    have Aq:=hid (zab.sole Dn.out (by intro b hb;have hpg:=Af.out.1;have hb2:=hb;first | (unfold zak at hb2;omega) | exact (Al.out b hb)) Cc.out)
    clear hD hS
    clear c0 c1 c3 t0 t1 t2 t3 f1 c1x c3x f1x hne hne2 him hp hg hiq
    cases hbd:st.is [100,101,102,97,117,108,116] with
    | false =>
     rw [zb4 hbd] at Ay
     have Az:Hid (R=(acc,st.want [125])):=by show _=_;rw [Ev.out];unfold zgl;rw [show st.is za2=false from hbd];rfl
     go_wp2_with fail
     refine (zan p g cap ts hE d [125] (by simp) st _ Ay.out).mono ?_
     rintro e w42 ⟨rfl,hD,hS⟩
     have Ce:=hid hS
     have Dq:=hid hD
     have Dr:=hid (Cd.out.trans Ce.out)
     have Ao:=hid (zab.sole Aq.out (by intro b hb;have hpg:=Af.out.1;have hb2:=hb;first | (unfold zak at hb2;omega) | exact (Al.out b hb)) Ce.out)
     clear hD hS
     go_wp2
     go_ret
     rw [Az.out]
     exact ⟨_,rfl,Ao.out,Dq.out,Dr.out⟩
    | true =>
     rw [zdx hbd] at Ay
     have Az:Hid (R=(acc++[.node 9 [] 0 A [(zcd B true (st.adv.want [58])).1]],((zcd B true (st.adv.want [58])).2.want [59]).want [125])):=by show _=_;rw [Ev.out];unfold zgl;rw [show st.is za2=true from hbd,HF.out.2.2.2.1];rfl
     go_wp2_with fail
     refine (zan p g cap ts hE d [58] (by simp) st.adv _ Ay.out).mono ?_
     rintro e w43 ⟨rfl,hD,hS⟩
     have Cf:=hid hS
     have Ds:=hid hD
     have Cg:=hid (Cd.out.trans Cf.out)
     have Ah:=hid (zab.sole Aq.out (by intro b hb;have hpg:=Af.out.1;have hb2:=hb;first | (unfold zak at hb2;omega) | exact (Al.out b hb)) Cf.out)
     clear hD hS
     go_wp2_with fail
     have Dt:=hid (Sole.size Cg.out)
     refine (Df.out true _ _ Ds.out).mono ?_
     rintro e w44 ⟨v,rfl,hv,hD,hS⟩
     have Bo:=hid hS
     have Du:=hid hD
     have Dv:=hid (Cg.out.trans Bo.out)
     have Ai:=hid (zab.sole Ah.out (by intro b hb;have hpg:=Af.out.1;have hb2:=hb;first | (unfold zak at hb2;omega) | exact (Al.out b hb)) Bo.out)
     obtain ⟨k44,n44,m44,a44,ks44,o44,l44,c44,he44,rfl⟩:=zar hv
     have Ch:=hid he44
     clear he44
     have Dw:=hid hv
     clear hv hD hS
     obtain ⟨wb,hwb⟩:∃ x,w44.alloc (.cells #[.int .i64 k44,.string ⟨n44.toArray⟩,.int .i64 m44,.int .i64 a44,.slice o44 l44 c44] 29)=x:=⟨_,rfl⟩
     obtain ⟨wc,hwc⟩:∃ x,wb.alloc (.cells #[.int .i64 9,.string ⟨#[]⟩,.int .i64 0,.int .i64 A,.slice (some ⟨w44.heap.size,0,none⟩) 1 1] 29)=x:=⟨_,rfl⟩
     have Aj:Hid (Below w44.heap.size w44 wc∧wb.heap.size=w44.heap.size+1):=⟨by rw [<- hwc,<- hwb];exact (zac _ _).alloc (by simp) _,by rw [<- hwb];simp⟩
     have Be:=hid (Du.out.below Aj.out.1)
     have Ar:=hid (Dv.out.trans (Sole.of_below Aj.out.1))
     have Bf:=hid (zab.below Ai.out Aj.out.1)
     have Ci:Hid (wc.heap[w44.heap.size]?=some (kidO k44 n44 m44 a44 (.slice o44 l44 c44))):=by show _=_;rw [<- hwc];exact za9 (by rw [<- hwb];exact heap_alloc_new _ _)
     have Bg:Hid (wc.heap[wb.heap.size]?=some (kidO 9 [] 0 A (.slice (some ⟨w44.heap.size,0,none⟩) 1 1))):=by show _=_;rw [<- hwc];exact heap_alloc_new _ _
     have Ap:Hid (∀ q,(Value.slice oq N cq).ownBlock=some q->w.heap.size<=q∧q<w43.heap.size):=fun q e=>by
      have h1:=zb0 Ah.out e
      exact ⟨h1.1,h1.2⟩
     have Bh:Hid (zae (fun b=>zak w.heap.size b∧(Value.slice oq N cq).ownBlock≠some b) wc (.node 9 [] 0 A [.node k44 n44 m44 a44 ks44]) (kidV 9 [] 0 A (.slice (some ⟨w44.heap.size,0,none⟩) 1 1))):=by
      have h1:=Dt.out
      have h2:=Bo.out.size
      have h4:zah w43.heap.size (.node k44 n44 m44 a44 ks44) w44 (kidV k44 n44 m44 a44 (.slice o44 l44 c44)):=by rw [<- Ch.out];exact Dw.out
      have h3:=zae.there _ _ h4
      refine node1 Ci.out ⟨by unfold zak;omega,fun e=>by have:=Ap.out _ e;omega⟩ ((zae.below h3 Aj.out.1).weaken (fun b hb=>?_))
      have hb1:w43.heap.size<=b:=hb.1
      exact ⟨⟨by unfold zak;omega,fun e=>by have:=Ap.out b e;omega⟩,Nat.ne_of_lt hb.2⟩
     have Bi:Hid (zak w.heap.size wc.heap.size):=by show _<=_;exact Ar.out.size
     unfold kidV
     go_wp2_with (at_builtin;refine zii _ rfl _ _ rfl (zak w.heap.size) acc oq N cq Bf.out rfl Bn.out wb.heap.size 9 0 [] A [.node k44 n44 m44 a44 ks44] (some ⟨w44.heap.size,0,none⟩) 1 1 rfl Bg.out Bh.out Bi.out ?_;intro g9 q9 x9 hA;have Au:=hid hA;clear hA)
     have Av:=hid (Au.out.ds Be.out Ar.out (fun q e=>(Ap.out q e).1) Af.out.1 Af.out.2)
     have Bp:=hid Av.out.1
     have Bq:=hid Av.out.2
     have Br:=hid (Au.out.list)
     rw [Ch.out] at Az
     clear hwb hwc Av Au Be Ar Bf Bg Ci Bh Bi Aj Ap
     refine (zan p g cap ts hE d [59] (by simp) _ _ Bp.out).mono ?_
     rintro e w45 ⟨rfl,hD,hS⟩
     have Cj:=hid hS
     have Dx:=hid hD
     have Dy:=hid (Bq.out.trans Cj.out)
     have Ba:=hid (zab.sole Br.out (by intro b hb;have hpg:=Af.out.1;have hb2:=hb;first | (unfold zak at hb2;omega) | exact (Al.out b hb)) Cj.out)
     clear hD hS
     go_wp2_with fail
     refine (zan p g cap ts hE d [125] (by simp) _ _ Dx.out).mono ?_
     rintro e w46 ⟨rfl,hD,hS⟩
     have Ck:=hid hS
     have Dz:=hid hD
     have Ea:=hid (Dy.out.trans Ck.out)
     have Am:=hid (zab.sole Ba.out (by intro b hb;have hpg:=Af.out.1;have hb2:=hb;first | (unfold zak at hb2;omega) | exact (Al.out b hb)) Ck.out)
     clear hD hS
     go_wp2
     go_ret
     rw [Az.out]
     exact ⟨_,rfl,Am.out,Dz.out,Ea.out⟩)
  subst he
  obtain ⟨f,rfl⟩:∃ f' : Nat,f=f'+1:=⟨f-1,by have:=Bx.out.2 Bd.out;omega⟩
  have Bn:Hid (N<=20000):=by show _<=_;have:=Bx.out.1;have:=Bm.out;omega
  obtain ⟨tv,htv⟩:∃ x,(armD B st).1=x:=⟨_,rfl⟩
  obtain ⟨sv,hsv⟩:∃ x,(armD B st).2=x:=⟨_,rfl⟩
  have Ew:Hid ((armD B st).1=tv∧(armD B st).2=sv):=⟨htv,hsv⟩
  have Dd:Hid (zf3 B (f+1) acc st=(if sv.is zb1 then zf3 B f (acc++[tv]) (if 64<(acc++[tv]).length then sv.fail 42 else sv) else (acc++[tv],sv))):=by
   show _=_
   rw [zf3,Bd.out,<- htv,<- hsv];rfl
  have De:Hid (2*sv.n+(if sv.e=0 then 1 else 0)<2*st.n+(if st.e=0 then 1 else 0)):=by
   show _<_
   rw [<- hsv]
   exact zcp (by simp) (Nat.le_trans (zh9 Ez.out _ _) (Nat.le_trans (znq _ _ _) (za7 _ _))) Bd.out
  clear htv hsv
  go_wp2_with fail
  have Eb:=hid (Sole.size Dm.out)
  refine (Fa.out st _ Cb.out).mono ?_
  rintro e w61 ⟨v,rfl,hv,hD,hS⟩
  have Cl:=hid hS
  have Cm:=hid hD
  have Ec:=hid (Dm.out.trans Cl.out)
  have Bs:=hid (zab.sole Dn.out (by intro b hb;have hpg:=Af.out.1;have hb2:=hb;first | (unfold zak at hb2;omega) | exact (Al.out b hb)) Cl.out)
  obtain ⟨k61,n61,m61,a61,ks61,o61,l61,c61,he61,rfl⟩:=zar hv
  have Bt:=hid he61
  clear he61
  have Cn:=hid hv
  clear hv hD hS
  rw [Ew.out.1] at Cn Bt
  rw [Ew.out.2] at Cm
  obtain ⟨wb61,hwb⟩:∃ x,w61.alloc (.cells #[.int .i64 k61,.string ⟨n61.toArray⟩,.int .i64 m61,.int .i64 a61,.slice o61 l61 c61] 29)=x:=⟨_,rfl⟩
  have Aj:Hid (Below w61.heap.size w61 wb61):=hidB hwb
  have Be:=hid (Cm.out.below Aj.out)
  have Ar:=hid (Ec.out.trans (Sole.of_below Aj.out))
  have Bf:=hid (zab.below Bs.out Aj.out)
  have Bg:Hid (wb61.heap[w61.heap.size]?=some (kidO k61 n61 m61 a61 (.slice o61 l61 c61))):=by show _=_;rw [<- hwb];exact heap_alloc_new _ _
  have Ap:Hid (∀ q,(Value.slice oq N cq).ownBlock=some q->w.heap.size<=q∧q<wr.heap.size):=fun q e=>by
   have h1:=zb0 Dn.out e
   exact ⟨h1.1,h1.2⟩
  have Bh:Hid (zae (fun b=>zak w.heap.size b∧(Value.slice oq N cq).ownBlock≠some b) wb61 (.node k61 n61 m61 a61 ks61) (kidV k61 n61 m61 a61 (.slice o61 l61 c61))):=by
   have h1:=Eb.out
   have h4:zah wr.heap.size (.node k61 n61 m61 a61 ks61) w61 (kidV k61 n61 m61 a61 (.slice o61 l61 c61)):=by rw [<- Bt.out];exact Cn.out
   refine (zae.below h4 Aj.out).weaken (fun b hb=>?_)
   have hb1:wr.heap.size<=b:=hb
   exact ⟨by unfold zak;omega,fun e=>by have:=Ap.out b e;omega⟩
  have Bi:Hid (zak w.heap.size wb61.heap.size):=by show _<=_;exact Ar.out.size
  unfold kidV
  go_wp2_with (at_builtin;refine zii _ rfl _ _ rfl (zak w.heap.size) acc oq N cq Bf.out rfl Bn.out w61.heap.size k61 m61 n61 a61 ks61 o61 l61 c61 rfl Bg.out Bh.out Bi.out ?_;intro g61 q61 x61 hA;have Au:=hid hA;clear hA)
  have Av:=hid (Au.out.ds Be.out Ar.out (fun q e=>(Ap.out q e).1) Af.out.1 Af.out.2)
  have Bj:=hid Av.out.1
  have Co:=hid Av.out.2
  have Cp:=hid (Au.out.list)
  clear hwb Av Au Be Ar Bf Bg Bh Bi Aj Ap
  refine (zea p g cap ts d [99,97,115,101] sv _ Bj.out).mono ?_
  rintro e w62 ⟨rfl,hB⟩
  have Bu:=hid hB
  have Aw:=hid (Bj.out.below Bu.out)
  have Bv:=hid (Co.out.trans (Sole.of_below Bu.out))
  have Aa:=hid (zab.below Cp.out Bu.out)
  clear hB
  have Ey:Hid ((acc++[(Tree.node k61 n61 m61 a61 ks61)]).length=N+1):=zgb Aa.out
  rw [Bt.out,Ey.out] at Dd
  cases hb1:sv.is [99,97,115,101] with
  | false =>
   have Ed:Hid (R=zgl B (acc++[(Tree.node k61 n61 m61 a61 ks61)]) sv):=by
    show _=_
    rw [Dc.out,Dd.out,show sv.is zb1=false from hb1];rfl
   clear hb1 Bn
   have Bn:Hid (N+1<=20000):=by show _<=_;have:=Bx.out.1;have:=Bm.out;omega
   obtain ⟨acc2,hac⟩:∃ x,acc++[(Tree.node k61 n61 m61 a61 ks61)]=x:=⟨_,rfl⟩
   obtain ⟨N2,hN2⟩:∃ x,N+1=x:=⟨_,rfl⟩
   rw [hac] at Ed Aa
   rw [hN2] at Bn Aa
   rw [hN2]
   clear hac hN2 Ey
   go_wp2_with fail
   obtain ⟨i,hi,h1,hh,hs⟩:=Aw.out.at_
   have Fl:Hid (DP w62 p g cap ts i d sv.e sv.pl∧sv.hd=ts[i]∧sv.ts=ts.drop i):=⟨h1,hh,hs⟩
   have Dp:Hid ((i:Int)<=16001):=by show _<=_;have:=h1.ln;omega
   have hl:=h1.look hi
   obtain ⟨E0,hE0⟩:∃ x,sv.e=x:=⟨_,rfl⟩
   obtain ⟨K,hK⟩:∃ x,ts[i].kind=x:=⟨_,rfl⟩
   obtain ⟨M,hM⟩:∃ x,ts[i].num=x:=⟨_,rfl⟩
   obtain ⟨A,hA⟩:∃ x,ts[i].at_=x:=⟨_,rfl⟩
   obtain ⟨S,hS⟩:∃ x,ts[i].text=x:=⟨_,rfl⟩
   rw [hE0,hK,hM,hA,hS] at hl
   have HF:Hid (sv.e=E0∧sv.hd.kind=K∧sv.hd.num=M∧sv.hd.at_=A∧sv.hd.text=S):=⟨hE0,by rw [hh];exact hK,by rw [hh];exact hM,by rw [hh];exact hA,by rw [hh];exact hS⟩
   clear hE0 hK hM hA hS hh hs h1
   obtain ⟨hp,hg,hiq,c0,c1,c3,t0,t1,t2,t3,f1⟩:=hl
   have c1x:∀ x,(w62.alloc x).cell? ⟨p,1,none⟩=some (.int .i64 i):=fun x=>by rw [World.cell?_alloc_lt _ _ _ hp];exact c1
   have c3x:∀ x,(w62.alloc x).cell? ⟨p,3,none⟩=some (.int .i64 E0):=fun x=>by rw [World.cell?_alloc_lt _ _ _ hp];exact c3
   have f1x:∀ x,(w62.alloc x).frozen? ⟨p,1,none⟩=false:=fun x=>by rw [World.frozen?_alloc_old _ _ _ (Nat.ne_of_lt hp)];exact f1
   have Fm:Hid (∀ x k,Below w62.heap.size w62 ((w62.alloc x).drewN k)):=fun x k=>zaj (zac w62 x) k
   have hne:¬ p=w62.heap.size:=by omega
   have hne2:¬ w62.heap.size=p:=by omega
   have him:=Dp.out
   have qb:=bld034x
   go_region
   all_goals (
    go_wp2_with fail
    refine (zch p g cap ts hE d [100,101,102,97,117,108,116] (by simp) sv _ (Aw.out.below (zal _))).mono ?_
    rintro e w63 ⟨rfl,hD,hS⟩
    have Cq:=hid ((Sole.of_below (p:=p) (zal _)).trans hS)
    have Bb:=hid hD
    have Cr:=hid (Bv.out.trans Cq.out)
    have Ad:=hid (zab.sole Aa.out (by intro b hb;have hpg:=Af.out.1;have hb2:=hb;first | (unfold zak at hb2;omega) | exact (Al.out b hb)) Cq.out)
    clear hD hS
    clear c0 c1 c3 t0 t1 t2 t3 f1 c1x c3x f1x hne hne2 him hp hg hiq
    cases hbd:sv.is [100,101,102,97,117,108,116] with
    | false =>
     rw [zb4 hbd] at Bb
     have Az:Hid (R=(acc2,sv.want [125])):=by show _=_;rw [Ed.out];unfold zgl;rw [show sv.is za2=false from hbd];rfl
     go_wp2_with fail
     refine (zan p g cap ts hE d [125] (by simp) sv _ Bb.out).mono ?_
     rintro e w64 ⟨rfl,hD,hS⟩
     have Cs:=hid hS
     have Ee:=hid hD
     have Ef:=hid (Cr.out.trans Cs.out)
     have Ae:=hid (zab.sole Ad.out (by intro b hb;have hpg:=Af.out.1;have hb2:=hb;first | (unfold zak at hb2;omega) | exact (Al.out b hb)) Cs.out)
     clear hD hS
     go_wp2
     go_ret
     rw [Az.out]
     exact ⟨_,rfl,Ae.out,Ee.out,Ef.out⟩
    | true =>
     rw [zdx hbd] at Bb
     have Az:Hid (R=(acc2++[.node 9 [] 0 A [(zcd B true (sv.adv.want [58])).1]],((zcd B true (sv.adv.want [58])).2.want [59]).want [125])):=by show _=_;rw [Ed.out];unfold zgl;rw [show sv.is za2=true from hbd,HF.out.2.2.2.1];rfl
     go_wp2_with fail
     refine (zan p g cap ts hE d [58] (by simp) sv.adv _ Bb.out).mono ?_
     rintro e w65 ⟨rfl,hD,hS⟩
     have Ct:=hid hS
     have Eg:=hid hD
     have Cu:=hid (Cr.out.trans Ct.out)
     have Ab:=hid (zab.sole Ad.out (by intro b hb;have hpg:=Af.out.1;have hb2:=hb;first | (unfold zak at hb2;omega) | exact (Al.out b hb)) Ct.out)
     clear hD hS
     go_wp2_with fail
     have Eh:=hid (Sole.size Cu.out)
     refine (Df.out true _ _ Eg.out).mono ?_
     rintro e w66 ⟨v,rfl,hv,hD,hS⟩
     have Bw:=hid hS
     have Ei:=hid hD
     have Ej:=hid (Cu.out.trans Bw.out)
     have Ac:=hid (zab.sole Ab.out (by intro b hb;have hpg:=Af.out.1;have hb2:=hb;first | (unfold zak at hb2;omega) | exact (Al.out b hb)) Bw.out)
     obtain ⟨k66,n66,m66,a66,ks66,o66,l66,c66,he66,rfl⟩:=zar hv
     have Cv:=hid he66
     clear he66
     have Ek:=hid hv
     clear hv hD hS
     obtain ⟨wb,hwb⟩:∃ x,w66.alloc (.cells #[.int .i64 k66,.string ⟨n66.toArray⟩,.int .i64 m66,.int .i64 a66,.slice o66 l66 c66] 29)=x:=⟨_,rfl⟩
     obtain ⟨wc,hwc⟩:∃ x,wb.alloc (.cells #[.int .i64 9,.string ⟨#[]⟩,.int .i64 0,.int .i64 A,.slice (some ⟨w66.heap.size,0,none⟩) 1 1] 29)=x:=⟨_,rfl⟩
     have Aj:Hid (Below w66.heap.size w66 wc∧wb.heap.size=w66.heap.size+1):=⟨by rw [<- hwc,<- hwb];exact (zac _ _).alloc (by simp) _,by rw [<- hwb];simp⟩
     have Be:=hid (Ei.out.below Aj.out.1)
     have Ar:=hid (Ej.out.trans (Sole.of_below Aj.out.1))
     have Bf:=hid (zab.below Ac.out Aj.out.1)
     have Ci:Hid (wc.heap[w66.heap.size]?=some (kidO k66 n66 m66 a66 (.slice o66 l66 c66))):=by show _=_;rw [<- hwc];exact za9 (by rw [<- hwb];exact heap_alloc_new _ _)
     have Bg:Hid (wc.heap[wb.heap.size]?=some (kidO 9 [] 0 A (.slice (some ⟨w66.heap.size,0,none⟩) 1 1))):=by show _=_;rw [<- hwc];exact heap_alloc_new _ _
     have Ap:Hid (∀ q,(Value.slice (some ⟨g61,0,none⟩) N2 q61).ownBlock=some q->w.heap.size<=q∧q<w65.heap.size):=fun q e=>by
      have h1:=zb0 Ab.out e
      exact ⟨h1.1,h1.2⟩
     have Bh:Hid (zae (fun b=>zak w.heap.size b∧(Value.slice (some ⟨g61,0,none⟩) N2 q61).ownBlock≠some b) wc (.node 9 [] 0 A [.node k66 n66 m66 a66 ks66]) (kidV 9 [] 0 A (.slice (some ⟨w66.heap.size,0,none⟩) 1 1))):=by
      have h1:=Eh.out
      have h2:=Bw.out.size
      have h4:zah w65.heap.size (.node k66 n66 m66 a66 ks66) w66 (kidV k66 n66 m66 a66 (.slice o66 l66 c66)):=by rw [<- Cv.out];exact Ek.out
      have h3:=zae.there _ _ h4
      refine node1 Ci.out ⟨by unfold zak;omega,fun e=>by have:=Ap.out _ e;omega⟩ ((zae.below h3 Aj.out.1).weaken (fun b hb=>?_))
      have hb1:w65.heap.size<=b:=hb.1
      exact ⟨⟨by unfold zak;omega,fun e=>by have:=Ap.out b e;omega⟩,Nat.ne_of_lt hb.2⟩
     have Bi:Hid (zak w.heap.size wc.heap.size):=by show _<=_;exact Ar.out.size
     unfold kidV
     go_wp2_with (at_builtin;refine zii _ rfl _ _ rfl (zak w.heap.size) acc2 (some ⟨g61,0,none⟩) N2 q61 Bf.out rfl Bn.out wb.heap.size 9 0 [] A [.node k66 n66 m66 a66 ks66] (some ⟨w66.heap.size,0,none⟩) 1 1 rfl Bg.out Bh.out Bi.out ?_;intro g9 q9 x9 hA;have Au:=hid hA;clear hA)
     have Av:=hid (Au.out.ds Be.out Ar.out (fun q e=>(Ap.out q e).1) Af.out.1 Af.out.2)
     have Bp:=hid Av.out.1
     have Bq:=hid Av.out.2
     have Br:=hid (Au.out.list)
     rw [Cv.out] at Az
     clear hwb hwc Av Au Be Ar Bf Bg Ci Bh Bi Aj Ap
     refine (zan p g cap ts hE d [59] (by simp) _ _ Bp.out).mono ?_
     rintro e w67 ⟨rfl,hD,hS⟩
     have Cw:=hid hS
     have El:=hid hD
     have Em:=hid (Bq.out.trans Cw.out)
     have Bc:=hid (zab.sole Br.out (by intro b hb;have hpg:=Af.out.1;have hb2:=hb;first | (unfold zak at hb2;omega) | exact (Al.out b hb)) Cw.out)
     clear hD hS
     go_wp2_with fail
     refine (zan p g cap ts hE d [125] (by simp) _ _ El.out).mono ?_
     rintro e w68 ⟨rfl,hD,hS⟩
     have Cx:=hid hS
     have En:=hid hD
     have Eo:=hid (Em.out.trans Cx.out)
     have An:=hid (zab.sole Bc.out (by intro b hb;have hpg:=Af.out.1;have hb2:=hb;first | (unfold zak at hb2;omega) | exact (Al.out b hb)) Cx.out)
     clear hD hS
     go_wp2
     go_ret
     rw [Az.out]
     exact ⟨_,rfl,An.out,En.out,Eo.out⟩)
  | true =>
   by_cases h64:64<N+1
   case pos =>
    have j64:(64:Int)<(N:Int)+1:=by omega
    have Ep:Hid (R=zgl B (zf3 B f (acc++[(Tree.node k61 n61 m61 a61 ks61)]) (sv.fail 42)).1 (zf3 B f (acc++[(Tree.node k61 n61 m61 a61 ks61)]) (sv.fail 42)).2):=by
     show _=_
     rw [Dc.out,Dd.out,show sv.is zb1=true from hb1,if_pos rfl,if_pos h64]
    clear h64
    go_wp2_with fail
    refine (zbu p g cap ts d 42 sv _ Aw.out).mono ?_
    rintro e w69 ⟨rfl,hD,hS⟩
    have Cy:=hid hS
    have Cz:=hid hD
    have Er:=hid (Bv.out.trans Cy.out)
    have Ak:=hid (zab.sole Aa.out (by intro b hb;have hpg:=Af.out.1;have hb2:=hb;first | (unfold zak at hb2;omega) | exact (Al.out b hb)) Cy.out)
    clear hD hS
    go_wp2
    go_roundw
    case rel =>
     refine ⟨_,N+1,some ⟨g61,0,none⟩,q61,(sv.fail 42),f,rfl,Cz,Er,Ak,Ep,?_⟩
     have h1:=Bx.out
     have h5:=(zbx 42 De.out (by decide))
     rw [if_pos Bd.out] at h5
     refine ⟨by omega,fun h0=>?_⟩
     have h3:=h1.2 Bd.out
     rw [if_pos h0] at h5
     omega
    case measure =>
     rw [zd8 Cz.out,Eu.out,zcc,zcc]
     exact (zbx 42 De.out (by decide))
   have j64:¬ (64:Int)<(N:Int)+1:=by omega
   have Ep:Hid (R=zgl B (zf3 B f (acc++[(Tree.node k61 n61 m61 a61 ks61)]) sv).1 (zf3 B f (acc++[(Tree.node k61 n61 m61 a61 ks61)]) sv).2):=by
    show _=_
    rw [Dc.out,Dd.out,show sv.is zb1=true from hb1,if_pos rfl,if_neg h64]
   clear h64
   go_wp2
   go_roundw
   case rel =>
    refine ⟨_,N+1,some ⟨g61,0,none⟩,q61,sv,f,rfl,Aw,Bv,Aa,Ep,?_⟩
    have h1:=Bx.out
    have h5:=De.out
    rw [if_pos Bd.out] at h5
    refine ⟨by omega,fun h0=>?_⟩
    have h3:=h1.2 Bd.out
    rw [if_pos h0] at h5
    omega
   case measure =>
    rw [zd8 Aw.out,Eu.out,zcc,zcc]
    exact De.out
theorem level (p g cap:Nat) (ts:List Tok) (hE:Ends ts):∀ n:Nat,n<=8->∀ d:Int,d+n=8->zge p g cap ts d 86 (zce (zc2 n))
 | 0,_,d,hd=>by
  obtain rfl:d=8:=by omega
  exact typed_zero p g cap ts hE
 | n+1,hn,d,hd=>by
  have hT:=level p g cap ts hE n (by omega) (d+1) (by omega)
  have hD:=znp p g cap ts hE (d+1) (zc2 n) hT
  have hl:(n==0)=(d+1==8):=by
   by_cases h0:n=0
   · rw [show (n==0)=true by simp [h0],show (d+1==8)=true by simp;omega]
   · rw [show (n==0)=false by simp [h0],show (d+1==8)=false by simp;omega]
  exact typed_succ p g cap ts hE d (by omega) n (fun k nm a s w h=>body_any p g cap ts d (by omega) (zc2 n) (n==0) (fun s w h=>zfy p g cap ts hE (d+1) s w h) (zho p g cap ts hE (d+1) (zc2 n) (n==0) hl (zf1 n) hD) (zhp p g cap ts hE (d+1) (zc2 n) (zf1 n) hD (znt p g cap ts hE (d+1) (zc2 n) hD)) k nm a s w h)
theorem decl_top (p g cap:Nat) (ts:List Tok) (hE:Ends ts):DDecl p g cap ts 0 (zc2 8):=znp p g cap ts hE 0 (zc2 8) (level p g cap ts hE 8 (Nat.le_refl _) 0 rfl)
theorem zhq (p g cap:Nat) (ts:List Tok) (hE:Ends ts):DBody p g cap ts 0 (zc2 7) false:=fun k nm a s w h=>by
 have hT:=level p g cap ts hE 7 (by omega) 1 rfl
 have hD:=znp p g cap ts hE 1 (zc2 7) hT
 exact body_any p g cap ts 0 (by omega) (zc2 7) false (fun s w h=>zfy p g cap ts hE 1 s w h) (zho p g cap ts hE 1 (zc2 7) false rfl (zf1 7) hD) (zhp p g cap ts hE 1 (zc2 7) (zf1 7) hD (znt p g cap ts hE 1 (zc2 7) hD)) k nm a s w h
end Go.Proofs.YtighggeokiahfaaGreatDoor.Dm
namespace Go.Proofs.YtighggeokiahfaaGreatDoor.Dm
theorem Agr.bindP {α β:Type} {k j:Nat} {ts:List Tok} {pl:Nat} {r:Ans α} {q:α × RS} {Q:α->PS->Ans β} {E:α->RS->β × RS} (Pr:α->Prop) (h:Agr k ts pl r q) (hp:∀ a s,r=.ok a s->Pr a) (hQ:∀ a ts',Pr a->Okl ts'->ts'.length+k<=ts.length->Agr j ts' pl (Q a ⟨ts',false⟩) (E a ⟨ts',0,pl⟩)) (st:∀ a s,s.e≠0->(E a s).2=s):Agr (k+j) ts pl (r.bind Q) (E q.1 q.2):=by
 cases r with
 | ok a s=>
  obtain ⟨ss,f⟩:=s
  obtain ⟨h1,h2,h3,rfl⟩:=h
  obtain rfl:f=false:=h1
  have h4:=hQ a ss (hp a _ rfl) h2 h3
  show Agr (k+j) ts pl (Q a ⟨ss,false⟩) (E a ⟨ss,0,pl⟩)
  cases hr:Q a ⟨ss,false⟩ with
  | ok b u=>rw [hr] at h4;exact ⟨h4.1,h4.2.1,by have:=h4.2.2.1;have h3':ss.length+k<=ts.length:=h3;omega,h4.2.2.2⟩
  | no e i=>rw [hr] at h4;exact h4
 | no e i=>
  obtain ⟨h1,h2,h3⟩:=h
  show e≠0∧(E q.1 q.2).2.e=e∧(E q.1 q.2).2.pl=i
  rw [st q.1 q.2 (by rw [h2];exact h1)]
  exact ⟨h1,h2,h3⟩
def hdT (ts:List Tok):Tok:=ts.headD ⟨5,[],0,0⟩
theorem hd_P (ts:List Tok) (f:Bool):(⟨ts,f⟩:PS).hd=hdT ts:=rfl
theorem hd_D (ts:List Tok) (e:Int) (pl:Nat):(⟨ts,e,pl⟩:RS).hd=hdT ts:=rfl
theorem zcv (ts:List Tok) (f:Bool) (x:List UInt8):(⟨ts,f⟩:PS).sees x=((hdT ts).text==x):=rfl
theorem zcz {ts:List Tok} {pl:Nat} {x:List UInt8} (hx:zfn x) (h:Okl ts):(⟨ts,0,pl⟩:RS).is x=((hdT ts).text==x):=is_sees false hx h
theorem zkh {ts:List Tok} (h:(hdT ts).text≠[]∨(hdT ts).kind≠5):ts.tail.length+1<=ts.length:=ok_ne h
theorem zfs (ts:List Tok):(⟨ts,true⟩:PS).take=.no 42 (hdT ts).at_:=rfl
theorem word_ne {x:List UInt8} (h:zba x=true):x≠[]:=(show zfn x from Or.inl h).ne
/-- one token is taken, and that is all -/
theorem zjk {α:Type} (a:α) {ts:List Tok} {pl:Nat} (ok:Okl ts) (h:(hdT ts).text≠[]∨(hdT ts).kind≠5):Agr 1 ts pl (.ok a ⟨ts.tail,false⟩) (a,⟨ts.tail,0,pl⟩):=⟨rfl,ok.tail,zkh h,rfl⟩
def findU (u:Bool) (T:List UInt8):Option (Int × Bool × List UInt8):=zb5.find? fun b=>b.2.1==u&&T==b.2.2
theorem find_no (T:List UInt8):(findU false T).map (·.1)=if baseD T=0 then none else some (baseD T):=by
 unfold findU zb5 baseD
 simp only [List.find?]
 cases T==wInt <;> cases T==zfb <;> cases T==zl8 <;> cases T==zi0 <;> cases T==wBool <;> rfl
theorem find_yes (T:List UInt8):(findU true T).map (·.1)=if T==wInt then some 19 else if T==zfb then some 21 else none:=by
 unfold findU zb5
 simp only [List.find?]
 cases T==wInt <;> cases T==zfb <;> cases T==zl8 <;> cases T==zi0 <;> cases T==wBool <;> rfl
theorem base_word {T:List UInt8} (h:baseD T≠0):zba T=true:=by
 unfold baseD at h
 split at h
 · next e=>rw [eq_of_beq e];decide
 · split at h
   · next e=>rw [eq_of_beq e];decide
   · split at h
     · next e=>rw [eq_of_beq e];decide
     · split at h
       · next e=>rw [eq_of_beq e];decide
       · split at h
         · next e=>rw [eq_of_beq e];decide
         · exact absurd rfl h
/-- what stands behind `unsigned`, or in its place -/
def znb (u:Bool) (at_:Nat) (s:PS):Ans Tree :=
 match findU u s.hd.text with
 | some b=>s.take.bind fun _ s=>.ok (.node b.1 [] 0 at_ []) s
 | none=>s.bad 40
theorem zlp {s:PS} (h1:¬ s.hd.kind=1) (h:(s.hd.text==zbj)=true):zei s=s.take.bind fun _ s'=>znb true s.hd.at_ s':=by
 unfold zei
 rw [if_neg h1]
 simp only
 rw [show s.sees zbj=true from h]
 simp only [if_true]
 cases s.take <;> rfl
theorem zns {s:PS} (h1:¬ s.hd.kind=1) (h:(s.hd.text==zbj)=false):zei s=znb false s.hd.at_ s:=by
 unfold zei
 rw [if_neg h1]
 simp only
 rw [show s.sees zbj=false from h]
 rfl
theorem zf2 (ts:List Tok) (pl:Nat):(⟨ts,0,pl⟩:RS).begins=((hdT ts).kind==1||((hdT ts).kind==2&&((hdT ts).text==zbj||baseD (hdT ts).text != 0))):=rfl
theorem zm6:Sim 1 zei zed:=by
 intro ts pl ok
 by_cases hk:(hdT ts).kind=1
 · have e1:zei ⟨ts,false⟩=.ok (.node 27 (hdT ts).text 0 (hdT ts).at_ []) ⟨ts.tail,false⟩:=by
    unfold zei refP zcr PS.ofKind
    rw [if_pos (show (⟨ts,false⟩:PS).hd.kind=1 from hk),if_pos (show (⟨ts,false⟩:PS).hd.kind=1 from hk)]
    rfl
   have e2:zed ⟨ts,0,pl⟩=(.node 27 (hdT ts).text 0 (hdT ts).at_ [],⟨ts.tail,0,pl⟩):=by
    unfold zed
    rw [zf2,hd_D,hk]
    rfl
   rw [e1,e2]
   exact zjk _ ok (Or.inr (by rw [hk];decide))
 · cases hu:((hdT ts).text==zbj) with
   | true=>
    have ht:(hdT ts).text=zbj:=eq_of_beq hu
    have k2:(hdT ts).kind=2:=ok.hd.word (by show zba (hdT ts).text=true;rw [ht];decide)
    rw [zlp (s:=⟨ts,false⟩) hk hu]
    have e2:zed ⟨ts,0,pl⟩=(if (⟨ts.tail,0,pl⟩:RS).is wInt then (.node 19 [] 0 (hdT ts).at_ [],⟨ts.tail.tail,0,pl⟩) else (.node 21 [] 0 (hdT ts).at_ [],(⟨ts.tail,0,pl⟩:RS).want zfb)):=by
     unfold zed
     rw [zf2,hd_D,k2,ht]
     rfl
    rw [e2]
    refine zgd (k:=0) (Q:=fun _ s'=>znb true (hdT ts).at_ s') ok (zkh (Or.inr (by rw [k2];decide))) (fun ok'=>?_)
    have hf:=find_yes (hdT ts.tail).text
    rw [zcz (Or.inl (by decide)) ok']
    show Agr 0 ts.tail pl (znb true (hdT ts).at_ ⟨ts.tail,false⟩) _
    unfold znb
    rw [hd_P]
    cases hi:((hdT ts.tail).text==wInt) with
    | true=>
     rw [hi,if_pos rfl] at hf
     obtain ⟨b,hb,hb1⟩:=Option.map_eq_some_iff.1 hf
     rw [hb,if_pos rfl]
     show Agr 0 ts.tail pl (Ans.ok (Tree.node b.1 [] 0 _ []) ⟨ts.tail.tail,false⟩) _
     rw [hb1]
     exact (zjk _ ok' (Or.inl (by rw [eq_of_beq hi];decide))).less (Nat.zero_le _)
    | false=>
     rw [hi] at hf
     rw [if_neg (by decide)]
     unfold RS.want
     rw [zcz (Or.inl (by decide)) ok']
     cases hh:((hdT ts.tail).text==zfb) with
     | true=>
      rw [hh] at hf
      obtain ⟨b,hb,hb1⟩:=Option.map_eq_some_iff.1 (hf.trans (by rfl : _=some (21:Int)))
      rw [hb,if_pos rfl]
      show Agr 0 ts.tail pl (Ans.ok (Tree.node b.1 [] 0 _ []) ⟨ts.tail.tail,false⟩) _
      rw [hb1]
      exact (zjk _ ok' (Or.inl (by rw [eq_of_beq hh];decide))).less (Nat.zero_le _)
     | false=>
      rw [hh] at hf
      rw [Option.map_eq_none_iff.1 (hf.trans (by rfl : _=none)),if_neg (by decide)]
      exact zg6 (by decide) _
   | false=>
    rw [zns (s:=⟨ts,false⟩) hk hu]
    unfold znb
    have hf:=find_no (hdT ts).text
    rw [hd_P]
    by_cases hb0:baseD (hdT ts).text=0
    · rw [if_pos hb0] at hf
      rw [Option.map_eq_none_iff.1 hf]
      have e2:zed ⟨ts,0,pl⟩=(.node 0 [] 0 (hdT ts).at_ [],(⟨ts,0,pl⟩:RS).fail 40):=by
       unfold zed
       rw [zf2,hb0,hu,beq_no hk]
       simp [hd_D]
      rw [e2]
      exact zg6 (by decide) _
    · rw [if_neg hb0] at hf
      obtain ⟨b,hb,hb1⟩:=Option.map_eq_some_iff.1 hf
      have k2:(hdT ts).kind=2:=ok.hd.word (base_word hb0)
      have e2:zed ⟨ts,0,pl⟩=(.node (baseD (hdT ts).text) [] 0 (hdT ts).at_ [],⟨ts.tail,0,pl⟩):=by
       unfold zed
       rw [zf2,hd_D,k2,hu,show (baseD (hdT ts).text != 0)=true by simp [hb0]]
       rfl
      rw [e2,hb]
      show Agr 1 ts pl (Ans.ok (Tree.node b.1 [] 0 _ []) ⟨ts.tail,false⟩) _
      rw [hb1]
      exact zjk _ ok (Or.inr (by rw [k2];decide))
theorem zay {β:Type} {j:Nat} (x:List UInt8) (hx:zfn x) {ts:List Tok} {pl:Nat} (ok:Okl ts) {Q:PS->Ans β} {E:RS->β × RS} (hQ:∀ ts',Okl ts'->ts'.length+1<=ts.length->Agr j ts' pl (Q ⟨ts',false⟩) (E ⟨ts',0,pl⟩)) (st:∀ s,s.e≠0->(E s).2=s):Agr (1+j) ts pl (((⟨ts,false⟩:PS).want x).bind fun _ s=>Q s) (E ((⟨ts,0,pl⟩:RS).want x)):=
 (sim_want x hx ts pl ok).bind (Q:=fun _ s=>Q s) (E:=fun _ s=>E s) (fun _ ts' ok' h=>hQ ts' ok' h) (fun _ s h=>st s h)
theorem zcy {α:Type} (x:List UInt8) (hx:zfn x) (a:α) {ts:List Tok} {pl:Nat} (ok:Okl ts):Agr 1 ts pl (((⟨ts,false⟩:PS).want x).bind fun _ s=>.ok a s) (a,(⟨ts,0,pl⟩:RS).want x):=
 zay (j:=0) x hx ok (Q:=fun s=>.ok a s) (E:=fun s=>(a,s)) (fun ts' ok' _=>zfj a ts' pl ok') (fun _ _=>rfl)
theorem fne:¬ (false=true):=by decide
theorem zmy {ts:List Tok} {x:List UInt8} (hx:zfn x) (h:((hdT ts).text==x)=true):(hdT ts).text≠[]∨(hdT ts).kind≠5:=Or.inl (by rw [eq_of_beq h];exact hx.ne)
theorem sp_s (c:UInt8) (h:zet c=true):zfn [c]:=Or.inr ⟨c,h,rfl⟩
theorem zkp (k least:Int) (of:Tree) (hA:decide (least<2)=(k != 26)) (hB:decide (0<least)=(k==25||k==26)):Sim 1 (zdu k of) (zdv of least):=by
 refine zfc (j:=0) (Q:=fun n s=>if s.sees [91]&&k != 26 then s.take.bind fun _ s=>(zb7 s).bind fun v s=>(s.want [93]).bind fun _ s=>.ok (named 15 n [of,v]) s
   else if s.sees [60] then
    (s.want [60]).bind fun _ s =>
      if s.sees [62] then (s.want [62]).bind fun _ s=>.ok (named 16 n [of]) s
      else (zb7 s).bind fun v s=>(s.want [62]).bind fun _ s=>.ok (named 16 n [of,v]) s
   else if k==25||k==26 then s.bad 40
   else .ok (named 14 n [of]) s) (E:=fun n s=>if s.is [91]&&decide (least<2) then (zaw 15 n [of,(zau s.adv).1],(zau s.adv).2.want [93])
  else if s.is [60] then (if s.adv.is [62] then (zaw 16 n [of],s.adv.want [62]) else (zaw 16 n [of,(zau s.adv).1],(zau s.adv).2.want [62]))
  else if 0<least then (zaw 14 n [of],s.fail 40) else (zaw 14 n [of],s)) ?_ ?_
 · intro t ts pl ok
   show Agr 0 ts pl (if (⟨ts,false⟩:PS).sees [91]&&k != 26 then _ else _) (if (⟨ts,0,pl⟩:RS).is [91]&&decide (least<2) then _ else _)
   rw [zcz (sp_s 91 (by decide)) ok,zcv,hA]
   cases h1:((hdT ts).text==[91]&&k != 26) with
   | true=>
    have h91:((hdT ts).text==[91])=true:=by
     cases h:((hdT ts).text==[91]) with
     | true=>rfl
     | false=>rw [h] at h1;exact absurd h1 (by simp)
    rw [if_pos rfl,if_pos rfl]
    refine (zgd (k:=2) (Q:=fun _ s=>(zb7 s).bind fun v s=>(s.want [93]).bind fun _ s=>.ok (named 15 t [of,v]) s) ok (zkh (zmy (sp_s 91 (by decide)) h91)) (fun ok'=>?_)).less (Nat.zero_le _)
    exact (zim ts.tail pl ok').bind (j:=1) (Q:=fun v s=>(s.want [93]).bind fun _ s=>.ok (named 15 t [of,v]) s) (E:=fun v s=>(zaw 15 (t.text,t.at_) [of,v],s.want [93])) (fun a ts' ok' _=>zcy [93] (sp_s 93 (by decide)) _ ok') (fun a s h=>zaq h _)
   | false=>
    rw [if_neg fne,if_neg fne,zcz (sp_s 60 (by decide)) ok,zcv]
    cases h2:((hdT ts).text==[60]) with
    | true=>
     rw [if_pos rfl,if_pos rfl]
     have hw:(⟨ts,0,pl⟩:RS).want [60]=(⟨ts,0,pl⟩:RS).adv:=by unfold RS.want;rw [zcz (sp_s 60 (by decide)) ok,h2];rfl
     rw [<- hw]
     refine (zay (j:=0) [60] (sp_s 60 (by decide)) ok (Q:=fun s=>if s.sees [62] then (s.want [62]).bind fun _ s=>.ok (named 16 t [of]) s
      else (zb7 s).bind fun v s=>(s.want [62]).bind fun _ s=>.ok (named 16 t [of,v]) s) (E:=fun s=>if s.is [62] then (zaw 16 (t.text,t.at_) [of],s.want [62]) else (zaw 16 (t.text,t.at_) [of,(zau s).1],(zau s).2.want [62])) (fun ts' ok' _=>?_) ?_).less (Nat.zero_le _)
     · show Agr 0 ts' pl (if (⟨ts',false⟩:PS).sees [62] then _ else _) (if (⟨ts',0,pl⟩:RS).is [62] then _ else _)
       rw [zcz (sp_s 62 (by decide)) ok',zcv]
       cases (hdT ts').text==[62] with
       | true=>exact (zcy [62] (sp_s 62 (by decide)) _ ok').less (Nat.zero_le _)
       | false=>exact ((zim ts' pl ok').bind (j:=1) (Q:=fun v s=>(s.want [62]).bind fun _ s=>.ok (named 16 t [of,v]) s) (E:=fun v s=>(zaw 16 (t.text,t.at_) [of,v],s.want [62])) (fun a ts' ok' _=>zcy [62] (sp_s 62 (by decide)) _ ok') (fun a s h=>zaq h _)).less (Nat.zero_le _)
     · intro s h
       simp only [zdn h,zh0 h,zaq h,Bool.false_eq_true,if_false]
    | false=>
     rw [if_neg fne,if_neg fne]
     cases h3:(k==25||k==26) with
     | true=>
      rw [h3] at hB
      rw [if_pos rfl,if_pos (of_decide_eq_true hB)]
      exact zg6 (by decide) _
     | false=>
      rw [h3] at hB
      rw [if_neg fne,if_neg (of_decide_eq_false hB)]
      exact zfj _ ts pl ok
 · intro a s h
   simp only [zdn h,zdr h,Bool.false_and,Bool.false_eq_true,if_false]
   split <;> rfl
def zeh (t:List UInt8):Bool:=t==zd6||t==zbm||t==zer
theorem zhr {t:List UInt8} (h:zeh t=true):zba t=true:=by
 unfold zeh at h
 simp only [Bool.or_eq_true,beq_iff_eq] at h
 rcases h with (h|h)|h <;> (rw [h];decide)
theorem bodyK_ne (t:List UInt8):(zhb t != 0)=zeh t:=by
 unfold zhb zeh
 cases t==zd6 <;> cases t==zbm <;> cases t==zer <;> rfl
theorem zgo {ts:List Tok} {e:Int} {pl:Nat} (ok:Okl ts):((⟨ts,e,pl⟩:RS).bodied != 0)=zeh (hdT ts).text:=by
 unfold RS.bodied
 rw [hd_D]
 cases h:zeh (hdT ts).text with
 | true=>
  rw [show (hdT ts).kind=2 from ok.hd.word (zhr h)]
  simp only [beq_self_eq_true,if_true]
  rw [bodyK_ne,h]
 | false=>
  split
  · rw [bodyK_ne,h]
  · rfl
/-- what reads bodies, in both -/
def SimB (B:PS->Ans Tree) (BD:RS->Tree × RS):Prop:=∀ ts pl,Okl ts->zeh (hdT ts).text=true->Agr 1 ts pl (B ⟨ts,false⟩) (BD ⟨ts,0,pl⟩)
def Bk (t:Tree):Prop:=t.kind≠25∧t.kind≠26
def zj6 (F:PS->Ans Tree):Prop:=∀ s t s',F s=.ok t s'->Bk t
theorem bind_ok {α β:Type} {r:Ans α} {f:α->PS->Ans β} {b:β} {s:PS} (h:r.bind f=.ok b s):∃ a u,r=.ok a u∧f a u=.ok b s:=by
 cases r with
 | ok a u=>exact ⟨a,u,rfl,h⟩
 | no e i=>cases h
theorem findU_kind {u:Bool} {T:List UInt8} {b:Int × Bool × List UInt8} (h:findU u T=some b):b.1≠25∧b.1≠26:=by
 have h1:b∈zb5:=List.mem_of_find?_eq_some h
 have h2:∀ b∈zb5,b.1≠25∧b.1≠26:=by decide
 exact h2 b h1
theorem bare_kind:zj6 zei:=by
 intro s t s' h
 by_cases hk:s.hd.kind=1
 · unfold zei at h
   rw [if_pos hk] at h
   obtain ⟨a,u,_,h2⟩:=bind_ok h
   cases h2
   exact ⟨by show (27:Int)≠25;decide,by show (27:Int)≠26;decide⟩
 · have hr:∀ (b:Bool) (n:Nat) (x:PS),znb b n x=.ok t s'->Bk t:=by
    intro b n x h
    unfold znb at h
    split at h
    · next c hc=>
      obtain ⟨a,u,_,h2⟩:=bind_ok h
      cases h2
      exact findU_kind hc
    · cases h
   cases hu:s.hd.text==zbj with
   | true=>
    rw [zlp hk hu] at h
    obtain ⟨a,u,_,h2⟩:=bind_ok h
    exact hr _ _ _ h2
   | false=>
    rw [zns hk hu] at h
    exact hr _ _ _ h
theorem written_kind {B:PS->Ans Tree} (hB:zj6 B):zj6 (zds B):=by
 intro s t s' h
 unfold zds at h
 split at h
 · exact hB _ _ _ h
 · exact bare_kind _ _ _ h
theorem zl6 (B:PS->Ans Tree) (ts:List Tok) (f:Bool):zds B ⟨ts,f⟩=if zeh (hdT ts).text then B ⟨ts,f⟩ else zei ⟨ts,f⟩:=rfl
theorem sim_written {B:PS->Ans Tree} {BD:RS->Tree × RS} (hB:SimB B BD):Sim 1 (zds B) (zce BD):=by
 intro ts pl ok
 rw [zl6]
 unfold zce
 rw [zgo ok]
 cases h:zeh (hdT ts).text with
 | true=>exact hB ts pl ok h
 | false=>exact zm6 ts pl ok
theorem decl_no (BD:RS->Tree × RS) {ts:List Tok} {pl:Nat} (ok:Okl ts):zcd BD false ⟨ts,0,pl⟩=(if (hdT ts).text==ze4 then zdv (.node 25 [] 0 (hdT ts).at_ []) 1 ⟨ts.tail,0,pl⟩ else if (hdT ts).text==ze3 then zdv (.node 26 [] 0 (hdT ts).at_ []) 2 ⟨ts.tail,0,pl⟩ else if (zce BD ⟨ts,0,pl⟩).2.is [42] then (zaw 17 (zaz (zce BD ⟨ts,0,pl⟩).2.adv).1 [(zce BD ⟨ts,0,pl⟩).1],(zaz (zce BD ⟨ts,0,pl⟩).2.adv).2) else zdv (zce BD ⟨ts,0,pl⟩).1 0 (zce BD ⟨ts,0,pl⟩).2):=by
 unfold zcd
 rw [zcz (x:=ze4) (Or.inl (by decide)) ok,zcz (x:=ze3) (Or.inl (by decide)) ok,Bool.and_false]
 rfl
theorem decl_yes (BD:RS->Tree × RS) {ts:List Tok} {pl:Nat} (ok:Okl ts):zcd BD true ⟨ts,0,pl⟩=if (hdT ts).text==zde then (.node 13 [] 0 (hdT ts).at_ [],⟨ts.tail,0,pl⟩) else zcd BD false ⟨ts,0,pl⟩:=by
 unfold zcd
 rw [zcz (x:=zde) (Or.inl (by decide)) ok,Bool.and_true,Bool.and_false]
 rfl
theorem ziy (k:Int) {ts:List Tok} {pl:Nat} {x:List UInt8} (ok:Okl ts) (hx:zfn x) (h:((hdT ts).text==x)=true):Agr 1 ts pl (zc0 k ⟨ts,false⟩) (.node k [] 0 (hdT ts).at_ [],⟨ts.tail,0,pl⟩):=zjk _ ok (zmy hx h)
theorem zin {B:PS->Ans Tree} {BD:RS->Tree × RS} (hB:SimB B BD) (hK:zj6 B):Sim 1 (zco B) (zcd BD false):=by
 intro ts pl ok
 rw [decl_no BD ok]
 unfold zco
 rw [zcv,zcv]
 cases h1:((hdT ts).text==ze4) with
 | true=>
  rw [if_pos rfl,if_pos rfl]
  exact ((ziy 25 ok (Or.inl (by decide)) h1).bind (j:=1) (Q:=fun t s=>zdu 25 t s) (E:=fun t s=>zdv t 1 s) (fun a ts' ok' _=>zkp 25 1 a (by decide) (by decide) ts' pl ok') (fun a s h=>zft h _ _)).less (by omega)
 | false=>
  rw [if_neg fne,if_neg fne]
  cases h2:((hdT ts).text==ze3) with
  | true=>
   rw [if_pos rfl,if_pos rfl]
   exact ((ziy 26 ok (Or.inl (by decide)) h2).bind (j:=1) (Q:=fun t s=>zdu 26 t s) (E:=fun t s=>zdv t 2 s) (fun a ts' ok' _=>zkp 26 2 a (by decide) (by decide) ts' pl ok') (fun a s h=>zft h _ _)).less (by omega)
  | false=>
   rw [if_neg fne,if_neg fne]
   refine (Agr.bindP (j:=0) Bk (Q:=fun of s=>if s.sees [42] then s.take.bind fun _ s=>(zcr s).bind fun n s=>.ok (named 17 n [of]) s else zdu of.kind of s) (E:=fun t s=>if s.is [42] then (zaw 17 (zaz s.adv).1 [t],(zaz s.adv).2) else zdv t 0 s) (sim_written hB ts pl ok) (fun a s h=>written_kind hK _ _ _ h) (fun a ts' hp ok' _=>?_) ?_).less (by omega)
   · show Agr 0 ts' pl (if (⟨ts',false⟩:PS).sees [42] then _ else _) (if (⟨ts',0,pl⟩:RS).is [42] then _ else _)
     rw [zcz (sp_s 42 (by decide)) ok',zcv]
     cases h42:((hdT ts').text==[42]) with
     | true=>
      rw [if_pos rfl,if_pos rfl]
      exact (zgd (k:=1) (Q:=fun _ s=>(zcr s).bind fun n s=>.ok (named 17 n [a]) s) ok' (zkh (zmy (sp_s 42 (by decide)) h42)) (fun ok2=>zfc (j:=0) (Q:=fun n s=>.ok (named 17 n [a]) s) (E:=fun n s=>(zaw 17 n [a],s)) (fun t ts pl ok=>zfj _ ts pl ok) (fun _ _ _=>rfl) ts'.tail pl ok2)).less (Nat.zero_le _)
     | false=>
      rw [if_neg fne,if_neg fne]
      refine (zkp a.kind 0 a ?_ ?_ ts' pl ok').less (Nat.zero_le _)
      · have:=hp.2;simp [this]
      · have h1:=hp.1;have h2:=hp.2;simp [h1,h2]
   · intro a s h
     simp only [zdn h,Bool.false_eq_true,if_false,zft h]
theorem zhd {B:PS->Ans Tree} {BD:RS->Tree × RS} (hB:SimB B BD) (hK:zj6 B):Sim 1 (za6 B) (zcd BD true):=by
 intro ts pl ok
 rw [decl_yes BD ok]
 unfold za6
 rw [zcv]
 cases h1:((hdT ts).text==zde) with
 | true=>exact ziy 13 ok (Or.inl (by decide)) h1
 | false=>exact zin hB hK ts pl ok
def zhh (BD:RS->Tree × RS) (s:RS):Tree × RS:=((zcd BD true s).1,(zcd BD true s).2.want [59])
theorem zks {B:PS->Ans Tree} {BD:RS->Tree × RS} (hB:SimB B BD) (hK:zj6 B):Sim 1 (zbc B) (zhh BD):=fun ts pl ok=>
 ((zhd hB hK ts pl ok).bind (j:=1) (Q:=fun t s=>(s.want [59]).bind fun _ s=>.ok t s) (E:=fun t s=>(t,s.want [59])) (fun a ts' ok' _=>zcy [59] (sp_s 59 (by decide)) a ok') (fun a s h=>zaq h _)).less (by omega)
/-- both are refused, so and there -/
def Both {α β:Type} (r:Ans α) (q:β × RS):Prop:=∃ e i,e≠0∧r=.no e i∧q.2.e=e∧q.2.pl=i
theorem Both.agr {α β:Type} {k:Nat} {ts:List Tok} {pl:Nat} {r:Ans α} {q:β × RS} (h:Both r q) (Q:α->PS->Ans β):Agr k ts pl (r.bind Q) q:=by
 obtain ⟨e,i,h1,rfl,h2,h3⟩:=h
 exact ⟨h1,h2,h3⟩
theorem zk3 (acc:List Tree) (t:Tree):acc++[t]≠[]:=by simp
theorem zgw {ts:List Tok} {f:Bool} {a b:Nat} (h:a≠b):(⟨ts,f⟩:PS).room a b=⟨ts,f⟩:=by unfold PS.room;rw [if_neg h]
theorem zir {ts:List Tok} {f:Bool} {a:Nat} : (⟨ts,f⟩:PS).room a a=⟨ts,true⟩:=by unfold PS.room;rw [if_pos rfl]
theorem sim_some {β:Type} (one:PS->Ans Tree) (oneD:RS->Tree × RS) (h1:Sim 1 one oneD) (ends:List (List UInt8)) (K:List Tree->PS->Ans β) (L T:Nat->List Tree->RS->β × RS) (hL:∀ f acc ts pl,Okl ts->L (f+1) acc ⟨ts,0,pl⟩=T f (acc++[(oneD ⟨ts,0,pl⟩).1]) (oneD ⟨ts,0,pl⟩).2) (stT:∀ f acc s,s.e≠0->(T f acc s).2=s) (hEnd:∀ f acc ts pl,Okl ts->acc≠[]->ends.any (⟨ts,false⟩:PS).sees=true->Agr 0 ts pl (K acc ⟨ts,false⟩) (T f acc ⟨ts,0,pl⟩)) (hGo:∀ f acc ts pl,Okl ts->acc≠[]->acc.length<64->ends.any (⟨ts,false⟩:PS).sees=false->T f acc ⟨ts,0,pl⟩=L f acc ⟨ts,0,pl⟩∨Both (one ⟨ts,false⟩) (T f acc ⟨ts,0,pl⟩)) (hFull:∀ f acc ts pl,Okl ts->acc.length=64->ends.any (⟨ts,false⟩:PS).sees=false->Both (one ⟨ts,true⟩) (T (f+1) acc ⟨ts,0,pl⟩)):∀ (f:Nat) (acc:List Tree) (g:Nat) (ts:List Tok) (pl:Nat),Okl ts->acc≠[]->acc.length<=64->acc.length+f=66->ts.length<g->Agr 0 ts pl ((zcu one ends f acc ⟨ts,false⟩).bind K) (T g acc ⟨ts,0,pl⟩)
 | 0,acc,_,_,_,_,_,h64,h66,_=>by omega
 | f+1,acc,g,ts,pl,ok,hne,h64,h66,hg=>by
  obtain ⟨g,rfl⟩:∃ g' : Nat,g=g'+1:=⟨g-1,by omega⟩
  have hem:acc.isEmpty=false:=by cases acc with | nil=>exact absurd rfl hne | cons _ _=>rfl
  rw [zcu,hem,Bool.false_or]
  cases he:ends.any (⟨ts,false⟩:PS).sees with
  | true=>exact hEnd (g+1) acc ts pl ok hne he
  | false=>
   rw [show (!false)=true from rfl,if_pos rfl]
   by_cases h6:acc.length=64
   · rw [h6,zir,Ans.bind_bind]
     exact (hFull g acc ts pl ok h6 he).agr _
   · rw [zgw h6,Ans.bind_bind]
     rcases hGo (g+1) acc ts pl ok hne (by omega) he with h|h
     · rw [h,hL g acc ts pl ok]
       refine ((h1 ts pl ok).bind (j:=0) (Q:=fun t s=>(zcu one ends f (acc++[t]) s).bind K) (E:=fun t s=>T g (acc++[t]) s) (fun t ts' ok' hlt=>?_) (fun t s hs=>stT _ _ s hs)).less (Nat.zero_le _)
       exact sim_some one oneD h1 ends K L T hL stT hEnd hGo hFull f (acc++[t]) g ts' pl ok' (zk3 acc t) (by simp;omega) (by simp;omega) (by omega)
     · exact h.agr _
theorem zko {β:Type} (one:PS->Ans Tree) (oneD:RS->Tree × RS) (h1:Sim 1 one oneD) (ends:List (List UInt8)) (K:List Tree->PS->Ans β) (L T:Nat->List Tree->RS->β × RS) (hL:∀ f acc ts pl,Okl ts->L (f+1) acc ⟨ts,0,pl⟩=T f (acc++[(oneD ⟨ts,0,pl⟩).1]) (oneD ⟨ts,0,pl⟩).2) (stT:∀ f acc s,s.e≠0->(T f acc s).2=s) (hEnd:∀ f acc ts pl,Okl ts->acc≠[]->ends.any (⟨ts,false⟩:PS).sees=true->Agr 0 ts pl (K acc ⟨ts,false⟩) (T f acc ⟨ts,0,pl⟩)) (hGo:∀ f acc ts pl,Okl ts->acc≠[]->acc.length<64->ends.any (⟨ts,false⟩:PS).sees=false->T f acc ⟨ts,0,pl⟩=L f acc ⟨ts,0,pl⟩∨Both (one ⟨ts,false⟩) (T f acc ⟨ts,0,pl⟩)) (hFull:∀ f acc ts pl,Okl ts->acc.length=64->ends.any (⟨ts,false⟩:PS).sees=false->Both (one ⟨ts,true⟩) (T (f+1) acc ⟨ts,0,pl⟩)) (g:Nat) (ts:List Tok) (pl:Nat) (ok:Okl ts) (hg:ts.length<g):Agr 1 ts pl ((zcu one ends 66 [] ⟨ts,false⟩).bind K) (L g [] ⟨ts,0,pl⟩):=by
 obtain ⟨g,rfl⟩:∃ g' : Nat,g=g'+1:=⟨g-1,by omega⟩
 rw [zcu,show (([]:List Tree).isEmpty||!ends.any (⟨ts,false⟩:PS).sees)=true from rfl,if_pos rfl,show ([]:List Tree).length=0 from rfl,zgw (by decide),Ans.bind_bind,hL g [] ts pl ok]
 exact ((h1 ts pl ok).bind (j:=0) (Q:=fun t s=>(zcu one ends 65 ([]++[t]) s).bind K) (E:=fun t s=>T g ([]++[t]) s) (fun t ts' ok' hlt=>sim_some one oneD h1 ends K L T hL stT hEnd hGo hFull 65 ([]++[t]) g ts' pl ok' (zk3 [] t) (by simp) (by simp) (by omega)) (fun t s hs=>stT _ _ s hs))
/-- more of them, a sign ahead of each -/
def zjd (x:List UInt8) (one:PS->Ans Tree) (most:Nat):Nat->List Tree->PS->Ans (List Tree)
 | 0,_,s=>s.bad 0
 | f+1,acc,s=>
  if s.sees x then (s.room acc.length most).take.bind fun _ s=>(one s).bind fun t s=>zjd x one most f (acc++[t]) s
  else .ok acc s
theorem more_eq (one:PS->Ans Tree) (most:Nat):∀ f acc s,zh4 one most f acc s=zjd [44] one most f acc s
 | 0,_,_=>rfl
 | f+1,acc,s=>by
  rw [zh4,zjd]
  split
  · congr 1
    funext _ s
    congr 1
    funext t s
    exact more_eq one most f _ s
  · rfl
theorem sim_more {β:Type} (x:List UInt8) (hx:zfn x) (one:PS->Ans Tree) (oneD:RS->Tree × RS) (h1:Sim 1 one oneD) (most:Nat) (K:List Tree->PS->Ans β) (L T:Nat->List Tree->RS->β × RS) (hL:∀ f acc ts pl,Okl ts->L (f+1) acc ⟨ts,0,pl⟩=T f (acc++[(oneD ⟨ts,0,pl⟩).1]) (oneD ⟨ts,0,pl⟩).2) (stT:∀ f acc s,s.e≠0->(T f acc s).2=s) (hNo:∀ f acc ts pl,Okl ts->acc≠[]->((hdT ts).text==x)=false->Agr 0 ts pl (K acc ⟨ts,false⟩) (T f acc ⟨ts,0,pl⟩)) (hYes:∀ f acc ts pl,Okl ts->acc≠[]->acc.length≠most->((hdT ts).text==x)=true->T f acc ⟨ts,0,pl⟩=L f acc ⟨ts.tail,0,pl⟩) (hFull:∀ f acc ts pl,Okl ts->acc.length=most->((hdT ts).text==x)=true->(T f acc ⟨ts,0,pl⟩).2.e=42∧(T f acc ⟨ts,0,pl⟩).2.pl=(hdT ts).at_):∀ (f:Nat) (acc:List Tree) (g:Nat) (ts:List Tok) (pl:Nat),Okl ts->acc≠[]->acc.length<=most->most<acc.length+f->ts.length<g->Agr 0 ts pl ((zjd x one most f acc ⟨ts,false⟩).bind K) (T g acc ⟨ts,0,pl⟩)
 | 0,acc,_,_,_,_,_,h64,h66,_=>by omega
 | f+1,acc,g,ts,pl,ok,hne,h64,h66,hg=>by
  rw [zjd,zcv]
  cases he:(hdT ts).text==x with
  | false=>exact hNo g acc ts pl ok hne he
  | true=>
   rw [if_pos rfl]
   by_cases h6:acc.length=most
   · rw [h6,zir,zfs]
     obtain ⟨h2,h3⟩:=hFull g acc ts pl ok h6 he
     exact ⟨by decide,h2,h3⟩
   · rw [zgw h6,hYes g acc ts pl ok hne h6 he]
     have hl:=zkh (zmy hx he)
     obtain ⟨g,rfl⟩:∃ g' : Nat,g=g'+1:=⟨g-1,by omega⟩
     rw [hL g acc ts.tail pl ok.tail,Ans.bind_bind]
     refine (zgd (k:=1) (Q:=fun _ s=>((one s).bind fun t s=>zjd x one most f (acc++[t]) s).bind K) ok hl (fun ok'=>?_)).less (Nat.zero_le _)
     rw [Ans.bind_bind]
     refine (h1 ts.tail pl ok').bind (j:=0) (Q:=fun t s=>(zjd x one most f (acc++[t]) s).bind K) (E:=fun t s=>T g (acc++[t]) s) (fun t ts' ok' hlt=>?_) (fun t s hs=>stT _ _ s hs)
     exact sim_more x hx one oneD h1 most K L T hL stT hNo hYes hFull f (acc++[t]) g ts' pl ok' (zk3 acc t) (by simp;omega) (by simp;omega) (by omega)
theorem zkr {β:Type} (x:List UInt8) (hx:zfn x) (one:PS->Ans Tree) (oneD:RS->Tree × RS) (h1:Sim 1 one oneD) (most:Nat) (K:List Tree->PS->Ans β) (L T:Nat->List Tree->RS->β × RS) (hL:∀ f acc ts pl,Okl ts->L (f+1) acc ⟨ts,0,pl⟩=T f (acc++[(oneD ⟨ts,0,pl⟩).1]) (oneD ⟨ts,0,pl⟩).2) (stT:∀ f acc s,s.e≠0->(T f acc s).2=s) (hNo:∀ f acc ts pl,Okl ts->acc≠[]->((hdT ts).text==x)=false->Agr 0 ts pl (K acc ⟨ts,false⟩) (T f acc ⟨ts,0,pl⟩)) (hYes:∀ f acc ts pl,Okl ts->acc≠[]->acc.length≠most->((hdT ts).text==x)=true->T f acc ⟨ts,0,pl⟩=L f acc ⟨ts.tail,0,pl⟩) (hFull:∀ f acc ts pl,Okl ts->acc.length=most->((hdT ts).text==x)=true->(T f acc ⟨ts,0,pl⟩).2.e=42∧(T f acc ⟨ts,0,pl⟩).2.pl=(hdT ts).at_) (hm:1<=most) (hm2:most<=64) (g:Nat) (ts:List Tok) (pl:Nat) (f:Nat) (hf:65<=f) (ok:Okl ts) (hg:ts.length<g):Agr 1 ts pl ((one ⟨ts,false⟩).bind fun t s=>(zjd x one most f [t] s).bind K) (L g [] ⟨ts,0,pl⟩):=by
 obtain ⟨g,rfl⟩:∃ g' : Nat,g=g'+1:=⟨g-1,by omega⟩
 rw [hL g [] ts pl ok]
 exact ((h1 ts pl ok).bind (j:=0) (Q:=fun t s=>(zjd x one most f [t] s).bind K) (E:=fun t s=>T g ([]++[t]) s) (fun t ts' ok' hlt=>sim_more x hx one oneD h1 most K L T hL stT hNo hYes hFull f [t] g ts' pl ok' (by simp) (by simpa using hm) (by simp;omega) (by omega)) (fun t s hs=>stT _ _ s hs))
end Go.Proofs.YtighggeokiahfaaGreatDoor.Dm
