import Derived.Test.YtighggeokiahfaaGreatDoorPrs16
import Derived.Test.YtighggeokiahfaaGreatDoorPrs09
set_option maxRecDepth 4000
set_option maxHeartbeats 20000000
namespace Go.Proofs.YtighggeokiahfaaGreatDoor.Dm
open Go.RowKit
theorem zh3 (p g cap:Nat) (ts:List Tok) (hE:Ends ts) (d:Int) (hV:zgc p g cap ts d 126 zg9):zgc p g cap ts d 87 zc4:=by
 intro s w h;have Fj:=hid hV;clear hV;have Ac:Hid (p<w.heap.size∧g<w.heap.size):=⟨h.plt,h.glt⟩;obtain ⟨R,hR⟩:∃ R,zc4 s=R:=⟨_,rfl⟩;rw [hR];have HR:=hid (hR.symm);obtain ⟨wa,hwa⟩:∃ x,w.alloc (.cells #[.int .i64 0,.string ⟨#[]⟩,.int .i64 0,.int .i64 0,.slice none 0 0] 29)=x:=⟨_,rfl⟩;have HB:Hid (Below w.heap.size w wa):=hidB hwa;have HK:Hid (Kep w wa w.heap.size (kidO 0 [] 0 0 (.slice none 0 0))):=by show Kep _ _ _ _;rw [<- hwa];exact Kep.new (Nat.le_refl _) _
 have HD:=hid (h.below HB.out);clear h hR;have HS:Hid (Sole p w wa):=Sole.of_below HB.out;go_enter Tryz.func87,Tryz.ntmps87
 go_wp2_with fail
 clear hwa;refine (zak p g cap ts hE d [118,101,114,115,105,111,110] (by simp) s _ HD.out).mono ?_;rintro e w1 ⟨rfl,hD,hS⟩;have Ew:=hid hS;have Fk:=hid hD;have Fl:=hid (HS.out.trans Ew.out);have Ds:=hid (HK.out.sole Ac.out.1 Ew.out);clear hD hS;go_wp2_with fail
 refine (zco p g cap ts hE d (s.want [118,101,114,115,105,111,110]) _ Fk.out).mono ?_;rintro e w2 ⟨v,rfl,rfl,hD,hS⟩;have Ey:=hid hS;have Ez:=hid hD;have Fm:=hid (Fl.out.trans Ey.out);have Bt:=hid (Ds.out.sole Ac.out.1 Ey.out);clear hD hS;obtain ⟨nm,hnm⟩:∃ x,(zav (s.want [118,101,114,115,105,111,110])).1=x:=⟨_,rfl⟩;obtain ⟨sn,hsn⟩:∃ x,(zav (s.want [118,101,114,115,105,111,110])).2=x:=⟨_,rfl⟩;have Fo:Hid (R=((numE 11 zb8 nm (sn.want [123])).1,(numE 11 zb8 nm (sn.want [123])).2.want [59])):=by
  show _=_;rw [HR.out,<- hnm,<- hsn];rfl
 rw [hnm];rw [hsn] at Ez;clear hnm hsn;obtain ⟨nt,na⟩:=nm;go_wp2_with fail
 refine (zak p g cap ts hE d [123] (by simp) sn _ Ez.out).mono ?_;rintro e w3 ⟨rfl,hD,hS⟩;have Fa:=hid hS;have Dp:=hid hD;have Fp:=hid (Fm.out.trans Fa.out);have Ao:=hid (Bt.out.sole Ac.out.1 Fa.out);clear hD hS;obtain ⟨s1,hs1⟩:∃ x,sn.want [123]=x:=⟨_,rfl⟩;have Fb:Hid (R=((numC 11 (nt,na) (zb8 (s1.n+1) [] s1)).1,(numC 11 (nt,na) (zb8 (s1.n+1) [] s1)).2.want [59])):=by
  show _=_;rw [Fo.out,hs1];rfl
 rw [hs1] at Dp;clear hs1;have Bu:=hid (ds_n Dp.out);go_wp2_with fail
 go_loopw [5] (fun sl wr=>∃ (acc:List Tree) (N:Nat) (oq:Option Addr) (cq:Nat) (st:RS) (f:Nat),sl=.slice oq N cq∧Hid (DS wr p g cap ts d st)∧Hid (Sole p w wr)∧Hid (Kep w wr w.heap.size (kidO 0 [] 0 0 (.slice none 0 0)))∧Hid (ListAt (zaf (w.heap.size+1)) wr acc (.slice oq N cq))∧Hid (R=((numC 11 (nt,na) (zb8 f acc st)).1,(numC 11 (nt,na) (zb8 f acc st)).2.want [59]))∧Hid (N+f=s1.n+1∧(st.e=0->st.n<f))) (fun _ wr=>mu p ts.length wr)
 case atStart => exact ⟨[],0,none,0,s1,s1.n+1,rfl,Dp,Fp,Ao,listAt_nil,Fb,⟨by omega,fun _=>by omega⟩⟩
 case round =>
  clear Dp Ao Fb;obtain ⟨acc,N,oq,cq,st,f,rfl,Dq,Dt,Du,Dv,Dw,Bi⟩:=hrel;have Cv:Hid (mu p ts.length wr=muS st):=zd5 Dq.out;obtain ⟨e3,e2⟩:=Dq.out.e_cell;obtain ⟨EE,hEE⟩:∃ x,st.e=x:=⟨_,rfl⟩;have Ay:=hid hEE;rw [hEE] at e3;clear hEE;by_cases he:EE=0
  case neg =>
   have he2:(EE==0)=false:=by simp [he]
   have Fq:Hid (R=((numC 11 (nt,na) (acc,st)).1,(numC 11 (nt,na) (acc,st)).2.want [59])):=Dw.out.trans (by rw [zh6 (by rw [Ay.out];exact he) f acc]);have Bv:Hid (N<=20000):=by show _<=_;have:=Bi.out.1;have:=Bu.out;omega
   go_wp2_with fail
   refine (zak p g cap ts hE d [61] (by simp) st _ Dq.out).mono ?_;rintro e w41 ⟨rfl,hD,hS⟩;have Bw:=hid hS;have Dx:=hid hD;have Cw:=hid (Dt.out.trans Bw.out);have Bb:=hid (Du.out.sole Ac.out.1 Bw.out);have Bx:=hid (ListAt.sole Dv.out (by intro b hb;have hpg:=Ac.out.1;have hb2:=hb;first | (unfold zaf at hb2;omega) | exact (Bz.out b hb)) Bw.out);clear hD hS;go_wp2_with fail
   have Dy:=hid (Kep.lt Bb.out);have Fr:=hid (Sole.size Cw.out);refine (zch p g cap ts hE d true (st.want [61]) _ Dx.out).mono ?_;rintro e w42 ⟨v,rfl,hv,hD,hS⟩;have Ca:=hid hS;have Cx:=hid hD;have Dz:=hid (Cw.out.trans Ca.out);have An:=hid (Bb.out.sole Ac.out.1 Ca.out);have Az:=hid (ListAt.sole Bx.out (by intro b hb;have hpg:=Ac.out.1;have hb2:=hb;first | (unfold zaf at hb2;omega) | exact (Bz.out b hb)) Ca.out);obtain ⟨k42,n42,m42,a42,ks42,o42,l42,c42,he42,rfl⟩:=zam hv;have Cb:=hid he42;clear he42;have Cy:=hid hv;clear hv hD hS;obtain ⟨vv,hvv⟩:∃ x,zaq true (st.want [61])=x:=⟨_,rfl⟩;have Cz:Hid (R=(zar 11 (nt,na) (vv.1::acc),vv.2.want [59])):=by show _=_;rw [Fq.out,<- hvv];rfl
   rw [hvv] at Cx Cb Cy;clear hvv;obtain ⟨wq,hwq⟩:∃ x,w42.alloc (.cells #[.int .i64 k42,.string ⟨n42.toArray⟩,.int .i64 m42,.int .i64 a42,.slice o42 l42 c42] 29)=x:=⟨_,rfl⟩;obtain ⟨wx,hwx⟩:∃ x,wq.alloc (.cells #[.int .i64 11,.string ⟨nt.toArray⟩,.int .i64 0,.int .i64 na,.slice (some ⟨w42.heap.size,0,none⟩) 1 1] 29)=x:=⟨_,rfl⟩;have Cc:Hid (wq.heap.size=w42.heap.size+1∧wx.heap.size=w42.heap.size+2):=⟨by rw [<- hwq];simp,by rw [<- hwx,<- hwq];simp⟩;have hzq:=Cc.out.1;have Bc:Hid (Below w42.heap.size w42 wx):=by show Below _ _ _;rw [<- hwx,<- hwq];exact (zab _ _).alloc (by simp) _
   have Ar:=hid (An.out.lt);have Da:Hid (Kep w wx (w42.heap.size+1) (kidO 11 nt 0 na (.slice (some ⟨w42.heap.size,0,none⟩) 1 1))):=⟨by have h1:=heap_alloc_new wq (.cells #[.int .i64 11,.string ⟨nt.toArray⟩,.int .i64 0,.int .i64 na,.slice (some ⟨w42.heap.size,0,none⟩) 1 1] 29);rw [hwx,Cc.out.1] at h1;exact h1,by have:=Ar.out;omega⟩;have Ea:=hid (An.out.below Bc.out);have Eb:=hid (Cx.out.below Bc.out);have Ec:=hid (Dz.out.trans (Sole.of_below Bc.out));have Ed:Hid (ListAt (fun b=>w.heap.size+1<=b∧b≠w42.heap.size+1) wx [(Tree.node k42 n42 m42 a42 ks42)] (.slice (some ⟨w42.heap.size,0,none⟩) 1 1)):=by
    have h1:=Dy.out;have h2:=Ar.out;have h4:treeIs w41.heap.size (Tree.node k42 n42 m42 a42 ks42) w42 (kidV k42 n42 m42 a42 (.slice o42 l42 c42)):=(by rw [<- Cb.out];exact Cy.out);refine zbd (ks:=[(Tree.node k42 n42 m42 a42 ks42)]) (q:=w42.heap.size) (by rw [<- hwx];exact za3 (by rw [<- hwq];exact heap_alloc_new _ _)) (by simp) ⟨by omega,by omega⟩ (zay ((TreeAt.below (TreeAt.there _ _ h4) Bc.out).weaken (fun b hb=>?_)));have hb1:w41.heap.size<=b:=hb.1;have hb2:=hb.2;exact ⟨⟨by omega,by omega⟩,by omega⟩
   have Ee:Hid (ListAt (fun b=>(fun b=>w.heap.size+1<=b∧b≠w42.heap.size+1) b∧b≠w42.heap.size) wx acc (.slice oq N cq)):=(ListAt.below (za7 Az.out) Bc.out).weaken (fun b hb=>by
    have hb1:w.heap.size+1<=b:=hb.1;have hb2:=hb.2;exact ⟨⟨hb1,by omega⟩,by omega⟩)
   have Ct:Hid ((fun b=>w.heap.size+1<=b∧b≠w42.heap.size+1) wx.heap.size):=by
    have h1:=Cc.out;have h2:=Ar.out;exact ⟨by omega,by omega⟩
   rw [Cb.out] at Cz;obtain ⟨⟨x0,x1,x2,x3,x4⟩,_⟩:=zaa Da.out.1;have hn5:¬ w.heap.size=w42.heap.size+1:=by have:=Ar.out;omega
   have hn6:¬ w42.heap.size+1=w.heap.size:=by omega
   unfold kidV;go_wp2_with (at_builtin;refine zkm _ rfl _ _ rfl (fun b=>w.heap.size+1<=b∧b≠w42.heap.size+1) [(Tree.node k42 n42 m42 a42 ks42)] acc w42.heap.size 1 1 Ed.out rfl (by decide) oq N cq Ee.out rfl Bv.out Ct.out ?_;intro gq cq2 w6 hA;have Bg:=hid hA;have Au:=hid (za0 Da.out hA.grow (fun e=>by have:=Option.some.inj e;dsimp at this;omega));have Bd:=hid (za0 Ea.out hA.grow (fun e=>by have h1:=Option.some.inj e;have h2:=Ar.out;dsimp at h1;omega));obtain ⟨⟨j0,j1,j2,j3,j4⟩,⟨g0,g1,g2,g3,g4⟩⟩:=zaa Au.out.1;obtain ⟨⟨z0,z1,z2,z3,z4⟩,⟨y0,y1,y2,y3,y4⟩⟩:=zaa Bd.out.1;clear hA x0 x1 x2 x3 x4 hwx hwq)
   have Bj:=hid (Bg.out.ds Eb.out Ec.out (by have:=Ar.out;omega) Ac.out.1 Ac.out.2);have Av:Hid (Kep w (w6.setCell ⟨w42.heap.size+1,4,none⟩ (.slice (some ⟨gq,0,none⟩) (1+N) cq2)) w.heap.size (kidO 0 [] 0 0 (.slice none 0 0))∧DS (w6.setCell ⟨w42.heap.size+1,4,none⟩ (.slice (some ⟨gq,0,none⟩) (1+N) cq2)) p g cap ts d vv.2∧Sole p w (w6.setCell ⟨w42.heap.size+1,4,none⟩ (.slice (some ⟨gq,0,none⟩) (1+N) cq2))∧Kep w (w6.setCell ⟨w42.heap.size+1,4,none⟩ (.slice (some ⟨gq,0,none⟩) (1+N) cq2)) (w42.heap.size+1) (kidO 11 nt 0 na (.slice (some ⟨gq,0,none⟩) (1+N) cq2))∧ListAt (fun b=>w.heap.size+1<=b) (w6.setCell ⟨w42.heap.size+1,4,none⟩ (.slice (some ⟨gq,0,none⟩) (1+N) cq2)) ([(Tree.node k42 n42 m42 a42 ks42)]++acc) (.slice (some ⟨gq,0,none⟩) (1+N) cq2)):=by
    have h1:=Ar.out;have h2:=Ac.out;exact ⟨zcj Bd.out (by omega) _ _,Bj.out.1.set (by omega) (by omega) _ _,Sole.set Bj.out.2 (by omega) _ _,⟨zae Au.out.1,Au.out.2⟩,(ListAt.but Bg.out.list (fun b hb=>hb.2) (fun b hb=>Below.heap_setCell _ _ _ _ hb)).weaken (fun b hb=>hb.1)⟩
   generalize w6.setCell ⟨w42.heap.size+1,4,none⟩ (.slice (some ⟨gq,0,none⟩) (1+N) cq2)=w7 at Av ⊢;have Ef:=hid Av.out.1;have Eg:=hid Av.out.2.1;have Eh:=hid Av.out.2.2.1;have Cd:=hid Av.out.2.2.2.1;have Ei:=hid Av.out.2.2.2.2;clear Av j0 j1 j2 j3 j4 g0 g1 g2 g3 g4 z0 z1 z2 z3 z4 y0 y1 y2 y3 y4;refine (zak p g cap ts hE d [59] (by simp) vv.2 _ Eg.out).mono ?_;rintro e w43 ⟨rfl,hD,hS⟩;have Bl:=hid hS;have Ej:=hid hD;have Ek:=hid (Eh.out.trans Bl.out);have Aw:=hid (Ef.out.sole Ac.out.1 Bl.out);have Bm:=hid (Cd.out.sole Ac.out.1 Bl.out);have Ce:=hid (ListAt.sole Ei.out (by intro b hb;have hpg:=Ac.out.1;have hb2:=hb;first | (unfold zaf at hb2;omega) | exact (by have h1:w.heap.size+1<=b:=hb;omega)) Bl.out);clear hD hS;obtain ⟨⟨x0,x1,x2,x3,x4⟩,_⟩:=zaa Bm.out.1;obtain ⟨⟨z0,z1,z2,z3,z4⟩,⟨y0,y1,y2,y3,y4⟩⟩:=zaa Aw.out.1;go_wp2;refine ret5 z0 z1 z2 z3 z4 rfl (fun u q0 q1 q2 q3 q4=>by simp [results,Tryz.results87,go_sem,q0,q1,q2,q3,q4]) Aw.out.2 Ek.out ?_;intro wz hf;rw [Cz.out];have hr2:=Aw.out.2;have hpg:=Ac.out;exact ⟨_,rfl,zaz Ce.out (fun b h=>Nat.le_trans (Nat.le_succ _) h) (fun b h=>by have h1:w.heap.size+1<=b:=h;omega) hf.2,Ej.out.but (by omega) (by omega) hf.2,hf.1⟩
  subst he;obtain ⟨f,rfl⟩:∃ f' : Nat,f=f'+1:=⟨f-1,by have:=Bi.out.2 Ay.out;omega⟩;have Bv:Hid (N<=20000):=by show _<=_;have:=Bi.out.1;have:=Bu.out;omega
  obtain ⟨tv,htv⟩:∃ x,(zg9 st).1=x:=⟨_,rfl⟩;obtain ⟨sv,hsv⟩:∃ x,(zg9 st).2=x:=⟨_,rfl⟩;have Fc:Hid ((zg9 st).1=tv∧(zg9 st).2=sv):=⟨htv,hsv⟩;have Db:Hid (zb8 (f+1) acc st=partT zb8 zh7 f (acc++[tv]) sv):=by
   show _=_;rw [zb8,Ay.out,<- htv,<- hsv];rfl
  have Bh:Hid (2*sv.n+(if sv.e=0 then 1 else 0)<2*st.n+(if st.e=0 then 1 else 0)):=by
   show _<_;rw [<- hsv];exact zcs (by simp) (Nat.le_trans (zfu _ _) (Nat.le_trans (za4 _ _) (Nat.le_trans (za4 _ _) (Nat.le_trans (argsD_le _) (Nat.le_trans (za4 _ _) (Nat.le_trans (zfe _) (result_le _))))))) Ay.out
  clear htv hsv;go_wp2_with fail
  have El:=hid (Kep.lt Du.out);have Fs:=hid (Sole.size Dt.out);refine (Fj.out st _ Dq.out).mono ?_;rintro e w61 ⟨v,rfl,hv,hD,hS⟩;have Cf:=hid hS;have Dc:=hid hD;have Em:=hid (Dt.out.trans Cf.out);have Cg:=hid (Du.out.sole Ac.out.1 Cf.out);have Ch:=hid (ListAt.sole Dv.out (by intro b hb;have hpg:=Ac.out.1;have hb2:=hb;first | (unfold zaf at hb2;omega) | exact (Bz.out b hb)) Cf.out);obtain ⟨k61,n61,m61,a61,ks61,o61,l61,c61,he61,rfl⟩:=zam hv;have Ci:=hid he61;clear he61;have Dd:=hid hv;clear hv hD hS;rw [Fc.out.1] at Dd Ci;rw [Fc.out.2] at Dc;obtain ⟨wb61,hwb⟩:∃ x,w61.alloc (.cells #[.int .i64 k61,.string ⟨n61.toArray⟩,.int .i64 m61,.int .i64 a61,.slice o61 l61 c61] 29)=x:=⟨_,rfl⟩;have Cu:Hid (Below w61.heap.size w61 wb61):=hidB hwb;have Fd:=hid (Dc.out.below Cu.out);have Fe:=hid (Em.out.trans (Sole.of_below Cu.out));have En:=hid (Cg.out.below Cu.out);have Ff:=hid (ListAt.below Ch.out Cu.out);have Fg:Hid (wb61.heap[w61.heap.size]?=some (kidO k61 n61 m61 a61 (.slice o61 l61 c61))):=by show _=_;rw [<- hwb];exact heap_alloc_new _ _
  have Dr:Hid (∀ q,(Value.slice oq N cq).ownBlock=some q->w.heap.size+1<=q∧q<wr.heap.size):=fun q e=>by
   have h1:=zb2 Dv.out e;exact ⟨h1.1,h1.2⟩
  have Fh:Hid (TreeAt (fun b=>(zaf (w.heap.size+1)) b∧(Value.slice oq N cq).ownBlock≠some b) wb61 (.node k61 n61 m61 a61 ks61) (kidV k61 n61 m61 a61 (.slice o61 l61 c61))):=by
   have h1:=El.out;have h4:treeIs wr.heap.size (.node k61 n61 m61 a61 ks61) w61 (kidV k61 n61 m61 a61 (.slice o61 l61 c61)):=by rw [<- Ci.out];exact Dd.out
   refine (TreeAt.below h4 Cu.out).weaken (fun b hb=>?_);have hb1:wr.heap.size<=b:=hb;exact ⟨by unfold zaf;omega,fun e=>by have:=Dr.out b e;omega⟩
  have Ct:Hid ((zaf (w.heap.size+1)) wb61.heap.size):=by show _<=_;exact En.out.lt
  unfold kidV;go_wp2_with (at_builtin;refine zim _ rfl _ _ rfl (zaf (w.heap.size+1)) acc oq N cq Ff.out rfl Bv.out w61.heap.size k61 m61 n61 a61 ks61 o61 l61 c61 rfl Fg.out Fh.out Ct.out ?_;intro g61 q61 x61 hA;have Bg:=hid hA;clear hA)
  have Bj:=hid (Bg.out.ds Fd.out Fe.out (fun q e=>by have:=(Dr.out q e).1;omega) Ac.out.1 Ac.out.2);have De:=hid Bj.out.1;have Df:=hid Bj.out.2;have Dg:=hid (za0 En.out Bg.out.grow (fun e=>by have:=(Dr.out _ e).1;omega));have Dh:=hid (Bg.out.list);clear hwb Bj Bg Fd Fe En Ff Fg Fh Ct Cu Dr;refine (zci p g cap ts hE d [125] (by simp) sv _ De.out).mono ?_;rintro e w62 ⟨rfl,hD,hS⟩;have Cj:=hid hS;have Ba:=hid hD;have Di:=hid (Df.out.trans Cj.out);have Ap:=hid (Dg.out.sole Ac.out.1 Cj.out);have Ad:=hid (ListAt.sole Dh.out (by intro b hb;have hpg:=Ac.out.1;have hb2:=hb;first | (unfold zaf at hb2;omega) | exact (Bz.out b hb)) Cj.out);clear hD hS;have Fi:Hid ((acc++[(Tree.node k61 n61 m61 a61 ks61)]).length=N+1):=zf9 Ad.out;rw [Ci.out] at Db;unfold partT at Db;rw [Fi.out] at Db;cases hb1:sv.is [125] with
  | true =>
   rw [zdx hb1] at Ba;have Bn:Hid (R=((numC 11 (nt,na) (acc++[(Tree.node k61 n61 m61 a61 ks61)],sv.adv)).1,(numC 11 (nt,na) (acc++[(Tree.node k61 n61 m61 a61 ks61)],sv.adv)).2.want [59])):=by
    show _=_;rw [Dw.out,Db.out,hb1];rfl
   clear hb1 Bv;have Bv:Hid (N+1<=20000):=by show _<=_;have:=Bi.out.1;have:=Bu.out;omega
   obtain ⟨acc2,hac⟩:∃ x,acc++[(Tree.node k61 n61 m61 a61 ks61)]=x:=⟨_,rfl⟩;obtain ⟨N2,hN2⟩:∃ x,N+1=x:=⟨_,rfl⟩;obtain ⟨sx,hsx⟩:∃ x,sv.adv=x:=⟨_,rfl⟩;rw [hac] at Bn Ad;rw [hN2] at Bv Ad;rw [hsx] at Bn Ba;rw [hN2];clear hac hN2 Fi hsx;go_wp2_with fail
   refine (zak p g cap ts hE d [61] (by simp) sx _ Ba.out).mono ?_;rintro e w63 ⟨rfl,hD,hS⟩;have Ck:=hid hS;have Eo:=hid hD;have Dj:=hid (Di.out.trans Ck.out);have Aj:=hid (Ap.out.sole Ac.out.1 Ck.out);have Aq:=hid (ListAt.sole Ad.out (by intro b hb;have hpg:=Ac.out.1;have hb2:=hb;first | (unfold zaf at hb2;omega) | exact (Bz.out b hb)) Ck.out);clear hD hS;go_wp2_with fail
   have Ep:=hid (Kep.lt Aj.out);have Ft:=hid (Sole.size Dj.out);refine (zch p g cap ts hE d true (sx.want [61]) _ Eo.out).mono ?_;rintro e w64 ⟨v,rfl,hv,hD,hS⟩;have Cl:=hid hS;have Dk:=hid hD;have Er:=hid (Dj.out.trans Cl.out);have Ae:=hid (Aj.out.sole Ac.out.1 Cl.out);have Ak:=hid (ListAt.sole Aq.out (by intro b hb;have hpg:=Ac.out.1;have hb2:=hb;first | (unfold zaf at hb2;omega) | exact (Bz.out b hb)) Cl.out);obtain ⟨k64,n64,m64,a64,ks64,o64,l64,c64,he64,rfl⟩:=zam hv;have Cm:=hid he64;clear he64;have Dl:=hid hv;clear hv hD hS;obtain ⟨vv,hvv⟩:∃ x,zaq true (sx.want [61])=x:=⟨_,rfl⟩;have Cz:Hid (R=(zar 11 (nt,na) (vv.1::acc2),vv.2.want [59])):=by show _=_;rw [Bn.out,<- hvv];rfl
   rw [hvv] at Dk Cm Dl;clear hvv;obtain ⟨wq,hwq⟩:∃ x,w64.alloc (.cells #[.int .i64 k64,.string ⟨n64.toArray⟩,.int .i64 m64,.int .i64 a64,.slice o64 l64 c64] 29)=x:=⟨_,rfl⟩;obtain ⟨wx,hwx⟩:∃ x,wq.alloc (.cells #[.int .i64 11,.string ⟨nt.toArray⟩,.int .i64 0,.int .i64 na,.slice (some ⟨w64.heap.size,0,none⟩) 1 1] 29)=x:=⟨_,rfl⟩;have Cc:Hid (wq.heap.size=w64.heap.size+1∧wx.heap.size=w64.heap.size+2):=⟨by rw [<- hwq];simp,by rw [<- hwx,<- hwq];simp⟩;have hzq:=Cc.out.1;have Bc:Hid (Below w64.heap.size w64 wx):=by show Below _ _ _;rw [<- hwx,<- hwq];exact (zab _ _).alloc (by simp) _
   have Ar:=hid (Ae.out.lt);have Da:Hid (Kep w wx (w64.heap.size+1) (kidO 11 nt 0 na (.slice (some ⟨w64.heap.size,0,none⟩) 1 1))):=⟨by have h1:=heap_alloc_new wq (.cells #[.int .i64 11,.string ⟨nt.toArray⟩,.int .i64 0,.int .i64 na,.slice (some ⟨w64.heap.size,0,none⟩) 1 1] 29);rw [hwx,Cc.out.1] at h1;exact h1,by have:=Ar.out;omega⟩;have Ea:=hid (Ae.out.below Bc.out);have Eb:=hid (Dk.out.below Bc.out);have Ec:=hid (Er.out.trans (Sole.of_below Bc.out));have Ed:Hid (ListAt (fun b=>w.heap.size+1<=b∧b≠w64.heap.size+1) wx [(Tree.node k64 n64 m64 a64 ks64)] (.slice (some ⟨w64.heap.size,0,none⟩) 1 1)):=by
    have h1:=Ep.out;have h2:=Ar.out;have h4:treeIs w63.heap.size (Tree.node k64 n64 m64 a64 ks64) w64 (kidV k64 n64 m64 a64 (.slice o64 l64 c64)):=(by rw [<- Cm.out];exact Dl.out);refine zbd (ks:=[(Tree.node k64 n64 m64 a64 ks64)]) (q:=w64.heap.size) (by rw [<- hwx];exact za3 (by rw [<- hwq];exact heap_alloc_new _ _)) (by simp) ⟨by omega,by omega⟩ (zay ((TreeAt.below (TreeAt.there _ _ h4) Bc.out).weaken (fun b hb=>?_)));have hb1:w63.heap.size<=b:=hb.1;have hb2:=hb.2;exact ⟨⟨by omega,by omega⟩,by omega⟩
   have Ee:Hid (ListAt (fun b=>(fun b=>w.heap.size+1<=b∧b≠w64.heap.size+1) b∧b≠w64.heap.size) wx acc2 (.slice (some ⟨g61,0,none⟩) N2 q61)):=(ListAt.below (za7 Ak.out) Bc.out).weaken (fun b hb=>by
    have hb1:w.heap.size+1<=b:=hb.1;have hb2:=hb.2;exact ⟨⟨hb1,by omega⟩,by omega⟩)
   have Ct:Hid ((fun b=>w.heap.size+1<=b∧b≠w64.heap.size+1) wx.heap.size):=by
    have h1:=Cc.out;have h2:=Ar.out;exact ⟨by omega,by omega⟩
   rw [Cm.out] at Cz;obtain ⟨⟨x0,x1,x2,x3,x4⟩,_⟩:=zaa Da.out.1;have hn5:¬ w.heap.size=w64.heap.size+1:=by have:=Ar.out;omega
   have hn6:¬ w64.heap.size+1=w.heap.size:=by omega
   unfold kidV;go_wp2_with (at_builtin;refine zkm _ rfl _ _ rfl (fun b=>w.heap.size+1<=b∧b≠w64.heap.size+1) [(Tree.node k64 n64 m64 a64 ks64)] acc2 w64.heap.size 1 1 Ed.out rfl (by decide) (some ⟨g61,0,none⟩) N2 q61 Ee.out rfl Bv.out Ct.out ?_;intro gq cq2 w6 hA;have Bg:=hid hA;have Au:=hid (za0 Da.out hA.grow (fun e=>by have:=Option.some.inj e;dsimp at this;omega));have Bd:=hid (za0 Ea.out hA.grow (fun e=>by have h1:=Option.some.inj e;have h2:=Ar.out;dsimp at h1;omega));obtain ⟨⟨j0,j1,j2,j3,j4⟩,⟨g0,g1,g2,g3,g4⟩⟩:=zaa Au.out.1;obtain ⟨⟨z0,z1,z2,z3,z4⟩,⟨y0,y1,y2,y3,y4⟩⟩:=zaa Bd.out.1;clear hA x0 x1 x2 x3 x4 hwx hwq)
   have Bj:=hid (Bg.out.ds Eb.out Ec.out (by have:=Ar.out;omega) Ac.out.1 Ac.out.2);have Av:Hid (Kep w (w6.setCell ⟨w64.heap.size+1,4,none⟩ (.slice (some ⟨gq,0,none⟩) (1+N2) cq2)) w.heap.size (kidO 0 [] 0 0 (.slice none 0 0))∧DS (w6.setCell ⟨w64.heap.size+1,4,none⟩ (.slice (some ⟨gq,0,none⟩) (1+N2) cq2)) p g cap ts d vv.2∧Sole p w (w6.setCell ⟨w64.heap.size+1,4,none⟩ (.slice (some ⟨gq,0,none⟩) (1+N2) cq2))∧Kep w (w6.setCell ⟨w64.heap.size+1,4,none⟩ (.slice (some ⟨gq,0,none⟩) (1+N2) cq2)) (w64.heap.size+1) (kidO 11 nt 0 na (.slice (some ⟨gq,0,none⟩) (1+N2) cq2))∧ListAt (fun b=>w.heap.size+1<=b) (w6.setCell ⟨w64.heap.size+1,4,none⟩ (.slice (some ⟨gq,0,none⟩) (1+N2) cq2)) ([(Tree.node k64 n64 m64 a64 ks64)]++acc2) (.slice (some ⟨gq,0,none⟩) (1+N2) cq2)):=by
    have h1:=Ar.out;have h2:=Ac.out;exact ⟨zcj Bd.out (by omega) _ _,Bj.out.1.set (by omega) (by omega) _ _,Sole.set Bj.out.2 (by omega) _ _,⟨zae Au.out.1,Au.out.2⟩,(ListAt.but Bg.out.list (fun b hb=>hb.2) (fun b hb=>Below.heap_setCell _ _ _ _ hb)).weaken (fun b hb=>hb.1)⟩
   generalize w6.setCell ⟨w64.heap.size+1,4,none⟩ (.slice (some ⟨gq,0,none⟩) (1+N2) cq2)=w7 at Av ⊢;have Ef:=hid Av.out.1;have Eg:=hid Av.out.2.1;have Eh:=hid Av.out.2.2.1;have Cd:=hid Av.out.2.2.2.1;have Ei:=hid Av.out.2.2.2.2;clear Av j0 j1 j2 j3 j4 g0 g1 g2 g3 g4 z0 z1 z2 z3 z4 y0 y1 y2 y3 y4;refine (zak p g cap ts hE d [59] (by simp) vv.2 _ Eg.out).mono ?_;rintro e w65 ⟨rfl,hD,hS⟩;have Bo:=hid hS;have Es:=hid hD;have Et:=hid (Eh.out.trans Bo.out);have Ax:=hid (Ef.out.sole Ac.out.1 Bo.out);have Bp:=hid (Cd.out.sole Ac.out.1 Bo.out);have Cn:=hid (ListAt.sole Ei.out (by intro b hb;have hpg:=Ac.out.1;have hb2:=hb;first | (unfold zaf at hb2;omega) | exact (by have h1:w.heap.size+1<=b:=hb;omega)) Bo.out);clear hD hS;obtain ⟨⟨x0,x1,x2,x3,x4⟩,_⟩:=zaa Bp.out.1;obtain ⟨⟨z0,z1,z2,z3,z4⟩,⟨y0,y1,y2,y3,y4⟩⟩:=zaa Ax.out.1;go_wp2;refine ret5 z0 z1 z2 z3 z4 rfl (fun u q0 q1 q2 q3 q4=>by simp [results,Tryz.results87,go_sem,q0,q1,q2,q3,q4]) Ax.out.2 Et.out ?_;intro wz hf;rw [Cz.out];have hr2:=Ax.out.2;have hpg:=Ac.out;exact ⟨_,rfl,zaz Cn.out (fun b h=>Nat.le_trans (Nat.le_succ _) h) (fun b h=>by have h1:w.heap.size+1<=b:=h;omega) hf.2,Es.out.but (by omega) (by omega) hf.2,hf.1⟩
  | false =>
   rw [zb5 hb1] at Ba;have Bn:Hid (R=((numC 11 (nt,na) (zb8 f (acc++[(Tree.node k61 n61 m61 a61 ks61)]) (if zh7 sv&&N+1==64 then sv.fail 42 else sv))).1,(numC 11 (nt,na) (zb8 f (acc++[(Tree.node k61 n61 m61 a61 ks61)]) (if zh7 sv&&N+1==64 then sv.fail 42 else sv))).2.want [59])):=by
    show _=_;rw [Dw.out,Db.out,hb1];rfl
   clear hb1;go_wp2_with fail
   refine (ze4 p g cap ts d sv _ Ba.out).mono ?_;rintro e w66 ⟨rfl,hB⟩;have Bq:=hid hB;have Be:=hid (Ba.out.below Bq.out);have Co:=hid (Di.out.trans (Sole.of_below Bq.out));have Af:=hid (Ap.out.below Bq.out);have Ag:=hid (ListAt.below Ad.out Bq.out);clear hB;cases hm:sv.begins with
   | true =>
    have Cp:Hid (zh7 sv=true):=(by show _=_;unfold zh7;rw [hm];rfl);by_cases h64:N+1=64
    case pos =>
     have j64:((N:Int)+1==64)=true:=(by simp;omega);have Br:Hid (R=((numC 11 (nt,na) (zb8 f (acc++[(Tree.node k61 n61 m61 a61 ks61)]) (sv.fail 42))).1,(numC 11 (nt,na) (zb8 f (acc++[(Tree.node k61 n61 m61 a61 ks61)]) (sv.fail 42))).2.want [59])):=by
      show _=_;rw [Bn.out,Cp.out,h64];rfl
     clear h64;(go_wp2_with fail);refine (zbs p g cap ts d 42 sv _ Be.out).mono ?_;rintro e w67 ⟨rfl,hD,hS⟩;have Cq:=hid hS;have Dm:=hid hD;have Eu:=hid (Co.out.trans Cq.out);have Al:=hid (Af.out.sole Ac.out.1 Cq.out);have Am:=hid (ListAt.sole Ag.out (by intro b hb;have hpg:=Ac.out.1;have hb2:=hb;first | (unfold zaf at hb2;omega) | exact (Bz.out b hb)) Cq.out);clear hD hS;go_wp2;go_roundw
     case rel =>
      refine ⟨_,N+1,some ⟨g61,0,none⟩,q61,(sv.fail 42),f,rfl,Dm,Eu,Al,Am,Br,?_⟩;have h1:=Bi.out;have h5:=(zbx 42 Bh.out (by decide));rw [if_pos Ay.out] at h5;refine ⟨by omega,fun h0=>?_⟩;have h3:=h1.2 Ay.out;rw [if_pos h0] at h5;omega
     case measure =>
      rw [zd5 Dm.out,Cv.out,zcd,zcd];exact (zbx 42 Bh.out (by decide))
    have j64:((N:Int)+1==64)=false:=(by simp;omega);have Br:Hid (R=((numC 11 (nt,na) (zb8 f (acc++[(Tree.node k61 n61 m61 a61 ks61)]) sv)).1,(numC 11 (nt,na) (zb8 f (acc++[(Tree.node k61 n61 m61 a61 ks61)]) sv)).2.want [59])):=by
     show _=_;rw [Bn.out,Cp.out,show (N+1==64)=false by simp;omega];rfl
    clear h64;go_wp2;go_roundw
    case rel =>
     refine ⟨_,N+1,some ⟨g61,0,none⟩,q61,sv,f,rfl,Be,Co,Af,Ag,Br,?_⟩;have h1:=Bi.out;have h5:=Bh.out;rw [if_pos Ay.out] at h5;refine ⟨by omega,fun h0=>?_⟩;have h3:=h1.2 Ay.out;rw [if_pos h0] at h5;omega
    case measure =>
     rw [zd5 Be.out,Cv.out,zcd,zcd];exact Bh.out
   | false =>
    (go_wp2_with fail);refine (zd8 p g cap ts d [118,111,105,100] sv _ Be.out).mono ?_;rintro e w68 ⟨rfl,hB⟩;have Bs:=hid hB;have Bf:=hid (Be.out.below Bs.out);have Cr:=hid (Co.out.trans (Sole.of_below Bs.out));have Aa:=hid (Af.out.below Bs.out);have Ab:=hid (ListAt.below Ag.out Bs.out);clear hB;cases hm2:sv.is [118,111,105,100] with
    | true =>
     have Cp:Hid (zh7 sv=true):=(by show _=_;unfold zh7;rw [hm,show sv.is zdc=true from hm2];rfl);by_cases h64:N+1=64
     case pos =>
      have j64:((N:Int)+1==64)=true:=(by simp;omega);have Br:Hid (R=((numC 11 (nt,na) (zb8 f (acc++[(Tree.node k61 n61 m61 a61 ks61)]) (sv.fail 42))).1,(numC 11 (nt,na) (zb8 f (acc++[(Tree.node k61 n61 m61 a61 ks61)]) (sv.fail 42))).2.want [59])):=by
       show _=_;rw [Bn.out,Cp.out,h64];rfl
      clear h64;(go_wp2_with fail);refine (zbs p g cap ts d 42 sv _ Bf.out).mono ?_;rintro e w69 ⟨rfl,hD,hS⟩;have Cs:=hid hS;have Dn:=hid hD;have Ev:=hid (Cr.out.trans Cs.out);have Ah:=hid (Aa.out.sole Ac.out.1 Cs.out);have Ai:=hid (ListAt.sole Ab.out (by intro b hb;have hpg:=Ac.out.1;have hb2:=hb;first | (unfold zaf at hb2;omega) | exact (Bz.out b hb)) Cs.out);clear hD hS;go_wp2;go_roundw
      case rel =>
       refine ⟨_,N+1,some ⟨g61,0,none⟩,q61,(sv.fail 42),f,rfl,Dn,Ev,Ah,Ai,Br,?_⟩;have h1:=Bi.out;have h5:=(zbx 42 Bh.out (by decide));rw [if_pos Ay.out] at h5;refine ⟨by omega,fun h0=>?_⟩;have h3:=h1.2 Ay.out;rw [if_pos h0] at h5;omega
      case measure =>
       rw [zd5 Dn.out,Cv.out,zcd,zcd];exact (zbx 42 Bh.out (by decide))
     have j64:((N:Int)+1==64)=false:=(by simp;omega);have Br:Hid (R=((numC 11 (nt,na) (zb8 f (acc++[(Tree.node k61 n61 m61 a61 ks61)]) sv)).1,(numC 11 (nt,na) (zb8 f (acc++[(Tree.node k61 n61 m61 a61 ks61)]) sv)).2.want [59])):=by
      show _=_;rw [Bn.out,Cp.out,show (N+1==64)=false by simp;omega];rfl
     clear h64;go_wp2;go_roundw
     case rel =>
      refine ⟨_,N+1,some ⟨g61,0,none⟩,q61,sv,f,rfl,Bf,Cr,Aa,Ab,Br,?_⟩;have h1:=Bi.out;have h5:=Bh.out;rw [if_pos Ay.out] at h5;refine ⟨by omega,fun h0=>?_⟩;have h3:=h1.2 Ay.out;rw [if_pos h0] at h5;omega
     case measure =>
      rw [zd5 Bf.out,Cv.out,zcd,zcd];exact Bh.out
    | false =>
     have Cp:Hid (zh7 sv=false):=(by show _=_;unfold zh7;rw [hm,show sv.is zdc=false from hm2];rfl);have Br:Hid (R=((numC 11 (nt,na) (zb8 f (acc++[(Tree.node k61 n61 m61 a61 ks61)]) sv)).1,(numC 11 (nt,na) (zb8 f (acc++[(Tree.node k61 n61 m61 a61 ks61)]) sv)).2.want [59])):=by
      show _=_;rw [Bn.out,Cp.out];rfl
     go_wp2;go_roundw
     case rel =>
      refine ⟨_,N+1,some ⟨g61,0,none⟩,q61,sv,f,rfl,Bf,Cr,Aa,Ab,Br,?_⟩;have h1:=Bi.out;have h5:=Bh.out;rw [if_pos Ay.out] at h5;refine ⟨by omega,fun h0=>?_⟩;have h3:=h1.2 Ay.out;rw [if_pos h0] at h5;omega
     case measure =>
      rw [zd5 Bf.out,Cv.out,zcd,zcd];exact Bh.out
end Go.Proofs.YtighggeokiahfaaGreatDoor.Dm
namespace Go.Proofs.YtighggeokiahfaaGreatDoor.Lx
open Go.RowKit
theorem takeWhile_to {l:List UInt8} (p:UInt8->Bool) (at_ k:Nat) (hk:k<=l.length) (ha:at_<=k) (h:∀ j,at_<=j->j<k->p (l.getD j 0)=true) (he:k=l.length∨p (l.getD k 0)=false) :
 at_+((l.drop at_).takeWhile p).length=k:=by
 obtain ⟨d,rfl⟩:∃ d,k=at_+d:=⟨k - at_,by omega⟩;induction d generalizing at_ with
 | zero =>
  rcases he with he|he
  · have:l.drop at_=[]:=(by rw [List.drop_eq_nil_iff];omega);rw [this];simp
  · by_cases hl:at_<l.length
    · rw [List.drop_eq_getElem_cons hl];have e:l.getD at_ 0=l[at_]:=(by simp [List.getD,hl]);rw [Nat.add_zero,e] at he;rw [List.takeWhile_cons_of_neg (by simp [he])];simp
    · have:l.drop at_=[]:=(by rw [List.drop_eq_nil_iff];omega);rw [this];simp
 | succ d ih =>
  have hl:at_<l.length:=by omega
  rw [List.drop_eq_getElem_cons hl];have e:l.getD at_ 0=l[at_]:=by simp [List.getD,hl]
  have h0:=h at_ (Nat.le_refl _) (by omega);rw [e] at h0;rw [List.takeWhile_cons_of_pos h0,List.length_cons];have h1:=ih (at_+1) (by omega) (by omega) (fun j hj hjk=>h j (by omega) (by omega)) (by rw [show at_+1+d=at_+(d+1) by omega];exact he);omega
def numR (r:List UInt8) (minus:Bool):Option Int :=
 if minus then (zb1 r 10 4294967295).bind fun n=>if r.getD 0 0≠48∧n<=2147483648 then some (-(n:Int)) else none
 else if r=[48] then some 0
 else if 2<r.length∧r.take 2=[48,120] then (zb1 (r.drop 2) 16 4294967295).map fun (n:Nat)=>(n:Int)
 else if r.getD 0 0=48 then (zb1 (r.drop 1) 8 4294967295).map fun (n:Nat)=>(n:Int)
 else (zb1 r 10 4294967295).map fun (n:Nat)=>(n:Int)
theorem zmw (base most less:Nat) (hb:1<=base) (hl:less<=most):∀ (l:List UInt8) (n:Nat),n<=less->zcm base less n l=(zcm base most n l).bind fun m=>if m<=less then some m else none
 | [],n,h=>by simp [zcm,h]
 | c::r,n,h=>by
  simp only [zcm];split
  · rfl
  by_cases h1:less<n*base+digV c
  · rw [if_pos h1];split
    · rfl
    · cases h3:zcm base most (n*base+digV c) r with
      | none=>rfl
      | some m =>
       have:=reckP_ge base most hb r _ m h3;simp;omega
  · rw [if_neg h1,if_neg (by omega),zmw base most less hb hl r _ (by omega)]
theorem numR_plain {r:List UInt8} (h0:r.getD 0 0≠45) (hne:r≠[]):numR r false=numP r:=by
 unfold numR numP;rw [if_neg (by decide),if_pos h0];by_cases h1:r=[48]
 · subst h1;decide
 rw [if_neg h1];unfold zds;by_cases h48:r.getD 0 0=48
 · rw [if_neg (show ¬ (r.getD 0 0≠48) from fun h=>h h48)];match r,hne,h1,h48 with
   | [a],_,h1,h48=>exact absurd (by simpa using h48) h1
   | a::b::r,_,h1,h48 =>
    have ha:a=48:=h48;subst ha;by_cases hx:b=120
    · subst hx;rw [if_pos (show 1<(48::120::r:List UInt8).length∧(48::120::r:List UInt8).getD 1 0=120 from ⟨by simp,rfl⟩)];match r with
      | []=>decide
      | c::r =>
       rw [if_pos ⟨by simp,rfl⟩]
    · rw [if_neg (show ¬ (1<(48::b::r:List UInt8).length∧(48::b::r:List UInt8).getD 1 0=120) from fun h=>hx h.2)];rw [if_neg (fun h=>hx (by have:=h.2;simp at this;exact this)),if_pos (show (48::b::r:List UInt8).getD 0 0=48 from rfl)];have e:digV 48=0:=(by decide);have:zcm 8 4294967295 0 (48::b::r)=zcm 8 4294967295 0 (b::r):=by
       rw [zcm,e,if_neg (by omega),if_neg (by omega)]
      show (zb1 (b::r) 8 4294967295).map _=(zb1 (48::b::r) 8 4294967295).map _;unfold zb1;rw [if_neg (by simp),if_neg (by simp),this]
 · rw [if_neg (fun h=>h48 (by
    match r,h.2 with
    | a::b::r,h2=>simp at h2;exact h2.1)),if_neg h48,if_pos h48]
theorem numR_minus {r:List UInt8} : numR r true=numP (45::r):=by
 unfold numR numP;rw [if_pos rfl,if_neg (by simp)];show _=if (zds r).2≠10 then none else (zb1 (zds r).1 10 2147483648).map fun (n:Nat)=>-(n:Int);unfold zds;by_cases h48:r.getD 0 0=48
 · rw [if_neg (show ¬ (r.getD 0 0≠48) from fun h=>h h48),if_pos]
   · cases zb1 r 10 4294967295 with
     | none=>rfl
     | some n=>show (if r.getD 0 0≠48∧n<=2147483648 then some (-(n:Int)) else none)=_;rw [if_neg (fun h=>h.1 h48)]
   · split <;> simp
 · rw [if_pos h48,if_neg (by simp)];show _=(zb1 r 10 2147483648).map fun (n:Nat)=>-(n:Int);unfold zb1;split
   · rfl
   · rw [zmw 10 4294967295 2147483648 (by omega) (by omega) r 0 (by omega)];cases zcm 10 4294967295 0 r with
     | none=>rfl
     | some n =>
      show (if r.getD 0 0≠48∧n<=2147483648 then some (-(n:Int)) else none)=Option.map _ (if n<=2147483648 then some n else none);by_cases hn:n<=2147483648
      · rw [if_pos ⟨h48,hn⟩,if_pos hn];rfl
      · rw [if_neg (fun h=>hn h.2),if_neg hn];rfl
/- words -/
def zdy:List UInt8:=[32,98,111,111,108,32,99,97,115,101,32,99,111,110,115,116,32,100,101,102,97,117,108,116,32,100,111,117,98,108,101,32,101,110,117,109,32,102,108,111,97,116,32,104,121,112,101,114,32,105,110,116,32,111,112,97,113,117,101,32,112,114,111,103,114,97,109,32,113,117,97,100,114,117,112,108,101,32,115,116,114,105,110,103,32,115,116,114,117,99,116,32,115,119,105,116,99,104,32,116,121,112,101,100,101,102,32,117,110,105,111,110,32,117,110,115,105,103,110,101,100,32,118,101,114,115,105,111,110,32,118,111,105,100,32]
theorem words_len:zdy.length=135:=by decide +kernel
theorem words_only {s:List UInt8} {i:Nat} (hr:∀ c∈s,runB c=true) (hs:s≠[]) (hi:i+(s.length+2)<=135) (h:sub zdy i (i+(s.length+2))=32::(s++[32])):s∈zhz:=by
 have hall:∀ i:_root_.Fin 135,∀ n:_root_.Fin 12,(decide (1<=n.val))&&((sub zdy (i.val+1) (i.val+1+n.val)).all runB)&&(zdy.getD i.val 0==32)&&(zdy.getD (i.val+1+n.val) 0==32)&&decide (i.val+2+n.val<=135)=true->(sub zdy (i.val+1) (i.val+1+n.val))∈zhz:=by decide +kernel
 have hlong:∀ i:_root_.Fin 135,i.val+14<=135->(sub zdy (i.val+1) (i.val+1+12)).all runB=false:=by decide +kernel
 have g:∀ k,k<s.length+2->zdy.getD (i+k) 0=(32::(s++[32])).getD k 0:=fun k hk=>by
  rw [<- h];unfold sub;rw [List.getD_eq_getElem?_getD,List.getD_eq_getElem?_getD,List.getElem?_take,if_pos (by omega),List.getElem?_drop]
 have hsub:∀ n,n<=s.length->sub zdy (i+1) (i+1+n)=s.take n:=fun n hn=>by
  have e:sub zdy (i+1) (i+1+n)=((sub zdy i (i+(s.length+2))).drop 1).take n:=by
   unfold sub;rw [List.drop_take,List.drop_drop,List.take_take];congr 1;omega
  rw [e,h];show (s++[32]).take n=_;rw [List.take_append_of_le_length hn]
 by_cases h12:s.length<12
 · have:=hall ⟨i,by omega⟩ ⟨s.length,h12⟩;have e:=hsub s.length (Nat.le_refl _);rw [List.take_length] at e;simp only at this;rw [e] at this;refine this ?_;have h0:zdy.getD i 0=32:=g 0 (by omega);have h1:zdy.getD (i+1+s.length) 0=32:=by
    rw [Nat.add_assoc,g (1+s.length) (by omega),show 1+s.length=s.length+1 by omega];show (s++[32]).getD s.length 0=32;rw [getD_mid0];rfl
   have hp:1<=s.length:=by cases s with|nil=>exact absurd rfl hs|cons=>simp
   rw [h0,h1,List.all_eq_true.2 hr,decide_eq_true hp,decide_eq_true (show i+2+s.length<=135 by omega)];rfl
 · have:=hlong ⟨i,by omega⟩ (by simp only;omega);have e:=hsub 12 (by omega);simp only at this;rw [e,List.all_eq_true.2 fun c hc=>hr c (List.mem_of_mem_take hc)] at this;cases this
def wordAt:List UInt8->Nat:=fun s=>((List.range 135).find? fun i=>sub zdy i (i+(s.length+2))==32::(s++[32])).getD 0
theorem words_all:∀ s∈zhz,sub zdy (wordAt s) (wordAt s+(s.length+2))=32::(s++[32])∧wordAt s+(s.length+2)<=135∧s≠[]∧s.all runB=true:=by decide +kernel
theorem zm9 (l:List UInt8):(l.all runB)=decide (zas l 0=l.length):=by
 rw [Bool.eq_iff_iff,decide_eq_true_iff];constructor
 · intro h;have e:zas l 0=zas l l.length:=zk6 (Nat.zero_le _) fun j _ hj=>List.all_eq_true.1 h _ (getD_mem hj);rw [e,zfr (by rw [zfw (Nat.le_refl _)];decide)]
 · intro h;refine List.all_eq_true.2 fun c hc=>?_;obtain ⟨j,hj,rfl⟩:=List.getElem_of_mem hc;rw [<- getD_lt hj];exact runEnd_run (Nat.zero_le j) (by omega)
theorem slice_str (w:World) (s:ByteArray) (l h:Int) (h0:0<=l) (h1:l<=h) (h2:h<=(s.size:Int)) :
 (Instr.slice 9 (.string s) (some (.int .i64 l)) (some (.int .i64 h)) none).run Tryz.prog w=.ok (.string (s.extract l.toNat h.toNat)) w:=by
 have hu:=Tryz.underlying9;simp [go_sem,h0,h1,h2]
theorem slice_words (w:World) (k n:Nat) (h:k+(n+2)<=135) :
 (Instr.slice 9 (.string ⟨#[32,98,111,111,108,32,99,97,115,101,32,99,111,110,115,116,32,100,101,102,97,117,108,116,32,100,111,117,98,108,101,32,101,110,117,109,32,102,108,111,97,116,32,104,121,112,101,114,32,105,110,116,32,111,112,97,113,117,101,32,112,114,111,103,114,97,109,32,113,117,97,100,114,117,112,108,101,32,115,116,114,105,110,103,32,115,116,114,117,99,116,32,115,119,105,116,99,104,32,116,121,112,101,100,101,102,32,117,110,105,111,110,32,117,110,115,105,103,110,101,100,32,118,101,114,115,105,111,110,32,118,111,105,100,32]⟩) (some (.int .i64 k)) (some (.int .i64 ((k:Int)+((n:Int)+2)))) none).run Tryz.prog w=.ok (S (sub zdy k (k+(n+2)))) w:=by
 have e:=slice_str w (⟨zdy.toArray⟩:ByteArray) (k:Int) ((k:Int)+((n:Int)+2)) (by omega) (by omega) (by show (k:Int)+((n:Int)+2)<=((zdy.length:Nat):Int);rw [words_len];omega);rw [zhk,show ((k:Int)+((n:Int)+2)).toNat=k+(n+2) by omega,Int.toNat_natCast] at e;exact e
theorem cat_list (l:List UInt8):(({ data:=#[32] } : ByteArray)++{ data:=l.toArray }++{ data:=#[32] }).toList=32::(l++[32]):=by
 rw [ByteArray.toList_eq];simp
theorem word_not {l:List UInt8} (h:¬ (0<l.length∧zas l 0=l.length)):za6 l=false:=by
 cases hw:za6 l
 · rfl
 · obtain ⟨_,_,h1,h2⟩:=words_all l (List.contains_iff_mem.1 hw);exfalso
   refine h ⟨?_,?_⟩
   · cases l with
     | nil=>exact absurd rfl h1
     | cons=>simp
   · rw [zm9] at h2;exact of_decide_eq_true h2
theorem sign_13 {k:Nat} (h:k<13):zeu (([123,125,40,41,91,93,60,62,61,59,58,44,42]:List UInt8).getD k 0)=true:=by
 have:∀ k:_root_.Fin 13,zeu (([123,125,40,41,91,93,60,62,61,59,58,44,42]:List UInt8).getD k.val 0)=true:=by decide
 exact this ⟨k,h⟩
theorem zg1 (c:Int) (w:World):Calls Tryz.prog 76 #[.int .u8 c] w fun e w'=>e=.returned (.bool (ze2 c))∧w'=w:=by
 unfold ze2;cases h0:decide (97<=c) <;> cases h1:decide (c<=122) <;> cases h2:decide (65<=c) <;> cases h3:decide (c<=90)
 all_goals (
  go_enter Tryz.func76,Tryz.ntmps76
  go_wp2;go_ret;exact ⟨rfl,rfl⟩)
theorem zjh (c:Int) (w:World):Calls Tryz.prog 79 #[.int .u8 c] w fun e w'=>e=.returned (.bool (zg7 c))∧w'=w:=by
 unfold zg7;cases h0:decide (48<=c) <;> cases h1:decide (c<=57)
 all_goals (
  go_enter Tryz.func79,Tryz.ntmps79
  go_wp2;go_ret;exact ⟨rfl,rfl⟩)
theorem zmk (c:Int) (w:World):Calls Tryz.prog 120 #[.int .u8 c] w fun e w'=>e=.returned (.bool (runP c))∧w'=w:=by
 have H1:Hid (∀ w,Calls Tryz.prog 76 #[.int .u8 c] w fun e w'=>e=.returned (.bool (ze2 c))∧w'=w):=zg1 c;have H2:Hid (∀ w,Calls Tryz.prog 79 #[.int .u8 c] w fun e w'=>e=.returned (.bool (zg7 c))∧w'=w):=zjh c;unfold runP;generalize ze2 c=l at *;generalize zg7 c=d at *;cases l <;> cases d <;> cases h3:c==95
 all_goals (
  go_enter Tryz.func120,Tryz.ntmps120
  go_wp2_with (first|(go_at_call 76;refine (H1.out _).mono ?_;rintro e w' ⟨rfl,rfl⟩)|(go_at_call 79;refine (H2.out _).mono ?_;rintro e w' ⟨rfl,rfl⟩))
  go_ret;exact ⟨rfl,rfl⟩)
theorem znp (l:List UInt8) (at_:Nat) (w:World) (ha:at_<=l.length) (hl:(l.length:Int)<=9223372036854775807) :
 Calls Tryz.prog 77 #[S l,.int .i64 at_] w fun e w'=>e=.returned (.int .i64 (zas l at_:Nat))∧w'=w:=by
 obtain ⟨R,hR⟩:∃ R,zas l at_=R:=⟨_,rfl⟩;have HR:Hid (∀ k,k<=l.length->at_<=k->(∀ j,at_<=j->j<k->runB (l.getD j 0)=true)->(k=l.length∨runB (l.getD k 0)=false)->k=R):=fun k h1 h2 h3 h4=>by
  rw [<- hR];exact (takeWhile_to runB at_ k h1 h2 h3 h4).symm
 rw [hR];clear hR;go_enter Tryz.func77,Tryz.ntmps77
 go_wp2_with fail
 go_loop [1] (fun i=>∃ k:Nat,i=.int .i64 k∧at_<=k∧k<=l.length∧Hid (∀ j,at_<=j->j<k->runB (l.getD j 0)=true)) (fun i=>l.length - (intOf i).toNat)
 case atStart=>exact ⟨at_,rfl,Nat.le_refl _,ha,fun j h1 h2=>by omega⟩
 case round =>
  obtain ⟨k,rfl,hk0,hk,HJ⟩:=hrel;by_cases hlt:k<l.length
  · have hk' : (k:Int)<l.length:=(by omega);have hcs:({ data:=l.toArray } : ByteArray)[k]=l[k]:=rfl;have eg:l.getD k 0=l[k]:=(by simp [List.getD,hlt]);cases hv:runB l[k]
    · have HC:Hid (∀ w,Calls Tryz.prog 120 #[.int .u8 (l[k].toNat:Int)] w fun e w'=>e=.returned (.bool false)∧w'=w):=fun w=>by
       have:=zmk (l[k].toNat:Int) w;rw [show runP (l[k].toNat:Int)=false from hv] at this;exact this
      have HE:Hid (k=R):=HR.out k hk hk0 HJ.out (.inr (by rw [eg];exact hv));clear hv eg;(go_wp2_with fail);refine (HC.out _).mono ?_;rintro e w1 ⟨rfl,hw⟩;have hw1:=hw.symm;clear hw;subst hw1;go_wp2;go_ret;exact ⟨(show Ending.returned (.int .i64 (k:Int))=.returned (.int .i64 (R:Int)) by rw [HE.out]),rfl⟩
    · have HC:Hid (∀ w,Calls Tryz.prog 120 #[.int .u8 (l[k].toNat:Int)] w fun e w'=>e=.returned (.bool true)∧w'=w):=fun w=>by
       have:=zmk (l[k].toNat:Int) w;rw [show runP (l[k].toNat:Int)=true from hv] at this;exact this
      have Aa:Hid (∀ j,at_<=j->j<k+1->runB (l.getD j 0)=true):=fun j h1 h2=>by
       rcases Nat.lt_or_ge j k with h3|h3
       · exact HJ.out j h1 h3
       · obtain rfl:j=k:=(by omega);rw [eg];exact hv
      clear hv eg;(go_wp2_with fail);refine (HC.out _).mono ?_;rintro e w1 ⟨rfl,hw⟩;have hw1:=hw.symm;clear hw;subst hw1;go_wp2;go_round
      case rel=>exact ⟨k+1,by go_num,by omega,by omega,Aa.out⟩
      case measure=>simp [intOf];omega
  · obtain rfl:k=l.length:=(by omega);have HE:Hid (l.length=R):=HR.out l.length hk hk0 HJ.out (.inl rfl);go_wp2;go_ret;exact ⟨(show Ending.returned (.int .i64 (l.length:Int))=.returned (.int .i64 (R:Int)) by rw [HE.out]),rfl⟩
set_option maxRecDepth 10000 in
theorem rIsWord_no (l:List UInt8) (e0:Nat) (w:World) (hl:(l.length:Int)<=140737488355328) (H1:Hid (∀ w,Calls Tryz.prog 77 #[S l,.int .i64 0] w fun e w'=>e=.returned (.int .i64 (e0:Nat))∧w'=w)) (hq:l.isEmpty=true∨((e0:Int)==(l.length:Int))=false) :
 Calls Tryz.prog 78 #[S l] w fun e w'=>e=.returned (.bool false)∧w'=w:=by
 obtain ⟨W,hW⟩:∃ W:Bool,((e0:Int)==(l.length:Int))=W:=⟨_,rfl⟩;obtain ⟨E,hE⟩:∃ E:Bool,l.isEmpty=E:=⟨_,rfl⟩;rw [hW,hE] at hq;go_enter Tryz.func78,Tryz.ntmps78
 go_wp2_with (go_at_call 77;refine (H1.out _).mono ?_;rintro e w' ⟨rfl,rfl⟩)
 go_loop [5] (fun i=>i=.int .i64 0) (fun _=>0)
 case atStart=>exact rfl
 case round =>
  obtain rfl:=hrel;clear H1;have hq2:E=true∨(E=false∧W=false):=by
   rcases hq with h|h
   · exact .inl h
   · cases E
     · exact .inr ⟨rfl,h⟩
     · exact .inl rfl
  clear hq;rcases hq2 with rfl|⟨rfl,rfl⟩;all_goals (
   by_cases hlt:(l.length:Int)+2<=135
   · (go_wp2_with fail);go_ret;exact ⟨rfl,rfl⟩
   · have hlt'' : decide ((l.length:Int)+2<=135)=false:=decide_eq_false (by omega);(go_wp2_with fail);go_ret;exact ⟨rfl,rfl⟩)
set_option maxRecDepth 10000 in
theorem rIsWord_any (l:List UInt8) (w:World) (hl:(l.length:Int)<=140737488355328):Calls Tryz.prog 78 #[S l] w fun e w'=>e=.returned (.bool (za6 l))∧w'=w:=by
 have H1:Hid (∀ w,Calls Tryz.prog 77 #[S l,.int .i64 0] w fun e w'=>e=.returned (.int .i64 (zas l 0:Nat))∧w'=w):=fun w=>znp l 0 w (Nat.zero_le _) (by omega);have hre:=zgl (l:=l) (i:=0) (Nat.zero_le _);by_cases hw:0<l.length∧zas l 0=l.length
 · obtain ⟨h0,h1⟩:=hw;have hrun:∀ c∈l,runB c=true:=List.all_eq_true.1 (by rw [zm9,decide_eq_true h1]);rw [h1] at H1;have hne:l≠[]:=fun h=>by rw [h] at h0;simp at h0
   have hb:((l.length:Int)==(l.length:Int))=true:=by simp
   have hie:l.isEmpty=false:=by simpa using hne
   obtain ⟨R,hR⟩:∃ R,za6 l=R:=⟨_,rfl⟩;rw [hR];have HY:Hid (∀ k,k+(l.length+2)<=135->sub zdy k (k+(l.length+2))=32::(l++[32])->R=true):=fun k hk hs=>by
    rw [<- hR];exact List.contains_iff_mem.2 (words_only hrun hne hk hs)
   have HZ:Hid ((∀ k,k+(l.length+2)<=135->sub zdy k (k+(l.length+2))≠32::(l++[32]))->R=false):=fun h=>by
    rw [<- hR];cases hw:za6 l
    · rfl
    · obtain ⟨h3,h4,_,_⟩:=words_all l (List.contains_iff_mem.1 hw);exact absurd h3 (h _ h4)
   clear hre h1 hne hrun hR;go_enter Tryz.func78,Tryz.ntmps78
   go_wp2_with (go_at_call 77;refine (H1.out _).mono ?_;rintro e w' ⟨rfl,rfl⟩)
   go_loop [5] (fun i=>∃ k:Nat,i=.int .i64 k∧k<=135∧Hid (∀ j,j<k->j+(l.length+2)<=135->sub zdy j (j+(l.length+2))≠32::(l++[32]))) (fun i=>135 - (intOf i).toNat)
   case atStart=>exact ⟨0,rfl,by omega,fun j h2=>by omega⟩
   case round =>
    obtain ⟨k,rfl,hk,HJ⟩:=hrel;by_cases hlt:k+(l.length+2)<=135
    · have hlt' : (k:Int)+((l.length:Int)+2)<=135:=(by omega);have hsl:=fun w=>slice_words w k l.length hlt;obtain ⟨X,hX⟩:∃ X,sub zdy k (k+(l.length+2))=X:=⟨_,rfl⟩;rw [hX] at hsl;have HX:Hid (sub zdy k (k+(l.length+2))=X):=hX;clear hX;have hcat:(9223372036854775807<1+l.length)=False:=(by simp;omega);have hcat2:(9223372036854775807<1+l.length+1)=False:=(by simp;omega);cases hB:(X==(({ data:=#[32] } : ByteArray)++{ data:=l.toArray }++{ data:=#[32] }).toList)
      · have Aa:Hid (∀ j,j<k+1->j+(l.length+2)<=135->sub zdy j (j+(l.length+2))≠32::(l++[32])):=fun j h2 h3 h4=>by
         rcases Nat.lt_or_ge j k with h5|h5
         · exact HJ.out j h5 h3 h4
         · obtain rfl:j=k:=(by omega);rw [HX.out] at h4;rw [h4,cat_list] at hB;simp at hB
        (go_wp2_with fail);go_round
        case rel=>exact ⟨k+1,by go_num,by omega,Aa.out⟩
        case measure=>simp [intOf];omega
      · have HF:Hid (R=true):=HY.out k hlt (by rw [HX.out];rw [cat_list] at hB;simpa using hB);(go_wp2_with fail);go_ret;exact ⟨by rw [HF.out];rfl,rfl⟩
    · have HF:Hid (R=false):=HZ.out fun j hj hs=>by
       rcases Nat.lt_or_ge j k with h5|h5
       · exact HJ.out j h5 hj hs
       · omega
      have hlt' : decide ((k:Int)+((l.length:Int)+2)<=135)=false:=decide_eq_false (by omega);go_wp2;go_ret;exact ⟨by rw [HF.out];rfl,rfl⟩
 · rw [word_not hw];have hq:l.isEmpty=true∨((zas l 0:Int)==(l.length:Int))=false:=by
    by_cases h0:0<l.length
    · exact .inr (beq_eq_false_iff_ne.2 fun h=>hw ⟨h0,by omega⟩)
    · left;simp;exact List.length_eq_zero_iff.1 (by omega)
   exact rIsWord_no l (zas l 0) w hl H1 hq
def valR (c:UInt8) (base:Nat):Int:=if base<=digV c then -1 else (digV c:Int)
theorem zck (c:UInt8) (base:Nat) (hb:2<=base∧base<=16) (w:World):Calls Tryz.prog 152 #[.int .u8 (c.toNat:Int),.int .i64 base] w fun e w'=>e=.returned (.int .i64 (valR c base))∧w'=w:=by
 have hc:(c.toNat:Int)<256:=by have:=c.toNat_lt;omega
 obtain ⟨V,hV⟩:∃ V,digV c=V:=⟨_,rfl⟩;have HR:Hid (valR c base=if base<=V then -1 else (V:Int)):=by show _=_;unfold valR;rw [hV]
 rw [HR.out];clear HR;have hd:digB c=(decide (48<=(c.toNat:Int))&&decide ((c.toNat:Int)<=57)):=rfl;unfold digV at hV;generalize hn:(c.toNat:Int)=n at *;have hcases:(48<=n∧n<=57∧(V:Int)=n - 48)∨(decide (48<=n)=true∧decide (n<=57)=false∧97<=n∧n<=102∧(V:Int)=n - 97+10)∨(decide (48<=n)=true∧decide (n<=57)=false∧decide (97<=n)=false∧65<=n∧n<=70∧(V:Int)=n - 65+10) ∨
  (V=16∧(decide (48<=n)=false∨(decide (48<=n)=true∧decide (n<=57)=false))∧(decide (97<=n)=false∨(decide (97<=n)=true∧decide (n<=102)=false))∧(decide (65<=n)=false∨(decide (65<=n)=true∧decide (n<=70)=false))):=by
  cases hbb:digB c
  · rw [hbb] at hd hV;rw [if_neg (by decide)] at hV;have hnd:¬ (48<=n∧n<=57):=by
     intro h;rw [decide_eq_true h.1,decide_eq_true h.2] at hd;cases hd
    by_cases h1:97<=n∧n<=102
    · (right;left);refine ⟨decide_eq_true (by omega),decide_eq_false (by omega),h1.1,h1.2,?_⟩;rw [<- hV,if_pos (by omega)];omega
    · by_cases h2:65<=n∧n<=70
      · (right;right;left);refine ⟨decide_eq_true (by omega),decide_eq_false (by omega),decide_eq_false (by omega),h2.1,h2.2,?_⟩;rw [<- hV,if_neg (by omega),if_pos (by omega)];omega
      · (right;right;right);refine ⟨by rw [<- hV,if_neg (by omega),if_neg (by omega)],?_,?_,?_⟩
        · by_cases h:48<=n
          · exact .inr ⟨decide_eq_true h,decide_eq_false (by omega)⟩
          · exact .inl (decide_eq_false h)
        · by_cases h:97<=n
          · exact .inr ⟨decide_eq_true h,decide_eq_false (by omega)⟩
          · exact .inl (decide_eq_false h)
        · by_cases h:65<=n
          · exact .inr ⟨decide_eq_true h,decide_eq_false (by omega)⟩
          · exact .inl (decide_eq_false h)
  · rw [hbb] at hd hV;rw [if_pos rfl] at hV;have h2:48<=n∧n<=57:=(by have:=hd.symm;simpa using this);(left);exact ⟨h2.1,h2.2,by rw [<- hV];omega⟩
 clear hd hV;have hb1:(2:Int)<=base:=by omega
 have hb2:(base:Int)<=16:=by omega
 rcases hcases with ⟨h1,h2,h3⟩|⟨h0,h00,h1,h2,h3⟩|⟨h0,h00,h000,h1,h2,h3⟩|⟨h3,h4,h5,h6⟩
 · have HV:Hid ((V:Int)=n - 48):=h3;by_cases hv:base<=V
   · rw [if_pos hv];have hv' : (base:Int)<=n - 48:=(by omega);clear h3 hv hn;(go_enter Tryz.func152,Tryz.ntmps152);go_wp2;go_ret;exact ⟨rfl,rfl⟩
   · rw [if_neg hv];have hv' : n - 48<(base:Int):=(by omega);clear h3 hv hn;(go_enter Tryz.func152,Tryz.ntmps152);go_wp2;go_ret;exact ⟨zft HV.out.symm,rfl⟩
 · have HV:Hid ((V:Int)=n - 97+10):=h3;by_cases hv:base<=V
   · rw [if_pos hv];have hv' : (base:Int)<=n - 97+10:=(by omega);clear h3 hv hn;(go_enter Tryz.func152,Tryz.ntmps152);go_wp2;go_ret;exact ⟨rfl,rfl⟩
   · rw [if_neg hv];have hv' : n - 97+10<(base:Int):=(by omega);clear h3 hv hn;(go_enter Tryz.func152,Tryz.ntmps152);go_wp2;go_ret;exact ⟨zft HV.out.symm,rfl⟩
 · have HV:Hid ((V:Int)=n - 65+10):=h3;by_cases hv:base<=V
   · rw [if_pos hv];have hv' : (base:Int)<=n - 65+10:=(by omega);clear h3 hv hn;(go_enter Tryz.func152,Tryz.ntmps152);go_wp2;go_ret;exact ⟨rfl,rfl⟩
   · rw [if_neg hv];have hv' : n - 65+10<(base:Int):=(by omega);clear h3 hv hn;(go_enter Tryz.func152,Tryz.ntmps152);go_wp2;go_ret;exact ⟨zft HV.out.symm,rfl⟩
 · rw [if_pos (by omega)];clear h3 hn;rcases h4 with h4|⟨h4,h44⟩ <;> rcases h5 with h5|⟨h5,h55⟩ <;> rcases h6 with h6|⟨h6,h66⟩
   all_goals (
    (go_enter Tryz.func152,Tryz.ntmps152);go_wp2;go_ret;exact ⟨rfl,rfl⟩)
theorem rdigits_8 (ds:List UInt8) (hl:(ds.length:Int)<=9223372036854775807) (w:World) :
 Calls Tryz.prog 121 #[S ds,.int .i64 8] w fun e w'=>e=.returned (zbm (zb1 ds 8 4294967295))∧w'=w:=by
 obtain ⟨R,hR⟩:∃ R,zb1 ds 8 4294967295=R:=⟨_,rfl⟩;have Aa:Hid (ds.length=0->R=none):=fun h=>by rw [<- hR];unfold zb1;rw [if_pos (List.length_eq_zero_iff.1 h)]
 have Ab:Hid (0<ds.length->R=zcm 8 4294967295 0 ds):=fun h=>by rw [<- hR];unfold zb1;rw [if_neg (fun h2=>by rw [h2] at h;simp at h)]
 rw [hR];clear hR;go_enter Tryz.func121,Tryz.ntmps121
 go_wp2_with fail
 go_loop [6,7] (fun n i=>∃ k N:Nat,i=.int .i64 k∧n=.int .i64 N∧k<=ds.length∧(N:Int)<=4294967295∧Hid (ds.length=0->N=0)∧Hid (0<ds.length->R=zcm 8 4294967295 N (ds.drop k))) (fun _ i=>ds.length - (intOf i).toNat)
 case atStart=>exact ⟨0,0,rfl,rfl,by omega,by omega,fun _=>rfl,Ab.out⟩
 case round =>
  obtain ⟨k,N,rfl,rfl,hk,hN,HN,HK⟩:=hrel;by_cases hlt:k<ds.length
  · have hk' : (k:Int)<ds.length:=(by omega);have hcs:({ data:=ds.toArray } : ByteArray)[k]=ds[k]:=rfl;have hv:=zjl ds[k];have HD:Hid (∀ w,Calls Tryz.prog 152 #[.int .u8 (ds[k].toNat:Int),.int .i64 8] w fun e w'=>e=.returned (.int .i64 (valR ds[k] 8))∧w'=w):=fun w=>zck _ 8 (by omega) w;have hs0:=HK.out (by omega);rw [List.drop_eq_getElem_cons hlt,zcm] at hs0;have hval:valR ds[k] 8=if 8<=digV ds[k] then -1 else (digV ds[k]:Int):=rfl;rw [hval] at HD;clear hval;generalize digV ds[k]=V at *;have Hs:Hid (R=if 8<=V then none else if 4294967295<N*8+V then none else zcm 8 4294967295 (N*8+V) (ds.drop (k+1))):=hs0;clear hs0;(by_cases hV:V<8);rotate_left
    · have HA:Hid (R=none):=(by show _=_;rw [Hs.out,if_pos (by omega)]);rw [if_pos (by omega)] at HD;clear HK Hs HN;(go_wp2_with fail);refine (HD.out _).mono ?_;rintro e w1 ⟨rfl,rfl⟩;go_wp2;go_ret2
      exact ⟨by rw [HA.out];rfl,rfl⟩
    · have hV2:(V:Int)<8:=(by omega);rw [if_neg (by omega)] at HD;by_cases hB:4294967295<N*8+V
      · have HA:Hid (R=none):=(by show _=_;rw [Hs.out,if_neg (by omega),if_pos hB]);have hB2:(4294967295:Int)<N*8+V:=(by omega);clear HK Hs HN hB;(go_wp2_with fail);refine (HD.out _).mono ?_;rintro e w1 ⟨rfl,rfl⟩;go_wp2;go_ret2
        exact ⟨by rw [HA.out];rfl,rfl⟩
      · have HA:Hid (R=zcm 8 4294967295 (N*8+V) (ds.drop (k+1))):=(by show _=_;rw [Hs.out,if_neg (by omega),if_neg hB]);have hB2:(N:Int)*8+V<=4294967295:=(by omega);clear HK Hs hB;(go_wp2_with fail);refine (HD.out _).mono ?_;rintro e w1 ⟨rfl,rfl⟩;go_wp2;go_round
        case rel=>exact ⟨k+1,N*8+V,by go_num,by go_num,by omega,by omega,fun h=>by omega,fun _=>HA.out⟩
        case measure=>simp [intOf];omega
  · obtain rfl:k=ds.length:=(by omega);by_cases h0:ds.length=0
    · have HA:Hid (R=none):=Aa.out h0;have HZ:Hid (N=0):=HN.out h0;have h0' : ds.isEmpty=true:=(by simpa using List.length_eq_zero_iff.1 h0);clear HK;go_wp2;go_ret2
      exact ⟨by rw [HA.out];show Ending.returned (.tuple #[.int .i64 (N:Int),.bool false])=_;rw [HZ.out];rfl,rfl⟩
    · have HA:Hid (R=some N):=by
       have:=HK.out (by omega);rw [List.drop_length,zcm] at this;exact this
      have h0' : ds.isEmpty=false:=(by simpa using (fun h:ds=[]=>h0 (by rw [h];rfl)));clear HK;go_wp2;go_ret2
      exact ⟨by rw [HA.out];rfl,rfl⟩
theorem zmx (ds:List UInt8) (hl:(ds.length:Int)<=9223372036854775807) (w:World) :
 Calls Tryz.prog 121 #[S ds,.int .i64 10] w fun e w'=>e=.returned (zbm (zb1 ds 10 4294967295))∧w'=w:=by
 obtain ⟨R,hR⟩:∃ R,zb1 ds 10 4294967295=R:=⟨_,rfl⟩;have Aa:Hid (ds.length=0->R=none):=fun h=>by rw [<- hR];unfold zb1;rw [if_pos (List.length_eq_zero_iff.1 h)]
 have Ab:Hid (0<ds.length->R=zcm 10 4294967295 0 ds):=fun h=>by rw [<- hR];unfold zb1;rw [if_neg (fun h2=>by rw [h2] at h;simp at h)]
 rw [hR];clear hR;go_enter Tryz.func121,Tryz.ntmps121
 go_wp2_with fail
 go_loop [6,7] (fun n i=>∃ k N:Nat,i=.int .i64 k∧n=.int .i64 N∧k<=ds.length∧(N:Int)<=4294967295∧Hid (ds.length=0->N=0)∧Hid (0<ds.length->R=zcm 10 4294967295 N (ds.drop k))) (fun _ i=>ds.length - (intOf i).toNat)
 case atStart=>exact ⟨0,0,rfl,rfl,by omega,by omega,fun _=>rfl,Ab.out⟩
 case round =>
  obtain ⟨k,N,rfl,rfl,hk,hN,HN,HK⟩:=hrel;by_cases hlt:k<ds.length
  · have hk' : (k:Int)<ds.length:=(by omega);have hcs:({ data:=ds.toArray } : ByteArray)[k]=ds[k]:=rfl;have hv:=zjl ds[k];have HD:Hid (∀ w,Calls Tryz.prog 152 #[.int .u8 (ds[k].toNat:Int),.int .i64 10] w fun e w'=>e=.returned (.int .i64 (valR ds[k] 10))∧w'=w):=fun w=>zck _ 10 (by omega) w;have hs0:=HK.out (by omega);rw [List.drop_eq_getElem_cons hlt,zcm] at hs0;have hval:valR ds[k] 10=if 10<=digV ds[k] then -1 else (digV ds[k]:Int):=rfl;rw [hval] at HD;clear hval;generalize digV ds[k]=V at *;have Hs:Hid (R=if 10<=V then none else if 4294967295<N*10+V then none else zcm 10 4294967295 (N*10+V) (ds.drop (k+1))):=hs0;clear hs0;(by_cases hV:V<10);rotate_left
    · have HA:Hid (R=none):=(by show _=_;rw [Hs.out,if_pos (by omega)]);rw [if_pos (by omega)] at HD;clear HK Hs HN;(go_wp2_with fail);refine (HD.out _).mono ?_;rintro e w1 ⟨rfl,rfl⟩;go_wp2;go_ret2
      exact ⟨by rw [HA.out];rfl,rfl⟩
    · have hV2:(V:Int)<10:=(by omega);rw [if_neg (by omega)] at HD;by_cases hB:4294967295<N*10+V
      · have HA:Hid (R=none):=(by show _=_;rw [Hs.out,if_neg (by omega),if_pos hB]);have hB2:(4294967295:Int)<N*10+V:=(by omega);clear HK Hs HN hB;(go_wp2_with fail);refine (HD.out _).mono ?_;rintro e w1 ⟨rfl,rfl⟩;go_wp2;go_ret2
        exact ⟨by rw [HA.out];rfl,rfl⟩
      · have HA:Hid (R=zcm 10 4294967295 (N*10+V) (ds.drop (k+1))):=(by show _=_;rw [Hs.out,if_neg (by omega),if_neg hB]);have hB2:(N:Int)*10+V<=4294967295:=(by omega);clear HK Hs hB;(go_wp2_with fail);refine (HD.out _).mono ?_;rintro e w1 ⟨rfl,rfl⟩;go_wp2;go_round
        case rel=>exact ⟨k+1,N*10+V,by go_num,by go_num,by omega,by omega,fun h=>by omega,fun _=>HA.out⟩
        case measure=>simp [intOf];omega
  · obtain rfl:k=ds.length:=(by omega);by_cases h0:ds.length=0
    · have HA:Hid (R=none):=Aa.out h0;have HZ:Hid (N=0):=HN.out h0;have h0' : ds.isEmpty=true:=(by simpa using List.length_eq_zero_iff.1 h0);clear HK;go_wp2;go_ret2
      exact ⟨by rw [HA.out];show Ending.returned (.tuple #[.int .i64 (N:Int),.bool false])=_;rw [HZ.out];rfl,rfl⟩
    · have HA:Hid (R=some N):=by
       have:=HK.out (by omega);rw [List.drop_length,zcm] at this;exact this
      have h0' : ds.isEmpty=false:=(by simpa using (fun h:ds=[]=>h0 (by rw [h];rfl)));clear HK;go_wp2;go_ret2
      exact ⟨by rw [HA.out];rfl,rfl⟩
theorem rdigits_16 (ds:List UInt8) (hl:(ds.length:Int)<=9223372036854775807) (w:World) :
 Calls Tryz.prog 121 #[S ds,.int .i64 16] w fun e w'=>e=.returned (zbm (zb1 ds 16 4294967295))∧w'=w:=by
 obtain ⟨R,hR⟩:∃ R,zb1 ds 16 4294967295=R:=⟨_,rfl⟩;have Aa:Hid (ds.length=0->R=none):=fun h=>by rw [<- hR];unfold zb1;rw [if_pos (List.length_eq_zero_iff.1 h)]
 have Ab:Hid (0<ds.length->R=zcm 16 4294967295 0 ds):=fun h=>by rw [<- hR];unfold zb1;rw [if_neg (fun h2=>by rw [h2] at h;simp at h)]
 rw [hR];clear hR;go_enter Tryz.func121,Tryz.ntmps121
 go_wp2_with fail
 go_loop [6,7] (fun n i=>∃ k N:Nat,i=.int .i64 k∧n=.int .i64 N∧k<=ds.length∧(N:Int)<=4294967295∧Hid (ds.length=0->N=0)∧Hid (0<ds.length->R=zcm 16 4294967295 N (ds.drop k))) (fun _ i=>ds.length - (intOf i).toNat)
 case atStart=>exact ⟨0,0,rfl,rfl,by omega,by omega,fun _=>rfl,Ab.out⟩
 case round =>
  obtain ⟨k,N,rfl,rfl,hk,hN,HN,HK⟩:=hrel;by_cases hlt:k<ds.length
  · have hk' : (k:Int)<ds.length:=(by omega);have hcs:({ data:=ds.toArray } : ByteArray)[k]=ds[k]:=rfl;have hv:=zjl ds[k];have HD:Hid (∀ w,Calls Tryz.prog 152 #[.int .u8 (ds[k].toNat:Int),.int .i64 16] w fun e w'=>e=.returned (.int .i64 (valR ds[k] 16))∧w'=w):=fun w=>zck _ 16 (by omega) w;have hs0:=HK.out (by omega);rw [List.drop_eq_getElem_cons hlt,zcm] at hs0;have hval:valR ds[k] 16=if 16<=digV ds[k] then -1 else (digV ds[k]:Int):=rfl;rw [hval] at HD;clear hval;generalize digV ds[k]=V at *;have Hs:Hid (R=if 16<=V then none else if 4294967295<N*16+V then none else zcm 16 4294967295 (N*16+V) (ds.drop (k+1))):=hs0;clear hs0;(by_cases hV:V<16);rotate_left
    · have HA:Hid (R=none):=(by show _=_;rw [Hs.out,if_pos (by omega)]);rw [if_pos (by omega)] at HD;clear HK Hs HN;(go_wp2_with fail);refine (HD.out _).mono ?_;rintro e w1 ⟨rfl,rfl⟩;go_wp2;go_ret2
      exact ⟨by rw [HA.out];rfl,rfl⟩
    · have hV2:(V:Int)<16:=(by omega);rw [if_neg (by omega)] at HD;by_cases hB:4294967295<N*16+V
      · have HA:Hid (R=none):=(by show _=_;rw [Hs.out,if_neg (by omega),if_pos hB]);have hB2:(4294967295:Int)<N*16+V:=(by omega);clear HK Hs HN hB;(go_wp2_with fail);refine (HD.out _).mono ?_;rintro e w1 ⟨rfl,rfl⟩;go_wp2;go_ret2
        exact ⟨by rw [HA.out];rfl,rfl⟩
      · have HA:Hid (R=zcm 16 4294967295 (N*16+V) (ds.drop (k+1))):=(by show _=_;rw [Hs.out,if_neg (by omega),if_neg hB]);have hB2:(N:Int)*16+V<=4294967295:=(by omega);clear HK Hs hB;(go_wp2_with fail);refine (HD.out _).mono ?_;rintro e w1 ⟨rfl,rfl⟩;go_wp2;go_round
        case rel=>exact ⟨k+1,N*16+V,by go_num,by go_num,by omega,by omega,fun h=>by omega,fun _=>HA.out⟩
        case measure=>simp [intOf];omega
  · obtain rfl:k=ds.length:=(by omega);by_cases h0:ds.length=0
    · have HA:Hid (R=none):=Aa.out h0;have HZ:Hid (N=0):=HN.out h0;have h0' : ds.isEmpty=true:=(by simpa using List.length_eq_zero_iff.1 h0);clear HK;go_wp2;go_ret2
      exact ⟨by rw [HA.out];show Ending.returned (.tuple #[.int .i64 (N:Int),.bool false])=_;rw [HZ.out];rfl,rfl⟩
    · have HA:Hid (R=some N):=by
       have:=HK.out (by omega);rw [List.drop_length,zcm] at this;exact this
      have h0' : ds.isEmpty=false:=(by simpa using (fun h:ds=[]=>h0 (by rw [h];rfl)));clear HK;go_wp2;go_ret2
      exact ⟨by rw [HA.out];rfl,rfl⟩
def zhl (o:Option Int) (w:World) (e:Ending) (w' : World):Prop :=
 w'=w∧match o with|some n=>e=.returned (.tuple #[.int .i64 n,.bool true])|none=>∃ m:Int,e=.returned (.tuple #[.int .i64 m,.bool false])
theorem zdk {w:World} {m:Int} : zhl none w (.returned (.tuple #[.int .i64 m,.bool false])) w:=⟨rfl,m,rfl⟩
theorem zd1 {w:World} {m n:Int} (h:m=n):zhl (some n) w (.returned (.tuple #[.int .i64 m,.bool true])) w:=⟨rfl,by rw [h]⟩
theorem znr (r:List UInt8) (h0:0<r.length) (hl:(r.length:Int)<=9223372036854775807) (w:World):Calls Tryz.prog 80 #[S r,.bool true] w (zhl (numR r true) w):=by
 have H1:Hid (∀ w,Calls Tryz.prog 121 #[S r,.int .i64 10] w fun e w'=>e=.returned (zbm (zb1 r 10 4294967295))∧w'=w):=fun w=>zmx r hl w;have hn:numR r true=(zb1 r 10 4294967295).bind fun n=>if r.getD 0 0≠48∧n<=2147483648 then some (-(n:Int)) else none:=by unfold numR;rw [if_pos rfl]
 have hB:∀ n,zb1 r 10 4294967295=some n->n<=4294967295:=fun n hn=>by
  unfold zb1 at hn;split at hn
  · cases hn
  · exact znu _ _ _ _ _ (by omega) hn
 rw [hn];clear hn;have h0' : (0:Int)<r.length:=by omega
 have hcs:({ data:=r.toArray } : ByteArray)[0]'h0=r.getD 0 0:=(getD_lt h0).symm;have hbe:=zel (r.getD 0 0) 48;generalize r.getD 0 0=c at *;cases hrv:zb1 r 10 4294967295 with
 | none =>
  rw [hrv] at H1;clear hB hrv hbe;go_enter Tryz.func80,Tryz.ntmps80
  go_wp2_with fail
  refine (H1.out _).mono ?_;rintro e w1 ⟨rfl,rfl⟩;simp only [zbm];go_wp2;go_ret2
  exact zdk
 | some n =>
  have hn1:=hB n hrv;rw [hrv] at H1;clear hB hrv;have hn2:(n:Int)<=4294967295:=by omega
  show Calls Tryz.prog 80 #[S r,.bool true] w (zhl (if c≠48∧n<=2147483648 then some (-(n:Int)) else none) w);by_cases h48:c=48
  · rw [if_neg (fun h=>h.1 h48)];subst h48;clear hbe;(go_enter Tryz.func80,Tryz.ntmps80);(go_wp2_with fail);refine (H1.out _).mono ?_;rintro e w1 ⟨rfl,rfl⟩;simp only [zbm];go_wp2;go_ret2
    exact zdk
  · have hb:((c.toNat:Int)==48)=false:=hbe.trans (by simpa using h48);have hb2:¬ (c.toNat:Int)=48:=(by simpa using hb);have Aa:Hid (((c.toNat:Int) != 48)=true):=(by show _=_;simpa using hb2);by_cases hle:n<=2147483648
    · rw [if_pos ⟨h48,hle⟩];have hle' : (n:Int)<=2147483648:=(by omega);clear hbe h48;(go_enter Tryz.func80,Tryz.ntmps80);(go_wp2_with fail);refine (H1.out _).mono ?_;rintro e w1 ⟨rfl,rfl⟩;simp only [zbm];go_wp2;go_ret2
      exact (show zhl (some (-(n:Int))) w1 (.returned (.tuple #[.int .i64 (-(n:Int)),.bool ((c.toNat:Int) != 48)])) w1 from by rw [Aa.out];exact zd1 rfl)
    · rw [if_neg (fun h=>hle h.2)];have hle' : decide ((n:Int)<=2147483648)=false:=decide_eq_false (by omega);clear hbe h48;(go_enter Tryz.func80,Tryz.ntmps80);(go_wp2_with fail);refine (H1.out _).mono ?_;rintro e w1 ⟨rfl,rfl⟩;simp only [zbm];go_wp2;go_ret2
      exact zdk
theorem znq (r:List UInt8) (h0:0<r.length) (hl:(r.length:Int)<=9223372036854775807) (w:World):Calls Tryz.prog 80 #[S r,.bool false] w (zhl (numR r false) w):=by
 have H10:Hid (∀ w,Calls Tryz.prog 121 #[S r,.int .i64 10] w fun e w'=>e=.returned (zbm (zb1 r 10 4294967295))∧w'=w):=fun w=>zmx r hl w;have H8:Hid (∀ w,Calls Tryz.prog 121 #[.string ((⟨r.toArray⟩:ByteArray).extract 1 r.length),.int .i64 8] w fun e w'=>e=.returned (zbm (zb1 (r.drop 1) 8 4294967295))∧w'=w):=fun w=>by
  rw [zna];exact rdigits_8 (r.drop 1) (by simp;omega) w
 have H16:Hid (∀ w,Calls Tryz.prog 121 #[.string ((⟨r.toArray⟩:ByteArray).extract 2 r.length),.int .i64 16] w fun e w'=>e=.returned (zbm (zb1 (r.drop 2) 16 4294967295))∧w'=w):=fun w=>by
  rw [zna];exact rdigits_16 (r.drop 2) (by simp;omega) w
 have h0' : (0:Int)<r.length:=by omega
 have hcs:({ data:=r.toArray } : ByteArray)[0]'h0=r.getD 0 0:=(getD_lt h0).symm;have hbe:=zel (r.getD 0 0) 48;unfold numR;rw [if_neg (by decide)];by_cases h1:r=[48]
 · subst h1;rw [if_pos rfl];clear H10 H8 H16 hbe hcs;go_enter Tryz.func80,Tryz.ntmps80
   go_wp2;go_ret2
   exact zd1 rfl
 rw [if_neg h1];generalize r.getD 0 0=c at *;have hb1:(r==[48])=false:=by simpa using h1
 have hex:((⟨r.toArray⟩:ByteArray).extract 0 2).toList=r.take 2:=by rw [zhk,ByteArray.toList_eq];simp
 by_cases hx:2<r.length∧r.take 2=[48,120]
 · rw [if_pos hx];have hx1:(2:Int)<r.length:=by omega
   have hx2:(((⟨r.toArray⟩:ByteArray).extract 0 2).toList==[48,120])=true:=by rw [hex,hx.2];rfl
   clear hx hbe h1 hex;cases hv:zb1 (r.drop 2) 16 4294967295 with
   | none =>
    rw [hv] at H16;(go_enter Tryz.func80,Tryz.ntmps80);(go_wp2_with fail);refine (H16.out _).mono ?_;rintro e w1 ⟨rfl,rfl⟩;simp only [zbm];go_wp2;go_ret2
    exact zdk
   | some n =>
    rw [hv] at H16;(go_enter Tryz.func80,Tryz.ntmps80);(go_wp2_with fail);refine (H16.out _).mono ?_;rintro e w1 ⟨rfl,rfl⟩;simp only [zbm];go_wp2;go_ret2
    exact zd1 rfl
 · rw [if_neg hx];have hx2:decide ((2:Int)<r.length)=false∨((2:Int)<r.length∧(((⟨r.toArray⟩:ByteArray).extract 0 2).toList==[48,120])=false):=by
    by_cases h2:2<r.length
    · (right);refine ⟨by omega,?_⟩;rw [hex];simpa using fun h=>hx ⟨h2,h⟩
    · exact .inl (decide_eq_false (by omega))
   clear hx h1 hex;by_cases h48:c=48
   · rw [if_pos h48];have h2:(1:Int)<=r.length:=(by omega);have hb:((c.toNat:Int)==48)=true:=(by rw [h48];rfl);clear hbe h48;rcases hx2 with hx2|⟨hx1,hx2⟩
     · cases hv:zb1 (r.drop 1) 8 4294967295 with
       | none =>
        rw [hv] at H8;(go_enter Tryz.func80,Tryz.ntmps80);(go_wp2_with fail);refine (H8.out _).mono ?_;rintro e w1 ⟨rfl,rfl⟩;simp only [zbm];go_wp2;go_ret2
        exact zdk
       | some n =>
        rw [hv] at H8;(go_enter Tryz.func80,Tryz.ntmps80);(go_wp2_with fail);refine (H8.out _).mono ?_;rintro e w1 ⟨rfl,rfl⟩;simp only [zbm];go_wp2;go_ret2
        exact zd1 rfl
     · cases hv:zb1 (r.drop 1) 8 4294967295 with
       | none =>
        rw [hv] at H8;(go_enter Tryz.func80,Tryz.ntmps80);(go_wp2_with fail);refine (H8.out _).mono ?_;rintro e w1 ⟨rfl,rfl⟩;simp only [zbm];go_wp2;go_ret2
        exact zdk
       | some n =>
        rw [hv] at H8;(go_enter Tryz.func80,Tryz.ntmps80);(go_wp2_with fail);refine (H8.out _).mono ?_;rintro e w1 ⟨rfl,rfl⟩;simp only [zbm];go_wp2;go_ret2
        exact zd1 rfl
   · rw [if_neg h48];have hb:((c.toNat:Int)==48)=false:=hbe.trans (by simpa using h48);clear hbe h48;rcases hx2 with hx2|⟨hx1,hx2⟩
     · cases hv:zb1 r 10 4294967295 with
       | none =>
        rw [hv] at H10;(go_enter Tryz.func80,Tryz.ntmps80);(go_wp2_with fail);refine (H10.out _).mono ?_;rintro e w1 ⟨rfl,rfl⟩;simp only [zbm];go_wp2;go_ret2
        exact zdk
       | some n =>
        rw [hv] at H10;(go_enter Tryz.func80,Tryz.ntmps80);(go_wp2_with fail);refine (H10.out _).mono ?_;rintro e w1 ⟨rfl,rfl⟩;simp only [zbm];go_wp2;go_ret2
        exact zd1 rfl
     · cases hv:zb1 r 10 4294967295 with
       | none =>
        rw [hv] at H10;(go_enter Tryz.func80,Tryz.ntmps80);(go_wp2_with fail);refine (H10.out _).mono ?_;rintro e w1 ⟨rfl,rfl⟩;simp only [zbm];go_wp2;go_ret2
        exact zdk
       | some n =>
        rw [hv] at H10;(go_enter Tryz.func80,Tryz.ntmps80);(go_wp2_with fail);refine (H10.out _).mono ?_;rintro e w1 ⟨rfl,rfl⟩;simp only [zbm];go_wp2;go_ret2
        exact zd1 rfl
theorem index_sign (w:World) (d:Nat) (h:d<13) :
 (Instr.index 9 (.string ⟨#[123,125,40,41,91,93,60,62,61,59,58,44,42]⟩) (.int .i64 d)).run Tryz.prog w=.ok (.int .u8 ((zj8.getD d 0).toNat:Int)) w:=by
 rw [run_index_string w 9 _ .i64 (d:Int) Tryz.underlying9];have hs:(⟨#[123,125,40,41,91,93,60,62,61,59,58,44,42]⟩:ByteArray).size=13:=rfl;rw [dif_pos ⟨by omega,by rw [hs];omega⟩];have e:∀ d:_root_.Fin 13,((⟨#[123,125,40,41,91,93,60,62,61,59,58,44,42]⟩:ByteArray)[d.val]'(show d.val<13 from d.isLt))=zj8.getD d.val 0:=by decide
 have:=e ⟨d,h⟩;simp only [Int.toNat_natCast];rw [this]
theorem rsign_any (c:UInt8) (w:World):Calls Tryz.prog 81 #[.int .u8 (c.toNat:Int)] w fun e w'=>e=.returned (.bool (zeu c))∧w'=w:=by
 obtain ⟨R,hR⟩:∃ R,zeu c=R:=⟨_,rfl⟩;rw [hR];have HY:Hid (∀ k,k<13->zj8.getD k 0=c->R=true):=fun k hk h=>by
  rw [<- hR,<- h];exact sign_13 hk
 have HZ:Hid ((∀ k,k<13->zj8.getD k 0≠c)->R=false):=fun h=>by
  rw [<- hR];cases hs:zeu c
  · rfl
  · have hm:c∈zj8:=List.contains_iff_mem.1 hs;obtain ⟨j,hj,e⟩:=List.getElem_of_mem hm;exact absurd (by rw [getD_lt hj];exact e) (h j hj)
 clear hR;go_enter Tryz.func81,Tryz.ntmps81
 go_wp2_with fail
 go_loop [3] (fun i=>∃ k:Nat,i=.int .i64 k∧k<=13∧Hid (∀ j,j<k->zj8.getD j 0≠c)) (fun i=>13 - (intOf i).toNat)
 case atStart=>exact ⟨0,rfl,by omega,fun j h=>by omega⟩
 case round =>
  obtain ⟨k,rfl,hk,HJ⟩:=hrel;by_cases hlt:k<13
  · have hk' : (k:Int)<13:=(by omega);have hix:=fun w=>index_sign w k hlt;have hbe:=zel (zj8.getD k 0) c;by_cases he:zj8.getD k 0=c
    · have HF:Hid (R=true):=HY.out k hlt he;rw [he] at hix;clear hbe he;generalize (c.toNat:Int)=n at *;go_wp2;go_ret;exact ⟨by rw [HF.out];rfl,rfl⟩
    · have hb:(((zj8.getD k 0).toNat:Int)==(c.toNat:Int))=false:=hbe.trans (by simpa using he);have Aa:Hid (∀ j,j<k+1->zj8.getD j 0≠c):=fun j h=>by
       rcases Nat.lt_or_ge j k with h3|h3
       · exact HJ.out j h3
       · obtain rfl:j=k:=(by omega);exact he
      clear hbe he;generalize (c.toNat:Int)=n at *;generalize ((zj8.getD k 0).toNat:Int)=m at *;go_wp2;go_round
      case rel=>exact ⟨k+1,by go_num,by omega,Aa.out⟩
      case measure=>simp [intOf];omega
  · obtain rfl:k=13:=(by omega);have HF:Hid (R=false):=HZ.out HJ.out;go_wp2;go_ret;exact ⟨by rw [HF.out];rfl,rfl⟩
def cendV (l:List UInt8) (i:Nat):Nat:=(cend l (i+2)).getD 0
theorem rcomment_any (l:List UInt8) (i:Nat) (hi:i+2<=l.length) (hl:(l.length:Int)<=1000000) (w:World):Calls Tryz.prog 42 #[S l,.int .i64 i] w fun e w'=>e=.returned (.int .i64 (cendV l i:Nat))∧w'=w:=by
 obtain ⟨R,hR⟩:∃ R,cendV l i=R:=⟨_,rfl⟩;rw [hR];have HR:Hid ((cend l (i+2)).getD 0=R):=hR;clear hR;have hi' : (i:Int)+2<=l.length:=by omega
 go_enter Tryz.func42,Tryz.ntmps42
 go_wp2_with fail
 go_loop [5] (fun j=>∃ k:Nat,j=.int .i64 k∧i+2<=k∧k<=l.length∧Hid ((cend l k).getD 0=R)) (fun j=>l.length - (intOf j).toNat)
 case atStart=>exact ⟨i+2,by go_num,by omega,by omega,HR.out⟩
 case round =>
  obtain ⟨k,rfl,hk1,hk2,HK⟩:=hrel;by_cases hlt:k+1<l.length
  · have hk' : (k:Int)+1<l.length:=(by omega);have hkk:(k:Int)<l.length:=(by omega);have hc1:({ data:=l.toArray } : ByteArray)[k]'(show k<l.length by omega)=l.getD k 0:=(getD_lt _).symm;have hc2:({ data:=l.toArray } : ByteArray)[k+1]'hlt=l.getD (k+1) 0:=(getD_lt hlt).symm;have hb1:=zel (l.getD k 0) 42;have hb2:=zel (l.getD (k+1) 0) 47;by_cases h1:l.getD k 0=42
    · by_cases h2:l.getD (k+1) 0=47
      · have HF:Hid (k+2=R):=by
         have:=HK.out;rw [zlt h1 h2] at this;exact this
        rw [h1] at hc1;rw [h2] at hc2;clear h1 h2 hb1 hb2 HK;go_wp2;go_ret;exact ⟨zft (by rw [<- HF.out];omega),rfl⟩
      · have Aa:Hid ((cend l (k+1)).getD 0=R):=by
         have:=HK.out;rw [zfx (fun h=>h2 h.2)] at this;exact this
        have hq:(((l.getD (k+1) 0).toNat:Int)==47)=false:=hb2.trans (by simpa using h2);rw [h1] at hc1;clear h1 h2 hb1 hb2 HK;generalize l.getD (k+1) 0=d at *;go_wp2;go_round
        case rel=>exact ⟨k+1,by go_num,by omega,by omega,Aa.out⟩
        case measure=>simp [intOf];omega
    · have Aa:Hid ((cend l (k+1)).getD 0=R):=by
       have:=HK.out;rw [zfx (fun h=>h1 h.1)] at this;exact this
      have hq:(((l.getD k 0).toNat:Int)==42)=false:=hb1.trans (by simpa using h1);clear h1 hb1 hb2 HK hc2;generalize l.getD k 0=d at *;go_wp2;go_round
      case rel=>exact ⟨k+1,by go_num,by omega,by omega,Aa.out⟩
      case measure=>simp [intOf];omega
  · have HF:Hid (0=R):=by
     have:=HK.out;rw [zeq (by omega)] at this;exact this
    have hk' : decide ((k:Int)+1<l.length)=false:=decide_eq_false (by omega);have hk3:decide (k+1<l.length)=false:=decide_eq_false (by omega);clear HK;go_wp2;go_ret;exact ⟨zft (by rw [<- HF.out];rfl),rfl⟩
end Go.Proofs.YtighggeokiahfaaGreatDoor.Lx
