import Derived.Test.YtighggeokiahfaaGreatDoorPrs14
import Derived.Test.YtighggeokiahfaaGreatDoorPrs12
set_option maxRecDepth 4000
set_option maxHeartbeats 20000000
namespace Go.Proofs.YtighggeokiahfaaGreatDoor.Dm
open Go.RowKit
theorem bld034x (k a:Int) (o:Option Addr) (n c:Nat) (w:World):(Instr.build 29 #[(0,.int .i64 k),(3,.int .i64 a),(4,.slice o n c)]).run Tryz.prog w=.ok (.agg #[.int .i64 k,.string ⟨#[]⟩,.int .i64 0,.int .i64 a,.slice o n c]) w:=by kernel_rfl
theorem zhs (p g cap:Nat) (ts:List Tok) (hE:Ends ts) (d:Int) (B:RS->Tree × RS) (hDn:Down B) (hDc:DDecl p g cap ts d B) (hA:zgc p g cap ts d 124 (armD B)):zl7 p g cap ts d 84 (zgh B):=by
 intro s w h;have Df:=hid hDc;have Ez:=hid hDn;have Fa:=hid hA;clear hDc hDn hA;have Af:Hid (p<w.heap.size∧g<w.heap.size):=⟨h.plt,h.glt⟩;obtain ⟨R,hR⟩:∃ R,zgh B s=R:=⟨_,rfl⟩;rw [hR];have HR:=hid (hR.symm);have HD:=hid h;have HS:Hid (Sole p w w):=Sole.refl _ _;clear h hR;go_enter Tryz.func84,Tryz.ntmps84
 go_wp2_with fail
 refine (zak p g cap ts hE d [115,119,105,116,99,104] (by simp) s _ HD.out).mono ?_;rintro e w1 ⟨rfl,hD,hS⟩;have Fb:=hid hS;have Fc:=hid hD;have Fd:=hid (HS.out.trans Fb.out);clear hD hS;go_wp2_with fail
 refine (zak p g cap ts hE d [40] (by simp) _ _ Fc.out).mono ?_;rintro e w2 ⟨rfl,hD,hS⟩;have Fe:=hid hS;have Ff:=hid hD;have Es:=hid (Fd.out.trans Fe.out);clear hD hS;go_wp2_with fail
 have Fg:=hid (Sole.size Es.out);refine (Df.out true _ _ Ff.out).mono ?_;rintro e w3 ⟨v,rfl,hv,hD,hS⟩;have Et:=hid hS;have Dg:=hid hD;have Fh:=hid (Es.out.trans Et.out);obtain ⟨k3,n3,m3,a3,ks3,o3,l3,c3,he3,rfl⟩:=zam hv;have Da:=hid he3;clear he3;have Dh:=hid hv;clear hv hD hS;obtain ⟨dv,hdv⟩:∃ x,zce B true ((s.want [115,119,105,116,99,104]).want [40])=x:=⟨_,rfl⟩;have Db:Hid (R=zgm B (zf1 B (((dv.2.want [41]).want [123]).n+1) [dv.1] ((dv.2.want [41]).want [123])).1 (zf1 B (((dv.2.want [41]).want [123]).n+1) [dv.1] ((dv.2.want [41]).want [123])).2):=by
  show _=_;rw [HR.out,<- hdv];rfl
 rw [hdv] at Dg Da Dh;clear hdv;obtain ⟨wq,hwq⟩:∃ x,w3.alloc (.cells #[.int .i64 k3,.string ⟨n3.toArray⟩,.int .i64 m3,.int .i64 a3,.slice o3 l3 c3] 29)=x:=⟨_,rfl⟩;have Di:Hid (Below w3.heap.size w3 wq):=hidB hwq;have Fi:=hid (Dg.out.below Di.out);have Fj:=hid (Fh.out.trans (Sole.of_below Di.out));have Fk:Hid (ListAt (zaf w.heap.size) wq [.node k3 n3 m3 a3 ks3] (.slice (some ⟨w3.heap.size,0,none⟩) 1 1)):=by
  have h1:=Fg.out;have h2:=Et.out.size;have h4:treeIs w2.heap.size (.node k3 n3 m3 a3 ks3) w3 (kidV k3 n3 m3 a3 (.slice o3 l3 c3)):=by rw [<- Da.out];exact Dh.out
  refine zbd (ks:=[.node k3 n3 m3 a3 ks3]) (q:=w3.heap.size) (by rw [<- hwq];exact heap_alloc_new _ _) (by simp) (by unfold zaf;omega) (zay ((TreeAt.below (TreeAt.there _ _ h4) Di.out).weaken (fun b hb=>?_)));have hb1:w2.heap.size<=b:=hb.1;exact ⟨by unfold zaf;omega,Nat.ne_of_lt hb.2⟩
 rw [Da.out] at Db;unfold kidV;go_wp2_with fail
 clear hwq;refine (zak p g cap ts hE d [41] (by simp) _ _ Fi.out).mono ?_;rintro e w21 ⟨rfl,hD,hS⟩;have Bz:=hid hS;have Dj:=hid hD;have Dk:=hid (Fj.out.trans Bz.out);have Bl:=hid (ListAt.sole Fk.out (by intro b hb;have hpg:=Af.out.1;have hb2:=hb;first | (unfold zaf at hb2;omega) | exact (Al.out b hb)) Bz.out);clear hD hS;go_wp2_with fail
 refine (zak p g cap ts hE d [123] (by simp) _ _ Dj.out).mono ?_;rintro e w22 ⟨rfl,hD,hS⟩;have Ca:=hid hS;have Ax:=hid hD;have Dl:=hid (Dk.out.trans Ca.out);have Ag:=hid (ListAt.sole Bl.out (by intro b hb;have hpg:=Af.out.1;have hb2:=hb;first | (unfold zaf at hb2;omega) | exact (Al.out b hb)) Ca.out);clear hD hS;obtain ⟨s1,hs1⟩:∃ x,(dv.2.want [41]).want [123]=x:=⟨_,rfl⟩;rw [hs1] at Ax Db;clear hs1;have Bm:=hid (ds_n Ax.out);go_wp2_with fail
 go_loopw [3] (fun sl wr=>∃ (acc:List Tree) (N:Nat) (oq:Option Addr) (cq:Nat) (st:RS) (f:Nat),sl=.slice oq N cq∧Hid (DS wr p g cap ts d st)∧Hid (Sole p w wr)∧Hid (ListAt (zaf w.heap.size) wr acc (.slice oq N cq))∧Hid (R=zgm B (zf1 B f acc st).1 (zf1 B f acc st).2)∧Hid (N+f=s1.n+2∧(st.e=0->st.n<f))) (fun _ wr=>mu p ts.length wr)
 case atStart => exact ⟨[(Tree.node k3 n3 m3 a3 ks3)],1,some ⟨w3.heap.size,0,none⟩,1,s1,s1.n+1,rfl,Ax,Dl,Ag,Db,⟨by omega,fun _=>by omega⟩⟩
 case round =>
  clear Ax Ag Db Dg Dh Da;obtain ⟨acc,N,oq,cq,st,f,rfl,Cb,Dm,Dn,Dc,Bx⟩:=hrel;have Eu:Hid (mu p ts.length wr=muS st):=zd5 Cb.out;obtain ⟨e3,e2⟩:=Cb.out.e_cell;obtain ⟨EE,hEE⟩:∃ x,st.e=x:=⟨_,rfl⟩;have Bd:=hid hEE;rw [hEE] at e3;clear hEE;by_cases he:EE=0
  case neg =>
   have he2:(EE==0)=false:=by simp [he]
   have Ev:Hid (R=zgm B acc st):=Dc.out.trans (by rw [zjn (by rw [Bd.out];exact he) f acc]);have Bn:Hid (N<=20000):=by show _<=_;have:=Bx.out.1;have:=Bm.out;omega
   go_wp2_with fail
   obtain ⟨i,hi,h1,hh,hs⟩:=Cb.out.at_;have Fl:Hid (DP wr p g cap ts i d st.e st.pl∧st.hd=ts[i]∧st.ts=ts.drop i):=⟨h1,hh,hs⟩;have Dp:Hid ((i:Int)<=16001):=by show _<=_;have:=h1.ln;omega
   have hl:=h1.look hi;obtain ⟨E0,hE0⟩:∃ x,st.e=x:=⟨_,rfl⟩;obtain ⟨K,hK⟩:∃ x,ts[i].kind=x:=⟨_,rfl⟩;obtain ⟨M,hM⟩:∃ x,ts[i].num=x:=⟨_,rfl⟩;obtain ⟨A,hA⟩:∃ x,ts[i].at_=x:=⟨_,rfl⟩;obtain ⟨S,hS⟩:∃ x,ts[i].text=x:=⟨_,rfl⟩;rw [hE0,hK,hM,hA,hS] at hl;have HF:Hid (st.e=E0∧st.hd.kind=K∧st.hd.num=M∧st.hd.at_=A∧st.hd.text=S):=⟨hE0,by rw [hh];exact hK,by rw [hh];exact hM,by rw [hh];exact hA,by rw [hh];exact hS⟩;clear hE0 hK hM hA hS hh hs h1;obtain ⟨hp,hg,hiq,c0,c1,c3,t0,t1,t2,t3,f1⟩:=hl;have c1x:∀ x,(wr.alloc x).cell? ⟨p,1,none⟩=some (.int .i64 i):=fun x=>by rw [World.cell?_alloc_lt _ _ _ hp];exact c1
   have c3x:∀ x,(wr.alloc x).cell? ⟨p,3,none⟩=some (.int .i64 E0):=fun x=>by rw [World.cell?_alloc_lt _ _ _ hp];exact c3
   have f1x:∀ x,(wr.alloc x).frozen? ⟨p,1,none⟩=false:=fun x=>by rw [World.frozen?_alloc_old _ _ _ (Nat.ne_of_lt hp)];exact f1
   have Fm:Hid (∀ x k,Below wr.heap.size wr ((wr.alloc x).drewN k)):=fun x k=>zad (zab wr x) k;have hne:¬ p=wr.heap.size:=by omega
   have hne2:¬ wr.heap.size=p:=by omega
   have him:=Dp.out;have qb:=bld034x;go_region;all_goals (
    (go_wp2_with fail);refine (zci p g cap ts hE d [100,101,102,97,117,108,116] (by simp) st _ (Cb.out.below (zah _))).mono ?_;rintro e w41 ⟨rfl,hD,hS⟩;have Cc:=hid ((Sole.of_below (p:=p) (zah _)).trans hS);have Ay:=hid hD;have Cd:=hid (Dm.out.trans Cc.out);have Aq:=hid (ListAt.sole Dn.out (by intro b hb;have hpg:=Af.out.1;have hb2:=hb;first | (unfold zaf at hb2;omega) | exact (Al.out b hb)) Cc.out);clear hD hS;clear c0 c1 c3 t0 t1 t2 t3 f1 c1x c3x f1x hne hne2 him hp hg hiq;cases hbd:st.is [100,101,102,97,117,108,116] with
    | false =>
     rw [zb5 hbd] at Ay;have Az:Hid (R=(acc,st.want [125])):=(by show _=_;rw [Ev.out];unfold zgm;rw [show st.is za2=false from hbd];rfl);(go_wp2_with fail);refine (zak p g cap ts hE d [125] (by simp) st _ Ay.out).mono ?_;rintro e w42 ⟨rfl,hD,hS⟩;have Ce:=hid hS;have Dq:=hid hD;have Dr:=hid (Cd.out.trans Ce.out);have Ao:=hid (ListAt.sole Aq.out (by intro b hb;have hpg:=Af.out.1;have hb2:=hb;first | (unfold zaf at hb2;omega) | exact (Al.out b hb)) Ce.out);clear hD hS;go_wp2;go_ret;rw [Az.out];exact ⟨_,rfl,Ao.out,Dq.out,Dr.out⟩
    | true =>
     rw [zdx hbd] at Ay;have Az:Hid (R=(acc++[.node 9 [] 0 A [(zce B true (st.adv.want [58])).1]],((zce B true (st.adv.want [58])).2.want [59]).want [125])):=(by show _=_;rw [Ev.out];unfold zgm;rw [show st.is za2=true from hbd,HF.out.2.2.2.1];rfl);(go_wp2_with fail);refine (zak p g cap ts hE d [58] (by simp) st.adv _ Ay.out).mono ?_;rintro e w43 ⟨rfl,hD,hS⟩;have Cf:=hid hS;have Ds:=hid hD;have Cg:=hid (Cd.out.trans Cf.out);have Ah:=hid (ListAt.sole Aq.out (by intro b hb;have hpg:=Af.out.1;have hb2:=hb;first | (unfold zaf at hb2;omega) | exact (Al.out b hb)) Cf.out);clear hD hS;(go_wp2_with fail);have Dt:=hid (Sole.size Cg.out);refine (Df.out true _ _ Ds.out).mono ?_;rintro e w44 ⟨v,rfl,hv,hD,hS⟩;have Bo:=hid hS;have Du:=hid hD;have Dv:=hid (Cg.out.trans Bo.out);have Ai:=hid (ListAt.sole Ah.out (by intro b hb;have hpg:=Af.out.1;have hb2:=hb;first | (unfold zaf at hb2;omega) | exact (Al.out b hb)) Bo.out);obtain ⟨k44,n44,m44,a44,ks44,o44,l44,c44,he44,rfl⟩:=zam hv;have Ch:=hid he44;clear he44;have Dw:=hid hv;clear hv hD hS;obtain ⟨wb,hwb⟩:∃ x,w44.alloc (.cells #[.int .i64 k44,.string ⟨n44.toArray⟩,.int .i64 m44,.int .i64 a44,.slice o44 l44 c44] 29)=x:=⟨_,rfl⟩;obtain ⟨wc,hwc⟩:∃ x,wb.alloc (.cells #[.int .i64 9,.string ⟨#[]⟩,.int .i64 0,.int .i64 A,.slice (some ⟨w44.heap.size,0,none⟩) 1 1] 29)=x:=⟨_,rfl⟩;have Aj:Hid (Below w44.heap.size w44 wc∧wb.heap.size=w44.heap.size+1):=⟨by rw [<- hwc,<- hwb];exact (zab _ _).alloc (by simp) _,by rw [<- hwb];simp⟩;have Be:=hid (Du.out.below Aj.out.1);have Ar:=hid (Dv.out.trans (Sole.of_below Aj.out.1));have Bf:=hid (ListAt.below Ai.out Aj.out.1);have Ci:Hid (wc.heap[w44.heap.size]?=some (kidO k44 n44 m44 a44 (.slice o44 l44 c44))):=(by show _=_;rw [<- hwc];exact za3 (by rw [<- hwb];exact heap_alloc_new _ _));have Bg:Hid (wc.heap[wb.heap.size]?=some (kidO 9 [] 0 A (.slice (some ⟨w44.heap.size,0,none⟩) 1 1))):=(by show _=_;rw [<- hwc];exact heap_alloc_new _ _);have Ap:Hid (∀ q,(Value.slice oq N cq).ownBlock=some q->w.heap.size<=q∧q<w43.heap.size):=fun q e=>by
      have h1:=zb2 Ah.out e;exact ⟨h1.1,h1.2⟩
     have Bh:Hid (TreeAt (fun b=>zaf w.heap.size b∧(Value.slice oq N cq).ownBlock≠some b) wc (.node 9 [] 0 A [.node k44 n44 m44 a44 ks44]) (kidV 9 [] 0 A (.slice (some ⟨w44.heap.size,0,none⟩) 1 1))):=by
      have h1:=Dt.out;have h2:=Bo.out.size;have h4:treeIs w43.heap.size (.node k44 n44 m44 a44 ks44) w44 (kidV k44 n44 m44 a44 (.slice o44 l44 c44)):=(by rw [<- Ch.out];exact Dw.out);have h3:=TreeAt.there _ _ h4;refine node1 Ci.out ⟨by unfold zaf;omega,fun e=>by have:=Ap.out _ e;omega⟩ ((TreeAt.below h3 Aj.out.1).weaken (fun b hb=>?_));have hb1:w43.heap.size<=b:=hb.1;exact ⟨⟨by unfold zaf;omega,fun e=>by have:=Ap.out b e;omega⟩,Nat.ne_of_lt hb.2⟩
     have Bi:Hid (zaf w.heap.size wc.heap.size):=(by show _<=_;exact Ar.out.size);unfold kidV;(go_wp2_with (at_builtin;refine zim _ rfl _ _ rfl (zaf w.heap.size) acc oq N cq Bf.out rfl Bn.out wb.heap.size 9 0 [] A [.node k44 n44 m44 a44 ks44] (some ⟨w44.heap.size,0,none⟩) 1 1 rfl Bg.out Bh.out Bi.out ?_;intro g9 q9 x9 hA;have Au:=hid hA;clear hA));have Av:=hid (Au.out.ds Be.out Ar.out (fun q e=>(Ap.out q e).1) Af.out.1 Af.out.2);have Bp:=hid Av.out.1;have Bq:=hid Av.out.2;have Br:=hid (Au.out.list);rw [Ch.out] at Az;clear hwb hwc Av Au Be Ar Bf Bg Ci Bh Bi Aj Ap;refine (zak p g cap ts hE d [59] (by simp) _ _ Bp.out).mono ?_;rintro e w45 ⟨rfl,hD,hS⟩;have Cj:=hid hS;have Dx:=hid hD;have Dy:=hid (Bq.out.trans Cj.out);have Ba:=hid (ListAt.sole Br.out (by intro b hb;have hpg:=Af.out.1;have hb2:=hb;first | (unfold zaf at hb2;omega) | exact (Al.out b hb)) Cj.out);clear hD hS;(go_wp2_with fail);refine (zak p g cap ts hE d [125] (by simp) _ _ Dx.out).mono ?_;rintro e w46 ⟨rfl,hD,hS⟩;have Ck:=hid hS;have Dz:=hid hD;have Ea:=hid (Dy.out.trans Ck.out);have Am:=hid (ListAt.sole Ba.out (by intro b hb;have hpg:=Af.out.1;have hb2:=hb;first | (unfold zaf at hb2;omega) | exact (Al.out b hb)) Ck.out);clear hD hS;go_wp2;go_ret;rw [Az.out];exact ⟨_,rfl,Am.out,Dz.out,Ea.out⟩)
  subst he;obtain ⟨f,rfl⟩:∃ f' : Nat,f=f'+1:=⟨f-1,by have:=Bx.out.2 Bd.out;omega⟩;have Bn:Hid (N<=20000):=by show _<=_;have:=Bx.out.1;have:=Bm.out;omega
  obtain ⟨tv,htv⟩:∃ x,(armD B st).1=x:=⟨_,rfl⟩;obtain ⟨sv,hsv⟩:∃ x,(armD B st).2=x:=⟨_,rfl⟩;have Ew:Hid ((armD B st).1=tv∧(armD B st).2=sv):=⟨htv,hsv⟩;have Dd:Hid (zf1 B (f+1) acc st=(if sv.is zb3 then zf1 B f (acc++[tv]) (if 64<(acc++[tv]).length then sv.fail 42 else sv) else (acc++[tv],sv))):=by
   show _=_;rw [zf1,Bd.out,<- htv,<- hsv];rfl
  have De:Hid (2*sv.n+(if sv.e=0 then 1 else 0)<2*st.n+(if st.e=0 then 1 else 0)):=by
   show _<_;rw [<- hsv];exact zcs (by simp) (Nat.le_trans (zic Ez.out _ _) (Nat.le_trans (zn8 _ _ _) (za4 _ _))) Bd.out
  clear htv hsv;go_wp2_with fail
  have Eb:=hid (Sole.size Dm.out);refine (Fa.out st _ Cb.out).mono ?_;rintro e w61 ⟨v,rfl,hv,hD,hS⟩;have Cl:=hid hS;have Cm:=hid hD;have Ec:=hid (Dm.out.trans Cl.out);have Bs:=hid (ListAt.sole Dn.out (by intro b hb;have hpg:=Af.out.1;have hb2:=hb;first | (unfold zaf at hb2;omega) | exact (Al.out b hb)) Cl.out);obtain ⟨k61,n61,m61,a61,ks61,o61,l61,c61,he61,rfl⟩:=zam hv;have Bt:=hid he61;clear he61;have Cn:=hid hv;clear hv hD hS;rw [Ew.out.1] at Cn Bt;rw [Ew.out.2] at Cm;obtain ⟨wb61,hwb⟩:∃ x,w61.alloc (.cells #[.int .i64 k61,.string ⟨n61.toArray⟩,.int .i64 m61,.int .i64 a61,.slice o61 l61 c61] 29)=x:=⟨_,rfl⟩;have Aj:Hid (Below w61.heap.size w61 wb61):=hidB hwb;have Be:=hid (Cm.out.below Aj.out);have Ar:=hid (Ec.out.trans (Sole.of_below Aj.out));have Bf:=hid (ListAt.below Bs.out Aj.out);have Bg:Hid (wb61.heap[w61.heap.size]?=some (kidO k61 n61 m61 a61 (.slice o61 l61 c61))):=by show _=_;rw [<- hwb];exact heap_alloc_new _ _
  have Ap:Hid (∀ q,(Value.slice oq N cq).ownBlock=some q->w.heap.size<=q∧q<wr.heap.size):=fun q e=>by
   have h1:=zb2 Dn.out e;exact ⟨h1.1,h1.2⟩
  have Bh:Hid (TreeAt (fun b=>zaf w.heap.size b∧(Value.slice oq N cq).ownBlock≠some b) wb61 (.node k61 n61 m61 a61 ks61) (kidV k61 n61 m61 a61 (.slice o61 l61 c61))):=by
   have h1:=Eb.out;have h4:treeIs wr.heap.size (.node k61 n61 m61 a61 ks61) w61 (kidV k61 n61 m61 a61 (.slice o61 l61 c61)):=by rw [<- Bt.out];exact Cn.out
   refine (TreeAt.below h4 Aj.out).weaken (fun b hb=>?_);have hb1:wr.heap.size<=b:=hb;exact ⟨by unfold zaf;omega,fun e=>by have:=Ap.out b e;omega⟩
  have Bi:Hid (zaf w.heap.size wb61.heap.size):=by show _<=_;exact Ar.out.size
  unfold kidV;go_wp2_with (at_builtin;refine zim _ rfl _ _ rfl (zaf w.heap.size) acc oq N cq Bf.out rfl Bn.out w61.heap.size k61 m61 n61 a61 ks61 o61 l61 c61 rfl Bg.out Bh.out Bi.out ?_;intro g61 q61 x61 hA;have Au:=hid hA;clear hA)
  have Av:=hid (Au.out.ds Be.out Ar.out (fun q e=>(Ap.out q e).1) Af.out.1 Af.out.2);have Bj:=hid Av.out.1;have Co:=hid Av.out.2;have Cp:=hid (Au.out.list);clear hwb Av Au Be Ar Bf Bg Bh Bi Aj Ap;refine (zd8 p g cap ts d [99,97,115,101] sv _ Bj.out).mono ?_;rintro e w62 ⟨rfl,hB⟩;have Bu:=hid hB;have Aw:=hid (Bj.out.below Bu.out);have Bv:=hid (Co.out.trans (Sole.of_below Bu.out));have Aa:=hid (ListAt.below Cp.out Bu.out);clear hB;have Ey:Hid ((acc++[(Tree.node k61 n61 m61 a61 ks61)]).length=N+1):=zf9 Aa.out;rw [Bt.out,Ey.out] at Dd;cases hb1:sv.is [99,97,115,101] with
  | false =>
   have Ed:Hid (R=zgm B (acc++[(Tree.node k61 n61 m61 a61 ks61)]) sv):=by
    show _=_;rw [Dc.out,Dd.out,show sv.is zb3=false from hb1];rfl
   clear hb1 Bn;have Bn:Hid (N+1<=20000):=by show _<=_;have:=Bx.out.1;have:=Bm.out;omega
   obtain ⟨acc2,hac⟩:∃ x,acc++[(Tree.node k61 n61 m61 a61 ks61)]=x:=⟨_,rfl⟩;obtain ⟨N2,hN2⟩:∃ x,N+1=x:=⟨_,rfl⟩;rw [hac] at Ed Aa;rw [hN2] at Bn Aa;rw [hN2];clear hac hN2 Ey;go_wp2_with fail
   obtain ⟨i,hi,h1,hh,hs⟩:=Aw.out.at_;have Fl:Hid (DP w62 p g cap ts i d sv.e sv.pl∧sv.hd=ts[i]∧sv.ts=ts.drop i):=⟨h1,hh,hs⟩;have Dp:Hid ((i:Int)<=16001):=by show _<=_;have:=h1.ln;omega
   have hl:=h1.look hi;obtain ⟨E0,hE0⟩:∃ x,sv.e=x:=⟨_,rfl⟩;obtain ⟨K,hK⟩:∃ x,ts[i].kind=x:=⟨_,rfl⟩;obtain ⟨M,hM⟩:∃ x,ts[i].num=x:=⟨_,rfl⟩;obtain ⟨A,hA⟩:∃ x,ts[i].at_=x:=⟨_,rfl⟩;obtain ⟨S,hS⟩:∃ x,ts[i].text=x:=⟨_,rfl⟩;rw [hE0,hK,hM,hA,hS] at hl;have HF:Hid (sv.e=E0∧sv.hd.kind=K∧sv.hd.num=M∧sv.hd.at_=A∧sv.hd.text=S):=⟨hE0,by rw [hh];exact hK,by rw [hh];exact hM,by rw [hh];exact hA,by rw [hh];exact hS⟩;clear hE0 hK hM hA hS hh hs h1;obtain ⟨hp,hg,hiq,c0,c1,c3,t0,t1,t2,t3,f1⟩:=hl;have c1x:∀ x,(w62.alloc x).cell? ⟨p,1,none⟩=some (.int .i64 i):=fun x=>by rw [World.cell?_alloc_lt _ _ _ hp];exact c1
   have c3x:∀ x,(w62.alloc x).cell? ⟨p,3,none⟩=some (.int .i64 E0):=fun x=>by rw [World.cell?_alloc_lt _ _ _ hp];exact c3
   have f1x:∀ x,(w62.alloc x).frozen? ⟨p,1,none⟩=false:=fun x=>by rw [World.frozen?_alloc_old _ _ _ (Nat.ne_of_lt hp)];exact f1
   have Fm:Hid (∀ x k,Below w62.heap.size w62 ((w62.alloc x).drewN k)):=fun x k=>zad (zab w62 x) k;have hne:¬ p=w62.heap.size:=by omega
   have hne2:¬ w62.heap.size=p:=by omega
   have him:=Dp.out;have qb:=bld034x;go_region;all_goals (
    (go_wp2_with fail);refine (zci p g cap ts hE d [100,101,102,97,117,108,116] (by simp) sv _ (Aw.out.below (zah _))).mono ?_;rintro e w63 ⟨rfl,hD,hS⟩;have Cq:=hid ((Sole.of_below (p:=p) (zah _)).trans hS);have Bb:=hid hD;have Cr:=hid (Bv.out.trans Cq.out);have Ad:=hid (ListAt.sole Aa.out (by intro b hb;have hpg:=Af.out.1;have hb2:=hb;first | (unfold zaf at hb2;omega) | exact (Al.out b hb)) Cq.out);clear hD hS;clear c0 c1 c3 t0 t1 t2 t3 f1 c1x c3x f1x hne hne2 him hp hg hiq;cases hbd:sv.is [100,101,102,97,117,108,116] with
    | false =>
     rw [zb5 hbd] at Bb;have Az:Hid (R=(acc2,sv.want [125])):=(by show _=_;rw [Ed.out];unfold zgm;rw [show sv.is za2=false from hbd];rfl);(go_wp2_with fail);refine (zak p g cap ts hE d [125] (by simp) sv _ Bb.out).mono ?_;rintro e w64 ⟨rfl,hD,hS⟩;have Cs:=hid hS;have Ee:=hid hD;have Ef:=hid (Cr.out.trans Cs.out);have Ae:=hid (ListAt.sole Ad.out (by intro b hb;have hpg:=Af.out.1;have hb2:=hb;first | (unfold zaf at hb2;omega) | exact (Al.out b hb)) Cs.out);clear hD hS;go_wp2;go_ret;rw [Az.out];exact ⟨_,rfl,Ae.out,Ee.out,Ef.out⟩
    | true =>
     rw [zdx hbd] at Bb;have Az:Hid (R=(acc2++[.node 9 [] 0 A [(zce B true (sv.adv.want [58])).1]],((zce B true (sv.adv.want [58])).2.want [59]).want [125])):=(by show _=_;rw [Ed.out];unfold zgm;rw [show sv.is za2=true from hbd,HF.out.2.2.2.1];rfl);(go_wp2_with fail);refine (zak p g cap ts hE d [58] (by simp) sv.adv _ Bb.out).mono ?_;rintro e w65 ⟨rfl,hD,hS⟩;have Ct:=hid hS;have Eg:=hid hD;have Cu:=hid (Cr.out.trans Ct.out);have Ab:=hid (ListAt.sole Ad.out (by intro b hb;have hpg:=Af.out.1;have hb2:=hb;first | (unfold zaf at hb2;omega) | exact (Al.out b hb)) Ct.out);clear hD hS;(go_wp2_with fail);have Eh:=hid (Sole.size Cu.out);refine (Df.out true _ _ Eg.out).mono ?_;rintro e w66 ⟨v,rfl,hv,hD,hS⟩;have Bw:=hid hS;have Ei:=hid hD;have Ej:=hid (Cu.out.trans Bw.out);have Ac:=hid (ListAt.sole Ab.out (by intro b hb;have hpg:=Af.out.1;have hb2:=hb;first | (unfold zaf at hb2;omega) | exact (Al.out b hb)) Bw.out);obtain ⟨k66,n66,m66,a66,ks66,o66,l66,c66,he66,rfl⟩:=zam hv;have Cv:=hid he66;clear he66;have Ek:=hid hv;clear hv hD hS;obtain ⟨wb,hwb⟩:∃ x,w66.alloc (.cells #[.int .i64 k66,.string ⟨n66.toArray⟩,.int .i64 m66,.int .i64 a66,.slice o66 l66 c66] 29)=x:=⟨_,rfl⟩;obtain ⟨wc,hwc⟩:∃ x,wb.alloc (.cells #[.int .i64 9,.string ⟨#[]⟩,.int .i64 0,.int .i64 A,.slice (some ⟨w66.heap.size,0,none⟩) 1 1] 29)=x:=⟨_,rfl⟩;have Aj:Hid (Below w66.heap.size w66 wc∧wb.heap.size=w66.heap.size+1):=⟨by rw [<- hwc,<- hwb];exact (zab _ _).alloc (by simp) _,by rw [<- hwb];simp⟩;have Be:=hid (Ei.out.below Aj.out.1);have Ar:=hid (Ej.out.trans (Sole.of_below Aj.out.1));have Bf:=hid (ListAt.below Ac.out Aj.out.1);have Ci:Hid (wc.heap[w66.heap.size]?=some (kidO k66 n66 m66 a66 (.slice o66 l66 c66))):=(by show _=_;rw [<- hwc];exact za3 (by rw [<- hwb];exact heap_alloc_new _ _));have Bg:Hid (wc.heap[wb.heap.size]?=some (kidO 9 [] 0 A (.slice (some ⟨w66.heap.size,0,none⟩) 1 1))):=(by show _=_;rw [<- hwc];exact heap_alloc_new _ _);have Ap:Hid (∀ q,(Value.slice (some ⟨g61,0,none⟩) N2 q61).ownBlock=some q->w.heap.size<=q∧q<w65.heap.size):=fun q e=>by
      have h1:=zb2 Ab.out e;exact ⟨h1.1,h1.2⟩
     have Bh:Hid (TreeAt (fun b=>zaf w.heap.size b∧(Value.slice (some ⟨g61,0,none⟩) N2 q61).ownBlock≠some b) wc (.node 9 [] 0 A [.node k66 n66 m66 a66 ks66]) (kidV 9 [] 0 A (.slice (some ⟨w66.heap.size,0,none⟩) 1 1))):=by
      have h1:=Eh.out;have h2:=Bw.out.size;have h4:treeIs w65.heap.size (.node k66 n66 m66 a66 ks66) w66 (kidV k66 n66 m66 a66 (.slice o66 l66 c66)):=(by rw [<- Cv.out];exact Ek.out);have h3:=TreeAt.there _ _ h4;refine node1 Ci.out ⟨by unfold zaf;omega,fun e=>by have:=Ap.out _ e;omega⟩ ((TreeAt.below h3 Aj.out.1).weaken (fun b hb=>?_));have hb1:w65.heap.size<=b:=hb.1;exact ⟨⟨by unfold zaf;omega,fun e=>by have:=Ap.out b e;omega⟩,Nat.ne_of_lt hb.2⟩
     have Bi:Hid (zaf w.heap.size wc.heap.size):=(by show _<=_;exact Ar.out.size);unfold kidV;(go_wp2_with (at_builtin;refine zim _ rfl _ _ rfl (zaf w.heap.size) acc2 (some ⟨g61,0,none⟩) N2 q61 Bf.out rfl Bn.out wb.heap.size 9 0 [] A [.node k66 n66 m66 a66 ks66] (some ⟨w66.heap.size,0,none⟩) 1 1 rfl Bg.out Bh.out Bi.out ?_;intro g9 q9 x9 hA;have Au:=hid hA;clear hA));have Av:=hid (Au.out.ds Be.out Ar.out (fun q e=>(Ap.out q e).1) Af.out.1 Af.out.2);have Bp:=hid Av.out.1;have Bq:=hid Av.out.2;have Br:=hid (Au.out.list);rw [Cv.out] at Az;clear hwb hwc Av Au Be Ar Bf Bg Ci Bh Bi Aj Ap;refine (zak p g cap ts hE d [59] (by simp) _ _ Bp.out).mono ?_;rintro e w67 ⟨rfl,hD,hS⟩;have Cw:=hid hS;have El:=hid hD;have Em:=hid (Bq.out.trans Cw.out);have Bc:=hid (ListAt.sole Br.out (by intro b hb;have hpg:=Af.out.1;have hb2:=hb;first | (unfold zaf at hb2;omega) | exact (Al.out b hb)) Cw.out);clear hD hS;(go_wp2_with fail);refine (zak p g cap ts hE d [125] (by simp) _ _ El.out).mono ?_;rintro e w68 ⟨rfl,hD,hS⟩;have Cx:=hid hS;have En:=hid hD;have Eo:=hid (Em.out.trans Cx.out);have An:=hid (ListAt.sole Bc.out (by intro b hb;have hpg:=Af.out.1;have hb2:=hb;first | (unfold zaf at hb2;omega) | exact (Al.out b hb)) Cx.out);clear hD hS;go_wp2;go_ret;rw [Az.out];exact ⟨_,rfl,An.out,En.out,Eo.out⟩)
  | true =>
   by_cases h64:64<N+1
   case pos =>
    have j64:(64:Int)<(N:Int)+1:=(by omega);have Ep:Hid (R=zgm B (zf1 B f (acc++[(Tree.node k61 n61 m61 a61 ks61)]) (sv.fail 42)).1 (zf1 B f (acc++[(Tree.node k61 n61 m61 a61 ks61)]) (sv.fail 42)).2):=by
     show _=_;rw [Dc.out,Dd.out,show sv.is zb3=true from hb1,if_pos rfl,if_pos h64]
    clear h64;(go_wp2_with fail);refine (zbs p g cap ts d 42 sv _ Aw.out).mono ?_;rintro e w69 ⟨rfl,hD,hS⟩;have Cy:=hid hS;have Cz:=hid hD;have Er:=hid (Bv.out.trans Cy.out);have Ak:=hid (ListAt.sole Aa.out (by intro b hb;have hpg:=Af.out.1;have hb2:=hb;first | (unfold zaf at hb2;omega) | exact (Al.out b hb)) Cy.out);clear hD hS;go_wp2;go_roundw
    case rel =>
     refine ⟨_,N+1,some ⟨g61,0,none⟩,q61,(sv.fail 42),f,rfl,Cz,Er,Ak,Ep,?_⟩;have h1:=Bx.out;have h5:=(zbx 42 De.out (by decide));rw [if_pos Bd.out] at h5;refine ⟨by omega,fun h0=>?_⟩;have h3:=h1.2 Bd.out;rw [if_pos h0] at h5;omega
    case measure =>
     rw [zd5 Cz.out,Eu.out,zcd,zcd];exact (zbx 42 De.out (by decide))
   have j64:¬ (64:Int)<(N:Int)+1:=by omega
   have Ep:Hid (R=zgm B (zf1 B f (acc++[(Tree.node k61 n61 m61 a61 ks61)]) sv).1 (zf1 B f (acc++[(Tree.node k61 n61 m61 a61 ks61)]) sv).2):=by
    show _=_;rw [Dc.out,Dd.out,show sv.is zb3=true from hb1,if_pos rfl,if_neg h64]
   clear h64;go_wp2;go_roundw
   case rel =>
    refine ⟨_,N+1,some ⟨g61,0,none⟩,q61,sv,f,rfl,Aw,Bv,Aa,Ep,?_⟩;have h1:=Bx.out;have h5:=De.out;rw [if_pos Bd.out] at h5;refine ⟨by omega,fun h0=>?_⟩;have h3:=h1.2 Bd.out;rw [if_pos h0] at h5;omega
   case measure =>
    rw [zd5 Aw.out,Eu.out,zcd,zcd];exact De.out
theorem level (p g cap:Nat) (ts:List Tok) (hE:Ends ts):∀ n:Nat,n<=8->∀ d:Int,d+n=8->zgc p g cap ts d 86 (zcf (zc2 n))
 | 0,_,d,hd=>by
  obtain rfl:d=8:=by omega
  exact typed_zero p g cap ts hE
 | n+1,hn,d,hd=>by
  have hT:=level p g cap ts hE n (by omega) (d+1) (by omega);have hD:=zn7 p g cap ts hE (d+1) (zc2 n) hT;have hl:(n==0)=(d+1==8):=by
   by_cases h0:n=0
   · rw [show (n==0)=true by simp [h0],show (d+1==8)=true by simp;omega]
   · rw [show (n==0)=false by simp [h0],show (d+1==8)=false by simp;omega]
  exact typed_succ p g cap ts hE d (by omega) n (fun k nm a s w h=>body_any p g cap ts d (by omega) (zc2 n) (n==0) (fun s w h=>zfv p g cap ts hE (d+1) s w h) (zhr p g cap ts hE (d+1) (zc2 n) (n==0) hl (zfz n) hD) (zhs p g cap ts hE (d+1) (zc2 n) (zfz n) hD (zob p g cap ts hE (d+1) (zc2 n) hD)) k nm a s w h)
theorem decl_top (p g cap:Nat) (ts:List Tok) (hE:Ends ts):DDecl p g cap ts 0 (zc2 8):=zn7 p g cap ts hE 0 (zc2 8) (level p g cap ts hE 8 (Nat.le_refl _) 0 rfl)
theorem zht (p g cap:Nat) (ts:List Tok) (hE:Ends ts):DBody p g cap ts 0 (zc2 7) false:=fun k nm a s w h=>by
 have hT:=level p g cap ts hE 7 (by omega) 1 rfl;have hD:=zn7 p g cap ts hE 1 (zc2 7) hT;exact body_any p g cap ts 0 (by omega) (zc2 7) false (fun s w h=>zfv p g cap ts hE 1 s w h) (zhr p g cap ts hE 1 (zc2 7) false rfl (zfz 7) hD) (zhs p g cap ts hE 1 (zc2 7) (zfz 7) hD (zob p g cap ts hE 1 (zc2 7) hD)) k nm a s w h
end Go.Proofs.YtighggeokiahfaaGreatDoor.Dm
namespace Go.Proofs.YtighggeokiahfaaGreatDoor.Dm
theorem Agr.bindP {α β:Type} {k j:Nat} {ts:List Tok} {pl:Nat} {r:Ans α} {q:α × RS} {Q:α->PS->Ans β} {E:α->RS->β × RS} (Pr:α->Prop) (h:Agr k ts pl r q) (hp:∀ a s,r=.ok a s->Pr a) (hQ:∀ a ts',Pr a->Okl ts'->ts'.length+k<=ts.length->Agr j ts' pl (Q a ⟨ts',false⟩) (E a ⟨ts',0,pl⟩)) (st:∀ a s,s.e≠0->(E a s).2=s):Agr (k+j) ts pl (r.bind Q) (E q.1 q.2):=by
 cases r with
 | ok a s=>
  obtain ⟨ss,f⟩:=s;obtain ⟨h1,h2,h3,rfl⟩:=h;obtain rfl:f=false:=h1;have h4:=hQ a ss (hp a _ rfl) h2 h3;show Agr (k+j) ts pl (Q a ⟨ss,false⟩) (E a ⟨ss,0,pl⟩);cases hr:Q a ⟨ss,false⟩ with
  | ok b u=>rw [hr] at h4;exact ⟨h4.1,h4.2.1,by have:=h4.2.2.1;have h3':ss.length+k<=ts.length:=h3;omega,h4.2.2.2⟩
  | no e i=>rw [hr] at h4;exact h4
 | no e i=>
  obtain ⟨h1,h2,h3⟩:=h;show e≠0∧(E q.1 q.2).2.e=e∧(E q.1 q.2).2.pl=i;rw [st q.1 q.2 (by rw [h2];exact h1)];exact ⟨h1,h2,h3⟩
def hdT (ts:List Tok):Tok:=ts.headD ⟨5,[],0,0⟩
theorem hd_P (ts:List Tok) (f:Bool):(⟨ts,f⟩:PS).hd=hdT ts:=rfl
theorem hd_D (ts:List Tok) (e:Int) (pl:Nat):(⟨ts,e,pl⟩:RS).hd=hdT ts:=rfl
theorem zct (ts:List Tok) (f:Bool) (x:List UInt8):(⟨ts,f⟩:PS).sees x=((hdT ts).text==x):=rfl
theorem zcy {ts:List Tok} {pl:Nat} {x:List UInt8} (hx:zfk x) (h:Okl ts):(⟨ts,0,pl⟩:RS).is x=((hdT ts).text==x):=is_sees false hx h
theorem zku {ts:List Tok} (h:(hdT ts).text≠[]∨(hdT ts).kind≠5):ts.tail.length+1<=ts.length:=ok_ne h
theorem zfp (ts:List Tok):(⟨ts,true⟩:PS).take=.no 42 (hdT ts).at_:=rfl
theorem word_ne {x:List UInt8} (h:za6 x=true):x≠[]:=(show zfk x from Or.inl h).ne
theorem zjs {α:Type} (a:α) {ts:List Tok} {pl:Nat} (ok:Okl ts) (h:(hdT ts).text≠[]∨(hdT ts).kind≠5):Agr 1 ts pl (.ok a ⟨ts.tail,false⟩) (a,⟨ts.tail,0,pl⟩):=⟨rfl,ok.tail,zku h,rfl⟩
def findU (u:Bool) (T:List UInt8):Option (Int × Bool × List UInt8):=zb0.find? fun b=>b.2.1==u&&T==b.2.2
theorem find_no (T:List UInt8):(findU false T).map (·.1)=if baseD T=0 then none else some (baseD T):=by
 unfold findU zb0 baseD;simp only [List.find?];cases T==wInt <;> cases T==ze8 <;> cases T==zml <;> cases T==zi7 <;> cases T==wBool <;> rfl
theorem find_yes (T:List UInt8):(findU true T).map (·.1)=if T==wInt then some 19 else if T==ze8 then some 21 else none:=by
 unfold findU zb0;simp only [List.find?];cases T==wInt <;> cases T==ze8 <;> cases T==zml <;> cases T==zi7 <;> cases T==wBool <;> rfl
theorem base_word {T:List UInt8} (h:baseD T≠0):za6 T=true:=by
 unfold baseD at h;split at h
 · next e=>rw [eq_of_beq e];decide
 · split at h
   · next e=>rw [eq_of_beq e];decide
   · split at h
     · next e=>rw [eq_of_beq e];decide
     · split at h
       · next e=>rw [eq_of_beq e];decide
       · split at h
         · next e=>rw [eq_of_beq e];decide
         · exact absurd rfl h
def zns (u:Bool) (at_:Nat) (s:PS):Ans Tree :=
 match findU u s.hd.text with
 | some b=>s.take.bind fun _ s=>.ok (.node b.1 [] 0 at_ []) s
 | none=>s.bad 40
theorem zl1 {s:PS} (h1:¬ s.hd.kind=1) (h:(s.hd.text==zbh)=true):zd7 s=s.take.bind fun _ s'=>zns true s.hd.at_ s':=by
 unfold zd7;rw [if_neg h1];simp only;rw [show s.sees zbh=true from h];simp only [if_true];cases s.take <;> rfl
theorem zoa {s:PS} (h1:¬ s.hd.kind=1) (h:(s.hd.text==zbh)=false):zd7 s=zns false s.hd.at_ s:=by
 unfold zd7;rw [if_neg h1];simp only;rw [show s.sees zbh=false from h];rfl
theorem zf0 (ts:List Tok) (pl:Nat):(⟨ts,0,pl⟩:RS).begins=((hdT ts).kind==1||((hdT ts).kind==2&&((hdT ts).text==zbh||baseD (hdT ts).text != 0))):=rfl
theorem znn:Sim 1 zd7 zed:=by
 intro ts pl ok;by_cases hk:(hdT ts).kind=1
 · have e1:zd7 ⟨ts,false⟩=.ok (.node 27 (hdT ts).text 0 (hdT ts).at_ []) ⟨ts.tail,false⟩:=by
    unfold zd7 refP zcp PS.ofKind;rw [if_pos (show (⟨ts,false⟩:PS).hd.kind=1 from hk),if_pos (show (⟨ts,false⟩:PS).hd.kind=1 from hk)];rfl
   have e2:zed ⟨ts,0,pl⟩=(.node 27 (hdT ts).text 0 (hdT ts).at_ [],⟨ts.tail,0,pl⟩):=by
    unfold zed;rw [zf0,hd_D,hk];rfl
   rw [e1,e2];exact zjs _ ok (Or.inr (by rw [hk];decide))
 · cases hu:((hdT ts).text==zbh) with
   | true=>
    have ht:(hdT ts).text=zbh:=eq_of_beq hu;have k2:(hdT ts).kind=2:=ok.hd.word (by show za6 (hdT ts).text=true;rw [ht];decide);rw [zl1 (s:=⟨ts,false⟩) hk hu];have e2:zed ⟨ts,0,pl⟩=(if (⟨ts.tail,0,pl⟩:RS).is wInt then (.node 19 [] 0 (hdT ts).at_ [],⟨ts.tail.tail,0,pl⟩) else (.node 21 [] 0 (hdT ts).at_ [],(⟨ts.tail,0,pl⟩:RS).want ze8)):=by
     unfold zed;rw [zf0,hd_D,k2,ht];rfl
    rw [e2];refine zgb (k:=0) (Q:=fun _ s'=>zns true (hdT ts).at_ s') ok (zku (Or.inr (by rw [k2];decide))) (fun ok'=>?_);have hf:=find_yes (hdT ts.tail).text;rw [zcy (Or.inl (by decide)) ok'];show Agr 0 ts.tail pl (zns true (hdT ts).at_ ⟨ts.tail,false⟩) _;unfold zns;rw [hd_P];cases hi:((hdT ts.tail).text==wInt) with
    | true=>
     rw [hi,if_pos rfl] at hf;obtain ⟨b,hb,hb1⟩:=Option.map_eq_some_iff.1 hf;rw [hb,if_pos rfl];show Agr 0 ts.tail pl (Ans.ok (Tree.node b.1 [] 0 _ []) ⟨ts.tail.tail,false⟩) _;rw [hb1];exact (zjs _ ok' (Or.inl (by rw [eq_of_beq hi];decide))).less (Nat.zero_le _)
    | false=>
     rw [hi] at hf;rw [if_neg (by decide)];unfold RS.want;rw [zcy (Or.inl (by decide)) ok'];cases hh:((hdT ts.tail).text==ze8) with
     | true=>
      rw [hh] at hf;obtain ⟨b,hb,hb1⟩:=Option.map_eq_some_iff.1 (hf.trans (by rfl : _=some (21:Int)));rw [hb,if_pos rfl];show Agr 0 ts.tail pl (Ans.ok (Tree.node b.1 [] 0 _ []) ⟨ts.tail.tail,false⟩) _;rw [hb1];exact (zjs _ ok' (Or.inl (by rw [eq_of_beq hh];decide))).less (Nat.zero_le _)
     | false=>
      rw [hh] at hf;rw [Option.map_eq_none_iff.1 (hf.trans (by rfl : _=none)),if_neg (by decide)];exact zg6 (by decide) _
   | false=>
    rw [zoa (s:=⟨ts,false⟩) hk hu];unfold zns;have hf:=find_no (hdT ts).text;rw [hd_P];by_cases hb0:baseD (hdT ts).text=0
    · rw [if_pos hb0] at hf;rw [Option.map_eq_none_iff.1 hf];have e2:zed ⟨ts,0,pl⟩=(.node 0 [] 0 (hdT ts).at_ [],(⟨ts,0,pl⟩:RS).fail 40):=by
       unfold zed;rw [zf0,hb0,hu,beq_no hk];simp [hd_D]
      rw [e2];exact zg6 (by decide) _
    · rw [if_neg hb0] at hf;obtain ⟨b,hb,hb1⟩:=Option.map_eq_some_iff.1 hf;have k2:(hdT ts).kind=2:=ok.hd.word (base_word hb0);have e2:zed ⟨ts,0,pl⟩=(.node (baseD (hdT ts).text) [] 0 (hdT ts).at_ [],⟨ts.tail,0,pl⟩):=by
       unfold zed;rw [zf0,hd_D,k2,hu,show (baseD (hdT ts).text != 0)=true by simp [hb0]];rfl
      rw [e2,hb];show Agr 1 ts pl (Ans.ok (Tree.node b.1 [] 0 _ []) ⟨ts.tail,false⟩) _;rw [hb1];exact zjs _ ok (Or.inr (by rw [k2];decide))
theorem zau {β:Type} {j:Nat} (x:List UInt8) (hx:zfk x) {ts:List Tok} {pl:Nat} (ok:Okl ts) {Q:PS->Ans β} {E:RS->β × RS} (hQ:∀ ts',Okl ts'->ts'.length+1<=ts.length->Agr j ts' pl (Q ⟨ts',false⟩) (E ⟨ts',0,pl⟩)) (st:∀ s,s.e≠0->(E s).2=s):Agr (1+j) ts pl (((⟨ts,false⟩:PS).want x).bind fun _ s=>Q s) (E ((⟨ts,0,pl⟩:RS).want x)):=
 (sim_want x hx ts pl ok).bind (Q:=fun _ s=>Q s) (E:=fun _ s=>E s) (fun _ ts' ok' h=>hQ ts' ok' h) (fun _ s h=>st s h)
theorem zcx {α:Type} (x:List UInt8) (hx:zfk x) (a:α) {ts:List Tok} {pl:Nat} (ok:Okl ts):Agr 1 ts pl (((⟨ts,false⟩:PS).want x).bind fun _ s=>.ok a s) (a,(⟨ts,0,pl⟩:RS).want x):=
 zau (j:=0) x hx ok (Q:=fun s=>.ok a s) (E:=fun s=>(a,s)) (fun ts' ok' _=>zfg a ts' pl ok') (fun _ _=>rfl)
theorem fne:¬ (false=true):=by decide
theorem zng {ts:List Tok} {x:List UInt8} (hx:zfk x) (h:((hdT ts).text==x)=true):(hdT ts).text≠[]∨(hdT ts).kind≠5:=Or.inl (by rw [eq_of_beq h];exact hx.ne)
theorem sp_s (c:UInt8) (h:zeu c=true):zfk [c]:=Or.inr ⟨c,h,rfl⟩
theorem zk2 (k least:Int) (of:Tree) (hA:decide (least<2)=(k != 26)) (hB:decide (0<least)=(k==25||k==26)):Sim 1 (zdq k of) (zdw of least):=by
 refine zfa (j:=0) (Q:=fun n s=>if s.sees [91]&&k != 26 then s.take.bind fun _ s=>(zbz s).bind fun v s=>(s.want [93]).bind fun _ s=>.ok (named 15 n [of,v]) s
   else if s.sees [60] then
    (s.want [60]).bind fun _ s =>
      if s.sees [62] then (s.want [62]).bind fun _ s=>.ok (named 16 n [of]) s
      else (zbz s).bind fun v s=>(s.want [62]).bind fun _ s=>.ok (named 16 n [of,v]) s
   else if k==25||k==26 then s.bad 40
   else .ok (named 14 n [of]) s) (E:=fun n s=>if s.is [91]&&decide (least<2) then (zar 15 n [of,(zao s.adv).1],(zao s.adv).2.want [93])
  else if s.is [60] then (if s.adv.is [62] then (zar 16 n [of],s.adv.want [62]) else (zar 16 n [of,(zao s.adv).1],(zao s.adv).2.want [62]))
  else if 0<least then (zar 14 n [of],s.fail 40) else (zar 14 n [of],s)) ?_ ?_
 · intro t ts pl ok;show Agr 0 ts pl (if (⟨ts,false⟩:PS).sees [91]&&k != 26 then _ else _) (if (⟨ts,0,pl⟩:RS).is [91]&&decide (least<2) then _ else _);rw [zcy (sp_s 91 (by decide)) ok,zct,hA];cases h1:((hdT ts).text==[91]&&k != 26) with
   | true=>
    have h91:((hdT ts).text==[91])=true:=by
     cases h:((hdT ts).text==[91]) with
     | true=>rfl
     | false=>rw [h] at h1;exact absurd h1 (by simp)
    rw [if_pos rfl,if_pos rfl];refine (zgb (k:=2) (Q:=fun _ s=>(zbz s).bind fun v s=>(s.want [93]).bind fun _ s=>.ok (named 15 t [of,v]) s) ok (zku (zng (sp_s 91 (by decide)) h91)) (fun ok'=>?_)).less (Nat.zero_le _);exact (ziu ts.tail pl ok').bind (j:=1) (Q:=fun v s=>(s.want [93]).bind fun _ s=>.ok (named 15 t [of,v]) s) (E:=fun v s=>(zar 15 (t.text,t.at_) [of,v],s.want [93])) (fun a ts' ok' _=>zcx [93] (sp_s 93 (by decide)) _ ok') (fun a s h=>zal h _)
   | false=>
    rw [if_neg fne,if_neg fne,zcy (sp_s 60 (by decide)) ok,zct];cases h2:((hdT ts).text==[60]) with
    | true=>
     rw [if_pos rfl,if_pos rfl];have hw:(⟨ts,0,pl⟩:RS).want [60]=(⟨ts,0,pl⟩:RS).adv:=(by unfold RS.want;rw [zcy (sp_s 60 (by decide)) ok,h2];rfl);rw [<- hw];refine (zau (j:=0) [60] (sp_s 60 (by decide)) ok (Q:=fun s=>if s.sees [62] then (s.want [62]).bind fun _ s=>.ok (named 16 t [of]) s
      else (zbz s).bind fun v s=>(s.want [62]).bind fun _ s=>.ok (named 16 t [of,v]) s) (E:=fun s=>if s.is [62] then (zar 16 (t.text,t.at_) [of],s.want [62]) else (zar 16 (t.text,t.at_) [of,(zao s).1],(zao s).2.want [62])) (fun ts' ok' _=>?_) ?_).less (Nat.zero_le _)
     · show Agr 0 ts' pl (if (⟨ts',false⟩:PS).sees [62] then _ else _) (if (⟨ts',0,pl⟩:RS).is [62] then _ else _);rw [zcy (sp_s 62 (by decide)) ok',zct];cases (hdT ts').text==[62] with
       | true=>exact (zcx [62] (sp_s 62 (by decide)) _ ok').less (Nat.zero_le _)
       | false=>exact ((ziu ts' pl ok').bind (j:=1) (Q:=fun v s=>(s.want [62]).bind fun _ s=>.ok (named 16 t [of,v]) s) (E:=fun v s=>(zar 16 (t.text,t.at_) [of,v],s.want [62])) (fun a ts' ok' _=>zcx [62] (sp_s 62 (by decide)) _ ok') (fun a s h=>zal h _)).less (Nat.zero_le _)
     · intro s h;simp only [zdp h,zh4 h,zal h,Bool.false_eq_true,if_false]
    | false=>
     rw [if_neg fne,if_neg fne];cases h3:(k==25||k==26) with
     | true=>
      rw [h3] at hB;rw [if_pos rfl,if_pos (of_decide_eq_true hB)];exact zg6 (by decide) _
     | false=>
      rw [h3] at hB;rw [if_neg fne,if_neg (of_decide_eq_false hB)];exact zfg _ ts pl ok
 · intro a s h;simp only [zdp h,zdu h,Bool.false_and,Bool.false_eq_true,if_false];split <;> rfl
def zei (t:List UInt8):Bool:=t==zd4||t==zbk||t==zes
theorem zhu {t:List UInt8} (h:zei t=true):za6 t=true:=by
 unfold zei at h;simp only [Bool.or_eq_true,beq_iff_eq] at h;rcases h with (h|h)|h <;> (rw [h];decide)
theorem bodyK_ne (t:List UInt8):(zhc t != 0)=zei t:=by
 unfold zhc zei;cases t==zd4 <;> cases t==zbk <;> cases t==zes <;> rfl
theorem zgp {ts:List Tok} {e:Int} {pl:Nat} (ok:Okl ts):((⟨ts,e,pl⟩:RS).bodied != 0)=zei (hdT ts).text:=by
 unfold RS.bodied;rw [hd_D];cases h:zei (hdT ts).text with
 | true=>
  rw [show (hdT ts).kind=2 from ok.hd.word (zhu h)];simp only [beq_self_eq_true,if_true];rw [bodyK_ne,h]
 | false=>
  split
  · rw [bodyK_ne,h]
  · rfl
def SimB (B:PS->Ans Tree) (BD:RS->Tree × RS):Prop:=∀ ts pl,Okl ts->zei (hdT ts).text=true->Agr 1 ts pl (B ⟨ts,false⟩) (BD ⟨ts,0,pl⟩)
def Bk (t:Tree):Prop:=t.kind≠25∧t.kind≠26
def zkf (F:PS->Ans Tree):Prop:=∀ s t s',F s=.ok t s'->Bk t
theorem bind_ok {α β:Type} {r:Ans α} {f:α->PS->Ans β} {b:β} {s:PS} (h:r.bind f=.ok b s):∃ a u,r=.ok a u∧f a u=.ok b s:=by
 cases r with
 | ok a u=>exact ⟨a,u,rfl,h⟩
 | no e i=>cases h
theorem findU_kind {u:Bool} {T:List UInt8} {b:Int × Bool × List UInt8} (h:findU u T=some b):b.1≠25∧b.1≠26:=by
 have h1:b∈zb0:=List.mem_of_find?_eq_some h;have h2:∀ b∈zb0,b.1≠25∧b.1≠26:=by decide
 exact h2 b h1
theorem bare_kind:zkf zd7:=by
 intro s t s' h;by_cases hk:s.hd.kind=1
 · unfold zd7 at h;rw [if_pos hk] at h;obtain ⟨a,u,_,h2⟩:=bind_ok h;cases h2;exact ⟨by show (27:Int)≠25;decide,by show (27:Int)≠26;decide⟩
 · have hr:∀ (b:Bool) (n:Nat) (x:PS),zns b n x=.ok t s'->Bk t:=by
    intro b n x h;unfold zns at h;split at h
    · next c hc=>
      obtain ⟨a,u,_,h2⟩:=bind_ok h;cases h2;exact findU_kind hc
    · cases h
   cases hu:s.hd.text==zbh with
   | true=>
    rw [zl1 hk hu] at h;obtain ⟨a,u,_,h2⟩:=bind_ok h;exact hr _ _ _ h2
   | false=>
    rw [zoa hk hu] at h;exact hr _ _ _ h
theorem written_kind {B:PS->Ans Tree} (hB:zkf B):zkf (zc8 B):=by
 intro s t s' h;unfold zc8 at h;split at h
 · exact hB _ _ _ h
 · exact bare_kind _ _ _ h
theorem zmj (B:PS->Ans Tree) (ts:List Tok) (f:Bool):zc8 B ⟨ts,f⟩=if zei (hdT ts).text then B ⟨ts,f⟩ else zd7 ⟨ts,f⟩:=rfl
theorem sim_written {B:PS->Ans Tree} {BD:RS->Tree × RS} (hB:SimB B BD):Sim 1 (zc8 B) (zcf BD):=by
 intro ts pl ok;rw [zmj];unfold zcf;rw [zgp ok];cases h:zei (hdT ts).text with
 | true=>exact hB ts pl ok h
 | false=>exact znn ts pl ok
theorem decl_no (BD:RS->Tree × RS) {ts:List Tok} {pl:Nat} (ok:Okl ts):zce BD false ⟨ts,0,pl⟩=(if (hdT ts).text==ze0 then zdw (.node 25 [] 0 (hdT ts).at_ []) 1 ⟨ts.tail,0,pl⟩ else if (hdT ts).text==zez then zdw (.node 26 [] 0 (hdT ts).at_ []) 2 ⟨ts.tail,0,pl⟩ else if (zcf BD ⟨ts,0,pl⟩).2.is [42] then (zar 17 (zav (zcf BD ⟨ts,0,pl⟩).2.adv).1 [(zcf BD ⟨ts,0,pl⟩).1],(zav (zcf BD ⟨ts,0,pl⟩).2.adv).2) else zdw (zcf BD ⟨ts,0,pl⟩).1 0 (zcf BD ⟨ts,0,pl⟩).2):=by
 unfold zce;rw [zcy (x:=ze0) (Or.inl (by decide)) ok,zcy (x:=zez) (Or.inl (by decide)) ok,Bool.and_false];rfl
theorem decl_yes (BD:RS->Tree × RS) {ts:List Tok} {pl:Nat} (ok:Okl ts):zce BD true ⟨ts,0,pl⟩=if (hdT ts).text==zdc then (.node 13 [] 0 (hdT ts).at_ [],⟨ts.tail,0,pl⟩) else zce BD false ⟨ts,0,pl⟩:=by
 unfold zce;rw [zcy (x:=zdc) (Or.inl (by decide)) ok,Bool.and_true,Bool.and_false];rfl
theorem zi5 (k:Int) {ts:List Tok} {pl:Nat} {x:List UInt8} (ok:Okl ts) (hx:zfk x) (h:((hdT ts).text==x)=true):Agr 1 ts pl (zcw k ⟨ts,false⟩) (.node k [] 0 (hdT ts).at_ [],⟨ts.tail,0,pl⟩):=zjs _ ok (zng hx h)
theorem ziv {B:PS->Ans Tree} {BD:RS->Tree × RS} (hB:SimB B BD) (hK:zkf B):Sim 1 (zb6 B) (zce BD false):=by
 intro ts pl ok;rw [decl_no BD ok];unfold zb6;rw [zct,zct];cases h1:((hdT ts).text==ze0) with
 | true=>
  rw [if_pos rfl,if_pos rfl];exact ((zi5 25 ok (Or.inl (by decide)) h1).bind (j:=1) (Q:=fun t s=>zdq 25 t s) (E:=fun t s=>zdw t 1 s) (fun a ts' ok' _=>zk2 25 1 a (by decide) (by decide) ts' pl ok') (fun a s h=>zfq h _ _)).less (by omega)
 | false=>
  rw [if_neg fne,if_neg fne];cases h2:((hdT ts).text==zez) with
  | true=>
   rw [if_pos rfl,if_pos rfl];exact ((zi5 26 ok (Or.inl (by decide)) h2).bind (j:=1) (Q:=fun t s=>zdq 26 t s) (E:=fun t s=>zdw t 2 s) (fun a ts' ok' _=>zk2 26 2 a (by decide) (by decide) ts' pl ok') (fun a s h=>zfq h _ _)).less (by omega)
  | false=>
   rw [if_neg fne,if_neg fne];refine (Agr.bindP (j:=0) Bk (Q:=fun of s=>if s.sees [42] then s.take.bind fun _ s=>(zcp s).bind fun n s=>.ok (named 17 n [of]) s else zdq of.kind of s) (E:=fun t s=>if s.is [42] then (zar 17 (zav s.adv).1 [t],(zav s.adv).2) else zdw t 0 s) (sim_written hB ts pl ok) (fun a s h=>written_kind hK _ _ _ h) (fun a ts' hp ok' _=>?_) ?_).less (by omega)
   · show Agr 0 ts' pl (if (⟨ts',false⟩:PS).sees [42] then _ else _) (if (⟨ts',0,pl⟩:RS).is [42] then _ else _);rw [zcy (sp_s 42 (by decide)) ok',zct];cases h42:((hdT ts').text==[42]) with
     | true=>
      rw [if_pos rfl,if_pos rfl];exact (zgb (k:=1) (Q:=fun _ s=>(zcp s).bind fun n s=>.ok (named 17 n [a]) s) ok' (zku (zng (sp_s 42 (by decide)) h42)) (fun ok2=>zfa (j:=0) (Q:=fun n s=>.ok (named 17 n [a]) s) (E:=fun n s=>(zar 17 n [a],s)) (fun t ts pl ok=>zfg _ ts pl ok) (fun _ _ _=>rfl) ts'.tail pl ok2)).less (Nat.zero_le _)
     | false=>
      rw [if_neg fne,if_neg fne];refine (zk2 a.kind 0 a ?_ ?_ ts' pl ok').less (Nat.zero_le _)
      · have:=hp.2;simp [this]
      · have h1:=hp.1;have h2:=hp.2;simp [h1,h2]
   · intro a s h;simp only [zdp h,Bool.false_eq_true,if_false,zfq h]
theorem zhf {B:PS->Ans Tree} {BD:RS->Tree × RS} (hB:SimB B BD) (hK:zkf B):Sim 1 (za1 B) (zce BD true):=by
 intro ts pl ok;rw [decl_yes BD ok];unfold za1;rw [zct];cases h1:((hdT ts).text==zdc) with
 | true=>exact zi5 13 ok (Or.inl (by decide)) h1
 | false=>exact ziv hB hK ts pl ok
def zhi (BD:RS->Tree × RS) (s:RS):Tree × RS:=((zce BD true s).1,(zce BD true s).2.want [59])
theorem zk5 {B:PS->Ans Tree} {BD:RS->Tree × RS} (hB:SimB B BD) (hK:zkf B):Sim 1 (za8 B) (zhi BD):=fun ts pl ok=>
 ((zhf hB hK ts pl ok).bind (j:=1) (Q:=fun t s=>(s.want [59]).bind fun _ s=>.ok t s) (E:=fun t s=>(t,s.want [59])) (fun a ts' ok' _=>zcx [59] (sp_s 59 (by decide)) a ok') (fun a s h=>zal h _)).less (by omega)
def Both {α β:Type} (r:Ans α) (q:β × RS):Prop:=∃ e i,e≠0∧r=.no e i∧q.2.e=e∧q.2.pl=i
theorem Both.agr {α β:Type} {k:Nat} {ts:List Tok} {pl:Nat} {r:Ans α} {q:β × RS} (h:Both r q) (Q:α->PS->Ans β):Agr k ts pl (r.bind Q) q:=by
 obtain ⟨e,i,h1,rfl,h2,h3⟩:=h;exact ⟨h1,h2,h3⟩
theorem zlf (acc:List Tree) (t:Tree):acc++[t]≠[]:=by simp
theorem zg0 {ts:List Tok} {f:Bool} {a b:Nat} (h:a≠b):(⟨ts,f⟩:PS).room a b=⟨ts,f⟩:=by unfold PS.room;rw [if_neg h]
theorem zix {ts:List Tok} {f:Bool} {a:Nat} : (⟨ts,f⟩:PS).room a a=⟨ts,true⟩:=by unfold PS.room;rw [if_pos rfl]
theorem sim_some {β:Type} (one:PS->Ans Tree) (oneD:RS->Tree × RS) (h1:Sim 1 one oneD) (ends:List (List UInt8)) (K:List Tree->PS->Ans β) (L T:Nat->List Tree->RS->β × RS) (hL:∀ f acc ts pl,Okl ts->L (f+1) acc ⟨ts,0,pl⟩=T f (acc++[(oneD ⟨ts,0,pl⟩).1]) (oneD ⟨ts,0,pl⟩).2) (stT:∀ f acc s,s.e≠0->(T f acc s).2=s) (hEnd:∀ f acc ts pl,Okl ts->acc≠[]->ends.any (⟨ts,false⟩:PS).sees=true->Agr 0 ts pl (K acc ⟨ts,false⟩) (T f acc ⟨ts,0,pl⟩)) (hGo:∀ f acc ts pl,Okl ts->acc≠[]->acc.length<64->ends.any (⟨ts,false⟩:PS).sees=false->T f acc ⟨ts,0,pl⟩=L f acc ⟨ts,0,pl⟩∨Both (one ⟨ts,false⟩) (T f acc ⟨ts,0,pl⟩)) (hFull:∀ f acc ts pl,Okl ts->acc.length=64->ends.any (⟨ts,false⟩:PS).sees=false->Both (one ⟨ts,true⟩) (T (f+1) acc ⟨ts,0,pl⟩)):∀ (f:Nat) (acc:List Tree) (g:Nat) (ts:List Tok) (pl:Nat),Okl ts->acc≠[]->acc.length<=64->acc.length+f=66->ts.length<g->Agr 0 ts pl ((zcl one ends f acc ⟨ts,false⟩).bind K) (T g acc ⟨ts,0,pl⟩)
 | 0,acc,_,_,_,_,_,h64,h66,_=>by omega
 | f+1,acc,g,ts,pl,ok,hne,h64,h66,hg=>by
  obtain ⟨g,rfl⟩:∃ g' : Nat,g=g'+1:=⟨g-1,by omega⟩;have hem:acc.isEmpty=false:=by cases acc with | nil=>exact absurd rfl hne | cons _ _=>rfl
  rw [zcl,hem,Bool.false_or];cases he:ends.any (⟨ts,false⟩:PS).sees with
  | true=>exact hEnd (g+1) acc ts pl ok hne he
  | false=>
   rw [show (!false)=true from rfl,if_pos rfl];by_cases h6:acc.length=64
   · rw [h6,zix,Ans.bind_bind];exact (hFull g acc ts pl ok h6 he).agr _
   · rw [zg0 h6,Ans.bind_bind];rcases hGo (g+1) acc ts pl ok hne (by omega) he with h|h
     · rw [h,hL g acc ts pl ok];refine ((h1 ts pl ok).bind (j:=0) (Q:=fun t s=>(zcl one ends f (acc++[t]) s).bind K) (E:=fun t s=>T g (acc++[t]) s) (fun t ts' ok' hlt=>?_) (fun t s hs=>stT _ _ s hs)).less (Nat.zero_le _);exact sim_some one oneD h1 ends K L T hL stT hEnd hGo hFull f (acc++[t]) g ts' pl ok' (zlf acc t) (by simp;omega) (by simp;omega) (by omega)
     · exact h.agr _
theorem zk1 {β:Type} (one:PS->Ans Tree) (oneD:RS->Tree × RS) (h1:Sim 1 one oneD) (ends:List (List UInt8)) (K:List Tree->PS->Ans β) (L T:Nat->List Tree->RS->β × RS) (hL:∀ f acc ts pl,Okl ts->L (f+1) acc ⟨ts,0,pl⟩=T f (acc++[(oneD ⟨ts,0,pl⟩).1]) (oneD ⟨ts,0,pl⟩).2) (stT:∀ f acc s,s.e≠0->(T f acc s).2=s) (hEnd:∀ f acc ts pl,Okl ts->acc≠[]->ends.any (⟨ts,false⟩:PS).sees=true->Agr 0 ts pl (K acc ⟨ts,false⟩) (T f acc ⟨ts,0,pl⟩)) (hGo:∀ f acc ts pl,Okl ts->acc≠[]->acc.length<64->ends.any (⟨ts,false⟩:PS).sees=false->T f acc ⟨ts,0,pl⟩=L f acc ⟨ts,0,pl⟩∨Both (one ⟨ts,false⟩) (T f acc ⟨ts,0,pl⟩)) (hFull:∀ f acc ts pl,Okl ts->acc.length=64->ends.any (⟨ts,false⟩:PS).sees=false->Both (one ⟨ts,true⟩) (T (f+1) acc ⟨ts,0,pl⟩)) (g:Nat) (ts:List Tok) (pl:Nat) (ok:Okl ts) (hg:ts.length<g):Agr 1 ts pl ((zcl one ends 66 [] ⟨ts,false⟩).bind K) (L g [] ⟨ts,0,pl⟩):=by
 obtain ⟨g,rfl⟩:∃ g' : Nat,g=g'+1:=⟨g-1,by omega⟩;rw [zcl,show (([]:List Tree).isEmpty||!ends.any (⟨ts,false⟩:PS).sees)=true from rfl,if_pos rfl,show ([]:List Tree).length=0 from rfl,zg0 (by decide),Ans.bind_bind,hL g [] ts pl ok];exact ((h1 ts pl ok).bind (j:=0) (Q:=fun t s=>(zcl one ends 65 ([]++[t]) s).bind K) (E:=fun t s=>T g ([]++[t]) s) (fun t ts' ok' hlt=>sim_some one oneD h1 ends K L T hL stT hEnd hGo hFull 65 ([]++[t]) g ts' pl ok' (zlf [] t) (by simp) (by simp) (by omega)) (fun t s hs=>stT _ _ s hs))
def zjj (x:List UInt8) (one:PS->Ans Tree) (most:Nat):Nat->List Tree->PS->Ans (List Tree)
 | 0,_,s=>s.bad 0
 | f+1,acc,s=>
  if s.sees x then (s.room acc.length most).take.bind fun _ s=>(one s).bind fun t s=>zjj x one most f (acc++[t]) s
  else .ok acc s
theorem more_eq (one:PS->Ans Tree) (most:Nat):∀ f acc s,zha one most f acc s=zjj [44] one most f acc s
 | 0,_,_=>rfl
 | f+1,acc,s=>by
  rw [zha,zjj];split
  · congr 1
    funext _ s
    congr 1
    funext t s
    exact more_eq one most f _ s
  · rfl
theorem sim_more {β:Type} (x:List UInt8) (hx:zfk x) (one:PS->Ans Tree) (oneD:RS->Tree × RS) (h1:Sim 1 one oneD) (most:Nat) (K:List Tree->PS->Ans β) (L T:Nat->List Tree->RS->β × RS) (hL:∀ f acc ts pl,Okl ts->L (f+1) acc ⟨ts,0,pl⟩=T f (acc++[(oneD ⟨ts,0,pl⟩).1]) (oneD ⟨ts,0,pl⟩).2) (stT:∀ f acc s,s.e≠0->(T f acc s).2=s) (hNo:∀ f acc ts pl,Okl ts->acc≠[]->((hdT ts).text==x)=false->Agr 0 ts pl (K acc ⟨ts,false⟩) (T f acc ⟨ts,0,pl⟩)) (hYes:∀ f acc ts pl,Okl ts->acc≠[]->acc.length≠most->((hdT ts).text==x)=true->T f acc ⟨ts,0,pl⟩=L f acc ⟨ts.tail,0,pl⟩) (hFull:∀ f acc ts pl,Okl ts->acc.length=most->((hdT ts).text==x)=true->(T f acc ⟨ts,0,pl⟩).2.e=42∧(T f acc ⟨ts,0,pl⟩).2.pl=(hdT ts).at_):∀ (f:Nat) (acc:List Tree) (g:Nat) (ts:List Tok) (pl:Nat),Okl ts->acc≠[]->acc.length<=most->most<acc.length+f->ts.length<g->Agr 0 ts pl ((zjj x one most f acc ⟨ts,false⟩).bind K) (T g acc ⟨ts,0,pl⟩)
 | 0,acc,_,_,_,_,_,h64,h66,_=>by omega
 | f+1,acc,g,ts,pl,ok,hne,h64,h66,hg=>by
  rw [zjj,zct];cases he:(hdT ts).text==x with
  | false=>exact hNo g acc ts pl ok hne he
  | true=>
   rw [if_pos rfl];by_cases h6:acc.length=most
   · rw [h6,zix,zfp];obtain ⟨h2,h3⟩:=hFull g acc ts pl ok h6 he;exact ⟨by decide,h2,h3⟩
   · rw [zg0 h6,hYes g acc ts pl ok hne h6 he];have hl:=zku (zng hx he);obtain ⟨g,rfl⟩:∃ g' : Nat,g=g'+1:=⟨g-1,by omega⟩;rw [hL g acc ts.tail pl ok.tail,Ans.bind_bind];refine (zgb (k:=1) (Q:=fun _ s=>((one s).bind fun t s=>zjj x one most f (acc++[t]) s).bind K) ok hl (fun ok'=>?_)).less (Nat.zero_le _);rw [Ans.bind_bind];refine (h1 ts.tail pl ok').bind (j:=0) (Q:=fun t s=>(zjj x one most f (acc++[t]) s).bind K) (E:=fun t s=>T g (acc++[t]) s) (fun t ts' ok' hlt=>?_) (fun t s hs=>stT _ _ s hs);exact sim_more x hx one oneD h1 most K L T hL stT hNo hYes hFull f (acc++[t]) g ts' pl ok' (zlf acc t) (by simp;omega) (by simp;omega) (by omega)
theorem zk4 {β:Type} (x:List UInt8) (hx:zfk x) (one:PS->Ans Tree) (oneD:RS->Tree × RS) (h1:Sim 1 one oneD) (most:Nat) (K:List Tree->PS->Ans β) (L T:Nat->List Tree->RS->β × RS) (hL:∀ f acc ts pl,Okl ts->L (f+1) acc ⟨ts,0,pl⟩=T f (acc++[(oneD ⟨ts,0,pl⟩).1]) (oneD ⟨ts,0,pl⟩).2) (stT:∀ f acc s,s.e≠0->(T f acc s).2=s) (hNo:∀ f acc ts pl,Okl ts->acc≠[]->((hdT ts).text==x)=false->Agr 0 ts pl (K acc ⟨ts,false⟩) (T f acc ⟨ts,0,pl⟩)) (hYes:∀ f acc ts pl,Okl ts->acc≠[]->acc.length≠most->((hdT ts).text==x)=true->T f acc ⟨ts,0,pl⟩=L f acc ⟨ts.tail,0,pl⟩) (hFull:∀ f acc ts pl,Okl ts->acc.length=most->((hdT ts).text==x)=true->(T f acc ⟨ts,0,pl⟩).2.e=42∧(T f acc ⟨ts,0,pl⟩).2.pl=(hdT ts).at_) (hm:1<=most) (hm2:most<=64) (g:Nat) (ts:List Tok) (pl:Nat) (f:Nat) (hf:65<=f) (ok:Okl ts) (hg:ts.length<g):Agr 1 ts pl ((one ⟨ts,false⟩).bind fun t s=>(zjj x one most f [t] s).bind K) (L g [] ⟨ts,0,pl⟩):=by
 obtain ⟨g,rfl⟩:∃ g' : Nat,g=g'+1:=⟨g-1,by omega⟩;rw [hL g [] ts pl ok];exact ((h1 ts pl ok).bind (j:=0) (Q:=fun t s=>(zjj x one most f [t] s).bind K) (E:=fun t s=>T g ([]++[t]) s) (fun t ts' ok' hlt=>sim_more x hx one oneD h1 most K L T hL stT hNo hYes hFull f [t] g ts' pl ok' (by simp) (by simpa using hm) (by simp;omega) (by omega)) (fun t s hs=>stT _ _ s hs))
theorem zf2 {ts:List Tok} {pl:Nat} {x:List UInt8} (hx:zfk x) (ok:Okl ts) (h:((hdT ts).text==x)=true):(⟨ts,0,pl⟩:RS).want x=⟨ts.tail,0,pl⟩:=by unfold RS.want;rw [zcy hx ok,h];rfl
theorem znc {ts:List Tok} {pl:Nat} {x:List UInt8} (hx:zfk x) (ok:Okl ts) (h:((hdT ts).text==x)=false):(⟨ts,0,pl⟩:RS).want x=⟨ts,40,(hdT ts).at_⟩:=by unfold RS.want;rw [zcy hx ok,h];rfl
theorem zlm (ts:List Tok) (pl:Nat) (e:Int):(⟨ts,0,pl⟩:RS).fail e=⟨ts,e,(hdT ts).at_⟩:=rfl
theorem other {t x y:List UInt8} (h:(t==x)=true) (hn:x≠y):(t==y)=false:=by rw [eq_of_beq h];simp [hn]
theorem full_bare {ts:List Tok} (ok:Okl ts) (pl:Nat):zd7 ⟨ts,true⟩=.no (if (⟨ts,0,pl⟩:RS).begins then 42 else 40) (hdT ts).at_:=by
 by_cases hk:(hdT ts).kind=1
 · rw [zf0,hk];unfold zd7 refP zcp PS.ofKind;rw [if_pos (show (⟨ts,true⟩:PS).hd.kind=1 from hk),if_pos (show (⟨ts,true⟩:PS).hd.kind=1 from hk)];rfl
 · cases hu:((hdT ts).text==zbh) with
   | true=>
    have k2:(hdT ts).kind=2:=ok.hd.word (by show za6 (hdT ts).text=true;rw [eq_of_beq hu];decide);rw [zl1 (s:=⟨ts,true⟩) hk hu,zf0,hu,k2];rfl
   | false=>
    rw [zoa (s:=⟨ts,true⟩) hk hu,zf0,hu,beq_no hk];unfold zns;rw [hd_P];have hf:=find_no (hdT ts).text;by_cases hb0:baseD (hdT ts).text=0
    · rw [if_pos hb0] at hf;rw [Option.map_eq_none_iff.1 hf,hb0];simp [PS.bad,hd_P]
    · rw [if_neg hb0] at hf;obtain ⟨b,hb,_⟩:=Option.map_eq_some_iff.1 hf;rw [hb,show (hdT ts).kind=2 from ok.hd.word (base_word hb0)];simp [hb0,zfp,Ans.bind]
def FullB (B:PS->Ans Tree) (last:Bool):Prop:=∀ ts,zei (hdT ts).text=true->B ⟨ts,true⟩=.no (if last then 41 else 42) (hdT ts).at_
theorem zlq {ts:List Tok} {pl:Nat} (ok:Okl ts):(⟨ts,0,pl⟩:RS).declares=(zei (hdT ts).text||((⟨ts,0,pl⟩:RS).begins||((hdT ts).text==zdc||((hdT ts).text==ze0||(hdT ts).text==zez)))):=by
 unfold RS.declares;rw [zgp ok,hd_D];cases h:((hdT ts).text==zdc||((hdT ts).text==ze0||(hdT ts).text==zez)) with
 | false=>simp
 | true=>
  have k2:(hdT ts).kind=2:=by
   refine ok.hd.word (show za6 (hdT ts).text=true from ?_);simp only [Bool.or_eq_true,beq_iff_eq] at h;rcases h with h|h|h <;> (rw [h];decide)
  rw [k2];rfl
def declC (ts:List Tok) (pl:Nat) (last:Bool):Int:=if (⟨ts,0,pl⟩:RS).declares then (if zei (hdT ts).text&&last then 41 else 42) else 40
theorem full_decl {B:PS->Ans Tree} {last:Bool} (hF:FullB B last) {ts:List Tok} (ok:Okl ts) (pl:Nat):za1 B ⟨ts,true⟩=.no (declC ts pl last) (hdT ts).at_:=by
 unfold declC;rw [zlq ok];unfold za1 zb6;rw [zct,zct,zct,zmj];cases h1:((hdT ts).text==zdc) with
 | true=>
  rw [show zei (hdT ts).text=false by rw [eq_of_beq h1];decide];simp [zcw,zfp,Ans.bind]
 | false=>
  cases h2:((hdT ts).text==ze0) with
  | true=>
   rw [show zei (hdT ts).text=false by rw [eq_of_beq h2];decide];simp [zcw,zfp,Ans.bind]
  | false=>
   cases h3:((hdT ts).text==zez) with
   | true=>
    rw [show zei (hdT ts).text=false by rw [eq_of_beq h3];decide];simp [zcw,zfp,Ans.bind]
   | false=>
    cases h4:zei (hdT ts).text with
    | true=>
     rw [if_pos rfl,hF ts h4];cases last <;> simp [Ans.bind]
    | false=>
     rw [if_neg fne,full_bare ok pl];cases (⟨ts,0,pl⟩:RS).begins <;> simp [Ans.bind]
theorem full_field {B:PS->Ans Tree} {last:Bool} (hF:FullB B last) {ts:List Tok} (ok:Okl ts) (pl:Nat):za8 B ⟨ts,true⟩=.no (declC ts pl last) (hdT ts).at_:=by
 unfold za8;rw [full_decl hF ok pl];rfl
theorem bare_none {ts:List Tok} {pl:Nat} (h:(⟨ts,0,pl⟩:RS).begins=false):(zed ⟨ts,0,pl⟩).2=⟨ts,40,(hdT ts).at_⟩:=by
 unfold zed;rw [h];rfl
theorem typed_none {BD:RS->Tree × RS} {ts:List Tok} {pl:Nat} (ok:Okl ts) (h:(⟨ts,0,pl⟩:RS).begins=false) (hb:zei (hdT ts).text=false):(zcf BD ⟨ts,0,pl⟩).2=⟨ts,40,(hdT ts).at_⟩:=by
 unfold zcf;rw [zgp ok,hb,Bool.and_false,if_neg fne];exact bare_none h
theorem decl_none {BD:RS->Tree × RS} {ts:List Tok} {pl:Nat} (v:Bool) (ok:Okl ts) (h:(⟨ts,0,pl⟩:RS).declares=false):(zce BD v ⟨ts,0,pl⟩).2=⟨ts,40,(hdT ts).at_⟩:=by
 rw [zlq ok] at h;simp only [Bool.or_eq_false_iff] at h;obtain ⟨h1,h2,h3,h4,h5⟩:=h;have e:(zce BD false ⟨ts,0,pl⟩).2=⟨ts,40,(hdT ts).at_⟩:=by
  have ht:=typed_none (BD:=BD) ok h2 h1;have hs:((zcf BD ⟨ts,0,pl⟩).2).e≠0:=by rw [ht];show (40:Int)≠0;decide
  rw [decl_no BD ok,h4,h5,if_neg fne,if_neg fne,zdp hs,if_neg fne,zfq hs,ht]
 cases v with
 | false=>exact e
 | true=>rw [decl_yes BD ok,h3,if_neg fne,e]
theorem at40 (ts:List Tok):(⟨ts,40,(hdT ts).at_⟩:RS).e≠0:=by show (40:Int)≠0;decide
theorem at42 (ts:List Tok):(⟨ts,42,(hdT ts).at_⟩:RS).e≠0:=by show (42:Int)≠0;decide
theorem at41 (ts:List Tok):(⟨ts,41,(hdT ts).at_⟩:RS).e≠0:=by show (41:Int)≠0;decide
def zib (BD:RS->Tree × RS) (last:Bool) (f:Nat) (acc:List Tree) (s:RS):List Tree × RS:=if s.is [125] then (acc,s.adv) else zc7 BD last f acc (if s.declares&&acc.length==64 then (if s.bodied != 0&&last then s.fail 41 else s).fail 42 else s)
theorem zi0 {BD:RS->Tree × RS} {last:Bool} (f:Nat) (acc:List Tree) (s:RS) (h:s.e≠0):(zib BD last f acc s).2=s:=by
 unfold zib;simp only [zdp h,zdu h,ite_self,Bool.false_eq_true,if_false,zep h]
theorem zm5 (BD:RS->Tree × RS) (last:Bool) (f:Nat) (acc:List Tree) (ts:List Tok) (pl:Nat):zc7 BD last (f+1) acc ⟨ts,0,pl⟩=zib BD last f (acc++[(zhi BD ⟨ts,0,pl⟩).1]) (zhi BD ⟨ts,0,pl⟩).2:=by
 rw [zc7];rfl
theorem zjq (ts:List Tok) (x:List UInt8):[x].any (⟨ts,false⟩:PS).sees=((hdT ts).text==x):=by simp [zct]
theorem sim_fields {B:PS->Ans Tree} {BD:RS->Tree × RS} {last:Bool} (hB:SimB B BD) (hK:zkf B) (hF:FullB B last):Sim 1 (zc1 B) (fieldsD BD last):=by
 intro ts pl ok;refine zau (j:=0) [123] (sp_s 123 (by decide)) ok (Q:=fun s=>(zcl (za8 B) [[125]] 66 [] s).bind fun l s=>(s.want [125]).bind fun _ s=>.ok l s) (E:=fun s=>zc7 BD last (s.ts.length+1) [] s) (fun ts' ok' _=>?_) (fun s h=>by rw [zep h]);refine (zk1 (za8 B) (zhi BD) (zk5 hB hK) [[125]] (fun l s=>(s.want [125]).bind fun _ s=>.ok l s) (zc7 BD last) (zib BD last) (fun f acc ts pl _=>zm5 BD last f acc ts pl) zi0 ?_ ?_ ?_ (ts'.length+1) ts' pl ok' (Nat.lt_succ_self _)).less (Nat.zero_le _)
 · intro f acc ts pl ok _ he;rw [zjq] at he;unfold zib;rw [zcy (sp_s 125 (by decide)) ok,he,if_pos rfl,show (⟨ts,0,pl⟩:RS).adv=(⟨ts,0,pl⟩:RS).want [125] from (zf2 (sp_s 125 (by decide)) ok he).symm];exact (zcx [125] (sp_s 125 (by decide)) acc ok).less (Nat.zero_le _)
 · intro f acc ts pl ok _ hl he;rw [zjq] at he;left
   unfold zib;rw [zcy (sp_s 125 (by decide)) ok,he,if_neg fne,show (acc.length==64)=false by simp;omega,Bool.and_false,if_neg fne]
 · intro f acc ts pl ok hl he;rw [zjq] at he;have e1:=full_field hF ok pl;unfold zib;rw [zcy (sp_s 125 (by decide)) ok,he,if_neg fne,hl];unfold declC at e1;cases hd:(⟨ts,0,pl⟩:RS).declares with
   | true=>
    rw [hd,if_pos rfl] at e1;rw [show ((true:Bool)&&(64:Nat)==64)=true from rfl,if_pos rfl,zgp ok];cases hb:zei (hdT ts).text&&last with
    | true=>
     rw [hb] at e1;rw [if_pos rfl,zlm,zdu (at41 ts),zep (at41 ts)];exact ⟨41,_,by decide,e1,rfl,rfl⟩
    | false=>
     rw [hb] at e1;rw [if_neg fne,zlm,zep (at42 ts)];exact ⟨42,_,by decide,e1,rfl,rfl⟩
   | false=>
    rw [hd,if_neg fne] at e1;rw [Bool.false_and,if_neg fne,zm5];have e2:(zhi BD ⟨ts,0,pl⟩).2=⟨ts,40,(hdT ts).at_⟩:=by
     show (zce BD true ⟨ts,0,pl⟩).2.want [59]=_;rw [decl_none true ok hd,zal (at40 ts)]
    refine ⟨40,_,by decide,e1,?_,?_⟩ <;> rw [e2,zi0 _ _ _ (at40 ts)]
def zn1 (s:RS):Tree × RS:=(zar 5 (zav s).1 [(zao ((zav s).2.want [61])).1],(zao ((zav s).2.want [61])).2)
theorem sim_member:Sim 1 zgf zn1:=by
 refine zfa (j:=0) (Q:=fun n s=>(s.want [61]).bind fun _ s=>(zbz s).bind fun v s=>.ok (named 5 n [v]) s) (E:=fun n s=>(zar 5 n [(zao (s.want [61])).1],(zao (s.want [61])).2)) ?_ ?_
 · intro t ts pl ok;refine (zau (j:=0) [61] (sp_s 61 (by decide)) ok (Q:=fun s=>(zbz s).bind fun v s=>.ok (named 5 t [v]) s) (E:=fun s=>(zar 5 (t.text,t.at_) [(zao s).1],(zao s).2)) (fun ts' ok' _=>?_) (fun s h=>zh4 h)).less (Nat.zero_le _);exact ((ziu ts' pl ok').bind (j:=0) (Q:=fun v s=>.ok (named 5 t [v]) s) (E:=fun v s=>(zar 5 (t.text,t.at_) [v],s)) (fun v ts2 ok2 _=>zfg _ ts2 pl ok2) (fun _ _ _=>rfl)).less (Nat.zero_le _)
 · intro n s h;show (zao (s.want [61])).2=s;rw [zal h,zh4 h]
def zg3 (f:Nat) (acc:List Tree) (s:RS):List Tree × RS:=if s.is [125] then (acc,s.adv) else zcq f acc ((if s.is [44]&&acc.length==64 then s.fail 42 else s).want [44])
theorem zmg (f:Nat) (acc:List Tree) (s:RS) (h:s.e≠0):(zg3 f acc s).2=s:=by
 unfold zg3;simp only [zdp h,Bool.false_and,Bool.false_eq_true,if_false,zal h,zd6 h]
theorem membersL_eq (f:Nat) (acc:List Tree) (ts:List Tok) (pl:Nat):zcq (f+1) acc ⟨ts,0,pl⟩=zg3 f (acc++[(zn1 ⟨ts,0,pl⟩).1]) (zn1 ⟨ts,0,pl⟩).2:=by
 rw [zcq];rfl
theorem sim_members:Sim 1 zca ze7:=by
 intro ts pl ok;refine zau (j:=0) [123] (sp_s 123 (by decide)) ok (Q:=fun s=>(zfd zgf 64 s).bind fun l s=>(s.want [125]).bind fun _ s=>.ok l s) (E:=fun s=>zcq (s.ts.length+1) [] s) (fun ts' ok' _=>?_) (fun s h=>by rw [zd6 h]);have h:=zk4 [44] (sp_s 44 (by decide)) zgf zn1 sim_member 64 (fun l s=>(s.want [125]).bind fun _ s=>.ok l s) zcq zg3 (fun f acc ts pl _=>membersL_eq f acc ts pl) zmg ?_ ?_ ?_ (by decide) (by decide) (ts'.length+1) ts' pl 66 (by decide) ok' (Nat.lt_succ_self _)
 · unfold zfd;rw [Ans.bind_bind];simp only [more_eq];exact h.less (Nat.zero_le _)
 · intro f acc ts pl ok _ he;unfold zg3;rw [zcy (sp_s 125 (by decide)) ok,zcy (sp_s 44 (by decide)) ok,he,Bool.false_and,if_neg fne];cases hb:((hdT ts).text==[125]) with
   | true=>
    rw [if_pos rfl,show (⟨ts,0,pl⟩:RS).adv=(⟨ts,0,pl⟩:RS).want [125] from (zf2 (sp_s 125 (by decide)) ok hb).symm];exact (zcx [125] (sp_s 125 (by decide)) acc ok).less (Nat.zero_le _)
   | false=>
    rw [if_neg fne,znc (sp_s 44 (by decide)) ok he,zd6 (at40 ts)];unfold PS.want;rw [zct,hb];exact ⟨by decide,rfl,rfl⟩
 · intro f acc ts pl ok _ hl he;unfold zg3;rw [zcy (sp_s 125 (by decide)) ok,zcy (sp_s 44 (by decide)) ok,he,other he (by decide),if_neg fne,show (acc.length==64)=false by simp;omega,Bool.and_false,if_neg fne,zf2 (sp_s 44 (by decide)) ok he]
 · intro f acc ts pl ok hl he;unfold zg3;rw [zcy (sp_s 125 (by decide)) ok,zcy (sp_s 44 (by decide)) ok,he,other he (by decide),if_neg fne,hl,show ((true:Bool)&&(64:Nat)==64)=true from rfl,if_pos rfl,zlm,zal (at42 ts),zd6 (at42 ts)];exact ⟨rfl,rfl⟩
def oneC (s:PS):Ans Tree:=(zbz s).bind fun v s=>(s.want [58]).bind fun _ s=>.ok v s
def oneCD (s:RS):Tree × RS:=((zao s).1,(zao s).2.want [58])
theorem sim_oneC:Sim 1 oneC oneCD:=fun ts pl ok=>((ziu ts pl ok).bind (j:=1) (Q:=fun v s=>(s.want [58]).bind fun _ s=>.ok v s) (E:=fun v s=>(v,s.want [58])) (fun v ts' ok' _=>zcx [58] (sp_s 58 (by decide)) v ok') (fun a s h=>zal h _)).less (by omega)
theorem cases_eq:∀ (f:Nat) (acc:List Tree) (s:PS),acc≠[]->zdl f acc s=zjj zb3 oneC 64 f acc s
 | 0,_,_,_=>rfl
 | f+1,acc,s,h=>by
  have hem:acc.isEmpty=false:=by cases acc with | nil=>exact absurd rfl h | cons _ _=>rfl
  rw [zdl,zjj,hem,Bool.false_or];cases hs:s.sees zb3 with
  | false=>rfl
  | true=>
   rw [if_pos rfl,if_pos rfl];unfold PS.want;rw [show (s.room acc.length 64).sees zb3=true by unfold PS.room;split <;> exact hs,if_pos rfl,Ans.bind_bind];congr 1
   funext _ s
   show (zbz s).bind _=(oneC s).bind _;unfold oneC;rw [Ans.bind_bind];congr 1
   funext v s
   rw [Ans.bind_bind];unfold PS.want;congr 1
   funext _ s
   exact cases_eq f (acc++[v]) s (zlf acc v)
def zlu (f:Nat) (acc:List Tree) (s:RS):List Tree × RS:=if s.is zb3 then zex f acc ((if acc.length==64 then s.fail 42 else s).want zb3) else (acc,s)
theorem casesT_stuck (f:Nat) (acc:List Tree) (s:RS) (h:s.e≠0):zlu f acc s=(acc,s):=by
 unfold zlu;rw [zdp h,if_neg fne]
theorem casesL_eq (f:Nat) (acc:List Tree) (ts:List Tok) (pl:Nat):zex (f+1) acc ⟨ts,0,pl⟩=zlu f (acc++[(oneCD ⟨ts,0,pl⟩).1]) (oneCD ⟨ts,0,pl⟩).2:=by
 rw [zex];rfl
def armCs (BD:RS->Tree × RS) (a:Nat) (r:List Tree × RS):Tree × RS:=(.node 8 [] 0 a (r.1++[(zhi BD r.2).1]),(zhi BD r.2).2)
theorem zg5 {BD:RS->Tree × RS} {s:RS} (h:s.e≠0):(zhi BD s).2=s:=by
 show (zce BD true s).2.want [59]=s;rw [zm7 h,zal h]
theorem armD_eq (BD:RS->Tree × RS) (s:RS):armD BD s=armCs BD s.hd.at_ (zex ((s.want zb3).ts.length+1) [] (s.want zb3)):=rfl
theorem zgw:zfk zb3:=Or.inl (by decide)
theorem armP_eq (B:PS->Ans Tree) (s:PS):armP B s=((s.room 0 64).want zb3).bind fun _ u=>(oneC u).bind fun v u=>(zjj zb3 oneC 64 65 [v] u).bind fun l u=>(za8 B u).bind fun t u=>.ok (.node 8 [] 0 s.hd.at_ (l++[t])) u:=by
 unfold armP;rw [zdl,show (([]:List Tree).isEmpty||s.sees zb3)=true from rfl,if_pos rfl,Ans.bind_bind];congr 1
 funext _ u
 unfold oneC;rw [Ans.bind_bind,Ans.bind_bind];congr 1
 funext v u
 rw [Ans.bind_bind,Ans.bind_bind];congr 1
 funext _ u
 rw [cases_eq 65 ([]++[v]) u (zlf [] v)];rfl
theorem sim_arm {B:PS->Ans Tree} {BD:RS->Tree × RS} (hB:SimB B BD) (hK:zkf B):Sim 1 (armP B) (armD BD):=by
 intro ts pl ok;rw [armP_eq,armD_eq,zg0 (by decide),hd_P,hd_D];refine (zau (j:=0) zb3 zgw ok (Q:=fun u=>(oneC u).bind fun v u=>(zjj zb3 oneC 64 65 [v] u).bind fun l u=>(za8 B u).bind fun t u=>.ok (.node 8 [] 0 (hdT ts).at_ (l++[t])) u) (E:=fun s=>armCs BD (hdT ts).at_ (zex (s.ts.length+1) [] s)) (fun ts' ok' _=>?_) (fun s h=>by rw [zii h];exact zg5 h)).less (by omega);refine (zk4 zb3 zgw oneC oneCD sim_oneC 64 (fun l u=>(za8 B u).bind fun t u=>.ok (.node 8 [] 0 (hdT ts).at_ (l++[t])) u) (fun f acc s=>armCs BD (hdT ts).at_ (zex f acc s)) (fun f acc s=>armCs BD (hdT ts).at_ (zlu f acc s)) (fun f acc ts pl _=>by rw [casesL_eq]) (fun f acc s h=>by rw [casesT_stuck _ _ _ h];exact zg5 h) ?_ ?_ ?_ (by decide) (by decide) (ts'.length+1) ts' pl 65 (by decide) ok' (Nat.lt_succ_self _)).less (Nat.zero_le _)
 · intro f acc us pl ok _ he;unfold zlu;rw [zcy zgw ok,he,if_neg fne];exact ((zk5 hB hK us pl ok).bind (j:=0) (Q:=fun t u=>.ok (Tree.node 8 [] 0 (hdT ts).at_ (acc++[t])) u) (E:=fun t u=>(Tree.node 8 [] 0 (hdT ts).at_ (acc++[t]),u)) (fun t ts2 ok2 _=>zfg _ ts2 pl ok2) (fun _ _ _=>rfl)).less (Nat.zero_le _)
 · intro f acc us pl ok _ hl he;unfold zlu;rw [zcy zgw ok,he,if_pos rfl,show (acc.length==64)=false by simp;omega,if_neg fne,zf2 zgw ok he]
 · intro f acc us pl ok hl he;unfold zlu;rw [zcy zgw ok,he,if_pos rfl,hl,show ((64:Nat)==64)=true from rfl,if_pos rfl,zlm,zal (at42 us),zii (at42 us)];unfold armCs;simp only;rw [zg5 (at42 us)];exact ⟨rfl,rfl⟩
theorem agr_up {α:Type} {k:Nat} {ts:List Tok} {pl:Nat} {r:Ans α} {q:α × RS} (h:Agr k ts.tail pl r q) (hl:ts.tail.length+1<=ts.length):Agr (1+k) ts pl r q:=by
 cases r with
 | ok a s=>exact ⟨h.1,h.2.1,by have:=h.2.2.1;omega,h.2.2.2⟩
 | no e i=>exact h
def restR (BD:RS->Tree × RS) (r:List Tree × RS):List Tree × RS:=zgm BD r.1 r.2
def armsT (BD:RS->Tree × RS) (f:Nat) (l:List Tree) (s:RS):List Tree × RS:=if s.is zb3 then zf1 BD f l (if 64<l.length then s.fail 42 else s) else (l,s)
theorem armsL_eq (BD:RS->Tree × RS) (f:Nat) (acc:List Tree) (ts:List Tok) (pl:Nat):zf1 BD (f+1) acc ⟨ts,0,pl⟩=armsT BD f (acc++[(armD BD ⟨ts,0,pl⟩).1]) (armD BD ⟨ts,0,pl⟩).2:=by
 rw [zf1];rfl
theorem armsT_stuck {BD:RS->Tree × RS} (f:Nat) (l:List Tree) (s:RS) (h:s.e≠0):armsT BD f l s=(l,s):=by
 unfold armsT;rw [zdp h,if_neg fne]
theorem zje:zfk za2:=Or.inl (by decide)
def znt (B:PS->Ans Tree) (d:Tree) (l:List Tree) (s:PS):Ans (List Tree):=
 if s.sees za2 then
  (zcw 9 s).bind fun e s=>(s.want [58]).bind fun _ s=>(za8 B s).bind fun t s=>(s.want [125]).bind fun _ s=>
   match e with
   | .node k n m i _=>.ok (d::l++[.node k n m i [t]]) s
 else (s.want [125]).bind fun _ s=>.ok (d::l) s
theorem sim_rest {B:PS->Ans Tree} {BD:RS->Tree × RS} (hB:SimB B BD) (hK:zkf B) (d:Tree) (l:List Tree) {ts:List Tok} {pl:Nat} (ok:Okl ts):Agr 0 ts pl (znt B d l ⟨ts,false⟩) (zgm BD (d::l) ⟨ts,0,pl⟩):=by
 unfold znt zgm;rw [zct,zcy zje ok];cases h:((hdT ts).text==za2) with
 | true=>
  rw [if_pos rfl,if_pos rfl];show Agr 0 ts pl (((⟨ts.tail,false⟩:PS).want [58]).bind fun _ s=>(za8 B s).bind fun t s=>(s.want [125]).bind fun _ s=>.ok (d::l++[.node 9 [] 0 (hdT ts).at_ [t]]) s) _;refine (agr_up (k:=1+0) ?_ (zku (zng zje h))).less (Nat.zero_le _);refine (zau (j:=0) [58] (sp_s 58 (by decide)) ok.tail (Q:=fun s=>(za8 B s).bind fun t s=>(s.want [125]).bind fun _ s=>.ok (d::l++[.node 9 [] 0 (hdT ts).at_ [t]]) s) (E:=fun s=>(d::l++[.node 9 [] 0 (hdT ts).at_ [(zhi BD s).1]],(zhi BD s).2.want [125])) (fun ts' ok' _=>?_) (fun s h=>by
   show (zhi BD s).2.want [125]=s;rw [zg5 h,zal h]))
  exact ((zk5 hB hK ts' pl ok').bind (j:=1) (Q:=fun t s=>(s.want [125]).bind fun _ s=>.ok (d::l++[.node 9 [] 0 (hdT ts).at_ [t]]) s) (E:=fun t s=>(d::l++[.node 9 [] 0 (hdT ts).at_ [t]],s.want [125])) (fun t ts2 ok2 _=>zcx [125] (sp_s 125 (by decide)) _ ok2) (fun _ s h=>zal h _)).less (Nat.zero_le _)
 | false=>
  rw [if_neg fne,if_neg fne];exact (zcx [125] (sp_s 125 (by decide)) _ ok).less (Nat.zero_le _)
theorem full_arm (B:PS->Ans Tree) (ts:List Tok) (f:Bool):((hdT ts).text==zb3)=false->armP B ⟨ts,f⟩=.no 40 (hdT ts).at_:=fun h=>by
 rw [armP_eq,zg0 (by decide)];unfold PS.want;rw [zct,h];rfl
theorem full_arm2 (B:PS->Ans Tree) (ts:List Tok):((hdT ts).text==zb3)=true->armP B ⟨ts,true⟩=.no 42 (hdT ts).at_:=fun h=>by
 rw [armP_eq,zg0 (by decide)];unfold PS.want;rw [zct,h];rfl
theorem any_two (ts:List Tok):[za2,[125]].any (⟨ts,false⟩:PS).sees=((hdT ts).text==za2||(hdT ts).text==[125]):=by simp [zct]
theorem rest_none {BD:RS->Tree × RS} {ts:List Tok} {pl:Nat} (ok:Okl ts) (l:List Tree) (he:((hdT ts).text==za2||(hdT ts).text==[125])=false):zgm BD l ⟨ts,0,pl⟩=(l,⟨ts,40,(hdT ts).at_⟩):=by
 rw [Bool.or_eq_false_iff] at he;unfold zgm;rw [zcy zje ok,he.1,if_neg fne,znc (sp_s 125 (by decide)) ok he.2]
theorem sim_arms {B:PS->Ans Tree} {BD:RS->Tree × RS} (hB:SimB B BD) (hK:zkf B) (d:Tree) {ts:List Tok} {pl:Nat} (ok:Okl ts):Agr 1 ts pl ((zcl (armP B) [za2,[125]] 66 [] ⟨ts,false⟩).bind fun l s=>znt B d l s) (restR BD (zf1 BD (ts.length+1) [d] ⟨ts,0,pl⟩)):=by
 refine zk1 (armP B) (armD BD) (sim_arm hB hK) [za2,[125]] (fun l s=>znt B d l s) (fun f acc s=>restR BD (zf1 BD f (d::acc) s)) (fun f acc s=>restR BD (armsT BD f (d::acc) s)) (fun f acc ts pl _=>by rw [armsL_eq];rfl) (fun f acc s h=>by rw [armsT_stuck _ _ _ h];exact congrArg Prod.snd (zjg h _)) ?_ ?_ ?_ (ts.length+1) ts pl ok (Nat.lt_succ_self _)
 · intro f acc ts pl ok _ he;rw [any_two] at he;unfold armsT;have hc:((hdT ts).text==zb3)=false:=by
    rw [Bool.or_eq_true] at he;rcases he with h|h
    · exact other h (by decide)
    · exact other h (by decide)
   rw [zcy zgw ok,hc,if_neg fne];exact sim_rest hB hK d acc ok
 · intro f acc ts pl ok _ hl he;rw [any_two] at he;unfold armsT;rw [zcy zgw ok];cases hc:((hdT ts).text==zb3) with
   | true=>
    (left);rw [if_pos rfl,if_neg (by simp;omega)]
   | false=>
    (right);rw [if_neg fne];refine ⟨40,_,by decide,full_arm B ts false hc,?_,?_⟩ <;> (unfold restR;rw [rest_none ok _ he])
 · intro f acc ts pl ok hl he;rw [any_two] at he;unfold armsT;rw [zcy zgw ok];cases hc:((hdT ts).text==zb3) with
   | true=>
    rw [if_pos rfl,if_pos (by simp;omega),zlm,zjn (at42 ts)];refine ⟨42,_,by decide,full_arm2 B ts hc,?_,?_⟩ <;> (unfold restR;rw [zjg (at42 ts)])
   | false=>
    rw [if_neg fne];refine ⟨40,_,by decide,full_arm B ts true hc,?_,?_⟩ <;> (unfold restR;rw [rest_none ok _ he])
def choE5 (BD:RS->Tree × RS) (d:Tree) (s:RS):List Tree × RS:=restR BD (zf1 BD (s.ts.length+1) [d] s)
def choE3 (BD:RS->Tree × RS) (d:Tree) (s:RS):List Tree × RS:=choE5 BD d ((s.want [41]).want [123])
def choE2 (BD:RS->Tree × RS) (s:RS):List Tree × RS:=choE3 BD (zce BD true s).1 (zce BD true s).2
theorem zid {BD:RS->Tree × RS} {d:Tree} {s:RS} (h:s.e≠0):(choE5 BD d s).2=s:=by unfold choE5;rw [zjn h];exact congrArg Prod.snd (zjg h _)
theorem zls {BD:RS->Tree × RS} {d:Tree} {s:RS} (h:s.e≠0):(choE3 BD d s).2=s:=by unfold choE3;rw [zal h,zal h,zid h]
theorem zie {BD:RS->Tree × RS} {s:RS} (h:s.e≠0):(choE2 BD s).2=s:=by unfold choE2;rw [zm7 h,zls h]
theorem sim_choice {B:PS->Ans Tree} {BD:RS->Tree × RS} (hB:SimB B BD) (hK:zkf B):Sim 1 (zcr B) (zgh BD):=by
 intro ts pl ok;refine (zau (j:=0) zgu (Or.inl (by decide)) ok (Q:=fun s=>(s.want [40]).bind fun _ s=>(za1 B s).bind fun d s=>(s.want [41]).bind fun _ s=>(s.want [123]).bind fun _ s=>(zcl (armP B) [za2,[125]] 66 [] s).bind fun l s=>znt B d l s) (E:=fun s=>choE2 BD (s.want [40])) (fun ts' ok' _=>?_) (fun s h=>by rw [zal h,zie h]));refine (zau (j:=0) [40] (sp_s 40 (by decide)) ok' (Q:=fun s=>(za1 B s).bind fun d s=>(s.want [41]).bind fun _ s=>(s.want [123]).bind fun _ s=>(zcl (armP B) [za2,[125]] 66 [] s).bind fun l s=>znt B d l s) (E:=fun s=>choE2 BD s) (fun ts2 ok2 _=>?_) (fun s h=>zie h)).less (Nat.zero_le _);refine ((zhf hB hK ts2 pl ok2).bind (j:=0) (Q:=fun d s=>(s.want [41]).bind fun _ s=>(s.want [123]).bind fun _ s=>(zcl (armP B) [za2,[125]] 66 [] s).bind fun l s=>znt B d l s) (E:=fun d s=>choE3 BD d s) (fun d ts3 ok3 _=>?_) (fun d s h=>zls h)).less (Nat.zero_le _);refine (zau (j:=0) [41] (sp_s 41 (by decide)) ok3 (Q:=fun s=>(s.want [123]).bind fun _ s=>(zcl (armP B) [za2,[125]] 66 [] s).bind fun l s=>znt B d l s) (E:=fun s=>choE5 BD d (s.want [123])) (fun ts4 ok4 _=>?_) (fun s h=>by rw [zal h,zid h])).less (Nat.zero_le _);refine (zau (j:=0) [123] (sp_s 123 (by decide)) ok4 (Q:=fun s=>(zcl (armP B) [za2,[125]] 66 [] s).bind fun l s=>znt B d l s) (E:=fun s=>choE5 BD d s) (fun ts5 ok5 _=>?_) (fun s h=>zid h)).less (Nat.zero_le _);exact (sim_arms hB hK d ok5).less (Nat.zero_le _)
def kP (d:Nat) (T:List UInt8) (s:PS):Ans (List Tree):=if T=zd4 then zca s else if T=zbk then zc1 (zbe d false) s else zcr (zbe d false) s
theorem zlw {T:List UInt8} (h:zei T=true):T=zd4∨T=zbk∨T=zes:=by
 unfold zei at h;simp only [Bool.or_eq_true,beq_iff_eq] at h;rcases h with (h|h)|h
 · exact Or.inl h
 · exact Or.inr (Or.inl h)
 · exact Or.inr (Or.inr h)
theorem kP_bind {d:Nat} {T:List UInt8} (h:zei T=true) (na:List UInt8 × Nat) (s:PS):(if T=zd4 then (zca s).bind fun l s=>.ok (.node 4 na.1 0 na.2 l) s
     else if T=zbk then (zc1 (zbe d false) s).bind fun l s=>.ok (.node 6 na.1 0 na.2 l) s
     else (zcr (zbe d false) s).bind fun l s=>.ok (.node 7 na.1 0 na.2 l) s)=(kP d T s).bind fun l s=>Ans.ok (Tree.node (zhc T) na.1 0 na.2 l) s:=by
 unfold kP;rcases zlw h with rfl|rfl|rfl
 · rw [if_pos rfl,if_pos rfl];rfl
 · rw [if_neg (show ¬ zbk=zd4 by decide),if_neg (show ¬ zbk=zd4 by decide),if_pos rfl,if_pos rfl];rfl
 · rw [if_neg (show ¬ zes=zd4 by decide),if_neg (show ¬ zes=zd4 by decide),if_neg (show ¬ zes=zbk by decide),if_neg (show ¬ zes=zbk by decide)];rfl
theorem body_no {d:Nat} {ts:List Tok} (h:zei (hdT ts).text=true):zbe (d+1) false ⟨ts,false⟩=(kP d (hdT ts).text ⟨ts.tail,false⟩).bind fun l s=>.ok (.node (zhc (hdT ts).text) [] 0 (hdT ts).at_ l) s:=by
 rw [<- kP_bind (d:=d) h ([],(hdT ts).at_)];rw [zbe];rfl
theorem body_yes {d:Nat} {ts:List Tok} (h:zei (hdT ts).text=true):zbe (d+1) true ⟨ts,false⟩=(zcp ⟨ts.tail,false⟩).bind fun n s=>(kP d (hdT ts).text s).bind fun l s=>.ok (named (zhc (hdT ts).text) n l) s:=by
 rw [zbe];show (((zcp ⟨ts.tail,false⟩).bind fun n s=>Ans.ok (n.text,n.at_) s).bind fun na s=>(if (hdT ts).text=zd4 then (zca s).bind fun l s=>Ans.ok (Tree.node 4 na.1 0 na.2 l) s
     else if (hdT ts).text=zbk then (zc1 (zbe d false) s).bind fun l s=>Ans.ok (Tree.node 6 na.1 0 na.2 l) s
     else (zcr (zbe d false) s).bind fun l s=>Ans.ok (Tree.node 7 na.1 0 na.2 l) s))=_
 rw [Ans.bind_bind];congr 1
 funext n s
 exact kP_bind h (n.text,n.at_) s
theorem zlv (n:Nat) (b:Bool):zkf (zbe n b):=by
 intro s t s' h;cases n with
 | zero=>cases h
 | succ n=>
  rw [zbe] at h;obtain ⟨_,_,_,h⟩:=bind_ok h;obtain ⟨_,_,_,h⟩:=bind_ok h;split at h
  · obtain ⟨_,_,_,h⟩:=bind_ok h;cases h;exact ⟨by show (4:Int)≠25;decide,by show (4:Int)≠26;decide⟩
  · split at h
    · obtain ⟨_,_,_,h⟩:=bind_ok h;cases h;exact ⟨by show (6:Int)≠25;decide,by show (6:Int)≠26;decide⟩
    · obtain ⟨_,_,_,h⟩:=bind_ok h;cases h;exact ⟨by show (7:Int)≠25;decide,by show (7:Int)≠26;decide⟩
theorem body_full (n:Nat):FullB (zbe n false) (n==0):=by
 intro ts _;cases n with
 | zero=>rfl
 | succ n=>rfl
theorem sim_kids {d:Nat} {T:List UInt8} (h:zei T=true) (hB:SimB (zbe d false) (zc2 d)):Sim 1 (kP d T) (zec (zc2 d) (d==0) (zhc T)):=by
 intro ts pl ok;unfold kP zec;rcases zlw h with rfl|rfl|rfl
 · exact sim_members ts pl ok
 · exact sim_fields hB (zlv d false) (body_full d) ts pl ok
 · exact sim_choice hB (zlv d false) ts pl ok
theorem bodied_eq {ts:List Tok} {e:Int} {pl:Nat} (ok:Okl ts) (h:zei (hdT ts).text=true):(⟨ts,e,pl⟩:RS).bodied=zhc (hdT ts).text:=by
 unfold RS.bodied;rw [hd_D,show (hdT ts).kind=2 from ok.hd.word (zhu h)];rfl
theorem znm:∀ n,SimB (zbe n false) (zc2 n)
 | 0,ts,pl,ok,h=>zg6 (by decide) _
 | n+1,ts,pl,ok,h=>by
  rw [body_no h,zc2,bodied_eq ok h];refine (agr_up (k:=1) ?_ (zku (Or.inl (word_ne (zhu h))))).less (by omega);exact (sim_kids h (znm n) ts.tail pl ok.tail).bind (j:=0) (Q:=fun l s=>.ok (Tree.node (zhc (hdT ts).text) [] 0 (hdT ts).at_ l) s) (E:=fun l s=>(Tree.node (zhc (hdT ts).text) [] 0 (hdT ts).at_ l,s)) (fun l ts2 ok2 _=>zfg _ ts2 pl ok2) (fun _ _ _=>rfl)
theorem kids_stuck {BD:RS->Tree × RS} {b:Bool} {k:Int} {s:RS} (h:s.e≠0):(zec BD b k s).2=s:=by
 unfold zec;split
 · unfold ze7;rw [zal h,zd6 h]
 · split
   · unfold fieldsD;rw [zal h,zep h]
   · show (choE2 BD ((s.want zgu).want [40])).2=s;rw [zal h,zal h,zie h]
end Go.Proofs.YtighggeokiahfaaGreatDoor.Dm
