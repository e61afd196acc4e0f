import Derived.Test.YtighggeokiahfaaGreatDoorNear13
namespace Go.Proofs.YtighggeokiahfaaGreatDoor.Dm
open Go.RowKit
theorem App.ds {A:Nat->Prop} {w wc w6:World} {acc:List Tree} {t:Tree} {sl:Value} {gq N cq:Nat} {p g cap:Nat} {ts:List Tok} {d:Int} {s:RS} (h:App A wc w6 acc t sl gq N cq) (hD:DS wc p g cap ts d s) (hS:Sole p w wc) (ho:∀ q,sl.ownBlock=some q->w.heap.size<=q) (hp:p<w.heap.size) (hg:g<w.heap.size):DS w6 p g cap ts d s∧Sole p w w6:=
 ⟨hD.grown h.grow (fun e=>by have:=ho p e;omega) (fun e=>by have:=ho g e;omega),zmb hS h.grow ho⟩
theorem node1 {A:Nat->Prop} {w:World} {q:Nat} {k m k8 m8:Int} {n n8:List UInt8} {a a8:Nat} {ks:List Tree} {s8:Value} (h:w.heap[q]?=some (kidO k8 n8 m8 a8 s8)) (hA:A q) (ht:zae (fun b=>A b∧b≠q) w (.node k8 n8 m8 a8 ks) (kidV k8 n8 m8 a8 s8)):zae A w (.node k n m a [.node k8 n8 m8 a8 ks]) (kidV k n m a (.slice (some ⟨q,0,none⟩) 1 1)):=
 zaf.2 ⟨_,rfl,zbh (ks:=[.node k8 n8 m8 a8 ks]) h (by simp) hA (za3 ht)⟩
theorem zcc (s:RS):muS s=2*s.n+(if s.e=0 then 1 else 0):=rfl
theorem zix (k a:Int) (s:ByteArray) (o:Option Addr) (n c:Nat) (w:World):(Instr.build 29 #[(0,.int .i64 k),(1,.string s),(3,.int .i64 a),(4,.slice o n c)]).run Tryz.prog w=.ok (.agg #[.int .i64 k,.string s,.int .i64 0,.int .i64 a,.slice o n c]) w:=by kernel_rfl
set_option maxHeartbeats 2000000 in
set_option maxRecDepth 4000 in
theorem zfy (p g cap:Nat) (ts:List Tok) (hE:Ends ts) (d:Int) (s:RS) (w:World) (h:DS w p g cap ts d s):
 Calls Tryz.prog 82 #[.pointer (some ⟨p,0,none⟩)] w (zdj p g cap ts d (zbg w.heap.size) (zfa s) w):=by
 have Ak:Hid (p<w.heap.size∧g<w.heap.size):=⟨h.plt,h.glt⟩
 have Cu:Hid (∀ w1 s1,DS w1 p g cap ts d s1->s1.n<=16001):=fun w1 s1 h1=>by
  obtain ⟨i,h2,h3⟩:=h1
  unfold RS.n
  rw [h2,List.length_drop]
  have:=h3.ln
  omega
 obtain ⟨R,hR⟩:∃ R,zfa s=R:=⟨_,rfl⟩
 rw [hR]
 have HR:=hid (hR.symm)
 have HD:=hid h
 have HS:Hid (Sole p w w):=Sole.refl _ _
 have qb:=zix
 clear h hR
 go_enter Tryz.func82,Tryz.ntmps82
 go_wp2_with fail
 refine (zan p g cap ts hE d [123] (by simp) s _ HD.out).mono ?_
 rintro e w1 ⟨rfl,hD,hS⟩
 have Cv:=hid hS
 have Bz:=hid hD
 have Cw:=hid (HS.out.trans Cv.out)
 clear hD hS
 obtain ⟨s1,hs1⟩:∃ x,s.want [123]=x:=⟨_,rfl⟩
 have Cx:Hid (R=zcn (s1.n+1) [] s1):=by
  show _=_
  rw [HR.out];unfold zfa RS.n;rw [hs1]
 rw [hs1] at Bz
 clear hs1
 have Ca:=hid (Cu.out _ _ Bz.out)
 go_wp2_with fail
 go_loopw [3] (fun sl wr=>∃ (acc:List Tree) (N:Nat) (oq:Option Addr) (cq:Nat) (st:RS) (f:Nat),sl=.slice oq N cq∧Hid (DS wr p g cap ts d st)∧Hid (Sole p w wr)∧Hid (zbg w.heap.size acc wr (.slice oq N cq))∧Hid (R=zcn f acc st)∧Hid (N+f=s1.n+1∧(st.e=0->st.n<f))) (fun _ wr=>mu p ts.length wr)
 case atStart => exact ⟨[],0,none,0,s1,s1.n+1,rfl,Bz,Cw,zbe,Cx,⟨by omega,fun _=>by omega⟩⟩
 case round =>
  obtain ⟨acc,N,oq,cq,st,f,rfl,Bw,Cm,Cy,Cn,Bb⟩:=hrel
  have Bx:Hid (mu p ts.length wr=muS st):=zd8 Bw.out
  obtain ⟨e3,e2⟩:=Bw.out.e_cell
  obtain ⟨EE,hEE⟩:∃ x,st.e=x:=⟨_,rfl⟩
  have Al:=hid hEE
  rw [hEE] at e3
  clear hEE
  by_cases he:EE=0
  case neg =>
   have he2:(EE==0)=false:=by simp [he]
   have Ar:Hid (R=([],st)):=Cn.out.trans (zd9 (by rw [Al.out];exact he) f acc)
   go_wp2
   go_ret
   rw [Ar.out]
   exact ⟨_,rfl,zbe,Bw.out,Cm.out⟩
  subst he
  obtain ⟨f,rfl⟩:∃ f' : Nat,f=f'+1:=⟨f-1,by have:=Bb.out.2 Al.out;omega⟩
  have Ar:Hid (R=(if (zau ((zaz st).2.want [61])).2.is [125] then (acc++[zaw 5 (zaz st).1 [(zau ((zaz st).2.want [61])).1]],(zau ((zaz st).2.want [61])).2.adv)
    else zcn f (acc++[zaw 5 (zaz st).1 [(zau ((zaz st).2.want [61])).1]]) ((if (zau ((zaz st).2.want [61])).2.is [44]&&(acc++[zaw 5 (zaz st).1 [(zau ((zaz st).2.want [61])).1]]).length==64 then (zau ((zaz st).2.want [61])).2.fail 42 else (zau ((zaz st).2.want [61])).2).want [44]))):=by
   show _=_
   rw [Cn.out,zcn,Al.out];rfl
  go_wp2_with fail
  refine (zcm p g cap ts hE d st _ Bw.out).mono ?_
  rintro e w11 ⟨v,rfl,rfl,hD,hS⟩
  have Be:=hid hS
  have Au:=hid hD
  have Bf:=hid (Cm.out.trans Be.out)
  have Am:=hid (zab.sole Cy.out (by intro b hb;have hpg:=Ak.out.1;have hb2:=hb;first | (unfold zak at hb2;omega) | exact (Aq.out b hb)) Be.out)
  clear hD hS
  obtain ⟨nm,hnm⟩:∃ x,(zaz st).1=x:=⟨_,rfl⟩
  obtain ⟨sn,hsn⟩:∃ x,(zaz st).2=x:=⟨_,rfl⟩
  have Cz:Hid (sn.n<=st.n):=by show _<=_;rw [<- hsn];exact zfh st
  rw [hnm,hsn] at Ar
  rw [hnm]
  rw [hsn] at Au
  clear hnm hsn
  go_wp2_with fail
  refine (zan p g cap ts hE d [61] (by simp) sn _ Au.out).mono ?_
  rintro e w12 ⟨rfl,hD,hS⟩
  have Bg:=hid hS
  have Bh:=hid hD
  have Av:=hid (Bf.out.trans Bg.out)
  have Ac:=hid (zab.sole Am.out (by intro b hb;have hpg:=Ak.out.1;have hb2:=hb;first | (unfold zak at hb2;omega) | exact (Aq.out b hb)) Bg.out)
  clear hD hS
  go_wp2_with fail
  have Cb:=hid (Sole.size Av.out)
  refine (zck p g cap ts hE d (sn.want [61]) _ Bh.out).mono ?_
  rintro e w13 ⟨v,rfl,hv,hD,hS⟩
  have Aw:=hid hS
  have Ax:=hid hD
  have Bi:=hid (Av.out.trans Aw.out)
  have Ab:=hid (zab.sole Ac.out (by intro b hb;have hpg:=Ak.out.1;have hb2:=hb;first | (unfold zak at hb2;omega) | exact (Aq.out b hb)) Aw.out)
  obtain ⟨k13,n13,m13,a13,ks13,o13,l13,c13,he13,rfl⟩:=zar hv
  have Ay:=hid he13
  clear he13
  have Az:=hid hv
  clear hv hD hS
  obtain ⟨tv,htv⟩:∃ x,(zau (sn.want [61])).1=x:=⟨_,rfl⟩
  obtain ⟨sv,hsv⟩:∃ x,(zau (sn.want [61])).2=x:=⟨_,rfl⟩
  have Ai:Hid (sv.n<=st.n):=by show _<=_;rw [<- hsv];exact Nat.le_trans (zij _) (Nat.le_trans (za7 _ _) Cz.out)
  rw [htv,hsv] at Ar
  rw [htv] at Az Ay
  rw [hsv] at Ax
  clear htv hsv
  obtain ⟨wb,hwb⟩:∃ x,w13.alloc (.cells #[.int .i64 k13,.string ⟨n13.toArray⟩,.int .i64 m13,.int .i64 a13,.slice o13 l13 c13] 29)=x:=⟨_,rfl⟩
  obtain ⟨wc,hwc⟩:∃ x,wb.alloc (.cells #[.int .i64 5,.string ⟨nm.1.toArray⟩,.int .i64 0,.int .i64 nm.2,.slice (some ⟨w13.heap.size,0,none⟩) 1 1] 29)=x:=⟨_,rfl⟩
  have Bj:Hid (Below w13.heap.size w13 wc∧wb.heap.size=w13.heap.size+1):=⟨by rw [<- hwc,<- hwb];exact (zac _ _).alloc (by simp) _,by rw [<- hwb];simp⟩
  have Co:=hid (Ax.out.below Bj.out.1)
  have Cc:=hid (Bi.out.trans (Sole.of_below Bj.out.1))
  have Cp:=hid (zab.below Ab.out Bj.out.1)
  have Cq:Hid (wc.heap[w13.heap.size]?=some (kidO k13 n13 m13 a13 (.slice o13 l13 c13))):=by show _=_;rw [<- hwc];exact za9 (by rw [<- hwb];exact heap_alloc_new _ _)
  have Cr:Hid (wc.heap[wb.heap.size]?=some (kidO 5 nm.1 0 nm.2 (.slice (some ⟨w13.heap.size,0,none⟩) 1 1))):=by show _=_;rw [<- hwc];exact heap_alloc_new _ _
  have Cd:Hid (∀ q,(Value.slice oq N cq).ownBlock=some q->w.heap.size<=q∧q<w12.heap.size):=fun q e=>by
   have h1:=zb0 Ac.out e
   exact ⟨h1.1,h1.2⟩
  have Cs:Hid (zae (fun b=>zak w.heap.size b∧(Value.slice oq N cq).ownBlock≠some b) wc (.node 5 nm.1 0 nm.2 [.node k13 n13 m13 a13 ks13]) (kidV 5 nm.1 0 nm.2 (.slice (some ⟨w13.heap.size,0,none⟩) 1 1))):=by
   have h1:=Cb.out
   have h2:=Aw.out.size
   have h4:zah w12.heap.size (.node k13 n13 m13 a13 ks13) w13 (kidV k13 n13 m13 a13 (.slice o13 l13 c13)):=by rw [<- Ay.out];exact Az.out
   have h3:=zae.there _ _ h4
   refine node1 Cq.out ⟨by unfold zak;omega,fun e=>by have:=Cd.out _ e;omega⟩ ((zae.below h3 Bj.out.1).weaken (fun b hb=>?_))
   have hb1:w12.heap.size<=b:=hb.1
   exact ⟨⟨by unfold zak;omega,fun e=>by have:=Cd.out b e;omega⟩,Nat.ne_of_lt hb.2⟩
  have Da:Hid (N<=20000):=by show _<=_;have:=Bb.out.1;have:=Ca.out;omega
  have Ct:Hid (zak w.heap.size wc.heap.size):=by show _<=_;exact Cc.out.size
  obtain ⟨nt,na⟩:=nm
  unfold kidV
  go_wp2_with (at_builtin;refine zii _ rfl _ _ rfl (zak w.heap.size) acc oq N cq Cp.out rfl Da.out wb.heap.size 5 0 nt na [.node k13 n13 m13 a13 ks13] (some ⟨w13.heap.size,0,none⟩) 1 1 rfl Cr.out Cs.out Ct.out ?_;intro gq cq2 w6 hA;have Ce:=hid hA;clear hA)
  have Cf:=hid (Ce.out.ds Co.out Cc.out (fun q e=>(Cd.out q e).1) Ak.out.1 Ak.out.2)
  have Db:=hid Cf.out.1
  have Dc:=hid Cf.out.2
  have Dd:=hid (Ce.out.list)
  rw [Ay.out] at Ar
  clear hwb hwc Cf Ce Co Cc Cp Cq Cr Cs Ct Bj Az Au Bh Ax Bf Av Bi Am Ac Ab
  refine (zch p g cap ts hE d [125] (by simp) sv _ Db.out).mono ?_
  rintro e w21 ⟨rfl,hD,hS⟩
  have Bl:=hid hS
  have An:=hid hD
  have Bm:=hid (Dc.out.trans Bl.out)
  have Aj:=hid (zab.sole Dd.out (by intro b hb;have hpg:=Ak.out.1;have hb2:=hb;first | (unfold zak at hb2;omega) | exact (Aq.out b hb)) Bl.out)
  clear hD hS
  cases hb1:sv.is [125] with
  | true =>
   have Bc:Hid (R=(acc++[(Tree.node 5 nt 0 na [Tree.node k13 n13 m13 a13 ks13])],sv.may [125])):=by
    show _=_
    rw [Ar.out];unfold RS.may zaw
    rw [hb1];rfl
   clear hb1
   go_wp2
   go_ret
   rw [Bc.out]
   exact ⟨_,rfl,Aj.out,An.out,Bm.out⟩
  | false =>
   have Bc:Hid (R=zcn f (acc++[(Tree.node 5 nt 0 na [Tree.node k13 n13 m13 a13 ks13])]) ((if sv.is [44]&&(acc++[(Tree.node 5 nt 0 na [Tree.node k13 n13 m13 a13 ks13])]).length==64 then sv.fail 42 else sv).want [44])):=by
    show _=_
    rw [Ar.out]
    rw [hb1];rfl
   rw [show sv.may [125]=sv by unfold RS.may;rw [hb1];rfl] at An
   have De:Hid ((acc++[(Tree.node 5 nt 0 na [Tree.node k13 n13 m13 a13 ks13])]).length=N+1):=zgb Aj.out
   rw [De.out] at Bc
   clear hb1
   go_wp2_with fail
   refine (zea p g cap ts d [44] sv _ An.out).mono ?_
   rintro e w22 ⟨rfl,hB⟩
   have Ba:=hid hB
   have Ao:=hid (An.out.below Ba.out)
   have Ap:=hid (Bm.out.trans (Sole.of_below Ba.out))
   have Aa:=hid (zab.below Aj.out Ba.out)
   clear hB
   by_cases h64:N+1=64
   case neg =>
    have j64:((N:Int)+1==64)=false:=by simp;omega
    have Bd:Hid (R=zcn f (acc++[(Tree.node 5 nt 0 na [Tree.node k13 n13 m13 a13 ks13])]) (sv.want [44])):=by
     show _=_
     rw [Bc.out,show (N+1==64)=false by simp;omega,Bool.and_false];rfl
    clear h64
    cases hb2:sv.is [44]
    ·  skip
       go_wp2_with fail
       refine (zan p g cap ts hE d [44] (by simp) sv _ Ao.out).mono ?_
       rintro e w23 ⟨rfl,hD,hS⟩
       have Bn:=hid hS
       have Bo:=hid hD
       have Cg:=hid (Ap.out.trans Bn.out)
       have Ae:=hid (zab.sole Aa.out (by intro b hb;have hpg:=Ak.out.1;have hb2:=hb;first | (unfold zak at hb2;omega) | exact (Aq.out b hb)) Bn.out)
       clear hD hS
       go_wp2
       go_roundw
       case rel =>
        refine ⟨acc++[(Tree.node 5 nt 0 na [Tree.node k13 n13 m13 a13 ks13])],N+1,some ⟨gq,0,none⟩,cq2,_,f,rfl,Bo,Cg,Ae,Bd,?_⟩
        have h1:=Bb.out
        refine ⟨by omega,fun h0=>?_⟩
        have h2:=zkd (by simp) h0
        have h3:=h1.2 Al.out
        have h4:sv.n<=st.n:=Ai.out
        omega
       case measure =>
        rw [zd8 Bo.out,Bx.out,zcc,zcc]
        exact zcp (by simp) Ai.out Al.out
    ·  skip
       go_wp2_with fail
       refine (zan p g cap ts hE d [44] (by simp) sv _ Ao.out).mono ?_
       rintro e w24 ⟨rfl,hD,hS⟩
       have Bp:=hid hS
       have Bq:=hid hD
       have Ch:=hid (Ap.out.trans Bp.out)
       have Af:=hid (zab.sole Aa.out (by intro b hb;have hpg:=Ak.out.1;have hb2:=hb;first | (unfold zak at hb2;omega) | exact (Aq.out b hb)) Bp.out)
       clear hD hS
       go_wp2
       go_roundw
       case rel =>
        refine ⟨acc++[(Tree.node 5 nt 0 na [Tree.node k13 n13 m13 a13 ks13])],N+1,some ⟨gq,0,none⟩,cq2,_,f,rfl,Bq,Ch,Af,Bd,?_⟩
        have h1:=Bb.out
        refine ⟨by omega,fun h0=>?_⟩
        have h2:=zkd (by simp) h0
        have h3:=h1.2 Al.out
        have h4:sv.n<=st.n:=Ai.out
        omega
       case measure =>
        rw [zd8 Bq.out,Bx.out,zcc,zcc]
        exact zcp (by simp) Ai.out Al.out
   have j64:((N:Int)+1==64)=true:=by simp;omega
   have H64:=hid h64
   clear h64
   cases hb2:sv.is [44] with
   | false =>
    have Bd:Hid (R=zcn f (acc++[(Tree.node 5 nt 0 na [Tree.node k13 n13 m13 a13 ks13])]) (sv.want [44])):=by
     show _=_
     rw [Bc.out,hb2];rfl
    go_wp2_with fail
    refine (zan p g cap ts hE d [44] (by simp) sv _ Ao.out).mono ?_
    rintro e w25 ⟨rfl,hD,hS⟩
    have Br:=hid hS
    have Bs:=hid hD
    have Ci:=hid (Ap.out.trans Br.out)
    have Ag:=hid (zab.sole Aa.out (by intro b hb;have hpg:=Ak.out.1;have hb2:=hb;first | (unfold zak at hb2;omega) | exact (Aq.out b hb)) Br.out)
    clear hD hS
    go_wp2
    go_roundw
    case rel =>
     refine ⟨acc++[(Tree.node 5 nt 0 na [Tree.node k13 n13 m13 a13 ks13])],N+1,some ⟨gq,0,none⟩,cq2,_,f,rfl,Bs,Ci,Ag,Bd,?_⟩
     have h1:=Bb.out
     refine ⟨by omega,fun h0=>?_⟩
     have h2:=zkd (by simp) h0
     have h3:=h1.2 Al.out
     have h4:sv.n<=st.n:=Ai.out
     omega
    case measure =>
     rw [zd8 Bs.out,Bx.out,zcc,zcc]
     exact zcp (by simp) Ai.out Al.out
   | true =>
    have Bd:Hid (R=zcn f (acc++[(Tree.node 5 nt 0 na [Tree.node k13 n13 m13 a13 ks13])]) ((sv.fail 42).want [44])):=by
     show _=_
     rw [Bc.out,hb2,H64.out];rfl
    go_wp2_with fail
    refine (zbu p g cap ts d 42 sv _ Ao.out).mono ?_
    rintro e w26 ⟨rfl,hD,hS⟩
    have Bt:=hid hS
    have Cj:=hid hD
    have Ck:=hid (Ap.out.trans Bt.out)
    have Ah:=hid (zab.sole Aa.out (by intro b hb;have hpg:=Ak.out.1;have hb2:=hb;first | (unfold zak at hb2;omega) | exact (Aq.out b hb)) Bt.out)
    clear hD hS
    go_wp2_with fail
    refine (zan p g cap ts hE d [44] (by simp) (sv.fail 42) _ Cj.out).mono ?_
    rintro e w27 ⟨rfl,hD,hS⟩
    have Bu:=hid hS
    have Bv:=hid hD
    have Cl:=hid (Ck.out.trans Bu.out)
    have Ad:=hid (zab.sole Ah.out (by intro b hb;have hpg:=Ak.out.1;have hb2:=hb;first | (unfold zak at hb2;omega) | exact (Aq.out b hb)) Bu.out)
    clear hD hS
    go_wp2
    go_roundw
    case rel =>
     refine ⟨acc++[(Tree.node 5 nt 0 na [Tree.node k13 n13 m13 a13 ks13])],N+1,some ⟨gq,0,none⟩,cq2,_,f,rfl,Bv,Cl,Ad,Bd,?_⟩
     have h1:=Bb.out
     refine ⟨by omega,fun h0=>?_⟩
     have h2:=zkd (by simp) h0
     have h3:=h1.2 Al.out
     have h4:(sv.fail 42).n<=st.n:=(by rw [zez];exact Ai.out)
     omega
    case measure =>
     rw [zd8 Bv.out,Bx.out,zcc,zcc]
     exact zcp (by simp) (by rw [zez];exact Ai.out) Al.out
theorem zdj.of_below {α:Type} {p g cap:Nat} {ts:List Tok} {d:Int} {val:α->World->Value->Prop} {r:α × RS} {w w1:World} {e:Ending} {w' : World} (hB:Below w.heap.size w w1) (h:zdj p g cap ts d val r w1 e w'):zdj p g cap ts d val r w e w':=by
 obtain ⟨v,h1,h2,h3,h4⟩:=h
 exact ⟨v,h1,h2,h3,(Sole.of_below hB).trans h4⟩
theorem DS.adv_set {w:World} {p g cap:Nat} {ts:List Tok} {d:Int} {s:RS} (hE:Ends ts) (h:DS w p g cap ts d s) (hk:s.hd.kind≠5∨s.hd.text≠[]):∃ i:Nat,w.cell? ⟨p,1,none⟩=some (.int .i64 i)∧w.frozen? ⟨p,1,none⟩=false∧(i:Int)<=16001∧DS (w.setCell ⟨p,1,none⟩ (.int .i64 ((i:Int)+1))) p g cap ts d s.adv∧Sole p w (w.setCell ⟨p,1,none⟩ (.int .i64 ((i:Int)+1))):=by
 obtain ⟨i,hi,h1,hh,hs⟩:=h.at_
 have c:=zb2 h1.blk
 exact ⟨i,c.1.2.1,c.2.1,by have:=h1.ln;omega,DS.step hE h1 hs hk (Sole.refl p w) rfl⟩
theorem zk6 {s:RS} {x:List UInt8} (hx:x≠[]) (h:s.is x=true):s.hd.kind≠5∨s.hd.text≠[]:=Or.inr (by rw [(is_hd h).2.1];exact hx)
set_option maxHeartbeats 2000000 in
set_option maxRecDepth 4000 in
theorem zee (p g cap:Nat) (ts:List Tok) (hE:Ends ts) (d:Int) (A0:Nat->Prop) (k m:Int) (n:List UInt8) (a:Nat) (ks:List Tree) (o:Option Addr) (l c:Nat) (least:Int) (s:RS) (w:World) (h:DS w p g cap ts d s) (hA0:∀ b,A0 b->b≠p∧b<w.heap.size) (ht:zae A0 w (Tree.node k n m a ks) (kidV k n m a (.slice o l c))):
 Calls Tryz.prog 85 #[.pointer (some ⟨p,0,none⟩),kidV k n m a (.slice o l c),.int .i64 least] w (zdj p g cap ts d (mixIs A0 w.heap.size) (zdv (Tree.node k n m a ks) least s) w):=by
 have Ae:Hid (p<w.heap.size∧g<w.heap.size):=⟨h.plt,h.glt⟩
 have Dm:=hid hA0
 obtain ⟨R,hR⟩:∃ R,zdv (Tree.node k n m a ks) least s=R:=⟨_,rfl⟩
 rw [hR]
 have HR:=hid (hR.symm)
 obtain ⟨wt,hwt⟩:∃ x,w.alloc (.cells #[.int .i64 k,.string ⟨n.toArray⟩,.int .i64 m,.int .i64 a,.slice o l c] 29)=x:=⟨_,rfl⟩
 obtain ⟨wa,hwa⟩:∃ x,wt.alloc (.cells #[.int .i64 0,.string ⟨#[]⟩,.int .i64 0,.int .i64 0,.slice none 0 0] 29)=x:=⟨_,rfl⟩
 have Dw:Hid (wt.heap.size=w.heap.size+1):=by show _=_;rw [<- hwt];simp
 have HB:Hid (Below w.heap.size w wa):=by show Below _ _ _;rw [<- hwa,<- hwt];exact (zac _ _).alloc (by simp) _
 have Ec:Hid (Kep w wa w.heap.size (kidO k n m a (.slice o l c))):=⟨by rw [<- hwa];exact za9 (by rw [<- hwt];exact heap_alloc_new _ _),Nat.le_refl _⟩
 have HK:Hid (Kep w wa (w.heap.size+1) (kidO 0 [] 0 0 (.slice none 0 0))):=⟨by have h1:=heap_alloc_new wt (.cells #[.int .i64 0,.string ⟨#[]⟩,.int .i64 0,.int .i64 0,.slice none 0 0] 29);rw [hwa,Dw.out] at h1;exact h1,Nat.le_succ _⟩
 have HD:=hid (h.below HB.out)
 have HS:Hid (Sole p w wa):=Sole.of_below HB.out
 have Ed:=hid (zae.below ht HB.out)
 have Be:Hid (∀ b,A0 b->b≠p):=fun b hb=>(Dm.out b hb).1
 have qb:=zix
 have hz:=Dw.out
 clear h hR ht hA0
 unfold kidV
 go_enter Tryz.func85,Tryz.ntmps85
 go_wp2_with fail
 clear hwt hwa
 refine (zcm p g cap ts hE d s _ HD.out).mono ?_
 rintro e w1 ⟨v,rfl,rfl,hD,hS⟩
 have Dk:=hid hS
 have Dx:=hid hD
 have Dy:=hid (HS.out.trans Dk.out)
 have Da:=hid (Ec.out.sole Ae.out.1 Dk.out)
 have Db:=hid (HK.out.sole Ae.out.1 Dk.out)
 have Dc:=hid (zae.sole Ed.out (by intro b hb;have hpg:=Ae.out.1;have hb2:=hb;first | (unfold zak at hb2;omega) | exact (Be.out b hb)) Dk.out)
 clear hD hS
 obtain ⟨nm,hnm⟩:∃ x,(zaz s).1=x:=⟨_,rfl⟩
 obtain ⟨sn,hsn⟩:∃ x,(zaz s).2=x:=⟨_,rfl⟩
 have Dn:Hid (R=(if sn.is [91]&&decide (least<2) then (zaw 15 nm [(Tree.node k n m a ks),(zau sn.adv).1],(zau sn.adv).2.want [93])
  else if sn.is [60] then
   if sn.adv.is [62] then (zaw 16 nm [(Tree.node k n m a ks)],sn.adv.want [62]) else (zaw 16 nm [(Tree.node k n m a ks),(zau sn.adv).1],(zau sn.adv).2.want [62])
  else if 0<least then (zaw 14 nm [(Tree.node k n m a ks)],sn.fail 40) else (zaw 14 nm [(Tree.node k n m a ks)],sn))):=by
  show _=_
  rw [HR.out,<- hnm,<- hsn];rfl
 rw [hnm]
 rw [hsn] at Dx
 clear hnm hsn
 obtain ⟨nt,na⟩:=nm
 obtain ⟨⟨x0,x1,x2,x3,x4⟩,_⟩:=zaa Da.out.1
 obtain ⟨wq,hwq⟩:∃ x,w1.alloc (.cells #[.int .i64 k,.string ⟨n.toArray⟩,.int .i64 m,.int .i64 a,.slice o l c] 29)=x:=⟨_,rfl⟩
 obtain ⟨wx,hwx⟩:∃ x,wq.alloc (.cells #[.int .i64 14,.string ⟨nt.toArray⟩,.int .i64 0,.int .i64 na,.slice (some ⟨w1.heap.size,0,none⟩) 1 1] 29)=x:=⟨_,rfl⟩
 have Dz:Hid (wq.heap.size=w1.heap.size+1):=by show _=_;rw [<- hwq];simp
 have hzq:=Dz.out
 have Dl:Hid (Below w1.heap.size w1 wx):=by show Below _ _ _;rw [<- hwx,<- hwq];exact (zac _ _).alloc (by simp) _
 have Ee:Hid (Kep w wx (w1.heap.size+1) (kidO 14 nt 0 na (.slice (some ⟨w1.heap.size,0,none⟩) 1 1))):=⟨by have h1:=heap_alloc_new wq (.cells #[.int .i64 14,.string ⟨nt.toArray⟩,.int .i64 0,.int .i64 na,.slice (some ⟨w1.heap.size,0,none⟩) 1 1] 29);rw [hwx,Dz.out] at h1;exact h1,by have:=Dy.out.size;omega⟩
 have Ef:=hid (Db.out.below Dl.out)
 have Ea:=hid (Dx.out.below Dl.out)
 have Eg:=hid (Dy.out.trans (Sole.of_below Dl.out))
 have Bb:=hid (Db.out.lt)
 have Eh:Hid (zab (fun b=>Mix A0 w.heap.size b∧b≠w.heap.size+1∧b≠w1.heap.size+1) wx [(Tree.node k n m a ks)] (.slice (some ⟨w1.heap.size,0,none⟩) 1 1)):=by
  have h1:=Bb.out
  refine zbh (ks:=[(Tree.node k n m a ks)]) (q:=w1.heap.size) (by rw [<- hwx];exact za9 (by rw [<- hwq];exact heap_alloc_new _ _)) (by simp) ⟨Or.inr (by omega),by omega,by omega⟩ (za3 ((zae.below Dc.out Dl.out).weaken (fun b hb=>?_)))
  have h2:=Dm.out b hb
  exact ⟨⟨Or.inl hb,by omega,by omega⟩,by omega⟩
 have Be:Hid (∀ b,(fun b=>Mix A0 w.heap.size b∧b≠w.heap.size+1∧b≠w1.heap.size+1) b->b≠p):=fun b hb=>by
  rcases hb.1 with h|h
  · exact (Dm.out b h).1
  · have:=Ae.out.1
    omega
 go_wp2_with fail
 clear hwq hwx x0 x1 x2 x3 x4
 refine (zea p g cap ts d [91] sn _ Ea.out).mono ?_
 rintro e w2 ⟨rfl,hB⟩
 have Dd:=hid hB
 have Eb:=hid (Ea.out.below Dd.out)
 have Ei:=hid (Eg.out.trans (Sole.of_below Dd.out))
 have De:=hid (Ee.out.below Dd.out)
 have Df:=hid (Ef.out.below Dd.out)
 have Dg:=hid (zab.below Eh.out Dd.out)
 clear hB
 go_wp2_with fail
 refine (zea p g cap ts d [60] sn _ Eb.out).mono ?_
 rintro e w3 ⟨rfl,hB⟩
 have Dh:=hid hB
 have Cf:=hid (Eb.out.below Dh.out)
 have Cg:=hid (Ei.out.trans (Sole.of_below Dh.out))
 have Ac:=hid (De.out.below Dh.out)
 have Ag:=hid (Df.out.below Dh.out)
 have Ak:=hid (zab.below Dg.out Dh.out)
 clear hB
 by_cases hl2:least<2
 · cases hb91:sn.is [91] with
   | true =>
    have Bc:Hid (R=(zaw 15 (nt,na) [(Tree.node k n m a ks),(zau sn.adv).1],(zau sn.adv).2.want [93])):=by show _=_;rw [Dn.out,hb91,decide_eq_true hl2];rfl
    obtain ⟨ix,c1,f1,him,hDa,hSa⟩:=DS.adv_set hE Cf.out (zk6 (by simp) hb91)
    obtain ⟨⟨v0,v1,v2,v3,v4⟩,⟨y0,y1,y2,y3,y4⟩⟩:=zaa Ac.out.1
    have hne1:¬ p=w1.heap.size+1:=by have:=Ae.out.1;have:=Bb.out;omega
    have hne2:¬ w1.heap.size+1=p:=by omega
    have Au:Hid (DS ((w3.setCell ⟨p,1,none⟩ (.int .i64 ((ix:Int)+1))).setCell ⟨w1.heap.size+1,0,none⟩ (.int .i64 15)) p g cap ts d sn.adv∧Sole p w ((w3.setCell ⟨p,1,none⟩ (.int .i64 ((ix:Int)+1))).setCell ⟨w1.heap.size+1,0,none⟩ (.int .i64 15))∧Kep w ((w3.setCell ⟨p,1,none⟩ (.int .i64 ((ix:Int)+1))).setCell ⟨w1.heap.size+1,0,none⟩ (.int .i64 15)) (w1.heap.size+1) (kidO 15 nt 0 na (.slice (some ⟨w1.heap.size,0,none⟩) 1 1))∧Kep w ((w3.setCell ⟨p,1,none⟩ (.int .i64 ((ix:Int)+1))).setCell ⟨w1.heap.size+1,0,none⟩ (.int .i64 15)) (w.heap.size+1) (kidO 0 [] 0 0 (.slice none 0 0))∧zab (fun b=>Mix A0 w.heap.size b∧b≠w.heap.size+1∧b≠w1.heap.size+1) ((w3.setCell ⟨p,1,none⟩ (.int .i64 ((ix:Int)+1))).setCell ⟨w1.heap.size+1,0,none⟩ (.int .i64 15)) [(Tree.node k n m a ks)] (.slice (some ⟨w1.heap.size,0,none⟩) 1 1)):=by
     have h1:=Bb.out
     have h2:=Ae.out
     refine ⟨hDa.set (by omega) (by omega) _ _,Sole.set (Cg.out.trans hSa) (by omega) _ _,⟨zai (hSa.blk Ac.out.1 hne2),Ac.out.2⟩,zci (Ag.out.sole h2.1 hSa) (by omega) _ _,zab.but (zab.sole Ak.out Be.out hSa) (fun b hb=>hb.2.2) (fun b hb=>Below.heap_setCell _ _ _ _ hb)⟩
    clear hDa hSa
    go_wp2_with fail
    obtain ⟨w4,hw4⟩:∃ x,(w3.setCell ⟨p,1,none⟩ (.int .i64 ((ix:Int)+1))).setCell ⟨w1.heap.size+1,0,none⟩ (.int .i64 15)=x:=⟨_,rfl⟩
    rw [hw4]
    rw [hw4] at Au
    clear hw4 c1 f1 him v0 v1 v2 v3 v4 y0 y1 y2 y3 y4 hne1 hne2
    have Cb:=hid Au.out.1
    have Cj:=hid Au.out.2.1
    have Bd:=hid Au.out.2.2.1
    have Bi:=hid Au.out.2.2.2.1
    have Ch:=hid Au.out.2.2.2.2
    clear Au
    have Ck:Hid (∀ m,Calls Tryz.prog 122 #[.pointer (some ⟨p,0,none⟩)] (w4.drewN m) (zdj p g cap ts d (zah w4.heap.size) (zau sn.adv) w4)):=fun m=>by
     have hB:Below w4.heap.size w4 (w4.drewN m):=zaj (Below.refl _ _) m
     exact (zck p g cap ts hE d sn.adv _ (Cb.out.below hB)).mono fun e w' hp=>zdj.of_below hB hp
    obtain ⟨⟨v0,v1,v2,v3,v4⟩,⟨y0,y1,y2,y3,y4⟩⟩:=zaa Bd.out.1
    have Cl:Hid (∀ q,(Value.slice (some ⟨w1.heap.size,0,none⟩) 1 1).ownBlock=some q->w.heap.size<=q):=fun q e=>by cases e;show w.heap.size<=w1.heap.size;have:=Bb.out;omega
    have Bv:=hid (Bd.out.lt)
    go_region_law (first
     | (refine zbw rfl 122 #[.pointer (some ⟨p,0,none⟩)] (by go_simp) _ (Ck.out _) ?_
        rintro e w5 ⟨v,rfl,hv,hD,hS⟩
        refine ⟨_,rfl,?_⟩
        obtain ⟨k8,n8,m8,a8,ks8,o8,l8,c8,he8,rfl⟩:=zar hv
        obtain ⟨wb,hwb⟩:∃ x,w5.alloc (.cells #[.int .i64 k8,.string ⟨n8.toArray⟩,.int .i64 m8,.int .i64 a8,.slice o8 l8 c8] 29)=x:=⟨_,rfl⟩
        have Dp:=hid hwb
        have hBb:Below w5.heap.size w5 wb:=by rw [<- hwb];exact zac _ _
        have Cm:=hid (hD.below hBb)
        have Cn:=hid ((Cj.out.trans hS).trans (Sole.of_below hBb))
        have Ci:=hid ((Bd.out.sole Ae.out.1 hS).below hBb)
        have Di:=hid ((Bi.out.sole Ae.out.1 hS).below hBb)
        have Co:=hid (zab.below (zab.sole Ch.out Be.out hS) hBb)
        have Cp:Hid (wb.heap[w5.heap.size]?=some (kidO k8 n8 m8 a8 (.slice o8 l8 c8))):=by show _=_;rw [<- hwb];exact heap_alloc_new _ _
        have Cq:Hid (w4.heap.size<=w5.heap.size∧wb.heap.size=w5.heap.size+1):=⟨hS.size,by rw [<- hwb];simp⟩
        have Bj:Hid (∀ q,(Value.slice (some ⟨w1.heap.size,0,none⟩) 1 1).ownBlock=some q->(fun b=>Mix A0 w.heap.size b∧b≠w.heap.size+1∧b≠w1.heap.size+1) q∧q<w4.heap.size):=fun q e=>zb0 Ch.out e
        have Cr:=hid he8
        have Cs:Hid (zae (fun b=>(fun b=>Mix A0 w.heap.size b∧b≠w.heap.size+1∧b≠w1.heap.size+1) b∧(Value.slice (some ⟨w1.heap.size,0,none⟩) 1 1).ownBlock≠some b) wb (.node k8 n8 m8 a8 ks8) (kidV k8 n8 m8 a8 (.slice o8 l8 c8))):=by
         rw [he8] at hv
         refine (zae.below hv hBb).weaken (fun b hb=>?_)
         have hb1:w4.heap.size<=b:=hb
         have hz1:=Bb.out
         have hz4:=Bv.out
         exact ⟨⟨Or.inr (by omega),by omega,by omega⟩,fun e=>by have:=(Bj.out b e).2;omega⟩
        have Ct:Hid ((fun b=>Mix A0 w.heap.size b∧b≠w.heap.size+1∧b≠w1.heap.size+1) wb.heap.size):=by
         have hb1:w4.heap.size<=wb.heap.size:=by have:=Cq.out;omega
         have hz1:=Bb.out
         have hz4:=Bv.out
         exact ⟨Or.inr (by omega),by omega,by omega⟩
        have u4:=(zaa (Bd.out.sole Ae.out.1 hS).1).1.2.2.2.2
        have x4:=(zaa Ci.out.1).1.2.2.2.2
        clear hv hD hS hBb he8
        unfold kidV)
     | (refine zfl _ rfl _ _ rfl (fun b=>Mix A0 w.heap.size b∧b≠w.heap.size+1∧b≠w1.heap.size+1) [(Tree.node k n m a ks)] (some ⟨w1.heap.size,0,none⟩) 1 1 Co.out rfl (by decide) w5.heap.size k8 m8 n8 a8 ks8 o8 l8 c8 rfl Cp.out Cs.out Ct.out ?_
        intro gq cq2 w6 hA
        have Bw:=hid (hA.ds Cm.out Cn.out Cl.out Ae.out.1 Ae.out.2)
        have Cu:=hid Bw.out.1
        have Cv:=hid Bw.out.2
        have Bx:=hid (za1 Ci.out hA.grow (fun e=>by have h1:=(Bj.out _ e).1;exact h1.2.2 rfl))
        have Dj:=hid (za1 Di.out hA.grow (fun e=>by have h1:=(Bj.out _ e).1;exact h1.2.1 rfl))
        have Cw:=hid (hA.list)
        obtain ⟨⟨j0,j1,j2,j3,j4⟩,⟨g0,g1,g2,g3,g4⟩⟩:=zaa Bx.out.1
        clear hA))
    all_goals (
     have Av:Hid (DS (w6.setCell ⟨w1.heap.size+1,4,none⟩ (.slice (some ⟨gq,0,none⟩) 2 cq2)) p g cap ts d (zau sn.adv).2∧Sole p w (w6.setCell ⟨w1.heap.size+1,4,none⟩ (.slice (some ⟨gq,0,none⟩) 2 cq2))∧Kep w (w6.setCell ⟨w1.heap.size+1,4,none⟩ (.slice (some ⟨gq,0,none⟩) 2 cq2)) (w1.heap.size+1) (kidO 15 nt 0 na (.slice (some ⟨gq,0,none⟩) 2 cq2))∧Kep w (w6.setCell ⟨w1.heap.size+1,4,none⟩ (.slice (some ⟨gq,0,none⟩) 2 cq2)) (w.heap.size+1) (kidO 0 [] 0 0 (.slice none 0 0))∧zab (fun b=>Mix A0 w.heap.size b∧b≠w.heap.size+1∧b≠w1.heap.size+1) (w6.setCell ⟨w1.heap.size+1,4,none⟩ (.slice (some ⟨gq,0,none⟩) 2 cq2)) [(Tree.node k n m a ks),.node k8 n8 m8 a8 ks8] (.slice (some ⟨gq,0,none⟩) 2 cq2)):=by
      have h1:=Bb.out
      have h2:=Ae.out
      refine ⟨Cu.out.set (by omega) (by omega) _ _,Sole.set Cv.out (by omega) _ _,⟨zai Bx.out.1,Bx.out.2⟩,zci Dj.out (by omega) _ _,zab.but Cw.out (fun b hb=>hb.2.2) (fun b hb=>Below.heap_setCell _ _ _ _ hb)⟩
     go_wp2_with fail
     generalize w6.setCell ⟨w1.heap.size+1,4,none⟩ (.slice (some ⟨gq,0,none⟩) 2 cq2)=w7 at Av ⊢
     have Cx:=hid Av.out.1
     have Cy:=hid Av.out.2.1
     have Bl:=hid Av.out.2.2.1
     have Bm:=hid Av.out.2.2.2.1
     have Cz:=hid Av.out.2.2.2.2
     clear Av j0 j1 j2 j3 j4 g0 g1 g2 g3 g4
     refine (zan p g cap ts hE d [93] (by simp) (zau sn.adv).2 _ Cx.out).mono ?_
     rintro e w61 ⟨rfl,hD,hS⟩
     have An:=hid hS
     have Bn:=hid hD
     have Bo:=hid (Cy.out.trans An.out)
     have Ao:=hid (Bl.out.sole Ae.out.1 An.out)
     have Ad:=hid (Bm.out.sole Ae.out.1 An.out)
     have Aw:=hid (zab.sole Cz.out (by intro b hb;have hpg:=Ae.out.1;have hb2:=hb;first | (unfold zak at hb2;omega) | exact (Be.out b hb)) An.out)
     clear hD hS
     obtain ⟨⟨x0,x1,x2,x3,x4⟩,_⟩:=zaa Ao.out.1
     obtain ⟨⟨z0,z1,z2,z3,z4⟩,⟨y0,y1,y2,y3,y4⟩⟩:=zaa Ad.out.1
     go_wp2
     refine ret5 z0 z1 z2 z3 z4 rfl (fun u q0 q1 q2 q3 q4=>by simp [results,Tryz.results85,go_sem,q0,q1,q2,q3,q4]) Ad.out.2 Bo.out ?_
     intro wz hf
     rw [Bc.out]
     have hr2:=Ad.out.2
     have hpg:=Ae.out
     exact ⟨_,rfl,(by rw [Cr.out];exact zb3 Aw.out (fun b h=>h.1) (fun b h=>h.2.1) hf.2),Bn.out.but (by omega) (by omega) hf.2,hf.1⟩)
   | false =>
    have Bf:=Dn
    rw [hb91,Bool.false_and,if_neg (by simp)] at Bf
    cases hb60:sn.is [60] with
    | true =>
     rw [hb60,if_pos rfl] at Bf
     obtain ⟨ix,c1,f1,him,hDa,hSa⟩:=DS.adv_set hE Cf.out (zk6 (by simp) hb60)
     obtain ⟨⟨v0,v1,v2,v3,v4⟩,⟨y0,y1,y2,y3,y4⟩⟩:=zaa Ac.out.1
     have hne1:¬ p=w1.heap.size+1:=by have:=Ae.out.1;have:=Bb.out;omega
     have hne2:¬ w1.heap.size+1=p:=by omega
     have Au:Hid (DS ((w3.setCell ⟨p,1,none⟩ (.int .i64 ((ix:Int)+1))).setCell ⟨w1.heap.size+1,0,none⟩ (.int .i64 16)) p g cap ts d sn.adv∧Sole p w ((w3.setCell ⟨p,1,none⟩ (.int .i64 ((ix:Int)+1))).setCell ⟨w1.heap.size+1,0,none⟩ (.int .i64 16))∧Kep w ((w3.setCell ⟨p,1,none⟩ (.int .i64 ((ix:Int)+1))).setCell ⟨w1.heap.size+1,0,none⟩ (.int .i64 16)) (w1.heap.size+1) (kidO 16 nt 0 na (.slice (some ⟨w1.heap.size,0,none⟩) 1 1))∧Kep w ((w3.setCell ⟨p,1,none⟩ (.int .i64 ((ix:Int)+1))).setCell ⟨w1.heap.size+1,0,none⟩ (.int .i64 16)) (w.heap.size+1) (kidO 0 [] 0 0 (.slice none 0 0))∧zab (fun b=>Mix A0 w.heap.size b∧b≠w.heap.size+1∧b≠w1.heap.size+1) ((w3.setCell ⟨p,1,none⟩ (.int .i64 ((ix:Int)+1))).setCell ⟨w1.heap.size+1,0,none⟩ (.int .i64 16)) [(Tree.node k n m a ks)] (.slice (some ⟨w1.heap.size,0,none⟩) 1 1)):=by
      have h1:=Bb.out
      have h2:=Ae.out
      refine ⟨hDa.set (by omega) (by omega) _ _,Sole.set (Cg.out.trans hSa) (by omega) _ _,⟨zai (hSa.blk Ac.out.1 hne2),Ac.out.2⟩,zci (Ag.out.sole h2.1 hSa) (by omega) _ _,zab.but (zab.sole Ak.out Be.out hSa) (fun b hb=>hb.2.2) (fun b hb=>Below.heap_setCell _ _ _ _ hb)⟩
     clear hDa hSa
     go_wp2_with fail
     obtain ⟨w4,hw4⟩:∃ x,(w3.setCell ⟨p,1,none⟩ (.int .i64 ((ix:Int)+1))).setCell ⟨w1.heap.size+1,0,none⟩ (.int .i64 16)=x:=⟨_,rfl⟩
     rw [hw4]
     rw [hw4] at Au
     clear hw4 c1 f1 him v0 v1 v2 v3 v4 y0 y1 y2 y3 y4 hne1 hne2
     have Cb:=hid Au.out.1
     have Cj:=hid Au.out.2.1
     have Bd:=hid Au.out.2.2.1
     have Bi:=hid Au.out.2.2.2.1
     have Ch:=hid Au.out.2.2.2.2
     clear Au
     refine (zea p g cap ts d [62] sn.adv _ Cb.out).mono ?_
     rintro e w41 ⟨rfl,hB⟩
     have Ap:=hid hB
     have Bg:=hid (Cb.out.below Ap.out)
     have Bh:=hid (Cj.out.trans (Sole.of_below Ap.out))
     have Ab:=hid (Bd.out.below Ap.out)
     have Al:=hid (Bi.out.below Ap.out)
     have Ai:=hid (zab.below Ch.out Ap.out)
     clear hB
     cases hb62:sn.adv.is [62] with
     | true =>
      have Bc:Hid (R=(zaw 16 (nt,na) [(Tree.node k n m a ks)],sn.adv.want [62])):=by show _=_;rw [Bf.out,hb62];rfl
      go_wp2_with fail
      refine (zan p g cap ts hE d [62] (by simp) sn.adv _ Bg.out).mono ?_
      rintro e w42 ⟨rfl,hD,hS⟩
      have Ba:=hid hS
      have Bz:=hid hD
      have Ca:=hid (Bh.out.trans Ba.out)
      have Aj:=hid (Ab.out.sole Ae.out.1 Ba.out)
      have Aa:=hid (Al.out.sole Ae.out.1 Ba.out)
      have Am:=hid (zab.sole Ai.out (by intro b hb;have hpg:=Ae.out.1;have hb2:=hb;first | (unfold zak at hb2;omega) | exact (Be.out b hb)) Ba.out)
      clear hD hS
      obtain ⟨⟨x0,x1,x2,x3,x4⟩,_⟩:=zaa Aj.out.1
      obtain ⟨⟨z0,z1,z2,z3,z4⟩,⟨y0,y1,y2,y3,y4⟩⟩:=zaa Aa.out.1
      go_wp2
      refine ret5 z0 z1 z2 z3 z4 rfl (fun u q0 q1 q2 q3 q4=>by simp [results,Tryz.results85,go_sem,q0,q1,q2,q3,q4]) Aa.out.2 Ca.out ?_
      intro wz hf
      rw [Bc.out]
      have hr2:=Aa.out.2
      have hpg:=Ae.out
      exact ⟨_,rfl,zb3 Am.out (fun b h=>h.1) (fun b h=>h.2.1) hf.2,Bz.out.but (by omega) (by omega) hf.2,hf.1⟩
     | false =>
      have Bc:Hid (R=(zaw 16 (nt,na) [(Tree.node k n m a ks),(zau sn.adv).1],(zau sn.adv).2.want [62])):=by show _=_;rw [Bf.out,hb62];rfl
      go_wp2_with fail
      have Ck:Hid (∀ m,Calls Tryz.prog 122 #[.pointer (some ⟨p,0,none⟩)] (w41.drewN m) (zdj p g cap ts d (zah w41.heap.size) (zau sn.adv) w41)):=fun m=>by
       have hB:Below w41.heap.size w41 (w41.drewN m):=zaj (Below.refl _ _) m
       exact (zck p g cap ts hE d sn.adv _ (Bg.out.below hB)).mono fun e w' hp=>zdj.of_below hB hp
      obtain ⟨⟨v0,v1,v2,v3,v4⟩,⟨y0,y1,y2,y3,y4⟩⟩:=zaa Ab.out.1
      have Cl:Hid (∀ q,(Value.slice (some ⟨w1.heap.size,0,none⟩) 1 1).ownBlock=some q->w.heap.size<=q):=fun q e=>by cases e;show w.heap.size<=w1.heap.size;have:=Bb.out;omega
      have Bv:=hid (Ab.out.lt)
      go_region_law (first
       | (refine zbw rfl 122 #[.pointer (some ⟨p,0,none⟩)] (by go_simp) _ (Ck.out _) ?_
          rintro e w5 ⟨v,rfl,hv,hD,hS⟩
          refine ⟨_,rfl,?_⟩
          obtain ⟨k8,n8,m8,a8,ks8,o8,l8,c8,he8,rfl⟩:=zar hv
          obtain ⟨wb,hwb⟩:∃ x,w5.alloc (.cells #[.int .i64 k8,.string ⟨n8.toArray⟩,.int .i64 m8,.int .i64 a8,.slice o8 l8 c8] 29)=x:=⟨_,rfl⟩
          have Dp:=hid hwb
          have hBb:Below w5.heap.size w5 wb:=by rw [<- hwb];exact zac _ _
          have Cm:=hid (hD.below hBb)
          have Cn:=hid ((Bh.out.trans hS).trans (Sole.of_below hBb))
          have Ah:=hid ((Ab.out.sole Ae.out.1 hS).below hBb)
          have Aq:=hid ((Al.out.sole Ae.out.1 hS).below hBb)
          have Co:=hid (zab.below (zab.sole Ai.out Be.out hS) hBb)
          have Cp:Hid (wb.heap[w5.heap.size]?=some (kidO k8 n8 m8 a8 (.slice o8 l8 c8))):=by show _=_;rw [<- hwb];exact heap_alloc_new _ _
          have Cq:Hid (w41.heap.size<=w5.heap.size∧wb.heap.size=w5.heap.size+1):=⟨hS.size,by rw [<- hwb];simp⟩
          have Bj:Hid (∀ q,(Value.slice (some ⟨w1.heap.size,0,none⟩) 1 1).ownBlock=some q->(fun b=>Mix A0 w.heap.size b∧b≠w.heap.size+1∧b≠w1.heap.size+1) q∧q<w41.heap.size):=fun q e=>zb0 Ai.out e
          have Cr:=hid he8
          have Cs:Hid (zae (fun b=>(fun b=>Mix A0 w.heap.size b∧b≠w.heap.size+1∧b≠w1.heap.size+1) b∧(Value.slice (some ⟨w1.heap.size,0,none⟩) 1 1).ownBlock≠some b) wb (.node k8 n8 m8 a8 ks8) (kidV k8 n8 m8 a8 (.slice o8 l8 c8))):=by
           rw [he8] at hv
           refine (zae.below hv hBb).weaken (fun b hb=>?_)
           have hb1:w41.heap.size<=b:=hb
           have hz1:=Bb.out
           have hz4:=Bv.out
           exact ⟨⟨Or.inr (by omega),by omega,by omega⟩,fun e=>by have:=(Bj.out b e).2;omega⟩
          have Ct:Hid ((fun b=>Mix A0 w.heap.size b∧b≠w.heap.size+1∧b≠w1.heap.size+1) wb.heap.size):=by
           have hb1:w41.heap.size<=wb.heap.size:=by have:=Cq.out;omega
           have hz1:=Bb.out
           have hz4:=Bv.out
           exact ⟨Or.inr (by omega),by omega,by omega⟩
          have u4:=(zaa (Ab.out.sole Ae.out.1 hS).1).1.2.2.2.2
          have x4:=(zaa Ah.out.1).1.2.2.2.2
          clear hv hD hS hBb he8
          unfold kidV)
       | (refine zfl _ rfl _ _ rfl (fun b=>Mix A0 w.heap.size b∧b≠w.heap.size+1∧b≠w1.heap.size+1) [(Tree.node k n m a ks)] (some ⟨w1.heap.size,0,none⟩) 1 1 Co.out rfl (by decide) w5.heap.size k8 m8 n8 a8 ks8 o8 l8 c8 rfl Cp.out Cs.out Ct.out ?_
          intro gq cq2 w6 hA
          have Bw:=hid (hA.ds Cm.out Cn.out Cl.out Ae.out.1 Ae.out.2)
          have Cu:=hid Bw.out.1
          have Cv:=hid Bw.out.2
          have Af:=hid (za1 Ah.out hA.grow (fun e=>by have h1:=(Bj.out _ e).1;exact h1.2.2 rfl))
          have Ar:=hid (za1 Aq.out hA.grow (fun e=>by have h1:=(Bj.out _ e).1;exact h1.2.1 rfl))
          have Cw:=hid (hA.list)
          obtain ⟨⟨j0,j1,j2,j3,j4⟩,⟨g0,g1,g2,g3,g4⟩⟩:=zaa Af.out.1
          clear hA))
      all_goals (
       have Av:Hid (DS (w6.setCell ⟨w1.heap.size+1,4,none⟩ (.slice (some ⟨gq,0,none⟩) 2 cq2)) p g cap ts d (zau sn.adv).2∧Sole p w (w6.setCell ⟨w1.heap.size+1,4,none⟩ (.slice (some ⟨gq,0,none⟩) 2 cq2))∧Kep w (w6.setCell ⟨w1.heap.size+1,4,none⟩ (.slice (some ⟨gq,0,none⟩) 2 cq2)) (w1.heap.size+1) (kidO 16 nt 0 na (.slice (some ⟨gq,0,none⟩) 2 cq2))∧Kep w (w6.setCell ⟨w1.heap.size+1,4,none⟩ (.slice (some ⟨gq,0,none⟩) 2 cq2)) (w.heap.size+1) (kidO 0 [] 0 0 (.slice none 0 0))∧zab (fun b=>Mix A0 w.heap.size b∧b≠w.heap.size+1∧b≠w1.heap.size+1) (w6.setCell ⟨w1.heap.size+1,4,none⟩ (.slice (some ⟨gq,0,none⟩) 2 cq2)) [(Tree.node k n m a ks),.node k8 n8 m8 a8 ks8] (.slice (some ⟨gq,0,none⟩) 2 cq2)):=by
        have h1:=Bb.out
        have h2:=Ae.out
        refine ⟨Cu.out.set (by omega) (by omega) _ _,Sole.set Cv.out (by omega) _ _,⟨zai Af.out.1,Af.out.2⟩,zci Ar.out (by omega) _ _,zab.but Cw.out (fun b hb=>hb.2.2) (fun b hb=>Below.heap_setCell _ _ _ _ hb)⟩
       go_wp2_with fail
       generalize w6.setCell ⟨w1.heap.size+1,4,none⟩ (.slice (some ⟨gq,0,none⟩) 2 cq2)=w7 at Av ⊢
       have Cx:=hid Av.out.1
       have Cy:=hid Av.out.2.1
       have Bl:=hid Av.out.2.2.1
       have Bm:=hid Av.out.2.2.2.1
       have Cz:=hid Av.out.2.2.2.2
       clear Av j0 j1 j2 j3 j4 g0 g1 g2 g3 g4
       refine (zan p g cap ts hE d [62] (by simp) (zau sn.adv).2 _ Cx.out).mono ?_
       rintro e w61 ⟨rfl,hD,hS⟩
       have An:=hid hS
       have Bn:=hid hD
       have Bo:=hid (Cy.out.trans An.out)
       have Ao:=hid (Bl.out.sole Ae.out.1 An.out)
       have Ad:=hid (Bm.out.sole Ae.out.1 An.out)
       have Aw:=hid (zab.sole Cz.out (by intro b hb;have hpg:=Ae.out.1;have hb2:=hb;first | (unfold zak at hb2;omega) | exact (Be.out b hb)) An.out)
       clear hD hS
       obtain ⟨⟨x0,x1,x2,x3,x4⟩,_⟩:=zaa Ao.out.1
       obtain ⟨⟨z0,z1,z2,z3,z4⟩,⟨y0,y1,y2,y3,y4⟩⟩:=zaa Ad.out.1
       go_wp2
       refine ret5 z0 z1 z2 z3 z4 rfl (fun u q0 q1 q2 q3 q4=>by simp [results,Tryz.results85,go_sem,q0,q1,q2,q3,q4]) Ad.out.2 Bo.out ?_
       intro wz hf
       rw [Bc.out]
       have hr2:=Ad.out.2
       have hpg:=Ae.out
       exact ⟨_,rfl,(by rw [Cr.out];exact zb3 Aw.out (fun b h=>h.1) (fun b h=>h.2.1) hf.2),Bn.out.but (by omega) (by omega) hf.2,hf.1⟩)
    | false =>
     rw [hb60,if_neg (by simp)] at Bf
     by_cases hl0:0<least
     case pos =>
      have Bc:Hid (R=(zaw 14 (nt,na) [(Tree.node k n m a ks)],sn.fail 40)):=by show _=_;rw [Bf.out,if_pos hl0]
      go_wp2_with fail
      refine (zbu p g cap ts d 40 sn _ Cf.out).mono ?_
      rintro e w62 ⟨rfl,hD,hS⟩
      have Cc:=hid hS
      have Dq:=hid hD
      have Dr:=hid (Cg.out.trans Cc.out)
      have Bp:=hid (Ac.out.sole Ae.out.1 Cc.out)
      have Ax:=hid (Ag.out.sole Ae.out.1 Cc.out)
      have Bq:=hid (zab.sole Ak.out (by intro b hb;have hpg:=Ae.out.1;have hb2:=hb;first | (unfold zak at hb2;omega) | exact (Be.out b hb)) Cc.out)
      clear hD hS
      obtain ⟨⟨x0,x1,x2,x3,x4⟩,_⟩:=zaa Bp.out.1
      obtain ⟨⟨z0,z1,z2,z3,z4⟩,⟨y0,y1,y2,y3,y4⟩⟩:=zaa Ax.out.1
      go_wp2
      refine ret5 z0 z1 z2 z3 z4 rfl (fun u q0 q1 q2 q3 q4=>by simp [results,Tryz.results85,go_sem,q0,q1,q2,q3,q4]) Ax.out.2 Dr.out ?_
      intro wz hf
      rw [Bc.out]
      have hr2:=Ax.out.2
      have hpg:=Ae.out
      exact ⟨_,rfl,zb3 Bq.out (fun b h=>h.1) (fun b h=>h.2.1) hf.2,Dq.out.but (by omega) (by omega) hf.2,hf.1⟩
     have Bc:Hid (R=(zaw 14 (nt,na) [(Tree.node k n m a ks)],sn)):=by show _=_;rw [Bf.out,if_neg hl0]
     obtain ⟨⟨x0,x1,x2,x3,x4⟩,_⟩:=zaa Ac.out.1
     obtain ⟨⟨z0,z1,z2,z3,z4⟩,⟨y0,y1,y2,y3,y4⟩⟩:=zaa Ag.out.1
     go_wp2
     refine ret5 z0 z1 z2 z3 z4 rfl (fun u q0 q1 q2 q3 q4=>by simp [results,Tryz.results85,go_sem,q0,q1,q2,q3,q4]) Ag.out.2 Cg.out ?_
     intro wz hf
     rw [Bc.out]
     have hr2:=Ag.out.2
     have hpg:=Ae.out
     exact ⟨_,rfl,zb3 Ak.out (fun b h=>h.1) (fun b h=>h.2.1) hf.2,Cf.out.but (by omega) (by omega) hf.2,hf.1⟩
 · have Bf:=Dn
   rw [decide_eq_false hl2,Bool.and_false,if_neg (by simp)] at Bf
   cases hb91:sn.is [91]
   · skip
     cases hb60:sn.is [60] with
     | true =>
      rw [hb60,if_pos rfl] at Bf
      obtain ⟨ix,c1,f1,him,hDa,hSa⟩:=DS.adv_set hE Cf.out (zk6 (by simp) hb60)
      obtain ⟨⟨v0,v1,v2,v3,v4⟩,⟨y0,y1,y2,y3,y4⟩⟩:=zaa Ac.out.1
      have hne1:¬ p=w1.heap.size+1:=by have:=Ae.out.1;have:=Bb.out;omega
      have hne2:¬ w1.heap.size+1=p:=by omega
      have Au:Hid (DS ((w3.setCell ⟨p,1,none⟩ (.int .i64 ((ix:Int)+1))).setCell ⟨w1.heap.size+1,0,none⟩ (.int .i64 16)) p g cap ts d sn.adv∧Sole p w ((w3.setCell ⟨p,1,none⟩ (.int .i64 ((ix:Int)+1))).setCell ⟨w1.heap.size+1,0,none⟩ (.int .i64 16))∧Kep w ((w3.setCell ⟨p,1,none⟩ (.int .i64 ((ix:Int)+1))).setCell ⟨w1.heap.size+1,0,none⟩ (.int .i64 16)) (w1.heap.size+1) (kidO 16 nt 0 na (.slice (some ⟨w1.heap.size,0,none⟩) 1 1))∧Kep w ((w3.setCell ⟨p,1,none⟩ (.int .i64 ((ix:Int)+1))).setCell ⟨w1.heap.size+1,0,none⟩ (.int .i64 16)) (w.heap.size+1) (kidO 0 [] 0 0 (.slice none 0 0))∧zab (fun b=>Mix A0 w.heap.size b∧b≠w.heap.size+1∧b≠w1.heap.size+1) ((w3.setCell ⟨p,1,none⟩ (.int .i64 ((ix:Int)+1))).setCell ⟨w1.heap.size+1,0,none⟩ (.int .i64 16)) [(Tree.node k n m a ks)] (.slice (some ⟨w1.heap.size,0,none⟩) 1 1)):=by
       have h1:=Bb.out
       have h2:=Ae.out
       refine ⟨hDa.set (by omega) (by omega) _ _,Sole.set (Cg.out.trans hSa) (by omega) _ _,⟨zai (hSa.blk Ac.out.1 hne2),Ac.out.2⟩,zci (Ag.out.sole h2.1 hSa) (by omega) _ _,zab.but (zab.sole Ak.out Be.out hSa) (fun b hb=>hb.2.2) (fun b hb=>Below.heap_setCell _ _ _ _ hb)⟩
      clear hDa hSa
      go_wp2_with fail
      obtain ⟨w4,hw4⟩:∃ x,(w3.setCell ⟨p,1,none⟩ (.int .i64 ((ix:Int)+1))).setCell ⟨w1.heap.size+1,0,none⟩ (.int .i64 16)=x:=⟨_,rfl⟩
      rw [hw4]
      rw [hw4] at Au
      clear hw4 c1 f1 him v0 v1 v2 v3 v4 y0 y1 y2 y3 y4 hne1 hne2
      have Cb:=hid Au.out.1
      have Cj:=hid Au.out.2.1
      have Bd:=hid Au.out.2.2.1
      have Bi:=hid Au.out.2.2.2.1
      have Ch:=hid Au.out.2.2.2.2
      clear Au
      refine (zea p g cap ts d [62] sn.adv _ Cb.out).mono ?_
      rintro e w41 ⟨rfl,hB⟩
      have Ap:=hid hB
      have Bg:=hid (Cb.out.below Ap.out)
      have Bh:=hid (Cj.out.trans (Sole.of_below Ap.out))
      have Ab:=hid (Bd.out.below Ap.out)
      have Al:=hid (Bi.out.below Ap.out)
      have Ai:=hid (zab.below Ch.out Ap.out)
      clear hB
      cases hb62:sn.adv.is [62] with
      | true =>
       have Bc:Hid (R=(zaw 16 (nt,na) [(Tree.node k n m a ks)],sn.adv.want [62])):=by show _=_;rw [Bf.out,hb62];rfl
       go_wp2_with fail
       refine (zan p g cap ts hE d [62] (by simp) sn.adv _ Bg.out).mono ?_
       rintro e w42 ⟨rfl,hD,hS⟩
       have Ba:=hid hS
       have Bz:=hid hD
       have Ca:=hid (Bh.out.trans Ba.out)
       have Aj:=hid (Ab.out.sole Ae.out.1 Ba.out)
       have Aa:=hid (Al.out.sole Ae.out.1 Ba.out)
       have Am:=hid (zab.sole Ai.out (by intro b hb;have hpg:=Ae.out.1;have hb2:=hb;first | (unfold zak at hb2;omega) | exact (Be.out b hb)) Ba.out)
       clear hD hS
       obtain ⟨⟨x0,x1,x2,x3,x4⟩,_⟩:=zaa Aj.out.1
       obtain ⟨⟨z0,z1,z2,z3,z4⟩,⟨y0,y1,y2,y3,y4⟩⟩:=zaa Aa.out.1
       go_wp2
       refine ret5 z0 z1 z2 z3 z4 rfl (fun u q0 q1 q2 q3 q4=>by simp [results,Tryz.results85,go_sem,q0,q1,q2,q3,q4]) Aa.out.2 Ca.out ?_
       intro wz hf
       rw [Bc.out]
       have hr2:=Aa.out.2
       have hpg:=Ae.out
       exact ⟨_,rfl,zb3 Am.out (fun b h=>h.1) (fun b h=>h.2.1) hf.2,Bz.out.but (by omega) (by omega) hf.2,hf.1⟩
      | false =>
       have Bc:Hid (R=(zaw 16 (nt,na) [(Tree.node k n m a ks),(zau sn.adv).1],(zau sn.adv).2.want [62])):=by show _=_;rw [Bf.out,hb62];rfl
       go_wp2_with fail
       have Ck:Hid (∀ m,Calls Tryz.prog 122 #[.pointer (some ⟨p,0,none⟩)] (w41.drewN m) (zdj p g cap ts d (zah w41.heap.size) (zau sn.adv) w41)):=fun m=>by
        have hB:Below w41.heap.size w41 (w41.drewN m):=zaj (Below.refl _ _) m
        exact (zck p g cap ts hE d sn.adv _ (Bg.out.below hB)).mono fun e w' hp=>zdj.of_below hB hp
       obtain ⟨⟨v0,v1,v2,v3,v4⟩,⟨y0,y1,y2,y3,y4⟩⟩:=zaa Ab.out.1
       have Cl:Hid (∀ q,(Value.slice (some ⟨w1.heap.size,0,none⟩) 1 1).ownBlock=some q->w.heap.size<=q):=fun q e=>by cases e;show w.heap.size<=w1.heap.size;have:=Bb.out;omega
       have Bv:=hid (Ab.out.lt)
       go_region_law (first
        | (refine zbw rfl 122 #[.pointer (some ⟨p,0,none⟩)] (by go_simp) _ (Ck.out _) ?_
           rintro e w5 ⟨v,rfl,hv,hD,hS⟩
           refine ⟨_,rfl,?_⟩
           obtain ⟨k8,n8,m8,a8,ks8,o8,l8,c8,he8,rfl⟩:=zar hv
           obtain ⟨wb,hwb⟩:∃ x,w5.alloc (.cells #[.int .i64 k8,.string ⟨n8.toArray⟩,.int .i64 m8,.int .i64 a8,.slice o8 l8 c8] 29)=x:=⟨_,rfl⟩
           have Dp:=hid hwb
           have hBb:Below w5.heap.size w5 wb:=by rw [<- hwb];exact zac _ _
           have Cm:=hid (hD.below hBb)
           have Cn:=hid ((Bh.out.trans hS).trans (Sole.of_below hBb))
           have Ah:=hid ((Ab.out.sole Ae.out.1 hS).below hBb)
           have Aq:=hid ((Al.out.sole Ae.out.1 hS).below hBb)
           have Co:=hid (zab.below (zab.sole Ai.out Be.out hS) hBb)
           have Cp:Hid (wb.heap[w5.heap.size]?=some (kidO k8 n8 m8 a8 (.slice o8 l8 c8))):=by show _=_;rw [<- hwb];exact heap_alloc_new _ _
           have Cq:Hid (w41.heap.size<=w5.heap.size∧wb.heap.size=w5.heap.size+1):=⟨hS.size,by rw [<- hwb];simp⟩
           have Bj:Hid (∀ q,(Value.slice (some ⟨w1.heap.size,0,none⟩) 1 1).ownBlock=some q->(fun b=>Mix A0 w.heap.size b∧b≠w.heap.size+1∧b≠w1.heap.size+1) q∧q<w41.heap.size):=fun q e=>zb0 Ai.out e
           have Cr:=hid he8
           have Cs:Hid (zae (fun b=>(fun b=>Mix A0 w.heap.size b∧b≠w.heap.size+1∧b≠w1.heap.size+1) b∧(Value.slice (some ⟨w1.heap.size,0,none⟩) 1 1).ownBlock≠some b) wb (.node k8 n8 m8 a8 ks8) (kidV k8 n8 m8 a8 (.slice o8 l8 c8))):=by
            rw [he8] at hv
            refine (zae.below hv hBb).weaken (fun b hb=>?_)
            have hb1:w41.heap.size<=b:=hb
            have hz1:=Bb.out
            have hz4:=Bv.out
            exact ⟨⟨Or.inr (by omega),by omega,by omega⟩,fun e=>by have:=(Bj.out b e).2;omega⟩
           have Ct:Hid ((fun b=>Mix A0 w.heap.size b∧b≠w.heap.size+1∧b≠w1.heap.size+1) wb.heap.size):=by
            have hb1:w41.heap.size<=wb.heap.size:=by have:=Cq.out;omega
            have hz1:=Bb.out
            have hz4:=Bv.out
            exact ⟨Or.inr (by omega),by omega,by omega⟩
           have u4:=(zaa (Ab.out.sole Ae.out.1 hS).1).1.2.2.2.2
           have x4:=(zaa Ah.out.1).1.2.2.2.2
           clear hv hD hS hBb he8
           unfold kidV)
        | (refine zfl _ rfl _ _ rfl (fun b=>Mix A0 w.heap.size b∧b≠w.heap.size+1∧b≠w1.heap.size+1) [(Tree.node k n m a ks)] (some ⟨w1.heap.size,0,none⟩) 1 1 Co.out rfl (by decide) w5.heap.size k8 m8 n8 a8 ks8 o8 l8 c8 rfl Cp.out Cs.out Ct.out ?_
           intro gq cq2 w6 hA
           have Bw:=hid (hA.ds Cm.out Cn.out Cl.out Ae.out.1 Ae.out.2)
           have Cu:=hid Bw.out.1
           have Cv:=hid Bw.out.2
           have Af:=hid (za1 Ah.out hA.grow (fun e=>by have h1:=(Bj.out _ e).1;exact h1.2.2 rfl))
           have Ar:=hid (za1 Aq.out hA.grow (fun e=>by have h1:=(Bj.out _ e).1;exact h1.2.1 rfl))
           have Cw:=hid (hA.list)
           obtain ⟨⟨j0,j1,j2,j3,j4⟩,⟨g0,g1,g2,g3,g4⟩⟩:=zaa Af.out.1
           clear hA))
       all_goals (
        have Av:Hid (DS (w6.setCell ⟨w1.heap.size+1,4,none⟩ (.slice (some ⟨gq,0,none⟩) 2 cq2)) p g cap ts d (zau sn.adv).2∧Sole p w (w6.setCell ⟨w1.heap.size+1,4,none⟩ (.slice (some ⟨gq,0,none⟩) 2 cq2))∧Kep w (w6.setCell ⟨w1.heap.size+1,4,none⟩ (.slice (some ⟨gq,0,none⟩) 2 cq2)) (w1.heap.size+1) (kidO 16 nt 0 na (.slice (some ⟨gq,0,none⟩) 2 cq2))∧Kep w (w6.setCell ⟨w1.heap.size+1,4,none⟩ (.slice (some ⟨gq,0,none⟩) 2 cq2)) (w.heap.size+1) (kidO 0 [] 0 0 (.slice none 0 0))∧zab (fun b=>Mix A0 w.heap.size b∧b≠w.heap.size+1∧b≠w1.heap.size+1) (w6.setCell ⟨w1.heap.size+1,4,none⟩ (.slice (some ⟨gq,0,none⟩) 2 cq2)) [(Tree.node k n m a ks),.node k8 n8 m8 a8 ks8] (.slice (some ⟨gq,0,none⟩) 2 cq2)):=by
         have h1:=Bb.out
         have h2:=Ae.out
         refine ⟨Cu.out.set (by omega) (by omega) _ _,Sole.set Cv.out (by omega) _ _,⟨zai Af.out.1,Af.out.2⟩,zci Ar.out (by omega) _ _,zab.but Cw.out (fun b hb=>hb.2.2) (fun b hb=>Below.heap_setCell _ _ _ _ hb)⟩
        go_wp2_with fail
        generalize w6.setCell ⟨w1.heap.size+1,4,none⟩ (.slice (some ⟨gq,0,none⟩) 2 cq2)=w7 at Av ⊢
        have Cx:=hid Av.out.1
        have Cy:=hid Av.out.2.1
        have Bl:=hid Av.out.2.2.1
        have Bm:=hid Av.out.2.2.2.1
        have Cz:=hid Av.out.2.2.2.2
        clear Av j0 j1 j2 j3 j4 g0 g1 g2 g3 g4
        refine (zan p g cap ts hE d [62] (by simp) (zau sn.adv).2 _ Cx.out).mono ?_
        rintro e w61 ⟨rfl,hD,hS⟩
        have An:=hid hS
        have Bn:=hid hD
        have Bo:=hid (Cy.out.trans An.out)
        have Ao:=hid (Bl.out.sole Ae.out.1 An.out)
        have Ad:=hid (Bm.out.sole Ae.out.1 An.out)
        have Aw:=hid (zab.sole Cz.out (by intro b hb;have hpg:=Ae.out.1;have hb2:=hb;first | (unfold zak at hb2;omega) | exact (Be.out b hb)) An.out)
        clear hD hS
        obtain ⟨⟨x0,x1,x2,x3,x4⟩,_⟩:=zaa Ao.out.1
        obtain ⟨⟨z0,z1,z2,z3,z4⟩,⟨y0,y1,y2,y3,y4⟩⟩:=zaa Ad.out.1
        go_wp2
        refine ret5 z0 z1 z2 z3 z4 rfl (fun u q0 q1 q2 q3 q4=>by simp [results,Tryz.results85,go_sem,q0,q1,q2,q3,q4]) Ad.out.2 Bo.out ?_
        intro wz hf
        rw [Bc.out]
        have hr2:=Ad.out.2
        have hpg:=Ae.out
        exact ⟨_,rfl,(by rw [Cr.out];exact zb3 Aw.out (fun b h=>h.1) (fun b h=>h.2.1) hf.2),Bn.out.but (by omega) (by omega) hf.2,hf.1⟩)
     | false =>
      rw [hb60,if_neg (by simp)] at Bf
      by_cases hl0:0<least
      case pos =>
       have Bc:Hid (R=(zaw 14 (nt,na) [(Tree.node k n m a ks)],sn.fail 40)):=by show _=_;rw [Bf.out,if_pos hl0]
       go_wp2_with fail
       refine (zbu p g cap ts d 40 sn _ Cf.out).mono ?_
       rintro e w63 ⟨rfl,hD,hS⟩
       have Cd:=hid hS
       have Ds:=hid hD
       have Dt:=hid (Cg.out.trans Cd.out)
       have Br:=hid (Ac.out.sole Ae.out.1 Cd.out)
       have Ay:=hid (Ag.out.sole Ae.out.1 Cd.out)
       have Bs:=hid (zab.sole Ak.out (by intro b hb;have hpg:=Ae.out.1;have hb2:=hb;first | (unfold zak at hb2;omega) | exact (Be.out b hb)) Cd.out)
       clear hD hS
       obtain ⟨⟨x0,x1,x2,x3,x4⟩,_⟩:=zaa Br.out.1
       obtain ⟨⟨z0,z1,z2,z3,z4⟩,⟨y0,y1,y2,y3,y4⟩⟩:=zaa Ay.out.1
       go_wp2
       refine ret5 z0 z1 z2 z3 z4 rfl (fun u q0 q1 q2 q3 q4=>by simp [results,Tryz.results85,go_sem,q0,q1,q2,q3,q4]) Ay.out.2 Dt.out ?_
       intro wz hf
       rw [Bc.out]
       have hr2:=Ay.out.2
       have hpg:=Ae.out
       exact ⟨_,rfl,zb3 Bs.out (fun b h=>h.1) (fun b h=>h.2.1) hf.2,Ds.out.but (by omega) (by omega) hf.2,hf.1⟩
      exact absurd (show 0<least by omega) hl0
   · skip
     cases hb60:sn.is [60] with
     | true =>
      rw [hb60,if_pos rfl] at Bf
      obtain ⟨ix,c1,f1,him,hDa,hSa⟩:=DS.adv_set hE Cf.out (zk6 (by simp) hb60)
      obtain ⟨⟨v0,v1,v2,v3,v4⟩,⟨y0,y1,y2,y3,y4⟩⟩:=zaa Ac.out.1
      have hne1:¬ p=w1.heap.size+1:=by have:=Ae.out.1;have:=Bb.out;omega
      have hne2:¬ w1.heap.size+1=p:=by omega
      have Au:Hid (DS ((w3.setCell ⟨p,1,none⟩ (.int .i64 ((ix:Int)+1))).setCell ⟨w1.heap.size+1,0,none⟩ (.int .i64 16)) p g cap ts d sn.adv∧Sole p w ((w3.setCell ⟨p,1,none⟩ (.int .i64 ((ix:Int)+1))).setCell ⟨w1.heap.size+1,0,none⟩ (.int .i64 16))∧Kep w ((w3.setCell ⟨p,1,none⟩ (.int .i64 ((ix:Int)+1))).setCell ⟨w1.heap.size+1,0,none⟩ (.int .i64 16)) (w1.heap.size+1) (kidO 16 nt 0 na (.slice (some ⟨w1.heap.size,0,none⟩) 1 1))∧Kep w ((w3.setCell ⟨p,1,none⟩ (.int .i64 ((ix:Int)+1))).setCell ⟨w1.heap.size+1,0,none⟩ (.int .i64 16)) (w.heap.size+1) (kidO 0 [] 0 0 (.slice none 0 0))∧zab (fun b=>Mix A0 w.heap.size b∧b≠w.heap.size+1∧b≠w1.heap.size+1) ((w3.setCell ⟨p,1,none⟩ (.int .i64 ((ix:Int)+1))).setCell ⟨w1.heap.size+1,0,none⟩ (.int .i64 16)) [(Tree.node k n m a ks)] (.slice (some ⟨w1.heap.size,0,none⟩) 1 1)):=by
       have h1:=Bb.out
       have h2:=Ae.out
       refine ⟨hDa.set (by omega) (by omega) _ _,Sole.set (Cg.out.trans hSa) (by omega) _ _,⟨zai (hSa.blk Ac.out.1 hne2),Ac.out.2⟩,zci (Ag.out.sole h2.1 hSa) (by omega) _ _,zab.but (zab.sole Ak.out Be.out hSa) (fun b hb=>hb.2.2) (fun b hb=>Below.heap_setCell _ _ _ _ hb)⟩
      clear hDa hSa
      go_wp2_with fail
      obtain ⟨w4,hw4⟩:∃ x,(w3.setCell ⟨p,1,none⟩ (.int .i64 ((ix:Int)+1))).setCell ⟨w1.heap.size+1,0,none⟩ (.int .i64 16)=x:=⟨_,rfl⟩
      rw [hw4]
      rw [hw4] at Au
      clear hw4 c1 f1 him v0 v1 v2 v3 v4 y0 y1 y2 y3 y4 hne1 hne2
      have Cb:=hid Au.out.1
      have Cj:=hid Au.out.2.1
      have Bd:=hid Au.out.2.2.1
      have Bi:=hid Au.out.2.2.2.1
      have Ch:=hid Au.out.2.2.2.2
      clear Au
      refine (zea p g cap ts d [62] sn.adv _ Cb.out).mono ?_
      rintro e w41 ⟨rfl,hB⟩
      have Ap:=hid hB
      have Bg:=hid (Cb.out.below Ap.out)
      have Bh:=hid (Cj.out.trans (Sole.of_below Ap.out))
      have Ab:=hid (Bd.out.below Ap.out)
      have Al:=hid (Bi.out.below Ap.out)
      have Ai:=hid (zab.below Ch.out Ap.out)
      clear hB
      cases hb62:sn.adv.is [62] with
      | true =>
       have Bc:Hid (R=(zaw 16 (nt,na) [(Tree.node k n m a ks)],sn.adv.want [62])):=by show _=_;rw [Bf.out,hb62];rfl
       go_wp2_with fail
       refine (zan p g cap ts hE d [62] (by simp) sn.adv _ Bg.out).mono ?_
       rintro e w42 ⟨rfl,hD,hS⟩
       have Ba:=hid hS
       have Bz:=hid hD
       have Ca:=hid (Bh.out.trans Ba.out)
       have Aj:=hid (Ab.out.sole Ae.out.1 Ba.out)
       have Aa:=hid (Al.out.sole Ae.out.1 Ba.out)
       have Am:=hid (zab.sole Ai.out (by intro b hb;have hpg:=Ae.out.1;have hb2:=hb;first | (unfold zak at hb2;omega) | exact (Be.out b hb)) Ba.out)
       clear hD hS
       obtain ⟨⟨x0,x1,x2,x3,x4⟩,_⟩:=zaa Aj.out.1
       obtain ⟨⟨z0,z1,z2,z3,z4⟩,⟨y0,y1,y2,y3,y4⟩⟩:=zaa Aa.out.1
       go_wp2
       refine ret5 z0 z1 z2 z3 z4 rfl (fun u q0 q1 q2 q3 q4=>by simp [results,Tryz.results85,go_sem,q0,q1,q2,q3,q4]) Aa.out.2 Ca.out ?_
       intro wz hf
       rw [Bc.out]
       have hr2:=Aa.out.2
       have hpg:=Ae.out
       exact ⟨_,rfl,zb3 Am.out (fun b h=>h.1) (fun b h=>h.2.1) hf.2,Bz.out.but (by omega) (by omega) hf.2,hf.1⟩
      | false =>
       have Bc:Hid (R=(zaw 16 (nt,na) [(Tree.node k n m a ks),(zau sn.adv).1],(zau sn.adv).2.want [62])):=by show _=_;rw [Bf.out,hb62];rfl
       go_wp2_with fail
       have Ck:Hid (∀ m,Calls Tryz.prog 122 #[.pointer (some ⟨p,0,none⟩)] (w41.drewN m) (zdj p g cap ts d (zah w41.heap.size) (zau sn.adv) w41)):=fun m=>by
        have hB:Below w41.heap.size w41 (w41.drewN m):=zaj (Below.refl _ _) m
        exact (zck p g cap ts hE d sn.adv _ (Bg.out.below hB)).mono fun e w' hp=>zdj.of_below hB hp
       obtain ⟨⟨v0,v1,v2,v3,v4⟩,⟨y0,y1,y2,y3,y4⟩⟩:=zaa Ab.out.1
       have Cl:Hid (∀ q,(Value.slice (some ⟨w1.heap.size,0,none⟩) 1 1).ownBlock=some q->w.heap.size<=q):=fun q e=>by cases e;show w.heap.size<=w1.heap.size;have:=Bb.out;omega
       have Bv:=hid (Ab.out.lt)
       go_region_law (first
        | (refine zbw rfl 122 #[.pointer (some ⟨p,0,none⟩)] (by go_simp) _ (Ck.out _) ?_
           rintro e w5 ⟨v,rfl,hv,hD,hS⟩
           refine ⟨_,rfl,?_⟩
           obtain ⟨k8,n8,m8,a8,ks8,o8,l8,c8,he8,rfl⟩:=zar hv
           obtain ⟨wb,hwb⟩:∃ x,w5.alloc (.cells #[.int .i64 k8,.string ⟨n8.toArray⟩,.int .i64 m8,.int .i64 a8,.slice o8 l8 c8] 29)=x:=⟨_,rfl⟩
           have Dp:=hid hwb
           have hBb:Below w5.heap.size w5 wb:=by rw [<- hwb];exact zac _ _
           have Cm:=hid (hD.below hBb)
           have Cn:=hid ((Bh.out.trans hS).trans (Sole.of_below hBb))
           have Ah:=hid ((Ab.out.sole Ae.out.1 hS).below hBb)
           have Aq:=hid ((Al.out.sole Ae.out.1 hS).below hBb)
           have Co:=hid (zab.below (zab.sole Ai.out Be.out hS) hBb)
           have Cp:Hid (wb.heap[w5.heap.size]?=some (kidO k8 n8 m8 a8 (.slice o8 l8 c8))):=by show _=_;rw [<- hwb];exact heap_alloc_new _ _
           have Cq:Hid (w41.heap.size<=w5.heap.size∧wb.heap.size=w5.heap.size+1):=⟨hS.size,by rw [<- hwb];simp⟩
           have Bj:Hid (∀ q,(Value.slice (some ⟨w1.heap.size,0,none⟩) 1 1).ownBlock=some q->(fun b=>Mix A0 w.heap.size b∧b≠w.heap.size+1∧b≠w1.heap.size+1) q∧q<w41.heap.size):=fun q e=>zb0 Ai.out e
           have Cr:=hid he8
           have Cs:Hid (zae (fun b=>(fun b=>Mix A0 w.heap.size b∧b≠w.heap.size+1∧b≠w1.heap.size+1) b∧(Value.slice (some ⟨w1.heap.size,0,none⟩) 1 1).ownBlock≠some b) wb (.node k8 n8 m8 a8 ks8) (kidV k8 n8 m8 a8 (.slice o8 l8 c8))):=by
            rw [he8] at hv
            refine (zae.below hv hBb).weaken (fun b hb=>?_)
            have hb1:w41.heap.size<=b:=hb
            have hz1:=Bb.out
            have hz4:=Bv.out
            exact ⟨⟨Or.inr (by omega),by omega,by omega⟩,fun e=>by have:=(Bj.out b e).2;omega⟩
           have Ct:Hid ((fun b=>Mix A0 w.heap.size b∧b≠w.heap.size+1∧b≠w1.heap.size+1) wb.heap.size):=by
            have hb1:w41.heap.size<=wb.heap.size:=by have:=Cq.out;omega
            have hz1:=Bb.out
            have hz4:=Bv.out
            exact ⟨Or.inr (by omega),by omega,by omega⟩
           have u4:=(zaa (Ab.out.sole Ae.out.1 hS).1).1.2.2.2.2
           have x4:=(zaa Ah.out.1).1.2.2.2.2
           clear hv hD hS hBb he8
           unfold kidV)
        | (refine zfl _ rfl _ _ rfl (fun b=>Mix A0 w.heap.size b∧b≠w.heap.size+1∧b≠w1.heap.size+1) [(Tree.node k n m a ks)] (some ⟨w1.heap.size,0,none⟩) 1 1 Co.out rfl (by decide) w5.heap.size k8 m8 n8 a8 ks8 o8 l8 c8 rfl Cp.out Cs.out Ct.out ?_
           intro gq cq2 w6 hA
           have Bw:=hid (hA.ds Cm.out Cn.out Cl.out Ae.out.1 Ae.out.2)
           have Cu:=hid Bw.out.1
           have Cv:=hid Bw.out.2
           have Af:=hid (za1 Ah.out hA.grow (fun e=>by have h1:=(Bj.out _ e).1;exact h1.2.2 rfl))
           have Ar:=hid (za1 Aq.out hA.grow (fun e=>by have h1:=(Bj.out _ e).1;exact h1.2.1 rfl))
           have Cw:=hid (hA.list)
           obtain ⟨⟨j0,j1,j2,j3,j4⟩,⟨g0,g1,g2,g3,g4⟩⟩:=zaa Af.out.1
           clear hA))
       all_goals (
        have Av:Hid (DS (w6.setCell ⟨w1.heap.size+1,4,none⟩ (.slice (some ⟨gq,0,none⟩) 2 cq2)) p g cap ts d (zau sn.adv).2∧Sole p w (w6.setCell ⟨w1.heap.size+1,4,none⟩ (.slice (some ⟨gq,0,none⟩) 2 cq2))∧Kep w (w6.setCell ⟨w1.heap.size+1,4,none⟩ (.slice (some ⟨gq,0,none⟩) 2 cq2)) (w1.heap.size+1) (kidO 16 nt 0 na (.slice (some ⟨gq,0,none⟩) 2 cq2))∧Kep w (w6.setCell ⟨w1.heap.size+1,4,none⟩ (.slice (some ⟨gq,0,none⟩) 2 cq2)) (w.heap.size+1) (kidO 0 [] 0 0 (.slice none 0 0))∧zab (fun b=>Mix A0 w.heap.size b∧b≠w.heap.size+1∧b≠w1.heap.size+1) (w6.setCell ⟨w1.heap.size+1,4,none⟩ (.slice (some ⟨gq,0,none⟩) 2 cq2)) [(Tree.node k n m a ks),.node k8 n8 m8 a8 ks8] (.slice (some ⟨gq,0,none⟩) 2 cq2)):=by
         have h1:=Bb.out
         have h2:=Ae.out
         refine ⟨Cu.out.set (by omega) (by omega) _ _,Sole.set Cv.out (by omega) _ _,⟨zai Af.out.1,Af.out.2⟩,zci Ar.out (by omega) _ _,zab.but Cw.out (fun b hb=>hb.2.2) (fun b hb=>Below.heap_setCell _ _ _ _ hb)⟩
        go_wp2_with fail
        generalize w6.setCell ⟨w1.heap.size+1,4,none⟩ (.slice (some ⟨gq,0,none⟩) 2 cq2)=w7 at Av ⊢
        have Cx:=hid Av.out.1
        have Cy:=hid Av.out.2.1
        have Bl:=hid Av.out.2.2.1
        have Bm:=hid Av.out.2.2.2.1
        have Cz:=hid Av.out.2.2.2.2
        clear Av j0 j1 j2 j3 j4 g0 g1 g2 g3 g4
        refine (zan p g cap ts hE d [62] (by simp) (zau sn.adv).2 _ Cx.out).mono ?_
        rintro e w61 ⟨rfl,hD,hS⟩
        have An:=hid hS
        have Bn:=hid hD
        have Bo:=hid (Cy.out.trans An.out)
        have Ao:=hid (Bl.out.sole Ae.out.1 An.out)
        have Ad:=hid (Bm.out.sole Ae.out.1 An.out)
        have Aw:=hid (zab.sole Cz.out (by intro b hb;have hpg:=Ae.out.1;have hb2:=hb;first | (unfold zak at hb2;omega) | exact (Be.out b hb)) An.out)
        clear hD hS
        obtain ⟨⟨x0,x1,x2,x3,x4⟩,_⟩:=zaa Ao.out.1
        obtain ⟨⟨z0,z1,z2,z3,z4⟩,⟨y0,y1,y2,y3,y4⟩⟩:=zaa Ad.out.1
        go_wp2
        refine ret5 z0 z1 z2 z3 z4 rfl (fun u q0 q1 q2 q3 q4=>by simp [results,Tryz.results85,go_sem,q0,q1,q2,q3,q4]) Ad.out.2 Bo.out ?_
        intro wz hf
        rw [Bc.out]
        have hr2:=Ad.out.2
        have hpg:=Ae.out
        exact ⟨_,rfl,(by rw [Cr.out];exact zb3 Aw.out (fun b h=>h.1) (fun b h=>h.2.1) hf.2),Bn.out.but (by omega) (by omega) hf.2,hf.1⟩)
     | false =>
      rw [hb60,if_neg (by simp)] at Bf
      by_cases hl0:0<least
      case pos =>
       have Bc:Hid (R=(zaw 14 (nt,na) [(Tree.node k n m a ks)],sn.fail 40)):=by show _=_;rw [Bf.out,if_pos hl0]
       go_wp2_with fail
       refine (zbu p g cap ts d 40 sn _ Cf.out).mono ?_
       rintro e w64 ⟨rfl,hD,hS⟩
       have Ce:=hid hS
       have Du:=hid hD
       have Dv:=hid (Cg.out.trans Ce.out)
       have Bt:=hid (Ac.out.sole Ae.out.1 Ce.out)
       have Az:=hid (Ag.out.sole Ae.out.1 Ce.out)
       have Bu:=hid (zab.sole Ak.out (by intro b hb;have hpg:=Ae.out.1;have hb2:=hb;first | (unfold zak at hb2;omega) | exact (Be.out b hb)) Ce.out)
       clear hD hS
       obtain ⟨⟨x0,x1,x2,x3,x4⟩,_⟩:=zaa Bt.out.1
       obtain ⟨⟨z0,z1,z2,z3,z4⟩,⟨y0,y1,y2,y3,y4⟩⟩:=zaa Az.out.1
       go_wp2
       refine ret5 z0 z1 z2 z3 z4 rfl (fun u q0 q1 q2 q3 q4=>by simp [results,Tryz.results85,go_sem,q0,q1,q2,q3,q4]) Az.out.2 Dv.out ?_
       intro wz hf
       rw [Bc.out]
       have hr2:=Az.out.2
       have hpg:=Ae.out
       exact ⟨_,rfl,zb3 Bu.out (fun b h=>h.1) (fun b h=>h.2.1) hf.2,Du.out.but (by omega) (by omega) hf.2,hf.1⟩
      exact absurd (show 0<least by omega) hl0
/-- a function of the document's parser that answers a tree -/
def zge (p g cap:Nat) (ts:List Tok) (d:Int) (f:Nat) (F:RS->Tree × RS):Prop:=∀ s w,DS w p g cap ts d s->Calls Tryz.prog f #[.pointer (some ⟨p,0,none⟩)] w (zdj p g cap ts d (zah w.heap.size) (F s) w)
/-- and a list -/
def zlv (p g cap:Nat) (ts:List Tok) (d:Int) (f:Nat) (F:RS->List Tree × RS):Prop:=∀ s w,DS w p g cap ts d s->Calls Tryz.prog f #[.pointer (some ⟨p,0,none⟩)] w (zdj p g cap ts d (zbg w.heap.size) (F s) w)
theorem DS.deep {w:World} {p g cap:Nat} {ts:List Tok} {d:Int} {s:RS} (h:DS w p g cap ts d s) (d' : Int):w.cell? ⟨p,2,none⟩=some (.int .i64 d)∧w.frozen? ⟨p,2,none⟩=false∧DS (w.setCell ⟨p,2,none⟩ (.int .i64 d')) p g cap ts d' s∧Sole p w (w.setCell ⟨p,2,none⟩ (.int .i64 d')):=by
 obtain ⟨i,h1,h2⟩:=h
 have c:=zb2 h2.blk
 exact ⟨c.1.2.2.1,c.2.2.1,⟨i,h1,h2.put (zai h2.blk) ((Sole.setCell w 2 _).block g h2.gl h2.gp) h2.il⟩,Sole.setCell w 2 _⟩
set_option maxHeartbeats 2000000 in
set_option maxRecDepth 4000 in
theorem body_any (p g cap:Nat) (ts:List Tok) (d:Int) (hd:0<=d∧d<=100) (B:RS->Tree × RS) (last:Bool) (hM:zlv p g cap ts (d+1) 82 zfa) (hF:zlv p g cap ts (d+1) 83 (fieldsD B last)) (hC:zlv p g cap ts (d+1) 84 (zgh B)) (k:Int) (n:List UInt8) (a:Nat) (s:RS) (w:World) (h:DS w p g cap ts d s):
 Calls Tryz.prog 47 #[.pointer (some ⟨p,0,none⟩),kidV k n 0 a (.slice none 0 0)] w (zdj p g cap ts d (zah w.heap.size) (.node k n 0 a (zec B last k s).1,(zec B last k s).2) w):=by
 have Aa:Hid (p<w.heap.size∧g<w.heap.size):=⟨h.plt,h.glt⟩
 have Aq:=hid hM
 have Ar:=hid hF
 have Au:=hid hC
 have Av:=hid hd
 obtain ⟨wt,hwt⟩:∃ x,w.alloc (.cells #[.int .i64 k,.string ⟨n.toArray⟩,.int .i64 0,.int .i64 a,.slice none 0 0] 29)=x:=⟨_,rfl⟩
 obtain ⟨wa,hwa⟩:∃ x,wt.alloc (.cells #[.int .i64 0,.string ⟨#[]⟩,.int .i64 0,.int .i64 0,.slice none 0 0] 29)=x:=⟨_,rfl⟩
 have An:Hid (wt.heap.size=w.heap.size+1):=by show _=_;rw [<- hwt];simp
 have HB:Hid (Below w.heap.size w wa):=by show Below _ _ _;rw [<- hwa,<- hwt];exact (zac _ _).alloc (by simp) _
 have Ao:Hid (Kep w wa w.heap.size (kidO k n 0 a (.slice none 0 0))):=⟨by rw [<- hwa];exact za9 (by rw [<- hwt];exact heap_alloc_new _ _),Nat.le_refl _⟩
 have HK:Hid (Kep w wa (w.heap.size+1) (kidO 0 [] 0 0 (.slice none 0 0))):=⟨by have h1:=heap_alloc_new wt (.cells #[.int .i64 0,.string ⟨#[]⟩,.int .i64 0,.int .i64 0,.slice none 0 0] 29);rw [hwa,An.out] at h1;exact h1,Nat.le_succ _⟩
 have HD:=hid (h.below HB.out)
 have HS:Hid (Sole p w wa):=Sole.of_below HB.out
 have hz:=An.out
 obtain ⟨c2,f2,hDd,hSd⟩:=HD.out.deep (d+1)
 have HW:Hid (DS (wa.setCell ⟨p,2,none⟩ (.int .i64 (d+1))) p g cap ts (d+1) s∧Sole p w (wa.setCell ⟨p,2,none⟩ (.int .i64 (d+1)))∧Kep w (wa.setCell ⟨p,2,none⟩ (.int .i64 (d+1))) w.heap.size (kidO k n 0 a (.slice none 0 0))∧Kep w (wa.setCell ⟨p,2,none⟩ (.int .i64 (d+1))) (w.heap.size+1) (kidO 0 [] 0 0 (.slice none 0 0))):=⟨hDd,HS.out.trans hSd,Ao.out.sole Aa.out.1 hSd,HK.out.sole Aa.out.1 hSd⟩
 obtain ⟨⟨x0,x1,x2,x3,x4⟩,⟨y0,y1,y2,y3,y4⟩⟩:=zaa Ao.out.1
 have hdd:=Av.out
 have hd1:d+1<=101:=by omega
 have hd0:0<=d:=hdd.1
 have hn0:¬ p=w.heap.size:=by have:=Aa.out.1;omega
 have hn1:¬ w.heap.size=p:=by omega
 have hn2:¬ p=w.heap.size+1:=by have:=Aa.out.1;omega
 have hn3:¬ w.heap.size+1=p:=by omega
 clear h hM hF hC hd hDd hSd
 unfold kidV
 by_cases hk:k=4
 case pos =>
  have Ai:Hid (zec B last k s=zfa s):=by show _=_;rw [hk];rfl
  have hk2:(k==4)=true:=by simp [hk]
  clear hk
  go_enter Tryz.func47,Tryz.ntmps47
  go_wp2_with fail
  obtain ⟨w0,hw0⟩:∃ x,wa.setCell ⟨p,2,none⟩ (.int .i64 (d+1))=x:=⟨_,rfl⟩
  rw [hw0]
  rw [hw0] at HW
  clear hw0 hwa hwt x0 x1 x2 x3 x4 y0 y1 y2 y3 y4 c2 f2
  have Aj:=hid HW.out.1
  have Ak:=hid HW.out.2.1
  have Ad:=hid HW.out.2.2.1
  have Af:=hid HW.out.2.2.2
  refine (Aq.out s w0 Aj.out).mono ?_
  rintro e w1 ⟨v,rfl,hv,hD,hS⟩
  obtain ⟨o1,l1,c1,rfl⟩:=zab.shape hv
  have Ac:=hid hD
  have Al:=hid (Ak.out.trans hS)
  have Ae:=hid (Ad.out.sole Aa.out.1 hS)
  have Ag:=hid (Af.out.sole Aa.out.1 hS)
  have Am:=hid Af.out.lt
  have Ah:=hid hv
  have Ap:=hid (zgb hv)
  obtain ⟨kl,hkl⟩:∃ x,(zfa s).1=x:=⟨_,rfl⟩
  obtain ⟨sl,hsl⟩:∃ x,(zfa s).2=x:=⟨_,rfl⟩
  have HR:Hid (zec B last k s=(kl,sl)):=by
   show _=_
   rw [Ai.out,<- hkl,<- hsl]
  rw [hkl] at Ah
  rw [hsl] at Ac
  clear hv hD hS hkl hsl
  obtain ⟨⟨x0,x1,x2,x3,x4⟩,⟨y0,y1,y2,y3,y4⟩⟩:=zaa Ae.out.1
  obtain ⟨⟨z0,z1,z2,z3,z4⟩,⟨u0,u1,u2,u3,u4⟩⟩:=zaa Ag.out.1
  obtain ⟨c2,f2,hDd,hSd⟩:=DS.deep (Ac.out.set (r:=w.heap.size) Aa.out.1 Aa.out.2 4 (.slice o1 l1 c1)) d
  have c2' : w1.cell? ⟨p,2,none⟩=some (.int .i64 (d+1)):=Ac.out.e_cell.2
  have f2' : w1.frozen? ⟨p,2,none⟩=false:=(DS.deep Ac.out d).2.1
  have Ab:Hid (Kep w (((w1.setCell ⟨w.heap.size,4,none⟩ (.slice o1 l1 c1)).setCell ⟨p,2,none⟩ (.int .i64 d))) (w.heap.size+1) (kidO 0 [] 0 0 (.slice none 0 0))∧DS (((w1.setCell ⟨w.heap.size,4,none⟩ (.slice o1 l1 c1)).setCell ⟨p,2,none⟩ (.int .i64 d))) p g cap ts d sl∧Sole p w (((w1.setCell ⟨w.heap.size,4,none⟩ (.slice o1 l1 c1)).setCell ⟨p,2,none⟩ (.int .i64 d)))∧zab (fun b=>zak w.heap.size b∧b≠w.heap.size+1) (((w1.setCell ⟨w.heap.size,4,none⟩ (.slice o1 l1 c1)).setCell ⟨p,2,none⟩ (.int .i64 d))) kl (.slice o1 l1 c1)):=by
   have h1:=Am.out
   have hl1:zab (fun b=>zak w.heap.size b∧b≠w.heap.size+1∧b≠w.heap.size) w1 kl (.slice o1 l1 c1):=zab.weaken Ah.out (fun b hb=>by
    have hb1:w0.heap.size<=b:=hb
    exact ⟨by unfold zak;omega,by omega,by omega⟩)
   refine ⟨(zci Ag.out (by omega) _ _).sole Aa.out.1 hSd,hDd,(Sole.set Al.out (Nat.le_refl _) _ _).trans hSd,?_⟩
   refine (zab.sole (zab.but hl1 (fun b hb=>hb.2.2) (fun b hb=>Below.heap_setCell _ _ _ _ hb)) (fun b hb=>?_) hSd).weaken (fun b hb=>⟨hb.1,hb.2.1⟩)
   have hb1:w.heap.size<=b:=hb.1
   have:=Aa.out.1
   omega
  clear hDd hSd c2 f2
  go_wp2
  obtain ⟨w9,hw9⟩:∃ x,(w1.setCell ⟨w.heap.size,4,none⟩ (.slice o1 l1 c1)).setCell ⟨p,2,none⟩ (.int .i64 d)=x:=⟨_,rfl⟩
  rw [hw9]
  rw [hw9] at Ab
  clear hw9 z0 z1 z2 z3 z4
  obtain ⟨⟨z0,z1,z2,z3,z4⟩,_⟩:=zaa Ab.out.1.1
  refine ret5 z0 z1 z2 z3 z4 rfl (fun u q0 q1 q2 q3 q4=>by simp [results,Tryz.results47,go_sem,q0,q1,q2,q3,q4]) (Nat.le_succ _) Ab.out.2.2.1 ?_
  intro wz hf
  rw [HR.out]
  have hpg:=Aa.out
  exact ⟨_,rfl,za4 Ab.out.2.2.2 (fun b h=>h.1) (fun b h=>h.2) hf.2,Ab.out.2.1.but (by omega) (by omega) hf.2,hf.1⟩
 by_cases hk6:k=6
 case pos =>
  have Ai:Hid (zec B last k s=fieldsD B last s):=by show _=_;rw [hk6];rfl
  have hk2:(k==4)=false:=by simp [hk]
  have hk3:(k==6)=true:=by simp [hk6]
  clear hk hk6
  go_enter Tryz.func47,Tryz.ntmps47
  go_wp2_with fail
  obtain ⟨w0,hw0⟩:∃ x,wa.setCell ⟨p,2,none⟩ (.int .i64 (d+1))=x:=⟨_,rfl⟩
  rw [hw0]
  rw [hw0] at HW
  clear hw0 hwa hwt x0 x1 x2 x3 x4 y0 y1 y2 y3 y4 c2 f2
  have Aj:=hid HW.out.1
  have Ak:=hid HW.out.2.1
  have Ad:=hid HW.out.2.2.1
  have Af:=hid HW.out.2.2.2
  refine (Ar.out s w0 Aj.out).mono ?_
  rintro e w1 ⟨v,rfl,hv,hD,hS⟩
  obtain ⟨o1,l1,c1,rfl⟩:=zab.shape hv
  have Ac:=hid hD
  have Al:=hid (Ak.out.trans hS)
  have Ae:=hid (Ad.out.sole Aa.out.1 hS)
  have Ag:=hid (Af.out.sole Aa.out.1 hS)
  have Am:=hid Af.out.lt
  have Ah:=hid hv
  have Ap:=hid (zgb hv)
  obtain ⟨kl,hkl⟩:∃ x,(fieldsD B last s).1=x:=⟨_,rfl⟩
  obtain ⟨sl,hsl⟩:∃ x,(fieldsD B last s).2=x:=⟨_,rfl⟩
  have HR:Hid (zec B last k s=(kl,sl)):=by
   show _=_
   rw [Ai.out,<- hkl,<- hsl]
  rw [hkl] at Ah
  rw [hsl] at Ac
  clear hv hD hS hkl hsl
  obtain ⟨⟨x0,x1,x2,x3,x4⟩,⟨y0,y1,y2,y3,y4⟩⟩:=zaa Ae.out.1
  obtain ⟨⟨z0,z1,z2,z3,z4⟩,⟨u0,u1,u2,u3,u4⟩⟩:=zaa Ag.out.1
  obtain ⟨c2,f2,hDd,hSd⟩:=DS.deep (Ac.out.set (r:=w.heap.size) Aa.out.1 Aa.out.2 4 (.slice o1 l1 c1)) d
  have c2' : w1.cell? ⟨p,2,none⟩=some (.int .i64 (d+1)):=Ac.out.e_cell.2
  have f2' : w1.frozen? ⟨p,2,none⟩=false:=(DS.deep Ac.out d).2.1
  have Ab:Hid (Kep w (((w1.setCell ⟨w.heap.size,4,none⟩ (.slice o1 l1 c1)).setCell ⟨p,2,none⟩ (.int .i64 d))) (w.heap.size+1) (kidO 0 [] 0 0 (.slice none 0 0))∧DS (((w1.setCell ⟨w.heap.size,4,none⟩ (.slice o1 l1 c1)).setCell ⟨p,2,none⟩ (.int .i64 d))) p g cap ts d sl∧Sole p w (((w1.setCell ⟨w.heap.size,4,none⟩ (.slice o1 l1 c1)).setCell ⟨p,2,none⟩ (.int .i64 d)))∧zab (fun b=>zak w.heap.size b∧b≠w.heap.size+1) (((w1.setCell ⟨w.heap.size,4,none⟩ (.slice o1 l1 c1)).setCell ⟨p,2,none⟩ (.int .i64 d))) kl (.slice o1 l1 c1)):=by
   have h1:=Am.out
   have hl1:zab (fun b=>zak w.heap.size b∧b≠w.heap.size+1∧b≠w.heap.size) w1 kl (.slice o1 l1 c1):=zab.weaken Ah.out (fun b hb=>by
    have hb1:w0.heap.size<=b:=hb
    exact ⟨by unfold zak;omega,by omega,by omega⟩)
   refine ⟨(zci Ag.out (by omega) _ _).sole Aa.out.1 hSd,hDd,(Sole.set Al.out (Nat.le_refl _) _ _).trans hSd,?_⟩
   refine (zab.sole (zab.but hl1 (fun b hb=>hb.2.2) (fun b hb=>Below.heap_setCell _ _ _ _ hb)) (fun b hb=>?_) hSd).weaken (fun b hb=>⟨hb.1,hb.2.1⟩)
   have hb1:w.heap.size<=b:=hb.1
   have:=Aa.out.1
   omega
  clear hDd hSd c2 f2
  go_wp2
  obtain ⟨w9,hw9⟩:∃ x,(w1.setCell ⟨w.heap.size,4,none⟩ (.slice o1 l1 c1)).setCell ⟨p,2,none⟩ (.int .i64 d)=x:=⟨_,rfl⟩
  rw [hw9]
  rw [hw9] at Ab
  clear hw9 z0 z1 z2 z3 z4
  obtain ⟨⟨z0,z1,z2,z3,z4⟩,_⟩:=zaa Ab.out.1.1
  refine ret5 z0 z1 z2 z3 z4 rfl (fun u q0 q1 q2 q3 q4=>by simp [results,Tryz.results47,go_sem,q0,q1,q2,q3,q4]) (Nat.le_succ _) Ab.out.2.2.1 ?_
  intro wz hf
  rw [HR.out]
  have hpg:=Aa.out
  exact ⟨_,rfl,za4 Ab.out.2.2.2 (fun b h=>h.1) (fun b h=>h.2) hf.2,Ab.out.2.1.but (by omega) (by omega) hf.2,hf.1⟩
 have hk2:(k==4)=false:=by simp [hk]
 have hk3:(k==6)=false:=by simp [hk6]
 have Ai:Hid (zec B last k s=zgh B s):=by show _=_;unfold zec;rw [hk2,hk3];rfl
 clear hk hk6
 go_enter Tryz.func47,Tryz.ntmps47
 go_wp2_with fail
 obtain ⟨w0,hw0⟩:∃ x,wa.setCell ⟨p,2,none⟩ (.int .i64 (d+1))=x:=⟨_,rfl⟩
 rw [hw0]
 rw [hw0] at HW
 clear hw0 hwa hwt x0 x1 x2 x3 x4 y0 y1 y2 y3 y4 c2 f2
 have Aj:=hid HW.out.1
 have Ak:=hid HW.out.2.1
 have Ad:=hid HW.out.2.2.1
 have Af:=hid HW.out.2.2.2
 refine (Au.out s w0 Aj.out).mono ?_
 rintro e w1 ⟨v,rfl,hv,hD,hS⟩
 obtain ⟨o1,l1,c1,rfl⟩:=zab.shape hv
 have Ac:=hid hD
 have Al:=hid (Ak.out.trans hS)
 have Ae:=hid (Ad.out.sole Aa.out.1 hS)
 have Ag:=hid (Af.out.sole Aa.out.1 hS)
 have Am:=hid Af.out.lt
 have Ah:=hid hv
 have Ap:=hid (zgb hv)
 obtain ⟨kl,hkl⟩:∃ x,(zgh B s).1=x:=⟨_,rfl⟩
 obtain ⟨sl,hsl⟩:∃ x,(zgh B s).2=x:=⟨_,rfl⟩
 have HR:Hid (zec B last k s=(kl,sl)):=by
  show _=_
  rw [Ai.out,<- hkl,<- hsl]
 rw [hkl] at Ah
 rw [hsl] at Ac
 clear hv hD hS hkl hsl
 obtain ⟨⟨x0,x1,x2,x3,x4⟩,⟨y0,y1,y2,y3,y4⟩⟩:=zaa Ae.out.1
 obtain ⟨⟨z0,z1,z2,z3,z4⟩,⟨u0,u1,u2,u3,u4⟩⟩:=zaa Ag.out.1
 obtain ⟨c2,f2,hDd,hSd⟩:=DS.deep (Ac.out.set (r:=w.heap.size) Aa.out.1 Aa.out.2 4 (.slice o1 l1 c1)) d
 have c2' : w1.cell? ⟨p,2,none⟩=some (.int .i64 (d+1)):=Ac.out.e_cell.2
 have f2' : w1.frozen? ⟨p,2,none⟩=false:=(DS.deep Ac.out d).2.1
 have Ab:Hid (Kep w (((w1.setCell ⟨w.heap.size,4,none⟩ (.slice o1 l1 c1)).setCell ⟨p,2,none⟩ (.int .i64 d))) (w.heap.size+1) (kidO 0 [] 0 0 (.slice none 0 0))∧DS (((w1.setCell ⟨w.heap.size,4,none⟩ (.slice o1 l1 c1)).setCell ⟨p,2,none⟩ (.int .i64 d))) p g cap ts d sl∧Sole p w (((w1.setCell ⟨w.heap.size,4,none⟩ (.slice o1 l1 c1)).setCell ⟨p,2,none⟩ (.int .i64 d)))∧zab (fun b=>zak w.heap.size b∧b≠w.heap.size+1) (((w1.setCell ⟨w.heap.size,4,none⟩ (.slice o1 l1 c1)).setCell ⟨p,2,none⟩ (.int .i64 d))) kl (.slice o1 l1 c1)):=by
  have h1:=Am.out
  have hl1:zab (fun b=>zak w.heap.size b∧b≠w.heap.size+1∧b≠w.heap.size) w1 kl (.slice o1 l1 c1):=zab.weaken Ah.out (fun b hb=>by
   have hb1:w0.heap.size<=b:=hb
   exact ⟨by unfold zak;omega,by omega,by omega⟩)
  refine ⟨(zci Ag.out (by omega) _ _).sole Aa.out.1 hSd,hDd,(Sole.set Al.out (Nat.le_refl _) _ _).trans hSd,?_⟩
  refine (zab.sole (zab.but hl1 (fun b hb=>hb.2.2) (fun b hb=>Below.heap_setCell _ _ _ _ hb)) (fun b hb=>?_) hSd).weaken (fun b hb=>⟨hb.1,hb.2.1⟩)
  have hb1:w.heap.size<=b:=hb.1
  have:=Aa.out.1
  omega
 clear hDd hSd c2 f2
 go_wp2
 obtain ⟨w9,hw9⟩:∃ x,(w1.setCell ⟨w.heap.size,4,none⟩ (.slice o1 l1 c1)).setCell ⟨p,2,none⟩ (.int .i64 d)=x:=⟨_,rfl⟩
 rw [hw9]
 rw [hw9] at Ab
 clear hw9 z0 z1 z2 z3 z4
 obtain ⟨⟨z0,z1,z2,z3,z4⟩,_⟩:=zaa Ab.out.1.1
 refine ret5 z0 z1 z2 z3 z4 rfl (fun u q0 q1 q2 q3 q4=>by simp [results,Tryz.results47,go_sem,q0,q1,q2,q3,q4]) (Nat.le_succ _) Ab.out.2.2.1 ?_
 intro wz hf
 rw [HR.out]
 have hpg:=Aa.out
 exact ⟨_,rfl,za4 Ab.out.2.2.2 (fun b h=>h.1) (fun b h=>h.2) hf.2,Ab.out.2.1.but (by omega) (by omega) hf.2,hf.1⟩
end Go.Proofs.YtighggeokiahfaaGreatDoor.Dm
