import Derived.Test.YtighggeokiahfaaGreatDoorNear17
import Derived.Deep.CutBlock
import Derived.Deep.DeepCutAuto
namespace Go.Proofs.YtighggeokiahfaaGreatDoor.Dm
open Go.RowKit
theorem zkg {B:Nat} {w:World} {k m:Int} {n:List UInt8} {a:Nat} {ks:List Tree} {sl:Value} (h:zah B (.node k n m a ks) w (kidV k n m a sl)):zab (zak B) w ks sl:=by
 obtain ⟨s2,he,hl⟩:=zaf.1 h
 unfold kidV at he
 cases he
 exact hl
/-- a tree is laid into a block of this call's -/
theorem laid5 {p:Nat} {w W:World} {X:Nat} {k0 m0 k m:Int} {n0 n:List UInt8} {a0 a:Nat} {s0 sl:Value} (hK:Kep w W X (kidO k0 n0 m0 a0 s0)) (hS:Sole p w W) (wz:World) (e:((((W.setCell ⟨X,0,none⟩ (.int .i64 k)).setCell ⟨X,1,none⟩ (.string ⟨n.toArray⟩)).setCell ⟨X,2,none⟩ (.int .i64 m)).setCell ⟨X,3,none⟩ (.int .i64 a)).setCell ⟨X,4,none⟩ sl=wz):
 Kep w wz X (kidO k n m a sl)∧Sole p w wz∧∀ b,b≠X->wz.heap[b]?=W.heap[b]?:=by
 have h:=fin5 (k:=k) (m:=m) (n:=n) (a:=a) (sl:=sl) hK.2 hS wz e
 exact ⟨⟨by rw [<- e];exact zc6 hK.1,hK.2⟩,h.1,h.2⟩
set_option maxHeartbeats 2000000 in
set_option maxRecDepth 4000 in
theorem zgg (p g cap:Nat) (ts:List Tok) (hE:Ends ts) (d:Int) (hB:DBody p g cap ts d (zc2 7) false) (hT:DDecl p g cap ts d (zc2 8)) (hP:zge p g cap ts d 52 zew):zge p g cap ts d 30 zax:=by
 intro s w h
 have Ea:=hid hB
 have Eb:=hid hT
 have Ec:=hid hP
 clear hB hT hP
 have Ac:Hid (p<w.heap.size∧g<w.heap.size):=⟨h.plt,h.glt⟩
 obtain ⟨R,hR⟩:∃ R,zax s=R:=⟨_,rfl⟩
 rw [hR]
 have HR:=hid (hR.symm)
 obtain ⟨wa,hwa⟩:∃ x,w.alloc (.cells #[.int .i64 0,.string ⟨#[]⟩,.int .i64 0,.int .i64 0,.slice none 0 0] 29)=x:=⟨_,rfl⟩
 have HB:Hid (Below w.heap.size w wa):=hidB hwa
 have HK:Hid (Kep w wa w.heap.size (kidO 0 [] 0 0 (.slice none 0 0))):=by show Kep _ _ _ _;rw [<- hwa];exact Kep.new (Nat.le_refl _) _
 have HD:=hid (h.below HB.out)
 clear h hR
 have HS:Hid (Sole p w wa):=Sole.of_below HB.out
 obtain ⟨i,hi,h1,hh,hs⟩:=HD.out.at_
 have Et:Hid (DP wa p g cap ts i d s.e s.pl∧s.hd=ts[i]∧s.ts=ts.drop i):=⟨h1,hh,hs⟩
 have Ed:Hid ((i:Int)<=16001):=by show _<=_;have:=h1.ln;omega
 have hl:=h1.look hi
 obtain ⟨E0,hE0⟩:∃ x,s.e=x:=⟨_,rfl⟩
 obtain ⟨K,hK⟩:∃ x,ts[i].kind=x:=⟨_,rfl⟩
 obtain ⟨M,hM⟩:∃ x,ts[i].num=x:=⟨_,rfl⟩
 obtain ⟨A,hA⟩:∃ x,ts[i].at_=x:=⟨_,rfl⟩
 obtain ⟨S,hS⟩:∃ x,ts[i].text=x:=⟨_,rfl⟩
 rw [hE0,hK,hM,hA,hS] at hl
 have HF:Hid (s.e=E0∧s.hd.kind=K∧s.hd.num=M∧s.hd.at_=A∧s.hd.text=S):=⟨hE0,by rw [hh];exact hK,by rw [hh];exact hM,by rw [hh];exact hA,by rw [hh];exact hS⟩
 clear hE0 hK hM hA hS hh hs h1
 obtain ⟨hp,hg,hi',c0,c1,c3,t0,t1,t2,t3,f1⟩:=hl
 have c1x:∀ x,(wa.alloc x).cell? ⟨p,1,none⟩=some (.int .i64 i):=fun x=>by rw [World.cell?_alloc_lt _ _ _ hp];exact c1
 have c3x:∀ x,(wa.alloc x).cell? ⟨p,3,none⟩=some (.int .i64 E0):=fun x=>by rw [World.cell?_alloc_lt _ _ _ hp];exact c3
 have f1x:∀ x,(wa.alloc x).frozen? ⟨p,1,none⟩=false:=fun x=>by rw [World.frozen?_alloc_old _ _ _ (Nat.ne_of_lt hp)];exact f1
 have Eu:Hid (∀ x k,Below wa.heap.size wa ((wa.alloc x).drewN k)):=fun x k=>zaj (zac wa x) k
 have hne:¬ p=wa.heap.size:=by omega
 have hne2:¬ wa.heap.size=p:=by omega
 have him:=Ed.out
 have qb:=bld013
 have qc:=zix
 have qd:=bld034x
 go_enter Tryz.func30,Tryz.ntmps30
 go_wp2_with fail
 clear hwa
 go_region
 all_goals (
  go_wp2_with fail
  refine (zep p g cap ts d s _ (HD.out.below (zal _))).mono ?_
  rintro e w1 ⟨rfl,hB⟩
  have De:=hid (Below.trans (zal _) (hB.mono (Below.size (zal _))))
  have Ee:=hid (HD.out.below De.out)
  have Ef:=hid (HS.out.trans (Sole.of_below De.out))
  have Cu:=hid (HK.out.below De.out)
  clear hB
  clear c0 c1 c3 t0 t1 t2 t3 f1 c1x c3x f1x hne hne2 him hp hg hi'
  obtain ⟨wx,hwx⟩:∃ x,w1.alloc (.cells #[.int .i64 0,.string ⟨#[]⟩,.int .i64 0,.int .i64 0,.slice none 0 0] 29)=x:=⟨_,rfl⟩
  have Df:Hid (Below w1.heap.size w1 wx):=hidB hwx
  have Bj:=hid (Cu.out.lt)
  have Dw:Hid (Kep w wx w1.heap.size (kidO 0 [] 0 0 (.slice none 0 0))):=by show Kep _ _ _ _;rw [<- hwx];exact Kep.new (Nat.le_of_lt Bj.out) _
  have Dx:=hid (Cu.out.below Df.out)
  have Dy:=hid (Ee.out.below Df.out)
  have Dz:=hid (Ef.out.trans (Sole.of_below Df.out))
  have hn5:¬ w.heap.size=w1.heap.size:=by have:=Bj.out;omega
  have hn6:¬ w1.heap.size=w.heap.size:=by omega
  have hn7:¬ p=w1.heap.size:=by have:=Bj.out;have:=Ac.out.1;omega
  have hn8:¬ w1.heap.size=p:=by omega
  obtain ⟨BK,hBK⟩:∃ x,s.bodied=x:=⟨_,rfl⟩
  have Dg:=hid hBK
  rw [hBK]
  clear hBK
  by_cases hbk:BK=0
  case neg =>
   have hbk2:(BK != 0)=true:=by simp [hbk]
   have Eg:=hid (zll (s:=s) (by rw [Dg.out];exact hbk))
   have Bg:Hid (R=(zaw BK (zaz s.adv).1 (zec (zc2 7) false BK (zaz s.adv).2).1,(zec (zc2 7) false BK (zaz s.adv).2).2.want [59])):=by
    show _=_
    rw [HR.out];unfold zax defD;rw [Dg.out,hbk2];rfl
   obtain ⟨ix,c1,f1,him,hDa,hSa⟩:=DS.adv_set hE Dy.out Eg.out
   have Ct:Hid (DS (wx.setCell ⟨p,1,none⟩ (.int .i64 ((ix:Int)+1))) p g cap ts d s.adv∧Sole p w (wx.setCell ⟨p,1,none⟩ (.int .i64 ((ix:Int)+1)))∧Kep w (wx.setCell ⟨p,1,none⟩ (.int .i64 ((ix:Int)+1))) w.heap.size (kidO 0 [] 0 0 (.slice none 0 0))∧Kep w (wx.setCell ⟨p,1,none⟩ (.int .i64 ((ix:Int)+1))) w1.heap.size (kidO 0 [] 0 0 (.slice none 0 0))):=⟨hDa,Dz.out.trans hSa,Dx.out.sole Ac.out.1 hSa,Dw.out.sole Ac.out.1 hSa⟩
   clear hDa hSa
   go_wp2_with fail
   clear hwx
   generalize wx.setCell ⟨p,1,none⟩ (.int .i64 ((ix:Int)+1))=w4 at Ct ⊢
   have Eh:=hid Ct.out.1
   have Ei:=hid Ct.out.2.1
   have Ej:=hid Ct.out.2.2.1
   have Dh:=hid Ct.out.2.2.2
   clear Ct c1 f1 him
   refine (zcm p g cap ts hE d s.adv _ Eh.out).mono ?_
   rintro e w11 ⟨v,rfl,rfl,hD,hS⟩
   have Ba:=hid hS
   have Bl:=hid hD
   have Bt:=hid (Ei.out.trans Ba.out)
   have Bm:=hid (Ej.out.sole Ac.out.1 Ba.out)
   have Bf:=hid (Dh.out.sole Ac.out.1 Ba.out)
   clear hD hS
   obtain ⟨nm,hnm⟩:∃ x,(zaz s.adv).1=x:=⟨_,rfl⟩
   obtain ⟨sn,hsn⟩:∃ x,(zaz s.adv).2=x:=⟨_,rfl⟩
   rw [hnm,hsn] at Bg
   rw [hnm]
   rw [hsn] at Bl
   clear hnm hsn
   obtain ⟨nt,na⟩:=nm
   go_wp2_with fail
   have Ek:=hid (Kep.lt Bm.out)
   have El:=hid (Sole.size Bt.out)
   refine (Ea.out BK nt na sn _ Bl.out).mono ?_
   rintro e w12 ⟨v,rfl,hv,hD,hS⟩
   have Bb:=hid hS
   have Bu:=hid hD
   have Bv:=hid (Bt.out.trans Bb.out)
   have Ay:=hid (Bm.out.sole Ac.out.1 Bb.out)
   have Aw:=hid (Bf.out.sole Ac.out.1 Bb.out)
   obtain ⟨k12,n12,m12,a12,ks12,o12,l12,c12,he12,rfl⟩:=zar hv
   have Cb:=hid he12
   clear he12
   have Cv:=hid hv
   clear hv hD hS
   obtain ⟨kl,hkl⟩:∃ x,zec (zc2 7) false BK sn=x:=⟨_,rfl⟩
   rw [hkl] at Bg Bu Cv Cb
   clear hkl
   have Bw:Hid (R=(Tree.node k12 n12 m12 a12 ks12,kl.2.want [59])):=by show _=_;rw [<- Cb.out];exact Bg.out
   have Di:=hid (Bf.out.lt)
   have Dj:Hid (zab (fun b=>w.heap.size+1<=b∧b≠w1.heap.size) w12 ks12 (.slice o12 l12 c12)):=(zkg (by rw [<- Cb.out];exact Cv.out)).weaken (fun b hb=>by
    have h1:w11.heap.size<=b:=hb
    have h2:=Di.out
    have h3:=Bj.out
    exact ⟨by omega,by omega⟩)
   unfold kidV
   have Bn:=hid (Dj)
   obtain ⟨⟨x0,x1,x2,x3,x4⟩,⟨u0,u1,u2,u3,u4⟩⟩:=zaa Aw.out.1
   go_wp2_with fail
   have HY:=hid (laid5 (k:=k12) (n:=n12) (m:=m12) (a:=a12) (sl:=(.slice o12 l12 c12)) Aw.out Bv.out _ rfl)
   have Ax:Hid (Kep w (((((w12.setCell ⟨w1.heap.size,0,none⟩ (.int .i64 k12)).setCell ⟨w1.heap.size,1,none⟩ (.string ⟨n12.toArray⟩)).setCell ⟨w1.heap.size,2,none⟩ (.int .i64 m12)).setCell ⟨w1.heap.size,3,none⟩ (.int .i64 a12)).setCell ⟨w1.heap.size,4,none⟩ (.slice o12 l12 c12)) w.heap.size (kidO 0 [] 0 0 (.slice none 0 0))∧DS (((((w12.setCell ⟨w1.heap.size,0,none⟩ (.int .i64 k12)).setCell ⟨w1.heap.size,1,none⟩ (.string ⟨n12.toArray⟩)).setCell ⟨w1.heap.size,2,none⟩ (.int .i64 m12)).setCell ⟨w1.heap.size,3,none⟩ (.int .i64 a12)).setCell ⟨w1.heap.size,4,none⟩ (.slice o12 l12 c12)) p g cap ts d kl.2∧zab (fun b=>w.heap.size+1<=b∧b≠w1.heap.size) (((((w12.setCell ⟨w1.heap.size,0,none⟩ (.int .i64 k12)).setCell ⟨w1.heap.size,1,none⟩ (.string ⟨n12.toArray⟩)).setCell ⟨w1.heap.size,2,none⟩ (.int .i64 m12)).setCell ⟨w1.heap.size,3,none⟩ (.int .i64 a12)).setCell ⟨w1.heap.size,4,none⟩ (.slice o12 l12 c12)) ks12 (.slice o12 l12 c12)):=by
    have h1:=Bj.out
    have h2:=Ac.out
    exact ⟨⟨(HY.out.2.2 _ (by omega)).trans Ay.out.1,Ay.out.2⟩,Bu.out.but (by omega) (by omega) HY.out.2.2,zab.but Bn.out (fun b hb=>hb.2) HY.out.2.2⟩
   generalize ((((w12.setCell ⟨w1.heap.size,0,none⟩ (.int .i64 k12)).setCell ⟨w1.heap.size,1,none⟩ (.string ⟨n12.toArray⟩)).setCell ⟨w1.heap.size,2,none⟩ (.int .i64 m12)).setCell ⟨w1.heap.size,3,none⟩ (.int .i64 a12)).setCell ⟨w1.heap.size,4,none⟩ (.slice o12 l12 c12)=w7 at HY Ax ⊢
   have Cc:=hid Ax.out.1
   have Cd:=hid Ax.out.2.1
   have Ce:=hid Ax.out.2.2
   have Bc:=hid HY.out.1
   have Cf:=hid HY.out.2.1
   clear HY Ax x0 x1 x2 x3 x4 u0 u1 u2 u3 u4 Bn
   refine (zan p g cap ts hE d [59] (by simp) kl.2 _ Cd.out).mono ?_
   rintro e w81 ⟨rfl,hD,hS⟩
   have Ad:=hid hS
   have Bd:=hid hD
   have Be:=hid (Cf.out.trans Ad.out)
   have Aa:=hid (Cc.out.sole Ac.out.1 Ad.out)
   have Ae:=hid (Bc.out.sole Ac.out.1 Ad.out)
   have Ak:=hid (zab.sole Ce.out (by intro b hb;have hpg:=Ac.out.1;have hb2:=hb;first | (unfold zak at hb2;omega) | exact (by have h1:w.heap.size+1<=b:=hb.1;omega)) Ad.out)
   clear hD hS
   obtain ⟨⟨x0,x1,x2,x3,x4⟩,_⟩:=zaa Ae.out.1
   obtain ⟨⟨z0,z1,z2,z3,z4⟩,⟨y0,y1,y2,y3,y4⟩⟩:=zaa Aa.out.1
   go_wp2
   refine ret5 z0 z1 z2 z3 z4 rfl (fun u q0 q1 q2 q3 q4=>by simp [results,Tryz.results30,go_sem,q0,q1,q2,q3,q4]) Aa.out.2 Be.out ?_
   intro wz hf
   rw [Bw.out]
   have hr2:=Aa.out.2
   have hpg:=Ac.out
   exact ⟨_,rfl,za4 Ak.out (fun b h=>Nat.le_trans (Nat.le_succ _) h.1) (fun b h=>by have h1:w.heap.size+1<=b:=h.1;omega) hf.2,Bd.out.but (by omega) (by omega) hf.2,hf.1⟩
  subst hbk
  have Dd:Hid (defD s=(if s.is zdt then (zaw 2 (zaz s.adv).1 [(zav false ((zaz s.adv).2.want [61])).1],(zav false ((zaz s.adv).2.want [61])).2) else if s.is zc3 then (.node 3 [] 0 A [(zcd (zc2 8) false s.adv).1],(zcd (zc2 8) false s.adv).2) else if s.is zdc then zew s.adv else (zjc,s.fail 40))):=by
   show _=_
   unfold defD
   rw [Dg.out,HF.out.2.2.2.1];rfl
  go_wp2_with fail
  refine (zch p g cap ts hE d [99,111,110,115,116] (by simp) s _ Dy.out).mono ?_
  rintro e w82 ⟨rfl,hD,hS⟩
  have Cg:=hid hS
  have Bx:=hid hD
  have Cw:=hid (Dz.out.trans Cg.out)
  have Bo:=hid (Dx.out.sole Ac.out.1 Cg.out)
  have Bp:=hid (Dw.out.sole Ac.out.1 Cg.out)
  clear hD hS
  clear hwx
  cases hbc:s.is [99,111,110,115,116] with
  | true =>
   rw [zdx hbc] at Bx
   have Bg:Hid (R=(zaw 2 (zaz s.adv).1 [(zav false ((zaz s.adv).2.want [61])).1],(zav false ((zaz s.adv).2.want [61])).2.want [59])):=by
    show _=_
    rw [HR.out];unfold zax;rw [Dd.out,show s.is zdt=true from hbc];rfl
   go_wp2_with fail
   refine (zcm p g cap ts hE d s.adv _ Bx.out).mono ?_
   rintro e w11 ⟨v,rfl,rfl,hD,hS⟩
   have Ba:=hid hS
   have Bl:=hid hD
   have Bt:=hid (Cw.out.trans Ba.out)
   have Bh:=hid (Bo.out.sole Ac.out.1 Ba.out)
   have Bi:=hid (Bp.out.sole Ac.out.1 Ba.out)
   clear hD hS
   obtain ⟨nm,hnm⟩:∃ x,(zaz s.adv).1=x:=⟨_,rfl⟩
   obtain ⟨sn,hsn⟩:∃ x,(zaz s.adv).2=x:=⟨_,rfl⟩
   rw [hnm,hsn] at Bg
   rw [hnm]
   rw [hsn] at Bl
   clear hnm hsn
   obtain ⟨nt,na⟩:=nm
   go_wp2_with fail
   refine (zan p g cap ts hE d [61] (by simp) sn _ Bl.out).mono ?_
   rintro e w12 ⟨rfl,hD,hS⟩
   have Bb:=hid hS
   have Bu:=hid hD
   have Bv:=hid (Bt.out.trans Bb.out)
   have Am:=hid (Bh.out.sole Ac.out.1 Bb.out)
   have An:=hid (Bi.out.sole Ac.out.1 Bb.out)
   clear hD hS
   go_wp2_with fail
   have Em:=hid (Kep.lt Am.out)
   have En:=hid (Sole.size Bv.out)
   refine (zcf p g cap ts hE d false (sn.want [61]) _ Bu.out).mono ?_
   rintro e w13 ⟨v,rfl,hv,hD,hS⟩
   have Ch:=hid hS
   have Cx:=hid hD
   have Dk:=hid (Bv.out.trans Ch.out)
   have Ar:=hid (Am.out.sole Ac.out.1 Ch.out)
   have Ah:=hid (An.out.sole Ac.out.1 Ch.out)
   obtain ⟨k13,n13,m13,a13,ks13,o13,l13,c13,he13,rfl⟩:=zar hv
   have Ci:=hid he13
   clear he13
   have Cy:=hid hv
   clear hv hD hS
   obtain ⟨vv,hvv⟩:∃ x,zav false (sn.want [61])=x:=⟨_,rfl⟩
   rw [hvv] at Bg Cx Cy Ci
   clear hvv
   have Bw:Hid (R=(Tree.node 2 nt 0 na [Tree.node k13 n13 m13 a13 ks13],vv.2.want [59])):=by show _=_;rw [<- Ci.out];exact Bg.out
   obtain ⟨wq,hwq⟩:∃ x,w13.alloc (.cells #[.int .i64 k13,.string ⟨n13.toArray⟩,.int .i64 m13,.int .i64 a13,.slice o13 l13 c13] 29)=x:=⟨_,rfl⟩
   have Bq:Hid (Below w13.heap.size w13 wq):=hidB hwq
   have Dl:=hid (Cx.out.below Bq.out)
   have Dm:=hid (Dk.out.trans (Sole.of_below Bq.out))
   have Br:=hid (Ar.out.below Bq.out)
   have Bs:=hid (Ah.out.below Bq.out)
   have Dn:Hid (w1.heap.size<w12.heap.size∧w1.heap.size<w13.heap.size):=⟨An.out.lt,Ah.out.lt⟩
   have Dp:Hid (zab (fun b=>w.heap.size+1<=b∧b≠w1.heap.size) wq [(Tree.node k13 n13 m13 a13 ks13)] (.slice (some ⟨w13.heap.size,0,none⟩) 1 1)):=by
    have h1:=Dn.out
    have h2:=Bj.out
    have h4:zah w12.heap.size (Tree.node k13 n13 m13 a13 ks13) w13 (kidV k13 n13 m13 a13 (.slice o13 l13 c13)):=by rw [<- Ci.out];exact Cy.out
    refine zbh (ks:=[(Tree.node k13 n13 m13 a13 ks13)]) (q:=w13.heap.size) (by rw [<- hwq];exact heap_alloc_new _ _) (by simp) ⟨by omega,by omega⟩ (za3 ((zae.below (zae.there _ _ h4) Bq.out).weaken (fun b hb=>?_)))
    have hb1:w12.heap.size<=b:=hb.1
    have hb2:=hb.2
    exact ⟨⟨by omega,by omega⟩,by omega⟩
   unfold kidV
   have Bn:=hid (Dp)
   obtain ⟨⟨x0,x1,x2,x3,x4⟩,⟨u0,u1,u2,u3,u4⟩⟩:=zaa Bs.out.1
   go_wp2_with fail
   have HY:=hid (laid5 (k:=2) (n:=nt) (m:=0) (a:=na) (sl:=(.slice (some ⟨w13.heap.size,0,none⟩) 1 1)) Bs.out Dm.out _ rfl)
   have Ax:Hid (Kep w (((((wq.setCell ⟨w1.heap.size,0,none⟩ (.int .i64 2)).setCell ⟨w1.heap.size,1,none⟩ (.string ⟨nt.toArray⟩)).setCell ⟨w1.heap.size,2,none⟩ (.int .i64 0)).setCell ⟨w1.heap.size,3,none⟩ (.int .i64 na)).setCell ⟨w1.heap.size,4,none⟩ (.slice (some ⟨w13.heap.size,0,none⟩) 1 1)) w.heap.size (kidO 0 [] 0 0 (.slice none 0 0))∧DS (((((wq.setCell ⟨w1.heap.size,0,none⟩ (.int .i64 2)).setCell ⟨w1.heap.size,1,none⟩ (.string ⟨nt.toArray⟩)).setCell ⟨w1.heap.size,2,none⟩ (.int .i64 0)).setCell ⟨w1.heap.size,3,none⟩ (.int .i64 na)).setCell ⟨w1.heap.size,4,none⟩ (.slice (some ⟨w13.heap.size,0,none⟩) 1 1)) p g cap ts d vv.2∧zab (fun b=>w.heap.size+1<=b∧b≠w1.heap.size) (((((wq.setCell ⟨w1.heap.size,0,none⟩ (.int .i64 2)).setCell ⟨w1.heap.size,1,none⟩ (.string ⟨nt.toArray⟩)).setCell ⟨w1.heap.size,2,none⟩ (.int .i64 0)).setCell ⟨w1.heap.size,3,none⟩ (.int .i64 na)).setCell ⟨w1.heap.size,4,none⟩ (.slice (some ⟨w13.heap.size,0,none⟩) 1 1)) [(Tree.node k13 n13 m13 a13 ks13)] (.slice (some ⟨w13.heap.size,0,none⟩) 1 1)):=by
    have h1:=Bj.out
    have h2:=Ac.out
    exact ⟨⟨(HY.out.2.2 _ (by omega)).trans Br.out.1,Br.out.2⟩,Dl.out.but (by omega) (by omega) HY.out.2.2,zab.but Bn.out (fun b hb=>hb.2) HY.out.2.2⟩
   generalize ((((wq.setCell ⟨w1.heap.size,0,none⟩ (.int .i64 2)).setCell ⟨w1.heap.size,1,none⟩ (.string ⟨nt.toArray⟩)).setCell ⟨w1.heap.size,2,none⟩ (.int .i64 0)).setCell ⟨w1.heap.size,3,none⟩ (.int .i64 na)).setCell ⟨w1.heap.size,4,none⟩ (.slice (some ⟨w13.heap.size,0,none⟩) 1 1)=w7 at HY Ax ⊢
   have Cc:=hid Ax.out.1
   have Cd:=hid Ax.out.2.1
   have Ce:=hid Ax.out.2.2
   have Bc:=hid HY.out.1
   have Cf:=hid HY.out.2.1
   clear HY Ax x0 x1 x2 x3 x4 u0 u1 u2 u3 u4 Bn
   refine (zan p g cap ts hE d [59] (by simp) vv.2 _ Cd.out).mono ?_
   rintro e w81 ⟨rfl,hD,hS⟩
   have Ad:=hid hS
   have Bd:=hid hD
   have Be:=hid (Cf.out.trans Ad.out)
   have Aa:=hid (Cc.out.sole Ac.out.1 Ad.out)
   have Ae:=hid (Bc.out.sole Ac.out.1 Ad.out)
   have Ak:=hid (zab.sole Ce.out (by intro b hb;have hpg:=Ac.out.1;have hb2:=hb;first | (unfold zak at hb2;omega) | exact (by have h1:w.heap.size+1<=b:=hb.1;omega)) Ad.out)
   clear hD hS
   obtain ⟨⟨x0,x1,x2,x3,x4⟩,_⟩:=zaa Ae.out.1
   obtain ⟨⟨z0,z1,z2,z3,z4⟩,⟨y0,y1,y2,y3,y4⟩⟩:=zaa Aa.out.1
   go_wp2
   refine ret5 z0 z1 z2 z3 z4 rfl (fun u q0 q1 q2 q3 q4=>by simp [results,Tryz.results30,go_sem,q0,q1,q2,q3,q4]) Aa.out.2 Be.out ?_
   intro wz hf
   rw [Bw.out]
   have hr2:=Aa.out.2
   have hpg:=Ac.out
   exact ⟨_,rfl,za4 Ak.out (fun b h=>Nat.le_trans (Nat.le_succ _) h.1) (fun b h=>by have h1:w.heap.size+1<=b:=h.1;omega) hf.2,Bd.out.but (by omega) (by omega) hf.2,hf.1⟩
  | false =>
   rw [zb4 hbc] at Bx
   go_wp2_with fail
   refine (zch p g cap ts hE d [116,121,112,101,100,101,102] (by simp) s _ Bx.out).mono ?_
   rintro e w21 ⟨rfl,hD,hS⟩
   have Cj:=hid hS
   have Bz:=hid hD
   have Ck:=hid (Cw.out.trans Cj.out)
   have Ap:=hid (Bo.out.sole Ac.out.1 Cj.out)
   have Aq:=hid (Bp.out.sole Ac.out.1 Cj.out)
   clear hD hS
   cases hbt:s.is [116,121,112,101,100,101,102] with
   | true =>
    rw [zdx hbt] at Bz
    have Bg:Hid (R=(.node 3 [] 0 A [(zcd (zc2 8) false s.adv).1],(zcd (zc2 8) false s.adv).2.want [59])):=by
     show _=_
     rw [HR.out];unfold zax;rw [Dd.out,show s.is zdt=false from hbc,show s.is zc3=true from hbt];rfl
    go_wp2_with fail
    have Eo:=hid (Kep.lt Ap.out)
    have Ep:=hid (Sole.size Ck.out)
    refine (Eb.out false s.adv _ Bz.out).mono ?_
    rintro e w31 ⟨v,rfl,hv,hD,hS⟩
    have Cl:=hid hS
    have Cz:=hid hD
    have Dq:=hid (Ck.out.trans Cl.out)
    have Az:=hid (Ap.out.sole Ac.out.1 Cl.out)
    have Ao:=hid (Aq.out.sole Ac.out.1 Cl.out)
    obtain ⟨k31,n31,m31,a31,ks31,o31,l31,c31,he31,rfl⟩:=zar hv
    have Cm:=hid he31
    clear he31
    have Da:=hid hv
    clear hv hD hS
    obtain ⟨vv,hvv⟩:∃ x,zcd (zc2 8) false s.adv=x:=⟨_,rfl⟩
    rw [hvv] at Bg Cz Da Cm
    clear hvv
    have Bw:Hid (R=(Tree.node 3 [] 0 A [Tree.node k31 n31 m31 a31 ks31],vv.2.want [59])):=by show _=_;rw [<- Cm.out];exact Bg.out
    obtain ⟨wq,hwq⟩:∃ x,w31.alloc (.cells #[.int .i64 k31,.string ⟨n31.toArray⟩,.int .i64 m31,.int .i64 a31,.slice o31 l31 c31] 29)=x:=⟨_,rfl⟩
    have Bq:Hid (Below w31.heap.size w31 wq):=hidB hwq
    have Dl:=hid (Cz.out.below Bq.out)
    have Dm:=hid (Dq.out.trans (Sole.of_below Bq.out))
    have Br:=hid (Az.out.below Bq.out)
    have Bs:=hid (Ao.out.below Bq.out)
    have Dn:Hid (w1.heap.size<w21.heap.size∧w1.heap.size<w31.heap.size):=⟨Aq.out.lt,Ao.out.lt⟩
    have Dp:Hid (zab (fun b=>w.heap.size+1<=b∧b≠w1.heap.size) wq [(Tree.node k31 n31 m31 a31 ks31)] (.slice (some ⟨w31.heap.size,0,none⟩) 1 1)):=by
     have h1:=Dn.out
     have h2:=Bj.out
     have h4:zah w21.heap.size (Tree.node k31 n31 m31 a31 ks31) w31 (kidV k31 n31 m31 a31 (.slice o31 l31 c31)):=by rw [<- Cm.out];exact Da.out
     refine zbh (ks:=[(Tree.node k31 n31 m31 a31 ks31)]) (q:=w31.heap.size) (by rw [<- hwq];exact heap_alloc_new _ _) (by simp) ⟨by omega,by omega⟩ (za3 ((zae.below (zae.there _ _ h4) Bq.out).weaken (fun b hb=>?_)))
     have hb1:w21.heap.size<=b:=hb.1
     have hb2:=hb.2
     exact ⟨⟨by omega,by omega⟩,by omega⟩
    unfold kidV
    have Bn:=hid (Dp)
    obtain ⟨⟨x0,x1,x2,x3,x4⟩,⟨u0,u1,u2,u3,u4⟩⟩:=zaa Bs.out.1
    go_wp2_with fail
    have HY:=hid (laid5 (k:=3) (n:=[]) (m:=0) (a:=A) (sl:=(.slice (some ⟨w31.heap.size,0,none⟩) 1 1)) Bs.out Dm.out _ rfl)
    have Ax:Hid (Kep w (((((wq.setCell ⟨w1.heap.size,0,none⟩ (.int .i64 3)).setCell ⟨w1.heap.size,1,none⟩ (.string ⟨#[]⟩)).setCell ⟨w1.heap.size,2,none⟩ (.int .i64 0)).setCell ⟨w1.heap.size,3,none⟩ (.int .i64 A)).setCell ⟨w1.heap.size,4,none⟩ (.slice (some ⟨w31.heap.size,0,none⟩) 1 1)) w.heap.size (kidO 0 [] 0 0 (.slice none 0 0))∧DS (((((wq.setCell ⟨w1.heap.size,0,none⟩ (.int .i64 3)).setCell ⟨w1.heap.size,1,none⟩ (.string ⟨#[]⟩)).setCell ⟨w1.heap.size,2,none⟩ (.int .i64 0)).setCell ⟨w1.heap.size,3,none⟩ (.int .i64 A)).setCell ⟨w1.heap.size,4,none⟩ (.slice (some ⟨w31.heap.size,0,none⟩) 1 1)) p g cap ts d vv.2∧zab (fun b=>w.heap.size+1<=b∧b≠w1.heap.size) (((((wq.setCell ⟨w1.heap.size,0,none⟩ (.int .i64 3)).setCell ⟨w1.heap.size,1,none⟩ (.string ⟨#[]⟩)).setCell ⟨w1.heap.size,2,none⟩ (.int .i64 0)).setCell ⟨w1.heap.size,3,none⟩ (.int .i64 A)).setCell ⟨w1.heap.size,4,none⟩ (.slice (some ⟨w31.heap.size,0,none⟩) 1 1)) [(Tree.node k31 n31 m31 a31 ks31)] (.slice (some ⟨w31.heap.size,0,none⟩) 1 1)):=by
     have h1:=Bj.out
     have h2:=Ac.out
     exact ⟨⟨(HY.out.2.2 _ (by omega)).trans Br.out.1,Br.out.2⟩,Dl.out.but (by omega) (by omega) HY.out.2.2,zab.but Bn.out (fun b hb=>hb.2) HY.out.2.2⟩
    generalize ((((wq.setCell ⟨w1.heap.size,0,none⟩ (.int .i64 3)).setCell ⟨w1.heap.size,1,none⟩ (.string ⟨#[]⟩)).setCell ⟨w1.heap.size,2,none⟩ (.int .i64 0)).setCell ⟨w1.heap.size,3,none⟩ (.int .i64 A)).setCell ⟨w1.heap.size,4,none⟩ (.slice (some ⟨w31.heap.size,0,none⟩) 1 1)=w7 at HY Ax ⊢
    have Cc:=hid Ax.out.1
    have Cd:=hid Ax.out.2.1
    have Ce:=hid Ax.out.2.2
    have Bc:=hid HY.out.1
    have Cf:=hid HY.out.2.1
    clear HY Ax x0 x1 x2 x3 x4 u0 u1 u2 u3 u4 Bn
    refine (zan p g cap ts hE d [59] (by simp) vv.2 _ Cd.out).mono ?_
    rintro e w81 ⟨rfl,hD,hS⟩
    have Ad:=hid hS
    have Bd:=hid hD
    have Be:=hid (Cf.out.trans Ad.out)
    have Aa:=hid (Cc.out.sole Ac.out.1 Ad.out)
    have Ae:=hid (Bc.out.sole Ac.out.1 Ad.out)
    have Ak:=hid (zab.sole Ce.out (by intro b hb;have hpg:=Ac.out.1;have hb2:=hb;first | (unfold zak at hb2;omega) | exact (by have h1:w.heap.size+1<=b:=hb.1;omega)) Ad.out)
    clear hD hS
    obtain ⟨⟨x0,x1,x2,x3,x4⟩,_⟩:=zaa Ae.out.1
    obtain ⟨⟨z0,z1,z2,z3,z4⟩,⟨y0,y1,y2,y3,y4⟩⟩:=zaa Aa.out.1
    go_wp2
    refine ret5 (n:=[]) z0 z1 z2 z3 z4 rfl (fun u q0 q1 q2 q3 q4=>by simp [results,Tryz.results30,go_sem,q0,q1,q2,q3,q4]) Aa.out.2 Be.out ?_
    intro wz hf
    rw [Bw.out]
    have hr2:=Aa.out.2
    have hpg:=Ac.out
    exact ⟨_,rfl,za4 Ak.out (fun b h=>Nat.le_trans (Nat.le_succ _) h.1) (fun b h=>by have h1:w.heap.size+1<=b:=h.1;omega) hf.2,Bd.out.but (by omega) (by omega) hf.2,hf.1⟩
   | false =>
    rw [zb4 hbt] at Bz
    go_wp2_with fail
    refine (zch p g cap ts hE d [112,114,111,103,114,97,109] (by simp) s _ Bz.out).mono ?_
    rintro e w41 ⟨rfl,hD,hS⟩
    have Cn:=hid hS
    have Ca:=hid hD
    have Co:=hid (Ck.out.trans Cn.out)
    have Af:=hid (Ap.out.sole Ac.out.1 Cn.out)
    have Ag:=hid (Aq.out.sole Ac.out.1 Cn.out)
    clear hD hS
    cases hbp:s.is [112,114,111,103,114,97,109] with
    | true =>
     rw [zdx hbp] at Ca
     have Bg:Hid (R=((zew s.adv).1,(zew s.adv).2.want [59])):=by
      show _=_
      rw [HR.out];unfold zax;rw [Dd.out,show s.is zdt=false from hbc,show s.is zc3=false from hbt,show s.is zdc=true from hbp];rfl
     go_wp2_with fail
     have Er:=hid (Kep.lt Af.out)
     have Es:=hid (Sole.size Co.out)
     refine (Ec.out s.adv _ Ca.out).mono ?_
     rintro e w51 ⟨v,rfl,hv,hD,hS⟩
     have Cp:=hid hS
     have Db:=hid hD
     have Dr:=hid (Co.out.trans Cp.out)
     have Ai:=hid (Af.out.sole Ac.out.1 Cp.out)
     have Aj:=hid (Ag.out.sole Ac.out.1 Cp.out)
     obtain ⟨k51,n51,m51,a51,ks51,o51,l51,c51,he51,rfl⟩:=zar hv
     have Cq:=hid he51
     clear he51
     have Dc:=hid hv
     clear hv hD hS
     obtain ⟨kl,hkl⟩:∃ x,zew s.adv=x:=⟨_,rfl⟩
     rw [hkl] at Bg Db Dc Cq
     clear hkl
     have Bw:Hid (R=(Tree.node k51 n51 m51 a51 ks51,kl.2.want [59])):=by show _=_;rw [<- Cq.out];exact Bg.out
     have Di:=hid (Ag.out.lt)
     have Dj:Hid (zab (fun b=>w.heap.size+1<=b∧b≠w1.heap.size) w51 ks51 (.slice o51 l51 c51)):=(zkg (by rw [<- Cq.out];exact Dc.out)).weaken (fun b hb=>by
      have h1:w41.heap.size<=b:=hb
      have h2:=Di.out
      have h3:=Bj.out
      exact ⟨by omega,by omega⟩)
     unfold kidV
     have Bn:=hid (Dj)
     obtain ⟨⟨x0,x1,x2,x3,x4⟩,⟨u0,u1,u2,u3,u4⟩⟩:=zaa Aj.out.1
     go_wp2_with fail
     have HY:=hid (laid5 (k:=k51) (n:=n51) (m:=m51) (a:=a51) (sl:=(.slice o51 l51 c51)) Aj.out Dr.out _ rfl)
     have Ax:Hid (Kep w (((((w51.setCell ⟨w1.heap.size,0,none⟩ (.int .i64 k51)).setCell ⟨w1.heap.size,1,none⟩ (.string ⟨n51.toArray⟩)).setCell ⟨w1.heap.size,2,none⟩ (.int .i64 m51)).setCell ⟨w1.heap.size,3,none⟩ (.int .i64 a51)).setCell ⟨w1.heap.size,4,none⟩ (.slice o51 l51 c51)) w.heap.size (kidO 0 [] 0 0 (.slice none 0 0))∧DS (((((w51.setCell ⟨w1.heap.size,0,none⟩ (.int .i64 k51)).setCell ⟨w1.heap.size,1,none⟩ (.string ⟨n51.toArray⟩)).setCell ⟨w1.heap.size,2,none⟩ (.int .i64 m51)).setCell ⟨w1.heap.size,3,none⟩ (.int .i64 a51)).setCell ⟨w1.heap.size,4,none⟩ (.slice o51 l51 c51)) p g cap ts d kl.2∧zab (fun b=>w.heap.size+1<=b∧b≠w1.heap.size) (((((w51.setCell ⟨w1.heap.size,0,none⟩ (.int .i64 k51)).setCell ⟨w1.heap.size,1,none⟩ (.string ⟨n51.toArray⟩)).setCell ⟨w1.heap.size,2,none⟩ (.int .i64 m51)).setCell ⟨w1.heap.size,3,none⟩ (.int .i64 a51)).setCell ⟨w1.heap.size,4,none⟩ (.slice o51 l51 c51)) ks51 (.slice o51 l51 c51)):=by
      have h1:=Bj.out
      have h2:=Ac.out
      exact ⟨⟨(HY.out.2.2 _ (by omega)).trans Ai.out.1,Ai.out.2⟩,Db.out.but (by omega) (by omega) HY.out.2.2,zab.but Bn.out (fun b hb=>hb.2) HY.out.2.2⟩
     generalize ((((w51.setCell ⟨w1.heap.size,0,none⟩ (.int .i64 k51)).setCell ⟨w1.heap.size,1,none⟩ (.string ⟨n51.toArray⟩)).setCell ⟨w1.heap.size,2,none⟩ (.int .i64 m51)).setCell ⟨w1.heap.size,3,none⟩ (.int .i64 a51)).setCell ⟨w1.heap.size,4,none⟩ (.slice o51 l51 c51)=w7 at HY Ax ⊢
     have Cc:=hid Ax.out.1
     have Cd:=hid Ax.out.2.1
     have Ce:=hid Ax.out.2.2
     have Bc:=hid HY.out.1
     have Cf:=hid HY.out.2.1
     clear HY Ax x0 x1 x2 x3 x4 u0 u1 u2 u3 u4 Bn
     refine (zan p g cap ts hE d [59] (by simp) kl.2 _ Cd.out).mono ?_
     rintro e w81 ⟨rfl,hD,hS⟩
     have Ad:=hid hS
     have Bd:=hid hD
     have Be:=hid (Cf.out.trans Ad.out)
     have Aa:=hid (Cc.out.sole Ac.out.1 Ad.out)
     have Ae:=hid (Bc.out.sole Ac.out.1 Ad.out)
     have Ak:=hid (zab.sole Ce.out (by intro b hb;have hpg:=Ac.out.1;have hb2:=hb;first | (unfold zak at hb2;omega) | exact (by have h1:w.heap.size+1<=b:=hb.1;omega)) Ad.out)
     clear hD hS
     obtain ⟨⟨x0,x1,x2,x3,x4⟩,_⟩:=zaa Ae.out.1
     obtain ⟨⟨z0,z1,z2,z3,z4⟩,⟨y0,y1,y2,y3,y4⟩⟩:=zaa Aa.out.1
     go_wp2
     refine ret5 z0 z1 z2 z3 z4 rfl (fun u q0 q1 q2 q3 q4=>by simp [results,Tryz.results30,go_sem,q0,q1,q2,q3,q4]) Aa.out.2 Be.out ?_
     intro wz hf
     rw [Bw.out]
     have hr2:=Aa.out.2
     have hpg:=Ac.out
     exact ⟨_,rfl,za4 Ak.out (fun b h=>Nat.le_trans (Nat.le_succ _) h.1) (fun b h=>by have h1:w.heap.size+1<=b:=h.1;omega) hf.2,Bd.out.but (by omega) (by omega) hf.2,hf.1⟩
    | false =>
     rw [zb4 hbp] at Ca
     have Bw:Hid (R=(zjc,(s.fail 40).want [59])):=by
      show _=_
      rw [HR.out];unfold zax;rw [Dd.out,show s.is zdt=false from hbc,show s.is zc3=false from hbt,show s.is zdc=false from hbp];rfl
     go_wp2_with fail
     refine (zbu p g cap ts d 40 s _ Ca.out).mono ?_
     rintro e w61 ⟨rfl,hD,hS⟩
     have Cr:=hid hS
     have Ds:=hid hD
     have Dt:=hid (Co.out.trans Cr.out)
     have Au:=hid (Af.out.sole Ac.out.1 Cr.out)
     have Av:=hid (Ag.out.sole Ac.out.1 Cr.out)
     clear hD hS
     go_wp2_with fail
     refine (zan p g cap ts hE d [59] (by simp) (s.fail 40) _ Ds.out).mono ?_
     rintro e w62 ⟨rfl,hD,hS⟩
     have Cs:=hid hS
     have Du:=hid hD
     have Dv:=hid (Dt.out.trans Cs.out)
     have Ab:=hid (Au.out.sole Ac.out.1 Cs.out)
     have Al:=hid (Av.out.sole Ac.out.1 Cs.out)
     clear hD hS
     obtain ⟨⟨x0,x1,x2,x3,x4⟩,_⟩:=zaa Al.out.1
     obtain ⟨⟨z0,z1,z2,z3,z4⟩,⟨y0,y1,y2,y3,y4⟩⟩:=zaa Ab.out.1
     go_wp2
     refine ret5 (n:=[]) (a:=0) z0 z1 z2 z3 z4 rfl (fun u q0 q1 q2 q3 q4=>by simp [results,Tryz.results30,go_sem,q0,q1,q2,q3,q4]) Ab.out.2 Dv.out ?_
     intro wz hf
     rw [Bw.out]
     have hr2:=Ab.out.2
     have hpg:=Ac.out
     exact ⟨_,rfl,zfi,Du.out.but (by omega) (by omega) hf.2,hf.1⟩)
theorem zmo {A:Nat->Prop} {w w' : World} {ks:List Tree} {sl:Value} {row:Option Nat} (h:zab A w ks sl) (hg:w.grownBy w' row) (hA:∀ b,A b->row≠some b):zab A w' ks sl:=zab.frame (fun _ h=>h) (fun b hb hl=>hg.block b hl (fun e=>hA b hb e.symm)) h
/-- what is there behind a procedure's first two parts -/
structure PEnd (p g cap:Nat) (ts:List Tok) (d:Int) (s6:RS) (w wz:World) (X q:Nat) (nt:List UInt8) (na:Nat) (t r:Tree) (al:List Tree) (sl:Value):Prop where
 lt:w.heap.size<X∧w.heap.size<q∧q≠X
 ds:DS wz p g cap ts d s6
 so:Sole p w wz
 kr:Kep w wz w.heap.size (kidO 0 [] 0 0 (.slice none 0 0))
 kx:Kep w wz X (kidO 12 nt 0 na (.slice (some ⟨q,0,none⟩) 2 2))
 two:zab (fun b=>w.heap.size+1<=b∧b≠X) wz [t,r] (.slice (some ⟨q,0,none⟩) 2 2)
 more:zab (fun b=>(w.heap.size+1<=b∧b≠X)∧b≠q) wz al sl
 sz:w.heap.size+1<=wz.heap.size∧wz.heap.size≠X
theorem zng {p g cap:Nat} {ts:List Tok} {d:Int} {s6:RS} {nt:List UInt8} {na:Nat} {k m rk rm:Int} {n rn:List UInt8} {a ra:Nat} {ks rks al:List Tree} {sn sr:Value} {oq:Option Addr} {N cq:Nat} {w w5 wz:World} {X q:Nat}
 (hpg:p<w.heap.size∧g<w.heap.size) (hx:w.heap.size<X∧w5.heap.size<=q∧q≠X∧w5.heap.size<wz.heap.size∧wz.heap.size≠X) (hD:DS w5 p g cap ts d s6) (hK:Kep w w5 w.heap.size (kidO 0 [] 0 0 (.slice none 0 0)))
 (hN:zae (fun b=>w.heap.size+1<=b∧b≠X) w5 (.node k n m a ks) (kidV k n m a sn)) (hR:zab (fun b=>w.heap.size+1<=b∧b≠X) w5 rks sr) (hA:zab (fun b=>w.heap.size+1<=b∧b≠X) w5 al (.slice oq N cq))
 (hb:∀ b,b<w5.heap.size->b≠X->wz.heap[b]?=w5.heap[b]?) (hq:wz.heap[q]?=some (.cells #[.int .i64 k,.string ⟨n.toArray⟩,.int .i64 m,.int .i64 a,sn,.int .i64 rk,.string ⟨rn.toArray⟩,.int .i64 rm,.int .i64 ra,sr] 29 (0,0)))
 (hX:wz.heap[X]?=some (kidO 12 nt 0 na (.slice (some ⟨q,0,none⟩) 2 2))) (hS:Sole p w wz):
 PEnd p g cap ts d s6 w wz X q nt na (.node k n m a ks) (.node rk rn rm ra rks) al (.slice oq N cq):=by
 have hlt:=hK.lt
 obtain ⟨i,h1,h2⟩:=hD
 have hp2:=h2.plt
 have hg2:=h2.gl
 refine ⟨⟨by omega,by omega,hx.2.2.1⟩,⟨i,h1,h2.of_blocks (hb p hp2 (by omega)) (hb g hg2 (by omega))⟩,hS,⟨(hb _ hlt (by omega)).trans hK.1,hK.2⟩,⟨hX,by omega⟩,?_,?_,⟨by omega,hx.2.2.2.2⟩⟩
 · refine zbh (ks:=[.node k n m a ks,.node rk rn rm ra rks]) (q:=q) (xs:=[.int .i64 k,.string ⟨n.toArray⟩,.int .i64 m,.int .i64 a,sn]++[.int .i64 rk,.string ⟨rn.toArray⟩,.int .i64 rm,.int .i64 ra,sr]) hq (by simp) ⟨by omega,by omega⟩ (RowV.append [.node k n m a ks] [.node rk rn rm ra rks] _ _ (za3 ?_) (za3 ?_))
   · exact zae.frame (fun b hb1=>⟨hb1.1,by have:=hb1.2;omega⟩) (fun b hb1 hl=>hb b hl hb1.1.2) _ _ (zae.there _ _ hN)
   · exact zaf.2 ⟨_,rfl,zab.frame (fun b hb1=>⟨hb1.1,by have:=hb1.2;omega⟩) (fun b hb1 hl=>hb b hl hb1.1.2) (zcs hR)⟩
 · exact zab.frame (fun b hb1=>⟨hb1.1,by have:=hb1.2;omega⟩) (fun b hb1 hl=>hb b hl hb1.1.2) (zcs hA)
theorem proc_f3 {p g cap:Nat} {ts:List Tok} {d:Int} {s6:RS} {nt:List UInt8} {na:Nat} {k m rk rm:Int} {n rn:List UInt8} {a ra:Nat} {ks rks al:List Tree} {sn sr:Value} {oq:Option Addr} {N cq:Nat} {w W w5:World} {B Y:Nat} (hpg:p<w.heap.size∧g<w.heap.size) (hwt:B<=W.heap.size) (hbb:Y<B∧w.heap.size<Y) (hSW:Sole p w W) (hK:Kep w W w.heap.size (kidO 0 [] 0 0 (.slice none 0 0))) (hR:zab (fun b=>w.heap.size+1<=b∧b≠Y∧b<B) W rks sr) (hA:zab (zak B) W al (.slice oq N cq)) (hD:DS w5 p g cap ts d s6) (hQ:Sole p W w5) (hT:zah W.heap.size (.node k n m a ks) w5 (kidV k n m a sn)):
 PEnd p g cap ts d s6 w ((w5.alloc (.cells #[.int .i64 k,.string ⟨n.toArray⟩,.int .i64 m,.int .i64 a,sn,.int .i64 rk,.string ⟨rn.toArray⟩,.int .i64 rm,.int .i64 ra,sr] 29)).alloc (.cells #[.int .i64 12,.string ⟨nt.toArray⟩,.int .i64 0,.int .i64 na,.slice (some ⟨w5.heap.size,0,none⟩) 2 2] 29)) (w5.heap.size+1) w5.heap.size nt na (.node k n m a ks) (.node rk rn rm ra rks) al (.slice oq N cq):=by
 have hle:=hQ.size
 have hN:zae (fun b=>w.heap.size+1<=b∧b<w5.heap.size) w5 (.node k n m a ks) (kidV k n m a sn):=(zae.there _ _ hT).weaken (fun b hb=>⟨by have h1:W.heap.size<=b:=hb.1;omega,hb.2⟩)
 have hR2:=(zcs (zab.sole hR (fun b hb=>by have h1:=hb.1;omega) hQ)).weaken (A':=fun b=>w.heap.size+1<=b∧b<w5.heap.size) (fun b hb=>⟨hb.1.1,hb.2⟩)
 have hA2:=(zcs (zab.sole hA (fun b hb=>by have h1:B<=b:=hb;omega) hQ)).weaken (A':=fun b=>w.heap.size+1<=b∧b<w5.heap.size) (fun b hb=>⟨by have h1:B<=b:=hb.1;omega,hb.2⟩)
 have hz:(w5.alloc (.cells #[.int .i64 k,.string ⟨n.toArray⟩,.int .i64 m,.int .i64 a,sn,.int .i64 rk,.string ⟨rn.toArray⟩,.int .i64 rm,.int .i64 ra,sr] 29)).heap.size=w5.heap.size+1:=by simp
 have hz2:((w5.alloc (.cells #[.int .i64 k,.string ⟨n.toArray⟩,.int .i64 m,.int .i64 a,sn,.int .i64 rk,.string ⟨rn.toArray⟩,.int .i64 rm,.int .i64 ra,sr] 29)).alloc (.cells #[.int .i64 12,.string ⟨nt.toArray⟩,.int .i64 0,.int .i64 na,.slice (some ⟨w5.heap.size,0,none⟩) 2 2] 29)).heap.size=w5.heap.size+2:=by simp
 have hS:Sole p w ((w5.alloc (.cells #[.int .i64 k,.string ⟨n.toArray⟩,.int .i64 m,.int .i64 a,sn,.int .i64 rk,.string ⟨rn.toArray⟩,.int .i64 rm,.int .i64 ra,sr] 29)).alloc (.cells #[.int .i64 12,.string ⟨nt.toArray⟩,.int .i64 0,.int .i64 na,.slice (some ⟨w5.heap.size,0,none⟩) 2 2] 29)):=(hSW.trans hQ).trans (Sole.of_below ((zac w5 (.cells #[.int .i64 k,.string ⟨n.toArray⟩,.int .i64 m,.int .i64 a,sn,.int .i64 rk,.string ⟨rn.toArray⟩,.int .i64 rm,.int .i64 ra,sr] 29)).alloc (by simp) (.cells #[.int .i64 12,.string ⟨nt.toArray⟩,.int .i64 0,.int .i64 na,.slice (some ⟨w5.heap.size,0,none⟩) 2 2] 29)))
 have h9:=heap_alloc_new (w5.alloc (.cells #[.int .i64 k,.string ⟨n.toArray⟩,.int .i64 m,.int .i64 a,sn,.int .i64 rk,.string ⟨rn.toArray⟩,.int .i64 rm,.int .i64 ra,sr] 29)) (.cells #[.int .i64 12,.string ⟨nt.toArray⟩,.int .i64 0,.int .i64 na,.slice (some ⟨w5.heap.size,0,none⟩) 2 2] 29)
 rw [hz] at h9
 have h8:((w5.alloc (.cells #[.int .i64 k,.string ⟨n.toArray⟩,.int .i64 m,.int .i64 a,sn,.int .i64 rk,.string ⟨rn.toArray⟩,.int .i64 rm,.int .i64 ra,sr] 29)).alloc (.cells #[.int .i64 12,.string ⟨nt.toArray⟩,.int .i64 0,.int .i64 na,.slice (some ⟨w5.heap.size,0,none⟩) 2 2] 29)).heap[w5.heap.size]?=some (.cells #[.int .i64 k,.string ⟨n.toArray⟩,.int .i64 m,.int .i64 a,sn,.int .i64 rk,.string ⟨rn.toArray⟩,.int .i64 rm,.int .i64 ra,sr] 29):=za9 (heap_alloc_new w5 (.cells #[.int .i64 k,.string ⟨n.toArray⟩,.int .i64 m,.int .i64 a,sn,.int .i64 rk,.string ⟨rn.toArray⟩,.int .i64 rm,.int .i64 ra,sr] 29))
 exact zng hpg ⟨by omega,by omega,by omega,by omega,by omega⟩ hD (hK.sole hpg.1 hQ) (hN.weaken (fun b hb=>⟨hb.1,by have:=hb.2;omega⟩)) (hR2.weaken (fun b hb=>⟨hb.1,by have:=hb.2;omega⟩)) (hA2.weaken (fun b hb=>⟨hb.1,by have:=hb.2;omega⟩)) (fun b hb _=>(heap_alloc_old _ _ (by omega)).trans (heap_alloc_old _ _ hb)) h8 h9 hS
theorem proc_f2 {p g cap:Nat} {ts:List Tok} {d:Int} {s6:RS} {nt:List UInt8} {na:Nat} {k m rk rm:Int} {n rn:List UInt8} {a ra:Nat} {ks rks al:List Tree} {sn sr:Value} {oq:Option Addr} {N cq:Nat} {w W w5:World} {B Y:Nat} (hpg:p<w.heap.size∧g<w.heap.size) (hwt:B<=W.heap.size) (hbb:Y<B∧w.heap.size<Y) (hSW:Sole p w W) (hK:Kep w W w.heap.size (kidO 0 [] 0 0 (.slice none 0 0))) (hR:zab (fun b=>w.heap.size+1<=b∧b≠Y∧b<B) W rks sr) (hA:zab (zak B) W al (.slice oq N cq)) (hD:DS w5 p g cap ts d s6) (hQ:Sole p W w5) (hT:zah W.heap.size (.node k n m a ks) w5 (kidV k n m a sn)):
 PEnd p g cap ts d s6 w ((w5.alloc (.cells #[.int .i64 12,.string ⟨nt.toArray⟩,.int .i64 0,.int .i64 na,.slice (some ⟨w5.heap.size+1,0,none⟩) 2 2] 29)).alloc (.cells #[.int .i64 k,.string ⟨n.toArray⟩,.int .i64 m,.int .i64 a,sn,.int .i64 rk,.string ⟨rn.toArray⟩,.int .i64 rm,.int .i64 ra,sr] 29)) w5.heap.size (w5.heap.size+1) nt na (.node k n m a ks) (.node rk rn rm ra rks) al (.slice oq N cq):=by
 have hle:=hQ.size
 have hN:zae (fun b=>w.heap.size+1<=b∧b<w5.heap.size) w5 (.node k n m a ks) (kidV k n m a sn):=(zae.there _ _ hT).weaken (fun b hb=>⟨by have h1:W.heap.size<=b:=hb.1;omega,hb.2⟩)
 have hR2:=(zcs (zab.sole hR (fun b hb=>by have h1:=hb.1;omega) hQ)).weaken (A':=fun b=>w.heap.size+1<=b∧b<w5.heap.size) (fun b hb=>⟨hb.1.1,hb.2⟩)
 have hA2:=(zcs (zab.sole hA (fun b hb=>by have h1:B<=b:=hb;omega) hQ)).weaken (A':=fun b=>w.heap.size+1<=b∧b<w5.heap.size) (fun b hb=>⟨by have h1:B<=b:=hb.1;omega,hb.2⟩)
 have hz:(w5.alloc (.cells #[.int .i64 12,.string ⟨nt.toArray⟩,.int .i64 0,.int .i64 na,.slice (some ⟨w5.heap.size+1,0,none⟩) 2 2] 29)).heap.size=w5.heap.size+1:=by simp
 have hz2:((w5.alloc (.cells #[.int .i64 12,.string ⟨nt.toArray⟩,.int .i64 0,.int .i64 na,.slice (some ⟨w5.heap.size+1,0,none⟩) 2 2] 29)).alloc (.cells #[.int .i64 k,.string ⟨n.toArray⟩,.int .i64 m,.int .i64 a,sn,.int .i64 rk,.string ⟨rn.toArray⟩,.int .i64 rm,.int .i64 ra,sr] 29)).heap.size=w5.heap.size+2:=by simp
 have hS:Sole p w ((w5.alloc (.cells #[.int .i64 12,.string ⟨nt.toArray⟩,.int .i64 0,.int .i64 na,.slice (some ⟨w5.heap.size+1,0,none⟩) 2 2] 29)).alloc (.cells #[.int .i64 k,.string ⟨n.toArray⟩,.int .i64 m,.int .i64 a,sn,.int .i64 rk,.string ⟨rn.toArray⟩,.int .i64 rm,.int .i64 ra,sr] 29)):=(hSW.trans hQ).trans (Sole.of_below ((zac w5 (.cells #[.int .i64 12,.string ⟨nt.toArray⟩,.int .i64 0,.int .i64 na,.slice (some ⟨w5.heap.size+1,0,none⟩) 2 2] 29)).alloc (by simp) (.cells #[.int .i64 k,.string ⟨n.toArray⟩,.int .i64 m,.int .i64 a,sn,.int .i64 rk,.string ⟨rn.toArray⟩,.int .i64 rm,.int .i64 ra,sr] 29)))
 have h9:=heap_alloc_new (w5.alloc (.cells #[.int .i64 12,.string ⟨nt.toArray⟩,.int .i64 0,.int .i64 na,.slice (some ⟨w5.heap.size+1,0,none⟩) 2 2] 29)) (.cells #[.int .i64 k,.string ⟨n.toArray⟩,.int .i64 m,.int .i64 a,sn,.int .i64 rk,.string ⟨rn.toArray⟩,.int .i64 rm,.int .i64 ra,sr] 29)
 rw [hz] at h9
 have h8:((w5.alloc (.cells #[.int .i64 12,.string ⟨nt.toArray⟩,.int .i64 0,.int .i64 na,.slice (some ⟨w5.heap.size+1,0,none⟩) 2 2] 29)).alloc (.cells #[.int .i64 k,.string ⟨n.toArray⟩,.int .i64 m,.int .i64 a,sn,.int .i64 rk,.string ⟨rn.toArray⟩,.int .i64 rm,.int .i64 ra,sr] 29)).heap[w5.heap.size]?=some (.cells #[.int .i64 12,.string ⟨nt.toArray⟩,.int .i64 0,.int .i64 na,.slice (some ⟨w5.heap.size+1,0,none⟩) 2 2] 29):=za9 (heap_alloc_new w5 (.cells #[.int .i64 12,.string ⟨nt.toArray⟩,.int .i64 0,.int .i64 na,.slice (some ⟨w5.heap.size+1,0,none⟩) 2 2] 29))
 exact zng hpg ⟨by omega,by omega,by omega,by omega,by omega⟩ hD (hK.sole hpg.1 hQ) (hN.weaken (fun b hb=>⟨hb.1,by have:=hb.2;omega⟩)) (hR2.weaken (fun b hb=>⟨hb.1,by have:=hb.2;omega⟩)) (hA2.weaken (fun b hb=>⟨hb.1,by have:=hb.2;omega⟩)) (fun b hb _=>(heap_alloc_old _ _ (by omega)).trans (heap_alloc_old _ _ hb)) h9 h8 hS
theorem proc_f1 {p g cap:Nat} {ts:List Tok} {d:Int} {s6:RS} {nt:List UInt8} {na:Nat} {k m rk rm:Int} {n rn:List UInt8} {a ra:Nat} {ks rks al:List Tree} {sn sr:Value} {oq:Option Addr} {N cq:Nat} {w W w5:World} {B Y:Nat} (hpg:p<w.heap.size∧g<w.heap.size) (hwt:B<=W.heap.size) (hbb:Y<B∧w.heap.size<Y) (hSW:Sole p w W) (hK:Kep w W w.heap.size (kidO 0 [] 0 0 (.slice none 0 0))) (hR:zab (fun b=>w.heap.size+1<=b∧b≠Y∧b<B) W rks sr) (hA:zab (zak B) W al (.slice oq N cq)) (hD:DS w5 p g cap ts d s6) (hQ:Sole p (W.alloc (.cells #[.int .i64 0,.string ⟨#[]⟩,.int .i64 0,.int .i64 0,.slice none 0 0] 29)) w5) (hT:zah (W.heap.size+1) (.node k n m a ks) w5 (kidV k n m a sn)):
 PEnd p g cap ts d s6 w ((((((w5.alloc (.cells #[.int .i64 k,.string ⟨n.toArray⟩,.int .i64 m,.int .i64 a,sn,.int .i64 rk,.string ⟨rn.toArray⟩,.int .i64 rm,.int .i64 ra,sr] 29)).setCell ⟨W.heap.size,0,none⟩ (.int .i64 12)).setCell ⟨W.heap.size,1,none⟩ (.string ⟨nt.toArray⟩)).setCell ⟨W.heap.size,2,none⟩ (.int .i64 0)).setCell ⟨W.heap.size,3,none⟩ (.int .i64 na)).setCell ⟨W.heap.size,4,none⟩ (.slice (some ⟨w5.heap.size,0,none⟩) 2 2)) W.heap.size w5.heap.size nt na (.node k n m a ks) (.node rk rn rm ra rks) al (.slice oq N cq):=by
 have hz0:(W.alloc (.cells #[.int .i64 0,.string ⟨#[]⟩,.int .i64 0,.int .i64 0,.slice none 0 0] 29)).heap.size=W.heap.size+1:=by simp
 have hle:=hQ.size
 have hB:=zac W (.cells #[.int .i64 0,.string ⟨#[]⟩,.int .i64 0,.int .i64 0,.slice none 0 0] 29)
 have hKX:Kep w w5 W.heap.size (kidO 0 [] 0 0 (.slice none 0 0)):=Kep.sole (Kep.new (w:=w) (Nat.le_of_lt hK.lt) _) hpg.1 hQ
 have hN:zae (fun b=>w.heap.size+1<=b∧b≠W.heap.size) w5 (.node k n m a ks) (kidV k n m a sn):=zae.weaken hT (fun b hb=>by have h1:W.heap.size+1<=b:=hb;exact ⟨by omega,by omega⟩)
 have hR2:=(zab.sole (zab.below (zcs hR) hB) (fun b hb=>by have h1:=hb.1.1;omega) hQ).weaken (A':=fun b=>w.heap.size+1<=b∧b≠W.heap.size) (fun b hb=>⟨hb.1.1,by have:=hb.2;omega⟩)
 have hA2:=(zab.sole (zab.below (zcs hA) hB) (fun b hb=>by have h1:B<=b:=hb.1;omega) hQ).weaken (A':=fun b=>w.heap.size+1<=b∧b≠W.heap.size) (fun b hb=>⟨by have h1:B<=b:=hb.1;omega,by have:=hb.2;omega⟩)
 have hS5:Sole p w w5:=(hSW.trans (Sole.of_below hB)).trans hQ
 obtain ⟨wz,hwz⟩:∃ x,((((((w5.alloc (.cells #[.int .i64 k,.string ⟨n.toArray⟩,.int .i64 m,.int .i64 a,sn,.int .i64 rk,.string ⟨rn.toArray⟩,.int .i64 rm,.int .i64 ra,sr] 29)).setCell ⟨W.heap.size,0,none⟩ (.int .i64 12)).setCell ⟨W.heap.size,1,none⟩ (.string ⟨nt.toArray⟩)).setCell ⟨W.heap.size,2,none⟩ (.int .i64 0)).setCell ⟨W.heap.size,3,none⟩ (.int .i64 na)).setCell ⟨W.heap.size,4,none⟩ (.slice (some ⟨w5.heap.size,0,none⟩) 2 2))=x:=⟨_,rfl⟩
 have hY:=laid5 (k:=12) (n:=nt) (m:=0) (a:=na) (sl:=.slice (some ⟨w5.heap.size,0,none⟩) 2 2) (hKX.alloc (.cells #[.int .i64 k,.string ⟨n.toArray⟩,.int .i64 m,.int .i64 a,sn,.int .i64 rk,.string ⟨rn.toArray⟩,.int .i64 rm,.int .i64 ra,sr] 29)) (hS5.trans (Sole.of_below (zac w5 (.cells #[.int .i64 k,.string ⟨n.toArray⟩,.int .i64 m,.int .i64 a,sn,.int .i64 rk,.string ⟨rn.toArray⟩,.int .i64 rm,.int .i64 ra,sr] 29)))) wz hwz
 have hz2:wz.heap.size=w5.heap.size+1:=by rw [<- hwz];simp
 rw [hwz]
 exact zng hpg ⟨by omega,Nat.le_refl _,by omega,by omega,by omega⟩ hD (Kep.sole (hK.alloc _) hpg.1 hQ) hN hR2 hA2 (fun b hb hx=>(hY.2.2 b hx).trans (heap_alloc_old _ _ hb)) ((hY.2.2 _ (by omega)).trans (heap_alloc_new _ _)) hY.1.1 hY.2.1
end Go.Proofs.YtighggeokiahfaaGreatDoor.Dm
