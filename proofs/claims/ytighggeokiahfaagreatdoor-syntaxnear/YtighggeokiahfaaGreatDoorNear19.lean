import Derived.Test.YtighggeokiahfaaGreatDoorNear18
import Derived.Deep.CutBlock
import Derived.Deep.DeepCutAuto
import Derived.Test.YtighggeokiahfaaGreatDoorNear17
namespace Go.Proofs.YtighggeokiahfaaGreatDoor.Dm
open Go.RowKit
set_option maxHeartbeats 20000000 in
set_option maxRecDepth 4000 in
theorem proc_any (p g cap:Nat) (ts:List Tok) (hE:Ends ts) (d:Int):zge p g cap ts d 126 zg9:=by
 intro s w h
 have Cv:Hid (∀ st,∀ w,DS w p g cap ts d st->Calls Tryz.prog 125 #[.pointer (some ⟨p,0,none⟩)] w (zdj p g cap ts d (zah w.heap.size) (zed st) w)):=fun st w h=>zgc p g cap ts hE d st w h
 have Ab:Hid (p<w.heap.size∧g<w.heap.size):=⟨h.plt,h.glt⟩
 obtain ⟨R,hR⟩:∃ R,zg9 s=R:=⟨_,rfl⟩
 rw [hR]
 have HR:Hid (R=zg9 s):=hR.symm
 obtain ⟨wa,hwa⟩:∃ x,w.alloc (.cells #[.int .i64 0,.string ⟨#[]⟩,.int .i64 0,.int .i64 0,.slice none 0 0] 29)=x:=⟨_,rfl⟩
 have HB:Hid (Below w.heap.size w wa):=hidB hwa
 have HK:Hid (Kep w wa w.heap.size (kidO 0 [] 0 0 (.slice none 0 0))):=by show Kep _ _ _ _;rw [<- hwa];exact Kep.new (Nat.le_refl _) _
 have HD:Hid (DS wa p g cap ts d s):=h.below HB.out
 clear h hR
 have HS:Hid (Sole p w wa):=Sole.of_below HB.out
 obtain ⟨i,hi,h1,hh,hs⟩:=HD.out.at_
 have Fq:Hid (DP wa p g cap ts i d s.e s.pl∧s.hd=ts[i]∧s.ts=ts.drop i):=⟨h1,hh,hs⟩
 have Dy:Hid ((i:Int)<=16001):=by show _<=_;have:=h1.ln;omega
 have hl:=h1.look hi
 obtain ⟨E0,hE0⟩:∃ x,s.e=x:=⟨_,rfl⟩
 obtain ⟨K,hK⟩:∃ x,ts[i].kind=x:=⟨_,rfl⟩
 obtain ⟨M,hM⟩:∃ x,ts[i].num=x:=⟨_,rfl⟩
 obtain ⟨A,hA⟩:∃ x,ts[i].at_=x:=⟨_,rfl⟩
 obtain ⟨S,hS⟩:∃ x,ts[i].text=x:=⟨_,rfl⟩
 rw [hE0,hK,hM,hA,hS] at hl
 have HF:Hid (s.e=E0∧s.hd.kind=K∧s.hd.num=M∧s.hd.at_=A∧s.hd.text=S):=⟨hE0,by rw [hh];exact hK,by rw [hh];exact hM,by rw [hh];exact hA,by rw [hh];exact hS⟩
 clear hE0 hK hM hA hS hh hs h1
 obtain ⟨hp,hg,hi',c0,c1,c3,t0,t1,t2,t3,f1⟩:=hl
 have c1x:∀ x,(wa.alloc x).cell? ⟨p,1,none⟩=some (.int .i64 i):=fun x=>by rw [World.cell?_alloc_lt _ _ _ hp];exact c1
 have c3x:∀ x,(wa.alloc x).cell? ⟨p,3,none⟩=some (.int .i64 E0):=fun x=>by rw [World.cell?_alloc_lt _ _ _ hp];exact c3
 have f1x:∀ x,(wa.alloc x).frozen? ⟨p,1,none⟩=false:=fun x=>by rw [World.frozen?_alloc_old _ _ _ (Nat.ne_of_lt hp)];exact f1
 have Fr:Hid (∀ x k,Below wa.heap.size wa ((wa.alloc x).drewN k)):=fun x k=>zaj (zac wa x) k
 have hne:¬ p=wa.heap.size:=by omega
 have hne2:¬ wa.heap.size=p:=by omega
 have him:=Dy.out
 have qb:=bld03x
 have qc:=zix
 go_enter Tryz.func126,Tryz.ntmps126
 go_upto_region 1 with fail
 clear hwa
 go_cut [3] (fun v wc=>v=.int .i64 A∧Hid (DS wc p g cap ts d s)∧Hid (Sole p w wc)∧Hid (Kep w wc w.heap.size (kidO 0 [] 0 0 (.slice none 0 0))))
 case first =>
  go_region
  all_goals (
   go_wp2_with fail
   go_meet
   exact ⟨rfl,HD.out.below (zal _),HS.out.trans (Sole.of_below (zal _)),HK.out.below (zal _)⟩)
 case rest =>
  obtain ⟨rfl,Gw,Gx,Fb⟩:=hcut
  clear HD HS HK HB Fq Dy Fr c0 c1 c3 t0 t1 t2 t3 f1 c1x c3x f1x hne hne2 him hp hg hi'
  go_wp2_with fail
  obtain ⟨wy,hwy⟩:∃ x,wc.alloc (.cells #[.int .i64 13,.string ⟨#[]⟩,.int .i64 0,.int .i64 A,.slice none 0 0] 29)=x:=⟨_,rfl⟩
  have Fc:Hid (Below wc.heap.size wc wy):=hidB hwy
  have Dz:Hid (w.heap.size<wc.heap.size):=Fb.out.lt
  have Fs:Hid (Kep w wy wc.heap.size (kidO 13 [] 0 A (.slice none 0 0))):=by show Kep _ _ _ _;rw [<- hwy];exact Kep.new (Nat.le_of_lt Fb.out.lt) _
  have Cw:=hid (Fb.out.below Fc.out)
  have Gy:=hid (Gw.out.below Fc.out)
  have Gz:=hid (Gx.out.trans (Sole.of_below Fc.out))
  have Ia:Hid (R=pE0 (zeb s).1 (zeb s).2):=HR.out
  have Db:Hid (zeb s=if s.is [118,111,105,100] then (.node 13 [] 0 A [],s.adv) else zed s):=by show _=_;unfold zeb;rw [HF.out.2.2.2.1];rfl
  rw [hwy]
  clear hwy
  obtain ⟨Y,hY⟩:∃ x,wc.heap.size=x:=⟨_,rfl⟩
  rw [hY] at Dz Fs
  rw [hY]
  clear hY
  refine (zch p g cap ts hE d [118,111,105,100] (by simp) s _ Gy.out).mono ?_
  rintro e w1 ⟨rfl,hD,hS⟩
  have Fd:=hid hS
  have Ea:=hid hD
  have Fe:=hid (Gz.out.trans Fd.out)
  have Bn:=hid (Cw.out.sole Ab.out.1 Fd.out)
  have Bo:=hid (Fs.out.sole Ab.out.1 Fd.out)
  clear hD hS
  go_upto_if 28 with fail
  go_cut [5] (fun _ wc=>∃ (k:Int) (n:List UInt8) (m:Int) (a:Nat) (ks:List Tree) (o:Option Addr) (l c:Nat),Hid ((zeb s).1=.node k n m a ks)∧Hid (DS wc p g cap ts d (zeb s).2)∧Hid (Sole p w wc)∧Hid (Kep w wc w.heap.size (kidO 0 [] 0 0 (.slice none 0 0)))∧Hid (Kep w wc Y (kidO k n m a (.slice o l c)))∧Hid (zab (fun b=>w.heap.size+1<=b∧b≠Y) wc ks (.slice o l c)))
  case first =>
   cases hv:s.is [118,111,105,100] with
   | true =>
    rw [hv,if_pos rfl] at Db
    rw [zdx hv] at Ea
    go_wp2_with fail
    go_meet
    exact ⟨13,[],0,A,[],none,0,0,by show _=_;rw [Db.out],by show DS _ _ _ _ _ _ _;rw [Db.out];exact Ea.out,Fe,Bn,Bo,zbe⟩
   | false =>
    rw [hv,if_neg (by simp)] at Db
    rw [zb4 hv] at Ea
    go_wp2_with fail
    have Ix:=hid (Kep.lt Bn.out)
    have Iy:=hid (Sole.size Fe.out)
    refine (zgc p g cap ts hE d s _ Ea.out).mono ?_
    rintro e w11 ⟨v,rfl,hv,hD,hS⟩
    have Dc:=hid hS
    have Ft:=hid hD
    have Fu:=hid (Fe.out.trans Dc.out)
    have Ba:=hid (Bn.out.sole Ab.out.1 Dc.out)
    have Bb:=hid (Bo.out.sole Ab.out.1 Dc.out)
    obtain ⟨k11,n11,m11,a11,ks11,o11,l11,c11,he11,rfl⟩:=zar hv
    have Eb:=hid he11
    clear he11
    have Fv:=hid hv
    clear hv hD hS
    have Iz:Hid (Y<w1.heap.size):=Bo.out.lt
    have Ja:Hid (zab (fun b=>w.heap.size+1<=b∧b≠Y) w11 ks11 (.slice o11 l11 c11)):=(zkg (by rw [<- Eb.out];exact Fv.out)).weaken (fun b hb=>by
     have h1:w1.heap.size<=b:=hb
     have h2:=Iz.out
     have h3:=Dz.out
     exact ⟨by omega,by omega⟩)
    unfold kidV
    obtain ⟨⟨x0,x1,x2,x3,x4⟩,⟨u0,u1,u2,u3,u4⟩⟩:=zaa Bb.out.1
    go_wp2_with fail
    go_meet
    have HY:=hid (laid5 (k:=k11) (n:=n11) (m:=m11) (a:=a11) (sl:=(.slice o11 l11 c11)) Bb.out Fu.out _ rfl)
    have h1:=Dz.out
    have h2:=Ab.out
    refine ⟨k11,n11,m11,a11,ks11,o11,l11,c11,by show _=_;rw [Db.out];exact Eb.out,by show DS _ _ _ _ _ _ _;rw [Db.out];exact Ft.out.but (r:=Y) (by omega) (by omega) HY.out.2.2,HY.out.2.1,⟨(HY.out.2.2 _ (by omega)).trans Ba.out.1,Ba.out.2⟩,HY.out.1,zab.but Ja.out (fun b hb=>hb.2) HY.out.2.2⟩
  case rest =>
   obtain ⟨rk,rn,rm,ra,rks,ro,rl,rc,Ib,Fw,Ic,Id,Fx,Ec⟩:=hcut
   obtain ⟨sr,hsr⟩:∃ x,(zeb s).2=x:=⟨_,rfl⟩
   have Ie:Hid (R=pE0 (.node rk rn rm ra rks) sr):=by show _=_;rw [Ia.out,Ib.out,hsr]
   rw [hsr] at Fw
   clear hsr Ia Db Ib HF
   have Br:Hid (Y<wc.heap.size∧w.heap.size<Y):=⟨Fx.out.lt,Dz.out⟩
   have Fy:Hid (zab (fun b=>w.heap.size+1<=b∧b≠Y∧b<wc.heap.size) wc rks (.slice ro rl rc)):=(zcs Ec.out).weaken (fun b hb=>⟨hb.1.1,hb.1.2,hb.2⟩)
   clear Ec
   obtain ⟨B,hBB⟩:∃ x,wc.heap.size=x:=⟨_,rfl⟩
   rw [hBB] at Br Fy
   have Ig:Hid (wc.heap.size=B):=hBB
   clear hBB
   go_wp2_with fail
   refine (zcm p g cap ts hE d sr _ Fw.out).mono ?_
   rintro e w21 ⟨v,rfl,rfl,hD,hS⟩
   have Bs:=hid hS
   have Dd:=hid hD
   have Ed:=hid (Ic.out.trans Bs.out)
   have Ca:=hid (Id.out.sole Ab.out.1 Bs.out)
   have Cb:=hid (Fx.out.sole Ab.out.1 Bs.out)
   have Cc:=hid (zab.sole Fy.out (by intro b hb;have hpg:=Ab.out.1;have hb2:=hb;first | (unfold zak at hb2;omega) | exact (by have h1:=hb.1;omega)) Bs.out)
   clear hD hS
   obtain ⟨nm,hnm⟩:∃ x,(zaz sr).1=x:=⟨_,rfl⟩
   obtain ⟨sn,hsn⟩:∃ x,(zaz sr).2=x:=⟨_,rfl⟩
   have Cx:Hid (R=pE1 (Tree.node rk rn rm ra rks) nm sn):=by show _=_;rw [Ie.out,<- hnm,<- hsn];rfl
   rw [hnm]
   rw [hsn] at Dd
   clear hnm hsn Ie
   obtain ⟨nt,na⟩:=nm
   go_wp2_with fail
   refine (zan p g cap ts hE d [40] (by simp) sn _ Dd.out).mono ?_
   rintro e w22 ⟨rfl,hD,hS⟩
   have Bt:=hid hS
   have Cd:=hid hD
   have Ee:=hid (Ed.out.trans Bt.out)
   have Ap:=hid (Ca.out.sole Ab.out.1 Bt.out)
   have Aq:=hid (Cb.out.sole Ab.out.1 Bt.out)
   have Ar:=hid (zab.sole Cc.out (by intro b hb;have hpg:=Ab.out.1;have hb2:=hb;first | (unfold zak at hb2;omega) | exact (by have h1:=hb.1;omega)) Bt.out)
   clear hD hS
   obtain ⟨s3,hs3⟩:∃ x,sn.want [40]=x:=⟨_,rfl⟩
   have Fz:Hid (R=pE2 (Tree.node rk rn rm ra rks) (nt,na) (zff s3).1 (zff s3).2):=by show _=_;rw [Cx.out,<- hs3];rfl
   rw [hs3] at Cd
   have Ef:=hid (ds_n Cd.out)
   clear hs3 Cx
   go_upto_region 8 with fail
   obtain ⟨i,hi,h1,hh,hs⟩:=Cd.out.at_
   have Fq:Hid (DP w22 p g cap ts i d s3.e s3.pl∧s3.hd=ts[i]∧s3.ts=ts.drop i):=⟨h1,hh,hs⟩
   have Dy:Hid ((i:Int)<=16001):=by show _<=_;have:=h1.ln;omega
   have hl:=h1.look hi
   obtain ⟨E0,hE0⟩:∃ x,s3.e=x:=⟨_,rfl⟩
   obtain ⟨K,hK⟩:∃ x,ts[i].kind=x:=⟨_,rfl⟩
   obtain ⟨M,hM⟩:∃ x,ts[i].num=x:=⟨_,rfl⟩
   obtain ⟨A,hA⟩:∃ x,ts[i].at_=x:=⟨_,rfl⟩
   obtain ⟨S,hS⟩:∃ x,ts[i].text=x:=⟨_,rfl⟩
   rw [hE0,hK,hM,hA,hS] at hl
   have HF:Hid (s3.e=E0∧s3.hd.kind=K∧s3.hd.num=M∧s3.hd.at_=A∧s3.hd.text=S):=⟨hE0,by rw [hh];exact hK,by rw [hh];exact hM,by rw [hh];exact hA,by rw [hh];exact hS⟩
   clear hE0 hK hM hA hS hh hs h1
   obtain ⟨hp,hg,hi',c0,c1,c3,t0,t1,t2,t3,f1⟩:=hl
   have c1x:∀ x,(w22.alloc x).cell? ⟨p,1,none⟩=some (.int .i64 i):=fun x=>by rw [World.cell?_alloc_lt _ _ _ hp];exact c1
   have c3x:∀ x,(w22.alloc x).cell? ⟨p,3,none⟩=some (.int .i64 E0):=fun x=>by rw [World.cell?_alloc_lt _ _ _ hp];exact c3
   have f1x:∀ x,(w22.alloc x).frozen? ⟨p,1,none⟩=false:=fun x=>by rw [World.frozen?_alloc_old _ _ _ (Nat.ne_of_lt hp)];exact f1
   have Fr:Hid (∀ x k,Below w22.heap.size w22 ((w22.alloc x).drewN k)):=fun x k=>zaj (zac w22 x) k
   have hne:¬ p=w22.heap.size:=by omega
   have hne2:¬ w22.heap.size=p:=by omega
   have him:=Dy.out
   go_cut [3] (fun v wc=>v=.int .i64 A∧Hid (DS wc p g cap ts d s3)∧Hid (B<=wc.heap.size)∧Hid (Sole p w wc)∧Hid (Kep w wc w.heap.size (kidO 0 [] 0 0 (.slice none 0 0)))∧Hid (Kep w wc Y (kidO rk rn rm ra (.slice ro rl rc)))∧Hid (zab (fun b=>w.heap.size+1<=b∧b≠Y∧b<B) wc rks (.slice ro rl rc)))
   case first =>
    go_region
    all_goals (
     go_wp2_with fail
     go_meet
     exact ⟨rfl,Cd.out.below (zal _),by show B<=w22.heap.size;have h0:=Ig.out;have h1:=Bs.out.size;have h2:=Bt.out.size;omega,Ee.out.trans (Sole.of_below (zal _)),Ap.out.below (zal _),Aq.out.below (zal _),zab.below Ar.out (zal _)⟩)
   case rest =>
    obtain ⟨rfl,Ih,Ii,Ij,Ik,Eg,Il⟩:=hcut
    clear Fq Dy Fr c0 c1 c3 t0 t1 t2 t3 f1 c1x c3x f1x hne hne2 him hp hg hi'
    obtain ⟨NB,hNB⟩:∃ x,s3.is [118,111,105,100]=x:=⟨_,rfl⟩
    have Cy:Hid (zff s3=if NB then ([.node 13 [] 0 A []],s3.may [118,111,105,100]) else zhu (s3.n+1) [] (s3.may [118,111,105,100])):=by
     show _=_
     unfold zff
     rw [show s3.is zde=NB from hNB,HF.out.2.2.2.1]
     cases NB with
     | true=>rw [zdx hNB];rfl
     | false=>rw [zb4 hNB];rfl
    go_wp2_with fail
    refine (zch p g cap ts hE d [118,111,105,100] (by simp) s3 _ Ih.out).mono ?_
    rintro e w31 ⟨rfl,hD,hS⟩
    have Bu:=hid hS
    have Ck:=hid hD
    have De:=hid (Ij.out.trans Bu.out)
    have Bh:=hid (Ik.out.sole Ab.out.1 Bu.out)
    have Au:=hid (Eg.out.sole Ab.out.1 Bu.out)
    have Bi:=hid (zab.sole Il.out (by intro b hb;have hpg:=Ab.out.1;have hb2:=hb;first | (unfold zak at hb2;omega) | exact (by have h1:=hb.1;omega)) Bu.out)
    clear hD hS
    rw [hNB]
    have Ga:=hid (ds_n Ck.out)
    have Gb:Hid (B<=w31.heap.size):=by show _<=_;have h0:=Ii.out;have h1:=Bu.out.size;omega
    go_upto_if 51 with fail
    go_cut [8] (fun sl wc=>∃ (acc:List Tree) (N:Nat) (oq:Option Addr) (cq:Nat),sl=.slice oq N cq∧Hid (acc=if NB then [.node 13 [] 0 A []] else [])∧Hid (N<=1)∧Hid (DS wc p g cap ts d (s3.may [118,111,105,100]))∧Hid (B<=wc.heap.size)∧Hid (Sole p w wc)∧Hid (Kep w wc w.heap.size (kidO 0 [] 0 0 (.slice none 0 0)))∧Hid (Kep w wc Y (kidO rk rn rm ra (.slice ro rl rc)))∧Hid (zab (fun b=>w.heap.size+1<=b∧b≠Y∧b<B) wc rks (.slice ro rl rc))∧Hid (zab (zak B) wc acc (.slice oq N cq)))
    case first =>
     cases NB with
     | false =>
      go_wp2_with fail
      go_meet
      exact ⟨[],0,none,0,rfl,rfl,by show _<=_;omega,Ck,Gb,De,Bh,Au,Bi,zbe⟩
     | true =>
      obtain ⟨wq,hwq⟩:∃ x,w31.alloc (.cells #[.int .i64 13,.string ⟨#[]⟩,.int .i64 0,.int .i64 A,.slice none 0 0] 29)=x:=⟨_,rfl⟩
      have Dt:Hid (Below w31.heap.size w31 wq):=hidB hwq
      have Jb:=hid (Ck.out.below Dt.out)
      have Jc:=hid (De.out.trans (Sole.of_below Dt.out))
      have Jd:=hid (Bh.out.below Dt.out)
      have Gc:=hid (Au.out.below Dt.out)
      have Gd:=hid (zab.below Bi.out Dt.out)
      have Je:Hid (zab (zak B) wq [] (.slice none 0 0)):=zbe
      have Ff:Hid (wq.heap[w31.heap.size]?=some (kidO 13 [] 0 A (.slice none 0 0))):=by show _=_;rw [<- hwq];exact heap_alloc_new _ _
      have Fg:Hid (zae (fun b=>zak B b∧(Value.slice none 0 0).ownBlock≠some b) wq (.node 13 [] 0 A []) (kidV 13 [] 0 A (.slice none 0 0))):=leafAt
      have Cz:Hid (zak B wq.heap.size):=by show _<=_;exact Nat.le_trans Gb.out Dt.out.size
      go_wp2_with (at_builtin;refine zii _ rfl _ _ rfl (zak B) [] none 0 0 Je.out rfl (by decide) w31.heap.size 13 0 [] A [] none 0 0 rfl Ff.out Fg.out Cz.out ?_;intro g1 q1 x1 hA;have Bc:=hid hA;clear hA)
      go_meet
      have Cl:=hid (Bc.out.ds Jb.out Jc.out (fun q e=>by cases e) Ab.out.1 Ab.out.2)
      exact ⟨[.node 13 [] 0 A []],1,some ⟨g1,0,none⟩,q1,rfl,rfl,by show _<=_;omega,Cl.out.1,by show _<=_;exact Nat.le_trans Cz.out Bc.out.grow.size,Cl.out.2,za1 Jd.out Bc.out.grow (fun e=>by cases e),za1 Gc.out Bc.out.grow (fun e=>by cases e),zmo Gd.out Bc.out.grow (fun b hb e=>by cases e),Bc.out.list⟩
    case rest =>
     obtain ⟨acc0,N0,oq0,cq0,rfl,Eh,Ge,Df,Fh,Fi,Fj,Cm,Fk,Cn⟩:=hcut
     clear hNB HF Ga
     go_upto_block 0 with fail
     go_cut [8] (fun sl wc=>∃ (N:Nat) (oq:Option Addr) (cq:Nat),sl=.slice oq N cq∧Hid (N<=20000)∧Hid (DS wc p g cap ts d (zff s3).2)∧Hid (B<=wc.heap.size)∧Hid (Sole p w wc)∧Hid (Kep w wc w.heap.size (kidO 0 [] 0 0 (.slice none 0 0)))∧Hid (Kep w wc Y (kidO rk rn rm ra (.slice ro rl rc)))∧Hid (zab (fun b=>w.heap.size+1<=b∧b≠Y∧b<B) wc rks (.slice ro rl rc))∧Hid (zab (zak B) wc (zff s3).1 (.slice oq N cq)))
     case first =>
      have Ga:=hid (ds_n Df.out)
      obtain ⟨s4,hs4⟩:∃ x,s3.may [118,111,105,100]=x:=⟨_,rfl⟩
      have Jf:Hid (s4.n<=s3.n):=by show _<=_;rw [<- hs4];unfold RS.may;split;exact ze2 _;exact Nat.le_refl _
      rw [hs4] at Cy Df Ga
      clear hs4
      cases NB with
      | true =>
       rw [if_pos rfl] at Cy Eh
       obtain ⟨e3,e2⟩:=Df.out.e_cell
       obtain ⟨EE,hEE⟩:∃ x,s4.e=x:=⟨_,rfl⟩
       rw [hEE] at e3
       clear hEE
       have Ei:Hid (∃ (N:Nat) (oq:Option Addr) (cq:Nat),Value.slice oq0 N0 cq0=.slice oq N cq∧Hid (N<=20000)∧Hid (DS wc p g cap ts d (zff s3).2)∧Hid (B<=wc.heap.size)∧Hid (Sole p w wc)∧Hid (Kep w wc w.heap.size (kidO 0 [] 0 0 (.slice none 0 0)))∧Hid (Kep w wc Y (kidO rk rn rm ra (.slice ro rl rc)))∧Hid (zab (fun b=>w.heap.size+1<=b∧b≠Y∧b<B) wc rks (.slice ro rl rc))∧Hid (zab (zak B) wc (zff s3).1 (.slice oq N cq))):=by
        refine ⟨N0,oq0,cq0,rfl,by show _<=_;have:=Ge.out;omega,by show DS _ _ _ _ _ _ _;rw [Cy.out];exact Df.out,Fh,Fi,Fj,Cm,Fk,by show zab _ _ _ _;rw [Cy.out,<- Eh.out];exact Cn.out⟩
       go_wp2_with fail
       go_loopw [8] (fun sl wr=>sl=.slice oq0 N0 cq0∧wr=wc) (fun _ _=>0)
       case atStart => exact ⟨rfl,rfl⟩
       case round =>
        obtain ⟨rfl,rfl⟩:=hrel
        by_cases he:EE=0
        · subst he
          go_wp2
          go_meet
          exact Ei.out
        · have he2:(EE==0)=false:=by simp [he]
          go_wp2
          go_meet
          exact Ei.out
      | false =>
       rw [if_neg (by simp)] at Cy Eh
       obtain rfl:acc0=[]:=Eh.out
       go_wp2_with fail
       go_loopw [8] (fun sl wr=>∃ (acc:List Tree) (N:Nat) (oq:Option Addr) (cq:Nat) (st:RS) (f:Nat),sl=.slice oq N cq∧Hid (DS wr p g cap ts d st)∧Hid (B<=wr.heap.size)∧Hid (Sole p w wr)∧Hid (Kep w wr w.heap.size (kidO 0 [] 0 0 (.slice none 0 0)))∧Hid (Kep w wr Y (kidO rk rn rm ra (.slice ro rl rc)))∧Hid (zab (fun b=>w.heap.size+1<=b∧b≠Y∧b<B) wr rks (.slice ro rl rc))∧Hid (zab (zak B) wr acc (.slice oq N cq))∧Hid (zff s3=zhu f acc st)∧Hid (N+f=N0+s3.n+1∧(st.e=0->st.n<f))) (fun _ wr=>mu p ts.length wr)
       case atStart => exact ⟨[],N0,oq0,cq0,s4,s3.n+1,rfl,Df,Fh,Fi,Fj,Cm,Fk,Cn,Cy,⟨by omega,fun _=>by have:=Jf.out;omega⟩⟩
       case round =>
        clear Df Fi Fj Cm Fk Cn Fh Cy
        obtain ⟨acc,N,oq,cq,st,f,rfl,Ej,Gf,Gg,Cw,Ek,El,Gh,Fl,Fm⟩:=hrel
        have Im:Hid (mu p ts.length wr=muS st):=zd8 Ej.out
        have Jg:=hid (ds_n Ej.out)
        obtain ⟨e3,e2⟩:=Ej.out.e_cell
        obtain ⟨EE,hEE⟩:∃ x,st.e=x:=⟨_,rfl⟩
        have Co:=hid hEE
        rw [hEE] at e3
        clear hEE
        have Gi:Hid (N+f<=20000):=by show _<=_;have:=Fm.out.1;have:=Ge.out;have:=Ef.out;omega
        by_cases he:EE=0
        case neg =>
         have he2:(EE==0)=false:=by simp [he]
         have Cx:Hid (zff s3=(acc,st)):=Fl.out.trans (by rw [zji (by rw [Co.out];exact he) f acc])
         go_wp2
         go_meet
         exact ⟨N,oq,cq,rfl,by show _<=_;have:=Gi.out;omega,by show DS _ _ _ _ _ _ _;rw [Cx.out];exact Ej.out,Gf,Gg,Cw,Ek,El,by show zab _ _ _ _;rw [Cx.out];exact Gh.out⟩
        subst he
        obtain ⟨f,rfl⟩:∃ f' : Nat,f=f'+1:=⟨f-1,by have:=Fm.out.2 Co.out;omega⟩
        have Gj:Hid (N<=20000):=by show _<=_;have:=Gi.out;omega
        obtain ⟨tv,htv⟩:∃ x,(zed st).1=x:=⟨_,rfl⟩
        obtain ⟨sv,hsv⟩:∃ x,(zed st).2=x:=⟨_,rfl⟩
        have Ip:Hid ((zed st).1=tv∧(zed st).2=sv):=⟨htv,hsv⟩
        have Du:Hid (zhu (f+1) acc st=znv f (acc++[tv]) sv):=by
         show _=_
         rw [zhu,Co.out,<- htv,<- hsv];rfl
        have Iq:Hid (sv.n<=st.n):=by show _<=_;rw [<- hsv];exact znr st
        clear htv hsv
        go_wp2_with fail
        have Jh:=hid (Kep.lt Cw.out)
        have Ji:=hid (Sole.size Gg.out)
        refine (Cv.out st _ Ej.out).mono ?_
        rintro e w51 ⟨v,rfl,hv,hD,hS⟩
        have Bv:=hid hS
        have Em:=hid hD
        have Gk:=hid (Gg.out.trans Bv.out)
        have Dg:=hid (Cw.out.sole Ab.out.1 Bv.out)
        have Cp:=hid (Ek.out.sole Ab.out.1 Bv.out)
        have Cq:=hid (zab.sole El.out (by intro b hb;have hpg:=Ab.out.1;have hb2:=hb;first | (unfold zak at hb2;omega) | exact (by have h1:=hb.1;omega)) Bv.out)
        have Dh:=hid (zab.sole Gh.out (by intro b hb;have hpg:=Ab.out.1;have hb2:=hb;first | (unfold zak at hb2;omega) | exact (by have h1:B<=b:=hb;have h2:=Br.out;omega)) Bv.out)
        obtain ⟨k51,n51,m51,a51,ks51,o51,l51,c51,he51,rfl⟩:=zar hv
        have Di:=hid he51
        clear he51
        have En:=hid hv
        clear hv hD hS
        rw [Ip.out.1] at En Di
        rw [Ip.out.2] at Em
        obtain ⟨wb51,hwb⟩:∃ x,w51.alloc (.cells #[.int .i64 k51,.string ⟨n51.toArray⟩,.int .i64 m51,.int .i64 a51,.slice o51 l51 c51] 29)=x:=⟨_,rfl⟩
        have Cr:Hid (Below w51.heap.size w51 wb51):=hidB hwb
        have Dv:=hid (Em.out.below Cr.out)
        have Eo:=hid (Gk.out.trans (Sole.of_below Cr.out))
        have Ep:=hid (Dg.out.below Cr.out)
        have Ce:=hid (Cp.out.below Cr.out)
        have Cf:=hid (zab.below Cq.out Cr.out)
        have Dw:Hid (zab (zak B) wb51 acc (.slice oq N cq)):=zab.below Dh.out Cr.out
        have Ff:Hid (wb51.heap[w51.heap.size]?=some (kidO k51 n51 m51 a51 (.slice o51 l51 c51))):=by show _=_;rw [<- hwb];exact heap_alloc_new _ _
        have Dx:Hid (∀ q,(Value.slice oq N cq).ownBlock=some q->B<=q∧q<wr.heap.size):=fun q e=>by
         have h1:=zb0 Gh.out e
         exact ⟨h1.1,h1.2⟩
        have Fg:Hid (zae (fun b=>zak B b∧(Value.slice oq N cq).ownBlock≠some b) wb51 (.node k51 n51 m51 a51 ks51) (kidV k51 n51 m51 a51 (.slice o51 l51 c51))):=by
         have h1:=Gf.out
         have h4:zah wr.heap.size (.node k51 n51 m51 a51 ks51) w51 (kidV k51 n51 m51 a51 (.slice o51 l51 c51)):=by rw [<- Di.out];exact En.out
         refine (zae.below h4 Cr.out).weaken (fun b hb=>?_)
         have hb1:wr.heap.size<=b:=hb
         exact ⟨by unfold zak;omega,fun e=>by have:=Dx.out b e;omega⟩
        have Cz:Hid (zak B wb51.heap.size):=by show _<=_;exact Nat.le_trans Gf.out (Nat.le_trans Bv.out.size Cr.out.size)
        unfold kidV
        go_wp2_with (at_builtin;refine zii _ rfl _ _ rfl (zak B) acc oq N cq Dw.out rfl Gj.out w51.heap.size k51 m51 n51 a51 ks51 o51 l51 c51 rfl Ff.out Fg.out Cz.out ?_;intro g51 q51 x51 hA;have Bc:=hid hA;clear hA)
        have Cl:=hid (Bc.out.ds Dv.out Eo.out (fun q e=>by have:=(Dx.out q e).1;have:=Br.out;omega) Ab.out.1 Ab.out.2)
        have Da:=hid Cl.out.1
        have Er:=hid Cl.out.2
        have Es:=hid (za1 Ep.out Bc.out.grow (fun e=>by have:=(Dx.out _ e).1;have:=Br.out;omega))
        have Dj:=hid (za1 Ce.out Bc.out.grow (fun e=>by have:=(Dx.out _ e).1;have:=Br.out;omega))
        have Dk:=hid (zmo Cf.out Bc.out.grow (fun b hb e=>by have:=(Dx.out _ e).1;have:=hb.2.2;omega))
        have Cg:Hid (B<=x51.heap.size):=by show _<=_;exact Nat.le_trans Cz.out Bc.out.grow.size
        have Et:Hid (zab (zak B) x51 (acc++[.node k51 n51 m51 a51 ks51]) (.slice (some ⟨g51,0,none⟩) (N+1) q51)):=Bc.out.list
        clear hwb Cl Bc Dv Eo Ep Ce Cf Dw Ff Fg Cz Cr Dx
        refine (zea p g cap ts d [44] sv _ Da.out).mono ?_
        rintro e w52 ⟨rfl,hB⟩
        have Av:=hid hB
        have Dl:=hid (Da.out.below Av.out)
        have Dm:=hid (Er.out.trans (Sole.of_below Av.out))
        have Al:=hid (Es.out.below Av.out)
        have Ag:=hid (Dj.out.below Av.out)
        have Ah:=hid (zab.below Dk.out Av.out)
        have Af:=hid (zab.below Et.out Av.out)
        clear hB
        have Jj:Hid ((acc++[(Tree.node k51 n51 m51 a51 ks51)]).length=N+1):=zgb Af.out
        rw [Di.out] at Du
        unfold znv at Du
        rw [Jj.out] at Du
        cases hb1:sv.is [44] with
        | false =>
         have Cx:Hid (zff s3=(acc++[(Tree.node k51 n51 m51 a51 ks51)],sv)):=by show _=_;rw [Fl.out,Du.out,hb1];rfl
         clear hb1
         go_wp2
         go_meet
         exact ⟨N+1,some ⟨g51,0,none⟩,q51,rfl,by show _<=_;have:=Gi.out;omega,by show DS _ _ _ _ _ _ _;rw [Cx.out];exact Dl.out,by show _<=_;exact Nat.le_trans Cg.out Av.out.size,Dm,Al,Ag,Ah,by show zab _ _ _ _;rw [Cx.out];exact Af.out⟩
        | true =>
         by_cases h64:N+1=4
         case pos =>
          have j64:((N:Int)+1==4)=true:=by simp;omega
          have Gl:Hid (zff s3=zhu f (acc++[(Tree.node k51 n51 m51 a51 ks51)]) ((sv.fail 42).want [44])):=by
           show _=_
           rw [Fl.out,Du.out,hb1,h64];rfl
          have Eu:Hid (2*((sv.fail 42).want [44]).n+(if ((sv.fail 42).want [44]).e=0 then 1 else 0)<2*st.n+(if st.e=0 then 1 else 0)):=zcp (by simp) (by rw [zez];exact Iq.out) Co.out
          clear h64 hb1
          go_wp2_with fail
          refine (zbu p g cap ts d 42 sv _ Dl.out).mono ?_
          rintro e w53 ⟨rfl,hD,hS⟩
          have Bw:=hid hS
          have Gm:=hid hD
          have Gn:=hid (Dm.out.trans Bw.out)
          have Bd:=hid (Al.out.sole Ab.out.1 Bw.out)
          have Aw:=hid (Ag.out.sole Ab.out.1 Bw.out)
          have Ax:=hid (zab.sole Ah.out (by intro b hb;have hpg:=Ab.out.1;have hb2:=hb;first | (unfold zak at hb2;omega) | exact (by have h1:=hb.1;omega)) Bw.out)
          have Be:=hid (zab.sole Af.out (by intro b hb;have hpg:=Ab.out.1;have hb2:=hb;first | (unfold zak at hb2;omega) | exact (by have h1:B<=b:=hb;have h2:=Br.out;omega)) Bw.out)
          clear hD hS
          go_wp2_with fail
          refine (zan p g cap ts hE d [44] (by simp) (sv.fail 42) _ Gm.out).mono ?_
          rintro e w54 ⟨rfl,hD,hS⟩
          have Bx:=hid hS
          have Ev:=hid hD
          have Go:=hid (Gn.out.trans Bx.out)
          have Am:=hid (Bd.out.sole Ab.out.1 Bx.out)
          have Aj:=hid (Aw.out.sole Ab.out.1 Bx.out)
          have Ak:=hid (zab.sole Ax.out (by intro b hb;have hpg:=Ab.out.1;have hb2:=hb;first | (unfold zak at hb2;omega) | exact (by have h1:=hb.1;omega)) Bx.out)
          have An:=hid (zab.sole Be.out (by intro b hb;have hpg:=Ab.out.1;have hb2:=hb;first | (unfold zak at hb2;omega) | exact (by have h1:B<=b:=hb;have h2:=Br.out;omega)) Bx.out)
          clear hD hS
          go_wp2
          go_roundw
          case rel =>
           refine ⟨_,N+1,some ⟨g51,0,none⟩,q51,((sv.fail 42).want [44]),f,rfl,Ev,by show _<=_;exact Nat.le_trans Cg.out (Nat.le_trans Av.out.size (Nat.le_trans Bw.out.size Bx.out.size)),Go,Am,Aj,Ak,An,Gl,?_⟩
           have h1:=Fm.out
           have h5:=Eu.out
           rw [if_pos Co.out] at h5
           refine ⟨by omega,fun h0=>?_⟩
           have h3:=h1.2 Co.out
           rw [if_pos h0] at h5
           omega
          case measure =>
           rw [zd8 Ev.out,Im.out,zcc,zcc]
           exact Eu.out
         have j64:((N:Int)+1==4)=false:=by simp;omega
         have Gl:Hid (zff s3=zhu f (acc++[(Tree.node k51 n51 m51 a51 ks51)]) (sv.want [44])):=by
          show _=_
          rw [Fl.out,Du.out,hb1,show (N+1==4)=false by simp;omega];rfl
         have Eu:Hid (2*(sv.want [44]).n+(if (sv.want [44]).e=0 then 1 else 0)<2*st.n+(if st.e=0 then 1 else 0)):=zcp (by simp) Iq.out Co.out
         clear h64 hb1
         go_wp2_with fail
         refine (zan p g cap ts hE d [44] (by simp) sv _ Dl.out).mono ?_
         rintro e w55 ⟨rfl,hD,hS⟩
         have Bz:=hid hS
         have Ew:=hid hD
         have Gp:=hid (Dm.out.trans Bz.out)
         have Bf:=hid (Al.out.sole Ab.out.1 Bz.out)
         have Ay:=hid (Ag.out.sole Ab.out.1 Bz.out)
         have Az:=hid (zab.sole Ah.out (by intro b hb;have hpg:=Ab.out.1;have hb2:=hb;first | (unfold zak at hb2;omega) | exact (by have h1:=hb.1;omega)) Bz.out)
         have Bg:=hid (zab.sole Af.out (by intro b hb;have hpg:=Ab.out.1;have hb2:=hb;first | (unfold zak at hb2;omega) | exact (by have h1:B<=b:=hb;have h2:=Br.out;omega)) Bz.out)
         clear hD hS
         go_wp2
         go_roundw
         case rel =>
          refine ⟨_,N+1,some ⟨g51,0,none⟩,q51,(sv.want [44]),f,rfl,Ew,by show _<=_;exact Nat.le_trans Cg.out (Nat.le_trans Av.out.size Bz.out.size),Gp,Bf,Ay,Az,Bg,Gl,?_⟩
          have h1:=Fm.out
          have h5:=Eu.out
          rw [if_pos Co.out] at h5
          refine ⟨by omega,fun h0=>?_⟩
          have h3:=h1.2 Co.out
          rw [if_pos h0] at h5
          omega
         case measure =>
          rw [zd8 Ew.out,Im.out,zcc,zcc]
          exact Eu.out
     case rest =>
      obtain ⟨N,oq,cq,rfl,Gj,Dv,Ir,Eo,Ep,Ce,Cf,Dw⟩:=hcut
      obtain ⟨al,hal⟩:∃ x,(zff s3).1=x:=⟨_,rfl⟩
      obtain ⟨sa,hsa⟩:∃ x,(zff s3).2=x:=⟨_,rfl⟩
      rw [hal,hsa] at Fz
      rw [hal] at Dw
      rw [hsa] at Dv
      clear hal hsa Cy Eh Ge Df Fh Fi Fj Cm Fk Cn
      go_wp2_with fail
      refine (zan p g cap ts hE d [41] (by simp) sa _ Dv.out).mono ?_
      rintro e w71 ⟨rfl,hD,hS⟩
      have Bj:=hid hS
      have Ey:=hid hD
      have Ez:=hid (Eo.out.trans Bj.out)
      have Ch:=hid (Ep.out.sole Ab.out.1 Bj.out)
      have Bp:=hid (Ce.out.sole Ab.out.1 Bj.out)
      have Bq:=hid (zab.sole Cf.out (by intro b hb;have hpg:=Ab.out.1;have hb2:=hb;first | (unfold zak at hb2;omega) | exact (by have h1:=hb.1;omega)) Bj.out)
      have Ci:=hid (zab.sole Dw.out (by intro b hb;have hpg:=Ab.out.1;have hb2:=hb;first | (unfold zak at hb2;omega) | exact (by have h1:B<=b:=hb;have h2:=Br.out;omega)) Bj.out)
      clear hD hS
      go_wp2_with fail
      refine (zan p g cap ts hE d [61] (by simp) (sa.want [41]) _ Ey.out).mono ?_
      rintro e w72 ⟨rfl,hD,hS⟩
      have Bl:=hid hS
      have Dn:=hid hD
      have Dp:=hid (Ez.out.trans Bl.out)
      have Ad:=hid (Ch.out.sole Ab.out.1 Bl.out)
      have Aa:=hid (Bp.out.sole Ab.out.1 Bl.out)
      have Ae:=hid (zab.sole Bq.out (by intro b hb;have hpg:=Ab.out.1;have hb2:=hb;first | (unfold zak at hb2;omega) | exact (by have h1:=hb.1;omega)) Bl.out)
      have Ai:=hid (zab.sole Ci.out (by intro b hb;have hpg:=Ab.out.1;have hb2:=hb;first | (unfold zak at hb2;omega) | exact (by have h1:B<=b:=hb;have h2:=Br.out;omega)) Bl.out)
      clear hD hS
      obtain ⟨s5,hs5⟩:∃ x,(sa.want [41]).want [61]=x:=⟨_,rfl⟩
      have Gq:Hid (R=(zaw 12 (nt,na) ((zav true s5).1::(Tree.node rk rn rm ra rks)::al),(zav true s5).2.want [59])):=by show _=_;rw [Fz.out,<- hs5];rfl
      rw [hs5] at Dn
      clear hs5 Fz
      have Gr:Hid (B<=w72.heap.size):=by show _<=_;exact Nat.le_trans Ir.out (Nat.le_trans Bj.out.size Bl.out.size)
      have It:Hid (∀ m,Calls Tryz.prog 50 #[.pointer (some ⟨p,0,none⟩),.bool true] (w72.drewN m) (zdj p g cap ts d (zah w72.heap.size) (zav true s5) w72)):=fun m=>by
       have hB:Below w72.heap.size w72 (w72.drewN m):=zaj (Below.refl _ _) m
       exact (zcf p g cap ts hE d true s5 _ (Dn.out.below hB)).mono fun e w' hp=>zdj.of_below hB hp
      obtain ⟨⟨x0,x1,x2,x3,x4⟩,_⟩:=zaa Aa.out.1
      have Iu:Hid (∀ z m,Calls Tryz.prog 50 #[.pointer (some ⟨p,0,none⟩),.bool true] ((w72.alloc z).drewN m) (zdj p g cap ts d (zah (w72.heap.size+1)) (zav true s5) (w72.alloc z))):=fun z m=>by
       have hB:Below w72.heap.size w72 (w72.alloc z):=zac _ _
       have hC:Below (w72.alloc z).heap.size (w72.alloc z) ((w72.alloc z).drewN m):=zaj (Below.refl _ _) m
       refine (zcf p g cap ts hE d true s5 _ ((Dn.out.below hB).below hC)).mono fun e w' hp=>?_
       obtain ⟨v,h1,h2,h3,h4⟩:=zdj.of_below hC hp
       have h5:(w72.alloc z).heap.size=w72.heap.size+1:=by simp
       have h6:=hC.size
       exact ⟨v,h1,zkf h2 (by omega),h3,h4⟩
      have x0x:∀ x,(w72.alloc x).cell? ⟨Y,0,none⟩=_:=fun x=>(World.cell?_alloc_lt _ _ _ Aa.out.lt).trans x0
      have x1x:∀ x,(w72.alloc x).cell? ⟨Y,1,none⟩=_:=fun x=>(World.cell?_alloc_lt _ _ _ Aa.out.lt).trans x1
      have x2x:∀ x,(w72.alloc x).cell? ⟨Y,2,none⟩=_:=fun x=>(World.cell?_alloc_lt _ _ _ Aa.out.lt).trans x2
      have x3x:∀ x,(w72.alloc x).cell? ⟨Y,3,none⟩=_:=fun x=>(World.cell?_alloc_lt _ _ _ Aa.out.lt).trans x3
      have x4x:∀ x,(w72.alloc x).cell? ⟨Y,4,none⟩=_:=fun x=>(World.cell?_alloc_lt _ _ _ Aa.out.lt).trans x4
      clear Cv HR Gw Gx Fb Fc Cw Gy Gz Fs Dz Fd Ea Fe Bn Bo Ic Id Fx Fw Fy Ig Bs Ed Ca Cb Cc Dd Bt Ee Ap Aq Ar Cd Ef hi Ih Ii Ij Ik Eg Il Bu Ck De Bh Au Bi Gb Ir Eo Ep Ce Cf Dw Dv Bj Ey Ez Ch Bp Bq Ci Bl
      go_upto_region 22 with fail
      go_cut [11] (fun xv wc=>∃ (X q:Nat) (k:Int) (n:List UInt8) (m:Int) (a:Nat) (ks:List Tree),xv=.pointer (some ⟨X,0,none⟩)∧Hid ((zav true s5).1=.node k n m a ks)∧Hid (PEnd p g cap ts d (zav true s5).2 w wc X q nt na (.node k n m a ks) (Tree.node rk rn rm ra rks) al (.slice oq N cq)))
      case first =>
       go_region_law (first
        | (refine zbw rfl 50 #[.pointer (some ⟨p,0,none⟩),.bool true] (by go_simp) _ (It.out _) ?_
           rintro e w5 ⟨v,rfl,hv,hD,hS⟩
           refine ⟨_,rfl,?_⟩
           obtain ⟨k8,n8,m8,a8,ks8,o8,l8,c8,he8,rfl⟩:=zar hv
           have Fo:=hid hD
           have Jk:=hid hS
           have Cj:=hid he8
           have Fp:=hid hv
           have Ac:=hid (Aa.out.sole Ab.out.1 hS)
           obtain ⟨⟨v0,v1,v2,v3,v4⟩,_⟩:=zaa Ac.out.1
           have v0x:∀ x,(w5.alloc x).cell? ⟨Y,0,none⟩=_:=fun x=>(World.cell?_alloc_lt _ _ _ Ac.out.lt).trans v0
           have v0y:∀ x y,((w5.alloc x).alloc y).cell? ⟨Y,0,none⟩=_:=fun x y=>(World.cell?_alloc_lt _ _ _ (by have:=Ac.out.lt;simp;omega)).trans (v0x x)
           have v1x:∀ x,(w5.alloc x).cell? ⟨Y,1,none⟩=_:=fun x=>(World.cell?_alloc_lt _ _ _ Ac.out.lt).trans v1
           have v1y:∀ x y,((w5.alloc x).alloc y).cell? ⟨Y,1,none⟩=_:=fun x y=>(World.cell?_alloc_lt _ _ _ (by have:=Ac.out.lt;simp;omega)).trans (v1x x)
           have v2x:∀ x,(w5.alloc x).cell? ⟨Y,2,none⟩=_:=fun x=>(World.cell?_alloc_lt _ _ _ Ac.out.lt).trans v2
           have v2y:∀ x y,((w5.alloc x).alloc y).cell? ⟨Y,2,none⟩=_:=fun x y=>(World.cell?_alloc_lt _ _ _ (by have:=Ac.out.lt;simp;omega)).trans (v2x x)
           have v3x:∀ x,(w5.alloc x).cell? ⟨Y,3,none⟩=_:=fun x=>(World.cell?_alloc_lt _ _ _ Ac.out.lt).trans v3
           have v3y:∀ x y,((w5.alloc x).alloc y).cell? ⟨Y,3,none⟩=_:=fun x y=>(World.cell?_alloc_lt _ _ _ (by have:=Ac.out.lt;simp;omega)).trans (v3x x)
           have v4x:∀ x,(w5.alloc x).cell? ⟨Y,4,none⟩=_:=fun x=>(World.cell?_alloc_lt _ _ _ Ac.out.lt).trans v4
           have v4y:∀ x y,((w5.alloc x).alloc y).cell? ⟨Y,4,none⟩=_:=fun x y=>(World.cell?_alloc_lt _ _ _ (by have:=Ac.out.lt;simp;omega)).trans (v4x x)
           clear hv hD hS he8
           unfold kidV)
        | (refine zbw rfl 50 #[.pointer (some ⟨p,0,none⟩),.bool true] (by go_simp) _ (Iu.out _ _) ?_
           rintro e w5 ⟨v,rfl,hv,hD,hS⟩
           refine ⟨_,rfl,?_⟩
           obtain ⟨k8,n8,m8,a8,ks8,o8,l8,c8,he8,rfl⟩:=zar hv
           have Fo:=hid hD
           have Jl:=hid hS
           have Cj:=hid he8
           have Fp:=hid hv
           have Ac:=hid ((Aa.out.alloc _).sole Ab.out.1 hS)
           have Ao:=hid (Kep.sole (Kep.new (w:=w) (Nat.le_of_lt Ad.out.lt) _) Ab.out.1 hS)
           obtain ⟨⟨v0,v1,v2,v3,v4⟩,_⟩:=zaa Ac.out.1
           obtain ⟨⟨j0,j1,j2,j3,j4⟩,⟨g0,g1,g2,g3,g4⟩⟩:=zaa Ao.out.1
           have v0x:∀ x,(w5.alloc x).cell? ⟨Y,0,none⟩=_:=fun x=>(World.cell?_alloc_lt _ _ _ Ac.out.lt).trans v0
           have v0y:∀ x y,((w5.alloc x).alloc y).cell? ⟨Y,0,none⟩=_:=fun x y=>(World.cell?_alloc_lt _ _ _ (by have:=Ac.out.lt;simp;omega)).trans (v0x x)
           have v1x:∀ x,(w5.alloc x).cell? ⟨Y,1,none⟩=_:=fun x=>(World.cell?_alloc_lt _ _ _ Ac.out.lt).trans v1
           have v1y:∀ x y,((w5.alloc x).alloc y).cell? ⟨Y,1,none⟩=_:=fun x y=>(World.cell?_alloc_lt _ _ _ (by have:=Ac.out.lt;simp;omega)).trans (v1x x)
           have v2x:∀ x,(w5.alloc x).cell? ⟨Y,2,none⟩=_:=fun x=>(World.cell?_alloc_lt _ _ _ Ac.out.lt).trans v2
           have v2y:∀ x y,((w5.alloc x).alloc y).cell? ⟨Y,2,none⟩=_:=fun x y=>(World.cell?_alloc_lt _ _ _ (by have:=Ac.out.lt;simp;omega)).trans (v2x x)
           have v3x:∀ x,(w5.alloc x).cell? ⟨Y,3,none⟩=_:=fun x=>(World.cell?_alloc_lt _ _ _ Ac.out.lt).trans v3
           have v3y:∀ x y,((w5.alloc x).alloc y).cell? ⟨Y,3,none⟩=_:=fun x y=>(World.cell?_alloc_lt _ _ _ (by have:=Ac.out.lt;simp;omega)).trans (v3x x)
           have v4x:∀ x,(w5.alloc x).cell? ⟨Y,4,none⟩=_:=fun x=>(World.cell?_alloc_lt _ _ _ Ac.out.lt).trans v4
           have v4y:∀ x y,((w5.alloc x).alloc y).cell? ⟨Y,4,none⟩=_:=fun x y=>(World.cell?_alloc_lt _ _ _ (by have:=Ac.out.lt;simp;omega)).trans (v4x x)
           have j0x:∀ x,(w5.alloc x).cell? ⟨w72.heap.size,0,none⟩=_:=fun x=>(World.cell?_alloc_lt _ _ _ Ao.out.lt).trans j0
           have g0x:∀ x,(w5.alloc x).frozen? ⟨w72.heap.size,0,none⟩=_:=fun x=>(World.frozen?_alloc_old _ _ _ (Nat.ne_of_lt Ao.out.lt)).trans g0
           have j1x:∀ x,(w5.alloc x).cell? ⟨w72.heap.size,1,none⟩=_:=fun x=>(World.cell?_alloc_lt _ _ _ Ao.out.lt).trans j1
           have g1x:∀ x,(w5.alloc x).frozen? ⟨w72.heap.size,1,none⟩=_:=fun x=>(World.frozen?_alloc_old _ _ _ (Nat.ne_of_lt Ao.out.lt)).trans g1
           have j2x:∀ x,(w5.alloc x).cell? ⟨w72.heap.size,2,none⟩=_:=fun x=>(World.cell?_alloc_lt _ _ _ Ao.out.lt).trans j2
           have g2x:∀ x,(w5.alloc x).frozen? ⟨w72.heap.size,2,none⟩=_:=fun x=>(World.frozen?_alloc_old _ _ _ (Nat.ne_of_lt Ao.out.lt)).trans g2
           have j3x:∀ x,(w5.alloc x).cell? ⟨w72.heap.size,3,none⟩=_:=fun x=>(World.cell?_alloc_lt _ _ _ Ao.out.lt).trans j3
           have g3x:∀ x,(w5.alloc x).frozen? ⟨w72.heap.size,3,none⟩=_:=fun x=>(World.frozen?_alloc_old _ _ _ (Nat.ne_of_lt Ao.out.lt)).trans g3
           have j4x:∀ x,(w5.alloc x).cell? ⟨w72.heap.size,4,none⟩=_:=fun x=>(World.cell?_alloc_lt _ _ _ Ao.out.lt).trans j4
           have g4x:∀ x,(w5.alloc x).frozen? ⟨w72.heap.size,4,none⟩=_:=fun x=>(World.frozen?_alloc_old _ _ _ (Nat.ne_of_lt Ao.out.lt)).trans g4
           clear hv hD hS he8
           unfold kidV))
       all_goals (
        go_wp2_with fail
        go_meet
        first
        | (have hx:=Jk.out
           first
           | exact ⟨w5.heap.size+1,w5.heap.size,k8,n8,m8,a8,ks8,rfl,Cj,proc_f3 Ab.out Gr.out Br.out Dp.out Ad.out Ae.out Ai.out Fo.out hx (by rw [<- Cj.out];exact Fp.out)⟩
           | exact ⟨w5.heap.size,w5.heap.size+1,k8,n8,m8,a8,ks8,rfl,Cj,proc_f2 Ab.out Gr.out Br.out Dp.out Ad.out Ae.out Ai.out Fo.out hx (by rw [<- Cj.out];exact Fp.out)⟩)
        | exact ⟨w72.heap.size,w5.heap.size,k8,n8,m8,a8,ks8,rfl,Cj,proc_f1 Ab.out Gr.out Br.out Dp.out Ad.out Ae.out Ai.out Fo.out Jl.out (by rw [<- Cj.out];exact Fp.out)⟩)
      case rest =>
       obtain ⟨X,q,k8,n8,m8,a8,ks8,rfl,Cj,Cs⟩:=hcut
       have Fa:=hid Cs.out.lt
       have Iv:=hid Cs.out.ds
       have Jm:=hid Cs.out.so
       have Cw:=hid Cs.out.kr
       have Iw:=hid Cs.out.kx
       have Jn:=hid Cs.out.two
       have Jo:=hid Cs.out.more
       have Cz:=hid Cs.out.sz
       clear Cs
       clear x0 x1 x2 x3 x4 x0x x1x x2x x3x x4x
       obtain ⟨vv,hvv⟩:∃ x,zav true s5=x:=⟨_,rfl⟩
       rw [hvv] at Gq Iv Cj
       clear hvv It Iu
       rw [Cj.out] at Gq
       obtain ⟨⟨x0,x1,x2,x3,x4⟩,_⟩:=zaa Iw.out.1
       have hn5:¬ w.heap.size=X:=by have:=Fa.out.1;omega
       have hn6:¬ X=w.heap.size:=by omega
       go_wp2_with (at_builtin;refine zkc _ rfl _ _ rfl (fun b=>w.heap.size+1<=b∧b≠X) [.node k8 n8 m8 a8 ks8,(Tree.node rk rn rm ra rks)] al q 2 2 Jn.out rfl (by decide) oq N cq Jo.out rfl Gj.out Cz.out ?_;intro gq cq2 w6 hA;have Bc:=hid hA;have Dq:=hid (za1 Iw.out hA.grow (fun e=>by have h1:=Option.some.inj e;have h2:=Fa.out.2.2;dsimp at h1;omega));have Gs:=hid (za1 Cw.out hA.grow (fun e=>by have h1:=Option.some.inj e;have h2:=Fa.out.2.1;dsimp at h1;omega));obtain ⟨⟨j0,j1,j2,j3,j4⟩,⟨g0,g1,g2,g3,g4⟩⟩:=zaa Dq.out.1;clear hA x0 x1 x2 x3 x4)
       have Cl:=hid (Bc.out.ds Iv.out Jm.out (by have:=Fa.out.2.1;omega) Ab.out.1 Ab.out.2)
       have Dr:Hid (Kep w (w6.setCell ⟨X,4,none⟩ (.slice (some ⟨gq,0,none⟩) (2+N) cq2)) w.heap.size (kidO 0 [] 0 0 (.slice none 0 0))∧DS (w6.setCell ⟨X,4,none⟩ (.slice (some ⟨gq,0,none⟩) (2+N) cq2)) p g cap ts d vv.2∧Sole p w (w6.setCell ⟨X,4,none⟩ (.slice (some ⟨gq,0,none⟩) (2+N) cq2))∧Kep w (w6.setCell ⟨X,4,none⟩ (.slice (some ⟨gq,0,none⟩) (2+N) cq2)) X (kidO 12 nt 0 na (.slice (some ⟨gq,0,none⟩) (2+N) cq2))∧zab (fun b=>w.heap.size+1<=b) (w6.setCell ⟨X,4,none⟩ (.slice (some ⟨gq,0,none⟩) (2+N) cq2)) ([.node k8 n8 m8 a8 ks8,(Tree.node rk rn rm ra rks)]++al) (.slice (some ⟨gq,0,none⟩) (2+N) cq2)):=by
        have h1:=Fa.out
        have h2:=Ab.out
        exact ⟨zci Gs.out (by omega) _ _,Cl.out.1.set (by omega) (by omega) _ _,Sole.set Cl.out.2 (by omega) _ _,⟨zai Dq.out.1,Dq.out.2⟩,(zab.but Bc.out.list (fun b hb=>hb.2) (fun b hb=>Below.heap_setCell _ _ _ _ hb)).weaken (fun b hb=>hb.1)⟩
       generalize w6.setCell ⟨X,4,none⟩ (.slice (some ⟨gq,0,none⟩) (2+N) cq2)=w7 at Dr ⊢
       have Jp:=hid Dr.out.1
       have Jq:=hid Dr.out.2.1
       have Jr:=hid Dr.out.2.2.1
       have Gt:=hid Dr.out.2.2.2.1
       have Js:=hid Dr.out.2.2.2.2
       clear Dr j0 j1 j2 j3 j4 g0 g1 g2 g3 g4
       refine (zan p g cap ts hE d [59] (by simp) vv.2 _ Jq.out).mono ?_
       rintro e w81 ⟨rfl,hD,hS⟩
       have Ct:=hid hS
       have Gu:=hid hD
       have Gv:=hid (Jr.out.trans Ct.out)
       have Bm:=hid (Jp.out.sole Ab.out.1 Ct.out)
       have Cu:=hid (Gt.out.sole Ab.out.1 Ct.out)
       have Ds:=hid (zab.sole Js.out (by intro b hb;have hpg:=Ab.out.1;have hb2:=hb;first | (unfold zak at hb2;omega) | exact (by have h1:w.heap.size+1<=b:=hb;omega)) Ct.out)
       clear hD hS
       obtain ⟨⟨x0,x1,x2,x3,x4⟩,_⟩:=zaa Cu.out.1
       obtain ⟨⟨z0,z1,z2,z3,z4⟩,⟨y0,y1,y2,y3,y4⟩⟩:=zaa Bm.out.1
       go_wp2
       refine ret5 z0 z1 z2 z3 z4 rfl (fun u q0 q1 q2 q3 q4=>by simp [results,Tryz.results126,go_sem,q0,q1,q2,q3,q4]) Bm.out.2 Gv.out ?_
       intro wz hf
       rw [Gq.out]
       have hr2:=Bm.out.2
       have hpg:=Ab.out
       exact ⟨_,rfl,za4 Ds.out (fun b h=>Nat.le_trans (Nat.le_succ _) h) (fun b h=>by have h1:w.heap.size+1<=b:=h;omega) hf.2,Gu.out.but (by omega) (by omega) hf.2,hf.1⟩
set_option maxHeartbeats 2000000 in
set_option maxRecDepth 4000 in
theorem program_any (p g cap:Nat) (ts:List Tok) (hE:Ends ts) (d:Int) (hV:zge p g cap ts d 87 zc4):zge p g cap ts d 52 zew:=by
 intro s w h
 have Ef:=hid hV
 clear hV
 have Ae:Hid (p<w.heap.size∧g<w.heap.size):=⟨h.plt,h.glt⟩
 obtain ⟨R,hR⟩:∃ R,zew s=R:=⟨_,rfl⟩
 rw [hR]
 have HR:Hid (R=zew s):=hR.symm
 obtain ⟨wa,hwa⟩:∃ x,w.alloc (.cells #[.int .i64 0,.string ⟨#[]⟩,.int .i64 0,.int .i64 0,.slice none 0 0] 29)=x:=⟨_,rfl⟩
 have HB:Hid (Below w.heap.size w wa):=hidB hwa
 have HK:Hid (Kep w wa w.heap.size (kidO 0 [] 0 0 (.slice none 0 0))):=by show Kep _ _ _ _;rw [<- hwa];exact Kep.new (Nat.le_refl _) _
 have HD:Hid (DS wa p g cap ts d s):=h.below HB.out
 clear h hR
 have HS:Hid (Sole p w wa):=Sole.of_below HB.out
 go_enter Tryz.func52,Tryz.ntmps52
 go_wp2_with fail
 clear hwa
 refine (zcm p g cap ts hE d s _ HD.out).mono ?_
 rintro e w1 ⟨v,rfl,rfl,hD,hS⟩
 have Du:=hid hS
 have Dv:=hid hD
 have Eg:=hid (HS.out.trans Du.out)
 have Cy:=hid (HK.out.sole Ae.out.1 Du.out)
 clear hD hS
 obtain ⟨nm,hnm⟩:∃ x,(zaz s).1=x:=⟨_,rfl⟩
 obtain ⟨sn,hsn⟩:∃ x,(zaz s).2=x:=⟨_,rfl⟩
 have Eh:Hid (R=numE 10 zbk nm (sn.want [123])):=by
  show _=_
  rw [HR.out,<- hnm,<- hsn];rfl
 rw [hnm]
 rw [hsn] at Dv
 clear hnm hsn
 obtain ⟨nt,na⟩:=nm
 go_wp2_with fail
 refine (zan p g cap ts hE d [123] (by simp) sn _ Dv.out).mono ?_
 rintro e w2 ⟨rfl,hD,hS⟩
 have Dw:=hid hS
 have Cu:=hid hD
 have Ei:=hid (Eg.out.trans Dw.out)
 have Aq:=hid (Cy.out.sole Ae.out.1 Dw.out)
 clear hD hS
 obtain ⟨s1,hs1⟩:∃ x,sn.want [123]=x:=⟨_,rfl⟩
 have Dx:Hid (R=numC 10 (nt,na) (zbk (s1.n+1) [] s1)):=by
  show _=_
  rw [Eh.out,hs1];rfl
 rw [hs1] at Cu
 clear hs1
 have Bc:=hid (ds_n Cu.out)
 go_wp2_with fail
 go_loopw [5] (fun sl wr=>∃ (acc:List Tree) (N:Nat) (oq:Option Addr) (cq:Nat) (st:RS) (f:Nat),sl=.slice oq N cq∧Hid (DS wr p g cap ts d st)∧Hid (Sole p w wr)∧Hid (Kep w wr w.heap.size (kidO 0 [] 0 0 (.slice none 0 0)))∧Hid (zab (zak (w.heap.size+1)) wr acc (.slice oq N cq))∧Hid (R=numC 10 (nt,na) (zbk f acc st))∧Hid (N+f=s1.n+1∧(st.e=0->st.n<f))) (fun _ wr=>mu p ts.length wr)
 case atStart => exact ⟨[],0,none,0,s1,s1.n+1,rfl,Cu,Ei,Aq,zbe,Dx,⟨by omega,fun _=>by omega⟩⟩
 case round =>
  clear Cu Aq Dx
  obtain ⟨acc,N,oq,cq,st,f,rfl,Cv,Cz,Da,Db,Dc,Bd⟩:=hrel
  have Dd:Hid (mu p ts.length wr=muS st):=zd8 Cv.out
  obtain ⟨e3,e2⟩:=Cv.out.e_cell
  obtain ⟨EE,hEE⟩:∃ x,st.e=x:=⟨_,rfl⟩
  have Ay:=hid hEE
  rw [hEE] at e3
  clear hEE
  by_cases he:EE=0
  case neg =>
   have he2:(EE==0)=false:=by simp [he]
   have Ej:Hid (R=numC 10 (nt,na) (acc,st)):=Dc.out.trans (by rw [zhw (by rw [Ay.out];exact he) f acc])
   have Be:Hid (N<=20000):=by show _<=_;have:=Bd.out.1;have:=Bc.out;omega
   go_wp2_with fail
   refine (zan p g cap ts hE d [61] (by simp) st _ Cv.out).mono ?_
   rintro e w41 ⟨rfl,hD,hS⟩
   have Bf:=hid hS
   have De:=hid hD
   have Cc:=hid (Cz.out.trans Bf.out)
   have Ar:=hid (Da.out.sole Ae.out.1 Bf.out)
   have Bg:=hid (zab.sole Db.out (by intro b hb;have hpg:=Ae.out.1;have hb2:=hb;first | (unfold zak at hb2;omega) | exact (Bx.out b hb)) Bf.out)
   clear hD hS
   go_wp2_with fail
   have Df:=hid (Kep.lt Ar.out)
   have Ek:=hid (Sole.size Cc.out)
   refine (zcf p g cap ts hE d true (st.want [61]) _ De.out).mono ?_
   rintro e w42 ⟨v,rfl,hv,hD,hS⟩
   have Bh:=hid hS
   have Cd:=hid hD
   have Dg:=hid (Cc.out.trans Bh.out)
   have Aj:=hid (Ar.out.sole Ae.out.1 Bh.out)
   have Ao:=hid (zab.sole Bg.out (by intro b hb;have hpg:=Ae.out.1;have hb2:=hb;first | (unfold zak at hb2;omega) | exact (Bx.out b hb)) Bh.out)
   obtain ⟨k42,n42,m42,a42,ks42,o42,l42,c42,he42,rfl⟩:=zar hv
   have Bi:=hid he42
   clear he42
   have Ce:=hid hv
   clear hv hD hS
   obtain ⟨vv,hvv⟩:∃ x,zav true (st.want [61])=x:=⟨_,rfl⟩
   have Cf:Hid (R=(zaw 10 (nt,na) (vv.1::acc),vv.2)):=by show _=_;rw [Ej.out,<- hvv];rfl
   rw [hvv] at Cd Bi Ce
   clear hvv
   obtain ⟨wq,hwq⟩:∃ x,w42.alloc (.cells #[.int .i64 k42,.string ⟨n42.toArray⟩,.int .i64 m42,.int .i64 a42,.slice o42 l42 c42] 29)=x:=⟨_,rfl⟩
   obtain ⟨wx,hwx⟩:∃ x,wq.alloc (.cells #[.int .i64 10,.string ⟨nt.toArray⟩,.int .i64 0,.int .i64 na,.slice (some ⟨w42.heap.size,0,none⟩) 1 1] 29)=x:=⟨_,rfl⟩
   have Bj:Hid (wq.heap.size=w42.heap.size+1∧wx.heap.size=w42.heap.size+2):=⟨by rw [<- hwq];simp,by rw [<- hwx,<- hwq];simp⟩
   have hzq:=Bj.out.1
   have Au:Hid (Below w42.heap.size w42 wx):=by show Below _ _ _;rw [<- hwx,<- hwq];exact (zac _ _).alloc (by simp) _
   have Am:Hid (w.heap.size<w42.heap.size):=Aj.out.lt
   have Cg:Hid (Kep w wx (w42.heap.size+1) (kidO 10 nt 0 na (.slice (some ⟨w42.heap.size,0,none⟩) 1 1))):=⟨by have h1:=heap_alloc_new wq (.cells #[.int .i64 10,.string ⟨nt.toArray⟩,.int .i64 0,.int .i64 na,.slice (some ⟨w42.heap.size,0,none⟩) 1 1] 29);rw [hwx,Bj.out.1] at h1;exact h1,by have:=Am.out;omega⟩
   have Dh:=hid (Aj.out.below Au.out)
   have Di:=hid (Cd.out.below Au.out)
   have Dj:=hid (Dg.out.trans (Sole.of_below Au.out))
   have Dk:Hid (zab (fun b=>w.heap.size+1<=b∧b≠w42.heap.size+1) wx [(Tree.node k42 n42 m42 a42 ks42)] (.slice (some ⟨w42.heap.size,0,none⟩) 1 1)):=by
    have h1:=Df.out
    have h2:=Am.out
    have h4:zah w41.heap.size (Tree.node k42 n42 m42 a42 ks42) w42 (kidV k42 n42 m42 a42 (.slice o42 l42 c42)):=by rw [<- Bi.out];exact Ce.out
    refine zbh (ks:=[(Tree.node k42 n42 m42 a42 ks42)]) (q:=w42.heap.size) (by rw [<- hwx];exact za9 (by rw [<- hwq];exact heap_alloc_new _ _)) (by simp) ⟨by omega,by omega⟩ (za3 ((zae.below (zae.there _ _ h4) Au.out).weaken (fun b hb=>?_)))
    have hb1:w41.heap.size<=b:=hb.1
    have hb2:=hb.2
    exact ⟨⟨by omega,by omega⟩,by omega⟩
   have Dl:Hid (zab (fun b=>(fun b=>w.heap.size+1<=b∧b≠w42.heap.size+1) b∧b≠w42.heap.size) wx acc (.slice oq N cq)):=(zab.below (zcs Ao.out) Au.out).weaken (fun b hb=>by
    have hb1:w.heap.size+1<=b:=hb.1
    have hb2:=hb.2
    exact ⟨⟨hb1,by omega⟩,by omega⟩)
   have Bz:Hid ((fun b=>w.heap.size+1<=b∧b≠w42.heap.size+1) wx.heap.size):=by
    have h1:=Bj.out
    have h2:=Am.out
    exact ⟨by omega,by omega⟩
   rw [Bi.out] at Cf
   obtain ⟨⟨x0,x1,x2,x3,x4⟩,_⟩:=zaa Cg.out.1
   have hn5:¬ w.heap.size=w42.heap.size+1:=by have:=Am.out;omega
   have hn6:¬ w42.heap.size+1=w.heap.size:=by omega
   unfold kidV
   go_wp2_with (at_builtin;refine zkc _ rfl _ _ rfl (fun b=>w.heap.size+1<=b∧b≠w42.heap.size+1) [(Tree.node k42 n42 m42 a42 ks42)] acc w42.heap.size 1 1 Dk.out rfl (by decide) oq N cq Dl.out rfl Be.out Bz.out ?_;intro gq cq2 w6 hA;have Az:=hid hA;have An:=hid (za1 Cg.out hA.grow (fun e=>by have:=Option.some.inj e;dsimp at this;omega));have Av:=hid (za1 Dh.out hA.grow (fun e=>by have h1:=Option.some.inj e;have h2:=Am.out;dsimp at h1;omega));obtain ⟨⟨j0,j1,j2,j3,j4⟩,⟨g0,g1,g2,g3,g4⟩⟩:=zaa An.out.1;obtain ⟨⟨z0,z1,z2,z3,z4⟩,⟨y0,y1,y2,y3,y4⟩⟩:=zaa Av.out.1;clear hA x0 x1 x2 x3 x4 hwx hwq)
   have Ba:=hid (Az.out.ds Di.out Dj.out (by have:=Am.out;omega) Ae.out.1 Ae.out.2)
   have Aw:Hid (Kep w (w6.setCell ⟨w42.heap.size+1,4,none⟩ (.slice (some ⟨gq,0,none⟩) (1+N) cq2)) w.heap.size (kidO 0 [] 0 0 (.slice none 0 0))∧DS (w6.setCell ⟨w42.heap.size+1,4,none⟩ (.slice (some ⟨gq,0,none⟩) (1+N) cq2)) p g cap ts d vv.2∧Sole p w (w6.setCell ⟨w42.heap.size+1,4,none⟩ (.slice (some ⟨gq,0,none⟩) (1+N) cq2))∧Kep w (w6.setCell ⟨w42.heap.size+1,4,none⟩ (.slice (some ⟨gq,0,none⟩) (1+N) cq2)) (w42.heap.size+1) (kidO 10 nt 0 na (.slice (some ⟨gq,0,none⟩) (1+N) cq2))∧zab (fun b=>w.heap.size+1<=b) (w6.setCell ⟨w42.heap.size+1,4,none⟩ (.slice (some ⟨gq,0,none⟩) (1+N) cq2)) ([(Tree.node k42 n42 m42 a42 ks42)]++acc) (.slice (some ⟨gq,0,none⟩) (1+N) cq2)):=by
    have h1:=Am.out
    have h2:=Ae.out
    exact ⟨zci Av.out (by omega) _ _,Ba.out.1.set (by omega) (by omega) _ _,Sole.set Ba.out.2 (by omega) _ _,⟨zai An.out.1,An.out.2⟩,(zab.but Az.out.list (fun b hb=>hb.2) (fun b hb=>Below.heap_setCell _ _ _ _ hb)).weaken (fun b hb=>hb.1)⟩
   obtain ⟨w9,hw9⟩:∃ x,w6.setCell ⟨w42.heap.size+1,4,none⟩ (.slice (some ⟨gq,0,none⟩) (1+N) cq2)=x:=⟨_,rfl⟩
   rw [hw9]
   have Bl:Hid (Kep w w9 w.heap.size (kidO 0 [] 0 0 (.slice none 0 0))∧DS w9 p g cap ts d vv.2∧Sole p w w9):=by
    show _∧_
    rw [<- hw9]
    exact ⟨Aw.out.1,Aw.out.2.1,Aw.out.2.2.1⟩
   rw [hw9] at Aw
   clear hw9 z0 z1 z2 z3 z4 y0 y1 y2 y3 y4
   obtain ⟨⟨z0,z1,z2,z3,z4⟩,⟨y0,y1,y2,y3,y4⟩⟩:=zaa Bl.out.1.1
   refine ret5 z0 z1 z2 z3 z4 rfl (fun u q0 q1 q2 q3 q4=>by simp [results,Tryz.results52,go_sem,q0,q1,q2,q3,q4]) (Nat.le_refl _) Bl.out.2.2 ?_
   intro wz hf
   rw [Cf.out]
   have hpg:=Ae.out
   exact ⟨_,rfl,za4 Aw.out.2.2.2.2 (fun b h=>Nat.le_trans (Nat.le_succ _) h) (fun b h=>by have h1:w.heap.size+1<=b:=h;omega) hf.2,Bl.out.2.1.but hpg.1 hpg.2 hf.2,hf.1⟩
  subst he
  obtain ⟨f,rfl⟩:∃ f' : Nat,f=f'+1:=⟨f-1,by have:=Bd.out.2 Ay.out;omega⟩
  have Be:Hid (N<=20000):=by show _<=_;have:=Bd.out.1;have:=Bc.out;omega
  obtain ⟨tv,htv⟩:∃ x,(zc4 st).1=x:=⟨_,rfl⟩
  obtain ⟨sv,hsv⟩:∃ x,(zc4 st).2=x:=⟨_,rfl⟩
  have Dy:Hid ((zc4 st).1=tv∧(zc4 st).2=sv):=⟨htv,hsv⟩
  have Ch:Hid (zbk (f+1) acc st=partT zbk versM f (acc++[tv]) sv):=by
   show _=_
   rw [zbk,Ay.out,<- htv,<- hsv];rfl
  have Ca:Hid (2*sv.n+(if sv.e=0 then 1 else 0)<2*st.n+(if st.e=0 then 1 else 0)):=by
   show _<_
   rw [<- hsv]
   exact zcp (by simp) (Nat.le_trans (zfx _ _) (Nat.le_trans (za7 _ _) (Nat.le_trans (zne _ _ _) (Nat.le_trans (za7 _ _) (Nat.le_trans (zfh _) (za7 _ _)))))) Ay.out
  clear htv hsv
  go_wp2_with fail
  have Dm:=hid (Kep.lt Da.out)
  have El:=hid (Sole.size Cz.out)
  refine (Ef.out st _ Cv.out).mono ?_
  rintro e w61 ⟨v,rfl,hv,hD,hS⟩
  have Bm:=hid hS
  have Ci:=hid hD
  have Dn:=hid (Cz.out.trans Bm.out)
  have Bn:=hid (Da.out.sole Ae.out.1 Bm.out)
  have Bo:=hid (zab.sole Db.out (by intro b hb;have hpg:=Ae.out.1;have hb2:=hb;first | (unfold zak at hb2;omega) | exact (Bx.out b hb)) Bm.out)
  obtain ⟨k61,n61,m61,a61,ks61,o61,l61,c61,he61,rfl⟩:=zar hv
  have Bp:=hid he61
  clear he61
  have Cj:=hid hv
  clear hv hD hS
  rw [Dy.out.1] at Cj Bp
  rw [Dy.out.2] at Ci
  obtain ⟨wb61,hwb⟩:∃ x,w61.alloc (.cells #[.int .i64 k61,.string ⟨n61.toArray⟩,.int .i64 m61,.int .i64 a61,.slice o61 l61 c61] 29)=x:=⟨_,rfl⟩
  have Cb:Hid (Below w61.heap.size w61 wb61):=hidB hwb
  have Dz:=hid (Ci.out.below Cb.out)
  have Ea:=hid (Dn.out.trans (Sole.of_below Cb.out))
  have Dp:=hid (Bn.out.below Cb.out)
  have Eb:Hid (zab (zak (w.heap.size+1)) wb61 acc (.slice oq N cq)):=zab.below Bo.out Cb.out
  have Ec:Hid (wb61.heap[w61.heap.size]?=some (kidO k61 n61 m61 a61 (.slice o61 l61 c61))):=by show _=_;rw [<- hwb];exact heap_alloc_new _ _
  have Cw:Hid (∀ q,(Value.slice oq N cq).ownBlock=some q->w.heap.size+1<=q∧q<wr.heap.size):=fun q e=>by
   have h1:=zb0 Db.out e
   exact ⟨h1.1,h1.2⟩
  have Ed:Hid (zae (fun b=>(zak (w.heap.size+1)) b∧(Value.slice oq N cq).ownBlock≠some b) wb61 (.node k61 n61 m61 a61 ks61) (kidV k61 n61 m61 a61 (.slice o61 l61 c61))):=by
   have h1:=Dm.out
   have h4:zah wr.heap.size (.node k61 n61 m61 a61 ks61) w61 (kidV k61 n61 m61 a61 (.slice o61 l61 c61)):=by rw [<- Bp.out];exact Cj.out
   refine (zae.below h4 Cb.out).weaken (fun b hb=>?_)
   have hb1:wr.heap.size<=b:=hb
   exact ⟨by unfold zak;omega,fun e=>by have:=Cw.out b e;omega⟩
  have Bz:Hid ((zak (w.heap.size+1)) wb61.heap.size):=by show _<=_;exact Dp.out.lt
  unfold kidV
  go_wp2_with (at_builtin;refine zii _ rfl _ _ rfl (zak (w.heap.size+1)) acc oq N cq Eb.out rfl Be.out w61.heap.size k61 m61 n61 a61 ks61 o61 l61 c61 rfl Ec.out Ed.out Bz.out ?_;intro g61 q61 x61 hA;have Az:=hid hA;clear hA)
  have Ba:=hid (Az.out.ds Dz.out Ea.out (fun q e=>by have:=(Cw.out q e).1;omega) Ae.out.1 Ae.out.2)
  have Ck:=hid Ba.out.1
  have Cl:=hid Ba.out.2
  have Cm:=hid (za1 Dp.out Az.out.grow (fun e=>by have:=(Cw.out _ e).1;omega))
  have Cn:Hid (zab (zak (w.heap.size+1)) x61 (acc++[.node k61 n61 m61 a61 ks61]) (.slice (some ⟨g61,0,none⟩) (N+1) q61)):=Az.out.list
  clear hwb Ba Az Dz Ea Dp Eb Ec Ed Bz Cb Cw
  refine (zch p g cap ts hE d [125] (by simp) sv _ Ck.out).mono ?_
  rintro e w62 ⟨rfl,hD,hS⟩
  have Bq:=hid hS
  have Ap:=hid hD
  have Co:=hid (Cl.out.trans Bq.out)
  have Ak:=hid (Cm.out.sole Ae.out.1 Bq.out)
  have Aa:=hid (zab.sole Cn.out (by intro b hb;have hpg:=Ae.out.1;have hb2:=hb;first | (unfold zak at hb2;omega) | exact (Bx.out b hb)) Bq.out)
  clear hD hS
  have Ee:Hid ((acc++[(Tree.node k61 n61 m61 a61 ks61)]).length=N+1):=zgb Aa.out
  rw [Bp.out] at Ch
  unfold partT at Ch
  rw [Ee.out] at Ch
  cases hb1:sv.is [125] with
  | true =>
   rw [zdx hb1] at Ap
   have Br:Hid (R=numC 10 (nt,na) (acc++[(Tree.node k61 n61 m61 a61 ks61)],sv.adv)):=by
    show _=_
    rw [Dc.out,Ch.out,hb1];rfl
   clear hb1 Be
   have Be:Hid (N+1<=20000):=by show _<=_;have:=Bd.out.1;have:=Bc.out;omega
   obtain ⟨acc2,hac⟩:∃ x,acc++[(Tree.node k61 n61 m61 a61 ks61)]=x:=⟨_,rfl⟩
   obtain ⟨N2,hN2⟩:∃ x,N+1=x:=⟨_,rfl⟩
   obtain ⟨sx,hsx⟩:∃ x,sv.adv=x:=⟨_,rfl⟩
   rw [hac] at Br Aa
   rw [hN2] at Be Aa
   rw [hsx] at Br Ap
   rw [hN2]
   clear hac hN2 Ee hsx
   go_wp2_with fail
   refine (zan p g cap ts hE d [61] (by simp) sx _ Ap.out).mono ?_
   rintro e w63 ⟨rfl,hD,hS⟩
   have Bs:=hid hS
   have Dq:=hid hD
   have Cp:=hid (Co.out.trans Bs.out)
   have Af:=hid (Ak.out.sole Ae.out.1 Bs.out)
   have Al:=hid (zab.sole Aa.out (by intro b hb;have hpg:=Ae.out.1;have hb2:=hb;first | (unfold zak at hb2;omega) | exact (Bx.out b hb)) Bs.out)
   clear hD hS
   go_wp2_with fail
   have Dr:=hid (Kep.lt Af.out)
   have Em:=hid (Sole.size Cp.out)
   refine (zcf p g cap ts hE d true (sx.want [61]) _ Dq.out).mono ?_
   rintro e w64 ⟨v,rfl,hv,hD,hS⟩
   have Bt:=hid hS
   have Cq:=hid hD
   have Ds:=hid (Cp.out.trans Bt.out)
   have Ab:=hid (Af.out.sole Ae.out.1 Bt.out)
   have Ag:=hid (zab.sole Al.out (by intro b hb;have hpg:=Ae.out.1;have hb2:=hb;first | (unfold zak at hb2;omega) | exact (Bx.out b hb)) Bt.out)
   obtain ⟨k64,n64,m64,a64,ks64,o64,l64,c64,he64,rfl⟩:=zar hv
   have Bu:=hid he64
   clear he64
   have Cr:=hid hv
   clear hv hD hS
   obtain ⟨vv,hvv⟩:∃ x,zav true (sx.want [61])=x:=⟨_,rfl⟩
   have Cf:Hid (R=(zaw 10 (nt,na) (vv.1::acc2),vv.2)):=by show _=_;rw [Br.out,<- hvv];rfl
   rw [hvv] at Cq Bu Cr
   clear hvv
   obtain ⟨wq,hwq⟩:∃ x,w64.alloc (.cells #[.int .i64 k64,.string ⟨n64.toArray⟩,.int .i64 m64,.int .i64 a64,.slice o64 l64 c64] 29)=x:=⟨_,rfl⟩
   obtain ⟨wx,hwx⟩:∃ x,wq.alloc (.cells #[.int .i64 10,.string ⟨nt.toArray⟩,.int .i64 0,.int .i64 na,.slice (some ⟨w64.heap.size,0,none⟩) 1 1] 29)=x:=⟨_,rfl⟩
   have Bj:Hid (wq.heap.size=w64.heap.size+1∧wx.heap.size=w64.heap.size+2):=⟨by rw [<- hwq];simp,by rw [<- hwx,<- hwq];simp⟩
   have hzq:=Bj.out.1
   have Au:Hid (Below w64.heap.size w64 wx):=by show Below _ _ _;rw [<- hwx,<- hwq];exact (zac _ _).alloc (by simp) _
   have Am:Hid (w.heap.size<w64.heap.size):=Ab.out.lt
   have Cg:Hid (Kep w wx (w64.heap.size+1) (kidO 10 nt 0 na (.slice (some ⟨w64.heap.size,0,none⟩) 1 1))):=⟨by have h1:=heap_alloc_new wq (.cells #[.int .i64 10,.string ⟨nt.toArray⟩,.int .i64 0,.int .i64 na,.slice (some ⟨w64.heap.size,0,none⟩) 1 1] 29);rw [hwx,Bj.out.1] at h1;exact h1,by have:=Am.out;omega⟩
   have Dh:=hid (Ab.out.below Au.out)
   have Di:=hid (Cq.out.below Au.out)
   have Dj:=hid (Ds.out.trans (Sole.of_below Au.out))
   have Dk:Hid (zab (fun b=>w.heap.size+1<=b∧b≠w64.heap.size+1) wx [(Tree.node k64 n64 m64 a64 ks64)] (.slice (some ⟨w64.heap.size,0,none⟩) 1 1)):=by
    have h1:=Dr.out
    have h2:=Am.out
    have h4:zah w63.heap.size (Tree.node k64 n64 m64 a64 ks64) w64 (kidV k64 n64 m64 a64 (.slice o64 l64 c64)):=by rw [<- Bu.out];exact Cr.out
    refine zbh (ks:=[(Tree.node k64 n64 m64 a64 ks64)]) (q:=w64.heap.size) (by rw [<- hwx];exact za9 (by rw [<- hwq];exact heap_alloc_new _ _)) (by simp) ⟨by omega,by omega⟩ (za3 ((zae.below (zae.there _ _ h4) Au.out).weaken (fun b hb=>?_)))
    have hb1:w63.heap.size<=b:=hb.1
    have hb2:=hb.2
    exact ⟨⟨by omega,by omega⟩,by omega⟩
   have Dl:Hid (zab (fun b=>(fun b=>w.heap.size+1<=b∧b≠w64.heap.size+1) b∧b≠w64.heap.size) wx acc2 (.slice (some ⟨g61,0,none⟩) N2 q61)):=(zab.below (zcs Ag.out) Au.out).weaken (fun b hb=>by
    have hb1:w.heap.size+1<=b:=hb.1
    have hb2:=hb.2
    exact ⟨⟨hb1,by omega⟩,by omega⟩)
   have Bz:Hid ((fun b=>w.heap.size+1<=b∧b≠w64.heap.size+1) wx.heap.size):=by
    have h1:=Bj.out
    have h2:=Am.out
    exact ⟨by omega,by omega⟩
   rw [Bu.out] at Cf
   obtain ⟨⟨x0,x1,x2,x3,x4⟩,_⟩:=zaa Cg.out.1
   have hn5:¬ w.heap.size=w64.heap.size+1:=by have:=Am.out;omega
   have hn6:¬ w64.heap.size+1=w.heap.size:=by omega
   unfold kidV
   go_wp2_with (at_builtin;refine zkc _ rfl _ _ rfl (fun b=>w.heap.size+1<=b∧b≠w64.heap.size+1) [(Tree.node k64 n64 m64 a64 ks64)] acc2 w64.heap.size 1 1 Dk.out rfl (by decide) (some ⟨g61,0,none⟩) N2 q61 Dl.out rfl Be.out Bz.out ?_;intro gq cq2 w6 hA;have Az:=hid hA;have An:=hid (za1 Cg.out hA.grow (fun e=>by have:=Option.some.inj e;dsimp at this;omega));have Av:=hid (za1 Dh.out hA.grow (fun e=>by have h1:=Option.some.inj e;have h2:=Am.out;dsimp at h1;omega));obtain ⟨⟨j0,j1,j2,j3,j4⟩,⟨g0,g1,g2,g3,g4⟩⟩:=zaa An.out.1;obtain ⟨⟨z0,z1,z2,z3,z4⟩,⟨y0,y1,y2,y3,y4⟩⟩:=zaa Av.out.1;clear hA x0 x1 x2 x3 x4 hwx hwq)
   have Ba:=hid (Az.out.ds Di.out Dj.out (by have:=Am.out;omega) Ae.out.1 Ae.out.2)
   have Aw:Hid (Kep w (w6.setCell ⟨w64.heap.size+1,4,none⟩ (.slice (some ⟨gq,0,none⟩) (1+N2) cq2)) w.heap.size (kidO 0 [] 0 0 (.slice none 0 0))∧DS (w6.setCell ⟨w64.heap.size+1,4,none⟩ (.slice (some ⟨gq,0,none⟩) (1+N2) cq2)) p g cap ts d vv.2∧Sole p w (w6.setCell ⟨w64.heap.size+1,4,none⟩ (.slice (some ⟨gq,0,none⟩) (1+N2) cq2))∧Kep w (w6.setCell ⟨w64.heap.size+1,4,none⟩ (.slice (some ⟨gq,0,none⟩) (1+N2) cq2)) (w64.heap.size+1) (kidO 10 nt 0 na (.slice (some ⟨gq,0,none⟩) (1+N2) cq2))∧zab (fun b=>w.heap.size+1<=b) (w6.setCell ⟨w64.heap.size+1,4,none⟩ (.slice (some ⟨gq,0,none⟩) (1+N2) cq2)) ([(Tree.node k64 n64 m64 a64 ks64)]++acc2) (.slice (some ⟨gq,0,none⟩) (1+N2) cq2)):=by
    have h1:=Am.out
    have h2:=Ae.out
    exact ⟨zci Av.out (by omega) _ _,Ba.out.1.set (by omega) (by omega) _ _,Sole.set Ba.out.2 (by omega) _ _,⟨zai An.out.1,An.out.2⟩,(zab.but Az.out.list (fun b hb=>hb.2) (fun b hb=>Below.heap_setCell _ _ _ _ hb)).weaken (fun b hb=>hb.1)⟩
   obtain ⟨w9,hw9⟩:∃ x,w6.setCell ⟨w64.heap.size+1,4,none⟩ (.slice (some ⟨gq,0,none⟩) (1+N2) cq2)=x:=⟨_,rfl⟩
   rw [hw9]
   have Bl:Hid (Kep w w9 w.heap.size (kidO 0 [] 0 0 (.slice none 0 0))∧DS w9 p g cap ts d vv.2∧Sole p w w9):=by
    show _∧_
    rw [<- hw9]
    exact ⟨Aw.out.1,Aw.out.2.1,Aw.out.2.2.1⟩
   rw [hw9] at Aw
   clear hw9 z0 z1 z2 z3 z4 y0 y1 y2 y3 y4
   obtain ⟨⟨z0,z1,z2,z3,z4⟩,⟨y0,y1,y2,y3,y4⟩⟩:=zaa Bl.out.1.1
   refine ret5 z0 z1 z2 z3 z4 rfl (fun u q0 q1 q2 q3 q4=>by simp [results,Tryz.results52,go_sem,q0,q1,q2,q3,q4]) (Nat.le_refl _) Bl.out.2.2 ?_
   intro wz hf
   rw [Cf.out]
   have hpg:=Ae.out
   exact ⟨_,rfl,za4 Aw.out.2.2.2.2 (fun b h=>Nat.le_trans (Nat.le_succ _) h) (fun b h=>by have h1:w.heap.size+1<=b:=h;omega) hf.2,Bl.out.2.1.but hpg.1 hpg.2 hf.2,hf.1⟩
  | false =>
   rw [zb4 hb1] at Ap
   have Br:Hid (R=numC 10 (nt,na) (zbk f (acc++[(Tree.node k61 n61 m61 a61 ks61)]) (if versM sv&&N+1==64 then sv.fail 42 else sv))):=by
    show _=_
    rw [Dc.out,Ch.out,hb1];rfl
   clear hb1
   go_wp2_with fail
   refine (zea p g cap ts d [118,101,114,115,105,111,110] sv _ Ap.out).mono ?_
   rintro e w65 ⟨rfl,hB⟩
   have Bb:=hid hB
   have Ax:=hid (Ap.out.below Bb.out)
   have Bv:=hid (Co.out.trans (Sole.of_below Bb.out))
   have Ac:=hid (Ak.out.below Bb.out)
   have Ad:=hid (zab.below Aa.out Bb.out)
   clear hB
   cases hm:sv.is [118,101,114,115,105,111,110] with
   | true =>
    have Cx:Hid (versM sv=true):=hm
    by_cases h64:N+1=64
    case pos =>
     have j64:((N:Int)+1==64)=true:=by simp;omega
     have Cs:Hid (R=numC 10 (nt,na) (zbk f (acc++[(Tree.node k61 n61 m61 a61 ks61)]) (sv.fail 42))):=by
      show _=_
      rw [Br.out,Cx.out,h64];rfl
     clear h64
     go_wp2_with fail
     refine (zbu p g cap ts d 42 sv _ Ax.out).mono ?_
     rintro e w66 ⟨rfl,hD,hS⟩
     have Bw:=hid hS
     have Ct:=hid hD
     have Dt:=hid (Bv.out.trans Bw.out)
     have Ah:=hid (Ac.out.sole Ae.out.1 Bw.out)
     have Ai:=hid (zab.sole Ad.out (by intro b hb;have hpg:=Ae.out.1;have hb2:=hb;first | (unfold zak at hb2;omega) | exact (Bx.out b hb)) Bw.out)
     clear hD hS
     go_wp2
     go_roundw
     case rel =>
      refine ⟨_,N+1,some ⟨g61,0,none⟩,q61,(sv.fail 42),f,rfl,Ct,Dt,Ah,Ai,Cs,?_⟩
      have h1:=Bd.out
      have h5:=(zbx 42 Ca.out (by decide))
      rw [if_pos Ay.out] at h5
      refine ⟨by omega,fun h0=>?_⟩
      have h3:=h1.2 Ay.out
      rw [if_pos h0] at h5
      omega
     case measure =>
      rw [zd8 Ct.out,Dd.out,zcc,zcc]
      exact (zbx 42 Ca.out (by decide))
    have j64:((N:Int)+1==64)=false:=by simp;omega
    have Cs:Hid (R=numC 10 (nt,na) (zbk f (acc++[(Tree.node k61 n61 m61 a61 ks61)]) sv)):=by
     show _=_
     rw [Br.out,Cx.out,show (N+1==64)=false by simp;omega];rfl
    clear h64
    go_wp2
    go_roundw
    case rel =>
     refine ⟨_,N+1,some ⟨g61,0,none⟩,q61,sv,f,rfl,Ax,Bv,Ac,Ad,Cs,?_⟩
     have h1:=Bd.out
     have h5:=Ca.out
     rw [if_pos Ay.out] at h5
     refine ⟨by omega,fun h0=>?_⟩
     have h3:=h1.2 Ay.out
     rw [if_pos h0] at h5
     omega
    case measure =>
     rw [zd8 Ax.out,Dd.out,zcc,zcc]
     exact Ca.out
   | false =>
    have Cx:Hid (versM sv=false):=hm
    have Cs:Hid (R=numC 10 (nt,na) (zbk f (acc++[(Tree.node k61 n61 m61 a61 ks61)]) sv)):=by
     show _=_
     rw [Br.out,Cx.out];rfl
    go_wp2
    go_roundw
    case rel =>
     refine ⟨_,N+1,some ⟨g61,0,none⟩,q61,sv,f,rfl,Ax,Bv,Ac,Ad,Cs,?_⟩
     have h1:=Bd.out
     have h5:=Ca.out
     rw [if_pos Ay.out] at h5
     refine ⟨by omega,fun h0=>?_⟩
     have h3:=h1.2 Ay.out
     rw [if_pos h0] at h5
     omega
    case measure =>
     rw [zd8 Ax.out,Dd.out,zcc,zcc]
     exact Ca.out
end Go.Proofs.YtighggeokiahfaaGreatDoor.Dm
