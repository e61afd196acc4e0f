import Derived.Test.YtighggeokiahfaaGreatDoorPrs07
import Derived.Test.YtighggeokiahfaaGreatDoorPrs00
import Derived.Test.YtighggeokiahfaaGreatDoorRows
import Derived.WalkKit
import Derived.Below
import Derived.Deep.AppendLies
import Derived.Deep.RegionLaw
import Derived.BigRegion
import Derived.Laws.IdiomStrings
import Derived.Deep.QuietTactic
import Derived.BigQuiet
set_option maxRecDepth 4000
set_option maxHeartbeats 20000000
namespace Go.Proofs.YtighggeokiahfaaGreatDoor
open Go.RowKit
theorem bld0 (k:Int) (w:World):(Instr.build 29 #[(0,.int .i64 k)]).run Tryz.prog w=.ok (.agg #[.int .i64 k,.string ⟨#[]⟩,.int .i64 0,.int .i64 0,.slice none 0 0]) w:=by kernel_rfl
theorem zjb:zb9 zbu :=
 ((zgv zdv).bind _).ite (fun s=>s.sees zdv=true) ((zdz.bind _).ite (fun s=>s.sees zc3=true) ((zkv 8 true).ite (fun s=>(s.sees zd4||s.sees zbk||s.sees zes)=true) ((zhe 10 zdm).ite (fun s=>s.sees zda=true) (zgk 40))))
theorem source_any (p g cap:Nat) (ts:List Tok) (hE:Ends ts) (d:Int) (hd:d=0) (i0:Nat) (full0:Bool) (w:World) (h:PP w p g cap ts i0 d full0) (hba:zbv p w) :
 Calls Tryz.prog 26 #[.pointer (some ⟨p,0,none⟩)] w (zai p g cap ts d (treeIs w.heap.size) ((zcn 102 [] (PSof ts i0 full0)).bind fun ks s=>Ans.ok (Tree.node 1 [] 0 0 ks) s) w):=by
 have HD:Hid (zd2 p g cap ts d 40 zbu):=by show zd2 p g cap ts d 40 zbu;rw [hd];exact zgg p g cap ts hE
 have HP:=hid2 h.plt h.glt;have HE:=hid hE;have Bo:=hid hba;have H:=hid h;obtain ⟨R,hR⟩:∃ R,((zcn 102 [] (PSof ts i0 full0)).bind fun ks s=>Ans.ok (Tree.node 1 [] 0 0 ks) s)=R:=⟨_,rfl⟩;rw [hR];have Bp:=hid hR.symm;obtain ⟨w1,hw1⟩:∃ x,w.alloc (.cells #[.int .i64 0,.string ⟨#[]⟩,.int .i64 0,.int .i64 0,.slice none 0 0] 29)=x:=⟨_,rfl⟩;have b1:Below w.heap.size w w1:=by rw [<- hw1];exact zab _ _
 have Ba:Hid (Kep w w1 w.heap.size (kidO 0 [] 0 0 (.slice none 0 0))):=by show Kep w w1 _ _;rw [<- hw1];exact Kep.new (Nat.le_refl _) _
 have Bq:=hid b1;have qb:=bld0 1;obtain ⟨inf,hi1,hi2,hi3,hi4⟩:=zeg;have HI:=hid4 hi1 hi2 hi3 hi4;clear h hba hE hR b1 hi1 hi2 hi3 hi4 hd;go_enter Tryz.func26,Tryz.ntmps26
 go_wp2;clear hw1;have hb01:=Bq.out;obtain ⟨w2,hw2⟩:∃ x,w1.alloc (.cells #[.int .i64 1,.string ⟨#[]⟩,.int .i64 0,.int .i64 0,.slice none 0 0] 29)=x:=⟨_,rfl⟩;have hB2:Below w1.heap.size w1 w2:=by rw [<- hw2];exact zab _ _
 have Br:=hid ((H.out.below hb01).below hB2);have Bs:Hid (Sole p w w2):=(Sole.of_below hb01).trans (Sole.of_below hB2);have Ar:=hid (Ba.out.below hB2);have Au:Hid (Kep w w2 w1.heap.size (kidO 1 [] 0 0 (.slice none 0 0))):=by show Kep w w2 _ _;rw [<- hw2];exact Kep.new hb01.size _
 have Bt:=hid Ba.out.lt;rw [hw2];clear hb01 hB2 hw2 qb;go_loopw [] (fun wr=>∃ (acc:List Tree) (N:Nat) (oq:Option Addr) (cq:Nat) (ix:Nat) (full:Bool),acc.length=N∧N<=100∧Hid (PP wr p g cap ts ix d full)∧Hid (Sole p w wr)∧Hid (Kep w wr w.heap.size (kidO 0 [] 0 0 (.slice none 0 0)))∧Hid (Kep w wr w1.heap.size (kidO 1 [] 0 0 (.slice oq N cq)))∧Hid (ListAt (fun b=>w.heap.size<b∧b≠w1.heap.size) wr acc (.slice oq N cq))∧Hid (R=(zcn (102 - N) acc (PSof ts ix full)).bind fun ks s=>Ans.ok (Tree.node 1 [] 0 0 ks) s)) (fun wr=>101 - sliceLen ((wr.cell? ⟨w1.heap.size,4,none⟩).getD (.int .i64 0)))
 case atStart=>exact ⟨[],0,none,0,i0,full0,rfl,by omega,Br,Bs,Ar,Au,listAt_nil,Bp⟩
 case round =>
  obtain ⟨acc,N,oq,cq,ix,full,hN1,hN2,Ao,Bb,Af,Ac,Bc,Bu⟩:=hrel;have HN:=hid2 hN1 hN2;have Bv:Hid (sliceLen ((wr.cell? ⟨w1.heap.size,4,none⟩).getD (.int .i64 0))=N):=by
   show _=_;rw [(zaa Ac.out.1).1.2.2.2.2];rfl
  obtain ⟨tk,htk⟩:∃ x,ts[ix]'Ao.out.il=x:=⟨_,rfl⟩;have Bd:Hid (R=(if tk.kind=5 then .ok acc (PSof ts ix full) else (zbu ((PSof ts ix full).room N 100)).bind fun t s=>(s.want [59]).bind fun _ s=>zcn (101 - N) (acc++[t]) s).bind fun ks s=>Ans.ok (Tree.node 1 [] 0 0 ks) s):=by
   show _=_;rw [Bu.out,show 102 - N=(101 - N)+1 by omega,zcn,hN1,zb7 ts ix full Ao.out.il,htk]
  have Be:Hid (Calls Tryz.prog 38 #[.pointer (some ⟨p,0,none⟩)] wr fun e w'=>e=.returned (.agg #[.int .i64 tk.kind,.string ⟨tk.text.toArray⟩,.int .i64 tk.num,.int .i64 tk.at_])∧Below wr.heap.size wr w'):=by
   have hx:=zcc p g cap ts ix d full wr Ao.out;rw [htk] at hx;exact hx
  have q0:=fld0 tk.kind tk.num tk.at_ ⟨tk.text.toArray⟩;clear hN1 hN2 htk;by_cases hk5:tk.kind=5
  · have hkn:(tk.kind != 5)=false:=(by simp [hk5]);have Bw:Hid (R=.ok (.node 1 [] 0 0 acc) (PSof ts ix full)):=by
     show _=_;rw [Bd.out,if_pos hk5];rfl
    clear hk5;(go_wp2_with fail);refine Be.out.mono ?_;rintro e wc ⟨rfl,hB⟩;have Ap:=hid (Ao.out.below hB);have Ag:=hid (Bb.out.trans (Sole.of_below hB));have Aa:=hid (Af.out.below hB);have Aq:=hid (Bc.out.below hB);obtain ⟨⟨s0,s1,s2,s3,s4⟩,_⟩:=zaa (Ac.out.below hB).1;clear hB;obtain ⟨⟨z0,z1,z2,z3,z4⟩,⟨y0,y1,y2,y3,y4⟩⟩:=zaa Aa.out.1;go_wp2;refine ret5 (n:=[]) (a:=0) z0 z1 z2 z3 z4 rfl (fun u q0 q1 q2 q3 q4=>by simp [results,Tryz.results26,go_sem,q0,q1,q2,q3,q4]) Aa.out.2 Ag.out ?_;intro wz hf;rw [Bw.out];have hr2:=Aa.out.2;have hpg:=HP.out;exact ⟨_,_,_,rfl,zaz Aq.out (fun b h=>Nat.le_of_lt h.1) (fun b h=>Nat.ne_of_gt h.1) hf.2,rfl,Ap.out.sole_but (by omega) (by omega) hf.2,hf.1⟩
  · have hkn:(tk.kind != 5)=true:=(by simp [hk5]);have Bx:Hid (R=((zbu ((PSof ts ix full).room N 100)).bind fun t s=>(s.want [59]).bind fun _ s=>zcn (101 - N) (acc++[t]) s).bind fun ks s=>Ans.ok (Tree.node 1 [] 0 0 ks) s):=by
     show _=_;rw [Bd.out,if_neg hk5]
    clear hk5;(go_wp2_with fail);refine Be.out.mono ?_;rintro e wv ⟨rfl,hB⟩;have Bz:=hid (Ao.out.below hB);have Ca:=hid (Bb.out.trans (Sole.of_below hB));have Av:=hid (Af.out.below hB);have Ah:=hid (Ac.out.below hB);have Cb:=hid (Bc.out.below hB);have Cc:=hid (zhp p g cap ts ix d full N 100 wv Bz.out);obtain ⟨⟨p0,p1,p2,p3,p4⟩,_⟩:=zaa Ah.out.1;clear hB;(go_wp2_with fail);refine Cc.out.mono ?_;rintro e wy ⟨rfl,hP,hS,hz2⟩;obtain ⟨fullx,hfx⟩:∃ x,zfj full N 100=x:=⟨_,rfl⟩;have Bf:=hid hfx;rw [hfx] at hP;have hp:=HP.out;have Aw:=hid (Ca.out.trans hS);have Ai:=hid (Av.out.sole hp.1 hS);have Ad:=hid (Ah.out.sole hp.1 hS);have Bg:=hid (Cb.out.sole (fun b h=>by omega) hS);obtain ⟨rv,hrv⟩:∃ r,zbu (PSof ts ix fullx)=r:=⟨_,rfl⟩;have Bh:Hid (R=(rv.bind fun t s=>(s.want [59]).bind fun _ s=>zcn (101 - N) (acc++[t]) s).bind fun ks s=>Ans.ok (Tree.node 1 [] 0 0 ks) s):=by
     show _=_;rw [Bx.out,zgr,Bf.out,hrv]
    have Ax:Hid (∀ t s,rv=.ok t s->N+1<=100):=fun t s e=>by
     rcases Nat.lt_or_ge N 100 with h1|h1
     · exact h1
     · have hNN:=HN.out;have hN64:N=100:=(by omega);obtain ⟨x,y,hx⟩:=zjb (PSof ts ix fullx) (by rw [zgs,<- Bf.out];unfold zfj;simp [hN64]);rw [<- hrv,hx] at e;cases e
    have Bi:Hid (∀ m,Calls Tryz.prog 40 #[.pointer (some ⟨p,0,none⟩)] (wy.drewN m) (zai p g cap ts d (treeIs wy.heap.size) rv wy)):=fun m=>by
     have hB:Below wy.heap.size wy (wy.drewN m):=zad (Below.refl _ _) m;rw [<- hrv];exact (HD.out ix fullx _ (hP.below hB) ((Bo.out.sole Aw.out).below hB)).mono fun e w' hp=>zai.from_below hB hp
    obtain ⟨⟨l0,l1,l2,l3,l4⟩,⟨f0,f1,f2,f3,f4⟩⟩:=zaa Ad.out.1;clear hP hS hz2 hp hrv hfx p0 p1 p2 p3 p4;(go_wp2_with fail);cases rv with
    | no why at_ =>
     (go_region_dies);all_goals (
      refine (Bi.out _).mono ?_;rintro e w9 ⟨rfl,hS⟩;refine ⟨rfl,?_⟩;rw [Bh.out]
      exact ⟨rfl,Aw.out.trans hS⟩)
    | ok tv st =>
     have Bj:=hid (Ax.out _ _ rfl);obtain ⟨k8,n8,m8,a8,ks8⟩:=tv
     go_region_law (first
      | (refine zbw rfl 40 #[.pointer (some ⟨p,0,none⟩)] (by go_simp) _ (Bi.out _) ?_
         rintro e w5 ⟨v,i,full,rfl,hT,rfl,hP,hS⟩;refine ⟨_,rfl,?_⟩;obtain ⟨sl,rfl,hL⟩:=treeAt_node.1 hT;obtain ⟨o8,l8,c8,rfl⟩:=hL.shape;have hp:=HP.out;obtain ⟨wb,hwb⟩:∃ x,w5.alloc (.cells #[.int .i64 k8,.string ⟨n8.toArray⟩,.int .i64 m8,.int .i64 a8,.slice o8 l8 c8] 29)=x:=⟨_,rfl⟩;have Cr:=hid hwb;have hBb:Below w5.heap.size w5 wb:=(by rw [<- hwb];exact zab _ _);have Cd:=hid (hP.below hBb);have Bl:=hid ((Aw.out.trans hS).trans (Sole.of_below hBb));have Ce:=hid (TreeAt.below hT hBb);have Aj:=hid ((Ai.out.sole hp.1 hS).below hBb);have kl5:Kep w w5 w1.heap.size (kidO 1 [] 0 0 (.slice oq N cq)):=Ad.out.sole hp.1 hS;have Ak:=hid (kl5.below hBb);have hl3:ListAt (fun b=>(w.heap.size<b∧b≠w1.heap.size)∧b<wy.heap.size) wb acc (.slice oq N cq):=((za7 Bg.out).sole (fun b h=>by have h1:w.heap.size<b∧b≠w1.heap.size:=h.1;omega) hS).below hBb;have Ae:Hid (∀ q,(Value.slice oq N cq).ownBlock=some q->(w.heap.size<q∧q≠w1.heap.size)∧q<wy.heap.size):=fun q e=>Bg.out.own_lt e;have Cf:Hid (w1.heap.size<wy.heap.size∧wy.heap.size<=w5.heap.size∧wb.heap.size=w5.heap.size+1):=⟨Ad.out.lt,hS.size,by rw [<- hwb];simp⟩;obtain ⟨xs,how,hAq,hrq⟩:=hl3;rw [HN.out.1] at how;have Cg:=hid how;have Ch:=hid hrq;have Ci:Hid (wb.heap[w5.heap.size]?=some (.cells #[.int .i64 k8,.string ⟨n8.toArray⟩,.int .i64 m8,.int .i64 a8,.slice o8 l8 c8] 29 (0,0))):=(by show _=_;rw [<- hwb];exact heap_alloc_new _ _);have u4:=(zaa kl5.1).1.2.2.2.2;have x4:=(zaa Ak.out.1).1.2.2.2.2;clear hT hL hP hS hp hBb how hAq hrq kl5
         unfold kidV)
      | (refine step_append_lies _ rfl _ _ 27 rfl 0 29 inf (.agg #[.int .i64 0,.string ⟨#[]⟩,.int .i64 0,.int .i64 0,.slice none 0 0]) 5 64 Tryz.underlying27 HI.out.1 HI.out.2.1 HI.out.2.2.1 HI.out.2.2.2 rfl (by decide) (.slice oq N cq) N xs rfl Cg.out ⟨w5.heap.size,0,none⟩ 1 1 [.int .i64 k8,.string ⟨n8.toArray⟩,.int .i64 m8,.int .i64 a8,.slice o8 l8 c8] rfl rfl (World.news_of_block (cs:=#[.int .i64 k8,.string ⟨n8.toArray⟩,.int .i64 m8,.int .i64 a8,.slice o8 l8 c8]) (t:=29) (fr:=(0,0)) Ci.out) (by simp [Value.oneCell']) (by decide) (by have:=HN.out;unfold maxLen;omega) (by have:=HN.out;omega) (Nat.zero_le _) _ rfl ?_
         intro gq cq2 w6 hown hgrow hat hlt;have hp:=HP.out;have hsz:=Cf.out;have hs5:=Bl.out.size;have Cj:Hid (PP w6 p g cap ts i d full):=Cd.out.grownO hgrow (fun e=>by have:=Ae.out p e;omega) (fun e=>by have:=Ae.out g e;omega);have Ck:=hid (Bl.out.grownO hgrow (fun q e=>Nat.le_of_lt (Ae.out q e).1.1));have Al:Hid (Kep w w6 w.heap.size (kidO 0 [] 0 0 (.slice none 0 0))):=Aj.out.grownO hgrow (fun e=>by have:=(Ae.out _ e).1.1;omega);have Ab:=hid (Ak.out.grownO hgrow (fun e=>(Ae.out _ e).1.2 rfl));have Cl:Hid (ListAt (fun b=>w.heap.size<b∧b≠w1.heap.size) w6 (acc++[(.node k8 n8 m8 a8 ks8)]) (.slice (some ⟨gq,0,none⟩) (N+1) cq2)):=by
          refine zbn (sl:=.slice oq N cq) (fun q e=>(Ae.out q e).1) (fun b=>b<wy.heap.size) (RowV.frame (fun b h=>⟨⟨h.1.1,h.2⟩,h.1.2⟩) (fun _ _ _=>rfl) _ _ Ch.out) (zay (Ce.out.weaken (fun b h=>?_))) (by rw [HN.out.1];exact hown) hgrow wb.heap.size (Nat.le_refl _) (by have:=Aj.out.lt;omega) ?_
          · have h1:wy.heap.size<=b:=h;have h2:=Ai.out.lt;exact ⟨⟨by omega,fun e=>by have:=(Ae.out b e).2;omega⟩,Nat.not_lt.2 h1⟩
          · rcases hat with e|e
            · exact Or.inl e.symm
            · exact Or.inr (by rw [e];rfl)
         obtain ⟨⟨j0,j1,j2,j3,j4⟩,⟨g0,g1,g2,g3,g4⟩⟩:=zaa Ab.out.1
         clear hown hgrow hat hlt hp hsz hs5))
     all_goals (
      have hp:=HP.out;have hwl2:=Ab.out.2;have hwr2:=Al.out.lt;have hne:=Bt.out;have hz6:∀ b,b≠w1.heap.size->(w6.setCell ⟨w1.heap.size,4,none⟩ (.slice (some ⟨gq,0,none⟩) (N+1) cq2)).heap[b]?=w6.heap[b]?:=fun b hb=>Below.heap_setCell _ _ _ _ hb;have Am:Hid (Kep w (w6.setCell ⟨w1.heap.size,4,none⟩ (.slice (some ⟨gq,0,none⟩) (N+1) cq2)) w1.heap.size (kidO 1 [] 0 0 (.slice (some ⟨gq,0,none⟩) (N+1) cq2))):=⟨zhn Ab.out.1,Ab.out.2⟩;have Aa:=hid (Al.out.but hz6 (by omega));have Ap:=hid (Cj.out.sole_but (by omega) (by omega) hz6);have Ag:Hid (Sole p w (w6.setCell ⟨w1.heap.size,4,none⟩ (.slice (some ⟨gq,0,none⟩) (N+1) cq2))):=Ck.out.below_after ((Below.refl _ _).setCell hwl2 _);have Aq:=hid (Cl.out.but (fun b h=>h.2) hz6);generalize w6.setCell ⟨w1.heap.size,4,none⟩ (.slice (some ⟨gq,0,none⟩) (N+1) cq2)=wc at Am Aa Ap Ag Aq ⊢;clear hp hwl2 hwr2 hne hz6;have Bm:=hid (zbr p g cap ts HE.out i d full [59] (by simp) wc Ap.out);obtain ⟨ru,hru⟩:∃ r,(PSof ts i full).want [59]=r:=⟨_,rfl⟩;have Bn:Hid (R=ru.bind fun _ s=>(zcn (101 - N) (acc++[(.node k8 n8 m8 a8 ks8)]) s).bind fun ks s=>Ans.ok (Tree.node 1 [] 0 0 ks) s):=by
       show _=_;rw [Bh.out];rw [<- hru];exact zfc ((PSof ts i full).want [59]) (fun _ s=>zcn (101 - N) (acc++[(.node k8 n8 m8 a8 ks8)]) s) (fun ks s=>Ans.ok (Tree.node 1 [] 0 0 ks) s)
      rw [hru] at Bm;clear hru;(go_wp2_with fail);refine Bm.out.mono ?_;cases ru with
      | no why at_ =>
       rintro e w99 ⟨rfl,hS⟩;have Ay:=hid (Ag.out.trans hS);clear hS;go_wp2;refine ⟨rfl,?_⟩;rw [Bn.out];exact ⟨rfl,Ay.out⟩
      | ok u st =>
       rintro e w7 ⟨v,i,full,rfl,rfl,rfl,hP,hS⟩;have hp:=HP.out;have Cm:=hid hP;have Cn:=hid (Ag.out.trans hS);have Az:=hid (Aa.out.sole hp.1 hS);have An:=hid (Am.out.sole hp.1 hS);have Co:=hid (Aq.out.sole (fun b h=>by omega) hS);have hNN:=HN.out;have Cp:Hid (R=(zcn (102 - (N+1)) (acc++[(.node k8 n8 m8 a8 ks8)]) (PSof ts i full)).bind fun ks s=>Ans.ok (Tree.node 1 [] 0 0 ks) s):=by
        show _=_;rw [show 102 - (N+1)=101 - N by omega];exact Bn.out
       have Cq:Hid (sliceLen ((w7.cell? ⟨w1.heap.size,4,none⟩).getD (.int .i64 0))=N+1):=by
        show _=_;rw [(zaa An.out.1).1.2.2.2.2];rfl
       clear hP hS hp;go_wp2;go_roundw
       case rel=>exact ⟨acc++[(.node k8 n8 m8 a8 ks8)],N+1,some ⟨gq,0,none⟩,cq2,i,full,by simp [hNN.1],Bj.out,Cm,Cn,Az,An,Co,Cp⟩
       case measure =>
        have h1:=Cq.out;have h2:=Bv.out;have h3:=Bj.out
        omega)
end Go.Proofs.YtighggeokiahfaaGreatDoor
namespace Go.Proofs.YtighggeokiahfaaGreatDoor
inductive Reach (l:List UInt8):Nat->List Tok->Nat->List Tok->Prop
 | refl {i ts} : Reach l i ts i ts
 | step {i ts t j k us} (h:i<l.length) (hs:zdd l i=.go t j) (hr:Reach l j (ts++t.toList) k us):Reach l i ts k us
theorem reach_of_err {l:List UInt8} {i p:Nat} {ts:List Tok} {e:Int} {R:Res} (h:Scans l i ts R) (hR:R=.err e p):∃ us,Reach l i ts p us∧p<l.length∧zdd l p=.err e:=by
 induction h with
 | done _=>cases hR
 | err h hs=>cases hR;exact ⟨_,.refl,h,hs⟩
 | go h hs _ ih=>obtain ⟨us,h1,h2⟩:=ih hR;exact ⟨us,.step h hs h1,h2⟩
theorem ok_last {l:List UInt8} {i:Nat} {ts vs:List Tok} {R:Res} (h:Scans l i ts R) (hR:R=.ok vs):∃ us,vs=us++[⟨5,[],0,l.length⟩]:=by
 induction h with
 | done _=>cases hR;exact ⟨_,rfl⟩
 | err _ _=>cases hR
 | go _ _ _ ih=>exact ih hR
theorem runEnd_run {l:List UInt8} {i j:Nat} (h1:i<=j) (h2:j<zas l i):runB (l.getD j 0)=true:=by
 obtain ⟨d,rfl⟩:∃ d,j=i+d:=⟨j - i,by omega⟩;clear h1;induction d generalizing i with
 | zero =>
  cases hr:runB (l.getD i 0)
  · rw [zfr hr] at h2;omega
  · rfl
 | succ d ih =>
  have hr:runB (l.getD i 0)=true:=by
   cases hr:runB (l.getD i 0)
   · rw [zfr hr] at h2;omega
   · rfl
  rw [show i+(d+1)=i+1+d by omega];exact ih (by rw [<- zfs hr];omega)
theorem cend_some {l:List UInt8} {i j:Nat} (h:cend l i=some j):i+2<=j∧j<=l.length∧l.getD (j - 2) 0=42∧l.getD (j - 1) 0=47∧∀ k,i<=k->k<j - 2->¬ (l.getD k 0=42∧l.getD (k+1) 0=47):=by
 obtain ⟨d,hd⟩:∃ d,l.length<=i+d:=⟨l.length,by omega⟩;induction d generalizing i with
 | zero=>rw [zeq (by omega)] at h;cases h
 | succ d ih =>
  by_cases hc:l.getD i 0=42∧l.getD (i+1) 0=47
  · rw [zlt hc.1 hc.2] at h;cases h;have hl:i+1<l.length:=by
     rcases Nat.lt_or_ge (i+1) l.length with h|h
     · exact h
     · have:=hc.2;rw [zfw h] at this;cases this
    exact ⟨by omega,by omega,hc.1,hc.2,fun k h1 h2=>by omega⟩
  · rw [zfx hc] at h;obtain ⟨h1,h2,h3,h4,h5⟩:=ih h (by omega);refine ⟨by omega,h2,h3,h4,fun k h6 h7=>?_⟩;rcases Nat.lt_or_ge i k with h8|h8
    · exact h5 k (by omega) h7
    · rw [show k=i by omega];exact hc
theorem step_lt {l:List UInt8} {i j:Nat} {t:Option Tok} (h:i<l.length) (hs:zdd l i=.go t j):i<j∧j<=l.length:=by
 unfold zdd at hs;split at hs
 · cases hs;omega
 split at hs
 · split at hs
   · cases hs
   · rename_i hc;cases hs;have:=cend_some hc;omega
 split at hs
 · rename_i hl;have h1:=zfs (zjk hl).2.2.2.2.2;have h2:=zgl (l:=l) (i:=i+1) (by omega);split at hs
   · cases hs
   · cases hs;omega
 split at hs
 · rename_i hd;have h1:=zfs (zhj hd).2.2.2.2.2;have hn:zbb l i<l.length:=by
    rcases Nat.lt_or_ge (zbb l i) l.length with h|h
    · exact h
    · rw [zfw h] at hd;cases hd
   have hi:i<=zbb l i:=by unfold zbb;split <;> omega
   have h2:=zgl (l:=l) (i:=zbb l i+1) (by omega);split at hs
   · cases hs
   · cases hs;omega
 split at hs
 · cases hs;omega
 · cases hs
theorem getD_app_r {a b:List UInt8} {k:Nat} (h:a.length<=k):(a++b).getD k 0=b.getD (k - a.length) 0:=by
 simp [List.getD,List.getElem?_append_right h]
theorem fault_reach {l:List UInt8} {e:Int} {p:Nat} (h:ze9 l=.err e p) (hl:l.length<=16000):∃ us,Reach l 0 [] p us∧p<l.length∧zdd l p=.err e :=
 reach_of_err (zgy hl) h
theorem zll {l:List UInt8} {e:Int} {p:Nat} (h:zdd l p=.err e):e=30∨e=31∨e=32∨e=33:=by
 unfold zdd at h;repeat' split at h
 all_goals cases h
 all_goals simp
/- a text within a source -/
theorem getD_mid0 {a b:List UInt8} : (a++b).getD a.length 0=b.getD 0 0:=by
 rw [getD_app_r (Nat.le_refl _),Nat.sub_self]
theorem getD_mem {l:List UInt8} {k:Nat} (h:k<l.length):l.getD k 0∈l:=by
 rw [getD_lt h];exact List.getElem_mem h
theorem reckP_ge (base most:Nat) (hb:1<=base):∀ (l:List UInt8) (n m:Nat),zcm base most n l=some m->n<=m
 | [],n,m,h=>by simp only [zcm,Option.some.injEq] at h;omega
 | c::r,n,m,h=>by
  simp only [zcm] at h;split at h
  · cases h
  split at h
  · cases h
  have h1:=reckP_ge base most hb r _ m h;have h2:n*1<=n*base:=Nat.mul_le_mul_left n hb;omega
end Go.Proofs.YtighggeokiahfaaGreatDoor
namespace Go.Proofs.YtighggeokiahfaaGreatDoor.Lx
open Go.RowKit
theorem zhg (c:Int) (w:World):Calls Tryz.prog 92 #[.int .u8 c] w fun e w'=>e=.returned (.bool (ze2 c))∧w'=w:=by
 unfold ze2;cases h0:decide (97<=c) <;> cases h1:decide (c<=122) <;> cases h2:decide (65<=c) <;> cases h3:decide (c<=90)
 all_goals (
  go_enter Tryz.func92,Tryz.ntmps92
  go_wp2;go_ret;exact ⟨rfl,rfl⟩)
theorem zg4 (c:Int) (w:World):Calls Tryz.prog 89 #[.int .u8 c] w fun e w'=>e=.returned (.bool (zg7 c))∧w'=w:=by
 unfold zg7;cases h0:decide (48<=c) <;> cases h1:decide (c<=57)
 all_goals (
  go_enter Tryz.func89,Tryz.ntmps89
  go_wp2;go_ret;exact ⟨rfl,rfl⟩)
theorem isRun_any (c:Int) (w:World):Calls Tryz.prog 90 #[.int .u8 c] w fun e w'=>e=.returned (.bool (runP c))∧w'=w:=by
 have H1:=hid (zhg c);have H2:=hid (zg4 c);unfold runP;generalize ze2 c=l at *;generalize zg7 c=d at *;cases l <;> cases d <;> cases h3:c==95
 all_goals (
  go_enter Tryz.func90,Tryz.ntmps90
  go_wp2_with (first|(go_at_call 92;refine (H1.out _).mono ?_;rintro e w' ⟨rfl,rfl⟩)|(go_at_call 89;refine (H2.out _).mono ?_;rintro e w' ⟨rfl,rfl⟩))
  go_ret;exact ⟨rfl,rfl⟩)
abbrev S (l:List UInt8):Value:=.string ⟨l.toArray⟩
theorem isWord_no (l:List UInt8) (w:World) (h:∀ x∈zhz,(l==x)=false):Calls Tryz.prog 95 #[S l] w fun e w'=>e=.returned (.bool false)∧w'=w:=by
 simp only [zhz,List.mem_cons,List.mem_nil_iff,or_false,forall_eq_or_imp,forall_eq] at h;obtain ⟨h1,h2,h3,h4,h5,h6,h7,h8,h9,h10,h11,h12,h13,h14,h15,h16,h17,h18,h19,h20⟩:=h;go_enter Tryz.func95,Tryz.ntmps95
 go_wp2;go_ret;exact ⟨rfl,rfl⟩
theorem isWord_yes (l:List UInt8) (w:World) (h:l∈zhz):Calls Tryz.prog 95 #[S l] w fun e w'=>e=.returned (.bool true)∧w'=w:=by
 simp only [zhz,List.mem_cons,List.mem_nil_iff,or_false] at h;rcases h with rfl|rfl|rfl|rfl|rfl|rfl|rfl|rfl|rfl|rfl|rfl|rfl|rfl|rfl|rfl|rfl|rfl|rfl|rfl|rfl;all_goals (
  go_enter Tryz.func95,Tryz.ntmps95
  go_wp2;go_ret;exact ⟨rfl,rfl⟩)
theorem zm4 (l:List UInt8) (w:World):Calls Tryz.prog 95 #[S l] w fun e w'=>e=.returned (.bool (za6 l))∧w'=w:=by
 unfold za6;cases h:zhz.contains l
 · refine isWord_no l w fun x hx=>?_;cases hx2:l==x
   · rfl
   · have e:l=x:=(by simpa using hx2);subst e;rw [List.contains_iff_mem.2 hx] at h;cases h
 · exact isWord_yes l w (List.contains_iff_mem.1 h)
theorem zft {k:IntKind} {a b:Int} (h:a=b):Ending.returned (.int k a)=.returned (.int k b):=by rw [h]
def zh2 (c:Int):Bool:=c==32||c==9||c==10||c==13
theorem zm8 (c:UInt8):zh2 (c.toNat:Int)=zdt c:=by
 have:=zek (fun c=>zh2 (c.toNat:Int)==zdt c) (by decide +kernel) c;simpa using this
theorem isBlank_any (c:Int) (w:World):Calls Tryz.prog 91 #[.int .u8 c] w fun e w'=>e=.returned (.bool (zh2 c))∧w'=w:=by
 unfold zh2;cases h0:c==32 <;> cases h1:c==9 <;> cases h2:c==10 <;> cases h3:c==13
 all_goals (
  go_enter Tryz.func91,Tryz.ntmps91
  go_wp2;go_ret;exact ⟨rfl,rfl⟩)
def signP (c:Int):Bool:=c==123||(c==125||(c==40||(c==41||(c==91||(c==93||(c==60||(c==62||(c==61||(c==59||(c==58||(c==44||c==42)))))))))))
theorem sign_byte (c:UInt8):signP (c.toNat:Int)=zeu c:=by
 have:=zek (fun c=>signP (c.toNat:Int)==zeu c) (by decide +kernel) c;simpa using this
theorem isSign_any (c:Int) (w:World):Calls Tryz.prog 93 #[.int .u8 c] w fun e w'=>e=.returned (.bool (signP c))∧w'=w:=by
 unfold signP;cases h0:c==123
 case true=>go_enter Tryz.func93,Tryz.ntmps93;go_wp2;go_ret;exact ⟨rfl,rfl⟩
 cases h1:c==125
 case true=>go_enter Tryz.func93,Tryz.ntmps93;go_wp2;go_ret;exact ⟨rfl,rfl⟩
 cases h2:c==40
 case true=>go_enter Tryz.func93,Tryz.ntmps93;go_wp2;go_ret;exact ⟨rfl,rfl⟩
 cases h3:c==41
 case true=>go_enter Tryz.func93,Tryz.ntmps93;go_wp2;go_ret;exact ⟨rfl,rfl⟩
 cases h4:c==91
 case true=>go_enter Tryz.func93,Tryz.ntmps93;go_wp2;go_ret;exact ⟨rfl,rfl⟩
 cases h5:c==93
 case true=>go_enter Tryz.func93,Tryz.ntmps93;go_wp2;go_ret;exact ⟨rfl,rfl⟩
 cases h6:c==60
 case true=>go_enter Tryz.func93,Tryz.ntmps93;go_wp2;go_ret;exact ⟨rfl,rfl⟩
 cases h7:c==62
 case true=>go_enter Tryz.func93,Tryz.ntmps93;go_wp2;go_ret;exact ⟨rfl,rfl⟩
 cases h8:c==61
 case true=>go_enter Tryz.func93,Tryz.ntmps93;go_wp2;go_ret;exact ⟨rfl,rfl⟩
 cases h9:c==59
 case true=>go_enter Tryz.func93,Tryz.ntmps93;go_wp2;go_ret;exact ⟨rfl,rfl⟩
 cases h10:c==58
 case true=>go_enter Tryz.func93,Tryz.ntmps93;go_wp2;go_ret;exact ⟨rfl,rfl⟩
 cases h11:c==44
 case true=>go_enter Tryz.func93,Tryz.ntmps93;go_wp2;go_ret;exact ⟨rfl,rfl⟩
 cases h12:c==42
 case true=>go_enter Tryz.func93,Tryz.ntmps93;go_wp2;go_ret;exact ⟨rfl,rfl⟩
 go_enter Tryz.func93,Tryz.ntmps93;go_wp2;go_ret;exact ⟨rfl,rfl⟩
theorem zlo (c:UInt8) (w:World):Calls Tryz.prog 154 #[.int .u8 (c.toNat:Int)] w fun e w'=>e=.returned (.int .i64 (digV c:Nat))∧w'=w:=by
 have hc:(c.toNat:Int)<256:=by have:=c.toNat_lt;omega
 have H1:Hid (∀ w,Calls Tryz.prog 89 #[.int .u8 (c.toNat:Int)] w fun e w'=>e=.returned (.bool (digB c))∧w'=w):=fun w=>zg4 _ w;have hd:digB c=(decide (48<=(c.toNat:Int))&&decide ((c.toNat:Int)<=57)):=rfl;obtain ⟨V,hV⟩:∃ V,digV c=V:=⟨_,rfl⟩;rw [hV];unfold digV at hV;cases hb:digB c
 · rw [hb] at H1 hV hd;rw [if_neg (by decide)] at hV;generalize hn:(c.toNat:Int)=n at *;by_cases h1:97<=n∧n<=102
   · have HV:Hid (n - 97+10=(V:Int)):=(by show _=_;rw [<- hV,if_pos (by omega)];omega);clear hV hn hd;obtain ⟨h1,h2⟩:=h1;(go_enter Tryz.func154,Tryz.ntmps154);(go_wp2_with fail);refine (H1.out _).mono ?_;rintro e w' ⟨rfl,rfl⟩;go_wp2;go_ret;exact ⟨zft HV.out,rfl⟩
   · by_cases h2:65<=n∧n<=70
     · have HV:Hid (n - 65+10=(V:Int)):=(by show _=_;rw [<- hV,if_neg (by omega),if_pos (by omega)];omega);clear hV hn hd;obtain ⟨h2,h3⟩:=h2;have h4:decide (97<=n)=false:=(by simp;omega);(go_enter Tryz.func154,Tryz.ntmps154);(go_wp2_with fail);refine (H1.out _).mono ?_;rintro e w' ⟨rfl,rfl⟩;go_wp2;go_ret;exact ⟨zft HV.out,rfl⟩
     · have HV:Hid (16=(V:Int)):=(by show _=_;rw [<- hV,if_neg (by omega),if_neg (by omega)];rfl);clear hV hn hd;by_cases h97:97<=n
       · have h102:decide (n<=102)=false:=(by simp;omega);have h65:65<=n:=(by omega);have h70:decide (n<=70)=false:=(by simp;omega);(go_enter Tryz.func154,Tryz.ntmps154);(go_wp2_with fail);refine (H1.out _).mono ?_;rintro e w' ⟨rfl,rfl⟩;go_wp2;go_ret;exact ⟨zft HV.out,rfl⟩
       · have h97' : decide (97<=n)=false:=(by simp;omega);by_cases h65:65<=n
         · have h70:decide (n<=70)=false:=(by simp;omega);(go_enter Tryz.func154,Tryz.ntmps154);(go_wp2_with fail);refine (H1.out _).mono ?_;rintro e w' ⟨rfl,rfl⟩;go_wp2;go_ret;exact ⟨zft HV.out,rfl⟩
         · have h65' : decide (65<=n)=false:=(by simp;omega);(go_enter Tryz.func154,Tryz.ntmps154);(go_wp2_with fail);refine (H1.out _).mono ?_;rintro e w' ⟨rfl,rfl⟩;go_wp2;go_ret;exact ⟨zft HV.out,rfl⟩
 · rw [hb] at H1 hV hd;rw [if_pos rfl] at hV;generalize hn:(c.toNat:Int)=n at *;have h48:48<=n∧n<=57:=by
    have:=hd.symm;simpa using this
   have HV:Hid (n - 48=(V:Int)):=by show _=_;rw [<- hV];omega
   clear hV hn hd;obtain ⟨h1,h2⟩:=h48;go_enter Tryz.func154,Tryz.ntmps154
   go_wp2_with fail
   refine (H1.out _).mono ?_;rintro e w' ⟨rfl,rfl⟩;go_wp2;go_ret;exact ⟨zft HV.out,rfl⟩
theorem begin_any (c:UInt8) (w:World):Calls Tryz.prog 54 #[.int .u8 (c.toNat:Int)] w fun e w'=>e=.returned (.int .i64 (zdg c:Nat))∧w'=w:=by
 have H0:Hid (∀ w,Calls Tryz.prog 91 #[.int .u8 (c.toNat:Int)] w fun e w'=>e=.returned (.bool (zdt c))∧w'=w):=fun w=>by rw [<- zm8];exact isBlank_any _ w
 have H1:Hid (∀ w,Calls Tryz.prog 92 #[.int .u8 (c.toNat:Int)] w fun e w'=>e=.returned (.bool (letB c))∧w'=w):=fun w=>zhg _ w;have H2:Hid (∀ w,Calls Tryz.prog 89 #[.int .u8 (c.toNat:Int)] w fun e w'=>e=.returned (.bool (digB c))∧w'=w):=fun w=>zg4 _ w;have H3:Hid (∀ w,Calls Tryz.prog 93 #[.int .u8 (c.toNat:Int)] w fun e w'=>e=.returned (.bool (zeu c))∧w'=w):=fun w=>by rw [<- sign_byte];exact isSign_any _ w
 have h4:(c==45)=((c.toNat:Int)==45):=by
  have:=zek (fun c=>(c==45)==((c.toNat:Int)==45)) (by decide +kernel) c;simpa using this
 have h5:(c==47)=((c.toNat:Int)==47):=by
  have:=zek (fun c=>(c==47)==((c.toNat:Int)==47)) (by decide +kernel) c;simpa using this
 unfold zdg;rw [h4,h5];clear h4 h5;generalize zdt c=b0 at *;generalize letB c=b1 at *;generalize digB c=b2 at *;generalize zeu c=b3 at *;generalize (c.toNat:Int)=n at *;cases b0
 case true =>
  go_enter Tryz.func54,Tryz.ntmps54
  go_wp2_with (first|(go_at_call 91;refine (H0.out _).mono ?_;rintro e w' ⟨rfl,rfl⟩))
  go_ret;exact ⟨rfl,rfl⟩
 cases b1
 case true =>
  go_enter Tryz.func54,Tryz.ntmps54
  go_wp2_with (first|(go_at_call 91;refine (H0.out _).mono ?_;rintro e w' ⟨rfl,rfl⟩)|(go_at_call 92;refine (H1.out _).mono ?_;rintro e w' ⟨rfl,rfl⟩))
  go_ret;exact ⟨rfl,rfl⟩
 cases b2
 case true =>
  go_enter Tryz.func54,Tryz.ntmps54
  go_wp2_with (first|(go_at_call 91;refine (H0.out _).mono ?_;rintro e w' ⟨rfl,rfl⟩)|(go_at_call 92;refine (H1.out _).mono ?_;rintro e w' ⟨rfl,rfl⟩)|(go_at_call 89;refine (H2.out _).mono ?_;rintro e w' ⟨rfl,rfl⟩))
  go_ret;exact ⟨rfl,rfl⟩
 cases b3
 case true =>
  go_enter Tryz.func54,Tryz.ntmps54
  go_wp2_with (first|(go_at_call 91;refine (H0.out _).mono ?_;rintro e w' ⟨rfl,rfl⟩)|(go_at_call 92;refine (H1.out _).mono ?_;rintro e w' ⟨rfl,rfl⟩)|(go_at_call 89;refine (H2.out _).mono ?_;rintro e w' ⟨rfl,rfl⟩)|(go_at_call 93;refine (H3.out _).mono ?_;rintro e w' ⟨rfl,rfl⟩))
  go_ret;exact ⟨rfl,rfl⟩
 cases h4:n==45 <;> cases h5:n==47
 all_goals (
  go_enter Tryz.func54,Tryz.ntmps54
  go_wp2_with (first|(go_at_call 91;refine (H0.out _).mono ?_;rintro e w' ⟨rfl,rfl⟩)|(go_at_call 92;refine (H1.out _).mono ?_;rintro e w' ⟨rfl,rfl⟩)|(go_at_call 89;refine (H2.out _).mono ?_;rintro e w' ⟨rfl,rfl⟩)|(go_at_call 93;refine (H3.out _).mono ?_;rintro e w' ⟨rfl,rfl⟩))
  go_ret;exact ⟨rfl,rfl⟩)
theorem zel (c k:UInt8):((c.toNat:Int)==(k.toNat:Int))=(c==k):=by
 rw [Bool.eq_iff_iff,beq_iff_eq,beq_iff_eq];constructor
 · intro h;exact UInt8.toNat_inj.1 (by omega)
 · rintro rfl;rfl
theorem zhk (l:List UInt8) (i j:Nat):(⟨l.toArray⟩:ByteArray).extract i j=⟨((l.drop i).take (j - i)).toArray⟩:=by
 apply ByteArray.ext;simp
theorem zna (l:List UInt8) (i:Nat):(⟨l.toArray⟩:ByteArray).extract i l.length=⟨(l.drop i).toArray⟩:=by
 rw [zhk,List.take_of_length_le (by simp)]
theorem ret_tuple {a b:Array Value} (h:a=b):Ending.returned (.tuple a)=.returned (.tuple b):=by rw [h]
def zj0 (st:Nat) (c:UInt8):Nat:=if c==42 then 3 else if c==47&&st==3 then 0 else 2
theorem zhh (st:Nat) (c:UInt8) (w:World) (hs:st<=8):Calls Tryz.prog 88 #[.int .i64 st,.int .u8 (c.toNat:Int)] w fun e w'=>e=.returned (.int .i64 (zj0 st c:Nat))∧w'=w:=by
 unfold zj0;rw [<- zel c 42,<- zel c 47];show Calls Tryz.prog 88 #[.int .i64 st,.int .u8 (c.toNat:Int)] w fun e w'=>e=.returned (.int .i64 ((if ((c.toNat:Int)==42)=true then 3 else if ((c.toNat:Int)==47&&st==3)=true then 0 else 2:Nat):Int))∧w'=w;generalize (c.toNat:Int)=n at *;cases h1:n==42
 case true=>go_enter Tryz.func88,Tryz.ntmps88;go_wp2;go_ret;exact ⟨rfl,rfl⟩
 cases h2:n==47
 case false=>go_enter Tryz.func88,Tryz.ntmps88;go_wp2;go_ret;exact ⟨rfl,rfl⟩
 by_cases h3:st=3
 · subst h3;go_enter Tryz.func88,Tryz.ntmps88;go_wp2;go_ret;exact ⟨rfl,rfl⟩
 · have h4:((st:Int)==3)=false:=by simp;omega
   go_enter Tryz.func88,Tryz.ntmps88;go_wp2;go_ret;exact ⟨rfl,rfl⟩
theorem goOn_any (st:Nat) (c:UInt8) (w:World) (hs:st<=8):Calls Tryz.prog 53 #[.int .i64 st,.int .u8 (c.toNat:Int)] w fun e w'=>e=.returned (.tuple #[.int .i64 ((zc0 st c).1:Nat),.bool (zc0 st c).2])∧w'=w:=by
 have H0:Hid (∀ w,Calls Tryz.prog 89 #[.int .u8 (c.toNat:Int)] w fun e w'=>e=.returned (.bool (digB c))∧w'=w):=fun w=>zg4 _ w;have H1:Hid (∀ w,Calls Tryz.prog 90 #[.int .u8 (c.toNat:Int)] w fun e w'=>e=.returned (.bool (runB c))∧w'=w):=fun w=>isRun_any _ w;have H2:Hid (∀ w,Calls Tryz.prog 88 #[.int .i64 2,.int .u8 (c.toNat:Int)] w fun e w'=>e=.returned (.int .i64 (zj0 2 c:Nat))∧w'=w):=fun w=>zhh 2 c w (by omega);have H3:Hid (∀ w,Calls Tryz.prog 88 #[.int .i64 3,.int .u8 (c.toNat:Int)] w fun e w'=>e=.returned (.int .i64 (zj0 3 c:Nat))∧w'=w):=fun w=>zhh 3 c w (by omega);have h42:Hid (((c.toNat:Int)==42)=(c==42)):=zel c 42;obtain rfl|rfl|rfl|rfl|rfl|rfl|rfl|rfl|rfl:st=0∨st=1∨st=2∨st=3∨st=4∨st=5∨st=6∨st=7∨st=8:=by omega
 · go_enter Tryz.func53,Tryz.ntmps53;go_wp2;go_ret2;exact ⟨rfl,rfl⟩
 · show Calls Tryz.prog 53 #[.int .i64 1,.int .u8 (c.toNat:Int)] w fun e w'=>e=.returned (.tuple #[.int .i64 2,.bool (c==42)])∧w'=w;rw [<- h42.out];clear h42 H0 H1 H2 H3;generalize (c.toNat:Int)=n;cases h1:n==42 <;> (go_enter Tryz.func53,Tryz.ntmps53;go_wp2;go_ret2;exact ⟨rfl,rfl⟩)
 · show Calls Tryz.prog 53 #[.int .i64 2,.int .u8 (c.toNat:Int)] w fun e w'=>e=.returned (.tuple #[.int .i64 (zj0 2 c:Nat),.bool true])∧w'=w;clear h42 H0 H1 H3;generalize (c.toNat:Int)=n at *;generalize (zj0 2 c:Nat)=m at *;go_enter Tryz.func53,Tryz.ntmps53;go_wp2_with (go_at_call 88;refine (H2.out _).mono ?_;rintro e w' ⟨rfl,rfl⟩);go_ret2;exact ⟨rfl,rfl⟩
 · show Calls Tryz.prog 53 #[.int .i64 3,.int .u8 (c.toNat:Int)] w fun e w'=>e=.returned (.tuple #[.int .i64 (zj0 3 c:Nat),.bool true])∧w'=w;clear h42 H0 H1 H2;generalize (c.toNat:Int)=n at *;generalize (zj0 3 c:Nat)=m at *;go_enter Tryz.func53,Tryz.ntmps53;go_wp2_with (go_at_call 88;refine (H3.out _).mono ?_;rintro e w' ⟨rfl,rfl⟩);go_ret2;exact ⟨rfl,rfl⟩
 · show Calls Tryz.prog 53 #[.int .i64 4,.int .u8 (c.toNat:Int)] w fun e w'=>e=.returned (.tuple #[.int .i64 5,.bool (digB c)])∧w'=w;clear h42 H1 H2 H3;generalize (c.toNat:Int)=n at *;generalize digB c=b at *;go_enter Tryz.func53,Tryz.ntmps53;go_wp2_with (go_at_call 89;refine (H0.out _).mono ?_;rintro e w' ⟨rfl,rfl⟩);go_ret2;exact ⟨rfl,rfl⟩
 · show Calls Tryz.prog 53 #[.int .i64 5,.int .u8 (c.toNat:Int)] w fun e w'=>e=.returned (.tuple #[.int .i64 5,.bool (runB c)])∧w'=w;clear h42 H0 H2 H3;generalize (c.toNat:Int)=n at *;generalize runB c=b at *;go_enter Tryz.func53,Tryz.ntmps53;go_wp2_with (go_at_call 90;refine (H1.out _).mono ?_;rintro e w' ⟨rfl,rfl⟩);go_ret2;exact ⟨rfl,rfl⟩
 · show Calls Tryz.prog 53 #[.int .i64 6,.int .u8 (c.toNat:Int)] w fun e w'=>e=.returned (.tuple #[.int .i64 6,.bool (runB c)])∧w'=w;clear h42 H0 H2 H3;generalize (c.toNat:Int)=n at *;generalize runB c=b at *;go_enter Tryz.func53,Tryz.ntmps53;go_wp2_with (go_at_call 90;refine (H1.out _).mono ?_;rintro e w' ⟨rfl,rfl⟩);go_ret2;exact ⟨rfl,rfl⟩
 · go_enter Tryz.func53,Tryz.ntmps53;go_wp2;go_ret2;exact ⟨rfl,rfl⟩
 · go_enter Tryz.func53,Tryz.ntmps53;go_wp2;go_ret2;exact ⟨rfl,rfl⟩
theorem form_any (r:List UInt8) (w:World) (h0:0<r.length) (hl:(r.length:Int)<=9223372036854775807):Calls Tryz.prog 128 #[S r] w fun e w'=>e=.returned (.tuple #[S (zds r).1,.int .i64 ((zds r).2:Nat)])∧w'=w:=by
 have e0:r.getD 0 0=r[0]:=getD_lt h0;obtain ⟨c,hc⟩:∃ c,r[0]=c:=⟨_,rfl⟩;have hb:=zel c 48;have h0' : (0:Int)<r.length:=by omega
 have hn0:((r.length:Int)==0)=false:=beq_eq_false_iff_ne.2 (by omega);unfold zds;rw [e0,hc];by_cases h48:c=48
 · subst h48;rw [if_neg (by simp)];by_cases h1:1<r.length
   · have e1:r.getD 1 0=r[1]:=getD_lt h1;obtain ⟨d,hd⟩:∃ d,r[1]=d:=⟨_,rfl⟩;have hb2:=zel d 120;have h1' : (1:Int)<r.length:=(by omega);rw [e1,hd];have hcc:({ data:=r.toArray } : ByteArray)[0]'h0=48:=hc;have hdd:({ data:=r.toArray } : ByteArray)[1]'h1=d:=hd;by_cases h120:d=120
     · subst h120;rw [if_pos ⟨h1,rfl⟩];clear e0 e1 hb hb2;(go_enter Tryz.func128,Tryz.ntmps128);go_wp2;go_ret2
       exact ⟨ret_tuple (show #[Value.string ((⟨r.toArray⟩:ByteArray).extract 2 r.length),.int .i64 16]=#[.string ⟨(r.drop 2).toArray⟩,.int .i64 16] from by rw [zna]),rfl⟩
     · rw [if_neg (fun h=>h120 h.2)];have hb3:((d.toNat:Int)==120)=false:=hb2.trans (by simpa using h120);clear e0 e1 hb hb2 h120;(go_enter Tryz.func128,Tryz.ntmps128);go_wp2;go_ret2
       exact ⟨rfl,rfl⟩
   · rw [if_neg (fun h=>h1 h.1)];have hcc:({ data:=r.toArray } : ByteArray)[0]'h0=48:=hc;have h1' : decide ((1:Int)<r.length)=false:=(by simp;omega);clear e0 hb;(go_enter Tryz.func128,Tryz.ntmps128);go_wp2;go_ret2
     exact ⟨rfl,rfl⟩
 · rw [if_pos h48];have hcc:({ data:=r.toArray } : ByteArray)[0]'h0=c:=hc;have hb3:((c.toNat:Int)==48)=false:=hb.trans (by simpa using h48);clear e0 hb h48;go_enter Tryz.func128,Tryz.ntmps128
   go_wp2;go_ret2
   exact ⟨rfl,rfl⟩
def zbm:Option Nat->Value
 | some n=>.tuple #[.int .i64 (n:Int),.bool true]
 | none=>.tuple #[.int .i64 0,.bool false]
theorem znu (base most:Nat):∀ (l:List UInt8) (n m:Nat),n<=most->zcm base most n l=some m->m<=most
 | [],n,m,hn,h=>by simp only [zcm,Option.some.injEq] at h;omega
 | c::r,n,m,hn,h=>by
  simp only [zcm] at h;split at h
  · cases h
  split at h
  · cases h
  exact znu base most r _ m (by omega) h
theorem zjl (c:UInt8):digV c<=16:=by
 have:=zek (fun c=>decide (digV c<=16)) (by decide +kernel) c;exact of_decide_eq_true this
theorem reckon_8 (ds:List UInt8) (M:Nat) (hm:(M:Int)<=4294967295) (hl:(ds.length:Int)<=9223372036854775807) (w:World) :
 Calls Tryz.prog 129 #[S ds,.int .i64 8,.int .i64 M] w fun e w'=>e=.returned (zbm (zb1 ds 8 M))∧w'=w:=by
 obtain ⟨R,hR⟩:∃ R,zb1 ds 8 M=R:=⟨_,rfl⟩;have Aa:Hid (ds.length=0->R=none):=fun h=>by rw [<- hR];unfold zb1;rw [if_pos (List.length_eq_zero_iff.1 h)]
 have Ab:Hid (0<ds.length->R=zcm 8 M 0 ds):=fun h=>by rw [<- hR];unfold zb1;rw [if_neg (fun h2=>by rw [h2] at h;simp at h)]
 rw [hR];clear hR;go_enter Tryz.func129,Tryz.ntmps129
 go_wp2_with fail
 go_loop [8,13] (fun n i=>∃ k N:Nat,i=.int .i64 k∧n=.int .i64 N∧k<=ds.length∧(N:Int)<=M∧Hid (ds.length=0->N=0)∧Hid (0<ds.length->R=zcm 8 M N (ds.drop k))) (fun _ i=>ds.length - (intOf i).toNat)
 case atStart=>exact ⟨0,0,rfl,rfl,by omega,by omega,fun _=>rfl,Ab.out⟩
 case round =>
  obtain ⟨k,N,rfl,rfl,hk,hN,HN,HK⟩:=hrel;by_cases hlt:k<ds.length
  · have hk' : (k:Int)<ds.length:=(by omega);have hcs:({ data:=ds.toArray } : ByteArray)[k]=ds[k]:=rfl;have hv:=zjl ds[k];have HD:Hid (∀ w,Calls Tryz.prog 154 #[.int .u8 (ds[k].toNat:Int)] w fun e w'=>e=.returned (.int .i64 (digV ds[k]:Nat))∧w'=w):=fun w=>zlo _ w;have hs0:=HK.out (by omega);rw [List.drop_eq_getElem_cons hlt,zcm] at hs0;generalize digV ds[k]=V at *;have Hs:=hid hs0;clear hs0;(by_cases hV:V<8);rotate_left
    · have HA:Hid (R=none):=(by show _=_;rw [Hs.out,if_pos (by omega)]);have hV2:(8:Int)<=V:=(by omega);clear HK Hs HN;(go_wp2_with fail);refine (HD.out _).mono ?_;rintro e w1 ⟨rfl,rfl⟩;go_wp2;go_ret2
      exact ⟨by rw [HA.out];rfl,rfl⟩
    · have hV2:(V:Int)<8:=(by omega);by_cases hB:M<N*8+V
      · have HA:Hid (R=none):=(by show _=_;rw [Hs.out,if_neg (by omega),if_pos hB]);have hB2:(M:Int)<N*8+V:=(by omega);clear HK Hs HN hB;(go_wp2_with fail);refine (HD.out _).mono ?_;rintro e w1 ⟨rfl,rfl⟩;go_wp2;go_ret2
        exact ⟨by rw [HA.out];rfl,rfl⟩
      · have HA:Hid (R=zcm 8 M (N*8+V) (ds.drop (k+1))):=(by show _=_;rw [Hs.out,if_neg (by omega),if_neg hB]);have hB2:(N:Int)*8+V<=M:=(by omega);clear HK Hs hB;(go_wp2_with fail);refine (HD.out _).mono ?_;rintro e w1 ⟨rfl,rfl⟩;go_wp2;go_round
        case rel=>exact ⟨k+1,N*8+V,by go_num,by go_num,by omega,by omega,fun h=>by omega,fun _=>HA.out⟩
        case measure=>simp [intOf];omega
  · obtain rfl:k=ds.length:=(by omega);by_cases h0:ds.length=0
    · have HA:=hid (Aa.out h0);have HZ:=hid (HN.out h0);have h0' : decide (0<ds.length)=false:=decide_eq_false (by omega);clear HK;go_wp2;go_ret2
      exact ⟨by rw [HA.out];show Ending.returned (.tuple #[.int .i64 (N:Int),.bool false])=_;rw [HZ.out];rfl,rfl⟩
    · have HA:Hid (R=some N):=by
       have:=HK.out (by omega);rw [List.drop_length,zcm] at this;exact this
      have h0' : decide (0<ds.length)=true:=decide_eq_true (by omega);clear HK;go_wp2;go_ret2
      exact ⟨by rw [HA.out];rfl,rfl⟩
theorem reckon_10 (ds:List UInt8) (M:Nat) (hm:(M:Int)<=4294967295) (hl:(ds.length:Int)<=9223372036854775807) (w:World) :
 Calls Tryz.prog 129 #[S ds,.int .i64 10,.int .i64 M] w fun e w'=>e=.returned (zbm (zb1 ds 10 M))∧w'=w:=by
 obtain ⟨R,hR⟩:∃ R,zb1 ds 10 M=R:=⟨_,rfl⟩;have Aa:Hid (ds.length=0->R=none):=fun h=>by rw [<- hR];unfold zb1;rw [if_pos (List.length_eq_zero_iff.1 h)]
 have Ab:Hid (0<ds.length->R=zcm 10 M 0 ds):=fun h=>by rw [<- hR];unfold zb1;rw [if_neg (fun h2=>by rw [h2] at h;simp at h)]
 rw [hR];clear hR;go_enter Tryz.func129,Tryz.ntmps129
 go_wp2_with fail
 go_loop [8,13] (fun n i=>∃ k N:Nat,i=.int .i64 k∧n=.int .i64 N∧k<=ds.length∧(N:Int)<=M∧Hid (ds.length=0->N=0)∧Hid (0<ds.length->R=zcm 10 M N (ds.drop k))) (fun _ i=>ds.length - (intOf i).toNat)
 case atStart=>exact ⟨0,0,rfl,rfl,by omega,by omega,fun _=>rfl,Ab.out⟩
 case round =>
  obtain ⟨k,N,rfl,rfl,hk,hN,HN,HK⟩:=hrel;by_cases hlt:k<ds.length
  · have hk' : (k:Int)<ds.length:=(by omega);have hcs:({ data:=ds.toArray } : ByteArray)[k]=ds[k]:=rfl;have hv:=zjl ds[k];have HD:Hid (∀ w,Calls Tryz.prog 154 #[.int .u8 (ds[k].toNat:Int)] w fun e w'=>e=.returned (.int .i64 (digV ds[k]:Nat))∧w'=w):=fun w=>zlo _ w;have hs0:=HK.out (by omega);rw [List.drop_eq_getElem_cons hlt,zcm] at hs0;generalize digV ds[k]=V at *;have Hs:=hid hs0;clear hs0;(by_cases hV:V<10);rotate_left
    · have HA:Hid (R=none):=(by show _=_;rw [Hs.out,if_pos (by omega)]);have hV2:(10:Int)<=V:=(by omega);clear HK Hs HN;(go_wp2_with fail);refine (HD.out _).mono ?_;rintro e w1 ⟨rfl,rfl⟩;go_wp2;go_ret2
      exact ⟨by rw [HA.out];rfl,rfl⟩
    · have hV2:(V:Int)<10:=(by omega);by_cases hB:M<N*10+V
      · have HA:Hid (R=none):=(by show _=_;rw [Hs.out,if_neg (by omega),if_pos hB]);have hB2:(M:Int)<N*10+V:=(by omega);clear HK Hs HN hB;(go_wp2_with fail);refine (HD.out _).mono ?_;rintro e w1 ⟨rfl,rfl⟩;go_wp2;go_ret2
        exact ⟨by rw [HA.out];rfl,rfl⟩
      · have HA:Hid (R=zcm 10 M (N*10+V) (ds.drop (k+1))):=(by show _=_;rw [Hs.out,if_neg (by omega),if_neg hB]);have hB2:(N:Int)*10+V<=M:=(by omega);clear HK Hs hB;(go_wp2_with fail);refine (HD.out _).mono ?_;rintro e w1 ⟨rfl,rfl⟩;go_wp2;go_round
        case rel=>exact ⟨k+1,N*10+V,by go_num,by go_num,by omega,by omega,fun h=>by omega,fun _=>HA.out⟩
        case measure=>simp [intOf];omega
  · obtain rfl:k=ds.length:=(by omega);by_cases h0:ds.length=0
    · have HA:=hid (Aa.out h0);have HZ:=hid (HN.out h0);have h0' : decide (0<ds.length)=false:=decide_eq_false (by omega);clear HK;go_wp2;go_ret2
      exact ⟨by rw [HA.out];show Ending.returned (.tuple #[.int .i64 (N:Int),.bool false])=_;rw [HZ.out];rfl,rfl⟩
    · have HA:Hid (R=some N):=by
       have:=HK.out (by omega);rw [List.drop_length,zcm] at this;exact this
      have h0' : decide (0<ds.length)=true:=decide_eq_true (by omega);clear HK;go_wp2;go_ret2
      exact ⟨by rw [HA.out];rfl,rfl⟩
theorem reckon_16 (ds:List UInt8) (M:Nat) (hm:(M:Int)<=4294967295) (hl:(ds.length:Int)<=9223372036854775807) (w:World) :
 Calls Tryz.prog 129 #[S ds,.int .i64 16,.int .i64 M] w fun e w'=>e=.returned (zbm (zb1 ds 16 M))∧w'=w:=by
 obtain ⟨R,hR⟩:∃ R,zb1 ds 16 M=R:=⟨_,rfl⟩;have Aa:Hid (ds.length=0->R=none):=fun h=>by rw [<- hR];unfold zb1;rw [if_pos (List.length_eq_zero_iff.1 h)]
 have Ab:Hid (0<ds.length->R=zcm 16 M 0 ds):=fun h=>by rw [<- hR];unfold zb1;rw [if_neg (fun h2=>by rw [h2] at h;simp at h)]
 rw [hR];clear hR;go_enter Tryz.func129,Tryz.ntmps129
 go_wp2_with fail
 go_loop [8,13] (fun n i=>∃ k N:Nat,i=.int .i64 k∧n=.int .i64 N∧k<=ds.length∧(N:Int)<=M∧Hid (ds.length=0->N=0)∧Hid (0<ds.length->R=zcm 16 M N (ds.drop k))) (fun _ i=>ds.length - (intOf i).toNat)
 case atStart=>exact ⟨0,0,rfl,rfl,by omega,by omega,fun _=>rfl,Ab.out⟩
 case round =>
  obtain ⟨k,N,rfl,rfl,hk,hN,HN,HK⟩:=hrel;by_cases hlt:k<ds.length
  · have hk' : (k:Int)<ds.length:=(by omega);have hcs:({ data:=ds.toArray } : ByteArray)[k]=ds[k]:=rfl;have hv:=zjl ds[k];have HD:Hid (∀ w,Calls Tryz.prog 154 #[.int .u8 (ds[k].toNat:Int)] w fun e w'=>e=.returned (.int .i64 (digV ds[k]:Nat))∧w'=w):=fun w=>zlo _ w;have hs0:=HK.out (by omega);rw [List.drop_eq_getElem_cons hlt,zcm] at hs0;generalize digV ds[k]=V at *;have Hs:=hid hs0;clear hs0;(by_cases hV:V<16);rotate_left
    · have HA:Hid (R=none):=(by show _=_;rw [Hs.out,if_pos (by omega)]);have hV2:(16:Int)<=V:=(by omega);clear HK Hs HN;(go_wp2_with fail);refine (HD.out _).mono ?_;rintro e w1 ⟨rfl,rfl⟩;go_wp2;go_ret2
      exact ⟨by rw [HA.out];rfl,rfl⟩
    · have hV2:(V:Int)<16:=(by omega);by_cases hB:M<N*16+V
      · have HA:Hid (R=none):=(by show _=_;rw [Hs.out,if_neg (by omega),if_pos hB]);have hB2:(M:Int)<N*16+V:=(by omega);clear HK Hs HN hB;(go_wp2_with fail);refine (HD.out _).mono ?_;rintro e w1 ⟨rfl,rfl⟩;go_wp2;go_ret2
        exact ⟨by rw [HA.out];rfl,rfl⟩
      · have HA:Hid (R=zcm 16 M (N*16+V) (ds.drop (k+1))):=(by show _=_;rw [Hs.out,if_neg (by omega),if_neg hB]);have hB2:(N:Int)*16+V<=M:=(by omega);clear HK Hs hB;(go_wp2_with fail);refine (HD.out _).mono ?_;rintro e w1 ⟨rfl,rfl⟩;go_wp2;go_round
        case rel=>exact ⟨k+1,N*16+V,by go_num,by go_num,by omega,by omega,fun h=>by omega,fun _=>HA.out⟩
        case measure=>simp [intOf];omega
  · obtain rfl:k=ds.length:=(by omega);by_cases h0:ds.length=0
    · have HA:=hid (Aa.out h0);have HZ:=hid (HN.out h0);have h0' : decide (0<ds.length)=false:=decide_eq_false (by omega);clear HK;go_wp2;go_ret2
      exact ⟨by rw [HA.out];show Ending.returned (.tuple #[.int .i64 (N:Int),.bool false])=_;rw [HZ.out];rfl,rfl⟩
    · have HA:Hid (R=some N):=by
       have:=HK.out (by omega);rw [List.drop_length,zcm] at this;exact this
      have h0' : decide (0<ds.length)=true:=decide_eq_true (by omega);clear HK;go_wp2;go_ret2
      exact ⟨by rw [HA.out];rfl,rfl⟩
theorem zmv (ds:List UInt8) (base M:Nat) (hb:base=8∨base=10∨base=16) (hm:(M:Int)<=4294967295) (hl:(ds.length:Int)<=9223372036854775807) (w:World) :
 Calls Tryz.prog 129 #[S ds,.int .i64 base,.int .i64 M] w fun e w'=>e=.returned (zbm (zb1 ds base M))∧w'=w:=by
 rcases hb with rfl|rfl|rfl
 · exact reckon_8 ds M hm hl w
 · exact reckon_10 ds M hm hl w
 · exact reckon_16 ds M hm hl w
def numAns:Option Int->Value
 | some n=>.tuple #[.int .i64 n,.bool true]
 | none=>.tuple #[.int .i64 0,.bool false]
theorem formP_base (r:List UInt8):(zds r).2=8∨(zds r).2=10∨(zds r).2=16:=by
 unfold zds;repeat' split;all_goals simp
theorem formP_len (r:List UInt8):(zds r).1.length<=r.length:=by
 unfold zds;repeat' split;all_goals simp
theorem zch (t:List UInt8) (w:World) (h0:0<t.length) (h1:t.getD 0 0=45->1<t.length) (hl:(t.length:Int)<=9223372036854775807):Calls Tryz.prog 94 #[S t] w fun e w'=>e=.returned (numAns (numP t))∧w'=w:=by
 have e0:t.getD 0 0=t[0]:=getD_lt h0;obtain ⟨c,hc⟩:∃ c,t[0]=c:=⟨_,rfl⟩;have hb:=zel c 45;have hcc:({ data:=t.toArray } : ByteArray)[0]'h0=c:=hc;have h0' : (0:Int)<t.length:=by omega
 have hn0:((t.length:Int)==0)=false:=beq_eq_false_iff_ne.2 (by omega);rw [e0,hc] at h1;obtain ⟨N,hN⟩:∃ N,numP t=N:=⟨_,rfl⟩;rw [hN];unfold numP at hN;rw [e0,hc] at hN;by_cases h45:c=45
 · subst h45;have h1':=h1 rfl;have h1i:(1:Int)<=t.length:=by omega
   rw [if_neg (by simp)] at hN;have hdl:(t.drop 1).length=t.length - 1:=by simp
   have HF:Hid (∀ w,Calls Tryz.prog 128 #[S (t.drop 1)] w fun e w'=>e=.returned (.tuple #[S (zds (t.drop 1)).1,.int .i64 ((zds (t.drop 1)).2:Nat)])∧w'=w):=fun w=>form_any (t.drop 1) w (by omega) (by omega);have hfl:=formP_len (t.drop 1);by_cases h10:(zds (t.drop 1)).2=10
   · rw [if_neg (by simpa using h10)] at hN;have HR:Hid (∀ w,Calls Tryz.prog 129 #[S (zds (t.drop 1)).1,.int .i64 10,.int .i64 2147483648] w fun e w'=>e=.returned (zbm (zb1 (zds (t.drop 1)).1 10 2147483648))∧w'=w):=fun w=>zmv _ 10 2147483648 (by omega) (by omega) (by omega) w;rw [h10] at HF;have HB:∀ n,zb1 (zds (t.drop 1)).1 10 2147483648=some n->n<=2147483648:=fun n hn=>by
      unfold zb1 at hn;split at hn
      · cases hn
      · exact znu _ _ _ _ _ (by omega) hn
     generalize zb1 (zds (t.drop 1)).1 10 2147483648=rv at *;generalize (zds (t.drop 1)).1=ds at *;cases rv with
     | none =>
      have HN:Hid (N=none):=(by show _=_;rw [<- hN];rfl);clear hN e0 hb h1 h10 hdl hfl HB;(go_enter Tryz.func94,Tryz.ntmps94);(go_wp2_with fail);simp only [zna];refine (HF.out _).mono ?_;rintro e w1 ⟨rfl,rfl⟩;(go_wp2_with fail);refine (HR.out _).mono ?_;rintro e w1 ⟨rfl,rfl⟩;simp only [zbm];go_wp2;go_ret2
      exact ⟨by rw [HN.out];rfl,rfl⟩
     | some n =>
      have HN:Hid (N=some (-(n:Int))):=(by show _=_;rw [<- hN];rfl);have hn:=HB n rfl;have hn' : (n:Int)<=2147483648:=(by omega);clear hN e0 hb h1 h10 hdl hfl HB hn;(go_enter Tryz.func94,Tryz.ntmps94);(go_wp2_with fail);simp only [zna];refine (HF.out _).mono ?_;rintro e w1 ⟨rfl,rfl⟩;(go_wp2_with fail);refine (HR.out _).mono ?_;rintro e w1 ⟨rfl,rfl⟩;simp only [zbm];go_wp2;go_ret2
      exact ⟨by rw [HN.out];rfl,rfl⟩
   · rw [if_pos (by simpa using h10)] at hN;have HN:=hid hN.symm;have hb10:(((zds (t.drop 1)).2:Int)==10)=false:=beq_eq_false_iff_ne.2 (by omega);generalize (zds (t.drop 1)).2=bs at *;generalize (zds (t.drop 1)).1=ds at *;clear hN e0 hb h1 h10 hdl hfl;(go_enter Tryz.func94,Tryz.ntmps94);(go_wp2_with fail);simp only [zna];refine (HF.out _).mono ?_;rintro e w1 ⟨rfl,rfl⟩;go_wp2;go_ret2
     exact ⟨by rw [HN.out];rfl,rfl⟩
 · rw [if_pos h45] at hN;have hb3:((c.toNat:Int)==45)=false:=hb.trans (by simpa using h45);have HF:Hid (∀ w,Calls Tryz.prog 128 #[S t] w fun e w'=>e=.returned (.tuple #[S (zds t).1,.int .i64 ((zds t).2:Nat)])∧w'=w):=fun w=>form_any t w h0 hl;have hfl:=formP_len t;have hfb:=formP_base t;have HR:Hid (∀ w,Calls Tryz.prog 129 #[S (zds t).1,.int .i64 ((zds t).2:Nat),.int .i64 4294967295] w fun e w'=>e=.returned (zbm (zb1 (zds t).1 (zds t).2 4294967295))∧w'=w):=fun w=>zmv _ _ 4294967295 hfb (by omega) (by omega) w;generalize zb1 (zds t).1 (zds t).2 4294967295=rv at *;generalize (zds t).1=ds at *;generalize (zds t).2=bs at *;cases rv with
   | none =>
    have HN:Hid (N=none):=(by show _=_;rw [<- hN];rfl);clear hN e0 hb h1 hfl hfb h45;(go_enter Tryz.func94,Tryz.ntmps94);(go_wp2_with fail);refine (HF.out _).mono ?_;rintro e w1 ⟨rfl,rfl⟩;(go_wp2_with fail);refine (HR.out _).mono ?_;rintro e w1 ⟨rfl,rfl⟩;simp only [zbm];go_wp2;go_ret2
    exact ⟨by rw [HN.out];rfl,rfl⟩
   | some n =>
    have HN:Hid (N=some (n:Int)):=(by show _=_;rw [<- hN];rfl);clear hN e0 hb h1 hfl hfb h45;(go_enter Tryz.func94,Tryz.ntmps94);(go_wp2_with fail);refine (HF.out _).mono ?_;rintro e w1 ⟨rfl,rfl⟩;(go_wp2_with fail);refine (HR.out _).mono ?_;rintro e w1 ⟨rfl,rfl⟩;simp only [zbm];go_wp2;go_ret2
    exact ⟨by rw [HN.out];rfl,rfl⟩
def tokC (t:Tok):List Value:=[.int .i64 t.kind,S t.text,.int .i64 t.num,.int .i64 t.at_]
def tokCells (ts:List Tok):List Value:=ts.flatMap tokC
theorem tokCells_len (ts:List Tok):(tokCells ts).length=ts.length*4:=by
 induction ts with
 | nil=>rfl
 | cons t ts ih=>simp [tokCells,tokC] at ih ⊢;omega
theorem zet (ts:List Tok) (t:Tok):tokCells (ts++[t])=tokCells ts++tokC t:=by simp [tokCells]
structure SC (w:World) (p:Nat) (l:List UInt8) (st frm:Nat) (v:Value) (ts:List Tok):Prop where
 s:w.cell? ⟨p,0,none⟩=some (S l)
 i:w.cell? ⟨p,1,none⟩=some (.int .i64 st)
 f:w.cell? ⟨p,2,none⟩=some (.int .i64 frm)
 t:w.cell? ⟨p,3,none⟩=some v
 f1:w.frozen? ⟨p,1,none⟩=false
 f2:w.frozen? ⟨p,2,none⟩=false
 f3:w.frozen? ⟨p,3,none⟩=false
 own:w.ownsRow (p+1) 41 4 v ts.length (tokCells ts)
theorem SC.lt {w:World} {p:Nat} {l:List UInt8} {st frm:Nat} {v:Value} {ts:List Tok} (h:SC w p l st frm v ts):p<w.heap.size:=by
 rcases Nat.lt_or_ge p w.heap.size with h1|h1
 · exact h1
 · have:=h.s;simp [World.cell?,Array.getElem?_eq_none h1] at this
structure Kept (p:Nat) (v v' : Value) (w w' : World):Prop where
 os:w'.os=w.os
 tape:w'.tape=w.tape
 output:w'.output=w.output
 size:w.heap.size<=w'.heap.size
 block:∀ b,b<w.heap.size->b≠p->some b≠v.ownBlock->w'.heap[b]?=w.heap[b]?
 row:v'.ownBlock=v.ownBlock∨∃ g,w.heap.size<=g∧v'.ownBlock=some g
theorem cells_of_block {w w' : World} {b:Nat} (h:w'.heap[b]?=w.heap[b]?) (o:Nat):w'.cell? ⟨b,o,none⟩=w.cell? ⟨b,o,none⟩∧w'.frozen? ⟨b,o,none⟩=w.frozen? ⟨b,o,none⟩:=by
 constructor
 · unfold World.cell?;simp only [h]
 · unfold World.frozen?;simp only [h]
theorem Kept.trans {p:Nat} {v1 v2 v3:Value} {a b c:World} (h:Kept p v1 v2 a b) (k:Kept p v2 v3 b c):Kept p v1 v3 a c:=by
 refine ⟨k.os.trans h.os,k.tape.trans h.tape,k.output.trans h.output,Nat.le_trans h.size k.size,?_,?_⟩
 · intro i hi hp hv;have hv2:some i≠v2.ownBlock:=by
    rcases h.row with e|⟨g,hg1,e⟩
    · rw [e];exact hv
    · rw [e];intro e2;cases e2;omega
   exact (k.block i (Nat.lt_of_lt_of_le hi h.size) hp hv2).trans (h.block i hi hp hv)
 · rcases k.row with e|⟨g,hg1,e⟩
   · rw [e];exact h.row
   · exact .inr ⟨g,Nat.le_trans h.size hg1,e⟩
theorem Kept.refl (p:Nat) (v:Value) (w:World):Kept p v v w w:=⟨rfl,rfl,rfl,Nat.le_refl _,fun _ _ _ _=>rfl,.inl rfl⟩
theorem Kept.of_below {p:Nat} {v:Value} {a b:World} (h:Below a.heap.size a b):Kept p v v a b:=⟨h.os,h.tape,h.output,h.size,fun i hi _ _=>h.block i hi,.inl rfl⟩
theorem SC.below {w w' : World} {p:Nat} {l:List UInt8} {st frm:Nat} {v:Value} {ts:List Tok} (h:SC w p l st frm v ts) (hB:Below w.heap.size w w'):SC w' p l st frm v ts:=by
 have hb:w'.heap[p]?=w.heap[p]?:=hB.block p h.lt;have hg:w.grownBy w' none:=⟨hB.os,hB.tape,hB.output,hB.size,fun k hk _=>hB.block k hk⟩;exact ⟨(cells_of_block hb 0).1.trans h.s,(cells_of_block hb 1).1.trans h.i,(cells_of_block hb 2).1.trans h.f,(cells_of_block hb 3).1.trans h.t,(cells_of_block hb 1).2.trans h.f1,(cells_of_block hb 2).2.trans h.f2,(cells_of_block hb 3).2.trans h.f3,
  h.own.kept hg (by cases hq:v.ownBlock with|none=>exact .inl rfl|some g=>exact .inr (by simp))⟩
theorem zlj:∃ i:TypeInfo,Tryz.prog.info? 41=some i∧i.zero=some (.agg #[.int .i64 0,.string ⟨#[]⟩,.int .i64 0,.int .i64 0])∧i.size=4∧i.bytes=40 :=
 ⟨(Tryz.prog.info? 41).getD default,by kernel_rfl,by kernel_rfl,by kernel_rfl,by kernel_rfl⟩
theorem own_form {w:World} {base n:Nat} {e:TypeId} {size:Nat} {v:Value} {xs:List Value} (h:w.ownsRow base e size v n xs):∃ a cap,v=.slice a n cap:=by
 rcases h.2 with ⟨rfl,rfl⟩|⟨g,cap,cur,rfl,_⟩
 · exact ⟨none,0,rfl⟩
 · exact ⟨_,cap,rfl⟩
theorem lay_step {p:Nat} {l:List UInt8} {st frm:Nat} {v v2:Value} {ts:List Tok} {w1 u w2:World} {t:Tok} {H:Nat} (h:SC w1 p l st frm v ts) (hB:Below w1.heap.size w1 u) (hown:w2.ownsRow (p+1) 41 4 v2 (ts.length+1) (tokCells ts++tokC t)) (hg:u.grownBy w2 v.ownBlock)
 (hr:v2.ownBlock=v.ownBlock∨v2.ownBlock=some H) (hH:w1.heap.size<=H) :
 (w2.cell? ⟨p,3,none⟩=some v∧w2.frozen? ⟨p,3,none⟩=false)∧SC (w2.setCell ⟨p,3,none⟩ v2) p l st frm v2 (ts++[t])∧Kept p v v2 w1 (w2.setCell ⟨p,3,none⟩ v2):=by
 have hu:=h.below hB;have hne:some p≠v.ownBlock:=fun e=>by have:=(hu.own.lt p e.symm).1;omega
 have hne2:v2.ownBlock≠some p:=fun e=>by have:=(hown.lt p e).1;omega
 have hb:w2.heap[p]?=u.heap[p]?:=hg.block p hu.lt hne;have hsc:∀ (k:Nat),k≠p->(w2.setCell ⟨p,3,none⟩ v2).heap[k]?=w2.heap[k]?:=fun k hk=>Below.heap_setCell _ _ _ k hk;have hgs:w2.grownBy (w2.setCell ⟨p,3,none⟩ v2) (some p):=⟨rfl,rfl,rfl,by simp,fun k _ hk=>hsc k (fun e=>hk (by rw [e]))⟩;refine ⟨⟨(cells_of_block hb 3).1.trans hu.t,(cells_of_block hb 3).2.trans hu.f3⟩,⟨?_,?_,?_,?_,?_,?_,?_,?_⟩,⟨?_,?_,?_,?_,?_,?_⟩⟩
 · rw [World.cell?_setCell_other _ _ _ _ (by simp),(cells_of_block hb 0).1];exact hu.s
 · rw [World.cell?_setCell_other _ _ _ _ (by simp),(cells_of_block hb 1).1];exact hu.i
 · rw [World.cell?_setCell_other _ _ _ _ (by simp),(cells_of_block hb 2).1];exact hu.f
 · exact World.cell?_setCell_same _ _ _ (by rw [(cells_of_block hb 3).1];exact hu.t)
 · rw [World.frozen?_setCell,(cells_of_block hb 1).2];exact hu.f1
 · rw [World.frozen?_setCell,(cells_of_block hb 2).2];exact hu.f2
 · rw [World.frozen?_setCell,(cells_of_block hb 3).2];exact hu.f3
 · rw [zet,show (ts++[t]).length=ts.length+1 by simp];exact hown.kept hgs (.inr hne2)
 · exact hg.os.trans hB.os
 · exact hg.tape.trans hB.tape
 · exact hg.output.trans hB.output
 · exact Nat.le_trans hB.size (Nat.le_trans hg.size hgs.size)
 · intro b hb1 hb2 hb3;rw [hsc b hb2,hg.block b (Nat.lt_of_lt_of_le hb1 hB.size) hb3];exact hB.block b hb1
 · rcases hr with e|e
   · exact .inl e
   · exact .inr ⟨_,hH,e⟩
theorem zlh (p:Nat) (l text:List UInt8) (st frm:Nat) (v:Value) (ts:List Tok) (k n:Int) (w:World) (h:SC w p l st frm v ts) (hn:ts.length<=100000) :
 Calls Tryz.prog 57 #[.pointer (some ⟨p,0,none⟩),.int .i64 k,S text,.int .i64 n] w fun e w'=>e=.returned (.tuple #[])∧∃ v',SC w' p l st frm v' (ts++[⟨k,text,n,frm⟩])∧Kept p v v' w w':=by
 have hcv:=fun w s=>run_bytes_of_string (P:=Tryz.prog) w 9 66 5 s Tryz.underlying9 Tryz.underlying66 Tryz.underlying5;obtain ⟨w1,hw1⟩:∃ w1,w.drew.alloc (.cells (bytesRow ⟨text.toArray⟩ (grownCap w text.length 0 5)) 5 ((bytesRow ⟨text.toArray⟩ (grownCap w text.length 0 5)).size,(bytesRow ⟨text.toArray⟩ (grownCap w text.length 0 5)).size+1))=w1:=⟨_,rfl⟩;have hcb:(convert 66 9 (.slice (some ⟨w.heap.size,0,none⟩) text.length (grownCap w text.length 0 5))).run Tryz.prog w1=.ok (S text) w1:=by
  refine run_convert_bytes_back w1 66 9 5 ⟨w.heap.size,0,none⟩ _ text Tryz.underlying66 Tryz.underlying5 Tryz.underlying9 fun j hj=>?_;rw [<- hw1,Addr.add_lit,Nat.zero_add];show (w.drew.alloc _).cell? ⟨w.drew.heap.size,j,none⟩=_;rw [World.cell?_alloc_mark,bytesRow_at _ _ _ (by simpa using hj)];simp
 have hB1:Below w.heap.size w w1:=by rw [<- hw1];exact (Below.refl _ _).drew.alloc (Nat.le_refl _) _
 have hk1:SC w1 p l st frm v ts:=h.below hB1;have Ad:=hid hB1;have Ab:=hid hk1;obtain ⟨oa,cap0,hv⟩:=own_form h.own;have hlt1:=hk1.lt;have hs2:=hk1.f;have hs3:=hk1.t;have hf3:=hk1.f3;obtain ⟨N,hN⟩:∃ N:Nat,ts.length=N:=⟨_,rfl⟩;rw [hN] at hv hn;have HN:=hid hN;have HO:Hid (∀ w2:World,(∀ b,b<w1.heap.size->w2.heap[b]?=w1.heap[b]?)->w2.ownsRow (p+1) 41 4 v N (tokCells ts)):=fun w2 h2=>by
  have ho:=hk1.own;rw [hN] at ho;refine ⟨ho.1,?_⟩;rcases ho.2 with hn|⟨g,cap,cur,rfl,hb,hgg,rest⟩
  · exact .inl hn
  · exact .inr ⟨g,cap,cur,rfl,hb,by rw [h2 g (Array.getElem?_eq_some_iff.1 hgg).1];exact hgg,rest⟩
 rw [hv] at hs3;clear hB1 hk1 hN h;obtain ⟨inf,hi1,hi2,hi3,hi4⟩:=zlj;have HI:=hid4 hi1 hi2 hi3 hi4;clear hi1 hi2 hi3 hi4;go_enter Tryz.func57,Tryz.ntmps57
 go_wp2_with fail
 clear hcv hcb;have Ae:=hid hw1;clear hw1;have HL:Hid (∀ (u w2:World) (g cap:Nat),Below w1.heap.size w1 u->w2.ownsRow (p+1) 41 4 (.slice (some ⟨g,0,none⟩) (N+1) cap) (N+1) (tokCells ts++tokC ⟨k,text,n,frm⟩)->u.grownBy w2 v.ownBlock->(v.ownBlock=some g∨g=u.heap.size) ->
  (w2.cell? ⟨p,3,none⟩=some v∧w2.frozen? ⟨p,3,none⟩=false)∧SC (w2.setCell ⟨p,3,none⟩ (.slice (some ⟨g,0,none⟩) (N+1) cap)) p l st frm (.slice (some ⟨g,0,none⟩) (N+1) cap) (ts++[⟨k,text,n,frm⟩])∧Kept p v (.slice (some ⟨g,0,none⟩) (N+1) cap) w1 (w2.setCell ⟨p,3,none⟩ (.slice (some ⟨g,0,none⟩) (N+1) cap))):=fun u w2 g cap hB ho hg hat=>by
  refine lay_step (H:=u.heap.size) Ab.out hB (by rw [HN.out];exact ho) hg ?_ hB.size;rcases hat with e|e
  · exact .inl e.symm
  · exact .inr (by rw [e];rfl)
 clear hs3;have hs3:w1.cell? ⟨p,3,none⟩=some (.slice oa N cap0):=by rw [<- hv];exact Ab.out.t
 have HV:=hid hv;clear hv;have HP:Hid (∀ (e:Ending) (w2:World) (v2:Value),SC w2 p l st frm v2 (ts++[⟨k,text,n,frm⟩])->Kept p v v2 w1 w2->∃ v',SC w2 p l st frm v' (ts++[⟨k,text,n,frm⟩])∧Kept p v v' w w2):=fun e w2 v2 h1 h2=>⟨v2,h1,(Kept.of_below Ad.out).trans h2⟩;go_region_law (refine step_append_lies _ rfl (.tmp 16) (.tmp 25) 37 rfl (p+1) 41 inf (.agg #[.int .i64 0,.string ⟨#[]⟩,.int .i64 0,.int .i64 0]) 4 40 Tryz.underlying37 HI.out.1 HI.out.2.1 HI.out.2.2.1 HI.out.2.2.2 rfl (by decide) v N (tokCells ts) (by rw [HV.out];rfl) (HO.out _ (fun b hb=>Below.heap_alloc _ _ b hb)) ⟨w1.heap.size,0,none⟩ 1 1 (tokC ⟨k,text,n,frm⟩) rfl rfl (World.news_of_block (cs:=#[.int .i64 k,S text,.int .i64 n,.int .i64 frm]) (t:=41) (fr:=(0,0)) (heap_alloc_new _ _)) (by simp [tokC,Value.oneCell']) (by omega) (by unfold maxLen;omega) (by omega) (by simp;omega) _ rfl ?_;intro g cap w2 hown hgrow hat hlt;have Aa:=HL.out _ w2 g cap ((Below.refl _ _).drew.alloc (Nat.le_refl _) _) hown hgrow hat;have hc3:=Aa.1.1;have hz3:=Aa.1.2;rw [HV.out] at hc3;have Ac:Hid (SC (w2.setCell ⟨p,3,none⟩ (.slice (some ⟨g,0,none⟩) (N+1) cap)) p l st frm (.slice (some ⟨g,0,none⟩) (N+1) cap) (ts++[⟨k,text,n,frm⟩])∧Kept p v (.slice (some ⟨g,0,none⟩) (N+1) cap) w1 (w2.setCell ⟨p,3,none⟩ (.slice (some ⟨g,0,none⟩) (N+1) cap))):=Aa.2;clear hown hgrow hat hlt Aa)
 all_goals (
  go_wp2;first|go_end0|refine bodyPost_ret (results_none rfl _ _ _) rfl ?_
  exact ⟨rfl,HP.out (.returned (.tuple #[])) _ _ Ac.out.1 Ac.out.2⟩)
def zjt (p:Nat) (l:List UInt8) (st frm:Nat) (v:Value) (ts:List Tok) (r:Int × Option Tok) (w:World) (e:Ending) (w' : World):Prop :=
 e=.returned (.int .i64 r.1)∧∃ v',SC w' p l st frm v' (ts++r.2.toList)∧Kept p v v' w w'
theorem SC.drewN {w:World} {p:Nat} {l:List UInt8} {st frm:Nat} {v:Value} {ts:List Tok} (h:SC w p l st frm v ts) (k:Nat):SC (w.drewN k) p l st frm v ts:=⟨h.s,h.i,h.f,h.t,h.f1,h.f2,h.f3,h.own⟩
theorem Kept.drewN (p:Nat) (v:Value) (w:World) (k:Nat):Kept p v v w (w.drewN k):=⟨rfl,rfl,rfl,Nat.le_refl _,fun _ _ _ _=>rfl,.inl rfl⟩
def zn5 (text:List UInt8) (frm:Nat):Int × Option Tok:=match numP text with|some n=>(0,some ⟨3,[],n,frm⟩)|none=>(31,none)
theorem zn4 (p:Nat) (l text:List UInt8) (st frm:Nat) (v:Value) (ts:List Tok) (w:World) (h:SC w p l st frm v ts) (hn:ts.length<=100000) (h0:0<text.length) (h1:text.getD 0 0=45->1<text.length) (hl:(text.length:Int)<=9223372036854775807) :
 Calls Tryz.prog 55 #[.pointer (some ⟨p,0,none⟩),S text] w (zjt p l st frm v ts (zn5 text frm) w):=by
 have H1:Hid (∀ w,Calls Tryz.prog 94 #[S text] w fun e w'=>e=.returned (numAns (numP text))∧w'=w):=fun w=>zch text w h0 h1 hl;unfold zn5;have HS:=hid h;clear h0 h1 h;cases hnum:numP text with
 | none =>
  rw [hnum] at H1;clear hnum;go_enter Tryz.func55,Tryz.ntmps55
  go_wp2_with fail
  refine (H1.out _).mono ?_;rintro e w1 ⟨rfl,rfl⟩;simp only [numAns];go_wp2;go_ret;exact ⟨rfl,v,by simpa using HS.out,Kept.refl _ _ _⟩
 | some n =>
  rw [hnum] at H1;clear hnum;have H2:=hid (zlh p l [] st frm v ts 3 n w HS.out hn);go_enter Tryz.func55,Tryz.ntmps55
  go_wp2_with fail
  refine (H1.out _).mono ?_;rintro e w1 ⟨rfl,hw⟩;have hw1:=hw.symm;clear hw;subst hw1;simp only [numAns];go_wp2_with fail
  refine H2.out.mono ?_;rintro e w2 ⟨rfl,hp⟩;have HP:=hid hp;clear hp;go_wp2;go_ret;exact ⟨rfl,HP.out⟩
def zkk (text:List UInt8) (frm:Nat):Int × Option Tok:=if 32<text.length then (32,none) else (0,some ⟨if za6 text then 2 else 1,text,0,frm⟩)
theorem endName_any (p:Nat) (l text:List UInt8) (st frm:Nat) (v:Value) (ts:List Tok) (w:World) (h:SC w p l st frm v ts) (hn:ts.length<=100000) :
 Calls Tryz.prog 56 #[.pointer (some ⟨p,0,none⟩),S text] w (zjt p l st frm v ts (zkk text frm) w):=by
 unfold zkk;by_cases h32:32<text.length
 · rw [if_pos h32];have h32' : (32:Int)<text.length:=by omega
   have HS:=hid h;clear h;go_enter Tryz.func56,Tryz.ntmps56
   go_wp2;go_ret;exact ⟨rfl,v,by simpa using HS.out,Kept.refl _ _ _⟩
 · rw [if_neg h32];have h32' : (text.length:Int)<=32:=by omega
   have H1:Hid (∀ w,Calls Tryz.prog 95 #[S text] w fun e w'=>e=.returned (.bool (za6 text))∧w'=w):=fun w=>zm4 text w;have H2:Hid (∀ k,Calls Tryz.prog 57 #[.pointer (some ⟨p,0,none⟩),.int .i64 k,S text,.int .i64 0] w fun e w'=>e=.returned (.tuple #[])∧∃ v',SC w' p l st frm v' (ts++[⟨k,text,0,frm⟩])∧Kept p v v' w w'):=fun k=>zlh p l text st frm v ts k 0 w h hn;clear h32 h;generalize za6 text=b at *;cases b
   · (go_enter Tryz.func56,Tryz.ntmps56);(go_wp2_with fail);refine (H1.out _).mono ?_;rintro e w1 ⟨rfl,hw⟩;have hw1:=hw.symm;clear hw;subst hw1;(go_wp2_with fail);refine (H2.out _).mono ?_;rintro e w2 ⟨rfl,hp⟩;have HP:=hid hp;clear hp;go_wp2;go_ret;exact ⟨rfl,HP.out⟩
   · (go_enter Tryz.func56,Tryz.ntmps56);(go_wp2_with fail);refine (H1.out _).mono ?_;rintro e w1 ⟨rfl,hw⟩;have hw1:=hw.symm;clear hw;subst hw1;(go_wp2_with fail);refine (H2.out _).mono ?_;rintro e w2 ⟨rfl,hp⟩;have HP:=hid hp;clear hp;go_wp2;go_ret;exact ⟨rfl,HP.out⟩
theorem endP_5 (l:List UInt8) (frm at_:Nat):endP l 5 frm at_=zn5 (sub l frm at_) frm:=by
 unfold endP zn5;rw [if_neg (by decide),if_neg (by decide),if_pos rfl];cases numP (sub l frm at_) <;> rfl
theorem endP_6 (l:List UInt8) (frm at_:Nat):endP l 6 frm at_=zkk (sub l frm at_) frm:=by
 unfold endP zkk;rw [if_neg (by decide),if_neg (by decide),if_neg (by decide),if_pos rfl]
theorem end_any (p:Nat) (l:List UInt8) (st frm at_:Nat) (v:Value) (ts:List Tok) (w:World) (h:SC w p l st frm v ts) (hn:ts.length<=100000) (hst:st<=8) (hf:frm<=at_) (ha:at_<=l.length) (hl:(l.length:Int)<=9223372036854775807)
 (h5:st=5->0<(sub l frm at_).length∧((sub l frm at_).getD 0 0=45->1<(sub l frm at_).length)) :
 Calls Tryz.prog 34 #[.pointer (some ⟨p,0,none⟩),.int .i64 at_] w (zjt p l st frm v ts (endP l st frm at_) w):=by
 have hc0:=h.s;have hc1:=h.i;have hc2:=h.f;have HS:=hid h;have i1:(frm:Int)<=at_:=by omega
 have i2:(at_:Int)<=l.length:=by omega
 have hsl:(sub l frm at_).length<=l.length:=by unfold sub;simp;omega
 have HE:=hid (zhk l frm at_);clear h;obtain rfl|rfl|rfl|rfl|rfl|rfl|rfl|rfl|rfl:st=0∨st=1∨st=2∨st=3∨st=4∨st=5∨st=6∨st=7∨st=8:=by omega
 case inr.inr.inr.inr.inr.inl =>
  have H1:Hid (∀ k,Calls Tryz.prog 55 #[.pointer (some ⟨p,0,none⟩),S (sub l frm at_)] (w.drewN k) (zjt p l 5 frm v ts (endP l 5 frm at_) (w.drewN k))):=fun k=>by
   rw [endP_5];exact zn4 p l _ 5 frm v ts _ (HS.out.drewN k) hn (h5 rfl).1 (h5 rfl).2 (by omega)
  generalize endP l 5 frm at_=r at *;clear h5 hst hsl;go_enter Tryz.func34,Tryz.ntmps34
  go_wp2_with fail
  go_quiet (fail)
  go_wp2_with fail
  simp only [HE.out];refine (H1.out _).mono ?_;rintro e w2 ⟨rfl,v',h1,h2⟩;have HP:Hid (∃ v',SC w2 p l 5 frm v' (ts++r.2.toList)∧Kept p v v' w w2):=⟨v',h1,(Kept.drewN p v w _).trans h2⟩;clear h1 h2;go_wp2;go_ret;exact ⟨rfl,HP.out⟩
 case inr.inr.inr.inr.inr.inr.inl =>
  have H1:Hid (∀ k,Calls Tryz.prog 56 #[.pointer (some ⟨p,0,none⟩),S (sub l frm at_)] (w.drewN k) (zjt p l 6 frm v ts (endP l 6 frm at_) (w.drewN k))):=fun k=>by
   rw [endP_6];exact endName_any p l _ 6 frm v ts _ (HS.out.drewN k) hn
  generalize endP l 6 frm at_=r at *;clear h5 hst hsl;go_enter Tryz.func34,Tryz.ntmps34
  go_wp2_with fail
  go_quiet (fail)
  go_wp2_with fail
  simp only [HE.out];refine (H1.out _).mono ?_;rintro e w2 ⟨rfl,v',h1,h2⟩;have HP:Hid (∃ v',SC w2 p l 6 frm v' (ts++r.2.toList)∧Kept p v v' w w2):=⟨v',h1,(Kept.drewN p v w _).trans h2⟩;clear h1 h2;go_wp2;go_ret;exact ⟨rfl,HP.out⟩
 case inr.inr.inr.inr.inr.inr.inr.inl =>
  have H1:Hid (∀ k,Calls Tryz.prog 57 #[.pointer (some ⟨p,0,none⟩),.int .i64 4,S (sub l frm at_),.int .i64 0] (w.drewN k) fun e w'=>e=.returned (.tuple #[])∧∃ v',SC w' p l 7 frm v' (ts++[⟨4,sub l frm at_,0,frm⟩])∧Kept p v v' (w.drewN k) w'):=fun k=>zlh p l _ 7 frm v ts 4 0 _ (HS.out.drewN k) hn;clear h5 hst hsl;show Calls Tryz.prog 34 #[.pointer (some ⟨p,0,none⟩),.int .i64 at_] w (zjt p l 7 frm v ts (0,some ⟨4,sub l frm at_,0,frm⟩) w);go_enter Tryz.func34,Tryz.ntmps34
  go_wp2_with fail
  go_quiet (fail)
  go_wp2_with fail
  simp only [HE.out];refine (H1.out _).mono ?_;rintro e w2 ⟨rfl,v',h1,h2⟩;have HP:Hid (∃ v',SC w2 p l 7 frm v' (ts++[⟨4,sub l frm at_,0,frm⟩])∧Kept p v v' w w2):=⟨v',h1,(Kept.drewN p v w _).trans h2⟩;clear h1 h2;go_wp2;go_ret;exact ⟨rfl,HP.out⟩
 all_goals (
  clear h5 hst hsl HE;go_enter Tryz.func34,Tryz.ntmps34
  go_wp2_with fail
  go_quiet (fail)
  go_wp2;go_ret;exact ⟨rfl,v,by simpa [endP] using HS.out.drewN _,Kept.drewN p v w _⟩)
theorem SC.setI {w:World} {p:Nat} {l:List UInt8} {st frm:Nat} {v:Value} {ts:List Tok} (h:SC w p l st frm v ts) (st' : Nat):SC (w.setCell ⟨p,1,none⟩ (.int .i64 st')) p l st' frm v ts:=by
 have hgs:w.grownBy (w.setCell ⟨p,1,none⟩ (.int .i64 st')) (some p):=⟨rfl,rfl,rfl,by simp,fun k _ hk=>Below.heap_setCell _ _ _ k (fun e=>hk (by rw [e]))⟩;refine ⟨?_,World.cell?_setCell_same _ _ _ h.i,?_,?_,?_,?_,?_,h.own.kept hgs (.inr fun e=>by have:=(h.own.lt p e).1;omega)⟩
 · rw [World.cell?_setCell_other _ _ _ _ (by simp)];exact h.s
 · rw [World.cell?_setCell_other _ _ _ _ (by simp)];exact h.f
 · rw [World.cell?_setCell_other _ _ _ _ (by simp)];exact h.t
 · rw [World.frozen?_setCell];exact h.f1
 · rw [World.frozen?_setCell];exact h.f2
 · rw [World.frozen?_setCell];exact h.f3
theorem SC.setF {w:World} {p:Nat} {l:List UInt8} {st frm:Nat} {v:Value} {ts:List Tok} (h:SC w p l st frm v ts) (frm' : Nat):SC (w.setCell ⟨p,2,none⟩ (.int .i64 frm')) p l st frm' v ts:=by
 have hgs:w.grownBy (w.setCell ⟨p,2,none⟩ (.int .i64 frm')) (some p):=⟨rfl,rfl,rfl,by simp,fun k _ hk=>Below.heap_setCell _ _ _ k (fun e=>hk (by rw [e]))⟩;refine ⟨?_,?_,World.cell?_setCell_same _ _ _ h.f,?_,?_,?_,?_,h.own.kept hgs (.inr fun e=>by have:=(h.own.lt p e).1;omega)⟩
 · rw [World.cell?_setCell_other _ _ _ _ (by simp)];exact h.s
 · rw [World.cell?_setCell_other _ _ _ _ (by simp)];exact h.i
 · rw [World.cell?_setCell_other _ _ _ _ (by simp)];exact h.t
 · rw [World.frozen?_setCell];exact h.f1
 · rw [World.frozen?_setCell];exact h.f2
 · rw [World.frozen?_setCell];exact h.f3
theorem Kept.set (p:Nat) (v:Value) (w:World) (o:Nat) (u:Value):Kept p v v w (w.setCell ⟨p,o,none⟩ u) :=
 ⟨rfl,rfl,rfl,by simp,fun b _ hb _=>Below.heap_setCell _ _ _ b hb,.inl rfl⟩
def zgi (l:List UInt8) (c:UInt8) (st frm at_:Nat) (ts:List Tok):Int × Nat × Nat × List Tok :=
 if (zc0 st c).2 then (0,(zc0 st c).1,frm,ts)
 else if (endP l st frm at_).1=0 then (0,zdg c,at_,ts++(endP l st frm at_).2.toList)
 else ((endP l st frm at_).1,st,frm,ts++(endP l st frm at_).2.toList)
def TakePost (p:Nat) (l:List UInt8) (v:Value) (r:Int × Nat × Nat × List Tok) (w:World) (e:Ending) (w' : World):Prop :=
 e=.returned (.int .i64 r.1)∧∃ v',SC w' p l r.2.1 r.2.2.1 v' r.2.2.2∧Kept p v v' w w'
theorem zdn (p:Nat) (l:List UInt8) (st frm at_:Nat) (v:Value) (ts:List Tok) (w:World) (h:SC w p l st frm v ts) (hn:ts.length<=100000) (hst:st<=8) (hf:frm<=at_) (ha:at_<l.length) (hl:(l.length:Int)<=9223372036854775807)
 (h5:st=5->0<(sub l frm at_).length∧((sub l frm at_).getD 0 0=45->1<(sub l frm at_).length)) :
 Calls Tryz.prog 33 #[.pointer (some ⟨p,0,none⟩),.int .i64 at_] w (TakePost p l v (zgi l (l.getD at_ 0) st frm at_ ts) w):=by
 have H1:Hid (∀ w,Calls Tryz.prog 53 #[.int .i64 st,.int .u8 ((l.getD at_ 0).toNat:Int)] w fun e w'=>e=.returned (.tuple #[.int .i64 ((zc0 st (l.getD at_ 0)).1:Nat),.bool (zc0 st (l.getD at_ 0)).2])∧w'=w):=fun w=>goOn_any st _ w hst;have H2:=hid (end_any p l st frm at_ v ts w h hn hst hf (by omega) hl h5);have H3:Hid (∀ w,Calls Tryz.prog 54 #[.int .u8 ((l.getD at_ 0).toNat:Int)] w fun e w'=>e=.returned (.int .i64 (zdg (l.getD at_ 0):Nat))∧w'=w):=fun w=>begin_any _ w;have hcs:({ data:=l.toArray } : ByteArray)[at_]'ha=l.getD at_ 0:=(getD_lt ha).symm;have ha' : (at_:Int)<l.length:=by omega
 have hc0:=h.s;have hc1:=h.i;have hf1:=h.f1;have HS:=hid h;unfold zgi;clear h5 h;generalize l.getD at_ 0=c at *;generalize zc0 st c=g at *;generalize endP l st frm at_=r at *;generalize zdg c=b at *;obtain ⟨g1,g2⟩:=g;cases g2
 · rw [if_neg (by simp)];by_cases hr:r.1=0
   · rw [if_pos hr];obtain ⟨r1,r2⟩:=r;have hr1:r1=0:=hr;subst hr1;clear hr;(go_enter Tryz.func33,Tryz.ntmps33);(go_wp2_with fail);refine (H1.out _).mono ?_;rintro e w1 ⟨rfl,hw⟩;have hw1:=hw.symm;clear hw;subst hw1;(go_wp2_with fail);refine H2.out.mono ?_;rintro e w2 ⟨rfl,v',h1,h2⟩;have hk0:=h1.i;have hk1:=h1.f;have hk2:=h1.f1;have hk3:=h1.f2;have HP:=hid h1;have HQ:=hid h2;clear h1 h2 hc0 hc1 hf1;(go_wp2_with fail);refine (H3.out _).mono ?_;rintro e w3 ⟨rfl,hw⟩;have hw1:=hw.symm;clear hw;subst hw1;go_wp2;go_ret;exact ⟨rfl,v',(HP.out.setI b).setF at_,(HQ.out.trans (Kept.set p v' _ 1 _)).trans (Kept.set p v' _ 2 _)⟩
   · rw [if_neg hr];obtain ⟨r1,r2⟩:=r;have hr1:(r1==0)=false:=(by simpa using hr);clear hr;(go_enter Tryz.func33,Tryz.ntmps33);(go_wp2_with fail);refine (H1.out _).mono ?_;rintro e w1 ⟨rfl,hw⟩;have hw1:=hw.symm;clear hw;subst hw1;(go_wp2_with fail);refine H2.out.mono ?_;rintro e w2 ⟨rfl,v',h1,h2⟩;have HP:=hid h1;have HQ:=hid h2;clear h1 h2 hc0 hc1 hf1;go_wp2;go_ret;exact ⟨rfl,v',HP.out,HQ.out⟩
 · rw [if_pos rfl];go_enter Tryz.func33,Tryz.ntmps33
   go_wp2_with fail
   refine (H1.out _).mono ?_;rintro e w1 ⟨rfl,hw⟩;have hw1:=hw.symm;clear hw;subst hw1;go_wp2;go_ret;exact ⟨rfl,v,HS.out.setI g1,Kept.set p v w 1 _⟩
end Go.Proofs.YtighggeokiahfaaGreatDoor.Lx
