import Derived.Test.YtighggeokiahfaaGreatDoorPrs02
set_option maxRecDepth 4000
set_option maxHeartbeats 20000000
namespace Go.Proofs.YtighggeokiahfaaGreatDoor
open Go.RowKit
theorem zeg:∃ i:TypeInfo,Tryz.prog.info? 29=some i∧i.zero=some (.agg #[.int .i64 0,.string ⟨#[]⟩,.int .i64 0,.int .i64 0,.slice none 0 0])∧i.size=5∧i.bytes=64 :=
 ⟨(Tryz.prog.info? 29).getD default,by kernel_rfl,by kernel_rfl,by kernel_rfl,by kernel_rfl⟩
def listP (n:Tok) (of:Tree) (s:PS):Ans Tree :=
 (s.want [60]).bind fun _ s =>
   if s.sees [62] then (s.want [62]).bind fun _ s=>.ok (named 16 n [of]) s
   else (zbz s).bind fun v s=>(s.want [62]).bind fun _ s=>.ok (named 16 n [of,v]) s
theorem list_any (p g cap:Nat) (ts:List Tok) (hE:Ends ts) (i:Nat) (d:Int) (full:Bool) (t:Tok) (k9:Int) (n9:List UInt8) (m9:Int) (a9:Nat) (ks9:List Tree) (o9:Option Addr) (l9 c9:Nat) (A0:Nat->Prop) (w:World) (h:PP w p g cap ts i d full)
 (hA0:∀ b,A0 b->b≠p∧b<w.heap.size) (hT:TreeAt A0 w (.node k9 n9 m9 a9 ks9) (kidV k9 n9 m9 a9 (.slice o9 l9 c9))) :
 Calls Tryz.prog 141 #[.pointer (some ⟨p,0,none⟩),tokV t,(kidV k9 n9 m9 a9 (.slice o9 l9 c9))] w (zai p g cap ts d (mixIs A0 w.heap.size) (listP t (.node k9 n9 m9 a9 ks9) (PSof ts i full)) w):=by
 have HP:Hid (p<w.heap.size∧g<w.heap.size):=⟨h.plt,h.glt⟩;have Ai:Hid (∀ b,A0 b->b≠p∧b<w.heap.size):=hA0;have HE:Hid (Ends ts):=hE;obtain ⟨R,hR⟩:∃ R,listP t (.node k9 n9 m9 a9 ks9) (PSof ts i full)=R:=⟨_,rfl⟩;rw [hR];have Bo:Hid (R=listP t (.node k9 n9 m9 a9 ks9) (PSof ts i full)):=hR.symm;have hT0:TreeAt A0 w (.node k9 n9 m9 a9 ks9) (kidV k9 n9 m9 a9 (.slice o9 l9 c9)):=hT;unfold tokV kidV;obtain ⟨wa1,hwa1⟩:∃ x,w.alloc (.cells #[.int .i64 t.kind,.string ⟨t.text.toArray⟩,.int .i64 t.num,.int .i64 t.at_] 41)=x:=⟨_,rfl⟩;obtain ⟨wa2,hwa2⟩:∃ x,wa1.alloc (.cells #[.int .i64 k9,.string ⟨n9.toArray⟩,.int .i64 m9,.int .i64 a9,.slice o9 l9 c9] 29)=x:=⟨_,rfl⟩;obtain ⟨wa,hwa⟩:∃ x,wa2.alloc (.cells #[.int .i64 0,.string ⟨#[]⟩,.int .i64 0,.int .i64 0,.slice none 0 0] 29)=x:=⟨_,rfl⟩;obtain ⟨wq,hwq⟩:∃ x,wa.alloc (.cells #[.int .i64 k9,.string ⟨n9.toArray⟩,.int .i64 m9,.int .i64 a9,.slice o9 l9 c9] 29)=x:=⟨_,rfl⟩;have b1:Below w.heap.size w wa1:=by rw [<- hwa1];exact zab _ _
 have b2:Below w.heap.size w wa2:=by rw [<- hwa2];exact b1.alloc b1.size _
 have b3:Below w.heap.size w wa:=by rw [<- hwa];exact b2.alloc b2.size _
 have b4:Below w.heap.size w wq:=by rw [<- hwq];exact b3.alloc b3.size _
 have kr:Kep w wq wa2.heap.size (kidO 0 [] 0 0 (.slice none 0 0)):=by rw [<- hwq,<- hwa];exact (Kep.new b2.size _).alloc _
 have kq:Kep w wq wa.heap.size (kidO k9 n9 m9 a9 (.slice o9 l9 c9)):=by rw [<- hwq];exact Kep.new b3.size _
 have kta:Kep w wa w.heap.size (tokO t):=by rw [<- hwa,<- hwa2,<- hwa1];exact ((Kep.new (Nat.le_refl _) _).alloc _).alloc _
 have koa:Kep w wa wa1.heap.size (kidO k9 n9 m9 a9 (.slice o9 l9 c9)):=by rw [<- hwa,<- hwa2];exact (Kep.new b1.size _).alloc _
 obtain ⟨t0,t1,t2,t3⟩:=zbo kta.1;obtain ⟨⟨v0,v1,v2,v3,v4⟩,_⟩:=zaa koa.1;have Av:Hid (Calls Tryz.prog 109 #[.int .i64 16,tokV t,.slice (some ⟨wa.heap.size,0,none⟩) 1 1] wq fun e w'=>e=.returned (kidV 16 t.text 0 t.at_ (.slice (some ⟨wa.heap.size,0,none⟩) 1 1))∧Below wq.heap.size wq w'):=zdf 16 t (some ⟨wa.heap.size,0,none⟩) 1 1 wq;have HQ:Hid (Below w.heap.size w wq∧Kep w wq wa2.heap.size (kidO 0 [] 0 0 (.slice none 0 0))∧Kep w wq wa.heap.size (kidO k9 n9 m9 a9 (.slice o9 l9 c9))∧PP w p g cap ts i d full∧TreeAt A0 w (.node k9 n9 m9 a9 ks9) (kidV k9 n9 m9 a9 (.slice o9 l9 c9))∧wa2.heap.size<wa.heap.size):=⟨b4,kr,kq,h,hT0,by rw [<- hwa];simp⟩;clear b1 b2 b3 b4 kr kq kta koa h hT hE hA0 hR hT0;unfold tokV at Av;go_enter Tryz.func141,Tryz.ntmps141
 go_wp2_with fail
 refine Av.out.mono ?_;rintro e w1 ⟨rfl,hB1⟩;obtain ⟨wl,hwl⟩:∃ x,w1.alloc (.cells #[.int .i64 16,.string ⟨t.text.toArray⟩,.int .i64 0,.int .i64 t.at_,.slice (some ⟨wa.heap.size,0,none⟩) 1 1] 29)=x:=⟨_,rfl⟩;have hs1:Below w.heap.size w w1:=HQ.out.1.trans (hB1.mono HQ.out.1.size);have hsl:Below w.heap.size w wl:=by rw [<- hwl];exact hs1.alloc hs1.size _
 have Bf:Hid (Sole p w wl):=Sole.of_below hsl;have Bp:Hid (PP wl p g cap ts i d full):=HQ.out.2.2.2.1.below hsl;have Bq:Hid (TreeAt A0 wl (.node k9 n9 m9 a9 ks9) (kidV k9 n9 m9 a9 (.slice o9 l9 c9))):=HQ.out.2.2.2.2.1.below hsl;have Br:Hid (Kep w wl wa2.heap.size (kidO 0 [] 0 0 (.slice none 0 0))):=by show Kep w wl _ _;rw [<- hwl];exact (HQ.out.2.1.below hB1).alloc _
 have Bs:Hid (Kep w wl wa.heap.size (kidO k9 n9 m9 a9 (.slice o9 l9 c9))):=by show Kep w wl _ _;rw [<- hwl];exact (HQ.out.2.2.1.below hB1).alloc _
 have Bt:Hid (Kep w wl w1.heap.size (kidO 16 t.text 0 t.at_ (.slice (some ⟨wa.heap.size,0,none⟩) 1 1))):=by show Kep w wl _ _;rw [<- hwl];exact Kep.new hs1.size _
 have Aw:Hid (wa2.heap.size<wa.heap.size∧wa.heap.size<w1.heap.size):=⟨HQ.out.2.2.2.2.2,(HQ.out.2.2.1.below hB1).lt⟩;have Bg:Hid (Calls Tryz.prog 41 #[.pointer (some ⟨p,0,none⟩),.slice (some ⟨wl.heap.size,0,none⟩) 1 1] (wl.alloc (.cells #[.string ⟨#[60]⟩] 9)) (zai p g cap ts d zf3 ((PSof ts i full).want [60]) wl)):=zbr p g cap ts HE.out i d full [60] (by simp) wl Bp.out;obtain ⟨ru,hru⟩:∃ r,(PSof ts i full).want [60]=r:=⟨_,rfl⟩;have Ax:Hid (R=ru.bind fun _ s=>if s.sees [62] then (s.want [62]).bind fun _ s=>.ok (named 16 t [(.node k9 n9 m9 a9 ks9)]) s else (zbz s).bind fun v s=>(s.want [62]).bind fun _ s=>.ok (named 16 t [(.node k9 n9 m9 a9 ks9),v]) s):=by
  show _=_;rw [Bo.out,<- hru];rfl
 rw [hru] at Bg;clear hB1 hs1 hsl hru hwa1 hwa2 hwa hwq Av HQ;unfold kidV;go_wp2_with fail
 clear hwl;refine Bg.out.mono ?_;cases ru with
 | no why at_ =>
  rintro e w4 ⟨rfl,hS⟩;have HS:Hid (Sole p w w4):=Bf.out.trans hS;clear hS;go_wp2;refine ⟨rfl,?_⟩;rw [Ax.out];exact ⟨rfl,HS.out⟩
 | ok u st =>
  rintro e w2 ⟨v,i,full,rfl,rfl,rfl,hP,hS⟩;have hp:=HP.out.1;have hbb:=Ai.out;have Ap:Hid (Calls Tryz.prog 75 #[.pointer (some ⟨p,0,none⟩),.string ⟨#[62]⟩] w2 fun e w'=>e=.returned (.bool ((PSof ts i full).sees [62]))∧Below w2.heap.size w2 w'):=by
   have hx:=ze5 p g cap ts i d full ⟨#[62]⟩ w2 hP;rw [ByteArray.toList_mk] at hx;exact hx
  have Bh:Hid (PP w2 p g cap ts i d full):=hP;have Bi:Hid (Sole p w w2):=Bf.out.trans hS;have Bj:Hid (TreeAt A0 w2 (.node k9 n9 m9 a9 ks9) (kidV k9 n9 m9 a9 (.slice o9 l9 c9))):=Bq.out.sole (fun b h=>(hbb b h).1) hS;have Ag:Hid (Kep w w2 wa2.heap.size (kidO 0 [] 0 0 (.slice none 0 0))):=Br.out.sole hp hS;have Ak:Hid (Kep w w2 wa.heap.size (kidO k9 n9 m9 a9 (.slice o9 l9 c9))):=Bs.out.sole hp hS;have Al:Hid (Kep w w2 w1.heap.size (kidO 16 t.text 0 t.at_ (.slice (some ⟨wa.heap.size,0,none⟩) 1 1))):=Bt.out.sole hp hS;clear hP hS hp hbb;cases hse:(PSof ts i full).sees [62]
  · rw [hse] at Ap;obtain ⟨rv,hrv⟩:∃ r,zbz (PSof ts i full)=r:=⟨_,rfl⟩;have Aq:Hid (R=rv.bind fun v s=>(s.want [62]).bind fun _ s=>.ok (named 16 t [(.node k9 n9 m9 a9 ks9),v]) s):=by
     show _=_;rw [Ax.out,<- hrv];show (if _ then _ else _)=_;rw [hse,if_neg (by simp)]
    have Bu:Hid (∀ w3,Below w2.heap.size w2 w3->Calls Tryz.prog 140 #[.pointer (some ⟨p,0,none⟩)] w3 (zai p g cap ts d (treeIs w3.heap.size) rv w3)):=fun w3 hB=>by
     rw [<- hrv];exact zck p g cap ts HE.out i d full w3 (Bh.out.below hB)
    clear hse hrv;(go_wp2_with fail);refine Ap.out.mono ?_;rintro e w3 ⟨rfl,hB3⟩;have Bl:Hid (Sole p w w3):=Bi.out.trans (Sole.of_below hB3);have Bv:Hid (TreeAt A0 w3 (.node k9 n9 m9 a9 ks9) (kidV k9 n9 m9 a9 (.slice o9 l9 c9))):=Bj.out.below hB3;have Ay:Hid (Kep w w3 wa2.heap.size (kidO 0 [] 0 0 (.slice none 0 0))):=Ag.out.below hB3;have Az:Hid (Kep w w3 wa.heap.size (kidO k9 n9 m9 a9 (.slice o9 l9 c9))):=Ak.out.below hB3;have Ah:Hid (Kep w w3 w1.heap.size (kidO 16 t.text 0 t.at_ (.slice (some ⟨wa.heap.size,0,none⟩) 1 1))):=Al.out.below hB3;obtain ⟨⟨l0,l1,l2,l3,l4⟩,⟨f0,f1,f2,f3,f4⟩⟩:=zaa Ah.out.1;have Bm:Hid (∀ m,Calls Tryz.prog 140 #[.pointer (some ⟨p,0,none⟩)] (w3.drewN m) (zai p g cap ts d (treeIs w3.heap.size) rv w3)):=fun m=>by
     have hB:Below w3.heap.size w3 (w3.drewN m):=zad (Below.refl _ _) m;exact (Bu.out _ (hB3.trans (hB.mono hB3.size))).mono fun e w' hp=>zai.from_below hB hp
    clear hB3;(go_wp2_with fail);cases rv with
    | no why at_ =>
     (go_region_dies);all_goals (
      refine (Bm.out _).mono ?_;rintro e w5 ⟨rfl,hS⟩;refine ⟨rfl,?_⟩;rw [Aq.out];exact ⟨rfl,Bl.out.trans hS⟩)
    | ok tv st =>
     obtain ⟨k8,n8,m8,a8,ks8⟩:=tv;obtain ⟨inf,hi1,hi2,hi3,hi4⟩:=zeg;have HI:Hid (Tryz.prog.info? 29=some inf∧inf.zero=some (.agg #[.int .i64 0,.string ⟨#[]⟩,.int .i64 0,.int .i64 0,.slice none 0 0])∧inf.size=5∧inf.bytes=64):=⟨hi1,hi2,hi3,hi4⟩;clear hi1 hi2 hi3 hi4;go_region_law (first
      | (refine zbw rfl 140 #[.pointer (some ⟨p,0,none⟩)] (by go_simp) _ (Bm.out _) ?_
         rintro e w5 ⟨v,i,full,rfl,hT,rfl,hP,hS⟩;refine ⟨_,rfl,?_⟩;obtain ⟨sl,rfl,hL⟩:=treeAt_node.1 hT;obtain ⟨o8,l8,c8,rfl⟩:=hL.shape;have hp:=HP.out;have hbb:=Ai.out;have Bw:Hid (PP w5 p g cap ts i d full):=hP;have Bx:Hid (Sole p w w5):=Bl.out.trans hS;have Bz:Hid (treeIs w3.heap.size (.node k8 n8 m8 a8 ks8) w5 (kidV k8 n8 m8 a8 (.slice o8 l8 c8))):=hT;have Ca:Hid (TreeAt A0 w5 (.node k9 n9 m9 a9 ks9) (kidV k9 n9 m9 a9 (.slice o9 l9 c9))):=Bv.out.sole (fun b h=>(hbb b h).1) hS;have Am:Hid (Kep w w5 wa2.heap.size (kidO 0 [] 0 0 (.slice none 0 0))):=Ay.out.sole hp.1 hS;have An:Hid (Kep w w5 wa.heap.size (kidO k9 n9 m9 a9 (.slice o9 l9 c9))):=Az.out.sole hp.1 hS;have Ab:Hid (Kep w w5 w1.heap.size (kidO 16 t.text 0 t.at_ (.slice (some ⟨wa.heap.size,0,none⟩) 1 1))):=Ah.out.sole hp.1 hS;have Ba:Hid (w3.heap.size<=w5.heap.size):=hS.size;have u4:=(zaa Ab.out.1).1.2.2.2.2;obtain ⟨wb,hwb⟩:∃ x,w5.alloc (.cells #[.int .i64 k8,.string ⟨n8.toArray⟩,.int .i64 m8,.int .i64 a8,.slice o8 l8 c8] 29)=x:=⟨_,rfl⟩;have Af:Hid (w5.alloc (.cells #[.int .i64 k8,.string ⟨n8.toArray⟩,.int .i64 m8,.int .i64 a8,.slice o8 l8 c8] 29)=wb):=hwb;have x4:wb.cell? ⟨w1.heap.size,4,none⟩=some (.slice (some ⟨wa.heap.size,0,none⟩) 1 1):=(by rw [<- hwb];exact (zaa (Ab.out.alloc _).1).1.2.2.2.2);have Bn:Hid (wb.heap[wa.heap.size]?=some (zdr [.int .i64 k9,.string ⟨n9.toArray⟩,.int .i64 m9,.int .i64 a9,.slice o9 l9 c9])∧wb.heap[w5.heap.size]?=some (.cells #[.int .i64 k8,.string ⟨n8.toArray⟩,.int .i64 m8,.int .i64 a8,.slice o8 l8 c8] 29 (0,0))):=by
          refine ⟨?_,?_⟩
          · rw [<- hwb];exact (An.out.alloc _).1
          · rw [<- hwb];exact heap_alloc_new _ _
         clear hT hL hP hS hp hbb;unfold kidV)
      | (refine step_append_lies _ rfl _ _ 27 rfl 0 29 inf (.agg #[.int .i64 0,.string ⟨#[]⟩,.int .i64 0,.int .i64 0,.slice none 0 0]) 5 64 Tryz.underlying27 HI.out.1 HI.out.2.1 HI.out.2.2.1 HI.out.2.2.2 rfl (by decide) (.slice (some ⟨wa.heap.size,0,none⟩) 1 1) 1 [.int .i64 k9,.string ⟨n9.toArray⟩,.int .i64 m9,.int .i64 a9,.slice o9 l9 c9] rfl (zf7 Bn.out.1 rfl (by decide)) ⟨w5.heap.size,0,none⟩ 1 1 [.int .i64 k8,.string ⟨n8.toArray⟩,.int .i64 m8,.int .i64 a8,.slice o8 l8 c8] rfl rfl (World.news_of_block (cs:=#[.int .i64 k8,.string ⟨n8.toArray⟩,.int .i64 m8,.int .i64 a8,.slice o8 l8 c8]) (t:=29) (fr:=(0,0)) Bn.out.2) (by simp [Value.oneCell']) (by decide) (by decide) (by decide) (Nat.zero_le _) _ rfl ?_
         intro gq cq w6 hown hgrow hat hlt;have hp:=HP.out;have hbb:=Ai.out;have hlt2:=Aw.out;have hl1:=Ab.out.lt;have hr2:=Am.out.2;have hq2:=An.out.2;have hwl2:=Ab.out.2;have h3l:=Ah.out.lt;have hl35:=Ba.out;have hBw:Below w5.heap.size w5 wb:=(by rw [<- Af.out];exact zab _ _);have hsb:wb.heap.size=w5.heap.size+1:=(by rw [<- Af.out];simp);have hgr:wb.grownBy w6 (some wa.heap.size):=hgrow;have Bb:Hid (Kep w w6 wa2.heap.size (kidO 0 [] 0 0 (.slice none 0 0))):=(Am.out.below hBw).grown hgr (by omega);have Ac:Hid (Kep w w6 w1.heap.size (kidO 16 t.text 0 t.at_ (.slice (some ⟨wa.heap.size,0,none⟩) 1 1))):=(Ab.out.below hBw).grown hgr (by omega);have Cb:Hid (PP w6 p g cap ts i d full):=(Bw.out.below hBw).grown hgr (by omega) (by omega);have Cc:Hid (Sole p w w6):=(Bx.out.trans (Sole.of_below hBw)).grown hgr hq2;have Cd:Hid (ListAt (fun b=>Mix A0 w.heap.size b∧b≠w1.heap.size∧b≠wa2.heap.size) w6 [(.node k9 n9 m9 a9 ks9),.node k8 n8 m8 a8 ks8] (.slice (some ⟨gq,0,none⟩) 2 cq)):=by
          refine zbn (ks:=[(.node k9 n9 m9 a9 ks9)]) (us:=[.node k8 n8 m8 a8 ks8]) (sl:=.slice (some ⟨wa.heap.size,0,none⟩) 1 1) (fun g e=>?_) (fun b=>b<w3.heap.size) (zay ((Ca.out.below hBw).weaken (fun b h=>?_))) (zay ((TreeAt.below (TreeAt.there _ _ Bz.out) hBw).weaken (fun b h=>?_))) hown hgrow wb.heap.size (Nat.le_refl _) ⟨Or.inr (by omega),by omega,by omega⟩ ?_
          · have e2:wa.heap.size=g:=Option.some.inj e;exact ⟨Or.inr (by omega),by omega,by omega⟩
          · have h0:=hbb b h;refine ⟨⟨⟨Or.inl h,by omega,by omega⟩,fun e=>?_⟩,by show b<w3.heap.size;omega⟩;have e2:wa.heap.size=b:=Option.some.inj e;omega
          · have h1:w3.heap.size<=b:=h.1;refine ⟨⟨⟨Or.inr (by omega),by omega,by omega⟩,fun e=>?_⟩,Nat.not_lt.2 h1⟩;have e2:wa.heap.size=b:=Option.some.inj e;omega
          · rcases hat with e|e
            · exact Or.inl e.symm
            · exact Or.inr (by rw [e];rfl)
         obtain ⟨⟨j0,j1,j2,j3,j4⟩,⟨g0,g1,g2,g3,g4⟩⟩:=zaa Ac.out.1;clear hown hgrow hat hlt hp hbb hlt2 hl1 hr2 hq2 hwl2 h3l hl35 hBw hsb hgr))
     all_goals (
      have hp:=HP.out;have hlt2:=Aw.out;have hwl2:=Ac.out.2;have hz6:∀ b,b≠w1.heap.size->(w6.setCell ⟨w1.heap.size,4,none⟩ (.slice (some ⟨gq,0,none⟩) 2 cq)).heap[b]?=w6.heap[b]?:=fun b hb=>Below.heap_setCell _ _ _ _ hb;have Ad:Hid (Kep w (w6.setCell ⟨w1.heap.size,4,none⟩ (.slice (some ⟨gq,0,none⟩) 2 cq)) w1.heap.size (kidO 16 t.text 0 t.at_ (.slice (some ⟨gq,0,none⟩) 2 cq))):=⟨zhn Ac.out.1,Ac.out.2⟩;have Ae:Hid (Kep w (w6.setCell ⟨w1.heap.size,4,none⟩ (.slice (some ⟨gq,0,none⟩) 2 cq)) wa2.heap.size (kidO 0 [] 0 0 (.slice none 0 0))):=Bb.out.but hz6 (by omega);have Ar:Hid (PP (w6.setCell ⟨w1.heap.size,4,none⟩ (.slice (some ⟨gq,0,none⟩) 2 cq)) p g cap ts i d full):=Cb.out.sole_but (by omega) (by omega) hz6;have Aj:Hid (Sole p w (w6.setCell ⟨w1.heap.size,4,none⟩ (.slice (some ⟨gq,0,none⟩) 2 cq))):=Cc.out.below_after ((Below.refl _ _).setCell hwl2 _);have Au:Hid (ListAt (fun b=>Mix A0 w.heap.size b∧b≠w1.heap.size∧b≠wa2.heap.size) (w6.setCell ⟨w1.heap.size,4,none⟩ (.slice (some ⟨gq,0,none⟩) 2 cq)) [(.node k9 n9 m9 a9 ks9),.node k8 n8 m8 a8 ks8] (.slice (some ⟨gq,0,none⟩) 2 cq)):=Cd.out.but (fun b h=>h.2.1) hz6;generalize w6.setCell ⟨w1.heap.size,4,none⟩ (.slice (some ⟨gq,0,none⟩) 2 cq)=wc at Ad Ae Ar Aj Au ⊢;clear hp hlt2 hwl2 hz6;have Af:Hid (Calls Tryz.prog 41 #[.pointer (some ⟨p,0,none⟩),.slice (some ⟨wc.heap.size,0,none⟩) 1 1] (wc.alloc (.cells #[.string ⟨#[62]⟩] 9)) (zai p g cap ts d zf3 ((PSof ts i full).want [62]) wc)):=zbr p g cap ts HE.out i d full [62] (by simp) wc Ar.out;obtain ⟨rw_,hrw⟩:∃ r,(PSof ts i full).want [62]=r:=⟨_,rfl⟩;have Ao:Hid (R=rw_.bind fun _ s=>.ok (named 16 t [(.node k9 n9 m9 a9 ks9),.node k8 n8 m8 a8 ks8]) s):=by
       show _=_;rw [Aq.out];first|(rw [<- hrw];done)|(rw [<- hrw];rfl)
      rw [hrw] at Af;clear hrw;(go_wp2_with fail);refine Af.out.mono ?_;cases rw_ with
      | no why at_ =>
       rintro e w8 ⟨rfl,hS⟩;have HS:Hid (Sole p w w8):=Aj.out.trans hS;clear hS;go_wp2;refine ⟨rfl,?_⟩;rw [Ao.out];exact ⟨rfl,HS.out⟩
      | ok u st =>
       rintro e w8 ⟨v,i,full,rfl,rfl,rfl,hP,hS⟩;have hp:=HP.out;have hb:=Ai.out;have Bc:Hid (PP w8 p g cap ts i d full):=hP;have Bd:Hid (Sole p w w8):=Aj.out.trans hS;have Be:Hid (ListAt (fun b=>Mix A0 w.heap.size b∧b≠w1.heap.size∧b≠wa2.heap.size) w8 [(.node k9 n9 m9 a9 ks9),.node k8 n8 m8 a8 ks8] (.slice (some ⟨gq,0,none⟩) 2 cq)):=Au.out.sole (fun b h=>by rcases h.1 with h1|h1;exact (hb b h1).1;omega) hS;have Aa:Hid (Kep w w8 wa2.heap.size (kidO 0 [] 0 0 (.slice none 0 0))):=Ae.out.sole hp.1 hS;obtain ⟨⟨z0,z1,z2,z3,z4⟩,⟨y0,y1,y2,y3,y4⟩⟩:=zaa Aa.out.1;obtain ⟨⟨l0,l1,l2,l3,l4⟩,_⟩:=zaa (Ad.out.sole hp.1 hS).1;clear hP hS hp hb;go_wp2;have q:=res5 w8 wa2.heap.size (.int .i64 16) (.string ⟨t.text.toArray⟩) (.int .i64 0) (.int .i64 t.at_) (.slice (some ⟨gq,0,none⟩) 2 cq) z0 z1 z2 z3 z4;have hf:=fin5 (k:=16) (n:=t.text) (m:=0) (a:=t.at_) (sl:=(.slice (some ⟨gq,0,none⟩) 2 cq)) Aa.out.2 Bd.out _ rfl;generalize ((((w8.setCell ⟨wa2.heap.size,0,none⟩ (.int .i64 16)).setCell ⟨wa2.heap.size,1,none⟩ (.string ⟨t.text.toArray⟩)).setCell ⟨wa2.heap.size,2,none⟩ (.int .i64 0)).setCell ⟨wa2.heap.size,3,none⟩ (.int .i64 t.at_)).setCell ⟨wa2.heap.size,4,none⟩ (.slice (some ⟨gq,0,none⟩) 2 cq)=wz at q hf ⊢;obtain ⟨q0,q1,q2,q3,q4⟩:=q;refine bodyPost_ret (v:=.agg #[.int .i64 16,.string ⟨t.text.toArray⟩,.int .i64 0,.int .i64 t.at_,(.slice (some ⟨gq,0,none⟩) 2 cq)]) (by simp [results,Tryz.results141,go_sem,q0,q1,q2,q3,q4]) rfl ?_;rw [Ao.out];have hr2:=Aa.out.2;have hp:=HP.out;exact ⟨_,i,full,rfl,zbt Be.out (fun b h=>h.1) (fun b h=>h.2.2) hf.2,rfl,Bc.out.sole_but (by omega) (by omega) hf.2,hf.1⟩)
  · rw [hse] at Ap;have Aq:Hid (R=((PSof ts i full).want [62]).bind fun _ s=>.ok (named 16 t [(.node k9 n9 m9 a9 ks9)]) s):=by
     show _=_;rw [Ax.out];show (if _ then _ else _)=_;rw [hse,if_pos rfl]
    clear hse;(go_wp2_with fail);refine Ap.out.mono ?_;rintro e w3 ⟨rfl,hB3⟩;have hp:=HP.out;have hbb:=Ai.out;have hlt2:=Aw.out;have hr2:=Ag.out.2;have Ar:Hid (PP w3 p g cap ts i d full):=Bh.out.below hB3;have Aj:Hid (Sole p w w3):=Bi.out.trans (Sole.of_below hB3);have Au:Hid (ListAt (fun b=>Mix A0 w.heap.size b∧b≠w1.heap.size∧b≠wa2.heap.size) w3 [(.node k9 n9 m9 a9 ks9)] (.slice (some ⟨wa.heap.size,0,none⟩) 1 1)):=by
     refine zbd (Ak.out.below hB3).1 (by simp) ⟨Or.inr (by omega),by omega,by omega⟩ (zay ((Bj.out.below hB3).weaken (fun b h=>?_)));have h0:=hbb b h;exact ⟨⟨Or.inl h,by omega,by omega⟩,by omega⟩
    have Ae:Hid (Kep w w3 wa2.heap.size (kidO 0 [] 0 0 (.slice none 0 0))):=Ag.out.below hB3;have Ad:Hid (Kep w w3 w1.heap.size (kidO 16 t.text 0 t.at_ (.slice (some ⟨wa.heap.size,0,none⟩) 1 1))):=Al.out.below hB3;clear hB3 hp hbb hlt2 hr2;have Af:Hid (Calls Tryz.prog 41 #[.pointer (some ⟨p,0,none⟩),.slice (some ⟨w3.heap.size,0,none⟩) 1 1] (w3.alloc (.cells #[.string ⟨#[62]⟩] 9)) (zai p g cap ts d zf3 ((PSof ts i full).want [62]) w3)):=zbr p g cap ts HE.out i d full [62] (by simp) w3 Ar.out;obtain ⟨rw_,hrw⟩:∃ r,(PSof ts i full).want [62]=r:=⟨_,rfl⟩;have Ao:Hid (R=rw_.bind fun _ s=>.ok (named 16 t [(.node k9 n9 m9 a9 ks9)]) s):=by
     show _=_;rw [Aq.out];first|(rw [<- hrw];done)|(rw [<- hrw];rfl)
    rw [hrw] at Af;clear hrw;(go_wp2_with fail);refine Af.out.mono ?_;cases rw_ with
    | no why at_ =>
     rintro e w8 ⟨rfl,hS⟩;have HS:Hid (Sole p w w8):=Aj.out.trans hS;clear hS;go_wp2;refine ⟨rfl,?_⟩;rw [Ao.out];exact ⟨rfl,HS.out⟩
    | ok u st =>
     rintro e w8 ⟨v,i,full,rfl,rfl,rfl,hP,hS⟩;have hp:=HP.out;have hb:=Ai.out;have Bc:Hid (PP w8 p g cap ts i d full):=hP;have Bd:Hid (Sole p w w8):=Aj.out.trans hS;have Be:Hid (ListAt (fun b=>Mix A0 w.heap.size b∧b≠w1.heap.size∧b≠wa2.heap.size) w8 [(.node k9 n9 m9 a9 ks9)] (.slice (some ⟨wa.heap.size,0,none⟩) 1 1)):=Au.out.sole (fun b h=>by rcases h.1 with h1|h1;exact (hb b h1).1;omega) hS;have Aa:Hid (Kep w w8 wa2.heap.size (kidO 0 [] 0 0 (.slice none 0 0))):=Ae.out.sole hp.1 hS;obtain ⟨⟨z0,z1,z2,z3,z4⟩,⟨y0,y1,y2,y3,y4⟩⟩:=zaa Aa.out.1;obtain ⟨⟨l0,l1,l2,l3,l4⟩,_⟩:=zaa (Ad.out.sole hp.1 hS).1;clear hP hS hp hb;go_wp2;have q:=res5 w8 wa2.heap.size (.int .i64 16) (.string ⟨t.text.toArray⟩) (.int .i64 0) (.int .i64 t.at_) (.slice (some ⟨wa.heap.size,0,none⟩) 1 1) z0 z1 z2 z3 z4;have hf:=fin5 (k:=16) (n:=t.text) (m:=0) (a:=t.at_) (sl:=(.slice (some ⟨wa.heap.size,0,none⟩) 1 1)) Aa.out.2 Bd.out _ rfl;generalize ((((w8.setCell ⟨wa2.heap.size,0,none⟩ (.int .i64 16)).setCell ⟨wa2.heap.size,1,none⟩ (.string ⟨t.text.toArray⟩)).setCell ⟨wa2.heap.size,2,none⟩ (.int .i64 0)).setCell ⟨wa2.heap.size,3,none⟩ (.int .i64 t.at_)).setCell ⟨wa2.heap.size,4,none⟩ (.slice (some ⟨wa.heap.size,0,none⟩) 1 1)=wz at q hf ⊢;obtain ⟨q0,q1,q2,q3,q4⟩:=q;refine bodyPost_ret (v:=.agg #[.int .i64 16,.string ⟨t.text.toArray⟩,.int .i64 0,.int .i64 t.at_,(.slice (some ⟨wa.heap.size,0,none⟩) 1 1)]) (by simp [results,Tryz.results141,go_sem,q0,q1,q2,q3,q4]) rfl ?_;rw [Ao.out];have hr2:=Aa.out.2;have hp:=HP.out;exact ⟨_,i,full,rfl,zbt Be.out (fun b h=>h.1) (fun b h=>h.2.2) hf.2,rfl,Bc.out.sole_but (by omega) (by omega) hf.2,hf.1⟩
theorem Ends.sees {ts:List Tok} (hE:Ends ts) {i:Nat} {full:Bool} (hi:i<ts.length) {t:List UInt8} (ht:t≠[]) (h:(PSof ts i full).sees t=true):i+1<ts.length:=by
 refine hE.text hi ?_;unfold PS.sees at h;rw [zb7 ts i full hi] at h;rw [show (ts[i]'hi).text=t by simpa using h];exact ht
theorem zf6 (p g cap:Nat) (ts:List Tok) (i:Nat) (d:Int) (full:Bool) (t:List UInt8) (w:World) (h:PP w p g cap ts i d full) :
 Calls Tryz.prog 75 #[.pointer (some ⟨p,0,none⟩),.string ⟨t.toArray⟩] w fun e w'=>e=.returned (.bool ((PSof ts i full).sees t))∧Below w.heap.size w w':=by
 have hx:=ze5 p g cap ts i d full ⟨t.toArray⟩ w h;rw [ByteArray.toList_mk] at hx;exact hx
theorem zee (p g cap:Nat) (ts:List Tok) (hE:Ends ts) (i:Nat) (d:Int) (full:Bool) (k9:Int) (n9:List UInt8) (m9:Int) (a9:Nat) (ks9:List Tree) (o9:Option Addr) (l9 c9:Nat) (A0:Nat->Prop) (w:World) (h:PP w p g cap ts i d full)
 (hA0:∀ b,A0 b->b≠p∧b<w.heap.size) (hT:TreeAt A0 w (.node k9 n9 m9 a9 ks9) (kidV k9 n9 m9 a9 (.slice o9 l9 c9))) :
 Calls Tryz.prog 111 #[.pointer (some ⟨p,0,none⟩),(kidV k9 n9 m9 a9 (.slice o9 l9 c9))] w (zai p g cap ts d (mixIs A0 w.heap.size) (zdq k9 (.node k9 n9 m9 a9 ks9) (PSof ts i full)) w):=by
 have HP:=hid2 h.plt h.glt;have Ao:=hid hA0;have HE:=hid hE;obtain ⟨R,hR⟩:∃ R,zdq k9 (.node k9 n9 m9 a9 ks9) (PSof ts i full)=R:=⟨_,rfl⟩;rw [hR];have Bw:=hid hR.symm;unfold kidV;obtain ⟨wa1,hwa1⟩:∃ x,w.alloc (.cells #[.int .i64 k9,.string ⟨n9.toArray⟩,.int .i64 m9,.int .i64 a9,.slice o9 l9 c9] 29)=x:=⟨_,rfl⟩;obtain ⟨wa,hwa⟩:∃ x,wa1.alloc (.cells #[.int .i64 0,.string ⟨#[]⟩,.int .i64 0,.int .i64 0,.slice none 0 0] 29)=x:=⟨_,rfl⟩;have b1:Below w.heap.size w wa1:=by rw [<- hwa1];exact zab _ _
 have b2:Below w.heap.size w wa:=by rw [<- hwa];exact b1.alloc b1.size _
 have Bx:Hid (Kep w wa w.heap.size (kidO k9 n9 m9 a9 (.slice o9 l9 c9))):=by show Kep w wa _ _;rw [<- hwa,<- hwa1];exact (Kep.new (Nat.le_refl _) _).alloc _
 have Bz:Hid (Kep w wa wa1.heap.size (kidO 0 [] 0 0 (.slice none 0 0))):=by show Kep w wa _ _;rw [<- hwa];exact Kep.new b1.size _
 have Ca:=hid (hT.below b2);have Bq:Hid (Sole p w wa):=Sole.of_below b2;have HN:=hid (zco p g cap ts hE i d full wa (h.below b2));obtain ⟨rn,hrn⟩:∃ r,zcp (PSof ts i full)=r:=⟨_,rfl⟩;have Bi:Hid (R=rn.bind fun t s=>(if s.sees [91]&&k9 != 26 then s.take.bind fun _ s=>(zbz s).bind fun v s=>(s.want [93]).bind fun _ s=>.ok (named 15 t [(.node k9 n9 m9 a9 ks9),v]) s else if s.sees [60] then (s.want [60]).bind fun _ s=>if s.sees [62] then (s.want [62]).bind fun _ s=>.ok (named 16 t [(.node k9 n9 m9 a9 ks9)]) s else (zbz s).bind fun v s=>(s.want [62]).bind fun _ s=>.ok (named 16 t [(.node k9 n9 m9 a9 ks9),v]) s else if k9==25||k9==26 then s.bad 40 else .ok (named 14 t [(.node k9 n9 m9 a9 ks9)]) s)):=by
  show _=_;rw [Bw.out,<- hrn];rfl
 rw [hrn] at HN;clear b1 b2 h hT hE hA0 hR hrn;go_enter Tryz.func111,Tryz.ntmps111
 go_wp2_with fail
 refine HN.out.mono ?_;cases rn with
 | no why at_ =>
  rintro e w99 ⟨rfl,hS⟩;have Ah:=hid (Bq.out.trans hS);clear hS;go_wp2;refine ⟨rfl,?_⟩;rw [Bi.out];exact ⟨rfl,Ah.out⟩
 | ok t st =>
  rintro e w2 ⟨v,i,full,rfl,rfl,rfl,hP,hS⟩;obtain ⟨w3,hw3⟩:∃ x,w2.alloc (.cells #[.int .i64 t.kind,.string ⟨t.text.toArray⟩,.int .i64 t.num,.int .i64 t.at_] 41)=x:=⟨_,rfl⟩;have hp:=HP.out.1;have hs2:Sole p w w2:=Bq.out.trans hS;have Bg:Hid (PP w3 p g cap ts i d full):=by show PP w3 _ _ _ _ _ _ _;rw [<- hw3];exact hP.alloc _
  have Bj:Hid (Sole p w w3):=by show Sole p w w3;rw [<- hw3];exact hs2.alloc _
  have Ay:Hid (Kep w w3 w.heap.size (kidO k9 n9 m9 a9 (.slice o9 l9 c9))):=by show Kep w w3 _ _;rw [<- hw3];exact (Bx.out.sole hp hS).alloc _
  have Az:Hid (Kep w w3 wa1.heap.size (kidO 0 [] 0 0 (.slice none 0 0))):=by show Kep w w3 _ _;rw [<- hw3];exact (Bz.out.sole hp hS).alloc _
  have Ba:Hid (Kep w w3 w2.heap.size (tokO t)):=by show Kep w w3 _ _;rw [<- hw3];exact Kep.new hs2.size _
  have Bl:Hid (TreeAt A0 w3 (.node k9 n9 m9 a9 ks9) (kidV k9 n9 m9 a9 (.slice o9 l9 c9))):=by show TreeAt _ w3 _ _;rw [<- hw3];exact (Ca.out.sole (fun b h=>(Ao.out b h).1) hS).below (zab _ _)
  have Au:=hid (zf6 p g cap ts i d full [91] w3 Bg.out);clear hP hS hp hs2 hwa1 hwa;unfold tokV;cases hse:(PSof ts i full).sees [91]
  · rw [hse] at Au;have Aw:Hid (R=(if (PSof ts i full).sees [60] then ((PSof ts i full).want [60]).bind fun _ s=>if s.sees [62] then (s.want [62]).bind fun _ s=>.ok (named 16 t [(.node k9 n9 m9 a9 ks9)]) s else (zbz s).bind fun v s=>(s.want [62]).bind fun _ s=>.ok (named 16 t [(.node k9 n9 m9 a9 ks9),v]) s else if k9==25||k9==26 then (PSof ts i full).bad 40 else .ok (named 14 t [(.node k9 n9 m9 a9 ks9)]) (PSof ts i full))):=by
     show _=_;rw [Bi.out];show (if _ then _ else _)=_;rw [hse,if_neg (by simp)]
    clear hse;(go_wp2_with fail);clear hw3;refine Au.out.mono ?_;rintro e w4 ⟨rfl,hB4⟩;have Ap:=hid (Bg.out.below hB4);have Ar:=hid (Bj.out.trans (Sole.of_below hB4));have Ad:=hid (Ay.out.below hB4);have Ai:=hid (Az.out.below hB4);have Aj:=hid (Ba.out.below hB4);have Av:=hid (Bl.out.below hB4);obtain ⟨⟨u0,u1,u2,u3,u4⟩,_⟩:=zaa Ad.out.1;clear hB4;have Ae:=hid (zf6 p g cap ts i d full [60] w4 Ap.out);cases hse:(PSof ts i full).sees [60]
    · rw [hse] at Ae;by_cases hk25:k9=25∨k9=26
      · have Al:Hid (R=(PSof ts i full).bad 40):=by
         show _=_;rw [Aw.out,hse,if_neg (by simp),if_pos (by rcases hk25 with e|e <;> simp [e])]
        clear hse;by_cases e25:k9=25
        · have hk5:(k9==25)=true:=(by simp [e25]);clear hk25 e25;(go_wp2_with fail);refine Ae.out.mono ?_;rintro e w5 ⟨rfl,hB5⟩;have Ak:=hid (Ap.out.below hB5);have Af:=hid (Ar.out.trans (Sole.of_below hB5));have Ab:=hid (Ad.out.below hB5);have Aa:=hid (Ai.out.below hB5);have Ag:=hid (Aj.out.below hB5);have Aq:=hid (Av.out.below hB5);clear hB5;have Bb:=hid (zdb p g cap ts i d 40 full w5 Ak.out);have Am:Hid (R=.no 40 (ts[i]'Ak.out.il).at_):=by
           show _=_;rw [Al.out];unfold PS.bad;rw [zb7 ts i full Ak.out.il]
          obtain ⟨⟨v0,v1,v2,v3,v4⟩,_⟩:=zaa Ab.out.1;(go_wp2_with fail);refine Bb.out.mono ?_;rintro e w6 ⟨rfl,hB6⟩;have An:=hid (Af.out.trans (Sole.of_below hB6));clear hB6;go_wp2;refine ⟨rfl,?_⟩;rw [Am.out];exact ⟨rfl,An.out⟩
        · have hk5:(k9==25)=false:=(by simp [e25]);have hk6:(k9==26)=true:=(by rcases hk25 with e|e;exact absurd e e25;simp [e]);clear hk25 e25;(go_wp2_with fail);refine Ae.out.mono ?_;rintro e w5 ⟨rfl,hB5⟩;have Ak:=hid (Ap.out.below hB5);have Af:=hid (Ar.out.trans (Sole.of_below hB5));have Ab:=hid (Ad.out.below hB5);have Aa:=hid (Ai.out.below hB5);have Ag:=hid (Aj.out.below hB5);have Aq:=hid (Av.out.below hB5);clear hB5;have Bb:=hid (zdb p g cap ts i d 40 full w5 Ak.out);have Am:Hid (R=.no 40 (ts[i]'Ak.out.il).at_):=by
           show _=_;rw [Al.out];unfold PS.bad;rw [zb7 ts i full Ak.out.il]
          obtain ⟨⟨v0,v1,v2,v3,v4⟩,_⟩:=zaa Ab.out.1;(go_wp2_with fail);refine Bb.out.mono ?_;rintro e w6 ⟨rfl,hB6⟩;have An:=hid (Af.out.trans (Sole.of_below hB6));clear hB6;go_wp2;refine ⟨rfl,?_⟩;rw [Am.out];exact ⟨rfl,An.out⟩
      · have Al:Hid (R=.ok (named 14 t [(.node k9 n9 m9 a9 ks9)]) (PSof ts i full)):=by
         show _=_;rw [Aw.out,hse,if_neg (by simp),if_neg (by simp;omega)]
        have hk5:(k9==25)=false:=(by simp;omega);have hk6:(k9==26)=false:=(by simp;omega);clear hse hk25;(go_wp2_with fail);refine Ae.out.mono ?_;rintro e w5 ⟨rfl,hB5⟩;have Ak:=hid (Ap.out.below hB5);have Af:=hid (Ar.out.trans (Sole.of_below hB5));have Ab:=hid (Ad.out.below hB5);have Aa:=hid (Ai.out.below hB5);have Ag:=hid (Aj.out.below hB5);have Aq:=hid (Av.out.below hB5);clear hB5;obtain ⟨wq,hwq⟩:∃ x,w5.alloc (.cells #[.int .i64 k9,.string ⟨n9.toArray⟩,.int .i64 m9,.int .i64 a9,.slice o9 l9 c9] 29)=x:=⟨_,rfl⟩;have hBq:Below w5.heap.size w5 wq:=(by rw [<- hwq];exact zab _ _);have Ax:=hid (zdf 14 t (some ⟨w5.heap.size,0,none⟩) 1 1 wq);have HQ:Hid (Below w5.heap.size w5 wq∧wq.heap[w5.heap.size]?=some (zdr [.int .i64 k9,.string ⟨n9.toArray⟩,.int .i64 m9,.int .i64 a9,.slice o9 l9 c9])):=⟨hBq,by rw [<- hwq];exact heap_alloc_new _ _⟩;clear hBq;obtain ⟨t0,t1,t2,t3⟩:=zbo Ag.out.1;obtain ⟨⟨v0,v1,v2,v3,v4⟩,_⟩:=zaa Ab.out.1;unfold tokV at Ax;(go_wp2_with fail);refine Ax.out.mono ?_;rintro e w6 ⟨rfl,hB6⟩;have hp:=HP.out;have hbb:=Ao.out;have h5:=Af.out.size;have hr5:=Aa.out.lt;have hB56:Below w5.heap.size w5 w6:=HQ.out.1.trans (hB6.mono HQ.out.1.size);have Bc:=hid (Ak.out.below hB56);have An:=hid (Af.out.trans (Sole.of_below hB56));have Ac:=hid (Aa.out.below hB56);have Bd:Hid (ListAt (fun b=>Mix A0 w.heap.size b∧b≠wa1.heap.size) w6 [(.node k9 n9 m9 a9 ks9)] (.slice (some ⟨w5.heap.size,0,none⟩) 1 1)):=by
         refine zbd (zaj hB6 HQ.out.2) (by simp) ⟨Or.inr (by omega),by omega⟩ (zay ((Aq.out.below hB56).weaken (fun b h=>?_)));have h0:=hbb b h;have:=Aa.out.2;exact ⟨⟨Or.inl h,by omega⟩,by omega⟩
        clear hB6 hB56 hp hbb h5 hr5 hwq HQ;unfold kidV;obtain ⟨⟨z0,z1,z2,z3,z4⟩,⟨y0,y1,y2,y3,y4⟩⟩:=zaa Ac.out.1;go_wp2;refine ret5 z0 z1 z2 z3 z4 rfl (fun u q0 q1 q2 q3 q4=>by simp [results,Tryz.results111,go_sem,q0,q1,q2,q3,q4]) Ac.out.2 An.out ?_;intro wz hf;rw [Al.out];have hr2:=Ac.out.2;have hpg:=HP.out;exact ⟨_,_,_,rfl,zbt Bd.out (fun b h=>h.1) (fun b h=>h.2) hf.2,rfl,Bc.out.sole_but (by omega) (by omega) hf.2,hf.1⟩
    · rw [hse] at Ae;have Al:Hid (R=listP t (.node k9 n9 m9 a9 ks9) (PSof ts i full)):=by
       show _=_;rw [Aw.out,hse,if_pos rfl];rfl
      clear hse;(go_wp2_with fail);refine Ae.out.mono ?_;rintro e w5 ⟨rfl,hB5⟩;have Ak:=hid (Ap.out.below hB5);have Af:=hid (Ar.out.trans (Sole.of_below hB5));have Ab:=hid (Ad.out.below hB5);have Aa:=hid (Ai.out.below hB5);have Ag:=hid (Aj.out.below hB5);have Aq:=hid (Av.out.below hB5);clear hB5;have Be:=hid (list_any p g cap ts HE.out i d full t k9 n9 m9 a9 ks9 o9 l9 c9 A0 w5 Ak.out (fun b h=>⟨(Ao.out b h).1,Nat.lt_of_lt_of_le (Ao.out b h).2 Af.out.size⟩) Aq.out);obtain ⟨rl,hrl⟩:∃ r,listP t (.node k9 n9 m9 a9 ks9) (PSof ts i full)=r:=⟨_,rfl⟩;have Am:=hid (Al.out.trans hrl);rw [hrl] at Be;clear hrl;obtain ⟨t0,t1,t2,t3⟩:=zbo Ag.out.1;obtain ⟨⟨v0,v1,v2,v3,v4⟩,_⟩:=zaa Ab.out.1;unfold tokV kidV at Be;(go_wp2_with fail);refine Be.out.mono ?_;cases rl with
      | no why at_ =>
       rintro e w99 ⟨rfl,hS⟩;have Ah:=hid (Af.out.trans hS);clear hS;go_wp2;refine ⟨rfl,?_⟩;rw [Am.out];exact ⟨rfl,Ah.out⟩
      | ok tv st =>
       rintro e w6 ⟨v,i,full,rfl,hT,rfl,hP,hS⟩;obtain ⟨k8,n8,m8,a8,ks8⟩:=tv;obtain ⟨sl,rfl,hL⟩:=treeAt_node.1 hT;obtain ⟨o8,l8,c8,rfl⟩:=hL.shape;have Bc:=hid hP;have An:=hid (Af.out.trans hS);have Ac:=hid (Aa.out.sole HP.out.1 hS);have h5r:=Aa.out.lt;have h5s:=Af.out.size;have hr52:=Aa.out.2;have hbb:=Ao.out;have Bd:Hid (ListAt (fun b=>Mix A0 w.heap.size b∧b≠wa1.heap.size) w6 ks8 (.slice o8 l8 c8)):=hL.weaken (fun b h=>by
        rcases h with h|h
        · have h0:=hbb b h;exact ⟨Or.inl h,by omega⟩
        · exact ⟨Or.inr (by omega),by omega⟩)
       clear hP hS hT hL h5r h5s hr52 hbb;unfold kidV;obtain ⟨⟨z0,z1,z2,z3,z4⟩,⟨y0,y1,y2,y3,y4⟩⟩:=zaa Ac.out.1;go_wp2;refine ret5 z0 z1 z2 z3 z4 rfl (fun u q0 q1 q2 q3 q4=>by simp [results,Tryz.results111,go_sem,q0,q1,q2,q3,q4]) Ac.out.2 An.out ?_;intro wz hf;rw [Am.out];have hr2:=Ac.out.2;have hpg:=HP.out;exact ⟨_,_,_,rfl,zbt Bd.out (fun b h=>h.1) (fun b h=>h.2) hf.2,rfl,Bc.out.sole_but (by omega) (by omega) hf.2,hf.1⟩
  · rw [hse] at Au;by_cases hk:k9=26
    · have Aw:Hid (R=(if (PSof ts i full).sees [60] then ((PSof ts i full).want [60]).bind fun _ s=>if s.sees [62] then (s.want [62]).bind fun _ s=>.ok (named 16 t [(.node k9 n9 m9 a9 ks9)]) s else (zbz s).bind fun v s=>(s.want [62]).bind fun _ s=>.ok (named 16 t [(.node k9 n9 m9 a9 ks9),v]) s else if k9==25||k9==26 then (PSof ts i full).bad 40 else .ok (named 14 t [(.node k9 n9 m9 a9 ks9)]) (PSof ts i full))):=by
       show _=_;rw [Bi.out];show (if _ then _ else _)=_;rw [if_neg (by simp [hk])]
      clear hse;have hkn:(k9 != 26)=false:=(by simp [hk]);(go_wp2_with fail);clear hw3;refine Au.out.mono ?_;rintro e w4 ⟨rfl,hB4⟩;have Ap:=hid (Bg.out.below hB4);have Ar:=hid (Bj.out.trans (Sole.of_below hB4));have Ad:=hid (Ay.out.below hB4);have Ai:=hid (Az.out.below hB4);have Aj:=hid (Ba.out.below hB4);have Av:=hid (Bl.out.below hB4);obtain ⟨⟨u0,u1,u2,u3,u4⟩,_⟩:=zaa Ad.out.1;clear hB4;clear hkn;have hkn:(k9 != 26)=false:=(by simp [hk]);clear hk;have Ae:=hid (zf6 p g cap ts i d full [60] w4 Ap.out);cases hse:(PSof ts i full).sees [60]
      · rw [hse] at Ae;by_cases hk25:k9=25∨k9=26
        · have Al:Hid (R=(PSof ts i full).bad 40):=by
           show _=_;rw [Aw.out,hse,if_neg (by simp),if_pos (by rcases hk25 with e|e <;> simp [e])]
          clear hse;by_cases e25:k9=25
          · have hk5:(k9==25)=true:=(by simp [e25]);clear hk25 e25;(go_wp2_with fail);refine Ae.out.mono ?_;rintro e w5 ⟨rfl,hB5⟩;have Ak:=hid (Ap.out.below hB5);have Af:=hid (Ar.out.trans (Sole.of_below hB5));have Ab:=hid (Ad.out.below hB5);have Aa:=hid (Ai.out.below hB5);have Ag:=hid (Aj.out.below hB5);have Aq:=hid (Av.out.below hB5);clear hB5;have Bb:=hid (zdb p g cap ts i d 40 full w5 Ak.out);have Am:Hid (R=.no 40 (ts[i]'Ak.out.il).at_):=by
             show _=_;rw [Al.out];unfold PS.bad;rw [zb7 ts i full Ak.out.il]
            obtain ⟨⟨v0,v1,v2,v3,v4⟩,_⟩:=zaa Ab.out.1;(go_wp2_with fail);refine Bb.out.mono ?_;rintro e w6 ⟨rfl,hB6⟩;have An:=hid (Af.out.trans (Sole.of_below hB6));clear hB6;go_wp2;refine ⟨rfl,?_⟩;rw [Am.out];exact ⟨rfl,An.out⟩
          · have hk5:(k9==25)=false:=(by simp [e25]);have hk6:(k9==26)=true:=(by rcases hk25 with e|e;exact absurd e e25;simp [e]);clear hk25 e25;(go_wp2_with fail);refine Ae.out.mono ?_;rintro e w5 ⟨rfl,hB5⟩;have Ak:=hid (Ap.out.below hB5);have Af:=hid (Ar.out.trans (Sole.of_below hB5));have Ab:=hid (Ad.out.below hB5);have Aa:=hid (Ai.out.below hB5);have Ag:=hid (Aj.out.below hB5);have Aq:=hid (Av.out.below hB5);clear hB5;have Bb:=hid (zdb p g cap ts i d 40 full w5 Ak.out);have Am:Hid (R=.no 40 (ts[i]'Ak.out.il).at_):=by
             show _=_;rw [Al.out];unfold PS.bad;rw [zb7 ts i full Ak.out.il]
            obtain ⟨⟨v0,v1,v2,v3,v4⟩,_⟩:=zaa Ab.out.1;(go_wp2_with fail);refine Bb.out.mono ?_;rintro e w6 ⟨rfl,hB6⟩;have An:=hid (Af.out.trans (Sole.of_below hB6));clear hB6;go_wp2;refine ⟨rfl,?_⟩;rw [Am.out];exact ⟨rfl,An.out⟩
        · have Al:Hid (R=.ok (named 14 t [(.node k9 n9 m9 a9 ks9)]) (PSof ts i full)):=by
           show _=_;rw [Aw.out,hse,if_neg (by simp),if_neg (by simp;omega)]
          have hk5:(k9==25)=false:=(by simp;omega);have hk6:(k9==26)=false:=(by simp;omega);clear hse hk25;(go_wp2_with fail);refine Ae.out.mono ?_;rintro e w5 ⟨rfl,hB5⟩;have Ak:=hid (Ap.out.below hB5);have Af:=hid (Ar.out.trans (Sole.of_below hB5));have Ab:=hid (Ad.out.below hB5);have Aa:=hid (Ai.out.below hB5);have Ag:=hid (Aj.out.below hB5);have Aq:=hid (Av.out.below hB5);clear hB5;obtain ⟨wq,hwq⟩:∃ x,w5.alloc (.cells #[.int .i64 k9,.string ⟨n9.toArray⟩,.int .i64 m9,.int .i64 a9,.slice o9 l9 c9] 29)=x:=⟨_,rfl⟩;have hBq:Below w5.heap.size w5 wq:=(by rw [<- hwq];exact zab _ _);have Ax:=hid (zdf 14 t (some ⟨w5.heap.size,0,none⟩) 1 1 wq);have HQ:Hid (Below w5.heap.size w5 wq∧wq.heap[w5.heap.size]?=some (zdr [.int .i64 k9,.string ⟨n9.toArray⟩,.int .i64 m9,.int .i64 a9,.slice o9 l9 c9])):=⟨hBq,by rw [<- hwq];exact heap_alloc_new _ _⟩;clear hBq;obtain ⟨t0,t1,t2,t3⟩:=zbo Ag.out.1;obtain ⟨⟨v0,v1,v2,v3,v4⟩,_⟩:=zaa Ab.out.1;unfold tokV at Ax;(go_wp2_with fail);refine Ax.out.mono ?_;rintro e w6 ⟨rfl,hB6⟩;have hp:=HP.out;have hbb:=Ao.out;have h5:=Af.out.size;have hr5:=Aa.out.lt;have hB56:Below w5.heap.size w5 w6:=HQ.out.1.trans (hB6.mono HQ.out.1.size);have Bc:=hid (Ak.out.below hB56);have An:=hid (Af.out.trans (Sole.of_below hB56));have Ac:=hid (Aa.out.below hB56);have Bd:Hid (ListAt (fun b=>Mix A0 w.heap.size b∧b≠wa1.heap.size) w6 [(.node k9 n9 m9 a9 ks9)] (.slice (some ⟨w5.heap.size,0,none⟩) 1 1)):=by
           refine zbd (zaj hB6 HQ.out.2) (by simp) ⟨Or.inr (by omega),by omega⟩ (zay ((Aq.out.below hB56).weaken (fun b h=>?_)));have h0:=hbb b h;have:=Aa.out.2;exact ⟨⟨Or.inl h,by omega⟩,by omega⟩
          clear hB6 hB56 hp hbb h5 hr5 hwq HQ;unfold kidV;obtain ⟨⟨z0,z1,z2,z3,z4⟩,⟨y0,y1,y2,y3,y4⟩⟩:=zaa Ac.out.1;go_wp2;refine ret5 z0 z1 z2 z3 z4 rfl (fun u q0 q1 q2 q3 q4=>by simp [results,Tryz.results111,go_sem,q0,q1,q2,q3,q4]) Ac.out.2 An.out ?_;intro wz hf;rw [Al.out];have hr2:=Ac.out.2;have hpg:=HP.out;exact ⟨_,_,_,rfl,zbt Bd.out (fun b h=>h.1) (fun b h=>h.2) hf.2,rfl,Bc.out.sole_but (by omega) (by omega) hf.2,hf.1⟩
      · rw [hse] at Ae;have Al:Hid (R=listP t (.node k9 n9 m9 a9 ks9) (PSof ts i full)):=by
         show _=_;rw [Aw.out,hse,if_pos rfl];rfl
        clear hse;(go_wp2_with fail);refine Ae.out.mono ?_;rintro e w5 ⟨rfl,hB5⟩;have Ak:=hid (Ap.out.below hB5);have Af:=hid (Ar.out.trans (Sole.of_below hB5));have Ab:=hid (Ad.out.below hB5);have Aa:=hid (Ai.out.below hB5);have Ag:=hid (Aj.out.below hB5);have Aq:=hid (Av.out.below hB5);clear hB5;have Be:=hid (list_any p g cap ts HE.out i d full t k9 n9 m9 a9 ks9 o9 l9 c9 A0 w5 Ak.out (fun b h=>⟨(Ao.out b h).1,Nat.lt_of_lt_of_le (Ao.out b h).2 Af.out.size⟩) Aq.out);obtain ⟨rl,hrl⟩:∃ r,listP t (.node k9 n9 m9 a9 ks9) (PSof ts i full)=r:=⟨_,rfl⟩;have Am:=hid (Al.out.trans hrl);rw [hrl] at Be;clear hrl;obtain ⟨t0,t1,t2,t3⟩:=zbo Ag.out.1;obtain ⟨⟨v0,v1,v2,v3,v4⟩,_⟩:=zaa Ab.out.1;unfold tokV kidV at Be;(go_wp2_with fail);refine Be.out.mono ?_;cases rl with
        | no why at_ =>
         rintro e w99 ⟨rfl,hS⟩;have Ah:=hid (Af.out.trans hS);clear hS;go_wp2;refine ⟨rfl,?_⟩;rw [Am.out];exact ⟨rfl,Ah.out⟩
        | ok tv st =>
         rintro e w6 ⟨v,i,full,rfl,hT,rfl,hP,hS⟩;obtain ⟨k8,n8,m8,a8,ks8⟩:=tv;obtain ⟨sl,rfl,hL⟩:=treeAt_node.1 hT;obtain ⟨o8,l8,c8,rfl⟩:=hL.shape;have Bc:=hid hP;have An:=hid (Af.out.trans hS);have Ac:=hid (Aa.out.sole HP.out.1 hS);have h5r:=Aa.out.lt;have h5s:=Af.out.size;have hr52:=Aa.out.2;have hbb:=Ao.out;have Bd:Hid (ListAt (fun b=>Mix A0 w.heap.size b∧b≠wa1.heap.size) w6 ks8 (.slice o8 l8 c8)):=hL.weaken (fun b h=>by
          rcases h with h|h
          · have h0:=hbb b h;exact ⟨Or.inl h,by omega⟩
          · exact ⟨Or.inr (by omega),by omega⟩)
         clear hP hS hT hL h5r h5s hr52 hbb;unfold kidV;obtain ⟨⟨z0,z1,z2,z3,z4⟩,⟨y0,y1,y2,y3,y4⟩⟩:=zaa Ac.out.1;go_wp2;refine ret5 z0 z1 z2 z3 z4 rfl (fun u q0 q1 q2 q3 q4=>by simp [results,Tryz.results111,go_sem,q0,q1,q2,q3,q4]) Ac.out.2 An.out ?_;intro wz hf;rw [Am.out];have hr2:=Ac.out.2;have hpg:=HP.out;exact ⟨_,_,_,rfl,zbt Bd.out (fun b h=>h.1) (fun b h=>h.2) hf.2,rfl,Bc.out.sole_but (by omega) (by omega) hf.2,hf.1⟩
    · have hix:=HE.out.sees Bg.out.il (t:=[91]) (by simp) hse;obtain ⟨rt,hrt⟩:∃ r,(PSof ts i full).take=r:=⟨_,rfl⟩;have Aw:Hid (R=rt.bind fun _ s=>(zbz s).bind fun v s=>(s.want [93]).bind fun _ s=>.ok (named 15 t [(.node k9 n9 m9 a9 ks9),v]) s):=by
       show _=_;rw [Bi.out,<- hrt];show (if _ then _ else _)=_;rw [if_pos (by simp [hse,hk])]
      clear hse;have hkn:(k9 != 26)=true:=(by simp [hk]);(go_wp2_with fail);clear hw3;refine Au.out.mono ?_;rintro e w4 ⟨rfl,hB4⟩;have Ap:=hid (Bg.out.below hB4);have Ar:=hid (Bj.out.trans (Sole.of_below hB4));have Ad:=hid (Ay.out.below hB4);have Ai:=hid (Az.out.below hB4);have Aj:=hid (Ba.out.below hB4);have Av:=hid (Bl.out.below hB4);obtain ⟨⟨u0,u1,u2,u3,u4⟩,_⟩:=zaa Ad.out.1;clear hB4;have Br:=hid (zdn p g cap ts i d full w4 Ap.out hix);rw [hrt] at Br;clear hrt hix hk;(go_wp2_with fail);refine Br.out.mono ?_;cases rt with
      | no why at_ =>
       rintro e w99 ⟨rfl,hS⟩;have Ah:=hid (Ar.out.trans hS);clear hS;go_wp2;refine ⟨rfl,?_⟩;rw [Aw.out];exact ⟨rfl,Ah.out⟩
      | ok tk st =>
       rintro e w5 ⟨v,i,full,rfl,rfl,rfl,hP,hS⟩;have hp:=HP.out.1;have Bs:=hid (zck p g cap ts HE.out i d full w5 hP);have Af:=hid (Ar.out.trans hS);have Ab:=hid (Ad.out.sole hp hS);have Aa:=hid (Ai.out.sole hp hS);have Ag:=hid (Aj.out.sole hp hS);have Aq:=hid (Av.out.sole (fun b h=>(Ao.out b h).1) hS);obtain ⟨rv,hrv⟩:∃ r,zbz (PSof ts i full)=r:=⟨_,rfl⟩;have Al:Hid (R=rv.bind fun v s=>(s.want [93]).bind fun _ s=>.ok (named 15 t [(.node k9 n9 m9 a9 ks9),v]) s):=by
        show _=_;rw [Aw.out,<- hrv];rfl
       rw [hrv] at Bs;clear hP hS hp hrv;unfold tokV;(go_wp2_with fail);refine Bs.out.mono ?_;cases rv with
       | no why at_ =>
        rintro e w99 ⟨rfl,hS⟩;have Ah:=hid (Af.out.trans hS);clear hS;go_wp2;refine ⟨rfl,?_⟩;rw [Al.out];exact ⟨rfl,Ah.out⟩
       | ok tv st =>
        rintro e w6 ⟨v,i,full,rfl,hT,rfl,hP,hS⟩;obtain ⟨k8,n8,m8,a8,ks8⟩:=tv;obtain ⟨sl,rfl,hL⟩:=treeAt_node.1 hT;obtain ⟨o8,l8,c8,rfl⟩:=hL.shape;have hp:=HP.out.1;obtain ⟨w7,hw7⟩:∃ x,w6.alloc (.cells #[.int .i64 k8,.string ⟨n8.toArray⟩,.int .i64 m8,.int .i64 a8,.slice o8 l8 c8] 29)=x:=⟨_,rfl⟩;have hB7:Below w6.heap.size w6 w7:=(by rw [<- hw7];exact zab _ _);have hs6:Sole p w w6:=Af.out.trans hS;have Cb:=hid (hP.below hB7);have Bt:=hid (hs6.trans (Sole.of_below hB7));have Bm:=hid ((Ab.out.sole hp hS).below hB7);have Bn:=hid ((Aa.out.sole hp hS).below hB7);have Bo:=hid ((Ag.out.sole hp hS).below hB7);have Bp:Hid (Kep w w7 w6.heap.size (kidO k8 n8 m8 a8 (.slice o8 l8 c8))):=(by show Kep w w7 _ _;rw [<- hw7];exact Kep.new hs6.size _);have Cc:=hid ((Aq.out.sole (fun b h=>(Ao.out b h).1) hS).below hB7);have Cd:=hid (TreeAt.below hT hB7);have Bu:Hid (wa1.heap.size<w5.heap.size∧w.heap.size<=w5.heap.size∧w5.heap.size<=w6.heap.size∧w6.heap.size<w7.heap.size):=⟨Aa.out.lt,Af.out.size,hS.size,by rw [<- hw7];simp⟩;clear hP hS hp hB7 hs6 hT hL;unfold kidV;have Bv:=hid (zbr p g cap ts HE.out i d full [93] (by simp) w7 Cb.out);obtain ⟨ru,hru⟩:∃ r,(PSof ts i full).want [93]=r:=⟨_,rfl⟩;have Am:Hid (R=ru.bind fun _ s=>.ok (named 15 t [(.node k9 n9 m9 a9 ks9),(.node k8 n8 m8 a8 ks8)]) s):=by
         show _=_;rw [Al.out];first|(rw [<- hru];done)|(rw [<- hru];rfl)
        rw [hru] at Bv;clear hru;(go_wp2_with fail);refine Bv.out.mono ?_;clear hw7;cases ru with
        | no why at_ =>
         rintro e w99 ⟨rfl,hS⟩;have Ah:=hid (Bt.out.trans hS);clear hS;go_wp2;refine ⟨rfl,?_⟩;rw [Am.out];exact ⟨rfl,Ah.out⟩
        | ok u st =>
         rintro e w8 ⟨v,i,full,rfl,rfl,rfl,hP,hS⟩;have hp:=HP.out.1;have Ce:=hid hP;have Cf:=hid (Bt.out.trans hS);have Bh:=hid (Bn.out.sole hp hS);have Cg:=hid (Cc.out.sole (fun b h=>(Ao.out b h).1) hS);have Ch:Hid (TreeAt (zaf w5.heap.size) w8 (.node k8 n8 m8 a8 ks8) (kidV k8 n8 m8 a8 (.slice o8 l8 c8))):=Cd.out.sole (fun b h=>by have h1:w5.heap.size<=b:=h;have:=Bu.out;omega) hS;have Ci:=hid hS.size;obtain ⟨t0,t1,t2,t3⟩:=zbo (Bo.out.sole hp hS).1;obtain ⟨⟨v0,v1,v2,v3,v4⟩,_⟩:=zaa (Bm.out.sole hp hS).1;obtain ⟨⟨x0,x1,x2,x3,x4⟩,_⟩:=zaa (Bp.out.sole hp hS).1;obtain ⟨wq,hwq⟩:∃ x,w8.alloc (.cells #[.int .i64 k9,.string ⟨n9.toArray⟩,.int .i64 m9,.int .i64 a9,.slice o9 l9 c9,.int .i64 k8,.string ⟨n8.toArray⟩,.int .i64 m8,.int .i64 a8,.slice o8 l8 c8] 29)=x:=⟨_,rfl⟩;have hBq:Below w8.heap.size w8 wq:=(by rw [<- hwq];exact zab _ _);have Ax:=hid (zdf 15 t (some ⟨w8.heap.size,0,none⟩) 2 2 wq);have HQ:Hid (Below w8.heap.size w8 wq∧wq.heap[w8.heap.size]?=some (zdr [.int .i64 k9,.string ⟨n9.toArray⟩,.int .i64 m9,.int .i64 a9,.slice o9 l9 c9,.int .i64 k8,.string ⟨n8.toArray⟩,.int .i64 m8,.int .i64 a8,.slice o8 l8 c8])):=⟨hBq,by rw [<- hwq];exact heap_alloc_new _ _⟩;clear hP hS hp hBq;unfold tokV at Ax;(go_wp2_with fail);refine Ax.out.mono ?_;rintro e w9 ⟨rfl,hB9⟩;have hbb:=Ao.out;have hle:=Bu.out;have h78:=Ci.out;have hr82:=Bh.out.2;have hB89:Below w8.heap.size w8 w9:=HQ.out.1.trans (hB9.mono HQ.out.1.size);have Cj:=hid (Ce.out.below hB89);have Ck:=hid (Cf.out.trans (Sole.of_below hB89));have Bf:=hid (Bh.out.below hB89);have Cl:Hid (ListAt (fun b=>Mix A0 w.heap.size b∧b≠wa1.heap.size) w9 [(.node k9 n9 m9 a9 ks9),(.node k8 n8 m8 a8 ks8)] (.slice (some ⟨w8.heap.size,0,none⟩) 2 2)):=by
          refine zbd (zaj hB9 HQ.out.2) (by simp) ⟨Or.inr (by omega),by omega⟩ (RowV.append (fun b=>b<w5.heap.size) [_] [_] _ _ (zay ((Cg.out.below hB89).weaken (fun b h=>?_))) (zay ((TreeAt.below (TreeAt.there _ _ Ch.out) hB89).weaken (fun b h=>?_))))
          · have h0:=hbb b h;exact ⟨⟨⟨Or.inl h,by omega⟩,by omega⟩,by show b<w5.heap.size;omega⟩
          · have h1:w5.heap.size<=b:=h.1;exact ⟨⟨⟨Or.inr (by omega),by omega⟩,by omega⟩,Nat.not_lt.2 h1⟩
         clear hB9 hB89 hbb hle h78 hr82 hwq HQ;unfold kidV;obtain ⟨⟨z0,z1,z2,z3,z4⟩,⟨y0,y1,y2,y3,y4⟩⟩:=zaa Bf.out.1;go_wp2;refine ret5 z0 z1 z2 z3 z4 rfl (fun u q0 q1 q2 q3 q4=>by simp [results,Tryz.results111,go_sem,q0,q1,q2,q3,q4]) Bf.out.2 Ck.out ?_;intro wz hf;rw [Am.out];have hr2:=Bf.out.2;have hpg:=HP.out;exact ⟨_,_,_,rfl,zbt Cl.out (fun b h=>h.1) (fun b h=>h.2) hf.2,rfl,Cj.out.sole_but (by omega) (by omega) hf.2,hf.1⟩
theorem treeIs.made {B:Nat} {w:World} {t:Tree} {v:Value} (h:treeIs B t w v):TreeAt (fun b=>B<=b∧b<w.heap.size) w t v:=TreeAt.there _ _ h
theorem zj7 (p g cap:Nat) (ts:List Tok) (hE:Ends ts) (d:Int) (i:Nat) (full:Bool) (w:World) (h:PP w p g cap ts i d full) (hw:((ts[i]'h.il).text==[111,112,97,113,117,101])=true) :
 Calls Tryz.prog 70 #[.pointer (some ⟨p,0,none⟩)] w (zai p g cap ts d (treeIs w.heap.size) ((zcw 25 (PSof ts i full)).bind fun t s=>zdq 25 t s) w):=by
 have hix:i+1<ts.length:=hE.text h.il (by rw [show (ts[i]'h.il).text=[111,112,97,113,117,101] by simpa using hw];simp);have HP:=hid2 h.plt h.glt;have HE:=hid hE;have H:=hid h;obtain ⟨tk,htk⟩:∃ x,ts[i]'h.il=x:=⟨_,rfl⟩;obtain ⟨wa,hwa⟩:∃ x,w.alloc (.cells #[.int .i64 0,.string ⟨#[]⟩,.int .i64 0,.int .i64 0,.slice none 0 0] 29)=x:=⟨_,rfl⟩;have b1:Below w.heap.size w wa:=by rw [<- hwa];exact zab _ _
 have Al:Hid (Kep w wa w.heap.size (kidO 0 [] 0 0 (.slice none 0 0))):=by show Kep w wa _ _;rw [<- hwa];exact Kep.new (Nat.le_refl _) _
 have Ae:=hid b1;have Am:Hid (Calls Tryz.prog 38 #[.pointer (some ⟨p,0,none⟩)] wa fun e w'=>e=.returned (.agg #[.int .i64 tk.kind,.string ⟨tk.text.toArray⟩,.int .i64 tk.num,.int .i64 tk.at_])∧Below wa.heap.size wa w'):=by
  have hx:=zcc p g cap ts i d full wa (h.below b1);rw [htk] at hx;exact hx
 have q1:=fld1 tk.kind tk.num tk.at_ ⟨tk.text.toArray⟩;rw [htk] at hw;obtain ⟨R,hR⟩:∃ R,((zcw 25 (PSof ts i full)).bind fun t s=>zdq 25 t s)=R:=⟨_,rfl⟩;rw [hR];have An:=hid hix;have Ao:=hid hR.symm;clear h hE hR htk b1 hix;go_enter Tryz.func70,Tryz.ntmps70
 go_wp2_with fail
 refine Am.out.mono ?_;rintro e w1 ⟨rfl,hB1⟩;have hb01:Below w.heap.size w w1:=Ae.out.trans (hB1.mono Ae.out.size);have Ap:=hid (H.out.below hb01);have Ab:Hid (Sole p w w1):=Sole.of_below hb01;have Af:=hid (Al.out.below hB1);have Ag:=hid (zgq p g cap ts i d 25 full w1 Ap.out An.out);obtain ⟨ra,hra⟩:∃ r,zcw 25 (PSof ts i full)=r:=⟨_,rfl⟩;have Ah:Hid (R=ra.bind fun t s=>zdq 25 t s):=by
  show _=_;rw [Ao.out];first|(rw [<- hra];done)|(rw [<- hra];rfl)
 have Aq:Hid (∀ t s,ra=.ok t s->t.kind=25):=fun t s e=>by
  rw [<- hra] at e;unfold zcw at e;cases hx:(PSof ts i full).take with
  | no a b=>rw [hx] at e;cases e
  | ok a b=>rw [hx] at e;cases e;rfl
 rw [hra] at Ag;clear hra hb01 hB1;go_wp2_with fail
 clear hwa;refine Ag.out.mono ?_;cases ra with
 | no why at_ =>
  rintro e w99 ⟨rfl,hS⟩;have Aa:=hid (Ab.out.trans hS);clear hS;go_wp2;refine ⟨rfl,?_⟩;rw [Ah.out];exact ⟨rfl,Aa.out⟩
 | ok tv st =>
  rintro e w2 ⟨v,i,full,rfl,hT,rfl,hP,hS⟩;obtain ⟨k9,n9,m9,a9,ks9⟩:=tv;obtain ⟨sl,rfl,hL⟩:=treeAt_node.1 hT;obtain ⟨o9,l9,c9,rfl⟩:=hL.shape;have hkk:k9=25:=Aq.out _ _ rfl;subst hkk;have Ac:Hid (Calls Tryz.prog 111 #[.pointer (some ⟨p,0,none⟩),(kidV 25 n9 m9 a9 (.slice o9 l9 c9))] w2 (zai p g cap ts d (mixIs (fun b=>w1.heap.size<=b∧b<w2.heap.size) w2.heap.size) (zdq 25 (.node 25 n9 m9 a9 ks9) (PSof ts i full)) w2)) :=
   zee p g cap ts HE.out i d full 25 n9 m9 a9 ks9 o9 l9 c9 (fun b=>w1.heap.size<=b∧b<w2.heap.size) w2 hP (fun b hb=>⟨by have:=HP.out.1;have:=Ab.out.size;omega,hb.2⟩) (treeIs.made hT)
  have Ai:=hid (Ab.out.trans hS);have Aj:=hid (Af.out.sole HP.out.1 hS);have Ar:=hid Af.out.lt;obtain ⟨rz,hrz⟩:∃ r,zdq 25 (.node 25 n9 m9 a9 ks9) (PSof ts i full)=r:=⟨_,rfl⟩;have Ak:Hid (R=rz):=by
   show _=_;rw [Ah.out,<- hrz];rfl
  rw [hrz] at Ac;clear hrz hT hL hP hS;unfold kidV at Ac ⊢;go_wp2_with fail
  refine Ac.out.mono ?_;cases rz with
  | no why at_ =>
   rintro e w99 ⟨rfl,hS⟩;have Aa:=hid (Ai.out.trans hS);clear hS;go_wp2;refine ⟨rfl,?_⟩;rw [Ak.out];exact ⟨rfl,Aa.out⟩
  | ok tw st =>
   rintro e w6 ⟨v,i,full,rfl,hT,rfl,hP,hS⟩;obtain ⟨k8,n8,m8,a8,ks8⟩:=tw;obtain ⟨sl,rfl,hL⟩:=treeAt_node.1 hT;obtain ⟨o8,l8,c8,rfl⟩:=hL.shape;have hlt:=Ar.out;have hl2:=Aj.out.lt;have Au:=hid hP;have Av:=hid (Ai.out.trans hS);have Ad:=hid (Aj.out.sole HP.out.1 hS);have Aw:Hid (ListAt (fun b=>w.heap.size<b) w6 ks8 (.slice o8 l8 c8)):=hL.weaken (fun b h=>by
    rcases h with h|h
    · omega
    · omega)
   clear hP hS hT hL hlt hl2;unfold kidV;obtain ⟨⟨z0,z1,z2,z3,z4⟩,⟨y0,y1,y2,y3,y4⟩⟩:=zaa Ad.out.1;go_wp2;refine ret5 z0 z1 z2 z3 z4 rfl (fun u q0 q1 q2 q3 q4=>by simp [results,Tryz.results70,go_sem,q0,q1,q2,q3,q4]) Ad.out.2 Av.out ?_;intro wz hf;rw [Ak.out];have hr2:=Ad.out.2;have hpg:=HP.out;exact ⟨_,_,_,rfl,zaz Aw.out (fun b h=>Nat.le_of_lt h) (fun b h=>Nat.ne_of_gt h) hf.2,rfl,Au.out.sole_but (by omega) (by omega) hf.2,hf.1⟩
theorem zj6 (p g cap:Nat) (ts:List Tok) (hE:Ends ts) (d:Int) (i:Nat) (full:Bool) (w:World) (h:PP w p g cap ts i d full) (hw0:((ts[i]'h.il).text==[111,112,97,113,117,101])=false) (hw:((ts[i]'h.il).text==[115,116,114,105,110,103])=true) :
 Calls Tryz.prog 70 #[.pointer (some ⟨p,0,none⟩)] w (zai p g cap ts d (treeIs w.heap.size) ((zcw 26 (PSof ts i full)).bind fun t s=>zdq 26 t s) w):=by
 have hix:i+1<ts.length:=hE.text h.il (by rw [show (ts[i]'h.il).text=[115,116,114,105,110,103] by simpa using hw];simp);have HP:=hid2 h.plt h.glt;have HE:=hid hE;have H:=hid h;obtain ⟨tk,htk⟩:∃ x,ts[i]'h.il=x:=⟨_,rfl⟩;obtain ⟨wa,hwa⟩:∃ x,w.alloc (.cells #[.int .i64 0,.string ⟨#[]⟩,.int .i64 0,.int .i64 0,.slice none 0 0] 29)=x:=⟨_,rfl⟩;have b1:Below w.heap.size w wa:=by rw [<- hwa];exact zab _ _
 have Al:Hid (Kep w wa w.heap.size (kidO 0 [] 0 0 (.slice none 0 0))):=by show Kep w wa _ _;rw [<- hwa];exact Kep.new (Nat.le_refl _) _
 have Ae:=hid b1;have Am:Hid (Calls Tryz.prog 38 #[.pointer (some ⟨p,0,none⟩)] wa fun e w'=>e=.returned (.agg #[.int .i64 tk.kind,.string ⟨tk.text.toArray⟩,.int .i64 tk.num,.int .i64 tk.at_])∧Below wa.heap.size wa w'):=by
  have hx:=zcc p g cap ts i d full wa (h.below b1);rw [htk] at hx;exact hx
 have q1:=fld1 tk.kind tk.num tk.at_ ⟨tk.text.toArray⟩;rw [htk] at hw hw0;obtain ⟨R,hR⟩:∃ R,((zcw 26 (PSof ts i full)).bind fun t s=>zdq 26 t s)=R:=⟨_,rfl⟩;rw [hR];have An:=hid hix;have Ao:=hid hR.symm;clear h hE hR htk b1 hix;go_enter Tryz.func70,Tryz.ntmps70
 go_wp2_with fail
 refine Am.out.mono ?_;rintro e w1 ⟨rfl,hB1⟩;have hb01:Below w.heap.size w w1:=Ae.out.trans (hB1.mono Ae.out.size);have Ap:=hid (H.out.below hb01);have Ab:Hid (Sole p w w1):=Sole.of_below hb01;have Af:=hid (Al.out.below hB1);have Ag:=hid (zgq p g cap ts i d 26 full w1 Ap.out An.out);obtain ⟨ra,hra⟩:∃ r,zcw 26 (PSof ts i full)=r:=⟨_,rfl⟩;have Ah:Hid (R=ra.bind fun t s=>zdq 26 t s):=by
  show _=_;rw [Ao.out];first|(rw [<- hra];done)|(rw [<- hra];rfl)
 have Aq:Hid (∀ t s,ra=.ok t s->t.kind=26):=fun t s e=>by
  rw [<- hra] at e;unfold zcw at e;cases hx:(PSof ts i full).take with
  | no a b=>rw [hx] at e;cases e
  | ok a b=>rw [hx] at e;cases e;rfl
 rw [hra] at Ag;clear hra hb01 hB1;go_wp2_with fail
 clear hwa;refine Ag.out.mono ?_;cases ra with
 | no why at_ =>
  rintro e w99 ⟨rfl,hS⟩;have Aa:=hid (Ab.out.trans hS);clear hS;go_wp2;refine ⟨rfl,?_⟩;rw [Ah.out];exact ⟨rfl,Aa.out⟩
 | ok tv st =>
  rintro e w2 ⟨v,i,full,rfl,hT,rfl,hP,hS⟩;obtain ⟨k9,n9,m9,a9,ks9⟩:=tv;obtain ⟨sl,rfl,hL⟩:=treeAt_node.1 hT;obtain ⟨o9,l9,c9,rfl⟩:=hL.shape;have hkk:k9=26:=Aq.out _ _ rfl;subst hkk;have Ac:Hid (Calls Tryz.prog 111 #[.pointer (some ⟨p,0,none⟩),(kidV 26 n9 m9 a9 (.slice o9 l9 c9))] w2 (zai p g cap ts d (mixIs (fun b=>w1.heap.size<=b∧b<w2.heap.size) w2.heap.size) (zdq 26 (.node 26 n9 m9 a9 ks9) (PSof ts i full)) w2)) :=
   zee p g cap ts HE.out i d full 26 n9 m9 a9 ks9 o9 l9 c9 (fun b=>w1.heap.size<=b∧b<w2.heap.size) w2 hP (fun b hb=>⟨by have:=HP.out.1;have:=Ab.out.size;omega,hb.2⟩) (treeIs.made hT)
  have Ai:=hid (Ab.out.trans hS);have Aj:=hid (Af.out.sole HP.out.1 hS);have Ar:=hid Af.out.lt;obtain ⟨rz,hrz⟩:∃ r,zdq 26 (.node 26 n9 m9 a9 ks9) (PSof ts i full)=r:=⟨_,rfl⟩;have Ak:Hid (R=rz):=by
   show _=_;rw [Ah.out,<- hrz];rfl
  rw [hrz] at Ac;clear hrz hT hL hP hS;unfold kidV at Ac ⊢;go_wp2_with fail
  refine Ac.out.mono ?_;cases rz with
  | no why at_ =>
   rintro e w99 ⟨rfl,hS⟩;have Aa:=hid (Ai.out.trans hS);clear hS;go_wp2;refine ⟨rfl,?_⟩;rw [Ak.out];exact ⟨rfl,Aa.out⟩
  | ok tw st =>
   rintro e w6 ⟨v,i,full,rfl,hT,rfl,hP,hS⟩;obtain ⟨k8,n8,m8,a8,ks8⟩:=tw;obtain ⟨sl,rfl,hL⟩:=treeAt_node.1 hT;obtain ⟨o8,l8,c8,rfl⟩:=hL.shape;have hlt:=Ar.out;have hl2:=Aj.out.lt;have Au:=hid hP;have Av:=hid (Ai.out.trans hS);have Ad:=hid (Aj.out.sole HP.out.1 hS);have Aw:Hid (ListAt (fun b=>w.heap.size<b) w6 ks8 (.slice o8 l8 c8)):=hL.weaken (fun b h=>by
    rcases h with h|h
    · omega
    · omega)
   clear hP hS hT hL hlt hl2;unfold kidV;obtain ⟨⟨z0,z1,z2,z3,z4⟩,⟨y0,y1,y2,y3,y4⟩⟩:=zaa Ad.out.1;go_wp2;refine ret5 z0 z1 z2 z3 z4 rfl (fun u q0 q1 q2 q3 q4=>by simp [results,Tryz.results70,go_sem,q0,q1,q2,q3,q4]) Ad.out.2 Av.out ?_;intro wz hf;rw [Ak.out];have hr2:=Ad.out.2;have hpg:=HP.out;exact ⟨_,_,_,rfl,zaz Aw.out (fun b h=>Nat.le_of_lt h) (fun b h=>Nat.ne_of_gt h) hf.2,rfl,Au.out.sole_but (by omega) (by omega) hf.2,hf.1⟩
theorem zmc (p g cap:Nat) (ts:List Tok) (hE:Ends ts) (d:Int) (B:PS->Ans Tree) (hW:zd2 p g cap ts d 113 (zc8 B)) (i:Nat) (full:Bool) (w:World) (h:PP w p g cap ts i d full) (hba:zbv p w) (hw0:((ts[i]'h.il).text==[111,112,97,113,117,101])=false) (hw:((ts[i]'h.il).text==[115,116,114,105,110,103])=false) :
 Calls Tryz.prog 70 #[.pointer (some ⟨p,0,none⟩)] w (zai p g cap ts d (treeIs w.heap.size) ((zc8 B (PSof ts i full)).bind fun of s=>if s.sees [42] then s.take.bind fun _ s=>(zcp s).bind fun n s=>.ok (named 17 n [of]) s else zdq of.kind of s) w):=by
 have Bi:Hid (∀ w1,Below w.heap.size w w1->Calls Tryz.prog 113 #[.pointer (some ⟨p,0,none⟩)] w1 (zai p g cap ts d (treeIs w1.heap.size) (zc8 B (PSof ts i full)) w1)):=fun w1 hB=>hW i full w1 (h.below hB) (hba.below hB);have HP:=hid2 h.plt h.glt;have HE:=hid hE;have H:=hid h;obtain ⟨tk,htk⟩:∃ x,ts[i]'h.il=x:=⟨_,rfl⟩;obtain ⟨wa,hwa⟩:∃ x,w.alloc (.cells #[.int .i64 0,.string ⟨#[]⟩,.int .i64 0,.int .i64 0,.slice none 0 0] 29)=x:=⟨_,rfl⟩;have b1:Below w.heap.size w wa:=by rw [<- hwa];exact zab _ _
 have Bu:Hid (Kep w wa w.heap.size (kidO 0 [] 0 0 (.slice none 0 0))):=by show Kep w wa _ _;rw [<- hwa];exact Kep.new (Nat.le_refl _) _
 have Bj:=hid b1;have Bv:Hid (Calls Tryz.prog 38 #[.pointer (some ⟨p,0,none⟩)] wa fun e w'=>e=.returned (.agg #[.int .i64 tk.kind,.string ⟨tk.text.toArray⟩,.int .i64 tk.num,.int .i64 tk.at_])∧Below wa.heap.size wa w'):=by
  have hx:=zcc p g cap ts i d full wa (h.below b1);rw [htk] at hx;exact hx
 have q1:=fld1 tk.kind tk.num tk.at_ ⟨tk.text.toArray⟩;rw [htk] at hw hw0;obtain ⟨R,hR⟩:∃ R,((zc8 B (PSof ts i full)).bind fun of s=>if s.sees [42] then s.take.bind fun _ s=>(zcp s).bind fun n s=>.ok (named 17 n [of]) s else zdq of.kind of s)=R:=⟨_,rfl⟩;rw [hR];obtain ⟨ra,hra⟩:∃ r,zc8 B (PSof ts i full)=r:=⟨_,rfl⟩;rw [hra] at hR Bi;have Aw:=hid hR.symm;clear h hE hR htk b1 hra hW hba;go_enter Tryz.func70,Tryz.ntmps70
 go_wp2_with fail
 refine Bv.out.mono ?_;rintro e w1 ⟨rfl,hB1⟩;have hb01:Below w.heap.size w w1:=Bj.out.trans (hB1.mono Bj.out.size);have Cd:=hid (H.out.below hb01);have Bl:Hid (Sole p w w1):=Sole.of_below hb01;have Bm:=hid (Bu.out.below hB1);have Bw:=hid (Bi.out w1 hb01);clear hb01 hB1;go_wp2_with fail
 clear hwa;refine Bw.out.mono ?_;cases ra with
 | no why at_ =>
  rintro e w99 ⟨rfl,hS⟩;have Aa:=hid (Bl.out.trans hS);clear hS;go_wp2;refine ⟨rfl,?_⟩;rw [Aw.out];exact ⟨rfl,Aa.out⟩
 | ok tv st =>
  rintro e w2 ⟨v,i,full,rfl,hT,rfl,hP,hS⟩;obtain ⟨k9,n9,m9,a9,ks9⟩:=tv;obtain ⟨sl,rfl,hL⟩:=treeAt_node.1 hT;obtain ⟨o9,l9,c9,rfl⟩:=hL.shape;obtain ⟨w3,hw3⟩:∃ x,w2.alloc (.cells #[.int .i64 k9,.string ⟨n9.toArray⟩,.int .i64 m9,.int .i64 a9,.slice o9 l9 c9] 29)=x:=⟨_,rfl⟩;have hB3:Below w2.heap.size w2 w3:=by rw [<- hw3];exact zab _ _
  have hs2:Sole p w w2:=Bl.out.trans hS;have Ap:=hid (hP.below hB3);have Bn:=hid (hs2.trans (Sole.of_below hB3));have Ai:=hid ((Bm.out.sole HP.out.1 hS).below hB3);have Aj:Hid (Kep w w3 w2.heap.size (kidO k9 n9 m9 a9 (.slice o9 l9 c9))):=by show Kep w w3 _ _;rw [<- hw3];exact Kep.new hs2.size _
  have Bo:=hid (TreeAt.below (treeIs.made hT) hB3);have Ah:Hid (w.heap.size<w1.heap.size∧w1.heap.size<=w2.heap.size∧w2.heap.size<w3.heap.size):=⟨Bm.out.lt,hS.size,by rw [<- hw3];simp⟩;have Ab:=hid (zf6 p g cap ts i d full [42] w3 Ap.out);clear hP hS hT hL hB3 hs2;unfold kidV;cases hse:(PSof ts i full).sees [42]
  · rw [hse] at Ab;have HR2' : Hid (R=zdq k9 (.node k9 n9 m9 a9 ks9) (PSof ts i full)):=by
     show _=_;rw [Aw.out];show (if _ then _ else _)=_;rw [hse,if_neg (by simp)];rfl
    clear hse;(go_wp2_with fail);clear hw3;refine Ab.out.mono ?_;rintro e w4 ⟨rfl,hB4⟩;have Ax:=hid (Ap.out.below hB4);have Bp:=hid (Bn.out.trans (Sole.of_below hB4));have Bq:=hid (Ai.out.below hB4);obtain ⟨⟨v0,v1,v2,v3,v4⟩,_⟩:=zaa (Aj.out.below hB4).1;have Ay:Hid (Calls Tryz.prog 111 #[.pointer (some ⟨p,0,none⟩),(kidV k9 n9 m9 a9 (.slice o9 l9 c9))] w4 (zai p g cap ts d (mixIs (fun b=>w1.heap.size<=b∧b<w2.heap.size) w4.heap.size) (zdq k9 (.node k9 n9 m9 a9 ks9) (PSof ts i full)) w4)) :=
     zee p g cap ts HE.out i d full k9 n9 m9 a9 ks9 o9 l9 c9 (fun b=>w1.heap.size<=b∧b<w2.heap.size) w4 Ax.out (fun b hb=>by have:=HP.out.1;have:=Ah.out;have:=hB4.size;omega) (Bo.out.below hB4)
    obtain ⟨rz,hrz⟩:∃ r,zdq k9 (.node k9 n9 m9 a9 ks9) (PSof ts i full)=r:=⟨_,rfl⟩;have Ad:=hid (HR2'.out.trans hrz);rw [hrz] at Ay;clear hrz hB4;unfold kidV at Ay;(go_wp2_with fail);refine Ay.out.mono ?_;cases rz with
    | no why at_ =>
     rintro e w99 ⟨rfl,hS⟩;have Aa:=hid (Bp.out.trans hS);clear hS;go_wp2;refine ⟨rfl,?_⟩;rw [Ad.out];exact ⟨rfl,Aa.out⟩
    | ok tw st =>
     rintro e w6 ⟨v,i,full,rfl,hT,rfl,hP,hS⟩;obtain ⟨k8,n8,m8,a8,ks8⟩:=tw;obtain ⟨sl,rfl,hL⟩:=treeAt_node.1 hT;obtain ⟨o8,l8,c8,rfl⟩:=hL.shape;have hlt:=Ah.out.1;have hl2:=Bq.out.lt;have Aq:=hid hP;have Ak:=hid (Bp.out.trans hS);have Az:=hid (Bq.out.sole HP.out.1 hS);have Bx:Hid (ListAt (fun b=>w.heap.size<b) w6 ks8 (.slice o8 l8 c8)):=hL.weaken (fun b h=>by
      rcases h with h|h
      · omega
      · omega)
     clear hP hS hT hL hlt hl2;unfold kidV;obtain ⟨⟨z0,z1,z2,z3,z4⟩,⟨y0,y1,y2,y3,y4⟩⟩:=zaa Az.out.1;go_wp2;refine ret5 z0 z1 z2 z3 z4 rfl (fun u q0 q1 q2 q3 q4=>by simp [results,Tryz.results70,go_sem,q0,q1,q2,q3,q4]) Az.out.2 Ak.out ?_;intro wz hf;rw [Ad.out];have hr2:=Az.out.2;have hpg:=HP.out;exact ⟨_,_,_,rfl,zaz Bx.out (fun b h=>Nat.le_of_lt h) (fun b h=>Nat.ne_of_gt h) hf.2,rfl,Aq.out.sole_but (by omega) (by omega) hf.2,hf.1⟩
  · rw [hse] at Ab;have hix:=HE.out.sees Ap.out.il (t:=[42]) (by simp) hse;obtain ⟨rt,hrt⟩:∃ r,(PSof ts i full).take=r:=⟨_,rfl⟩;have Ad:Hid (R=rt.bind fun _ s=>(zcp s).bind fun n s=>.ok (named 17 n [(.node k9 n9 m9 a9 ks9)]) s):=by
     show _=_;rw [Aw.out,<- hrt];show (if _ then _ else _)=_;rw [hse,if_pos rfl]
    clear hse;(go_wp2_with fail);clear hw3;refine Ab.out.mono ?_;rintro e w4 ⟨rfl,hB4⟩;have Ax:=hid (Ap.out.below hB4);have Br:=hid (Bn.out.trans (Sole.of_below hB4));have Ba:=hid (Ai.out.below hB4);have Bb:=hid (Aj.out.below hB4);have Bz:=hid (Bo.out.below hB4);have Ac:=hid hB4.size;have Bs:=hid (zdn p g cap ts i d full w4 Ax.out hix);rw [hrt] at Bs;clear hrt hix hB4;(go_wp2_with fail);refine Bs.out.mono ?_;cases rt with
    | no why at_ =>
     rintro e w99 ⟨rfl,hS⟩;have Aa:=hid (Br.out.trans hS);clear hS;go_wp2;refine ⟨rfl,?_⟩;rw [Ad.out];exact ⟨rfl,Aa.out⟩
    | ok tk9 st =>
     rintro e w5 ⟨v,i,full,rfl,rfl,rfl,hP,hS⟩;have hp:=HP.out.1;have hlt:=Ah.out;have h34:=Ac.out;have Ar:=hid (Br.out.trans hS);have Bc:=hid (Ba.out.sole hp hS);have Ae:=hid (Bb.out.sole hp hS);have Ca:=hid (Bz.out.sole (fun b h=>by omega) hS);have Af:=hid hS.size;have Bd:Hid (∀ wx,Below w5.heap.size w5 wx->Calls Tryz.prog 108 #[.pointer (some ⟨p,0,none⟩)] wx (zai p g cap ts d zfh (zcp (PSof ts i full)) wx)):=fun wx hB=>zco p g cap ts HE.out i d full _ (hP.below hB);obtain ⟨rv,hrv⟩:∃ r,zcp (PSof ts i full)=r:=⟨_,rfl⟩;have Be:Hid (R=rv.bind fun n s=>.ok (named 17 n [(.node k9 n9 m9 a9 ks9)]) s):=by
      show _=_;rw [Ad.out,<- hrv];rfl
     rw [hrv] at Bd;obtain ⟨⟨v0,v1,v2,v3,v4⟩,_⟩:=zaa Ae.out.1;obtain ⟨wq5,hwq5⟩:∃ x,w5.alloc (.cells #[.int .i64 k9,.string ⟨n9.toArray⟩,.int .i64 m9,.int .i64 a9,.slice o9 l9 c9] 29)=x:=⟨_,rfl⟩;have hb5:Below w5.heap.size w5 wq5:=(by rw [<- hwq5];exact zab _ _);have Au:=hid hb5;have Cb:Hid (Kep w wq5 w5.heap.size (kidO k9 n9 m9 a9 (.slice o9 l9 c9))):=(by show Kep w wq5 _ _;rw [<- hwq5];exact Kep.new Ar.out.size _);obtain ⟨⟨g0,g1,g2,g3,g4⟩,_⟩:=zaa (Ae.out.below hb5).1;clear hP hS hp hrv hlt h34 hb5;unfold tokV;(go_wp2_with fail);cases rv with
     | no why at_ =>
      (go_region_dies);all_goals (
       refine (Bd.out _ ?_).mono ?_
       · first|exact zad (Below.refl _ _) 1|exact zad Au.out 1
       · rintro e w9 ⟨rfl,hS⟩;refine ⟨rfl,?_⟩;rw [Be.out];first
          | exact ⟨rfl,Ar.out.trans ((Sole.of_below (zad (Below.refl _ _) 1)).trans hS)⟩
          | exact ⟨rfl,Ar.out.trans ((Sole.of_below (zad Au.out 1)).trans hS)⟩)
     | ok t st =>
      go_region_with (first
       | (go_at_call 108
          refine (Bd.out _ ?_).mono ?_
          (first|exact zad (Below.refl _ _) 1|exact zad Au.out 1)
          rintro e w6 ⟨v,i,full,rfl,rfl,rfl,hP,hS0⟩;have hp:=HP.out.1;have hlt:=Ah.out;have h34:=Ac.out;have h45:=Af.out;have hS:Sole p w5 w6:=(by first|exact (Sole.of_below (zad (Below.refl _ _) 1)).trans hS0|exact (Sole.of_below (zad Au.out 1)).trans hS0);have Aq:=hid hP;have Ak:=hid (Ar.out.trans hS);have Al:=hid (Bc.out.sole hp hS);have Am:=hid (Ae.out.sole hp hS);have Bt:=hid (Ca.out.sole (fun b h=>by omega) hS)
          (first|(have Cc:Hid (Kep w w6 w5.heap.size (kidO k9 n9 m9 a9 (.slice o9 l9 c9))):=Kep.sole (cur:=wq5.drewN 1) Cb.out hp hS0)|skip)
          have An:=hid hS.size;obtain ⟨⟨c0,c1,c2,c3,c4⟩,_⟩:=zaa Am.out.1;obtain ⟨wq6,hwq6⟩:∃ x,w6.alloc (.cells #[.int .i64 k9,.string ⟨n9.toArray⟩,.int .i64 m9,.int .i64 a9,.slice o9 l9 c9] 29)=x:=⟨_,rfl⟩;have hb6:Below w6.heap.size w6 wq6:=(by rw [<- hwq6];exact zab _ _);have Ao:=hid hb6;have Bf:Hid (Kep w wq6 w6.heap.size (kidO k9 n9 m9 a9 (.slice o9 l9 c9))):=(by show Kep w wq6 _ _;rw [<- hwq6];exact Kep.new Ak.out.size _);obtain ⟨⟨d0,d1,d2,d3,d4⟩,_⟩:=zaa (Am.out.below hb6).1;clear hP hS hS0 hp hlt h34 h45 hb6;unfold tokV)
       | (go_at_call_of 109 (Value.slice (some (Addr.mk w6.heap.size 0 none)) 1 1)
          refine (zdf 17 t (some ⟨w6.heap.size,0,none⟩) 1 1 wq6).mono ?_;rintro e w9 ⟨rfl,hB9⟩;have hbb:Below w6.heap.size w6 w9:=Ao.out.trans (hB9.mono Ao.out.size);have Bg:=hid (Aq.out.below hbb);have Bh:=hid (Ak.out.trans (Sole.of_below hbb));have Ag:=hid (Al.out.below hbb);have Av:Hid (ListAt (fun b=>w.heap.size<b) w9 [(.node k9 n9 m9 a9 ks9)] (.slice (some ⟨w6.heap.size,0,none⟩) 1 1)):=by
           have hlt:=Ah.out;have h34:=Ac.out;have h45:=Af.out;have h56:=An.out;refine zbd (Bf.out.below hB9).1 (by simp) (by omega) (zay ((Bt.out.below hbb).weaken (fun b h=>?_)));omega
          obtain ⟨⟨z0,z1,z2,z3,z4⟩,⟨y0,y1,y2,y3,y4⟩⟩:=zaa Ag.out.1;clear hB9 hbb;unfold kidV)
       | (go_at_call_of 109 (Value.slice (some (Addr.mk w5.heap.size 0 none)) 1 1)
          refine (zdf 17 t (some ⟨w5.heap.size,0,none⟩) 1 1 w6).mono ?_;rintro e w9 ⟨rfl,hB9⟩;have Bg:=hid (Aq.out.below hB9);have Bh:=hid (Ak.out.trans (Sole.of_below hB9));have Ag:=hid (Al.out.below hB9);have Av:Hid (ListAt (fun b=>w.heap.size<b) w9 [(.node k9 n9 m9 a9 ks9)] (.slice (some ⟨w5.heap.size,0,none⟩) 1 1)):=by
           have hlt:=Ah.out;have h34:=Ac.out;have h45:=Af.out;have h56:=An.out;have hq:Kep w w6 w5.heap.size (kidO k9 n9 m9 a9 (.slice o9 l9 c9)):=Cc.out;refine zbd (hq.below hB9).1 (by simp) (by omega) (zay ((Bt.out.below hB9).weaken (fun b h=>?_)));omega
          obtain ⟨⟨z0,z1,z2,z3,z4⟩,⟨y0,y1,y2,y3,y4⟩⟩:=zaa Ag.out.1;clear hB9;unfold kidV))
      all_goals (
       first
       | (
          have hgd:=(show ListAt _ w9 _ (Value.slice (some ⟨w6.heap.size,0,none⟩) 1 1) from Av.out);clear hgd;go_wp2;refine ret5 z0 z1 z2 z3 z4 rfl (fun u q0 q1 q2 q3 q4=>by simp [results,Tryz.results70,go_sem,q0,q1,q2,q3,q4]) Ag.out.2 Bh.out ?_;intro wz hf;rw [Be.out];have hr2:=Ag.out.2;have hpg:=HP.out;exact ⟨_,_,_,rfl,zaz Av.out (fun b h=>Nat.le_of_lt h) (fun b h=>Nat.ne_of_gt h) hf.2,rfl,Bg.out.sole_but (by omega) (by omega) hf.2,hf.1⟩
        )
       | (
          go_wp2;refine ret5 z0 z1 z2 z3 z4 rfl (fun u q0 q1 q2 q3 q4=>by simp [results,Tryz.results70,go_sem,q0,q1,q2,q3,q4]) Ag.out.2 Bh.out ?_;intro wz hf;rw [Be.out];have hr2:=Ag.out.2;have hpg:=HP.out;exact ⟨_,_,_,rfl,zaz Av.out (fun b h=>Nat.le_of_lt h) (fun b h=>Nat.ne_of_gt h) hf.2,rfl,Bg.out.sole_but (by omega) (by omega) hf.2,hf.1⟩
        ))
end Go.Proofs.YtighggeokiahfaaGreatDoor
