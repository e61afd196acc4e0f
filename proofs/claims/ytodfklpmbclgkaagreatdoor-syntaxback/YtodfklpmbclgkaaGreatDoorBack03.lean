import Derived.Test.YtodfklpmbclgkaaGreatDoorBack02
namespace Go.Proofs.YtodfklpmbclgkaaGreatDoor
open Go.RowKit
theorem ze8:∃ i:TypeInfo,Tryz.prog.info? 29=some i∧i.zero=some (.agg #[.int .i64 0,.string ⟨#[]⟩,.int .i64 0,.int .i64 0,.slice none 0 0])∧i.size=5∧i.bytes=64 :=
 ⟨(Tryz.prog.info? 29).getD default,by kernel_rfl,by kernel_rfl,by kernel_rfl,by kernel_rfl⟩
/-- what stands behind a list's name -/
def zjh (n:Tok) (of:Tree) (s:PS):Ans Tree :=
 (s.want [60]).bind fun _ s =>
   if s.sees [62] then (s.want [62]).bind fun _ s=>.ok (named 16 n [of]) s
   else (valueP s).bind fun v s=>(s.want [62]).bind fun _ s=>.ok (named 16 n [of,v]) s
set_option maxHeartbeats 2000000 in
set_option maxRecDepth 4000 in
theorem list_any (p g cap:Nat) (ts:List Tok) (hE:Ends ts) (i:Nat) (d:Int) (full:Bool) (t:Tok) (k9:Int) (n9:List UInt8) (m9:Int) (a9:Nat) (ks9:List Tree) (o9:Option Addr) (l9 c9:Nat) (A0:Nat->Prop) (w:World) (h:PP w p g cap ts i d full)
 (hA0:∀ b,A0 b->b≠p∧b<w.heap.size) (hT:zam A0 w (.node k9 n9 m9 a9 ks9) (kidV k9 n9 m9 a9 (.slice o9 l9 c9))) :
 Calls Tryz.prog 141 #[.pointer (some ⟨p,0,none⟩),tokV t,(kidV k9 n9 m9 a9 (.slice o9 l9 c9))] w (zao p g cap ts d (mixIs A0 w.heap.size) (zjh t (.node k9 n9 m9 a9 ks9) (PSof ts i full)) w):=by
 have HP:Hid (p<w.heap.size∧g<w.heap.size):=⟨h.plt,h.glt⟩
 have HBB:Hid (∀ b,A0 b->b≠p∧b<w.heap.size):=hA0
 have HE:Hid (Ends ts):=hE
 obtain ⟨R,hR⟩:∃ R,zjh t (.node k9 n9 m9 a9 ks9) (PSof ts i full)=R:=⟨_,rfl⟩
 rw [hR]
 have HR0:Hid (R=zjh t (.node k9 n9 m9 a9 ks9) (PSof ts i full)):=hR.symm
 have hT0:zam A0 w (.node k9 n9 m9 a9 ks9) (kidV k9 n9 m9 a9 (.slice o9 l9 c9)):=hT
 unfold tokV kidV
 obtain ⟨wa1,hwa1⟩:∃ x,w.alloc (.cells #[.int .i64 t.kind,.string ⟨t.text.toArray⟩,.int .i64 t.num,.int .i64 t.at_] 41)=x:=⟨_,rfl⟩
 obtain ⟨wa2,hwa2⟩:∃ x,wa1.alloc (.cells #[.int .i64 k9,.string ⟨n9.toArray⟩,.int .i64 m9,.int .i64 a9,.slice o9 l9 c9] 29)=x:=⟨_,rfl⟩
 obtain ⟨wa,hwa⟩:∃ x,wa2.alloc (.cells #[.int .i64 0,.string ⟨#[]⟩,.int .i64 0,.int .i64 0,.slice none 0 0] 29)=x:=⟨_,rfl⟩
 obtain ⟨wq,hwq⟩:∃ x,wa.alloc (.cells #[.int .i64 k9,.string ⟨n9.toArray⟩,.int .i64 m9,.int .i64 a9,.slice o9 l9 c9] 29)=x:=⟨_,rfl⟩
 have b1:Below w.heap.size w wa1:=by rw [<- hwa1];exact zad _ _
 have b2:Below w.heap.size w wa2:=by rw [<- hwa2];exact b1.alloc b1.size _
 have b3:Below w.heap.size w wa:=by rw [<- hwa];exact b2.alloc b2.size _
 have b4:Below w.heap.size w wq:=by rw [<- hwq];exact b3.alloc b3.size _
 have kr:Kep w wq wa2.heap.size (kidO 0 [] 0 0 (.slice none 0 0)):=by rw [<- hwq,<- hwa];exact (Kep.new b2.size _).alloc _
 have kq:Kep w wq wa.heap.size (kidO k9 n9 m9 a9 (.slice o9 l9 c9)):=by rw [<- hwq];exact Kep.new b3.size _
 have kta:Kep w wa w.heap.size (tokO t):=by rw [<- hwa,<- hwa2,<- hwa1];exact ((Kep.new (Nat.le_refl _) _).alloc _).alloc _
 have koa:Kep w wa wa1.heap.size (kidO k9 n9 m9 a9 (.slice o9 l9 c9)):=by rw [<- hwa,<- hwa2];exact (Kep.new b1.size _).alloc _
 obtain ⟨t0,t1,t2,t3⟩:=zb1 kta.1
 obtain ⟨⟨v0,v1,v2,v3,v4⟩,_⟩:=zac koa.1
 have HNM:Hid (Calls Tryz.prog 109 #[.int .i64 16,tokV t,.slice (some ⟨wa.heap.size,0,none⟩) 1 1] wq fun e w'=>e=.returned (kidV 16 t.text 0 t.at_ (.slice (some ⟨wa.heap.size,0,none⟩) 1 1))∧Below wq.heap.size wq w'):=zc8 16 t (some ⟨wa.heap.size,0,none⟩) 1 1 wq
 have HQ:Hid (Below w.heap.size w wq∧Kep w wq wa2.heap.size (kidO 0 [] 0 0 (.slice none 0 0))∧Kep w wq wa.heap.size (kidO k9 n9 m9 a9 (.slice o9 l9 c9))∧PP w p g cap ts i d full∧zam A0 w (.node k9 n9 m9 a9 ks9) (kidV k9 n9 m9 a9 (.slice o9 l9 c9))∧wa2.heap.size<wa.heap.size):=⟨b4,kr,kq,h,hT0,by rw [<- hwa];simp⟩
 clear b1 b2 b3 b4 kr kq kta koa h hT hE hA0 hR hT0
 unfold tokV at HNM
 go_enter Tryz.func141,Tryz.ntmps141
 go_wp2_with fail
 refine HNM.out.mono ?_
 rintro e w1 ⟨rfl,hB1⟩
 obtain ⟨wl,hwl⟩:∃ x,w1.alloc (.cells #[.int .i64 16,.string ⟨t.text.toArray⟩,.int .i64 0,.int .i64 t.at_,.slice (some ⟨wa.heap.size,0,none⟩) 1 1] 29)=x:=⟨_,rfl⟩
 have hs1:Below w.heap.size w w1:=HQ.out.1.trans (hB1.mono HQ.out.1.size)
 have hsl:Below w.heap.size w wl:=by rw [<- hwl];exact hs1.alloc hs1.size _
 have HSl:Hid (Sole p w wl):=Sole.of_below hsl
 have HPl:Hid (PP wl p g cap ts i d full):=HQ.out.2.2.2.1.below hsl
 have HTl:Hid (zam A0 wl (.node k9 n9 m9 a9 ks9) (kidV k9 n9 m9 a9 (.slice o9 l9 c9))):=HQ.out.2.2.2.2.1.below hsl
 have HKr:Hid (Kep w wl wa2.heap.size (kidO 0 [] 0 0 (.slice none 0 0))):=by show Kep w wl _ _;rw [<- hwl];exact (HQ.out.2.1.below hB1).alloc _
 have HKq:Hid (Kep w wl wa.heap.size (kidO k9 n9 m9 a9 (.slice o9 l9 c9))):=by show Kep w wl _ _;rw [<- hwl];exact (HQ.out.2.2.1.below hB1).alloc _
 have HKl:Hid (Kep w wl w1.heap.size (kidO 16 t.text 0 t.at_ (.slice (some ⟨wa.heap.size,0,none⟩) 1 1))):=by show Kep w wl _ _;rw [<- hwl];exact Kep.new hs1.size _
 have HLT:Hid (wa2.heap.size<wa.heap.size∧wa.heap.size<w1.heap.size):=⟨HQ.out.2.2.2.2.2,(HQ.out.2.2.1.below hB1).lt⟩
 have HWA:Hid (Calls Tryz.prog 41 #[.pointer (some ⟨p,0,none⟩),.slice (some ⟨wl.heap.size,0,none⟩) 1 1] (wl.alloc (.cells #[.string ⟨#[60]⟩] 9)) (zao p g cap ts d ze4 ((PSof ts i full).want [60]) wl)):=zbs p g cap ts HE.out i d full [60] (by simp) wl HPl.out
 obtain ⟨ru,hru⟩:∃ r,(PSof ts i full).want [60]=r:=⟨_,rfl⟩
 have HR1:Hid (R=ru.bind fun _ s=>if s.sees [62] then (s.want [62]).bind fun _ s=>.ok (named 16 t [(.node k9 n9 m9 a9 ks9)]) s else (valueP s).bind fun v s=>(s.want [62]).bind fun _ s=>.ok (named 16 t [(.node k9 n9 m9 a9 ks9),v]) s):=by
  show _=_
  rw [HR0.out,<- hru];rfl
 rw [hru] at HWA
 clear hB1 hs1 hsl hru hwa1 hwa2 hwa hwq HNM HQ
 unfold kidV
 go_wp2_with fail
 clear hwl
 refine HWA.out.mono ?_
 cases ru with
 | no why at_ =>
  rintro e w4 ⟨rfl,hS⟩
  have HS:Hid (Sole p w w4):=HSl.out.trans hS
  clear hS
  go_wp2
  refine ⟨rfl,?_⟩
  rw [HR1.out]
  exact ⟨rfl,HS.out⟩
 | ok u st =>
  rintro e w2 ⟨v,i,full,rfl,rfl,rfl,hP,hS⟩
  have hp:=HP.out.1
  have hbb:=HBB.out
  have HSE:Hid (Calls Tryz.prog 75 #[.pointer (some ⟨p,0,none⟩),.string ⟨#[62]⟩] w2 fun e w'=>e=.returned (.bool ((PSof ts i full).sees [62]))∧Below w2.heap.size w2 w'):=by
   have hx:=ze0 p g cap ts i d full ⟨#[62]⟩ w2 hP
   rw [ByteArray.toList_mk] at hx
   exact hx
  have HP2:Hid (PP w2 p g cap ts i d full):=hP
  have HS2:Hid (Sole p w w2):=HSl.out.trans hS
  have HT2:Hid (zam A0 w2 (.node k9 n9 m9 a9 ks9) (kidV k9 n9 m9 a9 (.slice o9 l9 c9))):=HTl.out.sole (fun b h=>(hbb b h).1) hS
  have HKr2:Hid (Kep w w2 wa2.heap.size (kidO 0 [] 0 0 (.slice none 0 0))):=HKr.out.sole hp hS
  have HKq2:Hid (Kep w w2 wa.heap.size (kidO k9 n9 m9 a9 (.slice o9 l9 c9))):=HKq.out.sole hp hS
  have HKl2:Hid (Kep w w2 w1.heap.size (kidO 16 t.text 0 t.at_ (.slice (some ⟨wa.heap.size,0,none⟩) 1 1))):=HKl.out.sole hp hS
  clear hP hS hp hbb
  cases hse:(PSof ts i full).sees [62]
  · rw [hse] at HSE
    obtain ⟨rv,hrv⟩:∃ r,valueP (PSof ts i full)=r:=⟨_,rfl⟩
    have HR2:Hid (R=rv.bind fun v s=>(s.want [62]).bind fun _ s=>.ok (named 16 t [(.node k9 n9 m9 a9 ks9),v]) s):=by
     show _=_
     rw [HR1.out,<- hrv]
     show (if _ then _ else _)=_
     rw [hse,if_neg (by simp)]
    have HVA:Hid (∀ w3,Below w2.heap.size w2 w3->Calls Tryz.prog 140 #[.pointer (some ⟨p,0,none⟩)] w3 (zao p g cap ts d (zal w3.heap.size) rv w3)):=fun w3 hB=>by
     rw [<- hrv]
     exact zfs p g cap ts HE.out i d full w3 (HP2.out.below hB)
    clear hse hrv
    go_wp2_with fail
    refine HSE.out.mono ?_
    rintro e w3 ⟨rfl,hB3⟩
    have HS3:Hid (Sole p w w3):=HS2.out.trans (Sole.of_below hB3)
    have HT3:Hid (zam A0 w3 (.node k9 n9 m9 a9 ks9) (kidV k9 n9 m9 a9 (.slice o9 l9 c9))):=HT2.out.below hB3
    have HKr3:Hid (Kep w w3 wa2.heap.size (kidO 0 [] 0 0 (.slice none 0 0))):=HKr2.out.below hB3
    have HKq3:Hid (Kep w w3 wa.heap.size (kidO k9 n9 m9 a9 (.slice o9 l9 c9))):=HKq2.out.below hB3
    have HKl3:Hid (Kep w w3 w1.heap.size (kidO 16 t.text 0 t.at_ (.slice (some ⟨wa.heap.size,0,none⟩) 1 1))):=HKl2.out.below hB3
    obtain ⟨⟨l0,l1,l2,l3,l4⟩,⟨f0,f1,f2,f3,f4⟩⟩:=zac HKl3.out.1
    have HVB:Hid (∀ m,Calls Tryz.prog 140 #[.pointer (some ⟨p,0,none⟩)] (w3.drewN m) (zao p g cap ts d (zal w3.heap.size) rv w3)):=fun m=>by
     have hB:Below w3.heap.size w3 (w3.drewN m):=zax (Below.refl _ _) m
     exact (HVA.out _ (hB3.trans (hB.mono hB3.size))).mono fun e w' hp=>zao.from_below hB hp
    clear hB3
    go_wp2_with fail
    cases rv with
    | no why at_ =>
     go_region_dies
     all_goals (
      refine (HVB.out _).mono ?_
      rintro e w5 ⟨rfl,hS⟩
      refine ⟨rfl,?_⟩
      rw [HR2.out]
      exact ⟨rfl,HS3.out.trans hS⟩)
    | ok tv st =>
     obtain ⟨k8,n8,m8,a8,ks8⟩:=tv
     obtain ⟨inf,hi1,hi2,hi3,hi4⟩:=ze8
     have HI:Hid (Tryz.prog.info? 29=some inf∧inf.zero=some (.agg #[.int .i64 0,.string ⟨#[]⟩,.int .i64 0,.int .i64 0,.slice none 0 0])∧inf.size=5∧inf.bytes=64):=⟨hi1,hi2,hi3,hi4⟩
     clear hi1 hi2 hi3 hi4
     go_region_law (first
      | (refine zgg rfl 140 #[.pointer (some ⟨p,0,none⟩)] (by go_simp) _ (HVB.out _) ?_
         rintro e w5 ⟨v,i,full,rfl,hT,rfl,hP,hS⟩
         refine ⟨_,rfl,?_⟩
         obtain ⟨sl,rfl,hL⟩:=zah.1 hT
         obtain ⟨o8,l8,c8,rfl⟩:=hL.shape
         have hp:=HP.out
         have hbb:=HBB.out
         have HP5:Hid (PP w5 p g cap ts i d full):=hP
         have HS5:Hid (Sole p w w5):=HS3.out.trans hS
         have HV5:Hid (zal w3.heap.size (.node k8 n8 m8 a8 ks8) w5 (kidV k8 n8 m8 a8 (.slice o8 l8 c8))):=hT
         have HT5:Hid (zam A0 w5 (.node k9 n9 m9 a9 ks9) (kidV k9 n9 m9 a9 (.slice o9 l9 c9))):=HT3.out.sole (fun b h=>(hbb b h).1) hS
         have HKr5:Hid (Kep w w5 wa2.heap.size (kidO 0 [] 0 0 (.slice none 0 0))):=HKr3.out.sole hp.1 hS
         have HKq5:Hid (Kep w w5 wa.heap.size (kidO k9 n9 m9 a9 (.slice o9 l9 c9))):=HKq3.out.sole hp.1 hS
         have HKl5:Hid (Kep w w5 w1.heap.size (kidO 16 t.text 0 t.at_ (.slice (some ⟨wa.heap.size,0,none⟩) 1 1))):=HKl3.out.sole hp.1 hS
         have HL35:Hid (w3.heap.size<=w5.heap.size):=hS.size
         have u4:=(zac HKl5.out.1).1.2.2.2.2
         obtain ⟨wb,hwb⟩:∃ x,w5.alloc (.cells #[.int .i64 k8,.string ⟨n8.toArray⟩,.int .i64 m8,.int .i64 a8,.slice o8 l8 c8] 29)=x:=⟨_,rfl⟩
         have HWB:Hid (w5.alloc (.cells #[.int .i64 k8,.string ⟨n8.toArray⟩,.int .i64 m8,.int .i64 a8,.slice o8 l8 c8] 29)=wb):=hwb
         have x4:wb.cell? ⟨w1.heap.size,4,none⟩=some (.slice (some ⟨wa.heap.size,0,none⟩) 1 1):=by rw [<- hwb];exact (zac (HKl5.out.alloc _).1).1.2.2.2.2
         have HBX:Hid (wb.heap[wa.heap.size]?=some (zdr [.int .i64 k9,.string ⟨n9.toArray⟩,.int .i64 m9,.int .i64 a9,.slice o9 l9 c9])∧wb.heap[w5.heap.size]?=some (.cells #[.int .i64 k8,.string ⟨n8.toArray⟩,.int .i64 m8,.int .i64 a8,.slice o8 l8 c8] 29 (0,0))):=by
          refine ⟨?_,?_⟩
          · rw [<- hwb];exact (HKq5.out.alloc _).1
          · rw [<- hwb];exact heap_alloc_new _ _
         clear hT hL hP hS hp hbb
         unfold kidV)
      | (refine step_append_lies _ rfl _ _ 27 rfl 0 29 inf (.agg #[.int .i64 0,.string ⟨#[]⟩,.int .i64 0,.int .i64 0,.slice none 0 0]) 5 64 Tryz.underlying27 HI.out.1 HI.out.2.1 HI.out.2.2.1 HI.out.2.2.2 rfl (by decide) (.slice (some ⟨wa.heap.size,0,none⟩) 1 1) 1 [.int .i64 k9,.string ⟨n9.toArray⟩,.int .i64 m9,.int .i64 a9,.slice o9 l9 c9] rfl (zdx HBX.out.1 rfl (by decide)) ⟨w5.heap.size,0,none⟩ 1 1 [.int .i64 k8,.string ⟨n8.toArray⟩,.int .i64 m8,.int .i64 a8,.slice o8 l8 c8] rfl rfl (World.news_of_block (cs:=#[.int .i64 k8,.string ⟨n8.toArray⟩,.int .i64 m8,.int .i64 a8,.slice o8 l8 c8]) (t:=29) (fr:=(0,0)) HBX.out.2) (by simp [Value.oneCell']) (by decide) (by decide) (by decide) (Nat.zero_le _) _ rfl ?_
         intro gq cq w6 hown hgrow hat hlt
         have hp:=HP.out
         have hbb:=HBB.out
         have hlt2:=HLT.out
         have hl1:=HKl5.out.lt
         have hr2:=HKr5.out.2
         have hq2:=HKq5.out.2
         have hwl2:=HKl5.out.2
         have h3l:=HKl3.out.lt
         have hl35:=HL35.out
         have hBw:Below w5.heap.size w5 wb:=by rw [<- HWB.out];exact zad _ _
         have hsb:wb.heap.size=w5.heap.size+1:=by rw [<- HWB.out];simp
         have hgr:wb.grownBy w6 (some wa.heap.size):=hgrow
         have HKr6:Hid (Kep w w6 wa2.heap.size (kidO 0 [] 0 0 (.slice none 0 0))):=(HKr5.out.below hBw).grown hgr (by omega)
         have HKl6:Hid (Kep w w6 w1.heap.size (kidO 16 t.text 0 t.at_ (.slice (some ⟨wa.heap.size,0,none⟩) 1 1))):=(HKl5.out.below hBw).grown hgr (by omega)
         have HP6:Hid (PP w6 p g cap ts i d full):=(HP5.out.below hBw).grown hgr (by omega) (by omega)
         have HS6:Hid (Sole p w w6):=(HS5.out.trans (Sole.of_below hBw)).grown hgr hq2
         have HL6:Hid (zaf (fun b=>Mix A0 w.heap.size b∧b≠w1.heap.size∧b≠wa2.heap.size) w6 [(.node k9 n9 m9 a9 ks9),.node k8 n8 m8 a8 ks8] (.slice (some ⟨gq,0,none⟩) 2 cq)):=by
          refine zbm (ks:=[(.node k9 n9 m9 a9 ks9)]) (us:=[.node k8 n8 m8 a8 ks8]) (sl:=.slice (some ⟨wa.heap.size,0,none⟩) 1 1) (fun g e=>?_) (zbe ((HT5.out.below hBw).weaken (fun b h=>?_))) (zbe ((zam.below (zam.there _ _ HV5.out) hBw).weaken (fun b h=>?_))) hown hgrow wb.heap.size (Nat.le_refl _) ⟨Or.inr (by omega),by omega,by omega⟩ ?_
          · have e2:wa.heap.size=g:=Option.some.inj e
            exact ⟨Or.inr (by omega),by omega,by omega⟩
          · have h0:=hbb b h
            refine ⟨⟨Or.inl h,by omega,by omega⟩,fun e=>?_⟩
            have e2:wa.heap.size=b:=Option.some.inj e
            omega
          · have h1:w3.heap.size<=b:=h.1
            refine ⟨⟨Or.inr (by omega),by omega,by omega⟩,fun e=>?_⟩
            have e2:wa.heap.size=b:=Option.some.inj e
            omega
          · rcases hat with e|e
            · exact Or.inl e.symm
            · exact Or.inr (by rw [e];rfl)
         obtain ⟨⟨j0,j1,j2,j3,j4⟩,⟨g0,g1,g2,g3,g4⟩⟩:=zac HKl6.out.1
         clear hown hgrow hat hlt hp hbb hlt2 hl1 hr2 hq2 hwl2 h3l hl35 hBw hsb hgr))
     all_goals (
      have hp:=HP.out
      have hlt2:=HLT.out
      have hwl2:=HKl6.out.2
      have hz6:∀ b,b≠w1.heap.size->(w6.setCell ⟨w1.heap.size,4,none⟩ (.slice (some ⟨gq,0,none⟩) 2 cq)).heap[b]?=w6.heap[b]?:=fun b hb=>Below.heap_setCell _ _ _ _ hb
      have HKlc:Hid (Kep w (w6.setCell ⟨w1.heap.size,4,none⟩ (.slice (some ⟨gq,0,none⟩) 2 cq)) w1.heap.size (kidO 16 t.text 0 t.at_ (.slice (some ⟨gq,0,none⟩) 2 cq))):=⟨zfk HKl6.out.1,HKl6.out.2⟩
      have HKrc:Hid (Kep w (w6.setCell ⟨w1.heap.size,4,none⟩ (.slice (some ⟨gq,0,none⟩) 2 cq)) wa2.heap.size (kidO 0 [] 0 0 (.slice none 0 0))):=HKr6.out.but hz6 (by omega)
      have HPc:Hid (PP (w6.setCell ⟨w1.heap.size,4,none⟩ (.slice (some ⟨gq,0,none⟩) 2 cq)) p g cap ts i d full):=HP6.out.sole_but (by omega) (by omega) hz6
      have HSc:Hid (Sole p w (w6.setCell ⟨w1.heap.size,4,none⟩ (.slice (some ⟨gq,0,none⟩) 2 cq))):=HS6.out.below_after ((Below.refl _ _).setCell hwl2 _)
      have HLc:Hid (zaf (fun b=>Mix A0 w.heap.size b∧b≠w1.heap.size∧b≠wa2.heap.size) (w6.setCell ⟨w1.heap.size,4,none⟩ (.slice (some ⟨gq,0,none⟩) 2 cq)) [(.node k9 n9 m9 a9 ks9),.node k8 n8 m8 a8 ks8] (.slice (some ⟨gq,0,none⟩) 2 cq)):=HL6.out.but (fun b h=>h.2.1) hz6
      generalize w6.setCell ⟨w1.heap.size,4,none⟩ (.slice (some ⟨gq,0,none⟩) 2 cq)=wc at HKlc HKrc HPc HSc HLc ⊢
      clear hp hlt2 hwl2 hz6
      have HWB:Hid (Calls Tryz.prog 41 #[.pointer (some ⟨p,0,none⟩),.slice (some ⟨wc.heap.size,0,none⟩) 1 1] (wc.alloc (.cells #[.string ⟨#[62]⟩] 9)) (zao p g cap ts d ze4 ((PSof ts i full).want [62]) wc)):=zbs p g cap ts HE.out i d full [62] (by simp) wc HPc.out
      obtain ⟨rw_,hrw⟩:∃ r,(PSof ts i full).want [62]=r:=⟨_,rfl⟩
      have HRW:Hid (R=rw_.bind fun _ s=>.ok (named 16 t [(.node k9 n9 m9 a9 ks9),.node k8 n8 m8 a8 ks8]) s):=by
       show _=_
       rw [HR2.out];first|(rw [<- hrw];done)|(rw [<- hrw];rfl)
      rw [hrw] at HWB
      clear hrw
      go_wp2_with fail
      refine HWB.out.mono ?_
      cases rw_ with
      | no why at_ =>
       rintro e w8 ⟨rfl,hS⟩
       have HS:Hid (Sole p w w8):=HSc.out.trans hS
       clear hS
       go_wp2
       refine ⟨rfl,?_⟩
       rw [HRW.out]
       exact ⟨rfl,HS.out⟩
      | ok u st =>
       rintro e w8 ⟨v,i,full,rfl,rfl,rfl,hP,hS⟩
       have hp:=HP.out
       have hb:=HBB.out
       have HP8:Hid (PP w8 p g cap ts i d full):=hP
       have HS8:Hid (Sole p w w8):=HSc.out.trans hS
       have HL8:Hid (zaf (fun b=>Mix A0 w.heap.size b∧b≠w1.heap.size∧b≠wa2.heap.size) w8 [(.node k9 n9 m9 a9 ks9),.node k8 n8 m8 a8 ks8] (.slice (some ⟨gq,0,none⟩) 2 cq)):=HLc.out.sole (fun b h=>by rcases h.1 with h1|h1;exact (hb b h1).1;omega) hS
       have HKr8:Hid (Kep w w8 wa2.heap.size (kidO 0 [] 0 0 (.slice none 0 0))):=HKrc.out.sole hp.1 hS
       obtain ⟨⟨z0,z1,z2,z3,z4⟩,⟨y0,y1,y2,y3,y4⟩⟩:=zac HKr8.out.1
       obtain ⟨⟨l0,l1,l2,l3,l4⟩,_⟩:=zac (HKlc.out.sole hp.1 hS).1
       clear hP hS hp hb
       go_wp2
       have q:=res5 w8 wa2.heap.size (.int .i64 16) (.string ⟨t.text.toArray⟩) (.int .i64 0) (.int .i64 t.at_) (.slice (some ⟨gq,0,none⟩) 2 cq) z0 z1 z2 z3 z4
       have hf:=fin5 (k:=16) (n:=t.text) (m:=0) (a:=t.at_) (sl:=(.slice (some ⟨gq,0,none⟩) 2 cq)) HKr8.out.2 HS8.out _ rfl
       generalize ((((w8.setCell ⟨wa2.heap.size,0,none⟩ (.int .i64 16)).setCell ⟨wa2.heap.size,1,none⟩ (.string ⟨t.text.toArray⟩)).setCell ⟨wa2.heap.size,2,none⟩ (.int .i64 0)).setCell ⟨wa2.heap.size,3,none⟩ (.int .i64 t.at_)).setCell ⟨wa2.heap.size,4,none⟩ (.slice (some ⟨gq,0,none⟩) 2 cq)=wz at q hf ⊢
       obtain ⟨q0,q1,q2,q3,q4⟩:=q
       refine bodyPost_ret (v:=.agg #[.int .i64 16,.string ⟨t.text.toArray⟩,.int .i64 0,.int .i64 t.at_,(.slice (some ⟨gq,0,none⟩) 2 cq)]) (by simp [results,Tryz.results141,go_sem,q0,q1,q2,q3,q4]) rfl ?_
       rw [HRW.out]
       have hr2:=HKr8.out.2
       have hp:=HP.out
       exact ⟨_,i,full,rfl,zfv HL8.out (fun b h=>h.1) (fun b h=>h.2.2) hf.2,rfl,HP8.out.sole_but (by omega) (by omega) hf.2,hf.1⟩)
  · rw [hse] at HSE
    have HR2:Hid (R=((PSof ts i full).want [62]).bind fun _ s=>.ok (named 16 t [(.node k9 n9 m9 a9 ks9)]) s):=by
     show _=_
     rw [HR1.out]
     show (if _ then _ else _)=_
     rw [hse,if_pos rfl]
    clear hse
    go_wp2_with fail
    refine HSE.out.mono ?_
    rintro e w3 ⟨rfl,hB3⟩
    have hp:=HP.out
    have hbb:=HBB.out
    have hlt2:=HLT.out
    have hr2:=HKr2.out.2
    have HPc:Hid (PP w3 p g cap ts i d full):=HP2.out.below hB3
    have HSc:Hid (Sole p w w3):=HS2.out.trans (Sole.of_below hB3)
    have HLc:Hid (zaf (fun b=>Mix A0 w.heap.size b∧b≠w1.heap.size∧b≠wa2.heap.size) w3 [(.node k9 n9 m9 a9 ks9)] (.slice (some ⟨wa.heap.size,0,none⟩) 1 1)):=by
     refine zdy (HKq2.out.below hB3).1 (by simp) ⟨Or.inr (by omega),by omega,by omega⟩ (zbe ((HT2.out.below hB3).weaken (fun b h=>?_)))
     have h0:=hbb b h
     exact ⟨⟨Or.inl h,by omega,by omega⟩,by omega⟩
    have HKrc:Hid (Kep w w3 wa2.heap.size (kidO 0 [] 0 0 (.slice none 0 0))):=HKr2.out.below hB3
    have HKlc:Hid (Kep w w3 w1.heap.size (kidO 16 t.text 0 t.at_ (.slice (some ⟨wa.heap.size,0,none⟩) 1 1))):=HKl2.out.below hB3
    clear hB3 hp hbb hlt2 hr2
    have HWB:Hid (Calls Tryz.prog 41 #[.pointer (some ⟨p,0,none⟩),.slice (some ⟨w3.heap.size,0,none⟩) 1 1] (w3.alloc (.cells #[.string ⟨#[62]⟩] 9)) (zao p g cap ts d ze4 ((PSof ts i full).want [62]) w3)):=zbs p g cap ts HE.out i d full [62] (by simp) w3 HPc.out
    obtain ⟨rw_,hrw⟩:∃ r,(PSof ts i full).want [62]=r:=⟨_,rfl⟩
    have HRW:Hid (R=rw_.bind fun _ s=>.ok (named 16 t [(.node k9 n9 m9 a9 ks9)]) s):=by
     show _=_
     rw [HR2.out];first|(rw [<- hrw];done)|(rw [<- hrw];rfl)
    rw [hrw] at HWB
    clear hrw
    go_wp2_with fail
    refine HWB.out.mono ?_
    cases rw_ with
    | no why at_ =>
     rintro e w8 ⟨rfl,hS⟩
     have HS:Hid (Sole p w w8):=HSc.out.trans hS
     clear hS
     go_wp2
     refine ⟨rfl,?_⟩
     rw [HRW.out]
     exact ⟨rfl,HS.out⟩
    | ok u st =>
     rintro e w8 ⟨v,i,full,rfl,rfl,rfl,hP,hS⟩
     have hp:=HP.out
     have hb:=HBB.out
     have HP8:Hid (PP w8 p g cap ts i d full):=hP
     have HS8:Hid (Sole p w w8):=HSc.out.trans hS
     have HL8:Hid (zaf (fun b=>Mix A0 w.heap.size b∧b≠w1.heap.size∧b≠wa2.heap.size) w8 [(.node k9 n9 m9 a9 ks9)] (.slice (some ⟨wa.heap.size,0,none⟩) 1 1)):=HLc.out.sole (fun b h=>by rcases h.1 with h1|h1;exact (hb b h1).1;omega) hS
     have HKr8:Hid (Kep w w8 wa2.heap.size (kidO 0 [] 0 0 (.slice none 0 0))):=HKrc.out.sole hp.1 hS
     obtain ⟨⟨z0,z1,z2,z3,z4⟩,⟨y0,y1,y2,y3,y4⟩⟩:=zac HKr8.out.1
     obtain ⟨⟨l0,l1,l2,l3,l4⟩,_⟩:=zac (HKlc.out.sole hp.1 hS).1
     clear hP hS hp hb
     go_wp2
     have q:=res5 w8 wa2.heap.size (.int .i64 16) (.string ⟨t.text.toArray⟩) (.int .i64 0) (.int .i64 t.at_) (.slice (some ⟨wa.heap.size,0,none⟩) 1 1) z0 z1 z2 z3 z4
     have hf:=fin5 (k:=16) (n:=t.text) (m:=0) (a:=t.at_) (sl:=(.slice (some ⟨wa.heap.size,0,none⟩) 1 1)) HKr8.out.2 HS8.out _ rfl
     generalize ((((w8.setCell ⟨wa2.heap.size,0,none⟩ (.int .i64 16)).setCell ⟨wa2.heap.size,1,none⟩ (.string ⟨t.text.toArray⟩)).setCell ⟨wa2.heap.size,2,none⟩ (.int .i64 0)).setCell ⟨wa2.heap.size,3,none⟩ (.int .i64 t.at_)).setCell ⟨wa2.heap.size,4,none⟩ (.slice (some ⟨wa.heap.size,0,none⟩) 1 1)=wz at q hf ⊢
     obtain ⟨q0,q1,q2,q3,q4⟩:=q
     refine bodyPost_ret (v:=.agg #[.int .i64 16,.string ⟨t.text.toArray⟩,.int .i64 0,.int .i64 t.at_,(.slice (some ⟨wa.heap.size,0,none⟩) 1 1)]) (by simp [results,Tryz.results141,go_sem,q0,q1,q2,q3,q4]) rfl ?_
     rw [HRW.out]
     have hr2:=HKr8.out.2
     have hp:=HP.out
     exact ⟨_,i,full,rfl,zfv HL8.out (fun b h=>h.1) (fun b h=>h.2.2) hf.2,rfl,HP8.out.sole_but (by omega) (by omega) hf.2,hf.1⟩
theorem Ends.sees {ts:List Tok} (hE:Ends ts) {i:Nat} {full:Bool} (hi:i<ts.length) {t:List UInt8} (ht:t≠[]) (h:(PSof ts i full).sees t=true):i+1<ts.length:=by
 refine hE.text hi ?_
 unfold PS.sees at h
 rw [zb8 ts i full hi] at h
 rw [show (ts[i]'hi).text=t by simpa using h]
 exact ht
theorem zf4 (p g cap:Nat) (ts:List Tok) (i:Nat) (d:Int) (full:Bool) (t:List UInt8) (w:World) (h:PP w p g cap ts i d full) :
 Calls Tryz.prog 75 #[.pointer (some ⟨p,0,none⟩),.string ⟨t.toArray⟩] w fun e w'=>e=.returned (.bool ((PSof ts i full).sees t))∧Below w.heap.size w w':=by
 have hx:=ze0 p g cap ts i d full ⟨t.toArray⟩ w h
 rw [ByteArray.toList_mk] at hx
 exact hx
set_option maxHeartbeats 2000000 in
set_option maxRecDepth 4000 in
theorem zhg (p g cap:Nat) (ts:List Tok) (hE:Ends ts) (i:Nat) (d:Int) (full:Bool) (k9:Int) (n9:List UInt8) (m9:Int) (a9:Nat) (ks9:List Tree) (o9:Option Addr) (l9 c9:Nat) (A0:Nat->Prop) (w:World) (h:PP w p g cap ts i d full)
 (hA0:∀ b,A0 b->b≠p∧b<w.heap.size) (hT:zam A0 w (.node k9 n9 m9 a9 ks9) (kidV k9 n9 m9 a9 (.slice o9 l9 c9))) :
 Calls Tryz.prog 111 #[.pointer (some ⟨p,0,none⟩),(kidV k9 n9 m9 a9 (.slice o9 l9 c9))] w (zao p g cap ts d (mixIs A0 w.heap.size) (sizedP k9 (.node k9 n9 m9 a9 ks9) (PSof ts i full)) w):=by
 have HP:=hid2 h.plt h.glt
 have HBB:=hid hA0
 have HE:=hid hE
 obtain ⟨R,hR⟩:∃ R,sizedP k9 (.node k9 n9 m9 a9 ks9) (PSof ts i full)=R:=⟨_,rfl⟩
 rw [hR]
 have HR0:=hid hR.symm
 unfold kidV
 obtain ⟨wa1,hwa1⟩:∃ x,w.alloc (.cells #[.int .i64 k9,.string ⟨n9.toArray⟩,.int .i64 m9,.int .i64 a9,.slice o9 l9 c9] 29)=x:=⟨_,rfl⟩
 obtain ⟨wa,hwa⟩:∃ x,wa1.alloc (.cells #[.int .i64 0,.string ⟨#[]⟩,.int .i64 0,.int .i64 0,.slice none 0 0] 29)=x:=⟨_,rfl⟩
 have b1:Below w.heap.size w wa1:=by rw [<- hwa1];exact zad _ _
 have b2:Below w.heap.size w wa:=by rw [<- hwa];exact b1.alloc b1.size _
 have HKo:Hid (Kep w wa w.heap.size (kidO k9 n9 m9 a9 (.slice o9 l9 c9))):=by show Kep w wa _ _;rw [<- hwa,<- hwa1];exact (Kep.new (Nat.le_refl _) _).alloc _
 have HKr:Hid (Kep w wa wa1.heap.size (kidO 0 [] 0 0 (.slice none 0 0))):=by show Kep w wa _ _;rw [<- hwa];exact Kep.new b1.size _
 have HTa:=hid (hT.below b2)
 have HSa:Hid (Sole p w wa):=Sole.of_below b2
 have HN:=hid (zf6 p g cap ts hE i d full wa (h.below b2))
 obtain ⟨rn,hrn⟩:∃ r,zdj (PSof ts i full)=r:=⟨_,rfl⟩
 have HR1:Hid (R=rn.bind fun t s=>(if s.sees [91]&&k9 != 26 then s.take.bind fun _ s=>(valueP s).bind fun v s=>(s.want [93]).bind fun _ s=>.ok (named 15 t [(.node k9 n9 m9 a9 ks9),v]) s else if s.sees [60] then (s.want [60]).bind fun _ s=>if s.sees [62] then (s.want [62]).bind fun _ s=>.ok (named 16 t [(.node k9 n9 m9 a9 ks9)]) s else (valueP s).bind fun v s=>(s.want [62]).bind fun _ s=>.ok (named 16 t [(.node k9 n9 m9 a9 ks9),v]) s else if k9==25||k9==26 then s.bad 40 else .ok (named 14 t [(.node k9 n9 m9 a9 ks9)]) s)):=by
  show _=_
  rw [HR0.out,<- hrn];rfl
 rw [hrn] at HN
 clear b1 b2 h hT hE hA0 hR hrn
 go_enter Tryz.func111,Tryz.ntmps111
 go_wp2_with fail
 refine HN.out.mono ?_
 cases rn with
 | no why at_ =>
  rintro e w99 ⟨rfl,hS⟩
  have HS99:=hid (HSa.out.trans hS)
  clear hS
  go_wp2
  refine ⟨rfl,?_⟩
  rw [HR1.out]
  exact ⟨rfl,HS99.out⟩
 | ok t st =>
  rintro e w2 ⟨v,i,full,rfl,rfl,rfl,hP,hS⟩
  obtain ⟨w3,hw3⟩:∃ x,w2.alloc (.cells #[.int .i64 t.kind,.string ⟨t.text.toArray⟩,.int .i64 t.num,.int .i64 t.at_] 41)=x:=⟨_,rfl⟩
  have hp:=HP.out.1
  have hs2:Sole p w w2:=HSa.out.trans hS
  have HP3:Hid (PP w3 p g cap ts i d full):=by show PP w3 _ _ _ _ _ _ _;rw [<- hw3];exact hP.alloc _
  have HS3:Hid (Sole p w w3):=by show Sole p w w3;rw [<- hw3];exact hs2.alloc _
  have HKo3:Hid (Kep w w3 w.heap.size (kidO k9 n9 m9 a9 (.slice o9 l9 c9))):=by show Kep w w3 _ _;rw [<- hw3];exact (HKo.out.sole hp hS).alloc _
  have HKr3:Hid (Kep w w3 wa1.heap.size (kidO 0 [] 0 0 (.slice none 0 0))):=by show Kep w w3 _ _;rw [<- hw3];exact (HKr.out.sole hp hS).alloc _
  have HKt3:Hid (Kep w w3 w2.heap.size (tokO t)):=by show Kep w w3 _ _;rw [<- hw3];exact Kep.new hs2.size _
  have HT3:Hid (zam A0 w3 (.node k9 n9 m9 a9 ks9) (kidV k9 n9 m9 a9 (.slice o9 l9 c9))):=by show zam _ w3 _ _;rw [<- hw3];exact (HTa.out.sole (fun b h=>(HBB.out b h).1) hS).below (zad _ _)
  have HS91:=hid (zf4 p g cap ts i d full [91] w3 HP3.out)
  clear hP hS hp hs2 hwa1 hwa
  unfold tokV
  cases hse:(PSof ts i full).sees [91]
  · rw [hse] at HS91
    have HR2:Hid (R=(if (PSof ts i full).sees [60] then ((PSof ts i full).want [60]).bind fun _ s=>if s.sees [62] then (s.want [62]).bind fun _ s=>.ok (named 16 t [(.node k9 n9 m9 a9 ks9)]) s else (valueP s).bind fun v s=>(s.want [62]).bind fun _ s=>.ok (named 16 t [(.node k9 n9 m9 a9 ks9),v]) s else if k9==25||k9==26 then (PSof ts i full).bad 40 else .ok (named 14 t [(.node k9 n9 m9 a9 ks9)]) (PSof ts i full))):=by
     show _=_
     rw [HR1.out]
     show (if _ then _ else _)=_
     rw [hse,if_neg (by simp)]
    clear hse
    go_wp2_with fail
    clear hw3
    refine HS91.out.mono ?_
    rintro e w4 ⟨rfl,hB4⟩
    have HP4:=hid (HP3.out.below hB4)
    have HS4:=hid (HS3.out.trans (Sole.of_below hB4))
    have HKo4:=hid (HKo3.out.below hB4)
    have HKr4:=hid (HKr3.out.below hB4)
    have HKt4:=hid (HKt3.out.below hB4)
    have HT4:=hid (HT3.out.below hB4)
    obtain ⟨⟨u0,u1,u2,u3,u4⟩,_⟩:=zac HKo4.out.1
    clear hB4
    have HS60:=hid (zf4 p g cap ts i d full [60] w4 HP4.out)
    cases hse:(PSof ts i full).sees [60]
    · rw [hse] at HS60
      by_cases hk25:k9=25∨k9=26
      · have HR3:Hid (R=(PSof ts i full).bad 40):=by
         show _=_
         rw [HR2.out,hse,if_neg (by simp),if_pos (by rcases hk25 with e|e <;> simp [e])]
        clear hse
        by_cases e25:k9=25
        · have hk5:(k9==25)=true:=by simp [e25]
          clear hk25 e25
          go_wp2_with fail
          refine HS60.out.mono ?_
          rintro e w5 ⟨rfl,hB5⟩
          have HP5:=hid (HP4.out.below hB5)
          have HS5:=hid (HS4.out.trans (Sole.of_below hB5))
          have HKo5:=hid (HKo4.out.below hB5)
          have HKr5:=hid (HKr4.out.below hB5)
          have HKt5:=hid (HKt4.out.below hB5)
          have HT5:=hid (HT4.out.below hB5)
          clear hB5
          have HWR:=hid (zc6 p g cap ts i d 40 full w5 HP5.out)
          have HR4:Hid (R=.no 40 (ts[i]'HP5.out.il).at_):=by
           show _=_
           rw [HR3.out]
           unfold PS.bad
           rw [zb8 ts i full HP5.out.il]
          obtain ⟨⟨v0,v1,v2,v3,v4⟩,_⟩:=zac HKo5.out.1
          go_wp2_with fail
          refine HWR.out.mono ?_
          rintro e w6 ⟨rfl,hB6⟩
          have HS6:=hid (HS5.out.trans (Sole.of_below hB6))
          clear hB6
          go_wp2
          refine ⟨rfl,?_⟩
          rw [HR4.out]
          exact ⟨rfl,HS6.out⟩
        · have hk5:(k9==25)=false:=by simp [e25]
          have hk6:(k9==26)=true:=by rcases hk25 with e|e;exact absurd e e25;simp [e]
          clear hk25 e25
          go_wp2_with fail
          refine HS60.out.mono ?_
          rintro e w5 ⟨rfl,hB5⟩
          have HP5:=hid (HP4.out.below hB5)
          have HS5:=hid (HS4.out.trans (Sole.of_below hB5))
          have HKo5:=hid (HKo4.out.below hB5)
          have HKr5:=hid (HKr4.out.below hB5)
          have HKt5:=hid (HKt4.out.below hB5)
          have HT5:=hid (HT4.out.below hB5)
          clear hB5
          have HWR:=hid (zc6 p g cap ts i d 40 full w5 HP5.out)
          have HR4:Hid (R=.no 40 (ts[i]'HP5.out.il).at_):=by
           show _=_
           rw [HR3.out]
           unfold PS.bad
           rw [zb8 ts i full HP5.out.il]
          obtain ⟨⟨v0,v1,v2,v3,v4⟩,_⟩:=zac HKo5.out.1
          go_wp2_with fail
          refine HWR.out.mono ?_
          rintro e w6 ⟨rfl,hB6⟩
          have HS6:=hid (HS5.out.trans (Sole.of_below hB6))
          clear hB6
          go_wp2
          refine ⟨rfl,?_⟩
          rw [HR4.out]
          exact ⟨rfl,HS6.out⟩
      · have HR3:Hid (R=.ok (named 14 t [(.node k9 n9 m9 a9 ks9)]) (PSof ts i full)):=by
         show _=_
         rw [HR2.out,hse,if_neg (by simp),if_neg (by simp;omega)]
        have hk5:(k9==25)=false:=by simp;omega
        have hk6:(k9==26)=false:=by simp;omega
        clear hse hk25
        go_wp2_with fail
        refine HS60.out.mono ?_
        rintro e w5 ⟨rfl,hB5⟩
        have HP5:=hid (HP4.out.below hB5)
        have HS5:=hid (HS4.out.trans (Sole.of_below hB5))
        have HKo5:=hid (HKo4.out.below hB5)
        have HKr5:=hid (HKr4.out.below hB5)
        have HKt5:=hid (HKt4.out.below hB5)
        have HT5:=hid (HT4.out.below hB5)
        clear hB5
        obtain ⟨wq,hwq⟩:∃ x,w5.alloc (.cells #[.int .i64 k9,.string ⟨n9.toArray⟩,.int .i64 m9,.int .i64 a9,.slice o9 l9 c9] 29)=x:=⟨_,rfl⟩
        have hBq:Below w5.heap.size w5 wq:=by rw [<- hwq];exact zad _ _
        have HNM:=hid (zc8 14 t (some ⟨w5.heap.size,0,none⟩) 1 1 wq)
        have HQ:Hid (Below w5.heap.size w5 wq∧wq.heap[w5.heap.size]?=some (zdr [.int .i64 k9,.string ⟨n9.toArray⟩,.int .i64 m9,.int .i64 a9,.slice o9 l9 c9])):=⟨hBq,by rw [<- hwq];exact heap_alloc_new _ _⟩
        clear hBq
        obtain ⟨t0,t1,t2,t3⟩:=zb1 HKt5.out.1
        obtain ⟨⟨v0,v1,v2,v3,v4⟩,_⟩:=zac HKo5.out.1
        unfold tokV at HNM
        go_wp2_with fail
        refine HNM.out.mono ?_
        rintro e w6 ⟨rfl,hB6⟩
        have hp:=HP.out
        have hbb:=HBB.out
        have h5:=HS5.out.size
        have hr5:=HKr5.out.lt
        have hB56:Below w5.heap.size w5 w6:=HQ.out.1.trans (hB6.mono HQ.out.1.size)
        have HP6:=hid (HP5.out.below hB56)
        have HS6:=hid (HS5.out.trans (Sole.of_below hB56))
        have HKr6:=hid (HKr5.out.below hB56)
        have HL6:Hid (zaf (fun b=>Mix A0 w.heap.size b∧b≠wa1.heap.size) w6 [(.node k9 n9 m9 a9 ks9)] (.slice (some ⟨w5.heap.size,0,none⟩) 1 1)):=by
         refine zdy (za8 hB6 HQ.out.2) (by simp) ⟨Or.inr (by omega),by omega⟩ (zbe ((HT5.out.below hB56).weaken (fun b h=>?_)))
         have h0:=hbb b h
         have:=HKr5.out.2
         exact ⟨⟨Or.inl h,by omega⟩,by omega⟩
        clear hB6 hB56 hp hbb h5 hr5 hwq HQ
        unfold kidV
        obtain ⟨⟨z0,z1,z2,z3,z4⟩,⟨y0,y1,y2,y3,y4⟩⟩:=zac HKr6.out.1
        go_wp2
        have q:=res5 w6 wa1.heap.size (.int .i64 14) (.string ⟨t.text.toArray⟩) (.int .i64 0) (.int .i64 t.at_) (.slice (some ⟨w5.heap.size,0,none⟩) 1 1) z0 z1 z2 z3 z4
        have hf:=fin5 (r:=wa1.heap.size) (w9:=w6) (k:=14) (n:=t.text) (m:=0) (a:=t.at_) (sl:=(.slice (some ⟨w5.heap.size,0,none⟩) 1 1)) HKr6.out.2 HS6.out _ rfl
        generalize ((((w6.setCell ⟨wa1.heap.size,0,none⟩ (.int .i64 14)).setCell ⟨wa1.heap.size,1,none⟩ (.string ⟨t.text.toArray⟩)).setCell ⟨wa1.heap.size,2,none⟩ (.int .i64 0)).setCell ⟨wa1.heap.size,3,none⟩ (.int .i64 t.at_)).setCell ⟨wa1.heap.size,4,none⟩ (.slice (some ⟨w5.heap.size,0,none⟩) 1 1)=wz at q hf ⊢
        obtain ⟨q0,q1,q2,q3,q4⟩:=q
        refine bodyPost_ret (v:=.agg #[.int .i64 14,.string ⟨t.text.toArray⟩,.int .i64 0,.int .i64 t.at_,(.slice (some ⟨w5.heap.size,0,none⟩) 1 1)]) (by simp [results,Tryz.results111,go_sem,q0,q1,q2,q3,q4]) rfl ?_
        rw [HR3.out]
        have hr2:=HKr6.out.2
        have hpg:=HP.out
        exact ⟨_,_,_,rfl,zfv HL6.out (fun b h=>h.1) (fun b h=>h.2) hf.2,rfl,HP6.out.sole_but (by omega) (by omega) hf.2,hf.1⟩
    · rw [hse] at HS60
      have HR3:Hid (R=zjh t (.node k9 n9 m9 a9 ks9) (PSof ts i full)):=by
       show _=_
       rw [HR2.out,hse,if_pos rfl]
       rfl
      clear hse
      go_wp2_with fail
      refine HS60.out.mono ?_
      rintro e w5 ⟨rfl,hB5⟩
      have HP5:=hid (HP4.out.below hB5)
      have HS5:=hid (HS4.out.trans (Sole.of_below hB5))
      have HKo5:=hid (HKo4.out.below hB5)
      have HKr5:=hid (HKr4.out.below hB5)
      have HKt5:=hid (HKt4.out.below hB5)
      have HT5:=hid (HT4.out.below hB5)
      clear hB5
      have HLI:=hid (list_any p g cap ts HE.out i d full t k9 n9 m9 a9 ks9 o9 l9 c9 A0 w5 HP5.out (fun b h=>⟨(HBB.out b h).1,Nat.lt_of_lt_of_le (HBB.out b h).2 HS5.out.size⟩) HT5.out)
      obtain ⟨rl,hrl⟩:∃ r,zjh t (.node k9 n9 m9 a9 ks9) (PSof ts i full)=r:=⟨_,rfl⟩
      have HR4:=hid (HR3.out.trans hrl)
      rw [hrl] at HLI
      clear hrl
      obtain ⟨t0,t1,t2,t3⟩:=zb1 HKt5.out.1
      obtain ⟨⟨v0,v1,v2,v3,v4⟩,_⟩:=zac HKo5.out.1
      unfold tokV kidV at HLI
      go_wp2_with fail
      refine HLI.out.mono ?_
      cases rl with
      | no why at_ =>
       rintro e w99 ⟨rfl,hS⟩
       have HS99:=hid (HS5.out.trans hS)
       clear hS
       go_wp2
       refine ⟨rfl,?_⟩
       rw [HR4.out]
       exact ⟨rfl,HS99.out⟩
      | ok tv st =>
       rintro e w6 ⟨v,i,full,rfl,hT,rfl,hP,hS⟩
       obtain ⟨k8,n8,m8,a8,ks8⟩:=tv
       obtain ⟨sl,rfl,hL⟩:=zah.1 hT
       obtain ⟨o8,l8,c8,rfl⟩:=hL.shape
       have HP6:=hid hP
       have HS6:=hid (HS5.out.trans hS)
       have HKr6:=hid (HKr5.out.sole HP.out.1 hS)
       have h5r:=HKr5.out.lt
       have h5s:=HS5.out.size
       have hr52:=HKr5.out.2
       have hbb:=HBB.out
       have HL6:Hid (zaf (fun b=>Mix A0 w.heap.size b∧b≠wa1.heap.size) w6 ks8 (.slice o8 l8 c8)):=hL.weaken (fun b h=>by
        rcases h with h|h
        · have h0:=hbb b h
          exact ⟨Or.inl h,by omega⟩
        · exact ⟨Or.inr (by omega),by omega⟩)
       clear hP hS hT hL h5r h5s hr52 hbb
       unfold kidV
       obtain ⟨⟨z0,z1,z2,z3,z4⟩,⟨y0,y1,y2,y3,y4⟩⟩:=zac HKr6.out.1
       go_wp2
       have q:=res5 w6 wa1.heap.size (.int .i64 k8) (.string ⟨n8.toArray⟩) (.int .i64 m8) (.int .i64 a8) (.slice o8 l8 c8) z0 z1 z2 z3 z4
       have hf:=fin5 (r:=wa1.heap.size) (w9:=w6) (k:=k8) (n:=n8) (m:=m8) (a:=a8) (sl:=(.slice o8 l8 c8)) HKr6.out.2 HS6.out _ rfl
       generalize ((((w6.setCell ⟨wa1.heap.size,0,none⟩ (.int .i64 k8)).setCell ⟨wa1.heap.size,1,none⟩ (.string ⟨n8.toArray⟩)).setCell ⟨wa1.heap.size,2,none⟩ (.int .i64 m8)).setCell ⟨wa1.heap.size,3,none⟩ (.int .i64 a8)).setCell ⟨wa1.heap.size,4,none⟩ (.slice o8 l8 c8)=wz at q hf ⊢
       obtain ⟨q0,q1,q2,q3,q4⟩:=q
       refine bodyPost_ret (v:=.agg #[.int .i64 k8,.string ⟨n8.toArray⟩,.int .i64 m8,.int .i64 a8,(.slice o8 l8 c8)]) (by simp [results,Tryz.results111,go_sem,q0,q1,q2,q3,q4]) rfl ?_
       rw [HR4.out]
       have hr2:=HKr6.out.2
       have hpg:=HP.out
       exact ⟨_,_,_,rfl,zfv HL6.out (fun b h=>h.1) (fun b h=>h.2) hf.2,rfl,HP6.out.sole_but (by omega) (by omega) hf.2,hf.1⟩
  · rw [hse] at HS91
    by_cases hk:k9=26
    · have HR2:Hid (R=(if (PSof ts i full).sees [60] then ((PSof ts i full).want [60]).bind fun _ s=>if s.sees [62] then (s.want [62]).bind fun _ s=>.ok (named 16 t [(.node k9 n9 m9 a9 ks9)]) s else (valueP s).bind fun v s=>(s.want [62]).bind fun _ s=>.ok (named 16 t [(.node k9 n9 m9 a9 ks9),v]) s else if k9==25||k9==26 then (PSof ts i full).bad 40 else .ok (named 14 t [(.node k9 n9 m9 a9 ks9)]) (PSof ts i full))):=by
       show _=_
       rw [HR1.out]
       show (if _ then _ else _)=_
       rw [if_neg (by simp [hk])]
      clear hse
      have hkn:(k9 != 26)=false:=by simp [hk]
      go_wp2_with fail
      clear hw3
      refine HS91.out.mono ?_
      rintro e w4 ⟨rfl,hB4⟩
      have HP4:=hid (HP3.out.below hB4)
      have HS4:=hid (HS3.out.trans (Sole.of_below hB4))
      have HKo4:=hid (HKo3.out.below hB4)
      have HKr4:=hid (HKr3.out.below hB4)
      have HKt4:=hid (HKt3.out.below hB4)
      have HT4:=hid (HT3.out.below hB4)
      obtain ⟨⟨u0,u1,u2,u3,u4⟩,_⟩:=zac HKo4.out.1
      clear hB4
      clear hkn
      have hkn:(k9 != 26)=false:=by simp [hk]
      clear hk
      have HS60:=hid (zf4 p g cap ts i d full [60] w4 HP4.out)
      cases hse:(PSof ts i full).sees [60]
      · rw [hse] at HS60
        by_cases hk25:k9=25∨k9=26
        · have HR3:Hid (R=(PSof ts i full).bad 40):=by
           show _=_
           rw [HR2.out,hse,if_neg (by simp),if_pos (by rcases hk25 with e|e <;> simp [e])]
          clear hse
          by_cases e25:k9=25
          · have hk5:(k9==25)=true:=by simp [e25]
            clear hk25 e25
            go_wp2_with fail
            refine HS60.out.mono ?_
            rintro e w5 ⟨rfl,hB5⟩
            have HP5:=hid (HP4.out.below hB5)
            have HS5:=hid (HS4.out.trans (Sole.of_below hB5))
            have HKo5:=hid (HKo4.out.below hB5)
            have HKr5:=hid (HKr4.out.below hB5)
            have HKt5:=hid (HKt4.out.below hB5)
            have HT5:=hid (HT4.out.below hB5)
            clear hB5
            have HWR:=hid (zc6 p g cap ts i d 40 full w5 HP5.out)
            have HR4:Hid (R=.no 40 (ts[i]'HP5.out.il).at_):=by
             show _=_
             rw [HR3.out]
             unfold PS.bad
             rw [zb8 ts i full HP5.out.il]
            obtain ⟨⟨v0,v1,v2,v3,v4⟩,_⟩:=zac HKo5.out.1
            go_wp2_with fail
            refine HWR.out.mono ?_
            rintro e w6 ⟨rfl,hB6⟩
            have HS6:=hid (HS5.out.trans (Sole.of_below hB6))
            clear hB6
            go_wp2
            refine ⟨rfl,?_⟩
            rw [HR4.out]
            exact ⟨rfl,HS6.out⟩
          · have hk5:(k9==25)=false:=by simp [e25]
            have hk6:(k9==26)=true:=by rcases hk25 with e|e;exact absurd e e25;simp [e]
            clear hk25 e25
            go_wp2_with fail
            refine HS60.out.mono ?_
            rintro e w5 ⟨rfl,hB5⟩
            have HP5:=hid (HP4.out.below hB5)
            have HS5:=hid (HS4.out.trans (Sole.of_below hB5))
            have HKo5:=hid (HKo4.out.below hB5)
            have HKr5:=hid (HKr4.out.below hB5)
            have HKt5:=hid (HKt4.out.below hB5)
            have HT5:=hid (HT4.out.below hB5)
            clear hB5
            have HWR:=hid (zc6 p g cap ts i d 40 full w5 HP5.out)
            have HR4:Hid (R=.no 40 (ts[i]'HP5.out.il).at_):=by
             show _=_
             rw [HR3.out]
             unfold PS.bad
             rw [zb8 ts i full HP5.out.il]
            obtain ⟨⟨v0,v1,v2,v3,v4⟩,_⟩:=zac HKo5.out.1
            go_wp2_with fail
            refine HWR.out.mono ?_
            rintro e w6 ⟨rfl,hB6⟩
            have HS6:=hid (HS5.out.trans (Sole.of_below hB6))
            clear hB6
            go_wp2
            refine ⟨rfl,?_⟩
            rw [HR4.out]
            exact ⟨rfl,HS6.out⟩
        · have HR3:Hid (R=.ok (named 14 t [(.node k9 n9 m9 a9 ks9)]) (PSof ts i full)):=by
           show _=_
           rw [HR2.out,hse,if_neg (by simp),if_neg (by simp;omega)]
          have hk5:(k9==25)=false:=by simp;omega
          have hk6:(k9==26)=false:=by simp;omega
          clear hse hk25
          go_wp2_with fail
          refine HS60.out.mono ?_
          rintro e w5 ⟨rfl,hB5⟩
          have HP5:=hid (HP4.out.below hB5)
          have HS5:=hid (HS4.out.trans (Sole.of_below hB5))
          have HKo5:=hid (HKo4.out.below hB5)
          have HKr5:=hid (HKr4.out.below hB5)
          have HKt5:=hid (HKt4.out.below hB5)
          have HT5:=hid (HT4.out.below hB5)
          clear hB5
          obtain ⟨wq,hwq⟩:∃ x,w5.alloc (.cells #[.int .i64 k9,.string ⟨n9.toArray⟩,.int .i64 m9,.int .i64 a9,.slice o9 l9 c9] 29)=x:=⟨_,rfl⟩
          have hBq:Below w5.heap.size w5 wq:=by rw [<- hwq];exact zad _ _
          have HNM:=hid (zc8 14 t (some ⟨w5.heap.size,0,none⟩) 1 1 wq)
          have HQ:Hid (Below w5.heap.size w5 wq∧wq.heap[w5.heap.size]?=some (zdr [.int .i64 k9,.string ⟨n9.toArray⟩,.int .i64 m9,.int .i64 a9,.slice o9 l9 c9])):=⟨hBq,by rw [<- hwq];exact heap_alloc_new _ _⟩
          clear hBq
          obtain ⟨t0,t1,t2,t3⟩:=zb1 HKt5.out.1
          obtain ⟨⟨v0,v1,v2,v3,v4⟩,_⟩:=zac HKo5.out.1
          unfold tokV at HNM
          go_wp2_with fail
          refine HNM.out.mono ?_
          rintro e w6 ⟨rfl,hB6⟩
          have hp:=HP.out
          have hbb:=HBB.out
          have h5:=HS5.out.size
          have hr5:=HKr5.out.lt
          have hB56:Below w5.heap.size w5 w6:=HQ.out.1.trans (hB6.mono HQ.out.1.size)
          have HP6:=hid (HP5.out.below hB56)
          have HS6:=hid (HS5.out.trans (Sole.of_below hB56))
          have HKr6:=hid (HKr5.out.below hB56)
          have HL6:Hid (zaf (fun b=>Mix A0 w.heap.size b∧b≠wa1.heap.size) w6 [(.node k9 n9 m9 a9 ks9)] (.slice (some ⟨w5.heap.size,0,none⟩) 1 1)):=by
           refine zdy (za8 hB6 HQ.out.2) (by simp) ⟨Or.inr (by omega),by omega⟩ (zbe ((HT5.out.below hB56).weaken (fun b h=>?_)))
           have h0:=hbb b h
           have:=HKr5.out.2
           exact ⟨⟨Or.inl h,by omega⟩,by omega⟩
          clear hB6 hB56 hp hbb h5 hr5 hwq HQ
          unfold kidV
          obtain ⟨⟨z0,z1,z2,z3,z4⟩,⟨y0,y1,y2,y3,y4⟩⟩:=zac HKr6.out.1
          go_wp2
          have q:=res5 w6 wa1.heap.size (.int .i64 14) (.string ⟨t.text.toArray⟩) (.int .i64 0) (.int .i64 t.at_) (.slice (some ⟨w5.heap.size,0,none⟩) 1 1) z0 z1 z2 z3 z4
          have hf:=fin5 (r:=wa1.heap.size) (w9:=w6) (k:=14) (n:=t.text) (m:=0) (a:=t.at_) (sl:=(.slice (some ⟨w5.heap.size,0,none⟩) 1 1)) HKr6.out.2 HS6.out _ rfl
          generalize ((((w6.setCell ⟨wa1.heap.size,0,none⟩ (.int .i64 14)).setCell ⟨wa1.heap.size,1,none⟩ (.string ⟨t.text.toArray⟩)).setCell ⟨wa1.heap.size,2,none⟩ (.int .i64 0)).setCell ⟨wa1.heap.size,3,none⟩ (.int .i64 t.at_)).setCell ⟨wa1.heap.size,4,none⟩ (.slice (some ⟨w5.heap.size,0,none⟩) 1 1)=wz at q hf ⊢
          obtain ⟨q0,q1,q2,q3,q4⟩:=q
          refine bodyPost_ret (v:=.agg #[.int .i64 14,.string ⟨t.text.toArray⟩,.int .i64 0,.int .i64 t.at_,(.slice (some ⟨w5.heap.size,0,none⟩) 1 1)]) (by simp [results,Tryz.results111,go_sem,q0,q1,q2,q3,q4]) rfl ?_
          rw [HR3.out]
          have hr2:=HKr6.out.2
          have hpg:=HP.out
          exact ⟨_,_,_,rfl,zfv HL6.out (fun b h=>h.1) (fun b h=>h.2) hf.2,rfl,HP6.out.sole_but (by omega) (by omega) hf.2,hf.1⟩
      · rw [hse] at HS60
        have HR3:Hid (R=zjh t (.node k9 n9 m9 a9 ks9) (PSof ts i full)):=by
         show _=_
         rw [HR2.out,hse,if_pos rfl]
         rfl
        clear hse
        go_wp2_with fail
        refine HS60.out.mono ?_
        rintro e w5 ⟨rfl,hB5⟩
        have HP5:=hid (HP4.out.below hB5)
        have HS5:=hid (HS4.out.trans (Sole.of_below hB5))
        have HKo5:=hid (HKo4.out.below hB5)
        have HKr5:=hid (HKr4.out.below hB5)
        have HKt5:=hid (HKt4.out.below hB5)
        have HT5:=hid (HT4.out.below hB5)
        clear hB5
        have HLI:=hid (list_any p g cap ts HE.out i d full t k9 n9 m9 a9 ks9 o9 l9 c9 A0 w5 HP5.out (fun b h=>⟨(HBB.out b h).1,Nat.lt_of_lt_of_le (HBB.out b h).2 HS5.out.size⟩) HT5.out)
        obtain ⟨rl,hrl⟩:∃ r,zjh t (.node k9 n9 m9 a9 ks9) (PSof ts i full)=r:=⟨_,rfl⟩
        have HR4:=hid (HR3.out.trans hrl)
        rw [hrl] at HLI
        clear hrl
        obtain ⟨t0,t1,t2,t3⟩:=zb1 HKt5.out.1
        obtain ⟨⟨v0,v1,v2,v3,v4⟩,_⟩:=zac HKo5.out.1
        unfold tokV kidV at HLI
        go_wp2_with fail
        refine HLI.out.mono ?_
        cases rl with
        | no why at_ =>
         rintro e w99 ⟨rfl,hS⟩
         have HS99:=hid (HS5.out.trans hS)
         clear hS
         go_wp2
         refine ⟨rfl,?_⟩
         rw [HR4.out]
         exact ⟨rfl,HS99.out⟩
        | ok tv st =>
         rintro e w6 ⟨v,i,full,rfl,hT,rfl,hP,hS⟩
         obtain ⟨k8,n8,m8,a8,ks8⟩:=tv
         obtain ⟨sl,rfl,hL⟩:=zah.1 hT
         obtain ⟨o8,l8,c8,rfl⟩:=hL.shape
         have HP6:=hid hP
         have HS6:=hid (HS5.out.trans hS)
         have HKr6:=hid (HKr5.out.sole HP.out.1 hS)
         have h5r:=HKr5.out.lt
         have h5s:=HS5.out.size
         have hr52:=HKr5.out.2
         have hbb:=HBB.out
         have HL6:Hid (zaf (fun b=>Mix A0 w.heap.size b∧b≠wa1.heap.size) w6 ks8 (.slice o8 l8 c8)):=hL.weaken (fun b h=>by
          rcases h with h|h
          · have h0:=hbb b h
            exact ⟨Or.inl h,by omega⟩
          · exact ⟨Or.inr (by omega),by omega⟩)
         clear hP hS hT hL h5r h5s hr52 hbb
         unfold kidV
         obtain ⟨⟨z0,z1,z2,z3,z4⟩,⟨y0,y1,y2,y3,y4⟩⟩:=zac HKr6.out.1
         go_wp2
         have q:=res5 w6 wa1.heap.size (.int .i64 k8) (.string ⟨n8.toArray⟩) (.int .i64 m8) (.int .i64 a8) (.slice o8 l8 c8) z0 z1 z2 z3 z4
         have hf:=fin5 (r:=wa1.heap.size) (w9:=w6) (k:=k8) (n:=n8) (m:=m8) (a:=a8) (sl:=(.slice o8 l8 c8)) HKr6.out.2 HS6.out _ rfl
         generalize ((((w6.setCell ⟨wa1.heap.size,0,none⟩ (.int .i64 k8)).setCell ⟨wa1.heap.size,1,none⟩ (.string ⟨n8.toArray⟩)).setCell ⟨wa1.heap.size,2,none⟩ (.int .i64 m8)).setCell ⟨wa1.heap.size,3,none⟩ (.int .i64 a8)).setCell ⟨wa1.heap.size,4,none⟩ (.slice o8 l8 c8)=wz at q hf ⊢
         obtain ⟨q0,q1,q2,q3,q4⟩:=q
         refine bodyPost_ret (v:=.agg #[.int .i64 k8,.string ⟨n8.toArray⟩,.int .i64 m8,.int .i64 a8,(.slice o8 l8 c8)]) (by simp [results,Tryz.results111,go_sem,q0,q1,q2,q3,q4]) rfl ?_
         rw [HR4.out]
         have hr2:=HKr6.out.2
         have hpg:=HP.out
         exact ⟨_,_,_,rfl,zfv HL6.out (fun b h=>h.1) (fun b h=>h.2) hf.2,rfl,HP6.out.sole_but (by omega) (by omega) hf.2,hf.1⟩
    · have hix:=HE.out.sees HP3.out.il (t:=[91]) (by simp) hse
      obtain ⟨rt,hrt⟩:∃ r,(PSof ts i full).take=r:=⟨_,rfl⟩
      have HR2:Hid (R=rt.bind fun _ s=>(valueP s).bind fun v s=>(s.want [93]).bind fun _ s=>.ok (named 15 t [(.node k9 n9 m9 a9 ks9),v]) s):=by
       show _=_
       rw [HR1.out,<- hrt]
       show (if _ then _ else _)=_
       rw [if_pos (by simp [hse,hk])]
      clear hse
      have hkn:(k9 != 26)=true:=by simp [hk]
      go_wp2_with fail
      clear hw3
      refine HS91.out.mono ?_
      rintro e w4 ⟨rfl,hB4⟩
      have HP4:=hid (HP3.out.below hB4)
      have HS4:=hid (HS3.out.trans (Sole.of_below hB4))
      have HKo4:=hid (HKo3.out.below hB4)
      have HKr4:=hid (HKr3.out.below hB4)
      have HKt4:=hid (HKt3.out.below hB4)
      have HT4:=hid (HT3.out.below hB4)
      obtain ⟨⟨u0,u1,u2,u3,u4⟩,_⟩:=zac HKo4.out.1
      clear hB4
      have HTK:=hid (zdf p g cap ts i d full w4 HP4.out hix)
      rw [hrt] at HTK
      clear hrt hix hk
      go_wp2_with fail
      refine HTK.out.mono ?_
      cases rt with
      | no why at_ =>
       rintro e w99 ⟨rfl,hS⟩
       have HS99:=hid (HS4.out.trans hS)
       clear hS
       go_wp2
       refine ⟨rfl,?_⟩
       rw [HR2.out]
       exact ⟨rfl,HS99.out⟩
      | ok tk st =>
       rintro e w5 ⟨v,i,full,rfl,rfl,rfl,hP,hS⟩
       have hp:=HP.out.1
       have HVA:=hid (zfs p g cap ts HE.out i d full w5 hP)
       have HS5:=hid (HS4.out.trans hS)
       have HKo5:=hid (HKo4.out.sole hp hS)
       have HKr5:=hid (HKr4.out.sole hp hS)
       have HKt5:=hid (HKt4.out.sole hp hS)
       have HT5:=hid (HT4.out.sole (fun b h=>(HBB.out b h).1) hS)
       obtain ⟨rv,hrv⟩:∃ r,valueP (PSof ts i full)=r:=⟨_,rfl⟩
       have HR3:Hid (R=rv.bind fun v s=>(s.want [93]).bind fun _ s=>.ok (named 15 t [(.node k9 n9 m9 a9 ks9),v]) s):=by
        show _=_
        rw [HR2.out,<- hrv];rfl
       rw [hrv] at HVA
       clear hP hS hp hrv
       unfold tokV
       go_wp2_with fail
       refine HVA.out.mono ?_
       cases rv with
       | no why at_ =>
        rintro e w99 ⟨rfl,hS⟩
        have HS99:=hid (HS5.out.trans hS)
        clear hS
        go_wp2
        refine ⟨rfl,?_⟩
        rw [HR3.out]
        exact ⟨rfl,HS99.out⟩
       | ok tv st =>
        rintro e w6 ⟨v,i,full,rfl,hT,rfl,hP,hS⟩
        obtain ⟨k8,n8,m8,a8,ks8⟩:=tv
        obtain ⟨sl,rfl,hL⟩:=zah.1 hT
        obtain ⟨o8,l8,c8,rfl⟩:=hL.shape
        have hp:=HP.out.1
        obtain ⟨w7,hw7⟩:∃ x,w6.alloc (.cells #[.int .i64 k8,.string ⟨n8.toArray⟩,.int .i64 m8,.int .i64 a8,.slice o8 l8 c8] 29)=x:=⟨_,rfl⟩
        have hB7:Below w6.heap.size w6 w7:=by rw [<- hw7];exact zad _ _
        have hs6:Sole p w w6:=HS5.out.trans hS
        have HP7:=hid (hP.below hB7)
        have HS7:=hid (hs6.trans (Sole.of_below hB7))
        have HKo7:=hid ((HKo5.out.sole hp hS).below hB7)
        have HKr7:=hid ((HKr5.out.sole hp hS).below hB7)
        have HKt7:=hid ((HKt5.out.sole hp hS).below hB7)
        have HKv7:Hid (Kep w w7 w6.heap.size (kidO k8 n8 m8 a8 (.slice o8 l8 c8))):=by show Kep w w7 _ _;rw [<- hw7];exact Kep.new hs6.size _
        have HT7:=hid ((HT5.out.sole (fun b h=>(HBB.out b h).1) hS).below hB7)
        have HV7:=hid (zam.below hT hB7)
        have HLE:Hid (wa1.heap.size<w5.heap.size∧w.heap.size<=w5.heap.size∧w5.heap.size<=w6.heap.size∧w6.heap.size<w7.heap.size):=⟨HKr5.out.lt,HS5.out.size,hS.size,by rw [<- hw7];simp⟩
        clear hP hS hp hB7 hs6 hT hL
        unfold kidV
        have HWA:=hid (zbs p g cap ts HE.out i d full [93] (by simp) w7 HP7.out)
        obtain ⟨ru,hru⟩:∃ r,(PSof ts i full).want [93]=r:=⟨_,rfl⟩
        have HR4:Hid (R=ru.bind fun _ s=>.ok (named 15 t [(.node k9 n9 m9 a9 ks9),(.node k8 n8 m8 a8 ks8)]) s):=by
         show _=_
         rw [HR3.out];first|(rw [<- hru];done)|(rw [<- hru];rfl)
        rw [hru] at HWA
        clear hru
        go_wp2_with fail
        refine HWA.out.mono ?_
        clear hw7
        cases ru with
        | no why at_ =>
         rintro e w99 ⟨rfl,hS⟩
         have HS99:=hid (HS7.out.trans hS)
         clear hS
         go_wp2
         refine ⟨rfl,?_⟩
         rw [HR4.out]
         exact ⟨rfl,HS99.out⟩
        | ok u st =>
         rintro e w8 ⟨v,i,full,rfl,rfl,rfl,hP,hS⟩
         have hp:=HP.out.1
         have HP8:=hid hP
         have HS8:=hid (HS7.out.trans hS)
         have HKr8:=hid (HKr7.out.sole hp hS)
         have HT8:=hid (HT7.out.sole (fun b h=>(HBB.out b h).1) hS)
         have HV8:Hid (zam (zif w5.heap.size) w8 (.node k8 n8 m8 a8 ks8) (kidV k8 n8 m8 a8 (.slice o8 l8 c8))):=HV7.out.sole (fun b h=>by have h1:w5.heap.size<=b:=h;have:=HLE.out;omega) hS
         have HL8:=hid hS.size
         obtain ⟨t0,t1,t2,t3⟩:=zb1 (HKt7.out.sole hp hS).1
         obtain ⟨⟨v0,v1,v2,v3,v4⟩,_⟩:=zac (HKo7.out.sole hp hS).1
         obtain ⟨⟨x0,x1,x2,x3,x4⟩,_⟩:=zac (HKv7.out.sole hp hS).1
         obtain ⟨wq,hwq⟩:∃ x,w8.alloc (.cells #[.int .i64 k9,.string ⟨n9.toArray⟩,.int .i64 m9,.int .i64 a9,.slice o9 l9 c9,.int .i64 k8,.string ⟨n8.toArray⟩,.int .i64 m8,.int .i64 a8,.slice o8 l8 c8] 29)=x:=⟨_,rfl⟩
         have hBq:Below w8.heap.size w8 wq:=by rw [<- hwq];exact zad _ _
         have HNM:=hid (zc8 15 t (some ⟨w8.heap.size,0,none⟩) 2 2 wq)
         have HQ:Hid (Below w8.heap.size w8 wq∧wq.heap[w8.heap.size]?=some (zdr [.int .i64 k9,.string ⟨n9.toArray⟩,.int .i64 m9,.int .i64 a9,.slice o9 l9 c9,.int .i64 k8,.string ⟨n8.toArray⟩,.int .i64 m8,.int .i64 a8,.slice o8 l8 c8])):=⟨hBq,by rw [<- hwq];exact heap_alloc_new _ _⟩
         clear hP hS hp hBq
         unfold tokV at HNM
         go_wp2_with fail
         refine HNM.out.mono ?_
         rintro e w9 ⟨rfl,hB9⟩
         have hbb:=HBB.out
         have hle:=HLE.out
         have h78:=HL8.out
         have hr82:=HKr8.out.2
         have hB89:Below w8.heap.size w8 w9:=HQ.out.1.trans (hB9.mono HQ.out.1.size)
         have HP9:=hid (HP8.out.below hB89)
         have HS9:=hid (HS8.out.trans (Sole.of_below hB89))
         have HKr9:=hid (HKr8.out.below hB89)
         have HL9:Hid (zaf (fun b=>Mix A0 w.heap.size b∧b≠wa1.heap.size) w9 [(.node k9 n9 m9 a9 ks9),(.node k8 n8 m8 a8 ks8)] (.slice (some ⟨w8.heap.size,0,none⟩) 2 2)):=by
          refine zdy (za8 hB9 HQ.out.2) (by simp) ⟨Or.inr (by omega),by omega⟩ (RowV.append [_] [_] _ _ (zbe ((HT8.out.below hB89).weaken (fun b h=>?_))) (zbe ((zam.below (zam.there _ _ HV8.out) hB89).weaken (fun b h=>?_))))
          · have h0:=hbb b h
            exact ⟨⟨Or.inl h,by omega⟩,by omega⟩
          · have h1:w5.heap.size<=b:=h.1
            exact ⟨⟨Or.inr (by omega),by omega⟩,by omega⟩
         clear hB9 hB89 hbb hle h78 hr82 hwq HQ
         unfold kidV
         obtain ⟨⟨z0,z1,z2,z3,z4⟩,⟨y0,y1,y2,y3,y4⟩⟩:=zac HKr9.out.1
         go_wp2
         have q:=res5 w9 wa1.heap.size (.int .i64 15) (.string ⟨t.text.toArray⟩) (.int .i64 0) (.int .i64 t.at_) (.slice (some ⟨w8.heap.size,0,none⟩) 2 2) z0 z1 z2 z3 z4
         have hf:=fin5 (r:=wa1.heap.size) (w9:=w9) (k:=15) (n:=t.text) (m:=0) (a:=t.at_) (sl:=(.slice (some ⟨w8.heap.size,0,none⟩) 2 2)) HKr9.out.2 HS9.out _ rfl
         generalize ((((w9.setCell ⟨wa1.heap.size,0,none⟩ (.int .i64 15)).setCell ⟨wa1.heap.size,1,none⟩ (.string ⟨t.text.toArray⟩)).setCell ⟨wa1.heap.size,2,none⟩ (.int .i64 0)).setCell ⟨wa1.heap.size,3,none⟩ (.int .i64 t.at_)).setCell ⟨wa1.heap.size,4,none⟩ (.slice (some ⟨w8.heap.size,0,none⟩) 2 2)=wz at q hf ⊢
         obtain ⟨q0,q1,q2,q3,q4⟩:=q
         refine bodyPost_ret (v:=.agg #[.int .i64 15,.string ⟨t.text.toArray⟩,.int .i64 0,.int .i64 t.at_,(.slice (some ⟨w8.heap.size,0,none⟩) 2 2)]) (by simp [results,Tryz.results111,go_sem,q0,q1,q2,q3,q4]) rfl ?_
         rw [HR4.out]
         have hr2:=HKr9.out.2
         have hpg:=HP.out
         exact ⟨_,_,_,rfl,zfv HL9.out (fun b h=>h.1) (fun b h=>h.2) hf.2,rfl,HP9.out.sole_but (by omega) (by omega) hf.2,hf.1⟩
end Go.Proofs.YtodfklpmbclgkaaGreatDoor
