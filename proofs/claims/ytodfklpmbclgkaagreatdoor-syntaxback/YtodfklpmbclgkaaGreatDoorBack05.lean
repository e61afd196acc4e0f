import Derived.Test.YtodfklpmbclgkaaGreatDoorBack04
namespace Go.Proofs.YtodfklpmbclgkaaGreatDoor
open Go.RowKit
theorem zfb {α β γ:Type} (r:Ans α) (f:α->PS->Ans β) (k:β->PS->Ans γ):(r.bind f).bind k=r.bind fun a s=>(f a s).bind k:=by cases r <;> rfl
set_option maxHeartbeats 4000000 in
set_option maxRecDepth 4000 in
theorem arm_any (p g cap:Nat) (ts:List Tok) (hE:Ends ts) (d:Int) (B:PS->Ans Tree) (hF:zdp p g cap ts d 145 (zbi B)):zdp p g cap ts d 147 (armP B):=by
 intro i0 full0 w h hba
 have HP:=hid2 h.plt h.glt
 have HE:=hid hE
 have HBA:=hid hba
 have HF:=hid hF
 have H:=hid h
 obtain ⟨tk,htk⟩:∃ x,ts[i0]'h.il=x:=⟨_,rfl⟩
 obtain ⟨AT,hAT⟩:∃ x,tk.at_=x:=⟨_,rfl⟩
 obtain ⟨R,hR⟩:∃ R,armP B (PSof ts i0 full0)=R:=⟨_,rfl⟩
 rw [hR]
 have HR0:Hid (R=(zcc (66 - 0) [] (PSof ts i0 full0)).bind fun l s=>(zbi B s).bind fun t s=>Ans.ok (Tree.node 8 [] 0 AT (l++[t])) s):=by
  show _=_
  rw [<- hR,<- hAT,<- htk]
  unfold armP
  rw [zb8 ts i0 full0 h.il]
 obtain ⟨wa,hwa⟩:∃ x,w.alloc (.cells #[.int .i64 0,.string ⟨#[]⟩,.int .i64 0,.int .i64 0,.slice none 0 0] 29)=x:=⟨_,rfl⟩
 have b1:Below w.heap.size w wa:=by rw [<- hwa];exact zad _ _
 have HKa:Hid (Kep w wa w.heap.size (kidO 0 [] 0 0 (.slice none 0 0))):=by show Kep w wa _ _;rw [<- hwa];exact Kep.new (Nat.le_refl _) _
 have HBa:=hid b1
 have HT0:Hid (Calls Tryz.prog 38 #[.pointer (some ⟨p,0,none⟩)] wa fun e w'=>e=.returned (.agg #[.int .i64 tk.kind,.string ⟨tk.text.toArray⟩,.int .i64 tk.num,.int .i64 AT])∧Below wa.heap.size wa w'):=by
  have hx:=zca p g cap ts i0 d full0 wa (h.below b1)
  rw [htk] at hx
  rw [<- hAT]
  exact hx
 have q3:=fld3 tk.kind tk.num AT ⟨tk.text.toArray⟩
 have qb:=bld03 8 AT
 obtain ⟨inf,hi1,hi2,hi3,hi4⟩:=ze8
 have HI:=hid4 hi1 hi2 hi3 hi4
 clear h hba hE hF hR htk hAT b1 hi1 hi2 hi3 hi4
 go_enter Tryz.func147,Tryz.ntmps147
 go_wp2_with fail
 refine HT0.out.mono ?_
 rintro e w1 ⟨rfl,hB1⟩
 have hb01:Below w.heap.size w w1:=HBa.out.trans (hB1.mono HBa.out.size)
 have HB1:=hid hB1
 clear hB1 hb01 hwa
 go_wp2
 have hB1:=HB1.out
 have hb01:Below w.heap.size w w1:=HBa.out.trans (hB1.mono HBa.out.size)
 obtain ⟨w2,hw2⟩:∃ x,w1.alloc (.cells #[.int .i64 8,.string ⟨#[]⟩,.int .i64 0,.int .i64 AT,.slice none 0 0] 29)=x:=⟨_,rfl⟩
 have hB2:Below w1.heap.size w1 w2:=by rw [<- hw2];exact zad _ _
 have HP2:=hid ((H.out.below hb01).below hB2)
 have HS2:Hid (Sole p w w2):=(Sole.of_below hb01).trans (Sole.of_below hB2)
 have HKr2:=hid ((HKa.out.below hB1).below hB2)
 have HKl2:Hid (Kep w w2 w1.heap.size (kidO 8 [] 0 AT (.slice none 0 0))):=by show Kep w w2 _ _;rw [<- hw2];exact Kep.new hb01.size _
 have HNE:=hid ((HKa.out.below hB1).lt)
 rw [hw2]
 clear hB1 hb01 hB2
 clear hw2 q3 qb
 go_loopw [] (fun wr=>∃ (acc:List Tree) (N:Nat) (oq:Option Addr) (cq:Nat) (ix:Nat) (full:Bool),acc.length=N∧N<=64∧Hid (PP wr p g cap ts ix d full)∧Hid (Sole p w wr)∧Hid (Kep w wr w.heap.size (kidO 0 [] 0 0 (.slice none 0 0)))∧Hid (Kep w wr w1.heap.size (kidO 8 [] 0 AT (.slice oq N cq)))∧Hid (zaf (fun b=>w.heap.size<b∧b≠w1.heap.size) wr acc (.slice oq N cq))∧Hid (R=(zcc (66 - N) acc (PSof ts ix full)).bind fun l s=>(zbi B s).bind fun t s=>Ans.ok (Tree.node 8 [] 0 AT (l++[t])) s)) (fun wr=>65 - sliceLen ((wr.cell? ⟨w1.heap.size,4,none⟩).getD (.int .i64 0)))
 case atStart=>exact ⟨[],0,none,0,i0,full0,rfl,by omega,HP2,HS2,HKr2,HKl2,zeb,HR0⟩
 case round =>
  obtain ⟨acc,N,oq,cq,ix,full,hN1,hN2,HPr,HSr,HKrr,HKlr,HLr,HRr⟩:=hrel
  have HN:=hid2 hN1 hN2
  have HMR:Hid (sliceLen ((wr.cell? ⟨w1.heap.size,4,none⟩).getD (.int .i64 0))=N):=by
   show _=_
   rw [(zac HKlr.out.1).1.2.2.2.2];rfl
  have HST:Hid (R=(if acc.isEmpty||(PSof ts ix full).sees zc1 then (((PSof ts ix full).room N 64).want zc1).bind fun _ s=>(valueP s).bind fun v s=>(s.want [58]).bind fun _ s=>zcc (65 - N) (acc++[v]) s else .ok acc (PSof ts ix full)).bind fun l s=>(zbi B s).bind fun t s=>Ans.ok (Tree.node 8 [] 0 AT (l++[t])) s):=by
   show _=_
   rw [HRr.out,show 66 - N=(65 - N)+1 by omega,zcc,hN1]
  have HIS:Hid (acc.isEmpty=decide (N=0)):=by
   show _=_
   rw [<- hN1]
   cases acc <;> simp
  obtain ⟨⟨r0,r1,r2,r3,r4⟩,_⟩:=zac HKlr.out.1
  clear hN1 hN2
  by_cases h0:N=0
  · have hz:((N:Int)==0)=true:=by simp [h0]
    have HIE:Hid (acc.isEmpty=true):=by show _=_;rw [HIS.out];simp [h0]
    have HGO:Hid (R=((((PSof ts ix full).room N 64).want zc1).bind fun _ s=>(valueP s).bind fun v s=>(s.want [58]).bind fun _ s=>zcc (65 - N) (acc++[v]) s).bind fun l s=>(zbi B s).bind fun t s=>Ans.ok (Tree.node 8 [] 0 AT (l++[t])) s):=by
     show _=_
     rw [HST.out,if_pos (by rw [HIE.out];rfl)]
    obtain ⟨wv,hwv⟩:∃ x,wr=x:=⟨_,rfl⟩
    have HPv:=hid (hwv ▸ HPr)
    have HSv:=hid (hwv ▸ HSr)
    have HKrv:=hid (hwv ▸ HKrr)
    have HKlv:=hid (hwv ▸ HKlr)
    have HLv:=hid (hwv ▸ HLr)
    clear h0
    subst hwv
    have HRM:=hid (zhu p g cap ts ix d full N 64 wr HPv.out)
    obtain ⟨⟨p0,p1,p2,p3,p4⟩,_⟩:=zac HKlv.out.1
    go_wp2_with fail
    refine HRM.out.mono ?_
    rintro e wx ⟨rfl,hP,hS,hz2⟩
    obtain ⟨fullx,hfx⟩:∃ x,zfl full N 64=x:=⟨_,rfl⟩
    have HFX:=hid hfx
    rw [hfx] at hP
    have hp:=HP.out
    have HPx:=hid hP
    have HSx:=hid (HSv.out.trans hS)
    have HKrx:=hid (HKrv.out.sole hp.1 hS)
    have HKlx:=hid (HKlv.out.sole hp.1 hS)
    have HLx:=hid (HLv.out.sole (fun b h=>by omega) hS)
    have HWA:=hid (zbs p g cap ts HE.out ix d fullx zc1 (by simp [zc1]) wx HPx.out)
    obtain ⟨ru,hru⟩:∃ r,(PSof ts ix fullx).want zc1=r:=⟨_,rfl⟩
    have HR1:Hid (R=(ru.bind fun _ s=>(valueP s).bind fun v s=>(s.want [58]).bind fun _ s=>zcc (65 - N) (acc++[v]) s).bind fun l s=>(zbi B s).bind fun t s=>Ans.ok (Tree.node 8 [] 0 AT (l++[t])) s):=by
     show _=_
     rw [HGO.out,zgr,HFX.out,hru]
    have HLXX:Hid (∀ t s,ru=.ok t s->N+1<=64):=fun t s e=>by
     rcases Nat.lt_or_ge N 64 with h1|h1
     · exact h1
     · have hNN:=HN.out
       have hN64:N=64:=by omega
       obtain ⟨x,y,hx⟩:=zeq zc1 (PSof ts ix fullx) (by rw [zgs,<- HFX.out];unfold zfl;simp [hN64])
       have hx' : (PSof ts ix fullx).want zc1=.no x y:=hx
       rw [<- hru,hx'] at e
       cases e
    rw [hru] at HWA
    clear hP hS hz2 hp hru hfx
    go_wp2_with fail
    refine HWA.out.mono ?_
    cases ru with
    | no why at_ =>
     rintro e w99 ⟨rfl,hS⟩
     have HS99:=hid (HSx.out.trans hS)
     clear hS
     go_wp2
     refine ⟨rfl,?_⟩
     rw [HR1.out]
     exact ⟨rfl,HS99.out⟩
    | ok u st =>
     rintro e wy ⟨v,i,full,rfl,rfl,rfl,hP,hS⟩
     have hp:=HP.out
     have HLT:=hid (HLXX.out _ _ rfl)
     have HS_:=hid (HSx.out.trans hS)
     have HKr_:=hid (HKrx.out.sole hp.1 hS)
     have HKl_:=hid (HKlx.out.sole hp.1 hS)
     have HL_:=hid (HLx.out.sole (fun b h=>by omega) hS)
     obtain ⟨rv,hrv⟩:∃ r,valueP (PSof ts i full)=r:=⟨_,rfl⟩
     have HR2:Hid (R=(rv.bind fun v s=>(s.want [58]).bind fun _ s=>zcc (65 - N) (acc++[v]) s).bind fun l s=>(zbi B s).bind fun t s=>Ans.ok (Tree.node 8 [] 0 AT (l++[t])) s):=by
      show _=_
      rw [HR1.out,<- hrv];rfl
     have HVB:Hid (∀ m,Calls Tryz.prog 140 #[.pointer (some ⟨p,0,none⟩)] (wy.drewN m) (zao p g cap ts d (zal wy.heap.size) rv wy)):=fun m=>by
      have hB:Below wy.heap.size wy (wy.drewN m):=zax (Below.refl _ _) m
      rw [<- hrv]
      exact (zfs p g cap ts HE.out i d full _ (hP.below hB)).mono fun e w' hp=>zao.from_below hB hp
     obtain ⟨⟨l0,l1,l2,l3,l4⟩,⟨f0,f1,f2,f3,f4⟩⟩:=zac HKl_.out.1
     clear hP hS hp hrv p0 p1 p2 p3 p4
     go_wp2_with fail
     cases rv with
     | no why at_ =>
      go_region_dies
      all_goals (
       refine (HVB.out _).mono ?_
       rintro e w9 ⟨rfl,hS⟩
       refine ⟨rfl,?_⟩
       rw [HR2.out]
       exact ⟨rfl,HS_.out.trans hS⟩)
     | ok tv st =>
      obtain ⟨k8,n8,m8,a8,ks8⟩:=tv
      go_region_law (first
       | (refine zgg rfl 140 #[.pointer (some ⟨p,0,none⟩)] (by go_simp) _ (HVB.out _) ?_
          rintro e w5 ⟨v,i,full,rfl,hT,rfl,hP,hS⟩
          refine ⟨_,rfl,?_⟩
          obtain ⟨sl,rfl,hL⟩:=zah.1 hT
          obtain ⟨o8,l8,c8,rfl⟩:=hL.shape
          have hp:=HP.out
          obtain ⟨wb,hwb⟩:∃ x,w5.alloc (.cells #[.int .i64 k8,.string ⟨n8.toArray⟩,.int .i64 m8,.int .i64 a8,.slice o8 l8 c8] 29)=x:=⟨_,rfl⟩
          have HWB:=hid hwb
          have hBb:Below w5.heap.size w5 wb:=by rw [<- hwb];exact zad _ _
          have HP5:=hid (hP.below hBb)
          have HS5:=hid ((HS_.out.trans hS).trans (Sole.of_below hBb))
          have HT8:=hid (zam.below hT hBb)
          have HKr5:=hid ((HKr_.out.sole hp.1 hS).below hBb)
          have kl5:Kep w w5 w1.heap.size (kidO 8 [] 0 AT (.slice oq N cq)):=HKl_.out.sole hp.1 hS
          have HKl5:=hid (kl5.below hBb)
          have hl3:zaf (fun b=>w.heap.size<b∧b≠w1.heap.size) wb acc (.slice oq N cq):=(HL_.out.sole (fun b h=>by omega) hS).below hBb
          have HLQ:Hid (∀ q,(Value.slice oq N cq).ownBlock=some q->(w.heap.size<q∧q≠w1.heap.size)∧q<wy.heap.size):=fun q e=>HL_.out.own_lt e
          have HSZ:Hid (w1.heap.size<wy.heap.size∧wy.heap.size<=w5.heap.size∧wb.heap.size=w5.heap.size+1):=⟨HKl_.out.lt,hS.size,by rw [<- hwb];simp⟩
          obtain ⟨xs,how,hAq,hrq⟩:=hl3
          rw [HN.out.1] at how
          have HOW:=hid how
          have HRQ:=hid hrq
          have HNB:Hid (wb.heap[w5.heap.size]?=some (.cells #[.int .i64 k8,.string ⟨n8.toArray⟩,.int .i64 m8,.int .i64 a8,.slice o8 l8 c8] 29 (0,0))):=by show _=_;rw [<- hwb];exact heap_alloc_new _ _
          have u4:=(zac kl5.1).1.2.2.2.2
          have x4:=(zac HKl5.out.1).1.2.2.2.2
          clear hT hL hP hS hp hBb how hAq hrq kl5
          unfold kidV)
       | (refine step_append_lies _ rfl _ _ 27 rfl 0 29 inf (.agg #[.int .i64 0,.string ⟨#[]⟩,.int .i64 0,.int .i64 0,.slice none 0 0]) 5 64 Tryz.underlying27 HI.out.1 HI.out.2.1 HI.out.2.2.1 HI.out.2.2.2 rfl (by decide) (.slice oq N cq) N xs rfl HOW.out ⟨w5.heap.size,0,none⟩ 1 1 [.int .i64 k8,.string ⟨n8.toArray⟩,.int .i64 m8,.int .i64 a8,.slice o8 l8 c8] rfl rfl (World.news_of_block (cs:=#[.int .i64 k8,.string ⟨n8.toArray⟩,.int .i64 m8,.int .i64 a8,.slice o8 l8 c8]) (t:=29) (fr:=(0,0)) HNB.out) (by simp [Value.oneCell']) (by decide) (by have:=HN.out;unfold maxLen;omega) (by have:=HN.out;omega) (Nat.zero_le _) _ rfl ?_
          intro gq cq2 w6 hown hgrow hat hlt
          have hp:=HP.out
          have hsz:=HSZ.out
          have hs5:=HS5.out.size
          have HP6:Hid (PP w6 p g cap ts i d full):=HP5.out.grownO hgrow (fun e=>by have:=HLQ.out p e;omega) (fun e=>by have:=HLQ.out g e;omega)
          have HS6:=hid (HS5.out.grownO hgrow (fun q e=>Nat.le_of_lt (HLQ.out q e).1.1))
          have HKr6:Hid (Kep w w6 w.heap.size (kidO 0 [] 0 0 (.slice none 0 0))):=HKr5.out.grownO hgrow (fun e=>by have:=(HLQ.out _ e).1.1;omega)
          have HKl6:=hid (HKl5.out.grownO hgrow (fun e=>(HLQ.out _ e).1.2 rfl))
          have HL6:Hid (zaf (fun b=>w.heap.size<b∧b≠w1.heap.size) w6 (acc++[(.node k8 n8 m8 a8 ks8)]) (.slice (some ⟨gq,0,none⟩) (N+1) cq2)):=by
           refine zbm (sl:=.slice oq N cq) (fun q e=>(HLQ.out q e).1) HRQ.out (zbe (HT8.out.weaken (fun b h=>?_))) (by rw [HN.out.1];exact hown) hgrow wb.heap.size (Nat.le_refl _) (by have:=HKr5.out.lt;omega) ?_
           · have h1:wy.heap.size<=b:=h
             have h2:=HKr_.out.lt
             exact ⟨by omega,fun e=>by have:=(HLQ.out b e).2;omega⟩
           · rcases hat with e|e
             · exact Or.inl e.symm
             · exact Or.inr (by rw [e];rfl)
          obtain ⟨⟨j0,j1,j2,j3,j4⟩,⟨g0,g1,g2,g3,g4⟩⟩:=zac HKl6.out.1
          clear hown hgrow hat hlt hp hsz hs5))
      all_goals (
       have hp:=HP.out
       have hwl2:=HKl6.out.2
       have hwr2:=HKr6.out.lt
       have hne:=HNE.out
       have hz6:∀ b,b≠w1.heap.size->(w6.setCell ⟨w1.heap.size,4,none⟩ (.slice (some ⟨gq,0,none⟩) (N+1) cq2)).heap[b]?=w6.heap[b]?:=fun b hb=>Below.heap_setCell _ _ _ _ hb
       have HKlc:Hid (Kep w (w6.setCell ⟨w1.heap.size,4,none⟩ (.slice (some ⟨gq,0,none⟩) (N+1) cq2)) w1.heap.size (kidO 8 [] 0 AT (.slice (some ⟨gq,0,none⟩) (N+1) cq2))):=⟨zfk HKl6.out.1,HKl6.out.2⟩
       have HKrc:=hid (HKr6.out.but hz6 (by omega))
       have HPc:=hid (HP6.out.sole_but (by omega) (by omega) hz6)
       have HSc:Hid (Sole p w (w6.setCell ⟨w1.heap.size,4,none⟩ (.slice (some ⟨gq,0,none⟩) (N+1) cq2))):=HS6.out.below_after ((Below.refl _ _).setCell hwl2 _)
       have HLc:=hid (HL6.out.but (fun b h=>h.2) hz6)
       generalize w6.setCell ⟨w1.heap.size,4,none⟩ (.slice (some ⟨gq,0,none⟩) (N+1) cq2)=wc at HKlc HKrc HPc HSc HLc ⊢
       clear hp hwl2 hwr2 hne hz6
       have HWA:=hid (zbs p g cap ts HE.out i d full [58] (by simp) wc HPc.out)
       obtain ⟨ru,hru⟩:∃ r,(PSof ts i full).want [58]=r:=⟨_,rfl⟩
       have HR3:Hid (R=ru.bind fun _ s=>(zcc (65 - N) (acc++[(.node k8 n8 m8 a8 ks8)]) s).bind fun l s=>(zbi B s).bind fun t s=>Ans.ok (Tree.node 8 [] 0 AT (l++[t])) s):=by
        show _=_
        rw [HR2.out];rw [<- hru];exact zfb ((PSof ts i full).want [58]) (fun _ s=>zcc (65 - N) (acc++[(.node k8 n8 m8 a8 ks8)]) s) (fun l s=>(zbi B s).bind fun t s=>Ans.ok (Tree.node 8 [] 0 AT (l++[t])) s)
       rw [hru] at HWA
       clear hru
       go_wp2_with fail
       refine HWA.out.mono ?_
       cases ru with
       | no why at_ =>
        rintro e w99 ⟨rfl,hS⟩
        have HS99:=hid (HSc.out.trans hS)
        clear hS
        go_wp2
        refine ⟨rfl,?_⟩
        rw [HR3.out]
        exact ⟨rfl,HS99.out⟩
       | ok u st =>
        rintro e w7 ⟨v,i,full,rfl,rfl,rfl,hP,hS⟩
        have hp:=HP.out
        have HP7:=hid hP
        have HS7:=hid (HSc.out.trans hS)
        have HKr7:=hid (HKrc.out.sole hp.1 hS)
        have HKl7:=hid (HKlc.out.sole hp.1 hS)
        have HL7:=hid (HLc.out.sole (fun b h=>by omega) hS)
        have hNN:=HN.out
        have HR7:Hid (R=(zcc (66 - (N+1)) (acc++[(.node k8 n8 m8 a8 ks8)]) (PSof ts i full)).bind fun l s=>(zbi B s).bind fun t s=>Ans.ok (Tree.node 8 [] 0 AT (l++[t])) s):=by
         show _=_
         rw [show 66 - (N+1)=65 - N by omega]
         exact HR3.out
        have HM7:Hid (sliceLen ((w7.cell? ⟨w1.heap.size,4,none⟩).getD (.int .i64 0))=N+1):=by
         show _=_
         rw [(zac HKl7.out.1).1.2.2.2.2];rfl
        clear hP hS hp
        go_wp2
        go_roundw
        case rel=>exact ⟨acc++[(.node k8 n8 m8 a8 ks8)],N+1,some ⟨gq,0,none⟩,cq2,i,full,by simp [hNN.1],HLT.out,HP7,HS7,HKr7,HKl7,HL7,HR7⟩
        case measure =>
         have h1:=HM7.out
         have h2:=HMR.out
         have h3:=HLT.out
         omega)
  · have hz:((N:Int)==0)=false:=by simp;omega
    have HIE:Hid (acc.isEmpty=false):=by show _=_;rw [HIS.out];simp [h0]
    have HSX:=hid (zf4 p g cap ts ix d full zc1 wr HPr.out)
    clear h0
    cases hse:(PSof ts ix full).sees zc1
    · rw [hse] at HSX
      obtain ⟨rv,hrv⟩:∃ r,zbi B (PSof ts ix full)=r:=⟨_,rfl⟩
      have HR2:Hid (R=rv.bind fun t s=>.ok (.node 8 [] 0 AT (acc++[t])) s):=by
       show _=_
       rw [HST.out,if_neg (by rw [hse,HIE.out];simp),<- hrv]
       rfl
      clear hse
      go_wp2_with fail
      refine HSX.out.mono ?_
      rintro e wy ⟨rfl,hB⟩
      have hPy:PP wy p g cap ts ix d full:=HPr.out.below hB
      have HS_:=hid (HSr.out.trans (Sole.of_below hB))
      have HKr_:=hid (HKrr.out.below hB)
      have HKl_:=hid (HKlr.out.below hB)
      have HL_:=hid (HLr.out.below hB)
      have HVB:Hid (∀ m,Calls Tryz.prog 145 #[.pointer (some ⟨p,0,none⟩)] (wy.drewN m) (zao p g cap ts d (zal wy.heap.size) rv wy)):=fun m=>by
       have hB' : Below wy.heap.size wy (wy.drewN m):=zax (Below.refl _ _) m
       rw [<- hrv]
       exact (HF.out ix full _ (hPy.below hB') ((HBA.out.sole HS_.out).below hB')).mono fun e w' hp=>zao.from_below hB' hp
      obtain ⟨⟨l0,l1,l2,l3,l4⟩,⟨f0,f1,f2,f3,f4⟩⟩:=zac HKl_.out.1
      clear hB hrv hPy r0 r1 r2 r3 r4
      go_wp2_with fail
      cases rv with
      | no why at_ =>
       go_region_dies
       all_goals (
        refine (HVB.out _).mono ?_
        rintro e w9 ⟨rfl,hS⟩
        refine ⟨rfl,?_⟩
        rw [HR2.out]
        exact ⟨rfl,HS_.out.trans hS⟩)
      | ok tv st =>
       obtain ⟨k8,n8,m8,a8,ks8⟩:=tv
       go_region_law (first
        | (refine zgg rfl 145 #[.pointer (some ⟨p,0,none⟩)] (by go_simp) _ (HVB.out _) ?_
           rintro e w5 ⟨v,i,full,rfl,hT,rfl,hP,hS⟩
           refine ⟨_,rfl,?_⟩
           obtain ⟨sl,rfl,hL⟩:=zah.1 hT
           obtain ⟨o8,l8,c8,rfl⟩:=hL.shape
           have hp:=HP.out
           obtain ⟨wb,hwb⟩:∃ x,w5.alloc (.cells #[.int .i64 k8,.string ⟨n8.toArray⟩,.int .i64 m8,.int .i64 a8,.slice o8 l8 c8] 29)=x:=⟨_,rfl⟩
           have HWB:=hid hwb
           have hBb:Below w5.heap.size w5 wb:=by rw [<- hwb];exact zad _ _
           have HP5:=hid (hP.below hBb)
           have HS5:=hid ((HS_.out.trans hS).trans (Sole.of_below hBb))
           have HT8:=hid (zam.below hT hBb)
           have HKr5:=hid ((HKr_.out.sole hp.1 hS).below hBb)
           have kl5:Kep w w5 w1.heap.size (kidO 8 [] 0 AT (.slice oq N cq)):=HKl_.out.sole hp.1 hS
           have HKl5:=hid (kl5.below hBb)
           have hl3:zaf (fun b=>w.heap.size<b∧b≠w1.heap.size) wb acc (.slice oq N cq):=(HL_.out.sole (fun b h=>by omega) hS).below hBb
           have HLQ:Hid (∀ q,(Value.slice oq N cq).ownBlock=some q->(w.heap.size<q∧q≠w1.heap.size)∧q<wy.heap.size):=fun q e=>HL_.out.own_lt e
           have HSZ:Hid (w1.heap.size<wy.heap.size∧wy.heap.size<=w5.heap.size∧wb.heap.size=w5.heap.size+1):=⟨HKl_.out.lt,hS.size,by rw [<- hwb];simp⟩
           obtain ⟨xs,how,hAq,hrq⟩:=hl3
           rw [HN.out.1] at how
           have HOW:=hid how
           have HRQ:=hid hrq
           have HNB:Hid (wb.heap[w5.heap.size]?=some (.cells #[.int .i64 k8,.string ⟨n8.toArray⟩,.int .i64 m8,.int .i64 a8,.slice o8 l8 c8] 29 (0,0))):=by show _=_;rw [<- hwb];exact heap_alloc_new _ _
           have u4:=(zac kl5.1).1.2.2.2.2
           have x4:=(zac HKl5.out.1).1.2.2.2.2
           clear hT hL hP hS hp hBb how hAq hrq kl5
           unfold kidV)
        | (refine step_append_lies _ rfl _ _ 27 rfl 0 29 inf (.agg #[.int .i64 0,.string ⟨#[]⟩,.int .i64 0,.int .i64 0,.slice none 0 0]) 5 64 Tryz.underlying27 HI.out.1 HI.out.2.1 HI.out.2.2.1 HI.out.2.2.2 rfl (by decide) (.slice oq N cq) N xs rfl HOW.out ⟨w5.heap.size,0,none⟩ 1 1 [.int .i64 k8,.string ⟨n8.toArray⟩,.int .i64 m8,.int .i64 a8,.slice o8 l8 c8] rfl rfl (World.news_of_block (cs:=#[.int .i64 k8,.string ⟨n8.toArray⟩,.int .i64 m8,.int .i64 a8,.slice o8 l8 c8]) (t:=29) (fr:=(0,0)) HNB.out) (by simp [Value.oneCell']) (by decide) (by have:=HN.out;unfold maxLen;omega) (by have:=HN.out;omega) (Nat.zero_le _) _ rfl ?_
           intro gq cq2 w6 hown hgrow hat hlt
           have hp:=HP.out
           have hsz:=HSZ.out
           have hs5:=HS5.out.size
           have HP6:Hid (PP w6 p g cap ts i d full):=HP5.out.grownO hgrow (fun e=>by have:=HLQ.out p e;omega) (fun e=>by have:=HLQ.out g e;omega)
           have HS6:=hid (HS5.out.grownO hgrow (fun q e=>Nat.le_of_lt (HLQ.out q e).1.1))
           have HKr6:Hid (Kep w w6 w.heap.size (kidO 0 [] 0 0 (.slice none 0 0))):=HKr5.out.grownO hgrow (fun e=>by have:=(HLQ.out _ e).1.1;omega)
           have HKl6:=hid (HKl5.out.grownO hgrow (fun e=>(HLQ.out _ e).1.2 rfl))
           have HL6:Hid (zaf (fun b=>w.heap.size<b∧b≠w1.heap.size) w6 (acc++[(.node k8 n8 m8 a8 ks8)]) (.slice (some ⟨gq,0,none⟩) (N+1) cq2)):=by
            refine zbm (sl:=.slice oq N cq) (fun q e=>(HLQ.out q e).1) HRQ.out (zbe (HT8.out.weaken (fun b h=>?_))) (by rw [HN.out.1];exact hown) hgrow wb.heap.size (Nat.le_refl _) (by have:=HKr5.out.lt;omega) ?_
            · have h1:wy.heap.size<=b:=h
              have h2:=HKr_.out.lt
              exact ⟨by omega,fun e=>by have:=(HLQ.out b e).2;omega⟩
            · rcases hat with e|e
              · exact Or.inl e.symm
              · exact Or.inr (by rw [e];rfl)
           obtain ⟨⟨j0,j1,j2,j3,j4⟩,⟨g0,g1,g2,g3,g4⟩⟩:=zac HKl6.out.1
           clear hown hgrow hat hlt hp hsz hs5))
       all_goals (
        have hp:=HP.out
        have hwl2:=HKl6.out.2
        have hwr2:=HKr6.out.lt
        have hne:=HNE.out
        have hz6:∀ b,b≠w1.heap.size->(w6.setCell ⟨w1.heap.size,4,none⟩ (.slice (some ⟨gq,0,none⟩) (N+1) cq2)).heap[b]?=w6.heap[b]?:=fun b hb=>Below.heap_setCell _ _ _ _ hb
        have HKlc:Hid (Kep w (w6.setCell ⟨w1.heap.size,4,none⟩ (.slice (some ⟨gq,0,none⟩) (N+1) cq2)) w1.heap.size (kidO 8 [] 0 AT (.slice (some ⟨gq,0,none⟩) (N+1) cq2))):=⟨zfk HKl6.out.1,HKl6.out.2⟩
        have HKrc:=hid (HKr6.out.but hz6 (by omega))
        have HPc:=hid (HP6.out.sole_but (by omega) (by omega) hz6)
        have HSc:Hid (Sole p w (w6.setCell ⟨w1.heap.size,4,none⟩ (.slice (some ⟨gq,0,none⟩) (N+1) cq2))):=HS6.out.below_after ((Below.refl _ _).setCell hwl2 _)
        have HLc:=hid (HL6.out.but (fun b h=>h.2) hz6)
        generalize w6.setCell ⟨w1.heap.size,4,none⟩ (.slice (some ⟨gq,0,none⟩) (N+1) cq2)=wc at HKlc HKrc HPc HSc HLc ⊢
        clear hp hwl2 hwr2 hne hz6
        obtain ⟨⟨s0,s1,s2,s3,s4⟩,_⟩:=zac HKlc.out.1
        obtain ⟨⟨z0,z1,z2,z3,z4⟩,⟨y0,y1,y2,y3,y4⟩⟩:=zac HKrc.out.1
        go_wp2
        have q:=res5 wc w.heap.size (.int .i64 8) (.string ⟨#[]⟩) (.int .i64 0) (.int .i64 AT) (.slice (some ⟨gq,0,none⟩) (N+1) cq2) z0 z1 z2 z3 z4
        have hf:=fin5 (r:=w.heap.size) (w9:=wc) (k:=8) (n:=[]) (m:=0) (a:=AT) (sl:=(.slice (some ⟨gq,0,none⟩) (N+1) cq2)) HKrc.out.2 HSc.out _ rfl
        generalize ((((wc.setCell ⟨w.heap.size,0,none⟩ (.int .i64 8)).setCell ⟨w.heap.size,1,none⟩ (.string ⟨#[]⟩)).setCell ⟨w.heap.size,2,none⟩ (.int .i64 0)).setCell ⟨w.heap.size,3,none⟩ (.int .i64 AT)).setCell ⟨w.heap.size,4,none⟩ (.slice (some ⟨gq,0,none⟩) (N+1) cq2)=wz at q hf ⊢
        obtain ⟨q0,q1,q2,q3,q4⟩:=q
        refine bodyPost_ret (v:=.agg #[.int .i64 8,.string ⟨#[]⟩,.int .i64 0,.int .i64 AT,(.slice (some ⟨gq,0,none⟩) (N+1) cq2)]) (by simp [results,Tryz.results147,go_sem,q0,q1,q2,q3,q4]) rfl ?_
        rw [HR2.out]
        have hr2:=HKrc.out.2
        have hpg:=HP.out
        exact ⟨_,_,_,rfl,zbu HLc.out (fun b h=>Nat.le_of_lt h.1) (fun b h=>Nat.ne_of_gt h.1) hf.2,rfl,HPc.out.sole_but (by omega) (by omega) hf.2,hf.1⟩)
    · rw [hse] at HSX
      have HGO:Hid (R=((((PSof ts ix full).room N 64).want zc1).bind fun _ s=>(valueP s).bind fun v s=>(s.want [58]).bind fun _ s=>zcc (65 - N) (acc++[v]) s).bind fun l s=>(zbi B s).bind fun t s=>Ans.ok (Tree.node 8 [] 0 AT (l++[t])) s):=by
       show _=_
       rw [HST.out,if_pos (by rw [hse];simp)]
      clear hse
      go_wp2_with fail
      refine HSX.out.mono ?_
      rintro e wv ⟨rfl,hB⟩
      have HPv:=hid (HPr.out.below hB)
      have HSv:=hid (HSr.out.trans (Sole.of_below hB))
      have HKrv:=hid (HKrr.out.below hB)
      have HKlv:=hid (HKlr.out.below hB)
      have HLv:=hid (HLr.out.below hB)
      clear hB r0 r1 r2 r3 r4
      have HRM:=hid (zhu p g cap ts ix d full N 64 wv HPv.out)
      obtain ⟨⟨p0,p1,p2,p3,p4⟩,_⟩:=zac HKlv.out.1
      go_wp2_with fail
      refine HRM.out.mono ?_
      rintro e wx ⟨rfl,hP,hS,hz2⟩
      obtain ⟨fullx,hfx⟩:∃ x,zfl full N 64=x:=⟨_,rfl⟩
      have HFX:=hid hfx
      rw [hfx] at hP
      have hp:=HP.out
      have HPx:=hid hP
      have HSx:=hid (HSv.out.trans hS)
      have HKrx:=hid (HKrv.out.sole hp.1 hS)
      have HKlx:=hid (HKlv.out.sole hp.1 hS)
      have HLx:=hid (HLv.out.sole (fun b h=>by omega) hS)
      have HWA:=hid (zbs p g cap ts HE.out ix d fullx zc1 (by simp [zc1]) wx HPx.out)
      obtain ⟨ru,hru⟩:∃ r,(PSof ts ix fullx).want zc1=r:=⟨_,rfl⟩
      have HR1:Hid (R=(ru.bind fun _ s=>(valueP s).bind fun v s=>(s.want [58]).bind fun _ s=>zcc (65 - N) (acc++[v]) s).bind fun l s=>(zbi B s).bind fun t s=>Ans.ok (Tree.node 8 [] 0 AT (l++[t])) s):=by
       show _=_
       rw [HGO.out,zgr,HFX.out,hru]
      have HLXX:Hid (∀ t s,ru=.ok t s->N+1<=64):=fun t s e=>by
       rcases Nat.lt_or_ge N 64 with h1|h1
       · exact h1
       · have hNN:=HN.out
         have hN64:N=64:=by omega
         obtain ⟨x,y,hx⟩:=zeq zc1 (PSof ts ix fullx) (by rw [zgs,<- HFX.out];unfold zfl;simp [hN64])
         have hx' : (PSof ts ix fullx).want zc1=.no x y:=hx
         rw [<- hru,hx'] at e
         cases e
      rw [hru] at HWA
      clear hP hS hz2 hp hru hfx
      go_wp2_with fail
      refine HWA.out.mono ?_
      cases ru with
      | no why at_ =>
       rintro e w99 ⟨rfl,hS⟩
       have HS99:=hid (HSx.out.trans hS)
       clear hS
       go_wp2
       refine ⟨rfl,?_⟩
       rw [HR1.out]
       exact ⟨rfl,HS99.out⟩
      | ok u st =>
       rintro e wy ⟨v,i,full,rfl,rfl,rfl,hP,hS⟩
       have hp:=HP.out
       have HLT:=hid (HLXX.out _ _ rfl)
       have HS_:=hid (HSx.out.trans hS)
       have HKr_:=hid (HKrx.out.sole hp.1 hS)
       have HKl_:=hid (HKlx.out.sole hp.1 hS)
       have HL_:=hid (HLx.out.sole (fun b h=>by omega) hS)
       obtain ⟨rv,hrv⟩:∃ r,valueP (PSof ts i full)=r:=⟨_,rfl⟩
       have HR2:Hid (R=(rv.bind fun v s=>(s.want [58]).bind fun _ s=>zcc (65 - N) (acc++[v]) s).bind fun l s=>(zbi B s).bind fun t s=>Ans.ok (Tree.node 8 [] 0 AT (l++[t])) s):=by
        show _=_
        rw [HR1.out,<- hrv];rfl
       have HVB:Hid (∀ m,Calls Tryz.prog 140 #[.pointer (some ⟨p,0,none⟩)] (wy.drewN m) (zao p g cap ts d (zal wy.heap.size) rv wy)):=fun m=>by
        have hB:Below wy.heap.size wy (wy.drewN m):=zax (Below.refl _ _) m
        rw [<- hrv]
        exact (zfs p g cap ts HE.out i d full _ (hP.below hB)).mono fun e w' hp=>zao.from_below hB hp
       obtain ⟨⟨l0,l1,l2,l3,l4⟩,⟨f0,f1,f2,f3,f4⟩⟩:=zac HKl_.out.1
       clear hP hS hp hrv p0 p1 p2 p3 p4
       go_wp2_with fail
       cases rv with
       | no why at_ =>
        go_region_dies
        all_goals (
         refine (HVB.out _).mono ?_
         rintro e w9 ⟨rfl,hS⟩
         refine ⟨rfl,?_⟩
         rw [HR2.out]
         exact ⟨rfl,HS_.out.trans hS⟩)
       | ok tv st =>
        obtain ⟨k8,n8,m8,a8,ks8⟩:=tv
        go_region_law (first
         | (refine zgg rfl 140 #[.pointer (some ⟨p,0,none⟩)] (by go_simp) _ (HVB.out _) ?_
            rintro e w5 ⟨v,i,full,rfl,hT,rfl,hP,hS⟩
            refine ⟨_,rfl,?_⟩
            obtain ⟨sl,rfl,hL⟩:=zah.1 hT
            obtain ⟨o8,l8,c8,rfl⟩:=hL.shape
            have hp:=HP.out
            obtain ⟨wb,hwb⟩:∃ x,w5.alloc (.cells #[.int .i64 k8,.string ⟨n8.toArray⟩,.int .i64 m8,.int .i64 a8,.slice o8 l8 c8] 29)=x:=⟨_,rfl⟩
            have HWB:=hid hwb
            have hBb:Below w5.heap.size w5 wb:=by rw [<- hwb];exact zad _ _
            have HP5:=hid (hP.below hBb)
            have HS5:=hid ((HS_.out.trans hS).trans (Sole.of_below hBb))
            have HT8:=hid (zam.below hT hBb)
            have HKr5:=hid ((HKr_.out.sole hp.1 hS).below hBb)
            have kl5:Kep w w5 w1.heap.size (kidO 8 [] 0 AT (.slice oq N cq)):=HKl_.out.sole hp.1 hS
            have HKl5:=hid (kl5.below hBb)
            have hl3:zaf (fun b=>w.heap.size<b∧b≠w1.heap.size) wb acc (.slice oq N cq):=(HL_.out.sole (fun b h=>by omega) hS).below hBb
            have HLQ:Hid (∀ q,(Value.slice oq N cq).ownBlock=some q->(w.heap.size<q∧q≠w1.heap.size)∧q<wy.heap.size):=fun q e=>HL_.out.own_lt e
            have HSZ:Hid (w1.heap.size<wy.heap.size∧wy.heap.size<=w5.heap.size∧wb.heap.size=w5.heap.size+1):=⟨HKl_.out.lt,hS.size,by rw [<- hwb];simp⟩
            obtain ⟨xs,how,hAq,hrq⟩:=hl3
            rw [HN.out.1] at how
            have HOW:=hid how
            have HRQ:=hid hrq
            have HNB:Hid (wb.heap[w5.heap.size]?=some (.cells #[.int .i64 k8,.string ⟨n8.toArray⟩,.int .i64 m8,.int .i64 a8,.slice o8 l8 c8] 29 (0,0))):=by show _=_;rw [<- hwb];exact heap_alloc_new _ _
            have u4:=(zac kl5.1).1.2.2.2.2
            have x4:=(zac HKl5.out.1).1.2.2.2.2
            clear hT hL hP hS hp hBb how hAq hrq kl5
            unfold kidV)
         | (refine step_append_lies _ rfl _ _ 27 rfl 0 29 inf (.agg #[.int .i64 0,.string ⟨#[]⟩,.int .i64 0,.int .i64 0,.slice none 0 0]) 5 64 Tryz.underlying27 HI.out.1 HI.out.2.1 HI.out.2.2.1 HI.out.2.2.2 rfl (by decide) (.slice oq N cq) N xs rfl HOW.out ⟨w5.heap.size,0,none⟩ 1 1 [.int .i64 k8,.string ⟨n8.toArray⟩,.int .i64 m8,.int .i64 a8,.slice o8 l8 c8] rfl rfl (World.news_of_block (cs:=#[.int .i64 k8,.string ⟨n8.toArray⟩,.int .i64 m8,.int .i64 a8,.slice o8 l8 c8]) (t:=29) (fr:=(0,0)) HNB.out) (by simp [Value.oneCell']) (by decide) (by have:=HN.out;unfold maxLen;omega) (by have:=HN.out;omega) (Nat.zero_le _) _ rfl ?_
            intro gq cq2 w6 hown hgrow hat hlt
            have hp:=HP.out
            have hsz:=HSZ.out
            have hs5:=HS5.out.size
            have HP6:Hid (PP w6 p g cap ts i d full):=HP5.out.grownO hgrow (fun e=>by have:=HLQ.out p e;omega) (fun e=>by have:=HLQ.out g e;omega)
            have HS6:=hid (HS5.out.grownO hgrow (fun q e=>Nat.le_of_lt (HLQ.out q e).1.1))
            have HKr6:Hid (Kep w w6 w.heap.size (kidO 0 [] 0 0 (.slice none 0 0))):=HKr5.out.grownO hgrow (fun e=>by have:=(HLQ.out _ e).1.1;omega)
            have HKl6:=hid (HKl5.out.grownO hgrow (fun e=>(HLQ.out _ e).1.2 rfl))
            have HL6:Hid (zaf (fun b=>w.heap.size<b∧b≠w1.heap.size) w6 (acc++[(.node k8 n8 m8 a8 ks8)]) (.slice (some ⟨gq,0,none⟩) (N+1) cq2)):=by
             refine zbm (sl:=.slice oq N cq) (fun q e=>(HLQ.out q e).1) HRQ.out (zbe (HT8.out.weaken (fun b h=>?_))) (by rw [HN.out.1];exact hown) hgrow wb.heap.size (Nat.le_refl _) (by have:=HKr5.out.lt;omega) ?_
             · have h1:wy.heap.size<=b:=h
               have h2:=HKr_.out.lt
               exact ⟨by omega,fun e=>by have:=(HLQ.out b e).2;omega⟩
             · rcases hat with e|e
               · exact Or.inl e.symm
               · exact Or.inr (by rw [e];rfl)
            obtain ⟨⟨j0,j1,j2,j3,j4⟩,⟨g0,g1,g2,g3,g4⟩⟩:=zac HKl6.out.1
            clear hown hgrow hat hlt hp hsz hs5))
        all_goals (
         have hp:=HP.out
         have hwl2:=HKl6.out.2
         have hwr2:=HKr6.out.lt
         have hne:=HNE.out
         have hz6:∀ b,b≠w1.heap.size->(w6.setCell ⟨w1.heap.size,4,none⟩ (.slice (some ⟨gq,0,none⟩) (N+1) cq2)).heap[b]?=w6.heap[b]?:=fun b hb=>Below.heap_setCell _ _ _ _ hb
         have HKlc:Hid (Kep w (w6.setCell ⟨w1.heap.size,4,none⟩ (.slice (some ⟨gq,0,none⟩) (N+1) cq2)) w1.heap.size (kidO 8 [] 0 AT (.slice (some ⟨gq,0,none⟩) (N+1) cq2))):=⟨zfk HKl6.out.1,HKl6.out.2⟩
         have HKrc:=hid (HKr6.out.but hz6 (by omega))
         have HPc:=hid (HP6.out.sole_but (by omega) (by omega) hz6)
         have HSc:Hid (Sole p w (w6.setCell ⟨w1.heap.size,4,none⟩ (.slice (some ⟨gq,0,none⟩) (N+1) cq2))):=HS6.out.below_after ((Below.refl _ _).setCell hwl2 _)
         have HLc:=hid (HL6.out.but (fun b h=>h.2) hz6)
         generalize w6.setCell ⟨w1.heap.size,4,none⟩ (.slice (some ⟨gq,0,none⟩) (N+1) cq2)=wc at HKlc HKrc HPc HSc HLc ⊢
         clear hp hwl2 hwr2 hne hz6
         have HWA:=hid (zbs p g cap ts HE.out i d full [58] (by simp) wc HPc.out)
         obtain ⟨ru,hru⟩:∃ r,(PSof ts i full).want [58]=r:=⟨_,rfl⟩
         have HR3:Hid (R=ru.bind fun _ s=>(zcc (65 - N) (acc++[(.node k8 n8 m8 a8 ks8)]) s).bind fun l s=>(zbi B s).bind fun t s=>Ans.ok (Tree.node 8 [] 0 AT (l++[t])) s):=by
          show _=_
          rw [HR2.out];rw [<- hru];exact zfb ((PSof ts i full).want [58]) (fun _ s=>zcc (65 - N) (acc++[(.node k8 n8 m8 a8 ks8)]) s) (fun l s=>(zbi B s).bind fun t s=>Ans.ok (Tree.node 8 [] 0 AT (l++[t])) s)
         rw [hru] at HWA
         clear hru
         go_wp2_with fail
         refine HWA.out.mono ?_
         cases ru with
         | no why at_ =>
          rintro e w99 ⟨rfl,hS⟩
          have HS99:=hid (HSc.out.trans hS)
          clear hS
          go_wp2
          refine ⟨rfl,?_⟩
          rw [HR3.out]
          exact ⟨rfl,HS99.out⟩
         | ok u st =>
          rintro e w7 ⟨v,i,full,rfl,rfl,rfl,hP,hS⟩
          have hp:=HP.out
          have HP7:=hid hP
          have HS7:=hid (HSc.out.trans hS)
          have HKr7:=hid (HKrc.out.sole hp.1 hS)
          have HKl7:=hid (HKlc.out.sole hp.1 hS)
          have HL7:=hid (HLc.out.sole (fun b h=>by omega) hS)
          have hNN:=HN.out
          have HR7:Hid (R=(zcc (66 - (N+1)) (acc++[(.node k8 n8 m8 a8 ks8)]) (PSof ts i full)).bind fun l s=>(zbi B s).bind fun t s=>Ans.ok (Tree.node 8 [] 0 AT (l++[t])) s):=by
           show _=_
           rw [show 66 - (N+1)=65 - N by omega]
           exact HR3.out
          have HM7:Hid (sliceLen ((w7.cell? ⟨w1.heap.size,4,none⟩).getD (.int .i64 0))=N+1):=by
           show _=_
           rw [(zac HKl7.out.1).1.2.2.2.2];rfl
          clear hP hS hp
          go_wp2
          go_roundw
          case rel=>exact ⟨acc++[(.node k8 n8 m8 a8 ks8)],N+1,some ⟨gq,0,none⟩,cq2,i,full,by simp [hNN.1],HLT.out,HP7,HS7,HKr7,HKl7,HL7,HR7⟩
          case measure =>
           have h1:=HM7.out
           have h2:=HMR.out
           have h3:=HLT.out
           omega)
theorem zk4 (F:PS->Ans Tree) (ws:List (List UInt8)):∀ (f:Nat) (acc:List Tree) (s:PS) (l:List Tree) (s' : PS),zck F ws f acc s=.ok l s'->l.length<=acc.length+f∧l≠[]
 | 0,acc,s,l,s'=>fun h=>by rw [zck] at h;cases h
 | f+1,acc,s,l,s'=>fun h=>by
  rw [zck] at h
  by_cases hc:(acc.isEmpty||!(ws.any s.sees))=true
  · rw [if_pos hc] at h
    cases hx:F (s.room acc.length 64) with
    | no e a=>rw [hx] at h;cases h
    | ok t s1 =>
     rw [hx] at h
     have:=zk4 F ws f (acc++[t]) s1 l s' h
     simp only [List.length_append,List.length_cons,List.length_nil] at this
     exact ⟨by omega,this.2⟩
  · rw [if_neg hc] at h
    cases h
    refine ⟨by omega,fun e=>hc ?_⟩
    rw [e];rfl
theorem wantL_two (t u:List UInt8) (s:PS):wantL [t,u] s=(s.want t).bind fun _ s=>s.want u:=by
 show (s.want t).bind (fun _ s=>(s.want u).bind fun _ s=>Ans.ok () s)=_
 cases s.want t with
 | no e a=>rfl
 | ok a s =>
  show (s.want u).bind (fun _ s=>Ans.ok () s)=s.want u
  cases s.want u <;> rfl
theorem zkl (p g cap:Nat) (ts:List Tok) (hE:Ends ts) (i:Nat) (d:Int) (full:Bool) (t u:List UInt8) (ht:t≠[]) (hu:u≠[]) (w:World) (h:PP w p g cap ts i d full) :
 Calls Tryz.prog 41 #[.pointer (some ⟨p,0,none⟩),.slice (some ⟨w.heap.size,0,none⟩) 2 2] (w.alloc (.cells #[.string ⟨t.toArray⟩,.string ⟨u.toArray⟩] 9)) (zao p g cap ts d ze4 (((PSof ts i full).want t).bind fun _ s=>s.want u) w):=by
 have hB:Below w.heap.size w (w.alloc (.cells #[.string ⟨t.toArray⟩,.string ⟨u.toArray⟩] 9)):=zad _ _
 have hx:=want_any p g cap ts hE i d full w.heap.size 2 [t,u] _ (h.below hB) (Nat.ne_of_gt h.plt) (by simp) (fun j hj=>by
  have:j=0∨j=1:=by simp at hj;omega
  rcases this with rfl|rfl
  · simp
  · simp) (fun x hx=>by simp at hx;rcases hx with rfl|rfl;exact ht;exact hu) (by simp)
 rw [wantL_two] at hx
 exact hx.mono fun e w' hp=>zao.from_below hB hp
/-- a list that is not empty: where it lies -/
theorem zaf.addr {A:Nat->Prop} {w:World} {ks:List Tree} {sl:Value} (h:zaf A w ks sl) (hn:ks≠[]):∃ q c xs,sl=.slice (some ⟨q,0,none⟩) ks.length c∧A q∧RowV (fun b=>A b∧b≠q) w ks xs∧(∀ j u,xs[j]?=some u->w.cell? ((⟨q,0,none⟩:Addr).add j)=some u):=by
 obtain ⟨xs,ho,hA,hr⟩:=h
 obtain ⟨q,c,rfl,_,_⟩:=ho.form (by cases ks with|nil=>exact absurd rfl hn|cons _ _=>simp)
 exact ⟨q,c,xs,rfl,hA q rfl,RowV.frame (fun b hb=>⟨hb.1,fun e=>hb.2 (by rw [e];rfl)⟩) (fun _ _ _=>rfl) _ _ hr,ho.cells rfl⟩
theorem choice_else (B:PS->Ans Tree) (d:Tree) (l:List Tree) (s:PS) :
 ((aloneP 9 s).bind fun e s=>(s.want [58]).bind fun _ s=>(zbi B s).bind fun t s=>(s.want [125]).bind fun _ s =>
   match e with
   | .node k n m i _=>Ans.ok (d::l++[Tree.node k n m i [t]]) s)=(zcw B s).bind fun o s=>(s.want [125]).bind fun _ s=>Ans.ok (d::l++[o]) s:=by
 unfold zcw
 cases aloneP 9 s with
 | no e a=>rfl
 | ok e s =>
  obtain ⟨k,n,m,i,ks⟩:=e
  show (s.want [58]).bind _=((s.want [58]).bind _).bind _
  cases s.want [58] with
  | no e a=>rfl
  | ok u s =>
   show (zbi B s).bind _=((zbi B s).bind _).bind _
   cases zbi B s with
   | no e a=>rfl
   | ok t s=>rfl
theorem zfr {α β:Type} {r:Ans α} {f f' : α->PS->Ans β} (h:∀ a s,f a s=f' a s):r.bind f=r.bind f':=by
 cases r with
 | ok a s=>exact h a s
 | no e i=>rfl
theorem zny (B:PS->Ans Tree) (s:PS):choiceP B s=(s.want zfd).bind fun _ s=>(s.want [40]).bind fun _ s=>(za3 B s).bind fun d_ s=>(s.want [41]).bind fun _ s=>(s.want [123]).bind fun _ s=>(zck (armP B) [za9,[125]] 66 [] s).bind fun l s=>if s.sees za9 then (zcw B s).bind fun o s=>(s.want [125]).bind fun _ s=>Ans.ok (d_::l++[o]) s else (s.want [125]).bind fun _ s=>Ans.ok (d_::l) s:=by
 unfold choiceP
 refine zfr fun _ s=>zfr fun _ s=>zfr fun d_ s=>zfr fun _ s=>zfr fun _ s=>zfr fun l s=>?_
 by_cases h:s.sees za9=true
 · rw [if_pos h,if_pos h]
   exact choice_else B d_ l s
 · rw [if_neg h,if_neg h]
set_option maxHeartbeats 2000000 in
set_option maxRecDepth 4000 in
theorem zh1 (p g cap:Nat) (ts:List Tok) (hE:Ends ts) (d:Int) (B:PS->Ans Tree) (hD:zdp p g cap ts d 146 (za3 B)) (hF:zdp p g cap ts d 145 (zbi B)) (hAr:zdp p g cap ts d 147 (armP B)):zhc p g cap ts d 116 (choiceP B):=by
 intro i full w h hba
 have HP:=hid2 h.plt h.glt
 have HE:=hid hE
 have HBA:=hid hba
 have HK:=hid3 hD hF hAr
 have HPa:=hid h
 have HSa:=hid (Sole.refl p w)
 obtain ⟨R,hR⟩:∃ R,choiceP B (PSof ts i full)=R:=⟨_,rfl⟩
 rw [hR]
 have HR0:Hid (R=((PSof ts i full).want zfd).bind fun _ s=>(s.want [40]).bind fun _ s=>(za3 B s).bind fun d_ s=>(s.want [41]).bind fun _ s=>(s.want [123]).bind fun _ s=>(zck (armP B) [za9,[125]] 66 [] s).bind fun l s=>if s.sees za9 then (zcw B s).bind fun o s=>(s.want [125]).bind fun _ s=>Ans.ok (d_::l++[o]) s else (s.want [125]).bind fun _ s=>Ans.ok (d_::l) s):=by
  show _=_
  rw [<- hR]
  exact zny B _
 have hmf:∀ (fn:Fn) (first cap:Array Value) (w:World),(Instr.makeFunc fn first cap).run Tryz.prog w=.ok (.func fn first cap) w:=fun _ _ _ _=>rfl
 obtain ⟨inf,hi1,hi2,hi3,hi4⟩:=ze8
 have HI:=hid4 hi1 hi2 hi3 hi4
 clear h hba hE hR hD hF hAr hi1 hi2 hi3 hi4
 go_enter Tryz.func116,Tryz.ntmps116
 have HWA:=hid (zkl p g cap ts HE.out i d full zfd [40] (by simp [zfd]) (by simp) w HPa.out)
 obtain ⟨ru,hru⟩:∃ r,(((PSof ts i full).want zfd).bind fun _ s=>s.want [40])=r:=⟨_,rfl⟩
 have HR1:Hid (R=ru.bind fun _ s=>(za3 B s).bind fun d_ s=>(s.want [41]).bind fun _ s=>(s.want [123]).bind fun _ s=>(zck (armP B) [za9,[125]] 66 [] s).bind fun l s=>if s.sees za9 then (zcw B s).bind fun o s=>(s.want [125]).bind fun _ s=>Ans.ok (d_::l++[o]) s else (s.want [125]).bind fun _ s=>Ans.ok (d_::l) s):=by
  show _=_
  rw [HR0.out,<- hru]
  exact (zfb _ _ _).symm
 rw [hru] at HWA
 clear hru
 go_wp2_with fail
 refine HWA.out.mono ?_
 cases ru with
 | no why at_ =>
  rintro e w99 ⟨rfl,hS⟩
  have HS99:=hid (HSa.out.trans hS)
  clear hS
  go_wp2
  refine ⟨rfl,?_⟩
  rw [HR1.out]
  exact ⟨rfl,HS99.out⟩
 | ok u st =>
  rintro e w1 ⟨v,i,full,rfl,rfl,rfl,hP,hS⟩
  have HS1:=hid hS
  have HDE:=hid (HK.out.1 i full w1 hP (HBA.out.sole hS))
  obtain ⟨rd,hrd⟩:∃ r,za3 B (PSof ts i full)=r:=⟨_,rfl⟩
  have HR2:Hid (R=rd.bind fun d_ s=>(s.want [41]).bind fun _ s=>(s.want [123]).bind fun _ s=>(zck (armP B) [za9,[125]] 66 [] s).bind fun l s=>if s.sees za9 then (zcw B s).bind fun o s=>(s.want [125]).bind fun _ s=>Ans.ok (d_::l++[o]) s else (s.want [125]).bind fun _ s=>Ans.ok (d_::l) s):=by
   show _=_
   rw [HR1.out];first|(rw [<- hrd];done)|(rw [<- hrd];rfl)
  rw [hrd] at HDE
  clear hP hS hrd
  go_wp2_with fail
  refine HDE.out.mono ?_
  cases rd with
  | no why at_ =>
   rintro e w99 ⟨rfl,hS⟩
   have HS99:=hid (HS1.out.trans hS)
   clear hS
   go_wp2
   refine ⟨rfl,?_⟩
   rw [HR2.out]
   exact ⟨rfl,HS99.out⟩
  | ok tv st =>
   rintro e w2 ⟨v,i,full,rfl,hT,rfl,hP,hS⟩
   obtain ⟨k9,n9,m9,a9,ks9⟩:=tv
   obtain ⟨sl,rfl,hL⟩:=zah.1 hT
   obtain ⟨o9,l9,c9,rfl⟩:=hL.shape
   obtain ⟨w3,hw3⟩:∃ x,w2.alloc (.cells #[.int .i64 k9,.string ⟨n9.toArray⟩,.int .i64 m9,.int .i64 a9,.slice o9 l9 c9] 29)=x:=⟨_,rfl⟩
   have hB3:Below w2.heap.size w2 w3:=by rw [<- hw3];exact zad _ _
   have hs2:Sole p w w2:=HS1.out.trans hS
   have HP3:=hid (hP.below hB3)
   have HS3:=hid (hs2.trans (Sole.of_below hB3))
   have HKq3:Hid (Kep w w3 w2.heap.size (kidO k9 n9 m9 a9 (.slice o9 l9 c9))):=by show Kep w w3 _ _;rw [<- hw3];exact Kep.new hs2.size _
   have HT3:=hid (zam.below (zal.made hT) hB3)
   have HLE:Hid (w.heap.size<=w1.heap.size∧w1.heap.size<=w2.heap.size∧w2.heap.size<w3.heap.size):=⟨HS1.out.size,hS.size,by rw [<- hw3];simp⟩
   clear hP hS hT hL hB3 hs2
   unfold kidV
   have HWA:=hid (zkl p g cap ts HE.out i d full [41] [123] (by simp) (by simp) w3 HP3.out)
   obtain ⟨ru,hru⟩:∃ r,(((PSof ts i full).want [41]).bind fun _ s=>s.want [123])=r:=⟨_,rfl⟩
   have HR3:Hid (R=ru.bind fun _ s=>(zck (armP B) [za9,[125]] 66 [] s).bind fun l s=>if s.sees za9 then (zcw B s).bind fun o s=>(s.want [125]).bind fun _ s=>Ans.ok ((.node k9 n9 m9 a9 ks9)::l++[o]) s else (s.want [125]).bind fun _ s=>Ans.ok ((.node k9 n9 m9 a9 ks9)::l) s):=by
    show _=_
    rw [HR2.out,<- hru]
    exact (zfb _ _ _).symm
   rw [hru] at HWA
   clear hru
   go_wp2_with fail
   refine HWA.out.mono ?_
   clear hw3
   cases ru with
   | no why at_ =>
    rintro e w99 ⟨rfl,hS⟩
    have HS99:=hid (HS3.out.trans hS)
    clear hS
    go_wp2
    refine ⟨rfl,?_⟩
    rw [HR3.out]
    exact ⟨rfl,HS99.out⟩
   | ok u st =>
    rintro e w4 ⟨v,i,full,rfl,rfl,rfl,hP,hS⟩
    have hp:=HP.out
    have hle:=HLE.out
    have HS4:=hid (HS3.out.trans hS)
    have HKq4:=hid (HKq3.out.sole hp.1 hS)
    have HT4:=hid (HT3.out.sole (fun b h=>by omega) hS)
    have HL34:=hid hS.size
    have HSO:=hid (some_two p g cap ts d 147 (armP B) HK.out.2.2 (zjb B) bodied_147 za9 [125] i full w4 hP (HBA.out.sole HS4.out))
    obtain ⟨rl,hrl⟩:∃ r,zck (armP B) [za9,[125]] 66 [] (PSof ts i full)=r:=⟨_,rfl⟩
    have HLEN:Hid (∀ l s,rl=.ok l s->l.length<=66∧l≠[]):=fun l s e=>by
     have:=zk4 _ _ _ _ _ _ _ (hrl.trans e)
     simp at this
     exact this
    have HR4:Hid (R=rl.bind fun l s=>if s.sees za9 then (zcw B s).bind fun o s=>(s.want [125]).bind fun _ s=>Ans.ok ((.node k9 n9 m9 a9 ks9)::l++[o]) s else (s.want [125]).bind fun _ s=>Ans.ok ((.node k9 n9 m9 a9 ks9)::l) s):=by
     show _=_
     rw [HR3.out];first|(rw [<- hrl];done)|(rw [<- hrl];rfl)
    rw [hrl] at HSO
    clear hP hS hp hle hrl
    go_wp2_with fail
    refine HSO.out.mono ?_
    cases rl with
    | no why at_ =>
     rintro e w99 ⟨rfl,hS⟩
     have HS99:=hid (HS4.out.trans hS)
     clear hS
     go_wp2
     refine ⟨rfl,?_⟩
     rw [HR4.out]
     exact ⟨rfl,HS99.out⟩
    | ok l st =>
     rintro e w5 ⟨v,i,full,rfl,hL,rfl,hP,hS⟩
     have hlen:=HLEN.out _ _ rfl
     obtain ⟨q7,c7,ys,rfl,hq7,hr7,hc7⟩:=hL.addr hlen.2
     obtain ⟨LN,hLN⟩:∃ x,l.length=x:=⟨_,rfl⟩
     have hp:=HP.out
     have hle:=HLE.out
     have HP5:=hid hP
     have HS5:=hid (HS4.out.trans hS)
     have HKq5:=hid (HKq4.out.sole hp.1 hS)
     have HT5:=hid (HT4.out.sole (fun b h=>by omega) hS)
     have HR7:=hid hr7
     have HC7:=hid hc7
     have HLN:Hid (l.length=LN∧LN<=66∧0<LN):=⟨hLN,by omega,by rw [<- hLN];cases l with|nil=>exact absurd rfl hlen.2|cons _ _=>simp⟩
     have HYL:Hid (ys.length=LN*5∧∀ u∈ys,u.oneCell'=true):=⟨by rw [zkp _ _ hr7,hLN],zhi _ _ hr7⟩
     have HOW:=hid (zdx HKq5.out.1 rfl (by decide))
     have HL45:=hid hS.size
     rw [hLN]
     clear hP hS hL hp hle hlen hq7 hr7 hc7 hLN
     go_wp2_with (at_builtin;refine wpList_append_lies _ rfl _ _ 27 rfl 0 29 inf (.agg #[.int .i64 0,.string ⟨#[]⟩,.int .i64 0,.int .i64 0,.slice none 0 0]) 5 64 Tryz.underlying27 HI.out.1 HI.out.2.1 HI.out.2.2.1 HI.out.2.2.2 rfl (by decide) (.slice (some ⟨w2.heap.size,0,none⟩) 1 1) 1 [.int .i64 k9,.string ⟨n9.toArray⟩,.int .i64 m9,.int .i64 a9,.slice o9 l9 c9] rfl HOW.out ⟨q7,0,none⟩ LN c7 ys rfl HYL.out.1 HC7.out HYL.out.2 HLN.out.2.2 (by have:=HLN.out;unfold maxLen;omega) (by have:=HLN.out;omega) (Nat.zero_le _) _ rfl ?_;intro gq cq w6 hown hgrow hat hlt;have HG:Hid (w5.grownBy w6 (some w2.heap.size)∧w6.ownsRow 0 29 5 (.slice (some ⟨gq,0,none⟩) (1+LN) cq) (1+LN) ([.int .i64 k9,.string ⟨n9.toArray⟩,.int .i64 m9,.int .i64 a9,.slice o9 l9 c9]++ys)∧((Value.slice (some ⟨w2.heap.size,0,none⟩) 1 1).ownBlock=some gq∨gq=w5.heap.size)):=⟨hgrow,hown,hat⟩;clear hown hgrow hat hlt)
     have hp:=HP.out
     have hle:=HLE.out
     have h34:=HL34.out
     have h45:=HL45.out
     have hs5:=HS5.out.size
     have HP6:=hid (HP5.out.grown HG.out.1 (by omega) (by omega))
     have HS6:=hid (HS5.out.grown HG.out.1 (by omega))
     have HL6:Hid (zaf (zif w.heap.size) w6 ((.node k9 n9 m9 a9 ks9)::l) (.slice (some ⟨gq,0,none⟩) (1+LN) cq)):=by
      refine zbm (ks:=[(.node k9 n9 m9 a9 ks9)]) (us:=l) (sl:=.slice (some ⟨w2.heap.size,0,none⟩) 1 1) (fun q e=>?_) (zbe (HT5.out.weaken (fun b h=>?_))) (RowV.frame (fun b h=>?_) (fun _ _ _=>rfl) _ _ HR7.out) (by rw [HLN.out.1];exact HG.out.2.1) HG.out.1 w5.heap.size (Nat.le_refl _) hs5 ?_
      · have e2:w2.heap.size=q:=Option.some.inj e
        show w.heap.size<=q
        omega
      · refine ⟨by show w.heap.size<=b;omega,fun e=>?_⟩
        have e2:w2.heap.size=b:=Option.some.inj e
        omega
      · have h1:w4.heap.size<=b:=h.1
        refine ⟨by show w.heap.size<=b;omega,fun e=>?_⟩
        have e2:w2.heap.size=b:=Option.some.inj e
        omega
      · rcases HG.out.2.2 with e|e
        · exact Or.inl e.symm
        · exact Or.inr (by rw [e];rfl)
     have HSX:=hid (zf4 p g cap ts i d full za9 w6 HP6.out)
     clear hp hle h34 h45 hs5
     cases hse:(PSof ts i full).sees za9
     · rw [hse] at HSX
       have HR5:Hid (R=((PSof ts i full).want [125]).bind fun _ s=>Ans.ok ((.node k9 n9 m9 a9 ks9)::l) s):=by
        show _=_
        rw [HR4.out]
        show (if _ then _ else _)=_
        rw [hse,if_neg (by simp)]
       clear hse
       refine HSX.out.mono ?_
       rintro e wq ⟨rfl,hB⟩
       have HPq:=hid (HP6.out.below hB)
       have HSq:=hid (HS6.out.trans (Sole.of_below hB))
       have HLq:=hid (HL6.out.below hB)
       clear hB
       have HWA:=hid (zbs p g cap ts HE.out i d full [125] (by simp) wq HPq.out)
       obtain ⟨ru,hru⟩:∃ r,(PSof ts i full).want [125]=r:=⟨_,rfl⟩
       have HRE:Hid (R=ru.bind fun _ s=>Ans.ok ((.node k9 n9 m9 a9 ks9)::l) s):=by
        show _=_
        rw [HR5.out];first|(rw [<- hru];done)|(rw [<- hru];rfl)
       rw [hru] at HWA
       clear hru
       go_wp2_with fail
       refine HWA.out.mono ?_
       cases ru with
       | no why at_ =>
        rintro e w99 ⟨rfl,hS⟩
        have HS99:=hid (HSq.out.trans hS)
        clear hS
        go_wp2
        refine ⟨rfl,?_⟩
        rw [HRE.out]
        exact ⟨rfl,HS99.out⟩
       | ok u st =>
        rintro e wf ⟨v,i,full,rfl,rfl,rfl,hP,hS⟩
        have HSf:=hid (HSq.out.trans hS)
        have HPf:=hid hP
        have HLf:Hid (zaf (zif w.heap.size) wf ((.node k9 n9 m9 a9 ks9)::l) (.slice (some ⟨gq,0,none⟩) (1+LN) cq)):=HLq.out.sole (fun b h=>by have h1:w.heap.size<=b:=h;have:=HP.out;omega) hS
        clear hP hS
        go_wp2
        go_ret
        rw [HRE.out]
        exact ⟨_,i,full,rfl,HLf.out,rfl,HPf.out,HSf.out⟩
     · rw [hse] at HSX
       have hix:=HE.out.sees HP6.out.il (t:=za9) (by simp [za9]) hse
       obtain ⟨ro,hro⟩:∃ r,zcw B (PSof ts i full)=r:=⟨_,rfl⟩
       have HR5:Hid (R=ro.bind fun o s=>(s.want [125]).bind fun _ s=>Ans.ok ((.node k9 n9 m9 a9 ks9)::l++[o]) s):=by
        show _=_
        rw [HR4.out,<- hro]
        show (if _ then _ else _)=_
        rw [hse,if_pos rfl]
       clear hse
       refine HSX.out.mono ?_
       rintro e w7 ⟨rfl,hB⟩
       have HP7:PP w7 p g cap ts i d full:=HP6.out.below hB
       have HS7:=hid (HS6.out.trans (Sole.of_below hB))
       have HL7:=hid (HL6.out.below hB)
       have HOT:=hid (zob p g cap ts HE.out d B HK.out.2.1 i full w7 HP7 (HBA.out.sole HS7.out) hix)
       rw [hro] at HOT
       clear hB hro hix HP7
       go_wp2_with fail
       refine HOT.out.mono ?_
       cases ro with
       | no why at_ =>
        rintro e w99 ⟨rfl,hS⟩
        have HS99:=hid (HS7.out.trans hS)
        clear hS
        go_wp2
        refine ⟨rfl,?_⟩
        rw [HR5.out]
        exact ⟨rfl,HS99.out⟩
       | ok tv st =>
        rintro e w8 ⟨v,i,full,rfl,hT,rfl,hP,hS⟩
        obtain ⟨k8,n8,m8,a8,ks8⟩:=tv
        obtain ⟨sl,rfl,hL⟩:=zah.1 hT
        obtain ⟨o8,l8,c8,rfl⟩:=hL.shape
        obtain ⟨wb,hwb⟩:∃ x,w8.alloc (.cells #[.int .i64 k8,.string ⟨n8.toArray⟩,.int .i64 m8,.int .i64 a8,.slice o8 l8 c8] 29)=x:=⟨_,rfl⟩
        have hBb:Below w8.heap.size w8 wb:=by rw [<- hwb];exact zad _ _
        have hp:=HP.out
        have hl3:zaf (zif w.heap.size) wb ((.node k9 n9 m9 a9 ks9)::l) (.slice (some ⟨gq,0,none⟩) (1+LN) cq):=(HL7.out.sole (fun b h=>by have h1:w.heap.size<=b:=h;omega) hS).below hBb
        have HLQ:Hid (∀ q,(Value.slice (some ⟨gq,0,none⟩) (1+LN) cq).ownBlock=some q->w.heap.size<=q∧q<w7.heap.size):=fun q e=>HL7.out.own_lt e
        obtain ⟨xs,how,hAq,hrq⟩:=hl3
        rw [show ((.node k9 n9 m9 a9 ks9)::l:List Tree).length=1+LN from by rw [List.length_cons,HLN.out.1];omega] at how
        have HOW2:=hid how
        have HRQ:=hid hrq
        have HNB:Hid (wb.heap[w8.heap.size]?=some (.cells #[.int .i64 k8,.string ⟨n8.toArray⟩,.int .i64 m8,.int .i64 a8,.slice o8 l8 c8] 29 (0,0))):=by show _=_;rw [<- hwb];exact heap_alloc_new _ _
        have HT8:=hid (zam.below hT hBb)
        have HPb:=hid (hP.below hBb)
        have HSb:=hid ((HS7.out.trans hS).trans (Sole.of_below hBb))
        clear hP hS hT hL hBb hp how hAq hrq
        unfold kidV
        go_wp2_with (at_builtin;refine wpList_append_lies _ rfl _ _ 27 rfl 0 29 inf (.agg #[.int .i64 0,.string ⟨#[]⟩,.int .i64 0,.int .i64 0,.slice none 0 0]) 5 64 Tryz.underlying27 HI.out.1 HI.out.2.1 HI.out.2.2.1 HI.out.2.2.2 rfl (by decide) (.slice (some ⟨gq,0,none⟩) (1+LN) cq) (1+LN) xs rfl HOW2.out ⟨w8.heap.size,0,none⟩ 1 1 [.int .i64 k8,.string ⟨n8.toArray⟩,.int .i64 m8,.int .i64 a8,.slice o8 l8 c8] rfl rfl (World.news_of_block (cs:=#[.int .i64 k8,.string ⟨n8.toArray⟩,.int .i64 m8,.int .i64 a8,.slice o8 l8 c8]) (t:=29) (fr:=(0,0)) HNB.out) (by simp [Value.oneCell']) (by decide) (by have:=HLN.out;unfold maxLen;omega) (by have:=HLN.out;omega) (Nat.zero_le _) _ rfl ?_;intro gq2 cq2 wq hown hgrow hat hlt;have HG2:Hid (wb.grownBy wq (Value.slice (some ⟨gq,0,none⟩) (1+LN) cq).ownBlock∧wq.ownsRow 0 29 5 (.slice (some ⟨gq2,0,none⟩) (1+LN+1) cq2) (1+LN+1) (xs++[.int .i64 k8,.string ⟨n8.toArray⟩,.int .i64 m8,.int .i64 a8,.slice o8 l8 c8])∧((Value.slice (some ⟨gq,0,none⟩) (1+LN) cq).ownBlock=some gq2∨gq2=wb.heap.size)):=⟨hgrow,hown,hat⟩;clear hown hgrow hat hlt)
        clear hwb
        have hp:=HP.out
        have HPq:Hid (PP wq p g cap ts i d full):=HPb.out.grownO HG2.out.1 (fun e=>by have:=HLQ.out p e;omega) (fun e=>by have:=HLQ.out g e;omega)
        have HSq:=hid (HSb.out.grownO HG2.out.1 (fun q e=>(HLQ.out q e).1))
        have HLq:Hid (zaf (zif w.heap.size) wq ((.node k9 n9 m9 a9 ks9)::l++[(.node k8 n8 m8 a8 ks8)]) (.slice (some ⟨gq2,0,none⟩) (1+LN+1) cq2)):=by
         refine zbm (sl:=.slice (some ⟨gq,0,none⟩) (1+LN) cq) (fun q e=>(HLQ.out q e).1) HRQ.out (zbe (HT8.out.weaken (fun b h=>?_))) (by rw [show ((.node k9 n9 m9 a9 ks9)::l:List Tree).length=1+LN from by rw [List.length_cons,HLN.out.1];omega];exact HG2.out.2.1) HG2.out.1 wb.heap.size (Nat.le_refl _) HSb.out.size ?_
         · have h1:w7.heap.size<=b:=h
           have h2:=HS7.out.size
           exact ⟨by show w.heap.size<=b;omega,fun e=>by have:=(HLQ.out b e).2;omega⟩
         · rcases HG2.out.2.2 with e|e
           · exact Or.inl e.symm
           · exact Or.inr (by rw [e];rfl)
        clear hp
        have HWA:=hid (zbs p g cap ts HE.out i d full [125] (by simp) wq HPq.out)
        obtain ⟨ru,hru⟩:∃ r,(PSof ts i full).want [125]=r:=⟨_,rfl⟩
        have HRE:Hid (R=ru.bind fun _ s=>Ans.ok ((.node k9 n9 m9 a9 ks9)::l++[(.node k8 n8 m8 a8 ks8)]) s):=by
         show _=_
         rw [HR5.out];first|(rw [<- hru];done)|(rw [<- hru];rfl)
        rw [hru] at HWA
        clear hru
        refine HWA.out.mono ?_
        cases ru with
        | no why at_ =>
         rintro e w99 ⟨rfl,hS⟩
         have HS99:=hid (HSq.out.trans hS)
         clear hS
         go_wp2
         refine ⟨rfl,?_⟩
         rw [HRE.out]
         exact ⟨rfl,HS99.out⟩
        | ok u st =>
         rintro e wf ⟨v,i,full,rfl,rfl,rfl,hP,hS⟩
         have HSf:=hid (HSq.out.trans hS)
         have HPf:=hid hP
         have HLf:Hid (zaf (zif w.heap.size) wf ((.node k9 n9 m9 a9 ks9)::l++[(.node k8 n8 m8 a8 ks8)]) (.slice (some ⟨gq2,0,none⟩) (1+LN+1) cq2)):=HLq.out.sole (fun b h=>by have h1:w.heap.size<=b:=h;have:=HP.out;omega) hS
         clear hP hS
         go_wp2
         go_ret
         rw [HRE.out]
         exact ⟨_,i,full,rfl,HLf.out,rfl,HPf.out,HSf.out⟩
end Go.Proofs.YtodfklpmbclgkaaGreatDoor
