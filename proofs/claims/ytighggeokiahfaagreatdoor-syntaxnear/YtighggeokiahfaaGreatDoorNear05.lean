import Derived.Test.YtighggeokiahfaaGreatDoorNear04
namespace Go.Proofs.YtighggeokiahfaaGreatDoor
open Go.RowKit
theorem zfg {α β γ:Type} (r:Ans α) (f:α->PS->Ans β) (k:β->PS->Ans γ):(r.bind f).bind k=r.bind fun a s=>(f a s).bind k:=by cases r <;> rfl
set_option maxHeartbeats 4000000 in
set_option maxRecDepth 4000 in
theorem znt (p g cap:Nat) (ts:List Tok) (hE:Ends ts) (d:Int) (B:PS->Ans Tree) (hF:zd4 p g cap ts d 145 (zbc B)):zd4 p g cap ts d 147 (armP B):=by
 intro i0 full0 w h hba
 have HP:=hid2 h.plt h.glt
 have HE:=hid hE
 have Cu:=hid hba
 have HF:=hid hF
 have H:=hid h
 obtain ⟨tk,htk⟩:∃ x,ts[i0]'h.il=x:=⟨_,rfl⟩
 obtain ⟨AT,hAT⟩:∃ x,tk.at_=x:=⟨_,rfl⟩
 obtain ⟨R,hR⟩:∃ R,armP B (PSof ts i0 full0)=R:=⟨_,rfl⟩
 rw [hR]
 have Cv:Hid (R=(zd3 (66 - 0) [] (PSof ts i0 full0)).bind fun l s=>(zbc B s).bind fun t s=>Ans.ok (Tree.node 8 [] 0 AT (l++[t])) s):=by
  show _=_
  rw [<- hR,<- hAT,<- htk]
  unfold armP
  rw [zb6 ts i0 full0 h.il]
 obtain ⟨wa,hwa⟩:∃ x,w.alloc (.cells #[.int .i64 0,.string ⟨#[]⟩,.int .i64 0,.int .i64 0,.slice none 0 0] 29)=x:=⟨_,rfl⟩
 have b1:Below w.heap.size w wa:=by rw [<- hwa];exact zac _ _
 have Cq:Hid (Kep w wa w.heap.size (kidO 0 [] 0 0 (.slice none 0 0))):=by show Kep w wa _ _;rw [<- hwa];exact Kep.new (Nat.le_refl _) _
 have Bt:=hid b1
 have Cw:Hid (Calls Tryz.prog 38 #[.pointer (some ⟨p,0,none⟩)] wa fun e w'=>e=.returned (.agg #[.int .i64 tk.kind,.string ⟨tk.text.toArray⟩,.int .i64 tk.num,.int .i64 AT])∧Below wa.heap.size wa w'):=by
  have hx:=zcb p g cap ts i0 d full0 wa (h.below b1)
  rw [htk] at hx
  rw [<- hAT]
  exact hx
 have q3:=fld3 tk.kind tk.num AT ⟨tk.text.toArray⟩
 have qb:=bld03 8 AT
 obtain ⟨inf,hi1,hi2,hi3,hi4⟩:=zfd
 have HI:=hid4 hi1 hi2 hi3 hi4
 clear h hba hE hF hR htk hAT b1 hi1 hi2 hi3 hi4
 go_enter Tryz.func147,Tryz.ntmps147
 go_wp2_with fail
 refine Cw.out.mono ?_
 rintro e w1 ⟨rfl,hB1⟩
 have hb01:Below w.heap.size w w1:=Bt.out.trans (hB1.mono Bt.out.size)
 have Cx:=hid hB1
 clear hB1 hb01 hwa
 go_wp2
 have hB1:=Cx.out
 have hb01:Below w.heap.size w w1:=Bt.out.trans (hB1.mono Bt.out.size)
 obtain ⟨w2,hw2⟩:∃ x,w1.alloc (.cells #[.int .i64 8,.string ⟨#[]⟩,.int .i64 0,.int .i64 AT,.slice none 0 0] 29)=x:=⟨_,rfl⟩
 have hB2:Below w1.heap.size w1 w2:=by rw [<- hw2];exact zac _ _
 have Cy:=hid ((H.out.below hb01).below hB2)
 have Cz:Hid (Sole p w w2):=(Sole.of_below hb01).trans (Sole.of_below hB2)
 have Bw:=hid ((Cq.out.below hB1).below hB2)
 have Bx:Hid (Kep w w2 w1.heap.size (kidO 8 [] 0 AT (.slice none 0 0))):=by show Kep w w2 _ _;rw [<- hw2];exact Kep.new hb01.size _
 have Bz:=hid ((Cq.out.below hB1).lt)
 rw [hw2]
 clear hB1 hb01 hB2
 clear hw2 q3 qb
 go_loopw [] (fun wr=>∃ (acc:List Tree) (N:Nat) (oq:Option Addr) (cq:Nat) (ix:Nat) (full:Bool),acc.length=N∧N<=64∧Hid (PP wr p g cap ts ix d full)∧Hid (Sole p w wr)∧Hid (Kep w wr w.heap.size (kidO 0 [] 0 0 (.slice none 0 0)))∧Hid (Kep w wr w1.heap.size (kidO 8 [] 0 AT (.slice oq N cq)))∧Hid (zab (fun b=>w.heap.size<b∧b≠w1.heap.size) wr acc (.slice oq N cq))∧Hid (R=(zd3 (66 - N) acc (PSof ts ix full)).bind fun l s=>(zbc B s).bind fun t s=>Ans.ok (Tree.node 8 [] 0 AT (l++[t])) s)) (fun wr=>65 - sliceLen ((wr.cell? ⟨w1.heap.size,4,none⟩).getD (.int .i64 0)))
 case atStart=>exact ⟨[],0,none,0,i0,full0,rfl,by omega,Cy,Cz,Bw,Bx,zbe,Cv⟩
 case round =>
  obtain ⟨acc,N,oq,cq,ix,full,hN1,hN2,Bu,Ca,Ay,Ak,Cb,Da⟩:=hrel
  have HN:=hid2 hN1 hN2
  have Cr:Hid (sliceLen ((wr.cell? ⟨w1.heap.size,4,none⟩).getD (.int .i64 0))=N):=by
   show _=_
   rw [(zaa Ak.out.1).1.2.2.2.2];rfl
  have Cc:Hid (R=(if acc.isEmpty||(PSof ts ix full).sees zb1 then (((PSof ts ix full).room N 64).want zb1).bind fun _ s=>(zb7 s).bind fun v s=>(s.want [58]).bind fun _ s=>zd3 (65 - N) (acc++[v]) s else .ok acc (PSof ts ix full)).bind fun l s=>(zbc B s).bind fun t s=>Ans.ok (Tree.node 8 [] 0 AT (l++[t])) s):=by
   show _=_
   rw [Da.out,show 66 - N=(65 - N)+1 by omega,zd3,hN1]
  have Cs:Hid (acc.isEmpty=decide (N=0)):=by
   show _=_
   rw [<- hN1]
   cases acc <;> simp
  obtain ⟨⟨r0,r1,r2,r3,r4⟩,_⟩:=zaa Ak.out.1
  clear hN1 hN2
  by_cases h0:N=0
  · have hz:((N:Int)==0)=true:=by simp [h0]
    have Cd:Hid (acc.isEmpty=true):=by show _=_;rw [Cs.out];simp [h0]
    have Ce:Hid (R=((((PSof ts ix full).room N 64).want zb1).bind fun _ s=>(zb7 s).bind fun v s=>(s.want [58]).bind fun _ s=>zd3 (65 - N) (acc++[v]) s).bind fun l s=>(zbc B s).bind fun t s=>Ans.ok (Tree.node 8 [] 0 AT (l++[t])) s):=by
     show _=_
     rw [Cc.out,if_pos (by rw [Cd.out];rfl)]
    obtain ⟨wv,hwv⟩:∃ x,wr=x:=⟨_,rfl⟩
    have Cf:=hid (hwv ▸ Bu)
    have Cg:=hid (hwv ▸ Ca)
    have Az:=hid (hwv ▸ Ay)
    have Al:=hid (hwv ▸ Ak)
    have Ch:=hid (hwv ▸ Cb)
    clear h0
    subst hwv
    have Ci:=hid (zhm p g cap ts ix d full N 64 wr Cf.out)
    obtain ⟨⟨p0,p1,p2,p3,p4⟩,_⟩:=zaa Al.out.1
    go_wp2_with fail
    refine Ci.out.mono ?_
    rintro e wx ⟨rfl,hP,hS,hz2⟩
    obtain ⟨fullx,hfx⟩:∃ x,zfm full N 64=x:=⟨_,rfl⟩
    have Be:=hid hfx
    rw [hfx] at hP
    have hp:=HP.out
    have Cj:=hid hP
    have Bf:=hid (Cg.out.trans hS)
    have Ba:=hid (Az.out.sole hp.1 hS)
    have Bb:=hid (Al.out.sole hp.1 hS)
    have Ck:=hid (Ch.out.sole (fun b h=>by omega) hS)
    have Am:=hid (zbt p g cap ts HE.out ix d fullx zb1 (by simp [zb1]) wx Cj.out)
    obtain ⟨ru,hru⟩:∃ r,(PSof ts ix fullx).want zb1=r:=⟨_,rfl⟩
    have Bg:Hid (R=(ru.bind fun _ s=>(zb7 s).bind fun v s=>(s.want [58]).bind fun _ s=>zd3 (65 - N) (acc++[v]) s).bind fun l s=>(zbc B s).bind fun t s=>Ans.ok (Tree.node 8 [] 0 AT (l++[t])) s):=by
     show _=_
     rw [Ce.out,zgq,Be.out,hru]
    have Bc:Hid (∀ t s,ru=.ok t s->N+1<=64):=fun t s e=>by
     rcases Nat.lt_or_ge N 64 with h1|h1
     · exact h1
     · have hNN:=HN.out
       have hN64:N=64:=by omega
       obtain ⟨x,y,hx⟩:=zgu zb1 (PSof ts ix fullx) (by rw [zgr,<- Be.out];unfold zfm;simp [hN64])
       have hx' : (PSof ts ix fullx).want zb1=.no x y:=hx
       rw [<- hru,hx'] at e
       cases e
    rw [hru] at Am
    clear hP hS hz2 hp hru hfx
    go_wp2_with fail
    refine Am.out.mono ?_
    cases ru with
    | no why at_ =>
     rintro e w99 ⟨rfl,hS⟩
     have Aj:=hid (Bf.out.trans hS)
     clear hS
     go_wp2
     refine ⟨rfl,?_⟩
     rw [Bg.out]
     exact ⟨rfl,Aj.out⟩
    | ok u st =>
     rintro e wy ⟨v,i,full,rfl,rfl,rfl,hP,hS⟩
     have hp:=HP.out
     have Bh:=hid (Bc.out _ _ rfl)
     have Ap:=hid (Bf.out.trans hS)
     have Ae:=hid (Ba.out.sole hp.1 hS)
     have Ab:=hid (Bb.out.sole hp.1 hS)
     have Aq:=hid (Ck.out.sole (fun b h=>by omega) hS)
     obtain ⟨rv,hrv⟩:∃ r,zb7 (PSof ts i full)=r:=⟨_,rfl⟩
     have Ar:Hid (R=(rv.bind fun v s=>(s.want [58]).bind fun _ s=>zd3 (65 - N) (acc++[v]) s).bind fun l s=>(zbc B s).bind fun t s=>Ans.ok (Tree.node 8 [] 0 AT (l++[t])) s):=by
      show _=_
      rw [Bg.out,<- hrv];rfl
     have Au:Hid (∀ m,Calls Tryz.prog 140 #[.pointer (some ⟨p,0,none⟩)] (wy.drewN m) (zam p g cap ts d (zah wy.heap.size) rv wy)):=fun m=>by
      have hB:Below wy.heap.size wy (wy.drewN m):=zaj (Below.refl _ _) m
      rw [<- hrv]
      exact (zck p g cap ts HE.out i d full _ (hP.below hB)).mono fun e w' hp=>zam.from_below hB hp
     obtain ⟨⟨l0,l1,l2,l3,l4⟩,⟨f0,f1,f2,f3,f4⟩⟩:=zaa Ab.out.1
     clear hP hS hp hrv p0 p1 p2 p3 p4
     go_wp2_with fail
     cases rv with
     | no why at_ =>
      go_region_dies
      all_goals (
       refine (Au.out _).mono ?_
       rintro e w9 ⟨rfl,hS⟩
       refine ⟨rfl,?_⟩
       rw [Ar.out]
       exact ⟨rfl,Ap.out.trans hS⟩)
     | ok tv st =>
      obtain ⟨k8,n8,m8,a8,ks8⟩:=tv
      go_region_law (first
       | (refine zbw rfl 140 #[.pointer (some ⟨p,0,none⟩)] (by go_simp) _ (Au.out _) ?_
          rintro e w5 ⟨v,i,full,rfl,hT,rfl,hP,hS⟩
          refine ⟨_,rfl,?_⟩
          obtain ⟨sl,rfl,hL⟩:=zaf.1 hT
          obtain ⟨o8,l8,c8,rfl⟩:=hL.shape
          have hp:=HP.out
          obtain ⟨wb,hwb⟩:∃ x,w5.alloc (.cells #[.int .i64 k8,.string ⟨n8.toArray⟩,.int .i64 m8,.int .i64 a8,.slice o8 l8 c8] 29)=x:=⟨_,rfl⟩
          have Ct:=hid hwb
          have hBb:Below w5.heap.size w5 wb:=by rw [<- hwb];exact zac _ _
          have Bi:=hid (hP.below hBb)
          have Av:=hid ((Ap.out.trans hS).trans (Sole.of_below hBb))
          have Bj:=hid (zae.below hT hBb)
          have Af:=hid ((Ae.out.sole hp.1 hS).below hBb)
          have kl5:Kep w w5 w1.heap.size (kidO 8 [] 0 AT (.slice oq N cq)):=Ab.out.sole hp.1 hS
          have Ag:=hid (kl5.below hBb)
          have hl3:zab (fun b=>w.heap.size<b∧b≠w1.heap.size) wb acc (.slice oq N cq):=(Aq.out.sole (fun b h=>by omega) hS).below hBb
          have Ac:Hid (∀ q,(Value.slice oq N cq).ownBlock=some q->(w.heap.size<q∧q≠w1.heap.size)∧q<wy.heap.size):=fun q e=>Aq.out.own_lt e
          have Bl:Hid (w1.heap.size<wy.heap.size∧wy.heap.size<=w5.heap.size∧wb.heap.size=w5.heap.size+1):=⟨Ab.out.lt,hS.size,by rw [<- hwb];simp⟩
          obtain ⟨xs,how,hAq,hrq⟩:=hl3
          rw [HN.out.1] at how
          have Bm:=hid how
          have Bn:=hid hrq
          have Bo:Hid (wb.heap[w5.heap.size]?=some (.cells #[.int .i64 k8,.string ⟨n8.toArray⟩,.int .i64 m8,.int .i64 a8,.slice o8 l8 c8] 29 (0,0))):=by show _=_;rw [<- hwb];exact heap_alloc_new _ _
          have u4:=(zaa kl5.1).1.2.2.2.2
          have x4:=(zaa Ag.out.1).1.2.2.2.2
          clear hT hL hP hS hp hBb how hAq hrq kl5
          unfold kidV)
       | (refine step_append_lies _ rfl _ _ 27 rfl 0 29 inf (.agg #[.int .i64 0,.string ⟨#[]⟩,.int .i64 0,.int .i64 0,.slice none 0 0]) 5 64 Tryz.underlying27 HI.out.1 HI.out.2.1 HI.out.2.2.1 HI.out.2.2.2 rfl (by decide) (.slice oq N cq) N xs rfl Bm.out ⟨w5.heap.size,0,none⟩ 1 1 [.int .i64 k8,.string ⟨n8.toArray⟩,.int .i64 m8,.int .i64 a8,.slice o8 l8 c8] rfl rfl (World.news_of_block (cs:=#[.int .i64 k8,.string ⟨n8.toArray⟩,.int .i64 m8,.int .i64 a8,.slice o8 l8 c8]) (t:=29) (fr:=(0,0)) Bo.out) (by simp [Value.oneCell']) (by decide) (by have:=HN.out;unfold maxLen;omega) (by have:=HN.out;omega) (Nat.zero_le _) _ rfl ?_
          intro gq cq2 w6 hown hgrow hat hlt
          have hp:=HP.out
          have hsz:=Bl.out
          have hs5:=Av.out.size
          have Bp:Hid (PP w6 p g cap ts i d full):=Bi.out.grownO hgrow (fun e=>by have:=Ac.out p e;omega) (fun e=>by have:=Ac.out g e;omega)
          have Bq:=hid (Av.out.grownO hgrow (fun q e=>Nat.le_of_lt (Ac.out q e).1.1))
          have Ah:Hid (Kep w w6 w.heap.size (kidO 0 [] 0 0 (.slice none 0 0))):=Af.out.grownO hgrow (fun e=>by have:=(Ac.out _ e).1.1;omega)
          have Aa:=hid (Ag.out.grownO hgrow (fun e=>(Ac.out _ e).1.2 rfl))
          have Br:Hid (zab (fun b=>w.heap.size<b∧b≠w1.heap.size) w6 (acc++[(.node k8 n8 m8 a8 ks8)]) (.slice (some ⟨gq,0,none⟩) (N+1) cq2)):=by
           refine zbv (sl:=.slice oq N cq) (fun q e=>(Ac.out q e).1) Bn.out (za3 (Bj.out.weaken (fun b h=>?_))) (by rw [HN.out.1];exact hown) hgrow wb.heap.size (Nat.le_refl _) (by have:=Af.out.lt;omega) ?_
           · have h1:wy.heap.size<=b:=h
             have h2:=Ae.out.lt
             exact ⟨by omega,fun e=>by have:=(Ac.out b e).2;omega⟩
           · rcases hat with e|e
             · exact Or.inl e.symm
             · exact Or.inr (by rw [e];rfl)
          obtain ⟨⟨j0,j1,j2,j3,j4⟩,⟨g0,g1,g2,g3,g4⟩⟩:=zaa Aa.out.1
          clear hown hgrow hat hlt hp hsz hs5))
      all_goals (
       have hp:=HP.out
       have hwl2:=Aa.out.2
       have hwr2:=Ah.out.lt
       have hne:=Bz.out
       have hz6:∀ b,b≠w1.heap.size->(w6.setCell ⟨w1.heap.size,4,none⟩ (.slice (some ⟨gq,0,none⟩) (N+1) cq2)).heap[b]?=w6.heap[b]?:=fun b hb=>Below.heap_setCell _ _ _ _ hb
       have Ai:Hid (Kep w (w6.setCell ⟨w1.heap.size,4,none⟩ (.slice (some ⟨gq,0,none⟩) (N+1) cq2)) w1.heap.size (kidO 8 [] 0 AT (.slice (some ⟨gq,0,none⟩) (N+1) cq2))):=⟨zhl Aa.out.1,Aa.out.2⟩
       have Ad:=hid (Ah.out.but hz6 (by omega))
       have Aw:=hid (Bp.out.sole_but (by omega) (by omega) hz6)
       have Ao:Hid (Sole p w (w6.setCell ⟨w1.heap.size,4,none⟩ (.slice (some ⟨gq,0,none⟩) (N+1) cq2))):=Bq.out.below_after ((Below.refl _ _).setCell hwl2 _)
       have Ax:=hid (Br.out.but (fun b h=>h.2) hz6)
       generalize w6.setCell ⟨w1.heap.size,4,none⟩ (.slice (some ⟨gq,0,none⟩) (N+1) cq2)=wc at Ai Ad Aw Ao Ax ⊢
       clear hp hwl2 hwr2 hne hz6
       have Am:=hid (zbt p g cap ts HE.out i d full [58] (by simp) wc Aw.out)
       obtain ⟨ru,hru⟩:∃ r,(PSof ts i full).want [58]=r:=⟨_,rfl⟩
       have Bs:Hid (R=ru.bind fun _ s=>(zd3 (65 - N) (acc++[(.node k8 n8 m8 a8 ks8)]) s).bind fun l s=>(zbc B s).bind fun t s=>Ans.ok (Tree.node 8 [] 0 AT (l++[t])) s):=by
        show _=_
        rw [Ar.out];rw [<- hru];exact zfg ((PSof ts i full).want [58]) (fun _ s=>zd3 (65 - N) (acc++[(.node k8 n8 m8 a8 ks8)]) s) (fun l s=>(zbc B s).bind fun t s=>Ans.ok (Tree.node 8 [] 0 AT (l++[t])) s)
       rw [hru] at Am
       clear hru
       go_wp2_with fail
       refine Am.out.mono ?_
       cases ru with
       | no why at_ =>
        rintro e w99 ⟨rfl,hS⟩
        have Aj:=hid (Ao.out.trans hS)
        clear hS
        go_wp2
        refine ⟨rfl,?_⟩
        rw [Bs.out]
        exact ⟨rfl,Aj.out⟩
       | ok u st =>
        rintro e w7 ⟨v,i,full,rfl,rfl,rfl,hP,hS⟩
        have hp:=HP.out
        have Cl:=hid hP
        have Cm:=hid (Ao.out.trans hS)
        have Bd:=hid (Ad.out.sole hp.1 hS)
        have An:=hid (Ai.out.sole hp.1 hS)
        have Cn:=hid (Ax.out.sole (fun b h=>by omega) hS)
        have hNN:=HN.out
        have Co:Hid (R=(zd3 (66 - (N+1)) (acc++[(.node k8 n8 m8 a8 ks8)]) (PSof ts i full)).bind fun l s=>(zbc B s).bind fun t s=>Ans.ok (Tree.node 8 [] 0 AT (l++[t])) s):=by
         show _=_
         rw [show 66 - (N+1)=65 - N by omega]
         exact Bs.out
        have Cp:Hid (sliceLen ((w7.cell? ⟨w1.heap.size,4,none⟩).getD (.int .i64 0))=N+1):=by
         show _=_
         rw [(zaa An.out.1).1.2.2.2.2];rfl
        clear hP hS hp
        go_wp2
        go_roundw
        case rel=>exact ⟨acc++[(.node k8 n8 m8 a8 ks8)],N+1,some ⟨gq,0,none⟩,cq2,i,full,by simp [hNN.1],Bh.out,Cl,Cm,Bd,An,Cn,Co⟩
        case measure =>
         have h1:=Cp.out
         have h2:=Cr.out
         have h3:=Bh.out
         omega)
  · have hz:((N:Int)==0)=false:=by simp;omega
    have Cd:Hid (acc.isEmpty=false):=by show _=_;rw [Cs.out];simp [h0]
    have Bv:=hid (zf8 p g cap ts ix d full zb1 wr Bu.out)
    clear h0
    cases hse:(PSof ts ix full).sees zb1
    · rw [hse] at Bv
      obtain ⟨rv,hrv⟩:∃ r,zbc B (PSof ts ix full)=r:=⟨_,rfl⟩
      have Ar:Hid (R=rv.bind fun t s=>.ok (.node 8 [] 0 AT (acc++[t])) s):=by
       show _=_
       rw [Cc.out,if_neg (by rw [hse,Cd.out];simp),<- hrv]
       rfl
      clear hse
      go_wp2_with fail
      refine Bv.out.mono ?_
      rintro e wy ⟨rfl,hB⟩
      have hPy:PP wy p g cap ts ix d full:=Bu.out.below hB
      have Ap:=hid (Ca.out.trans (Sole.of_below hB))
      have Ae:=hid (Ay.out.below hB)
      have Ab:=hid (Ak.out.below hB)
      have Aq:=hid (Cb.out.below hB)
      have Au:Hid (∀ m,Calls Tryz.prog 145 #[.pointer (some ⟨p,0,none⟩)] (wy.drewN m) (zam p g cap ts d (zah wy.heap.size) rv wy)):=fun m=>by
       have hB' : Below wy.heap.size wy (wy.drewN m):=zaj (Below.refl _ _) m
       rw [<- hrv]
       exact (HF.out ix full _ (hPy.below hB') ((Cu.out.sole Ap.out).below hB')).mono fun e w' hp=>zam.from_below hB' hp
      obtain ⟨⟨l0,l1,l2,l3,l4⟩,⟨f0,f1,f2,f3,f4⟩⟩:=zaa Ab.out.1
      clear hB hrv hPy r0 r1 r2 r3 r4
      go_wp2_with fail
      cases rv with
      | no why at_ =>
       go_region_dies
       all_goals (
        refine (Au.out _).mono ?_
        rintro e w9 ⟨rfl,hS⟩
        refine ⟨rfl,?_⟩
        rw [Ar.out]
        exact ⟨rfl,Ap.out.trans hS⟩)
      | ok tv st =>
       obtain ⟨k8,n8,m8,a8,ks8⟩:=tv
       go_region_law (first
        | (refine zbw rfl 145 #[.pointer (some ⟨p,0,none⟩)] (by go_simp) _ (Au.out _) ?_
           rintro e w5 ⟨v,i,full,rfl,hT,rfl,hP,hS⟩
           refine ⟨_,rfl,?_⟩
           obtain ⟨sl,rfl,hL⟩:=zaf.1 hT
           obtain ⟨o8,l8,c8,rfl⟩:=hL.shape
           have hp:=HP.out
           obtain ⟨wb,hwb⟩:∃ x,w5.alloc (.cells #[.int .i64 k8,.string ⟨n8.toArray⟩,.int .i64 m8,.int .i64 a8,.slice o8 l8 c8] 29)=x:=⟨_,rfl⟩
           have Ct:=hid hwb
           have hBb:Below w5.heap.size w5 wb:=by rw [<- hwb];exact zac _ _
           have Bi:=hid (hP.below hBb)
           have Av:=hid ((Ap.out.trans hS).trans (Sole.of_below hBb))
           have Bj:=hid (zae.below hT hBb)
           have Af:=hid ((Ae.out.sole hp.1 hS).below hBb)
           have kl5:Kep w w5 w1.heap.size (kidO 8 [] 0 AT (.slice oq N cq)):=Ab.out.sole hp.1 hS
           have Ag:=hid (kl5.below hBb)
           have hl3:zab (fun b=>w.heap.size<b∧b≠w1.heap.size) wb acc (.slice oq N cq):=(Aq.out.sole (fun b h=>by omega) hS).below hBb
           have Ac:Hid (∀ q,(Value.slice oq N cq).ownBlock=some q->(w.heap.size<q∧q≠w1.heap.size)∧q<wy.heap.size):=fun q e=>Aq.out.own_lt e
           have Bl:Hid (w1.heap.size<wy.heap.size∧wy.heap.size<=w5.heap.size∧wb.heap.size=w5.heap.size+1):=⟨Ab.out.lt,hS.size,by rw [<- hwb];simp⟩
           obtain ⟨xs,how,hAq,hrq⟩:=hl3
           rw [HN.out.1] at how
           have Bm:=hid how
           have Bn:=hid hrq
           have Bo:Hid (wb.heap[w5.heap.size]?=some (.cells #[.int .i64 k8,.string ⟨n8.toArray⟩,.int .i64 m8,.int .i64 a8,.slice o8 l8 c8] 29 (0,0))):=by show _=_;rw [<- hwb];exact heap_alloc_new _ _
           have u4:=(zaa kl5.1).1.2.2.2.2
           have x4:=(zaa Ag.out.1).1.2.2.2.2
           clear hT hL hP hS hp hBb how hAq hrq kl5
           unfold kidV)
        | (refine step_append_lies _ rfl _ _ 27 rfl 0 29 inf (.agg #[.int .i64 0,.string ⟨#[]⟩,.int .i64 0,.int .i64 0,.slice none 0 0]) 5 64 Tryz.underlying27 HI.out.1 HI.out.2.1 HI.out.2.2.1 HI.out.2.2.2 rfl (by decide) (.slice oq N cq) N xs rfl Bm.out ⟨w5.heap.size,0,none⟩ 1 1 [.int .i64 k8,.string ⟨n8.toArray⟩,.int .i64 m8,.int .i64 a8,.slice o8 l8 c8] rfl rfl (World.news_of_block (cs:=#[.int .i64 k8,.string ⟨n8.toArray⟩,.int .i64 m8,.int .i64 a8,.slice o8 l8 c8]) (t:=29) (fr:=(0,0)) Bo.out) (by simp [Value.oneCell']) (by decide) (by have:=HN.out;unfold maxLen;omega) (by have:=HN.out;omega) (Nat.zero_le _) _ rfl ?_
           intro gq cq2 w6 hown hgrow hat hlt
           have hp:=HP.out
           have hsz:=Bl.out
           have hs5:=Av.out.size
           have Bp:Hid (PP w6 p g cap ts i d full):=Bi.out.grownO hgrow (fun e=>by have:=Ac.out p e;omega) (fun e=>by have:=Ac.out g e;omega)
           have Bq:=hid (Av.out.grownO hgrow (fun q e=>Nat.le_of_lt (Ac.out q e).1.1))
           have Ah:Hid (Kep w w6 w.heap.size (kidO 0 [] 0 0 (.slice none 0 0))):=Af.out.grownO hgrow (fun e=>by have:=(Ac.out _ e).1.1;omega)
           have Aa:=hid (Ag.out.grownO hgrow (fun e=>(Ac.out _ e).1.2 rfl))
           have Br:Hid (zab (fun b=>w.heap.size<b∧b≠w1.heap.size) w6 (acc++[(.node k8 n8 m8 a8 ks8)]) (.slice (some ⟨gq,0,none⟩) (N+1) cq2)):=by
            refine zbv (sl:=.slice oq N cq) (fun q e=>(Ac.out q e).1) Bn.out (za3 (Bj.out.weaken (fun b h=>?_))) (by rw [HN.out.1];exact hown) hgrow wb.heap.size (Nat.le_refl _) (by have:=Af.out.lt;omega) ?_
            · have h1:wy.heap.size<=b:=h
              have h2:=Ae.out.lt
              exact ⟨by omega,fun e=>by have:=(Ac.out b e).2;omega⟩
            · rcases hat with e|e
              · exact Or.inl e.symm
              · exact Or.inr (by rw [e];rfl)
           obtain ⟨⟨j0,j1,j2,j3,j4⟩,⟨g0,g1,g2,g3,g4⟩⟩:=zaa Aa.out.1
           clear hown hgrow hat hlt hp hsz hs5))
       all_goals (
        have hp:=HP.out
        have hwl2:=Aa.out.2
        have hwr2:=Ah.out.lt
        have hne:=Bz.out
        have hz6:∀ b,b≠w1.heap.size->(w6.setCell ⟨w1.heap.size,4,none⟩ (.slice (some ⟨gq,0,none⟩) (N+1) cq2)).heap[b]?=w6.heap[b]?:=fun b hb=>Below.heap_setCell _ _ _ _ hb
        have Ai:Hid (Kep w (w6.setCell ⟨w1.heap.size,4,none⟩ (.slice (some ⟨gq,0,none⟩) (N+1) cq2)) w1.heap.size (kidO 8 [] 0 AT (.slice (some ⟨gq,0,none⟩) (N+1) cq2))):=⟨zhl Aa.out.1,Aa.out.2⟩
        have Ad:=hid (Ah.out.but hz6 (by omega))
        have Aw:=hid (Bp.out.sole_but (by omega) (by omega) hz6)
        have Ao:Hid (Sole p w (w6.setCell ⟨w1.heap.size,4,none⟩ (.slice (some ⟨gq,0,none⟩) (N+1) cq2))):=Bq.out.below_after ((Below.refl _ _).setCell hwl2 _)
        have Ax:=hid (Br.out.but (fun b h=>h.2) hz6)
        generalize w6.setCell ⟨w1.heap.size,4,none⟩ (.slice (some ⟨gq,0,none⟩) (N+1) cq2)=wc at Ai Ad Aw Ao Ax ⊢
        clear hp hwl2 hwr2 hne hz6
        obtain ⟨⟨s0,s1,s2,s3,s4⟩,_⟩:=zaa Ai.out.1
        obtain ⟨⟨z0,z1,z2,z3,z4⟩,⟨y0,y1,y2,y3,y4⟩⟩:=zaa Ad.out.1
        go_wp2
        refine ret5 (n:=[]) z0 z1 z2 z3 z4 rfl (fun u q0 q1 q2 q3 q4=>by simp [results,Tryz.results147,go_sem,q0,q1,q2,q3,q4]) Ad.out.2 Ao.out ?_
        intro wz hf
        rw [Ar.out]
        have hr2:=Ad.out.2
        have hpg:=HP.out
        exact ⟨_,_,_,rfl,za4 Ax.out (fun b h=>Nat.le_of_lt h.1) (fun b h=>Nat.ne_of_gt h.1) hf.2,rfl,Aw.out.sole_but (by omega) (by omega) hf.2,hf.1⟩)
    · rw [hse] at Bv
      have Ce:Hid (R=((((PSof ts ix full).room N 64).want zb1).bind fun _ s=>(zb7 s).bind fun v s=>(s.want [58]).bind fun _ s=>zd3 (65 - N) (acc++[v]) s).bind fun l s=>(zbc B s).bind fun t s=>Ans.ok (Tree.node 8 [] 0 AT (l++[t])) s):=by
       show _=_
       rw [Cc.out,if_pos (by rw [hse];simp)]
      clear hse
      go_wp2_with fail
      refine Bv.out.mono ?_
      rintro e wv ⟨rfl,hB⟩
      have Cf:=hid (Bu.out.below hB)
      have Cg:=hid (Ca.out.trans (Sole.of_below hB))
      have Az:=hid (Ay.out.below hB)
      have Al:=hid (Ak.out.below hB)
      have Ch:=hid (Cb.out.below hB)
      clear hB r0 r1 r2 r3 r4
      have Ci:=hid (zhm p g cap ts ix d full N 64 wv Cf.out)
      obtain ⟨⟨p0,p1,p2,p3,p4⟩,_⟩:=zaa Al.out.1
      go_wp2_with fail
      refine Ci.out.mono ?_
      rintro e wx ⟨rfl,hP,hS,hz2⟩
      obtain ⟨fullx,hfx⟩:∃ x,zfm full N 64=x:=⟨_,rfl⟩
      have Be:=hid hfx
      rw [hfx] at hP
      have hp:=HP.out
      have Cj:=hid hP
      have Bf:=hid (Cg.out.trans hS)
      have Ba:=hid (Az.out.sole hp.1 hS)
      have Bb:=hid (Al.out.sole hp.1 hS)
      have Ck:=hid (Ch.out.sole (fun b h=>by omega) hS)
      have Am:=hid (zbt p g cap ts HE.out ix d fullx zb1 (by simp [zb1]) wx Cj.out)
      obtain ⟨ru,hru⟩:∃ r,(PSof ts ix fullx).want zb1=r:=⟨_,rfl⟩
      have Bg:Hid (R=(ru.bind fun _ s=>(zb7 s).bind fun v s=>(s.want [58]).bind fun _ s=>zd3 (65 - N) (acc++[v]) s).bind fun l s=>(zbc B s).bind fun t s=>Ans.ok (Tree.node 8 [] 0 AT (l++[t])) s):=by
       show _=_
       rw [Ce.out,zgq,Be.out,hru]
      have Bc:Hid (∀ t s,ru=.ok t s->N+1<=64):=fun t s e=>by
       rcases Nat.lt_or_ge N 64 with h1|h1
       · exact h1
       · have hNN:=HN.out
         have hN64:N=64:=by omega
         obtain ⟨x,y,hx⟩:=zgu zb1 (PSof ts ix fullx) (by rw [zgr,<- Be.out];unfold zfm;simp [hN64])
         have hx' : (PSof ts ix fullx).want zb1=.no x y:=hx
         rw [<- hru,hx'] at e
         cases e
      rw [hru] at Am
      clear hP hS hz2 hp hru hfx
      go_wp2_with fail
      refine Am.out.mono ?_
      cases ru with
      | no why at_ =>
       rintro e w99 ⟨rfl,hS⟩
       have Aj:=hid (Bf.out.trans hS)
       clear hS
       go_wp2
       refine ⟨rfl,?_⟩
       rw [Bg.out]
       exact ⟨rfl,Aj.out⟩
      | ok u st =>
       rintro e wy ⟨v,i,full,rfl,rfl,rfl,hP,hS⟩
       have hp:=HP.out
       have Bh:=hid (Bc.out _ _ rfl)
       have Ap:=hid (Bf.out.trans hS)
       have Ae:=hid (Ba.out.sole hp.1 hS)
       have Ab:=hid (Bb.out.sole hp.1 hS)
       have Aq:=hid (Ck.out.sole (fun b h=>by omega) hS)
       obtain ⟨rv,hrv⟩:∃ r,zb7 (PSof ts i full)=r:=⟨_,rfl⟩
       have Ar:Hid (R=(rv.bind fun v s=>(s.want [58]).bind fun _ s=>zd3 (65 - N) (acc++[v]) s).bind fun l s=>(zbc B s).bind fun t s=>Ans.ok (Tree.node 8 [] 0 AT (l++[t])) s):=by
        show _=_
        rw [Bg.out,<- hrv];rfl
       have Au:Hid (∀ m,Calls Tryz.prog 140 #[.pointer (some ⟨p,0,none⟩)] (wy.drewN m) (zam p g cap ts d (zah wy.heap.size) rv wy)):=fun m=>by
        have hB:Below wy.heap.size wy (wy.drewN m):=zaj (Below.refl _ _) m
        rw [<- hrv]
        exact (zck p g cap ts HE.out i d full _ (hP.below hB)).mono fun e w' hp=>zam.from_below hB hp
       obtain ⟨⟨l0,l1,l2,l3,l4⟩,⟨f0,f1,f2,f3,f4⟩⟩:=zaa Ab.out.1
       clear hP hS hp hrv p0 p1 p2 p3 p4
       go_wp2_with fail
       cases rv with
       | no why at_ =>
        go_region_dies
        all_goals (
         refine (Au.out _).mono ?_
         rintro e w9 ⟨rfl,hS⟩
         refine ⟨rfl,?_⟩
         rw [Ar.out]
         exact ⟨rfl,Ap.out.trans hS⟩)
       | ok tv st =>
        obtain ⟨k8,n8,m8,a8,ks8⟩:=tv
        go_region_law (first
         | (refine zbw rfl 140 #[.pointer (some ⟨p,0,none⟩)] (by go_simp) _ (Au.out _) ?_
            rintro e w5 ⟨v,i,full,rfl,hT,rfl,hP,hS⟩
            refine ⟨_,rfl,?_⟩
            obtain ⟨sl,rfl,hL⟩:=zaf.1 hT
            obtain ⟨o8,l8,c8,rfl⟩:=hL.shape
            have hp:=HP.out
            obtain ⟨wb,hwb⟩:∃ x,w5.alloc (.cells #[.int .i64 k8,.string ⟨n8.toArray⟩,.int .i64 m8,.int .i64 a8,.slice o8 l8 c8] 29)=x:=⟨_,rfl⟩
            have Ct:=hid hwb
            have hBb:Below w5.heap.size w5 wb:=by rw [<- hwb];exact zac _ _
            have Bi:=hid (hP.below hBb)
            have Av:=hid ((Ap.out.trans hS).trans (Sole.of_below hBb))
            have Bj:=hid (zae.below hT hBb)
            have Af:=hid ((Ae.out.sole hp.1 hS).below hBb)
            have kl5:Kep w w5 w1.heap.size (kidO 8 [] 0 AT (.slice oq N cq)):=Ab.out.sole hp.1 hS
            have Ag:=hid (kl5.below hBb)
            have hl3:zab (fun b=>w.heap.size<b∧b≠w1.heap.size) wb acc (.slice oq N cq):=(Aq.out.sole (fun b h=>by omega) hS).below hBb
            have Ac:Hid (∀ q,(Value.slice oq N cq).ownBlock=some q->(w.heap.size<q∧q≠w1.heap.size)∧q<wy.heap.size):=fun q e=>Aq.out.own_lt e
            have Bl:Hid (w1.heap.size<wy.heap.size∧wy.heap.size<=w5.heap.size∧wb.heap.size=w5.heap.size+1):=⟨Ab.out.lt,hS.size,by rw [<- hwb];simp⟩
            obtain ⟨xs,how,hAq,hrq⟩:=hl3
            rw [HN.out.1] at how
            have Bm:=hid how
            have Bn:=hid hrq
            have Bo:Hid (wb.heap[w5.heap.size]?=some (.cells #[.int .i64 k8,.string ⟨n8.toArray⟩,.int .i64 m8,.int .i64 a8,.slice o8 l8 c8] 29 (0,0))):=by show _=_;rw [<- hwb];exact heap_alloc_new _ _
            have u4:=(zaa kl5.1).1.2.2.2.2
            have x4:=(zaa Ag.out.1).1.2.2.2.2
            clear hT hL hP hS hp hBb how hAq hrq kl5
            unfold kidV)
         | (refine step_append_lies _ rfl _ _ 27 rfl 0 29 inf (.agg #[.int .i64 0,.string ⟨#[]⟩,.int .i64 0,.int .i64 0,.slice none 0 0]) 5 64 Tryz.underlying27 HI.out.1 HI.out.2.1 HI.out.2.2.1 HI.out.2.2.2 rfl (by decide) (.slice oq N cq) N xs rfl Bm.out ⟨w5.heap.size,0,none⟩ 1 1 [.int .i64 k8,.string ⟨n8.toArray⟩,.int .i64 m8,.int .i64 a8,.slice o8 l8 c8] rfl rfl (World.news_of_block (cs:=#[.int .i64 k8,.string ⟨n8.toArray⟩,.int .i64 m8,.int .i64 a8,.slice o8 l8 c8]) (t:=29) (fr:=(0,0)) Bo.out) (by simp [Value.oneCell']) (by decide) (by have:=HN.out;unfold maxLen;omega) (by have:=HN.out;omega) (Nat.zero_le _) _ rfl ?_
            intro gq cq2 w6 hown hgrow hat hlt
            have hp:=HP.out
            have hsz:=Bl.out
            have hs5:=Av.out.size
            have Bp:Hid (PP w6 p g cap ts i d full):=Bi.out.grownO hgrow (fun e=>by have:=Ac.out p e;omega) (fun e=>by have:=Ac.out g e;omega)
            have Bq:=hid (Av.out.grownO hgrow (fun q e=>Nat.le_of_lt (Ac.out q e).1.1))
            have Ah:Hid (Kep w w6 w.heap.size (kidO 0 [] 0 0 (.slice none 0 0))):=Af.out.grownO hgrow (fun e=>by have:=(Ac.out _ e).1.1;omega)
            have Aa:=hid (Ag.out.grownO hgrow (fun e=>(Ac.out _ e).1.2 rfl))
            have Br:Hid (zab (fun b=>w.heap.size<b∧b≠w1.heap.size) w6 (acc++[(.node k8 n8 m8 a8 ks8)]) (.slice (some ⟨gq,0,none⟩) (N+1) cq2)):=by
             refine zbv (sl:=.slice oq N cq) (fun q e=>(Ac.out q e).1) Bn.out (za3 (Bj.out.weaken (fun b h=>?_))) (by rw [HN.out.1];exact hown) hgrow wb.heap.size (Nat.le_refl _) (by have:=Af.out.lt;omega) ?_
             · have h1:wy.heap.size<=b:=h
               have h2:=Ae.out.lt
               exact ⟨by omega,fun e=>by have:=(Ac.out b e).2;omega⟩
             · rcases hat with e|e
               · exact Or.inl e.symm
               · exact Or.inr (by rw [e];rfl)
            obtain ⟨⟨j0,j1,j2,j3,j4⟩,⟨g0,g1,g2,g3,g4⟩⟩:=zaa Aa.out.1
            clear hown hgrow hat hlt hp hsz hs5))
        all_goals (
         have hp:=HP.out
         have hwl2:=Aa.out.2
         have hwr2:=Ah.out.lt
         have hne:=Bz.out
         have hz6:∀ b,b≠w1.heap.size->(w6.setCell ⟨w1.heap.size,4,none⟩ (.slice (some ⟨gq,0,none⟩) (N+1) cq2)).heap[b]?=w6.heap[b]?:=fun b hb=>Below.heap_setCell _ _ _ _ hb
         have Ai:Hid (Kep w (w6.setCell ⟨w1.heap.size,4,none⟩ (.slice (some ⟨gq,0,none⟩) (N+1) cq2)) w1.heap.size (kidO 8 [] 0 AT (.slice (some ⟨gq,0,none⟩) (N+1) cq2))):=⟨zhl Aa.out.1,Aa.out.2⟩
         have Ad:=hid (Ah.out.but hz6 (by omega))
         have Aw:=hid (Bp.out.sole_but (by omega) (by omega) hz6)
         have Ao:Hid (Sole p w (w6.setCell ⟨w1.heap.size,4,none⟩ (.slice (some ⟨gq,0,none⟩) (N+1) cq2))):=Bq.out.below_after ((Below.refl _ _).setCell hwl2 _)
         have Ax:=hid (Br.out.but (fun b h=>h.2) hz6)
         generalize w6.setCell ⟨w1.heap.size,4,none⟩ (.slice (some ⟨gq,0,none⟩) (N+1) cq2)=wc at Ai Ad Aw Ao Ax ⊢
         clear hp hwl2 hwr2 hne hz6
         have Am:=hid (zbt p g cap ts HE.out i d full [58] (by simp) wc Aw.out)
         obtain ⟨ru,hru⟩:∃ r,(PSof ts i full).want [58]=r:=⟨_,rfl⟩
         have Bs:Hid (R=ru.bind fun _ s=>(zd3 (65 - N) (acc++[(.node k8 n8 m8 a8 ks8)]) s).bind fun l s=>(zbc B s).bind fun t s=>Ans.ok (Tree.node 8 [] 0 AT (l++[t])) s):=by
          show _=_
          rw [Ar.out];rw [<- hru];exact zfg ((PSof ts i full).want [58]) (fun _ s=>zd3 (65 - N) (acc++[(.node k8 n8 m8 a8 ks8)]) s) (fun l s=>(zbc B s).bind fun t s=>Ans.ok (Tree.node 8 [] 0 AT (l++[t])) s)
         rw [hru] at Am
         clear hru
         go_wp2_with fail
         refine Am.out.mono ?_
         cases ru with
         | no why at_ =>
          rintro e w99 ⟨rfl,hS⟩
          have Aj:=hid (Ao.out.trans hS)
          clear hS
          go_wp2
          refine ⟨rfl,?_⟩
          rw [Bs.out]
          exact ⟨rfl,Aj.out⟩
         | ok u st =>
          rintro e w7 ⟨v,i,full,rfl,rfl,rfl,hP,hS⟩
          have hp:=HP.out
          have Cl:=hid hP
          have Cm:=hid (Ao.out.trans hS)
          have Bd:=hid (Ad.out.sole hp.1 hS)
          have An:=hid (Ai.out.sole hp.1 hS)
          have Cn:=hid (Ax.out.sole (fun b h=>by omega) hS)
          have hNN:=HN.out
          have Co:Hid (R=(zd3 (66 - (N+1)) (acc++[(.node k8 n8 m8 a8 ks8)]) (PSof ts i full)).bind fun l s=>(zbc B s).bind fun t s=>Ans.ok (Tree.node 8 [] 0 AT (l++[t])) s):=by
           show _=_
           rw [show 66 - (N+1)=65 - N by omega]
           exact Bs.out
          have Cp:Hid (sliceLen ((w7.cell? ⟨w1.heap.size,4,none⟩).getD (.int .i64 0))=N+1):=by
           show _=_
           rw [(zaa An.out.1).1.2.2.2.2];rfl
          clear hP hS hp
          go_wp2
          go_roundw
          case rel=>exact ⟨acc++[(.node k8 n8 m8 a8 ks8)],N+1,some ⟨gq,0,none⟩,cq2,i,full,by simp [hNN.1],Bh.out,Cl,Cm,Bd,An,Cn,Co⟩
          case measure =>
           have h1:=Cp.out
           have h2:=Cr.out
           have h3:=Bh.out
           omega)
theorem zkm (F:PS->Ans Tree) (ws:List (List UInt8)):∀ (f:Nat) (acc:List Tree) (s:PS) (l:List Tree) (s' : PS),zcu F ws f acc s=.ok l s'->l.length<=acc.length+f∧l≠[]
 | 0,acc,s,l,s'=>fun h=>by rw [zcu] at h;cases h
 | f+1,acc,s,l,s'=>fun h=>by
  rw [zcu] at h
  by_cases hc:(acc.isEmpty||!(ws.any s.sees))=true
  · rw [if_pos hc] at h
    cases hx:F (s.room acc.length 64) with
    | no e a=>rw [hx] at h;cases h
    | ok t s1 =>
     rw [hx] at h
     have:=zkm F ws f (acc++[t]) s1 l s' h
     simp only [List.length_append,List.length_cons,List.length_nil] at this
     exact ⟨by omega,this.2⟩
  · rw [if_neg hc] at h
    cases h
    refine ⟨by omega,fun e=>hc ?_⟩
    rw [e];rfl
theorem wantL_two (t u:List UInt8) (s:PS):wantL [t,u] s=(s.want t).bind fun _ s=>s.want u:=by
 show (s.want t).bind (fun _ s=>(s.want u).bind fun _ s=>Ans.ok () s)=_
 cases s.want t with
 | no e a=>rfl
 | ok a s =>
  show (s.want u).bind (fun _ s=>Ans.ok () s)=s.want u
  cases s.want u <;> rfl
theorem zj7 (p g cap:Nat) (ts:List Tok) (hE:Ends ts) (i:Nat) (d:Int) (full:Bool) (t u:List UInt8) (ht:t≠[]) (hu:u≠[]) (w:World) (h:PP w p g cap ts i d full) :
 Calls Tryz.prog 41 #[.pointer (some ⟨p,0,none⟩),.slice (some ⟨w.heap.size,0,none⟩) 2 2] (w.alloc (.cells #[.string ⟨t.toArray⟩,.string ⟨u.toArray⟩] 9)) (zam p g cap ts d zf5 (((PSof ts i full).want t).bind fun _ s=>s.want u) w):=by
 have hB:Below w.heap.size w (w.alloc (.cells #[.string ⟨t.toArray⟩,.string ⟨u.toArray⟩] 9)):=zac _ _
 have hx:=zan p g cap ts hE i d full w.heap.size 2 [t,u] _ (h.below hB) (Nat.ne_of_gt h.plt) (by simp) (fun j hj=>by
  have:j=0∨j=1:=by simp at hj;omega
  rcases this with rfl|rfl
  · simp
  · simp) (fun x hx=>by simp at hx;rcases hx with rfl|rfl;exact ht;exact hu) (by simp)
 rw [wantL_two] at hx
 exact hx.mono fun e w' hp=>zam.from_below hB hp
/-- a list that is not empty: where it lies -/
theorem zab.addr {A:Nat->Prop} {w:World} {ks:List Tree} {sl:Value} (h:zab A w ks sl) (hn:ks≠[]):∃ q c xs,sl=.slice (some ⟨q,0,none⟩) ks.length c∧A q∧RowV (fun b=>A b∧b≠q) w ks xs∧(∀ j u,xs[j]?=some u->w.cell? ((⟨q,0,none⟩:Addr).add j)=some u):=by
 obtain ⟨xs,ho,hA,hr⟩:=h
 obtain ⟨q,c,rfl,_,_⟩:=ho.form (by cases ks with|nil=>exact absurd rfl hn|cons _ _=>simp)
 exact ⟨q,c,xs,rfl,hA q rfl,RowV.frame (fun b hb=>⟨hb.1,fun e=>hb.2 (by rw [e];rfl)⟩) (fun _ _ _=>rfl) _ _ hr,ho.cells rfl⟩
theorem choice_else (B:PS->Ans Tree) (d:Tree) (l:List Tree) (s:PS) :
 ((zc0 9 s).bind fun e s=>(s.want [58]).bind fun _ s=>(zbc B s).bind fun t s=>(s.want [125]).bind fun _ s =>
   match e with
   | .node k n m i _=>Ans.ok (d::l++[Tree.node k n m i [t]]) s)=(zdg B s).bind fun o s=>(s.want [125]).bind fun _ s=>Ans.ok (d::l++[o]) s:=by
 unfold zdg
 cases zc0 9 s with
 | no e a=>rfl
 | ok e s =>
  obtain ⟨k,n,m,i,ks⟩:=e
  show (s.want [58]).bind _=((s.want [58]).bind _).bind _
  cases s.want [58] with
  | no e a=>rfl
  | ok u s =>
   show (zbc B s).bind _=((zbc B s).bind _).bind _
   cases zbc B s with
   | no e a=>rfl
   | ok t s=>rfl
theorem zfr {α β:Type} {r:Ans α} {f f' : α->PS->Ans β} (h:∀ a s,f a s=f' a s):r.bind f=r.bind f':=by
 cases r with
 | ok a s=>exact h a s
 | no e i=>rfl
theorem choiceP_eq (B:PS->Ans Tree) (s:PS):zcw B s=(s.want zgt).bind fun _ s=>(s.want [40]).bind fun _ s=>(za6 B s).bind fun d_ s=>(s.want [41]).bind fun _ s=>(s.want [123]).bind fun _ s=>(zcu (armP B) [za2,[125]] 66 [] s).bind fun l s=>if s.sees za2 then (zdg B s).bind fun o s=>(s.want [125]).bind fun _ s=>Ans.ok (d_::l++[o]) s else (s.want [125]).bind fun _ s=>Ans.ok (d_::l) s:=by
 unfold zcw
 refine zfr fun _ s=>zfr fun _ s=>zfr fun d_ s=>zfr fun _ s=>zfr fun _ s=>zfr fun l s=>?_
 by_cases h:s.sees za2=true
 · rw [if_pos h,if_pos h]
   exact choice_else B d_ l s
 · rw [if_neg h,if_neg h]
set_option maxHeartbeats 2000000 in
set_option maxRecDepth 4000 in
theorem zhp (p g cap:Nat) (ts:List Tok) (hE:Ends ts) (d:Int) (B:PS->Ans Tree) (hD:zd4 p g cap ts d 146 (za6 B)) (hF:zd4 p g cap ts d 145 (zbc B)) (hAr:zd4 p g cap ts d 147 (armP B)):zg8 p g cap ts d 116 (zcw B):=by
 intro i full w h hba
 have HP:=hid2 h.plt h.glt
 have HE:=hid hE
 have Al:=hid hba
 have HK:=hid3 hD hF hAr
 have Bt:=hid h
 have Bu:=hid (Sole.refl p w)
 obtain ⟨R,hR⟩:∃ R,zcw B (PSof ts i full)=R:=⟨_,rfl⟩
 rw [hR]
 have Bv:Hid (R=((PSof ts i full).want zgt).bind fun _ s=>(s.want [40]).bind fun _ s=>(za6 B s).bind fun d_ s=>(s.want [41]).bind fun _ s=>(s.want [123]).bind fun _ s=>(zcu (armP B) [za2,[125]] 66 [] s).bind fun l s=>if s.sees za2 then (zdg B s).bind fun o s=>(s.want [125]).bind fun _ s=>Ans.ok (d_::l++[o]) s else (s.want [125]).bind fun _ s=>Ans.ok (d_::l) s):=by
  show _=_
  rw [<- hR]
  exact choiceP_eq B _
 have hmf:∀ (fn:Fn) (first cap:Array Value) (w:World),(Instr.makeFunc fn first cap).run Tryz.prog w=.ok (.func fn first cap) w:=fun _ _ _ _=>rfl
 obtain ⟨inf,hi1,hi2,hi3,hi4⟩:=zfd
 have HI:=hid4 hi1 hi2 hi3 hi4
 clear h hba hE hR hD hF hAr hi1 hi2 hi3 hi4
 go_enter Tryz.func116,Tryz.ntmps116
 have Ab:=hid (zj7 p g cap ts HE.out i d full zgt [40] (by simp [zgt]) (by simp) w Bt.out)
 obtain ⟨ru,hru⟩:∃ r,(((PSof ts i full).want zgt).bind fun _ s=>s.want [40])=r:=⟨_,rfl⟩
 have Be:Hid (R=ru.bind fun _ s=>(za6 B s).bind fun d_ s=>(s.want [41]).bind fun _ s=>(s.want [123]).bind fun _ s=>(zcu (armP B) [za2,[125]] 66 [] s).bind fun l s=>if s.sees za2 then (zdg B s).bind fun o s=>(s.want [125]).bind fun _ s=>Ans.ok (d_::l++[o]) s else (s.want [125]).bind fun _ s=>Ans.ok (d_::l) s):=by
  show _=_
  rw [Bv.out,<- hru]
  exact (zfg _ _ _).symm
 rw [hru] at Ab
 clear hru
 go_wp2_with fail
 refine Ab.out.mono ?_
 cases ru with
 | no why at_ =>
  rintro e w99 ⟨rfl,hS⟩
  have Aa:=hid (Bu.out.trans hS)
  clear hS
  go_wp2
  refine ⟨rfl,?_⟩
  rw [Be.out]
  exact ⟨rfl,Aa.out⟩
 | ok u st =>
  rintro e w1 ⟨v,i,full,rfl,rfl,rfl,hP,hS⟩
  have Am:=hid hS
  have Bf:=hid (HK.out.1 i full w1 hP (Al.out.sole hS))
  obtain ⟨rd,hrd⟩:∃ r,za6 B (PSof ts i full)=r:=⟨_,rfl⟩
  have Bg:Hid (R=rd.bind fun d_ s=>(s.want [41]).bind fun _ s=>(s.want [123]).bind fun _ s=>(zcu (armP B) [za2,[125]] 66 [] s).bind fun l s=>if s.sees za2 then (zdg B s).bind fun o s=>(s.want [125]).bind fun _ s=>Ans.ok (d_::l++[o]) s else (s.want [125]).bind fun _ s=>Ans.ok (d_::l) s):=by
   show _=_
   rw [Be.out];first|(rw [<- hrd];done)|(rw [<- hrd];rfl)
  rw [hrd] at Bf
  clear hP hS hrd
  go_wp2_with fail
  refine Bf.out.mono ?_
  cases rd with
  | no why at_ =>
   rintro e w99 ⟨rfl,hS⟩
   have Aa:=hid (Am.out.trans hS)
   clear hS
   go_wp2
   refine ⟨rfl,?_⟩
   rw [Bg.out]
   exact ⟨rfl,Aa.out⟩
  | ok tv st =>
   rintro e w2 ⟨v,i,full,rfl,hT,rfl,hP,hS⟩
   obtain ⟨k9,n9,m9,a9,ks9⟩:=tv
   obtain ⟨sl,rfl,hL⟩:=zaf.1 hT
   obtain ⟨o9,l9,c9,rfl⟩:=hL.shape
   obtain ⟨w3,hw3⟩:∃ x,w2.alloc (.cells #[.int .i64 k9,.string ⟨n9.toArray⟩,.int .i64 m9,.int .i64 a9,.slice o9 l9 c9] 29)=x:=⟨_,rfl⟩
   have hB3:Below w2.heap.size w2 w3:=by rw [<- hw3];exact zac _ _
   have hs2:Sole p w w2:=Am.out.trans hS
   have Bw:=hid (hP.below hB3)
   have Bh:=hid (hs2.trans (Sole.of_below hB3))
   have An:Hid (Kep w w3 w2.heap.size (kidO k9 n9 m9 a9 (.slice o9 l9 c9))):=by show Kep w w3 _ _;rw [<- hw3];exact Kep.new hs2.size _
   have Bx:=hid (zae.below (zah.made hT) hB3)
   have Ao:Hid (w.heap.size<=w1.heap.size∧w1.heap.size<=w2.heap.size∧w2.heap.size<w3.heap.size):=⟨Am.out.size,hS.size,by rw [<- hw3];simp⟩
   clear hP hS hT hL hB3 hs2
   unfold kidV
   have Ab:=hid (zj7 p g cap ts HE.out i d full [41] [123] (by simp) (by simp) w3 Bw.out)
   obtain ⟨ru,hru⟩:∃ r,(((PSof ts i full).want [41]).bind fun _ s=>s.want [123])=r:=⟨_,rfl⟩
   have Bi:Hid (R=ru.bind fun _ s=>(zcu (armP B) [za2,[125]] 66 [] s).bind fun l s=>if s.sees za2 then (zdg B s).bind fun o s=>(s.want [125]).bind fun _ s=>Ans.ok ((.node k9 n9 m9 a9 ks9)::l++[o]) s else (s.want [125]).bind fun _ s=>Ans.ok ((.node k9 n9 m9 a9 ks9)::l) s):=by
    show _=_
    rw [Bg.out,<- hru]
    exact (zfg _ _ _).symm
   rw [hru] at Ab
   clear hru
   go_wp2_with fail
   refine Ab.out.mono ?_
   clear hw3
   cases ru with
   | no why at_ =>
    rintro e w99 ⟨rfl,hS⟩
    have Aa:=hid (Bh.out.trans hS)
    clear hS
    go_wp2
    refine ⟨rfl,?_⟩
    rw [Bi.out]
    exact ⟨rfl,Aa.out⟩
   | ok u st =>
    rintro e w4 ⟨v,i,full,rfl,rfl,rfl,hP,hS⟩
    have hp:=HP.out
    have hle:=Ao.out
    have Ap:=hid (Bh.out.trans hS)
    have Aq:=hid (An.out.sole hp.1 hS)
    have Bz:=hid (Bx.out.sole (fun b h=>by omega) hS)
    have Ar:=hid hS.size
    have Bj:=hid (some_two p g cap ts d 147 (armP B) HK.out.2.2 (strict_arm B) bodied_147 za2 [125] i full w4 hP (Al.out.sole Ap.out))
    obtain ⟨rl,hrl⟩:∃ r,zcu (armP B) [za2,[125]] 66 [] (PSof ts i full)=r:=⟨_,rfl⟩
    have Au:Hid (∀ l s,rl=.ok l s->l.length<=66∧l≠[]):=fun l s e=>by
     have:=zkm _ _ _ _ _ _ _ (hrl.trans e)
     simp at this
     exact this
    have Av:Hid (R=rl.bind fun l s=>if s.sees za2 then (zdg B s).bind fun o s=>(s.want [125]).bind fun _ s=>Ans.ok ((.node k9 n9 m9 a9 ks9)::l++[o]) s else (s.want [125]).bind fun _ s=>Ans.ok ((.node k9 n9 m9 a9 ks9)::l) s):=by
     show _=_
     rw [Bi.out];first|(rw [<- hrl];done)|(rw [<- hrl];rfl)
    rw [hrl] at Bj
    clear hP hS hp hle hrl
    go_wp2_with fail
    refine Bj.out.mono ?_
    cases rl with
    | no why at_ =>
     rintro e w99 ⟨rfl,hS⟩
     have Aa:=hid (Ap.out.trans hS)
     clear hS
     go_wp2
     refine ⟨rfl,?_⟩
     rw [Av.out]
     exact ⟨rfl,Aa.out⟩
    | ok l st =>
     rintro e w5 ⟨v,i,full,rfl,hL,rfl,hP,hS⟩
     have hlen:=Au.out _ _ rfl
     obtain ⟨q7,c7,ys,rfl,hq7,hr7,hc7⟩:=hL.addr hlen.2
     obtain ⟨LN,hLN⟩:∃ x,l.length=x:=⟨_,rfl⟩
     have hp:=HP.out
     have hle:=Ao.out
     have Ca:=hid hP
     have Bl:=hid (Ap.out.trans hS)
     have Aw:=hid (Aq.out.sole hp.1 hS)
     have Cb:=hid (Bz.out.sole (fun b h=>by omega) hS)
     have Cc:=hid hr7
     have Cd:=hid hc7
     have Ac:Hid (l.length=LN∧LN<=66∧0<LN):=⟨hLN,by omega,by rw [<- hLN];cases l with|nil=>exact absurd rfl hlen.2|cons _ _=>simp⟩
     have Bm:Hid (ys.length=LN*5∧∀ u∈ys,u.oneCell'=true):=⟨by rw [zj9 _ _ hr7,hLN],zf9 _ _ hr7⟩
     have Ce:=hid (zgz Aw.out.1 rfl (by decide))
     have Ax:=hid hS.size
     rw [hLN]
     clear hP hS hL hp hle hlen hq7 hr7 hc7 hLN
     go_wp2_with (at_builtin;refine wpList_append_lies _ rfl _ _ 27 rfl 0 29 inf (.agg #[.int .i64 0,.string ⟨#[]⟩,.int .i64 0,.int .i64 0,.slice none 0 0]) 5 64 Tryz.underlying27 HI.out.1 HI.out.2.1 HI.out.2.2.1 HI.out.2.2.2 rfl (by decide) (.slice (some ⟨w2.heap.size,0,none⟩) 1 1) 1 [.int .i64 k9,.string ⟨n9.toArray⟩,.int .i64 m9,.int .i64 a9,.slice o9 l9 c9] rfl Ce.out ⟨q7,0,none⟩ LN c7 ys rfl Bm.out.1 Cd.out Bm.out.2 Ac.out.2.2 (by have:=Ac.out;unfold maxLen;omega) (by have:=Ac.out;omega) (Nat.zero_le _) _ rfl ?_;intro gq cq w6 hown hgrow hat hlt;have HG:Hid (w5.grownBy w6 (some w2.heap.size)∧w6.ownsRow 0 29 5 (.slice (some ⟨gq,0,none⟩) (1+LN) cq) (1+LN) ([.int .i64 k9,.string ⟨n9.toArray⟩,.int .i64 m9,.int .i64 a9,.slice o9 l9 c9]++ys)∧((Value.slice (some ⟨w2.heap.size,0,none⟩) 1 1).ownBlock=some gq∨gq=w5.heap.size)):=⟨hgrow,hown,hat⟩;clear hown hgrow hat hlt)
     have hp:=HP.out
     have hle:=Ao.out
     have h34:=Ar.out
     have h45:=Ax.out
     have hs5:=Bl.out.size
     have Ah:=hid (Ca.out.grown HG.out.1 (by omega) (by omega))
     have Bn:=hid (Bl.out.grown HG.out.1 (by omega))
     have Bo:Hid (zab (zak w.heap.size) w6 ((.node k9 n9 m9 a9 ks9)::l) (.slice (some ⟨gq,0,none⟩) (1+LN) cq)):=by
      refine zbv (ks:=[(.node k9 n9 m9 a9 ks9)]) (us:=l) (sl:=.slice (some ⟨w2.heap.size,0,none⟩) 1 1) (fun q e=>?_) (za3 (Cb.out.weaken (fun b h=>?_))) (RowV.frame (fun b h=>?_) (fun _ _ _=>rfl) _ _ Cc.out) (by rw [Ac.out.1];exact HG.out.2.1) HG.out.1 w5.heap.size (Nat.le_refl _) hs5 ?_
      · have e2:w2.heap.size=q:=Option.some.inj e
        show w.heap.size<=q
        omega
      · refine ⟨by show w.heap.size<=b;omega,fun e=>?_⟩
        have e2:w2.heap.size=b:=Option.some.inj e
        omega
      · have h1:w4.heap.size<=b:=h.1
        refine ⟨by show w.heap.size<=b;omega,fun e=>?_⟩
        have e2:w2.heap.size=b:=Option.some.inj e
        omega
      · rcases HG.out.2.2 with e|e
        · exact Or.inl e.symm
        · exact Or.inr (by rw [e];rfl)
     have Ai:=hid (zf8 p g cap ts i d full za2 w6 Ah.out)
     clear hp hle h34 h45 hs5
     cases hse:(PSof ts i full).sees za2
     · rw [hse] at Ai
       have Aj:Hid (R=((PSof ts i full).want [125]).bind fun _ s=>Ans.ok ((.node k9 n9 m9 a9 ks9)::l) s):=by
        show _=_
        rw [Av.out]
        show (if _ then _ else _)=_
        rw [hse,if_neg (by simp)]
       clear hse
       refine Ai.out.mono ?_
       rintro e wq ⟨rfl,hB⟩
       have Ay:=hid (Ah.out.below hB)
       have Ad:=hid (Bn.out.trans (Sole.of_below hB))
       have Az:=hid (Bo.out.below hB)
       clear hB
       have Ab:=hid (zbt p g cap ts HE.out i d full [125] (by simp) wq Ay.out)
       obtain ⟨ru,hru⟩:∃ r,(PSof ts i full).want [125]=r:=⟨_,rfl⟩
       have Ae:Hid (R=ru.bind fun _ s=>Ans.ok ((.node k9 n9 m9 a9 ks9)::l) s):=by
        show _=_
        rw [Aj.out];first|(rw [<- hru];done)|(rw [<- hru];rfl)
       rw [hru] at Ab
       clear hru
       go_wp2_with fail
       refine Ab.out.mono ?_
       cases ru with
       | no why at_ =>
        rintro e w99 ⟨rfl,hS⟩
        have Aa:=hid (Ad.out.trans hS)
        clear hS
        go_wp2
        refine ⟨rfl,?_⟩
        rw [Ae.out]
        exact ⟨rfl,Aa.out⟩
       | ok u st =>
        rintro e wf ⟨v,i,full,rfl,rfl,rfl,hP,hS⟩
        have Ba:=hid (Ad.out.trans hS)
        have Bb:=hid hP
        have Bc:Hid (zab (zak w.heap.size) wf ((.node k9 n9 m9 a9 ks9)::l) (.slice (some ⟨gq,0,none⟩) (1+LN) cq)):=Az.out.sole (fun b h=>by have h1:w.heap.size<=b:=h;have:=HP.out;omega) hS
        clear hP hS
        go_wp2
        go_ret
        rw [Ae.out]
        exact ⟨_,i,full,rfl,Bc.out,rfl,Bb.out,Ba.out⟩
     · rw [hse] at Ai
       have hix:=HE.out.sees Ah.out.il (t:=za2) (by simp [za2]) hse
       obtain ⟨ro,hro⟩:∃ r,zdg B (PSof ts i full)=r:=⟨_,rfl⟩
       have Aj:Hid (R=ro.bind fun o s=>(s.want [125]).bind fun _ s=>Ans.ok ((.node k9 n9 m9 a9 ks9)::l++[o]) s):=by
        show _=_
        rw [Av.out,<- hro]
        show (if _ then _ else _)=_
        rw [hse,if_pos rfl]
       clear hse
       refine Ai.out.mono ?_
       rintro e w7 ⟨rfl,hB⟩
       have Bp:PP w7 p g cap ts i d full:=Ah.out.below hB
       have Ak:=hid (Bn.out.trans (Sole.of_below hB))
       have Bq:=hid (Bo.out.below hB)
       have Br:=hid (znh p g cap ts HE.out d B HK.out.2.1 i full w7 Bp (Al.out.sole Ak.out) hix)
       rw [hro] at Br
       clear hB hro hix Bp
       go_wp2_with fail
       refine Br.out.mono ?_
       cases ro with
       | no why at_ =>
        rintro e w99 ⟨rfl,hS⟩
        have Aa:=hid (Ak.out.trans hS)
        clear hS
        go_wp2
        refine ⟨rfl,?_⟩
        rw [Aj.out]
        exact ⟨rfl,Aa.out⟩
       | ok tv st =>
        rintro e w8 ⟨v,i,full,rfl,hT,rfl,hP,hS⟩
        obtain ⟨k8,n8,m8,a8,ks8⟩:=tv
        obtain ⟨sl,rfl,hL⟩:=zaf.1 hT
        obtain ⟨o8,l8,c8,rfl⟩:=hL.shape
        obtain ⟨wb,hwb⟩:∃ x,w8.alloc (.cells #[.int .i64 k8,.string ⟨n8.toArray⟩,.int .i64 m8,.int .i64 a8,.slice o8 l8 c8] 29)=x:=⟨_,rfl⟩
        have hBb:Below w8.heap.size w8 wb:=by rw [<- hwb];exact zac _ _
        have hp:=HP.out
        have hl3:zab (zak w.heap.size) wb ((.node k9 n9 m9 a9 ks9)::l) (.slice (some ⟨gq,0,none⟩) (1+LN) cq):=(Bq.out.sole (fun b h=>by have h1:w.heap.size<=b:=h;omega) hS).below hBb
        have Af:Hid (∀ q,(Value.slice (some ⟨gq,0,none⟩) (1+LN) cq).ownBlock=some q->w.heap.size<=q∧q<w7.heap.size):=fun q e=>Bq.out.own_lt e
        obtain ⟨xs,how,hAq,hrq⟩:=hl3
        rw [show ((.node k9 n9 m9 a9 ks9)::l:List Tree).length=1+LN from by rw [List.length_cons,Ac.out.1];omega] at how
        have Bd:=hid how
        have Cf:=hid hrq
        have Cg:Hid (wb.heap[w8.heap.size]?=some (.cells #[.int .i64 k8,.string ⟨n8.toArray⟩,.int .i64 m8,.int .i64 a8,.slice o8 l8 c8] 29 (0,0))):=by show _=_;rw [<- hwb];exact heap_alloc_new _ _
        have Ch:=hid (zae.below hT hBb)
        have Ci:=hid (hP.below hBb)
        have Bs:=hid ((Ak.out.trans hS).trans (Sole.of_below hBb))
        clear hP hS hT hL hBb hp how hAq hrq
        unfold kidV
        go_wp2_with (at_builtin;refine wpList_append_lies _ rfl _ _ 27 rfl 0 29 inf (.agg #[.int .i64 0,.string ⟨#[]⟩,.int .i64 0,.int .i64 0,.slice none 0 0]) 5 64 Tryz.underlying27 HI.out.1 HI.out.2.1 HI.out.2.2.1 HI.out.2.2.2 rfl (by decide) (.slice (some ⟨gq,0,none⟩) (1+LN) cq) (1+LN) xs rfl Bd.out ⟨w8.heap.size,0,none⟩ 1 1 [.int .i64 k8,.string ⟨n8.toArray⟩,.int .i64 m8,.int .i64 a8,.slice o8 l8 c8] rfl rfl (World.news_of_block (cs:=#[.int .i64 k8,.string ⟨n8.toArray⟩,.int .i64 m8,.int .i64 a8,.slice o8 l8 c8]) (t:=29) (fr:=(0,0)) Cg.out) (by simp [Value.oneCell']) (by decide) (by have:=Ac.out;unfold maxLen;omega) (by have:=Ac.out;omega) (Nat.zero_le _) _ rfl ?_;intro gq2 cq2 wq hown hgrow hat hlt;have Ag:Hid (wb.grownBy wq (Value.slice (some ⟨gq,0,none⟩) (1+LN) cq).ownBlock∧wq.ownsRow 0 29 5 (.slice (some ⟨gq2,0,none⟩) (1+LN+1) cq2) (1+LN+1) (xs++[.int .i64 k8,.string ⟨n8.toArray⟩,.int .i64 m8,.int .i64 a8,.slice o8 l8 c8])∧((Value.slice (some ⟨gq,0,none⟩) (1+LN) cq).ownBlock=some gq2∨gq2=wb.heap.size)):=⟨hgrow,hown,hat⟩;clear hown hgrow hat hlt)
        clear hwb
        have hp:=HP.out
        have Ay:Hid (PP wq p g cap ts i d full):=Ci.out.grownO Ag.out.1 (fun e=>by have:=Af.out p e;omega) (fun e=>by have:=Af.out g e;omega)
        have Ad:=hid (Bs.out.grownO Ag.out.1 (fun q e=>(Af.out q e).1))
        have Az:Hid (zab (zak w.heap.size) wq ((.node k9 n9 m9 a9 ks9)::l++[(.node k8 n8 m8 a8 ks8)]) (.slice (some ⟨gq2,0,none⟩) (1+LN+1) cq2)):=by
         refine zbv (sl:=.slice (some ⟨gq,0,none⟩) (1+LN) cq) (fun q e=>(Af.out q e).1) Cf.out (za3 (Ch.out.weaken (fun b h=>?_))) (by rw [show ((.node k9 n9 m9 a9 ks9)::l:List Tree).length=1+LN from by rw [List.length_cons,Ac.out.1];omega];exact Ag.out.2.1) Ag.out.1 wb.heap.size (Nat.le_refl _) Bs.out.size ?_
         · have h1:w7.heap.size<=b:=h
           have h2:=Ak.out.size
           exact ⟨by show w.heap.size<=b;omega,fun e=>by have:=(Af.out b e).2;omega⟩
         · rcases Ag.out.2.2 with e|e
           · exact Or.inl e.symm
           · exact Or.inr (by rw [e];rfl)
        clear hp
        have Ab:=hid (zbt p g cap ts HE.out i d full [125] (by simp) wq Ay.out)
        obtain ⟨ru,hru⟩:∃ r,(PSof ts i full).want [125]=r:=⟨_,rfl⟩
        have Ae:Hid (R=ru.bind fun _ s=>Ans.ok ((.node k9 n9 m9 a9 ks9)::l++[(.node k8 n8 m8 a8 ks8)]) s):=by
         show _=_
         rw [Aj.out];first|(rw [<- hru];done)|(rw [<- hru];rfl)
        rw [hru] at Ab
        clear hru
        refine Ab.out.mono ?_
        cases ru with
        | no why at_ =>
         rintro e w99 ⟨rfl,hS⟩
         have Aa:=hid (Ad.out.trans hS)
         clear hS
         go_wp2
         refine ⟨rfl,?_⟩
         rw [Ae.out]
         exact ⟨rfl,Aa.out⟩
        | ok u st =>
         rintro e wf ⟨v,i,full,rfl,rfl,rfl,hP,hS⟩
         have Ba:=hid (Ad.out.trans hS)
         have Bb:=hid hP
         have Bc:Hid (zab (zak w.heap.size) wf ((.node k9 n9 m9 a9 ks9)::l++[(.node k8 n8 m8 a8 ks8)]) (.slice (some ⟨gq2,0,none⟩) (1+LN+1) cq2)):=Az.out.sole (fun b h=>by have h1:w.heap.size<=b:=h;have:=HP.out;omega) hS
         clear hP hS
         go_wp2
         go_ret
         rw [Ae.out]
         exact ⟨_,i,full,rfl,Bc.out,rfl,Bb.out,Ba.out⟩
end Go.Proofs.YtighggeokiahfaaGreatDoor
