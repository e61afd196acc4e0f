import Derived.Test.YtighggeokiahfaaGreatDoorNear06
import Derived.Deep.CutBlock
import Derived.Deep.DeepCutAuto
namespace Go.Proofs.YtighggeokiahfaaGreatDoor
open Go.RowKit
theorem zab.there {A:Nat->Prop} {w:World} {t:List Tree} {v:Value} (h:zab A w t v):zab (fun b=>A b∧b<w.heap.size) w t v:=by
 obtain ⟨xs,ho,hA,hr⟩:=h
 exact ⟨xs,ho,fun g e=>⟨hA g e,(ho.lt g e).2⟩,RowV.frame (fun b hb=>⟨⟨hb.1.1,hb.2⟩,hb.1.2⟩) (fun _ _ _=>rfl) _ _ (RowV.there _ _ hr)⟩
theorem zab.cellsOf {A:Nat->Prop} {w:World} {ks:List Tree} {q n c:Nat} (h:zab A w ks (.slice (some ⟨q,0,none⟩) n c)):∃ xs:List Value,xs.length=ks.length*5∧(∀ u∈xs,u.oneCell'=true)∧RowV (fun b=>A b∧b≠q) w ks xs∧(∀ j u,xs[j]?=some u->w.cell? ((⟨q,0,none⟩:Addr).add j)=some u)∧A q:=by
 obtain ⟨xs,ho,hA,hr⟩:=h
 exact ⟨xs,zj9 _ _ hr,zf9 _ _ hr,RowV.frame (fun b hb=>⟨hb.1,fun e=>hb.2 (by rw [e];rfl)⟩) (fun _ _ _=>rfl) _ _ hr,ho.cells rfl,hA q rfl⟩
theorem zhk {w9:World} {r b:Nat} {t:Tok} {v0 v1 v2 v3 v4:Value} (h:w9.heap[b]?=some (tokO t)) (hb:b≠r):(((((w9.setCell ⟨r,0,none⟩ v0).setCell ⟨r,1,none⟩ v1).setCell ⟨r,2,none⟩ v2).setCell ⟨r,3,none⟩ v3).setCell ⟨r,4,none⟩ v4).heap[b]?=some (tokO t):=(zbf w9 r v0 v1 v2 v3 v4 b hb).trans h
theorem tokK {w:World} {b:Nat} {t:Tok} (h:w.heap[b]?=some (tokO t)):w.cell? ⟨b,0,none⟩=some (.int .i64 t.kind)∧w.cell? ⟨b,1,none⟩=some (.string ⟨t.text.toArray⟩)∧w.cell? ⟨b,2,none⟩=some (.int .i64 t.num)∧w.cell? ⟨b,3,none⟩=some (.int .i64 t.at_):=zbq h
set_option maxHeartbeats 4000000 in
set_option maxRecDepth 4000 in
theorem zjo (p g cap:Nat) (ts:List Tok) (hE:Ends ts) (d:Int) (k:Int) (M:Nat) (F:PS->Ans Tree) (hO:zd4 p g cap ts d M F) (hF:zb9 F) (hM:zgs M) (i:Nat) (full:Bool) (w:World) (hi:i+1<ts.length) (h:PP w p g cap ts i d full) (hba:zbo p w) :
 Calls Tryz.prog 72 #[.pointer (some ⟨p,0,none⟩),.int .i64 k,.func (.func M) #[.pointer (some ⟨p,0,none⟩)] #[]] w (zam p g cap ts d (zah w.heap.size) (zex k F (PSof ts i full)) w):=by
 have HP:=hid2 h.plt h.glt
 have HE:=hid hE
 have Cy:=hid hba
 have HO:=hid3 hO hF hM
 obtain ⟨R,hR⟩:∃ R,zex k F (PSof ts i full)=R:=⟨_,rfl⟩
 rw [hR]
 obtain ⟨wa,hwa⟩:∃ x,w.alloc (.cells #[.int .i64 0,.string ⟨#[]⟩,.int .i64 0,.int .i64 0,.slice none 0 0] 29)=x:=⟨_,rfl⟩
 have b1:Below w.heap.size w wa:=by rw [<- hwa];exact zac _ _
 have Cz:Hid (Kep w wa w.heap.size (kidO 0 [] 0 0 (.slice none 0 0))):=by show Kep w wa _ _;rw [<- hwa];exact Kep.new (Nat.le_refl _) _
 have Cj:Hid (Sole p w wa):=Sole.of_below b1
 have Ck:Hid (Calls Tryz.prog 69 #[.pointer (some ⟨p,0,none⟩)] wa (zam p g cap ts d zfk (PSof ts i full).take wa)):=zdm p g cap ts i d full wa (h.below b1) hi
 obtain ⟨rt,hrt⟩:∃ r,(PSof ts i full).take=r:=⟨_,rfl⟩
 have Cl:Hid (R=rt.bind fun _ s=>(zcr s).bind fun nm s=>(s.want [123]).bind fun _ s=>(zcu F [[125]] 66 [] s).bind fun l s=>(s.want [125]).bind fun _ s=>(s.want [61]).bind fun _ s=>(zbb s).bind fun v s=>Ans.ok (named k nm (v::l)) s):=by
  show _=_
  rw [<- hR,<- hrt];rfl
 rw [hrt] at Ck
 obtain ⟨inf,hi1,hi2,hi3,hi4⟩:=zfd
 have HI:Hid (Tryz.prog.info? 29=some inf∧inf.zero=some (.agg #[.int .i64 0,.string ⟨#[]⟩,.int .i64 0,.int .i64 0,.slice none 0 0])∧inf.size=5∧inf.bytes=64):=⟨hi1,hi2,hi3,hi4⟩
 clear h hba hE hO hF hM hR b1 hi hrt hi1 hi2 hi3 hi4
 go_enter Tryz.func72,Tryz.ntmps72
 go_wp2_with fail
 clear hwa
 refine Ck.out.mono ?_
 cases rt with
 | no why at_ =>
  rintro e w99 ⟨rfl,hS⟩
  have Ah:=hid (Cj.out.trans hS)
  clear hS
  go_wp2
  refine ⟨rfl,?_⟩
  rw [Cl.out]
  exact ⟨rfl,Ah.out⟩
 | ok t st =>
  rintro e w1 ⟨v,i,full,rfl,rfl,rfl,hP,hS⟩
  have Cm:=hid (Cj.out.trans hS)
  have Cn:=hid (Cz.out.sole HP.out.1 hS)
  have Co:Hid (Calls Tryz.prog 108 #[.pointer (some ⟨p,0,none⟩)] w1 (zam p g cap ts d zfk (zcr (PSof ts i full)) w1)):=zcm p g cap ts HE.out i d full w1 hP
  obtain ⟨rn,hrn⟩:∃ r,zcr (PSof ts i full)=r:=⟨_,rfl⟩
  have Cp:Hid (R=rn.bind fun nm s=>(s.want [123]).bind fun _ s=>(zcu F [[125]] 66 [] s).bind fun l s=>(s.want [125]).bind fun _ s=>(s.want [61]).bind fun _ s=>(zbb s).bind fun v s=>Ans.ok (named k nm (v::l)) s):=by
   show _=_
   rw [Cl.out];first|(rw [<- hrn];done)|(rw [<- hrn];rfl)
  rw [hrn] at Co
  clear hP hS hrn
  unfold tokV
  go_wp2_with fail
  refine Co.out.mono ?_
  cases rn with
  | no why at_ =>
   rintro e w99 ⟨rfl,hS⟩
   have Ah:=hid (Cm.out.trans hS)
   clear hS
   go_wp2
   refine ⟨rfl,?_⟩
   rw [Cp.out]
   exact ⟨rfl,Ah.out⟩
  | ok nm st =>
   rintro e w2 ⟨v,i,full,rfl,rfl,rfl,hP,hS⟩
   obtain ⟨w3,hw3⟩:∃ x,w2.alloc (.cells #[.int .i64 nm.kind,.string ⟨nm.text.toArray⟩,.int .i64 nm.num,.int .i64 nm.at_] 41)=x:=⟨_,rfl⟩
   have hp:=HP.out
   have hs2:Sole p w w2:=Cm.out.trans hS
   have Da:Hid (PP w3 p g cap ts i d full):=by show PP w3 _ _ _ _ _ _ _;rw [<- hw3];exact hP.alloc _
   have Cq:Hid (Sole p w w3):=by show Sole p w w3;rw [<- hw3];exact hs2.alloc _
   have Bz:Hid (Kep w w3 w.heap.size (kidO 0 [] 0 0 (.slice none 0 0))):=by show Kep w w3 _ _;rw [<- hw3];exact (Cn.out.sole hp.1 hS).alloc _
   have Ca:Hid (Kep w w3 w2.heap.size (tokO nm)):=by show Kep w w3 _ _;rw [<- hw3];exact Kep.new hs2.size _
   have Aj:Hid (w.heap.size<w2.heap.size∧w2.heap.size<w3.heap.size):=⟨(Cn.out.sole hp.1 hS).lt,by rw [<- hw3];simp⟩
   clear hP hS hp hs2
   unfold tokV
   have Bm:Hid (Calls Tryz.prog 41 #[.pointer (some ⟨p,0,none⟩),.slice (some ⟨w3.heap.size,0,none⟩) 1 1] (w3.alloc (.cells #[.string ⟨#[123]⟩] 9)) (zam p g cap ts d zf5 ((PSof ts i full).want [123]) w3)):=zbt p g cap ts HE.out i d full [123] (by simp) w3 Da.out
   obtain ⟨ru,hru⟩:∃ r,(PSof ts i full).want [123]=r:=⟨_,rfl⟩
   have Cr:Hid (R=ru.bind fun _ s=>(zcu F [[125]] 66 [] s).bind fun l s=>(s.want [125]).bind fun _ s=>(s.want [61]).bind fun _ s=>(zbb s).bind fun v s=>Ans.ok (named k nm (v::l)) s):=by
    show _=_
    rw [Cp.out];first|(rw [<- hru];done)|(rw [<- hru];rfl)
   rw [hru] at Bm
   clear hru
   go_wp2_with fail
   refine Bm.out.mono ?_
   clear hw3
   cases ru with
   | no why at_ =>
    rintro e w99 ⟨rfl,hS⟩
    have Ah:=hid (Cq.out.trans hS)
    clear hS
    go_wp2
    refine ⟨rfl,?_⟩
    rw [Cr.out]
    exact ⟨rfl,Ah.out⟩
   | ok u st =>
    rintro e w4 ⟨v,i,full,rfl,rfl,rfl,hP,hS⟩
    have hp:=HP.out
    have Cb:=hid (Cq.out.trans hS)
    have Cc:=hid (Bz.out.sole hp.1 hS)
    have Bn:=hid (Ca.out.sole hp.1 hS)
    have Cs:Hid (Calls Tryz.prog 117 #[.pointer (some ⟨p,0,none⟩),.func (.func M) #[.pointer (some ⟨p,0,none⟩)] #[],.slice (some ⟨w4.heap.size,0,none⟩) 1 1] (w4.alloc (.cells #[.string ⟨#[125]⟩] 9)) (zam p g cap ts d (zbg w4.heap.size) (zcu F [[125]] 66 [] (PSof ts i full)) w4)):=some_one p g cap ts d M F HO.out.1 HO.out.2.1 HO.out.2.2 [125] i full w4 hP (Cy.out.sole Cb.out)
    obtain ⟨rl,hrl⟩:∃ r,zcu F [[125]] 66 [] (PSof ts i full)=r:=⟨_,rfl⟩
    have Cd:Hid (∀ l s,rl=.ok l s->l.length<=66∧l≠[]):=fun l s e=>by
     have:=zkm _ _ _ _ _ _ _ (hrl.trans e)
     simp at this
     exact this
    have Ct:Hid (R=rl.bind fun l s=>(s.want [125]).bind fun _ s=>(s.want [61]).bind fun _ s=>(zbb s).bind fun v s=>Ans.ok (named k nm (v::l)) s):=by
     show _=_
     rw [Cr.out];first|(rw [<- hrl];done)|(rw [<- hrl];rfl)
    rw [hrl] at Cs
    clear hP hS hp hrl
    go_wp2_with fail
    refine Cs.out.mono ?_
    cases rl with
    | no why at_ =>
     rintro e w99 ⟨rfl,hS⟩
     have Ah:=hid (Cb.out.trans hS)
     clear hS
     go_wp2
     refine ⟨rfl,?_⟩
     rw [Ct.out]
     exact ⟨rfl,Ah.out⟩
    | ok l st =>
     rintro e w5 ⟨v,i,full,rfl,hL,rfl,hP,hS⟩
     have hlen:=Cd.out _ _ rfl
     obtain ⟨q7,c7,_,rfl,_,_,_⟩:=hL.addr hlen.2
     obtain ⟨LN,hLN⟩:∃ x,l.length=x:=⟨_,rfl⟩
     rw [hLN] at hL ⊢
     have hp:=HP.out
     have Dh:=hid hP
     have Cu:=hid (Cb.out.trans hS)
     have Ce:=hid (Cc.out.sole hp.1 hS)
     have Cf:=hid (Bn.out.sole hp.1 hS)
     have Db:Hid (zab (fun b=>w4.heap.size<=b) w5 l (.slice (some ⟨q7,0,none⟩) LN c7)):=hL
     have Bj:Hid (l.length=LN∧LN<=66∧l≠[]):=⟨hLN,by omega,hlen.2⟩
     have Ac:=hid2 Bn.out.lt hS.size
     have Bm:Hid (Calls Tryz.prog 41 #[.pointer (some ⟨p,0,none⟩),.slice (some ⟨w5.heap.size,0,none⟩) 2 2] (w5.alloc (.cells #[.string ⟨#[125]⟩,.string ⟨#[61]⟩] 9)) (zam p g cap ts d zf5 (((PSof ts i full).want [125]).bind fun _ s=>s.want [61]) w5)):=zj7 p g cap ts HE.out i d full [125] [61] (by simp) (by simp) w5 hP
     obtain ⟨ru,hru⟩:∃ r,(((PSof ts i full).want [125]).bind fun _ s=>s.want [61])=r:=⟨_,rfl⟩
     have Cv:Hid (R=ru.bind fun _ s=>(zbb s).bind fun v s=>Ans.ok (named k nm (v::l)) s):=by
      show _=_
      rw [Ct.out,<- hru]
      exact (zfg ((PSof ts i full).want [125]) (fun _ s=>s.want [61]) (fun _ s=>(zbb s).bind fun v s=>Ans.ok (named k nm (v::l)) s)).symm
     rw [hru] at Bm
     clear hP hS hL hp hlen hLN hru
     go_wp2_with fail
     refine Bm.out.mono ?_
     cases ru with
     | no why at_ =>
      rintro e w99 ⟨rfl,hS⟩
      have Ah:=hid (Cu.out.trans hS)
      clear hS
      go_wp2
      refine ⟨rfl,?_⟩
      rw [Cv.out]
      exact ⟨rfl,Ah.out⟩
     | ok u st =>
      rintro e w6 ⟨v,i,full,rfl,rfl,rfl,hP,hS⟩
      have hp:=HP.out
      have hl45:=Ac.out
      have hle:=Aj.out
      have Bt:=hid (Cu.out.trans hS)
      have Cg:=hid (Ce.out.sole hp.1 hS)
      have An:=hid (Cf.out.sole hp.1 hS)
      have Dc:Hid (zab (fun b=>w4.heap.size<=b∧b<w5.heap.size) w6 l (.slice (some ⟨q7,0,none⟩) LN c7)):=by
       have h1:zab (fun b=>w4.heap.size<=b∧b<w5.heap.size) w5 l (.slice (some ⟨q7,0,none⟩) LN c7):=zab.there Db.out
       exact h1.sole (fun b h=>by omega) hS
      have Ad:=hid hS.size
      obtain ⟨rv,hrv⟩:∃ r,zbb (PSof ts i full)=r:=⟨_,rfl⟩
      have Cw:Hid (R=rv.bind fun v s=>Ans.ok (named k nm (v::l)) s):=by
       show _=_
       rw [Cv.out];first|(rw [<- hrv];done)|(rw [<- hrv];rfl)
      have Cx:Hid (∀ wx,Below w6.heap.size w6 wx->Calls Tryz.prog 118 #[.pointer (some ⟨p,0,none⟩)] wx (zam p g cap ts d (zah wx.heap.size) rv wx)):=fun wx hB=>by
       rw [<- hrv]
       exact zk4 p g cap ts HE.out i d full wx (hP.below hB)
      obtain ⟨wA0,hwA0⟩:∃ x,w6.alloc (.cells #[.int .i64 0,.string ⟨#[]⟩,.int .i64 0,.int .i64 0,.slice none 0 0] 29)=x:=⟨_,rfl⟩
      have hbA:Below w6.heap.size w6 wA0:=by rw [<- hwA0];exact zac _ _
      have Ao:=hid hbA
      have Bo:Hid (Kep w wA0 w6.heap.size (kidO 0 [] 0 0 (.slice none 0 0))):=by show Kep w wA0 _ _;rw [<- hwA0];exact Kep.new Bt.out.size _
      have s0:w6.drew.cell? ⟨w2.heap.size,0,none⟩=some (.int .i64 nm.kind)∧w6.drew.cell? ⟨w2.heap.size,1,none⟩=some (.string ⟨nm.text.toArray⟩)∧w6.drew.cell? ⟨w2.heap.size,2,none⟩=some (.int .i64 nm.num)∧w6.drew.cell? ⟨w2.heap.size,3,none⟩=some (.int .i64 nm.at_):=tokK An.out.1
      have s1:wA0.drew.cell? ⟨w2.heap.size,0,none⟩=some (.int .i64 nm.kind)∧wA0.drew.cell? ⟨w2.heap.size,1,none⟩=some (.string ⟨nm.text.toArray⟩)∧wA0.drew.cell? ⟨w2.heap.size,2,none⟩=some (.int .i64 nm.num)∧wA0.drew.cell? ⟨w2.heap.size,3,none⟩=some (.int .i64 nm.at_):=tokK (An.out.below hbA).1
      obtain ⟨t0,t1,t2,t3⟩:=zbq An.out.1
      obtain ⟨e0,e1,e2,e3⟩:=zbq (An.out.below hbA).1
      clear hP hS hp hrv hl45 hle hbA
      go_wp2_with fail
      cases rv with
      | no why at_ =>
       go_region_dies
       all_goals (
        refine (Cx.out _ ?_).mono ?_
        · first|exact zaj (Below.refl _ _) 1|exact zaj Ao.out 1
        · rintro e w9 ⟨rfl,hS⟩
          refine ⟨rfl,?_⟩
          rw [Cw.out]
          first
           | exact ⟨rfl,Bt.out.trans ((Sole.of_below (zaj (Below.refl _ _) 1)).trans hS)⟩
           | exact ⟨rfl,Bt.out.trans ((Sole.of_below (zaj Ao.out 1)).trans hS)⟩)
      | ok tv st =>
       obtain ⟨k8,n8,m8,a8,ks8⟩:=tv
       go_upto_region 6 with fail
       go_cut [9] (fun xv wc=>∃ (BB QQ i:Nat) (full:Bool) (o8:Option Addr) (l8 c8:Nat),xv=.pointer (some ⟨BB,0,none⟩)∧st=PSof ts i full∧Hid (Sole p w wc)∧Hid (PP wc p g cap ts i d full)∧Hid (Kep w wc w.heap.size (kidO 0 [] 0 0 (.slice none 0 0)))∧Hid (Kep w wc BB (kidO k nm.text 0 nm.at_ (.slice (some ⟨QQ,0,none⟩) 1 1)))∧Hid (Kep w wc QQ (kidO k8 n8 m8 a8 (.slice o8 l8 c8)))∧Hid (zab (fun b=>w4.heap.size<=b∧b<w5.heap.size) wc l (.slice (some ⟨q7,0,none⟩) LN c7))∧Hid (zae (fun b=>w6.heap.size<=b∧b≠BB∧b≠QQ) wc (.node k8 n8 m8 a8 ks8) (kidV k8 n8 m8 a8 (.slice o8 l8 c8)))∧Hid (QQ≠BB∧w.heap.size<BB∧w.heap.size<QQ∧w5.heap.size<=QQ∧w5.heap.size<=BB))
       case first =>
        go_region_held (fun w'=>w'.cell? ⟨w2.heap.size,0,none⟩=some (.int .i64 nm.kind)∧w'.cell? ⟨w2.heap.size,1,none⟩=some (.string ⟨nm.text.toArray⟩)∧w'.cell? ⟨w2.heap.size,2,none⟩=some (.int .i64 nm.num)∧w'.cell? ⟨w2.heap.size,3,none⟩=some (.int .i64 nm.at_)) (first|with_reducible exact s0|with_reducible exact s1|with_reducible exact s2|with_reducible exact s3|with_reducible exact s4|with_reducible exact s5|with_reducible exact s6|with_reducible exact s7|with_reducible exact s8 _|with_reducible exact s10 _ _ _ _ _) (first
         | (go_at_call 118
            refine (Cx.out _ ?_).mono ?_
            (first|exact zaj (Below.refl _ _) 1|exact zaj Ao.out 1)
            rintro e w7 ⟨v,i,full,rfl,hT,rfl,hP,hS0⟩
            obtain ⟨sl,rfl,hL⟩:=zaf.1 hT
            obtain ⟨o8,l8,c8,rfl⟩:=hL.shape
            have hp:=HP.out
            have hl45:=Ac.out
            have hl56:=Ad.out
            have hle:=Aj.out
            have hS:Sole p w6 w7:=by first|exact (Sole.of_below (zaj (Below.refl _ _) 1)).trans hS0|exact (Sole.of_below (zaj Ao.out 1)).trans hS0
            have Bu:=hid hP
            have Be:=hid (Bt.out.trans hS)
            have Aw:=hid (Cg.out.sole hp.1 hS)
            have Ab:=hid (An.out.sole hp.1 hS)
            have Bv:Hid (zab (fun b=>w4.heap.size<=b∧b<w5.heap.size) w7 l (.slice (some ⟨q7,0,none⟩) LN c7)):=Dc.out.sole (fun b h=>by omega) hS
            have Ae:=hid hS.size
            (first
              | (have Ax:Hid (Kep w w7 w6.heap.size (kidO 0 [] 0 0 (.slice none 0 0))∧zae (fun b=>w6.heap.size<b∧b<w7.heap.size) w7 (.node k8 n8 m8 a8 ks8) (kidV k8 n8 m8 a8 (.slice o8 l8 c8))):=⟨Kep.sole (cur:=wA0.drewN 1) Bo.out hp.1 hS0,(zah.made hT).weaken (fun b h=>⟨Nat.lt_of_lt_of_le Bo.out.lt h.1,h.2⟩)⟩)
              | skip)
            have Bw:Hid (zae (fun b=>w6.heap.size<=b∧b<w7.heap.size) w7 (.node k8 n8 m8 a8 ks8) (kidV k8 n8 m8 a8 (.slice o8 l8 c8))):=(zah.made hT).weaken (fun b h=>⟨by first|exact Nat.le_trans Ao.out.size h.1|exact h.1,h.2⟩)
            obtain ⟨wB1,hwB1⟩:∃ x,w7.alloc (.cells #[.int .i64 k8,.string ⟨n8.toArray⟩,.int .i64 m8,.int .i64 a8,.slice o8 l8 c8] 29)=x:=⟨_,rfl⟩
            obtain ⟨wA1,hwA1⟩:∃ x,w7.alloc (.cells #[.int .i64 0,.string ⟨#[]⟩,.int .i64 0,.int .i64 0,.slice none 0 0] 29)=x:=⟨_,rfl⟩
            obtain ⟨wAB1,hwAB1⟩:∃ x,wA1.alloc (.cells #[.int .i64 k8,.string ⟨n8.toArray⟩,.int .i64 m8,.int .i64 a8,.slice o8 l8 c8] 29)=x:=⟨_,rfl⟩
            obtain ⟨wBA1,hwBA1⟩:∃ x,wB1.alloc (.cells #[.int .i64 0,.string ⟨#[]⟩,.int .i64 0,.int .i64 0,.slice none 0 0] 29)=x:=⟨_,rfl⟩
            have bB1:Below w7.heap.size w7 wB1:=by rw [<- hwB1];exact zac _ _
            have bA1:Below w7.heap.size w7 wA1:=by rw [<- hwA1];exact zac _ _
            have bAB1:Below w7.heap.size w7 wAB1:=by rw [<- hwAB1];exact bA1.alloc bA1.size _
            have bBA1:Below w7.heap.size w7 wBA1:=by rw [<- hwBA1];exact bB1.alloc bB1.size _
            have Ar:=hid4 bB1 bA1 bAB1 bBA1
            have Ay:Hid (Kep w wB1 w7.heap.size (kidO k8 n8 m8 a8 (.slice o8 l8 c8))):=by show Kep w wB1 _ _;rw [<- hwB1];exact Kep.new Be.out.size _
            have Aa:Hid (Kep w wBA1 w7.heap.size (kidO k8 n8 m8 a8 (.slice o8 l8 c8))∧Kep w wBA1 wB1.heap.size (kidO 0 [] 0 0 (.slice none 0 0))∧w7.heap.size<wB1.heap.size):=by
             refine ⟨?_,?_,Ay.out.lt⟩
             · rw [<- hwBA1];exact Ay.out.alloc _
             · rw [<- hwBA1];exact Kep.new (Nat.le_trans Be.out.size bB1.size) _
            have Af:Hid (Kep w wAB1 wA1.heap.size (kidO k8 n8 m8 a8 (.slice o8 l8 c8))∧Kep w wAB1 w7.heap.size (kidO 0 [] 0 0 (.slice none 0 0))∧w7.heap.size<wA1.heap.size):=by
             have ha:Kep w wA1 w7.heap.size (kidO 0 [] 0 0 (.slice none 0 0)):=by rw [<- hwA1];exact Kep.new Be.out.size _
             refine ⟨?_,?_,ha.lt⟩
             · rw [<- hwAB1];exact Kep.new (Nat.le_trans Be.out.size bA1.size) _
             · rw [<- hwAB1];exact ha.alloc _
            have s2:w7.cell? ⟨w2.heap.size,0,none⟩=some (.int .i64 nm.kind)∧w7.cell? ⟨w2.heap.size,1,none⟩=some (.string ⟨nm.text.toArray⟩)∧w7.cell? ⟨w2.heap.size,2,none⟩=some (.int .i64 nm.num)∧w7.cell? ⟨w2.heap.size,3,none⟩=some (.int .i64 nm.at_):=tokK Ab.out.1
            have s3:wB1.cell? ⟨w2.heap.size,0,none⟩=some (.int .i64 nm.kind)∧wB1.cell? ⟨w2.heap.size,1,none⟩=some (.string ⟨nm.text.toArray⟩)∧wB1.cell? ⟨w2.heap.size,2,none⟩=some (.int .i64 nm.num)∧wB1.cell? ⟨w2.heap.size,3,none⟩=some (.int .i64 nm.at_):=tokK (Ab.out.below bB1).1
            have s4:wA1.cell? ⟨w2.heap.size,0,none⟩=some (.int .i64 nm.kind)∧wA1.cell? ⟨w2.heap.size,1,none⟩=some (.string ⟨nm.text.toArray⟩)∧wA1.cell? ⟨w2.heap.size,2,none⟩=some (.int .i64 nm.num)∧wA1.cell? ⟨w2.heap.size,3,none⟩=some (.int .i64 nm.at_):=tokK (Ab.out.below bA1).1
            have s5:wAB1.cell? ⟨w2.heap.size,0,none⟩=some (.int .i64 nm.kind)∧wAB1.cell? ⟨w2.heap.size,1,none⟩=some (.string ⟨nm.text.toArray⟩)∧wAB1.cell? ⟨w2.heap.size,2,none⟩=some (.int .i64 nm.num)∧wAB1.cell? ⟨w2.heap.size,3,none⟩=some (.int .i64 nm.at_):=tokK (Ab.out.below bAB1).1
            have s6:wBA1.cell? ⟨w2.heap.size,0,none⟩=some (.int .i64 nm.kind)∧wBA1.cell? ⟨w2.heap.size,1,none⟩=some (.string ⟨nm.text.toArray⟩)∧wBA1.cell? ⟨w2.heap.size,2,none⟩=some (.int .i64 nm.num)∧wBA1.cell? ⟨w2.heap.size,3,none⟩=some (.int .i64 nm.at_):=tokK (Ab.out.below bBA1).1
            clear hT hL hP hS hS0 hp hl45 hl56 hle bB1 bA1 bAB1 bBA1
            unfold kidV)
         | (go_at_call_of 109 (Value.slice (some (Addr.mk wA1.heap.size 0 none)) 1 1)
            refine (zdh k nm (some ⟨wA1.heap.size,0,none⟩) 1 1 wAB1).mono ?_
            rintro e w9 ⟨rfl,hB9⟩
            have hB9' : Below wAB1.heap.size wAB1 w9:=hB9
            have hb79:Below w7.heap.size w7 w9:=Ar.out.2.2.1.trans (hB9'.mono Ar.out.2.2.1.size)
            have Az:=hid hb79
            have Bh:=hid (Bu.out.below hb79)
            have Bf:=hid (Be.out.trans (Sole.of_below hb79))
            have Al:=hid (Aw.out.below hb79)
            have Bi:Hid (zab (fun b=>w4.heap.size<=b∧b<w5.heap.size) w9 l (.slice (some ⟨q7,0,none⟩) LN c7)):=Bv.out.below hb79
            have Bl:Hid (zae (fun b=>w6.heap.size<=b∧b<w7.heap.size) w9 (.node k8 n8 m8 a8 ks8) (kidV k8 n8 m8 a8 (.slice o8 l8 c8))):=Bw.out.below hb79
            have Dd:=hid (Af.out.1.below hB9')
            have s7:w9.cell? ⟨w2.heap.size,0,none⟩=some (.int .i64 nm.kind)∧w9.cell? ⟨w2.heap.size,1,none⟩=some (.string ⟨nm.text.toArray⟩)∧w9.cell? ⟨w2.heap.size,2,none⟩=some (.int .i64 nm.num)∧w9.cell? ⟨w2.heap.size,3,none⟩=some (.int .i64 nm.at_):=tokK (Ab.out.below hb79).1
            have s8:=fun x=>tokK ((Ab.out.below hb79).alloc x).1
            have Ap:=hid (Af.out.2.1.below hB9')
            obtain ⟨⟨z0,z1,z2,z3,z4⟩,⟨y0,y1,y2,y3,y4⟩⟩:=zaa Ap.out.1
            have hne:w2.heap.size≠w7.heap.size:=by have:=Aj.out;have:=Ac.out;have:=Ad.out;have:=Ae.out;have:=Aa.out.2.2;omega
            have s10:=fun x0 x1 x2 x3 x4=>tokK (zhk (v0:=x0) (v1:=x1) (v2:=x2) (v3:=x3) (v4:=x4) (Ab.out.below hb79).1 hne)
            clear hne
            clear hB9 hB9' hb79
            unfold kidV)
         | (go_at_call_of 109 (Value.slice (some (Addr.mk w7.heap.size 0 none)) 1 1)
            refine (zdh k nm (some ⟨w7.heap.size,0,none⟩) 1 1 _).mono ?_
            rintro e w9 ⟨rfl,hB9⟩
            (first
              | (
                 have hB9' : Below wBA1.heap.size wBA1 w9:=hB9
                 have hb79:Below w7.heap.size w7 w9:=Ar.out.2.2.2.trans (hB9'.mono Ar.out.2.2.2.size)
                 have Az:=hid hb79
                 have Bh:=hid (Bu.out.below hb79)
                 have Bf:=hid (Be.out.trans (Sole.of_below hb79))
                 have Al:=hid (Aw.out.below hb79)
                 have Bi:Hid (zab (fun b=>w4.heap.size<=b∧b<w5.heap.size) w9 l (.slice (some ⟨q7,0,none⟩) LN c7)):=Bv.out.below hb79
                 have Bl:Hid (zae (fun b=>w6.heap.size<=b∧b<w7.heap.size) w9 (.node k8 n8 m8 a8 ks8) (kidV k8 n8 m8 a8 (.slice o8 l8 c8))):=Bw.out.below hb79
                 have De:=hid (Aa.out.1.below hB9')
                 have s7:w9.cell? ⟨w2.heap.size,0,none⟩=some (.int .i64 nm.kind)∧w9.cell? ⟨w2.heap.size,1,none⟩=some (.string ⟨nm.text.toArray⟩)∧w9.cell? ⟨w2.heap.size,2,none⟩=some (.int .i64 nm.num)∧w9.cell? ⟨w2.heap.size,3,none⟩=some (.int .i64 nm.at_):=tokK (Ab.out.below hb79).1
                 have s8:=fun x=>tokK ((Ab.out.below hb79).alloc x).1
                 have Aq:=hid (Aa.out.2.1.below hB9')
                 obtain ⟨⟨z0,z1,z2,z3,z4⟩,⟨y0,y1,y2,y3,y4⟩⟩:=zaa Aq.out.1
                 have hne:w2.heap.size≠wB1.heap.size:=by have:=Aj.out;have:=Ac.out;have:=Ad.out;have:=Ae.out;have:=Aa.out.2.2;omega
                 have s10:=fun x0 x1 x2 x3 x4=>tokK (zhk (v0:=x0) (v1:=x1) (v2:=x2) (v3:=x3) (v4:=x4) (Ab.out.below hb79).1 hne)
                 clear hne
                 clear hB9 hB9' hb79
                 unfold kidV)
              | (
                 have hB9' : Below wB1.heap.size wB1 w9:=hB9
                 have hb79:Below w7.heap.size w7 w9:=Ar.out.1.trans (hB9'.mono Ar.out.1.size)
                 have Az:=hid hb79
                 have Bh:=hid (Bu.out.below hb79)
                 have Bf:=hid (Be.out.trans (Sole.of_below hb79))
                 have Al:=hid (Aw.out.below hb79)
                 have Bi:Hid (zab (fun b=>w4.heap.size<=b∧b<w5.heap.size) w9 l (.slice (some ⟨q7,0,none⟩) LN c7)):=Bv.out.below hb79
                 have Bl:Hid (zae (fun b=>w6.heap.size<=b∧b<w7.heap.size) w9 (.node k8 n8 m8 a8 ks8) (kidV k8 n8 m8 a8 (.slice o8 l8 c8))):=Bw.out.below hb79
                 have Df:=hid (Ay.out.below hB9')
                 have s7:w9.cell? ⟨w2.heap.size,0,none⟩=some (.int .i64 nm.kind)∧w9.cell? ⟨w2.heap.size,1,none⟩=some (.string ⟨nm.text.toArray⟩)∧w9.cell? ⟨w2.heap.size,2,none⟩=some (.int .i64 nm.num)∧w9.cell? ⟨w2.heap.size,3,none⟩=some (.int .i64 nm.at_):=tokK (Ab.out.below hb79).1
                 have s8:=fun x=>tokK ((Ab.out.below hb79).alloc x).1
                 have Ak:=hid (Ax.out.1.below (Ar.out.1.trans (hB9'.mono Ar.out.1.size)))
                 obtain ⟨⟨z0,z1,z2,z3,z4⟩,⟨y0,y1,y2,y3,y4⟩⟩:=zaa Ak.out.1
                 have hne:w2.heap.size≠w6.heap.size:=by have:=Aj.out;have:=Ac.out;have:=Ad.out;have:=Ae.out;have:=Aa.out.2.2;omega
                 have s10:=fun x0 x1 x2 x3 x4=>tokK (zhk (v0:=x0) (v1:=x1) (v2:=x2) (v3:=x3) (v4:=x4) (Ab.out.below hb79).1 hne)
                 clear hne
                 clear hB9 hB9' hb79
                 unfold kidV)
              | (
                 have hB9' : Below wB1.heap.size wB1 w9:=hB9
                 have hb79:Below w7.heap.size w7 w9:=Ar.out.1.trans (hB9'.mono Ar.out.1.size)
                 have Az:=hid hb79
                 have Bh:=hid (Bu.out.below hb79)
                 have Bf:=hid (Be.out.trans (Sole.of_below hb79))
                 have Al:=hid (Aw.out.below hb79)
                 have Bi:Hid (zab (fun b=>w4.heap.size<=b∧b<w5.heap.size) w9 l (.slice (some ⟨q7,0,none⟩) LN c7)):=Bv.out.below hb79
                 have Bl:Hid (zae (fun b=>w6.heap.size<=b∧b<w7.heap.size) w9 (.node k8 n8 m8 a8 ks8) (kidV k8 n8 m8 a8 (.slice o8 l8 c8))):=Bw.out.below hb79
                 have Ch:=hid (Ay.out.below hB9')
                 have s7:w9.cell? ⟨w2.heap.size,0,none⟩=some (.int .i64 nm.kind)∧w9.cell? ⟨w2.heap.size,1,none⟩=some (.string ⟨nm.text.toArray⟩)∧w9.cell? ⟨w2.heap.size,2,none⟩=some (.int .i64 nm.num)∧w9.cell? ⟨w2.heap.size,3,none⟩=some (.int .i64 nm.at_):=tokK (Ab.out.below hb79).1
                 have s8:=fun x=>tokK ((Ab.out.below hb79).alloc x).1
                 clear hB9 hB9' hb79
                 unfold kidV))))
        · have hle:=Aj.out
          have hl45:=Ac.out
          have hl56:=Ad.out
          have hl67:=Ae.out
          have hq9:=Ch.out.lt
          have hp:=HP.out
          obtain ⟨wc,hwc⟩:∃ x,w9.alloc (.cells #[.int .i64 k,.string ⟨nm.text.toArray⟩,.int .i64 0,.int .i64 nm.at_,.slice (some ⟨w7.heap.size,0,none⟩) 1 1] 29)=x:=⟨_,rfl⟩
          have Au:Hid (Sole p w wc):=by rw [<- hwc];exact Bf.out.alloc _
          have Ba:Hid (PP wc p g cap ts i d full):=by rw [<- hwc];exact Bh.out.alloc _
          have Ai:Hid (Kep w wc w.heap.size (kidO 0 [] 0 0 (.slice none 0 0))):=by rw [<- hwc];exact Al.out.alloc _
          have Ag:Hid (Kep w wc w9.heap.size (kidO k nm.text 0 nm.at_ (.slice (some ⟨w7.heap.size,0,none⟩) 1 1))):=by rw [<- hwc];exact Kep.new Bf.out.size _
          have Bb:Hid (Kep w wc w7.heap.size (kidO k8 n8 m8 a8 (.slice o8 l8 c8))):=by rw [<- hwc];exact Ch.out.alloc _
          have Bc:Hid (zab (fun b=>w4.heap.size<=b∧b<w5.heap.size) wc l (.slice (some ⟨q7,0,none⟩) LN c7)):=by rw [<- hwc];exact Bi.out.below (zac _ _)
          have Bd:Hid (zae (fun b=>w6.heap.size<=b∧b≠w9.heap.size∧b≠w7.heap.size) wc (.node k8 n8 m8 a8 ks8) (kidV k8 n8 m8 a8 (.slice o8 l8 c8))):=by rw [<- hwc];exact (Bl.out.below (zac _ _)).weaken (fun b h=>⟨h.1,by omega,by omega⟩)
          rw [hwc]
          clear hwc
          clear hle hl45 hl56 hl67 hq9 hp
          have hle:=Aj.out
          have hl45:=Ac.out
          have hl56:=Ad.out
          have hl67:=Ae.out
          have Av:Hid (w7.heap.size≠w9.heap.size∧w.heap.size<w9.heap.size∧w.heap.size<w7.heap.size∧w5.heap.size<=w7.heap.size∧w5.heap.size<=w9.heap.size):=by show _∧_;have:=Ch.out.lt;refine ⟨by omega,by omega,by omega,by omega,by omega⟩
          go_wp2_with fail
          go_meet
          exact ⟨w9.heap.size,w7.heap.size,i,full,o8,l8,c8,rfl,rfl,Au,Ba,Ai,Ag,Bb,Bc,Bd,Av⟩
        · have hgd:=Aq.out
          clear hgd
          have hle:=Aj.out
          have hl45:=Ac.out
          have hl56:=Ad.out
          have hl67:=Ae.out
          have hb1:=Aa.out.2.2
          have ha1:=Af.out.2.2
          have hp:=HP.out
          have h06:=Aj.out
          obtain ⟨wc,hwc⟩:∃ x,((((w9.setCell ⟨wB1.heap.size,0,none⟩ (.int .i64 k)).setCell ⟨wB1.heap.size,1,none⟩ (.string ⟨nm.text.toArray⟩)).setCell ⟨wB1.heap.size,2,none⟩ (.int .i64 0)).setCell ⟨wB1.heap.size,3,none⟩ (.int .i64 nm.at_)).setCell ⟨wB1.heap.size,4,none⟩ (.slice (some ⟨w7.heap.size,0,none⟩) 1 1)=x:=⟨_,rfl⟩
          have hf9:=fin5 (r:=wB1.heap.size) (w9:=w9) (k:=k) (n:=nm.text) (m:=0) (a:=nm.at_) (sl:=.slice (some ⟨w7.heap.size,0,none⟩) 1 1) Aq.out.2 Bf.out wc hwc
          have Au:=hid hf9.1
          have Ba:=hid (Bh.out.sole_but (by omega) (by omega) hf9.2)
          have Ai:=hid (Al.out.but hf9.2 (by omega))
          have Ag:Hid (Kep w wc wB1.heap.size (kidO k nm.text 0 nm.at_ (.slice (some ⟨w7.heap.size,0,none⟩) 1 1))):=⟨by rw [<- hwc];exact zc6 Aq.out.1,Aq.out.2⟩
          have Bb:=hid (De.out.but hf9.2 (by omega))
          have Bc:Hid (zab (fun b=>w4.heap.size<=b∧b<w5.heap.size) wc l (.slice (some ⟨q7,0,none⟩) LN c7)):=Bi.out.but (fun b h=>by omega) hf9.2
          have Bd:Hid (zae (fun b=>w6.heap.size<=b∧b≠wB1.heap.size∧b≠w7.heap.size) wc (.node k8 n8 m8 a8 ks8) (kidV k8 n8 m8 a8 (.slice o8 l8 c8))):=zae.frame (fun _ h=>h) (fun b h _=>hf9.2 b h.2.1) _ _ (Bl.out.weaken (fun b h=>⟨h.1,by omega,by omega⟩))
          rw [hwc]
          clear hwc
          clear hf9 hle hl45 hl56 hl67 hb1 ha1 hp h06
          have hle:=Aj.out
          have hl45:=Ac.out
          have hl56:=Ad.out
          have hl67:=Ae.out
          have Av:Hid (w7.heap.size≠wB1.heap.size∧w.heap.size<wB1.heap.size∧w.heap.size<w7.heap.size∧w5.heap.size<=w7.heap.size∧w5.heap.size<=wB1.heap.size):=by show _∧_;have:=Aa.out.2.2;have:=Af.out.2.2;refine ⟨by omega,by omega,by omega,by omega,by omega⟩
          go_wp2_with fail
          go_meet
          exact ⟨wB1.heap.size,w7.heap.size,i,full,o8,l8,c8,rfl,rfl,Au,Ba,Ai,Ag,Bb,Bc,Bd,Av⟩
        · have hgd:=Ap.out
          clear hgd
          have hle:=Aj.out
          have hl45:=Ac.out
          have hl56:=Ad.out
          have hl67:=Ae.out
          have hb1:=Aa.out.2.2
          have ha1:=Af.out.2.2
          have hp:=HP.out
          have h06:=Aj.out
          obtain ⟨wc,hwc⟩:∃ x,((((w9.setCell ⟨w7.heap.size,0,none⟩ (.int .i64 k)).setCell ⟨w7.heap.size,1,none⟩ (.string ⟨nm.text.toArray⟩)).setCell ⟨w7.heap.size,2,none⟩ (.int .i64 0)).setCell ⟨w7.heap.size,3,none⟩ (.int .i64 nm.at_)).setCell ⟨w7.heap.size,4,none⟩ (.slice (some ⟨wA1.heap.size,0,none⟩) 1 1)=x:=⟨_,rfl⟩
          have hf9:=fin5 (r:=w7.heap.size) (w9:=w9) (k:=k) (n:=nm.text) (m:=0) (a:=nm.at_) (sl:=.slice (some ⟨wA1.heap.size,0,none⟩) 1 1) Ap.out.2 Bf.out wc hwc
          have Au:=hid hf9.1
          have Ba:=hid (Bh.out.sole_but (by omega) (by omega) hf9.2)
          have Ai:=hid (Al.out.but hf9.2 (by omega))
          have Ag:Hid (Kep w wc w7.heap.size (kidO k nm.text 0 nm.at_ (.slice (some ⟨wA1.heap.size,0,none⟩) 1 1))):=⟨by rw [<- hwc];exact zc6 Ap.out.1,Ap.out.2⟩
          have Bb:=hid (Dd.out.but hf9.2 (by omega))
          have Bc:Hid (zab (fun b=>w4.heap.size<=b∧b<w5.heap.size) wc l (.slice (some ⟨q7,0,none⟩) LN c7)):=Bi.out.but (fun b h=>by omega) hf9.2
          have Bd:Hid (zae (fun b=>w6.heap.size<=b∧b≠w7.heap.size∧b≠wA1.heap.size) wc (.node k8 n8 m8 a8 ks8) (kidV k8 n8 m8 a8 (.slice o8 l8 c8))):=zae.frame (fun _ h=>h) (fun b h _=>hf9.2 b h.2.1) _ _ (Bl.out.weaken (fun b h=>⟨h.1,by omega,by omega⟩))
          rw [hwc]
          clear hwc
          clear hf9 hle hl45 hl56 hl67 hb1 ha1 hp h06
          have hle:=Aj.out
          have hl45:=Ac.out
          have hl56:=Ad.out
          have hl67:=Ae.out
          have Av:Hid (wA1.heap.size≠w7.heap.size∧w.heap.size<w7.heap.size∧w.heap.size<wA1.heap.size∧w5.heap.size<=wA1.heap.size∧w5.heap.size<=w7.heap.size):=by show _∧_;have:=Aa.out.2.2;have:=Af.out.2.2;refine ⟨by omega,by omega,by omega,by omega,by omega⟩
          go_wp2_with fail
          go_meet
          exact ⟨w7.heap.size,wA1.heap.size,i,full,o8,l8,c8,rfl,rfl,Au,Ba,Ai,Ag,Bb,Bc,Bd,Av⟩
        · have hgd:=Ak.out
          clear hgd
          have hle:=Aj.out
          have hl45:=Ac.out
          have hl56:=Ad.out
          have hl67:=Ae.out
          have hb1:=Aa.out.2.2
          have ha1:=Af.out.2.2
          have hp:=HP.out
          have h06:=Ax.out.1.lt
          obtain ⟨wc,hwc⟩:∃ x,((((w9.setCell ⟨w6.heap.size,0,none⟩ (.int .i64 k)).setCell ⟨w6.heap.size,1,none⟩ (.string ⟨nm.text.toArray⟩)).setCell ⟨w6.heap.size,2,none⟩ (.int .i64 0)).setCell ⟨w6.heap.size,3,none⟩ (.int .i64 nm.at_)).setCell ⟨w6.heap.size,4,none⟩ (.slice (some ⟨w7.heap.size,0,none⟩) 1 1)=x:=⟨_,rfl⟩
          have hf9:=fin5 (r:=w6.heap.size) (w9:=w9) (k:=k) (n:=nm.text) (m:=0) (a:=nm.at_) (sl:=.slice (some ⟨w7.heap.size,0,none⟩) 1 1) Ak.out.2 Bf.out wc hwc
          have Au:=hid hf9.1
          have Ba:=hid (Bh.out.sole_but (by omega) (by omega) hf9.2)
          have Ai:=hid (Al.out.but hf9.2 (by omega))
          have Ag:Hid (Kep w wc w6.heap.size (kidO k nm.text 0 nm.at_ (.slice (some ⟨w7.heap.size,0,none⟩) 1 1))):=⟨by rw [<- hwc];exact zc6 Ak.out.1,Ak.out.2⟩
          have Bb:=hid (Df.out.but hf9.2 (by omega))
          have Bc:Hid (zab (fun b=>w4.heap.size<=b∧b<w5.heap.size) wc l (.slice (some ⟨q7,0,none⟩) LN c7)):=Bi.out.but (fun b h=>by omega) hf9.2
          have Bd:Hid (zae (fun b=>w6.heap.size<=b∧b≠w6.heap.size∧b≠w7.heap.size) wc (.node k8 n8 m8 a8 ks8) (kidV k8 n8 m8 a8 (.slice o8 l8 c8))):=zae.frame (fun _ h=>h) (fun b h _=>hf9.2 b h.2.1) _ _ ((Ax.out.2.below (Az.out)).weaken (fun b h=>⟨Nat.le_of_lt h.1,Nat.ne_of_gt h.1,by omega⟩))
          rw [hwc]
          clear hwc
          clear hf9 hle hl45 hl56 hl67 hb1 ha1 hp h06
          have hle:=Aj.out
          have hl45:=Ac.out
          have hl56:=Ad.out
          have hl67:=Ae.out
          have Av:Hid (w7.heap.size≠w6.heap.size∧w.heap.size<w6.heap.size∧w.heap.size<w7.heap.size∧w5.heap.size<=w7.heap.size∧w5.heap.size<=w6.heap.size):=by show _∧_;have:=Aa.out.2.2;have:=Af.out.2.2;have:=Ax.out.1.lt;refine ⟨by omega,by omega,by omega,by omega,by omega⟩
          go_wp2_with fail
          go_meet
          exact ⟨w6.heap.size,w7.heap.size,i,full,o8,l8,c8,rfl,rfl,Au,Ba,Ai,Ag,Bb,Bc,Bd,Av⟩
       case rest =>
        obtain ⟨BB,QQ,i,full,o8,l8,c8,rfl,rfl,Au,Ba,Ai,Ag,Bb,Bc,Bd,Av⟩:=hcut
        have Ae:Hid True:=trivial
        have Di:Hid True:=trivial
        have hle:=Aj.out
        have hl45:=Ac.out
        have hl56:=Ad.out
        have hl67:=Ae.out
        have hp:=HP.out
        obtain ⟨ys,hyl,hy1,hyr,hyc,hyq⟩:=Bc.out.cellsOf
        rw [Bj.out.1] at hyl
        have Bx:Hid (ys.length=LN*5∧(∀ u∈ys,u.oneCell'=true)∧RowV (fun b=>(w4.heap.size<=b∧b<w5.heap.size)∧b≠q7) wc l ys∧(∀ j u,ys[j]?=some u->wc.cell? ((⟨q7,0,none⟩:Addr).add j)=some u)):=⟨hyl,hy1,hyr,hyc⟩
        have Dg:=hid (zgz Bb.out.1 rfl (by decide))
        have Ci:Hid (0<LN):=by
         show 0<LN
         rw [<- Bj.out.1]
         cases hq:l with
         | nil=>exact absurd hq Bj.out.2.2
         | cons _ _=>simp
        obtain ⟨⟨v0,v1,v2,v3,v4⟩,⟨f0,f1,f2,f3,f4⟩⟩:=zaa Ag.out.1
        clear hle hl45 hl56 hl67 hp hyl hy1 hyr hyc hyq
        go_wp2_with (at_builtin;refine wpList_append_lies _ rfl _ _ 27 rfl 0 29 inf (.agg #[.int .i64 0,.string ⟨#[]⟩,.int .i64 0,.int .i64 0,.slice none 0 0]) 5 64 Tryz.underlying27 HI.out.1 HI.out.2.1 HI.out.2.2.1 HI.out.2.2.2 rfl (by decide) (.slice (some ⟨QQ,0,none⟩) 1 1) 1 [.int .i64 k8,.string ⟨n8.toArray⟩,.int .i64 m8,.int .i64 a8,.slice o8 l8 c8] rfl Dg.out ⟨q7,0,none⟩ LN c7 ys rfl Bx.out.1 Bx.out.2.2.2 Bx.out.2.1 Ci.out (by have:=Bj.out;unfold maxLen;omega) (by have:=Bj.out;omega) (Nat.zero_le _) _ rfl ?_;intro gq cq w11 hown hgrow hat hlt;have hne:=Av.out;have hpp:=HP.out;have Bp:Hid (Kep w w11 BB (kidO k nm.text 0 nm.at_ (.slice (some ⟨QQ,0,none⟩) 1 1))):=Ag.out.grown hgrow (fun e=>hne.1 e.symm);have Bg:Hid (Kep w w11 w.heap.size (kidO 0 [] 0 0 (.slice none 0 0))):=Ai.out.grown hgrow (Nat.ne_of_lt hne.2.2.1);obtain ⟨⟨l0,l1,l2,l3,l4⟩,⟨e0,e1,e2,e3,e4⟩⟩:=zaa Bp.out.1;obtain ⟨⟨j0,j1,j2,j3,j4⟩,⟨d0,d1,d2,d3,d4⟩⟩:=zaa Bg.out.1;have hq1:¬ w.heap.size=BB:=Nat.ne_of_lt hne.2.1;have hq2:¬ BB=w.heap.size:=fun e=>hq1 e.symm;have HG:Hid (wc.grownBy w11 (some QQ)∧w11.ownsRow 0 29 5 (.slice (some ⟨gq,0,none⟩) (1+LN) cq) (1+LN) ([.int .i64 k8,.string ⟨n8.toArray⟩,.int .i64 m8,.int .i64 a8,.slice o8 l8 c8]++ys)∧((Value.slice (some ⟨QQ,0,none⟩) 1 1).ownBlock=some gq∨gq=wc.heap.size)):=⟨hgrow,hown,hat⟩;clear hown hgrow hat hlt hne hpp)
        have hne:=Av.out
        have hp:=HP.out
        have hle:=Aj.out
        have hl45:=Ac.out
        have hl56:=Ad.out
        have hl67:=Ae.out
        have hsc:=Au.out.size
        have hcl:=Ag.out.lt
        have hz:∀ b,b≠BB->(w11.setCell ⟨BB,4,none⟩ (.slice (some ⟨gq,0,none⟩) (1+LN) cq)).heap[b]?=w11.heap[b]?:=fun b hb=>Below.heap_setCell _ _ _ _ hb
        have Bq:=hid ((Ba.out.grown HG.out.1 (by omega) (by omega)).sole_but (by omega) (by omega) hz)
        have Br:Hid (Sole p w (w11.setCell ⟨BB,4,none⟩ (.slice (some ⟨gq,0,none⟩) (1+LN) cq))):=(Au.out.grown HG.out.1 (by omega)).below_after ((Below.refl _ _).setCell (Nat.le_of_lt hne.2.1) _)
        have Am:=hid (Bg.out.but hz (by omega))
        have Bs:Hid (zab (fun b=>w.heap.size<b∧b≠BB) (w11.setCell ⟨BB,4,none⟩ (.slice (some ⟨gq,0,none⟩) (1+LN) cq)) ((.node k8 n8 m8 a8 ks8)::l) (.slice (some ⟨gq,0,none⟩) (1+LN) cq)):=by
         refine zab.but ?_ (fun b h=>h.2) hz
         refine zbv (ks:=[(.node k8 n8 m8 a8 ks8)]) (us:=l) (sl:=.slice (some ⟨QQ,0,none⟩) 1 1) (fun q e=>?_) (za3 (Bd.out.weaken (fun b h=>?_))) (RowV.frame (fun b h=>?_) (fun _ _ _=>rfl) _ _ Bx.out.2.2.1) (by rw [Bj.out.1];exact HG.out.2.1) HG.out.1 wc.heap.size (Nat.le_refl _) ⟨by omega,by omega⟩ ?_
         · have e2:QQ=q:=Option.some.inj e
           exact ⟨by omega,by omega⟩
         · refine ⟨⟨by omega,h.2.1⟩,fun e=>?_⟩
           have e2:QQ=b:=Option.some.inj e
           exact h.2.2 e2.symm
         · refine ⟨⟨by omega,by omega⟩,fun e=>?_⟩
           have e2:QQ=b:=Option.some.inj e
           omega
         · rcases HG.out.2.2 with e|e
           · exact Or.inl e.symm
           · exact Or.inr (by rw [e];rfl)
        generalize w11.setCell ⟨BB,4,none⟩ (.slice (some ⟨gq,0,none⟩) (1+LN) cq)=w12 at Bq Br Am Bs ⊢
        clear hne hp hle hl45 hl56 hl67 hsc hcl hz
        obtain ⟨⟨z0,z1,z2,z3,z4⟩,_⟩:=zaa Am.out.1
        refine ret5 z0 z1 z2 z3 z4 rfl (fun u q0 q1 q2 q3 q4=>by simp [results,Tryz.results72,go_sem,q0,q1,q2,q3,q4]) Am.out.2 Br.out ?_
        intro wz hf
        rw [Cw.out]
        have hr2:=Am.out.2
        have hpg:=HP.out
        exact ⟨_,_,_,rfl,za4 Bs.out (fun b h=>Nat.le_of_lt h.1) (fun b h=>Nat.ne_of_gt h.1) hf.2,rfl,Bq.out.sole_but (by omega) (by omega) hf.2,hf.1⟩
end Go.Proofs.YtighggeokiahfaaGreatDoor
