import Derived.Test.YtighggeokiahfaaGreatDoorNear07
import Derived.Deep.CutBlock
import Derived.Deep.DeepCutAuto
namespace Go.Proofs.YtighggeokiahfaaGreatDoor
open Go.RowKit
theorem moreP_len (F:PS->Ans Tree) (most:Nat):∀ (f:Nat) (acc:List Tree) (s:PS) (l:List Tree) (s' : PS),acc≠[]->zh4 F most f acc s=.ok l s'->l.length<=acc.length+f∧l≠[]
 | 0,acc,s,l,s'=>fun _ h=>by rw [zh4] at h;cases h
 | f+1,acc,s,l,s'=>fun ha h=>by
  rw [zh4] at h
  by_cases hc:s.sees [44]=true
  · rw [if_pos hc] at h
    cases hx:(s.room acc.length most).take with
    | no e a=>rw [hx] at h;cases h
    | ok t s1 =>
     rw [hx] at h
     have h2:(F s1).bind (fun t s=>zh4 F most f (acc++[t]) s)=.ok l s':=h
     cases hy:F s1 with
     | no e a=>rw [hy] at h2;cases h2
     | ok t2 s2 =>
      rw [hy] at h2
      have:=moreP_len F most f (acc++[t2]) s2 l s' (by simp) h2
      simp only [List.length_append,List.length_cons,List.length_nil] at this
      exact ⟨by omega,this.2⟩
  · rw [if_neg hc] at h
    cases h
    exact ⟨by omega,ha⟩
theorem zha {w:World} {b c:Nat} {t:Tok} {k m:Int} {n:List UInt8} {a:Nat} {sl:Value} (h:w.heap[b]?=some (tokO t)) (h2:w.heap[c]?=some (kidO k n m a sl)):w.cell? ⟨b,0,none⟩=some (.int .i64 t.kind)∧w.cell? ⟨b,1,none⟩=some (.string ⟨t.text.toArray⟩)∧w.cell? ⟨b,2,none⟩=some (.int .i64 t.num)∧w.cell? ⟨b,3,none⟩=some (.int .i64 t.at_)∧w.cell? ⟨c,0,none⟩=some (.int .i64 k)∧w.cell? ⟨c,1,none⟩=some (.string ⟨n.toArray⟩)∧w.cell? ⟨c,2,none⟩=some (.int .i64 m)∧w.cell? ⟨c,3,none⟩=some (.int .i64 a)∧w.cell? ⟨c,4,none⟩=some sl:=by
 obtain ⟨h0,h1,h2',h3⟩:=zbq h
 exact ⟨h0,h1,h2',h3,(zaa h2).1⟩
theorem zl5 (s:PS) (l:List Tree) (s' : PS) (h:zbs s=.ok l s'):l.length<=67∧l≠[]:=by
 unfold zbs at h
 by_cases hc:s.sees zde=true
 · rw [if_pos hc] at h
   cases hx:zc0 13 s with
   | no e a=>rw [hx] at h;cases h
   | ok t s1=>rw [hx] at h;cases h;simp
 · rw [if_neg hc] at h
   unfold zfw at h
   cases hx:zei s with
   | no e a=>rw [hx] at h;cases h
   | ok t s1 =>
    rw [hx] at h
    have:=moreP_len zei 4 66 [t] s1 l s' (by simp) h
    simp only [List.length_cons,List.length_nil] at this
    exact ⟨by omega,this.2⟩
set_option maxHeartbeats 4000000 in
set_option maxRecDepth 4000 in
theorem znf (p g cap:Nat) (ts:List Tok) (hE:Ends ts) (d:Int):zd4 p g cap ts d 119 zcq:=by
 intro i full w h hba
 have HP:Hid (p<w.heap.size∧g<w.heap.size):=⟨h.plt,h.glt⟩
 have HE:Hid (Ends ts):=hE
 have Dr:Hid (zbo p w):=hba
 obtain ⟨R,hR⟩:∃ R,zcq (PSof ts i full)=R:=⟨_,rfl⟩
 rw [hR]
 obtain ⟨wa,hwa⟩:∃ x,w.alloc (.cells #[.int .i64 0,.string ⟨#[]⟩,.int .i64 0,.int .i64 0,.slice none 0 0] 29)=x:=⟨_,rfl⟩
 have b1:Below w.heap.size w wa:=by rw [<- hwa];exact zac _ _
 have Cz:Hid (Kep w wa w.heap.size (kidO 0 [] 0 0 (.slice none 0 0))):=by show Kep w wa _ _;rw [<- hwa];exact Kep.new (Nat.le_refl _) _
 have Da:Hid (Sole p w wa):=Sole.of_below b1
 have Db:Hid (Calls Tryz.prog 150 #[.pointer (some ⟨p,0,none⟩)] wa (zam p g cap ts d (zah wa.heap.size) (zhe (PSof ts i full)) wa)):=result_any p g cap ts hE d (zgc p g cap ts hE d) i full wa (h.below b1) (hba.below b1)
 obtain ⟨rt,hrt⟩:∃ r,zhe (PSof ts i full)=r:=⟨_,rfl⟩
 have Dc:Hid (R=rt.bind fun r_ s=>(zcr s).bind fun nm s=>(s.want [40]).bind fun _ s=>(zbs s).bind fun l s=>(s.want [41]).bind fun _ s=>(s.want [61]).bind fun _ s=>(zbb s).bind fun v s=>(s.want [59]).bind fun _ s=>Ans.ok (named 12 nm (v::r_::l)) s):=by
  show _=_
  rw [<- hR,<- hrt];rfl
 rw [hrt] at Db
 obtain ⟨inf,hi1,hi2,hi3,hi4⟩:=zfd
 have HI:Hid (Tryz.prog.info? 29=some inf∧inf.zero=some (.agg #[.int .i64 0,.string ⟨#[]⟩,.int .i64 0,.int .i64 0,.slice none 0 0])∧inf.size=5∧inf.bytes=64):=⟨hi1,hi2,hi3,hi4⟩
 clear h hba hE hR b1 hrt hi1 hi2 hi3 hi4
 go_enter Tryz.func119,Tryz.ntmps119
 go_wp2_with fail
 clear hwa
 refine Db.out.mono ?_
 cases rt with
 | no why at_ =>
  rintro e w99 ⟨rfl,hS⟩
  have Ah:Hid (Sole p w w99):=Da.out.trans hS
  clear hS
  go_wp2
  refine ⟨rfl,?_⟩
  rw [Dc.out]
  exact ⟨rfl,Ah.out⟩
 | ok tr st =>
  rintro e w1 ⟨v,i,full,rfl,hT,rfl,hP,hS⟩
  obtain ⟨k9,n9,m9,a9,ks9⟩:=tr
  obtain ⟨sl,rfl,hL⟩:=zaf.1 hT
  obtain ⟨o9,l9,c9,rfl⟩:=hL.shape
  obtain ⟨w1b,hw1b⟩:∃ x,w1.alloc (.cells #[.int .i64 k9,.string ⟨n9.toArray⟩,.int .i64 m9,.int .i64 a9,.slice o9 l9 c9] 29)=x:=⟨_,rfl⟩
  have hB1:Below w1.heap.size w1 w1b:=by rw [<- hw1b];exact zac _ _
  have hs1:Sole p w w1:=Da.out.trans hS
  have Dd:Hid (Sole p w w1b):=hs1.trans (Sole.of_below hB1)
  have De:Hid (Kep w w1b w.heap.size (kidO 0 [] 0 0 (.slice none 0 0))):=(Cz.out.sole HP.out.1 hS).below hB1
  have Br:Hid (Kep w w1b w1.heap.size (kidO k9 n9 m9 a9 (.slice o9 l9 c9))):=by show Kep w w1b _ _;rw [<- hw1b];exact Kep.new hs1.size _
  have Ds:Hid (zae (fun b=>wa.heap.size<=b∧b<w1.heap.size) w1b (.node k9 n9 m9 a9 ks9) (kidV k9 n9 m9 a9 (.slice o9 l9 c9))):=zae.below (zah.made hT) hB1
  have Ba:Hid (w.heap.size<wa.heap.size∧wa.heap.size<=w1.heap.size∧p<w.heap.size∧w1.heap.size<w1b.heap.size):=⟨Cz.out.lt,hS.size,HP.out.1,Br.out.lt⟩
  have Df:Hid (Calls Tryz.prog 108 #[.pointer (some ⟨p,0,none⟩)] w1b (zam p g cap ts d zfk (zcr (PSof ts i full)) w1b)):=zcm p g cap ts HE.out i d full w1b (hP.below hB1)
  obtain ⟨rn,hrn⟩:∃ r,zcr (PSof ts i full)=r:=⟨_,rfl⟩
  have Dg:Hid (R=rn.bind fun nm s=>(s.want [40]).bind fun _ s=>(zbs s).bind fun l s=>(s.want [41]).bind fun _ s=>(s.want [61]).bind fun _ s=>(zbb s).bind fun v s=>(s.want [59]).bind fun _ s=>Ans.ok (named 12 nm (v::(.node k9 n9 m9 a9 ks9)::l)) s):=by
   show _=_
   rw [Dc.out];first|(rw [<- hrn];done)|(rw [<- hrn];rfl)
  rw [hrn] at Df
  clear hP hS hrn hT hL hB1 hs1
  unfold kidV
  go_wp2_with fail
  clear hw1b
  refine Df.out.mono ?_
  cases rn with
  | no why at_ =>
   rintro e w99 ⟨rfl,hS⟩
   have Ah:Hid (Sole p w w99):=Dd.out.trans hS
   clear hS
   go_wp2
   refine ⟨rfl,?_⟩
   rw [Dg.out]
   exact ⟨rfl,Ah.out⟩
  | ok nm st =>
   rintro e w2 ⟨v,i,full,rfl,rfl,rfl,hP,hS⟩
   obtain ⟨w3,hw3⟩:∃ x,w2.alloc (.cells #[.int .i64 nm.kind,.string ⟨nm.text.toArray⟩,.int .i64 nm.num,.int .i64 nm.at_] 41)=x:=⟨_,rfl⟩
   have hp:=HP.out
   have hB3:Below w2.heap.size w2 w3:=by rw [<- hw3];exact zac _ _
   have hs2:Sole p w w2:=Dd.out.trans hS
   have hla:=Ba.out
   have Dt:Hid (PP w3 p g cap ts i d full):=hP.below hB3
   have Dh:Hid (Sole p w w3):=hs2.trans (Sole.of_below hB3)
   have Cj:Hid (Kep w w3 w.heap.size (kidO 0 [] 0 0 (.slice none 0 0))):=(De.out.sole hp.1 hS).below hB3
   have Ck:Hid (Kep w w3 w1.heap.size (kidO k9 n9 m9 a9 (.slice o9 l9 c9))):=(Br.out.sole hp.1 hS).below hB3
   have Du:Hid (zae (fun b=>wa.heap.size<=b∧b<w1.heap.size) w3 (.node k9 n9 m9 a9 ks9) (kidV k9 n9 m9 a9 (.slice o9 l9 c9))):=(Ds.out.sole (fun b h=>by omega) hS).below hB3
   have Cl:Hid (Kep w w3 w2.heap.size (tokO nm)):=by show Kep w w3 _ _;rw [<- hw3];exact Kep.new hs2.size _
   have Aj:Hid (w.heap.size<w2.heap.size∧w2.heap.size<w3.heap.size∧w1.heap.size<w2.heap.size):=⟨(De.out.sole hp.1 hS).lt,by rw [<- hw3];simp,(Br.out.sole hp.1 hS).lt⟩
   clear hP hS hp hs2 hB3 hla
   unfold tokV
   have Bj:Hid (Calls Tryz.prog 41 #[.pointer (some ⟨p,0,none⟩),.slice (some ⟨w3.heap.size,0,none⟩) 1 1] (w3.alloc (.cells #[.string ⟨#[40]⟩] 9)) (zam p g cap ts d zf5 ((PSof ts i full).want [40]) w3)):=zbt p g cap ts HE.out i d full [40] (by simp) w3 Dt.out
   obtain ⟨ru,hru⟩:∃ r,(PSof ts i full).want [40]=r:=⟨_,rfl⟩
   have Di:Hid (R=ru.bind fun _ s=>(zbs s).bind fun l s=>(s.want [41]).bind fun _ s=>(s.want [61]).bind fun _ s=>(zbb s).bind fun v s=>(s.want [59]).bind fun _ s=>Ans.ok (named 12 nm (v::(.node k9 n9 m9 a9 ks9)::l)) s):=by
    show _=_
    rw [Dg.out];first|(rw [<- hru];done)|(rw [<- hru];rfl)
   rw [hru] at Bj
   clear hru
   go_wp2_with fail
   refine Bj.out.mono ?_
   clear hw3
   cases ru with
   | no why at_ =>
    rintro e w99 ⟨rfl,hS⟩
    have Ah:Hid (Sole p w w99):=Dh.out.trans hS
    clear hS
    go_wp2
    refine ⟨rfl,?_⟩
    rw [Di.out]
    exact ⟨rfl,Ah.out⟩
   | ok u st =>
    rintro e w4 ⟨v,i,full,rfl,rfl,rfl,hP,hS⟩
    have hp:=HP.out
    have hla:=Ba.out
    have Cm:Hid (Sole p w w4):=Dh.out.trans hS
    have Cn:Hid (Kep w w4 w.heap.size (kidO 0 [] 0 0 (.slice none 0 0))):=Cj.out.sole hp.1 hS
    have Bz:Hid (Kep w w4 w2.heap.size (tokO nm)):=Cl.out.sole hp.1 hS
    have Co:Hid (Kep w w4 w1.heap.size (kidO k9 n9 m9 a9 (.slice o9 l9 c9))):=Ck.out.sole hp.1 hS
    have Dv:Hid (zae (fun b=>wa.heap.size<=b∧b<w1.heap.size) w4 (.node k9 n9 m9 a9 ks9) (kidV k9 n9 m9 a9 (.slice o9 l9 c9))):=Du.out.sole (fun b h=>by omega) hS
    have Dj:Hid (Calls Tryz.prog 151 #[.pointer (some ⟨p,0,none⟩)] w4 (zam p g cap ts d (zbg w4.heap.size) (zbs (PSof ts i full)) w4)):=znu p g cap ts HE.out d i full w4 hP (Dr.out.sole Cm.out)
    obtain ⟨rl,hrl⟩:∃ r,zbs (PSof ts i full)=r:=⟨_,rfl⟩
    have Cp:Hid (∀ l s,rl=.ok l s->l.length<=67∧l≠[]):=fun l s e=>zl5 _ _ _ (hrl.trans e)
    have Dk:Hid (R=rl.bind fun l s=>(s.want [41]).bind fun _ s=>(s.want [61]).bind fun _ s=>(zbb s).bind fun v s=>(s.want [59]).bind fun _ s=>Ans.ok (named 12 nm (v::(.node k9 n9 m9 a9 ks9)::l)) s):=by
     show _=_
     rw [Di.out];first|(rw [<- hrl];done)|(rw [<- hrl];rfl)
    rw [hrl] at Dj
    clear hP hS hp hrl hla
    go_wp2_with fail
    refine Dj.out.mono ?_
    cases rl with
    | no why at_ =>
     rintro e w99 ⟨rfl,hS⟩
     have Ah:Hid (Sole p w w99):=Cm.out.trans hS
     clear hS
     go_wp2
     refine ⟨rfl,?_⟩
     rw [Dk.out]
     exact ⟨rfl,Ah.out⟩
    | ok l st =>
     rintro e w5 ⟨v,i,full,rfl,hL,rfl,hP,hS⟩
     have hlen:=Cp.out _ _ rfl
     obtain ⟨q7,c7,_,rfl,_,_,_⟩:=hL.addr hlen.2
     obtain ⟨LN,hLN⟩:∃ x,l.length=x:=⟨_,rfl⟩
     rw [hLN] at hL ⊢
     have hp:=HP.out
     have hla:=Ba.out
     have Ee:Hid (PP w5 p g cap ts i d full):=hP
     have Dl:Hid (Sole p w w5):=Cm.out.trans hS
     have Cq:Hid (Kep w w5 w.heap.size (kidO 0 [] 0 0 (.slice none 0 0))):=Cn.out.sole hp.1 hS
     have Cr:Hid (Kep w w5 w2.heap.size (tokO nm)):=Bz.out.sole hp.1 hS
     have Cs:Hid (Kep w w5 w1.heap.size (kidO k9 n9 m9 a9 (.slice o9 l9 c9))):=Co.out.sole hp.1 hS
     have Dw:Hid (zae (fun b=>wa.heap.size<=b∧b<w1.heap.size) w5 (.node k9 n9 m9 a9 ks9) (kidV k9 n9 m9 a9 (.slice o9 l9 c9))):=Dv.out.sole (fun b h=>by omega) hS
     have Dx:Hid (zab (fun b=>w4.heap.size<=b) w5 l (.slice (some ⟨q7,0,none⟩) LN c7)):=hL
     have Bw:Hid (l.length=LN∧LN<=67∧l≠[]):=⟨hLN,by omega,hlen.2⟩
     have Ab:Hid (w2.heap.size<w4.heap.size∧w4.heap.size<=w5.heap.size):=⟨Bz.out.lt,hS.size⟩
     have Bj:Hid (Calls Tryz.prog 41 #[.pointer (some ⟨p,0,none⟩),.slice (some ⟨w5.heap.size,0,none⟩) 2 2] (w5.alloc (.cells #[.string ⟨#[41]⟩,.string ⟨#[61]⟩] 9)) (zam p g cap ts d zf5 (((PSof ts i full).want [41]).bind fun _ s=>s.want [61]) w5)):=zj7 p g cap ts HE.out i d full [41] [61] (by simp) (by simp) w5 hP
     obtain ⟨ru,hru⟩:∃ r,(((PSof ts i full).want [41]).bind fun _ s=>s.want [61])=r:=⟨_,rfl⟩
     have Dm:Hid (R=ru.bind fun _ s=>(zbb s).bind fun v s=>(s.want [59]).bind fun _ s=>Ans.ok (named 12 nm (v::(.node k9 n9 m9 a9 ks9)::l)) s):=by
      show _=_
      rw [Dk.out,<- hru]
      exact (zfg ((PSof ts i full).want [41]) (fun _ s=>s.want [61]) (fun _ s=>(zbb s).bind fun v s=>(s.want [59]).bind fun _ s=>Ans.ok (named 12 nm (v::(Tree.node k9 n9 m9 a9 ks9)::l)) s)).symm
     rw [hru] at Bj
     clear hP hS hL hp hlen hLN hru hla
     go_wp2_with fail
     refine Bj.out.mono ?_
     cases ru with
     | no why at_ =>
      rintro e w99 ⟨rfl,hS⟩
      have Ah:Hid (Sole p w w99):=Dl.out.trans hS
      clear hS
      go_wp2
      refine ⟨rfl,?_⟩
      rw [Dm.out]
      exact ⟨rfl,Ah.out⟩
     | ok u st =>
      rintro e w6 ⟨v,i,full,rfl,rfl,rfl,hP,hS⟩
      have hp:=HP.out
      have hl45:=Ab.out
      have hle:=Aj.out
      have hla:=Ba.out
      have Cd:Hid (Sole p w w6):=Dl.out.trans hS
      have Ct:Hid (Kep w w6 w.heap.size (kidO 0 [] 0 0 (.slice none 0 0))):=Cq.out.sole hp.1 hS
      have Ap:Hid (Kep w w6 w2.heap.size (tokO nm)):=Cr.out.sole hp.1 hS
      have Bs:Hid (Kep w w6 w1.heap.size (kidO k9 n9 m9 a9 (.slice o9 l9 c9))):=Cs.out.sole hp.1 hS
      have Dy:Hid (zae (fun b=>wa.heap.size<=b∧b<w1.heap.size) w6 (.node k9 n9 m9 a9 ks9) (kidV k9 n9 m9 a9 (.slice o9 l9 c9))):=Dw.out.sole (fun b h=>by omega) hS
      have Dz:Hid (zab (fun b=>w4.heap.size<=b∧b<w5.heap.size) w6 l (.slice (some ⟨q7,0,none⟩) LN c7)):=by
       have h1:zab (fun b=>w4.heap.size<=b∧b<w5.heap.size) w5 l (.slice (some ⟨q7,0,none⟩) LN c7):=zab.there Dx.out
       exact h1.sole (fun b h=>by omega) hS
      have Ac:Hid (w5.heap.size<=w6.heap.size):=hS.size
      clear hla
      obtain ⟨rv,hrv⟩:∃ r,zbb (PSof ts i full)=r:=⟨_,rfl⟩
      have Dn:Hid (R=rv.bind fun v s=>(s.want [59]).bind fun _ s=>Ans.ok (named 12 nm (v::(.node k9 n9 m9 a9 ks9)::l)) s):=by
       show _=_
       rw [Dm.out];first|(rw [<- hrv];done)|(rw [<- hrv];rfl)
      have Dp:Hid (∀ wx,Below w6.heap.size w6 wx->Calls Tryz.prog 118 #[.pointer (some ⟨p,0,none⟩)] wx (zam p g cap ts d (zah wx.heap.size) rv wx)):=fun wx hB=>by
       rw [<- hrv]
       exact zk4 p g cap ts HE.out i d full wx (hP.below hB)
      obtain ⟨wA0,hwA0⟩:∃ x,w6.alloc (.cells #[.int .i64 0,.string ⟨#[]⟩,.int .i64 0,.int .i64 0,.slice none 0 0] 29)=x:=⟨_,rfl⟩
      have hbA:Below w6.heap.size w6 wA0:=by rw [<- hwA0];exact zac _ _
      have Aq:Hid (Below w6.heap.size w6 wA0):=hbA
      have Ca:Hid (Kep w wA0 w6.heap.size (kidO 0 [] 0 0 (.slice none 0 0))):=by show Kep w wA0 _ _;rw [<- hwA0];exact Kep.new Cd.out.size _
      have s0:w6.drew.cell? ⟨w2.heap.size,0,none⟩=some (.int .i64 nm.kind)∧w6.drew.cell? ⟨w2.heap.size,1,none⟩=some (.string ⟨nm.text.toArray⟩)∧w6.drew.cell? ⟨w2.heap.size,2,none⟩=some (.int .i64 nm.num)∧w6.drew.cell? ⟨w2.heap.size,3,none⟩=some (.int .i64 nm.at_)∧w6.drew.cell? ⟨w1.heap.size,0,none⟩=some (.int .i64 k9)∧w6.drew.cell? ⟨w1.heap.size,1,none⟩=some (.string ⟨n9.toArray⟩)∧w6.drew.cell? ⟨w1.heap.size,2,none⟩=some (.int .i64 m9)∧w6.drew.cell? ⟨w1.heap.size,3,none⟩=some (.int .i64 a9)∧w6.drew.cell? ⟨w1.heap.size,4,none⟩=some (.slice o9 l9 c9):=zha Ap.out.1 Bs.out.1
      have s1:wA0.drew.cell? ⟨w2.heap.size,0,none⟩=some (.int .i64 nm.kind)∧wA0.drew.cell? ⟨w2.heap.size,1,none⟩=some (.string ⟨nm.text.toArray⟩)∧wA0.drew.cell? ⟨w2.heap.size,2,none⟩=some (.int .i64 nm.num)∧wA0.drew.cell? ⟨w2.heap.size,3,none⟩=some (.int .i64 nm.at_)∧wA0.drew.cell? ⟨w1.heap.size,0,none⟩=some (.int .i64 k9)∧wA0.drew.cell? ⟨w1.heap.size,1,none⟩=some (.string ⟨n9.toArray⟩)∧wA0.drew.cell? ⟨w1.heap.size,2,none⟩=some (.int .i64 m9)∧wA0.drew.cell? ⟨w1.heap.size,3,none⟩=some (.int .i64 a9)∧wA0.drew.cell? ⟨w1.heap.size,4,none⟩=some (.slice o9 l9 c9):=zha (Ap.out.below hbA).1 (Bs.out.below hbA).1
      obtain ⟨t0,t1,t2,t3⟩:=zbq Ap.out.1
      obtain ⟨e0,e1,e2,e3⟩:=zbq (Ap.out.below hbA).1
      clear hP hS hp hrv hl45 hle hbA
      go_wp2_with fail
      cases rv with
      | no why at_ =>
       go_region_dies
       all_goals (
        refine (Dp.out _ ?_).mono ?_
        · first|exact zaj (Below.refl _ _) 1|exact zaj Aq.out 1
        · rintro e w9 ⟨rfl,hS⟩
          refine ⟨rfl,?_⟩
          rw [Dn.out]
          first
           | exact ⟨rfl,Cd.out.trans ((Sole.of_below (zaj (Below.refl _ _) 1)).trans hS)⟩
           | exact ⟨rfl,Cd.out.trans ((Sole.of_below (zaj Aq.out 1)).trans hS)⟩)
      | ok tv st =>
       obtain ⟨k8,n8,m8,a8,ks8⟩:=tv
       go_upto_region 6 with fail
       go_cut [6] (fun xv wc=>∃ (BB QQ i:Nat) (full:Bool) (o8:Option Addr) (l8 c8:Nat),xv=.pointer (some ⟨BB,0,none⟩)∧st=PSof ts i full∧Hid (Sole p w wc)∧Hid (PP wc p g cap ts i d full)∧Hid (Kep w wc w.heap.size (kidO 0 [] 0 0 (.slice none 0 0)))∧Hid (Kep w wc BB (kidO 12 nm.text 0 nm.at_ (.slice (some ⟨QQ,0,none⟩) 2 2)))∧Hid (Kep w wc QQ (zdw [.int .i64 k8,.string ⟨n8.toArray⟩,.int .i64 m8,.int .i64 a8,.slice o8 l8 c8,.int .i64 k9,.string ⟨n9.toArray⟩,.int .i64 m9,.int .i64 a9,.slice o9 l9 c9]))∧Hid (zab (fun b=>w4.heap.size<=b∧b<w5.heap.size) wc l (.slice (some ⟨q7,0,none⟩) LN c7))∧Hid (zae (fun b=>w6.heap.size<=b∧b≠BB∧b≠QQ) wc (.node k8 n8 m8 a8 ks8) (kidV k8 n8 m8 a8 (.slice o8 l8 c8)))∧Hid (zae (fun b=>wa.heap.size<=b∧b<w1.heap.size) wc (.node k9 n9 m9 a9 ks9) (kidV k9 n9 m9 a9 (.slice o9 l9 c9)))∧Hid (QQ≠BB∧w.heap.size<BB∧w.heap.size<QQ∧w5.heap.size<=QQ∧w5.heap.size<=BB))
       case first =>
        go_region_held (fun w'=>w'.cell? ⟨w2.heap.size,0,none⟩=some (.int .i64 nm.kind)∧w'.cell? ⟨w2.heap.size,1,none⟩=some (.string ⟨nm.text.toArray⟩)∧w'.cell? ⟨w2.heap.size,2,none⟩=some (.int .i64 nm.num)∧w'.cell? ⟨w2.heap.size,3,none⟩=some (.int .i64 nm.at_)∧w'.cell? ⟨w1.heap.size,0,none⟩=some (.int .i64 k9)∧w'.cell? ⟨w1.heap.size,1,none⟩=some (.string ⟨n9.toArray⟩)∧w'.cell? ⟨w1.heap.size,2,none⟩=some (.int .i64 m9)∧w'.cell? ⟨w1.heap.size,3,none⟩=some (.int .i64 a9)∧w'.cell? ⟨w1.heap.size,4,none⟩=some (.slice o9 l9 c9)) (first|with_reducible exact s0|with_reducible exact s1|with_reducible exact s2|with_reducible exact s3|with_reducible exact s4|with_reducible exact s5|with_reducible exact s6|with_reducible exact s7|with_reducible exact s8 _|with_reducible exact s10 _ _ _ _ _) (first
         | (go_at_call 118
            refine (Dp.out _ ?_).mono ?_
            (first|exact zaj (Below.refl _ _) 1|exact zaj Aq.out 1)
            rintro e w7 ⟨v,i,full,rfl,hT,rfl,hP,hS0⟩
            obtain ⟨sl,rfl,hL⟩:=zaf.1 hT
            obtain ⟨o8,l8,c8,rfl⟩:=hL.shape
            have hp:=HP.out
            have hl45:=Ab.out
            have hl56:=Ac.out
            have hle:=Aj.out
            have hS:Sole p w6 w7:=by first|exact (Sole.of_below (zaj (Below.refl _ _) 1)).trans hS0|exact (Sole.of_below (zaj Aq.out 1)).trans hS0
            have Ce:Hid (PP w7 p g cap ts i d full):=hP
            have Bl:Hid (Sole p w w7):=Cd.out.trans hS
            have Bb:Hid (Kep w w7 w.heap.size (kidO 0 [] 0 0 (.slice none 0 0))):=Ct.out.sole hp.1 hS
            have Ae:Hid (Kep w w7 w2.heap.size (tokO nm)):=Ap.out.sole hp.1 hS
            have Af:Hid (Kep w w7 w1.heap.size (kidO k9 n9 m9 a9 (.slice o9 l9 c9))):=Bs.out.sole hp.1 hS
            have Cf:Hid (zae (fun b=>wa.heap.size<=b∧b<w1.heap.size) w7 (.node k9 n9 m9 a9 ks9) (kidV k9 n9 m9 a9 (.slice o9 l9 c9))):=Dy.out.sole (fun b h=>by have:=Ba.out;omega) hS
            have Cg:Hid (zab (fun b=>w4.heap.size<=b∧b<w5.heap.size) w7 l (.slice (some ⟨q7,0,none⟩) LN c7)):=Dz.out.sole (fun b h=>by omega) hS
            have Ad:Hid (w6.heap.size<=w7.heap.size):=hS.size
            (first
              | (have Bc:Hid (Kep w w7 w6.heap.size (kidO 0 [] 0 0 (.slice none 0 0))∧zae (fun b=>w6.heap.size<b∧b<w7.heap.size) w7 (.node k8 n8 m8 a8 ks8) (kidV k8 n8 m8 a8 (.slice o8 l8 c8))):=⟨Kep.sole (cur:=wA0.drewN 1) Ca.out hp.1 hS0,(zah.made hT).weaken (fun b h=>⟨Nat.lt_of_lt_of_le Ca.out.lt h.1,h.2⟩)⟩)
              | skip)
            have Ch:Hid (zae (fun b=>w6.heap.size<=b∧b<w7.heap.size) w7 (.node k8 n8 m8 a8 ks8) (kidV k8 n8 m8 a8 (.slice o8 l8 c8))):=(zah.made hT).weaken (fun b h=>⟨by first|exact Nat.le_trans Aq.out.size h.1|exact h.1,h.2⟩)
            obtain ⟨wB1,hwB1⟩:∃ x,w7.alloc (.cells #[.int .i64 k8,.string ⟨n8.toArray⟩,.int .i64 m8,.int .i64 a8,.slice o8 l8 c8,.int .i64 k9,.string ⟨n9.toArray⟩,.int .i64 m9,.int .i64 a9,.slice o9 l9 c9] 29)=x:=⟨_,rfl⟩
            obtain ⟨wA1,hwA1⟩:∃ x,w7.alloc (.cells #[.int .i64 0,.string ⟨#[]⟩,.int .i64 0,.int .i64 0,.slice none 0 0] 29)=x:=⟨_,rfl⟩
            obtain ⟨wAB1,hwAB1⟩:∃ x,wA1.alloc (.cells #[.int .i64 k8,.string ⟨n8.toArray⟩,.int .i64 m8,.int .i64 a8,.slice o8 l8 c8,.int .i64 k9,.string ⟨n9.toArray⟩,.int .i64 m9,.int .i64 a9,.slice o9 l9 c9] 29)=x:=⟨_,rfl⟩
            obtain ⟨wBA1,hwBA1⟩:∃ x,wB1.alloc (.cells #[.int .i64 0,.string ⟨#[]⟩,.int .i64 0,.int .i64 0,.slice none 0 0] 29)=x:=⟨_,rfl⟩
            have bB1:Below w7.heap.size w7 wB1:=by rw [<- hwB1];exact zac _ _
            have bA1:Below w7.heap.size w7 wA1:=by rw [<- hwA1];exact zac _ _
            have bAB1:Below w7.heap.size w7 wAB1:=by rw [<- hwAB1];exact bA1.alloc bA1.size _
            have bBA1:Below w7.heap.size w7 wBA1:=by rw [<- hwBA1];exact bB1.alloc bB1.size _
            have Ax:Hid (Below w7.heap.size w7 wB1∧Below w7.heap.size w7 wA1∧Below w7.heap.size w7 wAB1∧Below w7.heap.size w7 wBA1):=⟨bB1,bA1,bAB1,bBA1⟩
            have Bd:Hid (Kep w wB1 w7.heap.size (zdw [.int .i64 k8,.string ⟨n8.toArray⟩,.int .i64 m8,.int .i64 a8,.slice o8 l8 c8,.int .i64 k9,.string ⟨n9.toArray⟩,.int .i64 m9,.int .i64 a9,.slice o9 l9 c9])):=by show Kep w wB1 _ _;rw [<- hwB1];exact Kep.new Bl.out.size _
            have Aa:Hid (Kep w wBA1 w7.heap.size (zdw [.int .i64 k8,.string ⟨n8.toArray⟩,.int .i64 m8,.int .i64 a8,.slice o8 l8 c8,.int .i64 k9,.string ⟨n9.toArray⟩,.int .i64 m9,.int .i64 a9,.slice o9 l9 c9])∧Kep w wBA1 wB1.heap.size (kidO 0 [] 0 0 (.slice none 0 0))∧w7.heap.size<wB1.heap.size):=by
             refine ⟨?_,?_,Bd.out.lt⟩
             · rw [<- hwBA1];exact Bd.out.alloc _
             · rw [<- hwBA1];exact Kep.new (Nat.le_trans Bl.out.size bB1.size) _
            have Ag:Hid (Kep w wAB1 wA1.heap.size (zdw [.int .i64 k8,.string ⟨n8.toArray⟩,.int .i64 m8,.int .i64 a8,.slice o8 l8 c8,.int .i64 k9,.string ⟨n9.toArray⟩,.int .i64 m9,.int .i64 a9,.slice o9 l9 c9])∧Kep w wAB1 w7.heap.size (kidO 0 [] 0 0 (.slice none 0 0))∧w7.heap.size<wA1.heap.size):=by
             have ha:Kep w wA1 w7.heap.size (kidO 0 [] 0 0 (.slice none 0 0)):=by rw [<- hwA1];exact Kep.new Bl.out.size _
             refine ⟨?_,?_,ha.lt⟩
             · rw [<- hwAB1];exact Kep.new (Nat.le_trans Bl.out.size bA1.size) _
             · rw [<- hwAB1];exact ha.alloc _
            have s2:w7.cell? ⟨w2.heap.size,0,none⟩=some (.int .i64 nm.kind)∧w7.cell? ⟨w2.heap.size,1,none⟩=some (.string ⟨nm.text.toArray⟩)∧w7.cell? ⟨w2.heap.size,2,none⟩=some (.int .i64 nm.num)∧w7.cell? ⟨w2.heap.size,3,none⟩=some (.int .i64 nm.at_)∧w7.cell? ⟨w1.heap.size,0,none⟩=some (.int .i64 k9)∧w7.cell? ⟨w1.heap.size,1,none⟩=some (.string ⟨n9.toArray⟩)∧w7.cell? ⟨w1.heap.size,2,none⟩=some (.int .i64 m9)∧w7.cell? ⟨w1.heap.size,3,none⟩=some (.int .i64 a9)∧w7.cell? ⟨w1.heap.size,4,none⟩=some (.slice o9 l9 c9):=zha Ae.out.1 Af.out.1
            have s3:wB1.cell? ⟨w2.heap.size,0,none⟩=some (.int .i64 nm.kind)∧wB1.cell? ⟨w2.heap.size,1,none⟩=some (.string ⟨nm.text.toArray⟩)∧wB1.cell? ⟨w2.heap.size,2,none⟩=some (.int .i64 nm.num)∧wB1.cell? ⟨w2.heap.size,3,none⟩=some (.int .i64 nm.at_)∧wB1.cell? ⟨w1.heap.size,0,none⟩=some (.int .i64 k9)∧wB1.cell? ⟨w1.heap.size,1,none⟩=some (.string ⟨n9.toArray⟩)∧wB1.cell? ⟨w1.heap.size,2,none⟩=some (.int .i64 m9)∧wB1.cell? ⟨w1.heap.size,3,none⟩=some (.int .i64 a9)∧wB1.cell? ⟨w1.heap.size,4,none⟩=some (.slice o9 l9 c9):=zha (Ae.out.below bB1).1 (Af.out.below bB1).1
            have s4:wA1.cell? ⟨w2.heap.size,0,none⟩=some (.int .i64 nm.kind)∧wA1.cell? ⟨w2.heap.size,1,none⟩=some (.string ⟨nm.text.toArray⟩)∧wA1.cell? ⟨w2.heap.size,2,none⟩=some (.int .i64 nm.num)∧wA1.cell? ⟨w2.heap.size,3,none⟩=some (.int .i64 nm.at_)∧wA1.cell? ⟨w1.heap.size,0,none⟩=some (.int .i64 k9)∧wA1.cell? ⟨w1.heap.size,1,none⟩=some (.string ⟨n9.toArray⟩)∧wA1.cell? ⟨w1.heap.size,2,none⟩=some (.int .i64 m9)∧wA1.cell? ⟨w1.heap.size,3,none⟩=some (.int .i64 a9)∧wA1.cell? ⟨w1.heap.size,4,none⟩=some (.slice o9 l9 c9):=zha (Ae.out.below bA1).1 (Af.out.below bA1).1
            have s5:wAB1.cell? ⟨w2.heap.size,0,none⟩=some (.int .i64 nm.kind)∧wAB1.cell? ⟨w2.heap.size,1,none⟩=some (.string ⟨nm.text.toArray⟩)∧wAB1.cell? ⟨w2.heap.size,2,none⟩=some (.int .i64 nm.num)∧wAB1.cell? ⟨w2.heap.size,3,none⟩=some (.int .i64 nm.at_)∧wAB1.cell? ⟨w1.heap.size,0,none⟩=some (.int .i64 k9)∧wAB1.cell? ⟨w1.heap.size,1,none⟩=some (.string ⟨n9.toArray⟩)∧wAB1.cell? ⟨w1.heap.size,2,none⟩=some (.int .i64 m9)∧wAB1.cell? ⟨w1.heap.size,3,none⟩=some (.int .i64 a9)∧wAB1.cell? ⟨w1.heap.size,4,none⟩=some (.slice o9 l9 c9):=zha (Ae.out.below bAB1).1 (Af.out.below bAB1).1
            have s6:wBA1.cell? ⟨w2.heap.size,0,none⟩=some (.int .i64 nm.kind)∧wBA1.cell? ⟨w2.heap.size,1,none⟩=some (.string ⟨nm.text.toArray⟩)∧wBA1.cell? ⟨w2.heap.size,2,none⟩=some (.int .i64 nm.num)∧wBA1.cell? ⟨w2.heap.size,3,none⟩=some (.int .i64 nm.at_)∧wBA1.cell? ⟨w1.heap.size,0,none⟩=some (.int .i64 k9)∧wBA1.cell? ⟨w1.heap.size,1,none⟩=some (.string ⟨n9.toArray⟩)∧wBA1.cell? ⟨w1.heap.size,2,none⟩=some (.int .i64 m9)∧wBA1.cell? ⟨w1.heap.size,3,none⟩=some (.int .i64 a9)∧wBA1.cell? ⟨w1.heap.size,4,none⟩=some (.slice o9 l9 c9):=zha (Ae.out.below bBA1).1 (Af.out.below bBA1).1
            clear hT hL hP hS hS0 hp hl45 hl56 hle bB1 bA1 bAB1 bBA1
            unfold kidV)
         | (go_at_call_of 109 (Value.slice (some (Addr.mk wA1.heap.size 0 none)) 2 2)
            refine (zdh 12 nm (some ⟨wA1.heap.size,0,none⟩) 2 2 wAB1).mono ?_
            rintro e w9 ⟨rfl,hB9⟩
            have hB9' : Below wAB1.heap.size wAB1 w9:=hB9
            have hb79:Below w7.heap.size w7 w9:=Ax.out.2.2.1.trans (hB9'.mono Ax.out.2.2.1.size)
            have Be:Hid (Below w7.heap.size w7 w9):=hb79
            have Bt:Hid (PP w9 p g cap ts i d full):=Ce.out.below hb79
            have Bm:Hid (Sole p w w9):=Bl.out.trans (Sole.of_below hb79)
            have An:Hid (Kep w w9 w.heap.size (kidO 0 [] 0 0 (.slice none 0 0))):=Bb.out.below hb79
            have Bu:Hid (zab (fun b=>w4.heap.size<=b∧b<w5.heap.size) w9 l (.slice (some ⟨q7,0,none⟩) LN c7)):=Cg.out.below hb79
            have Ao:Hid (zae (fun b=>wa.heap.size<=b∧b<w1.heap.size) w9 (.node k9 n9 m9 a9 ks9) (kidV k9 n9 m9 a9 (.slice o9 l9 c9))):=Cf.out.below hb79
            have Bx:Hid (zae (fun b=>w6.heap.size<=b∧b<w7.heap.size) w9 (.node k8 n8 m8 a8 ks8) (kidV k8 n8 m8 a8 (.slice o8 l8 c8))):=Ch.out.below hb79
            have Ea:Hid (Kep w w9 wA1.heap.size (zdw [.int .i64 k8,.string ⟨n8.toArray⟩,.int .i64 m8,.int .i64 a8,.slice o8 l8 c8,.int .i64 k9,.string ⟨n9.toArray⟩,.int .i64 m9,.int .i64 a9,.slice o9 l9 c9])):=Ag.out.1.below hB9'
            have s7:w9.cell? ⟨w2.heap.size,0,none⟩=some (.int .i64 nm.kind)∧w9.cell? ⟨w2.heap.size,1,none⟩=some (.string ⟨nm.text.toArray⟩)∧w9.cell? ⟨w2.heap.size,2,none⟩=some (.int .i64 nm.num)∧w9.cell? ⟨w2.heap.size,3,none⟩=some (.int .i64 nm.at_)∧w9.cell? ⟨w1.heap.size,0,none⟩=some (.int .i64 k9)∧w9.cell? ⟨w1.heap.size,1,none⟩=some (.string ⟨n9.toArray⟩)∧w9.cell? ⟨w1.heap.size,2,none⟩=some (.int .i64 m9)∧w9.cell? ⟨w1.heap.size,3,none⟩=some (.int .i64 a9)∧w9.cell? ⟨w1.heap.size,4,none⟩=some (.slice o9 l9 c9):=zha (Ae.out.below hb79).1 (Af.out.below hb79).1
            have s8:=fun x=>zha ((Ae.out.below hb79).alloc x).1 ((Af.out.below hb79).alloc x).1
            have Ar:Hid (Kep w w9 w7.heap.size (kidO 0 [] 0 0 (.slice none 0 0))):=Ag.out.2.1.below hB9'
            obtain ⟨⟨z0,z1,z2,z3,z4⟩,⟨y0,y1,y2,y3,y4⟩⟩:=zaa Ar.out.1
            have hne:w2.heap.size≠w7.heap.size:=by have:=Aj.out;have:=Ab.out;have:=Ac.out;have:=Ad.out;have:=Aa.out.2.2;omega
            have hne2:w1.heap.size≠w7.heap.size:=by have:=Aj.out;have:=Ab.out;have:=Ac.out;have:=Ad.out;have:=Aa.out.2.2;omega
            have s10:=fun x0 x1 x2 x3 x4=>zha (zhk (v0:=x0) (v1:=x1) (v2:=x2) (v3:=x3) (v4:=x4) (Ae.out.below hb79).1 hne) ((zbf w9 w7.heap.size x0 x1 x2 x3 x4 w1.heap.size hne2).trans (Af.out.below hb79).1)
            clear hne hne2
            clear hB9 hB9' hb79
            unfold kidV)
         | (go_at_call_of 109 (Value.slice (some (Addr.mk w7.heap.size 0 none)) 2 2)
            refine (zdh 12 nm (some ⟨w7.heap.size,0,none⟩) 2 2 _).mono ?_
            rintro e w9 ⟨rfl,hB9⟩
            (first
              | (
                 have hB9' : Below wBA1.heap.size wBA1 w9:=hB9
                 have hb79:Below w7.heap.size w7 w9:=Ax.out.2.2.2.trans (hB9'.mono Ax.out.2.2.2.size)
                 have Be:Hid (Below w7.heap.size w7 w9):=hb79
                 have Bt:Hid (PP w9 p g cap ts i d full):=Ce.out.below hb79
                 have Bm:Hid (Sole p w w9):=Bl.out.trans (Sole.of_below hb79)
                 have An:Hid (Kep w w9 w.heap.size (kidO 0 [] 0 0 (.slice none 0 0))):=Bb.out.below hb79
                 have Bu:Hid (zab (fun b=>w4.heap.size<=b∧b<w5.heap.size) w9 l (.slice (some ⟨q7,0,none⟩) LN c7)):=Cg.out.below hb79
                 have Ao:Hid (zae (fun b=>wa.heap.size<=b∧b<w1.heap.size) w9 (.node k9 n9 m9 a9 ks9) (kidV k9 n9 m9 a9 (.slice o9 l9 c9))):=Cf.out.below hb79
                 have Bx:Hid (zae (fun b=>w6.heap.size<=b∧b<w7.heap.size) w9 (.node k8 n8 m8 a8 ks8) (kidV k8 n8 m8 a8 (.slice o8 l8 c8))):=Ch.out.below hb79
                 have Eb:Hid (Kep w w9 w7.heap.size (zdw [.int .i64 k8,.string ⟨n8.toArray⟩,.int .i64 m8,.int .i64 a8,.slice o8 l8 c8,.int .i64 k9,.string ⟨n9.toArray⟩,.int .i64 m9,.int .i64 a9,.slice o9 l9 c9])):=Aa.out.1.below hB9'
                 have s7:w9.cell? ⟨w2.heap.size,0,none⟩=some (.int .i64 nm.kind)∧w9.cell? ⟨w2.heap.size,1,none⟩=some (.string ⟨nm.text.toArray⟩)∧w9.cell? ⟨w2.heap.size,2,none⟩=some (.int .i64 nm.num)∧w9.cell? ⟨w2.heap.size,3,none⟩=some (.int .i64 nm.at_)∧w9.cell? ⟨w1.heap.size,0,none⟩=some (.int .i64 k9)∧w9.cell? ⟨w1.heap.size,1,none⟩=some (.string ⟨n9.toArray⟩)∧w9.cell? ⟨w1.heap.size,2,none⟩=some (.int .i64 m9)∧w9.cell? ⟨w1.heap.size,3,none⟩=some (.int .i64 a9)∧w9.cell? ⟨w1.heap.size,4,none⟩=some (.slice o9 l9 c9):=zha (Ae.out.below hb79).1 (Af.out.below hb79).1
                 have s8:=fun x=>zha ((Ae.out.below hb79).alloc x).1 ((Af.out.below hb79).alloc x).1
                 have Au:Hid (Kep w w9 wB1.heap.size (kidO 0 [] 0 0 (.slice none 0 0))):=Aa.out.2.1.below hB9'
                 obtain ⟨⟨z0,z1,z2,z3,z4⟩,⟨y0,y1,y2,y3,y4⟩⟩:=zaa Au.out.1
                 have hne:w2.heap.size≠wB1.heap.size:=by have:=Aj.out;have:=Ab.out;have:=Ac.out;have:=Ad.out;have:=Aa.out.2.2;omega
                 have hne2:w1.heap.size≠wB1.heap.size:=by have:=Aj.out;have:=Ab.out;have:=Ac.out;have:=Ad.out;have:=Aa.out.2.2;omega
                 have s10:=fun x0 x1 x2 x3 x4=>zha (zhk (v0:=x0) (v1:=x1) (v2:=x2) (v3:=x3) (v4:=x4) (Ae.out.below hb79).1 hne) ((zbf w9 wB1.heap.size x0 x1 x2 x3 x4 w1.heap.size hne2).trans (Af.out.below hb79).1)
                 clear hne hne2
                 clear hB9 hB9' hb79
                 unfold kidV)
              | (
                 have hB9' : Below wB1.heap.size wB1 w9:=hB9
                 have hb79:Below w7.heap.size w7 w9:=Ax.out.1.trans (hB9'.mono Ax.out.1.size)
                 have Be:Hid (Below w7.heap.size w7 w9):=hb79
                 have Bt:Hid (PP w9 p g cap ts i d full):=Ce.out.below hb79
                 have Bm:Hid (Sole p w w9):=Bl.out.trans (Sole.of_below hb79)
                 have An:Hid (Kep w w9 w.heap.size (kidO 0 [] 0 0 (.slice none 0 0))):=Bb.out.below hb79
                 have Bu:Hid (zab (fun b=>w4.heap.size<=b∧b<w5.heap.size) w9 l (.slice (some ⟨q7,0,none⟩) LN c7)):=Cg.out.below hb79
                 have Ao:Hid (zae (fun b=>wa.heap.size<=b∧b<w1.heap.size) w9 (.node k9 n9 m9 a9 ks9) (kidV k9 n9 m9 a9 (.slice o9 l9 c9))):=Cf.out.below hb79
                 have Bx:Hid (zae (fun b=>w6.heap.size<=b∧b<w7.heap.size) w9 (.node k8 n8 m8 a8 ks8) (kidV k8 n8 m8 a8 (.slice o8 l8 c8))):=Ch.out.below hb79
                 have Ec:Hid (Kep w w9 w7.heap.size (zdw [.int .i64 k8,.string ⟨n8.toArray⟩,.int .i64 m8,.int .i64 a8,.slice o8 l8 c8,.int .i64 k9,.string ⟨n9.toArray⟩,.int .i64 m9,.int .i64 a9,.slice o9 l9 c9])):=Bd.out.below hB9'
                 have s7:w9.cell? ⟨w2.heap.size,0,none⟩=some (.int .i64 nm.kind)∧w9.cell? ⟨w2.heap.size,1,none⟩=some (.string ⟨nm.text.toArray⟩)∧w9.cell? ⟨w2.heap.size,2,none⟩=some (.int .i64 nm.num)∧w9.cell? ⟨w2.heap.size,3,none⟩=some (.int .i64 nm.at_)∧w9.cell? ⟨w1.heap.size,0,none⟩=some (.int .i64 k9)∧w9.cell? ⟨w1.heap.size,1,none⟩=some (.string ⟨n9.toArray⟩)∧w9.cell? ⟨w1.heap.size,2,none⟩=some (.int .i64 m9)∧w9.cell? ⟨w1.heap.size,3,none⟩=some (.int .i64 a9)∧w9.cell? ⟨w1.heap.size,4,none⟩=some (.slice o9 l9 c9):=zha (Ae.out.below hb79).1 (Af.out.below hb79).1
                 have s8:=fun x=>zha ((Ae.out.below hb79).alloc x).1 ((Af.out.below hb79).alloc x).1
                 have Am:Hid (Kep w w9 w6.heap.size (kidO 0 [] 0 0 (.slice none 0 0))):=Bc.out.1.below (Ax.out.1.trans (hB9'.mono Ax.out.1.size))
                 obtain ⟨⟨z0,z1,z2,z3,z4⟩,⟨y0,y1,y2,y3,y4⟩⟩:=zaa Am.out.1
                 have hne:w2.heap.size≠w6.heap.size:=by have:=Aj.out;have:=Ab.out;have:=Ac.out;have:=Ad.out;have:=Aa.out.2.2;omega
                 have hne2:w1.heap.size≠w6.heap.size:=by have:=Aj.out;have:=Ab.out;have:=Ac.out;have:=Ad.out;have:=Aa.out.2.2;omega
                 have s10:=fun x0 x1 x2 x3 x4=>zha (zhk (v0:=x0) (v1:=x1) (v2:=x2) (v3:=x3) (v4:=x4) (Ae.out.below hb79).1 hne) ((zbf w9 w6.heap.size x0 x1 x2 x3 x4 w1.heap.size hne2).trans (Af.out.below hb79).1)
                 clear hne hne2
                 clear hB9 hB9' hb79
                 unfold kidV)
              | (
                 have hB9' : Below wB1.heap.size wB1 w9:=hB9
                 have hb79:Below w7.heap.size w7 w9:=Ax.out.1.trans (hB9'.mono Ax.out.1.size)
                 have Be:Hid (Below w7.heap.size w7 w9):=hb79
                 have Bt:Hid (PP w9 p g cap ts i d full):=Ce.out.below hb79
                 have Bm:Hid (Sole p w w9):=Bl.out.trans (Sole.of_below hb79)
                 have An:Hid (Kep w w9 w.heap.size (kidO 0 [] 0 0 (.slice none 0 0))):=Bb.out.below hb79
                 have Bu:Hid (zab (fun b=>w4.heap.size<=b∧b<w5.heap.size) w9 l (.slice (some ⟨q7,0,none⟩) LN c7)):=Cg.out.below hb79
                 have Ao:Hid (zae (fun b=>wa.heap.size<=b∧b<w1.heap.size) w9 (.node k9 n9 m9 a9 ks9) (kidV k9 n9 m9 a9 (.slice o9 l9 c9))):=Cf.out.below hb79
                 have Bx:Hid (zae (fun b=>w6.heap.size<=b∧b<w7.heap.size) w9 (.node k8 n8 m8 a8 ks8) (kidV k8 n8 m8 a8 (.slice o8 l8 c8))):=Ch.out.below hb79
                 have Cu:Hid (Kep w w9 w7.heap.size (zdw [.int .i64 k8,.string ⟨n8.toArray⟩,.int .i64 m8,.int .i64 a8,.slice o8 l8 c8,.int .i64 k9,.string ⟨n9.toArray⟩,.int .i64 m9,.int .i64 a9,.slice o9 l9 c9])):=Bd.out.below hB9'
                 have s7:w9.cell? ⟨w2.heap.size,0,none⟩=some (.int .i64 nm.kind)∧w9.cell? ⟨w2.heap.size,1,none⟩=some (.string ⟨nm.text.toArray⟩)∧w9.cell? ⟨w2.heap.size,2,none⟩=some (.int .i64 nm.num)∧w9.cell? ⟨w2.heap.size,3,none⟩=some (.int .i64 nm.at_)∧w9.cell? ⟨w1.heap.size,0,none⟩=some (.int .i64 k9)∧w9.cell? ⟨w1.heap.size,1,none⟩=some (.string ⟨n9.toArray⟩)∧w9.cell? ⟨w1.heap.size,2,none⟩=some (.int .i64 m9)∧w9.cell? ⟨w1.heap.size,3,none⟩=some (.int .i64 a9)∧w9.cell? ⟨w1.heap.size,4,none⟩=some (.slice o9 l9 c9):=zha (Ae.out.below hb79).1 (Af.out.below hb79).1
                 have s8:=fun x=>zha ((Ae.out.below hb79).alloc x).1 ((Af.out.below hb79).alloc x).1
                 clear hB9 hB9' hb79
                 unfold kidV))))
        · have hle:=Aj.out
          have hl45:=Ab.out
          have hl56:=Ac.out
          have hl67:=Ad.out
          have hq9:=Cu.out.lt
          have hp:=HP.out
          obtain ⟨wc,hwc⟩:∃ x,w9.alloc (.cells #[.int .i64 12,.string ⟨nm.text.toArray⟩,.int .i64 0,.int .i64 nm.at_,.slice (some ⟨w7.heap.size,0,none⟩) 2 2] 29)=x:=⟨_,rfl⟩
          have Ay:Hid (Sole p w wc):=by rw [<- hwc];exact Bm.out.alloc _
          have Bf:Hid (PP wc p g cap ts i d full):=by rw [<- hwc];exact Bt.out.alloc _
          have Ak:Hid (Kep w wc w.heap.size (kidO 0 [] 0 0 (.slice none 0 0))):=by rw [<- hwc];exact An.out.alloc _
          have Ai:Hid (Kep w wc w9.heap.size (kidO 12 nm.text 0 nm.at_ (.slice (some ⟨w7.heap.size,0,none⟩) 2 2))):=by rw [<- hwc];exact Kep.new Bm.out.size _
          have Bg:Hid (Kep w wc w7.heap.size (zdw [.int .i64 k8,.string ⟨n8.toArray⟩,.int .i64 m8,.int .i64 a8,.slice o8 l8 c8,.int .i64 k9,.string ⟨n9.toArray⟩,.int .i64 m9,.int .i64 a9,.slice o9 l9 c9])):=by rw [<- hwc];exact Cu.out.alloc _
          have Bh:Hid (zab (fun b=>w4.heap.size<=b∧b<w5.heap.size) wc l (.slice (some ⟨q7,0,none⟩) LN c7)):=by rw [<- hwc];exact Bu.out.below (zac _ _)
          have Bi:Hid (zae (fun b=>w6.heap.size<=b∧b≠w9.heap.size∧b≠w7.heap.size) wc (.node k8 n8 m8 a8 ks8) (kidV k8 n8 m8 a8 (.slice o8 l8 c8))):=by rw [<- hwc];exact (Bx.out.below (zac _ _)).weaken (fun b h=>⟨h.1,by omega,by omega⟩)
          have Al:Hid (zae (fun b=>wa.heap.size<=b∧b<w1.heap.size) wc (.node k9 n9 m9 a9 ks9) (kidV k9 n9 m9 a9 (.slice o9 l9 c9))):=by rw [<- hwc];exact Ao.out.below (zac _ _)
          rw [hwc]
          clear hwc
          clear hle hl45 hl56 hl67 hq9 hp
          have hle:=Aj.out
          have hl45:=Ab.out
          have hl56:=Ac.out
          have hl67:=Ad.out
          have Az:Hid (w7.heap.size≠w9.heap.size∧w.heap.size<w9.heap.size∧w.heap.size<w7.heap.size∧w5.heap.size<=w7.heap.size∧w5.heap.size<=w9.heap.size):=by show _∧_;have:=Cu.out.lt;refine ⟨by omega,by omega,by omega,by omega,by omega⟩
          go_wp2_with fail
          go_meet
          exact ⟨w9.heap.size,w7.heap.size,i,full,o8,l8,c8,rfl,rfl,Ay,Bf,Ak,Ai,Bg,Bh,Bi,Al,Az⟩
        · have hgd:=Au.out
          clear hgd
          have hle:=Aj.out
          have hl45:=Ab.out
          have hl56:=Ac.out
          have hl67:=Ad.out
          have hb1:=Aa.out.2.2
          have ha1:=Ag.out.2.2
          have hp:=HP.out
          have h06:=Aj.out
          obtain ⟨wc,hwc⟩:∃ x,((((w9.setCell ⟨wB1.heap.size,0,none⟩ (.int .i64 12)).setCell ⟨wB1.heap.size,1,none⟩ (.string ⟨nm.text.toArray⟩)).setCell ⟨wB1.heap.size,2,none⟩ (.int .i64 0)).setCell ⟨wB1.heap.size,3,none⟩ (.int .i64 nm.at_)).setCell ⟨wB1.heap.size,4,none⟩ (.slice (some ⟨w7.heap.size,0,none⟩) 2 2)=x:=⟨_,rfl⟩
          have hf9:=fin5 (r:=wB1.heap.size) (w9:=w9) (k:=12) (n:=nm.text) (m:=0) (a:=nm.at_) (sl:=.slice (some ⟨w7.heap.size,0,none⟩) 2 2) Au.out.2 Bm.out wc hwc
          have Ay:Hid (Sole p w wc):=hf9.1
          have Bf:Hid (PP wc p g cap ts i d full):=Bt.out.sole_but (by omega) (by omega) hf9.2
          have Ak:Hid (Kep w wc w.heap.size (kidO 0 [] 0 0 (.slice none 0 0))):=An.out.but hf9.2 (by omega)
          have Ai:Hid (Kep w wc wB1.heap.size (kidO 12 nm.text 0 nm.at_ (.slice (some ⟨w7.heap.size,0,none⟩) 2 2))):=⟨by rw [<- hwc];exact zc6 Au.out.1,Au.out.2⟩
          have Bg:Hid (Kep w wc w7.heap.size (zdw [.int .i64 k8,.string ⟨n8.toArray⟩,.int .i64 m8,.int .i64 a8,.slice o8 l8 c8,.int .i64 k9,.string ⟨n9.toArray⟩,.int .i64 m9,.int .i64 a9,.slice o9 l9 c9])):=Eb.out.but hf9.2 (by omega)
          have Bh:Hid (zab (fun b=>w4.heap.size<=b∧b<w5.heap.size) wc l (.slice (some ⟨q7,0,none⟩) LN c7)):=Bu.out.but (fun b h=>by omega) hf9.2
          have Bi:Hid (zae (fun b=>w6.heap.size<=b∧b≠wB1.heap.size∧b≠w7.heap.size) wc (.node k8 n8 m8 a8 ks8) (kidV k8 n8 m8 a8 (.slice o8 l8 c8))):=zae.frame (fun _ h=>h) (fun b h _=>hf9.2 b h.2.1) _ _ (Bx.out.weaken (fun b h=>⟨h.1,by omega,by omega⟩))
          have Al:Hid (zae (fun b=>wa.heap.size<=b∧b<w1.heap.size) wc (.node k9 n9 m9 a9 ks9) (kidV k9 n9 m9 a9 (.slice o9 l9 c9))):=zae.frame (fun _ h=>h) (fun b h _=>hf9.2 b (by have:=Ba.out;omega)) _ _ Ao.out
          rw [hwc]
          clear hwc
          clear hf9 hle hl45 hl56 hl67 hb1 ha1 hp h06
          have hle:=Aj.out
          have hl45:=Ab.out
          have hl56:=Ac.out
          have hl67:=Ad.out
          have Az:Hid (w7.heap.size≠wB1.heap.size∧w.heap.size<wB1.heap.size∧w.heap.size<w7.heap.size∧w5.heap.size<=w7.heap.size∧w5.heap.size<=wB1.heap.size):=by show _∧_;have:=Aa.out.2.2;have:=Ag.out.2.2;refine ⟨by omega,by omega,by omega,by omega,by omega⟩
          go_wp2_with fail
          go_meet
          exact ⟨wB1.heap.size,w7.heap.size,i,full,o8,l8,c8,rfl,rfl,Ay,Bf,Ak,Ai,Bg,Bh,Bi,Al,Az⟩
        · have hgd:=Ar.out
          clear hgd
          have hle:=Aj.out
          have hl45:=Ab.out
          have hl56:=Ac.out
          have hl67:=Ad.out
          have hb1:=Aa.out.2.2
          have ha1:=Ag.out.2.2
          have hp:=HP.out
          have h06:=Aj.out
          obtain ⟨wc,hwc⟩:∃ x,((((w9.setCell ⟨w7.heap.size,0,none⟩ (.int .i64 12)).setCell ⟨w7.heap.size,1,none⟩ (.string ⟨nm.text.toArray⟩)).setCell ⟨w7.heap.size,2,none⟩ (.int .i64 0)).setCell ⟨w7.heap.size,3,none⟩ (.int .i64 nm.at_)).setCell ⟨w7.heap.size,4,none⟩ (.slice (some ⟨wA1.heap.size,0,none⟩) 2 2)=x:=⟨_,rfl⟩
          have hf9:=fin5 (r:=w7.heap.size) (w9:=w9) (k:=12) (n:=nm.text) (m:=0) (a:=nm.at_) (sl:=.slice (some ⟨wA1.heap.size,0,none⟩) 2 2) Ar.out.2 Bm.out wc hwc
          have Ay:Hid (Sole p w wc):=hf9.1
          have Bf:Hid (PP wc p g cap ts i d full):=Bt.out.sole_but (by omega) (by omega) hf9.2
          have Ak:Hid (Kep w wc w.heap.size (kidO 0 [] 0 0 (.slice none 0 0))):=An.out.but hf9.2 (by omega)
          have Ai:Hid (Kep w wc w7.heap.size (kidO 12 nm.text 0 nm.at_ (.slice (some ⟨wA1.heap.size,0,none⟩) 2 2))):=⟨by rw [<- hwc];exact zc6 Ar.out.1,Ar.out.2⟩
          have Bg:Hid (Kep w wc wA1.heap.size (zdw [.int .i64 k8,.string ⟨n8.toArray⟩,.int .i64 m8,.int .i64 a8,.slice o8 l8 c8,.int .i64 k9,.string ⟨n9.toArray⟩,.int .i64 m9,.int .i64 a9,.slice o9 l9 c9])):=Ea.out.but hf9.2 (by omega)
          have Bh:Hid (zab (fun b=>w4.heap.size<=b∧b<w5.heap.size) wc l (.slice (some ⟨q7,0,none⟩) LN c7)):=Bu.out.but (fun b h=>by omega) hf9.2
          have Bi:Hid (zae (fun b=>w6.heap.size<=b∧b≠w7.heap.size∧b≠wA1.heap.size) wc (.node k8 n8 m8 a8 ks8) (kidV k8 n8 m8 a8 (.slice o8 l8 c8))):=zae.frame (fun _ h=>h) (fun b h _=>hf9.2 b h.2.1) _ _ (Bx.out.weaken (fun b h=>⟨h.1,by omega,by omega⟩))
          have Al:Hid (zae (fun b=>wa.heap.size<=b∧b<w1.heap.size) wc (.node k9 n9 m9 a9 ks9) (kidV k9 n9 m9 a9 (.slice o9 l9 c9))):=zae.frame (fun _ h=>h) (fun b h _=>hf9.2 b (by have:=Ba.out;omega)) _ _ Ao.out
          rw [hwc]
          clear hwc
          clear hf9 hle hl45 hl56 hl67 hb1 ha1 hp h06
          have hle:=Aj.out
          have hl45:=Ab.out
          have hl56:=Ac.out
          have hl67:=Ad.out
          have Az:Hid (wA1.heap.size≠w7.heap.size∧w.heap.size<w7.heap.size∧w.heap.size<wA1.heap.size∧w5.heap.size<=wA1.heap.size∧w5.heap.size<=w7.heap.size):=by show _∧_;have:=Aa.out.2.2;have:=Ag.out.2.2;refine ⟨by omega,by omega,by omega,by omega,by omega⟩
          go_wp2_with fail
          go_meet
          exact ⟨w7.heap.size,wA1.heap.size,i,full,o8,l8,c8,rfl,rfl,Ay,Bf,Ak,Ai,Bg,Bh,Bi,Al,Az⟩
        · have hgd:=Am.out
          clear hgd
          have hle:=Aj.out
          have hl45:=Ab.out
          have hl56:=Ac.out
          have hl67:=Ad.out
          have hb1:=Aa.out.2.2
          have ha1:=Ag.out.2.2
          have hp:=HP.out
          have h06:=Bc.out.1.lt
          obtain ⟨wc,hwc⟩:∃ x,((((w9.setCell ⟨w6.heap.size,0,none⟩ (.int .i64 12)).setCell ⟨w6.heap.size,1,none⟩ (.string ⟨nm.text.toArray⟩)).setCell ⟨w6.heap.size,2,none⟩ (.int .i64 0)).setCell ⟨w6.heap.size,3,none⟩ (.int .i64 nm.at_)).setCell ⟨w6.heap.size,4,none⟩ (.slice (some ⟨w7.heap.size,0,none⟩) 2 2)=x:=⟨_,rfl⟩
          have hf9:=fin5 (r:=w6.heap.size) (w9:=w9) (k:=12) (n:=nm.text) (m:=0) (a:=nm.at_) (sl:=.slice (some ⟨w7.heap.size,0,none⟩) 2 2) Am.out.2 Bm.out wc hwc
          have Ay:Hid (Sole p w wc):=hf9.1
          have Bf:Hid (PP wc p g cap ts i d full):=Bt.out.sole_but (by omega) (by omega) hf9.2
          have Ak:Hid (Kep w wc w.heap.size (kidO 0 [] 0 0 (.slice none 0 0))):=An.out.but hf9.2 (by omega)
          have Ai:Hid (Kep w wc w6.heap.size (kidO 12 nm.text 0 nm.at_ (.slice (some ⟨w7.heap.size,0,none⟩) 2 2))):=⟨by rw [<- hwc];exact zc6 Am.out.1,Am.out.2⟩
          have Bg:Hid (Kep w wc w7.heap.size (zdw [.int .i64 k8,.string ⟨n8.toArray⟩,.int .i64 m8,.int .i64 a8,.slice o8 l8 c8,.int .i64 k9,.string ⟨n9.toArray⟩,.int .i64 m9,.int .i64 a9,.slice o9 l9 c9])):=Ec.out.but hf9.2 (by omega)
          have Bh:Hid (zab (fun b=>w4.heap.size<=b∧b<w5.heap.size) wc l (.slice (some ⟨q7,0,none⟩) LN c7)):=Bu.out.but (fun b h=>by omega) hf9.2
          have Bi:Hid (zae (fun b=>w6.heap.size<=b∧b≠w6.heap.size∧b≠w7.heap.size) wc (.node k8 n8 m8 a8 ks8) (kidV k8 n8 m8 a8 (.slice o8 l8 c8))):=zae.frame (fun _ h=>h) (fun b h _=>hf9.2 b h.2.1) _ _ ((Bc.out.2.below (Be.out)).weaken (fun b h=>⟨Nat.le_of_lt h.1,Nat.ne_of_gt h.1,by omega⟩))
          have Al:Hid (zae (fun b=>wa.heap.size<=b∧b<w1.heap.size) wc (.node k9 n9 m9 a9 ks9) (kidV k9 n9 m9 a9 (.slice o9 l9 c9))):=zae.frame (fun _ h=>h) (fun b h _=>hf9.2 b (by have:=Ba.out;omega)) _ _ Ao.out
          rw [hwc]
          clear hwc
          clear hf9 hle hl45 hl56 hl67 hb1 ha1 hp h06
          have hle:=Aj.out
          have hl45:=Ab.out
          have hl56:=Ac.out
          have hl67:=Ad.out
          have Az:Hid (w7.heap.size≠w6.heap.size∧w.heap.size<w6.heap.size∧w.heap.size<w7.heap.size∧w5.heap.size<=w7.heap.size∧w5.heap.size<=w6.heap.size):=by show _∧_;have:=Aa.out.2.2;have:=Ag.out.2.2;have:=Bc.out.1.lt;refine ⟨by omega,by omega,by omega,by omega,by omega⟩
          go_wp2_with fail
          go_meet
          exact ⟨w6.heap.size,w7.heap.size,i,full,o8,l8,c8,rfl,rfl,Ay,Bf,Ak,Ai,Bg,Bh,Bi,Al,Az⟩
       case rest =>
        obtain ⟨BB,QQ,i,full,o8,l8,c8,rfl,rfl,Ay,Bf,Ak,Ai,Bg,Bh,Bi,Al,Az⟩:=hcut
        have Ad:Hid True:=trivial
        have Ef:Hid True:=trivial
        have hle:=Aj.out
        have hl45:=Ab.out
        have hl56:=Ac.out
        have hl67:=Ad.out
        have hp:=HP.out
        obtain ⟨ys,hyl,hy1,hyr,hyc,hyq⟩:=Bh.out.cellsOf
        rw [Bw.out.1] at hyl
        have Ci:Hid (ys.length=LN*5∧(∀ u∈ys,u.oneCell'=true)∧RowV (fun b=>(w4.heap.size<=b∧b<w5.heap.size)∧b≠q7) wc l ys∧(∀ j u,ys[j]?=some u->wc.cell? ((⟨q7,0,none⟩:Addr).add j)=some u)):=⟨hyl,hy1,hyr,hyc⟩
        have Ed:Hid (wc.ownsRow 0 29 5 (.slice (some ⟨QQ,0,none⟩) 2 2) 2 [.int .i64 k8,.string ⟨n8.toArray⟩,.int .i64 m8,.int .i64 a8,.slice o8 l8 c8,.int .i64 k9,.string ⟨n9.toArray⟩,.int .i64 m9,.int .i64 a9,.slice o9 l9 c9]):=zgz Bg.out.1 rfl (by decide)
        have Cv:Hid (0<LN):=by
         show 0<LN
         rw [<- Bw.out.1]
         cases hq:l with
         | nil=>exact absurd hq Bw.out.2.2
         | cons _ _=>simp
        obtain ⟨⟨v0,v1,v2,v3,v4⟩,⟨f0,f1,f2,f3,f4⟩⟩:=zaa Ai.out.1
        clear hle hl45 hl56 hl67 hp hyl hy1 hyr hyc hyq
        go_wp2_with (at_builtin;refine wpList_append_lies _ rfl _ _ 27 rfl 0 29 inf (.agg #[.int .i64 0,.string ⟨#[]⟩,.int .i64 0,.int .i64 0,.slice none 0 0]) 5 64 Tryz.underlying27 HI.out.1 HI.out.2.1 HI.out.2.2.1 HI.out.2.2.2 rfl (by decide) (.slice (some ⟨QQ,0,none⟩) 2 2) 2 [.int .i64 k8,.string ⟨n8.toArray⟩,.int .i64 m8,.int .i64 a8,.slice o8 l8 c8,.int .i64 k9,.string ⟨n9.toArray⟩,.int .i64 m9,.int .i64 a9,.slice o9 l9 c9] rfl Ed.out ⟨q7,0,none⟩ LN c7 ys rfl Ci.out.1 Ci.out.2.2.2 Ci.out.2.1 Cv.out (by have:=Bw.out;unfold maxLen;omega) (by have:=Bw.out;omega) (Nat.zero_le _) _ rfl ?_;intro gq cq w11 hown hgrow hat hlt;have hne:=Az.out;have hpp:=HP.out;have Av:Hid (Kep w w11 BB (kidO 12 nm.text 0 nm.at_ (.slice (some ⟨QQ,0,none⟩) 2 2))):=Ai.out.grown hgrow (fun e=>hne.1 e.symm);have Bn:Hid (Kep w w11 w.heap.size (kidO 0 [] 0 0 (.slice none 0 0))):=Ak.out.grown hgrow (Nat.ne_of_lt hne.2.2.1);obtain ⟨⟨l0,l1,l2,l3,l4⟩,⟨e0,e1,e2,e3,e4⟩⟩:=zaa Av.out.1;obtain ⟨⟨j0,j1,j2,j3,j4⟩,⟨d0,d1,d2,d3,d4⟩⟩:=zaa Bn.out.1;have hq1:¬ w.heap.size=BB:=Nat.ne_of_lt hne.2.1;have hq2:¬ BB=w.heap.size:=fun e=>hq1 e.symm;have HG:Hid (wc.grownBy w11 (some QQ)∧w11.ownsRow 0 29 5 (.slice (some ⟨gq,0,none⟩) (2+LN) cq) (2+LN) ([.int .i64 k8,.string ⟨n8.toArray⟩,.int .i64 m8,.int .i64 a8,.slice o8 l8 c8,.int .i64 k9,.string ⟨n9.toArray⟩,.int .i64 m9,.int .i64 a9,.slice o9 l9 c9]++ys)∧((Value.slice (some ⟨QQ,0,none⟩) 2 2).ownBlock=some gq∨gq=wc.heap.size)):=⟨hgrow,hown,hat⟩;clear hown hgrow hat hlt hne hpp)
        have hne:=Az.out
        have hp:=HP.out
        have hle:=Aj.out
        have hl45:=Ab.out
        have hl56:=Ac.out
        have hl67:=Ad.out
        have hsc:=Ay.out.size
        have hcl:=Ai.out.lt
        have hla:=Ba.out
        have hz:∀ b,b≠BB->(w11.setCell ⟨BB,4,none⟩ (.slice (some ⟨gq,0,none⟩) (2+LN) cq)).heap[b]?=w11.heap[b]?:=fun b hb=>Below.heap_setCell _ _ _ _ hb
        have Cb:Hid (PP (w11.setCell ⟨BB,4,none⟩ (.slice (some ⟨gq,0,none⟩) (2+LN) cq)) p g cap ts i d full):=(Bf.out.grown HG.out.1 (by omega) (by omega)).sole_but (by omega) (by omega) hz
        have Bv:Hid (Sole p w (w11.setCell ⟨BB,4,none⟩ (.slice (some ⟨gq,0,none⟩) (2+LN) cq))):=(Ay.out.grown HG.out.1 (by omega)).below_after ((Below.refl _ _).setCell (Nat.le_of_lt hne.2.1) _)
        have Bo:Hid (Kep w (w11.setCell ⟨BB,4,none⟩ (.slice (some ⟨gq,0,none⟩) (2+LN) cq)) w.heap.size (kidO 0 [] 0 0 (.slice none 0 0))):=Bn.out.but hz (by omega)
        have Cc:Hid (zab (fun b=>w.heap.size<b∧b≠BB) (w11.setCell ⟨BB,4,none⟩ (.slice (some ⟨gq,0,none⟩) (2+LN) cq)) ((.node k8 n8 m8 a8 ks8)::(.node k9 n9 m9 a9 ks9)::l) (.slice (some ⟨gq,0,none⟩) (2+LN) cq)):=by
         refine zab.but ?_ (fun b h=>h.2) hz
         refine zbv (ks:=[(.node k8 n8 m8 a8 ks8),(.node k9 n9 m9 a9 ks9)]) (us:=l) (sl:=.slice (some ⟨QQ,0,none⟩) 2 2) (fun q e=>?_) (RowV.append [_] [_] _ _ (za3 (Bi.out.weaken (fun b h=>?_))) (za3 (Al.out.weaken (fun b h=>?_)))) (RowV.frame (fun b h=>?_) (fun _ _ _=>rfl) _ _ Ci.out.2.2.1) (by rw [Bw.out.1];exact HG.out.2.1) HG.out.1 wc.heap.size (Nat.le_refl _) ⟨by omega,by omega⟩ ?_
         · have e2:QQ=q:=Option.some.inj e
           exact ⟨by omega,by omega⟩
         · refine ⟨⟨by omega,h.2.1⟩,fun e=>?_⟩
           have e2:QQ=b:=Option.some.inj e
           exact h.2.2 e2.symm
         · refine ⟨⟨by omega,by omega⟩,fun e=>?_⟩
           have e2:QQ=b:=Option.some.inj e
           omega
         · refine ⟨⟨by omega,by omega⟩,fun e=>?_⟩
           have e2:QQ=b:=Option.some.inj e
           omega
         · rcases HG.out.2.2 with e|e
           · exact Or.inl e.symm
           · exact Or.inr (by rw [e];rfl)
        have Bp:Hid (Kep w (w11.setCell ⟨BB,4,none⟩ (.slice (some ⟨gq,0,none⟩) (2+LN) cq)) BB (kidO 12 nm.text 0 nm.at_ (.slice (some ⟨gq,0,none⟩) (2+LN) cq))):=⟨zhl Av.out.1,Av.out.2⟩
        have Bq:Hid ((w11.setCell ⟨BB,4,none⟩ (.slice (some ⟨gq,0,none⟩) (2+LN) cq)).heap.size=w11.heap.size):=by show _=_;simp
        generalize w11.setCell ⟨BB,4,none⟩ (.slice (some ⟨gq,0,none⟩) (2+LN) cq)=w12 at Cb Bv Bo Bp Cc Bq ⊢
        clear hne hp hle hl45 hl56 hl67 hsc hcl hz hla l0 l1 l2 l3 l4 j0 j1 j2 j3 j4 e0 e1 e2 e3 e4 d0 d1 d2 d3 d4
        have Bj:Hid (Calls Tryz.prog 41 #[.pointer (some ⟨p,0,none⟩),.slice (some ⟨w12.heap.size,0,none⟩) 1 1] (w12.alloc (.cells #[.string ⟨#[59]⟩] 9)) (zam p g cap ts d zf5 ((PSof ts i full).want [59]) w12)):=zbt p g cap ts HE.out i d full [59] (by simp) w12 Cb.out
        obtain ⟨ru,hru⟩:∃ r,(PSof ts i full).want [59]=r:=⟨_,rfl⟩
        have Dq:Hid (R=ru.bind fun _ s=>Ans.ok (named 12 nm ((.node k8 n8 m8 a8 ks8)::(.node k9 n9 m9 a9 ks9)::l)) s):=by
         show _=_
         rw [Dn.out];first|(rw [<- hru];done)|(rw [<- hru];rfl)
        rw [hru,Bq.out] at Bj
        clear hru
        refine Bj.out.mono ?_
        cases ru with
        | no why at_ =>
         rintro e w99 ⟨rfl,hS⟩
         have Ah:Hid (Sole p w w99):=Bv.out.trans hS
         clear hS
         go_wp2
         refine ⟨rfl,?_⟩
         rw [Dq.out]
         exact ⟨rfl,Ah.out⟩
        | ok u st =>
         rintro e w13 ⟨v,i,full,rfl,rfl,rfl,hP,hS⟩
         have hp:=HP.out
         have Cw:Hid (PP w13 p g cap ts i d full):=hP
         have Cx:Hid (Sole p w w13):=Bv.out.trans hS
         have Aw:Hid (Kep w w13 w.heap.size (kidO 0 [] 0 0 (.slice none 0 0))):=Bo.out.sole hp.1 hS
         have Cy:Hid (zab (fun b=>w.heap.size<b∧b≠BB) w13 ((.node k8 n8 m8 a8 ks8)::(.node k9 n9 m9 a9 ks9)::l) (.slice (some ⟨gq,0,none⟩) (2+LN) cq)):=Cc.out.sole (fun b h=>by omega) hS
         obtain ⟨⟨l0,l1,l2,l3,l4⟩,_⟩:=zaa (Bp.out.sole hp.1 hS).1
         clear hP hS hp
         obtain ⟨⟨z0,z1,z2,z3,z4⟩,⟨y0,y1,y2,y3,y4⟩⟩:=zaa Aw.out.1
         go_wp2
         refine ret5 z0 z1 z2 z3 z4 rfl (fun u q0 q1 q2 q3 q4=>by simp [results,Tryz.results119,go_sem,q0,q1,q2,q3,q4]) Aw.out.2 Cx.out ?_
         intro wz hf
         rw [Dq.out]
         have hr2:=Aw.out.2
         have hpg:=HP.out
         exact ⟨_,_,_,rfl,za4 Cy.out (fun b h=>Nat.le_of_lt h.1) (fun b h=>Nat.ne_of_gt h.1) hf.2,rfl,Cw.out.sole_but (by omega) (by omega) hf.2,hf.1⟩
theorem bld034 (k a:Int) (o:Option Addr) (n c:Nat) (w:World):(Instr.build 29 #[(0,.int .i64 k),(3,.int .i64 a),(4,.slice o n c)]).run Tryz.prog w=.ok (.agg #[.int .i64 k,.string ⟨#[]⟩,.int .i64 0,.int .i64 a,.slice o n c]) w:=by kernel_rfl
theorem versionK (p g cap:Nat) (ts:List Tok) (hE:Ends ts) (d:Int):zd4 p g cap ts d 73 zd7 :=
 zhz p g cap ts hE d fun i full w hi h hba=>zjo p g cap ts hE d 11 119 zcq (znf p g cap ts hE d) zjw bodied_119 i full w hi h hba
set_option maxRecDepth 4000 in
theorem zj2 (p g cap:Nat) (ts:List Tok) (d k m:Int) (t:List UInt8) (a:Nat) (w:World) (hp:p<w.heap.size) (hg:g<w.heap.size) (r:Ans Tree) (hconst:(t==[99,111,110,115,116])=true)
 (H0:Hid (∀ w1,Below w.heap.size w w1->Calls Tryz.prog 38 #[.pointer (some ⟨p,0,none⟩)] w1 fun e w'=>e=.returned (.agg #[.int .i64 k,.string ⟨t.toArray⟩,.int .i64 m,.int .i64 a])∧Below w1.heap.size w1 w'))
 (HT:Hid (∀ w1,Below w.heap.size w w1->Calls Tryz.prog 68 #[.pointer (some ⟨p,0,none⟩)] w1 (zam p g cap ts d (zah w1.heap.size) r w1))) :
 Calls Tryz.prog 40 #[.pointer (some ⟨p,0,none⟩)] w (zam p g cap ts d (zah w.heap.size) r w):=by
 have HP:=hid2 hp hg
 clear hp hg
 have hmf:∀ (fn:Fn) (first cap:Array Value) (w:World),(Instr.makeFunc fn first cap).run Tryz.prog w=.ok (.func fn first cap) w:=fun _ _ _ _=>rfl
 have q1:=fld1 k m a ⟨t.toArray⟩
 obtain ⟨wa,hwa⟩:∃ x,w.alloc (.cells #[.int .i64 0,.string ⟨#[]⟩,.int .i64 0,.int .i64 0,.slice none 0 0] 29)=x:=⟨_,rfl⟩
 have b1:Below w.heap.size w wa:=by rw [<- hwa];exact zac _ _
 have Af:Hid (Kep w wa w.heap.size (kidO 0 [] 0 0 (.slice none 0 0))):=by show Kep w wa _ _;rw [<- hwa];exact Kep.new (Nat.le_refl _) _
 have Ac:=hid b1
 have Ag:=hid (H0.out wa b1)
 clear b1
 go_enter Tryz.func40,Tryz.ntmps40
 go_wp2_with fail
 refine Ag.out.mono ?_
 rintro e w1 ⟨rfl,hB1⟩
 have hb01:Below w.heap.size w w1:=Ac.out.trans (hB1.mono Ac.out.size)
 have Ad:Hid (Sole p w w1):=Sole.of_below hb01
 have Ah:=hid hb01
 have Ae:=hid (Af.out.below hB1)
 clear hb01 hB1
 go_wp2_with fail
 clear hwa
 refine (HT.out w1 Ah.out).mono ?_
 cases r with
 | no why at_ =>
  rintro e w99 ⟨rfl,hS⟩
  have Aa:=hid (Ad.out.trans hS)
  clear hS
  go_wp2
  exact ⟨rfl,rfl,Aa.out⟩
 | ok tv st =>
  rintro e w6 ⟨v,i,full,rfl,hT,rfl,hP,hS⟩
  obtain ⟨k8,n8,m8,a8,ks8⟩:=tv
  obtain ⟨sl,rfl,hL⟩:=zaf.1 hT
  obtain ⟨o8,l8,c8,rfl⟩:=hL.shape
  have hlt:=Ae.out.lt
  have Ai:=hid hP
  have Aj:=hid (Ad.out.trans hS)
  have Ab:=hid (Ae.out.sole HP.out.1 hS)
  have Ak:Hid (zab (fun b=>w.heap.size<b) w6 ks8 (.slice o8 l8 c8)):=hL.weaken (fun b h=>by have h1:w1.heap.size<=b:=h;omega)
  clear hP hS hT hL hlt
  unfold kidV
  obtain ⟨⟨z0,z1,z2,z3,z4⟩,⟨y0,y1,y2,y3,y4⟩⟩:=zaa Ab.out.1
  go_wp2
  refine ret5 z0 z1 z2 z3 z4 rfl (fun u q0 q1 q2 q3 q4=>by simp [results,Tryz.results40,go_sem,q0,q1,q2,q3,q4]) Ab.out.2 Aj.out ?_
  intro wz hf
  have hr2:=Ab.out.2
  have hpg:=HP.out
  exact ⟨_,_,_,rfl,za4 Ak.out (fun b h=>Nat.le_of_lt h) (fun b h=>Nat.ne_of_gt h) hf.2,rfl,Ai.out.sole_but (by omega) (by omega) hf.2,hf.1⟩
set_option maxRecDepth 4000 in
theorem zld (p g cap:Nat) (ts:List Tok) (d k m:Int) (t:List UInt8) (a:Nat) (w:World) (hp:p<w.heap.size) (hg:g<w.heap.size) (r:Ans Tree) (hconst:(t==[99,111,110,115,116])=false) (htypedef:(t==[116,121,112,101,100,101,102])=false) (henum:(t==[101,110,117,109])=true)
 (H0:Hid (∀ w1,Below w.heap.size w w1->Calls Tryz.prog 38 #[.pointer (some ⟨p,0,none⟩)] w1 fun e w'=>e=.returned (.agg #[.int .i64 k,.string ⟨t.toArray⟩,.int .i64 m,.int .i64 a])∧Below w1.heap.size w1 w'))
 (HT:Hid (∀ w1,Below w.heap.size w w1->Calls Tryz.prog 71 #[.pointer (some ⟨p,0,none⟩),.bool true] w1 (zam p g cap ts d (zah w1.heap.size) r w1))) :
 Calls Tryz.prog 40 #[.pointer (some ⟨p,0,none⟩)] w (zam p g cap ts d (zah w.heap.size) r w):=by
 have HP:=hid2 hp hg
 clear hp hg
 have hmf:∀ (fn:Fn) (first cap:Array Value) (w:World),(Instr.makeFunc fn first cap).run Tryz.prog w=.ok (.func fn first cap) w:=fun _ _ _ _=>rfl
 have q1:=fld1 k m a ⟨t.toArray⟩
 obtain ⟨wa,hwa⟩:∃ x,w.alloc (.cells #[.int .i64 0,.string ⟨#[]⟩,.int .i64 0,.int .i64 0,.slice none 0 0] 29)=x:=⟨_,rfl⟩
 have b1:Below w.heap.size w wa:=by rw [<- hwa];exact zac _ _
 have Af:Hid (Kep w wa w.heap.size (kidO 0 [] 0 0 (.slice none 0 0))):=by show Kep w wa _ _;rw [<- hwa];exact Kep.new (Nat.le_refl _) _
 have Ac:=hid b1
 have Ag:=hid (H0.out wa b1)
 clear b1
 go_enter Tryz.func40,Tryz.ntmps40
 go_wp2_with fail
 refine Ag.out.mono ?_
 rintro e w1 ⟨rfl,hB1⟩
 have hb01:Below w.heap.size w w1:=Ac.out.trans (hB1.mono Ac.out.size)
 have Ad:Hid (Sole p w w1):=Sole.of_below hb01
 have Ah:=hid hb01
 have Ae:=hid (Af.out.below hB1)
 clear hb01 hB1
 go_wp2_with fail
 clear hwa
 refine (HT.out w1 Ah.out).mono ?_
 cases r with
 | no why at_ =>
  rintro e w99 ⟨rfl,hS⟩
  have Aa:=hid (Ad.out.trans hS)
  clear hS
  go_wp2
  exact ⟨rfl,rfl,Aa.out⟩
 | ok tv st =>
  rintro e w6 ⟨v,i,full,rfl,hT,rfl,hP,hS⟩
  obtain ⟨k8,n8,m8,a8,ks8⟩:=tv
  obtain ⟨sl,rfl,hL⟩:=zaf.1 hT
  obtain ⟨o8,l8,c8,rfl⟩:=hL.shape
  have hlt:=Ae.out.lt
  have Ai:=hid hP
  have Aj:=hid (Ad.out.trans hS)
  have Ab:=hid (Ae.out.sole HP.out.1 hS)
  have Ak:Hid (zab (fun b=>w.heap.size<b) w6 ks8 (.slice o8 l8 c8)):=hL.weaken (fun b h=>by have h1:w1.heap.size<=b:=h;omega)
  clear hP hS hT hL hlt
  unfold kidV
  obtain ⟨⟨z0,z1,z2,z3,z4⟩,⟨y0,y1,y2,y3,y4⟩⟩:=zaa Ab.out.1
  go_wp2
  refine ret5 z0 z1 z2 z3 z4 rfl (fun u q0 q1 q2 q3 q4=>by simp [results,Tryz.results40,go_sem,q0,q1,q2,q3,q4]) Ab.out.2 Aj.out ?_
  intro wz hf
  have hr2:=Ab.out.2
  have hpg:=HP.out
  exact ⟨_,_,_,rfl,za4 Ak.out (fun b h=>Nat.le_of_lt h) (fun b h=>Nat.ne_of_gt h) hf.2,rfl,Ai.out.sole_but (by omega) (by omega) hf.2,hf.1⟩
set_option maxRecDepth 4000 in
theorem zjg (p g cap:Nat) (ts:List Tok) (d k m:Int) (t:List UInt8) (a:Nat) (w:World) (hp:p<w.heap.size) (hg:g<w.heap.size) (r:Ans Tree) (hconst:(t==[99,111,110,115,116])=false) (htypedef:(t==[116,121,112,101,100,101,102])=false) (henum:(t==[101,110,117,109])=false) (hstruct:(t==[115,116,114,117,99,116])=true)
 (H0:Hid (∀ w1,Below w.heap.size w w1->Calls Tryz.prog 38 #[.pointer (some ⟨p,0,none⟩)] w1 fun e w'=>e=.returned (.agg #[.int .i64 k,.string ⟨t.toArray⟩,.int .i64 m,.int .i64 a])∧Below w1.heap.size w1 w'))
 (HT:Hid (∀ w1,Below w.heap.size w w1->Calls Tryz.prog 71 #[.pointer (some ⟨p,0,none⟩),.bool true] w1 (zam p g cap ts d (zah w1.heap.size) r w1))) :
 Calls Tryz.prog 40 #[.pointer (some ⟨p,0,none⟩)] w (zam p g cap ts d (zah w.heap.size) r w):=by
 have HP:=hid2 hp hg
 clear hp hg
 have hmf:∀ (fn:Fn) (first cap:Array Value) (w:World),(Instr.makeFunc fn first cap).run Tryz.prog w=.ok (.func fn first cap) w:=fun _ _ _ _=>rfl
 have q1:=fld1 k m a ⟨t.toArray⟩
 obtain ⟨wa,hwa⟩:∃ x,w.alloc (.cells #[.int .i64 0,.string ⟨#[]⟩,.int .i64 0,.int .i64 0,.slice none 0 0] 29)=x:=⟨_,rfl⟩
 have b1:Below w.heap.size w wa:=by rw [<- hwa];exact zac _ _
 have Af:Hid (Kep w wa w.heap.size (kidO 0 [] 0 0 (.slice none 0 0))):=by show Kep w wa _ _;rw [<- hwa];exact Kep.new (Nat.le_refl _) _
 have Ac:=hid b1
 have Ag:=hid (H0.out wa b1)
 clear b1
 go_enter Tryz.func40,Tryz.ntmps40
 go_wp2_with fail
 refine Ag.out.mono ?_
 rintro e w1 ⟨rfl,hB1⟩
 have hb01:Below w.heap.size w w1:=Ac.out.trans (hB1.mono Ac.out.size)
 have Ad:Hid (Sole p w w1):=Sole.of_below hb01
 have Ah:=hid hb01
 have Ae:=hid (Af.out.below hB1)
 clear hb01 hB1
 go_wp2_with fail
 clear hwa
 refine (HT.out w1 Ah.out).mono ?_
 cases r with
 | no why at_ =>
  rintro e w99 ⟨rfl,hS⟩
  have Aa:=hid (Ad.out.trans hS)
  clear hS
  go_wp2
  exact ⟨rfl,rfl,Aa.out⟩
 | ok tv st =>
  rintro e w6 ⟨v,i,full,rfl,hT,rfl,hP,hS⟩
  obtain ⟨k8,n8,m8,a8,ks8⟩:=tv
  obtain ⟨sl,rfl,hL⟩:=zaf.1 hT
  obtain ⟨o8,l8,c8,rfl⟩:=hL.shape
  have hlt:=Ae.out.lt
  have Ai:=hid hP
  have Aj:=hid (Ad.out.trans hS)
  have Ab:=hid (Ae.out.sole HP.out.1 hS)
  have Ak:Hid (zab (fun b=>w.heap.size<b) w6 ks8 (.slice o8 l8 c8)):=hL.weaken (fun b h=>by have h1:w1.heap.size<=b:=h;omega)
  clear hP hS hT hL hlt
  unfold kidV
  obtain ⟨⟨z0,z1,z2,z3,z4⟩,⟨y0,y1,y2,y3,y4⟩⟩:=zaa Ab.out.1
  go_wp2
  refine ret5 z0 z1 z2 z3 z4 rfl (fun u q0 q1 q2 q3 q4=>by simp [results,Tryz.results40,go_sem,q0,q1,q2,q3,q4]) Ab.out.2 Aj.out ?_
  intro wz hf
  have hr2:=Ab.out.2
  have hpg:=HP.out
  exact ⟨_,_,_,rfl,za4 Ak.out (fun b h=>Nat.le_of_lt h) (fun b h=>Nat.ne_of_gt h) hf.2,rfl,Ai.out.sole_but (by omega) (by omega) hf.2,hf.1⟩
set_option maxRecDepth 4000 in
theorem zj1 (p g cap:Nat) (ts:List Tok) (d k m:Int) (t:List UInt8) (a:Nat) (w:World) (hp:p<w.heap.size) (hg:g<w.heap.size) (r:Ans Tree) (hconst:(t==[99,111,110,115,116])=false) (htypedef:(t==[116,121,112,101,100,101,102])=false) (henum:(t==[101,110,117,109])=false) (hstruct:(t==[115,116,114,117,99,116])=false) (hunion:(t==[117,110,105,111,110])=true)
 (H0:Hid (∀ w1,Below w.heap.size w w1->Calls Tryz.prog 38 #[.pointer (some ⟨p,0,none⟩)] w1 fun e w'=>e=.returned (.agg #[.int .i64 k,.string ⟨t.toArray⟩,.int .i64 m,.int .i64 a])∧Below w1.heap.size w1 w'))
 (HT:Hid (∀ w1,Below w.heap.size w w1->Calls Tryz.prog 71 #[.pointer (some ⟨p,0,none⟩),.bool true] w1 (zam p g cap ts d (zah w1.heap.size) r w1))) :
 Calls Tryz.prog 40 #[.pointer (some ⟨p,0,none⟩)] w (zam p g cap ts d (zah w.heap.size) r w):=by
 have HP:=hid2 hp hg
 clear hp hg
 have hmf:∀ (fn:Fn) (first cap:Array Value) (w:World),(Instr.makeFunc fn first cap).run Tryz.prog w=.ok (.func fn first cap) w:=fun _ _ _ _=>rfl
 have q1:=fld1 k m a ⟨t.toArray⟩
 obtain ⟨wa,hwa⟩:∃ x,w.alloc (.cells #[.int .i64 0,.string ⟨#[]⟩,.int .i64 0,.int .i64 0,.slice none 0 0] 29)=x:=⟨_,rfl⟩
 have b1:Below w.heap.size w wa:=by rw [<- hwa];exact zac _ _
 have Af:Hid (Kep w wa w.heap.size (kidO 0 [] 0 0 (.slice none 0 0))):=by show Kep w wa _ _;rw [<- hwa];exact Kep.new (Nat.le_refl _) _
 have Ac:=hid b1
 have Ag:=hid (H0.out wa b1)
 clear b1
 go_enter Tryz.func40,Tryz.ntmps40
 go_wp2_with fail
 refine Ag.out.mono ?_
 rintro e w1 ⟨rfl,hB1⟩
 have hb01:Below w.heap.size w w1:=Ac.out.trans (hB1.mono Ac.out.size)
 have Ad:Hid (Sole p w w1):=Sole.of_below hb01
 have Ah:=hid hb01
 have Ae:=hid (Af.out.below hB1)
 clear hb01 hB1
 go_wp2_with fail
 clear hwa
 refine (HT.out w1 Ah.out).mono ?_
 cases r with
 | no why at_ =>
  rintro e w99 ⟨rfl,hS⟩
  have Aa:=hid (Ad.out.trans hS)
  clear hS
  go_wp2
  exact ⟨rfl,rfl,Aa.out⟩
 | ok tv st =>
  rintro e w6 ⟨v,i,full,rfl,hT,rfl,hP,hS⟩
  obtain ⟨k8,n8,m8,a8,ks8⟩:=tv
  obtain ⟨sl,rfl,hL⟩:=zaf.1 hT
  obtain ⟨o8,l8,c8,rfl⟩:=hL.shape
  have hlt:=Ae.out.lt
  have Ai:=hid hP
  have Aj:=hid (Ad.out.trans hS)
  have Ab:=hid (Ae.out.sole HP.out.1 hS)
  have Ak:Hid (zab (fun b=>w.heap.size<b) w6 ks8 (.slice o8 l8 c8)):=hL.weaken (fun b h=>by have h1:w1.heap.size<=b:=h;omega)
  clear hP hS hT hL hlt
  unfold kidV
  obtain ⟨⟨z0,z1,z2,z3,z4⟩,⟨y0,y1,y2,y3,y4⟩⟩:=zaa Ab.out.1
  go_wp2
  refine ret5 z0 z1 z2 z3 z4 rfl (fun u q0 q1 q2 q3 q4=>by simp [results,Tryz.results40,go_sem,q0,q1,q2,q3,q4]) Ab.out.2 Aj.out ?_
  intro wz hf
  have hr2:=Ab.out.2
  have hpg:=HP.out
  exact ⟨_,_,_,rfl,za4 Ak.out (fun b h=>Nat.le_of_lt h) (fun b h=>Nat.ne_of_gt h) hf.2,rfl,Ai.out.sole_but (by omega) (by omega) hf.2,hf.1⟩
set_option maxRecDepth 4000 in
theorem ziv (p g cap:Nat) (ts:List Tok) (d k m:Int) (t:List UInt8) (a:Nat) (w:World) (hp:p<w.heap.size) (hg:g<w.heap.size) (r:Ans Tree) (hconst:(t==[99,111,110,115,116])=false) (htypedef:(t==[116,121,112,101,100,101,102])=false) (henum:(t==[101,110,117,109])=false) (hstruct:(t==[115,116,114,117,99,116])=false) (hunion:(t==[117,110,105,111,110])=false) (hprogram:(t==[112,114,111,103,114,97,109])=true)
 (H0:Hid (∀ w1,Below w.heap.size w w1->Calls Tryz.prog 38 #[.pointer (some ⟨p,0,none⟩)] w1 fun e w'=>e=.returned (.agg #[.int .i64 k,.string ⟨t.toArray⟩,.int .i64 m,.int .i64 a])∧Below w1.heap.size w1 w'))
 (HT:Hid (∀ w1,Below w.heap.size w w1->Calls Tryz.prog 72 #[.pointer (some ⟨p,0,none⟩),.int .i64 10,.func (.func 73) #[.pointer (some ⟨p,0,none⟩)] #[]] w1 (zam p g cap ts d (zah w1.heap.size) r w1))) :
 Calls Tryz.prog 40 #[.pointer (some ⟨p,0,none⟩)] w (zam p g cap ts d (zah w.heap.size) r w):=by
 have HP:=hid2 hp hg
 clear hp hg
 have hmf:∀ (fn:Fn) (first cap:Array Value) (w:World),(Instr.makeFunc fn first cap).run Tryz.prog w=.ok (.func fn first cap) w:=fun _ _ _ _=>rfl
 have q1:=fld1 k m a ⟨t.toArray⟩
 obtain ⟨wa,hwa⟩:∃ x,w.alloc (.cells #[.int .i64 0,.string ⟨#[]⟩,.int .i64 0,.int .i64 0,.slice none 0 0] 29)=x:=⟨_,rfl⟩
 have b1:Below w.heap.size w wa:=by rw [<- hwa];exact zac _ _
 have Af:Hid (Kep w wa w.heap.size (kidO 0 [] 0 0 (.slice none 0 0))):=by show Kep w wa _ _;rw [<- hwa];exact Kep.new (Nat.le_refl _) _
 have Ac:=hid b1
 have Ag:=hid (H0.out wa b1)
 clear b1
 go_enter Tryz.func40,Tryz.ntmps40
 go_wp2_with fail
 refine Ag.out.mono ?_
 rintro e w1 ⟨rfl,hB1⟩
 have hb01:Below w.heap.size w w1:=Ac.out.trans (hB1.mono Ac.out.size)
 have Ad:Hid (Sole p w w1):=Sole.of_below hb01
 have Ah:=hid hb01
 have Ae:=hid (Af.out.below hB1)
 clear hb01 hB1
 go_wp2_with fail
 clear hwa
 refine (HT.out w1 Ah.out).mono ?_
 cases r with
 | no why at_ =>
  rintro e w99 ⟨rfl,hS⟩
  have Aa:=hid (Ad.out.trans hS)
  clear hS
  go_wp2
  exact ⟨rfl,rfl,Aa.out⟩
 | ok tv st =>
  rintro e w6 ⟨v,i,full,rfl,hT,rfl,hP,hS⟩
  obtain ⟨k8,n8,m8,a8,ks8⟩:=tv
  obtain ⟨sl,rfl,hL⟩:=zaf.1 hT
  obtain ⟨o8,l8,c8,rfl⟩:=hL.shape
  have hlt:=Ae.out.lt
  have Ai:=hid hP
  have Aj:=hid (Ad.out.trans hS)
  have Ab:=hid (Ae.out.sole HP.out.1 hS)
  have Ak:Hid (zab (fun b=>w.heap.size<b) w6 ks8 (.slice o8 l8 c8)):=hL.weaken (fun b h=>by have h1:w1.heap.size<=b:=h;omega)
  clear hP hS hT hL hlt
  unfold kidV
  obtain ⟨⟨z0,z1,z2,z3,z4⟩,⟨y0,y1,y2,y3,y4⟩⟩:=zaa Ab.out.1
  go_wp2
  refine ret5 z0 z1 z2 z3 z4 rfl (fun u q0 q1 q2 q3 q4=>by simp [results,Tryz.results40,go_sem,q0,q1,q2,q3,q4]) Ab.out.2 Aj.out ?_
  intro wz hf
  have hr2:=Ab.out.2
  have hpg:=HP.out
  exact ⟨_,_,_,rfl,za4 Ak.out (fun b h=>Nat.le_of_lt h) (fun b h=>Nat.ne_of_gt h) hf.2,rfl,Ai.out.sole_but (by omega) (by omega) hf.2,hf.1⟩
set_option maxRecDepth 4000 in
theorem zl4 (p g cap:Nat) (ts:List Tok) (d k m:Int) (t:List UInt8) (a:Nat) (w:World) (hp:p<w.heap.size) (hg:g<w.heap.size) (hconst:(t==[99,111,110,115,116])=false) (htypedef:(t==[116,121,112,101,100,101,102])=false) (henum:(t==[101,110,117,109])=false) (hstruct:(t==[115,116,114,117,99,116])=false) (hunion:(t==[117,110,105,111,110])=false) (hprogram:(t==[112,114,111,103,114,97,109])=false)
 (H0:Hid (∀ w1,Below w.heap.size w w1->Calls Tryz.prog 38 #[.pointer (some ⟨p,0,none⟩)] w1 fun e w'=>e=.returned (.agg #[.int .i64 k,.string ⟨t.toArray⟩,.int .i64 m,.int .i64 a])∧Below w1.heap.size w1 w'))
 (HT:Hid (∀ w1,Below w.heap.size w w1->Calls Tryz.prog 74 #[.pointer (some ⟨p,0,none⟩),.int .i64 40] w1 fun e w'=>e=.returned (.agg #[.int .i64 40,.int .i64 (a:Int)])∧Below w1.heap.size w1 w')) :
 Calls Tryz.prog 40 #[.pointer (some ⟨p,0,none⟩)] w (zam p g cap ts d (zah w.heap.size) (.no 40 a) w):=by
 have HP:=hid2 hp hg
 clear hp hg
 have hmf:∀ (fn:Fn) (first cap:Array Value) (w:World),(Instr.makeFunc fn first cap).run Tryz.prog w=.ok (.func fn first cap) w:=fun _ _ _ _=>rfl
 have q1:=fld1 k m a ⟨t.toArray⟩
 obtain ⟨wa,hwa⟩:∃ x,w.alloc (.cells #[.int .i64 0,.string ⟨#[]⟩,.int .i64 0,.int .i64 0,.slice none 0 0] 29)=x:=⟨_,rfl⟩
 have b1:Below w.heap.size w wa:=by rw [<- hwa];exact zac _ _
 have Ab:Hid (Kep w wa w.heap.size (kidO 0 [] 0 0 (.slice none 0 0))):=by show Kep w wa _ _;rw [<- hwa];exact Kep.new (Nat.le_refl _) _
 have Aa:=hid b1
 have Ac:=hid (H0.out wa b1)
 clear b1
 go_enter Tryz.func40,Tryz.ntmps40
 go_wp2_with fail
 refine Ac.out.mono ?_
 rintro e w1 ⟨rfl,hB1⟩
 have hb01:Below w.heap.size w w1:=Aa.out.trans (hB1.mono Aa.out.size)
 have Ad:Hid (Sole p w w1):=Sole.of_below hb01
 have Ae:=hid hb01
 have Ag:=hid (Ab.out.below hB1)
 clear hb01 hB1
 go_wp2_with fail
 clear hwa
 refine (HT.out w1 Ae.out).mono ?_
 rintro e w2 ⟨rfl,hB⟩
 have Af:=hid (Ad.out.trans (Sole.of_below hB))
 clear hB
 go_wp2
 exact ⟨rfl,rfl,Af.out⟩
set_option maxHeartbeats 1000000 in
set_option maxRecDepth 4000 in
theorem ziu (p g cap:Nat) (ts:List Tok) (d k m:Int) (t:List UInt8) (a:Nat) (w:World) (hp:p<w.heap.size) (hg:g<w.heap.size) (rt:Ans Tok) (F:PS->Ans Tree) (hF:zd4 p g cap ts d 70 F) (hba:zbo p w) (hconst:(t==[99,111,110,115,116])=false) (htypedef:(t==[116,121,112,101,100,101,102])=true)
 (H0:Hid (∀ w1,Below w.heap.size w w1->Calls Tryz.prog 38 #[.pointer (some ⟨p,0,none⟩)] w1 fun e w'=>e=.returned (.agg #[.int .i64 k,.string ⟨t.toArray⟩,.int .i64 m,.int .i64 a])∧Below w1.heap.size w1 w'))
 (HT:Hid (∀ w1,Below w.heap.size w w1->Calls Tryz.prog 69 #[.pointer (some ⟨p,0,none⟩)] w1 (zam p g cap ts d zfk rt w1))) :
 Calls Tryz.prog 40 #[.pointer (some ⟨p,0,none⟩)] w (zam p g cap ts d (zah w.heap.size) (rt.bind fun t s=>(F s).bind fun d_ s=>.ok (.node 3 [] 0 t.at_ [d_]) s) w):=by
 obtain ⟨R,hR⟩:∃ R,(rt.bind fun t s=>(F s).bind fun d_ s=>Ans.ok (Tree.node 3 [] 0 t.at_ [d_]) s)=R:=⟨_,rfl⟩
 rw [hR]
 have Af:=hid hR.symm
 have HF:=hid hF
 have Ak:=hid hba
 clear hR hF hba
 have HP:=hid2 hp hg
 clear hp hg
 have hmf:∀ (fn:Fn) (first cap:Array Value) (w:World),(Instr.makeFunc fn first cap).run Tryz.prog w=.ok (.func fn first cap) w:=fun _ _ _ _=>rfl
 have q1:=fld1 k m a ⟨t.toArray⟩
 obtain ⟨wa,hwa⟩:∃ x,w.alloc (.cells #[.int .i64 0,.string ⟨#[]⟩,.int .i64 0,.int .i64 0,.slice none 0 0] 29)=x:=⟨_,rfl⟩
 have b1:Below w.heap.size w wa:=by rw [<- hwa];exact zac _ _
 have Al:Hid (Kep w wa w.heap.size (kidO 0 [] 0 0 (.slice none 0 0))):=by show Kep w wa _ _;rw [<- hwa];exact Kep.new (Nat.le_refl _) _
 have Ag:=hid b1
 have Am:=hid (H0.out wa b1)
 clear b1
 go_enter Tryz.func40,Tryz.ntmps40
 go_wp2_with fail
 refine Am.out.mono ?_
 rintro e w1 ⟨rfl,hB1⟩
 have hb01:Below w.heap.size w w1:=Ag.out.trans (hB1.mono Ag.out.size)
 have Ah:Hid (Sole p w w1):=Sole.of_below hb01
 have An:=hid hb01
 have Ao:=hid (Al.out.below hB1)
 clear hb01 hB1
 go_wp2_with fail
 clear hwa
 refine (HT.out w1 An.out).mono ?_
 cases rt with
 | no why at_ =>
  rintro e w99 ⟨rfl,hS⟩
  have Ad:=hid (Ah.out.trans hS)
  clear hS
  go_wp2
  refine ⟨rfl,?_⟩
  rw [Af.out]
  exact ⟨rfl,Ad.out⟩
 | ok tk st =>
  rintro e w2 ⟨v,i,full,rfl,rfl,rfl,hP,hS⟩
  obtain ⟨w3,hw3⟩:∃ x,w2.alloc (.cells #[.int .i64 tk.kind,.string ⟨tk.text.toArray⟩,.int .i64 tk.num,.int .i64 tk.at_] 41)=x:=⟨_,rfl⟩
  have hB3:Below w2.heap.size w2 w3:=by rw [<- hw3];exact zac _ _
  have hs2:Sole p w w2:=Ah.out.trans hS
  have Ae:=hid (hs2.trans (Sole.of_below hB3))
  have Ab:=hid ((Ao.out.sole HP.out.1 hS).below hB3)
  have Ac:Hid (Kep w w3 w2.heap.size (tokO tk)):=by show Kep w w3 _ _;rw [<- hw3];exact Kep.new hs2.size _
  obtain ⟨rv,hrv⟩:∃ r,F (PSof ts i full)=r:=⟨_,rfl⟩
  have Ai:Hid (R=rv.bind fun d_ s=>.ok (.node 3 [] 0 tk.at_ [d_]) s):=by
   show _=_
   rw [Af.out];first|(rw [<- hrv];done)|(rw [<- hrv];rfl)
  have Aj:Hid (∀ m,Calls Tryz.prog 70 #[.pointer (some ⟨p,0,none⟩)] (w3.drewN m) (zam p g cap ts d (zah w3.heap.size) rv w3)):=fun m=>by
   have hB:Below w3.heap.size w3 (w3.drewN m):=zaj (Below.refl _ _) m
   rw [<- hrv]
   exact (HF.out i full _ ((hP.below hB3).below hB) ((Ak.out.sole Ae.out).below hB)).mono fun e w' hp=>zam.from_below hB hp
  obtain ⟨t0,t1,t2,t3⟩:=zbq Ac.out.1
  have hlt:w.heap.size<w3.heap.size:=Ab.out.lt
  have Ap:=hid hlt
  clear hP hS hrv hB3 hs2 hlt
  unfold tokV
  go_wp2_with fail
  clear hw3
  cases rv with
  | no why at_ =>
   go_region_dies
   all_goals (
    refine (Aj.out _).mono ?_
    rintro e w5 ⟨rfl,hS⟩
    refine ⟨rfl,?_⟩
    rw [Ai.out]
    exact ⟨rfl,Ae.out.trans hS⟩)
  | ok tv st =>
   obtain ⟨k8,n8,m8,a8,ks8⟩:=tv
   go_region_with (go_at_call 70
                   refine (Aj.out _).mono ?_
                   rintro e w5 ⟨v,i,full,rfl,hT,rfl,hP,hS⟩
                   obtain ⟨sl,rfl,hL⟩:=zaf.1 hT
                   obtain ⟨o8,l8,c8,rfl⟩:=hL.shape
                   have hp:=HP.out
                   have hlt:=Ap.out
                   obtain ⟨wq,hwq⟩:∃ x,w5.alloc (.cells #[.int .i64 k8,.string ⟨n8.toArray⟩,.int .i64 m8,.int .i64 a8,.slice o8 l8 c8] 29)=x:=⟨_,rfl⟩
                   have hBq:Below w5.heap.size w5 wq:=by rw [<- hwq];exact zac _ _
                   have kt5:Kep w w5 w2.heap.size (tokO tk):=Ac.out.sole hp.1 hS
                   have Aq:=hid (hP.below hBq)
                   have Ar:=hid ((Ae.out.trans hS).trans (Sole.of_below hBq))
                   have Aa:=hid ((Ab.out.sole hp.1 hS).below hBq)
                   have Au:Hid (zab (fun b=>w.heap.size<b) wq [(.node k8 n8 m8 a8 ks8)] (.slice (some ⟨w5.heap.size,0,none⟩) 1 1)):=by
                    have h5:=hS.size
                    refine zbh (show wq.heap[w5.heap.size]?=some (zdw [.int .i64 k8,.string ⟨n8.toArray⟩,.int .i64 m8,.int .i64 a8,.slice o8 l8 c8]) from by rw [<- hwq];exact heap_alloc_new _ _) (by simp) (by omega) (za3 ((zae.below (zah.made hT) hBq).weaken (fun b h=>⟨by omega,by omega⟩)))
                   have u3:=(zbq kt5.1).2.2.2
                   have x3:=(zbq (kt5.below hBq).1).2.2.2
                   obtain ⟨⟨z0,z1,z2,z3,z4⟩,⟨y0,y1,y2,y3,y4⟩⟩:=zaa Aa.out.1
                   have qb:=bld034 3 tk.at_ (some ⟨w5.heap.size,0,none⟩) 1 1
                   clear hT hL hP hS hp hlt hBq kt5
                   unfold kidV)
   all_goals (
    go_wp2
    refine ret5 (n:=[]) z0 z1 z2 z3 z4 rfl (fun u q0 q1 q2 q3 q4=>by simp [results,Tryz.results40,go_sem,q0,q1,q2,q3,q4]) Aa.out.2 Ar.out ?_
    intro wz hf
    rw [Ai.out]
    have hr2:=Aa.out.2
    have hpg:=HP.out
    exact ⟨_,_,_,rfl,za4 Au.out (fun b h=>Nat.le_of_lt h) (fun b h=>Nat.ne_of_gt h) hf.2,rfl,Aq.out.sole_but (by omega) (by omega) hf.2,hf.1⟩)
theorem zgg (p g cap:Nat) (ts:List Tok) (hE:Ends ts):zd4 p g cap ts 0 40 zcj:=by
 intro i full w h hba
 have hd:=zb6 ts i full h.il
 have HT:∀ w1,Below w.heap.size w w1->Calls Tryz.prog 38 #[.pointer (some ⟨p,0,none⟩)] w1 fun e w'=>e=.returned (tokV (ts[i]'h.il))∧Below w1.heap.size w1 w':=fun w1 hB=>zcb p g cap ts i 0 full w1 (h.below hB)
 have hix:∀ t:List UInt8,t≠[]->((ts[i]'h.il).text==t)=true->i+1<ts.length:=fun t ht e=>hE.text h.il (by rw [show (ts[i]'h.il).text=t by simpa using e];exact ht)
 unfold zcj PS.sees PS.bad
 rw [hd]
 cases h1:((ts[i]'h.il).text==zdt)
 · rw [if_neg (by simp)]
   cases h2:((ts[i]'h.il).text==zc3)
   · rw [if_neg (by simp)]
     cases h3:((ts[i]'h.il).text==zd6)
     · cases h4:((ts[i]'h.il).text==zbm)
       · cases h5:((ts[i]'h.il).text==zer)
         · rw [if_neg (by simp)]
           cases h6:((ts[i]'h.il).text==zdc)
           · rw [if_neg (by simp)]
             exact zl4 p g cap ts 0 _ _ (ts[i]'h.il).text (ts[i]'h.il).at_ w h.plt h.glt h1 h2 h3 h4 h5 h6 HT (fun w1 hB=>zdd p g cap ts i 0 40 full w1 (h.below hB))
           · rw [if_pos rfl]
             exact ziv p g cap ts 0 _ _ (ts[i]'h.il).text _ w h.plt h.glt _ h1 h2 h3 h4 h5 h6 HT (fun w1 hB=>zjo p g cap ts hE 0 10 73 zd7 (versionK p g cap ts hE 0) zly bodied_73 i full w1 (hix zdc (by simp [zdc]) h6) (h.below hB) (hba.below hB))
         · rw [if_pos (by simp)]
           exact zj1 p g cap ts 0 _ _ (ts[i]'h.il).text _ w h.plt h.glt _ h1 h2 h3 h4 h5 HT (fun w1 hB=>zhq p g cap ts hE true i full w1 (hix zer (by simp [zer]) h5) (h.below hB) (hba.below hB))
       · rw [if_pos (by simp)]
         exact zjg p g cap ts 0 _ _ (ts[i]'h.il).text _ w h.plt h.glt _ h1 h2 h3 h4 HT (fun w1 hB=>zhq p g cap ts hE true i full w1 (hix zbm (by simp [zbm]) h4) (h.below hB) (hba.below hB))
     · rw [if_pos (by simp)]
       exact zld p g cap ts 0 _ _ (ts[i]'h.il).text _ w h.plt h.glt _ h1 h2 h3 HT (fun w1 hB=>zhq p g cap ts hE true i full w1 (hix zd6 (by simp [zd6]) h3) (h.below hB) (hba.below hB))
   · rw [if_pos rfl]
     exact ziu p g cap ts 0 _ _ (ts[i]'h.il).text _ w h.plt h.glt _ _ (tower_top p g cap ts hE).something hba h1 h2 HT (fun w1 hB=>zdm p g cap ts i 0 full w1 (h.below hB) (hix zc3 (by simp [zc3]) h2))
 · rw [if_pos rfl]
   exact zj2 p g cap ts 0 _ _ (ts[i]'h.il).text _ w h.plt h.glt _ h1 HT (fun w1 hB=>constant_any p g cap ts hE i 0 full w1 (h.below hB))
end Go.Proofs.YtighggeokiahfaaGreatDoor
