import Derived.Test.YtodfklpmbclgkaaGreatDoorBack07
namespace Go.Proofs.YtodfklpmbclgkaaGreatDoor
open Go.RowKit
theorem moreP_len (F:PS->Ans Tree) (most:Nat):∀ (f:Nat) (acc:List Tree) (s:PS) (l:List Tree) (s' : PS),acc≠[]->zeu F most f acc s=.ok l s'->l.length<=acc.length+f∧l≠[]
 | 0,acc,s,l,s'=>fun _ h=>by rw [zeu] at h;cases h
 | f+1,acc,s,l,s'=>fun ha h=>by
  rw [zeu] at h
  by_cases hc:s.sees [44]=true
  · rw [if_pos hc] at h
    cases hx:(s.room acc.length most).take with
    | no e a=>rw [hx] at h;cases h
    | ok t s1 =>
     rw [hx] at h
     have h2:(F s1).bind (fun t s=>zeu F most f (acc++[t]) s)=.ok l s':=h
     cases hy:F s1 with
     | no e a=>rw [hy] at h2;cases h2
     | ok t2 s2 =>
      rw [hy] at h2
      have:=moreP_len F most f (acc++[t2]) s2 l s' (by simp) h2
      simp only [List.length_append,List.length_cons,List.length_nil] at this
      exact ⟨by omega,this.2⟩
  · rw [if_neg hc] at h
    cases h
    exact ⟨by omega,ha⟩
theorem zhd {w:World} {b c:Nat} {t:Tok} {k m:Int} {n:List UInt8} {a:Nat} {sl:Value} (h:w.heap[b]?=some (tokO t)) (h2:w.heap[c]?=some (kidO k n m a sl)):w.cell? ⟨b,0,none⟩=some (.int .i64 t.kind)∧w.cell? ⟨b,1,none⟩=some (.string ⟨t.text.toArray⟩)∧w.cell? ⟨b,2,none⟩=some (.int .i64 t.num)∧w.cell? ⟨b,3,none⟩=some (.int .i64 t.at_)∧w.cell? ⟨c,0,none⟩=some (.int .i64 k)∧w.cell? ⟨c,1,none⟩=some (.string ⟨n.toArray⟩)∧w.cell? ⟨c,2,none⟩=some (.int .i64 m)∧w.cell? ⟨c,3,none⟩=some (.int .i64 a)∧w.cell? ⟨c,4,none⟩=some sl:=by
 obtain ⟨h0,h1,h2',h3⟩:=zb1 h
 exact ⟨h0,h1,h2',h3,(zac h2).1⟩
theorem zm2 (s:PS) (l:List Tree) (s' : PS) (h:argumentsP s=.ok l s'):l.length<=67∧l≠[]:=by
 unfold argumentsP at h
 by_cases hc:s.sees zcn=true
 · rw [if_pos hc] at h
   cases hx:aloneP 13 s with
   | no e a=>rw [hx] at h;cases h
   | ok t s1=>rw [hx] at h;cases h;simp
 · rw [if_neg hc] at h
   unfold zd7 at h
   cases hx:bareP s with
   | no e a=>rw [hx] at h;cases h
   | ok t s1 =>
    rw [hx] at h
    have:=moreP_len bareP 4 66 [t] s1 l s' (by simp) h
    simp only [List.length_cons,List.length_nil] at this
    exact ⟨by omega,this.2⟩
set_option maxHeartbeats 4000000 in
set_option maxRecDepth 4000 in
theorem zoa (p g cap:Nat) (ts:List Tok) (hE:Ends ts) (d:Int):zdp p g cap ts d 119 zcf:=by
 intro i full w h hba
 have HP:Hid (p<w.heap.size∧g<w.heap.size):=⟨h.plt,h.glt⟩
 have HE:Hid (Ends ts):=hE
 have HBA:Hid (zb3 p w):=hba
 obtain ⟨R,hR⟩:∃ R,zcf (PSof ts i full)=R:=⟨_,rfl⟩
 rw [hR]
 obtain ⟨wa,hwa⟩:∃ x,w.alloc (.cells #[.int .i64 0,.string ⟨#[]⟩,.int .i64 0,.int .i64 0,.slice none 0 0] 29)=x:=⟨_,rfl⟩
 have b1:Below w.heap.size w wa:=by rw [<- hwa];exact zad _ _
 have HKa:Hid (Kep w wa w.heap.size (kidO 0 [] 0 0 (.slice none 0 0))):=by show Kep w wa _ _;rw [<- hwa];exact Kep.new (Nat.le_refl _) _
 have HSa:Hid (Sole p w wa):=Sole.of_below b1
 have HRS:Hid (Calls Tryz.prog 150 #[.pointer (some ⟨p,0,none⟩)] wa (zao p g cap ts d (zal wa.heap.size) (resultP (PSof ts i full)) wa)):=zje p g cap ts hE d (zh3 p g cap ts hE d) i full wa (h.below b1) (hba.below b1)
 obtain ⟨rt,hrt⟩:∃ r,resultP (PSof ts i full)=r:=⟨_,rfl⟩
 have HR0:Hid (R=rt.bind fun r_ s=>(zdj s).bind fun nm s=>(s.want [40]).bind fun _ s=>(argumentsP s).bind fun l s=>(s.want [41]).bind fun _ s=>(s.want [61]).bind fun _ s=>(zbv s).bind fun v s=>(s.want [59]).bind fun _ s=>Ans.ok (named 12 nm (v::r_::l)) s):=by
  show _=_
  rw [<- hR,<- hrt];rfl
 rw [hrt] at HRS
 obtain ⟨inf,hi1,hi2,hi3,hi4⟩:=ze8
 have HI:Hid (Tryz.prog.info? 29=some inf∧inf.zero=some (.agg #[.int .i64 0,.string ⟨#[]⟩,.int .i64 0,.int .i64 0,.slice none 0 0])∧inf.size=5∧inf.bytes=64):=⟨hi1,hi2,hi3,hi4⟩
 clear h hba hE hR b1 hrt hi1 hi2 hi3 hi4
 go_enter Tryz.func119,Tryz.ntmps119
 go_wp2_with fail
 clear hwa
 refine HRS.out.mono ?_
 cases rt with
 | no why at_ =>
  rintro e w99 ⟨rfl,hS⟩
  have HS99:Hid (Sole p w w99):=HSa.out.trans hS
  clear hS
  go_wp2
  refine ⟨rfl,?_⟩
  rw [HR0.out]
  exact ⟨rfl,HS99.out⟩
 | ok tr st =>
  rintro e w1 ⟨v,i,full,rfl,hT,rfl,hP,hS⟩
  obtain ⟨k9,n9,m9,a9,ks9⟩:=tr
  obtain ⟨sl,rfl,hL⟩:=zah.1 hT
  obtain ⟨o9,l9,c9,rfl⟩:=hL.shape
  obtain ⟨w1b,hw1b⟩:∃ x,w1.alloc (.cells #[.int .i64 k9,.string ⟨n9.toArray⟩,.int .i64 m9,.int .i64 a9,.slice o9 l9 c9] 29)=x:=⟨_,rfl⟩
  have hB1:Below w1.heap.size w1 w1b:=by rw [<- hw1b];exact zad _ _
  have hs1:Sole p w w1:=HSa.out.trans hS
  have HS1:Hid (Sole p w w1b):=hs1.trans (Sole.of_below hB1)
  have HK1:Hid (Kep w w1b w.heap.size (kidO 0 [] 0 0 (.slice none 0 0))):=(HKa.out.sole HP.out.1 hS).below hB1
  have HKo1:Hid (Kep w w1b w1.heap.size (kidO k9 n9 m9 a9 (.slice o9 l9 c9))):=by show Kep w w1b _ _;rw [<- hw1b];exact Kep.new hs1.size _
  have HT1:Hid (zam (fun b=>wa.heap.size<=b∧b<w1.heap.size) w1b (.node k9 n9 m9 a9 ks9) (kidV k9 n9 m9 a9 (.slice o9 l9 c9))):=zam.below (zal.made hT) hB1
  have HLA:Hid (w.heap.size<wa.heap.size∧wa.heap.size<=w1.heap.size∧p<w.heap.size∧w1.heap.size<w1b.heap.size):=⟨HKa.out.lt,hS.size,HP.out.1,HKo1.out.lt⟩
  have HNA:Hid (Calls Tryz.prog 108 #[.pointer (some ⟨p,0,none⟩)] w1b (zao p g cap ts d zfi (zdj (PSof ts i full)) w1b)):=zf6 p g cap ts HE.out i d full w1b (hP.below hB1)
  obtain ⟨rn,hrn⟩:∃ r,zdj (PSof ts i full)=r:=⟨_,rfl⟩
  have HR1:Hid (R=rn.bind fun nm s=>(s.want [40]).bind fun _ s=>(argumentsP s).bind fun l s=>(s.want [41]).bind fun _ s=>(s.want [61]).bind fun _ s=>(zbv s).bind fun v s=>(s.want [59]).bind fun _ s=>Ans.ok (named 12 nm (v::(.node k9 n9 m9 a9 ks9)::l)) s):=by
   show _=_
   rw [HR0.out];first|(rw [<- hrn];done)|(rw [<- hrn];rfl)
  rw [hrn] at HNA
  clear hP hS hrn hT hL hB1 hs1
  unfold kidV
  go_wp2_with fail
  clear hw1b
  refine HNA.out.mono ?_
  cases rn with
  | no why at_ =>
   rintro e w99 ⟨rfl,hS⟩
   have HS99:Hid (Sole p w w99):=HS1.out.trans hS
   clear hS
   go_wp2
   refine ⟨rfl,?_⟩
   rw [HR1.out]
   exact ⟨rfl,HS99.out⟩
  | ok nm st =>
   rintro e w2 ⟨v,i,full,rfl,rfl,rfl,hP,hS⟩
   obtain ⟨w3,hw3⟩:∃ x,w2.alloc (.cells #[.int .i64 nm.kind,.string ⟨nm.text.toArray⟩,.int .i64 nm.num,.int .i64 nm.at_] 41)=x:=⟨_,rfl⟩
   have hp:=HP.out
   have hB3:Below w2.heap.size w2 w3:=by rw [<- hw3];exact zad _ _
   have hs2:Sole p w w2:=HS1.out.trans hS
   have hla:=HLA.out
   have HP3:Hid (PP w3 p g cap ts i d full):=hP.below hB3
   have HS3:Hid (Sole p w w3):=hs2.trans (Sole.of_below hB3)
   have HKr3:Hid (Kep w w3 w.heap.size (kidO 0 [] 0 0 (.slice none 0 0))):=(HK1.out.sole hp.1 hS).below hB3
   have HKo3:Hid (Kep w w3 w1.heap.size (kidO k9 n9 m9 a9 (.slice o9 l9 c9))):=(HKo1.out.sole hp.1 hS).below hB3
   have HT3:Hid (zam (fun b=>wa.heap.size<=b∧b<w1.heap.size) w3 (.node k9 n9 m9 a9 ks9) (kidV k9 n9 m9 a9 (.slice o9 l9 c9))):=(HT1.out.sole (fun b h=>by omega) hS).below hB3
   have HKn3:Hid (Kep w w3 w2.heap.size (tokO nm)):=by show Kep w w3 _ _;rw [<- hw3];exact Kep.new hs2.size _
   have HLE:Hid (w.heap.size<w2.heap.size∧w2.heap.size<w3.heap.size∧w1.heap.size<w2.heap.size):=⟨(HK1.out.sole hp.1 hS).lt,by rw [<- hw3];simp,(HKo1.out.sole hp.1 hS).lt⟩
   clear hP hS hp hs2 hB3 hla
   unfold tokV
   have HWA:Hid (Calls Tryz.prog 41 #[.pointer (some ⟨p,0,none⟩),.slice (some ⟨w3.heap.size,0,none⟩) 1 1] (w3.alloc (.cells #[.string ⟨#[40]⟩] 9)) (zao p g cap ts d ze4 ((PSof ts i full).want [40]) w3)):=zbs p g cap ts HE.out i d full [40] (by simp) w3 HP3.out
   obtain ⟨ru,hru⟩:∃ r,(PSof ts i full).want [40]=r:=⟨_,rfl⟩
   have HR2:Hid (R=ru.bind fun _ s=>(argumentsP s).bind fun l s=>(s.want [41]).bind fun _ s=>(s.want [61]).bind fun _ s=>(zbv s).bind fun v s=>(s.want [59]).bind fun _ s=>Ans.ok (named 12 nm (v::(.node k9 n9 m9 a9 ks9)::l)) s):=by
    show _=_
    rw [HR1.out];first|(rw [<- hru];done)|(rw [<- hru];rfl)
   rw [hru] at HWA
   clear hru
   go_wp2_with fail
   refine HWA.out.mono ?_
   clear hw3
   cases ru with
   | no why at_ =>
    rintro e w99 ⟨rfl,hS⟩
    have HS99:Hid (Sole p w w99):=HS3.out.trans hS
    clear hS
    go_wp2
    refine ⟨rfl,?_⟩
    rw [HR2.out]
    exact ⟨rfl,HS99.out⟩
   | ok u st =>
    rintro e w4 ⟨v,i,full,rfl,rfl,rfl,hP,hS⟩
    have hp:=HP.out
    have hla:=HLA.out
    have HS4:Hid (Sole p w w4):=HS3.out.trans hS
    have HKr4:Hid (Kep w w4 w.heap.size (kidO 0 [] 0 0 (.slice none 0 0))):=HKr3.out.sole hp.1 hS
    have HKn4:Hid (Kep w w4 w2.heap.size (tokO nm)):=HKn3.out.sole hp.1 hS
    have HKo4:Hid (Kep w w4 w1.heap.size (kidO k9 n9 m9 a9 (.slice o9 l9 c9))):=HKo3.out.sole hp.1 hS
    have HT4:Hid (zam (fun b=>wa.heap.size<=b∧b<w1.heap.size) w4 (.node k9 n9 m9 a9 ks9) (kidV k9 n9 m9 a9 (.slice o9 l9 c9))):=HT3.out.sole (fun b h=>by omega) hS
    have HSO:Hid (Calls Tryz.prog 151 #[.pointer (some ⟨p,0,none⟩)] w4 (zao p g cap ts d (zci w4.heap.size) (argumentsP (PSof ts i full)) w4)):=zg7 p g cap ts HE.out d i full w4 hP (HBA.out.sole HS4.out)
    obtain ⟨rl,hrl⟩:∃ r,argumentsP (PSof ts i full)=r:=⟨_,rfl⟩
    have HLEN:Hid (∀ l s,rl=.ok l s->l.length<=67∧l≠[]):=fun l s e=>zm2 _ _ _ (hrl.trans e)
    have HR3:Hid (R=rl.bind fun l s=>(s.want [41]).bind fun _ s=>(s.want [61]).bind fun _ s=>(zbv s).bind fun v s=>(s.want [59]).bind fun _ s=>Ans.ok (named 12 nm (v::(.node k9 n9 m9 a9 ks9)::l)) s):=by
     show _=_
     rw [HR2.out];first|(rw [<- hrl];done)|(rw [<- hrl];rfl)
    rw [hrl] at HSO
    clear hP hS hp hrl hla
    go_wp2_with fail
    refine HSO.out.mono ?_
    cases rl with
    | no why at_ =>
     rintro e w99 ⟨rfl,hS⟩
     have HS99:Hid (Sole p w w99):=HS4.out.trans hS
     clear hS
     go_wp2
     refine ⟨rfl,?_⟩
     rw [HR3.out]
     exact ⟨rfl,HS99.out⟩
    | ok l st =>
     rintro e w5 ⟨v,i,full,rfl,hL,rfl,hP,hS⟩
     have hlen:=HLEN.out _ _ rfl
     obtain ⟨q7,c7,_,rfl,_,_,_⟩:=hL.addr hlen.2
     obtain ⟨LN,hLN⟩:∃ x,l.length=x:=⟨_,rfl⟩
     rw [hLN] at hL ⊢
     have hp:=HP.out
     have hla:=HLA.out
     have HP5:Hid (PP w5 p g cap ts i d full):=hP
     have HS5:Hid (Sole p w w5):=HS4.out.trans hS
     have HKr5:Hid (Kep w w5 w.heap.size (kidO 0 [] 0 0 (.slice none 0 0))):=HKr4.out.sole hp.1 hS
     have HKn5:Hid (Kep w w5 w2.heap.size (tokO nm)):=HKn4.out.sole hp.1 hS
     have HKo5:Hid (Kep w w5 w1.heap.size (kidO k9 n9 m9 a9 (.slice o9 l9 c9))):=HKo4.out.sole hp.1 hS
     have HT5:Hid (zam (fun b=>wa.heap.size<=b∧b<w1.heap.size) w5 (.node k9 n9 m9 a9 ks9) (kidV k9 n9 m9 a9 (.slice o9 l9 c9))):=HT4.out.sole (fun b h=>by omega) hS
     have HL5:Hid (zaf (fun b=>w4.heap.size<=b) w5 l (.slice (some ⟨q7,0,none⟩) LN c7)):=hL
     have HLN:Hid (l.length=LN∧LN<=67∧l≠[]):=⟨hLN,by omega,hlen.2⟩
     have HL45:Hid (w2.heap.size<w4.heap.size∧w4.heap.size<=w5.heap.size):=⟨HKn4.out.lt,hS.size⟩
     have HWA:Hid (Calls Tryz.prog 41 #[.pointer (some ⟨p,0,none⟩),.slice (some ⟨w5.heap.size,0,none⟩) 2 2] (w5.alloc (.cells #[.string ⟨#[41]⟩,.string ⟨#[61]⟩] 9)) (zao p g cap ts d ze4 (((PSof ts i full).want [41]).bind fun _ s=>s.want [61]) w5)):=zkl p g cap ts HE.out i d full [41] [61] (by simp) (by simp) w5 hP
     obtain ⟨ru,hru⟩:∃ r,(((PSof ts i full).want [41]).bind fun _ s=>s.want [61])=r:=⟨_,rfl⟩
     have HR4:Hid (R=ru.bind fun _ s=>(zbv s).bind fun v s=>(s.want [59]).bind fun _ s=>Ans.ok (named 12 nm (v::(.node k9 n9 m9 a9 ks9)::l)) s):=by
      show _=_
      rw [HR3.out,<- hru]
      exact (zfb ((PSof ts i full).want [41]) (fun _ s=>s.want [61]) (fun _ s=>(zbv s).bind fun v s=>(s.want [59]).bind fun _ s=>Ans.ok (named 12 nm (v::(Tree.node k9 n9 m9 a9 ks9)::l)) s)).symm
     rw [hru] at HWA
     clear hP hS hL hp hlen hLN hru hla
     go_wp2_with fail
     refine HWA.out.mono ?_
     cases ru with
     | no why at_ =>
      rintro e w99 ⟨rfl,hS⟩
      have HS99:Hid (Sole p w w99):=HS5.out.trans hS
      clear hS
      go_wp2
      refine ⟨rfl,?_⟩
      rw [HR4.out]
      exact ⟨rfl,HS99.out⟩
     | ok u st =>
      rintro e w6 ⟨v,i,full,rfl,rfl,rfl,hP,hS⟩
      have hp:=HP.out
      have hl45:=HL45.out
      have hle:=HLE.out
      have hla:=HLA.out
      have HS6:Hid (Sole p w w6):=HS5.out.trans hS
      have HKr6:Hid (Kep w w6 w.heap.size (kidO 0 [] 0 0 (.slice none 0 0))):=HKr5.out.sole hp.1 hS
      have HKn6:Hid (Kep w w6 w2.heap.size (tokO nm)):=HKn5.out.sole hp.1 hS
      have HKo6:Hid (Kep w w6 w1.heap.size (kidO k9 n9 m9 a9 (.slice o9 l9 c9))):=HKo5.out.sole hp.1 hS
      have HT6:Hid (zam (fun b=>wa.heap.size<=b∧b<w1.heap.size) w6 (.node k9 n9 m9 a9 ks9) (kidV k9 n9 m9 a9 (.slice o9 l9 c9))):=HT5.out.sole (fun b h=>by omega) hS
      have HL6:Hid (zaf (fun b=>w4.heap.size<=b∧b<w5.heap.size) w6 l (.slice (some ⟨q7,0,none⟩) LN c7)):=by
       have h1:zaf (fun b=>w4.heap.size<=b∧b<w5.heap.size) w5 l (.slice (some ⟨q7,0,none⟩) LN c7):=zaf.there HL5.out
       exact h1.sole (fun b h=>by omega) hS
      have HL56:Hid (w5.heap.size<=w6.heap.size):=hS.size
      clear hla
      obtain ⟨rv,hrv⟩:∃ r,zbv (PSof ts i full)=r:=⟨_,rfl⟩
      have HR5:Hid (R=rv.bind fun v s=>(s.want [59]).bind fun _ s=>Ans.ok (named 12 nm (v::(.node k9 n9 m9 a9 ks9)::l)) s):=by
       show _=_
       rw [HR4.out];first|(rw [<- hrv];done)|(rw [<- hrv];rfl)
      have HNT:Hid (∀ wx,Below w6.heap.size w6 wx->Calls Tryz.prog 118 #[.pointer (some ⟨p,0,none⟩)] wx (zao p g cap ts d (zal wx.heap.size) rv wx)):=fun wx hB=>by
       rw [<- hrv]
       exact zln p g cap ts HE.out i d full wx (hP.below hB)
      obtain ⟨wA0,hwA0⟩:∃ x,w6.alloc (.cells #[.int .i64 0,.string ⟨#[]⟩,.int .i64 0,.int .i64 0,.slice none 0 0] 29)=x:=⟨_,rfl⟩
      have hbA:Below w6.heap.size w6 wA0:=by rw [<- hwA0];exact zad _ _
      have HBA0:Hid (Below w6.heap.size w6 wA0):=hbA
      have HKA0:Hid (Kep w wA0 w6.heap.size (kidO 0 [] 0 0 (.slice none 0 0))):=by show Kep w wA0 _ _;rw [<- hwA0];exact Kep.new HS6.out.size _
      have s0:w6.drew.cell? ⟨w2.heap.size,0,none⟩=some (.int .i64 nm.kind)∧w6.drew.cell? ⟨w2.heap.size,1,none⟩=some (.string ⟨nm.text.toArray⟩)∧w6.drew.cell? ⟨w2.heap.size,2,none⟩=some (.int .i64 nm.num)∧w6.drew.cell? ⟨w2.heap.size,3,none⟩=some (.int .i64 nm.at_)∧w6.drew.cell? ⟨w1.heap.size,0,none⟩=some (.int .i64 k9)∧w6.drew.cell? ⟨w1.heap.size,1,none⟩=some (.string ⟨n9.toArray⟩)∧w6.drew.cell? ⟨w1.heap.size,2,none⟩=some (.int .i64 m9)∧w6.drew.cell? ⟨w1.heap.size,3,none⟩=some (.int .i64 a9)∧w6.drew.cell? ⟨w1.heap.size,4,none⟩=some (.slice o9 l9 c9):=zhd HKn6.out.1 HKo6.out.1
      have s1:wA0.drew.cell? ⟨w2.heap.size,0,none⟩=some (.int .i64 nm.kind)∧wA0.drew.cell? ⟨w2.heap.size,1,none⟩=some (.string ⟨nm.text.toArray⟩)∧wA0.drew.cell? ⟨w2.heap.size,2,none⟩=some (.int .i64 nm.num)∧wA0.drew.cell? ⟨w2.heap.size,3,none⟩=some (.int .i64 nm.at_)∧wA0.drew.cell? ⟨w1.heap.size,0,none⟩=some (.int .i64 k9)∧wA0.drew.cell? ⟨w1.heap.size,1,none⟩=some (.string ⟨n9.toArray⟩)∧wA0.drew.cell? ⟨w1.heap.size,2,none⟩=some (.int .i64 m9)∧wA0.drew.cell? ⟨w1.heap.size,3,none⟩=some (.int .i64 a9)∧wA0.drew.cell? ⟨w1.heap.size,4,none⟩=some (.slice o9 l9 c9):=zhd (HKn6.out.below hbA).1 (HKo6.out.below hbA).1
      obtain ⟨t0,t1,t2,t3⟩:=zb1 HKn6.out.1
      obtain ⟨e0,e1,e2,e3⟩:=zb1 (HKn6.out.below hbA).1
      clear hP hS hp hrv hl45 hle hbA
      go_wp2_with fail
      cases rv with
      | no why at_ =>
       go_region_dies
       all_goals (
        refine (HNT.out _ ?_).mono ?_
        · first|exact zax (Below.refl _ _) 1|exact zax HBA0.out 1
        · rintro e w9 ⟨rfl,hS⟩
          refine ⟨rfl,?_⟩
          rw [HR5.out]
          first
           | exact ⟨rfl,HS6.out.trans ((Sole.of_below (zax (Below.refl _ _) 1)).trans hS)⟩
           | exact ⟨rfl,HS6.out.trans ((Sole.of_below (zax HBA0.out 1)).trans hS)⟩)
      | ok tv st =>
       obtain ⟨k8,n8,m8,a8,ks8⟩:=tv
       go_region_held (fun w'=>w'.cell? ⟨w2.heap.size,0,none⟩=some (.int .i64 nm.kind)∧w'.cell? ⟨w2.heap.size,1,none⟩=some (.string ⟨nm.text.toArray⟩)∧w'.cell? ⟨w2.heap.size,2,none⟩=some (.int .i64 nm.num)∧w'.cell? ⟨w2.heap.size,3,none⟩=some (.int .i64 nm.at_)∧w'.cell? ⟨w1.heap.size,0,none⟩=some (.int .i64 k9)∧w'.cell? ⟨w1.heap.size,1,none⟩=some (.string ⟨n9.toArray⟩)∧w'.cell? ⟨w1.heap.size,2,none⟩=some (.int .i64 m9)∧w'.cell? ⟨w1.heap.size,3,none⟩=some (.int .i64 a9)∧w'.cell? ⟨w1.heap.size,4,none⟩=some (.slice o9 l9 c9)) (first|with_reducible exact s0|with_reducible exact s1|with_reducible exact s2|with_reducible exact s3|with_reducible exact s4|with_reducible exact s5|with_reducible exact s6|with_reducible exact s7|with_reducible exact s8 _|with_reducible exact s10 _ _ _ _ _) (first
        | (go_at_call 118
           refine (HNT.out _ ?_).mono ?_
           (first|exact zax (Below.refl _ _) 1|exact zax HBA0.out 1)
           rintro e w7 ⟨v,i,full,rfl,hT,rfl,hP,hS0⟩
           obtain ⟨sl,rfl,hL⟩:=zah.1 hT
           obtain ⟨o8,l8,c8,rfl⟩:=hL.shape
           have hp:=HP.out
           have hl45:=HL45.out
           have hl56:=HL56.out
           have hle:=HLE.out
           have hS:Sole p w6 w7:=by first|exact (Sole.of_below (zax (Below.refl _ _) 1)).trans hS0|exact (Sole.of_below (zax HBA0.out 1)).trans hS0
           have HP7:Hid (PP w7 p g cap ts i d full):=hP
           have HS7:Hid (Sole p w w7):=HS6.out.trans hS
           have HKr7:Hid (Kep w w7 w.heap.size (kidO 0 [] 0 0 (.slice none 0 0))):=HKr6.out.sole hp.1 hS
           have HKn7:Hid (Kep w w7 w2.heap.size (tokO nm)):=HKn6.out.sole hp.1 hS
           have HKo7:Hid (Kep w w7 w1.heap.size (kidO k9 n9 m9 a9 (.slice o9 l9 c9))):=HKo6.out.sole hp.1 hS
           have HT7:Hid (zam (fun b=>wa.heap.size<=b∧b<w1.heap.size) w7 (.node k9 n9 m9 a9 ks9) (kidV k9 n9 m9 a9 (.slice o9 l9 c9))):=HT6.out.sole (fun b h=>by have:=HLA.out;omega) hS
           have HL7:Hid (zaf (fun b=>w4.heap.size<=b∧b<w5.heap.size) w7 l (.slice (some ⟨q7,0,none⟩) LN c7)):=HL6.out.sole (fun b h=>by omega) hS
           have HL67:Hid (w6.heap.size<=w7.heap.size):=hS.size
           (first
             | (have HKL0:Hid (Kep w w7 w6.heap.size (kidO 0 [] 0 0 (.slice none 0 0))∧zam (fun b=>w6.heap.size<b∧b<w7.heap.size) w7 (.node k8 n8 m8 a8 ks8) (kidV k8 n8 m8 a8 (.slice o8 l8 c8))):=⟨Kep.sole (cur:=wA0.drewN 1) HKA0.out hp.1 hS0,(zal.made hT).weaken (fun b h=>⟨Nat.lt_of_lt_of_le HKA0.out.lt h.1,h.2⟩)⟩)
             | skip)
           have HV7:Hid (zam (fun b=>w6.heap.size<=b∧b<w7.heap.size) w7 (.node k8 n8 m8 a8 ks8) (kidV k8 n8 m8 a8 (.slice o8 l8 c8))):=(zal.made hT).weaken (fun b h=>⟨by first|exact Nat.le_trans HBA0.out.size h.1|exact h.1,h.2⟩)
           obtain ⟨wB1,hwB1⟩:∃ x,w7.alloc (.cells #[.int .i64 k8,.string ⟨n8.toArray⟩,.int .i64 m8,.int .i64 a8,.slice o8 l8 c8,.int .i64 k9,.string ⟨n9.toArray⟩,.int .i64 m9,.int .i64 a9,.slice o9 l9 c9] 29)=x:=⟨_,rfl⟩
           obtain ⟨wA1,hwA1⟩:∃ x,w7.alloc (.cells #[.int .i64 0,.string ⟨#[]⟩,.int .i64 0,.int .i64 0,.slice none 0 0] 29)=x:=⟨_,rfl⟩
           obtain ⟨wAB1,hwAB1⟩:∃ x,wA1.alloc (.cells #[.int .i64 k8,.string ⟨n8.toArray⟩,.int .i64 m8,.int .i64 a8,.slice o8 l8 c8,.int .i64 k9,.string ⟨n9.toArray⟩,.int .i64 m9,.int .i64 a9,.slice o9 l9 c9] 29)=x:=⟨_,rfl⟩
           obtain ⟨wBA1,hwBA1⟩:∃ x,wB1.alloc (.cells #[.int .i64 0,.string ⟨#[]⟩,.int .i64 0,.int .i64 0,.slice none 0 0] 29)=x:=⟨_,rfl⟩
           have bB1:Below w7.heap.size w7 wB1:=by rw [<- hwB1];exact zad _ _
           have bA1:Below w7.heap.size w7 wA1:=by rw [<- hwA1];exact zad _ _
           have bAB1:Below w7.heap.size w7 wAB1:=by rw [<- hwAB1];exact bA1.alloc bA1.size _
           have bBA1:Below w7.heap.size w7 wBA1:=by rw [<- hwBA1];exact bB1.alloc bB1.size _
           have HBB:Hid (Below w7.heap.size w7 wB1∧Below w7.heap.size w7 wA1∧Below w7.heap.size w7 wAB1∧Below w7.heap.size w7 wBA1):=⟨bB1,bA1,bAB1,bBA1⟩
           have HQB1:Hid (Kep w wB1 w7.heap.size (zdr [.int .i64 k8,.string ⟨n8.toArray⟩,.int .i64 m8,.int .i64 a8,.slice o8 l8 c8,.int .i64 k9,.string ⟨n9.toArray⟩,.int .i64 m9,.int .i64 a9,.slice o9 l9 c9])):=by show Kep w wB1 _ _;rw [<- hwB1];exact Kep.new HS7.out.size _
           have HQBA1:Hid (Kep w wBA1 w7.heap.size (zdr [.int .i64 k8,.string ⟨n8.toArray⟩,.int .i64 m8,.int .i64 a8,.slice o8 l8 c8,.int .i64 k9,.string ⟨n9.toArray⟩,.int .i64 m9,.int .i64 a9,.slice o9 l9 c9])∧Kep w wBA1 wB1.heap.size (kidO 0 [] 0 0 (.slice none 0 0))∧w7.heap.size<wB1.heap.size):=by
            refine ⟨?_,?_,HQB1.out.lt⟩
            · rw [<- hwBA1];exact HQB1.out.alloc _
            · rw [<- hwBA1];exact Kep.new (Nat.le_trans HS7.out.size bB1.size) _
           have HQAB1:Hid (Kep w wAB1 wA1.heap.size (zdr [.int .i64 k8,.string ⟨n8.toArray⟩,.int .i64 m8,.int .i64 a8,.slice o8 l8 c8,.int .i64 k9,.string ⟨n9.toArray⟩,.int .i64 m9,.int .i64 a9,.slice o9 l9 c9])∧Kep w wAB1 w7.heap.size (kidO 0 [] 0 0 (.slice none 0 0))∧w7.heap.size<wA1.heap.size):=by
            have ha:Kep w wA1 w7.heap.size (kidO 0 [] 0 0 (.slice none 0 0)):=by rw [<- hwA1];exact Kep.new HS7.out.size _
            refine ⟨?_,?_,ha.lt⟩
            · rw [<- hwAB1];exact Kep.new (Nat.le_trans HS7.out.size bA1.size) _
            · rw [<- hwAB1];exact ha.alloc _
           have s2:w7.cell? ⟨w2.heap.size,0,none⟩=some (.int .i64 nm.kind)∧w7.cell? ⟨w2.heap.size,1,none⟩=some (.string ⟨nm.text.toArray⟩)∧w7.cell? ⟨w2.heap.size,2,none⟩=some (.int .i64 nm.num)∧w7.cell? ⟨w2.heap.size,3,none⟩=some (.int .i64 nm.at_)∧w7.cell? ⟨w1.heap.size,0,none⟩=some (.int .i64 k9)∧w7.cell? ⟨w1.heap.size,1,none⟩=some (.string ⟨n9.toArray⟩)∧w7.cell? ⟨w1.heap.size,2,none⟩=some (.int .i64 m9)∧w7.cell? ⟨w1.heap.size,3,none⟩=some (.int .i64 a9)∧w7.cell? ⟨w1.heap.size,4,none⟩=some (.slice o9 l9 c9):=zhd HKn7.out.1 HKo7.out.1
           have s3:wB1.cell? ⟨w2.heap.size,0,none⟩=some (.int .i64 nm.kind)∧wB1.cell? ⟨w2.heap.size,1,none⟩=some (.string ⟨nm.text.toArray⟩)∧wB1.cell? ⟨w2.heap.size,2,none⟩=some (.int .i64 nm.num)∧wB1.cell? ⟨w2.heap.size,3,none⟩=some (.int .i64 nm.at_)∧wB1.cell? ⟨w1.heap.size,0,none⟩=some (.int .i64 k9)∧wB1.cell? ⟨w1.heap.size,1,none⟩=some (.string ⟨n9.toArray⟩)∧wB1.cell? ⟨w1.heap.size,2,none⟩=some (.int .i64 m9)∧wB1.cell? ⟨w1.heap.size,3,none⟩=some (.int .i64 a9)∧wB1.cell? ⟨w1.heap.size,4,none⟩=some (.slice o9 l9 c9):=zhd (HKn7.out.below bB1).1 (HKo7.out.below bB1).1
           have s4:wA1.cell? ⟨w2.heap.size,0,none⟩=some (.int .i64 nm.kind)∧wA1.cell? ⟨w2.heap.size,1,none⟩=some (.string ⟨nm.text.toArray⟩)∧wA1.cell? ⟨w2.heap.size,2,none⟩=some (.int .i64 nm.num)∧wA1.cell? ⟨w2.heap.size,3,none⟩=some (.int .i64 nm.at_)∧wA1.cell? ⟨w1.heap.size,0,none⟩=some (.int .i64 k9)∧wA1.cell? ⟨w1.heap.size,1,none⟩=some (.string ⟨n9.toArray⟩)∧wA1.cell? ⟨w1.heap.size,2,none⟩=some (.int .i64 m9)∧wA1.cell? ⟨w1.heap.size,3,none⟩=some (.int .i64 a9)∧wA1.cell? ⟨w1.heap.size,4,none⟩=some (.slice o9 l9 c9):=zhd (HKn7.out.below bA1).1 (HKo7.out.below bA1).1
           have s5:wAB1.cell? ⟨w2.heap.size,0,none⟩=some (.int .i64 nm.kind)∧wAB1.cell? ⟨w2.heap.size,1,none⟩=some (.string ⟨nm.text.toArray⟩)∧wAB1.cell? ⟨w2.heap.size,2,none⟩=some (.int .i64 nm.num)∧wAB1.cell? ⟨w2.heap.size,3,none⟩=some (.int .i64 nm.at_)∧wAB1.cell? ⟨w1.heap.size,0,none⟩=some (.int .i64 k9)∧wAB1.cell? ⟨w1.heap.size,1,none⟩=some (.string ⟨n9.toArray⟩)∧wAB1.cell? ⟨w1.heap.size,2,none⟩=some (.int .i64 m9)∧wAB1.cell? ⟨w1.heap.size,3,none⟩=some (.int .i64 a9)∧wAB1.cell? ⟨w1.heap.size,4,none⟩=some (.slice o9 l9 c9):=zhd (HKn7.out.below bAB1).1 (HKo7.out.below bAB1).1
           have s6:wBA1.cell? ⟨w2.heap.size,0,none⟩=some (.int .i64 nm.kind)∧wBA1.cell? ⟨w2.heap.size,1,none⟩=some (.string ⟨nm.text.toArray⟩)∧wBA1.cell? ⟨w2.heap.size,2,none⟩=some (.int .i64 nm.num)∧wBA1.cell? ⟨w2.heap.size,3,none⟩=some (.int .i64 nm.at_)∧wBA1.cell? ⟨w1.heap.size,0,none⟩=some (.int .i64 k9)∧wBA1.cell? ⟨w1.heap.size,1,none⟩=some (.string ⟨n9.toArray⟩)∧wBA1.cell? ⟨w1.heap.size,2,none⟩=some (.int .i64 m9)∧wBA1.cell? ⟨w1.heap.size,3,none⟩=some (.int .i64 a9)∧wBA1.cell? ⟨w1.heap.size,4,none⟩=some (.slice o9 l9 c9):=zhd (HKn7.out.below bBA1).1 (HKo7.out.below bBA1).1
           clear hT hL hP hS hS0 hp hl45 hl56 hle bB1 bA1 bAB1 bBA1
           unfold kidV)
        | (go_at_call_of 109 (Value.slice (some (Addr.mk wA1.heap.size 0 none)) 2 2)
           refine (zc8 12 nm (some ⟨wA1.heap.size,0,none⟩) 2 2 wAB1).mono ?_
           rintro e w9 ⟨rfl,hB9⟩
           have hB9' : Below wAB1.heap.size wAB1 w9:=hB9
           have hb79:Below w7.heap.size w7 w9:=HBB.out.2.2.1.trans (hB9'.mono HBB.out.2.2.1.size)
           have HB79:Hid (Below w7.heap.size w7 w9):=hb79
           have HPx:Hid (PP w9 p g cap ts i d full):=HP7.out.below hb79
           have HSx:Hid (Sole p w w9):=HS7.out.trans (Sole.of_below hb79)
           have HKrx:Hid (Kep w w9 w.heap.size (kidO 0 [] 0 0 (.slice none 0 0))):=HKr7.out.below hb79
           have HLx:Hid (zaf (fun b=>w4.heap.size<=b∧b<w5.heap.size) w9 l (.slice (some ⟨q7,0,none⟩) LN c7)):=HL7.out.below hb79
           have HT9x:Hid (zam (fun b=>wa.heap.size<=b∧b<w1.heap.size) w9 (.node k9 n9 m9 a9 ks9) (kidV k9 n9 m9 a9 (.slice o9 l9 c9))):=HT7.out.below hb79
           have HVx:Hid (zam (fun b=>w6.heap.size<=b∧b<w7.heap.size) w9 (.node k8 n8 m8 a8 ks8) (kidV k8 n8 m8 a8 (.slice o8 l8 c8))):=HV7.out.below hb79
           have HQ1:Hid (Kep w w9 wA1.heap.size (zdr [.int .i64 k8,.string ⟨n8.toArray⟩,.int .i64 m8,.int .i64 a8,.slice o8 l8 c8,.int .i64 k9,.string ⟨n9.toArray⟩,.int .i64 m9,.int .i64 a9,.slice o9 l9 c9])):=HQAB1.out.1.below hB9'
           have s7:w9.cell? ⟨w2.heap.size,0,none⟩=some (.int .i64 nm.kind)∧w9.cell? ⟨w2.heap.size,1,none⟩=some (.string ⟨nm.text.toArray⟩)∧w9.cell? ⟨w2.heap.size,2,none⟩=some (.int .i64 nm.num)∧w9.cell? ⟨w2.heap.size,3,none⟩=some (.int .i64 nm.at_)∧w9.cell? ⟨w1.heap.size,0,none⟩=some (.int .i64 k9)∧w9.cell? ⟨w1.heap.size,1,none⟩=some (.string ⟨n9.toArray⟩)∧w9.cell? ⟨w1.heap.size,2,none⟩=some (.int .i64 m9)∧w9.cell? ⟨w1.heap.size,3,none⟩=some (.int .i64 a9)∧w9.cell? ⟨w1.heap.size,4,none⟩=some (.slice o9 l9 c9):=zhd (HKn7.out.below hb79).1 (HKo7.out.below hb79).1
           have s8:=fun x=>zhd ((HKn7.out.below hb79).alloc x).1 ((HKo7.out.below hb79).alloc x).1
           have HKL1:Hid (Kep w w9 w7.heap.size (kidO 0 [] 0 0 (.slice none 0 0))):=HQAB1.out.2.1.below hB9'
           obtain ⟨⟨z0,z1,z2,z3,z4⟩,⟨y0,y1,y2,y3,y4⟩⟩:=zac HKL1.out.1
           have hne:w2.heap.size≠w7.heap.size:=by have:=HLE.out;have:=HL45.out;have:=HL56.out;have:=HL67.out;have:=HQBA1.out.2.2;omega
           have hne2:w1.heap.size≠w7.heap.size:=by have:=HLE.out;have:=HL45.out;have:=HL56.out;have:=HL67.out;have:=HQBA1.out.2.2;omega
           have s10:=fun x0 x1 x2 x3 x4=>zhd (zht (v0:=x0) (v1:=x1) (v2:=x2) (v3:=x3) (v4:=x4) (HKn7.out.below hb79).1 hne) ((zb0 w9 w7.heap.size x0 x1 x2 x3 x4 w1.heap.size hne2).trans (HKo7.out.below hb79).1)
           clear hne hne2
           clear hB9 hB9' hb79
           unfold kidV)
        | (go_at_call_of 109 (Value.slice (some (Addr.mk w7.heap.size 0 none)) 2 2)
           refine (zc8 12 nm (some ⟨w7.heap.size,0,none⟩) 2 2 _).mono ?_
           rintro e w9 ⟨rfl,hB9⟩
           (first
             | (
                have hB9' : Below wBA1.heap.size wBA1 w9:=hB9
                have hb79:Below w7.heap.size w7 w9:=HBB.out.2.2.2.trans (hB9'.mono HBB.out.2.2.2.size)
                have HB79:Hid (Below w7.heap.size w7 w9):=hb79
                have HPx:Hid (PP w9 p g cap ts i d full):=HP7.out.below hb79
                have HSx:Hid (Sole p w w9):=HS7.out.trans (Sole.of_below hb79)
                have HKrx:Hid (Kep w w9 w.heap.size (kidO 0 [] 0 0 (.slice none 0 0))):=HKr7.out.below hb79
                have HLx:Hid (zaf (fun b=>w4.heap.size<=b∧b<w5.heap.size) w9 l (.slice (some ⟨q7,0,none⟩) LN c7)):=HL7.out.below hb79
                have HT9x:Hid (zam (fun b=>wa.heap.size<=b∧b<w1.heap.size) w9 (.node k9 n9 m9 a9 ks9) (kidV k9 n9 m9 a9 (.slice o9 l9 c9))):=HT7.out.below hb79
                have HVx:Hid (zam (fun b=>w6.heap.size<=b∧b<w7.heap.size) w9 (.node k8 n8 m8 a8 ks8) (kidV k8 n8 m8 a8 (.slice o8 l8 c8))):=HV7.out.below hb79
                have HQ2:Hid (Kep w w9 w7.heap.size (zdr [.int .i64 k8,.string ⟨n8.toArray⟩,.int .i64 m8,.int .i64 a8,.slice o8 l8 c8,.int .i64 k9,.string ⟨n9.toArray⟩,.int .i64 m9,.int .i64 a9,.slice o9 l9 c9])):=HQBA1.out.1.below hB9'
                have s7:w9.cell? ⟨w2.heap.size,0,none⟩=some (.int .i64 nm.kind)∧w9.cell? ⟨w2.heap.size,1,none⟩=some (.string ⟨nm.text.toArray⟩)∧w9.cell? ⟨w2.heap.size,2,none⟩=some (.int .i64 nm.num)∧w9.cell? ⟨w2.heap.size,3,none⟩=some (.int .i64 nm.at_)∧w9.cell? ⟨w1.heap.size,0,none⟩=some (.int .i64 k9)∧w9.cell? ⟨w1.heap.size,1,none⟩=some (.string ⟨n9.toArray⟩)∧w9.cell? ⟨w1.heap.size,2,none⟩=some (.int .i64 m9)∧w9.cell? ⟨w1.heap.size,3,none⟩=some (.int .i64 a9)∧w9.cell? ⟨w1.heap.size,4,none⟩=some (.slice o9 l9 c9):=zhd (HKn7.out.below hb79).1 (HKo7.out.below hb79).1
                have s8:=fun x=>zhd ((HKn7.out.below hb79).alloc x).1 ((HKo7.out.below hb79).alloc x).1
                have HKL2:Hid (Kep w w9 wB1.heap.size (kidO 0 [] 0 0 (.slice none 0 0))):=HQBA1.out.2.1.below hB9'
                obtain ⟨⟨z0,z1,z2,z3,z4⟩,⟨y0,y1,y2,y3,y4⟩⟩:=zac HKL2.out.1
                have hne:w2.heap.size≠wB1.heap.size:=by have:=HLE.out;have:=HL45.out;have:=HL56.out;have:=HL67.out;have:=HQBA1.out.2.2;omega
                have hne2:w1.heap.size≠wB1.heap.size:=by have:=HLE.out;have:=HL45.out;have:=HL56.out;have:=HL67.out;have:=HQBA1.out.2.2;omega
                have s10:=fun x0 x1 x2 x3 x4=>zhd (zht (v0:=x0) (v1:=x1) (v2:=x2) (v3:=x3) (v4:=x4) (HKn7.out.below hb79).1 hne) ((zb0 w9 wB1.heap.size x0 x1 x2 x3 x4 w1.heap.size hne2).trans (HKo7.out.below hb79).1)
                clear hne hne2
                clear hB9 hB9' hb79
                unfold kidV)
             | (
                have hB9' : Below wB1.heap.size wB1 w9:=hB9
                have hb79:Below w7.heap.size w7 w9:=HBB.out.1.trans (hB9'.mono HBB.out.1.size)
                have HB79:Hid (Below w7.heap.size w7 w9):=hb79
                have HPx:Hid (PP w9 p g cap ts i d full):=HP7.out.below hb79
                have HSx:Hid (Sole p w w9):=HS7.out.trans (Sole.of_below hb79)
                have HKrx:Hid (Kep w w9 w.heap.size (kidO 0 [] 0 0 (.slice none 0 0))):=HKr7.out.below hb79
                have HLx:Hid (zaf (fun b=>w4.heap.size<=b∧b<w5.heap.size) w9 l (.slice (some ⟨q7,0,none⟩) LN c7)):=HL7.out.below hb79
                have HT9x:Hid (zam (fun b=>wa.heap.size<=b∧b<w1.heap.size) w9 (.node k9 n9 m9 a9 ks9) (kidV k9 n9 m9 a9 (.slice o9 l9 c9))):=HT7.out.below hb79
                have HVx:Hid (zam (fun b=>w6.heap.size<=b∧b<w7.heap.size) w9 (.node k8 n8 m8 a8 ks8) (kidV k8 n8 m8 a8 (.slice o8 l8 c8))):=HV7.out.below hb79
                have HQ0:Hid (Kep w w9 w7.heap.size (zdr [.int .i64 k8,.string ⟨n8.toArray⟩,.int .i64 m8,.int .i64 a8,.slice o8 l8 c8,.int .i64 k9,.string ⟨n9.toArray⟩,.int .i64 m9,.int .i64 a9,.slice o9 l9 c9])):=HQB1.out.below hB9'
                have s7:w9.cell? ⟨w2.heap.size,0,none⟩=some (.int .i64 nm.kind)∧w9.cell? ⟨w2.heap.size,1,none⟩=some (.string ⟨nm.text.toArray⟩)∧w9.cell? ⟨w2.heap.size,2,none⟩=some (.int .i64 nm.num)∧w9.cell? ⟨w2.heap.size,3,none⟩=some (.int .i64 nm.at_)∧w9.cell? ⟨w1.heap.size,0,none⟩=some (.int .i64 k9)∧w9.cell? ⟨w1.heap.size,1,none⟩=some (.string ⟨n9.toArray⟩)∧w9.cell? ⟨w1.heap.size,2,none⟩=some (.int .i64 m9)∧w9.cell? ⟨w1.heap.size,3,none⟩=some (.int .i64 a9)∧w9.cell? ⟨w1.heap.size,4,none⟩=some (.slice o9 l9 c9):=zhd (HKn7.out.below hb79).1 (HKo7.out.below hb79).1
                have s8:=fun x=>zhd ((HKn7.out.below hb79).alloc x).1 ((HKo7.out.below hb79).alloc x).1
                have HKL0x:Hid (Kep w w9 w6.heap.size (kidO 0 [] 0 0 (.slice none 0 0))):=HKL0.out.1.below (HBB.out.1.trans (hB9'.mono HBB.out.1.size))
                obtain ⟨⟨z0,z1,z2,z3,z4⟩,⟨y0,y1,y2,y3,y4⟩⟩:=zac HKL0x.out.1
                have hne:w2.heap.size≠w6.heap.size:=by have:=HLE.out;have:=HL45.out;have:=HL56.out;have:=HL67.out;have:=HQBA1.out.2.2;omega
                have hne2:w1.heap.size≠w6.heap.size:=by have:=HLE.out;have:=HL45.out;have:=HL56.out;have:=HL67.out;have:=HQBA1.out.2.2;omega
                have s10:=fun x0 x1 x2 x3 x4=>zhd (zht (v0:=x0) (v1:=x1) (v2:=x2) (v3:=x3) (v4:=x4) (HKn7.out.below hb79).1 hne) ((zb0 w9 w6.heap.size x0 x1 x2 x3 x4 w1.heap.size hne2).trans (HKo7.out.below hb79).1)
                clear hne hne2
                clear hB9 hB9' hb79
                unfold kidV)
             | (
                have hB9' : Below wB1.heap.size wB1 w9:=hB9
                have hb79:Below w7.heap.size w7 w9:=HBB.out.1.trans (hB9'.mono HBB.out.1.size)
                have HB79:Hid (Below w7.heap.size w7 w9):=hb79
                have HPx:Hid (PP w9 p g cap ts i d full):=HP7.out.below hb79
                have HSx:Hid (Sole p w w9):=HS7.out.trans (Sole.of_below hb79)
                have HKrx:Hid (Kep w w9 w.heap.size (kidO 0 [] 0 0 (.slice none 0 0))):=HKr7.out.below hb79
                have HLx:Hid (zaf (fun b=>w4.heap.size<=b∧b<w5.heap.size) w9 l (.slice (some ⟨q7,0,none⟩) LN c7)):=HL7.out.below hb79
                have HT9x:Hid (zam (fun b=>wa.heap.size<=b∧b<w1.heap.size) w9 (.node k9 n9 m9 a9 ks9) (kidV k9 n9 m9 a9 (.slice o9 l9 c9))):=HT7.out.below hb79
                have HVx:Hid (zam (fun b=>w6.heap.size<=b∧b<w7.heap.size) w9 (.node k8 n8 m8 a8 ks8) (kidV k8 n8 m8 a8 (.slice o8 l8 c8))):=HV7.out.below hb79
                have HQ3:Hid (Kep w w9 w7.heap.size (zdr [.int .i64 k8,.string ⟨n8.toArray⟩,.int .i64 m8,.int .i64 a8,.slice o8 l8 c8,.int .i64 k9,.string ⟨n9.toArray⟩,.int .i64 m9,.int .i64 a9,.slice o9 l9 c9])):=HQB1.out.below hB9'
                have s7:w9.cell? ⟨w2.heap.size,0,none⟩=some (.int .i64 nm.kind)∧w9.cell? ⟨w2.heap.size,1,none⟩=some (.string ⟨nm.text.toArray⟩)∧w9.cell? ⟨w2.heap.size,2,none⟩=some (.int .i64 nm.num)∧w9.cell? ⟨w2.heap.size,3,none⟩=some (.int .i64 nm.at_)∧w9.cell? ⟨w1.heap.size,0,none⟩=some (.int .i64 k9)∧w9.cell? ⟨w1.heap.size,1,none⟩=some (.string ⟨n9.toArray⟩)∧w9.cell? ⟨w1.heap.size,2,none⟩=some (.int .i64 m9)∧w9.cell? ⟨w1.heap.size,3,none⟩=some (.int .i64 a9)∧w9.cell? ⟨w1.heap.size,4,none⟩=some (.slice o9 l9 c9):=zhd (HKn7.out.below hb79).1 (HKo7.out.below hb79).1
                have s8:=fun x=>zhd ((HKn7.out.below hb79).alloc x).1 ((HKo7.out.below hb79).alloc x).1
                clear hB9 hB9' hb79
                unfold kidV))))
       · have hle:=HLE.out
         have hl45:=HL45.out
         have hl56:=HL56.out
         have hl67:=HL67.out
         have hq9:=HQ3.out.lt
         have hp:=HP.out
         have HSc:Hid (Sole p w (w9.alloc (.cells #[.int .i64 12,.string ⟨nm.text.toArray⟩,.int .i64 0,.int .i64 nm.at_,.slice (some ⟨w7.heap.size,0,none⟩) 2 2] 29))):=HSx.out.alloc _
         have HPc:Hid (PP (w9.alloc (.cells #[.int .i64 12,.string ⟨nm.text.toArray⟩,.int .i64 0,.int .i64 nm.at_,.slice (some ⟨w7.heap.size,0,none⟩) 2 2] 29)) p g cap ts i d full):=HPx.out.alloc _
         have HKrc:Hid (Kep w (w9.alloc (.cells #[.int .i64 12,.string ⟨nm.text.toArray⟩,.int .i64 0,.int .i64 nm.at_,.slice (some ⟨w7.heap.size,0,none⟩) 2 2] 29)) w.heap.size (kidO 0 [] 0 0 (.slice none 0 0))):=HKrx.out.alloc _
         have HKlc:Hid (Kep w (w9.alloc (.cells #[.int .i64 12,.string ⟨nm.text.toArray⟩,.int .i64 0,.int .i64 nm.at_,.slice (some ⟨w7.heap.size,0,none⟩) 2 2] 29)) w9.heap.size (kidO 12 nm.text 0 nm.at_ (.slice (some ⟨w7.heap.size,0,none⟩) 2 2))):=Kep.new HSx.out.size _
         have HQc:Hid (Kep w (w9.alloc (.cells #[.int .i64 12,.string ⟨nm.text.toArray⟩,.int .i64 0,.int .i64 nm.at_,.slice (some ⟨w7.heap.size,0,none⟩) 2 2] 29)) w7.heap.size (zdr [.int .i64 k8,.string ⟨n8.toArray⟩,.int .i64 m8,.int .i64 a8,.slice o8 l8 c8,.int .i64 k9,.string ⟨n9.toArray⟩,.int .i64 m9,.int .i64 a9,.slice o9 l9 c9])):=HQ3.out.alloc _
         have HLc:Hid (zaf (fun b=>w4.heap.size<=b∧b<w5.heap.size) (w9.alloc (.cells #[.int .i64 12,.string ⟨nm.text.toArray⟩,.int .i64 0,.int .i64 nm.at_,.slice (some ⟨w7.heap.size,0,none⟩) 2 2] 29)) l (.slice (some ⟨q7,0,none⟩) LN c7)):=HLx.out.below (zad _ _)
         have HVc:Hid (zam (fun b=>w6.heap.size<=b∧b≠w9.heap.size∧b≠w7.heap.size) (w9.alloc (.cells #[.int .i64 12,.string ⟨nm.text.toArray⟩,.int .i64 0,.int .i64 nm.at_,.slice (some ⟨w7.heap.size,0,none⟩) 2 2] 29)) (.node k8 n8 m8 a8 ks8) (kidV k8 n8 m8 a8 (.slice o8 l8 c8))):=(HVx.out.below (zad _ _)).weaken (fun b h=>⟨h.1,by omega,by omega⟩)
         have HT9c:Hid (zam (fun b=>wa.heap.size<=b∧b<w1.heap.size) (w9.alloc (.cells #[.int .i64 12,.string ⟨nm.text.toArray⟩,.int .i64 0,.int .i64 nm.at_,.slice (some ⟨w7.heap.size,0,none⟩) 2 2] 29)) (.node k9 n9 m9 a9 ks9) (kidV k9 n9 m9 a9 (.slice o9 l9 c9))):=HT9x.out.below (zad _ _)
         generalize (w9.alloc (.cells #[.int .i64 12,.string ⟨nm.text.toArray⟩,.int .i64 0,.int .i64 nm.at_,.slice (some ⟨w7.heap.size,0,none⟩) 2 2] 29))=wc at HSc HPc HKrc HKlc HQc HLc HVc HT9c ⊢
         clear hle hl45 hl56 hl67 hq9 hp
         have HKn:Hid True:=trivial
         have hle:=HLE.out
         have hl45:=HL45.out
         have hl56:=HL56.out
         have hl67:=HL67.out
         have hp:=HP.out
         obtain ⟨ys,hyl,hy1,hyr,hyc,hyq⟩:=HLc.out.cellsOf
         rw [HLN.out.1] at hyl
         have HYS:Hid (ys.length=LN*5∧(∀ u∈ys,u.oneCell'=true)∧RowV (fun b=>(w4.heap.size<=b∧b<w5.heap.size)∧b≠q7) wc l ys∧(∀ j u,ys[j]?=some u->wc.cell? ((⟨q7,0,none⟩:Addr).add j)=some u)):=⟨hyl,hy1,hyr,hyc⟩
         have HOW:Hid (wc.ownsRow 0 29 5 (.slice (some ⟨w7.heap.size,0,none⟩) 2 2) 2 [.int .i64 k8,.string ⟨n8.toArray⟩,.int .i64 m8,.int .i64 a8,.slice o8 l8 c8,.int .i64 k9,.string ⟨n9.toArray⟩,.int .i64 m9,.int .i64 a9,.slice o9 l9 c9]):=zdx HQc.out.1 rfl (by decide)
         have HNE:Hid (w7.heap.size≠w9.heap.size∧w.heap.size<w9.heap.size∧w.heap.size<w7.heap.size∧w5.heap.size<=w7.heap.size∧w5.heap.size<=w9.heap.size):=by show _∧_;have:=HQ3.out.lt;refine ⟨by omega,by omega,by omega,by omega,by omega⟩
         have HLN0:Hid (0<LN):=by
          show 0<LN
          rw [<- HLN.out.1]
          cases hq:l with
          | nil=>exact absurd hq HLN.out.2.2
          | cons _ _=>simp
         obtain ⟨⟨v0,v1,v2,v3,v4⟩,⟨f0,f1,f2,f3,f4⟩⟩:=zac HKlc.out.1
         clear hle hl45 hl56 hl67 hp hyl hy1 hyr hyc hyq
         go_wp2_with (at_builtin;refine wpList_append_lies _ rfl _ _ 27 rfl 0 29 inf (.agg #[.int .i64 0,.string ⟨#[]⟩,.int .i64 0,.int .i64 0,.slice none 0 0]) 5 64 Tryz.underlying27 HI.out.1 HI.out.2.1 HI.out.2.2.1 HI.out.2.2.2 rfl (by decide) (.slice (some ⟨w7.heap.size,0,none⟩) 2 2) 2 [.int .i64 k8,.string ⟨n8.toArray⟩,.int .i64 m8,.int .i64 a8,.slice o8 l8 c8,.int .i64 k9,.string ⟨n9.toArray⟩,.int .i64 m9,.int .i64 a9,.slice o9 l9 c9] rfl HOW.out ⟨q7,0,none⟩ LN c7 ys rfl HYS.out.1 HYS.out.2.2.2 HYS.out.2.1 HLN0.out (by have:=HLN.out;unfold maxLen;omega) (by have:=HLN.out;omega) (Nat.zero_le _) _ rfl ?_;intro gq cq w11 hown hgrow hat hlt;have hne:=HNE.out;have hpp:=HP.out;have HKl11:Hid (Kep w w11 w9.heap.size (kidO 12 nm.text 0 nm.at_ (.slice (some ⟨w7.heap.size,0,none⟩) 2 2))):=HKlc.out.grown hgrow (fun e=>hne.1 e.symm);have HKr11:Hid (Kep w w11 w.heap.size (kidO 0 [] 0 0 (.slice none 0 0))):=HKrc.out.grown hgrow (Nat.ne_of_lt hne.2.2.1);obtain ⟨⟨l0,l1,l2,l3,l4⟩,⟨e0,e1,e2,e3,e4⟩⟩:=zac HKl11.out.1;obtain ⟨⟨j0,j1,j2,j3,j4⟩,⟨d0,d1,d2,d3,d4⟩⟩:=zac HKr11.out.1;have hq1:¬ w.heap.size=w9.heap.size:=Nat.ne_of_lt hne.2.1;have hq2:¬ w9.heap.size=w.heap.size:=fun e=>hq1 e.symm;have HG:Hid (wc.grownBy w11 (some w7.heap.size)∧w11.ownsRow 0 29 5 (.slice (some ⟨gq,0,none⟩) (2+LN) cq) (2+LN) ([.int .i64 k8,.string ⟨n8.toArray⟩,.int .i64 m8,.int .i64 a8,.slice o8 l8 c8,.int .i64 k9,.string ⟨n9.toArray⟩,.int .i64 m9,.int .i64 a9,.slice o9 l9 c9]++ys)∧((Value.slice (some ⟨w7.heap.size,0,none⟩) 2 2).ownBlock=some gq∨gq=wc.heap.size)):=⟨hgrow,hown,hat⟩;clear hown hgrow hat hlt hne hpp)
         have hne:=HNE.out
         have hp:=HP.out
         have hle:=HLE.out
         have hl45:=HL45.out
         have hl56:=HL56.out
         have hl67:=HL67.out
         have hsc:=HSc.out.size
         have hcl:=HKlc.out.lt
         have hla:=HLA.out
         have hz:∀ b,b≠w9.heap.size->(w11.setCell ⟨w9.heap.size,4,none⟩ (.slice (some ⟨gq,0,none⟩) (2+LN) cq)).heap[b]?=w11.heap[b]?:=fun b hb=>Below.heap_setCell _ _ _ _ hb
         have HP12:Hid (PP (w11.setCell ⟨w9.heap.size,4,none⟩ (.slice (some ⟨gq,0,none⟩) (2+LN) cq)) p g cap ts i d full):=(HPc.out.grown HG.out.1 (by omega) (by omega)).sole_but (by omega) (by omega) hz
         have HS12:Hid (Sole p w (w11.setCell ⟨w9.heap.size,4,none⟩ (.slice (some ⟨gq,0,none⟩) (2+LN) cq))):=(HSc.out.grown HG.out.1 (by omega)).below_after ((Below.refl _ _).setCell (Nat.le_of_lt hne.2.1) _)
         have HKr12:Hid (Kep w (w11.setCell ⟨w9.heap.size,4,none⟩ (.slice (some ⟨gq,0,none⟩) (2+LN) cq)) w.heap.size (kidO 0 [] 0 0 (.slice none 0 0))):=HKr11.out.but hz (by omega)
         have HL12:Hid (zaf (fun b=>w.heap.size<b∧b≠w9.heap.size) (w11.setCell ⟨w9.heap.size,4,none⟩ (.slice (some ⟨gq,0,none⟩) (2+LN) cq)) ((.node k8 n8 m8 a8 ks8)::(.node k9 n9 m9 a9 ks9)::l) (.slice (some ⟨gq,0,none⟩) (2+LN) cq)):=by
          refine zaf.but ?_ (fun b h=>h.2) hz
          refine zbm (ks:=[(.node k8 n8 m8 a8 ks8),(.node k9 n9 m9 a9 ks9)]) (us:=l) (sl:=.slice (some ⟨w7.heap.size,0,none⟩) 2 2) (fun q e=>?_) (RowV.append [_] [_] _ _ (zbe (HVc.out.weaken (fun b h=>?_))) (zbe (HT9c.out.weaken (fun b h=>?_)))) (RowV.frame (fun b h=>?_) (fun _ _ _=>rfl) _ _ HYS.out.2.2.1) (by rw [HLN.out.1];exact HG.out.2.1) HG.out.1 wc.heap.size (Nat.le_refl _) ⟨by omega,by omega⟩ ?_
          · have e2:w7.heap.size=q:=Option.some.inj e
            exact ⟨by omega,by omega⟩
          · refine ⟨⟨by omega,h.2.1⟩,fun e=>?_⟩
            have e2:w7.heap.size=b:=Option.some.inj e
            exact h.2.2 e2.symm
          · refine ⟨⟨by omega,by omega⟩,fun e=>?_⟩
            have e2:w7.heap.size=b:=Option.some.inj e
            omega
          · refine ⟨⟨by omega,by omega⟩,fun e=>?_⟩
            have e2:w7.heap.size=b:=Option.some.inj e
            omega
          · rcases HG.out.2.2 with e|e
            · exact Or.inl e.symm
            · exact Or.inr (by rw [e];rfl)
         have HKl12:Hid (Kep w (w11.setCell ⟨w9.heap.size,4,none⟩ (.slice (some ⟨gq,0,none⟩) (2+LN) cq)) w9.heap.size (kidO 12 nm.text 0 nm.at_ (.slice (some ⟨gq,0,none⟩) (2+LN) cq))):=⟨zfk HKl11.out.1,HKl11.out.2⟩
         have HSZ12:Hid ((w11.setCell ⟨w9.heap.size,4,none⟩ (.slice (some ⟨gq,0,none⟩) (2+LN) cq)).heap.size=w11.heap.size):=by show _=_;simp
         generalize w11.setCell ⟨w9.heap.size,4,none⟩ (.slice (some ⟨gq,0,none⟩) (2+LN) cq)=w12 at HP12 HS12 HKr12 HKl12 HL12 HSZ12 ⊢
         clear hne hp hle hl45 hl56 hl67 hsc hcl hz hla l0 l1 l2 l3 l4 j0 j1 j2 j3 j4 e0 e1 e2 e3 e4 d0 d1 d2 d3 d4
         have HWA:Hid (Calls Tryz.prog 41 #[.pointer (some ⟨p,0,none⟩),.slice (some ⟨w12.heap.size,0,none⟩) 1 1] (w12.alloc (.cells #[.string ⟨#[59]⟩] 9)) (zao p g cap ts d ze4 ((PSof ts i full).want [59]) w12)):=zbs p g cap ts HE.out i d full [59] (by simp) w12 HP12.out
         obtain ⟨ru,hru⟩:∃ r,(PSof ts i full).want [59]=r:=⟨_,rfl⟩
         have HR6:Hid (R=ru.bind fun _ s=>Ans.ok (named 12 nm ((.node k8 n8 m8 a8 ks8)::(.node k9 n9 m9 a9 ks9)::l)) s):=by
          show _=_
          rw [HR5.out];first|(rw [<- hru];done)|(rw [<- hru];rfl)
         rw [hru,HSZ12.out] at HWA
         clear hru
         refine HWA.out.mono ?_
         cases ru with
         | no why at_ =>
          rintro e w99 ⟨rfl,hS⟩
          have HS99:Hid (Sole p w w99):=HS12.out.trans hS
          clear hS
          go_wp2
          refine ⟨rfl,?_⟩
          rw [HR6.out]
          exact ⟨rfl,HS99.out⟩
         | ok u st =>
          rintro e w13 ⟨v,i,full,rfl,rfl,rfl,hP,hS⟩
          have hp:=HP.out
          have HP13:Hid (PP w13 p g cap ts i d full):=hP
          have HS13:Hid (Sole p w w13):=HS12.out.trans hS
          have HKr13:Hid (Kep w w13 w.heap.size (kidO 0 [] 0 0 (.slice none 0 0))):=HKr12.out.sole hp.1 hS
          have HL13:Hid (zaf (fun b=>w.heap.size<b∧b≠w9.heap.size) w13 ((.node k8 n8 m8 a8 ks8)::(.node k9 n9 m9 a9 ks9)::l) (.slice (some ⟨gq,0,none⟩) (2+LN) cq)):=HL12.out.sole (fun b h=>by omega) hS
          obtain ⟨⟨l0,l1,l2,l3,l4⟩,_⟩:=zac (HKl12.out.sole hp.1 hS).1
          clear hP hS hp
          obtain ⟨⟨z0,z1,z2,z3,z4⟩,⟨y0,y1,y2,y3,y4⟩⟩:=zac HKr13.out.1
          go_wp2
          have q:=res5 w13 w.heap.size (.int .i64 12) (.string ⟨nm.text.toArray⟩) (.int .i64 0) (.int .i64 nm.at_) (.slice (some ⟨gq,0,none⟩) (2+LN) cq) z0 z1 z2 z3 z4
          have hf:=fin5 (r:=w.heap.size) (w9:=w13) (k:=12) (n:=nm.text) (m:=0) (a:=nm.at_) (sl:=(.slice (some ⟨gq,0,none⟩) (2+LN) cq)) HKr13.out.2 HS13.out _ rfl
          generalize ((((w13.setCell ⟨w.heap.size,0,none⟩ (.int .i64 12)).setCell ⟨w.heap.size,1,none⟩ (.string ⟨nm.text.toArray⟩)).setCell ⟨w.heap.size,2,none⟩ (.int .i64 0)).setCell ⟨w.heap.size,3,none⟩ (.int .i64 nm.at_)).setCell ⟨w.heap.size,4,none⟩ (.slice (some ⟨gq,0,none⟩) (2+LN) cq)=wz at q hf ⊢
          obtain ⟨q0,q1,q2,q3,q4⟩:=q
          refine bodyPost_ret (v:=.agg #[.int .i64 12,.string ⟨nm.text.toArray⟩,.int .i64 0,.int .i64 nm.at_,(.slice (some ⟨gq,0,none⟩) (2+LN) cq)]) (by simp [results,Tryz.results119,go_sem,q0,q1,q2,q3,q4]) rfl ?_
          rw [HR6.out]
          have hr2:=HKr13.out.2
          have hpg:=HP.out
          exact ⟨_,_,_,rfl,zbu HL13.out (fun b h=>Nat.le_of_lt h.1) (fun b h=>Nat.ne_of_gt h.1) hf.2,rfl,HP13.out.sole_but (by omega) (by omega) hf.2,hf.1⟩
       · have hgd:=HKL2.out
         clear hgd
         have hle:=HLE.out
         have hl45:=HL45.out
         have hl56:=HL56.out
         have hl67:=HL67.out
         have hb1:=HQBA1.out.2.2
         have ha1:=HQAB1.out.2.2
         have hp:=HP.out
         have h06:=HLE.out
         have hf9:=fin5 (r:=wB1.heap.size) (w9:=w9) (k:=12) (n:=nm.text) (m:=0) (a:=nm.at_) (sl:=.slice (some ⟨w7.heap.size,0,none⟩) 2 2) HKL2.out.2 HSx.out _ rfl
         have HSc:Hid (Sole p w (((((w9.setCell ⟨wB1.heap.size,0,none⟩ (.int .i64 12)).setCell ⟨wB1.heap.size,1,none⟩ (.string ⟨nm.text.toArray⟩)).setCell ⟨wB1.heap.size,2,none⟩ (.int .i64 0)).setCell ⟨wB1.heap.size,3,none⟩ (.int .i64 nm.at_)).setCell ⟨wB1.heap.size,4,none⟩ (.slice (some ⟨w7.heap.size,0,none⟩) 2 2))):=hf9.1
         have HPc:Hid (PP (((((w9.setCell ⟨wB1.heap.size,0,none⟩ (.int .i64 12)).setCell ⟨wB1.heap.size,1,none⟩ (.string ⟨nm.text.toArray⟩)).setCell ⟨wB1.heap.size,2,none⟩ (.int .i64 0)).setCell ⟨wB1.heap.size,3,none⟩ (.int .i64 nm.at_)).setCell ⟨wB1.heap.size,4,none⟩ (.slice (some ⟨w7.heap.size,0,none⟩) 2 2)) p g cap ts i d full):=HPx.out.sole_but (by omega) (by omega) hf9.2
         have HKrc:Hid (Kep w (((((w9.setCell ⟨wB1.heap.size,0,none⟩ (.int .i64 12)).setCell ⟨wB1.heap.size,1,none⟩ (.string ⟨nm.text.toArray⟩)).setCell ⟨wB1.heap.size,2,none⟩ (.int .i64 0)).setCell ⟨wB1.heap.size,3,none⟩ (.int .i64 nm.at_)).setCell ⟨wB1.heap.size,4,none⟩ (.slice (some ⟨w7.heap.size,0,none⟩) 2 2)) w.heap.size (kidO 0 [] 0 0 (.slice none 0 0))):=HKrx.out.but hf9.2 (by omega)
         have HKlc:Hid (Kep w (((((w9.setCell ⟨wB1.heap.size,0,none⟩ (.int .i64 12)).setCell ⟨wB1.heap.size,1,none⟩ (.string ⟨nm.text.toArray⟩)).setCell ⟨wB1.heap.size,2,none⟩ (.int .i64 0)).setCell ⟨wB1.heap.size,3,none⟩ (.int .i64 nm.at_)).setCell ⟨wB1.heap.size,4,none⟩ (.slice (some ⟨w7.heap.size,0,none⟩) 2 2)) wB1.heap.size (kidO 12 nm.text 0 nm.at_ (.slice (some ⟨w7.heap.size,0,none⟩) 2 2))):=⟨zfj HKL2.out.1,HKL2.out.2⟩
         have HQc:Hid (Kep w (((((w9.setCell ⟨wB1.heap.size,0,none⟩ (.int .i64 12)).setCell ⟨wB1.heap.size,1,none⟩ (.string ⟨nm.text.toArray⟩)).setCell ⟨wB1.heap.size,2,none⟩ (.int .i64 0)).setCell ⟨wB1.heap.size,3,none⟩ (.int .i64 nm.at_)).setCell ⟨wB1.heap.size,4,none⟩ (.slice (some ⟨w7.heap.size,0,none⟩) 2 2)) w7.heap.size (zdr [.int .i64 k8,.string ⟨n8.toArray⟩,.int .i64 m8,.int .i64 a8,.slice o8 l8 c8,.int .i64 k9,.string ⟨n9.toArray⟩,.int .i64 m9,.int .i64 a9,.slice o9 l9 c9])):=HQ2.out.but hf9.2 (by omega)
         have HLc:Hid (zaf (fun b=>w4.heap.size<=b∧b<w5.heap.size) (((((w9.setCell ⟨wB1.heap.size,0,none⟩ (.int .i64 12)).setCell ⟨wB1.heap.size,1,none⟩ (.string ⟨nm.text.toArray⟩)).setCell ⟨wB1.heap.size,2,none⟩ (.int .i64 0)).setCell ⟨wB1.heap.size,3,none⟩ (.int .i64 nm.at_)).setCell ⟨wB1.heap.size,4,none⟩ (.slice (some ⟨w7.heap.size,0,none⟩) 2 2)) l (.slice (some ⟨q7,0,none⟩) LN c7)):=HLx.out.but (fun b h=>by omega) hf9.2
         have HVc:Hid (zam (fun b=>w6.heap.size<=b∧b≠wB1.heap.size∧b≠w7.heap.size) (((((w9.setCell ⟨wB1.heap.size,0,none⟩ (.int .i64 12)).setCell ⟨wB1.heap.size,1,none⟩ (.string ⟨nm.text.toArray⟩)).setCell ⟨wB1.heap.size,2,none⟩ (.int .i64 0)).setCell ⟨wB1.heap.size,3,none⟩ (.int .i64 nm.at_)).setCell ⟨wB1.heap.size,4,none⟩ (.slice (some ⟨w7.heap.size,0,none⟩) 2 2)) (.node k8 n8 m8 a8 ks8) (kidV k8 n8 m8 a8 (.slice o8 l8 c8))):=zam.frame (fun _ h=>h) (fun b h _=>hf9.2 b h.2.1) _ _ (HVx.out.weaken (fun b h=>⟨h.1,by omega,by omega⟩))
         have HT9c:Hid (zam (fun b=>wa.heap.size<=b∧b<w1.heap.size) (((((w9.setCell ⟨wB1.heap.size,0,none⟩ (.int .i64 12)).setCell ⟨wB1.heap.size,1,none⟩ (.string ⟨nm.text.toArray⟩)).setCell ⟨wB1.heap.size,2,none⟩ (.int .i64 0)).setCell ⟨wB1.heap.size,3,none⟩ (.int .i64 nm.at_)).setCell ⟨wB1.heap.size,4,none⟩ (.slice (some ⟨w7.heap.size,0,none⟩) 2 2)) (.node k9 n9 m9 a9 ks9) (kidV k9 n9 m9 a9 (.slice o9 l9 c9))):=zam.frame (fun _ h=>h) (fun b h _=>hf9.2 b (by have:=HLA.out;omega)) _ _ HT9x.out
         generalize (((((w9.setCell ⟨wB1.heap.size,0,none⟩ (.int .i64 12)).setCell ⟨wB1.heap.size,1,none⟩ (.string ⟨nm.text.toArray⟩)).setCell ⟨wB1.heap.size,2,none⟩ (.int .i64 0)).setCell ⟨wB1.heap.size,3,none⟩ (.int .i64 nm.at_)).setCell ⟨wB1.heap.size,4,none⟩ (.slice (some ⟨w7.heap.size,0,none⟩) 2 2))=wc at HSc HPc HKrc HKlc HQc HLc HVc HT9c ⊢
         clear hf9 hle hl45 hl56 hl67 hb1 ha1 hp h06
         have HKn:Hid True:=trivial
         have hle:=HLE.out
         have hl45:=HL45.out
         have hl56:=HL56.out
         have hl67:=HL67.out
         have hp:=HP.out
         obtain ⟨ys,hyl,hy1,hyr,hyc,hyq⟩:=HLc.out.cellsOf
         rw [HLN.out.1] at hyl
         have HYS:Hid (ys.length=LN*5∧(∀ u∈ys,u.oneCell'=true)∧RowV (fun b=>(w4.heap.size<=b∧b<w5.heap.size)∧b≠q7) wc l ys∧(∀ j u,ys[j]?=some u->wc.cell? ((⟨q7,0,none⟩:Addr).add j)=some u)):=⟨hyl,hy1,hyr,hyc⟩
         have HOW:Hid (wc.ownsRow 0 29 5 (.slice (some ⟨w7.heap.size,0,none⟩) 2 2) 2 [.int .i64 k8,.string ⟨n8.toArray⟩,.int .i64 m8,.int .i64 a8,.slice o8 l8 c8,.int .i64 k9,.string ⟨n9.toArray⟩,.int .i64 m9,.int .i64 a9,.slice o9 l9 c9]):=zdx HQc.out.1 rfl (by decide)
         have HNE:Hid (w7.heap.size≠wB1.heap.size∧w.heap.size<wB1.heap.size∧w.heap.size<w7.heap.size∧w5.heap.size<=w7.heap.size∧w5.heap.size<=wB1.heap.size):=by show _∧_;have:=HQBA1.out.2.2;have:=HQAB1.out.2.2;refine ⟨by omega,by omega,by omega,by omega,by omega⟩
         have HLN0:Hid (0<LN):=by
          show 0<LN
          rw [<- HLN.out.1]
          cases hq:l with
          | nil=>exact absurd hq HLN.out.2.2
          | cons _ _=>simp
         obtain ⟨⟨v0,v1,v2,v3,v4⟩,⟨f0,f1,f2,f3,f4⟩⟩:=zac HKlc.out.1
         clear hle hl45 hl56 hl67 hp hyl hy1 hyr hyc hyq
         go_wp2_with (at_builtin;refine wpList_append_lies _ rfl _ _ 27 rfl 0 29 inf (.agg #[.int .i64 0,.string ⟨#[]⟩,.int .i64 0,.int .i64 0,.slice none 0 0]) 5 64 Tryz.underlying27 HI.out.1 HI.out.2.1 HI.out.2.2.1 HI.out.2.2.2 rfl (by decide) (.slice (some ⟨w7.heap.size,0,none⟩) 2 2) 2 [.int .i64 k8,.string ⟨n8.toArray⟩,.int .i64 m8,.int .i64 a8,.slice o8 l8 c8,.int .i64 k9,.string ⟨n9.toArray⟩,.int .i64 m9,.int .i64 a9,.slice o9 l9 c9] rfl HOW.out ⟨q7,0,none⟩ LN c7 ys rfl HYS.out.1 HYS.out.2.2.2 HYS.out.2.1 HLN0.out (by have:=HLN.out;unfold maxLen;omega) (by have:=HLN.out;omega) (Nat.zero_le _) _ rfl ?_;intro gq cq w11 hown hgrow hat hlt;have hne:=HNE.out;have hpp:=HP.out;have HKl11:Hid (Kep w w11 wB1.heap.size (kidO 12 nm.text 0 nm.at_ (.slice (some ⟨w7.heap.size,0,none⟩) 2 2))):=HKlc.out.grown hgrow (fun e=>hne.1 e.symm);have HKr11:Hid (Kep w w11 w.heap.size (kidO 0 [] 0 0 (.slice none 0 0))):=HKrc.out.grown hgrow (Nat.ne_of_lt hne.2.2.1);obtain ⟨⟨l0,l1,l2,l3,l4⟩,⟨e0,e1,e2,e3,e4⟩⟩:=zac HKl11.out.1;obtain ⟨⟨j0,j1,j2,j3,j4⟩,⟨d0,d1,d2,d3,d4⟩⟩:=zac HKr11.out.1;have hq1:¬ w.heap.size=wB1.heap.size:=Nat.ne_of_lt hne.2.1;have hq2:¬ wB1.heap.size=w.heap.size:=fun e=>hq1 e.symm;have HG:Hid (wc.grownBy w11 (some w7.heap.size)∧w11.ownsRow 0 29 5 (.slice (some ⟨gq,0,none⟩) (2+LN) cq) (2+LN) ([.int .i64 k8,.string ⟨n8.toArray⟩,.int .i64 m8,.int .i64 a8,.slice o8 l8 c8,.int .i64 k9,.string ⟨n9.toArray⟩,.int .i64 m9,.int .i64 a9,.slice o9 l9 c9]++ys)∧((Value.slice (some ⟨w7.heap.size,0,none⟩) 2 2).ownBlock=some gq∨gq=wc.heap.size)):=⟨hgrow,hown,hat⟩;clear hown hgrow hat hlt hne hpp)
         have hne:=HNE.out
         have hp:=HP.out
         have hle:=HLE.out
         have hl45:=HL45.out
         have hl56:=HL56.out
         have hl67:=HL67.out
         have hsc:=HSc.out.size
         have hcl:=HKlc.out.lt
         have hla:=HLA.out
         have hz:∀ b,b≠wB1.heap.size->(w11.setCell ⟨wB1.heap.size,4,none⟩ (.slice (some ⟨gq,0,none⟩) (2+LN) cq)).heap[b]?=w11.heap[b]?:=fun b hb=>Below.heap_setCell _ _ _ _ hb
         have HP12:Hid (PP (w11.setCell ⟨wB1.heap.size,4,none⟩ (.slice (some ⟨gq,0,none⟩) (2+LN) cq)) p g cap ts i d full):=(HPc.out.grown HG.out.1 (by omega) (by omega)).sole_but (by omega) (by omega) hz
         have HS12:Hid (Sole p w (w11.setCell ⟨wB1.heap.size,4,none⟩ (.slice (some ⟨gq,0,none⟩) (2+LN) cq))):=(HSc.out.grown HG.out.1 (by omega)).below_after ((Below.refl _ _).setCell (Nat.le_of_lt hne.2.1) _)
         have HKr12:Hid (Kep w (w11.setCell ⟨wB1.heap.size,4,none⟩ (.slice (some ⟨gq,0,none⟩) (2+LN) cq)) w.heap.size (kidO 0 [] 0 0 (.slice none 0 0))):=HKr11.out.but hz (by omega)
         have HL12:Hid (zaf (fun b=>w.heap.size<b∧b≠wB1.heap.size) (w11.setCell ⟨wB1.heap.size,4,none⟩ (.slice (some ⟨gq,0,none⟩) (2+LN) cq)) ((.node k8 n8 m8 a8 ks8)::(.node k9 n9 m9 a9 ks9)::l) (.slice (some ⟨gq,0,none⟩) (2+LN) cq)):=by
          refine zaf.but ?_ (fun b h=>h.2) hz
          refine zbm (ks:=[(.node k8 n8 m8 a8 ks8),(.node k9 n9 m9 a9 ks9)]) (us:=l) (sl:=.slice (some ⟨w7.heap.size,0,none⟩) 2 2) (fun q e=>?_) (RowV.append [_] [_] _ _ (zbe (HVc.out.weaken (fun b h=>?_))) (zbe (HT9c.out.weaken (fun b h=>?_)))) (RowV.frame (fun b h=>?_) (fun _ _ _=>rfl) _ _ HYS.out.2.2.1) (by rw [HLN.out.1];exact HG.out.2.1) HG.out.1 wc.heap.size (Nat.le_refl _) ⟨by omega,by omega⟩ ?_
          · have e2:w7.heap.size=q:=Option.some.inj e
            exact ⟨by omega,by omega⟩
          · refine ⟨⟨by omega,h.2.1⟩,fun e=>?_⟩
            have e2:w7.heap.size=b:=Option.some.inj e
            exact h.2.2 e2.symm
          · refine ⟨⟨by omega,by omega⟩,fun e=>?_⟩
            have e2:w7.heap.size=b:=Option.some.inj e
            omega
          · refine ⟨⟨by omega,by omega⟩,fun e=>?_⟩
            have e2:w7.heap.size=b:=Option.some.inj e
            omega
          · rcases HG.out.2.2 with e|e
            · exact Or.inl e.symm
            · exact Or.inr (by rw [e];rfl)
         have HKl12:Hid (Kep w (w11.setCell ⟨wB1.heap.size,4,none⟩ (.slice (some ⟨gq,0,none⟩) (2+LN) cq)) wB1.heap.size (kidO 12 nm.text 0 nm.at_ (.slice (some ⟨gq,0,none⟩) (2+LN) cq))):=⟨zfk HKl11.out.1,HKl11.out.2⟩
         have HSZ12:Hid ((w11.setCell ⟨wB1.heap.size,4,none⟩ (.slice (some ⟨gq,0,none⟩) (2+LN) cq)).heap.size=w11.heap.size):=by show _=_;simp
         generalize w11.setCell ⟨wB1.heap.size,4,none⟩ (.slice (some ⟨gq,0,none⟩) (2+LN) cq)=w12 at HP12 HS12 HKr12 HKl12 HL12 HSZ12 ⊢
         clear hne hp hle hl45 hl56 hl67 hsc hcl hz hla l0 l1 l2 l3 l4 j0 j1 j2 j3 j4 e0 e1 e2 e3 e4 d0 d1 d2 d3 d4
         have HWA:Hid (Calls Tryz.prog 41 #[.pointer (some ⟨p,0,none⟩),.slice (some ⟨w12.heap.size,0,none⟩) 1 1] (w12.alloc (.cells #[.string ⟨#[59]⟩] 9)) (zao p g cap ts d ze4 ((PSof ts i full).want [59]) w12)):=zbs p g cap ts HE.out i d full [59] (by simp) w12 HP12.out
         obtain ⟨ru,hru⟩:∃ r,(PSof ts i full).want [59]=r:=⟨_,rfl⟩
         have HR6:Hid (R=ru.bind fun _ s=>Ans.ok (named 12 nm ((.node k8 n8 m8 a8 ks8)::(.node k9 n9 m9 a9 ks9)::l)) s):=by
          show _=_
          rw [HR5.out];first|(rw [<- hru];done)|(rw [<- hru];rfl)
         rw [hru,HSZ12.out] at HWA
         clear hru
         refine HWA.out.mono ?_
         cases ru with
         | no why at_ =>
          rintro e w99 ⟨rfl,hS⟩
          have HS99:Hid (Sole p w w99):=HS12.out.trans hS
          clear hS
          go_wp2
          refine ⟨rfl,?_⟩
          rw [HR6.out]
          exact ⟨rfl,HS99.out⟩
         | ok u st =>
          rintro e w13 ⟨v,i,full,rfl,rfl,rfl,hP,hS⟩
          have hp:=HP.out
          have HP13:Hid (PP w13 p g cap ts i d full):=hP
          have HS13:Hid (Sole p w w13):=HS12.out.trans hS
          have HKr13:Hid (Kep w w13 w.heap.size (kidO 0 [] 0 0 (.slice none 0 0))):=HKr12.out.sole hp.1 hS
          have HL13:Hid (zaf (fun b=>w.heap.size<b∧b≠wB1.heap.size) w13 ((.node k8 n8 m8 a8 ks8)::(.node k9 n9 m9 a9 ks9)::l) (.slice (some ⟨gq,0,none⟩) (2+LN) cq)):=HL12.out.sole (fun b h=>by omega) hS
          obtain ⟨⟨l0,l1,l2,l3,l4⟩,_⟩:=zac (HKl12.out.sole hp.1 hS).1
          clear hP hS hp
          obtain ⟨⟨z0,z1,z2,z3,z4⟩,⟨y0,y1,y2,y3,y4⟩⟩:=zac HKr13.out.1
          go_wp2
          have q:=res5 w13 w.heap.size (.int .i64 12) (.string ⟨nm.text.toArray⟩) (.int .i64 0) (.int .i64 nm.at_) (.slice (some ⟨gq,0,none⟩) (2+LN) cq) z0 z1 z2 z3 z4
          have hf:=fin5 (r:=w.heap.size) (w9:=w13) (k:=12) (n:=nm.text) (m:=0) (a:=nm.at_) (sl:=(.slice (some ⟨gq,0,none⟩) (2+LN) cq)) HKr13.out.2 HS13.out _ rfl
          generalize ((((w13.setCell ⟨w.heap.size,0,none⟩ (.int .i64 12)).setCell ⟨w.heap.size,1,none⟩ (.string ⟨nm.text.toArray⟩)).setCell ⟨w.heap.size,2,none⟩ (.int .i64 0)).setCell ⟨w.heap.size,3,none⟩ (.int .i64 nm.at_)).setCell ⟨w.heap.size,4,none⟩ (.slice (some ⟨gq,0,none⟩) (2+LN) cq)=wz at q hf ⊢
          obtain ⟨q0,q1,q2,q3,q4⟩:=q
          refine bodyPost_ret (v:=.agg #[.int .i64 12,.string ⟨nm.text.toArray⟩,.int .i64 0,.int .i64 nm.at_,(.slice (some ⟨gq,0,none⟩) (2+LN) cq)]) (by simp [results,Tryz.results119,go_sem,q0,q1,q2,q3,q4]) rfl ?_
          rw [HR6.out]
          have hr2:=HKr13.out.2
          have hpg:=HP.out
          exact ⟨_,_,_,rfl,zbu HL13.out (fun b h=>Nat.le_of_lt h.1) (fun b h=>Nat.ne_of_gt h.1) hf.2,rfl,HP13.out.sole_but (by omega) (by omega) hf.2,hf.1⟩
       · have hgd:=HKL1.out
         clear hgd
         have hle:=HLE.out
         have hl45:=HL45.out
         have hl56:=HL56.out
         have hl67:=HL67.out
         have hb1:=HQBA1.out.2.2
         have ha1:=HQAB1.out.2.2
         have hp:=HP.out
         have h06:=HLE.out
         have hf9:=fin5 (r:=w7.heap.size) (w9:=w9) (k:=12) (n:=nm.text) (m:=0) (a:=nm.at_) (sl:=.slice (some ⟨wA1.heap.size,0,none⟩) 2 2) HKL1.out.2 HSx.out _ rfl
         have HSc:Hid (Sole p w (((((w9.setCell ⟨w7.heap.size,0,none⟩ (.int .i64 12)).setCell ⟨w7.heap.size,1,none⟩ (.string ⟨nm.text.toArray⟩)).setCell ⟨w7.heap.size,2,none⟩ (.int .i64 0)).setCell ⟨w7.heap.size,3,none⟩ (.int .i64 nm.at_)).setCell ⟨w7.heap.size,4,none⟩ (.slice (some ⟨wA1.heap.size,0,none⟩) 2 2))):=hf9.1
         have HPc:Hid (PP (((((w9.setCell ⟨w7.heap.size,0,none⟩ (.int .i64 12)).setCell ⟨w7.heap.size,1,none⟩ (.string ⟨nm.text.toArray⟩)).setCell ⟨w7.heap.size,2,none⟩ (.int .i64 0)).setCell ⟨w7.heap.size,3,none⟩ (.int .i64 nm.at_)).setCell ⟨w7.heap.size,4,none⟩ (.slice (some ⟨wA1.heap.size,0,none⟩) 2 2)) p g cap ts i d full):=HPx.out.sole_but (by omega) (by omega) hf9.2
         have HKrc:Hid (Kep w (((((w9.setCell ⟨w7.heap.size,0,none⟩ (.int .i64 12)).setCell ⟨w7.heap.size,1,none⟩ (.string ⟨nm.text.toArray⟩)).setCell ⟨w7.heap.size,2,none⟩ (.int .i64 0)).setCell ⟨w7.heap.size,3,none⟩ (.int .i64 nm.at_)).setCell ⟨w7.heap.size,4,none⟩ (.slice (some ⟨wA1.heap.size,0,none⟩) 2 2)) w.heap.size (kidO 0 [] 0 0 (.slice none 0 0))):=HKrx.out.but hf9.2 (by omega)
         have HKlc:Hid (Kep w (((((w9.setCell ⟨w7.heap.size,0,none⟩ (.int .i64 12)).setCell ⟨w7.heap.size,1,none⟩ (.string ⟨nm.text.toArray⟩)).setCell ⟨w7.heap.size,2,none⟩ (.int .i64 0)).setCell ⟨w7.heap.size,3,none⟩ (.int .i64 nm.at_)).setCell ⟨w7.heap.size,4,none⟩ (.slice (some ⟨wA1.heap.size,0,none⟩) 2 2)) w7.heap.size (kidO 12 nm.text 0 nm.at_ (.slice (some ⟨wA1.heap.size,0,none⟩) 2 2))):=⟨zfj HKL1.out.1,HKL1.out.2⟩
         have HQc:Hid (Kep w (((((w9.setCell ⟨w7.heap.size,0,none⟩ (.int .i64 12)).setCell ⟨w7.heap.size,1,none⟩ (.string ⟨nm.text.toArray⟩)).setCell ⟨w7.heap.size,2,none⟩ (.int .i64 0)).setCell ⟨w7.heap.size,3,none⟩ (.int .i64 nm.at_)).setCell ⟨w7.heap.size,4,none⟩ (.slice (some ⟨wA1.heap.size,0,none⟩) 2 2)) wA1.heap.size (zdr [.int .i64 k8,.string ⟨n8.toArray⟩,.int .i64 m8,.int .i64 a8,.slice o8 l8 c8,.int .i64 k9,.string ⟨n9.toArray⟩,.int .i64 m9,.int .i64 a9,.slice o9 l9 c9])):=HQ1.out.but hf9.2 (by omega)
         have HLc:Hid (zaf (fun b=>w4.heap.size<=b∧b<w5.heap.size) (((((w9.setCell ⟨w7.heap.size,0,none⟩ (.int .i64 12)).setCell ⟨w7.heap.size,1,none⟩ (.string ⟨nm.text.toArray⟩)).setCell ⟨w7.heap.size,2,none⟩ (.int .i64 0)).setCell ⟨w7.heap.size,3,none⟩ (.int .i64 nm.at_)).setCell ⟨w7.heap.size,4,none⟩ (.slice (some ⟨wA1.heap.size,0,none⟩) 2 2)) l (.slice (some ⟨q7,0,none⟩) LN c7)):=HLx.out.but (fun b h=>by omega) hf9.2
         have HVc:Hid (zam (fun b=>w6.heap.size<=b∧b≠w7.heap.size∧b≠wA1.heap.size) (((((w9.setCell ⟨w7.heap.size,0,none⟩ (.int .i64 12)).setCell ⟨w7.heap.size,1,none⟩ (.string ⟨nm.text.toArray⟩)).setCell ⟨w7.heap.size,2,none⟩ (.int .i64 0)).setCell ⟨w7.heap.size,3,none⟩ (.int .i64 nm.at_)).setCell ⟨w7.heap.size,4,none⟩ (.slice (some ⟨wA1.heap.size,0,none⟩) 2 2)) (.node k8 n8 m8 a8 ks8) (kidV k8 n8 m8 a8 (.slice o8 l8 c8))):=zam.frame (fun _ h=>h) (fun b h _=>hf9.2 b h.2.1) _ _ (HVx.out.weaken (fun b h=>⟨h.1,by omega,by omega⟩))
         have HT9c:Hid (zam (fun b=>wa.heap.size<=b∧b<w1.heap.size) (((((w9.setCell ⟨w7.heap.size,0,none⟩ (.int .i64 12)).setCell ⟨w7.heap.size,1,none⟩ (.string ⟨nm.text.toArray⟩)).setCell ⟨w7.heap.size,2,none⟩ (.int .i64 0)).setCell ⟨w7.heap.size,3,none⟩ (.int .i64 nm.at_)).setCell ⟨w7.heap.size,4,none⟩ (.slice (some ⟨wA1.heap.size,0,none⟩) 2 2)) (.node k9 n9 m9 a9 ks9) (kidV k9 n9 m9 a9 (.slice o9 l9 c9))):=zam.frame (fun _ h=>h) (fun b h _=>hf9.2 b (by have:=HLA.out;omega)) _ _ HT9x.out
         generalize (((((w9.setCell ⟨w7.heap.size,0,none⟩ (.int .i64 12)).setCell ⟨w7.heap.size,1,none⟩ (.string ⟨nm.text.toArray⟩)).setCell ⟨w7.heap.size,2,none⟩ (.int .i64 0)).setCell ⟨w7.heap.size,3,none⟩ (.int .i64 nm.at_)).setCell ⟨w7.heap.size,4,none⟩ (.slice (some ⟨wA1.heap.size,0,none⟩) 2 2))=wc at HSc HPc HKrc HKlc HQc HLc HVc HT9c ⊢
         clear hf9 hle hl45 hl56 hl67 hb1 ha1 hp h06
         have HKn:Hid True:=trivial
         have hle:=HLE.out
         have hl45:=HL45.out
         have hl56:=HL56.out
         have hl67:=HL67.out
         have hp:=HP.out
         obtain ⟨ys,hyl,hy1,hyr,hyc,hyq⟩:=HLc.out.cellsOf
         rw [HLN.out.1] at hyl
         have HYS:Hid (ys.length=LN*5∧(∀ u∈ys,u.oneCell'=true)∧RowV (fun b=>(w4.heap.size<=b∧b<w5.heap.size)∧b≠q7) wc l ys∧(∀ j u,ys[j]?=some u->wc.cell? ((⟨q7,0,none⟩:Addr).add j)=some u)):=⟨hyl,hy1,hyr,hyc⟩
         have HOW:Hid (wc.ownsRow 0 29 5 (.slice (some ⟨wA1.heap.size,0,none⟩) 2 2) 2 [.int .i64 k8,.string ⟨n8.toArray⟩,.int .i64 m8,.int .i64 a8,.slice o8 l8 c8,.int .i64 k9,.string ⟨n9.toArray⟩,.int .i64 m9,.int .i64 a9,.slice o9 l9 c9]):=zdx HQc.out.1 rfl (by decide)
         have HNE:Hid (wA1.heap.size≠w7.heap.size∧w.heap.size<w7.heap.size∧w.heap.size<wA1.heap.size∧w5.heap.size<=wA1.heap.size∧w5.heap.size<=w7.heap.size):=by show _∧_;have:=HQBA1.out.2.2;have:=HQAB1.out.2.2;refine ⟨by omega,by omega,by omega,by omega,by omega⟩
         have HLN0:Hid (0<LN):=by
          show 0<LN
          rw [<- HLN.out.1]
          cases hq:l with
          | nil=>exact absurd hq HLN.out.2.2
          | cons _ _=>simp
         obtain ⟨⟨v0,v1,v2,v3,v4⟩,⟨f0,f1,f2,f3,f4⟩⟩:=zac HKlc.out.1
         clear hle hl45 hl56 hl67 hp hyl hy1 hyr hyc hyq
         go_wp2_with (at_builtin;refine wpList_append_lies _ rfl _ _ 27 rfl 0 29 inf (.agg #[.int .i64 0,.string ⟨#[]⟩,.int .i64 0,.int .i64 0,.slice none 0 0]) 5 64 Tryz.underlying27 HI.out.1 HI.out.2.1 HI.out.2.2.1 HI.out.2.2.2 rfl (by decide) (.slice (some ⟨wA1.heap.size,0,none⟩) 2 2) 2 [.int .i64 k8,.string ⟨n8.toArray⟩,.int .i64 m8,.int .i64 a8,.slice o8 l8 c8,.int .i64 k9,.string ⟨n9.toArray⟩,.int .i64 m9,.int .i64 a9,.slice o9 l9 c9] rfl HOW.out ⟨q7,0,none⟩ LN c7 ys rfl HYS.out.1 HYS.out.2.2.2 HYS.out.2.1 HLN0.out (by have:=HLN.out;unfold maxLen;omega) (by have:=HLN.out;omega) (Nat.zero_le _) _ rfl ?_;intro gq cq w11 hown hgrow hat hlt;have hne:=HNE.out;have hpp:=HP.out;have HKl11:Hid (Kep w w11 w7.heap.size (kidO 12 nm.text 0 nm.at_ (.slice (some ⟨wA1.heap.size,0,none⟩) 2 2))):=HKlc.out.grown hgrow (fun e=>hne.1 e.symm);have HKr11:Hid (Kep w w11 w.heap.size (kidO 0 [] 0 0 (.slice none 0 0))):=HKrc.out.grown hgrow (Nat.ne_of_lt hne.2.2.1);obtain ⟨⟨l0,l1,l2,l3,l4⟩,⟨e0,e1,e2,e3,e4⟩⟩:=zac HKl11.out.1;obtain ⟨⟨j0,j1,j2,j3,j4⟩,⟨d0,d1,d2,d3,d4⟩⟩:=zac HKr11.out.1;have hq1:¬ w.heap.size=w7.heap.size:=Nat.ne_of_lt hne.2.1;have hq2:¬ w7.heap.size=w.heap.size:=fun e=>hq1 e.symm;have HG:Hid (wc.grownBy w11 (some wA1.heap.size)∧w11.ownsRow 0 29 5 (.slice (some ⟨gq,0,none⟩) (2+LN) cq) (2+LN) ([.int .i64 k8,.string ⟨n8.toArray⟩,.int .i64 m8,.int .i64 a8,.slice o8 l8 c8,.int .i64 k9,.string ⟨n9.toArray⟩,.int .i64 m9,.int .i64 a9,.slice o9 l9 c9]++ys)∧((Value.slice (some ⟨wA1.heap.size,0,none⟩) 2 2).ownBlock=some gq∨gq=wc.heap.size)):=⟨hgrow,hown,hat⟩;clear hown hgrow hat hlt hne hpp)
         have hne:=HNE.out
         have hp:=HP.out
         have hle:=HLE.out
         have hl45:=HL45.out
         have hl56:=HL56.out
         have hl67:=HL67.out
         have hsc:=HSc.out.size
         have hcl:=HKlc.out.lt
         have hla:=HLA.out
         have hz:∀ b,b≠w7.heap.size->(w11.setCell ⟨w7.heap.size,4,none⟩ (.slice (some ⟨gq,0,none⟩) (2+LN) cq)).heap[b]?=w11.heap[b]?:=fun b hb=>Below.heap_setCell _ _ _ _ hb
         have HP12:Hid (PP (w11.setCell ⟨w7.heap.size,4,none⟩ (.slice (some ⟨gq,0,none⟩) (2+LN) cq)) p g cap ts i d full):=(HPc.out.grown HG.out.1 (by omega) (by omega)).sole_but (by omega) (by omega) hz
         have HS12:Hid (Sole p w (w11.setCell ⟨w7.heap.size,4,none⟩ (.slice (some ⟨gq,0,none⟩) (2+LN) cq))):=(HSc.out.grown HG.out.1 (by omega)).below_after ((Below.refl _ _).setCell (Nat.le_of_lt hne.2.1) _)
         have HKr12:Hid (Kep w (w11.setCell ⟨w7.heap.size,4,none⟩ (.slice (some ⟨gq,0,none⟩) (2+LN) cq)) w.heap.size (kidO 0 [] 0 0 (.slice none 0 0))):=HKr11.out.but hz (by omega)
         have HL12:Hid (zaf (fun b=>w.heap.size<b∧b≠w7.heap.size) (w11.setCell ⟨w7.heap.size,4,none⟩ (.slice (some ⟨gq,0,none⟩) (2+LN) cq)) ((.node k8 n8 m8 a8 ks8)::(.node k9 n9 m9 a9 ks9)::l) (.slice (some ⟨gq,0,none⟩) (2+LN) cq)):=by
          refine zaf.but ?_ (fun b h=>h.2) hz
          refine zbm (ks:=[(.node k8 n8 m8 a8 ks8),(.node k9 n9 m9 a9 ks9)]) (us:=l) (sl:=.slice (some ⟨wA1.heap.size,0,none⟩) 2 2) (fun q e=>?_) (RowV.append [_] [_] _ _ (zbe (HVc.out.weaken (fun b h=>?_))) (zbe (HT9c.out.weaken (fun b h=>?_)))) (RowV.frame (fun b h=>?_) (fun _ _ _=>rfl) _ _ HYS.out.2.2.1) (by rw [HLN.out.1];exact HG.out.2.1) HG.out.1 wc.heap.size (Nat.le_refl _) ⟨by omega,by omega⟩ ?_
          · have e2:wA1.heap.size=q:=Option.some.inj e
            exact ⟨by omega,by omega⟩
          · refine ⟨⟨by omega,h.2.1⟩,fun e=>?_⟩
            have e2:wA1.heap.size=b:=Option.some.inj e
            exact h.2.2 e2.symm
          · refine ⟨⟨by omega,by omega⟩,fun e=>?_⟩
            have e2:wA1.heap.size=b:=Option.some.inj e
            omega
          · refine ⟨⟨by omega,by omega⟩,fun e=>?_⟩
            have e2:wA1.heap.size=b:=Option.some.inj e
            omega
          · rcases HG.out.2.2 with e|e
            · exact Or.inl e.symm
            · exact Or.inr (by rw [e];rfl)
         have HKl12:Hid (Kep w (w11.setCell ⟨w7.heap.size,4,none⟩ (.slice (some ⟨gq,0,none⟩) (2+LN) cq)) w7.heap.size (kidO 12 nm.text 0 nm.at_ (.slice (some ⟨gq,0,none⟩) (2+LN) cq))):=⟨zfk HKl11.out.1,HKl11.out.2⟩
         have HSZ12:Hid ((w11.setCell ⟨w7.heap.size,4,none⟩ (.slice (some ⟨gq,0,none⟩) (2+LN) cq)).heap.size=w11.heap.size):=by show _=_;simp
         generalize w11.setCell ⟨w7.heap.size,4,none⟩ (.slice (some ⟨gq,0,none⟩) (2+LN) cq)=w12 at HP12 HS12 HKr12 HKl12 HL12 HSZ12 ⊢
         clear hne hp hle hl45 hl56 hl67 hsc hcl hz hla l0 l1 l2 l3 l4 j0 j1 j2 j3 j4 e0 e1 e2 e3 e4 d0 d1 d2 d3 d4
         have HWA:Hid (Calls Tryz.prog 41 #[.pointer (some ⟨p,0,none⟩),.slice (some ⟨w12.heap.size,0,none⟩) 1 1] (w12.alloc (.cells #[.string ⟨#[59]⟩] 9)) (zao p g cap ts d ze4 ((PSof ts i full).want [59]) w12)):=zbs p g cap ts HE.out i d full [59] (by simp) w12 HP12.out
         obtain ⟨ru,hru⟩:∃ r,(PSof ts i full).want [59]=r:=⟨_,rfl⟩
         have HR6:Hid (R=ru.bind fun _ s=>Ans.ok (named 12 nm ((.node k8 n8 m8 a8 ks8)::(.node k9 n9 m9 a9 ks9)::l)) s):=by
          show _=_
          rw [HR5.out];first|(rw [<- hru];done)|(rw [<- hru];rfl)
         rw [hru,HSZ12.out] at HWA
         clear hru
         refine HWA.out.mono ?_
         cases ru with
         | no why at_ =>
          rintro e w99 ⟨rfl,hS⟩
          have HS99:Hid (Sole p w w99):=HS12.out.trans hS
          clear hS
          go_wp2
          refine ⟨rfl,?_⟩
          rw [HR6.out]
          exact ⟨rfl,HS99.out⟩
         | ok u st =>
          rintro e w13 ⟨v,i,full,rfl,rfl,rfl,hP,hS⟩
          have hp:=HP.out
          have HP13:Hid (PP w13 p g cap ts i d full):=hP
          have HS13:Hid (Sole p w w13):=HS12.out.trans hS
          have HKr13:Hid (Kep w w13 w.heap.size (kidO 0 [] 0 0 (.slice none 0 0))):=HKr12.out.sole hp.1 hS
          have HL13:Hid (zaf (fun b=>w.heap.size<b∧b≠w7.heap.size) w13 ((.node k8 n8 m8 a8 ks8)::(.node k9 n9 m9 a9 ks9)::l) (.slice (some ⟨gq,0,none⟩) (2+LN) cq)):=HL12.out.sole (fun b h=>by omega) hS
          obtain ⟨⟨l0,l1,l2,l3,l4⟩,_⟩:=zac (HKl12.out.sole hp.1 hS).1
          clear hP hS hp
          obtain ⟨⟨z0,z1,z2,z3,z4⟩,⟨y0,y1,y2,y3,y4⟩⟩:=zac HKr13.out.1
          go_wp2
          have q:=res5 w13 w.heap.size (.int .i64 12) (.string ⟨nm.text.toArray⟩) (.int .i64 0) (.int .i64 nm.at_) (.slice (some ⟨gq,0,none⟩) (2+LN) cq) z0 z1 z2 z3 z4
          have hf:=fin5 (r:=w.heap.size) (w9:=w13) (k:=12) (n:=nm.text) (m:=0) (a:=nm.at_) (sl:=(.slice (some ⟨gq,0,none⟩) (2+LN) cq)) HKr13.out.2 HS13.out _ rfl
          generalize ((((w13.setCell ⟨w.heap.size,0,none⟩ (.int .i64 12)).setCell ⟨w.heap.size,1,none⟩ (.string ⟨nm.text.toArray⟩)).setCell ⟨w.heap.size,2,none⟩ (.int .i64 0)).setCell ⟨w.heap.size,3,none⟩ (.int .i64 nm.at_)).setCell ⟨w.heap.size,4,none⟩ (.slice (some ⟨gq,0,none⟩) (2+LN) cq)=wz at q hf ⊢
          obtain ⟨q0,q1,q2,q3,q4⟩:=q
          refine bodyPost_ret (v:=.agg #[.int .i64 12,.string ⟨nm.text.toArray⟩,.int .i64 0,.int .i64 nm.at_,(.slice (some ⟨gq,0,none⟩) (2+LN) cq)]) (by simp [results,Tryz.results119,go_sem,q0,q1,q2,q3,q4]) rfl ?_
          rw [HR6.out]
          have hr2:=HKr13.out.2
          have hpg:=HP.out
          exact ⟨_,_,_,rfl,zbu HL13.out (fun b h=>Nat.le_of_lt h.1) (fun b h=>Nat.ne_of_gt h.1) hf.2,rfl,HP13.out.sole_but (by omega) (by omega) hf.2,hf.1⟩
       · have hgd:=HKL0x.out
         clear hgd
         have hle:=HLE.out
         have hl45:=HL45.out
         have hl56:=HL56.out
         have hl67:=HL67.out
         have hb1:=HQBA1.out.2.2
         have ha1:=HQAB1.out.2.2
         have hp:=HP.out
         have h06:=HKL0.out.1.lt
         have hf9:=fin5 (r:=w6.heap.size) (w9:=w9) (k:=12) (n:=nm.text) (m:=0) (a:=nm.at_) (sl:=.slice (some ⟨w7.heap.size,0,none⟩) 2 2) HKL0x.out.2 HSx.out _ rfl
         have HSc:Hid (Sole p w (((((w9.setCell ⟨w6.heap.size,0,none⟩ (.int .i64 12)).setCell ⟨w6.heap.size,1,none⟩ (.string ⟨nm.text.toArray⟩)).setCell ⟨w6.heap.size,2,none⟩ (.int .i64 0)).setCell ⟨w6.heap.size,3,none⟩ (.int .i64 nm.at_)).setCell ⟨w6.heap.size,4,none⟩ (.slice (some ⟨w7.heap.size,0,none⟩) 2 2))):=hf9.1
         have HPc:Hid (PP (((((w9.setCell ⟨w6.heap.size,0,none⟩ (.int .i64 12)).setCell ⟨w6.heap.size,1,none⟩ (.string ⟨nm.text.toArray⟩)).setCell ⟨w6.heap.size,2,none⟩ (.int .i64 0)).setCell ⟨w6.heap.size,3,none⟩ (.int .i64 nm.at_)).setCell ⟨w6.heap.size,4,none⟩ (.slice (some ⟨w7.heap.size,0,none⟩) 2 2)) p g cap ts i d full):=HPx.out.sole_but (by omega) (by omega) hf9.2
         have HKrc:Hid (Kep w (((((w9.setCell ⟨w6.heap.size,0,none⟩ (.int .i64 12)).setCell ⟨w6.heap.size,1,none⟩ (.string ⟨nm.text.toArray⟩)).setCell ⟨w6.heap.size,2,none⟩ (.int .i64 0)).setCell ⟨w6.heap.size,3,none⟩ (.int .i64 nm.at_)).setCell ⟨w6.heap.size,4,none⟩ (.slice (some ⟨w7.heap.size,0,none⟩) 2 2)) w.heap.size (kidO 0 [] 0 0 (.slice none 0 0))):=HKrx.out.but hf9.2 (by omega)
         have HKlc:Hid (Kep w (((((w9.setCell ⟨w6.heap.size,0,none⟩ (.int .i64 12)).setCell ⟨w6.heap.size,1,none⟩ (.string ⟨nm.text.toArray⟩)).setCell ⟨w6.heap.size,2,none⟩ (.int .i64 0)).setCell ⟨w6.heap.size,3,none⟩ (.int .i64 nm.at_)).setCell ⟨w6.heap.size,4,none⟩ (.slice (some ⟨w7.heap.size,0,none⟩) 2 2)) w6.heap.size (kidO 12 nm.text 0 nm.at_ (.slice (some ⟨w7.heap.size,0,none⟩) 2 2))):=⟨zfj HKL0x.out.1,HKL0x.out.2⟩
         have HQc:Hid (Kep w (((((w9.setCell ⟨w6.heap.size,0,none⟩ (.int .i64 12)).setCell ⟨w6.heap.size,1,none⟩ (.string ⟨nm.text.toArray⟩)).setCell ⟨w6.heap.size,2,none⟩ (.int .i64 0)).setCell ⟨w6.heap.size,3,none⟩ (.int .i64 nm.at_)).setCell ⟨w6.heap.size,4,none⟩ (.slice (some ⟨w7.heap.size,0,none⟩) 2 2)) w7.heap.size (zdr [.int .i64 k8,.string ⟨n8.toArray⟩,.int .i64 m8,.int .i64 a8,.slice o8 l8 c8,.int .i64 k9,.string ⟨n9.toArray⟩,.int .i64 m9,.int .i64 a9,.slice o9 l9 c9])):=HQ0.out.but hf9.2 (by omega)
         have HLc:Hid (zaf (fun b=>w4.heap.size<=b∧b<w5.heap.size) (((((w9.setCell ⟨w6.heap.size,0,none⟩ (.int .i64 12)).setCell ⟨w6.heap.size,1,none⟩ (.string ⟨nm.text.toArray⟩)).setCell ⟨w6.heap.size,2,none⟩ (.int .i64 0)).setCell ⟨w6.heap.size,3,none⟩ (.int .i64 nm.at_)).setCell ⟨w6.heap.size,4,none⟩ (.slice (some ⟨w7.heap.size,0,none⟩) 2 2)) l (.slice (some ⟨q7,0,none⟩) LN c7)):=HLx.out.but (fun b h=>by omega) hf9.2
         have HVc:Hid (zam (fun b=>w6.heap.size<=b∧b≠w6.heap.size∧b≠w7.heap.size) (((((w9.setCell ⟨w6.heap.size,0,none⟩ (.int .i64 12)).setCell ⟨w6.heap.size,1,none⟩ (.string ⟨nm.text.toArray⟩)).setCell ⟨w6.heap.size,2,none⟩ (.int .i64 0)).setCell ⟨w6.heap.size,3,none⟩ (.int .i64 nm.at_)).setCell ⟨w6.heap.size,4,none⟩ (.slice (some ⟨w7.heap.size,0,none⟩) 2 2)) (.node k8 n8 m8 a8 ks8) (kidV k8 n8 m8 a8 (.slice o8 l8 c8))):=zam.frame (fun _ h=>h) (fun b h _=>hf9.2 b h.2.1) _ _ ((HKL0.out.2.below (HB79.out)).weaken (fun b h=>⟨Nat.le_of_lt h.1,Nat.ne_of_gt h.1,by omega⟩))
         have HT9c:Hid (zam (fun b=>wa.heap.size<=b∧b<w1.heap.size) (((((w9.setCell ⟨w6.heap.size,0,none⟩ (.int .i64 12)).setCell ⟨w6.heap.size,1,none⟩ (.string ⟨nm.text.toArray⟩)).setCell ⟨w6.heap.size,2,none⟩ (.int .i64 0)).setCell ⟨w6.heap.size,3,none⟩ (.int .i64 nm.at_)).setCell ⟨w6.heap.size,4,none⟩ (.slice (some ⟨w7.heap.size,0,none⟩) 2 2)) (.node k9 n9 m9 a9 ks9) (kidV k9 n9 m9 a9 (.slice o9 l9 c9))):=zam.frame (fun _ h=>h) (fun b h _=>hf9.2 b (by have:=HLA.out;omega)) _ _ HT9x.out
         generalize (((((w9.setCell ⟨w6.heap.size,0,none⟩ (.int .i64 12)).setCell ⟨w6.heap.size,1,none⟩ (.string ⟨nm.text.toArray⟩)).setCell ⟨w6.heap.size,2,none⟩ (.int .i64 0)).setCell ⟨w6.heap.size,3,none⟩ (.int .i64 nm.at_)).setCell ⟨w6.heap.size,4,none⟩ (.slice (some ⟨w7.heap.size,0,none⟩) 2 2))=wc at HSc HPc HKrc HKlc HQc HLc HVc HT9c ⊢
         clear hf9 hle hl45 hl56 hl67 hb1 ha1 hp h06
         have HKn:Hid True:=trivial
         have hle:=HLE.out
         have hl45:=HL45.out
         have hl56:=HL56.out
         have hl67:=HL67.out
         have hp:=HP.out
         obtain ⟨ys,hyl,hy1,hyr,hyc,hyq⟩:=HLc.out.cellsOf
         rw [HLN.out.1] at hyl
         have HYS:Hid (ys.length=LN*5∧(∀ u∈ys,u.oneCell'=true)∧RowV (fun b=>(w4.heap.size<=b∧b<w5.heap.size)∧b≠q7) wc l ys∧(∀ j u,ys[j]?=some u->wc.cell? ((⟨q7,0,none⟩:Addr).add j)=some u)):=⟨hyl,hy1,hyr,hyc⟩
         have HOW:Hid (wc.ownsRow 0 29 5 (.slice (some ⟨w7.heap.size,0,none⟩) 2 2) 2 [.int .i64 k8,.string ⟨n8.toArray⟩,.int .i64 m8,.int .i64 a8,.slice o8 l8 c8,.int .i64 k9,.string ⟨n9.toArray⟩,.int .i64 m9,.int .i64 a9,.slice o9 l9 c9]):=zdx HQc.out.1 rfl (by decide)
         have HNE:Hid (w7.heap.size≠w6.heap.size∧w.heap.size<w6.heap.size∧w.heap.size<w7.heap.size∧w5.heap.size<=w7.heap.size∧w5.heap.size<=w6.heap.size):=by show _∧_;have:=HQBA1.out.2.2;have:=HQAB1.out.2.2;have:=HKL0.out.1.lt;refine ⟨by omega,by omega,by omega,by omega,by omega⟩
         have HLN0:Hid (0<LN):=by
          show 0<LN
          rw [<- HLN.out.1]
          cases hq:l with
          | nil=>exact absurd hq HLN.out.2.2
          | cons _ _=>simp
         obtain ⟨⟨v0,v1,v2,v3,v4⟩,⟨f0,f1,f2,f3,f4⟩⟩:=zac HKlc.out.1
         clear hle hl45 hl56 hl67 hp hyl hy1 hyr hyc hyq
         go_wp2_with (at_builtin;refine wpList_append_lies _ rfl _ _ 27 rfl 0 29 inf (.agg #[.int .i64 0,.string ⟨#[]⟩,.int .i64 0,.int .i64 0,.slice none 0 0]) 5 64 Tryz.underlying27 HI.out.1 HI.out.2.1 HI.out.2.2.1 HI.out.2.2.2 rfl (by decide) (.slice (some ⟨w7.heap.size,0,none⟩) 2 2) 2 [.int .i64 k8,.string ⟨n8.toArray⟩,.int .i64 m8,.int .i64 a8,.slice o8 l8 c8,.int .i64 k9,.string ⟨n9.toArray⟩,.int .i64 m9,.int .i64 a9,.slice o9 l9 c9] rfl HOW.out ⟨q7,0,none⟩ LN c7 ys rfl HYS.out.1 HYS.out.2.2.2 HYS.out.2.1 HLN0.out (by have:=HLN.out;unfold maxLen;omega) (by have:=HLN.out;omega) (Nat.zero_le _) _ rfl ?_;intro gq cq w11 hown hgrow hat hlt;have hne:=HNE.out;have hpp:=HP.out;have HKl11:Hid (Kep w w11 w6.heap.size (kidO 12 nm.text 0 nm.at_ (.slice (some ⟨w7.heap.size,0,none⟩) 2 2))):=HKlc.out.grown hgrow (fun e=>hne.1 e.symm);have HKr11:Hid (Kep w w11 w.heap.size (kidO 0 [] 0 0 (.slice none 0 0))):=HKrc.out.grown hgrow (Nat.ne_of_lt hne.2.2.1);obtain ⟨⟨l0,l1,l2,l3,l4⟩,⟨e0,e1,e2,e3,e4⟩⟩:=zac HKl11.out.1;obtain ⟨⟨j0,j1,j2,j3,j4⟩,⟨d0,d1,d2,d3,d4⟩⟩:=zac HKr11.out.1;have hq1:¬ w.heap.size=w6.heap.size:=Nat.ne_of_lt hne.2.1;have hq2:¬ w6.heap.size=w.heap.size:=fun e=>hq1 e.symm;have HG:Hid (wc.grownBy w11 (some w7.heap.size)∧w11.ownsRow 0 29 5 (.slice (some ⟨gq,0,none⟩) (2+LN) cq) (2+LN) ([.int .i64 k8,.string ⟨n8.toArray⟩,.int .i64 m8,.int .i64 a8,.slice o8 l8 c8,.int .i64 k9,.string ⟨n9.toArray⟩,.int .i64 m9,.int .i64 a9,.slice o9 l9 c9]++ys)∧((Value.slice (some ⟨w7.heap.size,0,none⟩) 2 2).ownBlock=some gq∨gq=wc.heap.size)):=⟨hgrow,hown,hat⟩;clear hown hgrow hat hlt hne hpp)
         have hne:=HNE.out
         have hp:=HP.out
         have hle:=HLE.out
         have hl45:=HL45.out
         have hl56:=HL56.out
         have hl67:=HL67.out
         have hsc:=HSc.out.size
         have hcl:=HKlc.out.lt
         have hla:=HLA.out
         have hz:∀ b,b≠w6.heap.size->(w11.setCell ⟨w6.heap.size,4,none⟩ (.slice (some ⟨gq,0,none⟩) (2+LN) cq)).heap[b]?=w11.heap[b]?:=fun b hb=>Below.heap_setCell _ _ _ _ hb
         have HP12:Hid (PP (w11.setCell ⟨w6.heap.size,4,none⟩ (.slice (some ⟨gq,0,none⟩) (2+LN) cq)) p g cap ts i d full):=(HPc.out.grown HG.out.1 (by omega) (by omega)).sole_but (by omega) (by omega) hz
         have HS12:Hid (Sole p w (w11.setCell ⟨w6.heap.size,4,none⟩ (.slice (some ⟨gq,0,none⟩) (2+LN) cq))):=(HSc.out.grown HG.out.1 (by omega)).below_after ((Below.refl _ _).setCell (Nat.le_of_lt hne.2.1) _)
         have HKr12:Hid (Kep w (w11.setCell ⟨w6.heap.size,4,none⟩ (.slice (some ⟨gq,0,none⟩) (2+LN) cq)) w.heap.size (kidO 0 [] 0 0 (.slice none 0 0))):=HKr11.out.but hz (by omega)
         have HL12:Hid (zaf (fun b=>w.heap.size<b∧b≠w6.heap.size) (w11.setCell ⟨w6.heap.size,4,none⟩ (.slice (some ⟨gq,0,none⟩) (2+LN) cq)) ((.node k8 n8 m8 a8 ks8)::(.node k9 n9 m9 a9 ks9)::l) (.slice (some ⟨gq,0,none⟩) (2+LN) cq)):=by
          refine zaf.but ?_ (fun b h=>h.2) hz
          refine zbm (ks:=[(.node k8 n8 m8 a8 ks8),(.node k9 n9 m9 a9 ks9)]) (us:=l) (sl:=.slice (some ⟨w7.heap.size,0,none⟩) 2 2) (fun q e=>?_) (RowV.append [_] [_] _ _ (zbe (HVc.out.weaken (fun b h=>?_))) (zbe (HT9c.out.weaken (fun b h=>?_)))) (RowV.frame (fun b h=>?_) (fun _ _ _=>rfl) _ _ HYS.out.2.2.1) (by rw [HLN.out.1];exact HG.out.2.1) HG.out.1 wc.heap.size (Nat.le_refl _) ⟨by omega,by omega⟩ ?_
          · have e2:w7.heap.size=q:=Option.some.inj e
            exact ⟨by omega,by omega⟩
          · refine ⟨⟨by omega,h.2.1⟩,fun e=>?_⟩
            have e2:w7.heap.size=b:=Option.some.inj e
            exact h.2.2 e2.symm
          · refine ⟨⟨by omega,by omega⟩,fun e=>?_⟩
            have e2:w7.heap.size=b:=Option.some.inj e
            omega
          · refine ⟨⟨by omega,by omega⟩,fun e=>?_⟩
            have e2:w7.heap.size=b:=Option.some.inj e
            omega
          · rcases HG.out.2.2 with e|e
            · exact Or.inl e.symm
            · exact Or.inr (by rw [e];rfl)
         have HKl12:Hid (Kep w (w11.setCell ⟨w6.heap.size,4,none⟩ (.slice (some ⟨gq,0,none⟩) (2+LN) cq)) w6.heap.size (kidO 12 nm.text 0 nm.at_ (.slice (some ⟨gq,0,none⟩) (2+LN) cq))):=⟨zfk HKl11.out.1,HKl11.out.2⟩
         have HSZ12:Hid ((w11.setCell ⟨w6.heap.size,4,none⟩ (.slice (some ⟨gq,0,none⟩) (2+LN) cq)).heap.size=w11.heap.size):=by show _=_;simp
         generalize w11.setCell ⟨w6.heap.size,4,none⟩ (.slice (some ⟨gq,0,none⟩) (2+LN) cq)=w12 at HP12 HS12 HKr12 HKl12 HL12 HSZ12 ⊢
         clear hne hp hle hl45 hl56 hl67 hsc hcl hz hla l0 l1 l2 l3 l4 j0 j1 j2 j3 j4 e0 e1 e2 e3 e4 d0 d1 d2 d3 d4
         have HWA:Hid (Calls Tryz.prog 41 #[.pointer (some ⟨p,0,none⟩),.slice (some ⟨w12.heap.size,0,none⟩) 1 1] (w12.alloc (.cells #[.string ⟨#[59]⟩] 9)) (zao p g cap ts d ze4 ((PSof ts i full).want [59]) w12)):=zbs p g cap ts HE.out i d full [59] (by simp) w12 HP12.out
         obtain ⟨ru,hru⟩:∃ r,(PSof ts i full).want [59]=r:=⟨_,rfl⟩
         have HR6:Hid (R=ru.bind fun _ s=>Ans.ok (named 12 nm ((.node k8 n8 m8 a8 ks8)::(.node k9 n9 m9 a9 ks9)::l)) s):=by
          show _=_
          rw [HR5.out];first|(rw [<- hru];done)|(rw [<- hru];rfl)
         rw [hru,HSZ12.out] at HWA
         clear hru
         refine HWA.out.mono ?_
         cases ru with
         | no why at_ =>
          rintro e w99 ⟨rfl,hS⟩
          have HS99:Hid (Sole p w w99):=HS12.out.trans hS
          clear hS
          go_wp2
          refine ⟨rfl,?_⟩
          rw [HR6.out]
          exact ⟨rfl,HS99.out⟩
         | ok u st =>
          rintro e w13 ⟨v,i,full,rfl,rfl,rfl,hP,hS⟩
          have hp:=HP.out
          have HP13:Hid (PP w13 p g cap ts i d full):=hP
          have HS13:Hid (Sole p w w13):=HS12.out.trans hS
          have HKr13:Hid (Kep w w13 w.heap.size (kidO 0 [] 0 0 (.slice none 0 0))):=HKr12.out.sole hp.1 hS
          have HL13:Hid (zaf (fun b=>w.heap.size<b∧b≠w6.heap.size) w13 ((.node k8 n8 m8 a8 ks8)::(.node k9 n9 m9 a9 ks9)::l) (.slice (some ⟨gq,0,none⟩) (2+LN) cq)):=HL12.out.sole (fun b h=>by omega) hS
          obtain ⟨⟨l0,l1,l2,l3,l4⟩,_⟩:=zac (HKl12.out.sole hp.1 hS).1
          clear hP hS hp
          obtain ⟨⟨z0,z1,z2,z3,z4⟩,⟨y0,y1,y2,y3,y4⟩⟩:=zac HKr13.out.1
          go_wp2
          have q:=res5 w13 w.heap.size (.int .i64 12) (.string ⟨nm.text.toArray⟩) (.int .i64 0) (.int .i64 nm.at_) (.slice (some ⟨gq,0,none⟩) (2+LN) cq) z0 z1 z2 z3 z4
          have hf:=fin5 (r:=w.heap.size) (w9:=w13) (k:=12) (n:=nm.text) (m:=0) (a:=nm.at_) (sl:=(.slice (some ⟨gq,0,none⟩) (2+LN) cq)) HKr13.out.2 HS13.out _ rfl
          generalize ((((w13.setCell ⟨w.heap.size,0,none⟩ (.int .i64 12)).setCell ⟨w.heap.size,1,none⟩ (.string ⟨nm.text.toArray⟩)).setCell ⟨w.heap.size,2,none⟩ (.int .i64 0)).setCell ⟨w.heap.size,3,none⟩ (.int .i64 nm.at_)).setCell ⟨w.heap.size,4,none⟩ (.slice (some ⟨gq,0,none⟩) (2+LN) cq)=wz at q hf ⊢
          obtain ⟨q0,q1,q2,q3,q4⟩:=q
          refine bodyPost_ret (v:=.agg #[.int .i64 12,.string ⟨nm.text.toArray⟩,.int .i64 0,.int .i64 nm.at_,(.slice (some ⟨gq,0,none⟩) (2+LN) cq)]) (by simp [results,Tryz.results119,go_sem,q0,q1,q2,q3,q4]) rfl ?_
          rw [HR6.out]
          have hr2:=HKr13.out.2
          have hpg:=HP.out
          exact ⟨_,_,_,rfl,zbu HL13.out (fun b h=>Nat.le_of_lt h.1) (fun b h=>Nat.ne_of_gt h.1) hf.2,rfl,HP13.out.sole_but (by omega) (by omega) hf.2,hf.1⟩
end Go.Proofs.YtodfklpmbclgkaaGreatDoor
