import Derived.Test.YtodfklpmbclgkaaGreatDoorBack05
namespace Go.Proofs.YtodfklpmbclgkaaGreatDoor
open Go.RowKit
theorem bld3 (a:Int) (w:World):(Instr.build 29 #[(3,.int .i64 a)]).run Tryz.prog w=.ok (.agg #[.int .i64 0,.string ⟨#[]⟩,.int .i64 0,.int .i64 a,.slice none 0 0]) w:=by kernel_rfl
theorem PP.depth {w:World} {p g cap:Nat} {ts:List Tok} {i:Nat} {d:Int} {full:Bool} (h:PP w p g cap ts i d full) (d' : Int):PP (w.setCell ⟨p,2,none⟩ (.int .i64 d')) p g cap ts i d' full:=by
 have ho:∀ o,(w.setCell ⟨p,2,none⟩ (.int .i64 d')).cell? ⟨g,o,none⟩=w.cell? ⟨g,o,none⟩:=fun o=>World.cell?_setCell_other _ _ _ _ (by simp;intro e;exact absurd e.symm h.gp)
 refine ⟨?_,?_,World.cell?_setCell_same _ _ _ h.c2,?_,?_,?_,?_,fun k hk=>(ho _).trans (h.t0 k hk),fun k hk=>(ho _).trans (h.t1 k hk),fun k hk=>(ho _).trans (h.t2 k hk),fun k hk=>(ho _).trans (h.t3 k hk),h.il,h.ln,h.gp⟩
 · rw [World.cell?_setCell_other _ _ _ _ (by simp)];exact h.c0
 · rw [World.cell?_setCell_other _ _ _ _ (by simp)];exact h.c1
 · rw [World.cell?_setCell_other _ _ _ _ (by simp)];exact h.c3
 · rw [World.frozen?_setCell];exact h.f1
 · rw [World.frozen?_setCell];exact h.f2
 · rw [World.frozen?_setCell];exact h.f3
theorem Kep.setp {w cur:World} {b:Nat} {o:Obj} (h:Kep w cur b o) {p k:Nat} {v:Value} (hp:p<w.heap.size):Kep w (cur.setCell ⟨p,k,none⟩ v) b o:=⟨(Below.heap_setCell _ _ _ _ (show b≠p by have:=h.2;omega)).trans h.1,h.2⟩
theorem Sole.setp {p:Nat} {w cur:World} (h:Sole p w cur) {k:Nat} {v:Value} : Sole p w (cur.setCell ⟨p,k,none⟩ v):=h.trans (Sole.setCell cur k v)
set_option maxHeartbeats 4000000 in
set_option maxRecDepth 4000 in
theorem body_false (p g cap:Nat) (ts:List Tok) (hE:Ends ts) (d:Int) (hd0:0<=d) (hd7:d<=7) (n:Nat) (hM:zhc p g cap ts (d+1) 114 membersP) (hFs:zhc p g cap ts (d+1) 115 (fieldsP (zbz n false))) (hC:zhc p g cap ts (d+1) 116 (choiceP (zbz n false))) (i:Nat) (full:Bool) (w:World) (hi:i+1<ts.length) (h:PP w p g cap ts i d full) (hba:zb3 p w) :
 Calls Tryz.prog 71 #[.pointer (some ⟨p,0,none⟩),.bool false] w (zao p g cap ts d (zal w.heap.size) (zbz (n+1) false (PSof ts i full)) w):=by
 have HP:=hid2 h.plt h.glt
 have HE:=hid hE
 have HBA:=hid hba
 have HK114:=hid hM
 have HK115:=hid hFs
 have HK116:=hid hC
 obtain ⟨R,hR⟩:∃ R,zbz (n+1) false (PSof ts i full)=R:=⟨_,rfl⟩
 rw [hR]
 obtain ⟨wa,hwa⟩:∃ x,w.alloc (.cells #[.int .i64 0,.string ⟨#[]⟩,.int .i64 0,.int .i64 0,.slice none 0 0] 29)=x:=⟨_,rfl⟩
 have b1:Below w.heap.size w wa:=by rw [<- hwa];exact zad _ _
 have ka:Kep w wa w.heap.size (kidO 0 [] 0 0 (.slice none 0 0)):=by rw [<- hwa];exact Kep.new (Nat.le_refl _) _
 have hpa:=h.below b1
 have c2:=hpa.c2
 have g2:=hpa.f2
 have hd8:(d==8)=false:=by simp;omega
 obtain ⟨wd,hwd⟩:∃ x,wa.setCell ⟨p,2,none⟩ (.int .i64 (d+1))=x:=⟨_,rfl⟩
 have HPd:Hid (PP wd p g cap ts i (d+1) full):=by show PP wd _ _ _ _ _ _ _;rw [<- hwd];exact hpa.depth _
 have HSd:Hid (Sole p w wd):=by show Sole p w wd;rw [<- hwd];exact (Sole.of_below b1).setp
 have HKd:Hid (Kep w wd w.heap.size (kidO 0 [] 0 0 (.slice none 0 0))):=by show Kep w wd _ _;rw [<- hwd];exact ka.setp h.plt
 have HTK:Hid (Calls Tryz.prog 69 #[.pointer (some ⟨p,0,none⟩)] wd (zao p g cap ts (d+1) zfi (PSof ts i full).take wd)):=zdf p g cap ts i (d+1) full wd HPd.out hi
 obtain ⟨rt,hrt⟩:∃ r,(PSof ts i full).take=r:=⟨_,rfl⟩
 have HR0:Hid (R=rt.bind fun word s=>(if false=true then (zdj s).bind fun n s=>.ok (n.text,n.at_) s else .ok ([],word.at_) s).bind fun na s=>if word.text=zcj then (membersP s).bind fun l s=>.ok (.node 4 na.1 0 na.2 l) s else if word.text=za6 then (fieldsP (zbz n false) s).bind fun l s=>.ok (.node 6 na.1 0 na.2 l) s else (choiceP (zbz n false) s).bind fun l s=>.ok (.node 7 na.1 0 na.2 l) s):=by
  show _=_
  rw [<- hR,<- hrt];rfl
 rw [hrt] at HTK
 clear h hba hE hM hFs hC hR b1 ka hpa hi hrt
 go_enter Tryz.func71,Tryz.ntmps71
 go_wp2_with fail
 clear hwa hwd c2 g2 hd8
 refine HTK.out.mono ?_
 cases rt with
 | no why at_ =>
  rintro e w99 ⟨rfl,hS⟩
  have HS99:=hid (HSd.out.trans hS)
  clear hS
  go_wp2
  refine ⟨rfl,?_⟩
  rw [HR0.out]
  exact ⟨rfl,HS99.out⟩
 | ok t st =>
  rintro e w2 ⟨v,i,full,rfl,rfl,rfl,hP,hS⟩
  obtain ⟨w3,hw3⟩:∃ x,w2.alloc (.cells #[.int .i64 t.kind,.string ⟨t.text.toArray⟩,.int .i64 t.num,.int .i64 t.at_] 41)=x:=⟨_,rfl⟩
  have hs2:Sole p w w2:=HSd.out.trans hS
  have hp:=HP.out
  have HP3:Hid (PP w3 p g cap ts i (d+1) full):=by show PP w3 _ _ _ _ _ _ _;rw [<- hw3];exact hP.alloc _
  have HS3:Hid (Sole p w w3):=by show Sole p w w3;rw [<- hw3];exact hs2.alloc _
  have HKr3:Hid (Kep w w3 w.heap.size (kidO 0 [] 0 0 (.slice none 0 0))):=by show Kep w w3 _ _;rw [<- hw3];exact (HKd.out.sole hp.1 hS).alloc _
  have HKt3:Hid (Kep w w3 w2.heap.size (tokO t)):=by show Kep w w3 _ _;rw [<- hw3];exact Kep.new hs2.size _
  obtain ⟨t0,t1,t2,t3⟩:=zb1 HKt3.out.1
  have HLE:Hid (w.heap.size<w2.heap.size∧w2.heap.size<w3.heap.size):=⟨(HKd.out.sole hp.1 hS).lt,by rw [<- hw3];simp⟩
  have qb:=bld3 t.at_
  clear hP hS hp hs2
  unfold tokV
  have HR1:Hid (R=if t.text=zcj then (membersP (PSof ts i full)).bind fun l s=>.ok (.node 4 [] 0 t.at_ l) s else if t.text=za6 then (fieldsP (zbz n false) (PSof ts i full)).bind fun l s=>.ok (.node 6 [] 0 t.at_ l) s else (choiceP (zbz n false) (PSof ts i full)).bind fun l s=>.ok (.node 7 [] 0 t.at_ l) s):=HR0.out
  have HTP:Hid (∀ wt,w3.alloc (.cells #[.int .i64 0,.string ⟨#[]⟩,.int .i64 0,.int .i64 t.at_,.slice none 0 0] 29)=wt->PP wt p g cap ts i (d+1) full∧Sole p w wt∧Kep w wt w.heap.size (kidO 0 [] 0 0 (.slice none 0 0))∧Kep w wt w2.heap.size (tokO t)∧Kep w wt w3.heap.size (kidO 0 [] 0 t.at_ (.slice none 0 0))):=fun wt e=>by
   subst e
   exact ⟨HP3.out.alloc _,HS3.out.alloc _,HKr3.out.alloc _,HKt3.out.alloc _,Kep.new HS3.out.size _⟩
  have HNE:Hid (w.heap.size<w3.heap.size):=by show _<_;have:=HLE.out;omega
  have tt1:∀ x,(w3.alloc x).cell? ⟨w2.heap.size,1,none⟩=some (.string ⟨t.text.toArray⟩):=fun x=>(zb1 (HKt3.out.alloc x).1).2.1
  by_cases he1:t.text=zcj
  · have hx1:(t.text==[101,110,117,109])=true:=by rw [he1];rfl
    have HR2:Hid (R=(membersP (PSof ts i full)).bind fun l s=>.ok (.node 4 [] 0 t.at_ l) s):=by show _=_;rw [HR1.out,if_pos he1]
    clear he1
    go_wp2_with fail
    clear hw3
    obtain ⟨wt,hwt⟩:∃ x,w3.alloc (.cells #[.int .i64 0,.string ⟨#[]⟩,.int .i64 0,.int .i64 t.at_,.slice none 0 0] 29)=x:=⟨_,rfl⟩
    rw [hwt]
    obtain ⟨hh1,hh2,hh3,hh4,hh5⟩:=HTP.out wt hwt
    have HPt:=hid hh1
    have HSt:=hid hh2
    have HKrt:=hid hh3
    have HKlt:=hid hh5
    clear hh1 hh2 hh3 hh4 hh5 hwt
    have HML:Hid (Calls Tryz.prog 114 #[.pointer (some ⟨p,0,none⟩)] wt (zao p g cap ts (d+1) (zci wt.heap.size) (membersP (PSof ts i full)) wt)):=HK114.out i full wt HPt.out (HBA.out.sole HSt.out)
    obtain ⟨rl,hrl⟩:∃ r,membersP (PSof ts i full)=r:=⟨_,rfl⟩
    have HRL:Hid (R=rl.bind fun l s=>.ok (.node 4 [] 0 t.at_ l) s):=by
     show _=_
     rw [HR2.out,<- hrl]
    rw [hrl] at HML
    clear hrl
    refine HML.out.mono ?_
    cases rl with
    | no why at_ =>
     rintro e w99 ⟨rfl,hS⟩
     have HS99:=hid (HSt.out.trans hS)
     clear hS
     go_wp2
     refine ⟨rfl,?_⟩
     rw [HRL.out]
     exact ⟨rfl,HS99.out⟩
    | ok l st =>
     rintro e w7 ⟨v,i,full,rfl,hL,rfl,hP,hS⟩
     obtain ⟨o8,l8,c8,rfl⟩:=hL.shape
     have hp:=HP.out
     have hlb:=HKlt.out.2
     have hlbt:=HKlt.out.lt
     have hrbl:=HNE.out
     have c27:=hP.c2
     have f27:=hP.f2
     have hne1:¬ w3.heap.size=p:=by omega
     have hne2:¬ p=w3.heap.size:=by omega
     have hne3:¬ w.heap.size=w3.heap.size:=by omega
     have hne4:¬ w3.heap.size=w.heap.size:=by omega
     have hne5:¬ w.heap.size=p:=by omega
     have hne6:¬ p=w.heap.size:=by omega
     have kl7:Kep w w7 w3.heap.size (kidO 0 [] 0 t.at_ (.slice none 0 0)):=HKlt.out.sole hp.1 hS
     have kr7:Kep w w7 w.heap.size (kidO 0 [] 0 0 (.slice none 0 0)):=HKrt.out.sole hp.1 hS
     obtain ⟨⟨l0,l1,l2,l3,l4⟩,⟨f0,f1,f2,f3,f4⟩⟩:=zac kl7.1
     have hz:∀ b,b≠w3.heap.size->((w7.setCell ⟨w3.heap.size,0,none⟩ (.int .i64 4)).setCell ⟨w3.heap.size,4,none⟩ (.slice o8 l8 c8)).heap[b]?=w7.heap[b]?:=fun b hb=>(Below.heap_setCell _ _ _ _ hb).trans (Below.heap_setCell _ _ _ _ hb)
     have HS9:Hid (Sole p w (((w7.setCell ⟨w3.heap.size,0,none⟩ (.int .i64 4)).setCell ⟨w3.heap.size,4,none⟩ (.slice o8 l8 c8)).setCell ⟨p,2,none⟩ (.int .i64 d))):=Sole.setp (((HSt.out.trans hS).below_after ((Below.refl _ _).setCell hlb _)).below_after ((Below.refl _ _).setCell hlb _))
     have HP9:=hid ((hP.sole_but (by omega) (by omega) hz).depth d)
     have HKr9:Hid (Kep w (((w7.setCell ⟨w3.heap.size,0,none⟩ (.int .i64 4)).setCell ⟨w3.heap.size,4,none⟩ (.slice o8 l8 c8)).setCell ⟨p,2,none⟩ (.int .i64 d)) w.heap.size (kidO 0 [] 0 0 (.slice none 0 0))):=(kr7.but hz (by omega)).setp hp.1
     have HKl9:Hid (Kep w (((w7.setCell ⟨w3.heap.size,0,none⟩ (.int .i64 4)).setCell ⟨w3.heap.size,4,none⟩ (.slice o8 l8 c8)).setCell ⟨p,2,none⟩ (.int .i64 d)) w3.heap.size (kidO 4 [] 0 t.at_ (.slice o8 l8 c8))):=Kep.setp ⟨zav (zav kl7.1),hlb⟩ hp.1
     have HL9:Hid (zaf (fun b=>w3.heap.size<b) (((w7.setCell ⟨w3.heap.size,0,none⟩ (.int .i64 4)).setCell ⟨w3.heap.size,4,none⟩ (.slice o8 l8 c8)).setCell ⟨p,2,none⟩ (.int .i64 d)) l (.slice o8 l8 c8)):=by
      have h1:zaf (fun b=>w3.heap.size<b) w7 l (.slice o8 l8 c8):=zaf.weaken hL (fun b h=>by have h2:wt.heap.size<=b:=h;omega)
      exact zaf.but (r:=p) (zaf.but h1 (fun b h=>by omega) hz) (fun b h=>by omega) (fun b hb=>Below.heap_setCell _ _ _ _ hb)
     obtain ⟨⟨r0,r1,r2,r3,r4⟩,⟨y0,y1,y2,y3,y4⟩⟩:=zac kr7.1
     clear hP hS hL hp hlb hlbt hrbl kl7 kr7 hz
     go_wp2
     generalize ((w7.setCell ⟨w3.heap.size,0,none⟩ (.int .i64 4)).setCell ⟨w3.heap.size,4,none⟩ (.slice o8 l8 c8)).setCell ⟨p,2,none⟩ (.int .i64 d)=w9 at HS9 HP9 HKr9 HKl9 HL9 ⊢
     obtain ⟨⟨z0,z1,z2,z3,z4⟩,_⟩:=zac HKr9.out.1
     have q:=res5 w9 w.heap.size (.int .i64 4) (.string ⟨#[]⟩) (.int .i64 0) (.int .i64 t.at_) (.slice o8 l8 c8) z0 z1 z2 z3 z4
     have hf:=fin5 (r:=w.heap.size) (w9:=w9) (k:=4) (n:=[]) (m:=0) (a:=t.at_) (sl:=(.slice o8 l8 c8)) HKr9.out.2 HS9.out _ rfl
     generalize ((((w9.setCell ⟨w.heap.size,0,none⟩ (.int .i64 4)).setCell ⟨w.heap.size,1,none⟩ (.string ⟨#[]⟩)).setCell ⟨w.heap.size,2,none⟩ (.int .i64 0)).setCell ⟨w.heap.size,3,none⟩ (.int .i64 t.at_)).setCell ⟨w.heap.size,4,none⟩ (.slice o8 l8 c8)=wz at q hf ⊢
     obtain ⟨q0,q1,q2,q3,q4⟩:=q
     refine bodyPost_ret (v:=.agg #[.int .i64 4,.string ⟨#[]⟩,.int .i64 0,.int .i64 t.at_,(.slice o8 l8 c8)]) (by simp [results,Tryz.results71,go_sem,q0,q1,q2,q3,q4]) rfl ?_
     rw [HRL.out]
     have hr2:=HKr9.out.2
     have hpg:=HP.out
     exact ⟨_,_,_,rfl,zbu HL9.out (fun b h=>by have:=HNE.out;omega) (fun b h=>by have:=HNE.out;omega) hf.2,rfl,HP9.out.sole_but (by omega) (by omega) hf.2,hf.1⟩
  · by_cases he2:t.text=za6
    · have hx1:(t.text==[101,110,117,109])=false:=by simpa [zcj] using he1
      have hx2:(t.text==[115,116,114,117,99,116])=true:=by rw [he2];rfl
      have HR2:Hid (R=(fieldsP (zbz n false) (PSof ts i full)).bind fun l s=>.ok (.node 6 [] 0 t.at_ l) s):=by show _=_;rw [HR1.out,if_neg he1,if_pos he2]
      clear he1 he2
      go_wp2_with fail
      clear hw3
      obtain ⟨wt,hwt⟩:∃ x,w3.alloc (.cells #[.int .i64 0,.string ⟨#[]⟩,.int .i64 0,.int .i64 t.at_,.slice none 0 0] 29)=x:=⟨_,rfl⟩
      rw [hwt]
      obtain ⟨hh1,hh2,hh3,hh4,hh5⟩:=HTP.out wt hwt
      have HPt:=hid hh1
      have HSt:=hid hh2
      have HKrt:=hid hh3
      have HKlt:=hid hh5
      clear hh1 hh2 hh3 hh4 hh5 hwt
      have HML:Hid (Calls Tryz.prog 115 #[.pointer (some ⟨p,0,none⟩)] wt (zao p g cap ts (d+1) (zci wt.heap.size) (fieldsP (zbz n false) (PSof ts i full)) wt)):=HK115.out i full wt HPt.out (HBA.out.sole HSt.out)
      obtain ⟨rl,hrl⟩:∃ r,fieldsP (zbz n false) (PSof ts i full)=r:=⟨_,rfl⟩
      have HRL:Hid (R=rl.bind fun l s=>.ok (.node 6 [] 0 t.at_ l) s):=by
       show _=_
       rw [HR2.out,<- hrl]
      rw [hrl] at HML
      clear hrl
      refine HML.out.mono ?_
      cases rl with
      | no why at_ =>
       rintro e w99 ⟨rfl,hS⟩
       have HS99:=hid (HSt.out.trans hS)
       clear hS
       go_wp2
       refine ⟨rfl,?_⟩
       rw [HRL.out]
       exact ⟨rfl,HS99.out⟩
      | ok l st =>
       rintro e w7 ⟨v,i,full,rfl,hL,rfl,hP,hS⟩
       obtain ⟨o8,l8,c8,rfl⟩:=hL.shape
       have hp:=HP.out
       have hlb:=HKlt.out.2
       have hlbt:=HKlt.out.lt
       have hrbl:=HNE.out
       have c27:=hP.c2
       have f27:=hP.f2
       have hne1:¬ w3.heap.size=p:=by omega
       have hne2:¬ p=w3.heap.size:=by omega
       have hne3:¬ w.heap.size=w3.heap.size:=by omega
       have hne4:¬ w3.heap.size=w.heap.size:=by omega
       have hne5:¬ w.heap.size=p:=by omega
       have hne6:¬ p=w.heap.size:=by omega
       have kl7:Kep w w7 w3.heap.size (kidO 0 [] 0 t.at_ (.slice none 0 0)):=HKlt.out.sole hp.1 hS
       have kr7:Kep w w7 w.heap.size (kidO 0 [] 0 0 (.slice none 0 0)):=HKrt.out.sole hp.1 hS
       obtain ⟨⟨l0,l1,l2,l3,l4⟩,⟨f0,f1,f2,f3,f4⟩⟩:=zac kl7.1
       have hz:∀ b,b≠w3.heap.size->((w7.setCell ⟨w3.heap.size,0,none⟩ (.int .i64 6)).setCell ⟨w3.heap.size,4,none⟩ (.slice o8 l8 c8)).heap[b]?=w7.heap[b]?:=fun b hb=>(Below.heap_setCell _ _ _ _ hb).trans (Below.heap_setCell _ _ _ _ hb)
       have HS9:Hid (Sole p w (((w7.setCell ⟨w3.heap.size,0,none⟩ (.int .i64 6)).setCell ⟨w3.heap.size,4,none⟩ (.slice o8 l8 c8)).setCell ⟨p,2,none⟩ (.int .i64 d))):=Sole.setp (((HSt.out.trans hS).below_after ((Below.refl _ _).setCell hlb _)).below_after ((Below.refl _ _).setCell hlb _))
       have HP9:=hid ((hP.sole_but (by omega) (by omega) hz).depth d)
       have HKr9:Hid (Kep w (((w7.setCell ⟨w3.heap.size,0,none⟩ (.int .i64 6)).setCell ⟨w3.heap.size,4,none⟩ (.slice o8 l8 c8)).setCell ⟨p,2,none⟩ (.int .i64 d)) w.heap.size (kidO 0 [] 0 0 (.slice none 0 0))):=(kr7.but hz (by omega)).setp hp.1
       have HKl9:Hid (Kep w (((w7.setCell ⟨w3.heap.size,0,none⟩ (.int .i64 6)).setCell ⟨w3.heap.size,4,none⟩ (.slice o8 l8 c8)).setCell ⟨p,2,none⟩ (.int .i64 d)) w3.heap.size (kidO 6 [] 0 t.at_ (.slice o8 l8 c8))):=Kep.setp ⟨zav (zav kl7.1),hlb⟩ hp.1
       have HL9:Hid (zaf (fun b=>w3.heap.size<b) (((w7.setCell ⟨w3.heap.size,0,none⟩ (.int .i64 6)).setCell ⟨w3.heap.size,4,none⟩ (.slice o8 l8 c8)).setCell ⟨p,2,none⟩ (.int .i64 d)) l (.slice o8 l8 c8)):=by
        have h1:zaf (fun b=>w3.heap.size<b) w7 l (.slice o8 l8 c8):=zaf.weaken hL (fun b h=>by have h2:wt.heap.size<=b:=h;omega)
        exact zaf.but (r:=p) (zaf.but h1 (fun b h=>by omega) hz) (fun b h=>by omega) (fun b hb=>Below.heap_setCell _ _ _ _ hb)
       obtain ⟨⟨r0,r1,r2,r3,r4⟩,⟨y0,y1,y2,y3,y4⟩⟩:=zac kr7.1
       clear hP hS hL hp hlb hlbt hrbl kl7 kr7 hz
       go_wp2
       generalize ((w7.setCell ⟨w3.heap.size,0,none⟩ (.int .i64 6)).setCell ⟨w3.heap.size,4,none⟩ (.slice o8 l8 c8)).setCell ⟨p,2,none⟩ (.int .i64 d)=w9 at HS9 HP9 HKr9 HKl9 HL9 ⊢
       obtain ⟨⟨z0,z1,z2,z3,z4⟩,_⟩:=zac HKr9.out.1
       have q:=res5 w9 w.heap.size (.int .i64 6) (.string ⟨#[]⟩) (.int .i64 0) (.int .i64 t.at_) (.slice o8 l8 c8) z0 z1 z2 z3 z4
       have hf:=fin5 (r:=w.heap.size) (w9:=w9) (k:=6) (n:=[]) (m:=0) (a:=t.at_) (sl:=(.slice o8 l8 c8)) HKr9.out.2 HS9.out _ rfl
       generalize ((((w9.setCell ⟨w.heap.size,0,none⟩ (.int .i64 6)).setCell ⟨w.heap.size,1,none⟩ (.string ⟨#[]⟩)).setCell ⟨w.heap.size,2,none⟩ (.int .i64 0)).setCell ⟨w.heap.size,3,none⟩ (.int .i64 t.at_)).setCell ⟨w.heap.size,4,none⟩ (.slice o8 l8 c8)=wz at q hf ⊢
       obtain ⟨q0,q1,q2,q3,q4⟩:=q
       refine bodyPost_ret (v:=.agg #[.int .i64 6,.string ⟨#[]⟩,.int .i64 0,.int .i64 t.at_,(.slice o8 l8 c8)]) (by simp [results,Tryz.results71,go_sem,q0,q1,q2,q3,q4]) rfl ?_
       rw [HRL.out]
       have hr2:=HKr9.out.2
       have hpg:=HP.out
       exact ⟨_,_,_,rfl,zbu HL9.out (fun b h=>by have:=HNE.out;omega) (fun b h=>by have:=HNE.out;omega) hf.2,rfl,HP9.out.sole_but (by omega) (by omega) hf.2,hf.1⟩
    · have hx1:(t.text==[101,110,117,109])=false:=by simpa [zcj] using he1
      have hx2:(t.text==[115,116,114,117,99,116])=false:=by simpa [za6] using he2
      have HR2:Hid (R=(choiceP (zbz n false) (PSof ts i full)).bind fun l s=>.ok (.node 7 [] 0 t.at_ l) s):=by show _=_;rw [HR1.out,if_neg he1,if_neg he2]
      clear he1 he2
      go_wp2_with fail
      clear hw3
      obtain ⟨wt,hwt⟩:∃ x,w3.alloc (.cells #[.int .i64 0,.string ⟨#[]⟩,.int .i64 0,.int .i64 t.at_,.slice none 0 0] 29)=x:=⟨_,rfl⟩
      rw [hwt]
      obtain ⟨hh1,hh2,hh3,hh4,hh5⟩:=HTP.out wt hwt
      have HPt:=hid hh1
      have HSt:=hid hh2
      have HKrt:=hid hh3
      have HKlt:=hid hh5
      clear hh1 hh2 hh3 hh4 hh5 hwt
      have HML:Hid (Calls Tryz.prog 116 #[.pointer (some ⟨p,0,none⟩)] wt (zao p g cap ts (d+1) (zci wt.heap.size) (choiceP (zbz n false) (PSof ts i full)) wt)):=HK116.out i full wt HPt.out (HBA.out.sole HSt.out)
      obtain ⟨rl,hrl⟩:∃ r,choiceP (zbz n false) (PSof ts i full)=r:=⟨_,rfl⟩
      have HRL:Hid (R=rl.bind fun l s=>.ok (.node 7 [] 0 t.at_ l) s):=by
       show _=_
       rw [HR2.out,<- hrl]
      rw [hrl] at HML
      clear hrl
      refine HML.out.mono ?_
      cases rl with
      | no why at_ =>
       rintro e w99 ⟨rfl,hS⟩
       have HS99:=hid (HSt.out.trans hS)
       clear hS
       go_wp2
       refine ⟨rfl,?_⟩
       rw [HRL.out]
       exact ⟨rfl,HS99.out⟩
      | ok l st =>
       rintro e w7 ⟨v,i,full,rfl,hL,rfl,hP,hS⟩
       obtain ⟨o8,l8,c8,rfl⟩:=hL.shape
       have hp:=HP.out
       have hlb:=HKlt.out.2
       have hlbt:=HKlt.out.lt
       have hrbl:=HNE.out
       have c27:=hP.c2
       have f27:=hP.f2
       have hne1:¬ w3.heap.size=p:=by omega
       have hne2:¬ p=w3.heap.size:=by omega
       have hne3:¬ w.heap.size=w3.heap.size:=by omega
       have hne4:¬ w3.heap.size=w.heap.size:=by omega
       have hne5:¬ w.heap.size=p:=by omega
       have hne6:¬ p=w.heap.size:=by omega
       have kl7:Kep w w7 w3.heap.size (kidO 0 [] 0 t.at_ (.slice none 0 0)):=HKlt.out.sole hp.1 hS
       have kr7:Kep w w7 w.heap.size (kidO 0 [] 0 0 (.slice none 0 0)):=HKrt.out.sole hp.1 hS
       obtain ⟨⟨l0,l1,l2,l3,l4⟩,⟨f0,f1,f2,f3,f4⟩⟩:=zac kl7.1
       have hz:∀ b,b≠w3.heap.size->((w7.setCell ⟨w3.heap.size,0,none⟩ (.int .i64 7)).setCell ⟨w3.heap.size,4,none⟩ (.slice o8 l8 c8)).heap[b]?=w7.heap[b]?:=fun b hb=>(Below.heap_setCell _ _ _ _ hb).trans (Below.heap_setCell _ _ _ _ hb)
       have HS9:Hid (Sole p w (((w7.setCell ⟨w3.heap.size,0,none⟩ (.int .i64 7)).setCell ⟨w3.heap.size,4,none⟩ (.slice o8 l8 c8)).setCell ⟨p,2,none⟩ (.int .i64 d))):=Sole.setp (((HSt.out.trans hS).below_after ((Below.refl _ _).setCell hlb _)).below_after ((Below.refl _ _).setCell hlb _))
       have HP9:=hid ((hP.sole_but (by omega) (by omega) hz).depth d)
       have HKr9:Hid (Kep w (((w7.setCell ⟨w3.heap.size,0,none⟩ (.int .i64 7)).setCell ⟨w3.heap.size,4,none⟩ (.slice o8 l8 c8)).setCell ⟨p,2,none⟩ (.int .i64 d)) w.heap.size (kidO 0 [] 0 0 (.slice none 0 0))):=(kr7.but hz (by omega)).setp hp.1
       have HKl9:Hid (Kep w (((w7.setCell ⟨w3.heap.size,0,none⟩ (.int .i64 7)).setCell ⟨w3.heap.size,4,none⟩ (.slice o8 l8 c8)).setCell ⟨p,2,none⟩ (.int .i64 d)) w3.heap.size (kidO 7 [] 0 t.at_ (.slice o8 l8 c8))):=Kep.setp ⟨zav (zav kl7.1),hlb⟩ hp.1
       have HL9:Hid (zaf (fun b=>w3.heap.size<b) (((w7.setCell ⟨w3.heap.size,0,none⟩ (.int .i64 7)).setCell ⟨w3.heap.size,4,none⟩ (.slice o8 l8 c8)).setCell ⟨p,2,none⟩ (.int .i64 d)) l (.slice o8 l8 c8)):=by
        have h1:zaf (fun b=>w3.heap.size<b) w7 l (.slice o8 l8 c8):=zaf.weaken hL (fun b h=>by have h2:wt.heap.size<=b:=h;omega)
        exact zaf.but (r:=p) (zaf.but h1 (fun b h=>by omega) hz) (fun b h=>by omega) (fun b hb=>Below.heap_setCell _ _ _ _ hb)
       obtain ⟨⟨r0,r1,r2,r3,r4⟩,⟨y0,y1,y2,y3,y4⟩⟩:=zac kr7.1
       clear hP hS hL hp hlb hlbt hrbl kl7 kr7 hz
       go_wp2
       generalize ((w7.setCell ⟨w3.heap.size,0,none⟩ (.int .i64 7)).setCell ⟨w3.heap.size,4,none⟩ (.slice o8 l8 c8)).setCell ⟨p,2,none⟩ (.int .i64 d)=w9 at HS9 HP9 HKr9 HKl9 HL9 ⊢
       obtain ⟨⟨z0,z1,z2,z3,z4⟩,_⟩:=zac HKr9.out.1
       have q:=res5 w9 w.heap.size (.int .i64 7) (.string ⟨#[]⟩) (.int .i64 0) (.int .i64 t.at_) (.slice o8 l8 c8) z0 z1 z2 z3 z4
       have hf:=fin5 (r:=w.heap.size) (w9:=w9) (k:=7) (n:=[]) (m:=0) (a:=t.at_) (sl:=(.slice o8 l8 c8)) HKr9.out.2 HS9.out _ rfl
       generalize ((((w9.setCell ⟨w.heap.size,0,none⟩ (.int .i64 7)).setCell ⟨w.heap.size,1,none⟩ (.string ⟨#[]⟩)).setCell ⟨w.heap.size,2,none⟩ (.int .i64 0)).setCell ⟨w.heap.size,3,none⟩ (.int .i64 t.at_)).setCell ⟨w.heap.size,4,none⟩ (.slice o8 l8 c8)=wz at q hf ⊢
       obtain ⟨q0,q1,q2,q3,q4⟩:=q
       refine bodyPost_ret (v:=.agg #[.int .i64 7,.string ⟨#[]⟩,.int .i64 0,.int .i64 t.at_,(.slice o8 l8 c8)]) (by simp [results,Tryz.results71,go_sem,q0,q1,q2,q3,q4]) rfl ?_
       rw [HRL.out]
       have hr2:=HKr9.out.2
       have hpg:=HP.out
       exact ⟨_,_,_,rfl,zbu HL9.out (fun b h=>by have:=HNE.out;omega) (fun b h=>by have:=HNE.out;omega) hf.2,rfl,HP9.out.sole_but (by omega) (by omega) hf.2,hf.1⟩
set_option maxHeartbeats 4000000 in
set_option maxRecDepth 4000 in
theorem body_true (p g cap:Nat) (ts:List Tok) (hE:Ends ts) (d:Int) (hd0:0<=d) (hd7:d<=7) (n:Nat) (hM:zhc p g cap ts (d+1) 114 membersP) (hFs:zhc p g cap ts (d+1) 115 (fieldsP (zbz n false))) (hC:zhc p g cap ts (d+1) 116 (choiceP (zbz n false))) (i:Nat) (full:Bool) (w:World) (hi:i+1<ts.length) (h:PP w p g cap ts i d full) (hba:zb3 p w) :
 Calls Tryz.prog 71 #[.pointer (some ⟨p,0,none⟩),.bool true] w (zao p g cap ts d (zal w.heap.size) (zbz (n+1) true (PSof ts i full)) w):=by
 have HP:=hid2 h.plt h.glt
 have HE:=hid hE
 have HBA:=hid hba
 have HK114:=hid hM
 have HK115:=hid hFs
 have HK116:=hid hC
 obtain ⟨R,hR⟩:∃ R,zbz (n+1) true (PSof ts i full)=R:=⟨_,rfl⟩
 rw [hR]
 obtain ⟨wa,hwa⟩:∃ x,w.alloc (.cells #[.int .i64 0,.string ⟨#[]⟩,.int .i64 0,.int .i64 0,.slice none 0 0] 29)=x:=⟨_,rfl⟩
 have b1:Below w.heap.size w wa:=by rw [<- hwa];exact zad _ _
 have ka:Kep w wa w.heap.size (kidO 0 [] 0 0 (.slice none 0 0)):=by rw [<- hwa];exact Kep.new (Nat.le_refl _) _
 have hpa:=h.below b1
 have c2:=hpa.c2
 have g2:=hpa.f2
 have hd8:(d==8)=false:=by simp;omega
 obtain ⟨wd,hwd⟩:∃ x,wa.setCell ⟨p,2,none⟩ (.int .i64 (d+1))=x:=⟨_,rfl⟩
 have HPd:Hid (PP wd p g cap ts i (d+1) full):=by show PP wd _ _ _ _ _ _ _;rw [<- hwd];exact hpa.depth _
 have HSd:Hid (Sole p w wd):=by show Sole p w wd;rw [<- hwd];exact (Sole.of_below b1).setp
 have HKd:Hid (Kep w wd w.heap.size (kidO 0 [] 0 0 (.slice none 0 0))):=by show Kep w wd _ _;rw [<- hwd];exact ka.setp h.plt
 have HTK:Hid (Calls Tryz.prog 69 #[.pointer (some ⟨p,0,none⟩)] wd (zao p g cap ts (d+1) zfi (PSof ts i full).take wd)):=zdf p g cap ts i (d+1) full wd HPd.out hi
 obtain ⟨rt,hrt⟩:∃ r,(PSof ts i full).take=r:=⟨_,rfl⟩
 have HR0:Hid (R=rt.bind fun word s=>(if true=true then (zdj s).bind fun n s=>.ok (n.text,n.at_) s else .ok ([],word.at_) s).bind fun na s=>if word.text=zcj then (membersP s).bind fun l s=>.ok (.node 4 na.1 0 na.2 l) s else if word.text=za6 then (fieldsP (zbz n false) s).bind fun l s=>.ok (.node 6 na.1 0 na.2 l) s else (choiceP (zbz n false) s).bind fun l s=>.ok (.node 7 na.1 0 na.2 l) s):=by
  show _=_
  rw [<- hR,<- hrt];rfl
 rw [hrt] at HTK
 clear h hba hE hM hFs hC hR b1 ka hpa hi hrt
 go_enter Tryz.func71,Tryz.ntmps71
 go_wp2_with fail
 clear hwa hwd c2 g2 hd8
 refine HTK.out.mono ?_
 cases rt with
 | no why at_ =>
  rintro e w99 ⟨rfl,hS⟩
  have HS99:=hid (HSd.out.trans hS)
  clear hS
  go_wp2
  refine ⟨rfl,?_⟩
  rw [HR0.out]
  exact ⟨rfl,HS99.out⟩
 | ok t st =>
  rintro e w2 ⟨v,i,full,rfl,rfl,rfl,hP,hS⟩
  obtain ⟨w3,hw3⟩:∃ x,w2.alloc (.cells #[.int .i64 t.kind,.string ⟨t.text.toArray⟩,.int .i64 t.num,.int .i64 t.at_] 41)=x:=⟨_,rfl⟩
  have hs2:Sole p w w2:=HSd.out.trans hS
  have hp:=HP.out
  have HP3:Hid (PP w3 p g cap ts i (d+1) full):=by show PP w3 _ _ _ _ _ _ _;rw [<- hw3];exact hP.alloc _
  have HS3:Hid (Sole p w w3):=by show Sole p w w3;rw [<- hw3];exact hs2.alloc _
  have HKr3:Hid (Kep w w3 w.heap.size (kidO 0 [] 0 0 (.slice none 0 0))):=by show Kep w w3 _ _;rw [<- hw3];exact (HKd.out.sole hp.1 hS).alloc _
  have HKt3:Hid (Kep w w3 w2.heap.size (tokO t)):=by show Kep w w3 _ _;rw [<- hw3];exact Kep.new hs2.size _
  obtain ⟨t0,t1,t2,t3⟩:=zb1 HKt3.out.1
  have HLE:Hid (w.heap.size<w2.heap.size∧w2.heap.size<w3.heap.size):=⟨(HKd.out.sole hp.1 hS).lt,by rw [<- hw3];simp⟩
  have qb:=bld3 t.at_
  clear hP hS hp hs2
  unfold tokV
  have HR1' : Hid (R=(zdj (PSof ts i full)).bind fun nm s=>if t.text=zcj then (membersP s).bind fun l s=>.ok (.node 4 nm.text 0 nm.at_ l) s else if t.text=za6 then (fieldsP (zbz n false) s).bind fun l s=>.ok (.node 6 nm.text 0 nm.at_ l) s else (choiceP (zbz n false) s).bind fun l s=>.ok (.node 7 nm.text 0 nm.at_ l) s):=by
   show _=_
   rw [HR0.out]
   show ((zdj (PSof ts i full)).bind _).bind _=_
   rw [zfb]
   rfl
  have HTP:Hid (∀ wt,w3.alloc (.cells #[.int .i64 0,.string ⟨#[]⟩,.int .i64 0,.int .i64 t.at_,.slice none 0 0] 29)=wt->PP wt p g cap ts i (d+1) full∧Sole p w wt∧Kep w wt w.heap.size (kidO 0 [] 0 0 (.slice none 0 0))∧Kep w wt w2.heap.size (tokO t)∧Kep w wt w3.heap.size (kidO 0 [] 0 t.at_ (.slice none 0 0))):=fun wt e=>by
   subst e
   exact ⟨HP3.out.alloc _,HS3.out.alloc _,HKr3.out.alloc _,HKt3.out.alloc _,Kep.new HS3.out.size _⟩
  have HNE:Hid (w.heap.size<w3.heap.size):=by show _<_;have:=HLE.out;omega
  obtain ⟨rn,hrn⟩:∃ r,zdj (PSof ts i full)=r:=⟨_,rfl⟩
  rw [hrn] at HR1'
  have HNM:Hid (∀ wt,PP wt p g cap ts i (d+1) full->Calls Tryz.prog 108 #[.pointer (some ⟨p,0,none⟩)] wt (zao p g cap ts (d+1) zfi rn wt)):=fun wt hx=>by
   rw [<- hrn]
   exact zf6 p g cap ts HE.out i (d+1) full wt hx
  clear hrn
  go_wp2_with fail
  clear hw3
  obtain ⟨wt,hwt⟩:∃ x,w3.alloc (.cells #[.int .i64 0,.string ⟨#[]⟩,.int .i64 0,.int .i64 t.at_,.slice none 0 0] 29)=x:=⟨_,rfl⟩
  rw [hwt]
  obtain ⟨hh1,hh2,hh3,hh4,hh5⟩:=HTP.out wt hwt
  have HSn:=hid hh2
  have HKrn:=hid hh3
  have HKtn:=hid hh4
  have HKln:=hid hh5
  refine (HNM.out wt hh1).mono ?_
  clear hh1 hh2 hh3 hh4 hh5 hwt HTP qb t0 t1 t2 t3
  cases rn with
  | no why at_ =>
   rintro e w99 ⟨rfl,hS⟩
   have HS99:=hid (HSn.out.trans hS)
   clear hS
   go_wp2
   refine ⟨rfl,?_⟩
   rw [HR1'.out]
   exact ⟨rfl,HS99.out⟩
  | ok nm st =>
   rintro e w4 ⟨v,i,full,rfl,rfl,rfl,hP,hS⟩
   obtain ⟨w5,hw5⟩:∃ x,w4.alloc (.cells #[.int .i64 nm.kind,.string ⟨nm.text.toArray⟩,.int .i64 nm.num,.int .i64 nm.at_] 41)=x:=⟨_,rfl⟩
   have hp:=HP.out
   have hs4:Sole p w w4:=HSn.out.trans hS
   have HP5:Hid (PP w5 p g cap ts i (d+1) full):=by show PP w5 _ _ _ _ _ _ _;rw [<- hw5];exact hP.alloc _
   have HS5:Hid (Sole p w w5):=by show Sole p w w5;rw [<- hw5];exact hs4.alloc _
   have HKr5:Hid (Kep w w5 w.heap.size (kidO 0 [] 0 0 (.slice none 0 0))):=by show Kep w w5 _ _;rw [<- hw5];exact (HKrn.out.sole hp.1 hS).alloc _
   have HKt5:Hid (Kep w w5 w2.heap.size (tokO t)):=by show Kep w w5 _ _;rw [<- hw5];exact (HKtn.out.sole hp.1 hS).alloc _
   have HKl5:Hid (Kep w w5 w3.heap.size (kidO 0 [] 0 t.at_ (.slice none 0 0))):=by show Kep w w5 _ _;rw [<- hw5];exact (HKln.out.sole hp.1 hS).alloc _
   have HKn5:Hid (Kep w w5 w4.heap.size (tokO nm)):=by show Kep w w5 _ _;rw [<- hw5];exact Kep.new hs4.size _
   have HR1:Hid (R=if t.text=zcj then (membersP (PSof ts i full)).bind fun l s=>.ok (.node 4 nm.text 0 nm.at_ l) s else if t.text=za6 then (fieldsP (zbz n false) (PSof ts i full)).bind fun l s=>.ok (.node 6 nm.text 0 nm.at_ l) s else (choiceP (zbz n false) (PSof ts i full)).bind fun l s=>.ok (.node 7 nm.text 0 nm.at_ l) s):=HR1'.out
   obtain ⟨t0,t1,t2,t3⟩:=zb1 HKn5.out.1
   obtain ⟨⟨l0,l1,l2,l3,l4⟩,⟨f0,f1,f2,f3,f4⟩⟩:=zac HKl5.out.1
   clear hP hS hp hs4
   unfold tokV
   go_wp2_with fail
   clear hw5
   go_region
   have hp:=HP.out
   have hle:=HLE.out
   have hlb:=HKl5.out.2
   have hz:∀ b,b≠w3.heap.size->((w5.setCell ⟨w3.heap.size,1,none⟩ (.string ⟨nm.text.toArray⟩)).setCell ⟨w3.heap.size,3,none⟩ (.int .i64 nm.at_)).drew.heap[b]?=w5.heap[b]?:=fun b hb=>(Below.heap_setCell _ _ _ _ hb).trans (Below.heap_setCell _ _ _ _ hb)
   have HPt:=hid (HP5.out.sole_but (by omega) (by omega) hz)
   have HSt:Hid (Sole p w ((w5.setCell ⟨w3.heap.size,1,none⟩ (.string ⟨nm.text.toArray⟩)).setCell ⟨w3.heap.size,3,none⟩ (.int .i64 nm.at_)).drew):=(HS5.out.below_after ((Below.refl _ _).setCell hlb _)).below_after (((Below.refl _ _).setCell hlb _).drew)
   have HKrt:=hid (HKr5.out.but hz (by omega))
   have ktt:Kep w ((w5.setCell ⟨w3.heap.size,1,none⟩ (.string ⟨nm.text.toArray⟩)).setCell ⟨w3.heap.size,3,none⟩ (.int .i64 nm.at_)).drew w2.heap.size (tokO t):=HKt5.out.but hz (by omega)
   have HKlt:Hid (Kep w ((w5.setCell ⟨w3.heap.size,1,none⟩ (.string ⟨nm.text.toArray⟩)).setCell ⟨w3.heap.size,3,none⟩ (.int .i64 nm.at_)).drew w3.heap.size (kidO 0 nm.text 0 nm.at_ (.slice none 0 0))):=⟨zav (zav HKl5.out.1),hlb⟩
   have tt1:=(zb1 ktt.1).2.1
   clear hp hle hlb hz ktt
   generalize ((w5.setCell ⟨w3.heap.size,1,none⟩ (.string ⟨nm.text.toArray⟩)).setCell ⟨w3.heap.size,3,none⟩ (.int .i64 nm.at_)).drew=wt2 at HPt HSt HKrt HKlt tt1 ⊢
   by_cases he1:t.text=zcj
   · have hx1:(t.text==[101,110,117,109])=true:=by rw [he1];rfl
     have HR2:Hid (R=(membersP (PSof ts i full)).bind fun l s=>.ok (.node 4 nm.text 0 nm.at_ l) s):=by show _=_;rw [HR1.out,if_pos he1]
     clear he1
     have HML:Hid (Calls Tryz.prog 114 #[.pointer (some ⟨p,0,none⟩)] wt2 (zao p g cap ts (d+1) (zci wt2.heap.size) (membersP (PSof ts i full)) wt2)):=HK114.out i full wt2 HPt.out (HBA.out.sole HSt.out)
     obtain ⟨rl,hrl⟩:∃ r,membersP (PSof ts i full)=r:=⟨_,rfl⟩
     have HRL:Hid (R=rl.bind fun l s=>.ok (.node 4 nm.text 0 nm.at_ l) s):=by
      show _=_
      rw [HR2.out,<- hrl]
     rw [hrl] at HML
     clear hrl
     go_wp2_with fail
     refine HML.out.mono ?_
     cases rl with
     | no why at_ =>
      rintro e w99 ⟨rfl,hS⟩
      have HS99:=hid (HSt.out.trans hS)
      clear hS
      go_wp2
      refine ⟨rfl,?_⟩
      rw [HRL.out]
      exact ⟨rfl,HS99.out⟩
     | ok l st =>
      rintro e w7 ⟨v,i,full,rfl,hL,rfl,hP,hS⟩
      obtain ⟨o8,l8,c8,rfl⟩:=hL.shape
      have hp:=HP.out
      have hlb:=HKlt.out.2
      have hlbt:=HKlt.out.lt
      have hrbl:=HNE.out
      have c27:=hP.c2
      have f27:=hP.f2
      have hne1:¬ w3.heap.size=p:=by omega
      have hne2:¬ p=w3.heap.size:=by omega
      have hne3:¬ w.heap.size=w3.heap.size:=by omega
      have hne4:¬ w3.heap.size=w.heap.size:=by omega
      have hne5:¬ w.heap.size=p:=by omega
      have hne6:¬ p=w.heap.size:=by omega
      have kl7:Kep w w7 w3.heap.size (kidO 0 nm.text 0 nm.at_ (.slice none 0 0)):=HKlt.out.sole hp.1 hS
      have kr7:Kep w w7 w.heap.size (kidO 0 [] 0 0 (.slice none 0 0)):=HKrt.out.sole hp.1 hS
      obtain ⟨⟨l0,l1,l2,l3,l4⟩,⟨f0,f1,f2,f3,f4⟩⟩:=zac kl7.1
      have hz:∀ b,b≠w3.heap.size->((w7.setCell ⟨w3.heap.size,0,none⟩ (.int .i64 4)).setCell ⟨w3.heap.size,4,none⟩ (.slice o8 l8 c8)).heap[b]?=w7.heap[b]?:=fun b hb=>(Below.heap_setCell _ _ _ _ hb).trans (Below.heap_setCell _ _ _ _ hb)
      have HS9:Hid (Sole p w (((w7.setCell ⟨w3.heap.size,0,none⟩ (.int .i64 4)).setCell ⟨w3.heap.size,4,none⟩ (.slice o8 l8 c8)).setCell ⟨p,2,none⟩ (.int .i64 d))):=Sole.setp (((HSt.out.trans hS).below_after ((Below.refl _ _).setCell hlb _)).below_after ((Below.refl _ _).setCell hlb _))
      have HP9:=hid ((hP.sole_but (by omega) (by omega) hz).depth d)
      have HKr9:Hid (Kep w (((w7.setCell ⟨w3.heap.size,0,none⟩ (.int .i64 4)).setCell ⟨w3.heap.size,4,none⟩ (.slice o8 l8 c8)).setCell ⟨p,2,none⟩ (.int .i64 d)) w.heap.size (kidO 0 [] 0 0 (.slice none 0 0))):=(kr7.but hz (by omega)).setp hp.1
      have HKl9:Hid (Kep w (((w7.setCell ⟨w3.heap.size,0,none⟩ (.int .i64 4)).setCell ⟨w3.heap.size,4,none⟩ (.slice o8 l8 c8)).setCell ⟨p,2,none⟩ (.int .i64 d)) w3.heap.size (kidO 4 nm.text 0 nm.at_ (.slice o8 l8 c8))):=Kep.setp ⟨zav (zav kl7.1),hlb⟩ hp.1
      have HL9:Hid (zaf (fun b=>w3.heap.size<b) (((w7.setCell ⟨w3.heap.size,0,none⟩ (.int .i64 4)).setCell ⟨w3.heap.size,4,none⟩ (.slice o8 l8 c8)).setCell ⟨p,2,none⟩ (.int .i64 d)) l (.slice o8 l8 c8)):=by
       have h1:zaf (fun b=>w3.heap.size<b) w7 l (.slice o8 l8 c8):=zaf.weaken hL (fun b h=>by have h2:wt2.heap.size<=b:=h;omega)
       exact zaf.but (r:=p) (zaf.but h1 (fun b h=>by omega) hz) (fun b h=>by omega) (fun b hb=>Below.heap_setCell _ _ _ _ hb)
      obtain ⟨⟨r0,r1,r2,r3,r4⟩,⟨y0,y1,y2,y3,y4⟩⟩:=zac kr7.1
      clear hP hS hL hp hlb hlbt hrbl kl7 kr7 hz
      go_wp2
      generalize ((w7.setCell ⟨w3.heap.size,0,none⟩ (.int .i64 4)).setCell ⟨w3.heap.size,4,none⟩ (.slice o8 l8 c8)).setCell ⟨p,2,none⟩ (.int .i64 d)=w9 at HS9 HP9 HKr9 HKl9 HL9 ⊢
      obtain ⟨⟨z0,z1,z2,z3,z4⟩,_⟩:=zac HKr9.out.1
      have q:=res5 w9 w.heap.size (.int .i64 4) (.string ⟨nm.text.toArray⟩) (.int .i64 0) (.int .i64 nm.at_) (.slice o8 l8 c8) z0 z1 z2 z3 z4
      have hf:=fin5 (r:=w.heap.size) (w9:=w9) (k:=4) (n:=nm.text) (m:=0) (a:=nm.at_) (sl:=(.slice o8 l8 c8)) HKr9.out.2 HS9.out _ rfl
      generalize ((((w9.setCell ⟨w.heap.size,0,none⟩ (.int .i64 4)).setCell ⟨w.heap.size,1,none⟩ (.string ⟨nm.text.toArray⟩)).setCell ⟨w.heap.size,2,none⟩ (.int .i64 0)).setCell ⟨w.heap.size,3,none⟩ (.int .i64 nm.at_)).setCell ⟨w.heap.size,4,none⟩ (.slice o8 l8 c8)=wz at q hf ⊢
      obtain ⟨q0,q1,q2,q3,q4⟩:=q
      refine bodyPost_ret (v:=.agg #[.int .i64 4,.string ⟨nm.text.toArray⟩,.int .i64 0,.int .i64 nm.at_,(.slice o8 l8 c8)]) (by simp [results,Tryz.results71,go_sem,q0,q1,q2,q3,q4]) rfl ?_
      rw [HRL.out]
      have hr2:=HKr9.out.2
      have hpg:=HP.out
      exact ⟨_,_,_,rfl,zbu HL9.out (fun b h=>by have:=HNE.out;omega) (fun b h=>by have:=HNE.out;omega) hf.2,rfl,HP9.out.sole_but (by omega) (by omega) hf.2,hf.1⟩
   · by_cases he2:t.text=za6
     · have hx1:(t.text==[101,110,117,109])=false:=by simpa [zcj] using he1
       have hx2:(t.text==[115,116,114,117,99,116])=true:=by rw [he2];rfl
       have HR2:Hid (R=(fieldsP (zbz n false) (PSof ts i full)).bind fun l s=>.ok (.node 6 nm.text 0 nm.at_ l) s):=by show _=_;rw [HR1.out,if_neg he1,if_pos he2]
       clear he1 he2
       have HML:Hid (Calls Tryz.prog 115 #[.pointer (some ⟨p,0,none⟩)] wt2 (zao p g cap ts (d+1) (zci wt2.heap.size) (fieldsP (zbz n false) (PSof ts i full)) wt2)):=HK115.out i full wt2 HPt.out (HBA.out.sole HSt.out)
       obtain ⟨rl,hrl⟩:∃ r,fieldsP (zbz n false) (PSof ts i full)=r:=⟨_,rfl⟩
       have HRL:Hid (R=rl.bind fun l s=>.ok (.node 6 nm.text 0 nm.at_ l) s):=by
        show _=_
        rw [HR2.out,<- hrl]
       rw [hrl] at HML
       clear hrl
       go_wp2_with fail
       refine HML.out.mono ?_
       cases rl with
       | no why at_ =>
        rintro e w99 ⟨rfl,hS⟩
        have HS99:=hid (HSt.out.trans hS)
        clear hS
        go_wp2
        refine ⟨rfl,?_⟩
        rw [HRL.out]
        exact ⟨rfl,HS99.out⟩
       | ok l st =>
        rintro e w7 ⟨v,i,full,rfl,hL,rfl,hP,hS⟩
        obtain ⟨o8,l8,c8,rfl⟩:=hL.shape
        have hp:=HP.out
        have hlb:=HKlt.out.2
        have hlbt:=HKlt.out.lt
        have hrbl:=HNE.out
        have c27:=hP.c2
        have f27:=hP.f2
        have hne1:¬ w3.heap.size=p:=by omega
        have hne2:¬ p=w3.heap.size:=by omega
        have hne3:¬ w.heap.size=w3.heap.size:=by omega
        have hne4:¬ w3.heap.size=w.heap.size:=by omega
        have hne5:¬ w.heap.size=p:=by omega
        have hne6:¬ p=w.heap.size:=by omega
        have kl7:Kep w w7 w3.heap.size (kidO 0 nm.text 0 nm.at_ (.slice none 0 0)):=HKlt.out.sole hp.1 hS
        have kr7:Kep w w7 w.heap.size (kidO 0 [] 0 0 (.slice none 0 0)):=HKrt.out.sole hp.1 hS
        obtain ⟨⟨l0,l1,l2,l3,l4⟩,⟨f0,f1,f2,f3,f4⟩⟩:=zac kl7.1
        have hz:∀ b,b≠w3.heap.size->((w7.setCell ⟨w3.heap.size,0,none⟩ (.int .i64 6)).setCell ⟨w3.heap.size,4,none⟩ (.slice o8 l8 c8)).heap[b]?=w7.heap[b]?:=fun b hb=>(Below.heap_setCell _ _ _ _ hb).trans (Below.heap_setCell _ _ _ _ hb)
        have HS9:Hid (Sole p w (((w7.setCell ⟨w3.heap.size,0,none⟩ (.int .i64 6)).setCell ⟨w3.heap.size,4,none⟩ (.slice o8 l8 c8)).setCell ⟨p,2,none⟩ (.int .i64 d))):=Sole.setp (((HSt.out.trans hS).below_after ((Below.refl _ _).setCell hlb _)).below_after ((Below.refl _ _).setCell hlb _))
        have HP9:=hid ((hP.sole_but (by omega) (by omega) hz).depth d)
        have HKr9:Hid (Kep w (((w7.setCell ⟨w3.heap.size,0,none⟩ (.int .i64 6)).setCell ⟨w3.heap.size,4,none⟩ (.slice o8 l8 c8)).setCell ⟨p,2,none⟩ (.int .i64 d)) w.heap.size (kidO 0 [] 0 0 (.slice none 0 0))):=(kr7.but hz (by omega)).setp hp.1
        have HKl9:Hid (Kep w (((w7.setCell ⟨w3.heap.size,0,none⟩ (.int .i64 6)).setCell ⟨w3.heap.size,4,none⟩ (.slice o8 l8 c8)).setCell ⟨p,2,none⟩ (.int .i64 d)) w3.heap.size (kidO 6 nm.text 0 nm.at_ (.slice o8 l8 c8))):=Kep.setp ⟨zav (zav kl7.1),hlb⟩ hp.1
        have HL9:Hid (zaf (fun b=>w3.heap.size<b) (((w7.setCell ⟨w3.heap.size,0,none⟩ (.int .i64 6)).setCell ⟨w3.heap.size,4,none⟩ (.slice o8 l8 c8)).setCell ⟨p,2,none⟩ (.int .i64 d)) l (.slice o8 l8 c8)):=by
         have h1:zaf (fun b=>w3.heap.size<b) w7 l (.slice o8 l8 c8):=zaf.weaken hL (fun b h=>by have h2:wt2.heap.size<=b:=h;omega)
         exact zaf.but (r:=p) (zaf.but h1 (fun b h=>by omega) hz) (fun b h=>by omega) (fun b hb=>Below.heap_setCell _ _ _ _ hb)
        obtain ⟨⟨r0,r1,r2,r3,r4⟩,⟨y0,y1,y2,y3,y4⟩⟩:=zac kr7.1
        clear hP hS hL hp hlb hlbt hrbl kl7 kr7 hz
        go_wp2
        generalize ((w7.setCell ⟨w3.heap.size,0,none⟩ (.int .i64 6)).setCell ⟨w3.heap.size,4,none⟩ (.slice o8 l8 c8)).setCell ⟨p,2,none⟩ (.int .i64 d)=w9 at HS9 HP9 HKr9 HKl9 HL9 ⊢
        obtain ⟨⟨z0,z1,z2,z3,z4⟩,_⟩:=zac HKr9.out.1
        have q:=res5 w9 w.heap.size (.int .i64 6) (.string ⟨nm.text.toArray⟩) (.int .i64 0) (.int .i64 nm.at_) (.slice o8 l8 c8) z0 z1 z2 z3 z4
        have hf:=fin5 (r:=w.heap.size) (w9:=w9) (k:=6) (n:=nm.text) (m:=0) (a:=nm.at_) (sl:=(.slice o8 l8 c8)) HKr9.out.2 HS9.out _ rfl
        generalize ((((w9.setCell ⟨w.heap.size,0,none⟩ (.int .i64 6)).setCell ⟨w.heap.size,1,none⟩ (.string ⟨nm.text.toArray⟩)).setCell ⟨w.heap.size,2,none⟩ (.int .i64 0)).setCell ⟨w.heap.size,3,none⟩ (.int .i64 nm.at_)).setCell ⟨w.heap.size,4,none⟩ (.slice o8 l8 c8)=wz at q hf ⊢
        obtain ⟨q0,q1,q2,q3,q4⟩:=q
        refine bodyPost_ret (v:=.agg #[.int .i64 6,.string ⟨nm.text.toArray⟩,.int .i64 0,.int .i64 nm.at_,(.slice o8 l8 c8)]) (by simp [results,Tryz.results71,go_sem,q0,q1,q2,q3,q4]) rfl ?_
        rw [HRL.out]
        have hr2:=HKr9.out.2
        have hpg:=HP.out
        exact ⟨_,_,_,rfl,zbu HL9.out (fun b h=>by have:=HNE.out;omega) (fun b h=>by have:=HNE.out;omega) hf.2,rfl,HP9.out.sole_but (by omega) (by omega) hf.2,hf.1⟩
     · have hx1:(t.text==[101,110,117,109])=false:=by simpa [zcj] using he1
       have hx2:(t.text==[115,116,114,117,99,116])=false:=by simpa [za6] using he2
       have HR2:Hid (R=(choiceP (zbz n false) (PSof ts i full)).bind fun l s=>.ok (.node 7 nm.text 0 nm.at_ l) s):=by show _=_;rw [HR1.out,if_neg he1,if_neg he2]
       clear he1 he2
       have HML:Hid (Calls Tryz.prog 116 #[.pointer (some ⟨p,0,none⟩)] wt2 (zao p g cap ts (d+1) (zci wt2.heap.size) (choiceP (zbz n false) (PSof ts i full)) wt2)):=HK116.out i full wt2 HPt.out (HBA.out.sole HSt.out)
       obtain ⟨rl,hrl⟩:∃ r,choiceP (zbz n false) (PSof ts i full)=r:=⟨_,rfl⟩
       have HRL:Hid (R=rl.bind fun l s=>.ok (.node 7 nm.text 0 nm.at_ l) s):=by
        show _=_
        rw [HR2.out,<- hrl]
       rw [hrl] at HML
       clear hrl
       go_wp2_with fail
       refine HML.out.mono ?_
       cases rl with
       | no why at_ =>
        rintro e w99 ⟨rfl,hS⟩
        have HS99:=hid (HSt.out.trans hS)
        clear hS
        go_wp2
        refine ⟨rfl,?_⟩
        rw [HRL.out]
        exact ⟨rfl,HS99.out⟩
       | ok l st =>
        rintro e w7 ⟨v,i,full,rfl,hL,rfl,hP,hS⟩
        obtain ⟨o8,l8,c8,rfl⟩:=hL.shape
        have hp:=HP.out
        have hlb:=HKlt.out.2
        have hlbt:=HKlt.out.lt
        have hrbl:=HNE.out
        have c27:=hP.c2
        have f27:=hP.f2
        have hne1:¬ w3.heap.size=p:=by omega
        have hne2:¬ p=w3.heap.size:=by omega
        have hne3:¬ w.heap.size=w3.heap.size:=by omega
        have hne4:¬ w3.heap.size=w.heap.size:=by omega
        have hne5:¬ w.heap.size=p:=by omega
        have hne6:¬ p=w.heap.size:=by omega
        have kl7:Kep w w7 w3.heap.size (kidO 0 nm.text 0 nm.at_ (.slice none 0 0)):=HKlt.out.sole hp.1 hS
        have kr7:Kep w w7 w.heap.size (kidO 0 [] 0 0 (.slice none 0 0)):=HKrt.out.sole hp.1 hS
        obtain ⟨⟨l0,l1,l2,l3,l4⟩,⟨f0,f1,f2,f3,f4⟩⟩:=zac kl7.1
        have hz:∀ b,b≠w3.heap.size->((w7.setCell ⟨w3.heap.size,0,none⟩ (.int .i64 7)).setCell ⟨w3.heap.size,4,none⟩ (.slice o8 l8 c8)).heap[b]?=w7.heap[b]?:=fun b hb=>(Below.heap_setCell _ _ _ _ hb).trans (Below.heap_setCell _ _ _ _ hb)
        have HS9:Hid (Sole p w (((w7.setCell ⟨w3.heap.size,0,none⟩ (.int .i64 7)).setCell ⟨w3.heap.size,4,none⟩ (.slice o8 l8 c8)).setCell ⟨p,2,none⟩ (.int .i64 d))):=Sole.setp (((HSt.out.trans hS).below_after ((Below.refl _ _).setCell hlb _)).below_after ((Below.refl _ _).setCell hlb _))
        have HP9:=hid ((hP.sole_but (by omega) (by omega) hz).depth d)
        have HKr9:Hid (Kep w (((w7.setCell ⟨w3.heap.size,0,none⟩ (.int .i64 7)).setCell ⟨w3.heap.size,4,none⟩ (.slice o8 l8 c8)).setCell ⟨p,2,none⟩ (.int .i64 d)) w.heap.size (kidO 0 [] 0 0 (.slice none 0 0))):=(kr7.but hz (by omega)).setp hp.1
        have HKl9:Hid (Kep w (((w7.setCell ⟨w3.heap.size,0,none⟩ (.int .i64 7)).setCell ⟨w3.heap.size,4,none⟩ (.slice o8 l8 c8)).setCell ⟨p,2,none⟩ (.int .i64 d)) w3.heap.size (kidO 7 nm.text 0 nm.at_ (.slice o8 l8 c8))):=Kep.setp ⟨zav (zav kl7.1),hlb⟩ hp.1
        have HL9:Hid (zaf (fun b=>w3.heap.size<b) (((w7.setCell ⟨w3.heap.size,0,none⟩ (.int .i64 7)).setCell ⟨w3.heap.size,4,none⟩ (.slice o8 l8 c8)).setCell ⟨p,2,none⟩ (.int .i64 d)) l (.slice o8 l8 c8)):=by
         have h1:zaf (fun b=>w3.heap.size<b) w7 l (.slice o8 l8 c8):=zaf.weaken hL (fun b h=>by have h2:wt2.heap.size<=b:=h;omega)
         exact zaf.but (r:=p) (zaf.but h1 (fun b h=>by omega) hz) (fun b h=>by omega) (fun b hb=>Below.heap_setCell _ _ _ _ hb)
        obtain ⟨⟨r0,r1,r2,r3,r4⟩,⟨y0,y1,y2,y3,y4⟩⟩:=zac kr7.1
        clear hP hS hL hp hlb hlbt hrbl kl7 kr7 hz
        go_wp2
        generalize ((w7.setCell ⟨w3.heap.size,0,none⟩ (.int .i64 7)).setCell ⟨w3.heap.size,4,none⟩ (.slice o8 l8 c8)).setCell ⟨p,2,none⟩ (.int .i64 d)=w9 at HS9 HP9 HKr9 HKl9 HL9 ⊢
        obtain ⟨⟨z0,z1,z2,z3,z4⟩,_⟩:=zac HKr9.out.1
        have q:=res5 w9 w.heap.size (.int .i64 7) (.string ⟨nm.text.toArray⟩) (.int .i64 0) (.int .i64 nm.at_) (.slice o8 l8 c8) z0 z1 z2 z3 z4
        have hf:=fin5 (r:=w.heap.size) (w9:=w9) (k:=7) (n:=nm.text) (m:=0) (a:=nm.at_) (sl:=(.slice o8 l8 c8)) HKr9.out.2 HS9.out _ rfl
        generalize ((((w9.setCell ⟨w.heap.size,0,none⟩ (.int .i64 7)).setCell ⟨w.heap.size,1,none⟩ (.string ⟨nm.text.toArray⟩)).setCell ⟨w.heap.size,2,none⟩ (.int .i64 0)).setCell ⟨w.heap.size,3,none⟩ (.int .i64 nm.at_)).setCell ⟨w.heap.size,4,none⟩ (.slice o8 l8 c8)=wz at q hf ⊢
        obtain ⟨q0,q1,q2,q3,q4⟩:=q
        refine bodyPost_ret (v:=.agg #[.int .i64 7,.string ⟨nm.text.toArray⟩,.int .i64 0,.int .i64 nm.at_,(.slice o8 l8 c8)]) (by simp [results,Tryz.results71,go_sem,q0,q1,q2,q3,q4]) rfl ?_
        rw [HRL.out]
        have hr2:=HKr9.out.2
        have hpg:=HP.out
        exact ⟨_,_,_,rfl,zbu HL9.out (fun b h=>by have:=HNE.out;omega) (fun b h=>by have:=HNE.out;omega) hf.2,rfl,HP9.out.sole_but (by omega) (by omega) hf.2,hf.1⟩
set_option maxRecDepth 4000 in
theorem body_zero (p g cap:Nat) (ts:List Tok) (b:Bool) (i:Nat) (full:Bool) (w:World) (h:PP w p g cap ts i 8 full) :
 Calls Tryz.prog 71 #[.pointer (some ⟨p,0,none⟩),.bool b] w (zao p g cap ts 8 (zal w.heap.size) (zbz 0 b (PSof ts i full)) w):=by
 obtain ⟨wa,hwa⟩:∃ x,w.alloc (.cells #[.int .i64 0,.string ⟨#[]⟩,.int .i64 0,.int .i64 0,.slice none 0 0] 29)=x:=⟨_,rfl⟩
 have b1:Below w.heap.size w wa:=by rw [<- hwa];exact zad _ _
 have hpa:=h.below b1
 have c2:=hpa.c2
 have HR:Hid (zbz 0 b (PSof ts i full)=.no 41 (ts[i]'h.il).at_):=by
  show PS.bad _ _=_
  unfold PS.bad
  rw [zb8 ts i full h.il]
 have HWR:Hid (Calls Tryz.prog 74 #[.pointer (some ⟨p,0,none⟩),.int .i64 41] wa fun e w'=>e=.returned (.agg #[.int .i64 41,.int .i64 ((ts[i]'h.il).at_:Nat)])∧Below wa.heap.size wa w'):=zc6 p g cap ts i 8 41 full wa hpa
 have HB1:=hid b1
 rw [HR.out]
 clear hpa b1 HR
 go_enter Tryz.func71,Tryz.ntmps71
 go_wp2_with fail
 refine HWR.out.mono ?_
 rintro e w2 ⟨rfl,hB⟩
 have HB2:=hid (HB1.out.trans (hB.mono HB1.out.size))
 clear hB
 go_wp2
 exact ⟨rfl,rfl,Sole.of_below HB2.out⟩
def BodyAll (p g cap:Nat) (ts:List Tok) (d:Int) (n:Nat):Prop :=
 ∀ b i full w,i+1<ts.length->PP w p g cap ts i d full->zb3 p w->Calls Tryz.prog 71 #[.pointer (some ⟨p,0,none⟩),.bool b] w (zao p g cap ts d (zal w.heap.size) (zbz n b (PSof ts i full)) w)
structure Tower (p g cap:Nat) (ts:List Tok) (d:Int) (n:Nat):Prop where
 something:zdp p g cap ts d 70 (zbf (zbz n false))
 declaration:zdp p g cap ts d 146 (za3 (zbz n false))
 field:zdp p g cap ts d 145 (zbi (zbz n false))
 fields:zhc p g cap ts d 115 (fieldsP (zbz n false))
 choice:zhc p g cap ts d 116 (choiceP (zbz n false))
theorem tower_of (p g cap:Nat) (ts:List Tok) (hE:Ends ts) (d:Int) (n:Nat) (hB:BodyAll p g cap ts d n):Tower p g cap ts d n:=by
 have hb:KeepsB p g cap ts d (zbz n false):=fun i full w hi h hba=>hB false i full w hi h hba
 have h1:=zn3 p g cap ts hE d (zbz n false) (written_any p g cap ts hE d (zbz n false) hb (zh3 p g cap ts hE d))
 have h2:=zmc p g cap ts hE d (zbz n false) h1
 have h3:=field_any p g cap ts hE d (zbz n false) h2
 exact ⟨h1,h2,h3,zhz p g cap ts hE d (zbz n false) h3 (zgt n false),zh1 p g cap ts hE d (zbz n false) h2 h3 (arm_any p g cap ts hE d (zbz n false) h3)⟩
theorem body_all (p g cap:Nat) (ts:List Tok) (hE:Ends ts):∀ n:Nat,n<=8->BodyAll p g cap ts (8 - n) n
 | 0=>fun _ b i full w _ h _=>body_zero p g cap ts b i full w h
 | n+1=>fun hn=>by
  have ht:=tower_of p g cap ts hE (8 - n) n (body_all p g cap ts hE n (by omega))
  have hd:((8:Int) - (n+1:Nat))+1=8 - n:=by omega
  intro b i full w hi h hba
  cases b
  · exact body_false p g cap ts hE _ (by omega) (by omega) n (by rw [hd];exact zfw p g cap ts hE _) (by rw [hd];exact ht.fields) (by rw [hd];exact ht.choice) i full w hi h hba
  · exact body_true p g cap ts hE _ (by omega) (by omega) n (by rw [hd];exact zfw p g cap ts hE _) (by rw [hd];exact ht.fields) (by rw [hd];exact ht.choice) i full w hi h hba
theorem zk2 (p g cap:Nat) (ts:List Tok) (hE:Ends ts):BodyAll p g cap ts 0 8:=body_all p g cap ts hE 8 (by omega)
theorem tower_top (p g cap:Nat) (ts:List Tok) (hE:Ends ts):Tower p g cap ts 0 8:=tower_of p g cap ts hE 0 8 (zk2 p g cap ts hE)
end Go.Proofs.YtodfklpmbclgkaaGreatDoor
