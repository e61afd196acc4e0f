import Derived.Test.YtighggeokiahfaaGreatDoorNear05
namespace Go.Proofs.YtighggeokiahfaaGreatDoor
open Go.RowKit
theorem bld3 (a:Int) (w:World):(Instr.build 29 #[(3,.int .i64 a)]).run Tryz.prog w=.ok (.agg #[.int .i64 0,.string ⟨#[]⟩,.int .i64 0,.int .i64 a,.slice none 0 0]) w:=by kernel_rfl
theorem PP.depth {w:World} {p g cap:Nat} {ts:List Tok} {i:Nat} {d:Int} {full:Bool} (h:PP w p g cap ts i d full) (d' : Int):PP (w.setCell ⟨p,2,none⟩ (.int .i64 d')) p g cap ts i d' full:=by
 have ho:∀ o,(w.setCell ⟨p,2,none⟩ (.int .i64 d')).cell? ⟨g,o,none⟩=w.cell? ⟨g,o,none⟩:=fun o=>World.cell?_setCell_other _ _ _ _ (by simp;intro e;exact absurd e.symm h.gp)
 refine ⟨?_,?_,World.cell?_setCell_same _ _ _ h.c2,?_,?_,?_,?_,fun k hk=>(ho _).trans (h.t0 k hk),fun k hk=>(ho _).trans (h.t1 k hk),fun k hk=>(ho _).trans (h.t2 k hk),fun k hk=>(ho _).trans (h.t3 k hk),h.il,h.ln,h.gp⟩
 · rw [World.cell?_setCell_other _ _ _ _ (by simp)];exact h.c0
 · rw [World.cell?_setCell_other _ _ _ _ (by simp)];exact h.c1
 · rw [World.cell?_setCell_other _ _ _ _ (by simp)];exact h.c3
 · rw [World.frozen?_setCell];exact h.f1
 · rw [World.frozen?_setCell];exact h.f2
 · rw [World.frozen?_setCell];exact h.f3
theorem Kep.setp {w cur:World} {b:Nat} {o:Obj} (h:Kep w cur b o) {p k:Nat} {v:Value} (hp:p<w.heap.size):Kep w (cur.setCell ⟨p,k,none⟩ v) b o:=⟨(Below.heap_setCell _ _ _ _ (show b≠p by have:=h.2;omega)).trans h.1,h.2⟩
theorem zbo.setp {p:Nat} {w:World} (h:zbo p w) {k:Nat} {v:Value} : zbo p (w.setCell ⟨p,k,none⟩ v):=h.block (Below.heap_setCell _ _ _ _ (Ne.symm h.1))
theorem Sole.setp {p:Nat} {w cur:World} (h:Sole p w cur) {k:Nat} {v:Value} : Sole p w (cur.setCell ⟨p,k,none⟩ v):=h.trans (Sole.setCell cur k v)
set_option maxHeartbeats 4000000 in
set_option maxRecDepth 4000 in
theorem body_false (p g cap:Nat) (ts:List Tok) (hE:Ends ts) (d:Int) (hd0:0<=d) (hd7:d<=7) (n:Nat) (hM:zg8 p g cap ts (d+1) 114 zcg) (hFs:zg8 p g cap ts (d+1) 115 (zda (zbi n false))) (hC:zg8 p g cap ts (d+1) 116 (zcw (zbi n false))) (i:Nat) (full:Bool) (w:World) (hi:i+1<ts.length) (h:PP w p g cap ts i d full) (hba:zbo p w) :
 Calls Tryz.prog 71 #[.pointer (some ⟨p,0,none⟩),.bool false] w (zam p g cap ts d (zah w.heap.size) (zbi (n+1) false (PSof ts i full)) w):=by
 have HP:=hid2 h.plt h.glt
 have HE:=hid hE
 have Au:=hid hba
 have An:=hid hM
 have Ao:=hid hFs
 have Ap:=hid hC
 obtain ⟨R,hR⟩:∃ R,zbi (n+1) false (PSof ts i full)=R:=⟨_,rfl⟩
 rw [hR]
 obtain ⟨wa,hwa⟩:∃ x,w.alloc (.cells #[.int .i64 0,.string ⟨#[]⟩,.int .i64 0,.int .i64 0,.slice none 0 0] 29)=x:=⟨_,rfl⟩
 have b1:Below w.heap.size w wa:=by rw [<- hwa];exact zac _ _
 have ka:Kep w wa w.heap.size (kidO 0 [] 0 0 (.slice none 0 0)):=by rw [<- hwa];exact Kep.new (Nat.le_refl _) _
 have hpa:=h.below b1
 have c2:=hpa.c2
 have g2:=hpa.f2
 have hd8:(d==8)=false:=by simp;omega
 obtain ⟨wd,hwd⟩:∃ x,wa.setCell ⟨p,2,none⟩ (.int .i64 (d+1))=x:=⟨_,rfl⟩
 have Bd:Hid (PP wd p g cap ts i (d+1) full):=by show PP wd _ _ _ _ _ _ _;rw [<- hwd];exact hpa.depth _
 have Ay:Hid (Sole p w wd):=by show Sole p w wd;rw [<- hwd];exact (Sole.of_below b1).setp
 have Az:Hid (Kep w wd w.heap.size (kidO 0 [] 0 0 (.slice none 0 0))):=by show Kep w wd _ _;rw [<- hwd];exact ka.setp h.plt
 have Ba:Hid (Calls Tryz.prog 69 #[.pointer (some ⟨p,0,none⟩)] wd (zam p g cap ts (d+1) zfk (PSof ts i full).take wd)):=zdm p g cap ts i (d+1) full wd Bd.out hi
 obtain ⟨rt,hrt⟩:∃ r,(PSof ts i full).take=r:=⟨_,rfl⟩
 have Bb:Hid (R=rt.bind fun word s=>(if false=true then (zcr s).bind fun n s=>.ok (n.text,n.at_) s else .ok ([],word.at_) s).bind fun na s=>if word.text=zd6 then (zcg s).bind fun l s=>.ok (.node 4 na.1 0 na.2 l) s else if word.text=zbm then (zda (zbi n false) s).bind fun l s=>.ok (.node 6 na.1 0 na.2 l) s else (zcw (zbi n false) s).bind fun l s=>.ok (.node 7 na.1 0 na.2 l) s):=by
  show _=_
  rw [<- hR,<- hrt];rfl
 rw [hrt] at Ba
 clear h hba hE hM hFs hC hR b1 ka hpa hi hrt
 go_enter Tryz.func71,Tryz.ntmps71
 go_wp2_with fail
 clear hwa hwd c2 g2 hd8
 refine Ba.out.mono ?_
 cases rt with
 | no why at_ =>
  rintro e w99 ⟨rfl,hS⟩
  have Ac:=hid (Ay.out.trans hS)
  clear hS
  go_wp2
  refine ⟨rfl,?_⟩
  rw [Bb.out]
  exact ⟨rfl,Ac.out⟩
 | ok t st =>
  rintro e w2 ⟨v,i,full,rfl,rfl,rfl,hP,hS⟩
  obtain ⟨w3,hw3⟩:∃ x,w2.alloc (.cells #[.int .i64 t.kind,.string ⟨t.text.toArray⟩,.int .i64 t.num,.int .i64 t.at_] 41)=x:=⟨_,rfl⟩
  have hs2:Sole p w w2:=Ay.out.trans hS
  have hp:=HP.out
  have Be:Hid (PP w3 p g cap ts i (d+1) full):=by show PP w3 _ _ _ _ _ _ _;rw [<- hw3];exact hP.alloc _
  have Bc:Hid (Sole p w w3):=by show Sole p w w3;rw [<- hw3];exact hs2.alloc _
  have Av:Hid (Kep w w3 w.heap.size (kidO 0 [] 0 0 (.slice none 0 0))):=by show Kep w w3 _ _;rw [<- hw3];exact (Az.out.sole hp.1 hS).alloc _
  have Am:Hid (Kep w w3 w2.heap.size (tokO t)):=by show Kep w w3 _ _;rw [<- hw3];exact Kep.new hs2.size _
  obtain ⟨t0,t1,t2,t3⟩:=zbq Am.out.1
  have Bf:Hid (w.heap.size<w2.heap.size∧w2.heap.size<w3.heap.size):=⟨(Az.out.sole hp.1 hS).lt,by rw [<- hw3];simp⟩
  have qb:=bld3 t.at_
  clear hP hS hp hs2
  unfold tokV
  have Aw:Hid (R=if t.text=zd6 then (zcg (PSof ts i full)).bind fun l s=>.ok (.node 4 [] 0 t.at_ l) s else if t.text=zbm then (zda (zbi n false) (PSof ts i full)).bind fun l s=>.ok (.node 6 [] 0 t.at_ l) s else (zcw (zbi n false) (PSof ts i full)).bind fun l s=>.ok (.node 7 [] 0 t.at_ l) s):=Bb.out
  have Ax:Hid (∀ wt,w3.alloc (.cells #[.int .i64 0,.string ⟨#[]⟩,.int .i64 0,.int .i64 t.at_,.slice none 0 0] 29)=wt->PP wt p g cap ts i (d+1) full∧Sole p w wt∧Kep w wt w.heap.size (kidO 0 [] 0 0 (.slice none 0 0))∧Kep w wt w2.heap.size (tokO t)∧Kep w wt w3.heap.size (kidO 0 [] 0 t.at_ (.slice none 0 0))):=fun wt e=>by
   subst e
   exact ⟨Be.out.alloc _,Bc.out.alloc _,Av.out.alloc _,Am.out.alloc _,Kep.new Bc.out.size _⟩
  have Ag:Hid (w.heap.size<w3.heap.size):=by show _<_;have:=Bf.out;omega
  have tt1:∀ x,(w3.alloc x).cell? ⟨w2.heap.size,1,none⟩=some (.string ⟨t.text.toArray⟩):=fun x=>(zbq (Am.out.alloc x).1).2.1
  by_cases he1:t.text=zd6
  · have hx1:(t.text==[101,110,117,109])=true:=by rw [he1];rfl
    have Aq:Hid (R=(zcg (PSof ts i full)).bind fun l s=>.ok (.node 4 [] 0 t.at_ l) s):=by show _=_;rw [Aw.out,if_pos he1]
    clear he1
    go_wp2_with fail
    clear hw3
    obtain ⟨wt,hwt⟩:∃ x,w3.alloc (.cells #[.int .i64 0,.string ⟨#[]⟩,.int .i64 0,.int .i64 t.at_,.slice none 0 0] 29)=x:=⟨_,rfl⟩
    rw [hwt]
    obtain ⟨hh1,hh2,hh3,hh4,hh5⟩:=Ax.out wt hwt
    have Ar:=hid hh1
    have Ad:=hid hh2
    have Ae:=hid hh3
    have Ab:=hid hh5
    clear hh1 hh2 hh3 hh4 hh5 hwt
    have Ah:Hid (Calls Tryz.prog 114 #[.pointer (some ⟨p,0,none⟩)] wt (zam p g cap ts (d+1) (zbg wt.heap.size) (zcg (PSof ts i full)) wt)):=An.out i full wt Ar.out (Au.out.sole Ad.out)
    obtain ⟨rl,hrl⟩:∃ r,zcg (PSof ts i full)=r:=⟨_,rfl⟩
    have Ai:Hid (R=rl.bind fun l s=>.ok (.node 4 [] 0 t.at_ l) s):=by
     show _=_
     rw [Aq.out,<- hrl]
    rw [hrl] at Ah
    clear hrl
    refine Ah.out.mono ?_
    cases rl with
    | no why at_ =>
     rintro e w99 ⟨rfl,hS⟩
     have Ac:=hid (Ad.out.trans hS)
     clear hS
     go_wp2
     refine ⟨rfl,?_⟩
     rw [Ai.out]
     exact ⟨rfl,Ac.out⟩
    | ok l st =>
     rintro e w7 ⟨v,i,full,rfl,hL,rfl,hP,hS⟩
     obtain ⟨o8,l8,c8,rfl⟩:=hL.shape
     have hp:=HP.out
     have hlb:=Ab.out.2
     have hlbt:=Ab.out.lt
     have hrbl:=Ag.out
     have c27:=hP.c2
     have f27:=hP.f2
     have hne1:¬ w3.heap.size=p:=by omega
     have hne2:¬ p=w3.heap.size:=by omega
     have hne3:¬ w.heap.size=w3.heap.size:=by omega
     have hne4:¬ w3.heap.size=w.heap.size:=by omega
     have hne5:¬ w.heap.size=p:=by omega
     have hne6:¬ p=w.heap.size:=by omega
     have kl7:Kep w w7 w3.heap.size (kidO 0 [] 0 t.at_ (.slice none 0 0)):=Ab.out.sole hp.1 hS
     have kr7:Kep w w7 w.heap.size (kidO 0 [] 0 0 (.slice none 0 0)):=Ae.out.sole hp.1 hS
     obtain ⟨⟨l0,l1,l2,l3,l4⟩,⟨f0,f1,f2,f3,f4⟩⟩:=zaa kl7.1
     have hz:∀ b,b≠w3.heap.size->((w7.setCell ⟨w3.heap.size,0,none⟩ (.int .i64 4)).setCell ⟨w3.heap.size,4,none⟩ (.slice o8 l8 c8)).heap[b]?=w7.heap[b]?:=fun b hb=>(Below.heap_setCell _ _ _ _ hb).trans (Below.heap_setCell _ _ _ _ hb)
     have Aj:Hid (Sole p w (((w7.setCell ⟨w3.heap.size,0,none⟩ (.int .i64 4)).setCell ⟨w3.heap.size,4,none⟩ (.slice o8 l8 c8)).setCell ⟨p,2,none⟩ (.int .i64 d))):=Sole.setp (((Ad.out.trans hS).below_after ((Below.refl _ _).setCell hlb _)).below_after ((Below.refl _ _).setCell hlb _))
     have Ak:=hid ((hP.sole_but (by omega) (by omega) hz).depth d)
     have Aa:Hid (Kep w (((w7.setCell ⟨w3.heap.size,0,none⟩ (.int .i64 4)).setCell ⟨w3.heap.size,4,none⟩ (.slice o8 l8 c8)).setCell ⟨p,2,none⟩ (.int .i64 d)) w.heap.size (kidO 0 [] 0 0 (.slice none 0 0))):=(kr7.but hz (by omega)).setp hp.1
     have Af:Hid (Kep w (((w7.setCell ⟨w3.heap.size,0,none⟩ (.int .i64 4)).setCell ⟨w3.heap.size,4,none⟩ (.slice o8 l8 c8)).setCell ⟨p,2,none⟩ (.int .i64 d)) w3.heap.size (kidO 4 [] 0 t.at_ (.slice o8 l8 c8))):=Kep.setp ⟨zai (zai kl7.1),hlb⟩ hp.1
     have Al:Hid (zab (fun b=>w3.heap.size<b) (((w7.setCell ⟨w3.heap.size,0,none⟩ (.int .i64 4)).setCell ⟨w3.heap.size,4,none⟩ (.slice o8 l8 c8)).setCell ⟨p,2,none⟩ (.int .i64 d)) l (.slice o8 l8 c8)):=by
      have h1:zab (fun b=>w3.heap.size<b) w7 l (.slice o8 l8 c8):=zab.weaken hL (fun b h=>by have h2:wt.heap.size<=b:=h;omega)
      exact zab.but (r:=p) (zab.but h1 (fun b h=>by omega) hz) (fun b h=>by omega) (fun b hb=>Below.heap_setCell _ _ _ _ hb)
     obtain ⟨⟨r0,r1,r2,r3,r4⟩,⟨y0,y1,y2,y3,y4⟩⟩:=zaa kr7.1
     clear hP hS hL hp hlb hlbt hrbl kl7 kr7 hz
     go_wp2
     generalize ((w7.setCell ⟨w3.heap.size,0,none⟩ (.int .i64 4)).setCell ⟨w3.heap.size,4,none⟩ (.slice o8 l8 c8)).setCell ⟨p,2,none⟩ (.int .i64 d)=w9 at Aj Ak Aa Af Al ⊢
     obtain ⟨⟨z0,z1,z2,z3,z4⟩,_⟩:=zaa Aa.out.1
     refine ret5 (n:=[]) z0 z1 z2 z3 z4 rfl (fun u q0 q1 q2 q3 q4=>by simp [results,Tryz.results71,go_sem,q0,q1,q2,q3,q4]) Aa.out.2 Aj.out ?_
     intro wz hf
     rw [Ai.out]
     have hr2:=Aa.out.2
     have hpg:=HP.out
     exact ⟨_,_,_,rfl,za4 Al.out (fun b h=>by have:=Ag.out;omega) (fun b h=>by have:=Ag.out;omega) hf.2,rfl,Ak.out.sole_but (by omega) (by omega) hf.2,hf.1⟩
  · by_cases he2:t.text=zbm
    · have hx1:(t.text==[101,110,117,109])=false:=by simpa [zd6] using he1
      have hx2:(t.text==[115,116,114,117,99,116])=true:=by rw [he2];rfl
      have Aq:Hid (R=(zda (zbi n false) (PSof ts i full)).bind fun l s=>.ok (.node 6 [] 0 t.at_ l) s):=by show _=_;rw [Aw.out,if_neg he1,if_pos he2]
      clear he1 he2
      go_wp2_with fail
      clear hw3
      obtain ⟨wt,hwt⟩:∃ x,w3.alloc (.cells #[.int .i64 0,.string ⟨#[]⟩,.int .i64 0,.int .i64 t.at_,.slice none 0 0] 29)=x:=⟨_,rfl⟩
      rw [hwt]
      obtain ⟨hh1,hh2,hh3,hh4,hh5⟩:=Ax.out wt hwt
      have Ar:=hid hh1
      have Ad:=hid hh2
      have Ae:=hid hh3
      have Ab:=hid hh5
      clear hh1 hh2 hh3 hh4 hh5 hwt
      have Ah:Hid (Calls Tryz.prog 115 #[.pointer (some ⟨p,0,none⟩)] wt (zam p g cap ts (d+1) (zbg wt.heap.size) (zda (zbi n false) (PSof ts i full)) wt)):=Ao.out i full wt Ar.out (Au.out.sole Ad.out)
      obtain ⟨rl,hrl⟩:∃ r,zda (zbi n false) (PSof ts i full)=r:=⟨_,rfl⟩
      have Ai:Hid (R=rl.bind fun l s=>.ok (.node 6 [] 0 t.at_ l) s):=by
       show _=_
       rw [Aq.out,<- hrl]
      rw [hrl] at Ah
      clear hrl
      refine Ah.out.mono ?_
      cases rl with
      | no why at_ =>
       rintro e w99 ⟨rfl,hS⟩
       have Ac:=hid (Ad.out.trans hS)
       clear hS
       go_wp2
       refine ⟨rfl,?_⟩
       rw [Ai.out]
       exact ⟨rfl,Ac.out⟩
      | ok l st =>
       rintro e w7 ⟨v,i,full,rfl,hL,rfl,hP,hS⟩
       obtain ⟨o8,l8,c8,rfl⟩:=hL.shape
       have hp:=HP.out
       have hlb:=Ab.out.2
       have hlbt:=Ab.out.lt
       have hrbl:=Ag.out
       have c27:=hP.c2
       have f27:=hP.f2
       have hne1:¬ w3.heap.size=p:=by omega
       have hne2:¬ p=w3.heap.size:=by omega
       have hne3:¬ w.heap.size=w3.heap.size:=by omega
       have hne4:¬ w3.heap.size=w.heap.size:=by omega
       have hne5:¬ w.heap.size=p:=by omega
       have hne6:¬ p=w.heap.size:=by omega
       have kl7:Kep w w7 w3.heap.size (kidO 0 [] 0 t.at_ (.slice none 0 0)):=Ab.out.sole hp.1 hS
       have kr7:Kep w w7 w.heap.size (kidO 0 [] 0 0 (.slice none 0 0)):=Ae.out.sole hp.1 hS
       obtain ⟨⟨l0,l1,l2,l3,l4⟩,⟨f0,f1,f2,f3,f4⟩⟩:=zaa kl7.1
       have hz:∀ b,b≠w3.heap.size->((w7.setCell ⟨w3.heap.size,0,none⟩ (.int .i64 6)).setCell ⟨w3.heap.size,4,none⟩ (.slice o8 l8 c8)).heap[b]?=w7.heap[b]?:=fun b hb=>(Below.heap_setCell _ _ _ _ hb).trans (Below.heap_setCell _ _ _ _ hb)
       have Aj:Hid (Sole p w (((w7.setCell ⟨w3.heap.size,0,none⟩ (.int .i64 6)).setCell ⟨w3.heap.size,4,none⟩ (.slice o8 l8 c8)).setCell ⟨p,2,none⟩ (.int .i64 d))):=Sole.setp (((Ad.out.trans hS).below_after ((Below.refl _ _).setCell hlb _)).below_after ((Below.refl _ _).setCell hlb _))
       have Ak:=hid ((hP.sole_but (by omega) (by omega) hz).depth d)
       have Aa:Hid (Kep w (((w7.setCell ⟨w3.heap.size,0,none⟩ (.int .i64 6)).setCell ⟨w3.heap.size,4,none⟩ (.slice o8 l8 c8)).setCell ⟨p,2,none⟩ (.int .i64 d)) w.heap.size (kidO 0 [] 0 0 (.slice none 0 0))):=(kr7.but hz (by omega)).setp hp.1
       have Af:Hid (Kep w (((w7.setCell ⟨w3.heap.size,0,none⟩ (.int .i64 6)).setCell ⟨w3.heap.size,4,none⟩ (.slice o8 l8 c8)).setCell ⟨p,2,none⟩ (.int .i64 d)) w3.heap.size (kidO 6 [] 0 t.at_ (.slice o8 l8 c8))):=Kep.setp ⟨zai (zai kl7.1),hlb⟩ hp.1
       have Al:Hid (zab (fun b=>w3.heap.size<b) (((w7.setCell ⟨w3.heap.size,0,none⟩ (.int .i64 6)).setCell ⟨w3.heap.size,4,none⟩ (.slice o8 l8 c8)).setCell ⟨p,2,none⟩ (.int .i64 d)) l (.slice o8 l8 c8)):=by
        have h1:zab (fun b=>w3.heap.size<b) w7 l (.slice o8 l8 c8):=zab.weaken hL (fun b h=>by have h2:wt.heap.size<=b:=h;omega)
        exact zab.but (r:=p) (zab.but h1 (fun b h=>by omega) hz) (fun b h=>by omega) (fun b hb=>Below.heap_setCell _ _ _ _ hb)
       obtain ⟨⟨r0,r1,r2,r3,r4⟩,⟨y0,y1,y2,y3,y4⟩⟩:=zaa kr7.1
       clear hP hS hL hp hlb hlbt hrbl kl7 kr7 hz
       go_wp2
       generalize ((w7.setCell ⟨w3.heap.size,0,none⟩ (.int .i64 6)).setCell ⟨w3.heap.size,4,none⟩ (.slice o8 l8 c8)).setCell ⟨p,2,none⟩ (.int .i64 d)=w9 at Aj Ak Aa Af Al ⊢
       obtain ⟨⟨z0,z1,z2,z3,z4⟩,_⟩:=zaa Aa.out.1
       refine ret5 (n:=[]) z0 z1 z2 z3 z4 rfl (fun u q0 q1 q2 q3 q4=>by simp [results,Tryz.results71,go_sem,q0,q1,q2,q3,q4]) Aa.out.2 Aj.out ?_
       intro wz hf
       rw [Ai.out]
       have hr2:=Aa.out.2
       have hpg:=HP.out
       exact ⟨_,_,_,rfl,za4 Al.out (fun b h=>by have:=Ag.out;omega) (fun b h=>by have:=Ag.out;omega) hf.2,rfl,Ak.out.sole_but (by omega) (by omega) hf.2,hf.1⟩
    · have hx1:(t.text==[101,110,117,109])=false:=by simpa [zd6] using he1
      have hx2:(t.text==[115,116,114,117,99,116])=false:=by simpa [zbm] using he2
      have Aq:Hid (R=(zcw (zbi n false) (PSof ts i full)).bind fun l s=>.ok (.node 7 [] 0 t.at_ l) s):=by show _=_;rw [Aw.out,if_neg he1,if_neg he2]
      clear he1 he2
      go_wp2_with fail
      clear hw3
      obtain ⟨wt,hwt⟩:∃ x,w3.alloc (.cells #[.int .i64 0,.string ⟨#[]⟩,.int .i64 0,.int .i64 t.at_,.slice none 0 0] 29)=x:=⟨_,rfl⟩
      rw [hwt]
      obtain ⟨hh1,hh2,hh3,hh4,hh5⟩:=Ax.out wt hwt
      have Ar:=hid hh1
      have Ad:=hid hh2
      have Ae:=hid hh3
      have Ab:=hid hh5
      clear hh1 hh2 hh3 hh4 hh5 hwt
      have Ah:Hid (Calls Tryz.prog 116 #[.pointer (some ⟨p,0,none⟩)] wt (zam p g cap ts (d+1) (zbg wt.heap.size) (zcw (zbi n false) (PSof ts i full)) wt)):=Ap.out i full wt Ar.out (Au.out.sole Ad.out)
      obtain ⟨rl,hrl⟩:∃ r,zcw (zbi n false) (PSof ts i full)=r:=⟨_,rfl⟩
      have Ai:Hid (R=rl.bind fun l s=>.ok (.node 7 [] 0 t.at_ l) s):=by
       show _=_
       rw [Aq.out,<- hrl]
      rw [hrl] at Ah
      clear hrl
      refine Ah.out.mono ?_
      cases rl with
      | no why at_ =>
       rintro e w99 ⟨rfl,hS⟩
       have Ac:=hid (Ad.out.trans hS)
       clear hS
       go_wp2
       refine ⟨rfl,?_⟩
       rw [Ai.out]
       exact ⟨rfl,Ac.out⟩
      | ok l st =>
       rintro e w7 ⟨v,i,full,rfl,hL,rfl,hP,hS⟩
       obtain ⟨o8,l8,c8,rfl⟩:=hL.shape
       have hp:=HP.out
       have hlb:=Ab.out.2
       have hlbt:=Ab.out.lt
       have hrbl:=Ag.out
       have c27:=hP.c2
       have f27:=hP.f2
       have hne1:¬ w3.heap.size=p:=by omega
       have hne2:¬ p=w3.heap.size:=by omega
       have hne3:¬ w.heap.size=w3.heap.size:=by omega
       have hne4:¬ w3.heap.size=w.heap.size:=by omega
       have hne5:¬ w.heap.size=p:=by omega
       have hne6:¬ p=w.heap.size:=by omega
       have kl7:Kep w w7 w3.heap.size (kidO 0 [] 0 t.at_ (.slice none 0 0)):=Ab.out.sole hp.1 hS
       have kr7:Kep w w7 w.heap.size (kidO 0 [] 0 0 (.slice none 0 0)):=Ae.out.sole hp.1 hS
       obtain ⟨⟨l0,l1,l2,l3,l4⟩,⟨f0,f1,f2,f3,f4⟩⟩:=zaa kl7.1
       have hz:∀ b,b≠w3.heap.size->((w7.setCell ⟨w3.heap.size,0,none⟩ (.int .i64 7)).setCell ⟨w3.heap.size,4,none⟩ (.slice o8 l8 c8)).heap[b]?=w7.heap[b]?:=fun b hb=>(Below.heap_setCell _ _ _ _ hb).trans (Below.heap_setCell _ _ _ _ hb)
       have Aj:Hid (Sole p w (((w7.setCell ⟨w3.heap.size,0,none⟩ (.int .i64 7)).setCell ⟨w3.heap.size,4,none⟩ (.slice o8 l8 c8)).setCell ⟨p,2,none⟩ (.int .i64 d))):=Sole.setp (((Ad.out.trans hS).below_after ((Below.refl _ _).setCell hlb _)).below_after ((Below.refl _ _).setCell hlb _))
       have Ak:=hid ((hP.sole_but (by omega) (by omega) hz).depth d)
       have Aa:Hid (Kep w (((w7.setCell ⟨w3.heap.size,0,none⟩ (.int .i64 7)).setCell ⟨w3.heap.size,4,none⟩ (.slice o8 l8 c8)).setCell ⟨p,2,none⟩ (.int .i64 d)) w.heap.size (kidO 0 [] 0 0 (.slice none 0 0))):=(kr7.but hz (by omega)).setp hp.1
       have Af:Hid (Kep w (((w7.setCell ⟨w3.heap.size,0,none⟩ (.int .i64 7)).setCell ⟨w3.heap.size,4,none⟩ (.slice o8 l8 c8)).setCell ⟨p,2,none⟩ (.int .i64 d)) w3.heap.size (kidO 7 [] 0 t.at_ (.slice o8 l8 c8))):=Kep.setp ⟨zai (zai kl7.1),hlb⟩ hp.1
       have Al:Hid (zab (fun b=>w3.heap.size<b) (((w7.setCell ⟨w3.heap.size,0,none⟩ (.int .i64 7)).setCell ⟨w3.heap.size,4,none⟩ (.slice o8 l8 c8)).setCell ⟨p,2,none⟩ (.int .i64 d)) l (.slice o8 l8 c8)):=by
        have h1:zab (fun b=>w3.heap.size<b) w7 l (.slice o8 l8 c8):=zab.weaken hL (fun b h=>by have h2:wt.heap.size<=b:=h;omega)
        exact zab.but (r:=p) (zab.but h1 (fun b h=>by omega) hz) (fun b h=>by omega) (fun b hb=>Below.heap_setCell _ _ _ _ hb)
       obtain ⟨⟨r0,r1,r2,r3,r4⟩,⟨y0,y1,y2,y3,y4⟩⟩:=zaa kr7.1
       clear hP hS hL hp hlb hlbt hrbl kl7 kr7 hz
       go_wp2
       generalize ((w7.setCell ⟨w3.heap.size,0,none⟩ (.int .i64 7)).setCell ⟨w3.heap.size,4,none⟩ (.slice o8 l8 c8)).setCell ⟨p,2,none⟩ (.int .i64 d)=w9 at Aj Ak Aa Af Al ⊢
       obtain ⟨⟨z0,z1,z2,z3,z4⟩,_⟩:=zaa Aa.out.1
       refine ret5 (n:=[]) z0 z1 z2 z3 z4 rfl (fun u q0 q1 q2 q3 q4=>by simp [results,Tryz.results71,go_sem,q0,q1,q2,q3,q4]) Aa.out.2 Aj.out ?_
       intro wz hf
       rw [Ai.out]
       have hr2:=Aa.out.2
       have hpg:=HP.out
       exact ⟨_,_,_,rfl,za4 Al.out (fun b h=>by have:=Ag.out;omega) (fun b h=>by have:=Ag.out;omega) hf.2,rfl,Ak.out.sole_but (by omega) (by omega) hf.2,hf.1⟩
set_option maxHeartbeats 4000000 in
set_option maxRecDepth 4000 in
theorem body_true (p g cap:Nat) (ts:List Tok) (hE:Ends ts) (d:Int) (hd0:0<=d) (hd7:d<=7) (n:Nat) (hM:zg8 p g cap ts (d+1) 114 zcg) (hFs:zg8 p g cap ts (d+1) 115 (zda (zbi n false))) (hC:zg8 p g cap ts (d+1) 116 (zcw (zbi n false))) (i:Nat) (full:Bool) (w:World) (hi:i+1<ts.length) (h:PP w p g cap ts i d full) (hba:zbo p w) :
 Calls Tryz.prog 71 #[.pointer (some ⟨p,0,none⟩),.bool true] w (zam p g cap ts d (zah w.heap.size) (zbi (n+1) true (PSof ts i full)) w):=by
 have HP:=hid2 h.plt h.glt
 have HE:=hid hE
 have Aw:=hid hba
 have Ao:=hid hM
 have Ap:=hid hFs
 have Aq:=hid hC
 obtain ⟨R,hR⟩:∃ R,zbi (n+1) true (PSof ts i full)=R:=⟨_,rfl⟩
 rw [hR]
 obtain ⟨wa,hwa⟩:∃ x,w.alloc (.cells #[.int .i64 0,.string ⟨#[]⟩,.int .i64 0,.int .i64 0,.slice none 0 0] 29)=x:=⟨_,rfl⟩
 have b1:Below w.heap.size w wa:=by rw [<- hwa];exact zac _ _
 have ka:Kep w wa w.heap.size (kidO 0 [] 0 0 (.slice none 0 0)):=by rw [<- hwa];exact Kep.new (Nat.le_refl _) _
 have hpa:=h.below b1
 have c2:=hpa.c2
 have g2:=hpa.f2
 have hd8:(d==8)=false:=by simp;omega
 obtain ⟨wd,hwd⟩:∃ x,wa.setCell ⟨p,2,none⟩ (.int .i64 (d+1))=x:=⟨_,rfl⟩
 have Bn:Hid (PP wd p g cap ts i (d+1) full):=by show PP wd _ _ _ _ _ _ _;rw [<- hwd];exact hpa.depth _
 have Be:Hid (Sole p w wd):=by show Sole p w wd;rw [<- hwd];exact (Sole.of_below b1).setp
 have Bf:Hid (Kep w wd w.heap.size (kidO 0 [] 0 0 (.slice none 0 0))):=by show Kep w wd _ _;rw [<- hwd];exact ka.setp h.plt
 have Bg:Hid (Calls Tryz.prog 69 #[.pointer (some ⟨p,0,none⟩)] wd (zam p g cap ts (d+1) zfk (PSof ts i full).take wd)):=zdm p g cap ts i (d+1) full wd Bn.out hi
 obtain ⟨rt,hrt⟩:∃ r,(PSof ts i full).take=r:=⟨_,rfl⟩
 have Bh:Hid (R=rt.bind fun word s=>(if true=true then (zcr s).bind fun n s=>.ok (n.text,n.at_) s else .ok ([],word.at_) s).bind fun na s=>if word.text=zd6 then (zcg s).bind fun l s=>.ok (.node 4 na.1 0 na.2 l) s else if word.text=zbm then (zda (zbi n false) s).bind fun l s=>.ok (.node 6 na.1 0 na.2 l) s else (zcw (zbi n false) s).bind fun l s=>.ok (.node 7 na.1 0 na.2 l) s):=by
  show _=_
  rw [<- hR,<- hrt];rfl
 rw [hrt] at Bg
 clear h hba hE hM hFs hC hR b1 ka hpa hi hrt
 go_enter Tryz.func71,Tryz.ntmps71
 go_wp2_with fail
 clear hwa hwd c2 g2 hd8
 refine Bg.out.mono ?_
 cases rt with
 | no why at_ =>
  rintro e w99 ⟨rfl,hS⟩
  have Ac:=hid (Be.out.trans hS)
  clear hS
  go_wp2
  refine ⟨rfl,?_⟩
  rw [Bh.out]
  exact ⟨rfl,Ac.out⟩
 | ok t st =>
  rintro e w2 ⟨v,i,full,rfl,rfl,rfl,hP,hS⟩
  obtain ⟨w3,hw3⟩:∃ x,w2.alloc (.cells #[.int .i64 t.kind,.string ⟨t.text.toArray⟩,.int .i64 t.num,.int .i64 t.at_] 41)=x:=⟨_,rfl⟩
  have hs2:Sole p w w2:=Be.out.trans hS
  have hp:=HP.out
  have Bo:Hid (PP w3 p g cap ts i (d+1) full):=by show PP w3 _ _ _ _ _ _ _;rw [<- hw3];exact hP.alloc _
  have Bi:Hid (Sole p w w3):=by show Sole p w w3;rw [<- hw3];exact hs2.alloc _
  have Ax:Hid (Kep w w3 w.heap.size (kidO 0 [] 0 0 (.slice none 0 0))):=by show Kep w w3 _ _;rw [<- hw3];exact (Bf.out.sole hp.1 hS).alloc _
  have Ar:Hid (Kep w w3 w2.heap.size (tokO t)):=by show Kep w w3 _ _;rw [<- hw3];exact Kep.new hs2.size _
  obtain ⟨t0,t1,t2,t3⟩:=zbq Ar.out.1
  have Bj:Hid (w.heap.size<w2.heap.size∧w2.heap.size<w3.heap.size):=⟨(Bf.out.sole hp.1 hS).lt,by rw [<- hw3];simp⟩
  have qb:=bld3 t.at_
  clear hP hS hp hs2
  unfold tokV
  have HR1' : Hid (R=(zcr (PSof ts i full)).bind fun nm s=>if t.text=zd6 then (zcg s).bind fun l s=>.ok (.node 4 nm.text 0 nm.at_ l) s else if t.text=zbm then (zda (zbi n false) s).bind fun l s=>.ok (.node 6 nm.text 0 nm.at_ l) s else (zcw (zbi n false) s).bind fun l s=>.ok (.node 7 nm.text 0 nm.at_ l) s):=by
   show _=_
   rw [Bh.out]
   show ((zcr (PSof ts i full)).bind _).bind _=_
   rw [zfg]
   rfl
  have Bl:Hid (∀ wt,w3.alloc (.cells #[.int .i64 0,.string ⟨#[]⟩,.int .i64 0,.int .i64 t.at_,.slice none 0 0] 29)=wt->PP wt p g cap ts i (d+1) full∧Sole p w wt∧Kep w wt w.heap.size (kidO 0 [] 0 0 (.slice none 0 0))∧Kep w wt w2.heap.size (tokO t)∧Kep w wt w3.heap.size (kidO 0 [] 0 t.at_ (.slice none 0 0))):=fun wt e=>by
   subst e
   exact ⟨Bo.out.alloc _,Bi.out.alloc _,Ax.out.alloc _,Ar.out.alloc _,Kep.new Bi.out.size _⟩
  have Af:Hid (w.heap.size<w3.heap.size):=by show _<_;have:=Bj.out;omega
  obtain ⟨rn,hrn⟩:∃ r,zcr (PSof ts i full)=r:=⟨_,rfl⟩
  rw [hrn] at HR1'
  have Bp:Hid (∀ wt,PP wt p g cap ts i (d+1) full->Calls Tryz.prog 108 #[.pointer (some ⟨p,0,none⟩)] wt (zam p g cap ts (d+1) zfk rn wt)):=fun wt hx=>by
   rw [<- hrn]
   exact zcm p g cap ts HE.out i (d+1) full wt hx
  clear hrn
  go_wp2_with fail
  clear hw3
  obtain ⟨wt,hwt⟩:∃ x,w3.alloc (.cells #[.int .i64 0,.string ⟨#[]⟩,.int .i64 0,.int .i64 t.at_,.slice none 0 0] 29)=x:=⟨_,rfl⟩
  rw [hwt]
  obtain ⟨hh1,hh2,hh3,hh4,hh5⟩:=Bl.out wt hwt
  have Bm:=hid hh2
  have Ay:=hid hh3
  have Az:=hid hh4
  have Ba:=hid hh5
  refine (Bp.out wt hh1).mono ?_
  clear hh1 hh2 hh3 hh4 hh5 hwt Bl qb t0 t1 t2 t3
  cases rn with
  | no why at_ =>
   rintro e w99 ⟨rfl,hS⟩
   have Ac:=hid (Bm.out.trans hS)
   clear hS
   go_wp2
   refine ⟨rfl,?_⟩
   rw [HR1'.out]
   exact ⟨rfl,Ac.out⟩
  | ok nm st =>
   rintro e w4 ⟨v,i,full,rfl,rfl,rfl,hP,hS⟩
   obtain ⟨w5,hw5⟩:∃ x,w4.alloc (.cells #[.int .i64 nm.kind,.string ⟨nm.text.toArray⟩,.int .i64 nm.num,.int .i64 nm.at_] 41)=x:=⟨_,rfl⟩
   have hp:=HP.out
   have hs4:Sole p w w4:=Bm.out.trans hS
   have Bq:Hid (PP w5 p g cap ts i (d+1) full):=by show PP w5 _ _ _ _ _ _ _;rw [<- hw5];exact hP.alloc _
   have Br:Hid (Sole p w w5):=by show Sole p w w5;rw [<- hw5];exact hs4.alloc _
   have Bb:Hid (Kep w w5 w.heap.size (kidO 0 [] 0 0 (.slice none 0 0))):=by show Kep w w5 _ _;rw [<- hw5];exact (Ay.out.sole hp.1 hS).alloc _
   have Bc:Hid (Kep w w5 w2.heap.size (tokO t)):=by show Kep w w5 _ _;rw [<- hw5];exact (Az.out.sole hp.1 hS).alloc _
   have An:Hid (Kep w w5 w3.heap.size (kidO 0 [] 0 t.at_ (.slice none 0 0))):=by show Kep w w5 _ _;rw [<- hw5];exact (Ba.out.sole hp.1 hS).alloc _
   have Bd:Hid (Kep w w5 w4.heap.size (tokO nm)):=by show Kep w w5 _ _;rw [<- hw5];exact Kep.new hs4.size _
   have Am:Hid (R=if t.text=zd6 then (zcg (PSof ts i full)).bind fun l s=>.ok (.node 4 nm.text 0 nm.at_ l) s else if t.text=zbm then (zda (zbi n false) (PSof ts i full)).bind fun l s=>.ok (.node 6 nm.text 0 nm.at_ l) s else (zcw (zbi n false) (PSof ts i full)).bind fun l s=>.ok (.node 7 nm.text 0 nm.at_ l) s):=HR1'.out
   obtain ⟨t0,t1,t2,t3⟩:=zbq Bd.out.1
   obtain ⟨⟨l0,l1,l2,l3,l4⟩,⟨f0,f1,f2,f3,f4⟩⟩:=zaa An.out.1
   clear hP hS hp hs4
   unfold tokV
   go_wp2_with fail
   clear hw5
   go_region
   have hp:=HP.out
   have hle:=Bj.out
   have hlb:=An.out.2
   have hz:∀ b,b≠w3.heap.size->((w5.setCell ⟨w3.heap.size,1,none⟩ (.string ⟨nm.text.toArray⟩)).setCell ⟨w3.heap.size,3,none⟩ (.int .i64 nm.at_)).drew.heap[b]?=w5.heap[b]?:=fun b hb=>(Below.heap_setCell _ _ _ _ hb).trans (Below.heap_setCell _ _ _ _ hb)
   have Av:=hid (Bq.out.sole_but (by omega) (by omega) hz)
   have Ae:Hid (Sole p w ((w5.setCell ⟨w3.heap.size,1,none⟩ (.string ⟨nm.text.toArray⟩)).setCell ⟨w3.heap.size,3,none⟩ (.int .i64 nm.at_)).drew):=(Br.out.below_after ((Below.refl _ _).setCell hlb _)).below_after (((Below.refl _ _).setCell hlb _).drew)
   have Ag:=hid (Bb.out.but hz (by omega))
   have ktt:Kep w ((w5.setCell ⟨w3.heap.size,1,none⟩ (.string ⟨nm.text.toArray⟩)).setCell ⟨w3.heap.size,3,none⟩ (.int .i64 nm.at_)).drew w2.heap.size (tokO t):=Bc.out.but hz (by omega)
   have Ab:Hid (Kep w ((w5.setCell ⟨w3.heap.size,1,none⟩ (.string ⟨nm.text.toArray⟩)).setCell ⟨w3.heap.size,3,none⟩ (.int .i64 nm.at_)).drew w3.heap.size (kidO 0 nm.text 0 nm.at_ (.slice none 0 0))):=⟨zai (zai An.out.1),hlb⟩
   have tt1:=(zbq ktt.1).2.1
   clear hp hle hlb hz ktt
   generalize ((w5.setCell ⟨w3.heap.size,1,none⟩ (.string ⟨nm.text.toArray⟩)).setCell ⟨w3.heap.size,3,none⟩ (.int .i64 nm.at_)).drew=wt2 at Av Ae Ag Ab tt1 ⊢
   by_cases he1:t.text=zd6
   · have hx1:(t.text==[101,110,117,109])=true:=by rw [he1];rfl
     have Au:Hid (R=(zcg (PSof ts i full)).bind fun l s=>.ok (.node 4 nm.text 0 nm.at_ l) s):=by show _=_;rw [Am.out,if_pos he1]
     clear he1
     have Ah:Hid (Calls Tryz.prog 114 #[.pointer (some ⟨p,0,none⟩)] wt2 (zam p g cap ts (d+1) (zbg wt2.heap.size) (zcg (PSof ts i full)) wt2)):=Ao.out i full wt2 Av.out (Aw.out.sole Ae.out)
     obtain ⟨rl,hrl⟩:∃ r,zcg (PSof ts i full)=r:=⟨_,rfl⟩
     have Ai:Hid (R=rl.bind fun l s=>.ok (.node 4 nm.text 0 nm.at_ l) s):=by
      show _=_
      rw [Au.out,<- hrl]
     rw [hrl] at Ah
     clear hrl
     go_wp2_with fail
     refine Ah.out.mono ?_
     cases rl with
     | no why at_ =>
      rintro e w99 ⟨rfl,hS⟩
      have Ac:=hid (Ae.out.trans hS)
      clear hS
      go_wp2
      refine ⟨rfl,?_⟩
      rw [Ai.out]
      exact ⟨rfl,Ac.out⟩
     | ok l st =>
      rintro e w7 ⟨v,i,full,rfl,hL,rfl,hP,hS⟩
      obtain ⟨o8,l8,c8,rfl⟩:=hL.shape
      have hp:=HP.out
      have hlb:=Ab.out.2
      have hlbt:=Ab.out.lt
      have hrbl:=Af.out
      have c27:=hP.c2
      have f27:=hP.f2
      have hne1:¬ w3.heap.size=p:=by omega
      have hne2:¬ p=w3.heap.size:=by omega
      have hne3:¬ w.heap.size=w3.heap.size:=by omega
      have hne4:¬ w3.heap.size=w.heap.size:=by omega
      have hne5:¬ w.heap.size=p:=by omega
      have hne6:¬ p=w.heap.size:=by omega
      have kl7:Kep w w7 w3.heap.size (kidO 0 nm.text 0 nm.at_ (.slice none 0 0)):=Ab.out.sole hp.1 hS
      have kr7:Kep w w7 w.heap.size (kidO 0 [] 0 0 (.slice none 0 0)):=Ag.out.sole hp.1 hS
      obtain ⟨⟨l0,l1,l2,l3,l4⟩,⟨f0,f1,f2,f3,f4⟩⟩:=zaa kl7.1
      have hz:∀ b,b≠w3.heap.size->((w7.setCell ⟨w3.heap.size,0,none⟩ (.int .i64 4)).setCell ⟨w3.heap.size,4,none⟩ (.slice o8 l8 c8)).heap[b]?=w7.heap[b]?:=fun b hb=>(Below.heap_setCell _ _ _ _ hb).trans (Below.heap_setCell _ _ _ _ hb)
      have Aj:Hid (Sole p w (((w7.setCell ⟨w3.heap.size,0,none⟩ (.int .i64 4)).setCell ⟨w3.heap.size,4,none⟩ (.slice o8 l8 c8)).setCell ⟨p,2,none⟩ (.int .i64 d))):=Sole.setp (((Ae.out.trans hS).below_after ((Below.refl _ _).setCell hlb _)).below_after ((Below.refl _ _).setCell hlb _))
      have Ak:=hid ((hP.sole_but (by omega) (by omega) hz).depth d)
      have Aa:Hid (Kep w (((w7.setCell ⟨w3.heap.size,0,none⟩ (.int .i64 4)).setCell ⟨w3.heap.size,4,none⟩ (.slice o8 l8 c8)).setCell ⟨p,2,none⟩ (.int .i64 d)) w.heap.size (kidO 0 [] 0 0 (.slice none 0 0))):=(kr7.but hz (by omega)).setp hp.1
      have Ad:Hid (Kep w (((w7.setCell ⟨w3.heap.size,0,none⟩ (.int .i64 4)).setCell ⟨w3.heap.size,4,none⟩ (.slice o8 l8 c8)).setCell ⟨p,2,none⟩ (.int .i64 d)) w3.heap.size (kidO 4 nm.text 0 nm.at_ (.slice o8 l8 c8))):=Kep.setp ⟨zai (zai kl7.1),hlb⟩ hp.1
      have Al:Hid (zab (fun b=>w3.heap.size<b) (((w7.setCell ⟨w3.heap.size,0,none⟩ (.int .i64 4)).setCell ⟨w3.heap.size,4,none⟩ (.slice o8 l8 c8)).setCell ⟨p,2,none⟩ (.int .i64 d)) l (.slice o8 l8 c8)):=by
       have h1:zab (fun b=>w3.heap.size<b) w7 l (.slice o8 l8 c8):=zab.weaken hL (fun b h=>by have h2:wt2.heap.size<=b:=h;omega)
       exact zab.but (r:=p) (zab.but h1 (fun b h=>by omega) hz) (fun b h=>by omega) (fun b hb=>Below.heap_setCell _ _ _ _ hb)
      obtain ⟨⟨r0,r1,r2,r3,r4⟩,⟨y0,y1,y2,y3,y4⟩⟩:=zaa kr7.1
      clear hP hS hL hp hlb hlbt hrbl kl7 kr7 hz
      go_wp2
      generalize ((w7.setCell ⟨w3.heap.size,0,none⟩ (.int .i64 4)).setCell ⟨w3.heap.size,4,none⟩ (.slice o8 l8 c8)).setCell ⟨p,2,none⟩ (.int .i64 d)=w9 at Aj Ak Aa Ad Al ⊢
      obtain ⟨⟨z0,z1,z2,z3,z4⟩,_⟩:=zaa Aa.out.1
      refine ret5 z0 z1 z2 z3 z4 rfl (fun u q0 q1 q2 q3 q4=>by simp [results,Tryz.results71,go_sem,q0,q1,q2,q3,q4]) Aa.out.2 Aj.out ?_
      intro wz hf
      rw [Ai.out]
      have hr2:=Aa.out.2
      have hpg:=HP.out
      exact ⟨_,_,_,rfl,za4 Al.out (fun b h=>by have:=Af.out;omega) (fun b h=>by have:=Af.out;omega) hf.2,rfl,Ak.out.sole_but (by omega) (by omega) hf.2,hf.1⟩
   · by_cases he2:t.text=zbm
     · have hx1:(t.text==[101,110,117,109])=false:=by simpa [zd6] using he1
       have hx2:(t.text==[115,116,114,117,99,116])=true:=by rw [he2];rfl
       have Au:Hid (R=(zda (zbi n false) (PSof ts i full)).bind fun l s=>.ok (.node 6 nm.text 0 nm.at_ l) s):=by show _=_;rw [Am.out,if_neg he1,if_pos he2]
       clear he1 he2
       have Ah:Hid (Calls Tryz.prog 115 #[.pointer (some ⟨p,0,none⟩)] wt2 (zam p g cap ts (d+1) (zbg wt2.heap.size) (zda (zbi n false) (PSof ts i full)) wt2)):=Ap.out i full wt2 Av.out (Aw.out.sole Ae.out)
       obtain ⟨rl,hrl⟩:∃ r,zda (zbi n false) (PSof ts i full)=r:=⟨_,rfl⟩
       have Ai:Hid (R=rl.bind fun l s=>.ok (.node 6 nm.text 0 nm.at_ l) s):=by
        show _=_
        rw [Au.out,<- hrl]
       rw [hrl] at Ah
       clear hrl
       go_wp2_with fail
       refine Ah.out.mono ?_
       cases rl with
       | no why at_ =>
        rintro e w99 ⟨rfl,hS⟩
        have Ac:=hid (Ae.out.trans hS)
        clear hS
        go_wp2
        refine ⟨rfl,?_⟩
        rw [Ai.out]
        exact ⟨rfl,Ac.out⟩
       | ok l st =>
        rintro e w7 ⟨v,i,full,rfl,hL,rfl,hP,hS⟩
        obtain ⟨o8,l8,c8,rfl⟩:=hL.shape
        have hp:=HP.out
        have hlb:=Ab.out.2
        have hlbt:=Ab.out.lt
        have hrbl:=Af.out
        have c27:=hP.c2
        have f27:=hP.f2
        have hne1:¬ w3.heap.size=p:=by omega
        have hne2:¬ p=w3.heap.size:=by omega
        have hne3:¬ w.heap.size=w3.heap.size:=by omega
        have hne4:¬ w3.heap.size=w.heap.size:=by omega
        have hne5:¬ w.heap.size=p:=by omega
        have hne6:¬ p=w.heap.size:=by omega
        have kl7:Kep w w7 w3.heap.size (kidO 0 nm.text 0 nm.at_ (.slice none 0 0)):=Ab.out.sole hp.1 hS
        have kr7:Kep w w7 w.heap.size (kidO 0 [] 0 0 (.slice none 0 0)):=Ag.out.sole hp.1 hS
        obtain ⟨⟨l0,l1,l2,l3,l4⟩,⟨f0,f1,f2,f3,f4⟩⟩:=zaa kl7.1
        have hz:∀ b,b≠w3.heap.size->((w7.setCell ⟨w3.heap.size,0,none⟩ (.int .i64 6)).setCell ⟨w3.heap.size,4,none⟩ (.slice o8 l8 c8)).heap[b]?=w7.heap[b]?:=fun b hb=>(Below.heap_setCell _ _ _ _ hb).trans (Below.heap_setCell _ _ _ _ hb)
        have Aj:Hid (Sole p w (((w7.setCell ⟨w3.heap.size,0,none⟩ (.int .i64 6)).setCell ⟨w3.heap.size,4,none⟩ (.slice o8 l8 c8)).setCell ⟨p,2,none⟩ (.int .i64 d))):=Sole.setp (((Ae.out.trans hS).below_after ((Below.refl _ _).setCell hlb _)).below_after ((Below.refl _ _).setCell hlb _))
        have Ak:=hid ((hP.sole_but (by omega) (by omega) hz).depth d)
        have Aa:Hid (Kep w (((w7.setCell ⟨w3.heap.size,0,none⟩ (.int .i64 6)).setCell ⟨w3.heap.size,4,none⟩ (.slice o8 l8 c8)).setCell ⟨p,2,none⟩ (.int .i64 d)) w.heap.size (kidO 0 [] 0 0 (.slice none 0 0))):=(kr7.but hz (by omega)).setp hp.1
        have Ad:Hid (Kep w (((w7.setCell ⟨w3.heap.size,0,none⟩ (.int .i64 6)).setCell ⟨w3.heap.size,4,none⟩ (.slice o8 l8 c8)).setCell ⟨p,2,none⟩ (.int .i64 d)) w3.heap.size (kidO 6 nm.text 0 nm.at_ (.slice o8 l8 c8))):=Kep.setp ⟨zai (zai kl7.1),hlb⟩ hp.1
        have Al:Hid (zab (fun b=>w3.heap.size<b) (((w7.setCell ⟨w3.heap.size,0,none⟩ (.int .i64 6)).setCell ⟨w3.heap.size,4,none⟩ (.slice o8 l8 c8)).setCell ⟨p,2,none⟩ (.int .i64 d)) l (.slice o8 l8 c8)):=by
         have h1:zab (fun b=>w3.heap.size<b) w7 l (.slice o8 l8 c8):=zab.weaken hL (fun b h=>by have h2:wt2.heap.size<=b:=h;omega)
         exact zab.but (r:=p) (zab.but h1 (fun b h=>by omega) hz) (fun b h=>by omega) (fun b hb=>Below.heap_setCell _ _ _ _ hb)
        obtain ⟨⟨r0,r1,r2,r3,r4⟩,⟨y0,y1,y2,y3,y4⟩⟩:=zaa kr7.1
        clear hP hS hL hp hlb hlbt hrbl kl7 kr7 hz
        go_wp2
        generalize ((w7.setCell ⟨w3.heap.size,0,none⟩ (.int .i64 6)).setCell ⟨w3.heap.size,4,none⟩ (.slice o8 l8 c8)).setCell ⟨p,2,none⟩ (.int .i64 d)=w9 at Aj Ak Aa Ad Al ⊢
        obtain ⟨⟨z0,z1,z2,z3,z4⟩,_⟩:=zaa Aa.out.1
        refine ret5 z0 z1 z2 z3 z4 rfl (fun u q0 q1 q2 q3 q4=>by simp [results,Tryz.results71,go_sem,q0,q1,q2,q3,q4]) Aa.out.2 Aj.out ?_
        intro wz hf
        rw [Ai.out]
        have hr2:=Aa.out.2
        have hpg:=HP.out
        exact ⟨_,_,_,rfl,za4 Al.out (fun b h=>by have:=Af.out;omega) (fun b h=>by have:=Af.out;omega) hf.2,rfl,Ak.out.sole_but (by omega) (by omega) hf.2,hf.1⟩
     · have hx1:(t.text==[101,110,117,109])=false:=by simpa [zd6] using he1
       have hx2:(t.text==[115,116,114,117,99,116])=false:=by simpa [zbm] using he2
       have Au:Hid (R=(zcw (zbi n false) (PSof ts i full)).bind fun l s=>.ok (.node 7 nm.text 0 nm.at_ l) s):=by show _=_;rw [Am.out,if_neg he1,if_neg he2]
       clear he1 he2
       have Ah:Hid (Calls Tryz.prog 116 #[.pointer (some ⟨p,0,none⟩)] wt2 (zam p g cap ts (d+1) (zbg wt2.heap.size) (zcw (zbi n false) (PSof ts i full)) wt2)):=Aq.out i full wt2 Av.out (Aw.out.sole Ae.out)
       obtain ⟨rl,hrl⟩:∃ r,zcw (zbi n false) (PSof ts i full)=r:=⟨_,rfl⟩
       have Ai:Hid (R=rl.bind fun l s=>.ok (.node 7 nm.text 0 nm.at_ l) s):=by
        show _=_
        rw [Au.out,<- hrl]
       rw [hrl] at Ah
       clear hrl
       go_wp2_with fail
       refine Ah.out.mono ?_
       cases rl with
       | no why at_ =>
        rintro e w99 ⟨rfl,hS⟩
        have Ac:=hid (Ae.out.trans hS)
        clear hS
        go_wp2
        refine ⟨rfl,?_⟩
        rw [Ai.out]
        exact ⟨rfl,Ac.out⟩
       | ok l st =>
        rintro e w7 ⟨v,i,full,rfl,hL,rfl,hP,hS⟩
        obtain ⟨o8,l8,c8,rfl⟩:=hL.shape
        have hp:=HP.out
        have hlb:=Ab.out.2
        have hlbt:=Ab.out.lt
        have hrbl:=Af.out
        have c27:=hP.c2
        have f27:=hP.f2
        have hne1:¬ w3.heap.size=p:=by omega
        have hne2:¬ p=w3.heap.size:=by omega
        have hne3:¬ w.heap.size=w3.heap.size:=by omega
        have hne4:¬ w3.heap.size=w.heap.size:=by omega
        have hne5:¬ w.heap.size=p:=by omega
        have hne6:¬ p=w.heap.size:=by omega
        have kl7:Kep w w7 w3.heap.size (kidO 0 nm.text 0 nm.at_ (.slice none 0 0)):=Ab.out.sole hp.1 hS
        have kr7:Kep w w7 w.heap.size (kidO 0 [] 0 0 (.slice none 0 0)):=Ag.out.sole hp.1 hS
        obtain ⟨⟨l0,l1,l2,l3,l4⟩,⟨f0,f1,f2,f3,f4⟩⟩:=zaa kl7.1
        have hz:∀ b,b≠w3.heap.size->((w7.setCell ⟨w3.heap.size,0,none⟩ (.int .i64 7)).setCell ⟨w3.heap.size,4,none⟩ (.slice o8 l8 c8)).heap[b]?=w7.heap[b]?:=fun b hb=>(Below.heap_setCell _ _ _ _ hb).trans (Below.heap_setCell _ _ _ _ hb)
        have Aj:Hid (Sole p w (((w7.setCell ⟨w3.heap.size,0,none⟩ (.int .i64 7)).setCell ⟨w3.heap.size,4,none⟩ (.slice o8 l8 c8)).setCell ⟨p,2,none⟩ (.int .i64 d))):=Sole.setp (((Ae.out.trans hS).below_after ((Below.refl _ _).setCell hlb _)).below_after ((Below.refl _ _).setCell hlb _))
        have Ak:=hid ((hP.sole_but (by omega) (by omega) hz).depth d)
        have Aa:Hid (Kep w (((w7.setCell ⟨w3.heap.size,0,none⟩ (.int .i64 7)).setCell ⟨w3.heap.size,4,none⟩ (.slice o8 l8 c8)).setCell ⟨p,2,none⟩ (.int .i64 d)) w.heap.size (kidO 0 [] 0 0 (.slice none 0 0))):=(kr7.but hz (by omega)).setp hp.1
        have Ad:Hid (Kep w (((w7.setCell ⟨w3.heap.size,0,none⟩ (.int .i64 7)).setCell ⟨w3.heap.size,4,none⟩ (.slice o8 l8 c8)).setCell ⟨p,2,none⟩ (.int .i64 d)) w3.heap.size (kidO 7 nm.text 0 nm.at_ (.slice o8 l8 c8))):=Kep.setp ⟨zai (zai kl7.1),hlb⟩ hp.1
        have Al:Hid (zab (fun b=>w3.heap.size<b) (((w7.setCell ⟨w3.heap.size,0,none⟩ (.int .i64 7)).setCell ⟨w3.heap.size,4,none⟩ (.slice o8 l8 c8)).setCell ⟨p,2,none⟩ (.int .i64 d)) l (.slice o8 l8 c8)):=by
         have h1:zab (fun b=>w3.heap.size<b) w7 l (.slice o8 l8 c8):=zab.weaken hL (fun b h=>by have h2:wt2.heap.size<=b:=h;omega)
         exact zab.but (r:=p) (zab.but h1 (fun b h=>by omega) hz) (fun b h=>by omega) (fun b hb=>Below.heap_setCell _ _ _ _ hb)
        obtain ⟨⟨r0,r1,r2,r3,r4⟩,⟨y0,y1,y2,y3,y4⟩⟩:=zaa kr7.1
        clear hP hS hL hp hlb hlbt hrbl kl7 kr7 hz
        go_wp2
        generalize ((w7.setCell ⟨w3.heap.size,0,none⟩ (.int .i64 7)).setCell ⟨w3.heap.size,4,none⟩ (.slice o8 l8 c8)).setCell ⟨p,2,none⟩ (.int .i64 d)=w9 at Aj Ak Aa Ad Al ⊢
        obtain ⟨⟨z0,z1,z2,z3,z4⟩,_⟩:=zaa Aa.out.1
        refine ret5 z0 z1 z2 z3 z4 rfl (fun u q0 q1 q2 q3 q4=>by simp [results,Tryz.results71,go_sem,q0,q1,q2,q3,q4]) Aa.out.2 Aj.out ?_
        intro wz hf
        rw [Ai.out]
        have hr2:=Aa.out.2
        have hpg:=HP.out
        exact ⟨_,_,_,rfl,za4 Al.out (fun b h=>by have:=Af.out;omega) (fun b h=>by have:=Af.out;omega) hf.2,rfl,Ak.out.sole_but (by omega) (by omega) hf.2,hf.1⟩
set_option maxRecDepth 4000 in
theorem body_zero (p g cap:Nat) (ts:List Tok) (b:Bool) (i:Nat) (full:Bool) (w:World) (h:PP w p g cap ts i 8 full) :
 Calls Tryz.prog 71 #[.pointer (some ⟨p,0,none⟩),.bool b] w (zam p g cap ts 8 (zah w.heap.size) (zbi 0 b (PSof ts i full)) w):=by
 obtain ⟨wa,hwa⟩:∃ x,w.alloc (.cells #[.int .i64 0,.string ⟨#[]⟩,.int .i64 0,.int .i64 0,.slice none 0 0] 29)=x:=⟨_,rfl⟩
 have b1:Below w.heap.size w wa:=by rw [<- hwa];exact zac _ _
 have hpa:=h.below b1
 have c2:=hpa.c2
 have HR:Hid (zbi 0 b (PSof ts i full)=.no 41 (ts[i]'h.il).at_):=by
  show PS.bad _ _=_
  unfold PS.bad
  rw [zb6 ts i full h.il]
 have Ab:Hid (Calls Tryz.prog 74 #[.pointer (some ⟨p,0,none⟩),.int .i64 41] wa fun e w'=>e=.returned (.agg #[.int .i64 41,.int .i64 ((ts[i]'h.il).at_:Nat)])∧Below wa.heap.size wa w'):=zdd p g cap ts i 8 41 full wa hpa
 have Aa:=hid b1
 rw [HR.out]
 clear hpa b1 HR
 go_enter Tryz.func71,Tryz.ntmps71
 go_wp2_with fail
 refine Ab.out.mono ?_
 rintro e w2 ⟨rfl,hB⟩
 have Ac:=hid (Aa.out.trans (hB.mono Aa.out.size))
 clear hB
 go_wp2
 exact ⟨rfl,rfl,Sole.of_below Ac.out⟩
def BodyAll (p g cap:Nat) (ts:List Tok) (d:Int) (n:Nat):Prop :=
 ∀ b i full w,i+1<ts.length->PP w p g cap ts i d full->zbo p w->Calls Tryz.prog 71 #[.pointer (some ⟨p,0,none⟩),.bool b] w (zam p g cap ts d (zah w.heap.size) (zbi n b (PSof ts i full)) w)
structure Tower (p g cap:Nat) (ts:List Tok) (d:Int) (n:Nat):Prop where
 something:zd4 p g cap ts d 70 (zco (zbi n false))
 declaration:zd4 p g cap ts d 146 (za6 (zbi n false))
 field:zd4 p g cap ts d 145 (zbc (zbi n false))
 fields:zg8 p g cap ts d 115 (zda (zbi n false))
 choice:zg8 p g cap ts d 116 (zcw (zbi n false))
theorem tower_of (p g cap:Nat) (ts:List Tok) (hE:Ends ts) (d:Int) (n:Nat) (hB:BodyAll p g cap ts d n):Tower p g cap ts d n:=by
 have hb:KeepsB p g cap ts d (zbi n false):=fun i full w hi h hba=>hB false i full w hi h hba
 have h1:=zm3 p g cap ts hE d (zbi n false) (written_any p g cap ts hE d (zbi n false) hb (zgc p g cap ts hE d))
 have h2:=zlf p g cap ts hE d (zbi n false) h1
 have h3:=field_any p g cap ts hE d (zbi n false) h2
 exact ⟨h1,h2,h3,zho p g cap ts hE d (zbi n false) h3 (zki n false),zhp p g cap ts hE d (zbi n false) h2 h3 (znt p g cap ts hE d (zbi n false) h3)⟩
theorem body_all (p g cap:Nat) (ts:List Tok) (hE:Ends ts):∀ n:Nat,n<=8->BodyAll p g cap ts (8 - n) n
 | 0=>fun _ b i full w _ h _=>body_zero p g cap ts b i full w h
 | n+1=>fun hn=>by
  have ht:=tower_of p g cap ts hE (8 - n) n (body_all p g cap ts hE n (by omega))
  have hd:((8:Int) - (n+1:Nat))+1=8 - n:=by omega
  intro b i full w hi h hba
  cases b
  · exact body_false p g cap ts hE _ (by omega) (by omega) n (by rw [hd];exact zfy p g cap ts hE _) (by rw [hd];exact ht.fields) (by rw [hd];exact ht.choice) i full w hi h hba
  · exact body_true p g cap ts hE _ (by omega) (by omega) n (by rw [hd];exact zfy p g cap ts hE _) (by rw [hd];exact ht.fields) (by rw [hd];exact ht.choice) i full w hi h hba
theorem zhq (p g cap:Nat) (ts:List Tok) (hE:Ends ts):BodyAll p g cap ts 0 8:=body_all p g cap ts hE 8 (by omega)
theorem tower_top (p g cap:Nat) (ts:List Tok) (hE:Ends ts):Tower p g cap ts 0 8:=tower_of p g cap ts hE 0 8 (zhq p g cap ts hE)
end Go.Proofs.YtighggeokiahfaaGreatDoor
