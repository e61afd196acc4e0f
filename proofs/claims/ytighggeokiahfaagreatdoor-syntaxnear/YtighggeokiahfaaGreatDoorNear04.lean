import Derived.Test.YtighggeokiahfaaGreatDoorNear03
namespace Go.Proofs.YtighggeokiahfaaGreatDoor
open Go.RowKit
/-- a tree that a call has just made, and nothing else in its set -/
theorem zah.made {B:Nat} {w:World} {t:Tree} {v:Value} (h:zah B t w v):zae (fun b=>B<=b∧b<w.heap.size) w t v:=zae.there _ _ h
set_option maxHeartbeats 1000000 in
set_option maxRecDepth 4000 in
theorem zjy (p g cap:Nat) (ts:List Tok) (hE:Ends ts) (d:Int) (i:Nat) (full:Bool) (w:World) (h:PP w p g cap ts i d full) (hw:((ts[i]'h.il).text==[111,112,97,113,117,101])=true) :
 Calls Tryz.prog 70 #[.pointer (some ⟨p,0,none⟩)] w (zam p g cap ts d (zah w.heap.size) ((zc0 25 (PSof ts i full)).bind fun t s=>zdu 25 t s) w):=by
 have hix:i+1<ts.length:=hE.text h.il (by rw [show (ts[i]'h.il).text=[111,112,97,113,117,101] by simpa using hw];simp)
 have HP:=hid2 h.plt h.glt
 have HE:=hid hE
 have H:=hid h
 obtain ⟨tk,htk⟩:∃ x,ts[i]'h.il=x:=⟨_,rfl⟩
 obtain ⟨wa,hwa⟩:∃ x,w.alloc (.cells #[.int .i64 0,.string ⟨#[]⟩,.int .i64 0,.int .i64 0,.slice none 0 0] 29)=x:=⟨_,rfl⟩
 have b1:Below w.heap.size w wa:=by rw [<- hwa];exact zac _ _
 have Al:Hid (Kep w wa w.heap.size (kidO 0 [] 0 0 (.slice none 0 0))):=by show Kep w wa _ _;rw [<- hwa];exact Kep.new (Nat.le_refl _) _
 have Ae:=hid b1
 have Am:Hid (Calls Tryz.prog 38 #[.pointer (some ⟨p,0,none⟩)] wa fun e w'=>e=.returned (.agg #[.int .i64 tk.kind,.string ⟨tk.text.toArray⟩,.int .i64 tk.num,.int .i64 tk.at_])∧Below wa.heap.size wa w'):=by
  have hx:=zcb p g cap ts i d full wa (h.below b1)
  rw [htk] at hx
  exact hx
 have q1:=fld1 tk.kind tk.num tk.at_ ⟨tk.text.toArray⟩
 rw [htk] at hw
 obtain ⟨R,hR⟩:∃ R,((zc0 25 (PSof ts i full)).bind fun t s=>zdu 25 t s)=R:=⟨_,rfl⟩
 rw [hR]
 have An:=hid hix
 have Ao:=hid hR.symm
 clear h hE hR htk b1 hix
 go_enter Tryz.func70,Tryz.ntmps70
 go_wp2_with fail
 refine Am.out.mono ?_
 rintro e w1 ⟨rfl,hB1⟩
 have hb01:Below w.heap.size w w1:=Ae.out.trans (hB1.mono Ae.out.size)
 have Ap:=hid (H.out.below hb01)
 have Ab:Hid (Sole p w w1):=Sole.of_below hb01
 have Af:=hid (Al.out.below hB1)
 have Ag:=hid (zgp p g cap ts i d 25 full w1 Ap.out An.out)
 obtain ⟨ra,hra⟩:∃ r,zc0 25 (PSof ts i full)=r:=⟨_,rfl⟩
 have Ah:Hid (R=ra.bind fun t s=>zdu 25 t s):=by
  show _=_
  rw [Ao.out];first|(rw [<- hra];done)|(rw [<- hra];rfl)
 have Aq:Hid (∀ t s,ra=.ok t s->t.kind=25):=fun t s e=>by
  rw [<- hra] at e
  unfold zc0 at e
  cases hx:(PSof ts i full).take with
  | no a b=>rw [hx] at e;cases e
  | ok a b=>rw [hx] at e;cases e;rfl
 rw [hra] at Ag
 clear hra hb01 hB1
 go_wp2_with fail
 clear hwa
 refine Ag.out.mono ?_
 cases ra with
 | no why at_ =>
  rintro e w99 ⟨rfl,hS⟩
  have Aa:=hid (Ab.out.trans hS)
  clear hS
  go_wp2
  refine ⟨rfl,?_⟩
  rw [Ah.out]
  exact ⟨rfl,Aa.out⟩
 | ok tv st =>
  rintro e w2 ⟨v,i,full,rfl,hT,rfl,hP,hS⟩
  obtain ⟨k9,n9,m9,a9,ks9⟩:=tv
  obtain ⟨sl,rfl,hL⟩:=zaf.1 hT
  obtain ⟨o9,l9,c9,rfl⟩:=hL.shape
  have hkk:k9=25:=Aq.out _ _ rfl
  subst hkk
  have Ac:Hid (Calls Tryz.prog 111 #[.pointer (some ⟨p,0,none⟩),(kidV 25 n9 m9 a9 (.slice o9 l9 c9))] w2 (zam p g cap ts d (mixIs (fun b=>w1.heap.size<=b∧b<w2.heap.size) w2.heap.size) (zdu 25 (.node 25 n9 m9 a9 ks9) (PSof ts i full)) w2)) :=
   zee p g cap ts HE.out i d full 25 n9 m9 a9 ks9 o9 l9 c9 (fun b=>w1.heap.size<=b∧b<w2.heap.size) w2 hP (fun b hb=>⟨by have:=HP.out.1;have:=Ab.out.size;omega,hb.2⟩) (zah.made hT)
  have Ai:=hid (Ab.out.trans hS)
  have Aj:=hid (Af.out.sole HP.out.1 hS)
  have Ar:=hid Af.out.lt
  obtain ⟨rz,hrz⟩:∃ r,zdu 25 (.node 25 n9 m9 a9 ks9) (PSof ts i full)=r:=⟨_,rfl⟩
  have Ak:Hid (R=rz):=by
   show _=_
   rw [Ah.out,<- hrz];rfl
  rw [hrz] at Ac
  clear hrz hT hL hP hS
  unfold kidV at Ac ⊢
  go_wp2_with fail
  refine Ac.out.mono ?_
  cases rz with
  | no why at_ =>
   rintro e w99 ⟨rfl,hS⟩
   have Aa:=hid (Ai.out.trans hS)
   clear hS
   go_wp2
   refine ⟨rfl,?_⟩
   rw [Ak.out]
   exact ⟨rfl,Aa.out⟩
  | ok tw st =>
   rintro e w6 ⟨v,i,full,rfl,hT,rfl,hP,hS⟩
   obtain ⟨k8,n8,m8,a8,ks8⟩:=tw
   obtain ⟨sl,rfl,hL⟩:=zaf.1 hT
   obtain ⟨o8,l8,c8,rfl⟩:=hL.shape
   have hlt:=Ar.out
   have hl2:=Aj.out.lt
   have Au:=hid hP
   have Av:=hid (Ai.out.trans hS)
   have Ad:=hid (Aj.out.sole HP.out.1 hS)
   have Aw:Hid (zab (fun b=>w.heap.size<b) w6 ks8 (.slice o8 l8 c8)):=hL.weaken (fun b h=>by
    rcases h with h|h
    · omega
    · omega)
   clear hP hS hT hL hlt hl2
   unfold kidV
   obtain ⟨⟨z0,z1,z2,z3,z4⟩,⟨y0,y1,y2,y3,y4⟩⟩:=zaa Ad.out.1
   go_wp2
   refine ret5 z0 z1 z2 z3 z4 rfl (fun u q0 q1 q2 q3 q4=>by simp [results,Tryz.results70,go_sem,q0,q1,q2,q3,q4]) Ad.out.2 Av.out ?_
   intro wz hf
   rw [Ak.out]
   have hr2:=Ad.out.2
   have hpg:=HP.out
   exact ⟨_,_,_,rfl,za4 Aw.out (fun b h=>Nat.le_of_lt h) (fun b h=>Nat.ne_of_gt h) hf.2,rfl,Au.out.sole_but (by omega) (by omega) hf.2,hf.1⟩
set_option maxHeartbeats 1000000 in
set_option maxRecDepth 4000 in
theorem zjx (p g cap:Nat) (ts:List Tok) (hE:Ends ts) (d:Int) (i:Nat) (full:Bool) (w:World) (h:PP w p g cap ts i d full) (hw0:((ts[i]'h.il).text==[111,112,97,113,117,101])=false) (hw:((ts[i]'h.il).text==[115,116,114,105,110,103])=true) :
 Calls Tryz.prog 70 #[.pointer (some ⟨p,0,none⟩)] w (zam p g cap ts d (zah w.heap.size) ((zc0 26 (PSof ts i full)).bind fun t s=>zdu 26 t s) w):=by
 have hix:i+1<ts.length:=hE.text h.il (by rw [show (ts[i]'h.il).text=[115,116,114,105,110,103] by simpa using hw];simp)
 have HP:=hid2 h.plt h.glt
 have HE:=hid hE
 have H:=hid h
 obtain ⟨tk,htk⟩:∃ x,ts[i]'h.il=x:=⟨_,rfl⟩
 obtain ⟨wa,hwa⟩:∃ x,w.alloc (.cells #[.int .i64 0,.string ⟨#[]⟩,.int .i64 0,.int .i64 0,.slice none 0 0] 29)=x:=⟨_,rfl⟩
 have b1:Below w.heap.size w wa:=by rw [<- hwa];exact zac _ _
 have Al:Hid (Kep w wa w.heap.size (kidO 0 [] 0 0 (.slice none 0 0))):=by show Kep w wa _ _;rw [<- hwa];exact Kep.new (Nat.le_refl _) _
 have Ae:=hid b1
 have Am:Hid (Calls Tryz.prog 38 #[.pointer (some ⟨p,0,none⟩)] wa fun e w'=>e=.returned (.agg #[.int .i64 tk.kind,.string ⟨tk.text.toArray⟩,.int .i64 tk.num,.int .i64 tk.at_])∧Below wa.heap.size wa w'):=by
  have hx:=zcb p g cap ts i d full wa (h.below b1)
  rw [htk] at hx
  exact hx
 have q1:=fld1 tk.kind tk.num tk.at_ ⟨tk.text.toArray⟩
 rw [htk] at hw hw0
 obtain ⟨R,hR⟩:∃ R,((zc0 26 (PSof ts i full)).bind fun t s=>zdu 26 t s)=R:=⟨_,rfl⟩
 rw [hR]
 have An:=hid hix
 have Ao:=hid hR.symm
 clear h hE hR htk b1 hix
 go_enter Tryz.func70,Tryz.ntmps70
 go_wp2_with fail
 refine Am.out.mono ?_
 rintro e w1 ⟨rfl,hB1⟩
 have hb01:Below w.heap.size w w1:=Ae.out.trans (hB1.mono Ae.out.size)
 have Ap:=hid (H.out.below hb01)
 have Ab:Hid (Sole p w w1):=Sole.of_below hb01
 have Af:=hid (Al.out.below hB1)
 have Ag:=hid (zgp p g cap ts i d 26 full w1 Ap.out An.out)
 obtain ⟨ra,hra⟩:∃ r,zc0 26 (PSof ts i full)=r:=⟨_,rfl⟩
 have Ah:Hid (R=ra.bind fun t s=>zdu 26 t s):=by
  show _=_
  rw [Ao.out];first|(rw [<- hra];done)|(rw [<- hra];rfl)
 have Aq:Hid (∀ t s,ra=.ok t s->t.kind=26):=fun t s e=>by
  rw [<- hra] at e
  unfold zc0 at e
  cases hx:(PSof ts i full).take with
  | no a b=>rw [hx] at e;cases e
  | ok a b=>rw [hx] at e;cases e;rfl
 rw [hra] at Ag
 clear hra hb01 hB1
 go_wp2_with fail
 clear hwa
 refine Ag.out.mono ?_
 cases ra with
 | no why at_ =>
  rintro e w99 ⟨rfl,hS⟩
  have Aa:=hid (Ab.out.trans hS)
  clear hS
  go_wp2
  refine ⟨rfl,?_⟩
  rw [Ah.out]
  exact ⟨rfl,Aa.out⟩
 | ok tv st =>
  rintro e w2 ⟨v,i,full,rfl,hT,rfl,hP,hS⟩
  obtain ⟨k9,n9,m9,a9,ks9⟩:=tv
  obtain ⟨sl,rfl,hL⟩:=zaf.1 hT
  obtain ⟨o9,l9,c9,rfl⟩:=hL.shape
  have hkk:k9=26:=Aq.out _ _ rfl
  subst hkk
  have Ac:Hid (Calls Tryz.prog 111 #[.pointer (some ⟨p,0,none⟩),(kidV 26 n9 m9 a9 (.slice o9 l9 c9))] w2 (zam p g cap ts d (mixIs (fun b=>w1.heap.size<=b∧b<w2.heap.size) w2.heap.size) (zdu 26 (.node 26 n9 m9 a9 ks9) (PSof ts i full)) w2)) :=
   zee p g cap ts HE.out i d full 26 n9 m9 a9 ks9 o9 l9 c9 (fun b=>w1.heap.size<=b∧b<w2.heap.size) w2 hP (fun b hb=>⟨by have:=HP.out.1;have:=Ab.out.size;omega,hb.2⟩) (zah.made hT)
  have Ai:=hid (Ab.out.trans hS)
  have Aj:=hid (Af.out.sole HP.out.1 hS)
  have Ar:=hid Af.out.lt
  obtain ⟨rz,hrz⟩:∃ r,zdu 26 (.node 26 n9 m9 a9 ks9) (PSof ts i full)=r:=⟨_,rfl⟩
  have Ak:Hid (R=rz):=by
   show _=_
   rw [Ah.out,<- hrz];rfl
  rw [hrz] at Ac
  clear hrz hT hL hP hS
  unfold kidV at Ac ⊢
  go_wp2_with fail
  refine Ac.out.mono ?_
  cases rz with
  | no why at_ =>
   rintro e w99 ⟨rfl,hS⟩
   have Aa:=hid (Ai.out.trans hS)
   clear hS
   go_wp2
   refine ⟨rfl,?_⟩
   rw [Ak.out]
   exact ⟨rfl,Aa.out⟩
  | ok tw st =>
   rintro e w6 ⟨v,i,full,rfl,hT,rfl,hP,hS⟩
   obtain ⟨k8,n8,m8,a8,ks8⟩:=tw
   obtain ⟨sl,rfl,hL⟩:=zaf.1 hT
   obtain ⟨o8,l8,c8,rfl⟩:=hL.shape
   have hlt:=Ar.out
   have hl2:=Aj.out.lt
   have Au:=hid hP
   have Av:=hid (Ai.out.trans hS)
   have Ad:=hid (Aj.out.sole HP.out.1 hS)
   have Aw:Hid (zab (fun b=>w.heap.size<b) w6 ks8 (.slice o8 l8 c8)):=hL.weaken (fun b h=>by
    rcases h with h|h
    · omega
    · omega)
   clear hP hS hT hL hlt hl2
   unfold kidV
   obtain ⟨⟨z0,z1,z2,z3,z4⟩,⟨y0,y1,y2,y3,y4⟩⟩:=zaa Ad.out.1
   go_wp2
   refine ret5 z0 z1 z2 z3 z4 rfl (fun u q0 q1 q2 q3 q4=>by simp [results,Tryz.results70,go_sem,q0,q1,q2,q3,q4]) Ad.out.2 Av.out ?_
   intro wz hf
   rw [Ak.out]
   have hr2:=Ad.out.2
   have hpg:=HP.out
   exact ⟨_,_,_,rfl,za4 Aw.out (fun b h=>Nat.le_of_lt h) (fun b h=>Nat.ne_of_gt h) hf.2,rfl,Au.out.sole_but (by omega) (by omega) hf.2,hf.1⟩
set_option maxHeartbeats 2000000 in
set_option maxRecDepth 4000 in
theorem zlz (p g cap:Nat) (ts:List Tok) (hE:Ends ts) (d:Int) (B:PS->Ans Tree) (hW:zd4 p g cap ts d 113 (zds B)) (i:Nat) (full:Bool) (w:World) (h:PP w p g cap ts i d full) (hba:zbo p w) (hw0:((ts[i]'h.il).text==[111,112,97,113,117,101])=false) (hw:((ts[i]'h.il).text==[115,116,114,105,110,103])=false) :
 Calls Tryz.prog 70 #[.pointer (some ⟨p,0,none⟩)] w (zam p g cap ts d (zah w.heap.size) ((zds B (PSof ts i full)).bind fun of s=>if s.sees [42] then s.take.bind fun _ s=>(zcr s).bind fun n s=>.ok (named 17 n [of]) s else zdu of.kind of s) w):=by
 have Bi:Hid (∀ w1,Below w.heap.size w w1->Calls Tryz.prog 113 #[.pointer (some ⟨p,0,none⟩)] w1 (zam p g cap ts d (zah w1.heap.size) (zds B (PSof ts i full)) w1)):=fun w1 hB=>hW i full w1 (h.below hB) (hba.below hB)
 have HP:=hid2 h.plt h.glt
 have HE:=hid hE
 have H:=hid h
 obtain ⟨tk,htk⟩:∃ x,ts[i]'h.il=x:=⟨_,rfl⟩
 obtain ⟨wa,hwa⟩:∃ x,w.alloc (.cells #[.int .i64 0,.string ⟨#[]⟩,.int .i64 0,.int .i64 0,.slice none 0 0] 29)=x:=⟨_,rfl⟩
 have b1:Below w.heap.size w wa:=by rw [<- hwa];exact zac _ _
 have Bu:Hid (Kep w wa w.heap.size (kidO 0 [] 0 0 (.slice none 0 0))):=by show Kep w wa _ _;rw [<- hwa];exact Kep.new (Nat.le_refl _) _
 have Bj:=hid b1
 have Bv:Hid (Calls Tryz.prog 38 #[.pointer (some ⟨p,0,none⟩)] wa fun e w'=>e=.returned (.agg #[.int .i64 tk.kind,.string ⟨tk.text.toArray⟩,.int .i64 tk.num,.int .i64 tk.at_])∧Below wa.heap.size wa w'):=by
  have hx:=zcb p g cap ts i d full wa (h.below b1)
  rw [htk] at hx
  exact hx
 have q1:=fld1 tk.kind tk.num tk.at_ ⟨tk.text.toArray⟩
 rw [htk] at hw hw0
 obtain ⟨R,hR⟩:∃ R,((zds B (PSof ts i full)).bind fun of s=>if s.sees [42] then s.take.bind fun _ s=>(zcr s).bind fun n s=>.ok (named 17 n [of]) s else zdu of.kind of s)=R:=⟨_,rfl⟩
 rw [hR]
 obtain ⟨ra,hra⟩:∃ r,zds B (PSof ts i full)=r:=⟨_,rfl⟩
 rw [hra] at hR Bi
 have Aw:=hid hR.symm
 clear h hE hR htk b1 hra hW hba
 go_enter Tryz.func70,Tryz.ntmps70
 go_wp2_with fail
 refine Bv.out.mono ?_
 rintro e w1 ⟨rfl,hB1⟩
 have hb01:Below w.heap.size w w1:=Bj.out.trans (hB1.mono Bj.out.size)
 have Cd:=hid (H.out.below hb01)
 have Bl:Hid (Sole p w w1):=Sole.of_below hb01
 have Bm:=hid (Bu.out.below hB1)
 have Bw:=hid (Bi.out w1 hb01)
 clear hb01 hB1
 go_wp2_with fail
 clear hwa
 refine Bw.out.mono ?_
 cases ra with
 | no why at_ =>
  rintro e w99 ⟨rfl,hS⟩
  have Aa:=hid (Bl.out.trans hS)
  clear hS
  go_wp2
  refine ⟨rfl,?_⟩
  rw [Aw.out]
  exact ⟨rfl,Aa.out⟩
 | ok tv st =>
  rintro e w2 ⟨v,i,full,rfl,hT,rfl,hP,hS⟩
  obtain ⟨k9,n9,m9,a9,ks9⟩:=tv
  obtain ⟨sl,rfl,hL⟩:=zaf.1 hT
  obtain ⟨o9,l9,c9,rfl⟩:=hL.shape
  obtain ⟨w3,hw3⟩:∃ x,w2.alloc (.cells #[.int .i64 k9,.string ⟨n9.toArray⟩,.int .i64 m9,.int .i64 a9,.slice o9 l9 c9] 29)=x:=⟨_,rfl⟩
  have hB3:Below w2.heap.size w2 w3:=by rw [<- hw3];exact zac _ _
  have hs2:Sole p w w2:=Bl.out.trans hS
  have Ap:=hid (hP.below hB3)
  have Bn:=hid (hs2.trans (Sole.of_below hB3))
  have Ai:=hid ((Bm.out.sole HP.out.1 hS).below hB3)
  have Aj:Hid (Kep w w3 w2.heap.size (kidO k9 n9 m9 a9 (.slice o9 l9 c9))):=by show Kep w w3 _ _;rw [<- hw3];exact Kep.new hs2.size _
  have Bo:=hid (zae.below (zah.made hT) hB3)
  have Ah:Hid (w.heap.size<w1.heap.size∧w1.heap.size<=w2.heap.size∧w2.heap.size<w3.heap.size):=⟨Bm.out.lt,hS.size,by rw [<- hw3];simp⟩
  have Ab:=hid (zf8 p g cap ts i d full [42] w3 Ap.out)
  clear hP hS hT hL hB3 hs2
  unfold kidV
  cases hse:(PSof ts i full).sees [42]
  · rw [hse] at Ab
    have HR2' : Hid (R=zdu k9 (.node k9 n9 m9 a9 ks9) (PSof ts i full)):=by
     show _=_
     rw [Aw.out]
     show (if _ then _ else _)=_
     rw [hse,if_neg (by simp)]
     rfl
    clear hse
    go_wp2_with fail
    clear hw3
    refine Ab.out.mono ?_
    rintro e w4 ⟨rfl,hB4⟩
    have Ax:=hid (Ap.out.below hB4)
    have Bp:=hid (Bn.out.trans (Sole.of_below hB4))
    have Bq:=hid (Ai.out.below hB4)
    obtain ⟨⟨v0,v1,v2,v3,v4⟩,_⟩:=zaa (Aj.out.below hB4).1
    have Ay:Hid (Calls Tryz.prog 111 #[.pointer (some ⟨p,0,none⟩),(kidV k9 n9 m9 a9 (.slice o9 l9 c9))] w4 (zam p g cap ts d (mixIs (fun b=>w1.heap.size<=b∧b<w2.heap.size) w4.heap.size) (zdu k9 (.node k9 n9 m9 a9 ks9) (PSof ts i full)) w4)) :=
     zee p g cap ts HE.out i d full k9 n9 m9 a9 ks9 o9 l9 c9 (fun b=>w1.heap.size<=b∧b<w2.heap.size) w4 Ax.out (fun b hb=>by have:=HP.out.1;have:=Ah.out;have:=hB4.size;omega) (Bo.out.below hB4)
    obtain ⟨rz,hrz⟩:∃ r,zdu k9 (.node k9 n9 m9 a9 ks9) (PSof ts i full)=r:=⟨_,rfl⟩
    have Ad:=hid (HR2'.out.trans hrz)
    rw [hrz] at Ay
    clear hrz hB4
    unfold kidV at Ay
    go_wp2_with fail
    refine Ay.out.mono ?_
    cases rz with
    | no why at_ =>
     rintro e w99 ⟨rfl,hS⟩
     have Aa:=hid (Bp.out.trans hS)
     clear hS
     go_wp2
     refine ⟨rfl,?_⟩
     rw [Ad.out]
     exact ⟨rfl,Aa.out⟩
    | ok tw st =>
     rintro e w6 ⟨v,i,full,rfl,hT,rfl,hP,hS⟩
     obtain ⟨k8,n8,m8,a8,ks8⟩:=tw
     obtain ⟨sl,rfl,hL⟩:=zaf.1 hT
     obtain ⟨o8,l8,c8,rfl⟩:=hL.shape
     have hlt:=Ah.out.1
     have hl2:=Bq.out.lt
     have Aq:=hid hP
     have Ak:=hid (Bp.out.trans hS)
     have Az:=hid (Bq.out.sole HP.out.1 hS)
     have Bx:Hid (zab (fun b=>w.heap.size<b) w6 ks8 (.slice o8 l8 c8)):=hL.weaken (fun b h=>by
      rcases h with h|h
      · omega
      · omega)
     clear hP hS hT hL hlt hl2
     unfold kidV
     obtain ⟨⟨z0,z1,z2,z3,z4⟩,⟨y0,y1,y2,y3,y4⟩⟩:=zaa Az.out.1
     go_wp2
     refine ret5 z0 z1 z2 z3 z4 rfl (fun u q0 q1 q2 q3 q4=>by simp [results,Tryz.results70,go_sem,q0,q1,q2,q3,q4]) Az.out.2 Ak.out ?_
     intro wz hf
     rw [Ad.out]
     have hr2:=Az.out.2
     have hpg:=HP.out
     exact ⟨_,_,_,rfl,za4 Bx.out (fun b h=>Nat.le_of_lt h) (fun b h=>Nat.ne_of_gt h) hf.2,rfl,Aq.out.sole_but (by omega) (by omega) hf.2,hf.1⟩
  · rw [hse] at Ab
    have hix:=HE.out.sees Ap.out.il (t:=[42]) (by simp) hse
    obtain ⟨rt,hrt⟩:∃ r,(PSof ts i full).take=r:=⟨_,rfl⟩
    have Ad:Hid (R=rt.bind fun _ s=>(zcr s).bind fun n s=>.ok (named 17 n [(.node k9 n9 m9 a9 ks9)]) s):=by
     show _=_
     rw [Aw.out,<- hrt]
     show (if _ then _ else _)=_
     rw [hse,if_pos rfl]
    clear hse
    go_wp2_with fail
    clear hw3
    refine Ab.out.mono ?_
    rintro e w4 ⟨rfl,hB4⟩
    have Ax:=hid (Ap.out.below hB4)
    have Br:=hid (Bn.out.trans (Sole.of_below hB4))
    have Ba:=hid (Ai.out.below hB4)
    have Bb:=hid (Aj.out.below hB4)
    have Bz:=hid (Bo.out.below hB4)
    have Ac:=hid hB4.size
    have Bs:=hid (zdm p g cap ts i d full w4 Ax.out hix)
    rw [hrt] at Bs
    clear hrt hix hB4
    go_wp2_with fail
    refine Bs.out.mono ?_
    cases rt with
    | no why at_ =>
     rintro e w99 ⟨rfl,hS⟩
     have Aa:=hid (Br.out.trans hS)
     clear hS
     go_wp2
     refine ⟨rfl,?_⟩
     rw [Ad.out]
     exact ⟨rfl,Aa.out⟩
    | ok tk9 st =>
     rintro e w5 ⟨v,i,full,rfl,rfl,rfl,hP,hS⟩
     have hp:=HP.out.1
     have hlt:=Ah.out
     have h34:=Ac.out
     have Ar:=hid (Br.out.trans hS)
     have Bc:=hid (Ba.out.sole hp hS)
     have Ae:=hid (Bb.out.sole hp hS)
     have Ca:=hid (Bz.out.sole (fun b h=>by omega) hS)
     have Af:=hid hS.size
     have Bd:Hid (∀ wx,Below w5.heap.size w5 wx->Calls Tryz.prog 108 #[.pointer (some ⟨p,0,none⟩)] wx (zam p g cap ts d zfk (zcr (PSof ts i full)) wx)):=fun wx hB=>zcm p g cap ts HE.out i d full _ (hP.below hB)
     obtain ⟨rv,hrv⟩:∃ r,zcr (PSof ts i full)=r:=⟨_,rfl⟩
     have Be:Hid (R=rv.bind fun n s=>.ok (named 17 n [(.node k9 n9 m9 a9 ks9)]) s):=by
      show _=_
      rw [Ad.out,<- hrv];rfl
     rw [hrv] at Bd
     obtain ⟨⟨v0,v1,v2,v3,v4⟩,_⟩:=zaa Ae.out.1
     obtain ⟨wq5,hwq5⟩:∃ x,w5.alloc (.cells #[.int .i64 k9,.string ⟨n9.toArray⟩,.int .i64 m9,.int .i64 a9,.slice o9 l9 c9] 29)=x:=⟨_,rfl⟩
     have hb5:Below w5.heap.size w5 wq5:=by rw [<- hwq5];exact zac _ _
     have Au:=hid hb5
     have Cb:Hid (Kep w wq5 w5.heap.size (kidO k9 n9 m9 a9 (.slice o9 l9 c9))):=by show Kep w wq5 _ _;rw [<- hwq5];exact Kep.new Ar.out.size _
     obtain ⟨⟨g0,g1,g2,g3,g4⟩,_⟩:=zaa (Ae.out.below hb5).1
     clear hP hS hp hrv hlt h34 hb5
     unfold tokV
     go_wp2_with fail
     cases rv with
     | no why at_ =>
      go_region_dies
      all_goals (
       refine (Bd.out _ ?_).mono ?_
       · first|exact zaj (Below.refl _ _) 1|exact zaj Au.out 1
       · rintro e w9 ⟨rfl,hS⟩
         refine ⟨rfl,?_⟩
         rw [Be.out]
         first
          | exact ⟨rfl,Ar.out.trans ((Sole.of_below (zaj (Below.refl _ _) 1)).trans hS)⟩
          | exact ⟨rfl,Ar.out.trans ((Sole.of_below (zaj Au.out 1)).trans hS)⟩)
     | ok t st =>
      go_region_with (first
       | (go_at_call 108
          refine (Bd.out _ ?_).mono ?_
          (first|exact zaj (Below.refl _ _) 1|exact zaj Au.out 1)
          rintro e w6 ⟨v,i,full,rfl,rfl,rfl,hP,hS0⟩
          have hp:=HP.out.1
          have hlt:=Ah.out
          have h34:=Ac.out
          have h45:=Af.out
          have hS:Sole p w5 w6:=by first|exact (Sole.of_below (zaj (Below.refl _ _) 1)).trans hS0|exact (Sole.of_below (zaj Au.out 1)).trans hS0
          have Aq:=hid hP
          have Ak:=hid (Ar.out.trans hS)
          have Al:=hid (Bc.out.sole hp hS)
          have Am:=hid (Ae.out.sole hp hS)
          have Bt:=hid (Ca.out.sole (fun b h=>by omega) hS)
          (first|(have Cc:Hid (Kep w w6 w5.heap.size (kidO k9 n9 m9 a9 (.slice o9 l9 c9))):=Kep.sole (cur:=wq5.drewN 1) Cb.out hp hS0)|skip)
          have An:=hid hS.size
          obtain ⟨⟨c0,c1,c2,c3,c4⟩,_⟩:=zaa Am.out.1
          obtain ⟨wq6,hwq6⟩:∃ x,w6.alloc (.cells #[.int .i64 k9,.string ⟨n9.toArray⟩,.int .i64 m9,.int .i64 a9,.slice o9 l9 c9] 29)=x:=⟨_,rfl⟩
          have hb6:Below w6.heap.size w6 wq6:=by rw [<- hwq6];exact zac _ _
          have Ao:=hid hb6
          have Bf:Hid (Kep w wq6 w6.heap.size (kidO k9 n9 m9 a9 (.slice o9 l9 c9))):=by show Kep w wq6 _ _;rw [<- hwq6];exact Kep.new Ak.out.size _
          obtain ⟨⟨d0,d1,d2,d3,d4⟩,_⟩:=zaa (Am.out.below hb6).1
          clear hP hS hS0 hp hlt h34 h45 hb6
          unfold tokV)
       | (go_at_call_of 109 (Value.slice (some (Addr.mk w6.heap.size 0 none)) 1 1)
          refine (zdh 17 t (some ⟨w6.heap.size,0,none⟩) 1 1 wq6).mono ?_
          rintro e w9 ⟨rfl,hB9⟩
          have hbb:Below w6.heap.size w6 w9:=Ao.out.trans (hB9.mono Ao.out.size)
          have Bg:=hid (Aq.out.below hbb)
          have Bh:=hid (Ak.out.trans (Sole.of_below hbb))
          have Ag:=hid (Al.out.below hbb)
          have Av:Hid (zab (fun b=>w.heap.size<b) w9 [(.node k9 n9 m9 a9 ks9)] (.slice (some ⟨w6.heap.size,0,none⟩) 1 1)):=by
           have hlt:=Ah.out
           have h34:=Ac.out
           have h45:=Af.out
           have h56:=An.out
           refine zbh (Bf.out.below hB9).1 (by simp) (by omega) (za3 ((Bt.out.below hbb).weaken (fun b h=>?_)))
           omega
          obtain ⟨⟨z0,z1,z2,z3,z4⟩,⟨y0,y1,y2,y3,y4⟩⟩:=zaa Ag.out.1
          clear hB9 hbb
          unfold kidV)
       | (go_at_call_of 109 (Value.slice (some (Addr.mk w5.heap.size 0 none)) 1 1)
          refine (zdh 17 t (some ⟨w5.heap.size,0,none⟩) 1 1 w6).mono ?_
          rintro e w9 ⟨rfl,hB9⟩
          have Bg:=hid (Aq.out.below hB9)
          have Bh:=hid (Ak.out.trans (Sole.of_below hB9))
          have Ag:=hid (Al.out.below hB9)
          have Av:Hid (zab (fun b=>w.heap.size<b) w9 [(.node k9 n9 m9 a9 ks9)] (.slice (some ⟨w5.heap.size,0,none⟩) 1 1)):=by
           have hlt:=Ah.out
           have h34:=Ac.out
           have h45:=Af.out
           have h56:=An.out
           have hq:Kep w w6 w5.heap.size (kidO k9 n9 m9 a9 (.slice o9 l9 c9)):=Cc.out
           refine zbh (hq.below hB9).1 (by simp) (by omega) (za3 ((Bt.out.below hB9).weaken (fun b h=>?_)))
           omega
          obtain ⟨⟨z0,z1,z2,z3,z4⟩,⟨y0,y1,y2,y3,y4⟩⟩:=zaa Ag.out.1
          clear hB9
          unfold kidV))
      all_goals (
       first
       | (
          have hgd:=(show zab _ w9 _ (Value.slice (some ⟨w6.heap.size,0,none⟩) 1 1) from Av.out)
          clear hgd
          go_wp2
          refine ret5 z0 z1 z2 z3 z4 rfl (fun u q0 q1 q2 q3 q4=>by simp [results,Tryz.results70,go_sem,q0,q1,q2,q3,q4]) Ag.out.2 Bh.out ?_
          intro wz hf
          rw [Be.out]
          have hr2:=Ag.out.2
          have hpg:=HP.out
          exact ⟨_,_,_,rfl,za4 Av.out (fun b h=>Nat.le_of_lt h) (fun b h=>Nat.ne_of_gt h) hf.2,rfl,Bg.out.sole_but (by omega) (by omega) hf.2,hf.1⟩
        )
       | (
          go_wp2
          refine ret5 z0 z1 z2 z3 z4 rfl (fun u q0 q1 q2 q3 q4=>by simp [results,Tryz.results70,go_sem,q0,q1,q2,q3,q4]) Ag.out.2 Bh.out ?_
          intro wz hf
          rw [Be.out]
          have hr2:=Ag.out.2
          have hpg:=HP.out
          exact ⟨_,_,_,rfl,za4 Av.out (fun b h=>Nat.le_of_lt h) (fun b h=>Nat.ne_of_gt h) hf.2,rfl,Bg.out.sole_but (by omega) (by omega) hf.2,hf.1⟩
        ))
theorem zm3 (p g cap:Nat) (ts:List Tok) (hE:Ends ts) (d:Int) (B:PS->Ans Tree) (hW:zd4 p g cap ts d 113 (zds B)):zd4 p g cap ts d 70 (zco B):=by
 intro i full w h hba
 have hd:=zb6 ts i full h.il
 unfold zco
 cases h1:(PSof ts i full).sees ze4
 · rw [if_neg (by simp)]
   cases h2:(PSof ts i full).sees ze3
   · rw [if_neg (by simp)]
     unfold PS.sees at h1 h2
     rw [hd] at h1 h2
     exact zlz p g cap ts hE d B hW i full w h hba h1 h2
   · rw [if_pos rfl]
     unfold PS.sees at h1 h2
     rw [hd] at h1 h2
     exact zjx p g cap ts hE d i full w h h1 h2
 · rw [if_pos rfl]
   unfold PS.sees at h1
   rw [hd] at h1
   exact zjy p g cap ts hE d i full w h h1
theorem Sole.grownO {p:Nat} {w cur nxt:World} {row:Option Nat} (h:Sole p w cur) (hg:cur.grownBy nxt row) (hq:∀ q,row=some q->w.heap.size<=q):Sole p w nxt :=
 ⟨hg.os.trans h.os,hg.tape.trans h.tape,hg.output.trans h.output,Nat.le_trans h.size hg.size,fun b hb hp=>(hg.block b (Nat.lt_of_lt_of_le hb h.size) (fun e=>by have:=hq b e.symm;omega)).trans (h.block b hb hp)⟩
theorem PP.grownO {w nxt:World} {p g cap:Nat} {ts:List Tok} {i:Nat} {d:Int} {full:Bool} (h:PP w p g cap ts i d full) {row:Option Nat} (hg:w.grownBy nxt row) (hp:row≠some p) (hgq:row≠some g):PP nxt p g cap ts i d full :=
 h.of_blocks (hg.block p h.plt (fun e=>hp e.symm)) (hg.block g h.glt (fun e=>hgq e.symm))
theorem Kep.grownO {w cur nxt:World} {b:Nat} {o:Obj} (h:Kep w cur b o) {row:Option Nat} (hg:cur.grownBy nxt row) (hne:row≠some b):Kep w nxt b o:=⟨(hg.block b h.lt (fun e=>hne e.symm)).trans h.1,h.2⟩
/-- a list's block is there -/
theorem zab.own_lt {A:Nat->Prop} {w:World} {ks:List Tree} {sl:Value} (h:zab A w ks sl) {q:Nat} (e:sl.ownBlock=some q):A q∧q<w.heap.size:=by
 obtain ⟨xs,ho,hA,_⟩:=h
 exact ⟨hA q e,(ho.lt q e).2⟩
def sliceLen:Value->Nat
 | .slice _ n _=>n
 | _=>0
/-- what is full fails -/
def zb9 {α:Type} (F:PS->Ans α):Prop:=∀ s,s.full=true->∃ e a,F s=.no e a
theorem zgr (ts:List Tok) (i:Nat) (full:Bool):(PSof ts i full).full=full:=rfl
/-- the function with that number has a body -/
def zgs (N:Nat):Prop:=∀ (args:Array Value) (w:World),(callFunc N args).run Tryz.prog w=.ok (.enter N args) w
set_option maxHeartbeats 2000000 in
set_option maxRecDepth 4000 in
theorem some_any (p g cap:Nat) (ts:List Tok) (d:Int) (M:Nat) (F:PS->Ans Tree) (hO:zd4 p g cap ts d M F) (hF:zb9 F) (hM:zgs M) (b c:Nat) (ws:List (List UInt8)) (hl:ws.length<=2) (i0:Nat) (full0:Bool) (w:World) (h:PP w p g cap ts i0 d full0) (hba:zbo p w) (hb:b≠p) (hbl:b<w.heap.size)
 (hw:∀ j (hj:j<ws.length),w.cell? ⟨b,j,none⟩=some (.string ⟨(ws[j]).toArray⟩)) :
 Calls Tryz.prog 117 #[.pointer (some ⟨p,0,none⟩),.func (.func M) #[.pointer (some ⟨p,0,none⟩)] #[],.slice (some ⟨b,0,none⟩) ws.length c] w (zam p g cap ts d (zbg w.heap.size) (zcu F ws 66 [] (PSof ts i0 full0)) w):=by
 have HP:=hid2 h.plt h.glt
 have Ak:=hid hba
 have HO:=hid hO
 have HF:=hid hF
 have H:=hid h
 have HW:Hid (∀ w1,Sole p w w1->b<w1.heap.size∧∀ j (hj:j<ws.length),w1.cell? ⟨b,j,none⟩=some (.string ⟨(ws[j]).toArray⟩)):=fun w1 hS=>⟨Nat.lt_of_lt_of_le hbl hS.size,fun j hj=>by rw [(zad (hS.block b hbl hb) j).1];exact hw j hj⟩
 have Bh:Hid (∀ w1 i full,Sole p w w1->PP w1 p g cap ts i d full->Calls Tryz.prog 149 #[.pointer (some ⟨p,0,none⟩),.slice (some ⟨b,0,none⟩) ws.length c] w1 fun e w'=>e=.returned (.bool (ws.any (PSof ts i full).sees))∧Below w1.heap.size w1 w'):=fun w1 i full hS hP=>seesAny_any p g cap ts i d full b c ws w1 hP (HW.out w1 hS).1 (HW.out w1 hS).2 hl
 obtain ⟨R,hR⟩:∃ R,zcu F ws 66 [] (PSof ts i0 full0)=R:=⟨_,rfl⟩
 rw [hR]
 have Bj:=hid hR.symm
 obtain ⟨inf,hi1,hi2,hi3,hi4⟩:=zfd
 have HI:=hid4 hi1 hi2 hi3 hi4
 obtain ⟨WL,hWL⟩:∃ x,ws.length=x:=⟨_,rfl⟩
 rw [hWL] at Bh ⊢
 have hmm:=hM
 unfold zgs at hmm
 clear h hba hO hF hw hb hbl hR hi1 hi2 hi3 hi4 hM hl
 go_enter Tryz.func117,Tryz.ntmps117
 go_wp2
 go_loopw [7] (fun sl wr=>∃ (acc:List Tree) (N:Nat) (oq:Option Addr) (cq:Nat) (ix:Nat) (full:Bool),sl=.slice oq N cq∧acc.length=N∧N<=64∧Hid (PP wr p g cap ts ix d full)∧Hid (Sole p w wr)∧Hid (zbg w.heap.size acc wr (.slice oq N cq))∧Hid (R=zcu F ws (66 - N) acc (PSof ts ix full))) (fun sl _=>65 - sliceLen sl)
 case atStart=>exact ⟨[],0,none,0,i0,full0,rfl,rfl,by omega,H,Sole.refl p w,zbe,Bj⟩
 case round =>
  obtain ⟨acc,N,oq,cq,ix,full,rfl,hN1,hN2,Al,Am,Ao,Bl⟩:=hrel
  have HN:=hid2 hN1 hN2
  have Ap:Hid (R=if acc.isEmpty||!(ws.any (PSof ts ix full).sees) then (F ((PSof ts ix full).room N 64)).bind fun t s=>zcu F ws (65 - N) (acc++[t]) s else .ok acc (PSof ts ix full)):=by
   show _=_
   rw [Bl.out,show 66 - N=(65 - N)+1 by omega,zcu,hN1]
  have Bi:Hid (acc.isEmpty=decide (N=0)):=by
   show _=_
   rw [<- hN1]
   cases acc <;> simp
  have Br:=hid hWL
  clear hN1 hN2
  by_cases h0:N=0
  · have hz:((N:Int)==0)=true:=by simp [h0]
    have Aq:Hid (acc.isEmpty=true):=by show _=_;rw [Bi.out];simp [h0]
    have Ae:=hid Al
    have Ar:=hid (zhm p g cap ts ix d full N 64 wr Ae.out)
    obtain ⟨rv,hrv⟩:∃ r,F (PSof ts ix (zfm full N 64))=r:=⟨_,rfl⟩
    have Af:Hid (R=rv.bind fun t s=>zcu F ws (65 - N) (acc++[t]) s):=by
     show _=_
     rw [Ap.out,if_pos (by rw [Aq.out];rfl)]
     rw [<- hrv,zgq]
    have Au:Hid (∀ t s,rv=.ok t s->N+1<=64):=fun t s e=>by
     rcases Nat.lt_or_ge N 64 with h1|h1
     · exact h1
     · have hNN:=HN.out
       have hN64:N=64:=by omega
       obtain ⟨x,y,hx⟩:=HF.out (PSof ts ix (zfm full N 64)) (by rw [zgr];unfold zfm;simp [hN64])
       rw [<- hrv,hx] at e
       cases e
    have Av:Hid (∀ w1,PP w1 p g cap ts ix d (zfm full N 64)->zbo p w1->Calls Tryz.prog M #[.pointer (some ⟨p,0,none⟩)] w1 (zam p g cap ts d (zah w1.heap.size) rv w1)):=fun w1 h1 h2=>by
     rw [<- hrv]
     exact HO.out ix _ w1 h1 h2
    clear hrv
    clear h0 hWL
    go_wp2_with fail
    refine Ar.out.mono ?_
    rintro e wc ⟨rfl,hP,hS,hz2⟩
    have Aw:=hid hP
    have Ab:=hid (Am.out.trans hS)
    have Ag:=hid (Ak.out.sole Ab.out)
    have Ah:Hid (zab (zak w.heap.size) wc acc (.slice oq N cq)):=zab.sole Ao.out (fun b h=>by have h1:w.heap.size<=b:=h;have:=HP.out;omega) hS
    clear hP hS hz2
    go_wp2_with fail
    refine (Av.out wc Aw.out Ag.out).mono ?_
    cases rv with
    | no why at_ =>
     rintro e w99 ⟨rfl,hS⟩
     have Ac:=hid (Ab.out.trans hS)
     clear hS
     go_wp2
     refine ⟨rfl,?_⟩
     rw [Af.out]
     exact ⟨rfl,Ac.out⟩
    | ok tv st =>
     rintro e w3 ⟨v,i,full,rfl,hT,rfl,hP,hS⟩
     have Ax:=hid (Au.out _ _ rfl)
     obtain ⟨k8,n8,m8,a8,ks8⟩:=tv
     obtain ⟨sl,rfl,hL⟩:=zaf.1 hT
     obtain ⟨o8,l8,c8,rfl⟩:=hL.shape
     obtain ⟨wb,hwb⟩:∃ x,w3.alloc (.cells #[.int .i64 k8,.string ⟨n8.toArray⟩,.int .i64 m8,.int .i64 a8,.slice o8 l8 c8] 29)=x:=⟨_,rfl⟩
     have hBb:Below w3.heap.size w3 wb:=by rw [<- hwb];exact zac _ _
     have hp:=HP.out
     have hl3:zab (zak w.heap.size) wb acc (.slice oq N cq):=(Ah.out.sole (fun b h=>by have h1:w.heap.size<=b:=h;omega) hS).below hBb
     obtain ⟨xs,how,hAq,hrq⟩:=hl3
     have Aa:Hid (∀ q,(Value.slice oq N cq).ownBlock=some q->w.heap.size<=q∧q<wc.heap.size):=fun q e=>Ah.out.own_lt e
     rw [HN.out.1] at how
     have Ay:=hid how
     have Az:=hid hrq
     have Ba:Hid (wb.heap[w3.heap.size]?=some (.cells #[.int .i64 k8,.string ⟨n8.toArray⟩,.int .i64 m8,.int .i64 a8,.slice o8 l8 c8] 29 (0,0))):=by show _=_;rw [<- hwb];exact heap_alloc_new _ _
     have Bb:=hid (zae.below hT hBb)
     have Bc:=hid (hP.below hBb)
     have Ai:=hid ((Ab.out.trans hS).trans (Sole.of_below hBb))
     have Bm:=hid ((Ag.out.sole hS).below hBb)
     have Bn:Hid (wc.heap.size<=w3.heap.size∧w3.heap.size<wb.heap.size):=⟨hS.size,by rw [<- hwb];simp⟩
     clear hP hS hT hL hBb hp how hAq hrq
     unfold kidV
     go_wp2_with (at_builtin;refine wpList_append_lies _ rfl _ _ 27 rfl 0 29 inf (.agg #[.int .i64 0,.string ⟨#[]⟩,.int .i64 0,.int .i64 0,.slice none 0 0]) 5 64 Tryz.underlying27 HI.out.1 HI.out.2.1 HI.out.2.2.1 HI.out.2.2.2 rfl (by decide) (.slice oq N cq) N xs rfl Ay.out ⟨w3.heap.size,0,none⟩ 1 1 [.int .i64 k8,.string ⟨n8.toArray⟩,.int .i64 m8,.int .i64 a8,.slice o8 l8 c8] rfl rfl (World.news_of_block (cs:=#[.int .i64 k8,.string ⟨n8.toArray⟩,.int .i64 m8,.int .i64 a8,.slice o8 l8 c8]) (t:=29) (fr:=(0,0)) Ba.out) (by simp [Value.oneCell']) (by decide) (by have:=HN.out;unfold maxLen;omega) (by have:=HN.out;omega) (Nat.zero_le _) _ rfl ?_;intro gq cq2 w4 hown hgrow hat hlt;have HG:Hid (wb.grownBy w4 (Value.slice oq N cq).ownBlock∧w4.ownsRow 0 29 5 (.slice (some ⟨gq,0,none⟩) (N+1) cq2) (N+1) (xs++[.int .i64 k8,.string ⟨n8.toArray⟩,.int .i64 m8,.int .i64 a8,.slice o8 l8 c8])∧((Value.slice oq N cq).ownBlock=some gq∨gq=wb.heap.size)):=⟨hgrow,hown,hat⟩;clear hown hgrow hat hlt)
     clear hwb
     have hp:=HP.out
     have Bd:Hid (PP w4 p g cap ts i d full):=Bc.out.grownO HG.out.1 (fun e=>by have:=Aa.out p e;omega) (fun e=>by have:=Aa.out g e;omega)
     have Aj:=hid (Ai.out.grownO HG.out.1 (fun q e=>(Aa.out q e).1))
     have Bo:=hid (Ak.out.sole Aj.out)
     have Be:Hid (zbg w.heap.size (acc++[(.node k8 n8 m8 a8 ks8)]) w4 (.slice (some ⟨gq,0,none⟩) (N+1) cq2)):=by
      refine zbv (sl:=.slice oq N cq) (fun q e=>(Aa.out q e).1) Az.out (za3 (Bb.out.weaken (fun b h=>?_))) (by rw [HN.out.1];exact HG.out.2.1) HG.out.1 wb.heap.size (Nat.le_refl _) Ai.out.size ?_
      · have h1:wc.heap.size<=b:=h
        have h2:=Ab.out.size
        exact ⟨by show w.heap.size<=b;omega,fun e=>by have:=(Aa.out b e).2;omega⟩
      · rcases HG.out.2.2 with e|e
        · exact Or.inl e.symm
        · exact Or.inr (by rw [e];rfl)
     have hNN:=HN.out
     have Ad:Hid (R=zcu F ws (66 - (N+1)) (acc++[(.node k8 n8 m8 a8 ks8)]) (PSof ts i full)):=by
      show _=_
      rw [show 66 - (N+1)=65 - N by omega]
      exact Af.out
     clear hp
     go_roundw
     case rel=>exact ⟨acc++[(.node k8 n8 m8 a8 ks8)],N+1,some ⟨gq,0,none⟩,cq2,i,full,by go_num,by simp [hNN.1],Ax.out,Bd,Aj,Be,Ad⟩
     case measure=>simp [sliceLen];omega
  · have hz:((N:Int)==0)=false:=by simp;omega
    have Aq:Hid (acc.isEmpty=false):=by show _=_;rw [Bi.out];simp [h0]
    have An:=hid (Bh.out wr ix full Am.out Al.out)
    clear h0 hWL
    cases hse:ws.any (PSof ts ix full).sees
    · rw [hse] at An
      have Bp:Hid ((acc.isEmpty||!(ws.any (PSof ts ix full).sees))=true):=by show _=_;rw [hse];simp
      clear hse
      go_wp2_with fail
      refine An.out.mono ?_
      rintro e wv ⟨rfl,hB⟩
      have Ae:=hid (Al.out.below hB)
      have Bf:=hid (Am.out.trans (Sole.of_below hB))
      have Bg:=hid (zab.below Ao.out hB)
      clear hB
      have Ar:=hid (zhm p g cap ts ix d full N 64 wv Ae.out)
      obtain ⟨rv,hrv⟩:∃ r,F (PSof ts ix (zfm full N 64))=r:=⟨_,rfl⟩
      have Af:Hid (R=rv.bind fun t s=>zcu F ws (65 - N) (acc++[t]) s):=by
       show _=_
       rw [Ap.out,if_pos Bp.out]
       rw [<- hrv,zgq]
      have Au:Hid (∀ t s,rv=.ok t s->N+1<=64):=fun t s e=>by
       rcases Nat.lt_or_ge N 64 with h1|h1
       · exact h1
       · have hNN:=HN.out
         have hN64:N=64:=by omega
         obtain ⟨x,y,hx⟩:=HF.out (PSof ts ix (zfm full N 64)) (by rw [zgr];unfold zfm;simp [hN64])
         rw [<- hrv,hx] at e
         cases e
      have Av:Hid (∀ w1,PP w1 p g cap ts ix d (zfm full N 64)->zbo p w1->Calls Tryz.prog M #[.pointer (some ⟨p,0,none⟩)] w1 (zam p g cap ts d (zah w1.heap.size) rv w1)):=fun w1 h1 h2=>by
       rw [<- hrv]
       exact HO.out ix _ w1 h1 h2
      clear hrv
      go_wp2_with fail
      refine Ar.out.mono ?_
      rintro e wc ⟨rfl,hP,hS,hz2⟩
      have Aw:=hid hP
      have Ab:=hid (Bf.out.trans hS)
      have Ag:=hid (Ak.out.sole Ab.out)
      have Ah:Hid (zab (zak w.heap.size) wc acc (.slice oq N cq)):=zab.sole Bg.out (fun b h=>by have h1:w.heap.size<=b:=h;have:=HP.out;omega) hS
      clear hP hS hz2
      go_wp2_with fail
      refine (Av.out wc Aw.out Ag.out).mono ?_
      cases rv with
      | no why at_ =>
       rintro e w99 ⟨rfl,hS⟩
       have Ac:=hid (Ab.out.trans hS)
       clear hS
       go_wp2
       refine ⟨rfl,?_⟩
       rw [Af.out]
       exact ⟨rfl,Ac.out⟩
      | ok tv st =>
       rintro e w3 ⟨v,i,full,rfl,hT,rfl,hP,hS⟩
       have Ax:=hid (Au.out _ _ rfl)
       obtain ⟨k8,n8,m8,a8,ks8⟩:=tv
       obtain ⟨sl,rfl,hL⟩:=zaf.1 hT
       obtain ⟨o8,l8,c8,rfl⟩:=hL.shape
       obtain ⟨wb,hwb⟩:∃ x,w3.alloc (.cells #[.int .i64 k8,.string ⟨n8.toArray⟩,.int .i64 m8,.int .i64 a8,.slice o8 l8 c8] 29)=x:=⟨_,rfl⟩
       have hBb:Below w3.heap.size w3 wb:=by rw [<- hwb];exact zac _ _
       have hp:=HP.out
       have hl3:zab (zak w.heap.size) wb acc (.slice oq N cq):=(Ah.out.sole (fun b h=>by have h1:w.heap.size<=b:=h;omega) hS).below hBb
       obtain ⟨xs,how,hAq,hrq⟩:=hl3
       have Aa:Hid (∀ q,(Value.slice oq N cq).ownBlock=some q->w.heap.size<=q∧q<wc.heap.size):=fun q e=>Ah.out.own_lt e
       rw [HN.out.1] at how
       have Ay:=hid how
       have Az:=hid hrq
       have Ba:Hid (wb.heap[w3.heap.size]?=some (.cells #[.int .i64 k8,.string ⟨n8.toArray⟩,.int .i64 m8,.int .i64 a8,.slice o8 l8 c8] 29 (0,0))):=by show _=_;rw [<- hwb];exact heap_alloc_new _ _
       have Bb:=hid (zae.below hT hBb)
       have Bc:=hid (hP.below hBb)
       have Ai:=hid ((Ab.out.trans hS).trans (Sole.of_below hBb))
       have Bm:=hid ((Ag.out.sole hS).below hBb)
       have Bn:Hid (wc.heap.size<=w3.heap.size∧w3.heap.size<wb.heap.size):=⟨hS.size,by rw [<- hwb];simp⟩
       clear hP hS hT hL hBb hp how hAq hrq
       unfold kidV
       go_wp2_with (at_builtin;refine wpList_append_lies _ rfl _ _ 27 rfl 0 29 inf (.agg #[.int .i64 0,.string ⟨#[]⟩,.int .i64 0,.int .i64 0,.slice none 0 0]) 5 64 Tryz.underlying27 HI.out.1 HI.out.2.1 HI.out.2.2.1 HI.out.2.2.2 rfl (by decide) (.slice oq N cq) N xs rfl Ay.out ⟨w3.heap.size,0,none⟩ 1 1 [.int .i64 k8,.string ⟨n8.toArray⟩,.int .i64 m8,.int .i64 a8,.slice o8 l8 c8] rfl rfl (World.news_of_block (cs:=#[.int .i64 k8,.string ⟨n8.toArray⟩,.int .i64 m8,.int .i64 a8,.slice o8 l8 c8]) (t:=29) (fr:=(0,0)) Ba.out) (by simp [Value.oneCell']) (by decide) (by have:=HN.out;unfold maxLen;omega) (by have:=HN.out;omega) (Nat.zero_le _) _ rfl ?_;intro gq cq2 w4 hown hgrow hat hlt;have HG:Hid (wb.grownBy w4 (Value.slice oq N cq).ownBlock∧w4.ownsRow 0 29 5 (.slice (some ⟨gq,0,none⟩) (N+1) cq2) (N+1) (xs++[.int .i64 k8,.string ⟨n8.toArray⟩,.int .i64 m8,.int .i64 a8,.slice o8 l8 c8])∧((Value.slice oq N cq).ownBlock=some gq∨gq=wb.heap.size)):=⟨hgrow,hown,hat⟩;clear hown hgrow hat hlt)
       clear hwb
       have hp:=HP.out
       have Bd:Hid (PP w4 p g cap ts i d full):=Bc.out.grownO HG.out.1 (fun e=>by have:=Aa.out p e;omega) (fun e=>by have:=Aa.out g e;omega)
       have Aj:=hid (Ai.out.grownO HG.out.1 (fun q e=>(Aa.out q e).1))
       have Bo:=hid (Ak.out.sole Aj.out)
       have Be:Hid (zbg w.heap.size (acc++[(.node k8 n8 m8 a8 ks8)]) w4 (.slice (some ⟨gq,0,none⟩) (N+1) cq2)):=by
        refine zbv (sl:=.slice oq N cq) (fun q e=>(Aa.out q e).1) Az.out (za3 (Bb.out.weaken (fun b h=>?_))) (by rw [HN.out.1];exact HG.out.2.1) HG.out.1 wb.heap.size (Nat.le_refl _) Ai.out.size ?_
        · have h1:wc.heap.size<=b:=h
          have h2:=Ab.out.size
          exact ⟨by show w.heap.size<=b;omega,fun e=>by have:=(Aa.out b e).2;omega⟩
        · rcases HG.out.2.2 with e|e
          · exact Or.inl e.symm
          · exact Or.inr (by rw [e];rfl)
       have hNN:=HN.out
       have Ad:Hid (R=zcu F ws (66 - (N+1)) (acc++[(.node k8 n8 m8 a8 ks8)]) (PSof ts i full)):=by
        show _=_
        rw [show 66 - (N+1)=65 - N by omega]
        exact Af.out
       clear hp
       go_roundw
       case rel=>exact ⟨acc++[(.node k8 n8 m8 a8 ks8)],N+1,some ⟨gq,0,none⟩,cq2,i,full,by go_num,by simp [hNN.1],Ax.out,Bd,Aj,Be,Ad⟩
       case measure=>simp [sliceLen];omega
    · rw [hse] at An
      have Bq:Hid (R=.ok acc (PSof ts ix full)):=by
       show _=_
       rw [Ap.out,if_neg]
       rw [hse,Aq.out];simp
      clear hse
      go_wp2_with fail
      refine An.out.mono ?_
      rintro e wv ⟨rfl,hB⟩
      have Ae:=hid (Al.out.below hB)
      have Bf:=hid (Am.out.trans (Sole.of_below hB))
      have Bg:=hid (zab.below Ao.out hB)
      clear hB
      go_wp2
      go_ret
      rw [Bq.out]
      exact ⟨_,ix,full,rfl,Bg.out,rfl,Ae.out,Bf.out⟩
set_option maxHeartbeats 2000000 in
set_option maxRecDepth 4000 in
theorem zml (p g cap:Nat) (ts:List Tok) (hE:Ends ts) (d:Int) (M:Nat) (F:PS->Ans Tree) (hO:zd4 p g cap ts d M F) (hM:zgs M) (most:Nat) (hm1:1<=most) (hm:most<=64) (i0:Nat) (full0:Bool) (w:World) (h:PP w p g cap ts i0 d full0) (hba:zbo p w) :
 Calls Tryz.prog 143 #[.pointer (some ⟨p,0,none⟩),.func (.func M) #[.pointer (some ⟨p,0,none⟩)] #[],.int .i64 most] w (zam p g cap ts d (zbg w.heap.size) (zfw F most (PSof ts i0 full0)) w):=by
 have HP:=hid2 h.plt h.glt
 have Ay:=hid hba
 have HE:=hid hE
 have HO:=hid hO
 have Am:=hid2 hm1 hm
 obtain ⟨R,hR⟩:∃ R,zfw F most (PSof ts i0 full0)=R:=⟨_,rfl⟩
 rw [hR]
 have Ab:=hid (hO i0 full0 w h hba)
 obtain ⟨r0,hr0⟩:∃ r,F (PSof ts i0 full0)=r:=⟨_,rfl⟩
 have An:Hid (R=r0.bind fun t s=>zh4 F most 66 [t] s):=by
  show _=_
  rw [<- hR,<- hr0];rfl
 rw [hr0] at Ab
 obtain ⟨inf,hi1,hi2,hi3,hi4⟩:=zfd
 have HI:=hid4 hi1 hi2 hi3 hi4
 have Ah:=hid (Sole.refl p w)
 have hmm:=hM
 unfold zgs at hmm
 clear h hba hO hR hi1 hi2 hi3 hi4 hE hM hm hm1 hr0
 go_enter Tryz.func143,Tryz.ntmps143
 go_wp2_with fail
 refine Ab.out.mono ?_
 cases r0 with
 | no why at_ =>
  rintro e w99 ⟨rfl,hS⟩
  have Aa:=hid (Ah.out.trans hS)
  clear hS
  go_wp2
  refine ⟨rfl,?_⟩
  rw [An.out]
  exact ⟨rfl,Aa.out⟩
 | ok tv st =>
  rintro e w1 ⟨v,i1,full1,rfl,hT,rfl,hP,hS⟩
  obtain ⟨k8,n8,m8,a8,ks8⟩:=tv
  obtain ⟨sl,rfl,hL⟩:=zaf.1 hT
  obtain ⟨o8,l8,c8,rfl⟩:=hL.shape
  obtain ⟨w2,hw2⟩:∃ x,w1.alloc (.cells #[.int .i64 k8,.string ⟨n8.toArray⟩,.int .i64 m8,.int .i64 a8,.slice o8 l8 c8] 29)=x:=⟨_,rfl⟩
  have hB2:Below w1.heap.size w1 w2:=by rw [<- hw2];exact zac _ _
  have Az:=hid (hP.below hB2)
  have Ba:=hid (hS.trans (Sole.of_below hB2))
  have Bb:Hid (zbg w.heap.size [(.node k8 n8 m8 a8 ks8)] w2 (.slice (some ⟨w1.heap.size,0,none⟩) 1 1)):=by
   have hs:=hS.size
   refine zbh (show w2.heap[w1.heap.size]?=some (zdw [.int .i64 k8,.string ⟨n8.toArray⟩,.int .i64 m8,.int .i64 a8,.slice o8 l8 c8]) from by rw [<- hw2];exact heap_alloc_new _ _) (by simp) hs (za3 ((zae.below (zah.made hT) hB2).weaken (fun b h=>⟨h.1,by omega⟩)))
  have Bc:=hid An.out
  clear hP hS hT hL hB2
  unfold kidV
  go_wp2
  clear hw2
  go_loopw [7] (fun sl wr=>∃ (acc:List Tree) (N:Nat) (oq:Option Addr) (cq:Nat) (ix:Nat) (full:Bool),sl=.slice oq N cq∧acc.length=N∧N<=most∧Hid (PP wr p g cap ts ix d full)∧Hid (Sole p w wr)∧Hid (zbg w.heap.size acc wr (.slice oq N cq))∧Hid (R=zh4 F most (67 - N) acc (PSof ts ix full))) (fun sl _=>most+1 - sliceLen sl)
  case atStart=>exact ⟨[(.node k8 n8 m8 a8 ks8)],1,some ⟨w1.heap.size,0,none⟩,1,i1,full1,rfl,rfl,Am.out.1,Az,Ba,Bb,Bc⟩
  case round =>
   obtain ⟨acc,N,oq,cq,ix,full,rfl,hN1,hN2,Ae,Ao,Ap,Bd⟩:=hrel
   have hmo:=Am.out
   have HN:Hid (acc.length=N∧N<=64):=⟨hN1,by omega⟩
   have Be:=hid hN2
   have Aq:Hid (R=if (PSof ts ix full).sees [44] then ((PSof ts ix full).room N most).take.bind fun _ s=>(F s).bind fun t s=>zh4 F most (66 - N) (acc++[t]) s else .ok acc (PSof ts ix full)):=by
    show _=_
    rw [Bd.out,show 67 - N=(66 - N)+1 by omega,zh4,hN1]
   have Af:=hid (zf8 p g cap ts ix d full [44] wr Ae.out)
   clear hN1 hN2 hmo
   cases hse:(PSof ts ix full).sees [44]
   · rw [hse] at Af
     have Bf:Hid (R=.ok acc (PSof ts ix full)):=by
      show _=_
      rw [Aq.out,if_neg (by rw [hse];simp)]
     clear hse
     go_wp2_with fail
     refine Af.out.mono ?_
     rintro e wv ⟨rfl,hB⟩
     have Ai:=hid (Ae.out.below hB)
     have Aj:=hid (Ao.out.trans (Sole.of_below hB))
     have Ak:=hid (zab.below Ap.out hB)
     clear hB
     go_wp2
     go_ret
     rw [Bf.out]
     exact ⟨_,ix,full,rfl,Ak.out,rfl,Ai.out,Aj.out⟩
   · rw [hse] at Af
     have hix:=HE.out.sees Ae.out.il (t:=[44]) (by simp) hse
     obtain ⟨rt,hrt⟩:∃ r,(PSof ts ix (zfm full N most)).take=r:=⟨_,rfl⟩
     have Ac:Hid (R=rt.bind fun _ s=>(F s).bind fun t s=>zh4 F most (66 - N) (acc++[t]) s):=by
      show _=_
      rw [Aq.out,if_pos hse,zgq,hrt]
     have Bg:Hid (∀ t s,rt=.ok t s->N+1<=most):=fun t s e=>by
      rcases Nat.lt_or_ge N most with h1|h1
      · exact h1
      · have hNN:=Be.out
        have hN64:N=most:=by omega
        rw [<- hrt] at e
        unfold PS.take at e
        rw [show (PSof ts ix (zfm full N most)).full=true from by rw [zgr];unfold zfm;simp [hN64],if_pos rfl] at e
        cases e
     have Bh:Hid (∀ w1,PP w1 p g cap ts ix d (zfm full N most)->Calls Tryz.prog 69 #[.pointer (some ⟨p,0,none⟩)] w1 (zam p g cap ts d zfk rt w1)):=fun w1 h1=>by
      rw [<- hrt]
      exact zdm p g cap ts ix d _ w1 h1 hix
     clear hse hix hrt
     go_wp2_with fail
     refine Af.out.mono ?_
     rintro e wv ⟨rfl,hB⟩
     have Ai:=hid (Ae.out.below hB)
     have Aj:=hid (Ao.out.trans (Sole.of_below hB))
     have Ak:=hid (zab.below Ap.out hB)
     have Bi:=hid (zhm p g cap ts ix d full N most wv Ai.out)
     clear hB
     go_wp2_with fail
     refine Bi.out.mono ?_
     rintro e wt ⟨rfl,hP,hS,hz2⟩
     have Bj:=hid hP
     have Ar:=hid (Aj.out.trans hS)
     have Bl:Hid (zab (zak w.heap.size) wt acc (.slice oq N cq)):=zab.sole Ak.out (fun b h=>by have h1:w.heap.size<=b:=h;have:=HP.out;omega) hS
     clear hP hS hz2
     go_wp2_with fail
     refine (Bh.out wt Bj.out).mono ?_
     cases rt with
     | no why at_ =>
      rintro e w99 ⟨rfl,hS⟩
      have Aa:=hid (Ar.out.trans hS)
      clear hS
      go_wp2
      refine ⟨rfl,?_⟩
      rw [Ac.out]
      exact ⟨rfl,Aa.out⟩
     | ok tk st =>
      rintro e wc ⟨v,i2,full2,rfl,rfl,rfl,hP,hS⟩
      have Au:=hid (Bg.out _ _ rfl)
      have Bm:=hid hP
      have Ag:=hid (Ar.out.trans hS)
      have Bn:=hid (Ay.out.sole Ag.out)
      have Av:Hid (zab (zak w.heap.size) wc acc (.slice oq N cq)):=zab.sole Bl.out (fun b h=>by have h1:w.heap.size<=b:=h;have:=HP.out;omega) hS
      obtain ⟨rv,hrv⟩:∃ r,F (PSof ts i2 full2)=r:=⟨_,rfl⟩
      have Aw:Hid (R=rv.bind fun t s=>zh4 F most (66 - N) (acc++[t]) s):=by
       show _=_
       rw [Ac.out,<- hrv];rfl
      have Bo:Hid (∀ w1,PP w1 p g cap ts i2 d full2->zbo p w1->Calls Tryz.prog M #[.pointer (some ⟨p,0,none⟩)] w1 (zam p g cap ts d (zah w1.heap.size) rv w1)):=fun w1 h1 h2=>by
       rw [<- hrv]
       exact HO.out i2 full2 w1 h1 h2
      clear hP hS hrv
      unfold tokV
      go_wp2_with fail
      refine (Bo.out wc Bm.out Bn.out).mono ?_
      cases rv with
      | no why at_ =>
       rintro e w99 ⟨rfl,hS⟩
       have Aa:=hid (Ag.out.trans hS)
       clear hS
       go_wp2
       refine ⟨rfl,?_⟩
       rw [Aw.out]
       exact ⟨rfl,Aa.out⟩
      | ok tv st =>
       rintro e w3 ⟨v,i,full,rfl,hT,rfl,hP,hS⟩
       obtain ⟨k8,n8,m8,a8,ks8⟩:=tv
       obtain ⟨sl,rfl,hL⟩:=zaf.1 hT
       obtain ⟨o8,l8,c8,rfl⟩:=hL.shape
       obtain ⟨wb,hwb⟩:∃ x,w3.alloc (.cells #[.int .i64 k8,.string ⟨n8.toArray⟩,.int .i64 m8,.int .i64 a8,.slice o8 l8 c8] 29)=x:=⟨_,rfl⟩
       have hBb:Below w3.heap.size w3 wb:=by rw [<- hwb];exact zac _ _
       have hp:=HP.out
       have hl3:zab (zak w.heap.size) wb acc (.slice oq N cq):=(Av.out.sole (fun b h=>by have h1:w.heap.size<=b:=h;omega) hS).below hBb
       obtain ⟨xs,how,hAq,hrq⟩:=hl3
       have Ad:Hid (∀ q,(Value.slice oq N cq).ownBlock=some q->w.heap.size<=q∧q<wc.heap.size):=fun q e=>Av.out.own_lt e
       rw [HN.out.1] at how
       have Bp:=hid how
       have Bq:=hid hrq
       have Br:Hid (wb.heap[w3.heap.size]?=some (.cells #[.int .i64 k8,.string ⟨n8.toArray⟩,.int .i64 m8,.int .i64 a8,.slice o8 l8 c8] 29 (0,0))):=by show _=_;rw [<- hwb];exact heap_alloc_new _ _
       have Bs:=hid (zae.below hT hBb)
       have Bt:=hid (hP.below hBb)
       have Ax:=hid ((Ag.out.trans hS).trans (Sole.of_below hBb))
       have Bx:Hid (wc.heap.size<=w3.heap.size∧w3.heap.size<wb.heap.size):=⟨hS.size,by rw [<- hwb];simp⟩
       clear hP hS hT hL hBb hp how hAq hrq
       unfold kidV
       go_wp2_with (at_builtin;refine wpList_append_lies _ rfl _ _ 27 rfl 0 29 inf (.agg #[.int .i64 0,.string ⟨#[]⟩,.int .i64 0,.int .i64 0,.slice none 0 0]) 5 64 Tryz.underlying27 HI.out.1 HI.out.2.1 HI.out.2.2.1 HI.out.2.2.2 rfl (by decide) (.slice oq N cq) N xs rfl Bp.out ⟨w3.heap.size,0,none⟩ 1 1 [.int .i64 k8,.string ⟨n8.toArray⟩,.int .i64 m8,.int .i64 a8,.slice o8 l8 c8] rfl rfl (World.news_of_block (cs:=#[.int .i64 k8,.string ⟨n8.toArray⟩,.int .i64 m8,.int .i64 a8,.slice o8 l8 c8]) (t:=29) (fr:=(0,0)) Br.out) (by simp [Value.oneCell']) (by decide) (by have:=HN.out;unfold maxLen;omega) (by have:=HN.out;omega) (Nat.zero_le _) _ rfl ?_;intro gq cq2 w4 hown hgrow hat hlt;have HG:Hid (wb.grownBy w4 (Value.slice oq N cq).ownBlock∧w4.ownsRow 0 29 5 (.slice (some ⟨gq,0,none⟩) (N+1) cq2) (N+1) (xs++[.int .i64 k8,.string ⟨n8.toArray⟩,.int .i64 m8,.int .i64 a8,.slice o8 l8 c8])∧((Value.slice oq N cq).ownBlock=some gq∨gq=wb.heap.size)):=⟨hgrow,hown,hat⟩;clear hown hgrow hat hlt)
       clear hwb
       have hp:=HP.out
       have Bu:Hid (PP w4 p g cap ts i d full):=Bt.out.grownO HG.out.1 (fun e=>by have:=Ad.out p e;omega) (fun e=>by have:=Ad.out g e;omega)
       have Bv:=hid (Ax.out.grownO HG.out.1 (fun q e=>(Ad.out q e).1))
       have Bw:Hid (zbg w.heap.size (acc++[(.node k8 n8 m8 a8 ks8)]) w4 (.slice (some ⟨gq,0,none⟩) (N+1) cq2)):=by
        refine zbv (sl:=.slice oq N cq) (fun q e=>(Ad.out q e).1) Bq.out (za3 (Bs.out.weaken (fun b h=>?_))) (by rw [HN.out.1];exact HG.out.2.1) HG.out.1 wb.heap.size (Nat.le_refl _) Ax.out.size ?_
        · have h1:wc.heap.size<=b:=h
          have h2:=Ag.out.size
          exact ⟨by show w.heap.size<=b;omega,fun e=>by have:=(Ad.out b e).2;omega⟩
        · rcases HG.out.2.2 with e|e
          · exact Or.inl e.symm
          · exact Or.inr (by rw [e];rfl)
       have hNN:=HN.out
       have hLT:=Au.out
       have Al:Hid (R=zh4 F most (67 - (N+1)) (acc++[(.node k8 n8 m8 a8 ks8)]) (PSof ts i full)):=by
        show _=_
        rw [show 67 - (N+1)=66 - N by omega]
        exact Aw.out
       clear hp
       go_roundw
       case rel=>exact ⟨acc++[(.node k8 n8 m8 a8 ks8)],N+1,some ⟨gq,0,none⟩,cq2,i,full,by go_num,by simp [hNN.1],Au.out,Bu,Bv,Bw,Al⟩
       case measure=>simp [sliceLen];omega
theorem bodied_144:zgs 144:=fun args w=>by kernel_rfl
theorem bodied_142:zgs 142:=fun args w=>by kernel_rfl
theorem bodied_145:zgs 145:=fun args w=>by kernel_rfl
theorem bodied_147:zgs 147:=fun args w=>by kernel_rfl
theorem bodied_73:zgs 73:=fun args w=>by kernel_rfl
theorem bodied_119:zgs 119:=fun args w=>by kernel_rfl
theorem zb9.bind {α β:Type} {F:PS->Ans α} (h:zb9 F) (f:α->PS->Ans β):zb9 fun s=>(F s).bind f:=fun s hs=>by
 obtain ⟨e,a,h⟩:=h s hs
 exact ⟨e,a,by show (F s).bind f=_;rw [h];rfl⟩
theorem zb9.ite {α:Type} {F G:PS->Ans α} (c:PS->Prop) [∀ s,Decidable (c s)] (h:zb9 F) (k:zb9 G):zb9 fun s=>if c s then F s else G s:=fun s hs=>by
 by_cases e:c s
 · obtain ⟨x,y,h⟩:=h s hs
   exact ⟨x,y,by show (if c s then _ else _)=_;rw [if_pos e,h]⟩
 · obtain ⟨x,y,h⟩:=k s hs
   exact ⟨x,y,by show (if c s then _ else _)=_;rw [if_neg e,h]⟩
theorem zgk {α:Type} (e:Int):zb9 (fun s=>(s.bad e:Ans α)):=fun s _=>⟨e,s.hd.at_,rfl⟩
theorem zdz:zb9 PS.take:=fun s hs=>⟨42,s.hd.at_,by unfold PS.take;rw [if_pos hs];rfl⟩
theorem zgu (t:List UInt8):zb9 (fun s=>s.want t):=(zdz.bind _).ite (fun s=>s.sees t=true) (zgk 40)
theorem zm2 (k:Int):zb9 (fun s=>s.ofKind k):=zdz.ite (fun s=>s.hd.kind=k) (zgk 40)
theorem strict_name:zb9 zcr:=zm2 1
theorem strict_ref:zb9 refP:=strict_name.bind _
theorem zf6 (k:Int):zb9 (zc0 k):=zdz.bind _
theorem zkj:zb9 zei:=fun s hs=>by
 unfold zei
 by_cases h:s.hd.kind=1
 · rw [if_pos h];exact strict_ref s hs
 · rw [if_neg h]
   cases hu:s.sees zbj
   · show ∃ e a,zca false s.hd.at_ zb5 s=Ans.no e a
     unfold zca
     split
     · rename_i b _
       exact zdz.bind (fun _ s'=>Ans.ok (Tree.node b.1 [] 0 s.hd.at_ []) s') s hs
     · exact ⟨40,s.hd.at_,rfl⟩
   · obtain ⟨e,a,h⟩:=zdz s hs
     exact ⟨e,a,by
      show ((s.take.bind fun _ s=>Ans.ok () s).bind _)=_
      rw [h];rfl⟩
theorem zlx {B:PS->Ans Tree} (h:zb9 B):zb9 (zds B):=h.ite (fun s=>(s.sees zd6||s.sees zbm||s.sees zer)=true) zkj
theorem zjv {B:PS->Ans Tree} (h:zb9 B):zb9 (zco B) :=
 ((zf6 25).bind _).ite (fun s=>s.sees ze4=true) (((zf6 26).bind _).ite (fun s=>s.sees ze3=true) ((zlx h).bind _))
theorem zik {B:PS->Ans Tree} (h:zb9 B):zb9 (za6 B):=(zf6 13).ite (fun s=>s.sees zde=true) (zjv h)
theorem strict_field {B:PS->Ans Tree} (h:zb9 B):zb9 (zbc B):=(zik h).bind _
theorem strict_cases (f:Nat):zb9 (zd3 (f+1) []):=(zgu zb1).bind _
theorem strict_arm (B:PS->Ans Tree):zb9 (armP B):=fun s hs=>by
 obtain ⟨e,a,h⟩:=strict_cases 65 s hs
 exact ⟨e,a,by show (zd3 66 [] s).bind _=_;rw [h];rfl⟩
theorem zki (n:Nat) (b:Bool):zb9 (zbi n b):=by
 cases n with
 | zero=>exact zgk 41
 | succ n=>exact zdz.bind _
theorem zhc (k:Int) (part:PS->Ans Tree):zb9 (zex k part):=zdz.bind _
theorem zly:zb9 zd7:=((zhc 11 zcq).bind _).ite (fun s=>s.sees zd5=true) (zgk 40)
theorem zm1:zb9 zhe:=(zf6 13).ite (fun s=>s.sees zde=true) zkj
theorem zjw:zb9 zcq:=zm1.bind _
/-- a function of the parser that answers a list -/
def zg8 (p g cap:Nat) (ts:List Tok) (d:Int) (f:Nat) (F:PS->Ans (List Tree)):Prop :=
 ∀ i full w,PP w p g cap ts i d full->zbo p w->Calls Tryz.prog f #[.pointer (some ⟨p,0,none⟩)] w (zam p g cap ts d (zbg w.heap.size) (F (PSof ts i full)) w)
theorem zam.lift {α:Type} {p g cap:Nat} {ts:List Tok} {d:Int} {val val' : α->World->Value->Prop} {r:Ans α} {w w1:World} {e:Ending} {w' : World} (hv:∀ a w v,val a w v->val' a w v) (hB:Below w.heap.size w w1) (h:zam p g cap ts d val r w1 e w'):zam p g cap ts d val' r w e w':=by
 cases r with
 | no why at_=>exact ⟨h.1,(Sole.of_below hB).trans h.2⟩
 | ok a s =>
  obtain ⟨v,i,full,h1,h2,h3,h4,h5⟩:=h
  exact ⟨v,i,full,h1,hv _ _ _ h2,h3,h4,(Sole.of_below hB).trans h5⟩
theorem zbg.weaken {B B' : Nat} {ks:List Tree} {w:World} {v:Value} (h:zbg B ks w v) (hB:B'<=B):zbg B' ks w v:=zab.weaken h (fun _ hb=>Nat.le_trans hB hb)
theorem some_one (p g cap:Nat) (ts:List Tok) (d:Int) (M:Nat) (F:PS->Ans Tree) (hO:zd4 p g cap ts d M F) (hF:zb9 F) (hM:zgs M) (t:List UInt8) (i:Nat) (full:Bool) (w:World) (h:PP w p g cap ts i d full) (hba:zbo p w) :
 Calls Tryz.prog 117 #[.pointer (some ⟨p,0,none⟩),.func (.func M) #[.pointer (some ⟨p,0,none⟩)] #[],.slice (some ⟨w.heap.size,0,none⟩) 1 1] (w.alloc (.cells #[.string ⟨t.toArray⟩] 9)) (zam p g cap ts d (zbg w.heap.size) (zcu F [t] 66 [] (PSof ts i full)) w):=by
 have hB:=zac w (.cells #[.string ⟨t.toArray⟩] 9)
 refine (some_any p g cap ts d M F hO hF hM w.heap.size 1 [t] (by simp) i full _ (h.below hB) (hba.below hB) (Nat.ne_of_gt h.plt) (by simp) ?_).mono fun e w' hp=>zam.lift (fun a w v h=>zbg.weaken h hB.size) hB hp
 intro j hj
 have:j=0:=by simp at hj;omega
 subst this
 simp
theorem some_two (p g cap:Nat) (ts:List Tok) (d:Int) (M:Nat) (F:PS->Ans Tree) (hO:zd4 p g cap ts d M F) (hF:zb9 F) (hM:zgs M) (t u:List UInt8) (i:Nat) (full:Bool) (w:World) (h:PP w p g cap ts i d full) (hba:zbo p w) :
 Calls Tryz.prog 117 #[.pointer (some ⟨p,0,none⟩),.func (.func M) #[.pointer (some ⟨p,0,none⟩)] #[],.slice (some ⟨w.heap.size,0,none⟩) 2 2] (w.alloc (.cells #[.string ⟨t.toArray⟩,.string ⟨u.toArray⟩] 9)) (zam p g cap ts d (zbg w.heap.size) (zcu F [t,u] 66 [] (PSof ts i full)) w):=by
 have hB:=zac w (.cells #[.string ⟨t.toArray⟩,.string ⟨u.toArray⟩] 9)
 refine (some_any p g cap ts d M F hO hF hM w.heap.size 2 [t,u] (by simp) i full _ (h.below hB) (hba.below hB) (Nat.ne_of_gt h.plt) (by simp) ?_).mono fun e w' hp=>zam.lift (fun a w v h=>zbg.weaken h hB.size) hB hp
 intro j hj
 have:j=0∨j=1:=by simp at hj;omega
 rcases this with rfl|rfl
 · simp
 · simp
set_option maxHeartbeats 1000000 in
set_option maxRecDepth 4000 in
theorem zfy (p g cap:Nat) (ts:List Tok) (hE:Ends ts) (d:Int):zg8 p g cap ts d 114 (zcg):=by
 intro i full w h hba
 have HP:=hid2 h.plt h.glt
 have HE:=hid hE
 have Aj:=hid hba
 have Ak:=hid h
 have Al:=hid (Sole.refl p w)
 obtain ⟨R,hR⟩:∃ R,(zcg) (PSof ts i full)=R:=⟨_,rfl⟩
 rw [hR]
 have Am:=hid hR.symm
 have hmf:∀ (fn:Fn) (first cap:Array Value) (w:World),(Instr.makeFunc fn first cap).run Tryz.prog w=.ok (.func fn first cap) w:=fun _ _ _ _=>rfl
 clear h hba hE hR
 go_enter Tryz.func114,Tryz.ntmps114
 have Ab:=hid (zbt p g cap ts HE.out i d full [123] (by simp) w Ak.out)
 obtain ⟨ru,hru⟩:∃ r,(PSof ts i full).want [123]=r:=⟨_,rfl⟩
 have Ad:Hid (R=ru.bind fun _ s=>(zfw zg1 64 s).bind fun l s=>(s.want [125]).bind fun _ s=>.ok l s):=by
  show _=_
  rw [Am.out];first|(rw [<- hru];done)|(rw [<- hru];rfl)
 rw [hru] at Ab
 clear hru
 go_wp2_with fail
 refine Ab.out.mono ?_
 cases ru with
 | no why at_ =>
  rintro e w99 ⟨rfl,hS⟩
  have Aa:=hid (Al.out.trans hS)
  clear hS
  go_wp2
  refine ⟨rfl,?_⟩
  rw [Ad.out]
  exact ⟨rfl,Aa.out⟩
 | ok u st =>
  rintro e w1 ⟨v,i,full,rfl,rfl,rfl,hP,hS⟩
  have Ac:=hid hS
  have Ae:zbo p w1:=Aj.out.sole hS
  have Af:=hid (zml p g cap ts HE.out d 144 zg1 (fun i full w h _=>member_any p g cap ts HE.out i d full w h) bodied_144 64 (by omega) (by omega) i full w1 hP Ae)
  obtain ⟨rl,hrl⟩:∃ r,zfw zg1 64 (PSof ts i full)=r:=⟨_,rfl⟩
  have Ag:Hid (R=rl.bind fun l s=>(s.want [125]).bind fun _ s=>.ok l s):=by
   show _=_
   rw [Ad.out];first|(rw [<- hrl];done)|(rw [<- hrl];rfl)
  rw [hrl] at Af
  clear hP hS Ae hrl
  go_wp2_with fail
  refine Af.out.mono ?_
  cases rl with
  | no why at_ =>
   rintro e w99 ⟨rfl,hS⟩
   have Aa:=hid (Ac.out.trans hS)
   clear hS
   go_wp2
   refine ⟨rfl,?_⟩
   rw [Ag.out]
   exact ⟨rfl,Aa.out⟩
  | ok l st =>
   rintro e w2 ⟨v,i,full,rfl,hL,rfl,hP,hS⟩
   have Ah:=hid (Ac.out.trans hS)
   have An:=hid hP
   have Ao:=hid (zbg.weaken hL Ac.out.size)
   obtain ⟨o8,l8,c8,rfl⟩:=hL.shape
   clear hP hS hL
   have Ab:=hid (zbt p g cap ts HE.out i d full [125] (by simp) w2 An.out)
   obtain ⟨ru,hru⟩:∃ r,(PSof ts i full).want [125]=r:=⟨_,rfl⟩
   have Ai:Hid (R=ru.bind fun _ s=>.ok l s):=by
    show _=_
    rw [Ag.out];first|(rw [<- hru];done)|(rw [<- hru];rfl)
   rw [hru] at Ab
   clear hru
   go_wp2_with fail
   refine Ab.out.mono ?_
   cases ru with
   | no why at_ =>
    rintro e w99 ⟨rfl,hS⟩
    have Aa:=hid (Ah.out.trans hS)
    clear hS
    go_wp2
    refine ⟨rfl,?_⟩
    rw [Ai.out]
    exact ⟨rfl,Aa.out⟩
   | ok u st =>
    rintro e w3 ⟨v,i,full,rfl,rfl,rfl,hP,hS⟩
    have Ap:=hid (Ah.out.trans hS)
    have Aq:=hid hP
    have Ar:=hid (zbg.sole Ao.out (Nat.le_refl _) HP.out.1 hS)
    clear hP hS
    go_wp2
    go_ret
    rw [Ai.out]
    exact ⟨_,i,full,rfl,Ar.out,rfl,Aq.out,Ap.out⟩
set_option maxHeartbeats 1000000 in
set_option maxRecDepth 4000 in
theorem zho (p g cap:Nat) (ts:List Tok) (hE:Ends ts) (d:Int) (B:PS->Ans Tree) (hF:zd4 p g cap ts d 145 (zbc B)) (hB:zb9 B):zg8 p g cap ts d 115 (zda B):=by
 intro i full w h hba
 have HP:=hid2 h.plt h.glt
 have HE:=hid hE
 have Aj:=hid hba
 have Ak:=hid h
 have Al:=hid (Sole.refl p w)
 obtain ⟨R,hR⟩:∃ R,(zda B) (PSof ts i full)=R:=⟨_,rfl⟩
 rw [hR]
 have Am:=hid hR.symm
 have hmf:∀ (fn:Fn) (first cap:Array Value) (w:World),(Instr.makeFunc fn first cap).run Tryz.prog w=.ok (.func fn first cap) w:=fun _ _ _ _=>rfl
 have HF:=hid2 hF (strict_field hB)
 clear hF hB
 clear h hba hE hR
 go_enter Tryz.func115,Tryz.ntmps115
 have Ab:=hid (zbt p g cap ts HE.out i d full [123] (by simp) w Ak.out)
 obtain ⟨ru,hru⟩:∃ r,(PSof ts i full).want [123]=r:=⟨_,rfl⟩
 have Ad:Hid (R=ru.bind fun _ s=>(zcu (zbc B) [[125]] 66 [] s).bind fun l s=>(s.want [125]).bind fun _ s=>.ok l s):=by
  show _=_
  rw [Am.out];first|(rw [<- hru];done)|(rw [<- hru];rfl)
 rw [hru] at Ab
 clear hru
 go_wp2_with fail
 refine Ab.out.mono ?_
 cases ru with
 | no why at_ =>
  rintro e w99 ⟨rfl,hS⟩
  have Aa:=hid (Al.out.trans hS)
  clear hS
  go_wp2
  refine ⟨rfl,?_⟩
  rw [Ad.out]
  exact ⟨rfl,Aa.out⟩
 | ok u st =>
  rintro e w1 ⟨v,i,full,rfl,rfl,rfl,hP,hS⟩
  have Ac:=hid hS
  have Ae:zbo p w1:=Aj.out.sole hS
  have Af:=hid (some_one p g cap ts d 145 (zbc B) HF.out.1 HF.out.2 bodied_145 [125] i full w1 hP Ae)
  obtain ⟨rl,hrl⟩:∃ r,zcu (zbc B) [[125]] 66 [] (PSof ts i full)=r:=⟨_,rfl⟩
  have Ag:Hid (R=rl.bind fun l s=>(s.want [125]).bind fun _ s=>.ok l s):=by
   show _=_
   rw [Ad.out];first|(rw [<- hrl];done)|(rw [<- hrl];rfl)
  rw [hrl] at Af
  clear hP hS Ae hrl
  go_wp2_with fail
  refine Af.out.mono ?_
  cases rl with
  | no why at_ =>
   rintro e w99 ⟨rfl,hS⟩
   have Aa:=hid (Ac.out.trans hS)
   clear hS
   go_wp2
   refine ⟨rfl,?_⟩
   rw [Ag.out]
   exact ⟨rfl,Aa.out⟩
  | ok l st =>
   rintro e w2 ⟨v,i,full,rfl,hL,rfl,hP,hS⟩
   have Ah:=hid (Ac.out.trans hS)
   have An:=hid hP
   have Ao:=hid (zbg.weaken hL Ac.out.size)
   obtain ⟨o8,l8,c8,rfl⟩:=hL.shape
   clear hP hS hL
   have Ab:=hid (zbt p g cap ts HE.out i d full [125] (by simp) w2 An.out)
   obtain ⟨ru,hru⟩:∃ r,(PSof ts i full).want [125]=r:=⟨_,rfl⟩
   have Ai:Hid (R=ru.bind fun _ s=>.ok l s):=by
    show _=_
    rw [Ag.out];first|(rw [<- hru];done)|(rw [<- hru];rfl)
   rw [hru] at Ab
   clear hru
   go_wp2_with fail
   refine Ab.out.mono ?_
   cases ru with
   | no why at_ =>
    rintro e w99 ⟨rfl,hS⟩
    have Aa:=hid (Ah.out.trans hS)
    clear hS
    go_wp2
    refine ⟨rfl,?_⟩
    rw [Ai.out]
    exact ⟨rfl,Aa.out⟩
   | ok u st =>
    rintro e w3 ⟨v,i,full,rfl,rfl,rfl,hP,hS⟩
    have Ap:=hid (Ah.out.trans hS)
    have Aq:=hid hP
    have Ar:=hid (zbg.sole Ao.out (Nat.le_refl _) HP.out.1 hS)
    clear hP hS
    go_wp2
    go_ret
    rw [Ai.out]
    exact ⟨_,i,full,rfl,Ar.out,rfl,Aq.out,Ap.out⟩
set_option maxHeartbeats 1000000 in
set_option maxRecDepth 4000 in
theorem znu (p g cap:Nat) (ts:List Tok) (hE:Ends ts) (d:Int):zg8 p g cap ts d 151 zbs:=by
 intro i full w h hba
 have HP:=hid2 h.plt h.glt
 have HE:=hid hE
 have Ag:=hid hba
 have Ad:=hid h
 obtain ⟨R,hR⟩:∃ R,zbs (PSof ts i full)=R:=⟨_,rfl⟩
 rw [hR]
 have hmf:∀ (fn:Fn) (first cap:Array Value) (w:World),(Instr.makeFunc fn first cap).run Tryz.prog w=.ok (.func fn first cap) w:=fun _ _ _ _=>rfl
 have Ac:=hid (zf8 p g cap ts i d full zde w h)
 cases hse:(PSof ts i full).sees zde
 · rw [hse] at Ac
   have hR1:R=zfw zei 4 (PSof ts i full):=by
    rw [<- hR];unfold zbs;rw [hse,if_neg (by simp)]
   have Ah:Hid (∀ w1,Below w.heap.size w w1->Calls Tryz.prog 143 #[.pointer (some ⟨p,0,none⟩),.func (.func 142) #[.pointer (some ⟨p,0,none⟩)] #[],.int .i64 4] w1 (zam p g cap ts d (zbg w1.heap.size) R w1)):=fun w1 hB=>by
    rw [hR1]
    exact zml p g cap ts HE.out d 142 zei (zgc p g cap ts HE.out d) bodied_142 4 (by omega) (by omega) i full w1 (Ad.out.below hB) (Ag.out.below hB)
   clear h hba hE hR hse hR1
   go_enter Tryz.func151,Tryz.ntmps151
   go_wp2_with fail
   refine Ac.out.mono ?_
   rintro e w1 ⟨rfl,hB⟩
   have Aa:Hid (Sole p w w1):=Sole.of_below hB
   have Ae:=Ah.out w1 hB
   have Ai:=hid Ae
   clear hB Ae
   go_wp2_with fail
   refine Ai.out.mono ?_
   cases R with
   | no why at_ =>
    rintro e w99 ⟨rfl,hS⟩
    have Ab:=hid (Aa.out.trans hS)
    clear hS
    go_wp2
    exact ⟨rfl,rfl,Ab.out⟩
   | ok l st =>
    rintro e w2 ⟨v,i,full,rfl,hL,rfl,hP,hS⟩
    have Aj:=hid (Aa.out.trans hS)
    have Ak:=hid hP
    have Al:=hid (zbg.weaken hL Aa.out.size)
    obtain ⟨o8,l8,c8,rfl⟩:=hL.shape
    clear hP hS hL
    go_wp2
    go_ret
    exact ⟨_,i,full,rfl,Al.out,rfl,Ak.out,Aj.out⟩
 · rw [hse] at Ac
   have hix:=hE.sees h.il (t:=zde) (by simp [zde]) hse
   obtain ⟨ra,hra⟩:∃ r,zc0 13 (PSof ts i full)=r:=⟨_,rfl⟩
   have Af:Hid (R=ra.bind fun t s=>.ok [t] s):=by
    show _=_
    rw [<- hR,<- hra];unfold zbs;rw [hse,if_pos rfl]
   have Am:Hid (∀ w1,Below w.heap.size w w1->Calls Tryz.prog 112 #[.pointer (some ⟨p,0,none⟩),.int .i64 13] w1 (zam p g cap ts d (zah w1.heap.size) ra w1)):=fun w1 hB=>by
    rw [<- hra]
    exact zgp p g cap ts i d 13 full w1 (Ad.out.below hB) hix
   clear h hba hE hR hse hix hra
   go_enter Tryz.func151,Tryz.ntmps151
   go_wp2_with fail
   refine Ac.out.mono ?_
   rintro e w1 ⟨rfl,hB⟩
   have Aa:Hid (Sole p w w1):=Sole.of_below hB
   have An:=hid (Am.out w1 hB)
   clear hB
   go_wp2_with fail
   refine An.out.mono ?_
   cases ra with
   | no why at_ =>
    rintro e w99 ⟨rfl,hS⟩
    have Ab:=hid (Aa.out.trans hS)
    clear hS
    go_wp2
    refine ⟨rfl,?_⟩
    rw [Af.out]
    exact ⟨rfl,Ab.out⟩
   | ok tv st =>
    rintro e w2 ⟨v,i,full,rfl,hT,rfl,hP,hS⟩
    obtain ⟨k8,n8,m8,a8,ks8⟩:=tv
    obtain ⟨sl,rfl,hL⟩:=zaf.1 hT
    obtain ⟨o8,l8,c8,rfl⟩:=hL.shape
    obtain ⟨w3,hw3⟩:∃ x,w2.alloc (.cells #[.int .i64 k8,.string ⟨n8.toArray⟩,.int .i64 m8,.int .i64 a8,.slice o8 l8 c8] 29)=x:=⟨_,rfl⟩
    have hB3:Below w2.heap.size w2 w3:=by rw [<- hw3];exact zac _ _
    have hs2:Sole p w w2:=Aa.out.trans hS
    have Ao:=hid (hP.below hB3)
    have Ap:=hid (hs2.trans (Sole.of_below hB3))
    have Aq:Hid (zbg w.heap.size [(.node k8 n8 m8 a8 ks8)] w3 (.slice (some ⟨w2.heap.size,0,none⟩) 1 1)):=by
     have hs:=hs2.size
     have h1:=Aa.out.size
     exact zbh (show w3.heap[w2.heap.size]?=some (zdw [.int .i64 k8,.string ⟨n8.toArray⟩,.int .i64 m8,.int .i64 a8,.slice o8 l8 c8]) from by rw [<- hw3];exact heap_alloc_new _ _) (by simp) hs (za3 ((zae.below (zah.made hT) hB3).weaken (fun b h=>⟨Nat.le_trans h1 h.1,by omega⟩)))
    clear hP hS hT hL hB3 hs2
    unfold kidV
    go_wp2
    go_ret
    rw [Af.out]
    exact ⟨_,i,full,rfl,Aq.out,rfl,Ao.out,Ap.out⟩
end Go.Proofs.YtighggeokiahfaaGreatDoor
