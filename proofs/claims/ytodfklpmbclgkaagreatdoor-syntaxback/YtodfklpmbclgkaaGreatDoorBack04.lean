import Derived.Test.YtodfklpmbclgkaaGreatDoorBack03
namespace Go.Proofs.YtodfklpmbclgkaaGreatDoor
open Go.RowKit
/-- a tree that a call has just made, and nothing else in its set -/
theorem zal.made {B:Nat} {w:World} {t:Tree} {v:Value} (h:zal B t w v):zam (fun b=>B<=b∧b<w.heap.size) w t v:=zam.there _ _ h
set_option maxHeartbeats 1000000 in
set_option maxRecDepth 4000 in
theorem zkc (p g cap:Nat) (ts:List Tok) (hE:Ends ts) (d:Int) (i:Nat) (full:Bool) (w:World) (h:PP w p g cap ts i d full) (hw:((ts[i]'h.il).text==[111,112,97,113,117,101])=true) :
 Calls Tryz.prog 70 #[.pointer (some ⟨p,0,none⟩)] w (zao p g cap ts d (zal w.heap.size) ((aloneP 25 (PSof ts i full)).bind fun t s=>sizedP 25 t s) w):=by
 have hix:i+1<ts.length:=hE.text h.il (by rw [show (ts[i]'h.il).text=[111,112,97,113,117,101] by simpa using hw];simp)
 have HP:=hid2 h.plt h.glt
 have HE:=hid hE
 have H:=hid h
 obtain ⟨tk,htk⟩:∃ x,ts[i]'h.il=x:=⟨_,rfl⟩
 obtain ⟨wa,hwa⟩:∃ x,w.alloc (.cells #[.int .i64 0,.string ⟨#[]⟩,.int .i64 0,.int .i64 0,.slice none 0 0] 29)=x:=⟨_,rfl⟩
 have b1:Below w.heap.size w wa:=by rw [<- hwa];exact zad _ _
 have HKa:Hid (Kep w wa w.heap.size (kidO 0 [] 0 0 (.slice none 0 0))):=by show Kep w wa _ _;rw [<- hwa];exact Kep.new (Nat.le_refl _) _
 have HBa:=hid b1
 have HT0:Hid (Calls Tryz.prog 38 #[.pointer (some ⟨p,0,none⟩)] wa fun e w'=>e=.returned (.agg #[.int .i64 tk.kind,.string ⟨tk.text.toArray⟩,.int .i64 tk.num,.int .i64 tk.at_])∧Below wa.heap.size wa w'):=by
  have hx:=zca p g cap ts i d full wa (h.below b1)
  rw [htk] at hx
  exact hx
 have q1:=fld1 tk.kind tk.num tk.at_ ⟨tk.text.toArray⟩
 rw [htk] at hw
 obtain ⟨R,hR⟩:∃ R,((aloneP 25 (PSof ts i full)).bind fun t s=>sizedP 25 t s)=R:=⟨_,rfl⟩
 rw [hR]
 have HIX:=hid hix
 have HR0:=hid hR.symm
 clear h hE hR htk b1 hix
 go_enter Tryz.func70,Tryz.ntmps70
 go_wp2_with fail
 refine HT0.out.mono ?_
 rintro e w1 ⟨rfl,hB1⟩
 have hb01:Below w.heap.size w w1:=HBa.out.trans (hB1.mono HBa.out.size)
 have HP1:=hid (H.out.below hb01)
 have HS1:Hid (Sole p w w1):=Sole.of_below hb01
 have HK1:=hid (HKa.out.below hB1)
 have HAL:=hid (zdm p g cap ts i d 25 full w1 HP1.out HIX.out)
 obtain ⟨ra,hra⟩:∃ r,aloneP 25 (PSof ts i full)=r:=⟨_,rfl⟩
 have HR1:Hid (R=ra.bind fun t s=>sizedP 25 t s):=by
  show _=_
  rw [HR0.out];first|(rw [<- hra];done)|(rw [<- hra];rfl)
 have HKD:Hid (∀ t s,ra=.ok t s->t.kind=25):=fun t s e=>by
  rw [<- hra] at e
  unfold aloneP at e
  cases hx:(PSof ts i full).take with
  | no a b=>rw [hx] at e;cases e
  | ok a b=>rw [hx] at e;cases e;rfl
 rw [hra] at HAL
 clear hra hb01 hB1
 go_wp2_with fail
 clear hwa
 refine HAL.out.mono ?_
 cases ra with
 | no why at_ =>
  rintro e w99 ⟨rfl,hS⟩
  have HS99:=hid (HS1.out.trans hS)
  clear hS
  go_wp2
  refine ⟨rfl,?_⟩
  rw [HR1.out]
  exact ⟨rfl,HS99.out⟩
 | ok tv st =>
  rintro e w2 ⟨v,i,full,rfl,hT,rfl,hP,hS⟩
  obtain ⟨k9,n9,m9,a9,ks9⟩:=tv
  obtain ⟨sl,rfl,hL⟩:=zah.1 hT
  obtain ⟨o9,l9,c9,rfl⟩:=hL.shape
  have hkk:k9=25:=HKD.out _ _ rfl
  subst hkk
  have HSZ:Hid (Calls Tryz.prog 111 #[.pointer (some ⟨p,0,none⟩),(kidV 25 n9 m9 a9 (.slice o9 l9 c9))] w2 (zao p g cap ts d (mixIs (fun b=>w1.heap.size<=b∧b<w2.heap.size) w2.heap.size) (sizedP 25 (.node 25 n9 m9 a9 ks9) (PSof ts i full)) w2)) :=
   zhg p g cap ts HE.out i d full 25 n9 m9 a9 ks9 o9 l9 c9 (fun b=>w1.heap.size<=b∧b<w2.heap.size) w2 hP (fun b hb=>⟨by have:=HP.out.1;have:=HS1.out.size;omega,hb.2⟩) (zal.made hT)
  have HS2:=hid (HS1.out.trans hS)
  have HK2:=hid (HK1.out.sole HP.out.1 hS)
  have HLT:=hid HK1.out.lt
  obtain ⟨rz,hrz⟩:∃ r,sizedP 25 (.node 25 n9 m9 a9 ks9) (PSof ts i full)=r:=⟨_,rfl⟩
  have HR2:Hid (R=rz):=by
   show _=_
   rw [HR1.out,<- hrz];rfl
  rw [hrz] at HSZ
  clear hrz hT hL hP hS
  unfold kidV at HSZ ⊢
  go_wp2_with fail
  refine HSZ.out.mono ?_
  cases rz with
  | no why at_ =>
   rintro e w99 ⟨rfl,hS⟩
   have HS99:=hid (HS2.out.trans hS)
   clear hS
   go_wp2
   refine ⟨rfl,?_⟩
   rw [HR2.out]
   exact ⟨rfl,HS99.out⟩
  | ok tw st =>
   rintro e w6 ⟨v,i,full,rfl,hT,rfl,hP,hS⟩
   obtain ⟨k8,n8,m8,a8,ks8⟩:=tw
   obtain ⟨sl,rfl,hL⟩:=zah.1 hT
   obtain ⟨o8,l8,c8,rfl⟩:=hL.shape
   have hlt:=HLT.out
   have hl2:=HK2.out.lt
   have HP6:=hid hP
   have HS6:=hid (HS2.out.trans hS)
   have HK6:=hid (HK2.out.sole HP.out.1 hS)
   have HL6:Hid (zaf (fun b=>w.heap.size<b) w6 ks8 (.slice o8 l8 c8)):=hL.weaken (fun b h=>by
    rcases h with h|h
    · omega
    · omega)
   clear hP hS hT hL hlt hl2
   unfold kidV
   obtain ⟨⟨z0,z1,z2,z3,z4⟩,⟨y0,y1,y2,y3,y4⟩⟩:=zac HK6.out.1
   go_wp2
   have q:=res5 w6 w.heap.size (.int .i64 k8) (.string ⟨n8.toArray⟩) (.int .i64 m8) (.int .i64 a8) (.slice o8 l8 c8) z0 z1 z2 z3 z4
   have hf:=fin5 (r:=w.heap.size) (w9:=w6) (k:=k8) (n:=n8) (m:=m8) (a:=a8) (sl:=(.slice o8 l8 c8)) HK6.out.2 HS6.out _ rfl
   generalize ((((w6.setCell ⟨w.heap.size,0,none⟩ (.int .i64 k8)).setCell ⟨w.heap.size,1,none⟩ (.string ⟨n8.toArray⟩)).setCell ⟨w.heap.size,2,none⟩ (.int .i64 m8)).setCell ⟨w.heap.size,3,none⟩ (.int .i64 a8)).setCell ⟨w.heap.size,4,none⟩ (.slice o8 l8 c8)=wz at q hf ⊢
   obtain ⟨q0,q1,q2,q3,q4⟩:=q
   refine bodyPost_ret (v:=.agg #[.int .i64 k8,.string ⟨n8.toArray⟩,.int .i64 m8,.int .i64 a8,(.slice o8 l8 c8)]) (by simp [results,Tryz.results70,go_sem,q0,q1,q2,q3,q4]) rfl ?_
   rw [HR2.out]
   have hr2:=HK6.out.2
   have hpg:=HP.out
   exact ⟨_,_,_,rfl,zbu HL6.out (fun b h=>Nat.le_of_lt h) (fun b h=>Nat.ne_of_gt h) hf.2,rfl,HP6.out.sole_but (by omega) (by omega) hf.2,hf.1⟩
set_option maxHeartbeats 1000000 in
set_option maxRecDepth 4000 in
theorem zkb (p g cap:Nat) (ts:List Tok) (hE:Ends ts) (d:Int) (i:Nat) (full:Bool) (w:World) (h:PP w p g cap ts i d full) (hw0:((ts[i]'h.il).text==[111,112,97,113,117,101])=false) (hw:((ts[i]'h.il).text==[115,116,114,105,110,103])=true) :
 Calls Tryz.prog 70 #[.pointer (some ⟨p,0,none⟩)] w (zao p g cap ts d (zal w.heap.size) ((aloneP 26 (PSof ts i full)).bind fun t s=>sizedP 26 t s) w):=by
 have hix:i+1<ts.length:=hE.text h.il (by rw [show (ts[i]'h.il).text=[115,116,114,105,110,103] by simpa using hw];simp)
 have HP:=hid2 h.plt h.glt
 have HE:=hid hE
 have H:=hid h
 obtain ⟨tk,htk⟩:∃ x,ts[i]'h.il=x:=⟨_,rfl⟩
 obtain ⟨wa,hwa⟩:∃ x,w.alloc (.cells #[.int .i64 0,.string ⟨#[]⟩,.int .i64 0,.int .i64 0,.slice none 0 0] 29)=x:=⟨_,rfl⟩
 have b1:Below w.heap.size w wa:=by rw [<- hwa];exact zad _ _
 have HKa:Hid (Kep w wa w.heap.size (kidO 0 [] 0 0 (.slice none 0 0))):=by show Kep w wa _ _;rw [<- hwa];exact Kep.new (Nat.le_refl _) _
 have HBa:=hid b1
 have HT0:Hid (Calls Tryz.prog 38 #[.pointer (some ⟨p,0,none⟩)] wa fun e w'=>e=.returned (.agg #[.int .i64 tk.kind,.string ⟨tk.text.toArray⟩,.int .i64 tk.num,.int .i64 tk.at_])∧Below wa.heap.size wa w'):=by
  have hx:=zca p g cap ts i d full wa (h.below b1)
  rw [htk] at hx
  exact hx
 have q1:=fld1 tk.kind tk.num tk.at_ ⟨tk.text.toArray⟩
 rw [htk] at hw hw0
 obtain ⟨R,hR⟩:∃ R,((aloneP 26 (PSof ts i full)).bind fun t s=>sizedP 26 t s)=R:=⟨_,rfl⟩
 rw [hR]
 have HIX:=hid hix
 have HR0:=hid hR.symm
 clear h hE hR htk b1 hix
 go_enter Tryz.func70,Tryz.ntmps70
 go_wp2_with fail
 refine HT0.out.mono ?_
 rintro e w1 ⟨rfl,hB1⟩
 have hb01:Below w.heap.size w w1:=HBa.out.trans (hB1.mono HBa.out.size)
 have HP1:=hid (H.out.below hb01)
 have HS1:Hid (Sole p w w1):=Sole.of_below hb01
 have HK1:=hid (HKa.out.below hB1)
 have HAL:=hid (zdm p g cap ts i d 26 full w1 HP1.out HIX.out)
 obtain ⟨ra,hra⟩:∃ r,aloneP 26 (PSof ts i full)=r:=⟨_,rfl⟩
 have HR1:Hid (R=ra.bind fun t s=>sizedP 26 t s):=by
  show _=_
  rw [HR0.out];first|(rw [<- hra];done)|(rw [<- hra];rfl)
 have HKD:Hid (∀ t s,ra=.ok t s->t.kind=26):=fun t s e=>by
  rw [<- hra] at e
  unfold aloneP at e
  cases hx:(PSof ts i full).take with
  | no a b=>rw [hx] at e;cases e
  | ok a b=>rw [hx] at e;cases e;rfl
 rw [hra] at HAL
 clear hra hb01 hB1
 go_wp2_with fail
 clear hwa
 refine HAL.out.mono ?_
 cases ra with
 | no why at_ =>
  rintro e w99 ⟨rfl,hS⟩
  have HS99:=hid (HS1.out.trans hS)
  clear hS
  go_wp2
  refine ⟨rfl,?_⟩
  rw [HR1.out]
  exact ⟨rfl,HS99.out⟩
 | ok tv st =>
  rintro e w2 ⟨v,i,full,rfl,hT,rfl,hP,hS⟩
  obtain ⟨k9,n9,m9,a9,ks9⟩:=tv
  obtain ⟨sl,rfl,hL⟩:=zah.1 hT
  obtain ⟨o9,l9,c9,rfl⟩:=hL.shape
  have hkk:k9=26:=HKD.out _ _ rfl
  subst hkk
  have HSZ:Hid (Calls Tryz.prog 111 #[.pointer (some ⟨p,0,none⟩),(kidV 26 n9 m9 a9 (.slice o9 l9 c9))] w2 (zao p g cap ts d (mixIs (fun b=>w1.heap.size<=b∧b<w2.heap.size) w2.heap.size) (sizedP 26 (.node 26 n9 m9 a9 ks9) (PSof ts i full)) w2)) :=
   zhg p g cap ts HE.out i d full 26 n9 m9 a9 ks9 o9 l9 c9 (fun b=>w1.heap.size<=b∧b<w2.heap.size) w2 hP (fun b hb=>⟨by have:=HP.out.1;have:=HS1.out.size;omega,hb.2⟩) (zal.made hT)
  have HS2:=hid (HS1.out.trans hS)
  have HK2:=hid (HK1.out.sole HP.out.1 hS)
  have HLT:=hid HK1.out.lt
  obtain ⟨rz,hrz⟩:∃ r,sizedP 26 (.node 26 n9 m9 a9 ks9) (PSof ts i full)=r:=⟨_,rfl⟩
  have HR2:Hid (R=rz):=by
   show _=_
   rw [HR1.out,<- hrz];rfl
  rw [hrz] at HSZ
  clear hrz hT hL hP hS
  unfold kidV at HSZ ⊢
  go_wp2_with fail
  refine HSZ.out.mono ?_
  cases rz with
  | no why at_ =>
   rintro e w99 ⟨rfl,hS⟩
   have HS99:=hid (HS2.out.trans hS)
   clear hS
   go_wp2
   refine ⟨rfl,?_⟩
   rw [HR2.out]
   exact ⟨rfl,HS99.out⟩
  | ok tw st =>
   rintro e w6 ⟨v,i,full,rfl,hT,rfl,hP,hS⟩
   obtain ⟨k8,n8,m8,a8,ks8⟩:=tw
   obtain ⟨sl,rfl,hL⟩:=zah.1 hT
   obtain ⟨o8,l8,c8,rfl⟩:=hL.shape
   have hlt:=HLT.out
   have hl2:=HK2.out.lt
   have HP6:=hid hP
   have HS6:=hid (HS2.out.trans hS)
   have HK6:=hid (HK2.out.sole HP.out.1 hS)
   have HL6:Hid (zaf (fun b=>w.heap.size<b) w6 ks8 (.slice o8 l8 c8)):=hL.weaken (fun b h=>by
    rcases h with h|h
    · omega
    · omega)
   clear hP hS hT hL hlt hl2
   unfold kidV
   obtain ⟨⟨z0,z1,z2,z3,z4⟩,⟨y0,y1,y2,y3,y4⟩⟩:=zac HK6.out.1
   go_wp2
   have q:=res5 w6 w.heap.size (.int .i64 k8) (.string ⟨n8.toArray⟩) (.int .i64 m8) (.int .i64 a8) (.slice o8 l8 c8) z0 z1 z2 z3 z4
   have hf:=fin5 (r:=w.heap.size) (w9:=w6) (k:=k8) (n:=n8) (m:=m8) (a:=a8) (sl:=(.slice o8 l8 c8)) HK6.out.2 HS6.out _ rfl
   generalize ((((w6.setCell ⟨w.heap.size,0,none⟩ (.int .i64 k8)).setCell ⟨w.heap.size,1,none⟩ (.string ⟨n8.toArray⟩)).setCell ⟨w.heap.size,2,none⟩ (.int .i64 m8)).setCell ⟨w.heap.size,3,none⟩ (.int .i64 a8)).setCell ⟨w.heap.size,4,none⟩ (.slice o8 l8 c8)=wz at q hf ⊢
   obtain ⟨q0,q1,q2,q3,q4⟩:=q
   refine bodyPost_ret (v:=.agg #[.int .i64 k8,.string ⟨n8.toArray⟩,.int .i64 m8,.int .i64 a8,(.slice o8 l8 c8)]) (by simp [results,Tryz.results70,go_sem,q0,q1,q2,q3,q4]) rfl ?_
   rw [HR2.out]
   have hr2:=HK6.out.2
   have hpg:=HP.out
   exact ⟨_,_,_,rfl,zbu HL6.out (fun b h=>Nat.le_of_lt h) (fun b h=>Nat.ne_of_gt h) hf.2,rfl,HP6.out.sole_but (by omega) (by omega) hf.2,hf.1⟩
set_option maxHeartbeats 2000000 in
set_option maxRecDepth 4000 in
theorem zmo (p g cap:Nat) (ts:List Tok) (hE:Ends ts) (d:Int) (B:PS->Ans Tree) (hW:zdp p g cap ts d 113 (zce B)) (i:Nat) (full:Bool) (w:World) (h:PP w p g cap ts i d full) (hba:zb3 p w) (hw0:((ts[i]'h.il).text==[111,112,97,113,117,101])=false) (hw:((ts[i]'h.il).text==[115,116,114,105,110,103])=false) :
 Calls Tryz.prog 70 #[.pointer (some ⟨p,0,none⟩)] w (zao p g cap ts d (zal w.heap.size) ((zce B (PSof ts i full)).bind fun of s=>if s.sees [42] then s.take.bind fun _ s=>(zdj s).bind fun n s=>.ok (named 17 n [of]) s else sizedP of.kind of s) w):=by
 have HWR:Hid (∀ w1,Below w.heap.size w w1->Calls Tryz.prog 113 #[.pointer (some ⟨p,0,none⟩)] w1 (zao p g cap ts d (zal w1.heap.size) (zce B (PSof ts i full)) w1)):=fun w1 hB=>hW i full w1 (h.below hB) (hba.below hB)
 have HP:=hid2 h.plt h.glt
 have HE:=hid hE
 have H:=hid h
 obtain ⟨tk,htk⟩:∃ x,ts[i]'h.il=x:=⟨_,rfl⟩
 obtain ⟨wa,hwa⟩:∃ x,w.alloc (.cells #[.int .i64 0,.string ⟨#[]⟩,.int .i64 0,.int .i64 0,.slice none 0 0] 29)=x:=⟨_,rfl⟩
 have b1:Below w.heap.size w wa:=by rw [<- hwa];exact zad _ _
 have HKa:Hid (Kep w wa w.heap.size (kidO 0 [] 0 0 (.slice none 0 0))):=by show Kep w wa _ _;rw [<- hwa];exact Kep.new (Nat.le_refl _) _
 have HBa:=hid b1
 have HT0:Hid (Calls Tryz.prog 38 #[.pointer (some ⟨p,0,none⟩)] wa fun e w'=>e=.returned (.agg #[.int .i64 tk.kind,.string ⟨tk.text.toArray⟩,.int .i64 tk.num,.int .i64 tk.at_])∧Below wa.heap.size wa w'):=by
  have hx:=zca p g cap ts i d full wa (h.below b1)
  rw [htk] at hx
  exact hx
 have q1:=fld1 tk.kind tk.num tk.at_ ⟨tk.text.toArray⟩
 rw [htk] at hw hw0
 obtain ⟨R,hR⟩:∃ R,((zce B (PSof ts i full)).bind fun of s=>if s.sees [42] then s.take.bind fun _ s=>(zdj s).bind fun n s=>.ok (named 17 n [of]) s else sizedP of.kind of s)=R:=⟨_,rfl⟩
 rw [hR]
 obtain ⟨ra,hra⟩:∃ r,zce B (PSof ts i full)=r:=⟨_,rfl⟩
 rw [hra] at hR HWR
 have HR1:=hid hR.symm
 clear h hE hR htk b1 hra hW hba
 go_enter Tryz.func70,Tryz.ntmps70
 go_wp2_with fail
 refine HT0.out.mono ?_
 rintro e w1 ⟨rfl,hB1⟩
 have hb01:Below w.heap.size w w1:=HBa.out.trans (hB1.mono HBa.out.size)
 have HP1:=hid (H.out.below hb01)
 have HS1:Hid (Sole p w w1):=Sole.of_below hb01
 have HK1:=hid (HKa.out.below hB1)
 have HAL:=hid (HWR.out w1 hb01)
 clear hb01 hB1
 go_wp2_with fail
 clear hwa
 refine HAL.out.mono ?_
 cases ra with
 | no why at_ =>
  rintro e w99 ⟨rfl,hS⟩
  have HS99:=hid (HS1.out.trans hS)
  clear hS
  go_wp2
  refine ⟨rfl,?_⟩
  rw [HR1.out]
  exact ⟨rfl,HS99.out⟩
 | ok tv st =>
  rintro e w2 ⟨v,i,full,rfl,hT,rfl,hP,hS⟩
  obtain ⟨k9,n9,m9,a9,ks9⟩:=tv
  obtain ⟨sl,rfl,hL⟩:=zah.1 hT
  obtain ⟨o9,l9,c9,rfl⟩:=hL.shape
  obtain ⟨w3,hw3⟩:∃ x,w2.alloc (.cells #[.int .i64 k9,.string ⟨n9.toArray⟩,.int .i64 m9,.int .i64 a9,.slice o9 l9 c9] 29)=x:=⟨_,rfl⟩
  have hB3:Below w2.heap.size w2 w3:=by rw [<- hw3];exact zad _ _
  have hs2:Sole p w w2:=HS1.out.trans hS
  have HP3:=hid (hP.below hB3)
  have HS3:=hid (hs2.trans (Sole.of_below hB3))
  have HKr3:=hid ((HK1.out.sole HP.out.1 hS).below hB3)
  have HKo3:Hid (Kep w w3 w2.heap.size (kidO k9 n9 m9 a9 (.slice o9 l9 c9))):=by show Kep w w3 _ _;rw [<- hw3];exact Kep.new hs2.size _
  have HT3:=hid (zam.below (zal.made hT) hB3)
  have HLT:Hid (w.heap.size<w1.heap.size∧w1.heap.size<=w2.heap.size∧w2.heap.size<w3.heap.size):=⟨HK1.out.lt,hS.size,by rw [<- hw3];simp⟩
  have HS42:=hid (zf4 p g cap ts i d full [42] w3 HP3.out)
  clear hP hS hT hL hB3 hs2
  unfold kidV
  cases hse:(PSof ts i full).sees [42]
  · rw [hse] at HS42
    have HR2' : Hid (R=sizedP k9 (.node k9 n9 m9 a9 ks9) (PSof ts i full)):=by
     show _=_
     rw [HR1.out]
     show (if _ then _ else _)=_
     rw [hse,if_neg (by simp)]
     rfl
    clear hse
    go_wp2_with fail
    clear hw3
    refine HS42.out.mono ?_
    rintro e w4 ⟨rfl,hB4⟩
    have HP4:=hid (HP3.out.below hB4)
    have HS2:=hid (HS3.out.trans (Sole.of_below hB4))
    have HK2:=hid (HKr3.out.below hB4)
    obtain ⟨⟨v0,v1,v2,v3,v4⟩,_⟩:=zac (HKo3.out.below hB4).1
    have HSZ:Hid (Calls Tryz.prog 111 #[.pointer (some ⟨p,0,none⟩),(kidV k9 n9 m9 a9 (.slice o9 l9 c9))] w4 (zao p g cap ts d (mixIs (fun b=>w1.heap.size<=b∧b<w2.heap.size) w4.heap.size) (sizedP k9 (.node k9 n9 m9 a9 ks9) (PSof ts i full)) w4)) :=
     zhg p g cap ts HE.out i d full k9 n9 m9 a9 ks9 o9 l9 c9 (fun b=>w1.heap.size<=b∧b<w2.heap.size) w4 HP4.out (fun b hb=>by have:=HP.out.1;have:=HLT.out;have:=hB4.size;omega) (HT3.out.below hB4)
    obtain ⟨rz,hrz⟩:∃ r,sizedP k9 (.node k9 n9 m9 a9 ks9) (PSof ts i full)=r:=⟨_,rfl⟩
    have HR2:=hid (HR2'.out.trans hrz)
    rw [hrz] at HSZ
    clear hrz hB4
    unfold kidV at HSZ
    go_wp2_with fail
    refine HSZ.out.mono ?_
    cases rz with
    | no why at_ =>
     rintro e w99 ⟨rfl,hS⟩
     have HS99:=hid (HS2.out.trans hS)
     clear hS
     go_wp2
     refine ⟨rfl,?_⟩
     rw [HR2.out]
     exact ⟨rfl,HS99.out⟩
    | ok tw st =>
     rintro e w6 ⟨v,i,full,rfl,hT,rfl,hP,hS⟩
     obtain ⟨k8,n8,m8,a8,ks8⟩:=tw
     obtain ⟨sl,rfl,hL⟩:=zah.1 hT
     obtain ⟨o8,l8,c8,rfl⟩:=hL.shape
     have hlt:=HLT.out.1
     have hl2:=HK2.out.lt
     have HP6:=hid hP
     have HS6:=hid (HS2.out.trans hS)
     have HK6:=hid (HK2.out.sole HP.out.1 hS)
     have HL6:Hid (zaf (fun b=>w.heap.size<b) w6 ks8 (.slice o8 l8 c8)):=hL.weaken (fun b h=>by
      rcases h with h|h
      · omega
      · omega)
     clear hP hS hT hL hlt hl2
     unfold kidV
     obtain ⟨⟨z0,z1,z2,z3,z4⟩,⟨y0,y1,y2,y3,y4⟩⟩:=zac HK6.out.1
     go_wp2
     have q:=res5 w6 w.heap.size (.int .i64 k8) (.string ⟨n8.toArray⟩) (.int .i64 m8) (.int .i64 a8) (.slice o8 l8 c8) z0 z1 z2 z3 z4
     have hf:=fin5 (r:=w.heap.size) (w9:=w6) (k:=k8) (n:=n8) (m:=m8) (a:=a8) (sl:=(.slice o8 l8 c8)) HK6.out.2 HS6.out _ rfl
     generalize ((((w6.setCell ⟨w.heap.size,0,none⟩ (.int .i64 k8)).setCell ⟨w.heap.size,1,none⟩ (.string ⟨n8.toArray⟩)).setCell ⟨w.heap.size,2,none⟩ (.int .i64 m8)).setCell ⟨w.heap.size,3,none⟩ (.int .i64 a8)).setCell ⟨w.heap.size,4,none⟩ (.slice o8 l8 c8)=wz at q hf ⊢
     obtain ⟨q0,q1,q2,q3,q4⟩:=q
     refine bodyPost_ret (v:=.agg #[.int .i64 k8,.string ⟨n8.toArray⟩,.int .i64 m8,.int .i64 a8,(.slice o8 l8 c8)]) (by simp [results,Tryz.results70,go_sem,q0,q1,q2,q3,q4]) rfl ?_
     rw [HR2.out]
     have hr2:=HK6.out.2
     have hpg:=HP.out
     exact ⟨_,_,_,rfl,zbu HL6.out (fun b h=>Nat.le_of_lt h) (fun b h=>Nat.ne_of_gt h) hf.2,rfl,HP6.out.sole_but (by omega) (by omega) hf.2,hf.1⟩
  · rw [hse] at HS42
    have hix:=HE.out.sees HP3.out.il (t:=[42]) (by simp) hse
    obtain ⟨rt,hrt⟩:∃ r,(PSof ts i full).take=r:=⟨_,rfl⟩
    have HR2:Hid (R=rt.bind fun _ s=>(zdj s).bind fun n s=>.ok (named 17 n [(.node k9 n9 m9 a9 ks9)]) s):=by
     show _=_
     rw [HR1.out,<- hrt]
     show (if _ then _ else _)=_
     rw [hse,if_pos rfl]
    clear hse
    go_wp2_with fail
    clear hw3
    refine HS42.out.mono ?_
    rintro e w4 ⟨rfl,hB4⟩
    have HP4:=hid (HP3.out.below hB4)
    have HS4:=hid (HS3.out.trans (Sole.of_below hB4))
    have HKr4:=hid (HKr3.out.below hB4)
    have HKo4:=hid (HKo3.out.below hB4)
    have HT4:=hid (HT3.out.below hB4)
    have HL34:=hid hB4.size
    have HTK:=hid (zdf p g cap ts i d full w4 HP4.out hix)
    rw [hrt] at HTK
    clear hrt hix hB4
    go_wp2_with fail
    refine HTK.out.mono ?_
    cases rt with
    | no why at_ =>
     rintro e w99 ⟨rfl,hS⟩
     have HS99:=hid (HS4.out.trans hS)
     clear hS
     go_wp2
     refine ⟨rfl,?_⟩
     rw [HR2.out]
     exact ⟨rfl,HS99.out⟩
    | ok tk9 st =>
     rintro e w5 ⟨v,i,full,rfl,rfl,rfl,hP,hS⟩
     have hp:=HP.out.1
     have hlt:=HLT.out
     have h34:=HL34.out
     have HS5:=hid (HS4.out.trans hS)
     have HKr5:=hid (HKr4.out.sole hp hS)
     have HKo5:=hid (HKo4.out.sole hp hS)
     have HT5:=hid (HT4.out.sole (fun b h=>by omega) hS)
     have HL45:=hid hS.size
     have HNA:Hid (∀ wx,Below w5.heap.size w5 wx->Calls Tryz.prog 108 #[.pointer (some ⟨p,0,none⟩)] wx (zao p g cap ts d zfi (zdj (PSof ts i full)) wx)):=fun wx hB=>zf6 p g cap ts HE.out i d full _ (hP.below hB)
     obtain ⟨rv,hrv⟩:∃ r,zdj (PSof ts i full)=r:=⟨_,rfl⟩
     have HR3:Hid (R=rv.bind fun n s=>.ok (named 17 n [(.node k9 n9 m9 a9 ks9)]) s):=by
      show _=_
      rw [HR2.out,<- hrv];rfl
     rw [hrv] at HNA
     obtain ⟨⟨v0,v1,v2,v3,v4⟩,_⟩:=zac HKo5.out.1
     obtain ⟨wq5,hwq5⟩:∃ x,w5.alloc (.cells #[.int .i64 k9,.string ⟨n9.toArray⟩,.int .i64 m9,.int .i64 a9,.slice o9 l9 c9] 29)=x:=⟨_,rfl⟩
     have hb5:Below w5.heap.size w5 wq5:=by rw [<- hwq5];exact zad _ _
     have HBQ:=hid hb5
     have HQ5:Hid (Kep w wq5 w5.heap.size (kidO k9 n9 m9 a9 (.slice o9 l9 c9))):=by show Kep w wq5 _ _;rw [<- hwq5];exact Kep.new HS5.out.size _
     obtain ⟨⟨g0,g1,g2,g3,g4⟩,_⟩:=zac (HKo5.out.below hb5).1
     clear hP hS hp hrv hlt h34 hb5
     unfold tokV
     go_wp2_with fail
     cases rv with
     | no why at_ =>
      go_region_dies
      all_goals (
       refine (HNA.out _ ?_).mono ?_
       · first|exact zax (Below.refl _ _) 1|exact zax HBQ.out 1
       · rintro e w9 ⟨rfl,hS⟩
         refine ⟨rfl,?_⟩
         rw [HR3.out]
         first
          | exact ⟨rfl,HS5.out.trans ((Sole.of_below (zax (Below.refl _ _) 1)).trans hS)⟩
          | exact ⟨rfl,HS5.out.trans ((Sole.of_below (zax HBQ.out 1)).trans hS)⟩)
     | ok t st =>
      go_region_with (first
       | (go_at_call 108
          refine (HNA.out _ ?_).mono ?_
          (first|exact zax (Below.refl _ _) 1|exact zax HBQ.out 1)
          rintro e w6 ⟨v,i,full,rfl,rfl,rfl,hP,hS0⟩
          have hp:=HP.out.1
          have hlt:=HLT.out
          have h34:=HL34.out
          have h45:=HL45.out
          have hS:Sole p w5 w6:=by first|exact (Sole.of_below (zax (Below.refl _ _) 1)).trans hS0|exact (Sole.of_below (zax HBQ.out 1)).trans hS0
          have HP6:=hid hP
          have HS6:=hid (HS5.out.trans hS)
          have HKr6:=hid (HKr5.out.sole hp hS)
          have HKo6:=hid (HKo5.out.sole hp hS)
          have HT6:=hid (HT5.out.sole (fun b h=>by omega) hS)
          (first|(have HQ6:Hid (Kep w w6 w5.heap.size (kidO k9 n9 m9 a9 (.slice o9 l9 c9))):=Kep.sole (cur:=wq5.drewN 1) HQ5.out hp hS0)|skip)
          have HL56:=hid hS.size
          obtain ⟨⟨c0,c1,c2,c3,c4⟩,_⟩:=zac HKo6.out.1
          obtain ⟨wq6,hwq6⟩:∃ x,w6.alloc (.cells #[.int .i64 k9,.string ⟨n9.toArray⟩,.int .i64 m9,.int .i64 a9,.slice o9 l9 c9] 29)=x:=⟨_,rfl⟩
          have hb6:Below w6.heap.size w6 wq6:=by rw [<- hwq6];exact zad _ _
          have HBQ6:=hid hb6
          have HQQ6:Hid (Kep w wq6 w6.heap.size (kidO k9 n9 m9 a9 (.slice o9 l9 c9))):=by show Kep w wq6 _ _;rw [<- hwq6];exact Kep.new HS6.out.size _
          obtain ⟨⟨d0,d1,d2,d3,d4⟩,_⟩:=zac (HKo6.out.below hb6).1
          clear hP hS hS0 hp hlt h34 h45 hb6
          unfold tokV)
       | (go_at_call_of 109 (Value.slice (some (Addr.mk w6.heap.size 0 none)) 1 1)
          refine (zc8 17 t (some ⟨w6.heap.size,0,none⟩) 1 1 wq6).mono ?_
          rintro e w9 ⟨rfl,hB9⟩
          have hbb:Below w6.heap.size w6 w9:=HBQ6.out.trans (hB9.mono HBQ6.out.size)
          have HPC:=hid (HP6.out.below hbb)
          have HSC:=hid (HS6.out.trans (Sole.of_below hbb))
          have HKC:=hid (HKr6.out.below hbb)
          have HLC:Hid (zaf (fun b=>w.heap.size<b) w9 [(.node k9 n9 m9 a9 ks9)] (.slice (some ⟨w6.heap.size,0,none⟩) 1 1)):=by
           have hlt:=HLT.out
           have h34:=HL34.out
           have h45:=HL45.out
           have h56:=HL56.out
           refine zdy (HQQ6.out.below hB9).1 (by simp) (by omega) (zbe ((HT6.out.below hbb).weaken (fun b h=>?_)))
           omega
          obtain ⟨⟨z0,z1,z2,z3,z4⟩,⟨y0,y1,y2,y3,y4⟩⟩:=zac HKC.out.1
          clear hB9 hbb
          unfold kidV)
       | (go_at_call_of 109 (Value.slice (some (Addr.mk w5.heap.size 0 none)) 1 1)
          refine (zc8 17 t (some ⟨w5.heap.size,0,none⟩) 1 1 w6).mono ?_
          rintro e w9 ⟨rfl,hB9⟩
          have HPC:=hid (HP6.out.below hB9)
          have HSC:=hid (HS6.out.trans (Sole.of_below hB9))
          have HKC:=hid (HKr6.out.below hB9)
          have HLC:Hid (zaf (fun b=>w.heap.size<b) w9 [(.node k9 n9 m9 a9 ks9)] (.slice (some ⟨w5.heap.size,0,none⟩) 1 1)):=by
           have hlt:=HLT.out
           have h34:=HL34.out
           have h45:=HL45.out
           have h56:=HL56.out
           have hq:Kep w w6 w5.heap.size (kidO k9 n9 m9 a9 (.slice o9 l9 c9)):=HQ6.out
           refine zdy (hq.below hB9).1 (by simp) (by omega) (zbe ((HT6.out.below hB9).weaken (fun b h=>?_)))
           omega
          obtain ⟨⟨z0,z1,z2,z3,z4⟩,⟨y0,y1,y2,y3,y4⟩⟩:=zac HKC.out.1
          clear hB9
          unfold kidV))
      all_goals (
       first
       | (
          have hgd:=(show zaf _ w9 _ (Value.slice (some ⟨w6.heap.size,0,none⟩) 1 1) from HLC.out)
          clear hgd
          go_wp2
          have q:=res5 w9 w.heap.size (.int .i64 17) (.string ⟨t.text.toArray⟩) (.int .i64 0) (.int .i64 t.at_) (.slice (some ⟨w6.heap.size,0,none⟩) 1 1) z0 z1 z2 z3 z4
          have hf:=fin5 (r:=w.heap.size) (w9:=w9) (k:=17) (n:=t.text) (m:=0) (a:=t.at_) (sl:=(.slice (some ⟨w6.heap.size,0,none⟩) 1 1)) HKC.out.2 HSC.out _ rfl
          generalize ((((w9.setCell ⟨w.heap.size,0,none⟩ (.int .i64 17)).setCell ⟨w.heap.size,1,none⟩ (.string ⟨t.text.toArray⟩)).setCell ⟨w.heap.size,2,none⟩ (.int .i64 0)).setCell ⟨w.heap.size,3,none⟩ (.int .i64 t.at_)).setCell ⟨w.heap.size,4,none⟩ (.slice (some ⟨w6.heap.size,0,none⟩) 1 1)=wz at q hf ⊢
          obtain ⟨q0,q1,q2,q3,q4⟩:=q
          refine bodyPost_ret (v:=.agg #[.int .i64 17,.string ⟨t.text.toArray⟩,.int .i64 0,.int .i64 t.at_,(.slice (some ⟨w6.heap.size,0,none⟩) 1 1)]) (by simp [results,Tryz.results70,go_sem,q0,q1,q2,q3,q4]) rfl ?_
          rw [HR3.out]
          have hr2:=HKC.out.2
          have hpg:=HP.out
          exact ⟨_,_,_,rfl,zbu HLC.out (fun b h=>Nat.le_of_lt h) (fun b h=>Nat.ne_of_gt h) hf.2,rfl,HPC.out.sole_but (by omega) (by omega) hf.2,hf.1⟩
        )
       | (
          go_wp2
          have q:=res5 w9 w.heap.size (.int .i64 17) (.string ⟨t.text.toArray⟩) (.int .i64 0) (.int .i64 t.at_) (.slice (some ⟨w5.heap.size,0,none⟩) 1 1) z0 z1 z2 z3 z4
          have hf:=fin5 (r:=w.heap.size) (w9:=w9) (k:=17) (n:=t.text) (m:=0) (a:=t.at_) (sl:=(.slice (some ⟨w5.heap.size,0,none⟩) 1 1)) HKC.out.2 HSC.out _ rfl
          generalize ((((w9.setCell ⟨w.heap.size,0,none⟩ (.int .i64 17)).setCell ⟨w.heap.size,1,none⟩ (.string ⟨t.text.toArray⟩)).setCell ⟨w.heap.size,2,none⟩ (.int .i64 0)).setCell ⟨w.heap.size,3,none⟩ (.int .i64 t.at_)).setCell ⟨w.heap.size,4,none⟩ (.slice (some ⟨w5.heap.size,0,none⟩) 1 1)=wz at q hf ⊢
          obtain ⟨q0,q1,q2,q3,q4⟩:=q
          refine bodyPost_ret (v:=.agg #[.int .i64 17,.string ⟨t.text.toArray⟩,.int .i64 0,.int .i64 t.at_,(.slice (some ⟨w5.heap.size,0,none⟩) 1 1)]) (by simp [results,Tryz.results70,go_sem,q0,q1,q2,q3,q4]) rfl ?_
          rw [HR3.out]
          have hr2:=HKC.out.2
          have hpg:=HP.out
          exact ⟨_,_,_,rfl,zbu HLC.out (fun b h=>Nat.le_of_lt h) (fun b h=>Nat.ne_of_gt h) hf.2,rfl,HPC.out.sole_but (by omega) (by omega) hf.2,hf.1⟩
        ))
theorem zn3 (p g cap:Nat) (ts:List Tok) (hE:Ends ts) (d:Int) (B:PS->Ans Tree) (hW:zdp p g cap ts d 113 (zce B)):zdp p g cap ts d 70 (zbf B):=by
 intro i full w h hba
 have hd:=zb8 ts i full h.il
 unfold zbf
 cases h1:(PSof ts i full).sees zef
 · rw [if_neg (by simp)]
   cases h2:(PSof ts i full).sees zed
   · rw [if_neg (by simp)]
     unfold PS.sees at h1 h2
     rw [hd] at h1 h2
     exact zmo p g cap ts hE d B hW i full w h hba h1 h2
   · rw [if_pos rfl]
     unfold PS.sees at h1 h2
     rw [hd] at h1 h2
     exact zkb p g cap ts hE d i full w h h1 h2
 · rw [if_pos rfl]
   unfold PS.sees at h1
   rw [hd] at h1
   exact zkc p g cap ts hE d i full w h h1
theorem Sole.grownO {p:Nat} {w cur nxt:World} {row:Option Nat} (h:Sole p w cur) (hg:cur.grownBy nxt row) (hq:∀ q,row=some q->w.heap.size<=q):Sole p w nxt :=
 ⟨hg.os.trans h.os,hg.tape.trans h.tape,hg.output.trans h.output,Nat.le_trans h.size hg.size,fun b hb hp=>(hg.block b (Nat.lt_of_lt_of_le hb h.size) (fun e=>by have:=hq b e.symm;omega)).trans (h.block b hb hp)⟩
theorem PP.grownO {w nxt:World} {p g cap:Nat} {ts:List Tok} {i:Nat} {d:Int} {full:Bool} (h:PP w p g cap ts i d full) {row:Option Nat} (hg:w.grownBy nxt row) (hp:row≠some p) (hgq:row≠some g):PP nxt p g cap ts i d full :=
 h.of_blocks (hg.block p h.plt (fun e=>hp e.symm)) (hg.block g h.glt (fun e=>hgq e.symm))
theorem Kep.grownO {w cur nxt:World} {b:Nat} {o:Obj} (h:Kep w cur b o) {row:Option Nat} (hg:cur.grownBy nxt row) (hne:row≠some b):Kep w nxt b o:=⟨(hg.block b h.lt (fun e=>hne e.symm)).trans h.1,h.2⟩
/-- a list's block is there -/
theorem zaf.own_lt {A:Nat->Prop} {w:World} {ks:List Tree} {sl:Value} (h:zaf A w ks sl) {q:Nat} (e:sl.ownBlock=some q):A q∧q<w.heap.size:=by
 obtain ⟨xs,ho,hA,_⟩:=h
 exact ⟨hA q e,(ho.lt q e).2⟩
def sliceLen:Value->Nat
 | .slice _ n _=>n
 | _=>0
/-- what is full fails -/
def zbx {α:Type} (F:PS->Ans α):Prop:=∀ s,s.full=true->∃ e a,F s=.no e a
theorem zgs (ts:List Tok) (i:Nat) (full:Bool):(PSof ts i full).full=full:=rfl
/-- the function with that number has a body -/
def zf9 (N:Nat):Prop:=∀ (args:Array Value) (w:World),(callFunc N args).run Tryz.prog w=.ok (.enter N args) w
set_option maxHeartbeats 2000000 in
set_option maxRecDepth 4000 in
theorem some_any (p g cap:Nat) (ts:List Tok) (d:Int) (M:Nat) (F:PS->Ans Tree) (hO:zdp p g cap ts d M F) (hF:zbx F) (hM:zf9 M) (b c:Nat) (ws:List (List UInt8)) (hl:ws.length<=2) (i0:Nat) (full0:Bool) (w:World) (h:PP w p g cap ts i0 d full0) (hba:zb3 p w) (hb:b≠p) (hbl:b<w.heap.size)
 (hw:∀ j (hj:j<ws.length),w.cell? ⟨b,j,none⟩=some (.string ⟨(ws[j]).toArray⟩)) :
 Calls Tryz.prog 117 #[.pointer (some ⟨p,0,none⟩),.func (.func M) #[.pointer (some ⟨p,0,none⟩)] #[],.slice (some ⟨b,0,none⟩) ws.length c] w (zao p g cap ts d (zci w.heap.size) (zck F ws 66 [] (PSof ts i0 full0)) w):=by
 have HP:=hid2 h.plt h.glt
 have HBA:=hid hba
 have HO:=hid hO
 have HF:=hid hF
 have H:=hid h
 have HW:Hid (∀ w1,Sole p w w1->b<w1.heap.size∧∀ j (hj:j<ws.length),w1.cell? ⟨b,j,none⟩=some (.string ⟨(ws[j]).toArray⟩)):=fun w1 hS=>⟨Nat.lt_of_lt_of_le hbl hS.size,fun j hj=>by rw [(zae (hS.block b hbl hb) j).1];exact hw j hj⟩
 have HSA:Hid (∀ w1 i full,Sole p w w1->PP w1 p g cap ts i d full->Calls Tryz.prog 149 #[.pointer (some ⟨p,0,none⟩),.slice (some ⟨b,0,none⟩) ws.length c] w1 fun e w'=>e=.returned (.bool (ws.any (PSof ts i full).sees))∧Below w1.heap.size w1 w'):=fun w1 i full hS hP=>seesAny_any p g cap ts i d full b c ws w1 hP (HW.out w1 hS).1 (HW.out w1 hS).2 hl
 obtain ⟨R,hR⟩:∃ R,zck F ws 66 [] (PSof ts i0 full0)=R:=⟨_,rfl⟩
 rw [hR]
 have HR0:=hid hR.symm
 obtain ⟨inf,hi1,hi2,hi3,hi4⟩:=ze8
 have HI:=hid4 hi1 hi2 hi3 hi4
 obtain ⟨WL,hWL⟩:∃ x,ws.length=x:=⟨_,rfl⟩
 rw [hWL] at HSA ⊢
 have hmm:=hM
 unfold zf9 at hmm
 clear h hba hO hF hw hb hbl hR hi1 hi2 hi3 hi4 hM hl
 go_enter Tryz.func117,Tryz.ntmps117
 go_wp2
 go_loopw [7] (fun sl wr=>∃ (acc:List Tree) (N:Nat) (oq:Option Addr) (cq:Nat) (ix:Nat) (full:Bool),sl=.slice oq N cq∧acc.length=N∧N<=64∧Hid (PP wr p g cap ts ix d full)∧Hid (Sole p w wr)∧Hid (zci w.heap.size acc wr (.slice oq N cq))∧Hid (R=zck F ws (66 - N) acc (PSof ts ix full))) (fun sl _=>65 - sliceLen sl)
 case atStart=>exact ⟨[],0,none,0,i0,full0,rfl,rfl,by omega,H,Sole.refl p w,zeb,HR0⟩
 case round =>
  obtain ⟨acc,N,oq,cq,ix,full,rfl,hN1,hN2,HPr,HSr,HLr,HRr⟩:=hrel
  have HN:=hid2 hN1 hN2
  have HST:Hid (R=if acc.isEmpty||!(ws.any (PSof ts ix full).sees) then (F ((PSof ts ix full).room N 64)).bind fun t s=>zck F ws (65 - N) (acc++[t]) s else .ok acc (PSof ts ix full)):=by
   show _=_
   rw [HRr.out,show 66 - N=(65 - N)+1 by omega,zck,hN1]
  have HIS:Hid (acc.isEmpty=decide (N=0)):=by
   show _=_
   rw [<- hN1]
   cases acc <;> simp
  have HWL:=hid hWL
  clear hN1 hN2
  by_cases h0:N=0
  · have hz:((N:Int)==0)=true:=by simp [h0]
    have HIE:Hid (acc.isEmpty=true):=by show _=_;rw [HIS.out];simp [h0]
    have HPv:=hid HPr
    have HRM:=hid (zhu p g cap ts ix d full N 64 wr HPv.out)
    obtain ⟨rv,hrv⟩:∃ r,F (PSof ts ix (zfl full N 64))=r:=⟨_,rfl⟩
    have HR2:Hid (R=rv.bind fun t s=>zck F ws (65 - N) (acc++[t]) s):=by
     show _=_
     rw [HST.out,if_pos (by rw [HIE.out];rfl)]
     rw [<- hrv,zgr]
    have HLX:Hid (∀ t s,rv=.ok t s->N+1<=64):=fun t s e=>by
     rcases Nat.lt_or_ge N 64 with h1|h1
     · exact h1
     · have hNN:=HN.out
       have hN64:N=64:=by omega
       obtain ⟨x,y,hx⟩:=HF.out (PSof ts ix (zfl full N 64)) (by rw [zgs];unfold zfl;simp [hN64])
       rw [<- hrv,hx] at e
       cases e
    have HON:Hid (∀ w1,PP w1 p g cap ts ix d (zfl full N 64)->zb3 p w1->Calls Tryz.prog M #[.pointer (some ⟨p,0,none⟩)] w1 (zao p g cap ts d (zal w1.heap.size) rv w1)):=fun w1 h1 h2=>by
     rw [<- hrv]
     exact HO.out ix _ w1 h1 h2
    clear hrv
    clear h0 hWL
    go_wp2_with fail
    refine HRM.out.mono ?_
    rintro e wc ⟨rfl,hP,hS,hz2⟩
    have HPc:=hid hP
    have HSc:=hid (HSr.out.trans hS)
    have HBc:=hid (HBA.out.sole HSc.out)
    have HLc:Hid (zaf (zif w.heap.size) wc acc (.slice oq N cq)):=zaf.sole HLr.out (fun b h=>by have h1:w.heap.size<=b:=h;have:=HP.out;omega) hS
    clear hP hS hz2
    go_wp2_with fail
    refine (HON.out wc HPc.out HBc.out).mono ?_
    cases rv with
    | no why at_ =>
     rintro e w99 ⟨rfl,hS⟩
     have HS99:=hid (HSc.out.trans hS)
     clear hS
     go_wp2
     refine ⟨rfl,?_⟩
     rw [HR2.out]
     exact ⟨rfl,HS99.out⟩
    | ok tv st =>
     rintro e w3 ⟨v,i,full,rfl,hT,rfl,hP,hS⟩
     have HLT:=hid (HLX.out _ _ rfl)
     obtain ⟨k8,n8,m8,a8,ks8⟩:=tv
     obtain ⟨sl,rfl,hL⟩:=zah.1 hT
     obtain ⟨o8,l8,c8,rfl⟩:=hL.shape
     obtain ⟨wb,hwb⟩:∃ x,w3.alloc (.cells #[.int .i64 k8,.string ⟨n8.toArray⟩,.int .i64 m8,.int .i64 a8,.slice o8 l8 c8] 29)=x:=⟨_,rfl⟩
     have hBb:Below w3.heap.size w3 wb:=by rw [<- hwb];exact zad _ _
     have hp:=HP.out
     have hl3:zaf (zif w.heap.size) wb acc (.slice oq N cq):=(HLc.out.sole (fun b h=>by have h1:w.heap.size<=b:=h;omega) hS).below hBb
     obtain ⟨xs,how,hAq,hrq⟩:=hl3
     have HLQ:Hid (∀ q,(Value.slice oq N cq).ownBlock=some q->w.heap.size<=q∧q<wc.heap.size):=fun q e=>HLc.out.own_lt e
     rw [HN.out.1] at how
     have HOW:=hid how
     have HRQ:=hid hrq
     have HNB:Hid (wb.heap[w3.heap.size]?=some (.cells #[.int .i64 k8,.string ⟨n8.toArray⟩,.int .i64 m8,.int .i64 a8,.slice o8 l8 c8] 29 (0,0))):=by show _=_;rw [<- hwb];exact heap_alloc_new _ _
     have HT8:=hid (zam.below hT hBb)
     have HPb:=hid (hP.below hBb)
     have HSb:=hid ((HSc.out.trans hS).trans (Sole.of_below hBb))
     have HBb:=hid ((HBc.out.sole hS).below hBb)
     have HSZ:Hid (wc.heap.size<=w3.heap.size∧w3.heap.size<wb.heap.size):=⟨hS.size,by rw [<- hwb];simp⟩
     clear hP hS hT hL hBb hp how hAq hrq
     unfold kidV
     go_wp2_with (at_builtin;refine wpList_append_lies _ rfl _ _ 27 rfl 0 29 inf (.agg #[.int .i64 0,.string ⟨#[]⟩,.int .i64 0,.int .i64 0,.slice none 0 0]) 5 64 Tryz.underlying27 HI.out.1 HI.out.2.1 HI.out.2.2.1 HI.out.2.2.2 rfl (by decide) (.slice oq N cq) N xs rfl HOW.out ⟨w3.heap.size,0,none⟩ 1 1 [.int .i64 k8,.string ⟨n8.toArray⟩,.int .i64 m8,.int .i64 a8,.slice o8 l8 c8] rfl rfl (World.news_of_block (cs:=#[.int .i64 k8,.string ⟨n8.toArray⟩,.int .i64 m8,.int .i64 a8,.slice o8 l8 c8]) (t:=29) (fr:=(0,0)) HNB.out) (by simp [Value.oneCell']) (by decide) (by have:=HN.out;unfold maxLen;omega) (by have:=HN.out;omega) (Nat.zero_le _) _ rfl ?_;intro gq cq2 w4 hown hgrow hat hlt;have HG:Hid (wb.grownBy w4 (Value.slice oq N cq).ownBlock∧w4.ownsRow 0 29 5 (.slice (some ⟨gq,0,none⟩) (N+1) cq2) (N+1) (xs++[.int .i64 k8,.string ⟨n8.toArray⟩,.int .i64 m8,.int .i64 a8,.slice o8 l8 c8])∧((Value.slice oq N cq).ownBlock=some gq∨gq=wb.heap.size)):=⟨hgrow,hown,hat⟩;clear hown hgrow hat hlt)
     clear hwb
     have hp:=HP.out
     have HP4:Hid (PP w4 p g cap ts i d full):=HPb.out.grownO HG.out.1 (fun e=>by have:=HLQ.out p e;omega) (fun e=>by have:=HLQ.out g e;omega)
     have HS4:=hid (HSb.out.grownO HG.out.1 (fun q e=>(HLQ.out q e).1))
     have HB4:=hid (HBA.out.sole HS4.out)
     have HL4:Hid (zci w.heap.size (acc++[(.node k8 n8 m8 a8 ks8)]) w4 (.slice (some ⟨gq,0,none⟩) (N+1) cq2)):=by
      refine zbm (sl:=.slice oq N cq) (fun q e=>(HLQ.out q e).1) HRQ.out (zbe (HT8.out.weaken (fun b h=>?_))) (by rw [HN.out.1];exact HG.out.2.1) HG.out.1 wb.heap.size (Nat.le_refl _) HSb.out.size ?_
      · have h1:wc.heap.size<=b:=h
        have h2:=HSc.out.size
        exact ⟨by show w.heap.size<=b;omega,fun e=>by have:=(HLQ.out b e).2;omega⟩
      · rcases HG.out.2.2 with e|e
        · exact Or.inl e.symm
        · exact Or.inr (by rw [e];rfl)
     have hNN:=HN.out
     have HRNX:Hid (R=zck F ws (66 - (N+1)) (acc++[(.node k8 n8 m8 a8 ks8)]) (PSof ts i full)):=by
      show _=_
      rw [show 66 - (N+1)=65 - N by omega]
      exact HR2.out
     clear hp
     go_roundw
     case rel=>exact ⟨acc++[(.node k8 n8 m8 a8 ks8)],N+1,some ⟨gq,0,none⟩,cq2,i,full,by go_num,by simp [hNN.1],HLT.out,HP4,HS4,HL4,HRNX⟩
     case measure=>simp [sliceLen];omega
  · have hz:((N:Int)==0)=false:=by simp;omega
    have HIE:Hid (acc.isEmpty=false):=by show _=_;rw [HIS.out];simp [h0]
    have HSX:=hid (HSA.out wr ix full HSr.out HPr.out)
    clear h0 hWL
    cases hse:ws.any (PSof ts ix full).sees
    · rw [hse] at HSX
      have HIC:Hid ((acc.isEmpty||!(ws.any (PSof ts ix full).sees))=true):=by show _=_;rw [hse];simp
      clear hse
      go_wp2_with fail
      refine HSX.out.mono ?_
      rintro e wv ⟨rfl,hB⟩
      have HPv:=hid (HPr.out.below hB)
      have HSv:=hid (HSr.out.trans (Sole.of_below hB))
      have HLv:=hid (zaf.below HLr.out hB)
      clear hB
      have HRM:=hid (zhu p g cap ts ix d full N 64 wv HPv.out)
      obtain ⟨rv,hrv⟩:∃ r,F (PSof ts ix (zfl full N 64))=r:=⟨_,rfl⟩
      have HR2:Hid (R=rv.bind fun t s=>zck F ws (65 - N) (acc++[t]) s):=by
       show _=_
       rw [HST.out,if_pos HIC.out]
       rw [<- hrv,zgr]
      have HLX:Hid (∀ t s,rv=.ok t s->N+1<=64):=fun t s e=>by
       rcases Nat.lt_or_ge N 64 with h1|h1
       · exact h1
       · have hNN:=HN.out
         have hN64:N=64:=by omega
         obtain ⟨x,y,hx⟩:=HF.out (PSof ts ix (zfl full N 64)) (by rw [zgs];unfold zfl;simp [hN64])
         rw [<- hrv,hx] at e
         cases e
      have HON:Hid (∀ w1,PP w1 p g cap ts ix d (zfl full N 64)->zb3 p w1->Calls Tryz.prog M #[.pointer (some ⟨p,0,none⟩)] w1 (zao p g cap ts d (zal w1.heap.size) rv w1)):=fun w1 h1 h2=>by
       rw [<- hrv]
       exact HO.out ix _ w1 h1 h2
      clear hrv
      go_wp2_with fail
      refine HRM.out.mono ?_
      rintro e wc ⟨rfl,hP,hS,hz2⟩
      have HPc:=hid hP
      have HSc:=hid (HSv.out.trans hS)
      have HBc:=hid (HBA.out.sole HSc.out)
      have HLc:Hid (zaf (zif w.heap.size) wc acc (.slice oq N cq)):=zaf.sole HLv.out (fun b h=>by have h1:w.heap.size<=b:=h;have:=HP.out;omega) hS
      clear hP hS hz2
      go_wp2_with fail
      refine (HON.out wc HPc.out HBc.out).mono ?_
      cases rv with
      | no why at_ =>
       rintro e w99 ⟨rfl,hS⟩
       have HS99:=hid (HSc.out.trans hS)
       clear hS
       go_wp2
       refine ⟨rfl,?_⟩
       rw [HR2.out]
       exact ⟨rfl,HS99.out⟩
      | ok tv st =>
       rintro e w3 ⟨v,i,full,rfl,hT,rfl,hP,hS⟩
       have HLT:=hid (HLX.out _ _ rfl)
       obtain ⟨k8,n8,m8,a8,ks8⟩:=tv
       obtain ⟨sl,rfl,hL⟩:=zah.1 hT
       obtain ⟨o8,l8,c8,rfl⟩:=hL.shape
       obtain ⟨wb,hwb⟩:∃ x,w3.alloc (.cells #[.int .i64 k8,.string ⟨n8.toArray⟩,.int .i64 m8,.int .i64 a8,.slice o8 l8 c8] 29)=x:=⟨_,rfl⟩
       have hBb:Below w3.heap.size w3 wb:=by rw [<- hwb];exact zad _ _
       have hp:=HP.out
       have hl3:zaf (zif w.heap.size) wb acc (.slice oq N cq):=(HLc.out.sole (fun b h=>by have h1:w.heap.size<=b:=h;omega) hS).below hBb
       obtain ⟨xs,how,hAq,hrq⟩:=hl3
       have HLQ:Hid (∀ q,(Value.slice oq N cq).ownBlock=some q->w.heap.size<=q∧q<wc.heap.size):=fun q e=>HLc.out.own_lt e
       rw [HN.out.1] at how
       have HOW:=hid how
       have HRQ:=hid hrq
       have HNB:Hid (wb.heap[w3.heap.size]?=some (.cells #[.int .i64 k8,.string ⟨n8.toArray⟩,.int .i64 m8,.int .i64 a8,.slice o8 l8 c8] 29 (0,0))):=by show _=_;rw [<- hwb];exact heap_alloc_new _ _
       have HT8:=hid (zam.below hT hBb)
       have HPb:=hid (hP.below hBb)
       have HSb:=hid ((HSc.out.trans hS).trans (Sole.of_below hBb))
       have HBb:=hid ((HBc.out.sole hS).below hBb)
       have HSZ:Hid (wc.heap.size<=w3.heap.size∧w3.heap.size<wb.heap.size):=⟨hS.size,by rw [<- hwb];simp⟩
       clear hP hS hT hL hBb hp how hAq hrq
       unfold kidV
       go_wp2_with (at_builtin;refine wpList_append_lies _ rfl _ _ 27 rfl 0 29 inf (.agg #[.int .i64 0,.string ⟨#[]⟩,.int .i64 0,.int .i64 0,.slice none 0 0]) 5 64 Tryz.underlying27 HI.out.1 HI.out.2.1 HI.out.2.2.1 HI.out.2.2.2 rfl (by decide) (.slice oq N cq) N xs rfl HOW.out ⟨w3.heap.size,0,none⟩ 1 1 [.int .i64 k8,.string ⟨n8.toArray⟩,.int .i64 m8,.int .i64 a8,.slice o8 l8 c8] rfl rfl (World.news_of_block (cs:=#[.int .i64 k8,.string ⟨n8.toArray⟩,.int .i64 m8,.int .i64 a8,.slice o8 l8 c8]) (t:=29) (fr:=(0,0)) HNB.out) (by simp [Value.oneCell']) (by decide) (by have:=HN.out;unfold maxLen;omega) (by have:=HN.out;omega) (Nat.zero_le _) _ rfl ?_;intro gq cq2 w4 hown hgrow hat hlt;have HG:Hid (wb.grownBy w4 (Value.slice oq N cq).ownBlock∧w4.ownsRow 0 29 5 (.slice (some ⟨gq,0,none⟩) (N+1) cq2) (N+1) (xs++[.int .i64 k8,.string ⟨n8.toArray⟩,.int .i64 m8,.int .i64 a8,.slice o8 l8 c8])∧((Value.slice oq N cq).ownBlock=some gq∨gq=wb.heap.size)):=⟨hgrow,hown,hat⟩;clear hown hgrow hat hlt)
       clear hwb
       have hp:=HP.out
       have HP4:Hid (PP w4 p g cap ts i d full):=HPb.out.grownO HG.out.1 (fun e=>by have:=HLQ.out p e;omega) (fun e=>by have:=HLQ.out g e;omega)
       have HS4:=hid (HSb.out.grownO HG.out.1 (fun q e=>(HLQ.out q e).1))
       have HB4:=hid (HBA.out.sole HS4.out)
       have HL4:Hid (zci w.heap.size (acc++[(.node k8 n8 m8 a8 ks8)]) w4 (.slice (some ⟨gq,0,none⟩) (N+1) cq2)):=by
        refine zbm (sl:=.slice oq N cq) (fun q e=>(HLQ.out q e).1) HRQ.out (zbe (HT8.out.weaken (fun b h=>?_))) (by rw [HN.out.1];exact HG.out.2.1) HG.out.1 wb.heap.size (Nat.le_refl _) HSb.out.size ?_
        · have h1:wc.heap.size<=b:=h
          have h2:=HSc.out.size
          exact ⟨by show w.heap.size<=b;omega,fun e=>by have:=(HLQ.out b e).2;omega⟩
        · rcases HG.out.2.2 with e|e
          · exact Or.inl e.symm
          · exact Or.inr (by rw [e];rfl)
       have hNN:=HN.out
       have HRNX:Hid (R=zck F ws (66 - (N+1)) (acc++[(.node k8 n8 m8 a8 ks8)]) (PSof ts i full)):=by
        show _=_
        rw [show 66 - (N+1)=65 - N by omega]
        exact HR2.out
       clear hp
       go_roundw
       case rel=>exact ⟨acc++[(.node k8 n8 m8 a8 ks8)],N+1,some ⟨gq,0,none⟩,cq2,i,full,by go_num,by simp [hNN.1],HLT.out,HP4,HS4,HL4,HRNX⟩
       case measure=>simp [sliceLen];omega
    · rw [hse] at HSX
      have HRN:Hid (R=.ok acc (PSof ts ix full)):=by
       show _=_
       rw [HST.out,if_neg]
       rw [hse,HIE.out];simp
      clear hse
      go_wp2_with fail
      refine HSX.out.mono ?_
      rintro e wv ⟨rfl,hB⟩
      have HPv:=hid (HPr.out.below hB)
      have HSv:=hid (HSr.out.trans (Sole.of_below hB))
      have HLv:=hid (zaf.below HLr.out hB)
      clear hB
      go_wp2
      go_ret
      rw [HRN.out]
      exact ⟨_,ix,full,rfl,HLv.out,rfl,HPv.out,HSv.out⟩
set_option maxHeartbeats 2000000 in
set_option maxRecDepth 4000 in
theorem znk (p g cap:Nat) (ts:List Tok) (hE:Ends ts) (d:Int) (M:Nat) (F:PS->Ans Tree) (hO:zdp p g cap ts d M F) (hM:zf9 M) (most:Nat) (hm1:1<=most) (hm:most<=64) (i0:Nat) (full0:Bool) (w:World) (h:PP w p g cap ts i0 d full0) (hba:zb3 p w) :
 Calls Tryz.prog 143 #[.pointer (some ⟨p,0,none⟩),.func (.func M) #[.pointer (some ⟨p,0,none⟩)] #[],.int .i64 most] w (zao p g cap ts d (zci w.heap.size) (zd7 F most (PSof ts i0 full0)) w):=by
 have HP:=hid2 h.plt h.glt
 have HBA:=hid hba
 have HE:=hid hE
 have HO:=hid hO
 have HMO:=hid2 hm1 hm
 obtain ⟨R,hR⟩:∃ R,zd7 F most (PSof ts i0 full0)=R:=⟨_,rfl⟩
 rw [hR]
 have HON0:=hid (hO i0 full0 w h hba)
 obtain ⟨r0,hr0⟩:∃ r,F (PSof ts i0 full0)=r:=⟨_,rfl⟩
 have HR0:Hid (R=r0.bind fun t s=>zeu F most 66 [t] s):=by
  show _=_
  rw [<- hR,<- hr0];rfl
 rw [hr0] at HON0
 obtain ⟨inf,hi1,hi2,hi3,hi4⟩:=ze8
 have HI:=hid4 hi1 hi2 hi3 hi4
 have HSr0:=hid (Sole.refl p w)
 have hmm:=hM
 unfold zf9 at hmm
 clear h hba hO hR hi1 hi2 hi3 hi4 hE hM hm hm1 hr0
 go_enter Tryz.func143,Tryz.ntmps143
 go_wp2_with fail
 refine HON0.out.mono ?_
 cases r0 with
 | no why at_ =>
  rintro e w99 ⟨rfl,hS⟩
  have HS99:=hid (HSr0.out.trans hS)
  clear hS
  go_wp2
  refine ⟨rfl,?_⟩
  rw [HR0.out]
  exact ⟨rfl,HS99.out⟩
 | ok tv st =>
  rintro e w1 ⟨v,i1,full1,rfl,hT,rfl,hP,hS⟩
  obtain ⟨k8,n8,m8,a8,ks8⟩:=tv
  obtain ⟨sl,rfl,hL⟩:=zah.1 hT
  obtain ⟨o8,l8,c8,rfl⟩:=hL.shape
  obtain ⟨w2,hw2⟩:∃ x,w1.alloc (.cells #[.int .i64 k8,.string ⟨n8.toArray⟩,.int .i64 m8,.int .i64 a8,.slice o8 l8 c8] 29)=x:=⟨_,rfl⟩
  have hB2:Below w1.heap.size w1 w2:=by rw [<- hw2];exact zad _ _
  have HP2:=hid (hP.below hB2)
  have HS2:=hid (hS.trans (Sole.of_below hB2))
  have HL2:Hid (zci w.heap.size [(.node k8 n8 m8 a8 ks8)] w2 (.slice (some ⟨w1.heap.size,0,none⟩) 1 1)):=by
   have hs:=hS.size
   refine zdy (show w2.heap[w1.heap.size]?=some (zdr [.int .i64 k8,.string ⟨n8.toArray⟩,.int .i64 m8,.int .i64 a8,.slice o8 l8 c8]) from by rw [<- hw2];exact heap_alloc_new _ _) (by simp) hs (zbe ((zam.below (zal.made hT) hB2).weaken (fun b h=>⟨h.1,by omega⟩)))
  have HR1:=hid HR0.out
  clear hP hS hT hL hB2
  unfold kidV
  go_wp2
  clear hw2
  go_loopw [7] (fun sl wr=>∃ (acc:List Tree) (N:Nat) (oq:Option Addr) (cq:Nat) (ix:Nat) (full:Bool),sl=.slice oq N cq∧acc.length=N∧N<=most∧Hid (PP wr p g cap ts ix d full)∧Hid (Sole p w wr)∧Hid (zci w.heap.size acc wr (.slice oq N cq))∧Hid (R=zeu F most (67 - N) acc (PSof ts ix full))) (fun sl _=>most+1 - sliceLen sl)
  case atStart=>exact ⟨[(.node k8 n8 m8 a8 ks8)],1,some ⟨w1.heap.size,0,none⟩,1,i1,full1,rfl,rfl,HMO.out.1,HP2,HS2,HL2,HR1⟩
  case round =>
   obtain ⟨acc,N,oq,cq,ix,full,rfl,hN1,hN2,HPr,HSr,HLr,HRr⟩:=hrel
   have hmo:=HMO.out
   have HN:Hid (acc.length=N∧N<=64):=⟨hN1,by omega⟩
   have HNM:=hid hN2
   have HST:Hid (R=if (PSof ts ix full).sees [44] then ((PSof ts ix full).room N most).take.bind fun _ s=>(F s).bind fun t s=>zeu F most (66 - N) (acc++[t]) s else .ok acc (PSof ts ix full)):=by
    show _=_
    rw [HRr.out,show 67 - N=(66 - N)+1 by omega,zeu,hN1]
   have HSX:=hid (zf4 p g cap ts ix d full [44] wr HPr.out)
   clear hN1 hN2 hmo
   cases hse:(PSof ts ix full).sees [44]
   · rw [hse] at HSX
     have HRN:Hid (R=.ok acc (PSof ts ix full)):=by
      show _=_
      rw [HST.out,if_neg (by rw [hse];simp)]
     clear hse
     go_wp2_with fail
     refine HSX.out.mono ?_
     rintro e wv ⟨rfl,hB⟩
     have HPv:=hid (HPr.out.below hB)
     have HSv:=hid (HSr.out.trans (Sole.of_below hB))
     have HLv:=hid (zaf.below HLr.out hB)
     clear hB
     go_wp2
     go_ret
     rw [HRN.out]
     exact ⟨_,ix,full,rfl,HLv.out,rfl,HPv.out,HSv.out⟩
   · rw [hse] at HSX
     have hix:=HE.out.sees HPr.out.il (t:=[44]) (by simp) hse
     obtain ⟨rt,hrt⟩:∃ r,(PSof ts ix (zfl full N most)).take=r:=⟨_,rfl⟩
     have HR1b:Hid (R=rt.bind fun _ s=>(F s).bind fun t s=>zeu F most (66 - N) (acc++[t]) s):=by
      show _=_
      rw [HST.out,if_pos hse,zgr,hrt]
     have HLX:Hid (∀ t s,rt=.ok t s->N+1<=most):=fun t s e=>by
      rcases Nat.lt_or_ge N most with h1|h1
      · exact h1
      · have hNN:=HNM.out
        have hN64:N=most:=by omega
        rw [<- hrt] at e
        unfold PS.take at e
        rw [show (PSof ts ix (zfl full N most)).full=true from by rw [zgs];unfold zfl;simp [hN64],if_pos rfl] at e
        cases e
     have HTK:Hid (∀ w1,PP w1 p g cap ts ix d (zfl full N most)->Calls Tryz.prog 69 #[.pointer (some ⟨p,0,none⟩)] w1 (zao p g cap ts d zfi rt w1)):=fun w1 h1=>by
      rw [<- hrt]
      exact zdf p g cap ts ix d _ w1 h1 hix
     clear hse hix hrt
     go_wp2_with fail
     refine HSX.out.mono ?_
     rintro e wv ⟨rfl,hB⟩
     have HPv:=hid (HPr.out.below hB)
     have HSv:=hid (HSr.out.trans (Sole.of_below hB))
     have HLv:=hid (zaf.below HLr.out hB)
     have HRM:=hid (zhu p g cap ts ix d full N most wv HPv.out)
     clear hB
     go_wp2_with fail
     refine HRM.out.mono ?_
     rintro e wt ⟨rfl,hP,hS,hz2⟩
     have HPt:=hid hP
     have HSt:=hid (HSv.out.trans hS)
     have HLt:Hid (zaf (zif w.heap.size) wt acc (.slice oq N cq)):=zaf.sole HLv.out (fun b h=>by have h1:w.heap.size<=b:=h;have:=HP.out;omega) hS
     clear hP hS hz2
     go_wp2_with fail
     refine (HTK.out wt HPt.out).mono ?_
     cases rt with
     | no why at_ =>
      rintro e w99 ⟨rfl,hS⟩
      have HS99:=hid (HSt.out.trans hS)
      clear hS
      go_wp2
      refine ⟨rfl,?_⟩
      rw [HR1b.out]
      exact ⟨rfl,HS99.out⟩
     | ok tk st =>
      rintro e wc ⟨v,i2,full2,rfl,rfl,rfl,hP,hS⟩
      have HLT:=hid (HLX.out _ _ rfl)
      have HPc:=hid hP
      have HSc:=hid (HSt.out.trans hS)
      have HBc:=hid (HBA.out.sole HSc.out)
      have HLc:Hid (zaf (zif w.heap.size) wc acc (.slice oq N cq)):=zaf.sole HLt.out (fun b h=>by have h1:w.heap.size<=b:=h;have:=HP.out;omega) hS
      obtain ⟨rv,hrv⟩:∃ r,F (PSof ts i2 full2)=r:=⟨_,rfl⟩
      have HR2:Hid (R=rv.bind fun t s=>zeu F most (66 - N) (acc++[t]) s):=by
       show _=_
       rw [HR1b.out,<- hrv];rfl
      have HON:Hid (∀ w1,PP w1 p g cap ts i2 d full2->zb3 p w1->Calls Tryz.prog M #[.pointer (some ⟨p,0,none⟩)] w1 (zao p g cap ts d (zal w1.heap.size) rv w1)):=fun w1 h1 h2=>by
       rw [<- hrv]
       exact HO.out i2 full2 w1 h1 h2
      clear hP hS hrv
      unfold tokV
      go_wp2_with fail
      refine (HON.out wc HPc.out HBc.out).mono ?_
      cases rv with
      | no why at_ =>
       rintro e w99 ⟨rfl,hS⟩
       have HS99:=hid (HSc.out.trans hS)
       clear hS
       go_wp2
       refine ⟨rfl,?_⟩
       rw [HR2.out]
       exact ⟨rfl,HS99.out⟩
      | ok tv st =>
       rintro e w3 ⟨v,i,full,rfl,hT,rfl,hP,hS⟩
       obtain ⟨k8,n8,m8,a8,ks8⟩:=tv
       obtain ⟨sl,rfl,hL⟩:=zah.1 hT
       obtain ⟨o8,l8,c8,rfl⟩:=hL.shape
       obtain ⟨wb,hwb⟩:∃ x,w3.alloc (.cells #[.int .i64 k8,.string ⟨n8.toArray⟩,.int .i64 m8,.int .i64 a8,.slice o8 l8 c8] 29)=x:=⟨_,rfl⟩
       have hBb:Below w3.heap.size w3 wb:=by rw [<- hwb];exact zad _ _
       have hp:=HP.out
       have hl3:zaf (zif w.heap.size) wb acc (.slice oq N cq):=(HLc.out.sole (fun b h=>by have h1:w.heap.size<=b:=h;omega) hS).below hBb
       obtain ⟨xs,how,hAq,hrq⟩:=hl3
       have HLQ:Hid (∀ q,(Value.slice oq N cq).ownBlock=some q->w.heap.size<=q∧q<wc.heap.size):=fun q e=>HLc.out.own_lt e
       rw [HN.out.1] at how
       have HOW:=hid how
       have HRQ:=hid hrq
       have HNB:Hid (wb.heap[w3.heap.size]?=some (.cells #[.int .i64 k8,.string ⟨n8.toArray⟩,.int .i64 m8,.int .i64 a8,.slice o8 l8 c8] 29 (0,0))):=by show _=_;rw [<- hwb];exact heap_alloc_new _ _
       have HT8:=hid (zam.below hT hBb)
       have HPb:=hid (hP.below hBb)
       have HSb:=hid ((HSc.out.trans hS).trans (Sole.of_below hBb))
       have HSZ:Hid (wc.heap.size<=w3.heap.size∧w3.heap.size<wb.heap.size):=⟨hS.size,by rw [<- hwb];simp⟩
       clear hP hS hT hL hBb hp how hAq hrq
       unfold kidV
       go_wp2_with (at_builtin;refine wpList_append_lies _ rfl _ _ 27 rfl 0 29 inf (.agg #[.int .i64 0,.string ⟨#[]⟩,.int .i64 0,.int .i64 0,.slice none 0 0]) 5 64 Tryz.underlying27 HI.out.1 HI.out.2.1 HI.out.2.2.1 HI.out.2.2.2 rfl (by decide) (.slice oq N cq) N xs rfl HOW.out ⟨w3.heap.size,0,none⟩ 1 1 [.int .i64 k8,.string ⟨n8.toArray⟩,.int .i64 m8,.int .i64 a8,.slice o8 l8 c8] rfl rfl (World.news_of_block (cs:=#[.int .i64 k8,.string ⟨n8.toArray⟩,.int .i64 m8,.int .i64 a8,.slice o8 l8 c8]) (t:=29) (fr:=(0,0)) HNB.out) (by simp [Value.oneCell']) (by decide) (by have:=HN.out;unfold maxLen;omega) (by have:=HN.out;omega) (Nat.zero_le _) _ rfl ?_;intro gq cq2 w4 hown hgrow hat hlt;have HG:Hid (wb.grownBy w4 (Value.slice oq N cq).ownBlock∧w4.ownsRow 0 29 5 (.slice (some ⟨gq,0,none⟩) (N+1) cq2) (N+1) (xs++[.int .i64 k8,.string ⟨n8.toArray⟩,.int .i64 m8,.int .i64 a8,.slice o8 l8 c8])∧((Value.slice oq N cq).ownBlock=some gq∨gq=wb.heap.size)):=⟨hgrow,hown,hat⟩;clear hown hgrow hat hlt)
       clear hwb
       have hp:=HP.out
       have HP4:Hid (PP w4 p g cap ts i d full):=HPb.out.grownO HG.out.1 (fun e=>by have:=HLQ.out p e;omega) (fun e=>by have:=HLQ.out g e;omega)
       have HS4:=hid (HSb.out.grownO HG.out.1 (fun q e=>(HLQ.out q e).1))
       have HL4:Hid (zci w.heap.size (acc++[(.node k8 n8 m8 a8 ks8)]) w4 (.slice (some ⟨gq,0,none⟩) (N+1) cq2)):=by
        refine zbm (sl:=.slice oq N cq) (fun q e=>(HLQ.out q e).1) HRQ.out (zbe (HT8.out.weaken (fun b h=>?_))) (by rw [HN.out.1];exact HG.out.2.1) HG.out.1 wb.heap.size (Nat.le_refl _) HSb.out.size ?_
        · have h1:wc.heap.size<=b:=h
          have h2:=HSc.out.size
          exact ⟨by show w.heap.size<=b;omega,fun e=>by have:=(HLQ.out b e).2;omega⟩
        · rcases HG.out.2.2 with e|e
          · exact Or.inl e.symm
          · exact Or.inr (by rw [e];rfl)
       have hNN:=HN.out
       have hLT:=HLT.out
       have HRNX:Hid (R=zeu F most (67 - (N+1)) (acc++[(.node k8 n8 m8 a8 ks8)]) (PSof ts i full)):=by
        show _=_
        rw [show 67 - (N+1)=66 - N by omega]
        exact HR2.out
       clear hp
       go_roundw
       case rel=>exact ⟨acc++[(.node k8 n8 m8 a8 ks8)],N+1,some ⟨gq,0,none⟩,cq2,i,full,by go_num,by simp [hNN.1],HLT.out,HP4,HS4,HL4,HRNX⟩
       case measure=>simp [sliceLen];omega
theorem bodied_144:zf9 144:=fun args w=>by kernel_rfl
theorem bodied_142:zf9 142:=fun args w=>by kernel_rfl
theorem bodied_145:zf9 145:=fun args w=>by kernel_rfl
theorem bodied_147:zf9 147:=fun args w=>by kernel_rfl
theorem bodied_73:zf9 73:=fun args w=>by kernel_rfl
theorem bodied_119:zf9 119:=fun args w=>by kernel_rfl
theorem zbx.bind {α β:Type} {F:PS->Ans α} (h:zbx F) (f:α->PS->Ans β):zbx fun s=>(F s).bind f:=fun s hs=>by
 obtain ⟨e,a,h⟩:=h s hs
 exact ⟨e,a,by show (F s).bind f=_;rw [h];rfl⟩
theorem zbx.ite {α:Type} {F G:PS->Ans α} (c:PS->Prop) [∀ s,Decidable (c s)] (h:zbx F) (k:zbx G):zbx fun s=>if c s then F s else G s:=fun s hs=>by
 by_cases e:c s
 · obtain ⟨x,y,h⟩:=h s hs
   exact ⟨x,y,by show (if c s then _ else _)=_;rw [if_pos e,h]⟩
 · obtain ⟨x,y,h⟩:=k s hs
   exact ⟨x,y,by show (if c s then _ else _)=_;rw [if_neg e,h]⟩
theorem zgf {α:Type} (e:Int):zbx (fun s=>(s.bad e:Ans α)):=fun s _=>⟨e,s.hd.at_,rfl⟩
theorem zdg:zbx PS.take:=fun s hs=>⟨42,s.hd.at_,by unfold PS.take;rw [if_pos hs];rfl⟩
theorem zeq (t:List UInt8):zbx (fun s=>s.want t):=(zdg.bind _).ite (fun s=>s.sees t=true) (zgf 40)
theorem zn2 (k:Int):zbx (fun s=>s.ofKind k):=zdg.ite (fun s=>s.hd.kind=k) (zgf 40)
theorem strict_name:zbx zdj:=zn2 1
theorem strict_ref:zbx refP:=strict_name.bind _
theorem zf2 (k:Int):zbx (aloneP k):=zdg.bind _
theorem zk3:zbx bareP:=fun s hs=>by
 unfold bareP
 by_cases h:s.hd.kind=1
 · rw [if_pos h];exact strict_ref s hs
 · rw [if_neg h]
   cases hu:s.sees za4
   · show ∃ e a,za5 false s.hd.at_ zau s=Ans.no e a
     unfold za5
     split
     · rename_i b _
       exact zdg.bind (fun _ s'=>Ans.ok (Tree.node b.1 [] 0 s.hd.at_ []) s') s hs
     · exact ⟨40,s.hd.at_,rfl⟩
   · obtain ⟨e,a,h⟩:=zdg s hs
     exact ⟨e,a,by
      show ((s.take.bind fun _ s=>Ans.ok () s).bind _)=_
      rw [h];rfl⟩
theorem zmn {B:PS->Ans Tree} (h:zbx B):zbx (zce B):=h.ite (fun s=>(s.sees zcj||s.sees za6||s.sees zcm)=true) zk3
theorem zka {B:PS->Ans Tree} (h:zbx B):zbx (zbf B) :=
 ((zf2 25).bind _).ite (fun s=>s.sees zef=true) (((zf2 26).bind _).ite (fun s=>s.sees zed=true) ((zmn h).bind _))
theorem zik {B:PS->Ans Tree} (h:zbx B):zbx (za3 B):=(zf2 13).ite (fun s=>s.sees zcn=true) (zka h)
theorem zhf {B:PS->Ans Tree} (h:zbx B):zbx (zbi B):=(zik h).bind _
theorem strict_cases (f:Nat):zbx (zcc (f+1) []):=(zeq zc1).bind _
theorem zjb (B:PS->Ans Tree):zbx (armP B):=fun s hs=>by
 obtain ⟨e,a,h⟩:=strict_cases 65 s hs
 exact ⟨e,a,by show (zcc 66 [] s).bind _=_;rw [h];rfl⟩
theorem zgt (n:Nat) (b:Bool):zbx (zbz n b):=by
 cases n with
 | zero=>exact zgf 41
 | succ n=>exact zdg.bind _
theorem zhe (k:Int) (part:PS->Ans Tree):zbx (numberedP k part):=zdg.bind _
theorem zga:zbx versionP:=((zhe 11 zcf).bind _).ite (fun s=>s.sees zd4=true) (zgf 40)
theorem zn1:zbx resultP:=(zf2 13).ite (fun s=>s.sees zcn=true) zk3
theorem zfe:zbx zcf:=zn1.bind _
/-- a function of the parser that answers a list -/
def zhc (p g cap:Nat) (ts:List Tok) (d:Int) (f:Nat) (F:PS->Ans (List Tree)):Prop :=
 ∀ i full w,PP w p g cap ts i d full->zb3 p w->Calls Tryz.prog f #[.pointer (some ⟨p,0,none⟩)] w (zao p g cap ts d (zci w.heap.size) (F (PSof ts i full)) w)
theorem zao.lift {α:Type} {p g cap:Nat} {ts:List Tok} {d:Int} {val val' : α->World->Value->Prop} {r:Ans α} {w w1:World} {e:Ending} {w' : World} (hv:∀ a w v,val a w v->val' a w v) (hB:Below w.heap.size w w1) (h:zao p g cap ts d val r w1 e w'):zao p g cap ts d val' r w e w':=by
 cases r with
 | no why at_=>exact ⟨h.1,(Sole.of_below hB).trans h.2⟩
 | ok a s =>
  obtain ⟨v,i,full,h1,h2,h3,h4,h5⟩:=h
  exact ⟨v,i,full,h1,hv _ _ _ h2,h3,h4,(Sole.of_below hB).trans h5⟩
theorem zci.weaken {B B' : Nat} {ks:List Tree} {w:World} {v:Value} (h:zci B ks w v) (hB:B'<=B):zci B' ks w v:=zaf.weaken h (fun _ hb=>Nat.le_trans hB hb)
theorem some_one (p g cap:Nat) (ts:List Tok) (d:Int) (M:Nat) (F:PS->Ans Tree) (hO:zdp p g cap ts d M F) (hF:zbx F) (hM:zf9 M) (t:List UInt8) (i:Nat) (full:Bool) (w:World) (h:PP w p g cap ts i d full) (hba:zb3 p w) :
 Calls Tryz.prog 117 #[.pointer (some ⟨p,0,none⟩),.func (.func M) #[.pointer (some ⟨p,0,none⟩)] #[],.slice (some ⟨w.heap.size,0,none⟩) 1 1] (w.alloc (.cells #[.string ⟨t.toArray⟩] 9)) (zao p g cap ts d (zci w.heap.size) (zck F [t] 66 [] (PSof ts i full)) w):=by
 have hB:=zad w (.cells #[.string ⟨t.toArray⟩] 9)
 refine (some_any p g cap ts d M F hO hF hM w.heap.size 1 [t] (by simp) i full _ (h.below hB) (hba.below hB) (Nat.ne_of_gt h.plt) (by simp) ?_).mono fun e w' hp=>zao.lift (fun a w v h=>zci.weaken h hB.size) hB hp
 intro j hj
 have:j=0:=by simp at hj;omega
 subst this
 simp
theorem some_two (p g cap:Nat) (ts:List Tok) (d:Int) (M:Nat) (F:PS->Ans Tree) (hO:zdp p g cap ts d M F) (hF:zbx F) (hM:zf9 M) (t u:List UInt8) (i:Nat) (full:Bool) (w:World) (h:PP w p g cap ts i d full) (hba:zb3 p w) :
 Calls Tryz.prog 117 #[.pointer (some ⟨p,0,none⟩),.func (.func M) #[.pointer (some ⟨p,0,none⟩)] #[],.slice (some ⟨w.heap.size,0,none⟩) 2 2] (w.alloc (.cells #[.string ⟨t.toArray⟩,.string ⟨u.toArray⟩] 9)) (zao p g cap ts d (zci w.heap.size) (zck F [t,u] 66 [] (PSof ts i full)) w):=by
 have hB:=zad w (.cells #[.string ⟨t.toArray⟩,.string ⟨u.toArray⟩] 9)
 refine (some_any p g cap ts d M F hO hF hM w.heap.size 2 [t,u] (by simp) i full _ (h.below hB) (hba.below hB) (Nat.ne_of_gt h.plt) (by simp) ?_).mono fun e w' hp=>zao.lift (fun a w v h=>zci.weaken h hB.size) hB hp
 intro j hj
 have:j=0∨j=1:=by simp at hj;omega
 rcases this with rfl|rfl
 · simp
 · simp
set_option maxHeartbeats 1000000 in
set_option maxRecDepth 4000 in
theorem zfw (p g cap:Nat) (ts:List Tok) (hE:Ends ts) (d:Int):zhc p g cap ts d 114 (membersP):=by
 intro i full w h hba
 have HP:=hid2 h.plt h.glt
 have HE:=hid hE
 have HBA:=hid hba
 have HPa:=hid h
 have HSa:=hid (Sole.refl p w)
 obtain ⟨R,hR⟩:∃ R,(membersP) (PSof ts i full)=R:=⟨_,rfl⟩
 rw [hR]
 have HR0:=hid hR.symm
 have hmf:∀ (fn:Fn) (first cap:Array Value) (w:World),(Instr.makeFunc fn first cap).run Tryz.prog w=.ok (.func fn first cap) w:=fun _ _ _ _=>rfl
 clear h hba hE hR
 go_enter Tryz.func114,Tryz.ntmps114
 have HWA:=hid (zbs p g cap ts HE.out i d full [123] (by simp) w HPa.out)
 obtain ⟨ru,hru⟩:∃ r,(PSof ts i full).want [123]=r:=⟨_,rfl⟩
 have HR1:Hid (R=ru.bind fun _ s=>(zd7 memberP 64 s).bind fun l s=>(s.want [125]).bind fun _ s=>.ok l s):=by
  show _=_
  rw [HR0.out];first|(rw [<- hru];done)|(rw [<- hru];rfl)
 rw [hru] at HWA
 clear hru
 go_wp2_with fail
 refine HWA.out.mono ?_
 cases ru with
 | no why at_ =>
  rintro e w99 ⟨rfl,hS⟩
  have HS99:=hid (HSa.out.trans hS)
  clear hS
  go_wp2
  refine ⟨rfl,?_⟩
  rw [HR1.out]
  exact ⟨rfl,HS99.out⟩
 | ok u st =>
  rintro e w1 ⟨v,i,full,rfl,rfl,rfl,hP,hS⟩
  have HS1:=hid hS
  have HB1:zb3 p w1:=HBA.out.sole hS
  have HMC:=hid (znk p g cap ts HE.out d 144 memberP (fun i full w h _=>member_any p g cap ts HE.out i d full w h) bodied_144 64 (by omega) (by omega) i full w1 hP HB1)
  obtain ⟨rl,hrl⟩:∃ r,zd7 memberP 64 (PSof ts i full)=r:=⟨_,rfl⟩
  have HR2:Hid (R=rl.bind fun l s=>(s.want [125]).bind fun _ s=>.ok l s):=by
   show _=_
   rw [HR1.out];first|(rw [<- hrl];done)|(rw [<- hrl];rfl)
  rw [hrl] at HMC
  clear hP hS HB1 hrl
  go_wp2_with fail
  refine HMC.out.mono ?_
  cases rl with
  | no why at_ =>
   rintro e w99 ⟨rfl,hS⟩
   have HS99:=hid (HS1.out.trans hS)
   clear hS
   go_wp2
   refine ⟨rfl,?_⟩
   rw [HR2.out]
   exact ⟨rfl,HS99.out⟩
  | ok l st =>
   rintro e w2 ⟨v,i,full,rfl,hL,rfl,hP,hS⟩
   have HS2:=hid (HS1.out.trans hS)
   have HP2:=hid hP
   have HL2:=hid (zci.weaken hL HS1.out.size)
   obtain ⟨o8,l8,c8,rfl⟩:=hL.shape
   clear hP hS hL
   have HWA:=hid (zbs p g cap ts HE.out i d full [125] (by simp) w2 HP2.out)
   obtain ⟨ru,hru⟩:∃ r,(PSof ts i full).want [125]=r:=⟨_,rfl⟩
   have HR3:Hid (R=ru.bind fun _ s=>.ok l s):=by
    show _=_
    rw [HR2.out];first|(rw [<- hru];done)|(rw [<- hru];rfl)
   rw [hru] at HWA
   clear hru
   go_wp2_with fail
   refine HWA.out.mono ?_
   cases ru with
   | no why at_ =>
    rintro e w99 ⟨rfl,hS⟩
    have HS99:=hid (HS2.out.trans hS)
    clear hS
    go_wp2
    refine ⟨rfl,?_⟩
    rw [HR3.out]
    exact ⟨rfl,HS99.out⟩
   | ok u st =>
    rintro e w3 ⟨v,i,full,rfl,rfl,rfl,hP,hS⟩
    have HS3:=hid (HS2.out.trans hS)
    have HP3:=hid hP
    have HL3:=hid (zci.sole HL2.out (Nat.le_refl _) HP.out.1 hS)
    clear hP hS
    go_wp2
    go_ret
    rw [HR3.out]
    exact ⟨_,i,full,rfl,HL3.out,rfl,HP3.out,HS3.out⟩
set_option maxHeartbeats 1000000 in
set_option maxRecDepth 4000 in
theorem zhz (p g cap:Nat) (ts:List Tok) (hE:Ends ts) (d:Int) (B:PS->Ans Tree) (hF:zdp p g cap ts d 145 (zbi B)) (hB:zbx B):zhc p g cap ts d 115 (fieldsP B):=by
 intro i full w h hba
 have HP:=hid2 h.plt h.glt
 have HE:=hid hE
 have HBA:=hid hba
 have HPa:=hid h
 have HSa:=hid (Sole.refl p w)
 obtain ⟨R,hR⟩:∃ R,(fieldsP B) (PSof ts i full)=R:=⟨_,rfl⟩
 rw [hR]
 have HR0:=hid hR.symm
 have hmf:∀ (fn:Fn) (first cap:Array Value) (w:World),(Instr.makeFunc fn first cap).run Tryz.prog w=.ok (.func fn first cap) w:=fun _ _ _ _=>rfl
 have HF:=hid2 hF (zhf hB)
 clear hF hB
 clear h hba hE hR
 go_enter Tryz.func115,Tryz.ntmps115
 have HWA:=hid (zbs p g cap ts HE.out i d full [123] (by simp) w HPa.out)
 obtain ⟨ru,hru⟩:∃ r,(PSof ts i full).want [123]=r:=⟨_,rfl⟩
 have HR1:Hid (R=ru.bind fun _ s=>(zck (zbi B) [[125]] 66 [] s).bind fun l s=>(s.want [125]).bind fun _ s=>.ok l s):=by
  show _=_
  rw [HR0.out];first|(rw [<- hru];done)|(rw [<- hru];rfl)
 rw [hru] at HWA
 clear hru
 go_wp2_with fail
 refine HWA.out.mono ?_
 cases ru with
 | no why at_ =>
  rintro e w99 ⟨rfl,hS⟩
  have HS99:=hid (HSa.out.trans hS)
  clear hS
  go_wp2
  refine ⟨rfl,?_⟩
  rw [HR1.out]
  exact ⟨rfl,HS99.out⟩
 | ok u st =>
  rintro e w1 ⟨v,i,full,rfl,rfl,rfl,hP,hS⟩
  have HS1:=hid hS
  have HB1:zb3 p w1:=HBA.out.sole hS
  have HMC:=hid (some_one p g cap ts d 145 (zbi B) HF.out.1 HF.out.2 bodied_145 [125] i full w1 hP HB1)
  obtain ⟨rl,hrl⟩:∃ r,zck (zbi B) [[125]] 66 [] (PSof ts i full)=r:=⟨_,rfl⟩
  have HR2:Hid (R=rl.bind fun l s=>(s.want [125]).bind fun _ s=>.ok l s):=by
   show _=_
   rw [HR1.out];first|(rw [<- hrl];done)|(rw [<- hrl];rfl)
  rw [hrl] at HMC
  clear hP hS HB1 hrl
  go_wp2_with fail
  refine HMC.out.mono ?_
  cases rl with
  | no why at_ =>
   rintro e w99 ⟨rfl,hS⟩
   have HS99:=hid (HS1.out.trans hS)
   clear hS
   go_wp2
   refine ⟨rfl,?_⟩
   rw [HR2.out]
   exact ⟨rfl,HS99.out⟩
  | ok l st =>
   rintro e w2 ⟨v,i,full,rfl,hL,rfl,hP,hS⟩
   have HS2:=hid (HS1.out.trans hS)
   have HP2:=hid hP
   have HL2:=hid (zci.weaken hL HS1.out.size)
   obtain ⟨o8,l8,c8,rfl⟩:=hL.shape
   clear hP hS hL
   have HWA:=hid (zbs p g cap ts HE.out i d full [125] (by simp) w2 HP2.out)
   obtain ⟨ru,hru⟩:∃ r,(PSof ts i full).want [125]=r:=⟨_,rfl⟩
   have HR3:Hid (R=ru.bind fun _ s=>.ok l s):=by
    show _=_
    rw [HR2.out];first|(rw [<- hru];done)|(rw [<- hru];rfl)
   rw [hru] at HWA
   clear hru
   go_wp2_with fail
   refine HWA.out.mono ?_
   cases ru with
   | no why at_ =>
    rintro e w99 ⟨rfl,hS⟩
    have HS99:=hid (HS2.out.trans hS)
    clear hS
    go_wp2
    refine ⟨rfl,?_⟩
    rw [HR3.out]
    exact ⟨rfl,HS99.out⟩
   | ok u st =>
    rintro e w3 ⟨v,i,full,rfl,rfl,rfl,hP,hS⟩
    have HS3:=hid (HS2.out.trans hS)
    have HP3:=hid hP
    have HL3:=hid (zci.sole HL2.out (Nat.le_refl _) HP.out.1 hS)
    clear hP hS
    go_wp2
    go_ret
    rw [HR3.out]
    exact ⟨_,i,full,rfl,HL3.out,rfl,HP3.out,HS3.out⟩
set_option maxHeartbeats 1000000 in
set_option maxRecDepth 4000 in
theorem zg7 (p g cap:Nat) (ts:List Tok) (hE:Ends ts) (d:Int):zhc p g cap ts d 151 argumentsP:=by
 intro i full w h hba
 have HP:=hid2 h.plt h.glt
 have HE:=hid hE
 have HBA:=hid hba
 have HPa:=hid h
 obtain ⟨R,hR⟩:∃ R,argumentsP (PSof ts i full)=R:=⟨_,rfl⟩
 rw [hR]
 have hmf:∀ (fn:Fn) (first cap:Array Value) (w:World),(Instr.makeFunc fn first cap).run Tryz.prog w=.ok (.func fn first cap) w:=fun _ _ _ _=>rfl
 have HSX:=hid (zf4 p g cap ts i d full zcn w h)
 cases hse:(PSof ts i full).sees zcn
 · rw [hse] at HSX
   have hR1:R=zd7 bareP 4 (PSof ts i full):=by
    rw [<- hR];unfold argumentsP;rw [hse,if_neg (by simp)]
   have HMC:Hid (∀ w1,Below w.heap.size w w1->Calls Tryz.prog 143 #[.pointer (some ⟨p,0,none⟩),.func (.func 142) #[.pointer (some ⟨p,0,none⟩)] #[],.int .i64 4] w1 (zao p g cap ts d (zci w1.heap.size) R w1)):=fun w1 hB=>by
    rw [hR1]
    exact znk p g cap ts HE.out d 142 bareP (zh3 p g cap ts HE.out d) bodied_142 4 (by omega) (by omega) i full w1 (HPa.out.below hB) (HBA.out.below hB)
   clear h hba hE hR hse hR1
   go_enter Tryz.func151,Tryz.ntmps151
   go_wp2_with fail
   refine HSX.out.mono ?_
   rintro e w1 ⟨rfl,hB⟩
   have HS1:Hid (Sole p w w1):=Sole.of_below hB
   have HM1:=HMC.out w1 hB
   have HM2:=hid HM1
   clear hB HM1
   go_wp2_with fail
   refine HM2.out.mono ?_
   cases R with
   | no why at_ =>
    rintro e w99 ⟨rfl,hS⟩
    have HS99:=hid (HS1.out.trans hS)
    clear hS
    go_wp2
    exact ⟨rfl,rfl,HS99.out⟩
   | ok l st =>
    rintro e w2 ⟨v,i,full,rfl,hL,rfl,hP,hS⟩
    have HS2:=hid (HS1.out.trans hS)
    have HP2:=hid hP
    have HL2:=hid (zci.weaken hL HS1.out.size)
    obtain ⟨o8,l8,c8,rfl⟩:=hL.shape
    clear hP hS hL
    go_wp2
    go_ret
    exact ⟨_,i,full,rfl,HL2.out,rfl,HP2.out,HS2.out⟩
 · rw [hse] at HSX
   have hix:=hE.sees h.il (t:=zcn) (by simp [zcn]) hse
   obtain ⟨ra,hra⟩:∃ r,aloneP 13 (PSof ts i full)=r:=⟨_,rfl⟩
   have HR1:Hid (R=ra.bind fun t s=>.ok [t] s):=by
    show _=_
    rw [<- hR,<- hra];unfold argumentsP;rw [hse,if_pos rfl]
   have HAL:Hid (∀ w1,Below w.heap.size w w1->Calls Tryz.prog 112 #[.pointer (some ⟨p,0,none⟩),.int .i64 13] w1 (zao p g cap ts d (zal w1.heap.size) ra w1)):=fun w1 hB=>by
    rw [<- hra]
    exact zdm p g cap ts i d 13 full w1 (HPa.out.below hB) hix
   clear h hba hE hR hse hix hra
   go_enter Tryz.func151,Tryz.ntmps151
   go_wp2_with fail
   refine HSX.out.mono ?_
   rintro e w1 ⟨rfl,hB⟩
   have HS1:Hid (Sole p w w1):=Sole.of_below hB
   have HA1:=hid (HAL.out w1 hB)
   clear hB
   go_wp2_with fail
   refine HA1.out.mono ?_
   cases ra with
   | no why at_ =>
    rintro e w99 ⟨rfl,hS⟩
    have HS99:=hid (HS1.out.trans hS)
    clear hS
    go_wp2
    refine ⟨rfl,?_⟩
    rw [HR1.out]
    exact ⟨rfl,HS99.out⟩
   | ok tv st =>
    rintro e w2 ⟨v,i,full,rfl,hT,rfl,hP,hS⟩
    obtain ⟨k8,n8,m8,a8,ks8⟩:=tv
    obtain ⟨sl,rfl,hL⟩:=zah.1 hT
    obtain ⟨o8,l8,c8,rfl⟩:=hL.shape
    obtain ⟨w3,hw3⟩:∃ x,w2.alloc (.cells #[.int .i64 k8,.string ⟨n8.toArray⟩,.int .i64 m8,.int .i64 a8,.slice o8 l8 c8] 29)=x:=⟨_,rfl⟩
    have hB3:Below w2.heap.size w2 w3:=by rw [<- hw3];exact zad _ _
    have hs2:Sole p w w2:=HS1.out.trans hS
    have HP3:=hid (hP.below hB3)
    have HS3:=hid (hs2.trans (Sole.of_below hB3))
    have HL3:Hid (zci w.heap.size [(.node k8 n8 m8 a8 ks8)] w3 (.slice (some ⟨w2.heap.size,0,none⟩) 1 1)):=by
     have hs:=hs2.size
     have h1:=HS1.out.size
     exact zdy (show w3.heap[w2.heap.size]?=some (zdr [.int .i64 k8,.string ⟨n8.toArray⟩,.int .i64 m8,.int .i64 a8,.slice o8 l8 c8]) from by rw [<- hw3];exact heap_alloc_new _ _) (by simp) hs (zbe ((zam.below (zal.made hT) hB3).weaken (fun b h=>⟨Nat.le_trans h1 h.1,by omega⟩)))
    clear hP hS hT hL hB3 hs2
    unfold kidV
    go_wp2
    go_ret
    rw [HR1.out]
    exact ⟨_,i,full,rfl,HL3.out,rfl,HP3.out,HS3.out⟩
end Go.Proofs.YtodfklpmbclgkaaGreatDoor
