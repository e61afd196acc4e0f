import Derived.Test.YtodfklpmbclgkaaGreatDoorBack08
import Derived.Test.YtodfklpmbclgkaaGreatDoorBack00
import Derived.Test.YtodfklpmbclgkaaGreatDoorRows
import Derived.WalkKit
import Derived.Below
namespace Go.Proofs.YtodfklpmbclgkaaGreatDoor
open Go.RowKit
theorem bld034 (k a:Int) (o:Option Addr) (n c:Nat) (w:World):(Instr.build 29 #[(0,.int .i64 k),(3,.int .i64 a),(4,.slice o n c)]).run Tryz.prog w=.ok (.agg #[.int .i64 k,.string ⟨#[]⟩,.int .i64 0,.int .i64 a,.slice o n c]) w:=by kernel_rfl
theorem versionK (p g cap:Nat) (ts:List Tok) (hE:Ends ts) (d:Int):zdp p g cap ts d 73 versionP :=
 version_any p g cap ts hE d fun i full w hi h hba=>zj0 p g cap ts hE d 11 119 zcf (zoa p g cap ts hE d) zfe bodied_119 i full w hi h hba
set_option maxRecDepth 4000 in
theorem zki (p g cap:Nat) (ts:List Tok) (d k m:Int) (t:List UInt8) (a:Nat) (w:World) (hp:p<w.heap.size) (hg:g<w.heap.size) (r:Ans Tree) (hconst:(t==[99,111,110,115,116])=true)
 (H0:Hid (∀ w1,Below w.heap.size w w1->Calls Tryz.prog 38 #[.pointer (some ⟨p,0,none⟩)] w1 fun e w'=>e=.returned (.agg #[.int .i64 k,.string ⟨t.toArray⟩,.int .i64 m,.int .i64 a])∧Below w1.heap.size w1 w'))
 (HT:Hid (∀ w1,Below w.heap.size w w1->Calls Tryz.prog 68 #[.pointer (some ⟨p,0,none⟩)] w1 (zao p g cap ts d (zal w1.heap.size) r w1))) :
 Calls Tryz.prog 40 #[.pointer (some ⟨p,0,none⟩)] w (zao p g cap ts d (zal w.heap.size) r w):=by
 have HP:=hid2 hp hg
 clear hp hg
 have hmf:∀ (fn:Fn) (first cap:Array Value) (w:World),(Instr.makeFunc fn first cap).run Tryz.prog w=.ok (.func fn first cap) w:=fun _ _ _ _=>rfl
 have q1:=fld1 k m a ⟨t.toArray⟩
 obtain ⟨wa,hwa⟩:∃ x,w.alloc (.cells #[.int .i64 0,.string ⟨#[]⟩,.int .i64 0,.int .i64 0,.slice none 0 0] 29)=x:=⟨_,rfl⟩
 have b1:Below w.heap.size w wa:=by rw [<- hwa];exact zad _ _
 have HKa:Hid (Kep w wa w.heap.size (kidO 0 [] 0 0 (.slice none 0 0))):=by show Kep w wa _ _;rw [<- hwa];exact Kep.new (Nat.le_refl _) _
 have HBa:=hid b1
 have HT0:=hid (H0.out wa b1)
 clear b1
 go_enter Tryz.func40,Tryz.ntmps40
 go_wp2_with fail
 refine HT0.out.mono ?_
 rintro e w1 ⟨rfl,hB1⟩
 have hb01:Below w.heap.size w w1:=HBa.out.trans (hB1.mono HBa.out.size)
 have HS1:Hid (Sole p w w1):=Sole.of_below hb01
 have HB1:=hid hb01
 have HK1:=hid (HKa.out.below hB1)
 clear hb01 hB1
 go_wp2_with fail
 clear hwa
 refine (HT.out w1 HB1.out).mono ?_
 cases r with
 | no why at_ =>
  rintro e w99 ⟨rfl,hS⟩
  have HS99:=hid (HS1.out.trans hS)
  clear hS
  go_wp2
  exact ⟨rfl,rfl,HS99.out⟩
 | ok tv st =>
  rintro e w6 ⟨v,i,full,rfl,hT,rfl,hP,hS⟩
  obtain ⟨k8,n8,m8,a8,ks8⟩:=tv
  obtain ⟨sl,rfl,hL⟩:=zah.1 hT
  obtain ⟨o8,l8,c8,rfl⟩:=hL.shape
  have hlt:=HK1.out.lt
  have HP6:=hid hP
  have HS6:=hid (HS1.out.trans hS)
  have HK6:=hid (HK1.out.sole HP.out.1 hS)
  have HL6:Hid (zaf (fun b=>w.heap.size<b) w6 ks8 (.slice o8 l8 c8)):=hL.weaken (fun b h=>by have h1:w1.heap.size<=b:=h;omega)
  clear hP hS hT hL hlt
  unfold kidV
  obtain ⟨⟨z0,z1,z2,z3,z4⟩,⟨y0,y1,y2,y3,y4⟩⟩:=zac HK6.out.1
  go_wp2
  have q:=res5 w6 w.heap.size (.int .i64 k8) (.string ⟨n8.toArray⟩) (.int .i64 m8) (.int .i64 a8) (.slice o8 l8 c8) z0 z1 z2 z3 z4
  have hf:=fin5 (r:=w.heap.size) (w9:=w6) (k:=k8) (n:=n8) (m:=m8) (a:=a8) (sl:=(.slice o8 l8 c8)) HK6.out.2 HS6.out _ rfl
  generalize ((((w6.setCell ⟨w.heap.size,0,none⟩ (.int .i64 k8)).setCell ⟨w.heap.size,1,none⟩ (.string ⟨n8.toArray⟩)).setCell ⟨w.heap.size,2,none⟩ (.int .i64 m8)).setCell ⟨w.heap.size,3,none⟩ (.int .i64 a8)).setCell ⟨w.heap.size,4,none⟩ (.slice o8 l8 c8)=wz at q hf ⊢
  obtain ⟨q0,q1,q2,q3,q4⟩:=q
  refine bodyPost_ret (v:=.agg #[.int .i64 k8,.string ⟨n8.toArray⟩,.int .i64 m8,.int .i64 a8,(.slice o8 l8 c8)]) (by simp [results,Tryz.results40,go_sem,q0,q1,q2,q3,q4]) rfl ?_
  have hr2:=HK6.out.2
  have hpg:=HP.out
  exact ⟨_,_,_,rfl,zbu HL6.out (fun b h=>Nat.le_of_lt h) (fun b h=>Nat.ne_of_gt h) hf.2,rfl,HP6.out.sole_but (by omega) (by omega) hf.2,hf.1⟩
set_option maxRecDepth 4000 in
theorem zmb (p g cap:Nat) (ts:List Tok) (d k m:Int) (t:List UInt8) (a:Nat) (w:World) (hp:p<w.heap.size) (hg:g<w.heap.size) (r:Ans Tree) (hconst:(t==[99,111,110,115,116])=false) (htypedef:(t==[116,121,112,101,100,101,102])=false) (henum:(t==[101,110,117,109])=true)
 (H0:Hid (∀ w1,Below w.heap.size w w1->Calls Tryz.prog 38 #[.pointer (some ⟨p,0,none⟩)] w1 fun e w'=>e=.returned (.agg #[.int .i64 k,.string ⟨t.toArray⟩,.int .i64 m,.int .i64 a])∧Below w1.heap.size w1 w'))
 (HT:Hid (∀ w1,Below w.heap.size w w1->Calls Tryz.prog 71 #[.pointer (some ⟨p,0,none⟩),.bool true] w1 (zao p g cap ts d (zal w1.heap.size) r w1))) :
 Calls Tryz.prog 40 #[.pointer (some ⟨p,0,none⟩)] w (zao p g cap ts d (zal w.heap.size) r w):=by
 have HP:=hid2 hp hg
 clear hp hg
 have hmf:∀ (fn:Fn) (first cap:Array Value) (w:World),(Instr.makeFunc fn first cap).run Tryz.prog w=.ok (.func fn first cap) w:=fun _ _ _ _=>rfl
 have q1:=fld1 k m a ⟨t.toArray⟩
 obtain ⟨wa,hwa⟩:∃ x,w.alloc (.cells #[.int .i64 0,.string ⟨#[]⟩,.int .i64 0,.int .i64 0,.slice none 0 0] 29)=x:=⟨_,rfl⟩
 have b1:Below w.heap.size w wa:=by rw [<- hwa];exact zad _ _
 have HKa:Hid (Kep w wa w.heap.size (kidO 0 [] 0 0 (.slice none 0 0))):=by show Kep w wa _ _;rw [<- hwa];exact Kep.new (Nat.le_refl _) _
 have HBa:=hid b1
 have HT0:=hid (H0.out wa b1)
 clear b1
 go_enter Tryz.func40,Tryz.ntmps40
 go_wp2_with fail
 refine HT0.out.mono ?_
 rintro e w1 ⟨rfl,hB1⟩
 have hb01:Below w.heap.size w w1:=HBa.out.trans (hB1.mono HBa.out.size)
 have HS1:Hid (Sole p w w1):=Sole.of_below hb01
 have HB1:=hid hb01
 have HK1:=hid (HKa.out.below hB1)
 clear hb01 hB1
 go_wp2_with fail
 clear hwa
 refine (HT.out w1 HB1.out).mono ?_
 cases r with
 | no why at_ =>
  rintro e w99 ⟨rfl,hS⟩
  have HS99:=hid (HS1.out.trans hS)
  clear hS
  go_wp2
  exact ⟨rfl,rfl,HS99.out⟩
 | ok tv st =>
  rintro e w6 ⟨v,i,full,rfl,hT,rfl,hP,hS⟩
  obtain ⟨k8,n8,m8,a8,ks8⟩:=tv
  obtain ⟨sl,rfl,hL⟩:=zah.1 hT
  obtain ⟨o8,l8,c8,rfl⟩:=hL.shape
  have hlt:=HK1.out.lt
  have HP6:=hid hP
  have HS6:=hid (HS1.out.trans hS)
  have HK6:=hid (HK1.out.sole HP.out.1 hS)
  have HL6:Hid (zaf (fun b=>w.heap.size<b) w6 ks8 (.slice o8 l8 c8)):=hL.weaken (fun b h=>by have h1:w1.heap.size<=b:=h;omega)
  clear hP hS hT hL hlt
  unfold kidV
  obtain ⟨⟨z0,z1,z2,z3,z4⟩,⟨y0,y1,y2,y3,y4⟩⟩:=zac HK6.out.1
  go_wp2
  have q:=res5 w6 w.heap.size (.int .i64 k8) (.string ⟨n8.toArray⟩) (.int .i64 m8) (.int .i64 a8) (.slice o8 l8 c8) z0 z1 z2 z3 z4
  have hf:=fin5 (r:=w.heap.size) (w9:=w6) (k:=k8) (n:=n8) (m:=m8) (a:=a8) (sl:=(.slice o8 l8 c8)) HK6.out.2 HS6.out _ rfl
  generalize ((((w6.setCell ⟨w.heap.size,0,none⟩ (.int .i64 k8)).setCell ⟨w.heap.size,1,none⟩ (.string ⟨n8.toArray⟩)).setCell ⟨w.heap.size,2,none⟩ (.int .i64 m8)).setCell ⟨w.heap.size,3,none⟩ (.int .i64 a8)).setCell ⟨w.heap.size,4,none⟩ (.slice o8 l8 c8)=wz at q hf ⊢
  obtain ⟨q0,q1,q2,q3,q4⟩:=q
  refine bodyPost_ret (v:=.agg #[.int .i64 k8,.string ⟨n8.toArray⟩,.int .i64 m8,.int .i64 a8,(.slice o8 l8 c8)]) (by simp [results,Tryz.results40,go_sem,q0,q1,q2,q3,q4]) rfl ?_
  have hr2:=HK6.out.2
  have hpg:=HP.out
  exact ⟨_,_,_,rfl,zbu HL6.out (fun b h=>Nat.le_of_lt h) (fun b h=>Nat.ne_of_gt h) hf.2,rfl,HP6.out.sole_but (by omega) (by omega) hf.2,hf.1⟩
set_option maxRecDepth 4000 in
theorem zjo (p g cap:Nat) (ts:List Tok) (d k m:Int) (t:List UInt8) (a:Nat) (w:World) (hp:p<w.heap.size) (hg:g<w.heap.size) (r:Ans Tree) (hconst:(t==[99,111,110,115,116])=false) (htypedef:(t==[116,121,112,101,100,101,102])=false) (henum:(t==[101,110,117,109])=false) (hstruct:(t==[115,116,114,117,99,116])=true)
 (H0:Hid (∀ w1,Below w.heap.size w w1->Calls Tryz.prog 38 #[.pointer (some ⟨p,0,none⟩)] w1 fun e w'=>e=.returned (.agg #[.int .i64 k,.string ⟨t.toArray⟩,.int .i64 m,.int .i64 a])∧Below w1.heap.size w1 w'))
 (HT:Hid (∀ w1,Below w.heap.size w w1->Calls Tryz.prog 71 #[.pointer (some ⟨p,0,none⟩),.bool true] w1 (zao p g cap ts d (zal w1.heap.size) r w1))) :
 Calls Tryz.prog 40 #[.pointer (some ⟨p,0,none⟩)] w (zao p g cap ts d (zal w.heap.size) r w):=by
 have HP:=hid2 hp hg
 clear hp hg
 have hmf:∀ (fn:Fn) (first cap:Array Value) (w:World),(Instr.makeFunc fn first cap).run Tryz.prog w=.ok (.func fn first cap) w:=fun _ _ _ _=>rfl
 have q1:=fld1 k m a ⟨t.toArray⟩
 obtain ⟨wa,hwa⟩:∃ x,w.alloc (.cells #[.int .i64 0,.string ⟨#[]⟩,.int .i64 0,.int .i64 0,.slice none 0 0] 29)=x:=⟨_,rfl⟩
 have b1:Below w.heap.size w wa:=by rw [<- hwa];exact zad _ _
 have HKa:Hid (Kep w wa w.heap.size (kidO 0 [] 0 0 (.slice none 0 0))):=by show Kep w wa _ _;rw [<- hwa];exact Kep.new (Nat.le_refl _) _
 have HBa:=hid b1
 have HT0:=hid (H0.out wa b1)
 clear b1
 go_enter Tryz.func40,Tryz.ntmps40
 go_wp2_with fail
 refine HT0.out.mono ?_
 rintro e w1 ⟨rfl,hB1⟩
 have hb01:Below w.heap.size w w1:=HBa.out.trans (hB1.mono HBa.out.size)
 have HS1:Hid (Sole p w w1):=Sole.of_below hb01
 have HB1:=hid hb01
 have HK1:=hid (HKa.out.below hB1)
 clear hb01 hB1
 go_wp2_with fail
 clear hwa
 refine (HT.out w1 HB1.out).mono ?_
 cases r with
 | no why at_ =>
  rintro e w99 ⟨rfl,hS⟩
  have HS99:=hid (HS1.out.trans hS)
  clear hS
  go_wp2
  exact ⟨rfl,rfl,HS99.out⟩
 | ok tv st =>
  rintro e w6 ⟨v,i,full,rfl,hT,rfl,hP,hS⟩
  obtain ⟨k8,n8,m8,a8,ks8⟩:=tv
  obtain ⟨sl,rfl,hL⟩:=zah.1 hT
  obtain ⟨o8,l8,c8,rfl⟩:=hL.shape
  have hlt:=HK1.out.lt
  have HP6:=hid hP
  have HS6:=hid (HS1.out.trans hS)
  have HK6:=hid (HK1.out.sole HP.out.1 hS)
  have HL6:Hid (zaf (fun b=>w.heap.size<b) w6 ks8 (.slice o8 l8 c8)):=hL.weaken (fun b h=>by have h1:w1.heap.size<=b:=h;omega)
  clear hP hS hT hL hlt
  unfold kidV
  obtain ⟨⟨z0,z1,z2,z3,z4⟩,⟨y0,y1,y2,y3,y4⟩⟩:=zac HK6.out.1
  go_wp2
  have q:=res5 w6 w.heap.size (.int .i64 k8) (.string ⟨n8.toArray⟩) (.int .i64 m8) (.int .i64 a8) (.slice o8 l8 c8) z0 z1 z2 z3 z4
  have hf:=fin5 (r:=w.heap.size) (w9:=w6) (k:=k8) (n:=n8) (m:=m8) (a:=a8) (sl:=(.slice o8 l8 c8)) HK6.out.2 HS6.out _ rfl
  generalize ((((w6.setCell ⟨w.heap.size,0,none⟩ (.int .i64 k8)).setCell ⟨w.heap.size,1,none⟩ (.string ⟨n8.toArray⟩)).setCell ⟨w.heap.size,2,none⟩ (.int .i64 m8)).setCell ⟨w.heap.size,3,none⟩ (.int .i64 a8)).setCell ⟨w.heap.size,4,none⟩ (.slice o8 l8 c8)=wz at q hf ⊢
  obtain ⟨q0,q1,q2,q3,q4⟩:=q
  refine bodyPost_ret (v:=.agg #[.int .i64 k8,.string ⟨n8.toArray⟩,.int .i64 m8,.int .i64 a8,(.slice o8 l8 c8)]) (by simp [results,Tryz.results40,go_sem,q0,q1,q2,q3,q4]) rfl ?_
  have hr2:=HK6.out.2
  have hpg:=HP.out
  exact ⟨_,_,_,rfl,zbu HL6.out (fun b h=>Nat.le_of_lt h) (fun b h=>Nat.ne_of_gt h) hf.2,rfl,HP6.out.sole_but (by omega) (by omega) hf.2,hf.1⟩
set_option maxRecDepth 4000 in
theorem zkh (p g cap:Nat) (ts:List Tok) (d k m:Int) (t:List UInt8) (a:Nat) (w:World) (hp:p<w.heap.size) (hg:g<w.heap.size) (r:Ans Tree) (hconst:(t==[99,111,110,115,116])=false) (htypedef:(t==[116,121,112,101,100,101,102])=false) (henum:(t==[101,110,117,109])=false) (hstruct:(t==[115,116,114,117,99,116])=false) (hunion:(t==[117,110,105,111,110])=true)
 (H0:Hid (∀ w1,Below w.heap.size w w1->Calls Tryz.prog 38 #[.pointer (some ⟨p,0,none⟩)] w1 fun e w'=>e=.returned (.agg #[.int .i64 k,.string ⟨t.toArray⟩,.int .i64 m,.int .i64 a])∧Below w1.heap.size w1 w'))
 (HT:Hid (∀ w1,Below w.heap.size w w1->Calls Tryz.prog 71 #[.pointer (some ⟨p,0,none⟩),.bool true] w1 (zao p g cap ts d (zal w1.heap.size) r w1))) :
 Calls Tryz.prog 40 #[.pointer (some ⟨p,0,none⟩)] w (zao p g cap ts d (zal w.heap.size) r w):=by
 have HP:=hid2 hp hg
 clear hp hg
 have hmf:∀ (fn:Fn) (first cap:Array Value) (w:World),(Instr.makeFunc fn first cap).run Tryz.prog w=.ok (.func fn first cap) w:=fun _ _ _ _=>rfl
 have q1:=fld1 k m a ⟨t.toArray⟩
 obtain ⟨wa,hwa⟩:∃ x,w.alloc (.cells #[.int .i64 0,.string ⟨#[]⟩,.int .i64 0,.int .i64 0,.slice none 0 0] 29)=x:=⟨_,rfl⟩
 have b1:Below w.heap.size w wa:=by rw [<- hwa];exact zad _ _
 have HKa:Hid (Kep w wa w.heap.size (kidO 0 [] 0 0 (.slice none 0 0))):=by show Kep w wa _ _;rw [<- hwa];exact Kep.new (Nat.le_refl _) _
 have HBa:=hid b1
 have HT0:=hid (H0.out wa b1)
 clear b1
 go_enter Tryz.func40,Tryz.ntmps40
 go_wp2_with fail
 refine HT0.out.mono ?_
 rintro e w1 ⟨rfl,hB1⟩
 have hb01:Below w.heap.size w w1:=HBa.out.trans (hB1.mono HBa.out.size)
 have HS1:Hid (Sole p w w1):=Sole.of_below hb01
 have HB1:=hid hb01
 have HK1:=hid (HKa.out.below hB1)
 clear hb01 hB1
 go_wp2_with fail
 clear hwa
 refine (HT.out w1 HB1.out).mono ?_
 cases r with
 | no why at_ =>
  rintro e w99 ⟨rfl,hS⟩
  have HS99:=hid (HS1.out.trans hS)
  clear hS
  go_wp2
  exact ⟨rfl,rfl,HS99.out⟩
 | ok tv st =>
  rintro e w6 ⟨v,i,full,rfl,hT,rfl,hP,hS⟩
  obtain ⟨k8,n8,m8,a8,ks8⟩:=tv
  obtain ⟨sl,rfl,hL⟩:=zah.1 hT
  obtain ⟨o8,l8,c8,rfl⟩:=hL.shape
  have hlt:=HK1.out.lt
  have HP6:=hid hP
  have HS6:=hid (HS1.out.trans hS)
  have HK6:=hid (HK1.out.sole HP.out.1 hS)
  have HL6:Hid (zaf (fun b=>w.heap.size<b) w6 ks8 (.slice o8 l8 c8)):=hL.weaken (fun b h=>by have h1:w1.heap.size<=b:=h;omega)
  clear hP hS hT hL hlt
  unfold kidV
  obtain ⟨⟨z0,z1,z2,z3,z4⟩,⟨y0,y1,y2,y3,y4⟩⟩:=zac HK6.out.1
  go_wp2
  have q:=res5 w6 w.heap.size (.int .i64 k8) (.string ⟨n8.toArray⟩) (.int .i64 m8) (.int .i64 a8) (.slice o8 l8 c8) z0 z1 z2 z3 z4
  have hf:=fin5 (r:=w.heap.size) (w9:=w6) (k:=k8) (n:=n8) (m:=m8) (a:=a8) (sl:=(.slice o8 l8 c8)) HK6.out.2 HS6.out _ rfl
  generalize ((((w6.setCell ⟨w.heap.size,0,none⟩ (.int .i64 k8)).setCell ⟨w.heap.size,1,none⟩ (.string ⟨n8.toArray⟩)).setCell ⟨w.heap.size,2,none⟩ (.int .i64 m8)).setCell ⟨w.heap.size,3,none⟩ (.int .i64 a8)).setCell ⟨w.heap.size,4,none⟩ (.slice o8 l8 c8)=wz at q hf ⊢
  obtain ⟨q0,q1,q2,q3,q4⟩:=q
  refine bodyPost_ret (v:=.agg #[.int .i64 k8,.string ⟨n8.toArray⟩,.int .i64 m8,.int .i64 a8,(.slice o8 l8 c8)]) (by simp [results,Tryz.results40,go_sem,q0,q1,q2,q3,q4]) rfl ?_
  have hr2:=HK6.out.2
  have hpg:=HP.out
  exact ⟨_,_,_,rfl,zbu HL6.out (fun b h=>Nat.le_of_lt h) (fun b h=>Nat.ne_of_gt h) hf.2,rfl,HP6.out.sole_but (by omega) (by omega) hf.2,hf.1⟩
set_option maxRecDepth 4000 in
theorem zi7 (p g cap:Nat) (ts:List Tok) (d k m:Int) (t:List UInt8) (a:Nat) (w:World) (hp:p<w.heap.size) (hg:g<w.heap.size) (r:Ans Tree) (hconst:(t==[99,111,110,115,116])=false) (htypedef:(t==[116,121,112,101,100,101,102])=false) (henum:(t==[101,110,117,109])=false) (hstruct:(t==[115,116,114,117,99,116])=false) (hunion:(t==[117,110,105,111,110])=false) (hprogram:(t==[112,114,111,103,114,97,109])=true)
 (H0:Hid (∀ w1,Below w.heap.size w w1->Calls Tryz.prog 38 #[.pointer (some ⟨p,0,none⟩)] w1 fun e w'=>e=.returned (.agg #[.int .i64 k,.string ⟨t.toArray⟩,.int .i64 m,.int .i64 a])∧Below w1.heap.size w1 w'))
 (HT:Hid (∀ w1,Below w.heap.size w w1->Calls Tryz.prog 72 #[.pointer (some ⟨p,0,none⟩),.int .i64 10,.func (.func 73) #[.pointer (some ⟨p,0,none⟩)] #[]] w1 (zao p g cap ts d (zal w1.heap.size) r w1))) :
 Calls Tryz.prog 40 #[.pointer (some ⟨p,0,none⟩)] w (zao p g cap ts d (zal w.heap.size) r w):=by
 have HP:=hid2 hp hg
 clear hp hg
 have hmf:∀ (fn:Fn) (first cap:Array Value) (w:World),(Instr.makeFunc fn first cap).run Tryz.prog w=.ok (.func fn first cap) w:=fun _ _ _ _=>rfl
 have q1:=fld1 k m a ⟨t.toArray⟩
 obtain ⟨wa,hwa⟩:∃ x,w.alloc (.cells #[.int .i64 0,.string ⟨#[]⟩,.int .i64 0,.int .i64 0,.slice none 0 0] 29)=x:=⟨_,rfl⟩
 have b1:Below w.heap.size w wa:=by rw [<- hwa];exact zad _ _
 have HKa:Hid (Kep w wa w.heap.size (kidO 0 [] 0 0 (.slice none 0 0))):=by show Kep w wa _ _;rw [<- hwa];exact Kep.new (Nat.le_refl _) _
 have HBa:=hid b1
 have HT0:=hid (H0.out wa b1)
 clear b1
 go_enter Tryz.func40,Tryz.ntmps40
 go_wp2_with fail
 refine HT0.out.mono ?_
 rintro e w1 ⟨rfl,hB1⟩
 have hb01:Below w.heap.size w w1:=HBa.out.trans (hB1.mono HBa.out.size)
 have HS1:Hid (Sole p w w1):=Sole.of_below hb01
 have HB1:=hid hb01
 have HK1:=hid (HKa.out.below hB1)
 clear hb01 hB1
 go_wp2_with fail
 clear hwa
 refine (HT.out w1 HB1.out).mono ?_
 cases r with
 | no why at_ =>
  rintro e w99 ⟨rfl,hS⟩
  have HS99:=hid (HS1.out.trans hS)
  clear hS
  go_wp2
  exact ⟨rfl,rfl,HS99.out⟩
 | ok tv st =>
  rintro e w6 ⟨v,i,full,rfl,hT,rfl,hP,hS⟩
  obtain ⟨k8,n8,m8,a8,ks8⟩:=tv
  obtain ⟨sl,rfl,hL⟩:=zah.1 hT
  obtain ⟨o8,l8,c8,rfl⟩:=hL.shape
  have hlt:=HK1.out.lt
  have HP6:=hid hP
  have HS6:=hid (HS1.out.trans hS)
  have HK6:=hid (HK1.out.sole HP.out.1 hS)
  have HL6:Hid (zaf (fun b=>w.heap.size<b) w6 ks8 (.slice o8 l8 c8)):=hL.weaken (fun b h=>by have h1:w1.heap.size<=b:=h;omega)
  clear hP hS hT hL hlt
  unfold kidV
  obtain ⟨⟨z0,z1,z2,z3,z4⟩,⟨y0,y1,y2,y3,y4⟩⟩:=zac HK6.out.1
  go_wp2
  have q:=res5 w6 w.heap.size (.int .i64 k8) (.string ⟨n8.toArray⟩) (.int .i64 m8) (.int .i64 a8) (.slice o8 l8 c8) z0 z1 z2 z3 z4
  have hf:=fin5 (r:=w.heap.size) (w9:=w6) (k:=k8) (n:=n8) (m:=m8) (a:=a8) (sl:=(.slice o8 l8 c8)) HK6.out.2 HS6.out _ rfl
  generalize ((((w6.setCell ⟨w.heap.size,0,none⟩ (.int .i64 k8)).setCell ⟨w.heap.size,1,none⟩ (.string ⟨n8.toArray⟩)).setCell ⟨w.heap.size,2,none⟩ (.int .i64 m8)).setCell ⟨w.heap.size,3,none⟩ (.int .i64 a8)).setCell ⟨w.heap.size,4,none⟩ (.slice o8 l8 c8)=wz at q hf ⊢
  obtain ⟨q0,q1,q2,q3,q4⟩:=q
  refine bodyPost_ret (v:=.agg #[.int .i64 k8,.string ⟨n8.toArray⟩,.int .i64 m8,.int .i64 a8,(.slice o8 l8 c8)]) (by simp [results,Tryz.results40,go_sem,q0,q1,q2,q3,q4]) rfl ?_
  have hr2:=HK6.out.2
  have hpg:=HP.out
  exact ⟨_,_,_,rfl,zbu HL6.out (fun b h=>Nat.le_of_lt h) (fun b h=>Nat.ne_of_gt h) hf.2,rfl,HP6.out.sole_but (by omega) (by omega) hf.2,hf.1⟩
set_option maxRecDepth 4000 in
theorem zmz (p g cap:Nat) (ts:List Tok) (d k m:Int) (t:List UInt8) (a:Nat) (w:World) (hp:p<w.heap.size) (hg:g<w.heap.size) (hconst:(t==[99,111,110,115,116])=false) (htypedef:(t==[116,121,112,101,100,101,102])=false) (henum:(t==[101,110,117,109])=false) (hstruct:(t==[115,116,114,117,99,116])=false) (hunion:(t==[117,110,105,111,110])=false) (hprogram:(t==[112,114,111,103,114,97,109])=false)
 (H0:Hid (∀ w1,Below w.heap.size w w1->Calls Tryz.prog 38 #[.pointer (some ⟨p,0,none⟩)] w1 fun e w'=>e=.returned (.agg #[.int .i64 k,.string ⟨t.toArray⟩,.int .i64 m,.int .i64 a])∧Below w1.heap.size w1 w'))
 (HT:Hid (∀ w1,Below w.heap.size w w1->Calls Tryz.prog 74 #[.pointer (some ⟨p,0,none⟩),.int .i64 40] w1 fun e w'=>e=.returned (.agg #[.int .i64 40,.int .i64 (a:Int)])∧Below w1.heap.size w1 w')) :
 Calls Tryz.prog 40 #[.pointer (some ⟨p,0,none⟩)] w (zao p g cap ts d (zal w.heap.size) (.no 40 a) w):=by
 have HP:=hid2 hp hg
 clear hp hg
 have hmf:∀ (fn:Fn) (first cap:Array Value) (w:World),(Instr.makeFunc fn first cap).run Tryz.prog w=.ok (.func fn first cap) w:=fun _ _ _ _=>rfl
 have q1:=fld1 k m a ⟨t.toArray⟩
 obtain ⟨wa,hwa⟩:∃ x,w.alloc (.cells #[.int .i64 0,.string ⟨#[]⟩,.int .i64 0,.int .i64 0,.slice none 0 0] 29)=x:=⟨_,rfl⟩
 have b1:Below w.heap.size w wa:=by rw [<- hwa];exact zad _ _
 have HKa:Hid (Kep w wa w.heap.size (kidO 0 [] 0 0 (.slice none 0 0))):=by show Kep w wa _ _;rw [<- hwa];exact Kep.new (Nat.le_refl _) _
 have HBa:=hid b1
 have HT0:=hid (H0.out wa b1)
 clear b1
 go_enter Tryz.func40,Tryz.ntmps40
 go_wp2_with fail
 refine HT0.out.mono ?_
 rintro e w1 ⟨rfl,hB1⟩
 have hb01:Below w.heap.size w w1:=HBa.out.trans (hB1.mono HBa.out.size)
 have HS1:Hid (Sole p w w1):=Sole.of_below hb01
 have HB1:=hid hb01
 have HK1:=hid (HKa.out.below hB1)
 clear hb01 hB1
 go_wp2_with fail
 clear hwa
 refine (HT.out w1 HB1.out).mono ?_
 rintro e w2 ⟨rfl,hB⟩
 have HS2:=hid (HS1.out.trans (Sole.of_below hB))
 clear hB
 go_wp2
 exact ⟨rfl,rfl,HS2.out⟩
set_option maxHeartbeats 1000000 in
set_option maxRecDepth 4000 in
theorem zi6 (p g cap:Nat) (ts:List Tok) (d k m:Int) (t:List UInt8) (a:Nat) (w:World) (hp:p<w.heap.size) (hg:g<w.heap.size) (rt:Ans Tok) (F:PS->Ans Tree) (hF:zdp p g cap ts d 70 F) (hba:zb3 p w) (hconst:(t==[99,111,110,115,116])=false) (htypedef:(t==[116,121,112,101,100,101,102])=true)
 (H0:Hid (∀ w1,Below w.heap.size w w1->Calls Tryz.prog 38 #[.pointer (some ⟨p,0,none⟩)] w1 fun e w'=>e=.returned (.agg #[.int .i64 k,.string ⟨t.toArray⟩,.int .i64 m,.int .i64 a])∧Below w1.heap.size w1 w'))
 (HT:Hid (∀ w1,Below w.heap.size w w1->Calls Tryz.prog 69 #[.pointer (some ⟨p,0,none⟩)] w1 (zao p g cap ts d zfi rt w1))) :
 Calls Tryz.prog 40 #[.pointer (some ⟨p,0,none⟩)] w (zao p g cap ts d (zal w.heap.size) (rt.bind fun t s=>(F s).bind fun d_ s=>.ok (.node 3 [] 0 t.at_ [d_]) s) w):=by
 obtain ⟨R,hR⟩:∃ R,(rt.bind fun t s=>(F s).bind fun d_ s=>Ans.ok (Tree.node 3 [] 0 t.at_ [d_]) s)=R:=⟨_,rfl⟩
 rw [hR]
 have HR0:=hid hR.symm
 have HF:=hid hF
 have HBA:=hid hba
 clear hR hF hba
 have HP:=hid2 hp hg
 clear hp hg
 have hmf:∀ (fn:Fn) (first cap:Array Value) (w:World),(Instr.makeFunc fn first cap).run Tryz.prog w=.ok (.func fn first cap) w:=fun _ _ _ _=>rfl
 have q1:=fld1 k m a ⟨t.toArray⟩
 obtain ⟨wa,hwa⟩:∃ x,w.alloc (.cells #[.int .i64 0,.string ⟨#[]⟩,.int .i64 0,.int .i64 0,.slice none 0 0] 29)=x:=⟨_,rfl⟩
 have b1:Below w.heap.size w wa:=by rw [<- hwa];exact zad _ _
 have HKa:Hid (Kep w wa w.heap.size (kidO 0 [] 0 0 (.slice none 0 0))):=by show Kep w wa _ _;rw [<- hwa];exact Kep.new (Nat.le_refl _) _
 have HBa:=hid b1
 have HT0:=hid (H0.out wa b1)
 clear b1
 go_enter Tryz.func40,Tryz.ntmps40
 go_wp2_with fail
 refine HT0.out.mono ?_
 rintro e w1 ⟨rfl,hB1⟩
 have hb01:Below w.heap.size w w1:=HBa.out.trans (hB1.mono HBa.out.size)
 have HS1:Hid (Sole p w w1):=Sole.of_below hb01
 have HB1:=hid hb01
 have HK1:=hid (HKa.out.below hB1)
 clear hb01 hB1
 go_wp2_with fail
 clear hwa
 refine (HT.out w1 HB1.out).mono ?_
 cases rt with
 | no why at_ =>
  rintro e w99 ⟨rfl,hS⟩
  have HS99:=hid (HS1.out.trans hS)
  clear hS
  go_wp2
  refine ⟨rfl,?_⟩
  rw [HR0.out]
  exact ⟨rfl,HS99.out⟩
 | ok tk st =>
  rintro e w2 ⟨v,i,full,rfl,rfl,rfl,hP,hS⟩
  obtain ⟨w3,hw3⟩:∃ x,w2.alloc (.cells #[.int .i64 tk.kind,.string ⟨tk.text.toArray⟩,.int .i64 tk.num,.int .i64 tk.at_] 41)=x:=⟨_,rfl⟩
  have hB3:Below w2.heap.size w2 w3:=by rw [<- hw3];exact zad _ _
  have hs2:Sole p w w2:=HS1.out.trans hS
  have HS3:=hid (hs2.trans (Sole.of_below hB3))
  have HKr3:=hid ((HK1.out.sole HP.out.1 hS).below hB3)
  have HKt3:Hid (Kep w w3 w2.heap.size (tokO tk)):=by show Kep w w3 _ _;rw [<- hw3];exact Kep.new hs2.size _
  obtain ⟨rv,hrv⟩:∃ r,F (PSof ts i full)=r:=⟨_,rfl⟩
  have HR1:Hid (R=rv.bind fun d_ s=>.ok (.node 3 [] 0 tk.at_ [d_]) s):=by
   show _=_
   rw [HR0.out];first|(rw [<- hrv];done)|(rw [<- hrv];rfl)
  have HVB:Hid (∀ m,Calls Tryz.prog 70 #[.pointer (some ⟨p,0,none⟩)] (w3.drewN m) (zao p g cap ts d (zal w3.heap.size) rv w3)):=fun m=>by
   have hB:Below w3.heap.size w3 (w3.drewN m):=zax (Below.refl _ _) m
   rw [<- hrv]
   exact (HF.out i full _ ((hP.below hB3).below hB) ((HBA.out.sole HS3.out).below hB)).mono fun e w' hp=>zao.from_below hB hp
  obtain ⟨t0,t1,t2,t3⟩:=zb1 HKt3.out.1
  have hlt:w.heap.size<w3.heap.size:=HKr3.out.lt
  have HLT:=hid hlt
  clear hP hS hrv hB3 hs2 hlt
  unfold tokV
  go_wp2_with fail
  clear hw3
  cases rv with
  | no why at_ =>
   go_region_dies
   all_goals (
    refine (HVB.out _).mono ?_
    rintro e w5 ⟨rfl,hS⟩
    refine ⟨rfl,?_⟩
    rw [HR1.out]
    exact ⟨rfl,HS3.out.trans hS⟩)
  | ok tv st =>
   obtain ⟨k8,n8,m8,a8,ks8⟩:=tv
   go_region_with (go_at_call 70
                   refine (HVB.out _).mono ?_
                   rintro e w5 ⟨v,i,full,rfl,hT,rfl,hP,hS⟩
                   obtain ⟨sl,rfl,hL⟩:=zah.1 hT
                   obtain ⟨o8,l8,c8,rfl⟩:=hL.shape
                   have hp:=HP.out
                   have hlt:=HLT.out
                   obtain ⟨wq,hwq⟩:∃ x,w5.alloc (.cells #[.int .i64 k8,.string ⟨n8.toArray⟩,.int .i64 m8,.int .i64 a8,.slice o8 l8 c8] 29)=x:=⟨_,rfl⟩
                   have hBq:Below w5.heap.size w5 wq:=by rw [<- hwq];exact zad _ _
                   have kt5:Kep w w5 w2.heap.size (tokO tk):=HKt3.out.sole hp.1 hS
                   have HPq:=hid (hP.below hBq)
                   have HSq:=hid ((HS3.out.trans hS).trans (Sole.of_below hBq))
                   have HKrq:=hid ((HKr3.out.sole hp.1 hS).below hBq)
                   have HLq:Hid (zaf (fun b=>w.heap.size<b) wq [(.node k8 n8 m8 a8 ks8)] (.slice (some ⟨w5.heap.size,0,none⟩) 1 1)):=by
                    have h5:=hS.size
                    refine zdy (show wq.heap[w5.heap.size]?=some (zdr [.int .i64 k8,.string ⟨n8.toArray⟩,.int .i64 m8,.int .i64 a8,.slice o8 l8 c8]) from by rw [<- hwq];exact heap_alloc_new _ _) (by simp) (by omega) (zbe ((zam.below (zal.made hT) hBq).weaken (fun b h=>⟨by omega,by omega⟩)))
                   have u3:=(zb1 kt5.1).2.2.2
                   have x3:=(zb1 (kt5.below hBq).1).2.2.2
                   obtain ⟨⟨z0,z1,z2,z3,z4⟩,⟨y0,y1,y2,y3,y4⟩⟩:=zac HKrq.out.1
                   have qb:=bld034 3 tk.at_ (some ⟨w5.heap.size,0,none⟩) 1 1
                   clear hT hL hP hS hp hlt hBq kt5
                   unfold kidV)
   all_goals (
    go_wp2
    have q:=res5 wq w.heap.size (.int .i64 3) (.string ⟨#[]⟩) (.int .i64 0) (.int .i64 tk.at_) (.slice (some ⟨w5.heap.size,0,none⟩) 1 1) z0 z1 z2 z3 z4
    have hf:=fin5 (r:=w.heap.size) (w9:=wq) (k:=3) (n:=[]) (m:=0) (a:=tk.at_) (sl:=(.slice (some ⟨w5.heap.size,0,none⟩) 1 1)) HKrq.out.2 HSq.out _ rfl
    generalize ((((wq.setCell ⟨w.heap.size,0,none⟩ (.int .i64 3)).setCell ⟨w.heap.size,1,none⟩ (.string ⟨#[]⟩)).setCell ⟨w.heap.size,2,none⟩ (.int .i64 0)).setCell ⟨w.heap.size,3,none⟩ (.int .i64 tk.at_)).setCell ⟨w.heap.size,4,none⟩ (.slice (some ⟨w5.heap.size,0,none⟩) 1 1)=wz at q hf ⊢
    obtain ⟨q0,q1,q2,q3,q4⟩:=q
    refine bodyPost_ret (v:=.agg #[.int .i64 3,.string ⟨#[]⟩,.int .i64 0,.int .i64 tk.at_,(.slice (some ⟨w5.heap.size,0,none⟩) 1 1)]) (by simp [results,Tryz.results40,go_sem,q0,q1,q2,q3,q4]) rfl ?_
    rw [HR1.out]
    have hr2:=HKrq.out.2
    have hpg:=HP.out
    exact ⟨_,_,_,rfl,zbu HLq.out (fun b h=>Nat.le_of_lt h) (fun b h=>Nat.ne_of_gt h) hf.2,rfl,HPq.out.sole_but (by omega) (by omega) hf.2,hf.1⟩)
theorem zm0 (p g cap:Nat) (ts:List Tok) (hE:Ends ts):zdp p g cap ts 0 40 zbn:=by
 intro i full w h hba
 have hd:=zb8 ts i full h.il
 have HT:∀ w1,Below w.heap.size w w1->Calls Tryz.prog 38 #[.pointer (some ⟨p,0,none⟩)] w1 fun e w'=>e=.returned (tokV (ts[i]'h.il))∧Below w1.heap.size w1 w':=fun w1 hB=>zca p g cap ts i 0 full w1 (h.below hB)
 have hix:∀ t:List UInt8,t≠[]->((ts[i]'h.il).text==t)=true->i+1<ts.length:=fun t ht e=>hE.text h.il (by rw [show (ts[i]'h.il).text=t by simpa using e];exact ht)
 unfold zbn PS.sees PS.bad
 rw [hd]
 cases h1:((ts[i]'h.il).text==zdz)
 · rw [if_neg (by simp)]
   cases h2:((ts[i]'h.il).text==zd5)
   · rw [if_neg (by simp)]
     cases h3:((ts[i]'h.il).text==zcj)
     · cases h4:((ts[i]'h.il).text==za6)
       · cases h5:((ts[i]'h.il).text==zcm)
         · rw [if_neg (by simp)]
           cases h6:((ts[i]'h.il).text==zee)
           · rw [if_neg (by simp)]
             exact zmz p g cap ts 0 _ _ (ts[i]'h.il).text (ts[i]'h.il).at_ w h.plt h.glt h1 h2 h3 h4 h5 h6 HT (fun w1 hB=>zc6 p g cap ts i 0 40 full w1 (h.below hB))
           · rw [if_pos rfl]
             exact zi7 p g cap ts 0 _ _ (ts[i]'h.il).text _ w h.plt h.glt _ h1 h2 h3 h4 h5 h6 HT (fun w1 hB=>zj0 p g cap ts hE 0 10 73 versionP (versionK p g cap ts hE 0) zga bodied_73 i full w1 (hix zee (by simp [zee]) h6) (h.below hB) (hba.below hB))
         · rw [if_pos (by simp)]
           exact zkh p g cap ts 0 _ _ (ts[i]'h.il).text _ w h.plt h.glt _ h1 h2 h3 h4 h5 HT (fun w1 hB=>zk2 p g cap ts hE true i full w1 (hix zcm (by simp [zcm]) h5) (h.below hB) (hba.below hB))
       · rw [if_pos (by simp)]
         exact zjo p g cap ts 0 _ _ (ts[i]'h.il).text _ w h.plt h.glt _ h1 h2 h3 h4 HT (fun w1 hB=>zk2 p g cap ts hE true i full w1 (hix za6 (by simp [za6]) h4) (h.below hB) (hba.below hB))
     · rw [if_pos (by simp)]
       exact zmb p g cap ts 0 _ _ (ts[i]'h.il).text _ w h.plt h.glt _ h1 h2 h3 HT (fun w1 hB=>zk2 p g cap ts hE true i full w1 (hix zcj (by simp [zcj]) h3) (h.below hB) (hba.below hB))
   · rw [if_pos rfl]
     exact zi6 p g cap ts 0 _ _ (ts[i]'h.il).text _ w h.plt h.glt _ _ (tower_top p g cap ts hE).something hba h1 h2 HT (fun w1 hB=>zdf p g cap ts i 0 full w1 (h.below hB) (hix zd5 (by simp [zd5]) h2))
 · rw [if_pos rfl]
   exact zki p g cap ts 0 _ _ (ts[i]'h.il).text _ w h.plt h.glt _ h1 HT (fun w1 hB=>constant_any p g cap ts hE i 0 full w1 (h.below hB))
theorem bld0 (k:Int) (w:World):(Instr.build 29 #[(0,.int .i64 k)]).run Tryz.prog w=.ok (.agg #[.int .i64 k,.string ⟨#[]⟩,.int .i64 0,.int .i64 0,.slice none 0 0]) w:=by kernel_rfl
theorem zer:zbx zbn :=
 ((zeq zdz).bind _).ite (fun s=>s.sees zdz=true) ((zdg.bind _).ite (fun s=>s.sees zd5=true) ((zgt 8 true).ite (fun s=>(s.sees zcj||s.sees za6||s.sees zcm)=true) ((zhe 10 versionP).ite (fun s=>s.sees zee=true) (zgf 40))))
set_option maxHeartbeats 4000000 in
set_option maxRecDepth 4000 in
theorem source_any (p g cap:Nat) (ts:List Tok) (hE:Ends ts) (d:Int) (hd:d=0) (i0:Nat) (full0:Bool) (w:World) (h:PP w p g cap ts i0 d full0) (hba:zb3 p w) :
 Calls Tryz.prog 26 #[.pointer (some ⟨p,0,none⟩)] w (zao p g cap ts d (zal w.heap.size) ((zbb 102 [] (PSof ts i0 full0)).bind fun ks s=>Ans.ok (Tree.node 1 [] 0 0 ks) s) w):=by
 have HD:Hid (zdp p g cap ts d 40 zbn):=by show zdp p g cap ts d 40 zbn;rw [hd];exact zm0 p g cap ts hE
 have HP:=hid2 h.plt h.glt
 have HE:=hid hE
 have HBA:=hid hba
 have H:=hid h
 obtain ⟨R,hR⟩:∃ R,((zbb 102 [] (PSof ts i0 full0)).bind fun ks s=>Ans.ok (Tree.node 1 [] 0 0 ks) s)=R:=⟨_,rfl⟩
 rw [hR]
 have HR0:=hid hR.symm
 obtain ⟨w1,hw1⟩:∃ x,w.alloc (.cells #[.int .i64 0,.string ⟨#[]⟩,.int .i64 0,.int .i64 0,.slice none 0 0] 29)=x:=⟨_,rfl⟩
 have b1:Below w.heap.size w w1:=by rw [<- hw1];exact zad _ _
 have HKa:Hid (Kep w w1 w.heap.size (kidO 0 [] 0 0 (.slice none 0 0))):=by show Kep w w1 _ _;rw [<- hw1];exact Kep.new (Nat.le_refl _) _
 have HBa:=hid b1
 have qb:=bld0 1
 obtain ⟨inf,hi1,hi2,hi3,hi4⟩:=ze8
 have HI:=hid4 hi1 hi2 hi3 hi4
 clear h hba hE hR b1 hi1 hi2 hi3 hi4 hd
 go_enter Tryz.func26,Tryz.ntmps26
 go_wp2
 clear hw1
 have hb01:=HBa.out
 obtain ⟨w2,hw2⟩:∃ x,w1.alloc (.cells #[.int .i64 1,.string ⟨#[]⟩,.int .i64 0,.int .i64 0,.slice none 0 0] 29)=x:=⟨_,rfl⟩
 have hB2:Below w1.heap.size w1 w2:=by rw [<- hw2];exact zad _ _
 have HP2:=hid ((H.out.below hb01).below hB2)
 have HS2:Hid (Sole p w w2):=(Sole.of_below hb01).trans (Sole.of_below hB2)
 have HKr2:=hid (HKa.out.below hB2)
 have HKl2:Hid (Kep w w2 w1.heap.size (kidO 1 [] 0 0 (.slice none 0 0))):=by show Kep w w2 _ _;rw [<- hw2];exact Kep.new hb01.size _
 have HNE:=hid HKa.out.lt
 rw [hw2]
 clear hb01 hB2 hw2 qb
 go_loopw [] (fun wr=>∃ (acc:List Tree) (N:Nat) (oq:Option Addr) (cq:Nat) (ix:Nat) (full:Bool),acc.length=N∧N<=100∧Hid (PP wr p g cap ts ix d full)∧Hid (Sole p w wr)∧Hid (Kep w wr w.heap.size (kidO 0 [] 0 0 (.slice none 0 0)))∧Hid (Kep w wr w1.heap.size (kidO 1 [] 0 0 (.slice oq N cq)))∧Hid (zaf (fun b=>w.heap.size<b∧b≠w1.heap.size) wr acc (.slice oq N cq))∧Hid (R=(zbb (102 - N) acc (PSof ts ix full)).bind fun ks s=>Ans.ok (Tree.node 1 [] 0 0 ks) s)) (fun wr=>101 - sliceLen ((wr.cell? ⟨w1.heap.size,4,none⟩).getD (.int .i64 0)))
 case atStart=>exact ⟨[],0,none,0,i0,full0,rfl,by omega,HP2,HS2,HKr2,HKl2,zeb,HR0⟩
 case round =>
  obtain ⟨acc,N,oq,cq,ix,full,hN1,hN2,HPr,HSr,HKrr,HKlr,HLr,HRr⟩:=hrel
  have HN:=hid2 hN1 hN2
  have HMR:Hid (sliceLen ((wr.cell? ⟨w1.heap.size,4,none⟩).getD (.int .i64 0))=N):=by
   show _=_
   rw [(zac HKlr.out.1).1.2.2.2.2];rfl
  obtain ⟨tk,htk⟩:∃ x,ts[ix]'HPr.out.il=x:=⟨_,rfl⟩
  have HST:Hid (R=(if tk.kind=5 then .ok acc (PSof ts ix full) else (zbn ((PSof ts ix full).room N 100)).bind fun t s=>(s.want [59]).bind fun _ s=>zbb (101 - N) (acc++[t]) s).bind fun ks s=>Ans.ok (Tree.node 1 [] 0 0 ks) s):=by
   show _=_
   rw [HRr.out,show 102 - N=(101 - N)+1 by omega,zbb,hN1,zb8 ts ix full HPr.out.il,htk]
  have HT0:Hid (Calls Tryz.prog 38 #[.pointer (some ⟨p,0,none⟩)] wr fun e w'=>e=.returned (.agg #[.int .i64 tk.kind,.string ⟨tk.text.toArray⟩,.int .i64 tk.num,.int .i64 tk.at_])∧Below wr.heap.size wr w'):=by
   have hx:=zca p g cap ts ix d full wr HPr.out
   rw [htk] at hx
   exact hx
  have q0:=fld0 tk.kind tk.num tk.at_ ⟨tk.text.toArray⟩
  clear hN1 hN2 htk
  by_cases hk5:tk.kind=5
  · have hkn:(tk.kind != 5)=false:=by simp [hk5]
    have HRE:Hid (R=.ok (.node 1 [] 0 0 acc) (PSof ts ix full)):=by
     show _=_
     rw [HST.out,if_pos hk5];rfl
    clear hk5
    go_wp2_with fail
    refine HT0.out.mono ?_
    rintro e wc ⟨rfl,hB⟩
    have HPc:=hid (HPr.out.below hB)
    have HSc:=hid (HSr.out.trans (Sole.of_below hB))
    have HKrc:=hid (HKrr.out.below hB)
    have HLc:=hid (HLr.out.below hB)
    obtain ⟨⟨s0,s1,s2,s3,s4⟩,_⟩:=zac (HKlr.out.below hB).1
    clear hB
    obtain ⟨⟨z0,z1,z2,z3,z4⟩,⟨y0,y1,y2,y3,y4⟩⟩:=zac HKrc.out.1
    go_wp2
    have q:=res5 wc w.heap.size (.int .i64 1) (.string ⟨#[]⟩) (.int .i64 0) (.int .i64 0) (.slice oq N cq) z0 z1 z2 z3 z4
    have hf:=fin5 (r:=w.heap.size) (w9:=wc) (k:=1) (n:=[]) (m:=0) (a:=0) (sl:=(.slice oq N cq)) HKrc.out.2 HSc.out _ rfl
    generalize ((((wc.setCell ⟨w.heap.size,0,none⟩ (.int .i64 1)).setCell ⟨w.heap.size,1,none⟩ (.string ⟨#[]⟩)).setCell ⟨w.heap.size,2,none⟩ (.int .i64 0)).setCell ⟨w.heap.size,3,none⟩ (.int .i64 0)).setCell ⟨w.heap.size,4,none⟩ (.slice oq N cq)=wz at q hf ⊢
    obtain ⟨q0,q1,q2,q3,q4⟩:=q
    refine bodyPost_ret (v:=.agg #[.int .i64 1,.string ⟨#[]⟩,.int .i64 0,.int .i64 0,(.slice oq N cq)]) (by simp [results,Tryz.results26,go_sem,q0,q1,q2,q3,q4]) rfl ?_
    rw [HRE.out]
    have hr2:=HKrc.out.2
    have hpg:=HP.out
    exact ⟨_,_,_,rfl,zbu HLc.out (fun b h=>Nat.le_of_lt h.1) (fun b h=>Nat.ne_of_gt h.1) hf.2,rfl,HPc.out.sole_but (by omega) (by omega) hf.2,hf.1⟩
  · have hkn:(tk.kind != 5)=true:=by simp [hk5]
    have HGO:Hid (R=((zbn ((PSof ts ix full).room N 100)).bind fun t s=>(s.want [59]).bind fun _ s=>zbb (101 - N) (acc++[t]) s).bind fun ks s=>Ans.ok (Tree.node 1 [] 0 0 ks) s):=by
     show _=_
     rw [HST.out,if_neg hk5]
    clear hk5
    go_wp2_with fail
    refine HT0.out.mono ?_
    rintro e wv ⟨rfl,hB⟩
    have HPv:=hid (HPr.out.below hB)
    have HSv:=hid (HSr.out.trans (Sole.of_below hB))
    have HKrv:=hid (HKrr.out.below hB)
    have HKlv:=hid (HKlr.out.below hB)
    have HLv:=hid (HLr.out.below hB)
    have HRM:=hid (zhu p g cap ts ix d full N 100 wv HPv.out)
    obtain ⟨⟨p0,p1,p2,p3,p4⟩,_⟩:=zac HKlv.out.1
    clear hB
    go_wp2_with fail
    refine HRM.out.mono ?_
    rintro e wy ⟨rfl,hP,hS,hz2⟩
    obtain ⟨fullx,hfx⟩:∃ x,zfl full N 100=x:=⟨_,rfl⟩
    have HFX:=hid hfx
    rw [hfx] at hP
    have hp:=HP.out
    have HS_:=hid (HSv.out.trans hS)
    have HKr_:=hid (HKrv.out.sole hp.1 hS)
    have HKl_:=hid (HKlv.out.sole hp.1 hS)
    have HL_:=hid (HLv.out.sole (fun b h=>by omega) hS)
    obtain ⟨rv,hrv⟩:∃ r,zbn (PSof ts ix fullx)=r:=⟨_,rfl⟩
    have HR2:Hid (R=(rv.bind fun t s=>(s.want [59]).bind fun _ s=>zbb (101 - N) (acc++[t]) s).bind fun ks s=>Ans.ok (Tree.node 1 [] 0 0 ks) s):=by
     show _=_
     rw [HGO.out,zgr,HFX.out,hrv]
    have HLXX:Hid (∀ t s,rv=.ok t s->N+1<=100):=fun t s e=>by
     rcases Nat.lt_or_ge N 100 with h1|h1
     · exact h1
     · have hNN:=HN.out
       have hN64:N=100:=by omega
       obtain ⟨x,y,hx⟩:=zer (PSof ts ix fullx) (by rw [zgs,<- HFX.out];unfold zfl;simp [hN64])
       rw [<- hrv,hx] at e
       cases e
    have HVB:Hid (∀ m,Calls Tryz.prog 40 #[.pointer (some ⟨p,0,none⟩)] (wy.drewN m) (zao p g cap ts d (zal wy.heap.size) rv wy)):=fun m=>by
     have hB:Below wy.heap.size wy (wy.drewN m):=zax (Below.refl _ _) m
     rw [<- hrv]
     exact (HD.out ix fullx _ (hP.below hB) ((HBA.out.sole HS_.out).below hB)).mono fun e w' hp=>zao.from_below hB hp
    obtain ⟨⟨l0,l1,l2,l3,l4⟩,⟨f0,f1,f2,f3,f4⟩⟩:=zac HKl_.out.1
    clear hP hS hz2 hp hrv hfx p0 p1 p2 p3 p4
    go_wp2_with fail
    cases rv with
    | no why at_ =>
     go_region_dies
     all_goals (
      refine (HVB.out _).mono ?_
      rintro e w9 ⟨rfl,hS⟩
      refine ⟨rfl,?_⟩
      rw [HR2.out]
      exact ⟨rfl,HS_.out.trans hS⟩)
    | ok tv st =>
     have HLT:=hid (HLXX.out _ _ rfl)
     obtain ⟨k8,n8,m8,a8,ks8⟩:=tv
     go_region_law (first
      | (refine zgg rfl 40 #[.pointer (some ⟨p,0,none⟩)] (by go_simp) _ (HVB.out _) ?_
         rintro e w5 ⟨v,i,full,rfl,hT,rfl,hP,hS⟩
         refine ⟨_,rfl,?_⟩
         obtain ⟨sl,rfl,hL⟩:=zah.1 hT
         obtain ⟨o8,l8,c8,rfl⟩:=hL.shape
         have hp:=HP.out
         obtain ⟨wb,hwb⟩:∃ x,w5.alloc (.cells #[.int .i64 k8,.string ⟨n8.toArray⟩,.int .i64 m8,.int .i64 a8,.slice o8 l8 c8] 29)=x:=⟨_,rfl⟩
         have HWB:=hid hwb
         have hBb:Below w5.heap.size w5 wb:=by rw [<- hwb];exact zad _ _
         have HP5:=hid (hP.below hBb)
         have HS5:=hid ((HS_.out.trans hS).trans (Sole.of_below hBb))
         have HT8:=hid (zam.below hT hBb)
         have HKr5:=hid ((HKr_.out.sole hp.1 hS).below hBb)
         have kl5:Kep w w5 w1.heap.size (kidO 1 [] 0 0 (.slice oq N cq)):=HKl_.out.sole hp.1 hS
         have HKl5:=hid (kl5.below hBb)
         have hl3:zaf (fun b=>w.heap.size<b∧b≠w1.heap.size) wb acc (.slice oq N cq):=(HL_.out.sole (fun b h=>by omega) hS).below hBb
         have HLQ:Hid (∀ q,(Value.slice oq N cq).ownBlock=some q->(w.heap.size<q∧q≠w1.heap.size)∧q<wy.heap.size):=fun q e=>HL_.out.own_lt e
         have HSZ:Hid (w1.heap.size<wy.heap.size∧wy.heap.size<=w5.heap.size∧wb.heap.size=w5.heap.size+1):=⟨HKl_.out.lt,hS.size,by rw [<- hwb];simp⟩
         obtain ⟨xs,how,hAq,hrq⟩:=hl3
         rw [HN.out.1] at how
         have HOW:=hid how
         have HRQ:=hid hrq
         have HNB:Hid (wb.heap[w5.heap.size]?=some (.cells #[.int .i64 k8,.string ⟨n8.toArray⟩,.int .i64 m8,.int .i64 a8,.slice o8 l8 c8] 29 (0,0))):=by show _=_;rw [<- hwb];exact heap_alloc_new _ _
         have u4:=(zac kl5.1).1.2.2.2.2
         have x4:=(zac HKl5.out.1).1.2.2.2.2
         clear hT hL hP hS hp hBb how hAq hrq kl5
         unfold kidV)
      | (refine step_append_lies _ rfl _ _ 27 rfl 0 29 inf (.agg #[.int .i64 0,.string ⟨#[]⟩,.int .i64 0,.int .i64 0,.slice none 0 0]) 5 64 Tryz.underlying27 HI.out.1 HI.out.2.1 HI.out.2.2.1 HI.out.2.2.2 rfl (by decide) (.slice oq N cq) N xs rfl HOW.out ⟨w5.heap.size,0,none⟩ 1 1 [.int .i64 k8,.string ⟨n8.toArray⟩,.int .i64 m8,.int .i64 a8,.slice o8 l8 c8] rfl rfl (World.news_of_block (cs:=#[.int .i64 k8,.string ⟨n8.toArray⟩,.int .i64 m8,.int .i64 a8,.slice o8 l8 c8]) (t:=29) (fr:=(0,0)) HNB.out) (by simp [Value.oneCell']) (by decide) (by have:=HN.out;unfold maxLen;omega) (by have:=HN.out;omega) (Nat.zero_le _) _ rfl ?_
         intro gq cq2 w6 hown hgrow hat hlt
         have hp:=HP.out
         have hsz:=HSZ.out
         have hs5:=HS5.out.size
         have HP6:Hid (PP w6 p g cap ts i d full):=HP5.out.grownO hgrow (fun e=>by have:=HLQ.out p e;omega) (fun e=>by have:=HLQ.out g e;omega)
         have HS6:=hid (HS5.out.grownO hgrow (fun q e=>Nat.le_of_lt (HLQ.out q e).1.1))
         have HKr6:Hid (Kep w w6 w.heap.size (kidO 0 [] 0 0 (.slice none 0 0))):=HKr5.out.grownO hgrow (fun e=>by have:=(HLQ.out _ e).1.1;omega)
         have HKl6:=hid (HKl5.out.grownO hgrow (fun e=>(HLQ.out _ e).1.2 rfl))
         have HL6:Hid (zaf (fun b=>w.heap.size<b∧b≠w1.heap.size) w6 (acc++[(.node k8 n8 m8 a8 ks8)]) (.slice (some ⟨gq,0,none⟩) (N+1) cq2)):=by
          refine zbm (sl:=.slice oq N cq) (fun q e=>(HLQ.out q e).1) HRQ.out (zbe (HT8.out.weaken (fun b h=>?_))) (by rw [HN.out.1];exact hown) hgrow wb.heap.size (Nat.le_refl _) (by have:=HKr5.out.lt;omega) ?_
          · have h1:wy.heap.size<=b:=h
            have h2:=HKr_.out.lt
            exact ⟨by omega,fun e=>by have:=(HLQ.out b e).2;omega⟩
          · rcases hat with e|e
            · exact Or.inl e.symm
            · exact Or.inr (by rw [e];rfl)
         obtain ⟨⟨j0,j1,j2,j3,j4⟩,⟨g0,g1,g2,g3,g4⟩⟩:=zac HKl6.out.1
         clear hown hgrow hat hlt hp hsz hs5))
     all_goals (
      have hp:=HP.out
      have hwl2:=HKl6.out.2
      have hwr2:=HKr6.out.lt
      have hne:=HNE.out
      have hz6:∀ b,b≠w1.heap.size->(w6.setCell ⟨w1.heap.size,4,none⟩ (.slice (some ⟨gq,0,none⟩) (N+1) cq2)).heap[b]?=w6.heap[b]?:=fun b hb=>Below.heap_setCell _ _ _ _ hb
      have HKlc:Hid (Kep w (w6.setCell ⟨w1.heap.size,4,none⟩ (.slice (some ⟨gq,0,none⟩) (N+1) cq2)) w1.heap.size (kidO 1 [] 0 0 (.slice (some ⟨gq,0,none⟩) (N+1) cq2))):=⟨zfk HKl6.out.1,HKl6.out.2⟩
      have HKrc:=hid (HKr6.out.but hz6 (by omega))
      have HPc:=hid (HP6.out.sole_but (by omega) (by omega) hz6)
      have HSc:Hid (Sole p w (w6.setCell ⟨w1.heap.size,4,none⟩ (.slice (some ⟨gq,0,none⟩) (N+1) cq2))):=HS6.out.below_after ((Below.refl _ _).setCell hwl2 _)
      have HLc:=hid (HL6.out.but (fun b h=>h.2) hz6)
      generalize w6.setCell ⟨w1.heap.size,4,none⟩ (.slice (some ⟨gq,0,none⟩) (N+1) cq2)=wc at HKlc HKrc HPc HSc HLc ⊢
      clear hp hwl2 hwr2 hne hz6
      have HWA:=hid (zbs p g cap ts HE.out i d full [59] (by simp) wc HPc.out)
      obtain ⟨ru,hru⟩:∃ r,(PSof ts i full).want [59]=r:=⟨_,rfl⟩
      have HR3:Hid (R=ru.bind fun _ s=>(zbb (101 - N) (acc++[(.node k8 n8 m8 a8 ks8)]) s).bind fun ks s=>Ans.ok (Tree.node 1 [] 0 0 ks) s):=by
       show _=_
       rw [HR2.out];rw [<- hru];exact zfb ((PSof ts i full).want [59]) (fun _ s=>zbb (101 - N) (acc++[(.node k8 n8 m8 a8 ks8)]) s) (fun ks s=>Ans.ok (Tree.node 1 [] 0 0 ks) s)
      rw [hru] at HWA
      clear hru
      go_wp2_with fail
      refine HWA.out.mono ?_
      cases ru with
      | no why at_ =>
       rintro e w99 ⟨rfl,hS⟩
       have HS99:=hid (HSc.out.trans hS)
       clear hS
       go_wp2
       refine ⟨rfl,?_⟩
       rw [HR3.out]
       exact ⟨rfl,HS99.out⟩
      | ok u st =>
       rintro e w7 ⟨v,i,full,rfl,rfl,rfl,hP,hS⟩
       have hp:=HP.out
       have HP7:=hid hP
       have HS7:=hid (HSc.out.trans hS)
       have HKr7:=hid (HKrc.out.sole hp.1 hS)
       have HKl7:=hid (HKlc.out.sole hp.1 hS)
       have HL7:=hid (HLc.out.sole (fun b h=>by omega) hS)
       have hNN:=HN.out
       have HR7:Hid (R=(zbb (102 - (N+1)) (acc++[(.node k8 n8 m8 a8 ks8)]) (PSof ts i full)).bind fun ks s=>Ans.ok (Tree.node 1 [] 0 0 ks) s):=by
        show _=_
        rw [show 102 - (N+1)=101 - N by omega]
        exact HR3.out
       have HM7:Hid (sliceLen ((w7.cell? ⟨w1.heap.size,4,none⟩).getD (.int .i64 0))=N+1):=by
        show _=_
        rw [(zac HKl7.out.1).1.2.2.2.2];rfl
       clear hP hS hp
       go_wp2
       go_roundw
       case rel=>exact ⟨acc++[(.node k8 n8 m8 a8 ks8)],N+1,some ⟨gq,0,none⟩,cq2,i,full,by simp [hNN.1],HLT.out,HP7,HS7,HKr7,HKl7,HL7,HR7⟩
       case measure =>
        have h1:=HM7.out
        have h2:=HMR.out
        have h3:=HLT.out
        omega)
end Go.Proofs.YtodfklpmbclgkaaGreatDoor
namespace Go.Proofs.YtodfklpmbclgkaaGreatDoor
inductive Reach (l:List UInt8):Nat->List Tok->Nat->List Tok->Prop
 | refl {i ts} : Reach l i ts i ts
 | step {i ts t j k us} (h:i<l.length) (hs:zcd l i=.go t j) (hr:Reach l j (ts++t.toList) k us):Reach l i ts k us
theorem Reach.scans {l:List UInt8} {i k:Nat} {ts us:List Tok} {R:Res} (h:Reach l i ts k us) (hR:Scans l k us R):Scans l i ts R:=by
 induction h with
 | refl=>exact hR
 | step h hs _ ih=>exact .go h hs (ih hR)
theorem Reach.trans {l:List UInt8} {i k m:Nat} {ts us vs:List Tok} (h:Reach l i ts k us) (h2:Reach l k us m vs):Reach l i ts m vs:=by
 induction h with
 | refl=>exact h2
 | step h hs _ ih=>exact .step h hs (ih h2)
theorem reach_of_err {l:List UInt8} {i p:Nat} {ts:List Tok} {e:Int} {R:Res} (h:Scans l i ts R) (hR:R=.err e p):∃ us,Reach l i ts p us∧p<l.length∧zcd l p=.err e:=by
 induction h with
 | done _=>cases hR
 | err h hs=>cases hR;exact ⟨_,.refl,h,hs⟩
 | go h hs _ ih=>obtain ⟨us,h1,h2⟩:=ih hR;exact ⟨us,.step h hs h1,h2⟩
theorem ok_last {l:List UInt8} {i:Nat} {ts vs:List Tok} {R:Res} (h:Scans l i ts R) (hR:R=.ok vs):∃ us,vs=us++[⟨5,[],0,l.length⟩]:=by
 induction h with
 | done _=>cases hR;exact ⟨_,rfl⟩
 | err _ _=>cases hR
 | go _ _ _ ih=>exact ih hR
theorem zfp {l:List UInt8} {i:Nat} (h:i<=l.length):runB (l.getD (zbd l i) 0)=false:=by
 obtain ⟨d,hd⟩:∃ d,l.length=i+d:=⟨l.length - i,by omega⟩
 clear h
 induction d generalizing i with
 | zero =>
  have h0:runB (l.getD i 0)=false:=by rw [zff (by omega)];decide
  rw [zdq h0];exact h0
 | succ d ih =>
  cases hr:runB (l.getD i 0)
  · rw [zdq hr];exact hr
  · rw [zei hr];exact ih (by omega)
theorem znc {l:List UInt8} {i j:Nat} (h1:i<=j) (h2:j<zbd l i):runB (l.getD j 0)=true:=by
 obtain ⟨d,rfl⟩:∃ d,j=i+d:=⟨j - i,by omega⟩
 clear h1
 induction d generalizing i with
 | zero =>
  cases hr:runB (l.getD i 0)
  · rw [zdq hr] at h2;omega
  · rfl
 | succ d ih =>
  have hr:runB (l.getD i 0)=true:=by
   cases hr:runB (l.getD i 0)
   · rw [zdq hr] at h2;omega
   · rfl
  rw [show i+(d+1)=i+1+d by omega]
  exact ih (by rw [<- zei hr];omega)
theorem zme {l:List UInt8} {i j:Nat} (h:cend l i=some j):i+2<=j∧j<=l.length∧l.getD (j - 2) 0=42∧l.getD (j - 1) 0=47∧∀ k,i<=k->k<j - 2->¬ (l.getD k 0=42∧l.getD (k+1) 0=47):=by
 obtain ⟨d,hd⟩:∃ d,l.length<=i+d:=⟨l.length,by omega⟩
 induction d generalizing i with
 | zero=>rw [zfa (by omega)] at h;cases h
 | succ d ih =>
  by_cases hc:l.getD i 0=42∧l.getD (i+1) 0=47
  · rw [zmf hc.1 hc.2] at h
    cases h
    have hl:i+1<l.length:=by
     rcases Nat.lt_or_ge (i+1) l.length with h|h
     · exact h
     · have:=hc.2;rw [zff h] at this;cases this
    exact ⟨by omega,by omega,hc.1,hc.2,fun k h1 h2=>by omega⟩
  · rw [zgp hc] at h
    obtain ⟨h1,h2,h3,h4,h5⟩:=ih h (by omega)
    refine ⟨by omega,h2,h3,h4,fun k h6 h7=>?_⟩
    rcases Nat.lt_or_ge i k with h8|h8
    · exact h5 k (by omega) h7
    · rw [show k=i by omega];exact hc
theorem cend_is {l:List UInt8} {i j:Nat} (h1:i+2<=j) (h2:l.getD (j - 2) 0=42) (h3:l.getD (j - 1) 0=47) (h:∀ k,i<=k->k<j - 2->¬ (l.getD k 0=42∧l.getD (k+1) 0=47)):cend l i=some j:=by
 obtain ⟨d,rfl⟩:∃ d,j=i+2+d:=⟨j - (i+2),by omega⟩
 clear h1
 induction d generalizing i with
 | zero=>exact zmf h2 h3
 | succ d ih =>
  rw [zgp (h i (by omega) (by omega))]
  rw [show i+2+(d+1)=i+1+2+d by omega] at h2 h3 h ⊢
  exact ih h2 h3 fun k h6 h7=>h k (by omega) h7
theorem zgb {l:List UInt8} {i j:Nat} {t:Option Tok} (h:i<l.length) (hs:zcd l i=.go t j):i<j∧j<=l.length:=by
 unfold zcd at hs
 split at hs
 · cases hs;omega
 split at hs
 · split at hs
   · cases hs
   · rename_i hc;cases hs;have:=zme hc;omega
 split at hs
 · rename_i hl
   have h1:=zei (zg0 hl).2.2.2.2.2
   have h2:=zeh (l:=l) (i:=i+1) (by omega)
   split at hs
   · cases hs
   · cases hs;omega
 split at hs
 · rename_i hd
   have h1:=zei (zfz hd).2.2.2.2.2
   have hn:zbj l i<l.length:=by
    rcases Nat.lt_or_ge (zbj l i) l.length with h|h
    · exact h
    · rw [zff h] at hd;cases hd
   have hi:i<=zbj l i:=by unfold zbj;split <;> omega
   have h2:=zeh (l:=l) (i:=zbj l i+1) (by omega)
   split at hs
   · cases hs
   · cases hs;omega
 split at hs
 · cases hs;omega
 · cases hs
theorem Reach.le {l:List UInt8} {i k:Nat} {ts us:List Tok} (h:Reach l i ts k us):i<=k:=by
 induction h with
 | refl=>exact Nat.le_refl _
 | step h hs _ ih=>have:=zgb h hs;omega
theorem zhs {l l' : List UInt8} {i j:Nat} (h:∀ k,k<j->l'.getD k 0=l.getD k 0) (h1:j<=l.length) (h2:j<=l'.length):sub l' i j=sub l i j:=by
 unfold sub
 apply List.ext_getElem?
 intro k
 rw [List.getElem?_take,List.getElem?_take,List.getElem?_drop,List.getElem?_drop]
 split
 · have e:=h (i+k) (by omega)
   rw [getD_lt (by omega),getD_lt (by omega)] at e
   rw [List.getElem?_eq_getElem (by omega),List.getElem?_eq_getElem (by omega),e]
 · rfl
theorem zgw {l l' : List UInt8} {i j:Nat} (hi:i<=j) (h:∀ k,k<j->l'.getD k 0=l.getD k 0) (he:zbd l i=j) (hb:runB (l'.getD j 0)=false):zbd l' i=j:=by
 rw [zit (k:=j) hi fun k h1 h2=>?_,zdq hb]
 rw [h k h2];exact znc h1 (by omega)
theorem step_same {l l' : List UInt8} {i j p:Nat} {t:Option Tok} (hi:i<l.length) (hs:zcd l i=.go t j) (ha:∀ k,k<p->l'.getD k 0=l.getD k 0) (hp:p<=l'.length) (hj:j<=p)
 (hb:l'.getD p 0=l.getD p 0∨l'.length=p):zcd l' i=.go t j:=by
 have hlt:=zgb hi hs
 have ei:l'.getD i 0=l.getD i 0:=ha i (by omega)
 have stop:runB (l.getD j 0)=false->runB (l'.getD j 0)=false:=fun h=>by
  rcases Nat.lt_or_ge j p with h1|h1
  · rw [ha j h1];exact h
  · obtain rfl:j=p:=by omega
    rcases hb with hb|hb
    · rw [hb];exact h
    · rw [zff (by omega)];decide
 have en:zbj l' i=zbj l i:=by unfold zbj;rw [ei]
 unfold zcd at hs
 unfold zcd
 rw [ei,en]
 split at hs
 · rename_i h;rw [if_pos h];exact hs
 rename_i h;rw [if_neg h]
 split at hs
 · rename_i h
   split at hs
   · cases hs
   · rename_i hc
     cases hs
     obtain ⟨h1,h2,h3,h4,h5⟩:=zme hc
     rw [if_pos ⟨h.1,by rw [ha (i+1) (by omega)];exact h.2⟩]
     rw [cend_is (l:=l') (i:=i+2) (j:=j) h1 (by rw [ha _ (by omega)];exact h3) (by rw [ha _ (by omega)];exact h4) fun k h6 h7=>by
      rw [ha k (by omega),ha (k+1) (by omega)];exact h5 k h6 h7]
 split at hs
 · rename_i hc hl
   rw [if_neg (fun h=>(zg0 hl).2.1 h.1),if_pos hl]
   split at hs
   · cases hs
   · rename_i h32
     have hj2:zbd l i=j:=by cases hs;rfl
     have e1:zbd l' i=j:=zgw (by omega) (fun k hk=>ha k (by omega)) hj2 (stop (by rw [<- hj2];exact zfp (by omega)))
     rw [hj2] at hs h32
     rw [e1,if_neg h32,zhs (fun k hk=>ha k (by omega)) (by omega) (by omega)]
     exact hs
 split at hs
 · rename_i hc hl hd
   have h45:zbj l i<j:=by
    have hn:zbj l i<l.length:=by
     rcases Nat.lt_or_ge (zbj l i) l.length with h|h
     · exact h
     · rw [zff h] at hd;cases hd
    have h1:=zei (zfz hd).2.2.2.2.2
    have h2:=zeh (l:=l) (i:=zbj l i+1) (by omega)
    split at hs
    · cases hs
    · cases hs;omega
   have hn47:¬ (l.getD i 0=47∧l'.getD (i+1) 0=42):=fun h=>by
    have:zbj l i=i:=by unfold zbj;rw [h.1];rfl
    rw [this,h.1] at hd;cases hd
   rw [if_neg hn47,if_neg hl,ha _ (by omega),if_pos hd]
   split at hs
   · cases hs
   · rename_i n hn
     have hj2:zbd l (zbj l i)=j:=by cases hs;rfl
     have hi2:zbj l i<=l.length:=by omega
     have e1:zbd l' (zbj l i)=j:=zgw (by omega) (fun k hk=>ha k (by omega)) hj2 (stop (by rw [<- hj2];exact zfp hi2))
     rw [hj2] at hn hs
     rw [e1,zhs (fun k hk=>ha k (by omega)) (by omega) (by omega),hn]
     exact hs
 split at hs
 · rename_i hc hl hd hsg
   have hb2:=zio hsg
   have hn:zbj l i=i:=by unfold zbj;rw [if_neg hb2.2.2.2.1]
   rw [if_neg (fun h=>hb2.2.1 h.1),if_neg hl,hn,ei,if_neg (by rw [hb2.2.2.2.2.1];decide),if_pos hsg]
   have hj2:i+1=j:=by cases hs;rfl
   rw [zhs (fun k hk=>ha k (by omega)) (by omega) (by omega)]
   exact hs
 · cases hs
theorem Reach.same {l l' : List UInt8} {i p:Nat} {ts us:List Tok} (h:Reach l i ts p us) (ha:∀ k,k<p->l'.getD k 0=l.getD k 0) (hp:p<=l'.length) (hb:l'.getD p 0=l.getD p 0∨l'.length=p):Reach l' i ts p us:=by
 induction h with
 | refl=>exact .refl
 | step h hs hr ih =>
  have h1:=zgb h hs
  have h2:=hr.le
  exact .step (by omega) (step_same h hs ha hp h2 hb) (ih ha hp hb)
theorem getD_take {l:List UInt8} {p k:Nat} (h:k<p):(l.take p).getD k 0=l.getD k 0:=by
 simp [List.getD,h]
theorem zi2 {a b:List UInt8} {k:Nat} (h:k<a.length):(a++b).getD k 0=a.getD k 0:=by
 simp [List.getD,List.getElem?_append_left h]
theorem zew {a b:List UInt8} {k:Nat} (h:a.length<=k):(a++b).getD k 0=b.getD (k - a.length) 0:=by
 simp [List.getD,List.getElem?_append_right h]
theorem zly {l:List UInt8} {e:Int} {p:Nat} (h:zc7 l=.err e p) (hl:l.length<=16000):∃ us,Reach l 0 [] p us∧p<l.length∧zcd l p=.err e :=
 reach_of_err (zc2 hl) h
theorem zlz {l:List UInt8} {e:Int} {p:Nat} (h:zcd l p=.err e):e=30∨e=31∨e=32∨e=33:=by
 unfold zcd at h
 repeat' split at h
 all_goals cases h
 all_goals simp
/- a text within a source -/
theorem zky {a b c:List UInt8} {k:Nat} (h:k<b.length):(a++(b++c)).getD (a.length+k) 0=b.getD k 0:=by
 rw [zew (by omega),Nat.add_sub_cancel_left,zi2 h]
theorem getD_mid0 {a b:List UInt8} : (a++b).getD a.length 0=b.getD 0 0:=by
 rw [zew (Nat.le_refl _),Nat.sub_self]
theorem getD_behind {a b c:List UInt8} : (a++(b++c)).getD (a.length+b.length) 0=c.getD 0 0:=by
 rw [zew (by omega),zew (by omega)];congr 1;omega
theorem sub_mid {a b c:List UInt8} : sub (a++(b++c)) a.length (a.length+b.length)=b:=by
 unfold sub;simp
theorem znd {a b c:List UInt8} {k:Nat} (hk:k<=b.length) (hb:∀ j,k<=j->j<b.length->runB (b.getD j 0)=true) (hc:runB (c.getD 0 0)=false):zbd (a++(b++c)) (a.length+k)=a.length+b.length:=by
 rw [zit (k:=a.length+b.length) (by omega) fun j h1 h2=>?_,zdq (by rw [getD_behind];exact hc)]
 obtain ⟨d,rfl⟩:∃ d,j=a.length+d:=⟨j - a.length,by omega⟩
 rw [zky (by omega)];exact hb d (by omega) (by omega)
theorem zm5 {a r:List UInt8} {c:UInt8} (h:zec c=true):zcd (a++(c::r)) a.length=.go none (a.length+1):=by
 unfold zcd
 rw [getD_mid0,if_pos (by exact h)]
def dc (d:Nat):UInt8:=([48,49,50,51,52,53,54,55,56,57,97,98,99,100,101,102]:List UInt8).getD d 0
def digF:Nat->Nat->Nat->List UInt8
 | 0,_,_=>[]
 | f+1,base,n=>if n<base then [dc n] else digF f base (n / base)++[dc (n % base)]
def zb5 (base n:Nat):List UInt8:=digF (n+1) base n
theorem digF_fuel {base:Nat} (hb:2<=base):∀ (f g n:Nat),n<f->n<g->digF f base n=digF g base n
 | 0,_,_,h,_=>by omega
 | _,0,_,_,h=>by omega
 | f+1,g+1,n,h1,h2=>by
  unfold digF
  split
  · rfl
  · have:n / base<n:=Nat.div_lt_self (by omega) hb
    rw [digF_fuel hb f g (n / base) (by omega) (by omega)]
theorem zi4 {base n:Nat} (h:n<base):zb5 base n=[dc n]:=by
 unfold zb5 digF;rw [if_pos h]
theorem zi5 {base n:Nat} (hb:2<=base) (h:¬ n<base):zb5 base n=zb5 base (n / base)++[dc (n % base)]:=by
 unfold zb5
 rw [digF,if_neg h]
 have:n / base<n:=Nat.div_lt_self (by omega) hb
 rw [digF_fuel hb n (n / base+1) (n / base) (by omega) (by omega)]
theorem zop {d:Nat} (h:d<16):digV (dc d)=d:=by
 have:∀ d:Fin 16,digV (dc d.val)=d.val:=by decide
 exact this ⟨d,h⟩
theorem dc_run {d:Nat} (h:d<16):runB (dc d)=true:=by
 have:∀ d:Fin 16,runB (dc d.val)=true:=by decide
 exact this ⟨d,h⟩
theorem dc_dig {d:Nat} (h:d<10):digB (dc d)=true:=by
 have:∀ d:Fin 10,digB (dc d.val)=true:=by decide
 exact this ⟨d,h⟩
theorem dc_pos {d:Nat} (h:d<16) (h0:d≠0):dc d≠48:=by
 have:∀ d:Fin 16,d.val≠0->dc d.val≠48:=by decide
 exact this ⟨d,h⟩ h0
theorem dc_not_x {d:Nat} (h:d<16):dc d≠120∧dc d≠45:=by
 have:∀ d:Fin 16,dc d.val≠120∧dc d.val≠45:=by decide
 exact this ⟨d,h⟩
theorem zni (base most:Nat) (c:UInt8):∀ (l:List UInt8) (n m:Nat),zdh base most n l=some m->digV c<base->m*base+digV c<=most->zdh base most n (l++[c])=some (m*base+digV c)
 | [],n,m,h,h1,h2=>by
  simp only [zdh,Option.some.injEq] at h
  subst h
  simp only [List.nil_append,zdh]
  rw [if_neg (by omega),if_neg (by omega)]
 | a::l,n,m,h,h1,h2=>by
  simp only [zdh] at h
  simp only [List.cons_append,zdh]
  split at h
  · cases h
  split at h
  · cases h
  rename_i h3 h4
  rw [if_neg h3,if_neg h4]
  exact zni base most c l _ m h h1 h2
/-- what printed digits are -/
theorem zde {base:Nat} (hb:2<=base) (hb2:base<=16) (most:Nat) (n:Nat):(n<=most->zdh base most 0 (zb5 base n)=some n)∧(∀ c∈zb5 base n,∃ d,d<base∧c=dc d)∧(∃ d,d<base∧(zb5 base n).getD 0 0=dc d∧(d=0->n=0))∧0<(zb5 base n).length:=by
 by_cases h:n<base
 · rw [zi4 h]
   refine ⟨fun hm=>?_,fun c hc=>?_,⟨n,h,rfl,id⟩,by simp⟩
   · simp only [zdh,zop (show n<16 by omega)]
     rw [if_neg (by omega),if_neg (by omega)];simp
   · exact ⟨n,h,by simpa using hc⟩
 · have hlt:n / base<n:=Nat.div_lt_self (by omega) hb
   have hpos:0<n / base:=Nat.div_pos (by omega) (by omega)
   obtain ⟨i1,i2,i3,i4⟩:=zde hb hb2 most (n / base)
   have hm:n % base<base:=Nat.mod_lt _ (by omega)
   have hd:=Nat.div_add_mod n base
   rw [zi5 hb h]
   refine ⟨fun hle=>?_,fun c hc=>?_,?_,by simp⟩
   · have:=zni base most (dc (n % base)) _ 0 _ (i1 (by omega)) (by rw [zop (by omega)];exact hm) (by rw [zop (by omega),Nat.mul_comm];omega)
     rw [this,zop (by omega),Nat.mul_comm,hd]
   · rw [List.mem_append] at hc
     rcases hc with hc|hc
     · exact i2 c hc
     · exact ⟨n % base,hm,by simpa using hc⟩
   · obtain ⟨d,h1,h2,h3⟩:=i3
     refine ⟨d,h1,?_,fun h0=>by have:=h3 h0;omega⟩
     rw [zi2 i4];exact h2
termination_by n
theorem zoh {l:List UInt8} {k:Nat} (h:k<l.length):l.getD k 0∈l:=by
 rw [getD_lt h];exact List.getElem_mem h
theorem znw {base n:Nat} (hb:2<=base) (hb2:base<=16):∀ j,j<(zb5 base n).length->runB ((zb5 base n).getD j 0)=true:=fun j hj=>by
 obtain ⟨d,h1,h2⟩:=(zde hb hb2 0 n).2.1 _ (zoh hj)
 rw [h2];exact dc_run (by omega)
theorem zjy {base n most:Nat} (hb:2<=base) (hb2:base<=16) (h:n<=most):zeo (zb5 base n) base most=some n:=by
 have f:=zde hb hb2 most n
 unfold zeo
 rw [if_neg (fun h0=>by rw [h0] at f;exact absurd f.2.2.2 (by simp)),f.1 h]
theorem formP_10 {n:Nat} (h:0<n):zdc (zb5 10 n)=(zb5 10 n,10):=by
 obtain ⟨d,h1,h2,h3⟩:=(zde (base:=10) (by omega) (by omega) 0 n).2.2.1
 unfold zdc
 rw [if_pos]
 rw [h2];exact dc_pos (by omega) (fun h0=>by have:=h3 h0;omega)
theorem numP_10 {n:Nat} (h:n<=4294967295):numP (zb5 10 n)=some (n:Int):=by
 have hd:=zjy (base:=10) (n:=n) (by omega) (by omega) h
 obtain ⟨d,h1,h2,h3⟩:=(zde (base:=10) (by omega) (by omega) 0 n).2.2.1
 by_cases h0:n=0
 · subst h0;decide
 · unfold numP
   rw [if_pos (by rw [h2];exact (dc_not_x (by omega)).2),formP_10 (by omega)]
   simp only
   rw [hd];rfl
theorem numP_minus {n:Nat} (h0:0<n) (h:n<=2147483648):numP (45::zb5 10 n)=some (-(n:Int)):=by
 have hd:=zjy (base:=10) (n:=n) (by omega) (by omega) h
 unfold numP
 rw [if_neg (by simp)]
 rw [show (45::zb5 10 n).drop 1=zb5 10 n from rfl,formP_10 h0]
 simp only
 rw [if_neg (by simp),hd];rfl
/-- steps over a token of each kind -/
theorem step_name {a t r:List UInt8} (h0:letB (t.getD 0 0)=true) (hr:∀ c∈t,runB c=true) (hl:t.length<=32) (hp:0<t.length) (hc:runB (r.getD 0 0)=false) :
 zcd (a++(t++r)) a.length=.go (some ⟨if zcb t then 2 else 1,t,0,a.length⟩) (a.length+t.length):=by
 have e0:(a++(t++r)).getD a.length 0=t.getD 0 0:=by have:=zky (a:=a) (b:=t) (c:=r) (k:=0) hp;simpa using this
 have e1:zbd (a++(t++r)) a.length=a.length+t.length:=by
  have:=znd (a:=a) (b:=t) (c:=r) (k:=0) (by omega) (fun j _ hj=>hr _ (zoh hj)) hc
  simpa using this
 have hb:=zg0 h0
 unfold zcd
 rw [e0,if_neg (by rw [hb.1];decide),if_neg (fun h=>hb.2.1 h.1),if_pos h0,e1,if_neg (by omega),sub_mid]
theorem step_num {a t r:List UInt8} {n:Int} (hn:numP t=some n) (h0:zec (t.getD 0 0)=false∧t.getD 0 0≠47∧letB (t.getD 0 0)=false) (k:Nat) (hk:k<t.length) (hk2:k=if t.getD 0 0=45 then 1 else 0)
 (hd:digB (t.getD k 0)=true) (hr:∀ j,k<=j->j<t.length->runB (t.getD j 0)=true) (hc:runB (r.getD 0 0)=false) :
 zcd (a++(t++r)) a.length=.go (some ⟨3,[],n,a.length⟩) (a.length+t.length):=by
 have e0:(a++(t++r)).getD a.length 0=t.getD 0 0:=by have:=zky (a:=a) (b:=t) (c:=r) (k:=0) (by omega);simpa using this
 have e1:zbj (a++(t++r)) a.length=a.length+k:=by
  unfold zbj;rw [e0,hk2];split <;> rfl
 have e2:=znd (a:=a) (b:=t) (c:=r) (k:=k) (by omega) hr hc
 have e3:(a++(t++r)).getD (a.length+k) 0=t.getD k 0:=zky hk
 unfold zcd
 rw [e0,if_neg (by rw [h0.1];decide),if_neg (fun h=>h0.2.1 h.1),if_neg (by rw [h0.2.2];decide),e1,e3,if_pos hd,e2,sub_mid,hn]
theorem step_sign {a r:List UInt8} {c:UInt8} (h:zgu c=true):zcd (a++([c]++r)) a.length=.go (some ⟨4,[c],0,a.length⟩) (a.length+1):=by
 have e0:(a++([c]++r)).getD a.length 0=c:=by rw [getD_mid0];rfl
 have hb:=zio h
 have hn:zbj (a++([c]++r)) a.length=a.length:=by unfold zbj;rw [e0,if_neg hb.2.2.2.1]
 unfold zcd
 rw [hn,e0,if_neg (by rw [hb.1];decide),if_neg (fun h=>hb.2.1 h.1),if_neg (by rw [hb.2.2.1];decide),if_neg (by rw [hb.2.2.2.2.1];decide),if_pos h]
 have:=sub_mid (a:=a) (b:=[c]) (c:=r)
 simp only [List.length_cons,List.length_nil,Nat.zero_add] at this
 rw [this]
theorem step_dig {a t r:List UInt8} {n:Int} (hn:numP t=some n) (hp:0<t.length) (hd:digB (t.getD 0 0)=true) (hr:∀ j,j<t.length->runB (t.getD j 0)=true) (hc:runB (r.getD 0 0)=false) :
 zcd (a++(t++r)) a.length=.go (some ⟨3,[],n,a.length⟩) (a.length+t.length):=by
 have hb:=zfz hd
 exact step_num hn ⟨hb.1,hb.2.1,hb.2.2.1⟩ 0 hp (by rw [if_neg hb.2.2.2.1]) hd (fun j _=>hr j) hc
theorem reckP_ge (base most:Nat) (hb:1<=base):∀ (l:List UInt8) (n m:Nat),zdh base most n l=some m->n<=m
 | [],n,m,h=>by simp only [zdh,Option.some.injEq] at h;omega
 | c::r,n,m,h=>by
  simp only [zdh] at h
  split at h
  · cases h
  split at h
  · cases h
  have h1:=reckP_ge base most hb r _ m h
  have h2:n*1<=n*base:=Nat.mul_le_mul_left n hb
  omega
end Go.Proofs.YtodfklpmbclgkaaGreatDoor
namespace Go.Proofs.YtodfklpmbclgkaaGreatDoor.Lx
open Go.RowKit
theorem zhk (c:Int) (w:World):Calls Tryz.prog 92 #[.int .u8 c] w fun e w'=>e=.returned (.bool (zji c))∧w'=w:=by
 unfold zji
 cases h0:decide (97<=c) <;> cases h1:decide (c<=122) <;> cases h2:decide (65<=c) <;> cases h3:decide (c<=90)
 all_goals (
  go_enter Tryz.func92,Tryz.ntmps92
  go_wp2
  go_ret
  exact ⟨rfl,rfl⟩)
theorem zg2 (c:Int) (w:World):Calls Tryz.prog 89 #[.int .u8 c] w fun e w'=>e=.returned (.bool (znx c))∧w'=w:=by
 unfold znx
 cases h0:decide (48<=c) <;> cases h1:decide (c<=57)
 all_goals (
  go_enter Tryz.func89,Tryz.ntmps89
  go_wp2
  go_ret
  exact ⟨rfl,rfl⟩)
theorem isRun_any (c:Int) (w:World):Calls Tryz.prog 90 #[.int .u8 c] w fun e w'=>e=.returned (.bool (runP c))∧w'=w:=by
 have H1:=hid (zhk c)
 have H2:=hid (zg2 c)
 unfold runP
 generalize zji c=l at *
 generalize znx c=d at *
 cases l <;> cases d <;> cases h3:c==95
 all_goals (
  go_enter Tryz.func90,Tryz.ntmps90
  go_wp2_with (first|(go_at_call 92;refine (H1.out _).mono ?_;rintro e w' ⟨rfl,rfl⟩)|(go_at_call 89;refine (H2.out _).mono ?_;rintro e w' ⟨rfl,rfl⟩))
  go_ret
  exact ⟨rfl,rfl⟩)
abbrev S (l:List UInt8):Value:=.string ⟨l.toArray⟩
set_option maxHeartbeats 1000000 in
theorem isWord_no (l:List UInt8) (w:World) (h:∀ x∈zii,(l==x)=false):Calls Tryz.prog 95 #[S l] w fun e w'=>e=.returned (.bool false)∧w'=w:=by
 simp only [zii,List.mem_cons,List.mem_nil_iff,or_false,forall_eq_or_imp,forall_eq] at h
 obtain ⟨h1,h2,h3,h4,h5,h6,h7,h8,h9,h10,h11,h12,h13,h14,h15,h16,h17,h18,h19,h20⟩:=h
 go_enter Tryz.func95,Tryz.ntmps95
 go_wp2
 go_ret
 exact ⟨rfl,rfl⟩
set_option maxHeartbeats 4000000 in
theorem isWord_yes (l:List UInt8) (w:World) (h:l∈zii):Calls Tryz.prog 95 #[S l] w fun e w'=>e=.returned (.bool true)∧w'=w:=by
 simp only [zii,List.mem_cons,List.mem_nil_iff,or_false] at h
 rcases h with rfl|rfl|rfl|rfl|rfl|rfl|rfl|rfl|rfl|rfl|rfl|rfl|rfl|rfl|rfl|rfl|rfl|rfl|rfl|rfl
 all_goals (
  go_enter Tryz.func95,Tryz.ntmps95
  go_wp2
  go_ret
  exact ⟨rfl,rfl⟩)
theorem znq (l:List UInt8) (w:World):Calls Tryz.prog 95 #[S l] w fun e w'=>e=.returned (.bool (zcb l))∧w'=w:=by
 unfold zcb
 cases h:zii.contains l
 · refine isWord_no l w fun x hx=>?_
   cases hx2:l==x
   · rfl
   · have e:l=x:=by simpa using hx2
     subst e
     rw [List.contains_iff_mem.2 hx] at h
     cases h
 · exact isWord_yes l w (List.contains_iff_mem.1 h)
theorem zjd {k:IntKind} {a b:Int} (h:a=b):Ending.returned (.int k a)=.returned (.int k b):=by rw [h]
def zfh (c:Int):Bool:=c==32||c==9||c==10||c==13
theorem blank_byte (c:UInt8):zfh (c.toNat:Int)=zec c:=by
 have:=zdu (fun c=>zfh (c.toNat:Int)==zec c) (by decide +kernel) c
 simpa using this
theorem isBlank_any (c:Int) (w:World):Calls Tryz.prog 91 #[.int .u8 c] w fun e w'=>e=.returned (.bool (zfh c))∧w'=w:=by
 unfold zfh
 cases h0:c==32 <;> cases h1:c==9 <;> cases h2:c==10 <;> cases h3:c==13
 all_goals (
  go_enter Tryz.func91,Tryz.ntmps91
  go_wp2
  go_ret
  exact ⟨rfl,rfl⟩)
def signP (c:Int):Bool:=c==123||(c==125||(c==40||(c==41||(c==91||(c==93||(c==60||(c==62||(c==61||(c==59||(c==58||(c==44||c==42)))))))))))
theorem sign_byte (c:UInt8):signP (c.toNat:Int)=zgu c:=by
 have:=zdu (fun c=>signP (c.toNat:Int)==zgu c) (by decide +kernel) c
 simpa using this
set_option maxHeartbeats 1000000 in
theorem isSign_any (c:Int) (w:World):Calls Tryz.prog 93 #[.int .u8 c] w fun e w'=>e=.returned (.bool (signP c))∧w'=w:=by
 unfold signP
 cases h0:c==123
 case true=>go_enter Tryz.func93,Tryz.ntmps93;go_wp2;go_ret;exact ⟨rfl,rfl⟩
 cases h1:c==125
 case true=>go_enter Tryz.func93,Tryz.ntmps93;go_wp2;go_ret;exact ⟨rfl,rfl⟩
 cases h2:c==40
 case true=>go_enter Tryz.func93,Tryz.ntmps93;go_wp2;go_ret;exact ⟨rfl,rfl⟩
 cases h3:c==41
 case true=>go_enter Tryz.func93,Tryz.ntmps93;go_wp2;go_ret;exact ⟨rfl,rfl⟩
 cases h4:c==91
 case true=>go_enter Tryz.func93,Tryz.ntmps93;go_wp2;go_ret;exact ⟨rfl,rfl⟩
 cases h5:c==93
 case true=>go_enter Tryz.func93,Tryz.ntmps93;go_wp2;go_ret;exact ⟨rfl,rfl⟩
 cases h6:c==60
 case true=>go_enter Tryz.func93,Tryz.ntmps93;go_wp2;go_ret;exact ⟨rfl,rfl⟩
 cases h7:c==62
 case true=>go_enter Tryz.func93,Tryz.ntmps93;go_wp2;go_ret;exact ⟨rfl,rfl⟩
 cases h8:c==61
 case true=>go_enter Tryz.func93,Tryz.ntmps93;go_wp2;go_ret;exact ⟨rfl,rfl⟩
 cases h9:c==59
 case true=>go_enter Tryz.func93,Tryz.ntmps93;go_wp2;go_ret;exact ⟨rfl,rfl⟩
 cases h10:c==58
 case true=>go_enter Tryz.func93,Tryz.ntmps93;go_wp2;go_ret;exact ⟨rfl,rfl⟩
 cases h11:c==44
 case true=>go_enter Tryz.func93,Tryz.ntmps93;go_wp2;go_ret;exact ⟨rfl,rfl⟩
 cases h12:c==42
 case true=>go_enter Tryz.func93,Tryz.ntmps93;go_wp2;go_ret;exact ⟨rfl,rfl⟩
 go_enter Tryz.func93,Tryz.ntmps93;go_wp2;go_ret;exact ⟨rfl,rfl⟩
theorem zma (c:UInt8) (w:World):Calls Tryz.prog 154 #[.int .u8 (c.toNat:Int)] w fun e w'=>e=.returned (.int .i64 (digV c:Nat))∧w'=w:=by
 have hc:(c.toNat:Int)<256:=by have:=c.toNat_lt;omega
 have H1:Hid (∀ w,Calls Tryz.prog 89 #[.int .u8 (c.toNat:Int)] w fun e w'=>e=.returned (.bool (digB c))∧w'=w):=fun w=>zg2 _ w
 have hd:digB c=(decide (48<=(c.toNat:Int))&&decide ((c.toNat:Int)<=57)):=rfl
 obtain ⟨V,hV⟩:∃ V,digV c=V:=⟨_,rfl⟩
 rw [hV]
 unfold digV at hV
 cases hb:digB c
 · rw [hb] at H1 hV hd
   rw [if_neg (by decide)] at hV
   generalize hn:(c.toNat:Int)=n at *
   by_cases h1:97<=n∧n<=102
   · have HV:Hid (n - 97+10=(V:Int)):=by show _=_;rw [<- hV,if_pos (by omega)];omega
     clear hV hn hd
     obtain ⟨h1,h2⟩:=h1
     go_enter Tryz.func154,Tryz.ntmps154
     go_wp2_with fail
     refine (H1.out _).mono ?_
     rintro e w' ⟨rfl,rfl⟩
     go_wp2
     go_ret
     exact ⟨zjd HV.out,rfl⟩
   · by_cases h2:65<=n∧n<=70
     · have HV:Hid (n - 65+10=(V:Int)):=by show _=_;rw [<- hV,if_neg (by omega),if_pos (by omega)];omega
       clear hV hn hd
       obtain ⟨h2,h3⟩:=h2
       have h4:decide (97<=n)=false:=by simp;omega
       go_enter Tryz.func154,Tryz.ntmps154
       go_wp2_with fail
       refine (H1.out _).mono ?_
       rintro e w' ⟨rfl,rfl⟩
       go_wp2
       go_ret
       exact ⟨zjd HV.out,rfl⟩
     · have HV:Hid (16=(V:Int)):=by show _=_;rw [<- hV,if_neg (by omega),if_neg (by omega)];rfl
       clear hV hn hd
       by_cases h97:97<=n
       · have h102:decide (n<=102)=false:=by simp;omega
         have h65:65<=n:=by omega
         have h70:decide (n<=70)=false:=by simp;omega
         go_enter Tryz.func154,Tryz.ntmps154
         go_wp2_with fail
         refine (H1.out _).mono ?_
         rintro e w' ⟨rfl,rfl⟩
         go_wp2
         go_ret
         exact ⟨zjd HV.out,rfl⟩
       · have h97' : decide (97<=n)=false:=by simp;omega
         by_cases h65:65<=n
         · have h70:decide (n<=70)=false:=by simp;omega
           go_enter Tryz.func154,Tryz.ntmps154
           go_wp2_with fail
           refine (H1.out _).mono ?_
           rintro e w' ⟨rfl,rfl⟩
           go_wp2
           go_ret
           exact ⟨zjd HV.out,rfl⟩
         · have h65' : decide (65<=n)=false:=by simp;omega
           go_enter Tryz.func154,Tryz.ntmps154
           go_wp2_with fail
           refine (H1.out _).mono ?_
           rintro e w' ⟨rfl,rfl⟩
           go_wp2
           go_ret
           exact ⟨zjd HV.out,rfl⟩
 · rw [hb] at H1 hV hd
   rw [if_pos rfl] at hV
   generalize hn:(c.toNat:Int)=n at *
   have h48:48<=n∧n<=57:=by
    have:=hd.symm
    simpa using this
   have HV:Hid (n - 48=(V:Int)):=by show _=_;rw [<- hV];omega
   clear hV hn hd
   obtain ⟨h1,h2⟩:=h48
   go_enter Tryz.func154,Tryz.ntmps154
   go_wp2_with fail
   refine (H1.out _).mono ?_
   rintro e w' ⟨rfl,rfl⟩
   go_wp2
   go_ret
   exact ⟨zjd HV.out,rfl⟩
theorem begin_any (c:UInt8) (w:World):Calls Tryz.prog 54 #[.int .u8 (c.toNat:Int)] w fun e w'=>e=.returned (.int .i64 (zdb c:Nat))∧w'=w:=by
 have H0:Hid (∀ w,Calls Tryz.prog 91 #[.int .u8 (c.toNat:Int)] w fun e w'=>e=.returned (.bool (zec c))∧w'=w):=fun w=>by rw [<- blank_byte];exact isBlank_any _ w
 have H1:Hid (∀ w,Calls Tryz.prog 92 #[.int .u8 (c.toNat:Int)] w fun e w'=>e=.returned (.bool (letB c))∧w'=w):=fun w=>zhk _ w
 have H2:Hid (∀ w,Calls Tryz.prog 89 #[.int .u8 (c.toNat:Int)] w fun e w'=>e=.returned (.bool (digB c))∧w'=w):=fun w=>zg2 _ w
 have H3:Hid (∀ w,Calls Tryz.prog 93 #[.int .u8 (c.toNat:Int)] w fun e w'=>e=.returned (.bool (zgu c))∧w'=w):=fun w=>by rw [<- sign_byte];exact isSign_any _ w
 have h4:(c==45)=((c.toNat:Int)==45):=by
  have:=zdu (fun c=>(c==45)==((c.toNat:Int)==45)) (by decide +kernel) c
  simpa using this
 have h5:(c==47)=((c.toNat:Int)==47):=by
  have:=zdu (fun c=>(c==47)==((c.toNat:Int)==47)) (by decide +kernel) c
  simpa using this
 unfold zdb
 rw [h4,h5]
 clear h4 h5
 generalize zec c=b0 at *
 generalize letB c=b1 at *
 generalize digB c=b2 at *
 generalize zgu c=b3 at *
 generalize (c.toNat:Int)=n at *
 cases b0
 case true =>
  go_enter Tryz.func54,Tryz.ntmps54
  go_wp2_with (first|(go_at_call 91;refine (H0.out _).mono ?_;rintro e w' ⟨rfl,rfl⟩))
  go_ret
  exact ⟨rfl,rfl⟩
 cases b1
 case true =>
  go_enter Tryz.func54,Tryz.ntmps54
  go_wp2_with (first|(go_at_call 91;refine (H0.out _).mono ?_;rintro e w' ⟨rfl,rfl⟩)|(go_at_call 92;refine (H1.out _).mono ?_;rintro e w' ⟨rfl,rfl⟩))
  go_ret
  exact ⟨rfl,rfl⟩
 cases b2
 case true =>
  go_enter Tryz.func54,Tryz.ntmps54
  go_wp2_with (first|(go_at_call 91;refine (H0.out _).mono ?_;rintro e w' ⟨rfl,rfl⟩)|(go_at_call 92;refine (H1.out _).mono ?_;rintro e w' ⟨rfl,rfl⟩)|(go_at_call 89;refine (H2.out _).mono ?_;rintro e w' ⟨rfl,rfl⟩))
  go_ret
  exact ⟨rfl,rfl⟩
 cases b3
 case true =>
  go_enter Tryz.func54,Tryz.ntmps54
  go_wp2_with (first|(go_at_call 91;refine (H0.out _).mono ?_;rintro e w' ⟨rfl,rfl⟩)|(go_at_call 92;refine (H1.out _).mono ?_;rintro e w' ⟨rfl,rfl⟩)|(go_at_call 89;refine (H2.out _).mono ?_;rintro e w' ⟨rfl,rfl⟩)|(go_at_call 93;refine (H3.out _).mono ?_;rintro e w' ⟨rfl,rfl⟩))
  go_ret
  exact ⟨rfl,rfl⟩
 cases h4:n==45 <;> cases h5:n==47
 all_goals (
  go_enter Tryz.func54,Tryz.ntmps54
  go_wp2_with (first|(go_at_call 91;refine (H0.out _).mono ?_;rintro e w' ⟨rfl,rfl⟩)|(go_at_call 92;refine (H1.out _).mono ?_;rintro e w' ⟨rfl,rfl⟩)|(go_at_call 89;refine (H2.out _).mono ?_;rintro e w' ⟨rfl,rfl⟩)|(go_at_call 93;refine (H3.out _).mono ?_;rintro e w' ⟨rfl,rfl⟩))
  go_ret
  exact ⟨rfl,rfl⟩)
theorem zjr (c k:UInt8):((c.toNat:Int)==(k.toNat:Int))=(c==k):=by
 rw [Bool.eq_iff_iff,beq_iff_eq,beq_iff_eq]
 constructor
 · intro h;exact UInt8.toNat_inj.1 (by omega)
 · rintro rfl;rfl
theorem S_extract (l:List UInt8) (i j:Nat):(⟨l.toArray⟩:ByteArray).extract i j=⟨((l.drop i).take (j - i)).toArray⟩:=by
 apply ByteArray.ext;simp
theorem S_from (l:List UInt8) (i:Nat):(⟨l.toArray⟩:ByteArray).extract i l.length=⟨(l.drop i).toArray⟩:=by
 rw [S_extract,List.take_of_length_le (by simp)]
theorem ret_tuple {a b:Array Value} (h:a=b):Ending.returned (.tuple a)=.returned (.tuple b):=by rw [h]
def zj4 (st:Nat) (c:UInt8):Nat:=if c==42 then 3 else if c==47&&st==3 then 0 else 2
theorem zho (st:Nat) (c:UInt8) (w:World) (hs:st<=8):Calls Tryz.prog 88 #[.int .i64 st,.int .u8 (c.toNat:Int)] w fun e w'=>e=.returned (.int .i64 (zj4 st c:Nat))∧w'=w:=by
 unfold zj4
 rw [<- zjr c 42,<- zjr c 47]
 show Calls Tryz.prog 88 #[.int .i64 st,.int .u8 (c.toNat:Int)] w fun e w'=>e=.returned (.int .i64 ((if ((c.toNat:Int)==42)=true then 3 else if ((c.toNat:Int)==47&&st==3)=true then 0 else 2:Nat):Int))∧w'=w
 generalize (c.toNat:Int)=n at *
 cases h1:n==42
 case true=>go_enter Tryz.func88,Tryz.ntmps88;go_wp2;go_ret;exact ⟨rfl,rfl⟩
 cases h2:n==47
 case false=>go_enter Tryz.func88,Tryz.ntmps88;go_wp2;go_ret;exact ⟨rfl,rfl⟩
 by_cases h3:st=3
 · subst h3;go_enter Tryz.func88,Tryz.ntmps88;go_wp2;go_ret;exact ⟨rfl,rfl⟩
 · have h4:((st:Int)==3)=false:=by simp;omega
   go_enter Tryz.func88,Tryz.ntmps88;go_wp2;go_ret;exact ⟨rfl,rfl⟩
set_option maxHeartbeats 1000000 in
theorem goOn_any (st:Nat) (c:UInt8) (w:World) (hs:st<=8):Calls Tryz.prog 53 #[.int .i64 st,.int .u8 (c.toNat:Int)] w fun e w'=>e=.returned (.tuple #[.int .i64 ((zcv st c).1:Nat),.bool (zcv st c).2])∧w'=w:=by
 have H0:Hid (∀ w,Calls Tryz.prog 89 #[.int .u8 (c.toNat:Int)] w fun e w'=>e=.returned (.bool (digB c))∧w'=w):=fun w=>zg2 _ w
 have H1:Hid (∀ w,Calls Tryz.prog 90 #[.int .u8 (c.toNat:Int)] w fun e w'=>e=.returned (.bool (runB c))∧w'=w):=fun w=>isRun_any _ w
 have H2:Hid (∀ w,Calls Tryz.prog 88 #[.int .i64 2,.int .u8 (c.toNat:Int)] w fun e w'=>e=.returned (.int .i64 (zj4 2 c:Nat))∧w'=w):=fun w=>zho 2 c w (by omega)
 have H3:Hid (∀ w,Calls Tryz.prog 88 #[.int .i64 3,.int .u8 (c.toNat:Int)] w fun e w'=>e=.returned (.int .i64 (zj4 3 c:Nat))∧w'=w):=fun w=>zho 3 c w (by omega)
 have h42:Hid (((c.toNat:Int)==42)=(c==42)):=zjr c 42
 obtain rfl|rfl|rfl|rfl|rfl|rfl|rfl|rfl|rfl:st=0∨st=1∨st=2∨st=3∨st=4∨st=5∨st=6∨st=7∨st=8:=by omega
 · go_enter Tryz.func53,Tryz.ntmps53;go_wp2;go_ret2;exact ⟨rfl,rfl⟩
 · show Calls Tryz.prog 53 #[.int .i64 1,.int .u8 (c.toNat:Int)] w fun e w'=>e=.returned (.tuple #[.int .i64 2,.bool (c==42)])∧w'=w
   rw [<- h42.out]
   clear h42 H0 H1 H2 H3
   generalize (c.toNat:Int)=n
   cases h1:n==42 <;> (go_enter Tryz.func53,Tryz.ntmps53;go_wp2;go_ret2;exact ⟨rfl,rfl⟩)
 · show Calls Tryz.prog 53 #[.int .i64 2,.int .u8 (c.toNat:Int)] w fun e w'=>e=.returned (.tuple #[.int .i64 (zj4 2 c:Nat),.bool true])∧w'=w
   clear h42 H0 H1 H3
   generalize (c.toNat:Int)=n at *
   generalize (zj4 2 c:Nat)=m at *
   go_enter Tryz.func53,Tryz.ntmps53;go_wp2_with (go_at_call 88;refine (H2.out _).mono ?_;rintro e w' ⟨rfl,rfl⟩);go_ret2;exact ⟨rfl,rfl⟩
 · show Calls Tryz.prog 53 #[.int .i64 3,.int .u8 (c.toNat:Int)] w fun e w'=>e=.returned (.tuple #[.int .i64 (zj4 3 c:Nat),.bool true])∧w'=w
   clear h42 H0 H1 H2
   generalize (c.toNat:Int)=n at *
   generalize (zj4 3 c:Nat)=m at *
   go_enter Tryz.func53,Tryz.ntmps53;go_wp2_with (go_at_call 88;refine (H3.out _).mono ?_;rintro e w' ⟨rfl,rfl⟩);go_ret2;exact ⟨rfl,rfl⟩
 · show Calls Tryz.prog 53 #[.int .i64 4,.int .u8 (c.toNat:Int)] w fun e w'=>e=.returned (.tuple #[.int .i64 5,.bool (digB c)])∧w'=w
   clear h42 H1 H2 H3
   generalize (c.toNat:Int)=n at *
   generalize digB c=b at *
   go_enter Tryz.func53,Tryz.ntmps53;go_wp2_with (go_at_call 89;refine (H0.out _).mono ?_;rintro e w' ⟨rfl,rfl⟩);go_ret2;exact ⟨rfl,rfl⟩
 · show Calls Tryz.prog 53 #[.int .i64 5,.int .u8 (c.toNat:Int)] w fun e w'=>e=.returned (.tuple #[.int .i64 5,.bool (runB c)])∧w'=w
   clear h42 H0 H2 H3
   generalize (c.toNat:Int)=n at *
   generalize runB c=b at *
   go_enter Tryz.func53,Tryz.ntmps53;go_wp2_with (go_at_call 90;refine (H1.out _).mono ?_;rintro e w' ⟨rfl,rfl⟩);go_ret2;exact ⟨rfl,rfl⟩
 · show Calls Tryz.prog 53 #[.int .i64 6,.int .u8 (c.toNat:Int)] w fun e w'=>e=.returned (.tuple #[.int .i64 6,.bool (runB c)])∧w'=w
   clear h42 H0 H2 H3
   generalize (c.toNat:Int)=n at *
   generalize runB c=b at *
   go_enter Tryz.func53,Tryz.ntmps53;go_wp2_with (go_at_call 90;refine (H1.out _).mono ?_;rintro e w' ⟨rfl,rfl⟩);go_ret2;exact ⟨rfl,rfl⟩
 · go_enter Tryz.func53,Tryz.ntmps53;go_wp2;go_ret2;exact ⟨rfl,rfl⟩
 · go_enter Tryz.func53,Tryz.ntmps53;go_wp2;go_ret2;exact ⟨rfl,rfl⟩
theorem form_any (r:List UInt8) (w:World) (h0:0<r.length) (hl:(r.length:Int)<=9223372036854775807):Calls Tryz.prog 128 #[S r] w fun e w'=>e=.returned (.tuple #[S (zdc r).1,.int .i64 ((zdc r).2:Nat)])∧w'=w:=by
 have e0:r.getD 0 0=r[0]:=getD_lt h0
 obtain ⟨c,hc⟩:∃ c,r[0]=c:=⟨_,rfl⟩
 have hb:=zjr c 48
 have h0' : (0:Int)<r.length:=by omega
 have hn0:((r.length:Int)==0)=false:=beq_eq_false_iff_ne.2 (by omega)
 unfold zdc
 rw [e0,hc]
 by_cases h48:c=48
 · subst h48
   rw [if_neg (by simp)]
   by_cases h1:1<r.length
   · have e1:r.getD 1 0=r[1]:=getD_lt h1
     obtain ⟨d,hd⟩:∃ d,r[1]=d:=⟨_,rfl⟩
     have hb2:=zjr d 120
     have h1' : (1:Int)<r.length:=by omega
     rw [e1,hd]
     have hcc:({ data:=r.toArray } : ByteArray)[0]'h0=48:=hc
     have hdd:({ data:=r.toArray } : ByteArray)[1]'h1=d:=hd
     by_cases h120:d=120
     · subst h120
       rw [if_pos ⟨h1,rfl⟩]
       clear e0 e1 hb hb2
       go_enter Tryz.func128,Tryz.ntmps128
       go_wp2
       go_ret2
       exact ⟨ret_tuple (show #[Value.string ((⟨r.toArray⟩:ByteArray).extract 2 r.length),.int .i64 16]=#[.string ⟨(r.drop 2).toArray⟩,.int .i64 16] from by rw [S_from]),rfl⟩
     · rw [if_neg (fun h=>h120 h.2)]
       have hb3:((d.toNat:Int)==120)=false:=hb2.trans (by simpa using h120)
       clear e0 e1 hb hb2 h120
       go_enter Tryz.func128,Tryz.ntmps128
       go_wp2
       go_ret2
       exact ⟨rfl,rfl⟩
   · rw [if_neg (fun h=>h1 h.1)]
     have hcc:({ data:=r.toArray } : ByteArray)[0]'h0=48:=hc
     have h1' : decide ((1:Int)<r.length)=false:=by simp;omega
     clear e0 hb
     go_enter Tryz.func128,Tryz.ntmps128
     go_wp2
     go_ret2
     exact ⟨rfl,rfl⟩
 · rw [if_pos h48]
   have hcc:({ data:=r.toArray } : ByteArray)[0]'h0=c:=hc
   have hb3:((c.toNat:Int)==48)=false:=hb.trans (by simpa using h48)
   clear e0 hb h48
   go_enter Tryz.func128,Tryz.ntmps128
   go_wp2
   go_ret2
   exact ⟨rfl,rfl⟩
end Go.Proofs.YtodfklpmbclgkaaGreatDoor.Lx
