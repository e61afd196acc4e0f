import Derived.Test.YtodfklpmbclgkaaGreatDoorBack16
import Derived.Test.YtodfklpmbclgkaaGreatDoorBack13
import Derived.Test.YtodfklpmbclgkaaGreatDoorBack12
namespace Go.Proofs.YtodfklpmbclgkaaGreatDoor.Pr
open Go.RowKit Go.Lib
def zmd (t:ITree) (txt:List UInt8):Option (List UInt8):=if zaw t.name true&&zan t.kids.length t.num 1 1 then (layP [[99,111,110,115,116],t.name,[61]] txt).bind (zaz (-2147483648) (t.kids.getD 0 zby)) else none
def zkm (de:ITree->List UInt8->Option (List UInt8)) (t:ITree) (txt:List UInt8):Option (List UInt8):=if zaw t.name false&&zan t.kids.length t.num 1 1 then (if (t.kids.getD 0 zby).kind=13 then none else (layP [[116,121,112,101,100,101,102]] txt).bind (de (t.kids.getD 0 zby))) else none
def defP (de bo:ITree->List UInt8->Option (List UInt8)) (t:ITree) (txt:List UInt8):Option (List UInt8) :=
 if t.kind=2 then zmd t txt else if t.kind=3 then zkm de t txt else if t.kind=10 then numberedP [112,114,111,103,114,97,109] versionP t txt else bo t txt
theorem zk1 {k:Int} {n:List UInt8} {m a:Int} {ks:List ITree} {L:Nat} (hl:ks.length=L) {b:Bool} (hb:(zaw n true&&zan L m 1 1)=b) (x:List UInt8):zmd (.node k n m a ks) x=if b then (layP [[99,111,110,115,116],n,[61]] x).bind (zaz (-2147483648) (ks.getD 0 zby)) else none:=by
 subst hl
 subst hb
 rfl
theorem zhr {de:ITree->List UInt8->Option (List UInt8)} {k:Int} {n:List UInt8} {m a:Int} {ks:List ITree} {L:Nat} (hl:ks.length=L) {b:Bool} (hb:(zaw n false&&zan L m 1 1)=b) (x:List UInt8):zkm de (.node k n m a ks) x=if b then (if (ks.getD 0 zby).kind=13 then none else (layP [[116,121,112,101,100,101,102]] x).bind (de (ks.getD 0 zby))) else none:=by
 subst hl
 subst hb
 rfl
set_option maxHeartbeats 2000000 in
set_option maxRecDepth 4000 in
theorem does_def {p:Nat} {d:Int} {w0:World} {de bo:ITree->List UInt8->Option (List UInt8)} (hnu:Does p d w0 97 (fun v=>#[.pointer (some ⟨p,0,none⟩),v,.int .i64 (-2147483648)]) (zaz (-2147483648))) (hde:Does p d w0 98 (fun v=>#[.pointer (some ⟨p,0,none⟩),v]) de) (hbo:Does p d w0 101 (fun v=>#[.pointer (some ⟨p,0,none⟩),v,.bool true]) bo) (hnm:Does p d w0 99 (fun v=>#[.pointer (some ⟨p,0,none⟩),v,.string ⟨#[112,114,111,103,114,97,109]⟩,.func (.func 100) #[.pointer (some ⟨p,0,none⟩)] #[]]) (numberedP [112,114,111,103,114,97,109] versionP)):Does p d w0 60 (fun v=>#[.pointer (some ⟨p,0,none⟩),v]) (defP de bo):=by
 have hmf:∀ (fn:Fn) (first cap:Array Value) (w:World),(Instr.makeFunc fn first cap).run Tryz.prog w=.ok (.func fn first cap) w:=fun _ _ _ _=>rfl
 refine ⟨fun w hf k n m a ks o c ht txt v0 h hx=>?_⟩
 have HTR:=hid ht
 have HN0:=hid ((zay ht).1)
 have HCC:=hid ((zay ht).2.2.1)
 have HNU:Hid (Does p d w 97 (fun v=>#[.pointer (some ⟨p,0,none⟩),v,.int .i64 (-2147483648)]) (zaz (-2147483648))):=hnu.front hf
 have HDE:Hid (Does p d w 98 (fun v=>#[.pointer (some ⟨p,0,none⟩),v]) de):=hde.front hf
 have HBO:Hid (∀ w2,za1 p w w2->∀ txt v0,PR w2 p txt d v0->txt.length<=16000->Calls Tryz.prog 101 #[.pointer (some ⟨p,0,none⟩),zaj k n m a (.slice o ks.length c),.bool true] w2 (zbp p d v0 (bo (.node k n m a ks) txt) w2)):=fun w2 h2 txt v0 h hx=>hbo.run w2 (hf.trans h2) k n m a ks o c (ht.frame (Nat.le_refl _) (fun b hb=>h2 b hb) _ _) txt v0 h hx
 have HNM:Hid (∀ w2,za1 p w w2->∀ txt v0,PR w2 p txt d v0->txt.length<=16000->Calls Tryz.prog 99 #[.pointer (some ⟨p,0,none⟩),zaj k n m a (.slice o ks.length c),.string ⟨#[112,114,111,103,114,97,109]⟩,.func (.func 100) #[.pointer (some ⟨p,0,none⟩)] #[]] w2 (zbp p d v0 ((numberedP [112,114,111,103,114,97,109] versionP) (.node k n m a ks) txt) w2)):=fun w2 h2 txt v0 h hx=>hnm.run w2 (hf.trans h2) k n m a ks o c (ht.frame (Nat.le_refl _) (fun b hb=>h2 b hb) _ _) txt v0 h hx
 have hn:=HN0.out
 clear ht hf hnu hde hbo hnm
 obtain ⟨L,hL⟩:∃ L,ks.length=L:=⟨_,rfl⟩
 have HL:Hid (ks.length=L):=hL
 rw [hL]
 rw [hL] at HCC HBO HNM
 unfold zaj at HBO HNM
 clear hL
 by_cases h2:k=2
 · subst h2
   have HP:=hid2 h hx
   obtain ⟨R,hR⟩:∃ R,defP de bo (.node 2 n m a ks) txt=R:=⟨_,rfl⟩
   rw [hR]
   have HR:Hid (R=defP de bo (.node 2 n m a ks) txt):=hR.symm
   have HMH:Hid (∀ w,Calls Tryz.prog 59 #[zaj 2 n m a (.slice o L c),.bool true,.int .i64 1,.int .i64 1] w (zb6 (zaw n true&&zan L m 1 1) w)):=fun w=>zbw 2 n m a o L c 1 1 w (by unfold maxLen at hn;omega)
   unfold zaj at HMH
   clear hn
   clear h hx hR
   obtain ⟨wa,hwa⟩:∃ x,w.alloc (.cells #[.int .i64 2,.string ⟨n.toArray⟩,.int .i64 m,.int .i64 a,.slice o L c] 29)=x:=⟨_,rfl⟩
   have HB:=hidB hwa
   have HK:Hid (wa.heap[w.heap.size]?=some (za2 2 n m a (.slice o L c))):=by show _=_;rw [<- hwa];exact heap_alloc_new _ _
   have HS:Hid (PR wa p txt d v0∧txt.length<=16000∧Lx.Kept p v0 v0 wa wa):=⟨HP.out.1.below HB.out,HP.out.2,Lx.Kept.of_below (Below.refl _ _)⟩
   have HBK:Hid (∀ v' w',Lx.Kept p v0 v' wa w'->w'.heap[w.heap.size]?=some (za2 2 n m a (.slice o L c))):=boxed HP.out.1 HK.out
   have HEND:Hid (∀ v' w',Lx.Kept p v0 v' wa w'->Lx.Kept p v0 v' w w'):=fun v' w' hk=>(Lx.Kept.of_below HB.out).trans hk
   have HFR:Hid (∀ v' w',Lx.Kept p v0 v' wa w'->za1 p w w'):=fun v' w' hk=>HP.out.1.front (HEND.out _ _ hk)
   obtain ⟨⟨z0,z1,z2,z3,z4⟩,_⟩:=zab HK.out
   unfold zaj
   have HR0:Hid (R=zmd (.node 2 n m a ks) txt):=HR.out
   go_enter Tryz.func60,Tryz.ntmps60
   go_wp2_with fail
   refine (HMH.out _).mono ?_
   rintro e w1 ⟨hB,hq⟩
   have HKM:=hid (HS.out.2.2.trans (Lx.Kept.of_below hB))
   have HPM:=hid (HS.out.1.below hB)
   clear hB
   rcases hq with ⟨hq,rfl⟩|⟨hq,he⟩
   case inr =>
    have HF:Hid (R=none):=by
     show _=_
     rw [HR0.out];rw [zk1 HL.out rfl];rw [hq];rfl
    clear hq
    unfold zaa at he
    subst he
    go_wp2
    exact ⟨rfl,v0,HEND.out _ _ HKM.out,Or.inr ⟨HF.out,rfl⟩⟩
   have HR1:Hid (R=(layP [[99,111,110,115,116],n,[61]] txt).bind (zaz (-2147483648) (ks.getD 0 zby))):=by
    show _=_
    rw [HR0.out];rw [zk1 HL.out rfl];rw [hq];rfl
   have HQ1:Hid ((zaw n true&&zan L m 1 1)=true):=hq
   have HS1:=hid3 HPM.out HS.out.2.1 HKM.out
   clear hq z0 z1 z2 z3 z4 hwa
   have HN:Hid (n≠[]∧n.length<=64):=by
    have:=HQ1.out
    rw [Bool.and_eq_true] at this
    exact zco this.1
   have hlen:1<=L∧L<=1:=by
    have:=HQ1.out
    unfold zan at this
    simp at this
    omega
   have HLE:=hid hlen
   obtain ⟨g,f,ho,hg,hkd⟩:=zcy HTR.out (by have:=HL.out;omega)
   subst ho
   have HKA:=hid hkd
   clear hlen hg hkd
   have hl1:(1:Int)<=(L:Int):=by have:=HLE.out;omega
   obtain ⟨k9,n9,m9,a9,us9,o9,c9,he9,hkd9⟩:=HKA.out (0) (by have:=HL.out;have:=HLE.out;omega)
   have HKE9:Hid (ks.getD (0) zby=.node k9 n9 m9 a9 us9):=he9
   have HKW9:Hid (∀ w2,za1 p w w2->KidR w2 g (f+(0)*5) k9 n9 m9 a9 (.slice o9 us9.length c9)∧TreeR p w2 (.node k9 n9 m9 a9 us9) (zaj k9 n9 m9 a9 (.slice o9 us9.length c9))):=hkd9
   clear he9 hkd9
   have HR9:Hid (R=(layP [[99,111,110,115,116],n,[61]] txt).bind (zaz (-2147483648) (.node k9 n9 m9 a9 us9))):=by show _=_;rw [HR1.out,HKE9.out]
   obtain ⟨⟨z0,z1,z2,z3,z4⟩,_⟩:=zab (HBK.out _ _ HS1.out.2.2)
   clear z0 z2 z3 z4
   go_wp2_with fail
   refine (za7 p [[99,111,110,115,116],n,[61]] _ rfl (by intro t ht;simp only [List.mem_cons,List.not_mem_nil,or_false] at ht;rcases ht with rfl|rfl|rfl <;> first|exact HN.out|exact HOP.out|exact HSH.out|exact ⟨by decide,by decide⟩) (by simp) 3 rfl txt d v0 w1 HS1.out.1 HS1.out.2.1).mono ?_
   rintro e w2 ⟨v2,hk,hQ⟩
   have HKM:=hid (HS1.out.2.2.trans hk)
   clear hk
   rcases hQ with ⟨x2,hx1,hx2,rfl,hPR⟩|⟨hx1,he⟩
   case inr =>
    have HF:Hid (R=none):=HR9.out.trans (by rw [hx1];rfl)
    clear hx1
    unfold zaa at he
    subst he
    go_wp2
    exact ⟨rfl,v2,HEND.out _ _ HKM.out,Or.inr ⟨HF.out,rfl⟩⟩
   have HR2:Hid (R=zaz (-2147483648) (.node k9 n9 m9 a9 us9) x2):=HR9.out.trans (by rw [hx1];rfl)
   have HS2:=hid3 hPR hx2 HKM.out
   clear hx1 hx2 hPR z1
   obtain ⟨⟨z0,z1,z2,z3,z4⟩,_⟩:=zab (HBK.out _ _ HS2.out.2.2)
   clear z0 z1 z2 z3
   obtain ⟨q0,q1,q2,q3,q4⟩:=(HKW9.out _ (HFR.out _ _ HS2.out.2.2)).1
   simp only [Nat.zero_mul,Nat.add_zero] at q0 q1 q2 q3 q4
   go_wp2_with fail
   refine (HNU.out.run w2 (HFR.out _ _ HS2.out.2.2) k9 n9 m9 a9 us9 o9 c9 (HKW9.out _ (HFR.out _ _ HS2.out.2.2)).2 x2 v2 HS2.out.1 HS2.out.2.1).mono ?_
   rintro e w3 ⟨v3,hk,hQ⟩
   have HKM:=hid (HS2.out.2.2.trans hk)
   clear hk
   rcases hQ with ⟨x3,hx1,hx2,rfl,hPR⟩|⟨hx1,he⟩
   case inr =>
    have HF:Hid (R=none):=HR2.out.trans (by rw [hx1])
    clear hx1
    unfold zaa at he
    subst he
    go_wp2
    exact ⟨rfl,v3,HEND.out _ _ HKM.out,Or.inr ⟨HF.out,rfl⟩⟩
   have HR3:Hid (R=some x3):=HR2.out.trans (by rw [hx1])
   have HS3:=hid3 hPR hx2 HKM.out
   clear hx1 hx2 hPR z4 q0 q1 q2 q3 q4
   go_wp2
   first|go_end0|refine bodyPost_ret (results_none rfl _ _ _) rfl ?_
   exact ⟨v3,HEND.out _ _ HS3.out.2.2,Or.inl ⟨x3,HR3.out,HS3.out.2.1,rfl,HS3.out.1⟩⟩
 by_cases h3:k=3
 · subst h3
   have HP:=hid2 h hx
   obtain ⟨R,hR⟩:∃ R,defP de bo (.node 3 n m a ks) txt=R:=⟨_,rfl⟩
   rw [hR]
   have HR:Hid (R=defP de bo (.node 3 n m a ks) txt):=hR.symm
   have HMH:Hid (∀ w,Calls Tryz.prog 59 #[zaj 3 n m a (.slice o L c),.bool false,.int .i64 1,.int .i64 1] w (zb6 (zaw n false&&zan L m 1 1) w)):=fun w=>zc3 3 n m a o L c 1 1 w (by unfold maxLen at hn;omega)
   unfold zaj at HMH
   clear hn
   clear h hx hR
   obtain ⟨wa,hwa⟩:∃ x,w.alloc (.cells #[.int .i64 3,.string ⟨n.toArray⟩,.int .i64 m,.int .i64 a,.slice o L c] 29)=x:=⟨_,rfl⟩
   have HB:=hidB hwa
   have HK:Hid (wa.heap[w.heap.size]?=some (za2 3 n m a (.slice o L c))):=by show _=_;rw [<- hwa];exact heap_alloc_new _ _
   have HS:Hid (PR wa p txt d v0∧txt.length<=16000∧Lx.Kept p v0 v0 wa wa):=⟨HP.out.1.below HB.out,HP.out.2,Lx.Kept.of_below (Below.refl _ _)⟩
   have HBK:Hid (∀ v' w',Lx.Kept p v0 v' wa w'->w'.heap[w.heap.size]?=some (za2 3 n m a (.slice o L c))):=boxed HP.out.1 HK.out
   have HEND:Hid (∀ v' w',Lx.Kept p v0 v' wa w'->Lx.Kept p v0 v' w w'):=fun v' w' hk=>(Lx.Kept.of_below HB.out).trans hk
   have HFR:Hid (∀ v' w',Lx.Kept p v0 v' wa w'->za1 p w w'):=fun v' w' hk=>HP.out.1.front (HEND.out _ _ hk)
   obtain ⟨⟨z0,z1,z2,z3,z4⟩,_⟩:=zab HK.out
   unfold zaj
   have HR0:Hid (R=zkm de (.node 3 n m a ks) txt):=HR.out
   go_enter Tryz.func60,Tryz.ntmps60
   go_wp2_with fail
   refine (HMH.out _).mono ?_
   rintro e w1 ⟨hB,hq⟩
   have HKM:=hid (HS.out.2.2.trans (Lx.Kept.of_below hB))
   have HPM:=hid (HS.out.1.below hB)
   clear hB
   rcases hq with ⟨hq,rfl⟩|⟨hq,he⟩
   case inr =>
    have HF:Hid (R=none):=by
     show _=_
     rw [HR0.out];rw [zhr HL.out rfl];rw [hq];rfl
    clear hq
    unfold zaa at he
    subst he
    go_wp2
    exact ⟨rfl,v0,HEND.out _ _ HKM.out,Or.inr ⟨HF.out,rfl⟩⟩
   have HR1:Hid (R=if (ks.getD 0 zby).kind=13 then none else (layP [[116,121,112,101,100,101,102]] txt).bind (de (ks.getD 0 zby))):=by
    show _=_
    rw [HR0.out];rw [zhr HL.out rfl];rw [hq];rfl
   have HQ1:Hid ((zaw n false&&zan L m 1 1)=true):=hq
   have HS1:=hid3 HPM.out HS.out.2.1 HKM.out
   clear hq z0 z1 z2 z3 z4 hwa
   have hlen:1<=L∧L<=1:=by
    have:=HQ1.out
    unfold zan at this
    simp at this
    omega
   have HLE:=hid hlen
   obtain ⟨g,f,ho,hg,hkd⟩:=zcy HTR.out (by have:=HL.out;omega)
   subst ho
   have HKA:=hid hkd
   clear hlen hg hkd
   have hl1:(1:Int)<=(L:Int):=by have:=HLE.out;omega
   obtain ⟨k9,n9,m9,a9,us9,o9,c9,he9,hkd9⟩:=HKA.out (0) (by have:=HL.out;have:=HLE.out;omega)
   have HKE9:Hid (ks.getD (0) zby=.node k9 n9 m9 a9 us9):=he9
   have HKW9:Hid (∀ w2,za1 p w w2->KidR w2 g (f+(0)*5) k9 n9 m9 a9 (.slice o9 us9.length c9)∧TreeR p w2 (.node k9 n9 m9 a9 us9) (zaj k9 n9 m9 a9 (.slice o9 us9.length c9))):=hkd9
   clear he9 hkd9
   obtain ⟨⟨z0,z1,z2,z3,z4⟩,_⟩:=zab (HBK.out _ _ HS1.out.2.2)
   clear z0 z1 z2 z3
   obtain ⟨q0,q1,q2,q3,q4⟩:=(HKW9.out _ (HFR.out _ _ HS1.out.2.2)).1
   simp only [Nat.zero_mul,Nat.add_zero] at q0 q1 q2 q3 q4
   by_cases h13:k9=13
   case pos =>
    have j13:(k9 != 13)=false:=by simp [h13]
    have HF:Hid (R=none):=by
     show _=_
     rw [HR1.out,HKE9.out];exact if_pos h13
    clear h13
    go_wp2_with (first|(go_at_call 58;refine (zar _).mono ?_;rintro e wi ⟨rfl,hwi⟩;rw [hwi];clear hwi wi)|(go_at_call 58;refine (zak _).mono ?_;rintro e wi ⟨he,hwi⟩;rw [hwi];clear hwi;unfold zaa at he;rw [he];clear he wi))
    exact ⟨rfl,v0,HEND.out _ _ HS1.out.2.2,Or.inr ⟨HF.out,rfl⟩⟩
   have j13:(k9 != 13)=true:=by simp [h13]
   have HR9:Hid (R=(layP [[116,121,112,101,100,101,102]] txt).bind (de (.node k9 n9 m9 a9 us9))):=by show _=_;rw [HR1.out,HKE9.out];exact if_neg h13
   clear h13
   go_wp2_with (first|(go_at_call 58;refine (zar _).mono ?_;rintro e wi ⟨rfl,hwi⟩;rw [hwi];clear hwi wi)|(go_at_call 58;refine (zak _).mono ?_;rintro e wi ⟨he,hwi⟩;rw [hwi];clear hwi;unfold zaa at he;rw [he];clear he wi))
   refine (za7 p [[116,121,112,101,100,101,102]] _ rfl (by intro t ht;simp only [List.mem_cons,List.not_mem_nil,or_false] at ht;rcases ht with rfl <;> first|exact HN.out|exact HOP.out|exact HSH.out|exact ⟨by decide,by decide⟩) (by simp) 1 rfl txt d v0 w1 HS1.out.1 HS1.out.2.1).mono ?_
   rintro e w2 ⟨v2,hk,hQ⟩
   have HKM:=hid (HS1.out.2.2.trans hk)
   clear hk
   rcases hQ with ⟨x2,hx1,hx2,rfl,hPR⟩|⟨hx1,he⟩
   case inr =>
    have HF:Hid (R=none):=HR9.out.trans (by rw [hx1];rfl)
    clear hx1
    unfold zaa at he
    subst he
    go_wp2
    exact ⟨rfl,v2,HEND.out _ _ HKM.out,Or.inr ⟨HF.out,rfl⟩⟩
   have HR2:Hid (R=de (.node k9 n9 m9 a9 us9) x2):=HR9.out.trans (by rw [hx1];rfl)
   have HS2:=hid3 hPR hx2 HKM.out
   clear hx1 hx2 hPR z4 q0 q1 q2 q3 q4
   obtain ⟨⟨z0,z1,z2,z3,z4⟩,_⟩:=zab (HBK.out _ _ HS2.out.2.2)
   clear z0 z1 z2 z3
   obtain ⟨q0,q1,q2,q3,q4⟩:=(HKW9.out _ (HFR.out _ _ HS2.out.2.2)).1
   simp only [Nat.zero_mul,Nat.add_zero] at q0 q1 q2 q3 q4
   go_wp2_with fail
   refine (HDE.out.run w2 (HFR.out _ _ HS2.out.2.2) k9 n9 m9 a9 us9 o9 c9 (HKW9.out _ (HFR.out _ _ HS2.out.2.2)).2 x2 v2 HS2.out.1 HS2.out.2.1).mono ?_
   rintro e w3 ⟨v3,hk,hQ⟩
   have HKM:=hid (HS2.out.2.2.trans hk)
   clear hk
   rcases hQ with ⟨x3,hx1,hx2,rfl,hPR⟩|⟨hx1,he⟩
   case inr =>
    have HF:Hid (R=none):=HR2.out.trans (by rw [hx1])
    clear hx1
    unfold zaa at he
    subst he
    go_wp2
    exact ⟨rfl,v3,HEND.out _ _ HKM.out,Or.inr ⟨HF.out,rfl⟩⟩
   have HR3:Hid (R=some x3):=HR2.out.trans (by rw [hx1])
   have HS3:=hid3 hPR hx2 HKM.out
   clear hx1 hx2 hPR z4 q0 q1 q2 q3 q4
   go_wp2
   first|go_end0|refine bodyPost_ret (results_none rfl _ _ _) rfl ?_
   exact ⟨v3,HEND.out _ _ HS3.out.2.2,Or.inl ⟨x3,HR3.out,HS3.out.2.1,rfl,HS3.out.1⟩⟩
 by_cases h10:k=10
 · subst h10
   have HP:=hid2 h hx
   obtain ⟨R,hR⟩:∃ R,defP de bo (.node 10 n m a ks) txt=R:=⟨_,rfl⟩
   rw [hR]
   have HR:Hid (R=defP de bo (.node 10 n m a ks) txt):=hR.symm
   clear hn
   clear h hx hR
   obtain ⟨wa,hwa⟩:∃ x,w.alloc (.cells #[.int .i64 10,.string ⟨n.toArray⟩,.int .i64 m,.int .i64 a,.slice o L c] 29)=x:=⟨_,rfl⟩
   have HB:=hidB hwa
   have HK:Hid (wa.heap[w.heap.size]?=some (za2 10 n m a (.slice o L c))):=by show _=_;rw [<- hwa];exact heap_alloc_new _ _
   have HS:Hid (PR wa p txt d v0∧txt.length<=16000∧Lx.Kept p v0 v0 wa wa):=⟨HP.out.1.below HB.out,HP.out.2,Lx.Kept.of_below (Below.refl _ _)⟩
   have HBK:Hid (∀ v' w',Lx.Kept p v0 v' wa w'->w'.heap[w.heap.size]?=some (za2 10 n m a (.slice o L c))):=boxed HP.out.1 HK.out
   have HEND:Hid (∀ v' w',Lx.Kept p v0 v' wa w'->Lx.Kept p v0 v' w w'):=fun v' w' hk=>(Lx.Kept.of_below HB.out).trans hk
   have HFR:Hid (∀ v' w',Lx.Kept p v0 v' wa w'->za1 p w w'):=fun v' w' hk=>HP.out.1.front (HEND.out _ _ hk)
   obtain ⟨⟨z0,z1,z2,z3,z4⟩,_⟩:=zab HK.out
   unfold zaj
   have HR0:Hid (R=numberedP [112,114,111,103,114,97,109] versionP (.node 10 n m a ks) txt):=HR.out
   go_enter Tryz.func60,Tryz.ntmps60
   go_wp2_with fail
   refine (HNM.out wa (HFR.out _ _ HS.out.2.2) txt v0 HS.out.1 HS.out.2.1).mono ?_
   rintro e w1 ⟨v1,hk,hQ⟩
   have HKM:=hid (HS.out.2.2.trans hk)
   clear hk
   rcases hQ with ⟨x1,hx1,hx2,rfl,hPR⟩|⟨hx1,he⟩
   case inr =>
    have HF:Hid (R=none):=HR0.out.trans (by rw [hx1])
    clear hx1
    unfold zaa at he
    subst he
    go_wp2
    exact ⟨rfl,v1,HEND.out _ _ HKM.out,Or.inr ⟨HF.out,rfl⟩⟩
   have HR1:Hid (R=some x1):=HR0.out.trans (by rw [hx1])
   have HS1:=hid3 hPR hx2 HKM.out
   clear hx1 hx2 hPR 
   go_wp2
   first|go_end0|refine bodyPost_ret (results_none rfl _ _ _) rfl ?_
   exact ⟨v1,HEND.out _ _ HS1.out.2.2,Or.inl ⟨x1,HR1.out,HS1.out.2.1,rfl,HS1.out.1⟩⟩
 have j2:(k==2)=false:=by simp [h2]
 have j3:(k==3)=false:=by simp [h3]
 have j10:(k==10)=false:=by simp [h10]
 have HNEG:Hid (defP de bo (.node k n m a ks) txt=bo (.node k n m a ks) txt):=by
  show _=_
  unfold defP
  rw [if_neg (show ¬ (ITree.node k n m a ks).kind=2 from h2),if_neg (show ¬ (ITree.node k n m a ks).kind=3 from h3),if_neg (show ¬ (ITree.node k n m a ks).kind=10 from h10)]
 have HP:=hid2 h hx
 obtain ⟨R,hR⟩:∃ R,defP de bo (.node k n m a ks) txt=R:=⟨_,rfl⟩
 rw [hR]
 have HR:Hid (R=defP de bo (.node k n m a ks) txt):=hR.symm
 clear hn h2 h3 h10
 clear h hx hR
 obtain ⟨wa,hwa⟩:∃ x,w.alloc (.cells #[.int .i64 k,.string ⟨n.toArray⟩,.int .i64 m,.int .i64 a,.slice o L c] 29)=x:=⟨_,rfl⟩
 have HB:=hidB hwa
 have HK:Hid (wa.heap[w.heap.size]?=some (za2 k n m a (.slice o L c))):=by show _=_;rw [<- hwa];exact heap_alloc_new _ _
 have HS:Hid (PR wa p txt d v0∧txt.length<=16000∧Lx.Kept p v0 v0 wa wa):=⟨HP.out.1.below HB.out,HP.out.2,Lx.Kept.of_below (Below.refl _ _)⟩
 have HBK:Hid (∀ v' w',Lx.Kept p v0 v' wa w'->w'.heap[w.heap.size]?=some (za2 k n m a (.slice o L c))):=boxed HP.out.1 HK.out
 have HEND:Hid (∀ v' w',Lx.Kept p v0 v' wa w'->Lx.Kept p v0 v' w w'):=fun v' w' hk=>(Lx.Kept.of_below HB.out).trans hk
 have HFR:Hid (∀ v' w',Lx.Kept p v0 v' wa w'->za1 p w w'):=fun v' w' hk=>HP.out.1.front (HEND.out _ _ hk)
 obtain ⟨⟨z0,z1,z2,z3,z4⟩,_⟩:=zab HK.out
 unfold zaj
 have HR0:Hid (R=bo (.node k n m a ks) txt):=HR.out.trans HNEG.out
 go_enter Tryz.func60,Tryz.ntmps60
 go_wp2_with fail
 refine (HBO.out wa (HFR.out _ _ HS.out.2.2) txt v0 HS.out.1 HS.out.2.1).mono ?_
 rintro e w1 ⟨v1,hk,hQ⟩
 have HKM:=hid (HS.out.2.2.trans hk)
 clear hk
 rcases hQ with ⟨x1,hx1,hx2,rfl,hPR⟩|⟨hx1,he⟩
 case inr =>
  have HF:Hid (R=none):=HR0.out.trans (by rw [hx1])
  clear hx1
  unfold zaa at he
  subst he
  go_wp2
  exact ⟨rfl,v1,HEND.out _ _ HKM.out,Or.inr ⟨HF.out,rfl⟩⟩
 have HR1:Hid (R=some x1):=HR0.out.trans (by rw [hx1])
 have HS1:=hid3 hPR hx2 HKM.out
 clear hx1 hx2 hPR 
 go_wp2
 first|go_end0|refine bodyPost_ret (results_none rfl _ _ _) rfl ?_
 exact ⟨v1,HEND.out _ _ HS1.out.2.2,Or.inl ⟨x1,HR1.out,HS1.out.2.1,rfl,HS1.out.1⟩⟩
/-- the text of a tree, if it has one -/
def defT:ITree->List UInt8->Option (List UInt8):=defP (declT 8) (zgq 8 true)
def zeg (t:ITree):Option (List UInt8):=zdi defT t.kind t.name t.num t.kids []
theorem does_defT {p:Nat} {w0:World} (hG:zd3 w0) (h0:0<p) (hI:zey (fun m=>-9223372036854775808<=m∧m<=9223372036854775807) p w0):Does p 0 w0 60 (fun v=>#[.pointer (some ⟨p,0,none⟩),v]) defT :=
 does_def (zg4 _ hI) (does_declT hG h0 hI) (tower hG h0 hI 8 0 (by omega) (by omega)).1 (zkg [112,114,111,103,114,97,109] ⟨by decide,by decide⟩ (does_version (does_proc (does_result hG h0) (zl9 hG h0) (zg4 _ hI)) (zg4 _ hI)) (zg4 _ hI))
theorem print_whole (k:Int) (n:List UInt8) (m a:Int) (ks:List ITree) (o:Option Addr) (c:Nat) (w:World) (ht:TreeR w.heap.size w (.node k n m a ks) (zaj k n m a (.slice o ks.length c))) (hG:zd3 w)
 (hI:zey (fun m=>-9223372036854775808<=m∧m<=9223372036854775807) w.heap.size w):Calls Tryz.prog 20 #[zaj k n m a (.slice o ks.length c)] w (zen (zeg (.node k n m a ks)) w):=by
 refine zli k n m a o ks.length c _ w fun w1 p hp hB hPR=>?_
 have hfr:∀ b,b<w.heap.size->w1.heap[b]?=w.heap[b]?:=fun b hb=>hB.block b hb
 have ht1:TreeR p w1 (.node k n m a ks) (zaj k n m a (.slice o ks.length c)):=TreeR.frame hp hfr _ _ ht
 have h0:0<p:=by
  obtain ⟨t,fr,h⟩:=hG
  have:=zep h
  omega
 have hG1:zd3 w1:=hG.below hB
 have hI1:zey (fun m=>-9223372036854775808<=m∧m<=9223372036854775807) p w1:=fun m hm w2 h2=>hI m hm w2 (fun b hb=>(h2 b (by omega)).trans (hfr b hb))
 rcases (zay ht1).2.2.2 with rfl|⟨g,f,rfl,hg,hr⟩
 · exact zft p k n m a o [] c 0 0 [] 0 _ w1 hPR (by simp) (zay ht1).1 defT (fun j hj=>by simp at hj)
 · refine zft p k n m a _ ks c g f [] 0 _ w1 hPR (by simp) (zay ht1).1 defT (fun j hj=>⟨rfl,hg,?_⟩)
   obtain ⟨k1,n1,m1,a1,us,he⟩:∃ k1 n1 m1 a1 us,ks[j]=.node k1 n1 m1 a1 us:=by
    cases hk:ks[j] with
    | node k1 n1 m1 a1 us=>exact ⟨k1,n1,m1,a1,us,rfl⟩
   obtain ⟨o1,c1,h1,h2⟩:=zg1 hr j hj k1 m1 a1 n1 us he
   refine ⟨k1,n1,m1,a1,o1,us.length,c1,h1,fun w2 txt v hP hx hf=>?_⟩
   rw [he]
   exact (does_defT hG1 h0 hI1).run w2 hf k1 n1 m1 a1 us o1 c1 (TreeR.frame (Nat.le_refl _) (fun b hb=>hf b hb) _ _ h2) txt v hP hx
end Go.Proofs.YtodfklpmbclgkaaGreatDoor.Pr
namespace Go.Proofs.YtodfklpmbclgkaaGreatDoor
open Go.RowKit Go.Lib
def zl0:Tree:=.node 1 [] 0 0 [.node 2 [65] 0 6 [.node 28 [] 16 10 []]]
def exNum:ITree:=.node 28 [] 16 10 []
def exKid:ITree:=.node 2 [65] 0 6 [exNum]
def exI:ITree:=.node 1 [] 0 0 [exKid]
theorem ex_toI:zl0.toI=exI:=by kernel_rfl
theorem parse_ex:zch [99,111,110,115,116,32,65,32,61,32,48,120,49,48,59]=.ok zl0:=by kernel_rfl
theorem parse_ex2:zch [116,121,112,101,100,101,102,32,118,111,105,100,59]=.err 40 8:=by kernel_rfl
theorem ex_ok:zdv zl0:=by
 unfold zl0
 simp [zdv,zd0,maxLen]
/-- the example's tree as it lies -/
structure ExAt (w:World) (g c g1 c1:Nat) (o2:Option Addr) (c2:Nat):Prop where
 top:TreeR w.heap.size w exI (zaj 1 [] 0 0 (.slice (some ⟨g,0,none⟩) 1 c))
 one:TreeR w.heap.size w exKid (zaj 2 [65] 0 6 (.slice (some ⟨g1,0,none⟩) 1 c1))
 kid:KidR w g 0 2 [65] 0 6 (.slice (some ⟨g1,0,none⟩) 1 c1)
 num:KidR w g1 0 28 [] 16 10 (.slice o2 0 c2)
 lt:g<w.heap.size
 lt1:g1<w.heap.size
theorem ExAt.below {w w' : World} {g c g1 c1:Nat} {o2:Option Addr} {c2:Nat} (h:ExAt w g c g1 c1 o2 c2) (hB:Below w.heap.size w w'):ExAt w' g c g1 c1 o2 c2 :=
 ⟨h.top.frame hB.size hB.block,h.one.frame hB.size hB.block,h.kid.frame (hB.block g h.lt),h.num.frame (hB.block g1 h.lt1),Nat.lt_of_lt_of_le h.lt hB.size,Nat.lt_of_lt_of_le h.lt1 hB.size⟩
theorem ex_at {B:Nat} {w:World} {v:Value} (h:zal B zl0 w v):∃ g c g1 c1 o2 c2,v=zaj 1 [] 0 0 (.slice (some ⟨g,0,none⟩) 1 c)∧ExAt w g c g1 c1 o2 c2:=by
 have ht:=zam.toR zl0 v ex_ok h
 rw [ex_toI] at ht
 have ht0:=ht
 unfold exI at ht
 rw [treeR_node] at ht
 obtain ⟨o,c,rfl,_,_,_,_,h6⟩:=ht
 rcases h6 with h6|⟨g,rfl,hg,hr⟩
 · cases h6
 obtain ⟨o1,c1,hk,hk2⟩:=zg1 hr 0 (by simp) 2 0 6 [65] [exNum] rfl
 have hk3:=hk2
 rw [treeR_node] at hk2
 obtain ⟨o1',c1',he,_,_,_,_,h7⟩:=hk2
 unfold zaj at he
 have he:=congrArg (fun v=>match v with|Value.agg l=>l.toList|_=>[]) he
 simp at he
 obtain ⟨rfl,rfl⟩:=he
 rcases h7 with h7|⟨g1,rfl,hg1,hr1⟩
 · cases h7
 obtain ⟨o2,c2,hk4,_⟩:=zg1 hr1 0 (by simp) 28 16 10 [] [] rfl
 exact ⟨g,c,g1,c1,o2,c2,rfl,ht0,hk3,hk,hk4,hg,hg1⟩
theorem ex_same {w:World} {g c g1 c1:Nat} {o2:Option Addr} {c2:Nat} (h:ExAt w g c g1 c1 o2 c2):Calls Tryz.prog 23 #[zaj 1 [] 0 0 (.slice (some ⟨g,0,none⟩) 1 c),zaj 1 [] 0 0 (.slice (some ⟨g,0,none⟩) 1 c)] w (fun e w'=>e=.returned (.bool true)∧Below w.heap.size w w') :=
 ze1 _ exI exI (Nat.le_refl _) _ _ w _ _ h.top h.top (Nat.le_refl _) (Nat.le_refl _)
theorem ex_other {w:World} {g c g1 c1:Nat} {o2:Option Addr} {c2:Nat} (h:ExAt w g c g1 c1 o2 c2):Calls Tryz.prog 23 #[zaj 1 [] 0 0 (.slice (some ⟨g,0,none⟩) 1 c),zaj 2 [65] 0 6 (.slice (some ⟨g1,0,none⟩) 1 c1)] w (fun e w'=>e=.returned (.bool false)∧Below w.heap.size w w') :=
 ze1 _ exI exKid (Nat.le_refl _) _ _ w _ _ h.top h.one (Nat.le_refl _) (Nat.le_refl _)
theorem itoa16:itoa 16=[49,54]:=by
 rw [show (16:Int)=((16:Nat):Int) from rfl,itoa_nonneg,decDigits_two (by decide) (by decide)]
 rfl
theorem itoa_small16 (w:World):Calls Tryz.prog 130 #[.int .i64 16] w fun e w'=>e=.returned (.string ⟨(itoa 16).toArray⟩)∧Below w.heap.size w w':=by
 refine (Tryz.strconv_Itoa_small 16 (by decide) w).mono ?_
 rintro e w' ⟨rfl,rfl⟩
 refine ⟨?_,Below.refl _ _⟩
 rw [show (16:Int)=((16:Nat):Int) from rfl,itoa_nonneg]
theorem ex_text:zdi (fun _=>zib [65] 0 1 28 [] 16 0) 1 [] 0 [exKid] []=some [99,111,110,115,116,32,65,61,49,54,59]:=by
 unfold zdi zg5 zib zgj
 rw [itoa16]
 kernel_rfl
theorem ex_print {w:World} {g c g1 c1:Nat} {o2:Option Addr} {c2:Nat} (h:ExAt w g c g1 c1 o2 c2):Calls Tryz.prog 20 #[zaj 1 [] 0 0 (.slice (some ⟨g,0,none⟩) 1 c)] w (zen (some [99,111,110,115,116,32,65,61,49,54,59]) w):=by
 refine zli 1 [] 0 0 (some ⟨g,0,none⟩) 1 c _ w (fun w1 p hp hB hP=>?_)
 have h1:=h.below hB
 have hlt:=h.lt
 have hlt1:=h.lt1
 have hx:=zft p 1 [] 0 0 (some ⟨g,0,none⟩) [exKid] c g [] 0 (.slice none 0 0) w1 hP (by simp) (by simp) (fun _=>zib [65] 0 1 28 [] 16 0) (fun j hj=>by
  have hj:j=0:=by simp at hj;omega
  subst hj
  refine ⟨rfl,by omega,2,[65],0,6,_,_,_,h1.kid,fun w2 txt v hPv hx hf=>?_⟩
  exact pconst_any p [65] 0 6 (some ⟨g1,0,none⟩) 1 c1 g1 28 [] 16 10 o2 0 c2 txt 0 v w2 hPv hx (by simp [maxLen]) (by decide) (by decide) (fun m=>m=16) rfl (by
   rintro m rfl w3 _
   exact itoa_small16 w3) (fun _=>⟨rfl,by omega,h1.num.frame (hf g1 (by omega))⟩))
 rw [ex_text] at hx
 exact hx
theorem none_print (w:World):Calls Tryz.prog 20 #[zaj 99 [] 0 0 (.slice none 0 0)] w (zen none w):=by
 refine zli 99 [] 0 0 none 0 0 _ w (fun w1 p hp hB hP=>?_)
 exact zft p 99 [] 0 0 none [] 0 0 [] 0 (.slice none 0 0) w1 hP (by simp) (by simp) (fun _ _=>none) (fun j hj=>by simp at hj)
end Go.Proofs.YtodfklpmbclgkaaGreatDoor
namespace Go.Proofs.YtodfklpmbclgkaaGreatDoor
open Go.RowKit
theorem pair0 (a b:Value) (w:World):(Instr.extract (.tuple #[a,b]) 0).run Tryz.prog w=.ok a w:=rfl
theorem pair1 (a b:Value) (w:World):(Instr.extract (.tuple #[a,b]) 1).run Tryz.prog w=.ok b w:=rfl
theorem bld99 (w:World):(Instr.build 29 #[(0,.int .i64 99)]).run Tryz.prog w=.ok (.agg #[.int .i64 99,.string ⟨#[]⟩,.int .i64 0,.int .i64 0,.slice none 0 0]) w:=by kernel_rfl
set_option maxHeartbeats 2000000 in
set_option maxRecDepth 4000 in
theorem awake_any (w:World) (hG:zd3 w):Calls Tryz.prog 10 #[] w (fun e w'=>e=.returned (.bool true)∧Below w.heap.size w w'):=by
 have HG:=hid hG
 have HP1:Hid (Calls Tryz.prog 11 #[.string ⟨[99,111,110,115,116,32,65,32,61,32,48,120,49,48,59].toArray⟩] w (zb7 (.ok zl0) w)):=by
  have hp:=zcx [99,111,110,115,116,32,65,32,61,32,48,120,49,48,59] w hG
  rw [parse_ex] at hp
  exact hp
 clear hG
 have x0:=ext0
 have x1:=ext1
 have x2:=ext2
 have y0:=pair0
 have y1:=pair1
 have qb:=bld99
 go_enter Tryz.func10,Tryz.ntmps10
 go_wp2_with fail
 refine HP1.out.mono ?_
 rintro e w1 ⟨v,rfl,hT,hB1⟩
 obtain ⟨g,c,g1,c1,o2,c2,rfl,hex⟩:=ex_at hT
 have HB1:=hid hB1
 obtain ⟨wb,hwb⟩:∃ x,w1.alloc (.cells #[.int .i64 1,.string ⟨#[]⟩,.int .i64 0,.int .i64 0,.slice (some ⟨g,0,none⟩) 1 c] 29)=x:=⟨_,rfl⟩
 have hbb:Below w1.heap.size w1 wb:=by rw [<- hwb];exact zad _ _
 have HEX:=hid (hex.below hbb)
 have HBB:=hid (hB1.trans (hbb.mono hB1.size))
 have HKB:Hid (wb.heap[w1.heap.size]?=some (za2 1 [] 0 0 (.slice (some ⟨g,0,none⟩) 1 c))):=by show _=_;rw [<- hwb];exact heap_alloc_new _ _
 obtain ⟨⟨z0,z1,z2,z3,z4⟩,_⟩:=zab HKB.out
 clear hT hB1 hex hbb
 unfold zaj
 go_wp2_with fail
 refine (ex_print HEX.out).mono ?_
 rintro e w2 ⟨rfl,hB2⟩
 clear hwb z0 z1 z2 z3 z4
 have HB2:=hid hB2
 have HBW2:=hid (HBB.out.trans (hB2.mono HBB.out.size))
 have HP2:Hid (Calls Tryz.prog 11 #[.string ⟨[116,121,112,101,100,101,102,32,118,111,105,100,59].toArray⟩] w2 (zb7 (.err 40 8) w2)):=by
  have hp:=zcx [116,121,112,101,100,101,102,32,118,111,105,100,59] w2 (HG.out.below HBW2.out)
  rw [parse_ex2] at hp
  exact hp
 clear hB2
 go_wp2_with fail
 refine HP2.out.mono ?_
 rintro e w3 ⟨rfl,hB3⟩
 have HB3:=hid (HB2.out.trans (hB3.mono HB2.out.size))
 clear hB3
 unfold kidV
 go_wp2_with fail
 refine (none_print _).mono ?_
 rintro e w4 ⟨rfl,hB4⟩
 have HB4:Hid (Below wb.heap.size wb w4):=by
  have hb:=HB3.out.alloc HB3.out.size (.cells #[.int .i64 0,.string ⟨#[]⟩,.int .i64 0,.int .i64 0,.slice none 0 0] 29)
  exact hb.trans (hB4.mono hb.size)
 clear hB4
 have HS:Hid (∀ wx,Below wb.heap.size wb wx->(wx.cell? ⟨w1.heap.size,0,none⟩=some (.int .i64 1)∧wx.cell? ⟨w1.heap.size,1,none⟩=some (.string ⟨#[]⟩)∧wx.cell? ⟨w1.heap.size,2,none⟩=some (.int .i64 0)∧wx.cell? ⟨w1.heap.size,3,none⟩=some (.int .i64 0)∧wx.cell? ⟨w1.heap.size,4,none⟩=some (.slice (some ⟨g,0,none⟩) 1 c)∧wx.cell? ⟨g,0,none⟩=some (.int .i64 2)∧wx.cell? ⟨g,1,none⟩=some (.string ⟨#[65]⟩)∧wx.cell? ⟨g,2,none⟩=some (.int .i64 0)∧wx.cell? ⟨g,3,none⟩=some (.int .i64 6)∧wx.cell? ⟨g,4,none⟩=some (.slice (some ⟨g1,0,none⟩) 1 c1))):=by
  show ∀ wx,_
  intro wx hb
  obtain ⟨⟨z0,z1,z2,z3,z4⟩,_⟩:=zab (za8 hb HKB.out)
  have he:=HEX.out.below hb
  exact ⟨z0,z1,z2,z3,z4,he.kid.c0,he.kid.c1,he.kid.c2,he.kid.c3,he.kid.c4⟩
 have s0:=HS.out w4 HB4.out
 have s1:∀ i,((w4.drewN i).cell? ⟨w1.heap.size,0,none⟩=some (.int .i64 1)∧(w4.drewN i).cell? ⟨w1.heap.size,1,none⟩=some (.string ⟨#[]⟩)∧(w4.drewN i).cell? ⟨w1.heap.size,2,none⟩=some (.int .i64 0)∧(w4.drewN i).cell? ⟨w1.heap.size,3,none⟩=some (.int .i64 0)∧(w4.drewN i).cell? ⟨w1.heap.size,4,none⟩=some (.slice (some ⟨g,0,none⟩) 1 c)∧(w4.drewN i).cell? ⟨g,0,none⟩=some (.int .i64 2)∧(w4.drewN i).cell? ⟨g,1,none⟩=some (.string ⟨#[65]⟩)∧(w4.drewN i).cell? ⟨g,2,none⟩=some (.int .i64 0)∧(w4.drewN i).cell? ⟨g,3,none⟩=some (.int .i64 6)∧(w4.drewN i).cell? ⟨g,4,none⟩=some (.slice (some ⟨g1,0,none⟩) 1 c1)):=fun _=>s0
 obtain ⟨z0,z1,z2,z3,z4,k0,k1,k2,k3,k4⟩:=s0
 have n2:w4.cell? ⟨g1,2,none⟩=some (.int .i64 16):=(HEX.out.below HB4.out).num.c2
 go_wp2_with fail
 have s0:=HS.out w4 HB4.out
 clear z0 z1 z2 z3 z4 k0 k1 k2 k3 k4 n2
 go_region_held (fun w'=>(w'.cell? ⟨w1.heap.size,0,none⟩=some (.int .i64 1)∧w'.cell? ⟨w1.heap.size,1,none⟩=some (.string ⟨#[]⟩)∧w'.cell? ⟨w1.heap.size,2,none⟩=some (.int .i64 0)∧w'.cell? ⟨w1.heap.size,3,none⟩=some (.int .i64 0)∧w'.cell? ⟨w1.heap.size,4,none⟩=some (.slice (some ⟨g,0,none⟩) 1 c)∧w'.cell? ⟨g,0,none⟩=some (.int .i64 2)∧w'.cell? ⟨g,1,none⟩=some (.string ⟨#[65]⟩)∧w'.cell? ⟨g,2,none⟩=some (.int .i64 0)∧w'.cell? ⟨g,3,none⟩=some (.int .i64 6)∧w'.cell? ⟨g,4,none⟩=some (.slice (some ⟨g1,0,none⟩) 1 c1))) (first|with_reducible exact s0|with_reducible exact s1 _|with_reducible exact s5|with_reducible exact s6|with_reducible exact s7|exact s0) (first
  | (go_at_call_of 23 (Value.slice (some (Addr.mk g1 0 none)) 1 c1)
     refine (ex_other (g:=g) (c:=c) (g1:=g1) (c1:=c1) (o2:=o2) (c2:=c2) ?_).mono ?_
     exact HEX.out.below HB5.out
     rintro e w6 ⟨rfl,hB0⟩
     have HB6:=hid (HB5.out.trans (hB0.mono HB5.out.size))
     have s6:=HS.out w6 HB6.out
     clear hB0)
  | (go_at_call 23
     refine (ex_same (g:=g) (c:=c) (g1:=g1) (c1:=c1) (o2:=o2) (c2:=c2) ?_).mono ?_
     exact HEX.out.below (zd8 HB4.out _)
     rintro e w5 ⟨rfl,hB0⟩
     have HB5:=hid ((zd8 HB4.out _).trans (hB0.mono (zd8 HB4.out _).size))
     have s5:=HS.out w5 HB5.out
     clear hB0))
 go_wp2
 go_ret
 exact ⟨rfl,HBB.out.trans (HB6.out.mono HBB.out.size)⟩
def addP (n m:Nat):Nat:=if n+m<=2147483647 then n+m else 2147483648
theorem zmj (n m:Nat):addP n m<=2147483648:=by unfold addP;split <;> omega
theorem zmk (n m:Nat) (hn:n<=9223372036854775807) (hm:m<=9223372036854775807) (w:World):Calls Tryz.prog 9 #[.int .i64 n,.int .i64 m] w fun e w'=>e=.returned (.int .i64 (addP n m))∧w'=w:=by
 have h1:(n:Int)<=9223372036854775807:=by omega
 have h2:(m:Int)<=9223372036854775807:=by omega
 by_cases h:n+m<=2147483647
 · have e:addP n m=n+m:=if_pos h
   rw [e]
   have h3:¬ (m:Int) > 2147483647 - (n:Int):=by omega
   have h4:decide ((2147483647 - (n:Int))<(m:Int))=false:=by simp;omega
   have h5:(n:Int)+(m:Int)<=2147483647:=by omega
   go_enter Tryz.func9,Tryz.ntmps9
   go_wp2
   go_ret
   exact ⟨rfl,rfl⟩
 · have e:addP n m=2147483648:=if_neg h
   rw [e]
   have h4:decide ((2147483647 - (n:Int))<(m:Int))=true:=by simp;omega
   have h3:(2147483647 - (n:Int))<(m:Int):=by omega
   go_enter Tryz.func9,Tryz.ntmps9
   go_wp2
   go_ret
   exact ⟨rfl,rfl⟩
def zh9 (n:Nat):Nat:=addP n (addP n n)
theorem thrice_le (n:Nat):zh9 n<=2147483648:=zmj _ _
theorem zm4 (n:Nat) (hn:n<=9223372036854775807) (w:World):Calls Tryz.prog 8 #[.int .i64 n] w fun e w'=>e=.returned (.int .i64 (zh9 n))∧w'=w:=by
 have h1:(n:Int)<=9223372036854775807:=by omega
 have H1:Hid (∀ w,Calls Tryz.prog 9 #[.int .i64 n,.int .i64 n] w fun e w'=>e=.returned (.int .i64 (addP n n))∧w'=w):=fun w=>zmk n n hn hn w
 have H2:Hid (∀ w,Calls Tryz.prog 9 #[.int .i64 n,.int .i64 (addP n n:Nat)] w fun e w'=>e=.returned (.int .i64 (zh9 n))∧w'=w):=fun w=>zmk n _ hn (by have:=zmj n n;omega) w
 generalize addP n n=y at *
 go_enter Tryz.func8,Tryz.ntmps8
 go_wp2_with fail
 refine (H1.out _).mono ?_
 rintro e w1 ⟨rfl,hw⟩
 rw [hw]
 clear hw
 go_wp2_with fail
 refine (H2.out _).mono ?_
 rintro e w2 ⟨rfl,hw⟩
 rw [hw]
 clear hw
 go_wp2
 go_ret
 exact ⟨rfl,rfl⟩
theorem tok_place {w:World} {base g cap:Nat} {ts:List Tok} (ho:w.ownsRow base 41 4 (.slice (some ⟨g,0,none⟩) ts.length cap) ts.length (Lx.tokCells ts)) (j:Nat) (hj:j<ts.length):w.cell? ⟨g,j*4+3,none⟩=some (.int .i64 (ts[j]).at_):=by
 rw [ho.cellAt _ (by omega)]
 exact (ze5 ts j hj).2.2.2
end Go.Proofs.YtodfklpmbclgkaaGreatDoor
namespace Go.Proofs.YtodfklpmbclgkaaGreatDoor.Pr
open Go.RowKit Go.Lib
def zim (f:ITree->Nat):List ITree->Nat->Nat
 | [],acc=>acc
 | t::ts,acc=>if acc<=2147483647 then zim f ts (addP acc (f t)) else acc
def zin:Nat->ITree->Nat
 | 0,_=>2147483648
 | f+1,t=>zim (zin f) t.kids (addP t.name.length 500)
theorem sizes_le (f:ITree->Nat):(ts:List ITree)->(acc:Nat)->acc<=2147483648->zim f ts acc<=2147483648
 | [],acc,h=>h
 | t::ts,acc,h=>by
  rw [zim]
  split
  · exact sizes_le f ts _ (zmj _ _)
  · exact h
theorem size_le:(f:Nat)->(t:ITree)->zin f t<=2147483648
 | 0,_=>by rw [zin];omega
 | f+1,t=>by rw [zin];exact sizes_le _ _ _ (zmj _ _)
theorem sizes_more (f:ITree->Nat):(ts:List ITree)->(acc:Nat)->¬ acc<=2147483647->zim f ts acc=acc
 | [],acc,_=>rfl
 | t::ts,acc,h=>by rw [zim,if_neg h]
theorem add_500 (n:Nat) (hn:n<=9223372036854775807) (w:World):Calls Tryz.prog 9 #[.int .i64 n,.int .i64 500] w fun e w'=>e=.returned (.int .i64 (addP n 500))∧w'=w:=by
 obtain ⟨m,hm⟩:∃ m:Nat,m=500:=⟨_,rfl⟩
 have h:=zmk n m hn (by omega) w
 have h2:(500:Int)=(m:Int):=by omega
 rw [h2,<- hm]
 exact h
set_option maxHeartbeats 2000000 in
set_option maxRecDepth 4000 in
theorem size_deep (deep:Nat) (hd:deep=65536) (w:World) (k:Int) (n:List UInt8) (m a:Int) (ks:List ITree) (o:Option Addr) (c:Nat) :
 Calls Tryz.prog 18 #[zaj k n m a (.slice o ks.length c),.int .i64 deep] w (fun e w'=>e=.returned (.int .i64 2147483648)∧Below w.heap.size w w'):=by
 have hd1:(deep:Int) ≥ 65536:=by omega
 clear hd
 obtain ⟨wa,hwa⟩:∃ x,w.alloc (.cells #[.int .i64 k,.string ⟨n.toArray⟩,.int .i64 m,.int .i64 a,.slice o ks.length c] 29)=x:=⟨_,rfl⟩
 have HB:=hidB hwa
 unfold zaj
 go_enter Tryz.func18,Tryz.ntmps18
 go_wp2
 go_ret
 exact ⟨rfl,HB.out⟩
set_option maxHeartbeats 2000000 in
set_option maxRecDepth 4000 in
theorem size_core (f deep:Nat) (hd:deep<65536) (hih:∀ (B:Nat) (w:World) (k:Int) (n:List UInt8) (m a:Int) (ks:List ITree) (o:Option Addr) (c:Nat),TreeR B w (.node k n m a ks) (zaj k n m a (.slice o ks.length c))->B<=w.heap.size->Calls Tryz.prog 18 #[zaj k n m a (.slice o ks.length c),.int .i64 ((deep:Int)+1)] w (fun e w'=>e=.returned (.int .i64 (zin f (.node k n m a ks)))∧Below w.heap.size w w')) (B:Nat) (w:World) (k:Int) (n:List UInt8) (m a:Int) (ks:List ITree) (o:Option Addr) (c:Nat) (ht:TreeR B w (.node k n m a ks) (zaj k n m a (.slice o ks.length c))) (hB:B<=w.heap.size) :
 Calls Tryz.prog 18 #[zaj k n m a (.slice o ks.length c),.int .i64 deep] w (fun e w'=>e=.returned (.int .i64 (zin (f+1) (.node k n m a ks)))∧Below w.heap.size w w'):=by
 have hdl:(deep:Int)<65536:=by omega
 have hdn:¬ (deep:Int) ≥ 65536:=by omega
 have hd0:(0:Int)<=(deep:Int):=by omega
 have HIH:=hid hih
 clear hih
 have HTF:=zay ht
 have HN:Hid (n.length<=9223372036854775807):=Nat.le_trans HTF.1 (by decide)
 have HLC:Hid (ks.length<=9223372036854775807):=Nat.le_trans (Nat.le_trans HTF.2.2.1.1 HTF.2.2.1.2) (by decide)
 have HKID:Hid (∀ w2,(∀ b,b<B->w2.heap[b]?=w.heap[b]?)->∀ j,j<ks.length->∃ g f,o=some ⟨g,f,none⟩∧∃ k1 n1 m1 a1 us o1 c1,ks.getD j zby=.node k1 n1 m1 a1 us∧KidR w2 g (f+j*5) k1 n1 m1 a1 (.slice o1 us.length c1)∧TreeR B w2 (.node k1 n1 m1 a1 us) (zaj k1 n1 m1 a1 (.slice o1 us.length c1))):=fun w2 h2 j hj=>by
  obtain ⟨g,f,ho,hg,hk⟩:=zlr ht (by omega)
  obtain ⟨k1,n1,m1,a1,us,o1,c1,h3,h4⟩:=hk j hj
  exact ⟨g,f,ho,k1,n1,m1,a1,us,o1,c1,h3,(h4 w2 h2).1,(h4 w2 h2).2⟩
 have HBS:=hid hB
 clear ht hB HTF hd
 obtain ⟨R,hR⟩:∃ R,zin (f+1) (.node k n m a ks)=R:=⟨_,rfl⟩
 rw [hR]
 have HR:=hid hR.symm
 obtain ⟨L,hL⟩:∃ L,ks.length=L:=⟨_,rfl⟩
 have HL:=hid hL
 rw [hL] at HLC ⊢
 obtain ⟨wa,hwa⟩:∃ x,w.alloc (.cells #[.int .i64 k,.string ⟨n.toArray⟩,.int .i64 m,.int .i64 a,.slice o L c] 29)=x:=⟨_,rfl⟩
 have HB:=hidB hwa
 have HK:Hid (wa.heap[w.heap.size]?=some (za2 k n m a (.slice o L c))):=by show _=_;rw [<- hwa];exact heap_alloc_new _ _
 obtain ⟨⟨z0,z1,z2,z3,z4⟩,_⟩:=zab HK.out
 have hnl:((n.length:Nat):Int)<=9223372036854775807:=by have:=HN.out;omega
 unfold zaj
 clear hR hL
 go_enter Tryz.func18,Tryz.ntmps18
 go_wp2_with (go_at_call 9;refine (add_500 n.length HN.out _).mono ?_;rintro e wi ⟨rfl,hwi⟩;rw [hwi];clear hwi wi)
 clear z0 z1 z2 z3 z4 hwa hnl
 go_loopw [5,6] (fun s i wr=>∃ (q acc:Nat),i=.int .i64 q∧s=.int .i64 acc∧q<=L∧acc<=2147483648∧Hid (Below wa.heap.size wa wr)∧Hid (R=zim (zin f) (ks.drop q) acc)) (fun _ i _=>L - (RowKit.intOf i).toNat)
 case atStart=>exact ⟨0,_,rfl,rfl,by omega,zmj _ _,Below.refl _ _,HR⟩
 case round =>
  obtain ⟨q,acc,rfl,rfl,hq,hacc,HBW,HRQ⟩:=hrel
  obtain ⟨⟨z0,z1,z2,z3,z4⟩,_⟩:=zab (za8 HBW.out HK.out)
  by_cases hlt:q<L
  · have hlt' : (q:Int)<L:=by omega
    have jlt:decide ((q:Int)<(L:Int))=true:=by simp;omega
    have HQL:=hid hlt
    by_cases hac:acc<=2147483647
    · have jac:decide ((acc:Int)<=2147483647)=true:=by simp;omega
      have hac' : (acc:Int)<=2147483647:=by omega
      have hq0:(0:Int)<=(q:Int):=by omega
      have hqm:(q:Int)<=9223372036854775806:=by have:=HLC.out;omega
      obtain ⟨g,f2,ho,k1,n1,m1,a1,us,o1,c1,he,hkr,htr⟩:=HKID.out wr (fun b hb=>(HBW.out.block b (Nat.lt_of_lt_of_le hb (Nat.le_trans HBS.out HB.out.size))).trans (HB.out.block b (Nat.lt_of_lt_of_le hb HBS.out))) q (by have:=HL.out;omega)
      subst ho
      have HST:Hid (R=zim (zin f) (ks.drop (q+1)) (addP acc (zin f (.node k1 n1 m1 a1 us)))):=by
       show _=_
       rw [HRQ.out,zdl (by have:=HL.out;omega),he,zim,if_pos hac]
      have HTR:=hid htr
      obtain ⟨a0,b0,c0,d0,e0⟩:=hkr
      have HSL:Hid (zin f (.node k1 n1 m1 a1 us)<=2147483648):=size_le _ _
      have HAC:=hid hac
      clear he htr hlt hac HRQ
      go_wp2_with fail
      refine (HIH.out B wr k1 n1 m1 a1 us o1 c1 HTR.out (Nat.le_trans HBS.out (Nat.le_trans HB.out.size HBW.out.size))).mono ?_
      rintro e w2 ⟨rfl,hB2⟩
      have HB2:=hid (HBW.out.trans (hB2.mono HBW.out.size))
      clear hB2 a0 b0 c0 d0 e0
      generalize zin f (.node k1 n1 m1 a1 us)=S at HST HSL ⊢
      go_wp2_with (go_at_call 9;refine (zmk acc S (by have:=HAC.out;omega) (by have:=HSL.out;omega) _).mono ?_;rintro e wi ⟨rfl,hwi⟩;rw [hwi];clear hwi wi)
      go_roundw
      case rel=>exact ⟨q+1,_,by go_num,rfl,HQL.out,zmj _ _,HB2,HST⟩
      case measure=>have:=HQL.out;simp [RowKit.intOf];omega
    · have jac:decide ((acc:Int)<=2147483647)=false:=by simp;omega
      have hac' : ¬ (acc:Int)<=2147483647:=by omega
      have HE:Hid (R=acc):=by show _=_;rw [HRQ.out];exact sizes_more _ _ _ hac
      clear HRQ hlt hac
      go_wp2
      go_ret
      exact ⟨by rw [HE.out];rfl,HB.out.trans (HBW.out.mono HB.out.size)⟩
  · have hqe:q=L:=by omega
    subst hqe
    have hlt' : ¬ (q:Int)<q:=by omega
    have HE:Hid (R=acc):=by show _=_;rw [HRQ.out,List.drop_of_length_le (by have:=HL.out;omega)];rfl
    clear HRQ hlt
    go_wp2
    go_ret
    exact ⟨by rw [HE.out];rfl,HB.out.trans (HBW.out.mono HB.out.size)⟩
theorem size_any:(f deep:Nat)->deep+f=65536->∀ (B:Nat) (w:World) (k:Int) (n:List UInt8) (m a:Int) (ks:List ITree) (o:Option Addr) (c:Nat),TreeR B w (.node k n m a ks) (zaj k n m a (.slice o ks.length c))->B<=w.heap.size ->
 Calls Tryz.prog 18 #[zaj k n m a (.slice o ks.length c),.int .i64 deep] w (fun e w'=>e=.returned (.int .i64 (zin f (.node k n m a ks)))∧Below w.heap.size w w')
 | 0,deep,hd,B,w,k,n,m,a,ks,o,c,_,_=>size_deep deep (by omega) w k n m a ks o c
 | f+1,deep,hd,B,w,k,n,m,a,ks,o,c,ht,hB=>size_core f deep (by omega) (fun B w k n m a ks o c h1 h2=>size_any f (deep+1) (by omega) B w k n m a ks o c h1 h2) B w k n m a ks o c ht hB
end Go.Proofs.YtodfklpmbclgkaaGreatDoor.Pr
namespace Go.Proofs.YtodfklpmbclgkaaGreatDoor.Pr
open Go.RowKit Go.Lib Go.Sort
theorem globT:Tryz.prog.globalNamed "internal/strconv.uint64pow10" = some 1:=by kernel_rfl
theorem below_grow (w:World) (os:Array Obj):Below w.heap.size w (grow w os) :=
 ⟨rfl,rfl,rfl,by simp [grow],fun b hb=>by simp [grow,Array.getElem?_append_left hb]⟩
theorem tab_front {p:Nat} {w w' : World} {k:IntKind} {zs:List Int} (h:Lib.TabIs Tryz.prog w "internal/strconv.uint64pow10" k zs) (hp:1<p) (hf:za1 p w w'):Lib.TabIs Tryz.prog w' "internal/strconv.uint64pow10" k zs:=by
 unfold Lib.TabIs World.var? at h ⊢
 rw [globT] at h ⊢
 simp only [Option.bind_some] at h ⊢
 rw [hf 1 hp]
 exact h
theorem itoa_all {p:Nat} {w:World} (h:Lib.TabIs Tryz.prog w "internal/strconv.uint64pow10" .u64 Lib.pow10Tab) (hp:1<p):zey (fun m=>-9223372036854775808<=m∧m<=9223372036854775807) p w:=fun m hm w1 hf =>
 (Tryz.strconv_Itoa m hm.1 hm.2 w1 (tab_front h hp hf)).mono fun _ w' ⟨he,k,os,hw⟩=>⟨he,by
   rw [hw]
   have h1:Below w1.heap.size w1 (w1.drewN k):=zax (Below.refl _ _) k
   exact h1.trans (below_grow (w1.drewN k) os)⟩
/-- what the laws lean on: the list of bare types, the table of powers -/
def Base (w:World):Prop:=zd3 w∧Lib.TabIs Tryz.prog w "internal/strconv.uint64pow10" .u64 Lib.pow10Tab
theorem tab_lt {w:World} {k:IntKind} {zs:List Int} (h:Lib.TabIs Tryz.prog w "internal/strconv.uint64pow10" k zs):1<w.heap.size:=by
 unfold Lib.TabIs World.var? at h
 rw [globT] at h
 simp only [Option.bind_some] at h
 rcases Nat.lt_or_ge 1 w.heap.size with h1|h1
 · exact h1
 · rw [Array.getElem?_eq_none h1] at h
   cases h
theorem Base.after {B:Nat} {w w' : World} (h:Base w) (hs:w.heap.size=B) (hB:Below B w w'):Base w':=by
 subst hs
 exact ⟨h.1.below hB,tab_front h.2 (tab_lt h.2) (fun b hb=>hB.block b hb)⟩
theorem zgi (k:Int) (n:List UInt8) (m a:Int) (ks:List ITree) (o:Option Addr) (c:Nat) (w:World) (B:Nat) (hBw:B<=w.heap.size) (ht:TreeR B w (.node k n m a ks) (zaj k n m a (.slice o ks.length c))) (hG:Base w) :
 Calls Tryz.prog 20 #[zaj k n m a (.slice o ks.length c)] w (zen (zeg (.node k n m a ks)) w) :=
 print_whole k n m a ks o c w (TreeR.frame hBw (fun _ _=>rfl) _ _ ht) hG.1 (itoa_all hG.2 (tab_lt hG.2))
end Go.Proofs.YtodfklpmbclgkaaGreatDoor.Pr
namespace Go.Proofs.YtodfklpmbclgkaaGreatDoor.Pr
open Go.RowKit
set_option maxHeartbeats 2000000 in
set_option maxRecDepth 4000 in
theorem zld (k:Int) (n:List UInt8) (m a:Int) (o:Option Addr) (L c:Nat) (k' : Int) (n' : List UInt8) (m' a' : Int) (o' : Option Addr) (L' c' : Nat) (w:World) (hL:L<=maxLen) (sm:Nat->Bool)
 (hkid:∀ j,j<L->L=L'->∃ g f g' f',o=some ⟨g,f,none⟩∧o'=some ⟨g',f',none⟩∧∃ k1 n1 m1 a1 sl1 k2 n2 m2 a2 sl2,∀ w1,Below w.heap.size w w1->KidR w1 g (f+j*5) k1 n1 m1 a1 sl1∧KidR w1 g' (f'+j*5) k2 n2 m2 a2 sl2∧Calls Tryz.prog 23 #[zaj k1 n1 m1 a1 sl1,zaj k2 n2 m2 a2 sl2] w1 (fun e w'=>e=.returned (.bool (sm j))∧Below w1.heap.size w1 w')) :
 Calls Tryz.prog 23 #[zaj k n m a (.slice o L c),zaj k' n' m' a' (.slice o' L' c')] w (fun e w'=>e=.returned (.bool (zbo k k' n n' m m' L L'&&(List.range L).all sm))∧Below w.heap.size w w'):=by
 have HKID:=hid hkid
 clear hkid
 have HLM:Hid (L<=9223372036854775807):=by unfold maxLen at hL;show L<=_;omega
 clear hL
 obtain ⟨R,hR⟩:∃ R,(zbo k k' n n' m m' L L'&&(List.range L).all sm)=R:=⟨_,rfl⟩
 rw [hR]
 have HR:=hid hR
 clear hR
 obtain ⟨wa,hwa⟩:∃ x,w.alloc (.cells #[.int .i64 k,.string ⟨n.toArray⟩,.int .i64 m,.int .i64 a,.slice o L c] 29)=x:=⟨_,rfl⟩
 obtain ⟨wb,hwb⟩:∃ x,wa.alloc (.cells #[.int .i64 k',.string ⟨n'.toArray⟩,.int .i64 m',.int .i64 a',.slice o' L' c'] 29)=x:=⟨_,rfl⟩
 have ba:Below w.heap.size w wa:=by rw [<- hwa];exact zad _ _
 have bb:Below w.heap.size w wb:=by rw [<- hwb];exact ba.alloc ba.size _
 have HB:=hid bb
 have kk:wb.heap[w.heap.size]?=some (za2 k n m a (.slice o L c)):=by rw [<- hwb,<- hwa];exact zc0 (heap_alloc_new _ _)
 have kk' : wb.heap[wa.heap.size]?=some (za2 k' n' m' a' (.slice o' L' c')):=by rw [<- hwb];exact heap_alloc_new _ _
 have HK:=hid2 kk kk'
 obtain ⟨⟨z0,z1,z2,z3,z4⟩,_⟩:=zab kk
 obtain ⟨⟨y0,y1,y2,y3,y4⟩,_⟩:=zab kk'
 unfold zaj
 clear kk kk' ba bb
 obtain ⟨E,hE⟩:∃ E,(n==n')=E:=⟨_,rfl⟩
 have HE:=hid hE
 have hE' : (n != n')=!E:=by rw [<- hE];rfl
 by_cases h1:k=k'
 · have j1:(k != k')=false:=by simp [h1]
   have H1:=hid h1
   clear h1
   cases E with
   | true =>
    by_cases h3:m=m'
    · have j3:(m != m')=false:=by simp [h3]
      have H3:=hid h3
      clear h3
      by_cases h4:L=L'
      · have HLL:=hid h4
        subst h4
        have HH:Hid (R=(List.range L).all sm):=by show _=_;rw [<- HR.out];unfold zbo;rw [HE.out];simp [H1.out,H3.out]
        have HKK:=hid2 H1.out H3.out
        go_enter Tryz.func23,Tryz.ntmps23
        go_wp2
        clear hwa hwb j1 j3 hE hE'
        go_loopw [37] (fun i wr=>∃ (q:Nat),i=.int .i64 q∧q<=L∧Hid (Below wb.heap.size wb wr)∧Hid (∀ j,j<q->sm j=true)) (fun i _=>L - (intOf i).toNat)
        case atStart=>exact ⟨0,rfl,by omega,Below.refl _ _,fun j hj=>absurd hj (by omega)⟩
        case round =>
         obtain ⟨q,rfl,hq,HBR,HSM⟩:=hrel
         have x4:wr.cell? ⟨w.heap.size,4,none⟩=some (.slice o L c):=(zab (za8 HBR.out HK.out.1)).1.2.2.2.2
         have u4:wr.cell? ⟨wa.heap.size,4,none⟩=some (.slice o' L c'):=(zab (za8 HBR.out HK.out.2)).1.2.2.2.2
         by_cases hlt:q<L
         · have hlt' : (q:Int)<L:=by omega
           have hq0:(0:Int)<=(q:Int):=by omega
           have hqm:(q:Int)<=9223372036854775806:=by have:=HLM.out;omega
           have HQL:=hid hlt
           obtain ⟨g,f,g',f',ho,ho',k1,n1,m1,a1,sl1,k2,n2,m2,a2,sl2,hkq⟩:=HKID.out q hlt (by trivial)
           subst ho
           subst ho'
           have HBW:=hid (HB.out.trans (HBR.out.mono HB.out.size))
           obtain ⟨r1,r2,r3⟩:=hkq _ HBW.out
           clear r3
           obtain ⟨a0,b0,c0,d0,e0⟩:=r1
           obtain ⟨a9,b9,c9,d9,e9⟩:=r2
           have HKQ:=hid hkq
           clear hkq hlt
           obtain ⟨F,hF⟩:∃ F,sm q=F:=⟨_,rfl⟩
           have HF:=hid hF
           clear hF
           go_wp2_with fail
           have s0:(wr.cell? ⟨w.heap.size,4,none⟩=some (.slice (some ⟨g,f,none⟩) L c)∧wr.cell? ⟨wa.heap.size,4,none⟩=some (.slice (some ⟨g',f',none⟩) L c')∧wr.cell? ⟨g,f+q*5,none⟩=some (.int .i64 k1)∧wr.cell? ⟨g,f+q*5+1,none⟩=some (.string ⟨n1.toArray⟩)∧wr.cell? ⟨g,f+q*5+2,none⟩=some (.int .i64 m1)∧wr.cell? ⟨g,f+q*5+3,none⟩=some (.int .i64 a1)∧wr.cell? ⟨g,f+q*5+4,none⟩=some sl1∧wr.cell? ⟨g',f'+q*5,none⟩=some (.int .i64 k2)∧wr.cell? ⟨g',f'+q*5+1,none⟩=some (.string ⟨n2.toArray⟩)∧wr.cell? ⟨g',f'+q*5+2,none⟩=some (.int .i64 m2)∧wr.cell? ⟨g',f'+q*5+3,none⟩=some (.int .i64 a2)∧wr.cell? ⟨g',f'+q*5+4,none⟩=some sl2):=⟨x4,u4,a0,b0,c0,d0,e0,a9,b9,c9,d9,e9⟩
           have s1:∀ i,((wr.drewN i).cell? ⟨w.heap.size,4,none⟩=some (.slice (some ⟨g,f,none⟩) L c)∧(wr.drewN i).cell? ⟨wa.heap.size,4,none⟩=some (.slice (some ⟨g',f',none⟩) L c')∧(wr.drewN i).cell? ⟨g,f+q*5,none⟩=some (.int .i64 k1)∧(wr.drewN i).cell? ⟨g,f+q*5+1,none⟩=some (.string ⟨n1.toArray⟩)∧(wr.drewN i).cell? ⟨g,f+q*5+2,none⟩=some (.int .i64 m1)∧(wr.drewN i).cell? ⟨g,f+q*5+3,none⟩=some (.int .i64 a1)∧(wr.drewN i).cell? ⟨g,f+q*5+4,none⟩=some sl1∧(wr.drewN i).cell? ⟨g',f'+q*5,none⟩=some (.int .i64 k2)∧(wr.drewN i).cell? ⟨g',f'+q*5+1,none⟩=some (.string ⟨n2.toArray⟩)∧(wr.drewN i).cell? ⟨g',f'+q*5+2,none⟩=some (.int .i64 m2)∧(wr.drewN i).cell? ⟨g',f'+q*5+3,none⟩=some (.int .i64 a2)∧(wr.drewN i).cell? ⟨g',f'+q*5+4,none⟩=some sl2):=fun _=>s0
           go_region_held (fun w'=>(w'.cell? ⟨w.heap.size,4,none⟩=some (.slice (some ⟨g,f,none⟩) L c)∧w'.cell? ⟨wa.heap.size,4,none⟩=some (.slice (some ⟨g',f',none⟩) L c')∧w'.cell? ⟨g,f+q*5,none⟩=some (.int .i64 k1)∧w'.cell? ⟨g,f+q*5+1,none⟩=some (.string ⟨n1.toArray⟩)∧w'.cell? ⟨g,f+q*5+2,none⟩=some (.int .i64 m1)∧w'.cell? ⟨g,f+q*5+3,none⟩=some (.int .i64 a1)∧w'.cell? ⟨g,f+q*5+4,none⟩=some sl1∧w'.cell? ⟨g',f'+q*5,none⟩=some (.int .i64 k2)∧w'.cell? ⟨g',f'+q*5+1,none⟩=some (.string ⟨n2.toArray⟩)∧w'.cell? ⟨g',f'+q*5+2,none⟩=some (.int .i64 m2)∧w'.cell? ⟨g',f'+q*5+3,none⟩=some (.int .i64 a2)∧w'.cell? ⟨g',f'+q*5+4,none⟩=some sl2)) (first|with_reducible exact s0|with_reducible exact s1 _|with_reducible exact s7|exact s0) (first
            | (go_at_call 23
               refine ((HKQ.out _ (zd8 HBW.out _)).2.2).mono ?_
               rintro e w7 ⟨rfl,hB0⟩
               have hB:Below wr.heap.size wr w7:=(zd8 (Below.refl _ _) _).trans hB0
               have HB7:=hid (HBR.out.trans (hB.mono HBR.out.size))
               have s7:(w7.cell? ⟨w.heap.size,4,none⟩=some (.slice (some ⟨g,f,none⟩) L c)∧w7.cell? ⟨wa.heap.size,4,none⟩=some (.slice (some ⟨g',f',none⟩) L c')∧w7.cell? ⟨g,f+q*5,none⟩=some (.int .i64 k1)∧w7.cell? ⟨g,f+q*5+1,none⟩=some (.string ⟨n1.toArray⟩)∧w7.cell? ⟨g,f+q*5+2,none⟩=some (.int .i64 m1)∧w7.cell? ⟨g,f+q*5+3,none⟩=some (.int .i64 a1)∧w7.cell? ⟨g,f+q*5+4,none⟩=some sl1∧w7.cell? ⟨g',f'+q*5,none⟩=some (.int .i64 k2)∧w7.cell? ⟨g',f'+q*5+1,none⟩=some (.string ⟨n2.toArray⟩)∧w7.cell? ⟨g',f'+q*5+2,none⟩=some (.int .i64 m2)∧w7.cell? ⟨g',f'+q*5+3,none⟩=some (.int .i64 a2)∧w7.cell? ⟨g',f'+q*5+4,none⟩=some sl2):=by
                have h1:=HBW.out.trans (hB.mono HBW.out.size)
                obtain ⟨p1,p2,_⟩:=HKQ.out _ h1
                exact ⟨(zab (za8 HB7.out HK.out.1)).1.2.2.2.2,(zab (za8 HB7.out HK.out.2)).1.2.2.2.2,p1.c0,p1.c1,p1.c2,p1.c3,p1.c4,p2.c0,p2.c1,p2.c2,p2.c3,p2.c4⟩
               clear hB hB0))
           cases F with
           | true =>
            rw [HF.out]
            go_wp2
            go_roundw
            case rel=>exact ⟨q+1,by go_num,HQL.out,HB7,fun j hj=>by rcases Nat.lt_succ_iff_lt_or_eq.1 hj with h|h;exact HSM.out j h;rw [h];exact HF.out⟩
            case measure=>have:=HQL.out;simp [intOf];omega
           | false =>
            rw [HF.out]
            go_wp2
            go_ret
            refine ⟨?_,HB.out.trans (HB7.out.mono HB.out.size)⟩
            rw [HH.out]
            have:(List.range L).all sm=false:=by
             rw [List.all_eq_false]
             exact ⟨q,List.mem_range.2 HQL.out,by rw [HF.out];decide⟩
            rw [this]
            rfl
         · have hqe:q=L:=by omega
           subst hqe
           have hlt' : ¬ (q:Int)<q:=by omega
           go_wp2
           go_ret
           refine ⟨?_,HB.out.trans (HBR.out.mono HB.out.size)⟩
           rw [HH.out]
           have:(List.range q).all sm=true:=by
            rw [List.all_eq_true]
            intro x hx
            exact HSM.out x (List.mem_range.1 hx)
           rw [this]
           rfl
      · have j5:¬ (L:Int)=L':=by omega
        have j4:((L:Int) != L')=true:=by simp;omega
        have HH:Hid (R=false):=by show _=_;rw [<- HR.out];unfold zbo;simp [h4]
        go_enter Tryz.func23,Tryz.ntmps23
        go_wp2
        go_ret
        rw [HH.out]
        exact ⟨rfl,HB.out⟩
    · have j3:(m != m')=true:=by simp [h3]
      have HH:Hid (R=false):=by show _=_;rw [<- HR.out];unfold zbo;simp [h3]
      go_enter Tryz.func23,Tryz.ntmps23
      go_wp2
      go_ret
      rw [HH.out]
      exact ⟨rfl,HB.out⟩
   | false =>
    have HH:Hid (R=false):=by show _=_;rw [<- HR.out];unfold zbo;rw [HE.out];simp
    go_enter Tryz.func23,Tryz.ntmps23
    go_wp2
    go_ret
    rw [HH.out]
    exact ⟨rfl,HB.out⟩
 · have j1:(k != k')=true:=by simp [h1]
   have HH:Hid (R=false):=by show _=_;rw [<- HR.out];unfold zbo;simp [h1]
   go_enter Tryz.func23,Tryz.ntmps23
   go_wp2
   go_ret
   rw [HH.out]
   exact ⟨rfl,HB.out⟩
theorem ze1:(N:Nat)->(t u:ITree)->SizeOf.sizeOf t<=N->∀ (B B' : Nat) (w:World) (v v' : Value),TreeR B w t v->TreeR B' w u v'->B<=w.heap.size->B'<=w.heap.size->Calls Tryz.prog 23 #[v,v'] w (fun e w'=>e=.returned (.bool (zdw t u))∧Below w.heap.size w w')
 | 0,.node k n m a ks,_,h=>by simp at h
 | N+1,.node k n m a ks,.node k' n' m' a' ks',hN=>by
  intro B B' w v v' ht hu hB hB'
  rw [treeR_node] at ht hu
  obtain ⟨o,c,rfl,h2,h3,h4,h5,h6⟩:=ht
  obtain ⟨o',c',rfl,i2,i3,i4,i5,i6⟩:=hu
  have hsz:∀ j (h:j<ks.length),SizeOf.sizeOf ks[j]<=N:=fun j h=>by
   have:=kid_size (k:=k) (n:=n) (m:=m) (a:=a) h
   omega
  refine (zld k n m a o ks.length c k' n' m' a' o' ks'.length c' w (Nat.le_trans h2 h3) (smAt ks ks') ?_).mono ?_
  · intro j hj hll
    have hj' : j<ks'.length:=by omega
    rcases h6 with h6|⟨g,f,rfl,hg,hr⟩
    · subst h6;simp at hj
    rcases i6 with i6|⟨g',f',rfl,hg',hr'⟩
    · subst i6;simp at hj'
    refine ⟨g,f,g',f',rfl,rfl,?_⟩
    obtain ⟨k1,n1,m1,a1,us,he⟩:∃ k1 n1 m1 a1 us,ks[j]=.node k1 n1 m1 a1 us:=by cases ks[j];exact ⟨_,_,_,_,_,rfl⟩
    obtain ⟨k2,n2,m2,a2,us',he'⟩:∃ k1 n1 m1 a1 us,ks'[j]=.node k1 n1 m1 a1 us:=by cases ks'[j];exact ⟨_,_,_,_,_,rfl⟩
    obtain ⟨o1,c1,hk,htr⟩:=zg1 hr j hj k1 m1 a1 n1 us he
    obtain ⟨o2,c2,hk',htr'⟩:=zg1 hr' j hj' k2 m2 a2 n2 us' he'
    refine ⟨k1,n1,m1,a1,_,k2,n2,m2,a2,_,fun w1 hw=>⟨hk.frame (hw.block g (by omega)),hk'.frame (hw.block g' (by omega)),?_⟩⟩
    have hs:smAt ks ks' j=zdw (.node k1 n1 m1 a1 us) (.node k2 n2 m2 a2 us'):=by
     unfold smAt
     rw [List.getElem?_eq_getElem hj,List.getElem?_eq_getElem hj',he,he']
    rw [hs]
    exact ze1 N _ _ (he ▸ hsz j hj) B B' w1 _ _ (htr.frame (Nat.le_refl _) (fun b hb=>hw.block b (by omega))) (htr'.frame (Nat.le_refl _) (fun b hb=>hw.block b (by omega))) (Nat.le_trans hB hw.size) (Nat.le_trans hB' hw.size)
  · rintro e w' ⟨rfl,h⟩
    refine ⟨?_,h⟩
    rw [zdw]
    by_cases hll:ks.length=ks'.length
    · rw [smAt_all ks ks' hll]
    · have:zbo k k' n n' m m' ks.length ks'.length=false:=by unfold zbo;simp [hll]
      rw [this]
      rfl
end Go.Proofs.YtodfklpmbclgkaaGreatDoor.Pr
namespace Go.Proofs.YtodfklpmbclgkaaGreatDoor
open Go.RowKit
theorem fault_range {l:List UInt8} {e:Int} {i:Nat} (h:zc7 l=.err e i):30<=e∧e<40:=by
 rcases Nat.lt_or_ge 16000 l.length with h1|h1
 · unfold zc7 at h;rw [if_pos h1] at h;cases h;decide
 · obtain ⟨us,_,_,hs⟩:=zly h h1
   rcases zlz hs with rfl|rfl|rfl|rfl <;> decide
end Go.Proofs.YtodfklpmbclgkaaGreatDoor
