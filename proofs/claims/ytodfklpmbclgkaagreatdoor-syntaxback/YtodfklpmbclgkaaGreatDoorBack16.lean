import Derived.Test.YtodfklpmbclgkaaGreatDoorBack15
namespace Go.Proofs.YtodfklpmbclgkaaGreatDoor.Pr
open Go.RowKit Go.Lib
theorem PR.setd {w:World} {p:Nat} {txt:List UInt8} {d:Int} {v:Value} (h:PR w p txt d v) (e:Int):PR (w.setCell ⟨p,1,none⟩ (.int .i64 e)) p txt e v:=by
 have hgs:w.grownBy (w.setCell ⟨p,1,none⟩ (.int .i64 e)) (some p):=⟨rfl,rfl,rfl,by simp,fun k _ hk=>Below.heap_setCell _ _ _ k (fun e=>hk (by rw [e]))⟩
 refine ⟨?_,World.cell?_setCell_same _ _ _ h.c1,?_,?_,h.own.kept hgs (.inr fun e=>by have:=(h.own.lt p e).1;omega)⟩
 · rw [World.cell?_setCell_other _ _ _ _ (by simp)];exact h.c0
 · rw [World.frozen?_setCell];exact h.f0
 · rw [World.frozen?_setCell];exact h.f1
theorem zcz (w:World) (p:Nat) (v x:Value):Lx.Kept p v v w (w.setCell ⟨p,1,none⟩ x) :=
 ⟨rfl,rfl,rfl,by simp,fun b _ hb _=>Below.heap_setCell _ _ _ b hb,.inl rfl⟩
theorem zgm {word n:List UInt8} {b:Bool} {least most L:Nat} {m:Int} {txt x:List UInt8} (h:zfy word b least most n m L txt=some x):least<=L∧L<=most:=by
 unfold zfy at h
 split at h
 · next h2 =>
   rw [Bool.and_eq_true] at h2
   have:=h2.2
   unfold zan at this
   simp at this
   omega
 · cases h
def zfg (de ar fi:ITree->List UInt8->Option (List UInt8)) (b:Bool) (t:ITree) (txt:List UInt8):Option (List UInt8) :=
 if t.kind=4 then (zfy [101,110,117,109] b 1 64 t.name t.num t.kids.length txt).bind (membersP t.kids)
 else if t.kind=6 then (zfy [115,116,114,117,99,116] b 1 64 t.name t.num t.kids.length txt).bind (fieldsP fi t.kids)
 else if t.kind=7 then (zfy [117,110,105,111,110] b 2 66 t.name t.num t.kids.length txt).bind (choiceP de ar fi t.kids) else none
set_option maxHeartbeats 2000000 in
set_option maxRecDepth 4000 in
theorem zmy {p:Nat} {d:Int} {w0:World} {de ar fi:ITree->List UInt8->Option (List UInt8)} (hd:0<=d∧d<8) (hv:Does p (d+1) w0 157 (fun v=>#[.pointer (some ⟨p,0,none⟩),v]) zat) (hde:Does p (d+1) w0 98 (fun v=>#[.pointer (some ⟨p,0,none⟩),v]) de) (har:Does p (d+1) w0 161 (fun v=>#[.pointer (some ⟨p,0,none⟩),v]) ar) (hfi:Does p (d+1) w0 160 (fun v=>#[.pointer (some ⟨p,0,none⟩),v]) fi):Does p d w0 101 (fun v=>#[.pointer (some ⟨p,0,none⟩),v,.bool true]) (zfg de ar fi true):=by
 refine ⟨fun w hf k n m a ks o c ht txt v0 h hx=>?_⟩
 have HTR:=hid ht
 have HN0:=hid ((zay ht).1)
 have HCC:=hid ((zay ht).2.2.1)
 have hn:=HN0.out
 have HV:=hid (hv.front hf)
 have HDE:=hid (hde.front hf)
 have HAR:=hid (har.front hf)
 have HFI:=hid (hfi.front hf)
 have HD:=hid hd
 clear hv hde har hfi
 obtain ⟨L,hL⟩:∃ L,ks.length=L:=⟨_,rfl⟩
 have HL:=hid hL
 rw [hL]
 rw [hL] at HCC
 clear hL
 clear ht hf
 have hd8:d<8:=hd.2
 have hd0:0<=d:=hd.1
 clear hd
 by_cases h4:k=4
 · subst h4
   have HP:=hid2 h hx
   obtain ⟨R,hR⟩:∃ R,zfg de ar fi true (.node 4 n m a ks) txt=R:=⟨_,rfl⟩
   rw [hR]
   have HR:=hid hR.symm
   clear hn
   clear h hx hR
   obtain ⟨wa,hwa⟩:∃ x,w.alloc (.cells #[.int .i64 4,.string ⟨n.toArray⟩,.int .i64 m,.int .i64 a,.slice o L c] 29)=x:=⟨_,rfl⟩
   have HB:=hidB hwa
   have HK:Hid (wa.heap[w.heap.size]?=some (za2 4 n m a (.slice o L c))):=by show _=_;rw [<- hwa];exact heap_alloc_new _ _
   have HS:Hid (PR wa p txt d v0∧txt.length<=16000∧Lx.Kept p v0 v0 wa wa):=⟨HP.out.1.below HB.out,HP.out.2,Lx.Kept.of_below (Below.refl _ _)⟩
   have HBK:=hid (boxed HP.out.1 HK.out)
   have HEND:Hid (∀ v' w',Lx.Kept p v0 v' wa w'->Lx.Kept p v0 v' w w'):=fun v' w' hk=>(Lx.Kept.of_below HB.out).trans hk
   have HFR:Hid (∀ v' w',Lx.Kept p v0 v' wa w'->za1 p w w'):=fun v' w' hk=>HP.out.1.front (HEND.out _ _ hk)
   obtain ⟨⟨z0,z1,z2,z3,z4⟩,_⟩:=zab HK.out
   unfold zaj
   have HR0:Hid (R=(zfy [101,110,117,109] true 1 64 n m L txt).bind (membersP ks)):=by show _=_;rw [HR.out,<- HL.out];rfl
   have c1:=HS.out.1.c1
   have f1:=HS.out.1.f1
   have hne:¬ w.heap.size=p:=by have:=HP.out.1.lt;omega
   have hne2:¬ p=w.heap.size:=by omega
   obtain ⟨d1,hd1⟩:∃ e,d+1=e:=⟨_,rfl⟩
   have HD1:=hid hd1
   rw [hd1] at HV HDE HAR HFI
   obtain ⟨ws,hws⟩:∃ x,wa.setCell ⟨p,1,none⟩ (.int .i64 d1)=x:=⟨_,rfl⟩
   have HSS:Hid (PR ws p txt d1 v0∧txt.length<=16000∧Lx.Kept p v0 v0 wa ws):=by
    show _∧_∧_
    rw [<- hws]
    exact ⟨PR.setd HS.out.1 _,HS.out.2.1,zcz _ _ _ _⟩
   obtain ⟨⟨u0,u1,u2,u3,u4⟩,_⟩:=zab (HBK.out _ _ HSS.out.2.2)
   go_enter Tryz.func101,Tryz.ntmps101
   go_wp2_with (first|(go_at_call 58;refine (zar _).mono ?_;rintro e wi ⟨rfl,hwi⟩;rw [hwi];clear hwi wi)|(go_at_call 58;refine (zak _).mono ?_;rintro e wi ⟨he,hwi⟩;rw [hwi];clear hwi;unfold zaa at he;rw [he];clear he wi))
   clear hws c1 f1 z0 z1 z2 z3 z4 u0 u1 u2 u3 u4 hwa
   refine (zlt p 4 n m a o L c [101,110,117,109] ⟨by decide,by decide⟩ 1 64 txt d1 v0 ws HSS.out.1 HSS.out.2.1 HN0.out).mono ?_
   rintro e w1 ⟨v1,hk,hQ⟩
   have HKM:=hid (HSS.out.2.2.trans hk)
   clear hk
   rcases hQ with ⟨x1,hx1,hx2,rfl,hPR⟩|⟨hx1,he⟩
   case inr =>
    have HF:Hid (R=none):=HR0.out.trans (by rw [hx1];rfl)
    clear hx1
    unfold zaa at he
    subst he
    go_wp2
    exact ⟨rfl,v1,HEND.out _ _ HKM.out,Or.inr ⟨HF.out,rfl⟩⟩
   have HR1:Hid (R=membersP ks x1):=HR0.out.trans (by rw [hx1];rfl)
   have HS1:=hid3 hPR hx2 HKM.out
   have HLE:=hid (zgm hx1)
   clear hx1 hx2 hPR hd1
   obtain ⟨g,f,ho,hg,hkd⟩:=zcy HTR.out (by have:=HL.out;have:=HLE.out;omega)
   subst ho
   have HKA:=hid hkd
   clear hg hkd
   obtain ⟨⟨z0,z1,z2,z3,z4⟩,_⟩:=zab (HBK.out _ _ HS1.out.2.2)
   clear z0 z1 z2 z3
   go_wp2_with fail
   refine (zfw p g f L c ks HL.out (by have:=HLE.out;omega) x1 d1 v1 w1 HS1.out.1 HS1.out.2.1 (HV.out.front (HFR.out _ _ HS1.out.2.2)) (HKA.out.front (HFR.out _ _ HS1.out.2.2))).mono ?_
   rintro e w2 ⟨v2,hk,hQ⟩
   have HKM:=hid (HS1.out.2.2.trans hk)
   clear hk
   rcases hQ with ⟨x2,hx1,hx2,rfl,hPR⟩|⟨hx1,he⟩
   case inr =>
    have HF:=hid (HR1.out.trans (by rw [hx1]))
    clear hx1
    unfold zaa at he
    subst he
    go_wp2
    exact ⟨rfl,v2,HEND.out _ _ HKM.out,Or.inr ⟨HF.out,rfl⟩⟩
   have HR2:=hid (HR1.out.trans (by rw [hx1]))
   have HS2:=hid3 hPR hx2 HKM.out
   clear hx1 hx2 hPR z4
   have c1:=HS2.out.1.c1
   have f1:=HS2.out.1.f1
   have hd1:d1 - 1=d:=by have:=HD1.out;omega
   have hd2:1<=d1:=by have:=HD1.out;omega
   have hd3:d1<=8:=by have:=HD1.out;omega
   go_wp2
   first|go_end0|refine bodyPost_ret (results_none rfl _ _ _) rfl ?_
   first|rw [hd1]|skip
   exact ⟨v2,(HEND.out _ _ HS2.out.2.2).trans (zcz _ _ _ _),Or.inl ⟨x2,HR2.out,HS2.out.2.1,rfl,PR.setd HS2.out.1 _⟩⟩
 by_cases h6:k=6
 · subst h6
   have HP:=hid2 h hx
   obtain ⟨R,hR⟩:∃ R,zfg de ar fi true (.node 6 n m a ks) txt=R:=⟨_,rfl⟩
   rw [hR]
   have HR:=hid hR.symm
   clear hn
   clear h hx hR
   obtain ⟨wa,hwa⟩:∃ x,w.alloc (.cells #[.int .i64 6,.string ⟨n.toArray⟩,.int .i64 m,.int .i64 a,.slice o L c] 29)=x:=⟨_,rfl⟩
   have HB:=hidB hwa
   have HK:Hid (wa.heap[w.heap.size]?=some (za2 6 n m a (.slice o L c))):=by show _=_;rw [<- hwa];exact heap_alloc_new _ _
   have HS:Hid (PR wa p txt d v0∧txt.length<=16000∧Lx.Kept p v0 v0 wa wa):=⟨HP.out.1.below HB.out,HP.out.2,Lx.Kept.of_below (Below.refl _ _)⟩
   have HBK:=hid (boxed HP.out.1 HK.out)
   have HEND:Hid (∀ v' w',Lx.Kept p v0 v' wa w'->Lx.Kept p v0 v' w w'):=fun v' w' hk=>(Lx.Kept.of_below HB.out).trans hk
   have HFR:Hid (∀ v' w',Lx.Kept p v0 v' wa w'->za1 p w w'):=fun v' w' hk=>HP.out.1.front (HEND.out _ _ hk)
   obtain ⟨⟨z0,z1,z2,z3,z4⟩,_⟩:=zab HK.out
   unfold zaj
   have HR0:Hid (R=(zfy [115,116,114,117,99,116] true 1 64 n m L txt).bind (fieldsP fi ks)):=by show _=_;rw [HR.out,<- HL.out];rfl
   have c1:=HS.out.1.c1
   have f1:=HS.out.1.f1
   have hne:¬ w.heap.size=p:=by have:=HP.out.1.lt;omega
   have hne2:¬ p=w.heap.size:=by omega
   obtain ⟨d1,hd1⟩:∃ e,d+1=e:=⟨_,rfl⟩
   have HD1:=hid hd1
   rw [hd1] at HV HDE HAR HFI
   obtain ⟨ws,hws⟩:∃ x,wa.setCell ⟨p,1,none⟩ (.int .i64 d1)=x:=⟨_,rfl⟩
   have HSS:Hid (PR ws p txt d1 v0∧txt.length<=16000∧Lx.Kept p v0 v0 wa ws):=by
    show _∧_∧_
    rw [<- hws]
    exact ⟨PR.setd HS.out.1 _,HS.out.2.1,zcz _ _ _ _⟩
   obtain ⟨⟨u0,u1,u2,u3,u4⟩,_⟩:=zab (HBK.out _ _ HSS.out.2.2)
   go_enter Tryz.func101,Tryz.ntmps101
   go_wp2_with (first|(go_at_call 58;refine (zar _).mono ?_;rintro e wi ⟨rfl,hwi⟩;rw [hwi];clear hwi wi)|(go_at_call 58;refine (zak _).mono ?_;rintro e wi ⟨he,hwi⟩;rw [hwi];clear hwi;unfold zaa at he;rw [he];clear he wi))
   clear hws c1 f1 z0 z1 z2 z3 z4 u0 u1 u2 u3 u4 hwa
   refine (zlt p 6 n m a o L c [115,116,114,117,99,116] ⟨by decide,by decide⟩ 1 64 txt d1 v0 ws HSS.out.1 HSS.out.2.1 HN0.out).mono ?_
   rintro e w1 ⟨v1,hk,hQ⟩
   have HKM:=hid (HSS.out.2.2.trans hk)
   clear hk
   rcases hQ with ⟨x1,hx1,hx2,rfl,hPR⟩|⟨hx1,he⟩
   case inr =>
    have HF:Hid (R=none):=HR0.out.trans (by rw [hx1];rfl)
    clear hx1
    unfold zaa at he
    subst he
    go_wp2
    exact ⟨rfl,v1,HEND.out _ _ HKM.out,Or.inr ⟨HF.out,rfl⟩⟩
   have HR1:Hid (R=fieldsP fi ks x1):=HR0.out.trans (by rw [hx1];rfl)
   have HS1:=hid3 hPR hx2 HKM.out
   have HLE:=hid (zgm hx1)
   clear hx1 hx2 hPR hd1
   obtain ⟨g,f,ho,hg,hkd⟩:=zcy HTR.out (by have:=HL.out;have:=HLE.out;omega)
   subst ho
   have HKA:=hid hkd
   clear hg hkd
   obtain ⟨⟨z0,z1,z2,z3,z4⟩,_⟩:=zab (HBK.out _ _ HS1.out.2.2)
   clear z0 z1 z2 z3
   go_wp2_with fail
   refine (zhz p g f L c ks HL.out (by have:=HLE.out;omega) x1 d1 v1 w1 HS1.out.1 HS1.out.2.1 (HFI.out.front (HFR.out _ _ HS1.out.2.2)) (HKA.out.front (HFR.out _ _ HS1.out.2.2))).mono ?_
   rintro e w2 ⟨v2,hk,hQ⟩
   have HKM:=hid (HS1.out.2.2.trans hk)
   clear hk
   rcases hQ with ⟨x2,hx1,hx2,rfl,hPR⟩|⟨hx1,he⟩
   case inr =>
    have HF:=hid (HR1.out.trans (by rw [hx1]))
    clear hx1
    unfold zaa at he
    subst he
    go_wp2
    exact ⟨rfl,v2,HEND.out _ _ HKM.out,Or.inr ⟨HF.out,rfl⟩⟩
   have HR2:=hid (HR1.out.trans (by rw [hx1]))
   have HS2:=hid3 hPR hx2 HKM.out
   clear hx1 hx2 hPR z4
   have c1:=HS2.out.1.c1
   have f1:=HS2.out.1.f1
   have hd1:d1 - 1=d:=by have:=HD1.out;omega
   have hd2:1<=d1:=by have:=HD1.out;omega
   have hd3:d1<=8:=by have:=HD1.out;omega
   go_wp2
   first|go_end0|refine bodyPost_ret (results_none rfl _ _ _) rfl ?_
   first|rw [hd1]|skip
   exact ⟨v2,(HEND.out _ _ HS2.out.2.2).trans (zcz _ _ _ _),Or.inl ⟨x2,HR2.out,HS2.out.2.1,rfl,PR.setd HS2.out.1 _⟩⟩
 by_cases h7:k=7
 · subst h7
   have HP:=hid2 h hx
   obtain ⟨R,hR⟩:∃ R,zfg de ar fi true (.node 7 n m a ks) txt=R:=⟨_,rfl⟩
   rw [hR]
   have HR:=hid hR.symm
   clear hn
   clear h hx hR
   obtain ⟨wa,hwa⟩:∃ x,w.alloc (.cells #[.int .i64 7,.string ⟨n.toArray⟩,.int .i64 m,.int .i64 a,.slice o L c] 29)=x:=⟨_,rfl⟩
   have HB:=hidB hwa
   have HK:Hid (wa.heap[w.heap.size]?=some (za2 7 n m a (.slice o L c))):=by show _=_;rw [<- hwa];exact heap_alloc_new _ _
   have HS:Hid (PR wa p txt d v0∧txt.length<=16000∧Lx.Kept p v0 v0 wa wa):=⟨HP.out.1.below HB.out,HP.out.2,Lx.Kept.of_below (Below.refl _ _)⟩
   have HBK:=hid (boxed HP.out.1 HK.out)
   have HEND:Hid (∀ v' w',Lx.Kept p v0 v' wa w'->Lx.Kept p v0 v' w w'):=fun v' w' hk=>(Lx.Kept.of_below HB.out).trans hk
   have HFR:Hid (∀ v' w',Lx.Kept p v0 v' wa w'->za1 p w w'):=fun v' w' hk=>HP.out.1.front (HEND.out _ _ hk)
   obtain ⟨⟨z0,z1,z2,z3,z4⟩,_⟩:=zab HK.out
   unfold zaj
   have HR0:Hid (R=(zfy [117,110,105,111,110] true 2 66 n m L txt).bind (choiceP de ar fi ks)):=by show _=_;rw [HR.out,<- HL.out];rfl
   have c1:=HS.out.1.c1
   have f1:=HS.out.1.f1
   have hne:¬ w.heap.size=p:=by have:=HP.out.1.lt;omega
   have hne2:¬ p=w.heap.size:=by omega
   obtain ⟨d1,hd1⟩:∃ e,d+1=e:=⟨_,rfl⟩
   have HD1:=hid hd1
   rw [hd1] at HV HDE HAR HFI
   obtain ⟨ws,hws⟩:∃ x,wa.setCell ⟨p,1,none⟩ (.int .i64 d1)=x:=⟨_,rfl⟩
   have HSS:Hid (PR ws p txt d1 v0∧txt.length<=16000∧Lx.Kept p v0 v0 wa ws):=by
    show _∧_∧_
    rw [<- hws]
    exact ⟨PR.setd HS.out.1 _,HS.out.2.1,zcz _ _ _ _⟩
   obtain ⟨⟨u0,u1,u2,u3,u4⟩,_⟩:=zab (HBK.out _ _ HSS.out.2.2)
   go_enter Tryz.func101,Tryz.ntmps101
   go_wp2_with (first|(go_at_call 58;refine (zar _).mono ?_;rintro e wi ⟨rfl,hwi⟩;rw [hwi];clear hwi wi)|(go_at_call 58;refine (zak _).mono ?_;rintro e wi ⟨he,hwi⟩;rw [hwi];clear hwi;unfold zaa at he;rw [he];clear he wi))
   clear hws c1 f1 z0 z1 z2 z3 z4 u0 u1 u2 u3 u4 hwa
   refine (zlt p 7 n m a o L c [117,110,105,111,110] ⟨by decide,by decide⟩ 2 66 txt d1 v0 ws HSS.out.1 HSS.out.2.1 HN0.out).mono ?_
   rintro e w1 ⟨v1,hk,hQ⟩
   have HKM:=hid (HSS.out.2.2.trans hk)
   clear hk
   rcases hQ with ⟨x1,hx1,hx2,rfl,hPR⟩|⟨hx1,he⟩
   case inr =>
    have HF:Hid (R=none):=HR0.out.trans (by rw [hx1];rfl)
    clear hx1
    unfold zaa at he
    subst he
    go_wp2
    exact ⟨rfl,v1,HEND.out _ _ HKM.out,Or.inr ⟨HF.out,rfl⟩⟩
   have HR1:Hid (R=choiceP de ar fi ks x1):=HR0.out.trans (by rw [hx1];rfl)
   have HS1:=hid3 hPR hx2 HKM.out
   have HLE:=hid (zgm hx1)
   clear hx1 hx2 hPR hd1
   obtain ⟨g,f,ho,hg,hkd⟩:=zcy HTR.out (by have:=HL.out;have:=HLE.out;omega)
   subst ho
   have HKA:=hid hkd
   clear hg hkd
   obtain ⟨⟨z0,z1,z2,z3,z4⟩,_⟩:=zab (HBK.out _ _ HS1.out.2.2)
   clear z0 z1 z2 z3
   go_wp2_with fail
   refine (zh1 p g f L c ks HL.out HLE.out HCC.out x1 d1 v1 w1 HS1.out.1 HS1.out.2.1 (HDE.out.front (HFR.out _ _ HS1.out.2.2)) (HAR.out.front (HFR.out _ _ HS1.out.2.2)) (HFI.out.front (HFR.out _ _ HS1.out.2.2)) (HKA.out.front (HFR.out _ _ HS1.out.2.2))).mono ?_
   rintro e w2 ⟨v2,hk,hQ⟩
   have HKM:=hid (HS1.out.2.2.trans hk)
   clear hk
   rcases hQ with ⟨x2,hx1,hx2,rfl,hPR⟩|⟨hx1,he⟩
   case inr =>
    have HF:=hid (HR1.out.trans (by rw [hx1]))
    clear hx1
    unfold zaa at he
    subst he
    go_wp2
    exact ⟨rfl,v2,HEND.out _ _ HKM.out,Or.inr ⟨HF.out,rfl⟩⟩
   have HR2:=hid (HR1.out.trans (by rw [hx1]))
   have HS2:=hid3 hPR hx2 HKM.out
   clear hx1 hx2 hPR z4
   have c1:=HS2.out.1.c1
   have f1:=HS2.out.1.f1
   have hd1:d1 - 1=d:=by have:=HD1.out;omega
   have hd2:1<=d1:=by have:=HD1.out;omega
   have hd3:d1<=8:=by have:=HD1.out;omega
   go_wp2
   first|go_end0|refine bodyPost_ret (results_none rfl _ _ _) rfl ?_
   first|rw [hd1]|skip
   exact ⟨v2,(HEND.out _ _ HS2.out.2.2).trans (zcz _ _ _ _),Or.inl ⟨x2,HR2.out,HS2.out.2.1,rfl,PR.setd HS2.out.1 _⟩⟩
 have HNEG:zfg de ar fi true (.node k n m a ks) txt=none:=by
  unfold zfg
  rw [if_neg (show ¬ (ITree.node k n m a ks).kind=4 from h4),if_neg (show ¬ (ITree.node k n m a ks).kind=6 from h6),if_neg (show ¬ (ITree.node k n m a ks).kind=7 from h7)]
 have j4:(k==4)=false:=by simp [h4]
 have j6:(k==6)=false:=by simp [h6]
 have j7:(k==7)=false:=by simp [h7]
 have HP:=hid2 h hx
 obtain ⟨R,hR⟩:∃ R,zfg de ar fi true (.node k n m a ks) txt=R:=⟨_,rfl⟩
 rw [hR]
 have HR:=hid hR.symm
 clear h4 h6 h7 hn
 clear h hx hR
 obtain ⟨wa,hwa⟩:∃ x,w.alloc (.cells #[.int .i64 k,.string ⟨n.toArray⟩,.int .i64 m,.int .i64 a,.slice o L c] 29)=x:=⟨_,rfl⟩
 have HB:=hidB hwa
 have HK:Hid (wa.heap[w.heap.size]?=some (za2 k n m a (.slice o L c))):=by show _=_;rw [<- hwa];exact heap_alloc_new _ _
 have HS:Hid (PR wa p txt d v0∧txt.length<=16000∧Lx.Kept p v0 v0 wa wa):=⟨HP.out.1.below HB.out,HP.out.2,Lx.Kept.of_below (Below.refl _ _)⟩
 have HBK:=hid (boxed HP.out.1 HK.out)
 have HEND:Hid (∀ v' w',Lx.Kept p v0 v' wa w'->Lx.Kept p v0 v' w w'):=fun v' w' hk=>(Lx.Kept.of_below HB.out).trans hk
 have HFR:Hid (∀ v' w',Lx.Kept p v0 v' wa w'->za1 p w w'):=fun v' w' hk=>HP.out.1.front (HEND.out _ _ hk)
 obtain ⟨⟨z0,z1,z2,z3,z4⟩,_⟩:=zab HK.out
 unfold zaj
 have HF:=hid (HR.out.trans HNEG)
 have c1:=HS.out.1.c1
 have f1:=HS.out.1.f1
 have hne:¬ w.heap.size=p:=by have:=HP.out.1.lt;omega
 have hne2:¬ p=w.heap.size:=by omega
 go_enter Tryz.func101,Tryz.ntmps101
 go_wp2_with (first|(go_at_call 58;refine (zar _).mono ?_;rintro e wi ⟨rfl,hwi⟩;rw [hwi];clear hwi wi)|(go_at_call 58;refine (zak _).mono ?_;rintro e wi ⟨he,hwi⟩;rw [hwi];clear hwi;unfold zaa at he;rw [he];clear he wi))
 exact ⟨rfl,v0,(HEND.out _ _ HS.out.2.2).trans (zcz _ _ _ _),Or.inr ⟨HF.out,rfl⟩⟩
set_option maxHeartbeats 2000000 in
set_option maxRecDepth 4000 in
theorem zl8 {p:Nat} {d:Int} {w0:World} {de ar fi:ITree->List UInt8->Option (List UInt8)} (hd:0<=d∧d<8) (hv:Does p (d+1) w0 157 (fun v=>#[.pointer (some ⟨p,0,none⟩),v]) zat) (hde:Does p (d+1) w0 98 (fun v=>#[.pointer (some ⟨p,0,none⟩),v]) de) (har:Does p (d+1) w0 161 (fun v=>#[.pointer (some ⟨p,0,none⟩),v]) ar) (hfi:Does p (d+1) w0 160 (fun v=>#[.pointer (some ⟨p,0,none⟩),v]) fi):Does p d w0 101 (fun v=>#[.pointer (some ⟨p,0,none⟩),v,.bool false]) (zfg de ar fi false):=by
 refine ⟨fun w hf k n m a ks o c ht txt v0 h hx=>?_⟩
 have HTR:=hid ht
 have HN0:=hid ((zay ht).1)
 have HCC:=hid ((zay ht).2.2.1)
 have hn:=HN0.out
 have HV:=hid (hv.front hf)
 have HDE:=hid (hde.front hf)
 have HAR:=hid (har.front hf)
 have HFI:=hid (hfi.front hf)
 have HD:=hid hd
 clear hv hde har hfi
 obtain ⟨L,hL⟩:∃ L,ks.length=L:=⟨_,rfl⟩
 have HL:=hid hL
 rw [hL]
 rw [hL] at HCC
 clear hL
 clear ht hf
 have hd8:d<8:=hd.2
 have hd0:0<=d:=hd.1
 clear hd
 by_cases h4:k=4
 · subst h4
   have HP:=hid2 h hx
   obtain ⟨R,hR⟩:∃ R,zfg de ar fi false (.node 4 n m a ks) txt=R:=⟨_,rfl⟩
   rw [hR]
   have HR:=hid hR.symm
   clear hn
   clear h hx hR
   obtain ⟨wa,hwa⟩:∃ x,w.alloc (.cells #[.int .i64 4,.string ⟨n.toArray⟩,.int .i64 m,.int .i64 a,.slice o L c] 29)=x:=⟨_,rfl⟩
   have HB:=hidB hwa
   have HK:Hid (wa.heap[w.heap.size]?=some (za2 4 n m a (.slice o L c))):=by show _=_;rw [<- hwa];exact heap_alloc_new _ _
   have HS:Hid (PR wa p txt d v0∧txt.length<=16000∧Lx.Kept p v0 v0 wa wa):=⟨HP.out.1.below HB.out,HP.out.2,Lx.Kept.of_below (Below.refl _ _)⟩
   have HBK:=hid (boxed HP.out.1 HK.out)
   have HEND:Hid (∀ v' w',Lx.Kept p v0 v' wa w'->Lx.Kept p v0 v' w w'):=fun v' w' hk=>(Lx.Kept.of_below HB.out).trans hk
   have HFR:Hid (∀ v' w',Lx.Kept p v0 v' wa w'->za1 p w w'):=fun v' w' hk=>HP.out.1.front (HEND.out _ _ hk)
   obtain ⟨⟨z0,z1,z2,z3,z4⟩,_⟩:=zab HK.out
   unfold zaj
   have HR0:Hid (R=(zfy [101,110,117,109] false 1 64 n m L txt).bind (membersP ks)):=by show _=_;rw [HR.out,<- HL.out];rfl
   have c1:=HS.out.1.c1
   have f1:=HS.out.1.f1
   have hne:¬ w.heap.size=p:=by have:=HP.out.1.lt;omega
   have hne2:¬ p=w.heap.size:=by omega
   obtain ⟨d1,hd1⟩:∃ e,d+1=e:=⟨_,rfl⟩
   have HD1:=hid hd1
   rw [hd1] at HV HDE HAR HFI
   obtain ⟨ws,hws⟩:∃ x,wa.setCell ⟨p,1,none⟩ (.int .i64 d1)=x:=⟨_,rfl⟩
   have HSS:Hid (PR ws p txt d1 v0∧txt.length<=16000∧Lx.Kept p v0 v0 wa ws):=by
    show _∧_∧_
    rw [<- hws]
    exact ⟨PR.setd HS.out.1 _,HS.out.2.1,zcz _ _ _ _⟩
   obtain ⟨⟨u0,u1,u2,u3,u4⟩,_⟩:=zab (HBK.out _ _ HSS.out.2.2)
   go_enter Tryz.func101,Tryz.ntmps101
   go_wp2_with (first|(go_at_call 58;refine (zar _).mono ?_;rintro e wi ⟨rfl,hwi⟩;rw [hwi];clear hwi wi)|(go_at_call 58;refine (zak _).mono ?_;rintro e wi ⟨he,hwi⟩;rw [hwi];clear hwi;unfold zaa at he;rw [he];clear he wi))
   clear hws c1 f1 z0 z1 z2 z3 z4 u0 u1 u2 u3 u4 hwa
   refine (zjk p 4 n m a o L c [101,110,117,109] ⟨by decide,by decide⟩ 1 64 txt d1 v0 ws HSS.out.1 HSS.out.2.1 HN0.out).mono ?_
   rintro e w1 ⟨v1,hk,hQ⟩
   have HKM:=hid (HSS.out.2.2.trans hk)
   clear hk
   rcases hQ with ⟨x1,hx1,hx2,rfl,hPR⟩|⟨hx1,he⟩
   case inr =>
    have HF:Hid (R=none):=HR0.out.trans (by rw [hx1];rfl)
    clear hx1
    unfold zaa at he
    subst he
    go_wp2
    exact ⟨rfl,v1,HEND.out _ _ HKM.out,Or.inr ⟨HF.out,rfl⟩⟩
   have HR1:Hid (R=membersP ks x1):=HR0.out.trans (by rw [hx1];rfl)
   have HS1:=hid3 hPR hx2 HKM.out
   have HLE:=hid (zgm hx1)
   clear hx1 hx2 hPR hd1
   obtain ⟨g,f,ho,hg,hkd⟩:=zcy HTR.out (by have:=HL.out;have:=HLE.out;omega)
   subst ho
   have HKA:=hid hkd
   clear hg hkd
   obtain ⟨⟨z0,z1,z2,z3,z4⟩,_⟩:=zab (HBK.out _ _ HS1.out.2.2)
   clear z0 z1 z2 z3
   go_wp2_with fail
   refine (zfw p g f L c ks HL.out (by have:=HLE.out;omega) x1 d1 v1 w1 HS1.out.1 HS1.out.2.1 (HV.out.front (HFR.out _ _ HS1.out.2.2)) (HKA.out.front (HFR.out _ _ HS1.out.2.2))).mono ?_
   rintro e w2 ⟨v2,hk,hQ⟩
   have HKM:=hid (HS1.out.2.2.trans hk)
   clear hk
   rcases hQ with ⟨x2,hx1,hx2,rfl,hPR⟩|⟨hx1,he⟩
   case inr =>
    have HF:=hid (HR1.out.trans (by rw [hx1]))
    clear hx1
    unfold zaa at he
    subst he
    go_wp2
    exact ⟨rfl,v2,HEND.out _ _ HKM.out,Or.inr ⟨HF.out,rfl⟩⟩
   have HR2:=hid (HR1.out.trans (by rw [hx1]))
   have HS2:=hid3 hPR hx2 HKM.out
   clear hx1 hx2 hPR z4
   have c1:=HS2.out.1.c1
   have f1:=HS2.out.1.f1
   have hd1:d1 - 1=d:=by have:=HD1.out;omega
   have hd2:1<=d1:=by have:=HD1.out;omega
   have hd3:d1<=8:=by have:=HD1.out;omega
   go_wp2
   first|go_end0|refine bodyPost_ret (results_none rfl _ _ _) rfl ?_
   first|rw [hd1]|skip
   exact ⟨v2,(HEND.out _ _ HS2.out.2.2).trans (zcz _ _ _ _),Or.inl ⟨x2,HR2.out,HS2.out.2.1,rfl,PR.setd HS2.out.1 _⟩⟩
 by_cases h6:k=6
 · subst h6
   have HP:=hid2 h hx
   obtain ⟨R,hR⟩:∃ R,zfg de ar fi false (.node 6 n m a ks) txt=R:=⟨_,rfl⟩
   rw [hR]
   have HR:=hid hR.symm
   clear hn
   clear h hx hR
   obtain ⟨wa,hwa⟩:∃ x,w.alloc (.cells #[.int .i64 6,.string ⟨n.toArray⟩,.int .i64 m,.int .i64 a,.slice o L c] 29)=x:=⟨_,rfl⟩
   have HB:=hidB hwa
   have HK:Hid (wa.heap[w.heap.size]?=some (za2 6 n m a (.slice o L c))):=by show _=_;rw [<- hwa];exact heap_alloc_new _ _
   have HS:Hid (PR wa p txt d v0∧txt.length<=16000∧Lx.Kept p v0 v0 wa wa):=⟨HP.out.1.below HB.out,HP.out.2,Lx.Kept.of_below (Below.refl _ _)⟩
   have HBK:=hid (boxed HP.out.1 HK.out)
   have HEND:Hid (∀ v' w',Lx.Kept p v0 v' wa w'->Lx.Kept p v0 v' w w'):=fun v' w' hk=>(Lx.Kept.of_below HB.out).trans hk
   have HFR:Hid (∀ v' w',Lx.Kept p v0 v' wa w'->za1 p w w'):=fun v' w' hk=>HP.out.1.front (HEND.out _ _ hk)
   obtain ⟨⟨z0,z1,z2,z3,z4⟩,_⟩:=zab HK.out
   unfold zaj
   have HR0:Hid (R=(zfy [115,116,114,117,99,116] false 1 64 n m L txt).bind (fieldsP fi ks)):=by show _=_;rw [HR.out,<- HL.out];rfl
   have c1:=HS.out.1.c1
   have f1:=HS.out.1.f1
   have hne:¬ w.heap.size=p:=by have:=HP.out.1.lt;omega
   have hne2:¬ p=w.heap.size:=by omega
   obtain ⟨d1,hd1⟩:∃ e,d+1=e:=⟨_,rfl⟩
   have HD1:=hid hd1
   rw [hd1] at HV HDE HAR HFI
   obtain ⟨ws,hws⟩:∃ x,wa.setCell ⟨p,1,none⟩ (.int .i64 d1)=x:=⟨_,rfl⟩
   have HSS:Hid (PR ws p txt d1 v0∧txt.length<=16000∧Lx.Kept p v0 v0 wa ws):=by
    show _∧_∧_
    rw [<- hws]
    exact ⟨PR.setd HS.out.1 _,HS.out.2.1,zcz _ _ _ _⟩
   obtain ⟨⟨u0,u1,u2,u3,u4⟩,_⟩:=zab (HBK.out _ _ HSS.out.2.2)
   go_enter Tryz.func101,Tryz.ntmps101
   go_wp2_with (first|(go_at_call 58;refine (zar _).mono ?_;rintro e wi ⟨rfl,hwi⟩;rw [hwi];clear hwi wi)|(go_at_call 58;refine (zak _).mono ?_;rintro e wi ⟨he,hwi⟩;rw [hwi];clear hwi;unfold zaa at he;rw [he];clear he wi))
   clear hws c1 f1 z0 z1 z2 z3 z4 u0 u1 u2 u3 u4 hwa
   refine (zjk p 6 n m a o L c [115,116,114,117,99,116] ⟨by decide,by decide⟩ 1 64 txt d1 v0 ws HSS.out.1 HSS.out.2.1 HN0.out).mono ?_
   rintro e w1 ⟨v1,hk,hQ⟩
   have HKM:=hid (HSS.out.2.2.trans hk)
   clear hk
   rcases hQ with ⟨x1,hx1,hx2,rfl,hPR⟩|⟨hx1,he⟩
   case inr =>
    have HF:Hid (R=none):=HR0.out.trans (by rw [hx1];rfl)
    clear hx1
    unfold zaa at he
    subst he
    go_wp2
    exact ⟨rfl,v1,HEND.out _ _ HKM.out,Or.inr ⟨HF.out,rfl⟩⟩
   have HR1:Hid (R=fieldsP fi ks x1):=HR0.out.trans (by rw [hx1];rfl)
   have HS1:=hid3 hPR hx2 HKM.out
   have HLE:=hid (zgm hx1)
   clear hx1 hx2 hPR hd1
   obtain ⟨g,f,ho,hg,hkd⟩:=zcy HTR.out (by have:=HL.out;have:=HLE.out;omega)
   subst ho
   have HKA:=hid hkd
   clear hg hkd
   obtain ⟨⟨z0,z1,z2,z3,z4⟩,_⟩:=zab (HBK.out _ _ HS1.out.2.2)
   clear z0 z1 z2 z3
   go_wp2_with fail
   refine (zhz p g f L c ks HL.out (by have:=HLE.out;omega) x1 d1 v1 w1 HS1.out.1 HS1.out.2.1 (HFI.out.front (HFR.out _ _ HS1.out.2.2)) (HKA.out.front (HFR.out _ _ HS1.out.2.2))).mono ?_
   rintro e w2 ⟨v2,hk,hQ⟩
   have HKM:=hid (HS1.out.2.2.trans hk)
   clear hk
   rcases hQ with ⟨x2,hx1,hx2,rfl,hPR⟩|⟨hx1,he⟩
   case inr =>
    have HF:=hid (HR1.out.trans (by rw [hx1]))
    clear hx1
    unfold zaa at he
    subst he
    go_wp2
    exact ⟨rfl,v2,HEND.out _ _ HKM.out,Or.inr ⟨HF.out,rfl⟩⟩
   have HR2:=hid (HR1.out.trans (by rw [hx1]))
   have HS2:=hid3 hPR hx2 HKM.out
   clear hx1 hx2 hPR z4
   have c1:=HS2.out.1.c1
   have f1:=HS2.out.1.f1
   have hd1:d1 - 1=d:=by have:=HD1.out;omega
   have hd2:1<=d1:=by have:=HD1.out;omega
   have hd3:d1<=8:=by have:=HD1.out;omega
   go_wp2
   first|go_end0|refine bodyPost_ret (results_none rfl _ _ _) rfl ?_
   first|rw [hd1]|skip
   exact ⟨v2,(HEND.out _ _ HS2.out.2.2).trans (zcz _ _ _ _),Or.inl ⟨x2,HR2.out,HS2.out.2.1,rfl,PR.setd HS2.out.1 _⟩⟩
 by_cases h7:k=7
 · subst h7
   have HP:=hid2 h hx
   obtain ⟨R,hR⟩:∃ R,zfg de ar fi false (.node 7 n m a ks) txt=R:=⟨_,rfl⟩
   rw [hR]
   have HR:=hid hR.symm
   clear hn
   clear h hx hR
   obtain ⟨wa,hwa⟩:∃ x,w.alloc (.cells #[.int .i64 7,.string ⟨n.toArray⟩,.int .i64 m,.int .i64 a,.slice o L c] 29)=x:=⟨_,rfl⟩
   have HB:=hidB hwa
   have HK:Hid (wa.heap[w.heap.size]?=some (za2 7 n m a (.slice o L c))):=by show _=_;rw [<- hwa];exact heap_alloc_new _ _
   have HS:Hid (PR wa p txt d v0∧txt.length<=16000∧Lx.Kept p v0 v0 wa wa):=⟨HP.out.1.below HB.out,HP.out.2,Lx.Kept.of_below (Below.refl _ _)⟩
   have HBK:=hid (boxed HP.out.1 HK.out)
   have HEND:Hid (∀ v' w',Lx.Kept p v0 v' wa w'->Lx.Kept p v0 v' w w'):=fun v' w' hk=>(Lx.Kept.of_below HB.out).trans hk
   have HFR:Hid (∀ v' w',Lx.Kept p v0 v' wa w'->za1 p w w'):=fun v' w' hk=>HP.out.1.front (HEND.out _ _ hk)
   obtain ⟨⟨z0,z1,z2,z3,z4⟩,_⟩:=zab HK.out
   unfold zaj
   have HR0:Hid (R=(zfy [117,110,105,111,110] false 2 66 n m L txt).bind (choiceP de ar fi ks)):=by show _=_;rw [HR.out,<- HL.out];rfl
   have c1:=HS.out.1.c1
   have f1:=HS.out.1.f1
   have hne:¬ w.heap.size=p:=by have:=HP.out.1.lt;omega
   have hne2:¬ p=w.heap.size:=by omega
   obtain ⟨d1,hd1⟩:∃ e,d+1=e:=⟨_,rfl⟩
   have HD1:=hid hd1
   rw [hd1] at HV HDE HAR HFI
   obtain ⟨ws,hws⟩:∃ x,wa.setCell ⟨p,1,none⟩ (.int .i64 d1)=x:=⟨_,rfl⟩
   have HSS:Hid (PR ws p txt d1 v0∧txt.length<=16000∧Lx.Kept p v0 v0 wa ws):=by
    show _∧_∧_
    rw [<- hws]
    exact ⟨PR.setd HS.out.1 _,HS.out.2.1,zcz _ _ _ _⟩
   obtain ⟨⟨u0,u1,u2,u3,u4⟩,_⟩:=zab (HBK.out _ _ HSS.out.2.2)
   go_enter Tryz.func101,Tryz.ntmps101
   go_wp2_with (first|(go_at_call 58;refine (zar _).mono ?_;rintro e wi ⟨rfl,hwi⟩;rw [hwi];clear hwi wi)|(go_at_call 58;refine (zak _).mono ?_;rintro e wi ⟨he,hwi⟩;rw [hwi];clear hwi;unfold zaa at he;rw [he];clear he wi))
   clear hws c1 f1 z0 z1 z2 z3 z4 u0 u1 u2 u3 u4 hwa
   refine (zjk p 7 n m a o L c [117,110,105,111,110] ⟨by decide,by decide⟩ 2 66 txt d1 v0 ws HSS.out.1 HSS.out.2.1 HN0.out).mono ?_
   rintro e w1 ⟨v1,hk,hQ⟩
   have HKM:=hid (HSS.out.2.2.trans hk)
   clear hk
   rcases hQ with ⟨x1,hx1,hx2,rfl,hPR⟩|⟨hx1,he⟩
   case inr =>
    have HF:Hid (R=none):=HR0.out.trans (by rw [hx1];rfl)
    clear hx1
    unfold zaa at he
    subst he
    go_wp2
    exact ⟨rfl,v1,HEND.out _ _ HKM.out,Or.inr ⟨HF.out,rfl⟩⟩
   have HR1:Hid (R=choiceP de ar fi ks x1):=HR0.out.trans (by rw [hx1];rfl)
   have HS1:=hid3 hPR hx2 HKM.out
   have HLE:=hid (zgm hx1)
   clear hx1 hx2 hPR hd1
   obtain ⟨g,f,ho,hg,hkd⟩:=zcy HTR.out (by have:=HL.out;have:=HLE.out;omega)
   subst ho
   have HKA:=hid hkd
   clear hg hkd
   obtain ⟨⟨z0,z1,z2,z3,z4⟩,_⟩:=zab (HBK.out _ _ HS1.out.2.2)
   clear z0 z1 z2 z3
   go_wp2_with fail
   refine (zh1 p g f L c ks HL.out HLE.out HCC.out x1 d1 v1 w1 HS1.out.1 HS1.out.2.1 (HDE.out.front (HFR.out _ _ HS1.out.2.2)) (HAR.out.front (HFR.out _ _ HS1.out.2.2)) (HFI.out.front (HFR.out _ _ HS1.out.2.2)) (HKA.out.front (HFR.out _ _ HS1.out.2.2))).mono ?_
   rintro e w2 ⟨v2,hk,hQ⟩
   have HKM:=hid (HS1.out.2.2.trans hk)
   clear hk
   rcases hQ with ⟨x2,hx1,hx2,rfl,hPR⟩|⟨hx1,he⟩
   case inr =>
    have HF:=hid (HR1.out.trans (by rw [hx1]))
    clear hx1
    unfold zaa at he
    subst he
    go_wp2
    exact ⟨rfl,v2,HEND.out _ _ HKM.out,Or.inr ⟨HF.out,rfl⟩⟩
   have HR2:=hid (HR1.out.trans (by rw [hx1]))
   have HS2:=hid3 hPR hx2 HKM.out
   clear hx1 hx2 hPR z4
   have c1:=HS2.out.1.c1
   have f1:=HS2.out.1.f1
   have hd1:d1 - 1=d:=by have:=HD1.out;omega
   have hd2:1<=d1:=by have:=HD1.out;omega
   have hd3:d1<=8:=by have:=HD1.out;omega
   go_wp2
   first|go_end0|refine bodyPost_ret (results_none rfl _ _ _) rfl ?_
   first|rw [hd1]|skip
   exact ⟨v2,(HEND.out _ _ HS2.out.2.2).trans (zcz _ _ _ _),Or.inl ⟨x2,HR2.out,HS2.out.2.1,rfl,PR.setd HS2.out.1 _⟩⟩
 have HNEG:zfg de ar fi false (.node k n m a ks) txt=none:=by
  unfold zfg
  rw [if_neg (show ¬ (ITree.node k n m a ks).kind=4 from h4),if_neg (show ¬ (ITree.node k n m a ks).kind=6 from h6),if_neg (show ¬ (ITree.node k n m a ks).kind=7 from h7)]
 have j4:(k==4)=false:=by simp [h4]
 have j6:(k==6)=false:=by simp [h6]
 have j7:(k==7)=false:=by simp [h7]
 have HP:=hid2 h hx
 obtain ⟨R,hR⟩:∃ R,zfg de ar fi false (.node k n m a ks) txt=R:=⟨_,rfl⟩
 rw [hR]
 have HR:=hid hR.symm
 clear h4 h6 h7 hn
 clear h hx hR
 obtain ⟨wa,hwa⟩:∃ x,w.alloc (.cells #[.int .i64 k,.string ⟨n.toArray⟩,.int .i64 m,.int .i64 a,.slice o L c] 29)=x:=⟨_,rfl⟩
 have HB:=hidB hwa
 have HK:Hid (wa.heap[w.heap.size]?=some (za2 k n m a (.slice o L c))):=by show _=_;rw [<- hwa];exact heap_alloc_new _ _
 have HS:Hid (PR wa p txt d v0∧txt.length<=16000∧Lx.Kept p v0 v0 wa wa):=⟨HP.out.1.below HB.out,HP.out.2,Lx.Kept.of_below (Below.refl _ _)⟩
 have HBK:=hid (boxed HP.out.1 HK.out)
 have HEND:Hid (∀ v' w',Lx.Kept p v0 v' wa w'->Lx.Kept p v0 v' w w'):=fun v' w' hk=>(Lx.Kept.of_below HB.out).trans hk
 have HFR:Hid (∀ v' w',Lx.Kept p v0 v' wa w'->za1 p w w'):=fun v' w' hk=>HP.out.1.front (HEND.out _ _ hk)
 obtain ⟨⟨z0,z1,z2,z3,z4⟩,_⟩:=zab HK.out
 unfold zaj
 have HF:=hid (HR.out.trans HNEG)
 have c1:=HS.out.1.c1
 have f1:=HS.out.1.f1
 have hne:¬ w.heap.size=p:=by have:=HP.out.1.lt;omega
 have hne2:¬ p=w.heap.size:=by omega
 go_enter Tryz.func101,Tryz.ntmps101
 go_wp2_with (first|(go_at_call 58;refine (zar _).mono ?_;rintro e wi ⟨rfl,hwi⟩;rw [hwi];clear hwi wi)|(go_at_call 58;refine (zak _).mono ?_;rintro e wi ⟨he,hwi⟩;rw [hwi];clear hwi;unfold zaa at he;rw [he];clear he wi))
 exact ⟨rfl,v0,(HEND.out _ _ HS.out.2.2).trans (zcz _ _ _ _),Or.inr ⟨HF.out,rfl⟩⟩
set_option maxHeartbeats 2000000 in
set_option maxRecDepth 4000 in
theorem zie {p:Nat} {w0:World} : Does p 8 w0 101 (fun v=>#[.pointer (some ⟨p,0,none⟩),v,.bool true]) (fun _ _=>none):=by
 refine ⟨fun w hf k n m a ks o c ht txt v0 h hx=>?_⟩
 clear ht hf
 obtain ⟨L,hL⟩:∃ L,ks.length=L:=⟨_,rfl⟩
 rw [hL]
 clear hL
 obtain ⟨d,hd⟩:∃ d:Int,8=d:=⟨_,rfl⟩
 rw [hd] at h ⊢
 have HP:=hid2 h hx
 obtain ⟨R,hR⟩:∃ R,(none:Option (List UInt8))=R:=⟨_,rfl⟩
 rw [hR]
 have HR:=hid hR.symm
 clear h hx hR
 obtain ⟨wa,hwa⟩:∃ x,w.alloc (.cells #[.int .i64 k,.string ⟨n.toArray⟩,.int .i64 m,.int .i64 a,.slice o L c] 29)=x:=⟨_,rfl⟩
 have HB:=hidB hwa
 have HK:Hid (wa.heap[w.heap.size]?=some (za2 k n m a (.slice o L c))):=by show _=_;rw [<- hwa];exact heap_alloc_new _ _
 have HS:Hid (PR wa p txt d v0∧txt.length<=16000∧Lx.Kept p v0 v0 wa wa):=⟨HP.out.1.below HB.out,HP.out.2,Lx.Kept.of_below (Below.refl _ _)⟩
 have HBK:=hid (boxed HP.out.1 HK.out)
 have HEND:Hid (∀ v' w',Lx.Kept p v0 v' wa w'->Lx.Kept p v0 v' w w'):=fun v' w' hk=>(Lx.Kept.of_below HB.out).trans hk
 have HFR:Hid (∀ v' w',Lx.Kept p v0 v' wa w'->za1 p w w'):=fun v' w' hk=>HP.out.1.front (HEND.out _ _ hk)
 obtain ⟨⟨z0,z1,z2,z3,z4⟩,_⟩:=zab HK.out
 unfold zaj
 have c1:=HS.out.1.c1
 have f1:=HS.out.1.f1
 subst hd
 go_enter Tryz.func101,Tryz.ntmps101
 go_wp2_with (first|(go_at_call 58;refine (zar _).mono ?_;rintro e wi ⟨rfl,hwi⟩;rw [hwi];clear hwi wi)|(go_at_call 58;refine (zak _).mono ?_;rintro e wi ⟨he,hwi⟩;rw [hwi];clear hwi;unfold zaa at he;rw [he];clear he wi))
 exact ⟨rfl,v0,HEND.out _ _ HS.out.2.2,Or.inr ⟨HR.out,rfl⟩⟩
set_option maxHeartbeats 2000000 in
set_option maxRecDepth 4000 in
theorem zh4 {p:Nat} {w0:World} : Does p 8 w0 101 (fun v=>#[.pointer (some ⟨p,0,none⟩),v,.bool false]) (fun _ _=>none):=by
 refine ⟨fun w hf k n m a ks o c ht txt v0 h hx=>?_⟩
 clear ht hf
 obtain ⟨L,hL⟩:∃ L,ks.length=L:=⟨_,rfl⟩
 rw [hL]
 clear hL
 obtain ⟨d,hd⟩:∃ d:Int,8=d:=⟨_,rfl⟩
 rw [hd] at h ⊢
 have HP:=hid2 h hx
 obtain ⟨R,hR⟩:∃ R,(none:Option (List UInt8))=R:=⟨_,rfl⟩
 rw [hR]
 have HR:=hid hR.symm
 clear h hx hR
 obtain ⟨wa,hwa⟩:∃ x,w.alloc (.cells #[.int .i64 k,.string ⟨n.toArray⟩,.int .i64 m,.int .i64 a,.slice o L c] 29)=x:=⟨_,rfl⟩
 have HB:=hidB hwa
 have HK:Hid (wa.heap[w.heap.size]?=some (za2 k n m a (.slice o L c))):=by show _=_;rw [<- hwa];exact heap_alloc_new _ _
 have HS:Hid (PR wa p txt d v0∧txt.length<=16000∧Lx.Kept p v0 v0 wa wa):=⟨HP.out.1.below HB.out,HP.out.2,Lx.Kept.of_below (Below.refl _ _)⟩
 have HBK:=hid (boxed HP.out.1 HK.out)
 have HEND:Hid (∀ v' w',Lx.Kept p v0 v' wa w'->Lx.Kept p v0 v' w w'):=fun v' w' hk=>(Lx.Kept.of_below HB.out).trans hk
 have HFR:Hid (∀ v' w',Lx.Kept p v0 v' wa w'->za1 p w w'):=fun v' w' hk=>HP.out.1.front (HEND.out _ _ hk)
 obtain ⟨⟨z0,z1,z2,z3,z4⟩,_⟩:=zab HK.out
 unfold zaj
 have c1:=HS.out.1.c1
 have f1:=HS.out.1.f1
 subst hd
 go_enter Tryz.func101,Tryz.ntmps101
 go_wp2_with (first|(go_at_call 58;refine (zar _).mono ?_;rintro e wi ⟨rfl,hwi⟩;rw [hwi];clear hwi wi)|(go_at_call 58;refine (zak _).mono ?_;rintro e wi ⟨he,hwi⟩;rw [hwi];clear hwi;unfold zaa at he;rw [he];clear he wi))
 exact ⟨rfl,v0,HEND.out _ _ HS.out.2.2,Or.inr ⟨HR.out,rfl⟩⟩
def zgq:Nat->Bool->ITree->List UInt8->Option (List UInt8)
 | 0,_=>fun _ _=>none
 | n+1,b=>zfg (zcs (zaq (zgq n false))) (armP (zcu (zcs (zaq (zgq n false))))) (zcu (zcs (zaq (zgq n false)))) b
def declT (n:Nat):ITree->List UInt8->Option (List UInt8):=zcs (zaq (zgq n false))
theorem tower {p:Nat} {w0:World} (hG:zd3 w0) (h0:0<p) (hI:zey (fun m=>-9223372036854775808<=m∧m<=9223372036854775807) p w0):(n:Nat)->(d:Int)->d=8 - n->0<=d->Does p d w0 101 (fun v=>#[.pointer (some ⟨p,0,none⟩),v,.bool true]) (zgq n true)∧Does p d w0 101 (fun v=>#[.pointer (some ⟨p,0,none⟩),v,.bool false]) (zgq n false)
 | 0,d,hd,_=>by
  obtain rfl:d=8:=by omega
  exact ⟨zie,zh4⟩
 | n+1,d,hd,hd0=>by
  have ih:=tower hG h0 hI n (d+1) (by omega) (by omega)
  have hv:Does p (d+1) w0 157 (fun v=>#[.pointer (some ⟨p,0,none⟩),v]) zat:=znu hI
  have hde:=does_decl (zj6 ih.2 (zl9 hG h0)) hv
  have hfi:=does_field hde
  have har:=does_arm hfi hv
  exact ⟨zmy ⟨hd0,by omega⟩ hv hde har hfi,zl8 ⟨hd0,by omega⟩ hv hde har hfi⟩
theorem does_declT {p:Nat} {w0:World} (hG:zd3 w0) (h0:0<p) (hI:zey (fun m=>-9223372036854775808<=m∧m<=9223372036854775807) p w0):Does p 0 w0 98 (fun v=>#[.pointer (some ⟨p,0,none⟩),v]) (declT 8) :=
 does_decl (zj6 (tower hG h0 hI 8 0 (by omega) (by omega)).2 (zl9 hG h0)) (znu hI)
def zkd (t:ITree) (txt:List UInt8):Option (List UInt8) :=
 if t.kind=12 then (if zaw t.name true&&zan t.kids.length t.num 3 6 then (zcl (t.kids.getD 1 zby) txt).bind fun x=>(layP [t.name,[40]] x).bind fun x=>(zh5 (t.kids.drop 2) x).bind fun x=>(layP [[41],[61]] x).bind fun x=>(zaz 0 (t.kids.getD 0 zby) x).bind (layP [[59]]) else none) else none
theorem proc_ok {n:List UInt8} {m a:Int} {ks:List ITree} {L:Nat} (hl:ks.length=L) {b:Bool} (hb:(zaw n true&&zan L m 3 6)=b) (x:List UInt8):zkd (.node 12 n m a ks) x=if b then (zcl (ks.getD 1 zby) x).bind fun x=>(layP [n,[40]] x).bind fun x=>(zh5 (ks.drop 2) x).bind fun x=>(layP [[41],[61]] x).bind fun x=>(zaz 0 (ks.getD 0 zby) x).bind (layP [[59]]) else none:=by
 subst hl
 subst hb
 rfl
set_option maxHeartbeats 2000000 in
set_option maxRecDepth 4000 in
theorem does_proc {p:Nat} {d:Int} {w0:World} (hr:Does p d w0 158 (fun v=>#[.pointer (some ⟨p,0,none⟩),v]) zcl) (hb:Does p d w0 156 (fun v=>#[.pointer (some ⟨p,0,none⟩),v]) zcg) (hnu:Does p d w0 97 (fun v=>#[.pointer (some ⟨p,0,none⟩),v,.int .i64 0]) (zaz 0)):Does p d w0 134 (fun v=>#[.pointer (some ⟨p,0,none⟩),v]) zkd:=by
 refine ⟨fun w hf k n m a ks o c ht txt v0 h hx=>?_⟩
 have HTR:=hid ht
 have HN0:=hid ((zay ht).1)
 have HCC:=hid ((zay ht).2.2.1)
 have HRE:=hid (hr.front hf)
 have HBA:=hid (hb.front hf)
 have HNU:=hid (hnu.front hf)
 have hn:=HN0.out
 clear ht hf hr hb hnu
 obtain ⟨L,hL⟩:∃ L,ks.length=L:=⟨_,rfl⟩
 have HL:=hid hL
 rw [hL]
 rw [hL] at HCC
 clear hL
 have HP:=hid2 h hx
 obtain ⟨R,hR⟩:∃ R,zkd (.node k n m a ks) txt=R:=⟨_,rfl⟩
 rw [hR]
 have HR:=hid hR.symm
 have HMH:Hid (∀ w,Calls Tryz.prog 59 #[zaj k n m a (.slice o L c),.bool true,.int .i64 3,.int .i64 6] w (zb6 (zaw n true&&zan L m 3 6) w)):=fun w=>zbw k n m a o L c 3 6 w (by unfold maxLen at hn;omega)
 unfold zaj at HMH
 clear hn
 clear h hx hR
 obtain ⟨wa,hwa⟩:∃ x,w.alloc (.cells #[.int .i64 k,.string ⟨n.toArray⟩,.int .i64 m,.int .i64 a,.slice o L c] 29)=x:=⟨_,rfl⟩
 have HB:=hidB hwa
 have HK:Hid (wa.heap[w.heap.size]?=some (za2 k n m a (.slice o L c))):=by show _=_;rw [<- hwa];exact heap_alloc_new _ _
 have HS:Hid (PR wa p txt d v0∧txt.length<=16000∧Lx.Kept p v0 v0 wa wa):=⟨HP.out.1.below HB.out,HP.out.2,Lx.Kept.of_below (Below.refl _ _)⟩
 have HBK:=hid (boxed HP.out.1 HK.out)
 have HEND:Hid (∀ v' w',Lx.Kept p v0 v' wa w'->Lx.Kept p v0 v' w w'):=fun v' w' hk=>(Lx.Kept.of_below HB.out).trans hk
 have HFR:Hid (∀ v' w',Lx.Kept p v0 v' wa w'->za1 p w w'):=fun v' w' hk=>HP.out.1.front (HEND.out _ _ hk)
 obtain ⟨⟨z0,z1,z2,z3,z4⟩,_⟩:=zab HK.out
 unfold zaj
 go_enter Tryz.func134,Tryz.ntmps134
 by_cases h5:k=12
 case neg =>
  have j5:(k==12)=false:=by simp [h5]
  have HF:Hid (R=none):=by
   show _=_
   rw [HR.out];unfold zkd;exact if_neg h5
  clear h5
  go_wp2_with (first|(go_at_call 58;refine (zar _).mono ?_;rintro e wi ⟨rfl,hwi⟩;rw [hwi];clear hwi wi)|(go_at_call 58;refine (zak _).mono ?_;rintro e wi ⟨he,hwi⟩;rw [hwi];clear hwi;unfold zaa at he;rw [he];clear he wi))
  exact ⟨rfl,v0,HEND.out _ _ HS.out.2.2,Or.inr ⟨HF.out,rfl⟩⟩
 subst h5
 go_wp2_with (first|(go_at_call 58;refine (zar _).mono ?_;rintro e wi ⟨rfl,hwi⟩;rw [hwi];clear hwi wi)|(go_at_call 58;refine (zak _).mono ?_;rintro e wi ⟨he,hwi⟩;rw [hwi];clear hwi;unfold zaa at he;rw [he];clear he wi))
 refine (HMH.out _).mono ?_
 rintro e w1 ⟨hB,hq⟩
 have HKM:=hid (HS.out.2.2.trans (Lx.Kept.of_below hB))
 have HPM:=hid (HS.out.1.below hB)
 clear hB
 rcases hq with ⟨hq,rfl⟩|⟨hq,he⟩
 case inr =>
  have HF:Hid (R=none):=by
   show _=_
   rw [HR.out];rw [proc_ok HL.out rfl];rw [hq];rfl
  clear hq
  unfold zaa at he
  subst he
  go_wp2
  exact ⟨rfl,v0,HEND.out _ _ HKM.out,Or.inr ⟨HF.out,rfl⟩⟩
 have HR1:Hid (R=(zcl (ks.getD 1 zby) txt).bind fun x=>(layP [n,[40]] x).bind fun x=>(zh5 (ks.drop 2) x).bind fun x=>(layP [[41],[61]] x).bind fun x=>(zaz 0 (ks.getD 0 zby) x).bind (layP [[59]])):=by
  show _=_
  rw [HR.out];rw [proc_ok HL.out rfl];rw [hq];rfl
 have HQ1:=hid hq
 have HS1:=hid3 HPM.out HS.out.2.1 HKM.out
 clear hq z0 z1 z2 z3 z4 hwa
 have HN:Hid (n≠[]∧n.length<=64):=by
  have:=HQ1.out
  rw [Bool.and_eq_true] at this
  exact zco this.1
 have hlen:3<=L∧L<=6:=by
  have:=HQ1.out
  unfold zan at this
  simp at this
  omega
 have HLE:=hid hlen
 obtain ⟨g,f,ho,hg,hkd⟩:=zcy HTR.out (by have:=HL.out;omega)
 subst ho
 have HKA:=hid hkd
 clear hlen hg hkd
 obtain ⟨M,hM⟩:∃ M,L=M+3:=⟨L - 3,by have:=HLE.out;omega⟩
 subst hM
 obtain ⟨k8,n8,m8,a8,us8,o8,c8,he8,hkd8⟩:=HKA.out (0) (by have:=HL.out;have:=HLE.out;omega)
 have HKE8:=hid he8
 have HKW8:=hid hkd8
 clear he8 hkd8
 obtain ⟨k9,n9,m9,a9,us9,o9,c9,he9,hkd9⟩:=HKA.out (1) (by have:=HL.out;have:=HLE.out;omega)
 have HKE9:=hid he9
 have HKW9:=hid hkd9
 clear he9 hkd9
 have HKD:=hid (HKA.out.drop 2)
 have HR9:Hid (R=(zcl (.node k9 n9 m9 a9 us9) txt).bind fun x=>(layP [n,[40]] x).bind fun x=>(zh5 (ks.drop 2) x).bind fun x=>(layP [[41],[61]] x).bind fun x=>(zaz 0 (.node k8 n8 m8 a8 us8) x).bind (layP [[59]])):=by show _=_;rw [HR1.out,HKE9.out,HKE8.out]
 obtain ⟨ts,hts⟩:∃ ts,ks.drop 2=ts:=⟨_,rfl⟩
 have HTL:Hid (ts.length=M+1):=by show _=_;rw [<- hts,List.length_drop];have:=HL.out;omega
 rw [hts] at HKD HR9
 clear hts
 have hm0:(0:Int)<=(M:Int):=by omega
 have hm2:(M:Int)<=3:=by have:=HLE.out;omega
 have hc1:(M:Int)+3<=(c:Int):=by have:=HCC.out;omega
 have hc2:(c:Int)<=9223372036854775807:=by have:=HCC.out.2;unfold maxLen at this;omega
 obtain ⟨⟨z0,z1,z2,z3,z4⟩,_⟩:=zab (HBK.out _ _ HS1.out.2.2)
 clear z0 z1 z2 z3
 obtain ⟨q0,q1,q2,q3,q4⟩:=(HKW9.out _ (HFR.out _ _ HS1.out.2.2)).1
 simp only [Nat.reduceMul] at q0 q1 q2 q3 q4
 go_wp2_with fail
 refine (HRE.out.run w1 (HFR.out _ _ HS1.out.2.2) k9 n9 m9 a9 us9 o9 c9 (HKW9.out _ (HFR.out _ _ HS1.out.2.2)).2 txt v0 HS1.out.1 HS1.out.2.1).mono ?_
 rintro e w2 ⟨v2,hk,hQ⟩
 have HKM:=hid (HS1.out.2.2.trans hk)
 clear hk
 rcases hQ with ⟨x2,hx1,hx2,rfl,hPR⟩|⟨hx1,he⟩
 case inr =>
  have HF:Hid (R=none):=HR9.out.trans (by rw [hx1];rfl)
  clear hx1
  unfold zaa at he
  subst he
  go_wp2
  exact ⟨rfl,v2,HEND.out _ _ HKM.out,Or.inr ⟨HF.out,rfl⟩⟩
 have HR2:Hid (R=(layP [n,[40]] x2).bind fun x=>(zh5 ts x).bind fun x=>(layP [[41],[61]] x).bind fun x=>(zaz 0 (.node k8 n8 m8 a8 us8) x).bind (layP [[59]])):=HR9.out.trans (by rw [hx1];rfl)
 have HS2:=hid3 hPR hx2 HKM.out
 clear hx1 hx2 hPR z4 q0 q1 q2 q3 q4
 obtain ⟨⟨z0,z1,z2,z3,z4⟩,_⟩:=zab (HBK.out _ _ HS2.out.2.2)
 clear z0 z2 z3 z4
 go_wp2_with fail
 refine (za7 p [n,[40]] _ rfl (by intro t ht;simp only [List.mem_cons,List.not_mem_nil,or_false] at ht;rcases ht with rfl|rfl <;> first|exact HN.out|exact HOP.out|exact HSH.out|exact ⟨by decide,by decide⟩) (by simp) 2 rfl x2 d v2 w2 HS2.out.1 HS2.out.2.1).mono ?_
 rintro e w3 ⟨v3,hk,hQ⟩
 have HKM:=hid (HS2.out.2.2.trans hk)
 clear hk
 rcases hQ with ⟨x3,hx1,hx2,rfl,hPR⟩|⟨hx1,he⟩
 case inr =>
  have HF:Hid (R=none):=HR2.out.trans (by rw [hx1];rfl)
  clear hx1
  unfold zaa at he
  subst he
  go_wp2
  exact ⟨rfl,v3,HEND.out _ _ HKM.out,Or.inr ⟨HF.out,rfl⟩⟩
 have HR3:Hid (R=(zh5 ts x3).bind fun x=>(layP [[41],[61]] x).bind fun x=>(zaz 0 (.node k8 n8 m8 a8 us8) x).bind (layP [[59]])):=HR2.out.trans (by rw [hx1];rfl)
 have HS3:=hid3 hPR hx2 HKM.out
 clear hx1 hx2 hPR z1
 obtain ⟨⟨z0,z1,z2,z3,z4⟩,_⟩:=zab (HBK.out _ _ HS3.out.2.2)
 clear z0 z1 z2 z3
 go_wp2_with fail
 refine (zg7 p g (f+10) (M+1) (c - 2) ts HTL.out (by have:=HLE.out;omega) x3 d v3 w3 HS3.out.1 HS3.out.2.1 (HRE.out.front (HFR.out _ _ HS3.out.2.2)) (HBA.out.front (HFR.out _ _ HS3.out.2.2)) (HKD.out.front (HFR.out _ _ HS3.out.2.2))).mono ?_
 rintro e w4 ⟨v4,hk,hQ⟩
 have HKM:=hid (HS3.out.2.2.trans hk)
 clear hk
 rcases hQ with ⟨x4,hx1,hx2,rfl,hPR⟩|⟨hx1,he⟩
 case inr =>
  have HF:Hid (R=none):=HR3.out.trans (by rw [hx1];rfl)
  clear hx1
  unfold zaa at he
  subst he
  go_wp2
  exact ⟨rfl,v4,HEND.out _ _ HKM.out,Or.inr ⟨HF.out,rfl⟩⟩
 have HR4:Hid (R=(layP [[41],[61]] x4).bind fun x=>(zaz 0 (.node k8 n8 m8 a8 us8) x).bind (layP [[59]])):=HR3.out.trans (by rw [hx1];rfl)
 have HS4:=hid3 hPR hx2 HKM.out
 clear hx1 hx2 hPR z4
 go_wp2_with fail
 refine (za7 p [[41],[61]] _ rfl (by intro t ht;simp only [List.mem_cons,List.not_mem_nil,or_false] at ht;rcases ht with rfl|rfl <;> first|exact HN.out|exact HOP.out|exact HSH.out|exact ⟨by decide,by decide⟩) (by simp) 2 rfl x4 d v4 w4 HS4.out.1 HS4.out.2.1).mono ?_
 rintro e w5 ⟨v5,hk,hQ⟩
 have HKM:=hid (HS4.out.2.2.trans hk)
 clear hk
 rcases hQ with ⟨x5,hx1,hx2,rfl,hPR⟩|⟨hx1,he⟩
 case inr =>
  have HF:Hid (R=none):=HR4.out.trans (by rw [hx1];rfl)
  clear hx1
  unfold zaa at he
  subst he
  go_wp2
  exact ⟨rfl,v5,HEND.out _ _ HKM.out,Or.inr ⟨HF.out,rfl⟩⟩
 have HR5:Hid (R=(zaz 0 (.node k8 n8 m8 a8 us8) x5).bind (layP [[59]])):=HR4.out.trans (by rw [hx1];rfl)
 have HS5:=hid3 hPR hx2 HKM.out
 clear hx1 hx2 hPR 
 obtain ⟨⟨z0,z1,z2,z3,z4⟩,_⟩:=zab (HBK.out _ _ HS5.out.2.2)
 clear z0 z1 z2 z3
 obtain ⟨q0,q1,q2,q3,q4⟩:=(HKW8.out _ (HFR.out _ _ HS5.out.2.2)).1
 simp only [Nat.zero_mul,Nat.add_zero] at q0 q1 q2 q3 q4
 go_wp2_with fail
 refine (HNU.out.run w5 (HFR.out _ _ HS5.out.2.2) k8 n8 m8 a8 us8 o8 c8 (HKW8.out _ (HFR.out _ _ HS5.out.2.2)).2 x5 v5 HS5.out.1 HS5.out.2.1).mono ?_
 rintro e w6 ⟨v6,hk,hQ⟩
 have HKM:=hid (HS5.out.2.2.trans hk)
 clear hk
 rcases hQ with ⟨x6,hx1,hx2,rfl,hPR⟩|⟨hx1,he⟩
 case inr =>
  have HF:Hid (R=none):=HR5.out.trans (by rw [hx1];rfl)
  clear hx1
  unfold zaa at he
  subst he
  go_wp2
  exact ⟨rfl,v6,HEND.out _ _ HKM.out,Or.inr ⟨HF.out,rfl⟩⟩
 have HR6:Hid (R=layP [[59]] x6):=HR5.out.trans (by rw [hx1];rfl)
 have HS6:=hid3 hPR hx2 HKM.out
 clear hx1 hx2 hPR z4 q0 q1 q2 q3 q4
 go_wp2_with fail
 refine (za7 p [[59]] _ rfl (by intro t ht;simp only [List.mem_cons,List.not_mem_nil,or_false] at ht;rcases ht with rfl <;> first|exact HN.out|exact HOP.out|exact HSH.out|exact ⟨by decide,by decide⟩) (by simp) 1 rfl x6 d v6 w6 HS6.out.1 HS6.out.2.1).mono ?_
 rintro e w7 ⟨v7,hk,hQ⟩
 have HKM:=hid (HS6.out.2.2.trans hk)
 clear hk
 rcases hQ with ⟨x7,hx1,hx2,rfl,hPR⟩|⟨hx1,he⟩
 case inr =>
  have HF:=hid (HR6.out.trans (by rw [hx1]))
  clear hx1
  unfold zaa at he
  subst he
  go_wp2
  exact ⟨rfl,v7,HEND.out _ _ HKM.out,Or.inr ⟨HF.out,rfl⟩⟩
 have HR7:=hid (HR6.out.trans (by rw [hx1]))
 have HS7:=hid3 hPR hx2 HKM.out
 clear hx1 hx2 hPR 
 go_wp2
 first|go_end0|refine bodyPost_ret (results_none rfl _ _ _) rfl ?_
 exact ⟨v7,HEND.out _ _ HS7.out.2.2,Or.inl ⟨x7,HR7.out,HS7.out.2.1,rfl,HS7.out.1⟩⟩
def numberedP (word:List UInt8) (pa:ITree->List UInt8->Option (List UInt8)) (t:ITree) (txt:List UInt8):Option (List UInt8) :=
 if zaw t.name true&&zan t.kids.length t.num 2 65 then (layP [word,t.name,[123]] txt).bind fun x=>(rowP pa (t.kids.drop 1) x).bind fun x=>(layP [[125],[61]] x).bind (zaz 0 (t.kids.getD 0 zby)) else none
theorem zfu {word:List UInt8} {pa:ITree->List UInt8->Option (List UInt8)} {k:Int} {n:List UInt8} {m a:Int} {ks:List ITree} {L:Nat} (hl:ks.length=L) {b:Bool} (hb:(zaw n true&&zan L m 2 65)=b) (x:List UInt8):numberedP word pa (.node k n m a ks) x=if b then (layP [word,n,[123]] x).bind fun x=>(rowP pa (ks.drop 1) x).bind fun x=>(layP [[125],[61]] x).bind (zaz 0 (ks.getD 0 zby)) else none:=by
 subst hl
 subst hb
 rfl
set_option maxHeartbeats 2000000 in
set_option maxRecDepth 4000 in
theorem zkf {p:Nat} {d:Int} {w0:World} (word:List UInt8) (hw:word≠[]∧word.length<=64) {pa:ITree->List UInt8->Option (List UInt8)} (hpa:Does p d w0 134 (fun v=>#[.pointer (some ⟨p,0,none⟩),v]) pa) (hnu:Does p d w0 97 (fun v=>#[.pointer (some ⟨p,0,none⟩),v,.int .i64 0]) (zaz 0)):Does p d w0 99 (fun v=>#[.pointer (some ⟨p,0,none⟩),v,.string ⟨word.toArray⟩,.func (.func 134) #[.pointer (some ⟨p,0,none⟩)] #[]]) (numberedP word pa):=by
 refine ⟨fun w hf k n m a ks o c ht txt v0 h hx=>?_⟩
 have HTR:=hid ht
 have HN0:=hid ((zay ht).1)
 have HCC:=hid ((zay ht).2.2.1)
 have HPA:=hid (hpa.front hf)
 have HNU:=hid (hnu.front hf)
 have hn:=HN0.out
 clear ht hf hpa hnu
 obtain ⟨L,hL⟩:∃ L,ks.length=L:=⟨_,rfl⟩
 have HL:=hid hL
 rw [hL]
 rw [hL] at HCC
 clear hL
 have HWD:=hid hw
 clear hw
 have HP:=hid2 h hx
 obtain ⟨R,hR⟩:∃ R,numberedP word pa (.node k n m a ks) txt=R:=⟨_,rfl⟩
 rw [hR]
 have HR:=hid hR.symm
 have HMH:Hid (∀ w,Calls Tryz.prog 59 #[zaj k n m a (.slice o L c),.bool true,.int .i64 2,.int .i64 65] w (zb6 (zaw n true&&zan L m 2 65) w)):=fun w=>zbw k n m a o L c 2 65 w (by unfold maxLen at hn;omega)
 unfold zaj at HMH
 clear hn
 clear h hx hR
 obtain ⟨wa,hwa⟩:∃ x,w.alloc (.cells #[.int .i64 k,.string ⟨n.toArray⟩,.int .i64 m,.int .i64 a,.slice o L c] 29)=x:=⟨_,rfl⟩
 have HB:=hidB hwa
 have HK:Hid (wa.heap[w.heap.size]?=some (za2 k n m a (.slice o L c))):=by show _=_;rw [<- hwa];exact heap_alloc_new _ _
 have HS:Hid (PR wa p txt d v0∧txt.length<=16000∧Lx.Kept p v0 v0 wa wa):=⟨HP.out.1.below HB.out,HP.out.2,Lx.Kept.of_below (Below.refl _ _)⟩
 have HBK:=hid (boxed HP.out.1 HK.out)
 have HEND:Hid (∀ v' w',Lx.Kept p v0 v' wa w'->Lx.Kept p v0 v' w w'):=fun v' w' hk=>(Lx.Kept.of_below HB.out).trans hk
 have HFR:Hid (∀ v' w',Lx.Kept p v0 v' wa w'->za1 p w w'):=fun v' w' hk=>HP.out.1.front (HEND.out _ _ hk)
 obtain ⟨⟨z0,z1,z2,z3,z4⟩,_⟩:=zab HK.out
 unfold zaj
 go_enter Tryz.func99,Tryz.ntmps99
 go_wp2_with fail
 refine (HMH.out _).mono ?_
 rintro e w1 ⟨hB,hq⟩
 have HKM:=hid (HS.out.2.2.trans (Lx.Kept.of_below hB))
 have HPM:=hid (HS.out.1.below hB)
 clear hB
 rcases hq with ⟨hq,rfl⟩|⟨hq,he⟩
 case inr =>
  have HF:Hid (R=none):=by
   show _=_
   rw [HR.out];rw [zfu HL.out rfl];rw [hq];rfl
  clear hq
  unfold zaa at he
  subst he
  go_wp2
  exact ⟨rfl,v0,HEND.out _ _ HKM.out,Or.inr ⟨HF.out,rfl⟩⟩
 have HR1:Hid (R=(layP [word,n,[123]] txt).bind fun x=>(rowP pa (ks.drop 1) x).bind fun x=>(layP [[125],[61]] x).bind (zaz 0 (ks.getD 0 zby))):=by
  show _=_
  rw [HR.out];rw [zfu HL.out rfl];rw [hq];rfl
 have HQ1:=hid hq
 have HS1:=hid3 HPM.out HS.out.2.1 HKM.out
 clear hq z0 z1 z2 z3 z4 hwa
 have HN:Hid (n≠[]∧n.length<=64):=by
  have:=HQ1.out
  rw [Bool.and_eq_true] at this
  exact zco this.1
 have hlen:2<=L∧L<=65:=by
  have:=HQ1.out
  unfold zan at this
  simp at this
  omega
 have HLE:=hid hlen
 obtain ⟨g,f,ho,hg,hkd⟩:=zcy HTR.out (by have:=HL.out;omega)
 subst ho
 have HKA:=hid hkd
 clear hlen hg hkd
 obtain ⟨M,hM⟩:∃ M,L=M+1:=⟨L - 1,by have:=HLE.out;omega⟩
 subst hM
 have HOP:=hid HWD.out
 obtain ⟨k8,n8,m8,a8,us8,o8,c8,he8,hkd8⟩:=HKA.out (0) (by have:=HL.out;have:=HLE.out;omega)
 have HKE8:=hid he8
 have HKW8:=hid hkd8
 clear he8 hkd8
 have HKD:=hid (HKA.out.drop 1)
 have HR9:Hid (R=(layP [word,n,[123]] txt).bind fun x=>(rowP pa ((ks.drop 1).drop 0) x).bind fun x=>(layP [[125],[61]] x).bind (zaz 0 (.node k8 n8 m8 a8 us8))):=by show _=_;rw [HR1.out,HKE8.out];rfl
 obtain ⟨ts,hts⟩:∃ ts,ks.drop 1=ts:=⟨_,rfl⟩
 have HTL:Hid (ts.length=M):=by show _=_;rw [<- hts,List.length_drop];have:=HL.out;omega
 rw [hts] at HKD HR9
 clear hts
 have hm0:(0:Int)<=(M:Int):=by omega
 have hm1:(1:Int)<=(M:Int):=by have:=HLE.out;omega
 have hm2:(M:Int)<=64:=by have:=HLE.out;omega
 have HMM:Hid (M<=64):=by show _<=_;omega
 have hc1:(M:Int)+1<=(c:Int):=by have:=HCC.out;omega
 have hcn:(2:Int)<=(c:Int):=by omega
 have hc2:(c:Int)<=9223372036854775807:=by have:=HCC.out.2;unfold maxLen at this;omega
 obtain ⟨⟨z0,z1,z2,z3,z4⟩,_⟩:=zab (HBK.out _ _ HS1.out.2.2)
 clear z0 z2 z3
 go_wp2_with fail
 refine (za7 p [word,n,[123]] _ rfl (by intro t ht;simp only [List.mem_cons,List.not_mem_nil,or_false] at ht;rcases ht with rfl|rfl|rfl <;> first|exact HN.out|exact HOP.out|exact HSH.out|exact ⟨by decide,by decide⟩) (by simp) 3 rfl txt d v0 w1 HS1.out.1 HS1.out.2.1).mono ?_
 rintro e w2 ⟨v2,hk,hQ⟩
 have HKM:=hid (HS1.out.2.2.trans hk)
 clear hk
 rcases hQ with ⟨x2,hx1,hx2,rfl,hPR⟩|⟨hx1,he⟩
 case inr =>
  have HF:Hid (R=none):=HR9.out.trans (by rw [hx1];rfl)
  clear hx1
  unfold zaa at he
  subst he
  go_wp2
  exact ⟨rfl,v2,HEND.out _ _ HKM.out,Or.inr ⟨HF.out,rfl⟩⟩
 have HR2:Hid (R=(rowP pa (ts.drop 0) x2).bind fun x=>(layP [[125],[61]] x).bind (zaz 0 (.node k8 n8 m8 a8 us8))):=HR9.out.trans (by rw [hx1];rfl)
 have HS2:=hid3 hPR hx2 HKM.out
 clear hx1 hx2 hPR z1 z4
 obtain ⟨⟨z0,z1,z2,z3,z4⟩,_⟩:=zab (HBK.out _ _ HS2.out.2.2)
 clear z0 z1 z2 z3
 go_wp2_with fail
 go_loopw [22] (fun i wr=>∃ (q:Nat) (x:List UInt8) (v:Value),i=.int .i64 q∧q<=M∧Hid (PR wr p x d v∧x.length<=16000∧Lx.Kept p v0 v wa wr)∧Hid (R=(rowP pa (ts.drop q) x).bind fun x=>(layP [[125],[61]] x).bind (zaz 0 (.node k8 n8 m8 a8 us8)))) (fun i _=>M - (RowKit.intOf i).toNat)
 case atStart=>exact ⟨0,x2,v2,rfl,by omega,HS2,HR2⟩
 case round =>
  obtain ⟨q,x,v,rfl,hq,HSQ,HRQ⟩:=hrel
  by_cases hlt:q<M
  · have hlt' : (q:Int)<M:=by omega
    have hq0:(0:Int)<=(q:Int):=by omega
    have hqm:(q:Int)<=1000:=by have:=HMM.out;omega
    have HQL:=hid hlt
    have HQK:Hid (q<ts.length):=by show _<_;have:=HTL.out;omega
    obtain ⟨k1,n1,m1,a1,us,o1,c1,he,hkd⟩:=HKD.out q HQK.out
    have HDR:Hid (ts.drop q=.node k1 n1 m1 a1 us::ts.drop (q+1)):=by show _=_;rw [<- he];exact zdl HQK.out
    have HKT:Hid (∀ w2,za1 p w w2->TreeR p w2 (.node k1 n1 m1 a1 us) (zaj k1 n1 m1 a1 (.slice o1 us.length c1))):=fun w2 h2=>(hkd w2 h2).2
    have HKR:Hid (∀ w2,za1 p w w2->KidR w2 g ((f+5)+q*5) k1 n1 m1 a1 (.slice o1 us.length c1)):=fun w2 h2=>(hkd w2 h2).1
    obtain ⟨a0,b0,c0,d0,e0⟩:=HKR.out wr (HFR.out _ _ HSQ.out.2.2)
    obtain ⟨wb,hwb⟩:∃ x,wr.alloc (.cells #[.int .i64 k1,.string ⟨n1.toArray⟩,.int .i64 m1,.int .i64 a1,.slice o1 us.length c1] 29)=x:=⟨_,rfl⟩
    have HBB:Hid (Below wr.heap.size wr wb):=by show Below _ _ _;rw [<- hwb];exact zad _ _
    have HKB:Hid (wb.heap[wr.heap.size]?=some (za2 k1 n1 m1 a1 (.slice o1 us.length c1))):=by show _=_;rw [<- hwb];exact heap_alloc_new _ _
    obtain ⟨⟨y0,y1,y2,y3,y4⟩,_⟩:=zab HKB.out
    have HSB:=hid3 (HSQ.out.1.below HBB.out) HSQ.out.2.1 (HSQ.out.2.2.trans (Lx.Kept.of_below HBB.out))
    have HKBK:=hid (boxed HSQ.out.1 HKB.out)
    have HCB:Hid (Lx.Kept p v v wb wb):=Lx.Kept.of_below (Below.refl _ _)
    clear he hkd hlt
    have HRS:Hid (R=((pa (.node k1 n1 m1 a1 us) x).bind (rowP pa (ts.drop (q+1)))).bind fun x=>(layP [[125],[61]] x).bind (zaz 0 (.node k8 n8 m8 a8 us8))):=by show _=_;rw [HRQ.out,HDR.out];rfl
    clear HRQ HDR
    go_wp2_with fail
    refine (HPA.out.run wb (HFR.out _ _ HSB.out.2.2) k1 n1 m1 a1 us o1 c1 (HKT.out _ (HFR.out _ _ HSB.out.2.2)) x v HSB.out.1 HSB.out.2.1).mono ?_
    rintro e w23 ⟨v23,hk,hQ⟩
    have HKM:=hid (HSB.out.2.2.trans hk)
    clear hk
    rcases hQ with ⟨x23,hx1,hx2,rfl,hPR⟩|⟨hx1,he⟩
    case inr =>
     have HF:Hid (R=none):=HRS.out.trans (by rw [hx1];rfl)
     clear hx1
     unfold zaa at he
     subst he
     go_wp2
     exact ⟨rfl,v23,HEND.out _ _ HKM.out,Or.inr ⟨HF.out,rfl⟩⟩
    have HR23:Hid (R=(rowP pa (ts.drop (q+1)) x23).bind fun x=>(layP [[125],[61]] x).bind (zaz 0 (.node k8 n8 m8 a8 us8))):=HRS.out.trans (by rw [hx1];rfl)
    have HS23:=hid3 hPR hx2 HKM.out
    clear hx1 hx2 hPR a0 b0 c0 d0 e0 y0 y1 y2 y3 y4 hwb
    go_wp2
    go_roundw
    case rel=>exact ⟨q+1,x23,v23,by go_num,HQL.out,HS23,HR23⟩
    case measure=>have:=HQL.out;simp [RowKit.intOf];omega
  · have hqe:q=M:=by omega
    subst hqe
    have hlt2:¬ (q:Int)<q:=by omega
    have HRA:Hid (R=(layP [[125],[61]] x).bind (zaz 0 (.node k8 n8 m8 a8 us8))):=by show _=_;rw [HRQ.out,List.drop_of_length_le (by have:=HTL.out;omega)];rfl
    clear HRQ
    go_wp2_with fail
    refine (za7 p [[125],[61]] _ rfl (by intro t ht;simp only [List.mem_cons,List.not_mem_nil,or_false] at ht;rcases ht with rfl|rfl <;> first|exact HN.out|exact HOP.out|exact HSH.out|exact ⟨by decide,by decide⟩) (by simp) 2 rfl x d v wr HSQ.out.1 HSQ.out.2.1).mono ?_
    rintro e w43 ⟨v43,hk,hQ⟩
    have HKM:=hid (HSQ.out.2.2.trans hk)
    clear hk
    rcases hQ with ⟨x43,hx1,hx2,rfl,hPR⟩|⟨hx1,he⟩
    case inr =>
     have HF:Hid (R=none):=HRA.out.trans (by rw [hx1];rfl)
     clear hx1
     unfold zaa at he
     subst he
     go_wp2
     exact ⟨rfl,v43,HEND.out _ _ HKM.out,Or.inr ⟨HF.out,rfl⟩⟩
    have HR43:Hid (R=zaz 0 (.node k8 n8 m8 a8 us8) x43):=HRA.out.trans (by rw [hx1];rfl)
    have HS43:=hid3 hPR hx2 HKM.out
    clear hx1 hx2 hPR 
    obtain ⟨⟨z0,z1,z2,z3,z4⟩,_⟩:=zab (HBK.out _ _ HS43.out.2.2)
    clear z0 z1 z2 z3
    obtain ⟨q0,q1,q2,q3,q4⟩:=(HKW8.out _ (HFR.out _ _ HS43.out.2.2)).1
    simp only [Nat.zero_mul,Nat.add_zero] at q0 q1 q2 q3 q4
    go_wp2_with fail
    refine (HNU.out.run w43 (HFR.out _ _ HS43.out.2.2) k8 n8 m8 a8 us8 o8 c8 (HKW8.out _ (HFR.out _ _ HS43.out.2.2)).2 x43 v43 HS43.out.1 HS43.out.2.1).mono ?_
    rintro e w44 ⟨v44,hk,hQ⟩
    have HKM:=hid (HS43.out.2.2.trans hk)
    clear hk
    rcases hQ with ⟨x44,hx1,hx2,rfl,hPR⟩|⟨hx1,he⟩
    case inr =>
     have HF:=hid (HR43.out.trans (by rw [hx1]))
     clear hx1
     unfold zaa at he
     subst he
     go_wp2
     exact ⟨rfl,v44,HEND.out _ _ HKM.out,Or.inr ⟨HF.out,rfl⟩⟩
    have HR44:=hid (HR43.out.trans (by rw [hx1]))
    have HS44:=hid3 hPR hx2 HKM.out
    clear hx1 hx2 hPR z4 q0 q1 q2 q3 q4
    go_wp2
    first|go_end0|refine bodyPost_ret (results_none rfl _ _ _) rfl ?_
    exact ⟨v44,HEND.out _ _ HS44.out.2.2,Or.inl ⟨x44,HR44.out,HS44.out.2.1,rfl,HS44.out.1⟩⟩
def versionP (t:ITree) (txt:List UInt8):Option (List UInt8):=if t.kind=11 then (numberedP [118,101,114,115,105,111,110] zkd t txt).bind (layP [[59]]) else none
set_option maxHeartbeats 2000000 in
set_option maxRecDepth 4000 in
theorem does_version {p:Nat} {d:Int} {w0:World} (hpr:Does p d w0 134 (fun v=>#[.pointer (some ⟨p,0,none⟩),v]) zkd) (hnu:Does p d w0 97 (fun v=>#[.pointer (some ⟨p,0,none⟩),v,.int .i64 0]) (zaz 0)):Does p d w0 100 (fun v=>#[.pointer (some ⟨p,0,none⟩),v]) versionP:=by
 have hnm:Does p d w0 99 (fun v=>#[.pointer (some ⟨p,0,none⟩),v,.string ⟨#[118,101,114,115,105,111,110]⟩,.func (.func 134) #[.pointer (some ⟨p,0,none⟩)] #[]]) (numberedP [118,101,114,115,105,111,110] zkd):=zkf [118,101,114,115,105,111,110] ⟨by decide,by decide⟩ hpr hnu
 clear hpr hnu
 have hmf:∀ (fn:Fn) (first cap:Array Value) (w:World),(Instr.makeFunc fn first cap).run Tryz.prog w=.ok (.func fn first cap) w:=fun _ _ _ _=>rfl
 refine ⟨fun w hf k n m a ks o c ht txt v0 h hx=>?_⟩
 have HNM:Hid (∀ w2,za1 p w w2->∀ txt v0,PR w2 p txt d v0->txt.length<=16000->Calls Tryz.prog 99 #[.pointer (some ⟨p,0,none⟩),zaj k n m a (.slice o ks.length c),.string ⟨#[118,101,114,115,105,111,110]⟩,.func (.func 134) #[.pointer (some ⟨p,0,none⟩)] #[]] w2 (zbp p d v0 ((numberedP [118,101,114,115,105,111,110] zkd) (.node k n m a ks) txt) w2)):=fun w2 h2 txt v0 h hx=>hnm.run w2 (hf.trans h2) k n m a ks o c (ht.frame (Nat.le_refl _) (fun b hb=>h2 b hb) _ _) txt v0 h hx
 obtain ⟨L,hL⟩:∃ L,ks.length=L:=⟨_,rfl⟩
 rw [hL] at HNM ⊢
 clear ht hf hnm hL
 unfold zaj at HNM
 have HP:=hid2 h hx
 obtain ⟨R,hR⟩:∃ R,versionP (.node k n m a ks) txt=R:=⟨_,rfl⟩
 rw [hR]
 have HR:Hid (R=versionP (.node k n m a ks) txt):=hR.symm
 clear h hx hR
 obtain ⟨wa,hwa⟩:∃ x,w.alloc (.cells #[.int .i64 k,.string ⟨n.toArray⟩,.int .i64 m,.int .i64 a,.slice o L c] 29)=x:=⟨_,rfl⟩
 have HB:=hidB hwa
 have HK:Hid (wa.heap[w.heap.size]?=some (za2 k n m a (.slice o L c))):=by show _=_;rw [<- hwa];exact heap_alloc_new _ _
 have HS:Hid (PR wa p txt d v0∧txt.length<=16000∧Lx.Kept p v0 v0 wa wa):=⟨HP.out.1.below HB.out,HP.out.2,Lx.Kept.of_below (Below.refl _ _)⟩
 have HBK:Hid (∀ v' w',Lx.Kept p v0 v' wa w'->w'.heap[w.heap.size]?=some (za2 k n m a (.slice o L c))):=boxed HP.out.1 HK.out
 have HEND:Hid (∀ v' w',Lx.Kept p v0 v' wa w'->Lx.Kept p v0 v' w w'):=fun v' w' hk=>(Lx.Kept.of_below HB.out).trans hk
 have HFR:Hid (∀ v' w',Lx.Kept p v0 v' wa w'->za1 p w w'):=fun v' w' hk=>HP.out.1.front (HEND.out _ _ hk)
 obtain ⟨⟨z0,z1,z2,z3,z4⟩,_⟩:=zab HK.out
 unfold zaj
 go_enter Tryz.func100,Tryz.ntmps100
 by_cases h5:k=11
 case neg =>
  have j5:(k==11)=false:=by simp [h5]
  have HF:Hid (R=none):=by
   show _=_
   rw [HR.out];unfold versionP;exact if_neg h5
  clear h5
  go_wp2_with (first|(go_at_call 58;refine (zar _).mono ?_;rintro e wi ⟨rfl,hwi⟩;rw [hwi];clear hwi wi)|(go_at_call 58;refine (zak _).mono ?_;rintro e wi ⟨he,hwi⟩;rw [hwi];clear hwi;unfold zaa at he;rw [he];clear he wi))
  exact ⟨rfl,v0,HEND.out _ _ HS.out.2.2,Or.inr ⟨HF.out,rfl⟩⟩
 subst h5
 have HR0:Hid (R=(numberedP [118,101,114,115,105,111,110] zkd (.node 11 n m a ks) txt).bind (layP [[59]])):=HR.out
 go_wp2_with (first|(go_at_call 58;refine (zar _).mono ?_;rintro e wi ⟨rfl,hwi⟩;rw [hwi];clear hwi wi)|(go_at_call 58;refine (zak _).mono ?_;rintro e wi ⟨he,hwi⟩;rw [hwi];clear hwi;unfold zaa at he;rw [he];clear he wi))
 refine (HNM.out wa (HFR.out _ _ HS.out.2.2) txt v0 HS.out.1 HS.out.2.1).mono ?_
 rintro e w1 ⟨v1,hk,hQ⟩
 have HKM:=hid (HS.out.2.2.trans hk)
 clear hk
 rcases hQ with ⟨x1,hx1,hx2,rfl,hPR⟩|⟨hx1,he⟩
 case inr =>
  have HF:Hid (R=none):=HR0.out.trans (by rw [hx1];rfl)
  clear hx1
  unfold zaa at he
  subst he
  go_wp2
  exact ⟨rfl,v1,HEND.out _ _ HKM.out,Or.inr ⟨HF.out,rfl⟩⟩
 have HR1:Hid (R=layP [[59]] x1):=HR0.out.trans (by rw [hx1];rfl)
 have HS1:=hid3 hPR hx2 HKM.out
 clear hx1 hx2 hPR z0 z1 z2 z3 z4
 go_wp2_with fail
 refine (za7 p [[59]] _ rfl (by intro t ht;simp only [List.mem_cons,List.not_mem_nil,or_false] at ht;rcases ht with rfl <;> first|exact HN.out|exact HOP.out|exact HSH.out|exact ⟨by decide,by decide⟩) (by simp) 1 rfl x1 d v1 w1 HS1.out.1 HS1.out.2.1).mono ?_
 rintro e w2 ⟨v2,hk,hQ⟩
 have HKM:=hid (HS1.out.2.2.trans hk)
 clear hk
 rcases hQ with ⟨x2,hx1,hx2,rfl,hPR⟩|⟨hx1,he⟩
 case inr =>
  have HF:Hid (R=none):=HR1.out.trans (by rw [hx1])
  clear hx1
  unfold zaa at he
  subst he
  go_wp2
  exact ⟨rfl,v2,HEND.out _ _ HKM.out,Or.inr ⟨HF.out,rfl⟩⟩
 have HR2:Hid (R=some x2):=HR1.out.trans (by rw [hx1])
 have HS2:=hid3 hPR hx2 HKM.out
 clear hx1 hx2 hPR 
 go_wp2
 first|go_end0|refine bodyPost_ret (results_none rfl _ _ _) rfl ?_
 exact ⟨v2,HEND.out _ _ HS2.out.2.2,Or.inl ⟨x2,HR2.out,HS2.out.2.1,rfl,HS2.out.1⟩⟩
set_option maxHeartbeats 2000000 in
set_option maxRecDepth 4000 in
theorem zkg {p:Nat} {d:Int} {w0:World} (word:List UInt8) (hw:word≠[]∧word.length<=64) {pa:ITree->List UInt8->Option (List UInt8)} (hpa:Does p d w0 100 (fun v=>#[.pointer (some ⟨p,0,none⟩),v]) pa) (hnu:Does p d w0 97 (fun v=>#[.pointer (some ⟨p,0,none⟩),v,.int .i64 0]) (zaz 0)):Does p d w0 99 (fun v=>#[.pointer (some ⟨p,0,none⟩),v,.string ⟨word.toArray⟩,.func (.func 100) #[.pointer (some ⟨p,0,none⟩)] #[]]) (numberedP word pa):=by
 refine ⟨fun w hf k n m a ks o c ht txt v0 h hx=>?_⟩
 have HTR:=hid ht
 have HN0:=hid ((zay ht).1)
 have HCC:=hid ((zay ht).2.2.1)
 have HPA:=hid (hpa.front hf)
 have HNU:=hid (hnu.front hf)
 have hn:=HN0.out
 clear ht hf hpa hnu
 obtain ⟨L,hL⟩:∃ L,ks.length=L:=⟨_,rfl⟩
 have HL:=hid hL
 rw [hL]
 rw [hL] at HCC
 clear hL
 have HWD:=hid hw
 clear hw
 have HP:=hid2 h hx
 obtain ⟨R,hR⟩:∃ R,numberedP word pa (.node k n m a ks) txt=R:=⟨_,rfl⟩
 rw [hR]
 have HR:=hid hR.symm
 have HMH:Hid (∀ w,Calls Tryz.prog 59 #[zaj k n m a (.slice o L c),.bool true,.int .i64 2,.int .i64 65] w (zb6 (zaw n true&&zan L m 2 65) w)):=fun w=>zbw k n m a o L c 2 65 w (by unfold maxLen at hn;omega)
 unfold zaj at HMH
 clear hn
 clear h hx hR
 obtain ⟨wa,hwa⟩:∃ x,w.alloc (.cells #[.int .i64 k,.string ⟨n.toArray⟩,.int .i64 m,.int .i64 a,.slice o L c] 29)=x:=⟨_,rfl⟩
 have HB:=hidB hwa
 have HK:Hid (wa.heap[w.heap.size]?=some (za2 k n m a (.slice o L c))):=by show _=_;rw [<- hwa];exact heap_alloc_new _ _
 have HS:Hid (PR wa p txt d v0∧txt.length<=16000∧Lx.Kept p v0 v0 wa wa):=⟨HP.out.1.below HB.out,HP.out.2,Lx.Kept.of_below (Below.refl _ _)⟩
 have HBK:=hid (boxed HP.out.1 HK.out)
 have HEND:Hid (∀ v' w',Lx.Kept p v0 v' wa w'->Lx.Kept p v0 v' w w'):=fun v' w' hk=>(Lx.Kept.of_below HB.out).trans hk
 have HFR:Hid (∀ v' w',Lx.Kept p v0 v' wa w'->za1 p w w'):=fun v' w' hk=>HP.out.1.front (HEND.out _ _ hk)
 obtain ⟨⟨z0,z1,z2,z3,z4⟩,_⟩:=zab HK.out
 unfold zaj
 go_enter Tryz.func99,Tryz.ntmps99
 go_wp2_with fail
 refine (HMH.out _).mono ?_
 rintro e w1 ⟨hB,hq⟩
 have HKM:=hid (HS.out.2.2.trans (Lx.Kept.of_below hB))
 have HPM:=hid (HS.out.1.below hB)
 clear hB
 rcases hq with ⟨hq,rfl⟩|⟨hq,he⟩
 case inr =>
  have HF:Hid (R=none):=by
   show _=_
   rw [HR.out];rw [zfu HL.out rfl];rw [hq];rfl
  clear hq
  unfold zaa at he
  subst he
  go_wp2
  exact ⟨rfl,v0,HEND.out _ _ HKM.out,Or.inr ⟨HF.out,rfl⟩⟩
 have HR1:Hid (R=(layP [word,n,[123]] txt).bind fun x=>(rowP pa (ks.drop 1) x).bind fun x=>(layP [[125],[61]] x).bind (zaz 0 (ks.getD 0 zby))):=by
  show _=_
  rw [HR.out];rw [zfu HL.out rfl];rw [hq];rfl
 have HQ1:=hid hq
 have HS1:=hid3 HPM.out HS.out.2.1 HKM.out
 clear hq z0 z1 z2 z3 z4 hwa
 have HN:Hid (n≠[]∧n.length<=64):=by
  have:=HQ1.out
  rw [Bool.and_eq_true] at this
  exact zco this.1
 have hlen:2<=L∧L<=65:=by
  have:=HQ1.out
  unfold zan at this
  simp at this
  omega
 have HLE:=hid hlen
 obtain ⟨g,f,ho,hg,hkd⟩:=zcy HTR.out (by have:=HL.out;omega)
 subst ho
 have HKA:=hid hkd
 clear hlen hg hkd
 obtain ⟨M,hM⟩:∃ M,L=M+1:=⟨L - 1,by have:=HLE.out;omega⟩
 subst hM
 have HOP:=hid HWD.out
 obtain ⟨k8,n8,m8,a8,us8,o8,c8,he8,hkd8⟩:=HKA.out (0) (by have:=HL.out;have:=HLE.out;omega)
 have HKE8:=hid he8
 have HKW8:=hid hkd8
 clear he8 hkd8
 have HKD:=hid (HKA.out.drop 1)
 have HR9:Hid (R=(layP [word,n,[123]] txt).bind fun x=>(rowP pa ((ks.drop 1).drop 0) x).bind fun x=>(layP [[125],[61]] x).bind (zaz 0 (.node k8 n8 m8 a8 us8))):=by show _=_;rw [HR1.out,HKE8.out];rfl
 obtain ⟨ts,hts⟩:∃ ts,ks.drop 1=ts:=⟨_,rfl⟩
 have HTL:Hid (ts.length=M):=by show _=_;rw [<- hts,List.length_drop];have:=HL.out;omega
 rw [hts] at HKD HR9
 clear hts
 have hm0:(0:Int)<=(M:Int):=by omega
 have hm1:(1:Int)<=(M:Int):=by have:=HLE.out;omega
 have hm2:(M:Int)<=64:=by have:=HLE.out;omega
 have HMM:Hid (M<=64):=by show _<=_;omega
 have hc1:(M:Int)+1<=(c:Int):=by have:=HCC.out;omega
 have hcn:(2:Int)<=(c:Int):=by omega
 have hc2:(c:Int)<=9223372036854775807:=by have:=HCC.out.2;unfold maxLen at this;omega
 obtain ⟨⟨z0,z1,z2,z3,z4⟩,_⟩:=zab (HBK.out _ _ HS1.out.2.2)
 clear z0 z2 z3
 go_wp2_with fail
 refine (za7 p [word,n,[123]] _ rfl (by intro t ht;simp only [List.mem_cons,List.not_mem_nil,or_false] at ht;rcases ht with rfl|rfl|rfl <;> first|exact HN.out|exact HOP.out|exact HSH.out|exact ⟨by decide,by decide⟩) (by simp) 3 rfl txt d v0 w1 HS1.out.1 HS1.out.2.1).mono ?_
 rintro e w2 ⟨v2,hk,hQ⟩
 have HKM:=hid (HS1.out.2.2.trans hk)
 clear hk
 rcases hQ with ⟨x2,hx1,hx2,rfl,hPR⟩|⟨hx1,he⟩
 case inr =>
  have HF:Hid (R=none):=HR9.out.trans (by rw [hx1];rfl)
  clear hx1
  unfold zaa at he
  subst he
  go_wp2
  exact ⟨rfl,v2,HEND.out _ _ HKM.out,Or.inr ⟨HF.out,rfl⟩⟩
 have HR2:Hid (R=(rowP pa (ts.drop 0) x2).bind fun x=>(layP [[125],[61]] x).bind (zaz 0 (.node k8 n8 m8 a8 us8))):=HR9.out.trans (by rw [hx1];rfl)
 have HS2:=hid3 hPR hx2 HKM.out
 clear hx1 hx2 hPR z1 z4
 obtain ⟨⟨z0,z1,z2,z3,z4⟩,_⟩:=zab (HBK.out _ _ HS2.out.2.2)
 clear z0 z1 z2 z3
 go_wp2_with fail
 go_loopw [22] (fun i wr=>∃ (q:Nat) (x:List UInt8) (v:Value),i=.int .i64 q∧q<=M∧Hid (PR wr p x d v∧x.length<=16000∧Lx.Kept p v0 v wa wr)∧Hid (R=(rowP pa (ts.drop q) x).bind fun x=>(layP [[125],[61]] x).bind (zaz 0 (.node k8 n8 m8 a8 us8)))) (fun i _=>M - (RowKit.intOf i).toNat)
 case atStart=>exact ⟨0,x2,v2,rfl,by omega,HS2,HR2⟩
 case round =>
  obtain ⟨q,x,v,rfl,hq,HSQ,HRQ⟩:=hrel
  by_cases hlt:q<M
  · have hlt' : (q:Int)<M:=by omega
    have hq0:(0:Int)<=(q:Int):=by omega
    have hqm:(q:Int)<=1000:=by have:=HMM.out;omega
    have HQL:=hid hlt
    have HQK:Hid (q<ts.length):=by show _<_;have:=HTL.out;omega
    obtain ⟨k1,n1,m1,a1,us,o1,c1,he,hkd⟩:=HKD.out q HQK.out
    have HDR:Hid (ts.drop q=.node k1 n1 m1 a1 us::ts.drop (q+1)):=by show _=_;rw [<- he];exact zdl HQK.out
    have HKT:Hid (∀ w2,za1 p w w2->TreeR p w2 (.node k1 n1 m1 a1 us) (zaj k1 n1 m1 a1 (.slice o1 us.length c1))):=fun w2 h2=>(hkd w2 h2).2
    have HKR:Hid (∀ w2,za1 p w w2->KidR w2 g ((f+5)+q*5) k1 n1 m1 a1 (.slice o1 us.length c1)):=fun w2 h2=>(hkd w2 h2).1
    obtain ⟨a0,b0,c0,d0,e0⟩:=HKR.out wr (HFR.out _ _ HSQ.out.2.2)
    obtain ⟨wb,hwb⟩:∃ x,wr.alloc (.cells #[.int .i64 k1,.string ⟨n1.toArray⟩,.int .i64 m1,.int .i64 a1,.slice o1 us.length c1] 29)=x:=⟨_,rfl⟩
    have HBB:Hid (Below wr.heap.size wr wb):=by show Below _ _ _;rw [<- hwb];exact zad _ _
    have HKB:Hid (wb.heap[wr.heap.size]?=some (za2 k1 n1 m1 a1 (.slice o1 us.length c1))):=by show _=_;rw [<- hwb];exact heap_alloc_new _ _
    obtain ⟨⟨y0,y1,y2,y3,y4⟩,_⟩:=zab HKB.out
    have HSB:=hid3 (HSQ.out.1.below HBB.out) HSQ.out.2.1 (HSQ.out.2.2.trans (Lx.Kept.of_below HBB.out))
    have HKBK:=hid (boxed HSQ.out.1 HKB.out)
    have HCB:Hid (Lx.Kept p v v wb wb):=Lx.Kept.of_below (Below.refl _ _)
    clear he hkd hlt
    have HRS:Hid (R=((pa (.node k1 n1 m1 a1 us) x).bind (rowP pa (ts.drop (q+1)))).bind fun x=>(layP [[125],[61]] x).bind (zaz 0 (.node k8 n8 m8 a8 us8))):=by show _=_;rw [HRQ.out,HDR.out];rfl
    clear HRQ HDR
    go_wp2_with fail
    refine (HPA.out.run wb (HFR.out _ _ HSB.out.2.2) k1 n1 m1 a1 us o1 c1 (HKT.out _ (HFR.out _ _ HSB.out.2.2)) x v HSB.out.1 HSB.out.2.1).mono ?_
    rintro e w23 ⟨v23,hk,hQ⟩
    have HKM:=hid (HSB.out.2.2.trans hk)
    clear hk
    rcases hQ with ⟨x23,hx1,hx2,rfl,hPR⟩|⟨hx1,he⟩
    case inr =>
     have HF:Hid (R=none):=HRS.out.trans (by rw [hx1];rfl)
     clear hx1
     unfold zaa at he
     subst he
     go_wp2
     exact ⟨rfl,v23,HEND.out _ _ HKM.out,Or.inr ⟨HF.out,rfl⟩⟩
    have HR23:Hid (R=(rowP pa (ts.drop (q+1)) x23).bind fun x=>(layP [[125],[61]] x).bind (zaz 0 (.node k8 n8 m8 a8 us8))):=HRS.out.trans (by rw [hx1];rfl)
    have HS23:=hid3 hPR hx2 HKM.out
    clear hx1 hx2 hPR a0 b0 c0 d0 e0 y0 y1 y2 y3 y4 hwb
    go_wp2
    go_roundw
    case rel=>exact ⟨q+1,x23,v23,by go_num,HQL.out,HS23,HR23⟩
    case measure=>have:=HQL.out;simp [RowKit.intOf];omega
  · have hqe:q=M:=by omega
    subst hqe
    have hlt2:¬ (q:Int)<q:=by omega
    have HRA:Hid (R=(layP [[125],[61]] x).bind (zaz 0 (.node k8 n8 m8 a8 us8))):=by show _=_;rw [HRQ.out,List.drop_of_length_le (by have:=HTL.out;omega)];rfl
    clear HRQ
    go_wp2_with fail
    refine (za7 p [[125],[61]] _ rfl (by intro t ht;simp only [List.mem_cons,List.not_mem_nil,or_false] at ht;rcases ht with rfl|rfl <;> first|exact HN.out|exact HOP.out|exact HSH.out|exact ⟨by decide,by decide⟩) (by simp) 2 rfl x d v wr HSQ.out.1 HSQ.out.2.1).mono ?_
    rintro e w43 ⟨v43,hk,hQ⟩
    have HKM:=hid (HSQ.out.2.2.trans hk)
    clear hk
    rcases hQ with ⟨x43,hx1,hx2,rfl,hPR⟩|⟨hx1,he⟩
    case inr =>
     have HF:Hid (R=none):=HRA.out.trans (by rw [hx1];rfl)
     clear hx1
     unfold zaa at he
     subst he
     go_wp2
     exact ⟨rfl,v43,HEND.out _ _ HKM.out,Or.inr ⟨HF.out,rfl⟩⟩
    have HR43:Hid (R=zaz 0 (.node k8 n8 m8 a8 us8) x43):=HRA.out.trans (by rw [hx1];rfl)
    have HS43:=hid3 hPR hx2 HKM.out
    clear hx1 hx2 hPR 
    obtain ⟨⟨z0,z1,z2,z3,z4⟩,_⟩:=zab (HBK.out _ _ HS43.out.2.2)
    clear z0 z1 z2 z3
    obtain ⟨q0,q1,q2,q3,q4⟩:=(HKW8.out _ (HFR.out _ _ HS43.out.2.2)).1
    simp only [Nat.zero_mul,Nat.add_zero] at q0 q1 q2 q3 q4
    go_wp2_with fail
    refine (HNU.out.run w43 (HFR.out _ _ HS43.out.2.2) k8 n8 m8 a8 us8 o8 c8 (HKW8.out _ (HFR.out _ _ HS43.out.2.2)).2 x43 v43 HS43.out.1 HS43.out.2.1).mono ?_
    rintro e w44 ⟨v44,hk,hQ⟩
    have HKM:=hid (HS43.out.2.2.trans hk)
    clear hk
    rcases hQ with ⟨x44,hx1,hx2,rfl,hPR⟩|⟨hx1,he⟩
    case inr =>
     have HF:=hid (HR43.out.trans (by rw [hx1]))
     clear hx1
     unfold zaa at he
     subst he
     go_wp2
     exact ⟨rfl,v44,HEND.out _ _ HKM.out,Or.inr ⟨HF.out,rfl⟩⟩
    have HR44:=hid (HR43.out.trans (by rw [hx1]))
    have HS44:=hid3 hPR hx2 HKM.out
    clear hx1 hx2 hPR z4 q0 q1 q2 q3 q4
    go_wp2
    first|go_end0|refine bodyPost_ret (results_none rfl _ _ _) rfl ?_
    exact ⟨v44,HEND.out _ _ HS44.out.2.2,Or.inl ⟨x44,HR44.out,HS44.out.2.1,rfl,HS44.out.1⟩⟩
end Go.Proofs.YtodfklpmbclgkaaGreatDoor.Pr
