import Derived.Test.YtodfklpmbclgkaaGreatDoorBack13
namespace Go.Proofs.YtodfklpmbclgkaaGreatDoor.Pr
open Go.RowKit Go.Lib
def zby:ITree:=.node 0 [] 0 0 []
theorem zlr {p:Nat} {w:World} {k m a:Int} {n:List UInt8} {ks:List ITree} {o:Option Addr} {c:Nat} (ht:TreeR p w (.node k n m a ks) (zaj k n m a (.slice o ks.length c))) (h0:0<ks.length) :
 ∃ g f,o=some ⟨g,f,none⟩∧g<p∧∀ j,j<ks.length->∃ k1 n1 m1 a1 us o1 c1,ks.getD j zby=.node k1 n1 m1 a1 us∧∀ w2,za1 p w w2->KidR w2 g (f+j*5) k1 n1 m1 a1 (.slice o1 us.length c1)∧TreeR p w2 (.node k1 n1 m1 a1 us) (zaj k1 n1 m1 a1 (.slice o1 us.length c1)):=by
 obtain ⟨_,_,_,h6⟩:=zay ht
 rcases h6 with rfl|⟨g,f,rfl,hg,hr⟩
 · simp at h0
 · refine ⟨g,f,rfl,hg,fun j hj=>?_⟩
   obtain ⟨k1,n1,m1,a1,us,he⟩:∃ k1 n1 m1 a1 us,ks[j]=.node k1 n1 m1 a1 us:=by
    cases hk:ks[j] with
    | node k1 n1 m1 a1 us=>exact ⟨k1,n1,m1,a1,us,rfl⟩
   obtain ⟨o1,c1,h1,h2⟩:=zg1 hr j hj k1 m1 a1 n1 us he
   refine ⟨k1,n1,m1,a1,us,o1,c1,by rw [List.getD_eq_getElem?_getD,List.getElem?_eq_getElem hj];exact he,fun w2 hf=>⟨h1.frame (hf g hg),TreeR.frame (Nat.le_refl _) (fun b hb=>hf b hb) _ _ h2⟩⟩
theorem zd3.front {p:Nat} {w w' : World} (h:zd3 w) (h0:0<p) (hf:za1 p w w'):zd3 w':=by
 obtain ⟨t,fr,h⟩:=h
 exact ⟨t,fr,(hf 0 h0).trans h⟩
def zaz (least:Int) (t:ITree) (txt:List UInt8):Option (List UInt8):=zgj least t.kind t.name t.num t.kids.length txt
def zgz (word:List UInt8) (t:ITree) (txt:List UInt8):Option (List UInt8):=aloneP word t.name t.num t.kids.length txt
def zat (t:ITree) (txt:List UInt8):Option (List UInt8):=valueP t.kind t.name t.num t.kids.length txt
def zcg (t:ITree) (txt:List UInt8):Option (List UInt8):=bareP t.kind t.name t.num t.kids.length txt
def zcl (t:ITree) (txt:List UInt8):Option (List UInt8):=resultP (zcg t) t.kind t.name t.num t.kids.length txt
theorem zg4 {p:Nat} {d:Int} {w0:World} (least:Int) (hI:zey (fun m=>-9223372036854775808<=m∧m<=9223372036854775807) p w0):Does p d w0 97 (fun v=>#[.pointer (some ⟨p,0,none⟩),v,.int .i64 least]) (zaz least) :=
 ⟨fun w hf k n m a ks o c ht txt v0 h hx=>zia p k n m a o ks.length c least txt d v0 w h hx (zay ht).2.1.1 (zay ht).2.1.2 (fun w1 hw=>hI m (zay ht).2.1 w1 (hf.trans (za1.of_below (Nat.le_of_lt h.lt) hw)))⟩
theorem znv {p:Nat} {d:Int} {w0:World} (word:List UInt8) (hw:word≠[]∧word.length<=64):Does p d w0 131 (fun v=>#[.pointer (some ⟨p,0,none⟩),v,.string ⟨word.toArray⟩]) (zgz word) :=
 ⟨fun w _ k n m a ks o c ht txt v0 h hx=>zdm p k n m a o ks.length c word hw txt d v0 w h hx (zay ht).1⟩
theorem znu {p:Nat} {d:Int} {w0:World} (hI:zey (fun m=>-9223372036854775808<=m∧m<=9223372036854775807) p w0):Does p d w0 157 (fun v=>#[.pointer (some ⟨p,0,none⟩),v]) zat :=
 ⟨fun w hf k n m a ks o c ht txt v0 h hx=>zfs p k n m a o ks.length c (zay ht).2.1 txt d v0 w h hx (zay ht).1 (hI.front hf)⟩
theorem zl9 {p:Nat} {d:Int} {w0:World} (hG:zd3 w0) (h0:0<p):Does p d w0 156 (fun v=>#[.pointer (some ⟨p,0,none⟩),v]) zcg :=
 ⟨fun w hf k n m a ks o c ht txt v0 h hx=>zh3 p k n m a o ks.length c txt d v0 w h hx (zay ht).1 (zd3.front hG h0 hf) h0⟩
theorem does_result {p:Nat} {d:Int} {w0:World} (hG:zd3 w0) (h0:0<p):Does p d w0 158 (fun v=>#[.pointer (some ⟨p,0,none⟩),v]) zcl :=
 ⟨fun w hf k n m a ks o c ht txt v0 h hx=>zje p k n m a o ks.length c (zcg (.node k n m a ks)) txt d v0 w h hx (zay ht).1 (fun _ w1 h1 txt v0 h hx=>zh3 p k n m a o ks.length c txt d v0 w1 h hx (zay ht).1 (zd3.front hG h0 (hf.trans h1)) h0)⟩
def zaq (bo:ITree->List UInt8->Option (List UInt8)) (t:ITree) (txt:List UInt8):Option (List UInt8):=if t.kind=4∨t.kind=6∨t.kind=7 then bo t txt else zcg t txt
def zcu (de:ITree->List UInt8->Option (List UInt8)) (t:ITree) (txt:List UInt8):Option (List UInt8):=(de t txt).bind (layP [[59]])
set_option maxHeartbeats 2000000 in
set_option maxRecDepth 4000 in
theorem zj6 {p:Nat} {d:Int} {w0:World} {bo:ITree->List UInt8->Option (List UInt8)} (hbo:Does p d w0 101 (fun v=>#[.pointer (some ⟨p,0,none⟩),v,.bool false]) bo) (hba:Does p d w0 156 (fun v=>#[.pointer (some ⟨p,0,none⟩),v]) zcg):Does p d w0 132 (fun v=>#[.pointer (some ⟨p,0,none⟩),v]) (zaq bo):=by
 refine ⟨fun w hf k n m a ks o c ht txt v0 h hx=>?_⟩
 have HBO:Hid (∀ w2,za1 p w w2->∀ txt v0,PR w2 p txt d v0->txt.length<=16000->Calls Tryz.prog 101 #[.pointer (some ⟨p,0,none⟩),zaj k n m a (.slice o ks.length c),.bool false] w2 (zbp p d v0 (bo (.node k n m a ks) txt) w2)):=fun w2 h2 txt v0 h hx=>hbo.run w2 (hf.trans h2) k n m a ks o c (ht.frame (Nat.le_refl _) (fun b hb=>h2 b hb) _ _) txt v0 h hx
 have HBA:Hid (∀ w2,za1 p w w2->∀ txt v0,PR w2 p txt d v0->txt.length<=16000->Calls Tryz.prog 156 #[.pointer (some ⟨p,0,none⟩),zaj k n m a (.slice o ks.length c)] w2 (zbp p d v0 (zcg (.node k n m a ks) txt) w2)):=fun w2 h2 txt v0 h hx=>hba.run w2 (hf.trans h2) k n m a ks o c (ht.frame (Nat.le_refl _) (fun b hb=>h2 b hb) _ _) txt v0 h hx
 obtain ⟨L,hL⟩:∃ L,ks.length=L:=⟨_,rfl⟩
 have HE:Hid (zaq bo (.node k n m a ks) txt=if k=4∨k=6∨k=7 then bo (.node k n m a ks) txt else zcg (.node k n m a ks) txt):=rfl
 rw [hL] at HBO HBA ⊢
 clear ht hf hbo hba hL
 unfold zaj at HBO HBA
 by_cases h1:k=4∨k=6∨k=7
 · rcases h1 with rfl|rfl|rfl
   · skip
     have HP:=hid2 h hx
     obtain ⟨R,hR⟩:∃ R,zaq bo (.node 4 n m a ks) txt=R:=⟨_,rfl⟩
     rw [hR]
     have HR:Hid (R=zaq bo (.node 4 n m a ks) txt):=hR.symm
     clear h hx hR
     obtain ⟨wa,hwa⟩:∃ x,w.alloc (.cells #[.int .i64 4,.string ⟨n.toArray⟩,.int .i64 m,.int .i64 a,.slice o L c] 29)=x:=⟨_,rfl⟩
     have HB:=hidB hwa
     have HK:Hid (wa.heap[w.heap.size]?=some (za2 4 n m a (.slice o L c))):=by show _=_;rw [<- hwa];exact heap_alloc_new _ _
     have HS:Hid (PR wa p txt d v0∧txt.length<=16000∧Lx.Kept p v0 v0 wa wa):=⟨HP.out.1.below HB.out,HP.out.2,Lx.Kept.of_below (Below.refl _ _)⟩
     have HBK:Hid (∀ v' w',Lx.Kept p v0 v' wa w'->w'.heap[w.heap.size]?=some (za2 4 n m a (.slice o L c))):=boxed HP.out.1 HK.out
     have HEND:Hid (∀ v' w',Lx.Kept p v0 v' wa w'->Lx.Kept p v0 v' w w'):=fun v' w' hk=>(Lx.Kept.of_below HB.out).trans hk
     have HFR:Hid (∀ v' w',Lx.Kept p v0 v' wa w'->za1 p w w'):=fun v' w' hk=>HP.out.1.front (HEND.out _ _ hk)
     obtain ⟨⟨z0,z1,z2,z3,z4⟩,_⟩:=zab HK.out
     unfold zaj
     have HR0:Hid (R=bo (.node 4 n m a ks) txt):=HR.out
     go_enter Tryz.func132,Tryz.ntmps132
     go_wp2_with fail
     refine (HBO.out wa (HFR.out _ _ HS.out.2.2) txt v0 HS.out.1 HS.out.2.1).mono ?_
     rintro e w1 ⟨v1,hk,hQ⟩
     have HKM:=hid (HS.out.2.2.trans hk)
     clear hk
     rcases hQ with ⟨x1,hx1,hx2,rfl,hPR⟩|⟨hx1,he⟩
     case inr =>
      have HF:Hid (R=none):=HR0.out.trans (by rw [hx1])
      clear hx1
      unfold zaa at he
      subst he
      go_wp2
      exact ⟨rfl,v1,HEND.out _ _ HKM.out,Or.inr ⟨HF.out,rfl⟩⟩
     have HR1:Hid (R=some x1):=HR0.out.trans (by rw [hx1])
     have HS1:=hid3 hPR hx2 HKM.out
     clear hx1 hx2 hPR 
     go_wp2
     first|go_end0|refine bodyPost_ret (results_none rfl _ _ _) rfl ?_
     exact ⟨v1,HEND.out _ _ HS1.out.2.2,Or.inl ⟨x1,HR1.out,HS1.out.2.1,rfl,HS1.out.1⟩⟩
   · skip
     have HP:=hid2 h hx
     obtain ⟨R,hR⟩:∃ R,zaq bo (.node 6 n m a ks) txt=R:=⟨_,rfl⟩
     rw [hR]
     have HR:Hid (R=zaq bo (.node 6 n m a ks) txt):=hR.symm
     clear h hx hR
     obtain ⟨wa,hwa⟩:∃ x,w.alloc (.cells #[.int .i64 6,.string ⟨n.toArray⟩,.int .i64 m,.int .i64 a,.slice o L c] 29)=x:=⟨_,rfl⟩
     have HB:=hidB hwa
     have HK:Hid (wa.heap[w.heap.size]?=some (za2 6 n m a (.slice o L c))):=by show _=_;rw [<- hwa];exact heap_alloc_new _ _
     have HS:Hid (PR wa p txt d v0∧txt.length<=16000∧Lx.Kept p v0 v0 wa wa):=⟨HP.out.1.below HB.out,HP.out.2,Lx.Kept.of_below (Below.refl _ _)⟩
     have HBK:Hid (∀ v' w',Lx.Kept p v0 v' wa w'->w'.heap[w.heap.size]?=some (za2 6 n m a (.slice o L c))):=boxed HP.out.1 HK.out
     have HEND:Hid (∀ v' w',Lx.Kept p v0 v' wa w'->Lx.Kept p v0 v' w w'):=fun v' w' hk=>(Lx.Kept.of_below HB.out).trans hk
     have HFR:Hid (∀ v' w',Lx.Kept p v0 v' wa w'->za1 p w w'):=fun v' w' hk=>HP.out.1.front (HEND.out _ _ hk)
     obtain ⟨⟨z0,z1,z2,z3,z4⟩,_⟩:=zab HK.out
     unfold zaj
     have HR0:Hid (R=bo (.node 6 n m a ks) txt):=HR.out
     go_enter Tryz.func132,Tryz.ntmps132
     go_wp2_with fail
     refine (HBO.out wa (HFR.out _ _ HS.out.2.2) txt v0 HS.out.1 HS.out.2.1).mono ?_
     rintro e w1 ⟨v1,hk,hQ⟩
     have HKM:=hid (HS.out.2.2.trans hk)
     clear hk
     rcases hQ with ⟨x1,hx1,hx2,rfl,hPR⟩|⟨hx1,he⟩
     case inr =>
      have HF:Hid (R=none):=HR0.out.trans (by rw [hx1])
      clear hx1
      unfold zaa at he
      subst he
      go_wp2
      exact ⟨rfl,v1,HEND.out _ _ HKM.out,Or.inr ⟨HF.out,rfl⟩⟩
     have HR1:Hid (R=some x1):=HR0.out.trans (by rw [hx1])
     have HS1:=hid3 hPR hx2 HKM.out
     clear hx1 hx2 hPR 
     go_wp2
     first|go_end0|refine bodyPost_ret (results_none rfl _ _ _) rfl ?_
     exact ⟨v1,HEND.out _ _ HS1.out.2.2,Or.inl ⟨x1,HR1.out,HS1.out.2.1,rfl,HS1.out.1⟩⟩
   · skip
     have HP:=hid2 h hx
     obtain ⟨R,hR⟩:∃ R,zaq bo (.node 7 n m a ks) txt=R:=⟨_,rfl⟩
     rw [hR]
     have HR:Hid (R=zaq bo (.node 7 n m a ks) txt):=hR.symm
     clear h hx hR
     obtain ⟨wa,hwa⟩:∃ x,w.alloc (.cells #[.int .i64 7,.string ⟨n.toArray⟩,.int .i64 m,.int .i64 a,.slice o L c] 29)=x:=⟨_,rfl⟩
     have HB:=hidB hwa
     have HK:Hid (wa.heap[w.heap.size]?=some (za2 7 n m a (.slice o L c))):=by show _=_;rw [<- hwa];exact heap_alloc_new _ _
     have HS:Hid (PR wa p txt d v0∧txt.length<=16000∧Lx.Kept p v0 v0 wa wa):=⟨HP.out.1.below HB.out,HP.out.2,Lx.Kept.of_below (Below.refl _ _)⟩
     have HBK:Hid (∀ v' w',Lx.Kept p v0 v' wa w'->w'.heap[w.heap.size]?=some (za2 7 n m a (.slice o L c))):=boxed HP.out.1 HK.out
     have HEND:Hid (∀ v' w',Lx.Kept p v0 v' wa w'->Lx.Kept p v0 v' w w'):=fun v' w' hk=>(Lx.Kept.of_below HB.out).trans hk
     have HFR:Hid (∀ v' w',Lx.Kept p v0 v' wa w'->za1 p w w'):=fun v' w' hk=>HP.out.1.front (HEND.out _ _ hk)
     obtain ⟨⟨z0,z1,z2,z3,z4⟩,_⟩:=zab HK.out
     unfold zaj
     have HR0:Hid (R=bo (.node 7 n m a ks) txt):=HR.out
     go_enter Tryz.func132,Tryz.ntmps132
     go_wp2_with fail
     refine (HBO.out wa (HFR.out _ _ HS.out.2.2) txt v0 HS.out.1 HS.out.2.1).mono ?_
     rintro e w1 ⟨v1,hk,hQ⟩
     have HKM:=hid (HS.out.2.2.trans hk)
     clear hk
     rcases hQ with ⟨x1,hx1,hx2,rfl,hPR⟩|⟨hx1,he⟩
     case inr =>
      have HF:Hid (R=none):=HR0.out.trans (by rw [hx1])
      clear hx1
      unfold zaa at he
      subst he
      go_wp2
      exact ⟨rfl,v1,HEND.out _ _ HKM.out,Or.inr ⟨HF.out,rfl⟩⟩
     have HR1:Hid (R=some x1):=HR0.out.trans (by rw [hx1])
     have HS1:=hid3 hPR hx2 HKM.out
     clear hx1 hx2 hPR 
     go_wp2
     first|go_end0|refine bodyPost_ret (results_none rfl _ _ _) rfl ?_
     exact ⟨v1,HEND.out _ _ HS1.out.2.2,Or.inl ⟨x1,HR1.out,HS1.out.2.1,rfl,HS1.out.1⟩⟩
 · have j1:(k==4)=false:=by simp;omega
   have j2:(k==6)=false:=by simp;omega
   have j3:(k==7)=false:=by simp;omega
   have HP:=hid2 h hx
   obtain ⟨R,hR⟩:∃ R,zaq bo (.node k n m a ks) txt=R:=⟨_,rfl⟩
   rw [hR]
   have HR:Hid (R=zaq bo (.node k n m a ks) txt):=hR.symm
   clear h hx hR
   obtain ⟨wa,hwa⟩:∃ x,w.alloc (.cells #[.int .i64 k,.string ⟨n.toArray⟩,.int .i64 m,.int .i64 a,.slice o L c] 29)=x:=⟨_,rfl⟩
   have HB:=hidB hwa
   have HK:Hid (wa.heap[w.heap.size]?=some (za2 k n m a (.slice o L c))):=by show _=_;rw [<- hwa];exact heap_alloc_new _ _
   have HS:Hid (PR wa p txt d v0∧txt.length<=16000∧Lx.Kept p v0 v0 wa wa):=⟨HP.out.1.below HB.out,HP.out.2,Lx.Kept.of_below (Below.refl _ _)⟩
   have HBK:Hid (∀ v' w',Lx.Kept p v0 v' wa w'->w'.heap[w.heap.size]?=some (za2 k n m a (.slice o L c))):=boxed HP.out.1 HK.out
   have HEND:Hid (∀ v' w',Lx.Kept p v0 v' wa w'->Lx.Kept p v0 v' w w'):=fun v' w' hk=>(Lx.Kept.of_below HB.out).trans hk
   have HFR:Hid (∀ v' w',Lx.Kept p v0 v' wa w'->za1 p w w'):=fun v' w' hk=>HP.out.1.front (HEND.out _ _ hk)
   obtain ⟨⟨z0,z1,z2,z3,z4⟩,_⟩:=zab HK.out
   unfold zaj
   have HR0:Hid (R=zcg (.node k n m a ks) txt):=by show _=_;rw [HR.out,HE.out,if_neg h1]
   clear h1
   go_enter Tryz.func132,Tryz.ntmps132
   go_wp2_with fail
   refine (HBA.out wa (HFR.out _ _ HS.out.2.2) txt v0 HS.out.1 HS.out.2.1).mono ?_
   rintro e w1 ⟨v1,hk,hQ⟩
   have HKM:=hid (HS.out.2.2.trans hk)
   clear hk
   rcases hQ with ⟨x1,hx1,hx2,rfl,hPR⟩|⟨hx1,he⟩
   case inr =>
    have HF:Hid (R=none):=HR0.out.trans (by rw [hx1])
    clear hx1
    unfold zaa at he
    subst he
    go_wp2
    exact ⟨rfl,v1,HEND.out _ _ HKM.out,Or.inr ⟨HF.out,rfl⟩⟩
   have HR1:Hid (R=some x1):=HR0.out.trans (by rw [hx1])
   have HS1:=hid3 hPR hx2 HKM.out
   clear hx1 hx2 hPR 
   go_wp2
   first|go_end0|refine bodyPost_ret (results_none rfl _ _ _) rfl ?_
   exact ⟨v1,HEND.out _ _ HS1.out.2.2,Or.inl ⟨x1,HR1.out,HS1.out.2.1,rfl,HS1.out.1⟩⟩
set_option maxHeartbeats 2000000 in
set_option maxRecDepth 4000 in
theorem does_field {p:Nat} {d:Int} {w0:World} {de:ITree->List UInt8->Option (List UInt8)} (hde:Does p d w0 98 (fun v=>#[.pointer (some ⟨p,0,none⟩),v]) de):Does p d w0 160 (fun v=>#[.pointer (some ⟨p,0,none⟩),v]) (zcu de):=by
 refine ⟨fun w hf k n m a ks o c ht txt v0 h hx=>?_⟩
 have HDE:Hid (∀ w2,za1 p w w2->∀ txt v0,PR w2 p txt d v0->txt.length<=16000->Calls Tryz.prog 98 #[.pointer (some ⟨p,0,none⟩),zaj k n m a (.slice o ks.length c)] w2 (zbp p d v0 (de (.node k n m a ks) txt) w2)):=fun w2 h2 txt v0 h hx=>hde.run w2 (hf.trans h2) k n m a ks o c (ht.frame (Nat.le_refl _) (fun b hb=>h2 b hb) _ _) txt v0 h hx
 obtain ⟨L,hL⟩:∃ L,ks.length=L:=⟨_,rfl⟩
 rw [hL] at HDE ⊢
 clear ht hf hde hL
 unfold zaj at HDE
 have HP:=hid2 h hx
 obtain ⟨R,hR⟩:∃ R,zcu de (.node k n m a ks) txt=R:=⟨_,rfl⟩
 rw [hR]
 have HR:Hid (R=zcu de (.node k n m a ks) txt):=hR.symm
 clear h hx hR
 obtain ⟨wa,hwa⟩:∃ x,w.alloc (.cells #[.int .i64 k,.string ⟨n.toArray⟩,.int .i64 m,.int .i64 a,.slice o L c] 29)=x:=⟨_,rfl⟩
 have HB:=hidB hwa
 have HK:Hid (wa.heap[w.heap.size]?=some (za2 k n m a (.slice o L c))):=by show _=_;rw [<- hwa];exact heap_alloc_new _ _
 have HS:Hid (PR wa p txt d v0∧txt.length<=16000∧Lx.Kept p v0 v0 wa wa):=⟨HP.out.1.below HB.out,HP.out.2,Lx.Kept.of_below (Below.refl _ _)⟩
 have HBK:Hid (∀ v' w',Lx.Kept p v0 v' wa w'->w'.heap[w.heap.size]?=some (za2 k n m a (.slice o L c))):=boxed HP.out.1 HK.out
 have HEND:Hid (∀ v' w',Lx.Kept p v0 v' wa w'->Lx.Kept p v0 v' w w'):=fun v' w' hk=>(Lx.Kept.of_below HB.out).trans hk
 have HFR:Hid (∀ v' w',Lx.Kept p v0 v' wa w'->za1 p w w'):=fun v' w' hk=>HP.out.1.front (HEND.out _ _ hk)
 obtain ⟨⟨z0,z1,z2,z3,z4⟩,_⟩:=zab HK.out
 unfold zaj
 have HR0:Hid (R=(de (.node k n m a ks) txt).bind (layP [[59]])):=HR.out
 go_enter Tryz.func160,Tryz.ntmps160
 go_wp2_with fail
 refine (HDE.out wa (HFR.out _ _ HS.out.2.2) txt v0 HS.out.1 HS.out.2.1).mono ?_
 rintro e w1 ⟨v1,hk,hQ⟩
 have HKM:=hid (HS.out.2.2.trans hk)
 clear hk
 rcases hQ with ⟨x1,hx1,hx2,rfl,hPR⟩|⟨hx1,he⟩
 case inr =>
  have HF:Hid (R=none):=HR0.out.trans (by rw [hx1];rfl)
  clear hx1
  unfold zaa at he
  subst he
  go_wp2
  exact ⟨rfl,v1,HEND.out _ _ HKM.out,Or.inr ⟨HF.out,rfl⟩⟩
 have HR1:Hid (R=layP [[59]] x1):=HR0.out.trans (by rw [hx1];rfl)
 have HS1:=hid3 hPR hx2 HKM.out
 clear hx1 hx2 hPR z0 z1 z2 z3 z4
 go_wp2_with fail
 refine (za7 p [[59]] _ rfl (by intro t ht;simp only [List.mem_cons,List.not_mem_nil,or_false] at ht;rcases ht with rfl <;> first|exact HN.out|exact HOP.out|exact HSH.out|exact ⟨by decide,by decide⟩) (by simp) 1 rfl x1 d v1 w1 HS1.out.1 HS1.out.2.1).mono ?_
 rintro e w2 ⟨v2,hk,hQ⟩
 have HKM:=hid (HS1.out.2.2.trans hk)
 clear hk
 rcases hQ with ⟨x2,hx1,hx2,rfl,hPR⟩|⟨hx1,he⟩
 case inr =>
  have HF:Hid (R=none):=HR1.out.trans (by rw [hx1])
  clear hx1
  unfold zaa at he
  subst he
  go_wp2
  exact ⟨rfl,v2,HEND.out _ _ HKM.out,Or.inr ⟨HF.out,rfl⟩⟩
 have HR2:Hid (R=some x2):=HR1.out.trans (by rw [hx1])
 have HS2:=hid3 hPR hx2 HKM.out
 clear hx1 hx2 hPR 
 go_wp2
 first|go_end0|refine bodyPost_ret (results_none rfl _ _ _) rfl ?_
 exact ⟨v2,HEND.out _ _ HS2.out.2.2,Or.inl ⟨x2,HR2.out,HS2.out.2.1,rfl,HS2.out.1⟩⟩
def zfy (word:List UInt8) (hasName:Bool) (least most:Nat) (n:List UInt8) (m:Int) (L:Nat) (txt:List UInt8):Option (List UInt8) :=
 if zaw n hasName&&zan L m least most then (layP [word] txt).bind (fun x=>if hasName then layP [n] x else some x) else none
set_option maxHeartbeats 2000000 in
set_option maxRecDepth 4000 in
theorem zlt (p:Nat) (k:Int) (n:List UInt8) (m a:Int) (o:Option Addr) (L c:Nat) (word:List UInt8) (hw:word≠[]∧word.length<=64) (least most:Nat) (txt:List UInt8) (d:Int) (v0:Value) (w:World) (h:PR w p txt d v0) (hx:txt.length<=16000) (hn:n.length<=maxLen) :
 Calls Tryz.prog 135 #[.pointer (some ⟨p,0,none⟩),zaj k n m a (.slice o L c),.string ⟨word.toArray⟩,.bool true,.int .i64 least,.int .i64 most] w (zbp p d v0 (zfy word true least most n m L txt) w):=by
 have HP:=hid2 h hx
 obtain ⟨R,hR⟩:∃ R,zfy word true least most n m L txt=R:=⟨_,rfl⟩
 rw [hR]
 have HR:=hid hR.symm
 have HMH:Hid (∀ w,Calls Tryz.prog 59 #[zaj k n m a (.slice o L c),.bool true,.int .i64 least,.int .i64 most] w (zb6 (zaw n true&&zan L m least most) w)):=fun w=>zbw k n m a o L c least most w (by unfold maxLen at hn;omega)
 unfold zaj at HMH
 have HN:=hid hw
 clear hn hw
 clear h hx hR
 obtain ⟨wa,hwa⟩:∃ x,w.alloc (.cells #[.int .i64 k,.string ⟨n.toArray⟩,.int .i64 m,.int .i64 a,.slice o L c] 29)=x:=⟨_,rfl⟩
 have HB:=hidB hwa
 have HK:Hid (wa.heap[w.heap.size]?=some (za2 k n m a (.slice o L c))):=by show _=_;rw [<- hwa];exact heap_alloc_new _ _
 have HS:Hid (PR wa p txt d v0∧txt.length<=16000∧Lx.Kept p v0 v0 wa wa):=⟨HP.out.1.below HB.out,HP.out.2,Lx.Kept.of_below (Below.refl _ _)⟩
 have HBK:=hid (boxed HP.out.1 HK.out)
 have HEND:Hid (∀ v' w',Lx.Kept p v0 v' wa w'->Lx.Kept p v0 v' w w'):=fun v' w' hk=>(Lx.Kept.of_below HB.out).trans hk
 have HFR:Hid (∀ v' w',Lx.Kept p v0 v' wa w'->za1 p w w'):=fun v' w' hk=>HP.out.1.front (HEND.out _ _ hk)
 obtain ⟨⟨z0,z1,z2,z3,z4⟩,_⟩:=zab HK.out
 unfold zaj
 go_enter Tryz.func135,Tryz.ntmps135
 go_wp2_with fail
 refine (HMH.out _).mono ?_
 rintro e w1 ⟨hB,hq⟩
 have HKM:=hid (HS.out.2.2.trans (Lx.Kept.of_below hB))
 have HPM:=hid (HS.out.1.below hB)
 clear hB
 rcases hq with ⟨hq,rfl⟩|⟨hq,he⟩
 case inr =>
  have HF:Hid (R=none):=by
   show _=_
   rw [HR.out];unfold zfy;rw [hq];rfl
  clear hq
  unfold zaa at he
  subst he
  go_wp2
  exact ⟨rfl,v0,HEND.out _ _ HKM.out,Or.inr ⟨HF.out,rfl⟩⟩
 have HR1:Hid (R=(layP [word] txt).bind (fun x=>if (true:Bool) then layP [n] x else some x)):=by
  show _=_
  rw [HR.out];unfold zfy;rw [hq];rfl
 have HQ1:=hid hq
 have HS1:=hid3 HPM.out HS.out.2.1 HKM.out
 clear hq z0 z1 z2 z3 z4
 go_wp2_with fail
 refine (za7 p [word] _ rfl (by intro t ht;simp only [List.mem_cons,List.not_mem_nil,or_false] at ht;rcases ht with rfl <;> first|exact HN.out|exact HOP.out|exact HSH.out|exact ⟨by decide,by decide⟩) (by simp) 1 rfl txt d v0 w1 HS1.out.1 HS1.out.2.1).mono ?_
 rintro e w2 ⟨v2,hk,hQ⟩
 have HKM:=hid (HS1.out.2.2.trans hk)
 clear hk
 rcases hQ with ⟨x2,hx1,hx2,rfl,hPR⟩|⟨hx1,he⟩
 case inr =>
  have HF:Hid (R=none):=HR1.out.trans (by rw [hx1];rfl)
  clear hx1
  unfold zaa at he
  subst he
  go_wp2
  exact ⟨rfl,v2,HEND.out _ _ HKM.out,Or.inr ⟨HF.out,rfl⟩⟩
 have HR2:Hid (R=layP [n] x2):=HR1.out.trans (by rw [hx1];rfl)
 have HS2:=hid3 hPR hx2 HKM.out
 clear hx1 hx2 hPR 
 have HN2:Hid (n≠[]∧n.length<=64):=by
  have:=HQ1.out
  rw [Bool.and_eq_true] at this
  exact zco this.1
 clear HN
 have HN:=hid HN2.out
 obtain ⟨⟨z0,z1,z2,z3,z4⟩,_⟩:=zab (HBK.out _ _ HS2.out.2.2)
 clear z0 z2 z3 z4
 go_wp2_with fail
 refine (za7 p [n] _ rfl (by intro t ht;simp only [List.mem_cons,List.not_mem_nil,or_false] at ht;rcases ht with rfl <;> first|exact HN.out|exact HOP.out|exact HSH.out|exact ⟨by decide,by decide⟩) (by simp) 1 rfl x2 d v2 w2 HS2.out.1 HS2.out.2.1).mono ?_
 rintro e w3 ⟨v3,hk,hQ⟩
 have HKM:=hid (HS2.out.2.2.trans hk)
 clear hk
 rcases hQ with ⟨x3,hx1,hx2,rfl,hPR⟩|⟨hx1,he⟩
 case inr =>
  have HF:=hid (HR2.out.trans (by rw [hx1]))
  clear hx1
  unfold zaa at he
  subst he
  go_wp2
  exact ⟨rfl,v3,HEND.out _ _ HKM.out,Or.inr ⟨HF.out,rfl⟩⟩
 have HR3:=hid (HR2.out.trans (by rw [hx1]))
 have HS3:=hid3 hPR hx2 HKM.out
 clear hx1 hx2 hPR z1
 go_wp2
 first|go_end0|refine bodyPost_ret (results_none rfl _ _ _) rfl ?_
 exact ⟨v3,HEND.out _ _ HS3.out.2.2,Or.inl ⟨x3,HR3.out,HS3.out.2.1,rfl,HS3.out.1⟩⟩
set_option maxHeartbeats 2000000 in
set_option maxRecDepth 4000 in
theorem zjk (p:Nat) (k:Int) (n:List UInt8) (m a:Int) (o:Option Addr) (L c:Nat) (word:List UInt8) (hw:word≠[]∧word.length<=64) (least most:Nat) (txt:List UInt8) (d:Int) (v0:Value) (w:World) (h:PR w p txt d v0) (hx:txt.length<=16000) (hn:n.length<=maxLen) :
 Calls Tryz.prog 135 #[.pointer (some ⟨p,0,none⟩),zaj k n m a (.slice o L c),.string ⟨word.toArray⟩,.bool false,.int .i64 least,.int .i64 most] w (zbp p d v0 (zfy word false least most n m L txt) w):=by
 have HP:=hid2 h hx
 obtain ⟨R,hR⟩:∃ R,zfy word false least most n m L txt=R:=⟨_,rfl⟩
 rw [hR]
 have HR:=hid hR.symm
 have HMH:Hid (∀ w,Calls Tryz.prog 59 #[zaj k n m a (.slice o L c),.bool false,.int .i64 least,.int .i64 most] w (zb6 (zaw n false&&zan L m least most) w)):=fun w=>zc3 k n m a o L c least most w (by unfold maxLen at hn;omega)
 unfold zaj at HMH
 have HN:=hid hw
 clear hn hw
 clear h hx hR
 obtain ⟨wa,hwa⟩:∃ x,w.alloc (.cells #[.int .i64 k,.string ⟨n.toArray⟩,.int .i64 m,.int .i64 a,.slice o L c] 29)=x:=⟨_,rfl⟩
 have HB:=hidB hwa
 have HK:Hid (wa.heap[w.heap.size]?=some (za2 k n m a (.slice o L c))):=by show _=_;rw [<- hwa];exact heap_alloc_new _ _
 have HS:Hid (PR wa p txt d v0∧txt.length<=16000∧Lx.Kept p v0 v0 wa wa):=⟨HP.out.1.below HB.out,HP.out.2,Lx.Kept.of_below (Below.refl _ _)⟩
 have HBK:=hid (boxed HP.out.1 HK.out)
 have HEND:Hid (∀ v' w',Lx.Kept p v0 v' wa w'->Lx.Kept p v0 v' w w'):=fun v' w' hk=>(Lx.Kept.of_below HB.out).trans hk
 have HFR:Hid (∀ v' w',Lx.Kept p v0 v' wa w'->za1 p w w'):=fun v' w' hk=>HP.out.1.front (HEND.out _ _ hk)
 obtain ⟨⟨z0,z1,z2,z3,z4⟩,_⟩:=zab HK.out
 unfold zaj
 go_enter Tryz.func135,Tryz.ntmps135
 go_wp2_with fail
 refine (HMH.out _).mono ?_
 rintro e w1 ⟨hB,hq⟩
 have HKM:=hid (HS.out.2.2.trans (Lx.Kept.of_below hB))
 have HPM:=hid (HS.out.1.below hB)
 clear hB
 rcases hq with ⟨hq,rfl⟩|⟨hq,he⟩
 case inr =>
  have HF:Hid (R=none):=by
   show _=_
   rw [HR.out];unfold zfy;rw [hq];rfl
  clear hq
  unfold zaa at he
  subst he
  go_wp2
  exact ⟨rfl,v0,HEND.out _ _ HKM.out,Or.inr ⟨HF.out,rfl⟩⟩
 have HR1:Hid (R=(layP [word] txt).bind (fun x=>if (false:Bool) then layP [n] x else some x)):=by
  show _=_
  rw [HR.out];unfold zfy;rw [hq];rfl
 have HQ1:=hid hq
 have HS1:=hid3 HPM.out HS.out.2.1 HKM.out
 clear hq z0 z1 z2 z3 z4
 go_wp2_with fail
 refine (za7 p [word] _ rfl (by intro t ht;simp only [List.mem_cons,List.not_mem_nil,or_false] at ht;rcases ht with rfl <;> first|exact HN.out|exact HOP.out|exact HSH.out|exact ⟨by decide,by decide⟩) (by simp) 1 rfl txt d v0 w1 HS1.out.1 HS1.out.2.1).mono ?_
 rintro e w2 ⟨v2,hk,hQ⟩
 have HKM:=hid (HS1.out.2.2.trans hk)
 clear hk
 rcases hQ with ⟨x2,hx1,hx2,rfl,hPR⟩|⟨hx1,he⟩
 case inr =>
  have HF:Hid (R=none):=HR1.out.trans (by rw [hx1];rfl)
  clear hx1
  unfold zaa at he
  subst he
  go_wp2
  exact ⟨rfl,v2,HEND.out _ _ HKM.out,Or.inr ⟨HF.out,rfl⟩⟩
 have HR2:Hid (R=some x2):=HR1.out.trans (by rw [hx1];rfl)
 have HS2:=hid3 hPR hx2 HKM.out
 clear hx1 hx2 hPR 
 go_wp2
 first|go_end0|refine bodyPost_ret (results_none rfl _ _ _) rfl ?_
 exact ⟨v2,HEND.out _ _ HS2.out.2.2,Or.inl ⟨x2,HR2.out,HS2.out.2.1,rfl,HS2.out.1⟩⟩
theorem zdl {ts:List ITree} {q:Nat} (h:q<ts.length):ts.drop q=ts.getD q zby::ts.drop (q+1):=by
 rw [List.drop_eq_getElem_cons h,List.getD_eq_getElem?_getD,List.getElem?_eq_getElem h]
 rfl
/-- a row of kids from that cell on -/
def zf8 (p:Nat) (w:World) (g f:Nat) (ts:List ITree):Prop:=∀ j,j<ts.length->∃ k1 n1 m1 a1 us o1 c1,ts.getD j zby=.node k1 n1 m1 a1 us∧∀ w2,za1 p w w2->KidR w2 g (f+j*5) k1 n1 m1 a1 (.slice o1 us.length c1)∧TreeR p w2 (.node k1 n1 m1 a1 us) (zaj k1 n1 m1 a1 (.slice o1 us.length c1))
theorem zf8.front {p:Nat} {w w' : World} {g f:Nat} {ts:List ITree} (h:zf8 p w g f ts) (hf:za1 p w w'):zf8 p w' g f ts:=fun j hj=>by
 obtain ⟨k1,n1,m1,a1,us,o1,c1,h1,h2⟩:=h j hj
 exact ⟨k1,n1,m1,a1,us,o1,c1,h1,fun w2 hw=>h2 w2 (hf.trans hw)⟩
theorem zf8.drop {p:Nat} {w:World} {g f:Nat} {ts:List ITree} (h:zf8 p w g f ts) (i:Nat):zf8 p w g (f+i*5) (ts.drop i):=fun j hj=>by
 obtain ⟨k1,n1,m1,a1,us,o1,c1,h1,h2⟩:=h (i+j) (by rw [List.length_drop] at hj;omega)
 refine ⟨k1,n1,m1,a1,us,o1,c1,?_,fun w2 hw=>?_⟩
 · rw [<- h1];simp [List.getD_eq_getElem?_getD,List.getElem?_drop]
 · rw [show f+i*5+j*5=f+(i+j)*5 by omega];exact h2 w2 hw
theorem zf8.take {p:Nat} {w:World} {g f:Nat} {ts:List ITree} (h:zf8 p w g f ts) (i:Nat):zf8 p w g f (ts.take i):=fun j hj=>by
 rw [List.length_take] at hj
 obtain ⟨k1,n1,m1,a1,us,o1,c1,h1,h2⟩:=h j (by omega)
 refine ⟨k1,n1,m1,a1,us,o1,c1,?_,h2⟩
 rw [<- h1];simp only [List.getD_eq_getElem?_getD,List.getElem?_take];rw [if_pos (by omega)]
def rowP (f:ITree->List UInt8->Option (List UInt8)):List ITree->List UInt8->Option (List UInt8)
 | [],txt=>some txt
 | t::ts,txt=>(f t txt).bind (rowP f ts)
def fieldsP (fi:ITree->List UInt8->Option (List UInt8)) (ts:List ITree) (txt:List UInt8):Option (List UInt8):=(layP [[123]] txt).bind fun x=>(rowP fi ts x).bind (layP [[125]])
set_option maxHeartbeats 2000000 in
set_option maxRecDepth 4000 in
theorem zhz (p g f L c:Nat) (ts:List ITree) (hL:ts.length=L) (hLm:L<=66) (txt:List UInt8) (d:Int) (v0:Value) (wa:World) (h:PR wa p txt d v0) (hx:txt.length<=16000) {fi:ITree->List UInt8->Option (List UInt8)} (hfi:Does p d wa 160 (fun v=>#[.pointer (some ⟨p,0,none⟩),v]) fi) (hk:zf8 p wa g f ts) :
 Calls Tryz.prog 137 #[.pointer (some ⟨p,0,none⟩),.slice (some ⟨g,f,none⟩) L c] wa (zbp p d v0 (fieldsP fi ts txt) wa):=by
 have HP:=hid2 h hx
 obtain ⟨R,hR⟩:∃ R,fieldsP fi ts txt=R:=⟨_,rfl⟩
 rw [hR]
 have HR:Hid (R=fieldsP fi ts txt):=hR.symm
 have HL:Hid (ts.length=L):=hL
 have HLM:=hid hLm
 have HKD:=hid hk
 have HFI:Hid (Does p d wa 160 (fun v=>#[.pointer (some ⟨p,0,none⟩),v]) fi):=hfi
 clear hL hLm hk hfi
 clear h hx hR
 have HS:Hid (PR wa p txt d v0∧txt.length<=16000∧Lx.Kept p v0 v0 wa wa):=⟨HP.out.1,HP.out.2,Lx.Kept.of_below (Below.refl _ _)⟩
 have HEND:Hid (∀ v' w',Lx.Kept p v0 v' wa w'->Lx.Kept p v0 v' wa w'):=fun v' w' hk=>hk
 have HFR:Hid (∀ v' w',Lx.Kept p v0 v' wa w'->za1 p wa w'):=fun v' w' hk=>HP.out.1.front hk
 have HR0:Hid (R=(layP [[123]] txt).bind fun x=>(rowP fi ts x).bind (layP [[125]])):=HR.out
 go_enter Tryz.func137,Tryz.ntmps137
 go_wp2_with fail
 refine (za7 p [[123]] _ rfl (by intro t ht;simp only [List.mem_cons,List.not_mem_nil,or_false] at ht;rcases ht with rfl <;> first|exact HN.out|exact HOP.out|exact HSH.out|exact ⟨by decide,by decide⟩) (by simp) 1 rfl txt d v0 wa HS.out.1 HS.out.2.1).mono ?_
 rintro e w1 ⟨v1,hk,hQ⟩
 have HKM:=hid (HS.out.2.2.trans hk)
 clear hk
 rcases hQ with ⟨x1,hx1,hx2,rfl,hPR⟩|⟨hx1,he⟩
 case inr =>
  have HF:Hid (R=none):=HR0.out.trans (by rw [hx1];rfl)
  clear hx1
  unfold zaa at he
  subst he
  go_wp2
  exact ⟨rfl,v1,HEND.out _ _ HKM.out,Or.inr ⟨HF.out,rfl⟩⟩
 have HR1:Hid (R=(rowP fi (ts.drop 0) x1).bind (layP [[125]])):=HR0.out.trans (by rw [hx1];rfl)
 have HS1:=hid3 hPR hx2 HKM.out
 clear hx1 hx2 hPR 
 go_wp2_with fail
 go_loopw [11] (fun i wr=>∃ (q:Nat) (x:List UInt8) (v:Value),i=.int .i64 q∧q<=L∧Hid (PR wr p x d v∧x.length<=16000∧Lx.Kept p v0 v wa wr)∧Hid (R=(rowP fi (ts.drop q) x).bind (layP [[125]]))) (fun i _=>L - (RowKit.intOf i).toNat)
 case atStart=>exact ⟨0,x1,v1,rfl,by omega,HS1,HR1⟩
 case round =>
  obtain ⟨q,x,v,rfl,hq,HSQ,HRQ⟩:=hrel
  by_cases hlt:q<L
  · have hlt' : (q:Int)<L:=by omega
    have hq0:(0:Int)<=(q:Int):=by omega
    have hqm:(q:Int)<=1000:=by have:=HLM.out;omega
    have HQL:=hid hlt
    have HQK:Hid (q<ts.length):=by show _<_;have:=HL.out;omega
    obtain ⟨k1,n1,m1,a1,us,o1,c1,he,hkd⟩:=HKD.out q HQK.out
    have HDR:Hid (ts.drop q=.node k1 n1 m1 a1 us::ts.drop (q+1)):=by show _=_;rw [<- he];exact zdl HQK.out
    have HKT:Hid (∀ w2,za1 p wa w2->TreeR p w2 (.node k1 n1 m1 a1 us) (zaj k1 n1 m1 a1 (.slice o1 us.length c1))):=fun w2 h2=>(hkd w2 h2).2
    have HKR:Hid (∀ w2,za1 p wa w2->KidR w2 g (f+q*5) k1 n1 m1 a1 (.slice o1 us.length c1)):=fun w2 h2=>(hkd w2 h2).1
    obtain ⟨a0,b0,c0,d0,e0⟩:=HKR.out wr (HFR.out _ _ HSQ.out.2.2)
    obtain ⟨wb,hwb⟩:∃ x,wr.alloc (.cells #[.int .i64 k1,.string ⟨n1.toArray⟩,.int .i64 m1,.int .i64 a1,.slice o1 us.length c1] 29)=x:=⟨_,rfl⟩
    have HBB:Hid (Below wr.heap.size wr wb):=by show Below _ _ _;rw [<- hwb];exact zad _ _
    have HKB:Hid (wb.heap[wr.heap.size]?=some (za2 k1 n1 m1 a1 (.slice o1 us.length c1))):=by show _=_;rw [<- hwb];exact heap_alloc_new _ _
    obtain ⟨⟨y0,y1,y2,y3,y4⟩,_⟩:=zab HKB.out
    have HSB:=hid3 (HSQ.out.1.below HBB.out) HSQ.out.2.1 (HSQ.out.2.2.trans (Lx.Kept.of_below HBB.out))
    have HKBK:Hid (∀ v' w',Lx.Kept p v v' wb w'->w'.heap[wr.heap.size]?=some (za2 k1 n1 m1 a1 (.slice o1 us.length c1))):=boxed HSQ.out.1 HKB.out
    have HCB:Hid (Lx.Kept p v v wb wb):=Lx.Kept.of_below (Below.refl _ _)
    clear he hkd hlt
    have HRS:Hid (R=((fi (.node k1 n1 m1 a1 us) x).bind (rowP fi (ts.drop (q+1)))).bind (layP [[125]])):=by show _=_;rw [HRQ.out,HDR.out];rfl
    clear HRQ HDR
    go_wp2_with fail
    refine (HFI.out.run wb (HFR.out _ _ HSB.out.2.2) k1 n1 m1 a1 us o1 c1 (HKT.out _ (HFR.out _ _ HSB.out.2.2)) x v HSB.out.1 HSB.out.2.1).mono ?_
    rintro e w22 ⟨v22,hk,hQ⟩
    have HKM:=hid (HSB.out.2.2.trans hk)
    clear hk
    rcases hQ with ⟨x22,hx1,hx2,rfl,hPR⟩|⟨hx1,he⟩
    case inr =>
     have HF:Hid (R=none):=HRS.out.trans (by rw [hx1];rfl)
     clear hx1
     unfold zaa at he
     subst he
     go_wp2
     exact ⟨rfl,v22,HEND.out _ _ HKM.out,Or.inr ⟨HF.out,rfl⟩⟩
    have HR22:Hid (R=(rowP fi (ts.drop (q+1)) x22).bind (layP [[125]])):=HRS.out.trans (by rw [hx1];rfl)
    have HS22:=hid3 hPR hx2 HKM.out
    clear hx1 hx2 hPR a0 b0 c0 d0 e0 y0 y1 y2 y3 y4 hwb
    go_wp2
    go_roundw
    case rel=>exact ⟨q+1,x22,v22,by go_num,HQL.out,HS22,HR22⟩
    case measure=>have:=HQL.out;simp [RowKit.intOf];omega
  · have hqe:q=L:=by omega
    subst hqe
    have hlt2:¬ (q:Int)<q:=by omega
    have HRA:Hid (R=layP [[125]] x):=by show _=_;rw [HRQ.out,List.drop_of_length_le (by have:=HL.out;omega)];rfl
    clear HRQ
    go_wp2_with fail
    refine (za7 p [[125]] _ rfl (by intro t ht;simp only [List.mem_cons,List.not_mem_nil,or_false] at ht;rcases ht with rfl <;> first|exact HN.out|exact HOP.out|exact HSH.out|exact ⟨by decide,by decide⟩) (by simp) 1 rfl x d v wr HSQ.out.1 HSQ.out.2.1).mono ?_
    rintro e w42 ⟨v42,hk,hQ⟩
    have HKM:=hid (HSQ.out.2.2.trans hk)
    clear hk
    rcases hQ with ⟨x42,hx1,hx2,rfl,hPR⟩|⟨hx1,he⟩
    case inr =>
     have HF:Hid (R=none):=HRA.out.trans (by rw [hx1])
     clear hx1
     unfold zaa at he
     subst he
     go_wp2
     exact ⟨rfl,v42,HEND.out _ _ HKM.out,Or.inr ⟨HF.out,rfl⟩⟩
    have HR42:Hid (R=some x42):=HRA.out.trans (by rw [hx1])
    have HS42:=hid3 hPR hx2 HKM.out
    clear hx1 hx2 hPR 
    go_wp2
    first|go_end0|refine bodyPost_ret (results_none rfl _ _ _) rfl ?_
    exact ⟨v42,HEND.out _ _ HS42.out.2.2,Or.inl ⟨x42,HR42.out,HS42.out.2.1,rfl,HS42.out.1⟩⟩
def sepP (f:ITree->List UInt8->Option (List UInt8)):Bool->List ITree->List UInt8->Option (List UInt8)
 | _,[],txt=>some txt
 | b,t::ts,txt=>((if b then layP [[44]] txt else some txt).bind (f t)).bind (sepP f true ts)
def memberP (t:ITree) (txt:List UInt8):Option (List UInt8):=if t.kind=5 then (if zaw t.name true&&zan t.kids.length t.num 1 1 then (layP [t.name,[61]] txt).bind (zat (t.kids.getD 0 zby)) else none) else none
def membersP (ts:List ITree) (txt:List UInt8):Option (List UInt8):=(layP [[123]] txt).bind fun x=>(sepP memberP false ts x).bind (layP [[125]])
theorem ziq (f:ITree->List UInt8->Option (List UInt8)) (t:ITree) (ts:List ITree) (x:List UInt8):sepP f false (t::ts) x=(f t x).bind (sepP f true ts):=rfl
theorem sep_next (f:ITree->List UInt8->Option (List UInt8)) (t:ITree) (ts:List ITree) (x:List UInt8):sepP f true (t::ts) x=((layP [[44]] x).bind (f t)).bind (sepP f true ts):=rfl
theorem zn4 (f:ITree->List UInt8->Option (List UInt8)) (b:Bool) (x:List UInt8):sepP f b [] x=some x:=by cases b <;> rfl
theorem ziz {n:List UInt8} {m a:Int} {us:List ITree} {l1:Nat} (hl:us.length=l1) {b:Bool} (hb:(zaw n true&&zan l1 m 1 1)=b) (x:List UInt8):memberP (.node 5 n m a us) x=if b then (layP [n,[61]] x).bind (zat (us.getD 0 zby)) else none:=by
 subst hl
 subst hb
 rfl
set_option maxHeartbeats 2000000 in
set_option maxRecDepth 4000 in
theorem zfw (p g f L c:Nat) (ts:List ITree) (hL:ts.length=L) (hLm:L<=66) (txt:List UInt8) (d:Int) (v0:Value) (wa:World) (h:PR wa p txt d v0) (hx:txt.length<=16000) (hv:Does p d wa 157 (fun v=>#[.pointer (some ⟨p,0,none⟩),v]) zat) (hk:zf8 p wa g f ts) :
 Calls Tryz.prog 136 #[.pointer (some ⟨p,0,none⟩),.slice (some ⟨g,f,none⟩) L c] wa (zbp p d v0 (membersP ts txt) wa):=by
 have HP:=hid2 h hx
 obtain ⟨R,hR⟩:∃ R,membersP ts txt=R:=⟨_,rfl⟩
 rw [hR]
 have HR:Hid (R=membersP ts txt):=hR.symm
 have HL:Hid (ts.length=L):=hL
 have HLM:=hid hLm
 have HKD:=hid hk
 have HV:Hid (Does p d wa 157 (fun v=>#[.pointer (some ⟨p,0,none⟩),v]) zat):=hv
 clear hL hLm hk hv
 clear h hx hR
 have HS:Hid (PR wa p txt d v0∧txt.length<=16000∧Lx.Kept p v0 v0 wa wa):=⟨HP.out.1,HP.out.2,Lx.Kept.of_below (Below.refl _ _)⟩
 have HEND:Hid (∀ v' w',Lx.Kept p v0 v' wa w'->Lx.Kept p v0 v' wa w'):=fun v' w' hk=>hk
 have HFR:Hid (∀ v' w',Lx.Kept p v0 v' wa w'->za1 p wa w'):=fun v' w' hk=>HP.out.1.front hk
 have HR0:Hid (R=(layP [[123]] txt).bind fun x=>(sepP memberP false ts x).bind (layP [[125]])):=HR.out
 go_enter Tryz.func136,Tryz.ntmps136
 go_wp2_with fail
 refine (za7 p [[123]] _ rfl (by intro t ht;simp only [List.mem_cons,List.not_mem_nil,or_false] at ht;rcases ht with rfl <;> first|exact HN.out|exact HOP.out|exact HSH.out|exact ⟨by decide,by decide⟩) (by simp) 1 rfl txt d v0 wa HS.out.1 HS.out.2.1).mono ?_
 rintro e w1 ⟨v1,hk,hQ⟩
 have HKM:=hid (HS.out.2.2.trans hk)
 clear hk
 rcases hQ with ⟨x1,hx1,hx2,rfl,hPR⟩|⟨hx1,he⟩
 case inr =>
  have HF:Hid (R=none):=HR0.out.trans (by rw [hx1];rfl)
  clear hx1
  unfold zaa at he
  subst he
  go_wp2
  exact ⟨rfl,v1,HEND.out _ _ HKM.out,Or.inr ⟨HF.out,rfl⟩⟩
 have HR1:Hid (R=(sepP memberP (decide (0<0)) (ts.drop 0) x1).bind (layP [[125]])):=HR0.out.trans (by rw [hx1];rfl)
 have HS1:=hid3 hPR hx2 HKM.out
 clear hx1 hx2 hPR 
 go_wp2_with fail
 go_loopw [11] (fun i wr=>∃ (q:Nat) (x:List UInt8) (v:Value),i=.int .i64 q∧q<=L∧Hid (PR wr p x d v∧x.length<=16000∧Lx.Kept p v0 v wa wr)∧Hid (R=(sepP memberP (decide (0<q)) (ts.drop q) x).bind (layP [[125]]))) (fun i _=>L - (RowKit.intOf i).toNat)
 case atStart=>exact ⟨0,x1,v1,rfl,by omega,HS1,HR1⟩
 case round =>
  obtain ⟨q,x,v,rfl,hq,HSQ,HRQ⟩:=hrel
  by_cases hlt:q<L
  · have hlt' : (q:Int)<L:=by omega
    have hq0:(0:Int)<=(q:Int):=by omega
    have hqm:(q:Int)<=1000:=by have:=HLM.out;omega
    have HQL:=hid hlt
    have HQK:Hid (q<ts.length):=by show _<_;have:=HL.out;omega
    obtain ⟨k1,n1,m1,a1,us,o1,c1,he,hkd⟩:=HKD.out q HQK.out
    have HDR:Hid (ts.drop q=.node k1 n1 m1 a1 us::ts.drop (q+1)):=by show _=_;rw [<- he];exact zdl HQK.out
    have HKT:Hid (∀ w2,za1 p wa w2->TreeR p w2 (.node k1 n1 m1 a1 us) (zaj k1 n1 m1 a1 (.slice o1 us.length c1))):=fun w2 h2=>(hkd w2 h2).2
    have HKR:Hid (∀ w2,za1 p wa w2->KidR w2 g (f+q*5) k1 n1 m1 a1 (.slice o1 us.length c1)):=fun w2 h2=>(hkd w2 h2).1
    obtain ⟨a0,b0,c0,d0,e0⟩:=HKR.out wr (HFR.out _ _ HSQ.out.2.2)
    obtain ⟨l1,hl1⟩:∃ l,us.length=l:=⟨_,rfl⟩
    have HL1:Hid (us.length=l1):=hl1
    rw [hl1] at e0
    clear hl1
    obtain ⟨wb,hwb⟩:∃ x,wr.alloc (.cells #[.int .i64 k1,.string ⟨n1.toArray⟩,.int .i64 m1,.int .i64 a1,.slice o1 l1 c1] 29)=x:=⟨_,rfl⟩
    have HBB:Hid (Below wr.heap.size wr wb):=by show Below _ _ _;rw [<- hwb];exact zad _ _
    have HKB:Hid (wb.heap[wr.heap.size]?=some (za2 k1 n1 m1 a1 (.slice o1 l1 c1))):=by show _=_;rw [<- hwb];exact heap_alloc_new _ _
    obtain ⟨⟨y0,y1,y2,y3,y4⟩,_⟩:=zab HKB.out
    have HSB:=hid3 (HSQ.out.1.below HBB.out) HSQ.out.2.1 (HSQ.out.2.2.trans (Lx.Kept.of_below HBB.out))
    have HKBK:Hid (∀ v' w',Lx.Kept p v v' wb w'->w'.heap[wr.heap.size]?=some (za2 k1 n1 m1 a1 (.slice o1 l1 c1))):=boxed HSQ.out.1 HKB.out
    have HCB:Hid (Lx.Kept p v v wb wb):=Lx.Kept.of_below (Below.refl _ _)
    clear he hkd hlt
    by_cases hq1:q=0
    · have hq1' : ¬ (q:Int) > 0:=by omega
      have HRS:Hid (R=((memberP (.node k1 n1 m1 a1 us) x).bind (sepP memberP true (ts.drop (q+1)))).bind (layP [[125]])):=by show _=_;rw [HRQ.out,HDR.out,show decide (0<q)=false from by simp [hq1]];rfl
      clear HRQ HDR hq1
      have HN1:=hid ((zay (HKT.out _ (HFR.out _ _ HSB.out.2.2))).1)
      by_cases h5:k1=5
      case neg =>
       have j5:(k1==5)=false:=by simp [h5]
       have HF:Hid (R=none):=by
        show _=_
        rw [HRS.out,show memberP (.node k1 n1 m1 a1 us) x=none from by unfold memberP;exact if_neg h5];rfl
       clear h5
       go_wp2_with (first|(go_at_call 58;refine (zar _).mono ?_;rintro e wi ⟨rfl,hwi⟩;rw [hwi];clear hwi wi)|(go_at_call 58;refine (zak _).mono ?_;rintro e wi ⟨he,hwi⟩;rw [hwi];clear hwi;unfold zaa at he;rw [he];clear he wi))
       exact ⟨rfl,v,HEND.out _ _ HSB.out.2.2,Or.inr ⟨HF.out,rfl⟩⟩
      subst h5
      have HMK:Hid (∀ w,Calls Tryz.prog 59 #[zaj 5 n1 m1 a1 (.slice o1 l1 c1),.bool true,.int .i64 1,.int .i64 1] w (zb6 (zaw n1 true&&zan l1 m1 1 1) w)):=fun w=>zbw 5 n1 m1 a1 o1 l1 c1 1 1 w (by have hn:=HN1.out;unfold maxLen at hn;omega)
      unfold zaj at HMK
      go_wp2_with (first|(go_at_call 58;refine (zar _).mono ?_;rintro e wi ⟨rfl,hwi⟩;rw [hwi];clear hwi wi)|(go_at_call 58;refine (zak _).mono ?_;rintro e wi ⟨he,hwi⟩;rw [hwi];clear hwi;unfold zaa at he;rw [he];clear he wi))
      refine (HMK.out _).mono ?_
      rintro e w22 ⟨hB,hq⟩
      have HKM:=hid (HSB.out.2.2.trans (Lx.Kept.of_below hB))
      have HPM:=hid (HSB.out.1.below hB)
      have HC22:=hid (HCB.out.trans (Lx.Kept.of_below hB))
      clear hB
      rcases hq with ⟨hq,rfl⟩|⟨hq,he⟩
      case inr =>
       have HF:Hid (R=none):=by
        show _=_
        rw [HRS.out];rw [ziz HL1.out rfl];rw [hq];rfl
       clear hq
       unfold zaa at he
       subst he
       go_wp2
       exact ⟨rfl,v,HEND.out _ _ HKM.out,Or.inr ⟨HF.out,rfl⟩⟩
      have HR22:Hid (R=(((layP [n1,[61]] x).bind (zat (us.getD 0 zby))).bind (sepP memberP true (ts.drop (q+1)))).bind (layP [[125]])):=by
       show _=_
       rw [HRS.out];rw [ziz HL1.out rfl];rw [hq];rfl
      have HQ22:Hid ((zaw n1 true&&zan l1 m1 1 1)=true):=hq
      have HS22:=hid3 HPM.out HSB.out.2.1 HKM.out
      clear hq y0 y1 y2 y3 y4 a0 b0 c0 d0 e0 hwb
      have HN:Hid (n1≠[]∧n1.length<=64):=by
       have:=HQ22.out
       rw [Bool.and_eq_true] at this
       exact zco this.1
      have hl:l1=1:=by
       have:=HQ22.out
       unfold zan at this
       simp at this
       omega
      clear HQ22 HMK
      subst hl
      obtain ⟨g2,f2,ho2,hg2,hk2⟩:=zlr (HKT.out _ (HFR.out _ _ HS22.out.2.2)) (by have:=HL1.out;omega)
      subst ho2
      obtain ⟨k3,n3,m3,a3,us3,o3,c3,he3,hkd3⟩:=hk2 0 (by have:=HL1.out;omega)
      have HRv:Hid (R=(((layP [n1,[61]] x).bind (zat (.node k3 n3 m3 a3 us3))).bind (sepP memberP true (ts.drop (q+1)))).bind (layP [[125]])):=by show _=_;rw [HR22.out,he3]
      have HFW:=hid (HFR.out _ _ HS22.out.2.2)
      have HK3:Hid (∀ v' w',Lx.Kept p v v' w22 w'->KidR w' g2 (f2+0*5) k3 n3 m3 a3 (.slice o3 us3.length c3)∧TreeR p w' (.node k3 n3 m3 a3 us3) (zaj k3 n3 m3 a3 (.slice o3 us3.length c3))):=fun v' w' hk=>hkd3 w' (HS22.out.1.front hk)
      clear hk2 hg2 he3 hkd3
      obtain ⟨⟨y0,y1,y2,y3,y4⟩,_⟩:=zab (HKBK.out _ _ HC22.out)
      clear y0 y2 y3
      go_wp2_with fail
      refine (za7 p [n1,[61]] _ rfl (by intro t ht;simp only [List.mem_cons,List.not_mem_nil,or_false] at ht;rcases ht with rfl|rfl <;> first|exact HN.out|exact HOP.out|exact HSH.out|exact ⟨by decide,by decide⟩) (by simp) 2 rfl x d v w22 HS22.out.1 HS22.out.2.1).mono ?_
      rintro e w23 ⟨v23,hk,hQ⟩
      have HKM:=hid (HS22.out.2.2.trans hk)
      have HC23:=hid (HC22.out.trans hk)
      have HG23:=HK3.out _ _ hk
      clear hk
      rcases hQ with ⟨x23,hx1,hx2,rfl,hPR⟩|⟨hx1,he⟩
      case inr =>
       have HF:Hid (R=none):=HRv.out.trans (by rw [hx1];rfl)
       clear hx1
       unfold zaa at he
       subst he
       go_wp2
       exact ⟨rfl,v23,HEND.out _ _ HKM.out,Or.inr ⟨HF.out,rfl⟩⟩
      have HR23:Hid (R=((zat (.node k3 n3 m3 a3 us3) x23).bind (sepP memberP true (ts.drop (q+1)))).bind (layP [[125]])):=HRv.out.trans (by rw [hx1];rfl)
      have HS23:=hid3 hPR hx2 HKM.out
      clear hx1 hx2 hPR y1 y4
      obtain ⟨⟨q0,q1,q2,q3,q4⟩,htr⟩:=HG23
      simp only [Nat.zero_mul,Nat.add_zero] at q0 q1 q2 q3 q4
      have HT23:=hid htr
      clear htr
      obtain ⟨⟨y0,y1,y2,y3,y4⟩,_⟩:=zab (HKBK.out _ _ HC23.out)
      clear y0 y1 y2 y3
      go_wp2_with fail
      refine (HV.out.run w23 (HFR.out _ _ HS23.out.2.2) k3 n3 m3 a3 us3 o3 c3 HT23.out x23 v23 HS23.out.1 HS23.out.2.1).mono ?_
      rintro e w24 ⟨v24,hk,hQ⟩
      have HKM:=hid (HS23.out.2.2.trans hk)
      have HC24:=hid (HC23.out.trans hk)
      clear hk
      rcases hQ with ⟨x24,hx1,hx2,rfl,hPR⟩|⟨hx1,he⟩
      case inr =>
       have HF:Hid (R=none):=HR23.out.trans (by rw [hx1];rfl)
       clear hx1
       unfold zaa at he
       subst he
       go_wp2
       exact ⟨rfl,v24,HEND.out _ _ HKM.out,Or.inr ⟨HF.out,rfl⟩⟩
      have HR24:Hid (R=(sepP memberP true (ts.drop (q+1)) x24).bind (layP [[125]])):=HR23.out.trans (by rw [hx1];rfl)
      have HS24:=hid3 hPR hx2 HKM.out
      clear hx1 hx2 hPR y4 q0 q1 q2 q3 q4
      have HRz:Hid (R=(sepP memberP (decide (0<q+1)) (ts.drop (q+1)) x24).bind (layP [[125]])):=by show _=_;rw [HR24.out,show decide (0<q+1)=true from by simp]
      go_wp2
      go_roundw
      case rel=>exact ⟨q+1,x24,v24,by go_num,HQL.out,HS24,HRz⟩
      case measure=>have:=HQL.out;simp [RowKit.intOf];omega
    · have hq1' : (q:Int) > 0:=by omega
      have HRS:Hid (R=(((layP [[44]] x).bind (memberP (.node k1 n1 m1 a1 us))).bind (sepP memberP true (ts.drop (q+1)))).bind (layP [[125]])):=by show _=_;rw [HRQ.out,HDR.out,show decide (0<q)=true from by simp;omega];rfl
      clear HRQ HDR hq1
      go_wp2_with fail
      refine (za7 p [[44]] _ rfl (by intro t ht;simp only [List.mem_cons,List.not_mem_nil,or_false] at ht;rcases ht with rfl <;> first|exact HN.out|exact HOP.out|exact HSH.out|exact ⟨by decide,by decide⟩) (by simp) 1 rfl x d v wb HSB.out.1 HSB.out.2.1).mono ?_
      rintro e w22 ⟨v22,hk,hQ⟩
      have HKM:=hid (HSB.out.2.2.trans hk)
      have HC22:=hid (HCB.out.trans hk)
      clear hk
      rcases hQ with ⟨x22,hx1,hx2,rfl,hPR⟩|⟨hx1,he⟩
      case inr =>
       have HF:Hid (R=none):=HRS.out.trans (by rw [hx1];rfl)
       clear hx1
       unfold zaa at he
       subst he
       go_wp2
       exact ⟨rfl,v22,HEND.out _ _ HKM.out,Or.inr ⟨HF.out,rfl⟩⟩
      have HR22:Hid (R=((memberP (.node k1 n1 m1 a1 us) x22).bind (sepP memberP true (ts.drop (q+1)))).bind (layP [[125]])):=HRS.out.trans (by rw [hx1];rfl)
      have HS22:=hid3 hPR hx2 HKM.out
      clear hx1 hx2 hPR y0 y1 y2 y3 y4 a0 b0 c0 d0 e0
      have a0:True:=trivial
      have b0:True:=trivial
      have c0:True:=trivial
      have d0:True:=trivial
      have e0:True:=trivial
      obtain ⟨⟨y0,y1,y2,y3,y4⟩,_⟩:=zab (HKBK.out _ _ HC22.out)
      have HN1:=hid ((zay (HKT.out _ (HFR.out _ _ HSB.out.2.2))).1)
      by_cases h5:k1=5
      case neg =>
       have j5:(k1==5)=false:=by simp [h5]
       have HF:Hid (R=none):=by
        show _=_
        rw [HR22.out,show memberP (.node k1 n1 m1 a1 us) x22=none from by unfold memberP;exact if_neg h5];rfl
       clear h5
       go_wp2_with (first|(go_at_call 58;refine (zar _).mono ?_;rintro e wi ⟨rfl,hwi⟩;rw [hwi];clear hwi wi)|(go_at_call 58;refine (zak _).mono ?_;rintro e wi ⟨he,hwi⟩;rw [hwi];clear hwi;unfold zaa at he;rw [he];clear he wi))
       exact ⟨rfl,v22,HEND.out _ _ HS22.out.2.2,Or.inr ⟨HF.out,rfl⟩⟩
      subst h5
      have HMK:Hid (∀ w,Calls Tryz.prog 59 #[zaj 5 n1 m1 a1 (.slice o1 l1 c1),.bool true,.int .i64 1,.int .i64 1] w (zb6 (zaw n1 true&&zan l1 m1 1 1) w)):=fun w=>zbw 5 n1 m1 a1 o1 l1 c1 1 1 w (by have hn:=HN1.out;unfold maxLen at hn;omega)
      unfold zaj at HMK
      go_wp2_with (first|(go_at_call 58;refine (zar _).mono ?_;rintro e wi ⟨rfl,hwi⟩;rw [hwi];clear hwi wi)|(go_at_call 58;refine (zak _).mono ?_;rintro e wi ⟨he,hwi⟩;rw [hwi];clear hwi;unfold zaa at he;rw [he];clear he wi))
      refine (HMK.out _).mono ?_
      rintro e w23 ⟨hB,hq⟩
      have HKM:=hid (HS22.out.2.2.trans (Lx.Kept.of_below hB))
      have HPM:=hid (HS22.out.1.below hB)
      have HC23:=hid (HC22.out.trans (Lx.Kept.of_below hB))
      clear hB
      rcases hq with ⟨hq,rfl⟩|⟨hq,he⟩
      case inr =>
       have HF:Hid (R=none):=by
        show _=_
        rw [HR22.out];rw [ziz HL1.out rfl];rw [hq];rfl
       clear hq
       unfold zaa at he
       subst he
       go_wp2
       exact ⟨rfl,v22,HEND.out _ _ HKM.out,Or.inr ⟨HF.out,rfl⟩⟩
      have HR23:Hid (R=(((layP [n1,[61]] x22).bind (zat (us.getD 0 zby))).bind (sepP memberP true (ts.drop (q+1)))).bind (layP [[125]])):=by
       show _=_
       rw [HR22.out];rw [ziz HL1.out rfl];rw [hq];rfl
      have HQ23:Hid ((zaw n1 true&&zan l1 m1 1 1)=true):=hq
      have HS23:=hid3 HPM.out HS22.out.2.1 HKM.out
      clear hq y0 y1 y2 y3 y4 a0 b0 c0 d0 e0 hwb
      have HN:Hid (n1≠[]∧n1.length<=64):=by
       have:=HQ23.out
       rw [Bool.and_eq_true] at this
       exact zco this.1
      have hl:l1=1:=by
       have:=HQ23.out
       unfold zan at this
       simp at this
       omega
      clear HQ23 HMK
      subst hl
      obtain ⟨g2,f2,ho2,hg2,hk2⟩:=zlr (HKT.out _ (HFR.out _ _ HS23.out.2.2)) (by have:=HL1.out;omega)
      subst ho2
      obtain ⟨k3,n3,m3,a3,us3,o3,c3,he3,hkd3⟩:=hk2 0 (by have:=HL1.out;omega)
      have HRv:Hid (R=(((layP [n1,[61]] x22).bind (zat (.node k3 n3 m3 a3 us3))).bind (sepP memberP true (ts.drop (q+1)))).bind (layP [[125]])):=by show _=_;rw [HR23.out,he3]
      have HFW:=hid (HFR.out _ _ HS23.out.2.2)
      have HK3:Hid (∀ v' w',Lx.Kept p v22 v' w23 w'->KidR w' g2 (f2+0*5) k3 n3 m3 a3 (.slice o3 us3.length c3)∧TreeR p w' (.node k3 n3 m3 a3 us3) (zaj k3 n3 m3 a3 (.slice o3 us3.length c3))):=fun v' w' hk=>hkd3 w' (HS23.out.1.front hk)
      clear hk2 hg2 he3 hkd3
      obtain ⟨⟨y0,y1,y2,y3,y4⟩,_⟩:=zab (HKBK.out _ _ HC23.out)
      clear y0 y2 y3
      go_wp2_with fail
      refine (za7 p [n1,[61]] _ rfl (by intro t ht;simp only [List.mem_cons,List.not_mem_nil,or_false] at ht;rcases ht with rfl|rfl <;> first|exact HN.out|exact HOP.out|exact HSH.out|exact ⟨by decide,by decide⟩) (by simp) 2 rfl x22 d v22 w23 HS23.out.1 HS23.out.2.1).mono ?_
      rintro e w24 ⟨v24,hk,hQ⟩
      have HKM:=hid (HS23.out.2.2.trans hk)
      have HC24:=hid (HC23.out.trans hk)
      have HG24:=HK3.out _ _ hk
      clear hk
      rcases hQ with ⟨x24,hx1,hx2,rfl,hPR⟩|⟨hx1,he⟩
      case inr =>
       have HF:Hid (R=none):=HRv.out.trans (by rw [hx1];rfl)
       clear hx1
       unfold zaa at he
       subst he
       go_wp2
       exact ⟨rfl,v24,HEND.out _ _ HKM.out,Or.inr ⟨HF.out,rfl⟩⟩
      have HR24:Hid (R=((zat (.node k3 n3 m3 a3 us3) x24).bind (sepP memberP true (ts.drop (q+1)))).bind (layP [[125]])):=HRv.out.trans (by rw [hx1];rfl)
      have HS24:=hid3 hPR hx2 HKM.out
      clear hx1 hx2 hPR y1 y4
      obtain ⟨⟨q0,q1,q2,q3,q4⟩,htr⟩:=HG24
      simp only [Nat.zero_mul,Nat.add_zero] at q0 q1 q2 q3 q4
      have HT24:=hid htr
      clear htr
      obtain ⟨⟨y0,y1,y2,y3,y4⟩,_⟩:=zab (HKBK.out _ _ HC24.out)
      clear y0 y1 y2 y3
      go_wp2_with fail
      refine (HV.out.run w24 (HFR.out _ _ HS24.out.2.2) k3 n3 m3 a3 us3 o3 c3 HT24.out x24 v24 HS24.out.1 HS24.out.2.1).mono ?_
      rintro e w25 ⟨v25,hk,hQ⟩
      have HKM:=hid (HS24.out.2.2.trans hk)
      have HC25:=hid (HC24.out.trans hk)
      clear hk
      rcases hQ with ⟨x25,hx1,hx2,rfl,hPR⟩|⟨hx1,he⟩
      case inr =>
       have HF:Hid (R=none):=HR24.out.trans (by rw [hx1];rfl)
       clear hx1
       unfold zaa at he
       subst he
       go_wp2
       exact ⟨rfl,v25,HEND.out _ _ HKM.out,Or.inr ⟨HF.out,rfl⟩⟩
      have HR25:Hid (R=(sepP memberP true (ts.drop (q+1)) x25).bind (layP [[125]])):=HR24.out.trans (by rw [hx1];rfl)
      have HS25:=hid3 hPR hx2 HKM.out
      clear hx1 hx2 hPR y4 q0 q1 q2 q3 q4
      have HRz:Hid (R=(sepP memberP (decide (0<q+1)) (ts.drop (q+1)) x25).bind (layP [[125]])):=by show _=_;rw [HR25.out,show decide (0<q+1)=true from by simp]
      go_wp2
      go_roundw
      case rel=>exact ⟨q+1,x25,v25,by go_num,HQL.out,HS25,HRz⟩
      case measure=>have:=HQL.out;simp [RowKit.intOf];omega
  · have hqe:q=L:=by omega
    subst hqe
    have hlt2:¬ (q:Int)<q:=by omega
    have HRA:Hid (R=layP [[125]] x):=by show _=_;rw [HRQ.out,List.drop_of_length_le (by have:=HL.out;omega),zn4];rfl
    clear HRQ
    go_wp2_with fail
    refine (za7 p [[125]] _ rfl (by intro t ht;simp only [List.mem_cons,List.not_mem_nil,or_false] at ht;rcases ht with rfl <;> first|exact HN.out|exact HOP.out|exact HSH.out|exact ⟨by decide,by decide⟩) (by simp) 1 rfl x d v wr HSQ.out.1 HSQ.out.2.1).mono ?_
    rintro e w42 ⟨v42,hk,hQ⟩
    have HKM:=hid (HSQ.out.2.2.trans hk)
    clear hk
    rcases hQ with ⟨x42,hx1,hx2,rfl,hPR⟩|⟨hx1,he⟩
    case inr =>
     have HF:Hid (R=none):=HRA.out.trans (by rw [hx1])
     clear hx1
     unfold zaa at he
     subst he
     go_wp2
     exact ⟨rfl,v42,HEND.out _ _ HKM.out,Or.inr ⟨HF.out,rfl⟩⟩
    have HR42:Hid (R=some x42):=HRA.out.trans (by rw [hx1])
    have HS42:=hid3 hPR hx2 HKM.out
    clear hx1 hx2 hPR 
    go_wp2
    first|go_end0|refine bodyPost_ret (results_none rfl _ _ _) rfl ?_
    exact ⟨v42,HEND.out _ _ HS42.out.2.2,Or.inl ⟨x42,HR42.out,HS42.out.2.1,rfl,HS42.out.1⟩⟩
def zh5 (ts:List ITree) (txt:List UInt8):Option (List UInt8):=if ts.length=1 then zcl (ts.getD 0 zby) txt else sepP zcg false ts txt
set_option maxHeartbeats 2000000 in
set_option maxRecDepth 4000 in
theorem zg7 (p g f L c:Nat) (ts:List ITree) (hL:ts.length=L) (hLm:L<=66) (txt:List UInt8) (d:Int) (v0:Value) (wa:World) (h:PR wa p txt d v0) (hx:txt.length<=16000) (hr:Does p d wa 158 (fun v=>#[.pointer (some ⟨p,0,none⟩),v]) zcl) (hb:Does p d wa 156 (fun v=>#[.pointer (some ⟨p,0,none⟩),v]) zcg) (hk:zf8 p wa g f ts) :
 Calls Tryz.prog 159 #[.pointer (some ⟨p,0,none⟩),.slice (some ⟨g,f,none⟩) L c] wa (zbp p d v0 (zh5 ts txt) wa):=by
 by_cases h1:L=1
 · subst h1
   have HP:=hid2 h hx
   obtain ⟨R,hR⟩:∃ R,zh5 ts txt=R:=⟨_,rfl⟩
   rw [hR]
   have HR:=hid hR.symm
   have HL:=hid hL
   have HLM:=hid hLm
   have HKD:=hid hk
   have HRE:=hid hr
   have HBA:=hid hb
   clear hL hLm hk hr hb
   clear h hx hR
   have HS:Hid (PR wa p txt d v0∧txt.length<=16000∧Lx.Kept p v0 v0 wa wa):=⟨HP.out.1,HP.out.2,Lx.Kept.of_below (Below.refl _ _)⟩
   have HEND:Hid (∀ v' w',Lx.Kept p v0 v' wa w'->Lx.Kept p v0 v' wa w'):=fun v' w' hk=>hk
   have HFR:Hid (∀ v' w',Lx.Kept p v0 v' wa w'->za1 p wa w'):=fun v' w' hk=>HP.out.1.front hk
   obtain ⟨k1,n1,m1,a1,us,o1,c1,he,hkd⟩:=HKD.out 0 (by have:=HL.out;omega)
   have HR0:Hid (R=zcl (.node k1 n1 m1 a1 us) txt):=by show _=_;rw [HR.out];unfold zh5;rw [if_pos HL.out,he]
   have HT:=hid ((hkd wa (HFR.out _ _ HS.out.2.2)).2)
   obtain ⟨a0,b0,c0,d0,e0⟩:=(hkd wa (HFR.out _ _ HS.out.2.2)).1
   simp only [Nat.zero_mul,Nat.add_zero] at a0 b0 c0 d0 e0
   clear he hkd
   go_enter Tryz.func159,Tryz.ntmps159
   go_wp2_with fail
   refine (HRE.out.run wa (HFR.out _ _ HS.out.2.2) k1 n1 m1 a1 us o1 c1 HT.out txt v0 HS.out.1 HS.out.2.1).mono ?_
   rintro e w1 ⟨v1,hk,hQ⟩
   have HKM:=hid (HS.out.2.2.trans hk)
   clear hk
   rcases hQ with ⟨x1,hx1,hx2,rfl,hPR⟩|⟨hx1,he⟩
   case inr =>
    have HF:=hid (HR0.out.trans (by rw [hx1]))
    clear hx1
    unfold zaa at he
    subst he
    go_wp2
    exact ⟨rfl,v1,HEND.out _ _ HKM.out,Or.inr ⟨HF.out,rfl⟩⟩
   have HR1:=hid (HR0.out.trans (by rw [hx1]))
   have HS1:=hid3 hPR hx2 HKM.out
   clear hx1 hx2 hPR a0 b0 c0 d0 e0
   go_wp2
   first|go_end0|refine bodyPost_ret (results_none rfl _ _ _) rfl ?_
   exact ⟨v1,HEND.out _ _ HS1.out.2.2,Or.inl ⟨x1,HR1.out,HS1.out.2.1,rfl,HS1.out.1⟩⟩
 · have j1:((L:Int)==1)=false:=by simp;omega
   have HP:=hid2 h hx
   obtain ⟨R,hR⟩:∃ R,zh5 ts txt=R:=⟨_,rfl⟩
   rw [hR]
   have HR:=hid hR.symm
   have HL:=hid hL
   have HLM:=hid hLm
   have HKD:=hid hk
   have HRE:=hid hr
   have HBA:=hid hb
   clear hL hLm hk hr hb
   clear h hx hR
   have HS:Hid (PR wa p txt d v0∧txt.length<=16000∧Lx.Kept p v0 v0 wa wa):=⟨HP.out.1,HP.out.2,Lx.Kept.of_below (Below.refl _ _)⟩
   have HEND:Hid (∀ v' w',Lx.Kept p v0 v' wa w'->Lx.Kept p v0 v' wa w'):=fun v' w' hk=>hk
   have HFR:Hid (∀ v' w',Lx.Kept p v0 v' wa w'->za1 p wa w'):=fun v' w' hk=>HP.out.1.front hk
   have HR0:Hid (R=sepP zcg (decide (0<0)) (ts.drop 0) txt):=by show _=_;rw [HR.out];unfold zh5;rw [if_neg (by have:=HL.out;omega)];rfl
   clear h1
   go_enter Tryz.func159,Tryz.ntmps159
   go_wp2_with fail
   go_loopw [16] (fun i wr=>∃ (q:Nat) (x:List UInt8) (v:Value),i=.int .i64 q∧q<=L∧Hid (PR wr p x d v∧x.length<=16000∧Lx.Kept p v0 v wa wr)∧Hid (R=sepP zcg (decide (0<q)) (ts.drop q) x)) (fun i _=>L - (RowKit.intOf i).toNat)
   case atStart=>exact ⟨0,txt,v0,rfl,by omega,HS,HR0⟩
   case round =>
    obtain ⟨q,x,v,rfl,hq,HSQ,HRQ⟩:=hrel
    by_cases hlt:q<L
    · have hlt' : (q:Int)<L:=by omega
      have hq0:(0:Int)<=(q:Int):=by omega
      have hqm:(q:Int)<=1000:=by have:=HLM.out;omega
      have HQL:=hid hlt
      have HQK:Hid (q<ts.length):=by show _<_;have:=HL.out;omega
      obtain ⟨k1,n1,m1,a1,us,o1,c1,he,hkd⟩:=HKD.out q HQK.out
      have HDR:Hid (ts.drop q=.node k1 n1 m1 a1 us::ts.drop (q+1)):=by show _=_;rw [<- he];exact zdl HQK.out
      have HKT:Hid (∀ w2,za1 p wa w2->TreeR p w2 (.node k1 n1 m1 a1 us) (zaj k1 n1 m1 a1 (.slice o1 us.length c1))):=fun w2 h2=>(hkd w2 h2).2
      have HKR:Hid (∀ w2,za1 p wa w2->KidR w2 g (f+q*5) k1 n1 m1 a1 (.slice o1 us.length c1)):=fun w2 h2=>(hkd w2 h2).1
      obtain ⟨a0,b0,c0,d0,e0⟩:=HKR.out wr (HFR.out _ _ HSQ.out.2.2)
      obtain ⟨wb,hwb⟩:∃ x,wr.alloc (.cells #[.int .i64 k1,.string ⟨n1.toArray⟩,.int .i64 m1,.int .i64 a1,.slice o1 us.length c1] 29)=x:=⟨_,rfl⟩
      have HBB:Hid (Below wr.heap.size wr wb):=by show Below _ _ _;rw [<- hwb];exact zad _ _
      have HKB:Hid (wb.heap[wr.heap.size]?=some (za2 k1 n1 m1 a1 (.slice o1 us.length c1))):=by show _=_;rw [<- hwb];exact heap_alloc_new _ _
      obtain ⟨⟨y0,y1,y2,y3,y4⟩,_⟩:=zab HKB.out
      have HSB:=hid3 (HSQ.out.1.below HBB.out) HSQ.out.2.1 (HSQ.out.2.2.trans (Lx.Kept.of_below HBB.out))
      have HKBK:=hid (boxed HSQ.out.1 HKB.out)
      have HCB:Hid (Lx.Kept p v v wb wb):=Lx.Kept.of_below (Below.refl _ _)
      clear he hkd hlt
      by_cases hq1:q=0
      · have hq1' : ¬ (q:Int) > 0:=by omega
        have HRS:Hid (R=(zcg (.node k1 n1 m1 a1 us) x).bind (sepP zcg true (ts.drop (q+1)))):=by show _=_;rw [HRQ.out,HDR.out,show decide (0<q)=false from by simp [hq1]];rfl
        clear HRQ HDR hq1
        go_wp2_with fail
        refine (HBA.out.run wb (HFR.out _ _ HSB.out.2.2) k1 n1 m1 a1 us o1 c1 (HKT.out _ (HFR.out _ _ HSB.out.2.2)) x v HSB.out.1 HSB.out.2.1).mono ?_
        rintro e w21 ⟨v21,hk,hQ⟩
        have HKM:=hid (HSB.out.2.2.trans hk)
        clear hk
        rcases hQ with ⟨x21,hx1,hx2,rfl,hPR⟩|⟨hx1,he⟩
        case inr =>
         have HF:Hid (R=none):=HRS.out.trans (by rw [hx1];rfl)
         clear hx1
         unfold zaa at he
         subst he
         go_wp2
         exact ⟨rfl,v21,HEND.out _ _ HKM.out,Or.inr ⟨HF.out,rfl⟩⟩
        have HR21:Hid (R=sepP zcg true (ts.drop (q+1)) x21):=HRS.out.trans (by rw [hx1];rfl)
        have HS21:=hid3 hPR hx2 HKM.out
        clear hx1 hx2 hPR y0 y1 y2 y3 y4 a0 b0 c0 d0 e0 hwb
        have HRz:Hid (R=sepP zcg (decide (0<q+1)) (ts.drop (q+1)) x21):=by show _=_;rw [HR21.out,show decide (0<q+1)=true from by simp]
        go_wp2
        go_roundw
        case rel=>exact ⟨q+1,x21,v21,by go_num,HQL.out,HS21,HRz⟩
        case measure=>have:=HQL.out;simp [RowKit.intOf];omega
      · have hq1' : (q:Int) > 0:=by omega
        have HRS:Hid (R=((layP [[44]] x).bind (zcg (.node k1 n1 m1 a1 us))).bind (sepP zcg true (ts.drop (q+1)))):=by show _=_;rw [HRQ.out,HDR.out,show decide (0<q)=true from by simp;omega];rfl
        clear HRQ HDR hq1
        go_wp2_with fail
        refine (za7 p [[44]] _ rfl (by intro t ht;simp only [List.mem_cons,List.not_mem_nil,or_false] at ht;rcases ht with rfl <;> first|exact HN.out|exact HOP.out|exact HSH.out|exact ⟨by decide,by decide⟩) (by simp) 1 rfl x d v wb HSB.out.1 HSB.out.2.1).mono ?_
        rintro e w21 ⟨v21,hk,hQ⟩
        have HKM:=hid (HSB.out.2.2.trans hk)
        have HC21:=hid (HCB.out.trans hk)
        clear hk
        rcases hQ with ⟨x21,hx1,hx2,rfl,hPR⟩|⟨hx1,he⟩
        case inr =>
         have HF:Hid (R=none):=HRS.out.trans (by rw [hx1];rfl)
         clear hx1
         unfold zaa at he
         subst he
         go_wp2
         exact ⟨rfl,v21,HEND.out _ _ HKM.out,Or.inr ⟨HF.out,rfl⟩⟩
        have HR21:Hid (R=(zcg (.node k1 n1 m1 a1 us) x21).bind (sepP zcg true (ts.drop (q+1)))):=HRS.out.trans (by rw [hx1];rfl)
        have HS21:=hid3 hPR hx2 HKM.out
        clear hx1 hx2 hPR y0 y1 y2 y3 y4 a0 b0 c0 d0 e0
        have a0:True:=trivial
        have b0:True:=trivial
        have c0:True:=trivial
        have d0:True:=trivial
        have e0:True:=trivial
        obtain ⟨⟨y0,y1,y2,y3,y4⟩,_⟩:=zab (HKBK.out _ _ HC21.out)
        go_wp2_with fail
        refine (HBA.out.run w21 (HFR.out _ _ HS21.out.2.2) k1 n1 m1 a1 us o1 c1 (HKT.out _ (HFR.out _ _ HS21.out.2.2)) x21 v21 HS21.out.1 HS21.out.2.1).mono ?_
        rintro e w22 ⟨v22,hk,hQ⟩
        have HKM:=hid (HS21.out.2.2.trans hk)
        have HC22:=hid (HC21.out.trans hk)
        clear hk
        rcases hQ with ⟨x22,hx1,hx2,rfl,hPR⟩|⟨hx1,he⟩
        case inr =>
         have HF:Hid (R=none):=HR21.out.trans (by rw [hx1];rfl)
         clear hx1
         unfold zaa at he
         subst he
         go_wp2
         exact ⟨rfl,v22,HEND.out _ _ HKM.out,Or.inr ⟨HF.out,rfl⟩⟩
        have HR22:Hid (R=sepP zcg true (ts.drop (q+1)) x22):=HR21.out.trans (by rw [hx1];rfl)
        have HS22:=hid3 hPR hx2 HKM.out
        clear hx1 hx2 hPR y0 y1 y2 y3 y4 a0 b0 c0 d0 e0 hwb
        have HRz:Hid (R=sepP zcg (decide (0<q+1)) (ts.drop (q+1)) x22):=by show _=_;rw [HR22.out,show decide (0<q+1)=true from by simp]
        go_wp2
        go_roundw
        case rel=>exact ⟨q+1,x22,v22,by go_num,HQL.out,HS22,HRz⟩
        case measure=>have:=HQL.out;simp [RowKit.intOf];omega
    · have hqe:q=L:=by omega
      subst hqe
      have hlt2:¬ (q:Int)<q:=by omega
      have HRA:Hid (R=some x):=by show _=_;rw [HRQ.out,List.drop_of_length_le (by have:=HL.out;omega),zn4]
      clear HRQ
      go_wp2
      first|go_end0|refine bodyPost_ret (results_none rfl _ _ _) rfl ?_
      exact ⟨v,HEND.out _ _ HSQ.out.2.2,Or.inl ⟨x,HRA.out,HSQ.out.2.1,rfl,HSQ.out.1⟩⟩
theorem zcy {p:Nat} {w:World} {k m a:Int} {n:List UInt8} {ks:List ITree} {o:Option Addr} {c:Nat} (ht:TreeR p w (.node k n m a ks) (zaj k n m a (.slice o ks.length c))) (h0:0<ks.length) :
 ∃ g f,o=some ⟨g,f,none⟩∧g<p∧zf8 p w g f ks:=by
 obtain ⟨g,f,h1,h2,h3⟩:=zlr ht h0
 refine ⟨g,f,h1,h2,fun j hj=>?_⟩
 obtain ⟨k1,n1,m1,a1,us,o1,c1,h4,h5⟩:=h3 j hj
 exact ⟨k1,n1,m1,a1,us,o1,c1,h4,fun w2 hf=>h5 w2 hf⟩
def zg6 (t:ITree) (txt:List UInt8):Option (List UInt8):=(layP [[99,97,115,101]] txt).bind fun x=>(zat t x).bind (layP [[58]])
def armP (fi:ITree->List UInt8->Option (List UInt8)) (t:ITree) (txt:List UInt8):Option (List UInt8) :=
 if t.kind=8 then (if zaw t.name false&&zan t.kids.length t.num 2 65 then (rowP zg6 (t.kids.take (t.kids.length - 1)) txt).bind (fi (t.kids.getD (t.kids.length - 1) zby)) else none) else none
theorem arm_ok {fi:ITree->List UInt8->Option (List UInt8)} {n:List UInt8} {m a:Int} {ks:List ITree} {L:Nat} (hl:ks.length=L) {b:Bool} (hb:(zaw n false&&zan L m 2 65)=b) (x:List UInt8):armP fi (.node 8 n m a ks) x=if b then (rowP zg6 (ks.take (L - 1)) x).bind (fi (ks.getD (L - 1) zby)) else none:=by
 subst hl
 subst hb
 rfl
set_option maxHeartbeats 2000000 in
set_option maxRecDepth 4000 in
theorem does_arm {p:Nat} {d:Int} {w0:World} {fi:ITree->List UInt8->Option (List UInt8)} (hfi:Does p d w0 160 (fun v=>#[.pointer (some ⟨p,0,none⟩),v]) fi) (hv:Does p d w0 157 (fun v=>#[.pointer (some ⟨p,0,none⟩),v]) zat):Does p d w0 161 (fun v=>#[.pointer (some ⟨p,0,none⟩),v]) (armP fi):=by
 refine ⟨fun w hf k n m a ks o c ht txt v0 h hx=>?_⟩
 have HTR:=hid ht
 have HN0:=hid ((zay ht).1)
 have HCC:=hid ((zay ht).2.2.1)
 have HFI:Hid (Does p d w 160 (fun v=>#[.pointer (some ⟨p,0,none⟩),v]) fi):=hfi.front hf
 have HV:Hid (Does p d w 157 (fun v=>#[.pointer (some ⟨p,0,none⟩),v]) zat):=hv.front hf
 have hn:=HN0.out
 clear ht hf hfi hv
 obtain ⟨L,hL⟩:∃ L,ks.length=L:=⟨_,rfl⟩
 have HL:Hid (ks.length=L):=hL
 rw [hL]
 rw [hL] at HCC
 clear hL
 have HP:=hid2 h hx
 obtain ⟨R,hR⟩:∃ R,armP fi (.node k n m a ks) txt=R:=⟨_,rfl⟩
 rw [hR]
 have HR:Hid (R=armP fi (.node k n m a ks) txt):=hR.symm
 have HMH:Hid (∀ w,Calls Tryz.prog 59 #[zaj k n m a (.slice o L c),.bool false,.int .i64 2,.int .i64 65] w (zb6 (zaw n false&&zan L m 2 65) w)):=fun w=>zc3 k n m a o L c 2 65 w (by unfold maxLen at hn;omega)
 unfold zaj at HMH
 clear hn
 clear h hx hR
 obtain ⟨wa,hwa⟩:∃ x,w.alloc (.cells #[.int .i64 k,.string ⟨n.toArray⟩,.int .i64 m,.int .i64 a,.slice o L c] 29)=x:=⟨_,rfl⟩
 have HB:=hidB hwa
 have HK:Hid (wa.heap[w.heap.size]?=some (za2 k n m a (.slice o L c))):=by show _=_;rw [<- hwa];exact heap_alloc_new _ _
 have HS:Hid (PR wa p txt d v0∧txt.length<=16000∧Lx.Kept p v0 v0 wa wa):=⟨HP.out.1.below HB.out,HP.out.2,Lx.Kept.of_below (Below.refl _ _)⟩
 have HBK:Hid (∀ v' w',Lx.Kept p v0 v' wa w'->w'.heap[w.heap.size]?=some (za2 k n m a (.slice o L c))):=boxed HP.out.1 HK.out
 have HEND:Hid (∀ v' w',Lx.Kept p v0 v' wa w'->Lx.Kept p v0 v' w w'):=fun v' w' hk=>(Lx.Kept.of_below HB.out).trans hk
 have HFR:Hid (∀ v' w',Lx.Kept p v0 v' wa w'->za1 p w w'):=fun v' w' hk=>HP.out.1.front (HEND.out _ _ hk)
 obtain ⟨⟨z0,z1,z2,z3,z4⟩,_⟩:=zab HK.out
 unfold zaj
 go_enter Tryz.func161,Tryz.ntmps161
 by_cases h5:k=8
 case neg =>
  have j5:(k==8)=false:=by simp [h5]
  have HF:Hid (R=none):=by
   show _=_
   rw [HR.out];unfold armP;exact if_neg h5
  clear h5
  go_wp2_with (first|(go_at_call 58;refine (zar _).mono ?_;rintro e wi ⟨rfl,hwi⟩;rw [hwi];clear hwi wi)|(go_at_call 58;refine (zak _).mono ?_;rintro e wi ⟨he,hwi⟩;rw [hwi];clear hwi;unfold zaa at he;rw [he];clear he wi))
  exact ⟨rfl,v0,HEND.out _ _ HS.out.2.2,Or.inr ⟨HF.out,rfl⟩⟩
 subst h5
 go_wp2_with (first|(go_at_call 58;refine (zar _).mono ?_;rintro e wi ⟨rfl,hwi⟩;rw [hwi];clear hwi wi)|(go_at_call 58;refine (zak _).mono ?_;rintro e wi ⟨he,hwi⟩;rw [hwi];clear hwi;unfold zaa at he;rw [he];clear he wi))
 refine (HMH.out _).mono ?_
 rintro e w1 ⟨hB,hq⟩
 have HKM:=hid (HS.out.2.2.trans (Lx.Kept.of_below hB))
 have HPM:=hid (HS.out.1.below hB)
 clear hB
 rcases hq with ⟨hq,rfl⟩|⟨hq,he⟩
 case inr =>
  have HF:Hid (R=none):=by
   show _=_
   rw [HR.out];rw [arm_ok HL.out rfl];rw [hq];rfl
  clear hq
  unfold zaa at he
  subst he
  go_wp2
  exact ⟨rfl,v0,HEND.out _ _ HKM.out,Or.inr ⟨HF.out,rfl⟩⟩
 have HR1:Hid (R=(rowP zg6 (ks.take (L - 1)) txt).bind (fi (ks.getD (L - 1) zby))):=by
  show _=_
  rw [HR.out];rw [arm_ok HL.out rfl];rw [hq];rfl
 have HQ1:Hid ((zaw n false&&zan L m 2 65)=true):=hq
 have HS1:=hid3 HPM.out HS.out.2.1 HKM.out
 clear hq z0 z1 z2 z3 z4 hwa
 have hlen:2<=L∧L<=65:=by
  have:=HQ1.out
  unfold zan at this
  simp at this
  omega
 have HLE:=hid hlen
 obtain ⟨g,f,ho,hg,hkd⟩:=zcy HTR.out (by have:=HL.out;omega)
 subst ho
 have HKA:=hid hkd
 clear hlen hg hkd
 obtain ⟨M,hM⟩:∃ M,L=M+1:=⟨L - 1,by have:=HLE.out;omega⟩
 subst hM
 have HKZ:=HKA
 have HKD:=hid (HKA.out.take M)
 have HRM:Hid (R=(rowP zg6 ((ks.take M).drop 0) txt).bind (fi (ks.getD M zby))):=HR1.out
 obtain ⟨ts,hts⟩:∃ ts,ks.take M=ts:=⟨_,rfl⟩
 have HTL:Hid (ts.length=M):=by show _=_;rw [<- hts,List.length_take];have:=HL.out;omega
 rw [hts] at HKD HRM
 clear hts
 obtain ⟨k9,n9,m9,a9,us9,o9,c9,he9,hkd9⟩:=HKA.out (M) (by have:=HL.out;have:=HLE.out;omega)
 have HKE9:Hid (ks.getD (M) zby=.node k9 n9 m9 a9 us9):=he9
 have HKW9:Hid (∀ w2,za1 p w w2->KidR w2 g (f+(M)*5) k9 n9 m9 a9 (.slice o9 us9.length c9)∧TreeR p w2 (.node k9 n9 m9 a9 us9) (zaj k9 n9 m9 a9 (.slice o9 us9.length c9))):=hkd9
 clear he9 hkd9
 have hm1:(1:Int)<=(M:Int):=by have:=HLE.out;omega
 have hm2:(M:Int)<=64:=by have:=HLE.out;omega
 have hc1:(M:Int)+1<=(c:Int):=by have:=HCC.out;omega
 have hc2:(c:Int)<=9223372036854775807:=by have:=HCC.out.2;unfold maxLen at this;omega
 have HRM2:Hid (R=(rowP zg6 (ts.drop 0) txt).bind (fi (.node k9 n9 m9 a9 us9))):=by show _=_;rw [HRM.out,HKE9.out]
 have HMM:Hid (M<=64):=by show _<=_;omega
 obtain ⟨⟨z0,z1,z2,z3,z4⟩,_⟩:=zab (HBK.out _ _ HS1.out.2.2)
 clear z0 z1 z2 z3
 go_wp2_with fail
 go_loopw [22] (fun i wr=>∃ (q:Nat) (x:List UInt8) (v:Value),i=.int .i64 q∧q<=M∧Hid (PR wr p x d v∧x.length<=16000∧Lx.Kept p v0 v wa wr)∧Hid (R=(rowP zg6 (ts.drop q) x).bind (fi (.node k9 n9 m9 a9 us9)))) (fun i _=>M - (RowKit.intOf i).toNat)
 case atStart=>exact ⟨0,txt,v0,rfl,by omega,HS1,HRM2⟩
 case round =>
  obtain ⟨q,x,v,rfl,hq,HSQ,HRQ⟩:=hrel
  by_cases hlt:q<M
  · have hlt' : (q:Int)<M:=by omega
    have hq0:(0:Int)<=(q:Int):=by omega
    have hqm:(q:Int)<=1000:=by have:=HMM.out;omega
    have HQL:=hid hlt
    have HQK:Hid (q<ts.length):=by show _<_;have:=HTL.out;omega
    obtain ⟨k1,n1,m1,a1,us,o1,c1,he,hkd⟩:=HKD.out q HQK.out
    have HDR:Hid (ts.drop q=.node k1 n1 m1 a1 us::ts.drop (q+1)):=by show _=_;rw [<- he];exact zdl HQK.out
    have HKT:Hid (∀ w2,za1 p w w2->TreeR p w2 (.node k1 n1 m1 a1 us) (zaj k1 n1 m1 a1 (.slice o1 us.length c1))):=fun w2 h2=>(hkd w2 h2).2
    have HKR:Hid (∀ w2,za1 p w w2->KidR w2 g (f+q*5) k1 n1 m1 a1 (.slice o1 us.length c1)):=fun w2 h2=>(hkd w2 h2).1
    obtain ⟨a0,b0,c0,d0,e0⟩:=HKR.out wr (HFR.out _ _ HSQ.out.2.2)
    obtain ⟨wb,hwb⟩:∃ x,wr.alloc (.cells #[.int .i64 k1,.string ⟨n1.toArray⟩,.int .i64 m1,.int .i64 a1,.slice o1 us.length c1] 29)=x:=⟨_,rfl⟩
    have HBB:Hid (Below wr.heap.size wr wb):=by show Below _ _ _;rw [<- hwb];exact zad _ _
    have HKB:Hid (wb.heap[wr.heap.size]?=some (za2 k1 n1 m1 a1 (.slice o1 us.length c1))):=by show _=_;rw [<- hwb];exact heap_alloc_new _ _
    obtain ⟨⟨y0,y1,y2,y3,y4⟩,_⟩:=zab HKB.out
    have HSB:=hid3 (HSQ.out.1.below HBB.out) HSQ.out.2.1 (HSQ.out.2.2.trans (Lx.Kept.of_below HBB.out))
    have HKBK:Hid (∀ v' w',Lx.Kept p v v' wb w'->w'.heap[wr.heap.size]?=some (za2 k1 n1 m1 a1 (.slice o1 us.length c1))):=boxed HSQ.out.1 HKB.out
    have HCB:Hid (Lx.Kept p v v wb wb):=Lx.Kept.of_below (Below.refl _ _)
    clear he hkd hlt
    have HRS:Hid (R=(((layP [[99,97,115,101]] x).bind fun x=>(zat (.node k1 n1 m1 a1 us) x).bind (layP [[58]])).bind (rowP zg6 (ts.drop (q+1)))).bind (fi (.node k9 n9 m9 a9 us9))):=by show _=_;rw [HRQ.out,HDR.out];rfl
    clear HRQ HDR
    go_wp2_with fail
    refine (za7 p [[99,97,115,101]] _ rfl (by intro t ht;simp only [List.mem_cons,List.not_mem_nil,or_false] at ht;rcases ht with rfl <;> first|exact HN.out|exact HOP.out|exact HSH.out|exact ⟨by decide,by decide⟩) (by simp) 1 rfl x d v wb HSB.out.1 HSB.out.2.1).mono ?_
    rintro e w22 ⟨v22,hk,hQ⟩
    have HKM:=hid (HSB.out.2.2.trans hk)
    have HC22:=hid (HCB.out.trans hk)
    clear hk
    rcases hQ with ⟨x22,hx1,hx2,rfl,hPR⟩|⟨hx1,he⟩
    case inr =>
     have HF:Hid (R=none):=HRS.out.trans (by rw [hx1];rfl)
     clear hx1
     unfold zaa at he
     subst he
     go_wp2
     exact ⟨rfl,v22,HEND.out _ _ HKM.out,Or.inr ⟨HF.out,rfl⟩⟩
    have HR22:Hid (R=(((zat (.node k1 n1 m1 a1 us) x22).bind (layP [[58]])).bind (rowP zg6 (ts.drop (q+1)))).bind (fi (.node k9 n9 m9 a9 us9))):=HRS.out.trans (by rw [hx1];rfl)
    have HS22:=hid3 hPR hx2 HKM.out
    clear hx1 hx2 hPR a0 b0 c0 d0 e0 y0 y1 y2 y3 y4 hwb
    obtain ⟨⟨y0,y1,y2,y3,y4⟩,_⟩:=zab (HKBK.out _ _ HC22.out)
    go_wp2_with fail
    refine (HV.out.run w22 (HFR.out _ _ HS22.out.2.2) k1 n1 m1 a1 us o1 c1 (HKT.out _ (HFR.out _ _ HS22.out.2.2)) x22 v22 HS22.out.1 HS22.out.2.1).mono ?_
    rintro e w23 ⟨v23,hk,hQ⟩
    have HKM:=hid (HS22.out.2.2.trans hk)
    have HC23:=hid (HC22.out.trans hk)
    clear hk
    rcases hQ with ⟨x23,hx1,hx2,rfl,hPR⟩|⟨hx1,he⟩
    case inr =>
     have HF:Hid (R=none):=HR22.out.trans (by rw [hx1];rfl)
     clear hx1
     unfold zaa at he
     subst he
     go_wp2
     exact ⟨rfl,v23,HEND.out _ _ HKM.out,Or.inr ⟨HF.out,rfl⟩⟩
    have HR23:Hid (R=((layP [[58]] x23).bind (rowP zg6 (ts.drop (q+1)))).bind (fi (.node k9 n9 m9 a9 us9))):=HR22.out.trans (by rw [hx1];rfl)
    have HS23:=hid3 hPR hx2 HKM.out
    clear hx1 hx2 hPR y0 y1 y2 y3 y4
    go_wp2_with fail
    refine (za7 p [[58]] _ rfl (by intro t ht;simp only [List.mem_cons,List.not_mem_nil,or_false] at ht;rcases ht with rfl <;> first|exact HN.out|exact HOP.out|exact HSH.out|exact ⟨by decide,by decide⟩) (by simp) 1 rfl x23 d v23 w23 HS23.out.1 HS23.out.2.1).mono ?_
    rintro e w24 ⟨v24,hk,hQ⟩
    have HKM:=hid (HS23.out.2.2.trans hk)
    have HC24:=hid (HC23.out.trans hk)
    clear hk
    rcases hQ with ⟨x24,hx1,hx2,rfl,hPR⟩|⟨hx1,he⟩
    case inr =>
     have HF:Hid (R=none):=HR23.out.trans (by rw [hx1];rfl)
     clear hx1
     unfold zaa at he
     subst he
     go_wp2
     exact ⟨rfl,v24,HEND.out _ _ HKM.out,Or.inr ⟨HF.out,rfl⟩⟩
    have HR24:Hid (R=(rowP zg6 (ts.drop (q+1)) x24).bind (fi (.node k9 n9 m9 a9 us9))):=HR23.out.trans (by rw [hx1];rfl)
    have HS24:=hid3 hPR hx2 HKM.out
    clear hx1 hx2 hPR 
    go_wp2
    go_roundw
    case rel=>exact ⟨q+1,x24,v24,by go_num,HQL.out,HS24,HR24⟩
    case measure=>have:=HQL.out;simp [RowKit.intOf];omega
  · have hqe:q=M:=by omega
    subst hqe
    have hlt2:¬ (q:Int)<q:=by omega
    have HRA:Hid (R=fi (.node k9 n9 m9 a9 us9) x):=by show _=_;rw [HRQ.out,List.drop_of_length_le (by have:=HTL.out;omega)];rfl
    clear HRQ
    obtain ⟨⟨z0,z1,z2,z3,z4⟩,_⟩:=zab (HBK.out _ _ HSQ.out.2.2)
    clear z0 z1 z2 z3
    obtain ⟨q0,q1,q2,q3,q4⟩:=(HKW9.out _ (HFR.out _ _ HSQ.out.2.2)).1
    go_wp2_with fail
    refine (HFI.out.run wr (HFR.out _ _ HSQ.out.2.2) k9 n9 m9 a9 us9 o9 c9 (HKW9.out _ (HFR.out _ _ HSQ.out.2.2)).2 x v HSQ.out.1 HSQ.out.2.1).mono ?_
    rintro e w42 ⟨v42,hk,hQ⟩
    have HKM:=hid (HSQ.out.2.2.trans hk)
    clear hk
    rcases hQ with ⟨x42,hx1,hx2,rfl,hPR⟩|⟨hx1,he⟩
    case inr =>
     have HF:Hid (R=none):=HRA.out.trans (by rw [hx1])
     clear hx1
     unfold zaa at he
     subst he
     go_wp2
     exact ⟨rfl,v42,HEND.out _ _ HKM.out,Or.inr ⟨HF.out,rfl⟩⟩
    have HR42:Hid (R=some x42):=HRA.out.trans (by rw [hx1])
    have HS42:=hid3 hPR hx2 HKM.out
    clear hx1 hx2 hPR z4 q0 q1 q2 q3 q4
    go_wp2
    first|go_end0|refine bodyPost_ret (results_none rfl _ _ _) rfl ?_
    exact ⟨v42,HEND.out _ _ HS42.out.2.2,Or.inl ⟨x42,HR42.out,HS42.out.2.1,rfl,HS42.out.1⟩⟩
end Go.Proofs.YtodfklpmbclgkaaGreatDoor.Pr
