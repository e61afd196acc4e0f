import Derived.Test.YtodfklpmbclgkaaGreatDoorBack14
namespace Go.Proofs.YtodfklpmbclgkaaGreatDoor.Pr
open Go.RowKit Go.Lib
def ofP (wr:ITree->List UInt8->Option (List UInt8)) (t:ITree) (txt:List UInt8):Option (List UInt8):=if t.kind=25 then zgz [111,112,97,113,117,101] t txt else if t.kind=26 then zgz [115,116,114,105,110,103] t txt else wr t txt
def sizedP (wr:ITree->List UInt8->Option (List UInt8)) (opn shut:List UInt8) (t:ITree) (txt:List UInt8):Option (List UInt8) :=
 (ofP wr (t.kids.getD 0 zby) txt).bind fun x=>(layP [t.name,opn] x).bind fun x=>(rowP zat (t.kids.drop 1) x).bind (layP [shut])
set_option maxHeartbeats 2000000 in
set_option maxRecDepth 4000 in
theorem zhg {p:Nat} {d:Int} {w:World} {wr:ITree->List UInt8->Option (List UInt8)} (hwr:Does p d w 132 (fun v=>#[.pointer (some ⟨p,0,none⟩),v]) wr) (hv:Does p d w 157 (fun v=>#[.pointer (some ⟨p,0,none⟩),v]) zat) (k:Int) (n:List UInt8) (m a:Int) (ks:List ITree) (o:Option Addr) (c:Nat) (ht:TreeR p w (.node k n m a ks) (zaj k n m a (.slice o ks.length c))) (opn shut:List UInt8) (ho:opn≠[]∧opn.length<=64) (hs:shut≠[]∧shut.length<=64) (hn:n≠[]∧n.length<=64) (hl:1<=ks.length∧ks.length<=2) (txt:List UInt8) (v0:Value) (h:PR w p txt d v0) (hx:txt.length<=16000) :
 Calls Tryz.prog 133 #[.pointer (some ⟨p,0,none⟩),zaj k n m a (.slice o ks.length c),.string ⟨opn.toArray⟩,.string ⟨shut.toArray⟩] w (zbp p d v0 (sizedP wr opn shut (.node k n m a ks) txt) w):=by
 have HTR:=hid ht
 have HCC:=hid ((zay ht).2.2.1)
 have HWR:Hid (Does p d w 132 (fun v=>#[.pointer (some ⟨p,0,none⟩),v]) wr):=hwr
 have HV:Hid (Does p d w 157 (fun v=>#[.pointer (some ⟨p,0,none⟩),v]) zat):=hv
 have HN:=hid hn
 have HOP:=hid ho
 have HSH:=hid hs
 obtain ⟨L,hL⟩:∃ L,ks.length=L:=⟨_,rfl⟩
 have HL:Hid (ks.length=L):=hL
 rw [hL]
 rw [hL] at HCC hl
 have HLE:=hid hl
 obtain ⟨g,f,ho2,hg,hkd⟩:=zcy ht (by omega)
 subst ho2
 have HKA:=hid hkd
 clear ht hwr hv hn ho hs hl hL hg hkd
 obtain ⟨M,hM⟩:∃ M,L=M+1:=⟨L - 1,by have:=HLE.out;omega⟩
 subst hM
 obtain ⟨k9,n9,m9,a9,us9,o9,c9,he9,hkd9⟩:=HKA.out (0) (by have:=HL.out;have:=HLE.out;omega)
 have HKE9:Hid (ks.getD (0) zby=.node k9 n9 m9 a9 us9):=he9
 have HKW9:Hid (∀ w2,za1 p w w2->KidR w2 g (f+(0)*5) k9 n9 m9 a9 (.slice o9 us9.length c9)∧TreeR p w2 (.node k9 n9 m9 a9 us9) (zaj k9 n9 m9 a9 (.slice o9 us9.length c9))):=hkd9
 clear he9 hkd9
 have HKD:=hid (HKA.out.drop 1)
 have HQ:Hid (sizedP wr opn shut (.node k n m a ks) txt=(ofP wr (.node k9 n9 m9 a9 us9) txt).bind fun x=>(layP [n,opn] x).bind fun x=>(rowP zat (ks.drop 1) x).bind (layP [shut])):=by show _=_;rw [<- HKE9.out];rfl
 obtain ⟨P,hP⟩:∃ P,sizedP wr opn shut (.node k n m a ks)=P:=⟨_,rfl⟩
 rw [hP] at HQ ⊢
 clear hP
 obtain ⟨ts,hts⟩:∃ ts,ks.drop 1=ts:=⟨_,rfl⟩
 have HTL:Hid (ts.length=M):=by show _=_;rw [<- hts,List.length_drop];have:=HL.out;omega
 rw [hts] at HKD HQ
 clear hts
 have HP:=hid2 h hx
 obtain ⟨R,hR⟩:∃ R,P txt=R:=⟨_,rfl⟩
 rw [hR]
 have HR:Hid (R=P txt):=hR.symm
 clear h hx hR
 obtain ⟨wa,hwa⟩:∃ x,w.alloc (.cells #[.int .i64 k,.string ⟨n.toArray⟩,.int .i64 m,.int .i64 a,.slice (some ⟨g,f,none⟩) (M+1) c] 29)=x:=⟨_,rfl⟩
 have HB:=hidB hwa
 have HK:Hid (wa.heap[w.heap.size]?=some (za2 k n m a (.slice (some ⟨g,f,none⟩) (M+1) c))):=by show _=_;rw [<- hwa];exact heap_alloc_new _ _
 have HS:Hid (PR wa p txt d v0∧txt.length<=16000∧Lx.Kept p v0 v0 wa wa):=⟨HP.out.1.below HB.out,HP.out.2,Lx.Kept.of_below (Below.refl _ _)⟩
 have HBK:Hid (∀ v' w',Lx.Kept p v0 v' wa w'->w'.heap[w.heap.size]?=some (za2 k n m a (.slice (some ⟨g,f,none⟩) (M+1) c))):=boxed HP.out.1 HK.out
 have HEND:Hid (∀ v' w',Lx.Kept p v0 v' wa w'->Lx.Kept p v0 v' w w'):=fun v' w' hk=>(Lx.Kept.of_below HB.out).trans hk
 have HFR:Hid (∀ v' w',Lx.Kept p v0 v' wa w'->za1 p w w'):=fun v' w' hk=>HP.out.1.front (HEND.out _ _ hk)
 obtain ⟨⟨z0,z1,z2,z3,z4⟩,_⟩:=zab HK.out
 unfold zaj
 have HR0:Hid (R=(ofP wr (.node k9 n9 m9 a9 us9) txt).bind fun x=>(layP [n,opn] x).bind fun x=>(rowP zat ts x).bind (layP [shut])):=HR.out.trans HQ.out
 have hm2:(M:Int)<=1:=by have:=HLE.out;omega
 have hm0:(0:Int)<=(M:Int):=by omega
 have hc1:(M:Int)+1<=(c:Int):=by have:=HCC.out;omega
 have hc2:(c:Int)<=9223372036854775807:=by have:=HCC.out.2;unfold maxLen at this;omega
 have HMM:Hid (M<=64):=by show _<=_;omega
 obtain ⟨q0,q1,q2,q3,q4⟩:=(HKW9.out _ (HFR.out _ _ HS.out.2.2)).1
 simp only [Nat.zero_mul,Nat.add_zero] at q0 q1 q2 q3 q4
 obtain ⟨wb,hwb⟩:∃ x,wa.alloc (.cells #[.int .i64 k9,.string ⟨n9.toArray⟩,.int .i64 m9,.int .i64 a9,.slice o9 us9.length c9] 29)=x:=⟨_,rfl⟩
 have HBB:Hid (Below wa.heap.size wa wb):=by show Below _ _ _;rw [<- hwb];exact zad _ _
 have HKB:Hid (wb.heap[wa.heap.size]?=some (za2 k9 n9 m9 a9 (.slice o9 us9.length c9))):=by show _=_;rw [<- hwb];exact heap_alloc_new _ _
 obtain ⟨⟨y0,y1,y2,y3,y4⟩,_⟩:=zab HKB.out
 have HSB:Hid (PR wb p txt d v0∧txt.length<=16000∧Lx.Kept p v0 v0 wa wb):=⟨HS.out.1.below HBB.out,HS.out.2.1,Lx.Kept.of_below HBB.out⟩
 go_enter Tryz.func133,Tryz.ntmps133
 by_cases h25:k9=25
 · subst h25
   have HRP:Hid (R=(zgz [111,112,97,113,117,101] (.node 25 n9 m9 a9 us9) txt).bind fun x=>(layP [n,opn] x).bind fun x=>(rowP zat ts x).bind (layP [shut])):=HR0.out
   go_wp2_with fail
   refine ((znv [111,112,97,113,117,101] ⟨by decide,by decide⟩:Does p d w 131 _ _).run wb (HFR.out _ _ HSB.out.2.2) 25 n9 m9 a9 us9 o9 c9 (HKW9.out _ (HFR.out _ _ HSB.out.2.2)).2 txt v0 HSB.out.1 HSB.out.2.1).mono ?_
   rintro e w1 ⟨v1,hk,hQ⟩
   have HKM:=hid (HSB.out.2.2.trans hk)
   clear hk
   rcases hQ with ⟨x1,hx1,hx2,rfl,hPR⟩|⟨hx1,he⟩
   case inr =>
    have HF:Hid (R=none):=HRP.out.trans (by rw [hx1];rfl)
    clear hx1
    unfold zaa at he
    subst he
    go_wp2
    exact ⟨rfl,v1,HEND.out _ _ HKM.out,Or.inr ⟨HF.out,rfl⟩⟩
   have HR1:Hid (R=(layP [n,opn] x1).bind fun x=>(rowP zat ts x).bind (layP [shut])):=HRP.out.trans (by rw [hx1];rfl)
   have HS1:=hid3 hPR hx2 HKM.out
   clear hx1 hx2 hPR z0 z1 z2 z3 z4 y0 y1 y2 y3 y4 q0 q1 q2 q3 q4 hwb hwa
   obtain ⟨⟨z0,z1,z2,z3,z4⟩,_⟩:=zab (HBK.out _ _ HS1.out.2.2)
   clear z0 z2 z3
   go_wp2_with fail
   refine (za7 p [n,opn] _ rfl (by intro t ht;simp only [List.mem_cons,List.not_mem_nil,or_false] at ht;rcases ht with rfl|rfl <;> first|exact HN.out|exact HOP.out|exact HSH.out|exact ⟨by decide,by decide⟩) (by simp) 2 rfl x1 d v1 w1 HS1.out.1 HS1.out.2.1).mono ?_
   rintro e w2 ⟨v2,hk,hQ⟩
   have HKM:=hid (HS1.out.2.2.trans hk)
   clear hk
   rcases hQ with ⟨x2,hx1,hx2,rfl,hPR⟩|⟨hx1,he⟩
   case inr =>
    have HF:Hid (R=none):=HR1.out.trans (by rw [hx1];rfl)
    clear hx1
    unfold zaa at he
    subst he
    go_wp2
    exact ⟨rfl,v2,HEND.out _ _ HKM.out,Or.inr ⟨HF.out,rfl⟩⟩
   have HR2:Hid (R=(rowP zat (ts.drop 0) x2).bind (layP [shut])):=HR1.out.trans (by rw [hx1];rfl)
   have HS2:=hid3 hPR hx2 HKM.out
   clear hx1 hx2 hPR z1 z4
   obtain ⟨⟨z0,z1,z2,z3,z4⟩,_⟩:=zab (HBK.out _ _ HS2.out.2.2)
   clear z0 z1 z2 z3
   by_cases hcc:c=1
   · have hM0:M=0:=by omega
     subst hM0
     subst hcc
     go_wp2_with fail
     go_loopw [40] (fun i wr=>∃ (x:List UInt8) (v:Value),i=.int .i64 0∧Hid (PR wr p x d v∧x.length<=16000∧Lx.Kept p v0 v wa wr)∧Hid (R=(rowP zat (ts.drop 0) x).bind (layP [shut]))) (fun _ _=>0)
     case atStart=>exact ⟨x2,v2,rfl,HS2,HR2⟩
     case round =>
      obtain ⟨x,v,rfl,HSQ,HRQ⟩:=hrel
      have HRA:Hid (R=layP [shut] x):=by show _=_;rw [HRQ.out,List.drop_of_length_le (by have:=HTL.out;omega)];rfl
      clear HRQ
      go_wp2_with fail
      refine (za7 p [shut] _ rfl (by intro t ht;simp only [List.mem_cons,List.not_mem_nil,or_false] at ht;rcases ht with rfl <;> first|exact HN.out|exact HOP.out|exact HSH.out|exact ⟨by decide,by decide⟩) (by simp) 1 rfl x d v wr HSQ.out.1 HSQ.out.2.1).mono ?_
      rintro e w61 ⟨v61,hk,hQ⟩
      have HKM:=hid (HSQ.out.2.2.trans hk)
      clear hk
      rcases hQ with ⟨x61,hx1,hx2,rfl,hPR⟩|⟨hx1,he⟩
      case inr =>
       have HF:Hid (R=none):=HRA.out.trans (by rw [hx1])
       clear hx1
       unfold zaa at he
       subst he
       go_wp2
       exact ⟨rfl,v61,HEND.out _ _ HKM.out,Or.inr ⟨HF.out,rfl⟩⟩
      have HR61:Hid (R=some x61):=HRA.out.trans (by rw [hx1])
      have HS61:=hid3 hPR hx2 HKM.out
      clear hx1 hx2 hPR 
      go_wp2
      first|go_end0|refine bodyPost_ret (results_none rfl _ _ _) rfl ?_
      exact ⟨v61,HEND.out _ _ HS61.out.2.2,Or.inl ⟨x61,HR61.out,HS61.out.2.1,rfl,HS61.out.1⟩⟩
   · have hcn:(2:Int)<=(c:Int):=by have:=HCC.out;omega
     go_wp2_with fail
     go_loopw [40] (fun i wr=>∃ (q:Nat) (x:List UInt8) (v:Value),i=.int .i64 q∧q<=M∧Hid (PR wr p x d v∧x.length<=16000∧Lx.Kept p v0 v wa wr)∧Hid (R=(rowP zat (ts.drop q) x).bind (layP [shut]))) (fun i _=>M - (RowKit.intOf i).toNat)
     case atStart=>exact ⟨0,x2,v2,rfl,by omega,HS2,HR2⟩
     case round =>
      obtain ⟨q,x,v,rfl,hq,HSQ,HRQ⟩:=hrel
      by_cases hlt:q<M
      · have hlt' : (q:Int)<M:=by omega
        have hq0:(0:Int)<=(q:Int):=by omega
        have hqm:(q:Int)<=1000:=by have:=HMM.out;omega
        have HQL:=hid hlt
        have HQK:Hid (q<ts.length):=by show _<_;have:=HTL.out;omega
        obtain ⟨k1,n1,m1,a1,us,o1,c1,he,hkd⟩:=HKD.out q HQK.out
        have HDR:Hid (ts.drop q=.node k1 n1 m1 a1 us::ts.drop (q+1)):=by show _=_;rw [<- he];exact zdl HQK.out
        have HKT:Hid (∀ w2,za1 p w w2->TreeR p w2 (.node k1 n1 m1 a1 us) (zaj k1 n1 m1 a1 (.slice o1 us.length c1))):=fun w2 h2=>(hkd w2 h2).2
        have HKR:Hid (∀ w2,za1 p w w2->KidR w2 g ((f+5)+q*5) k1 n1 m1 a1 (.slice o1 us.length c1)):=fun w2 h2=>(hkd w2 h2).1
        obtain ⟨a0,b0,c0,d0,e0⟩:=HKR.out wr (HFR.out _ _ HSQ.out.2.2)
        obtain ⟨wb,hwb⟩:∃ x,wr.alloc (.cells #[.int .i64 k1,.string ⟨n1.toArray⟩,.int .i64 m1,.int .i64 a1,.slice o1 us.length c1] 29)=x:=⟨_,rfl⟩
        have HBB:Hid (Below wr.heap.size wr wb):=by show Below _ _ _;rw [<- hwb];exact zad _ _
        have HKB:Hid (wb.heap[wr.heap.size]?=some (za2 k1 n1 m1 a1 (.slice o1 us.length c1))):=by show _=_;rw [<- hwb];exact heap_alloc_new _ _
        obtain ⟨⟨y0,y1,y2,y3,y4⟩,_⟩:=zab HKB.out
        have HSB:=hid3 (HSQ.out.1.below HBB.out) HSQ.out.2.1 (HSQ.out.2.2.trans (Lx.Kept.of_below HBB.out))
        have HKBK:Hid (∀ v' w',Lx.Kept p v v' wb w'->w'.heap[wr.heap.size]?=some (za2 k1 n1 m1 a1 (.slice o1 us.length c1))):=boxed HSQ.out.1 HKB.out
        have HCB:Hid (Lx.Kept p v v wb wb):=Lx.Kept.of_below (Below.refl _ _)
        clear he hkd hlt
        have HRS:Hid (R=((zat (.node k1 n1 m1 a1 us) x).bind (rowP zat (ts.drop (q+1)))).bind (layP [shut])):=by show _=_;rw [HRQ.out,HDR.out];rfl
        clear HRQ HDR
        go_wp2_with fail
        refine (HV.out.run wb (HFR.out _ _ HSB.out.2.2) k1 n1 m1 a1 us o1 c1 (HKT.out _ (HFR.out _ _ HSB.out.2.2)) x v HSB.out.1 HSB.out.2.1).mono ?_
        rintro e w23 ⟨v23,hk,hQ⟩
        have HKM:=hid (HSB.out.2.2.trans hk)
        clear hk
        rcases hQ with ⟨x23,hx1,hx2,rfl,hPR⟩|⟨hx1,he⟩
        case inr =>
         have HF:Hid (R=none):=HRS.out.trans (by rw [hx1];rfl)
         clear hx1
         unfold zaa at he
         subst he
         go_wp2
         exact ⟨rfl,v23,HEND.out _ _ HKM.out,Or.inr ⟨HF.out,rfl⟩⟩
        have HR23:Hid (R=(rowP zat (ts.drop (q+1)) x23).bind (layP [shut])):=HRS.out.trans (by rw [hx1];rfl)
        have HS23:=hid3 hPR hx2 HKM.out
        clear hx1 hx2 hPR a0 b0 c0 d0 e0 y0 y1 y2 y3 y4 hwb
        go_wp2
        go_roundw
        case rel=>exact ⟨q+1,x23,v23,by go_num,HQL.out,HS23,HR23⟩
        case measure=>have:=HQL.out;simp [RowKit.intOf];omega
      · have hqe:q=M:=by omega
        subst hqe
        have hlt2:¬ (q:Int)<q:=by omega
        have HRA:Hid (R=layP [shut] x):=by show _=_;rw [HRQ.out,List.drop_of_length_le (by have:=HTL.out;omega)];rfl
        clear HRQ
        go_wp2_with fail
        refine (za7 p [shut] _ rfl (by intro t ht;simp only [List.mem_cons,List.not_mem_nil,or_false] at ht;rcases ht with rfl <;> first|exact HN.out|exact HOP.out|exact HSH.out|exact ⟨by decide,by decide⟩) (by simp) 1 rfl x d v wr HSQ.out.1 HSQ.out.2.1).mono ?_
        rintro e w43 ⟨v43,hk,hQ⟩
        have HKM:=hid (HSQ.out.2.2.trans hk)
        clear hk
        rcases hQ with ⟨x43,hx1,hx2,rfl,hPR⟩|⟨hx1,he⟩
        case inr =>
         have HF:Hid (R=none):=HRA.out.trans (by rw [hx1])
         clear hx1
         unfold zaa at he
         subst he
         go_wp2
         exact ⟨rfl,v43,HEND.out _ _ HKM.out,Or.inr ⟨HF.out,rfl⟩⟩
        have HR43:Hid (R=some x43):=HRA.out.trans (by rw [hx1])
        have HS43:=hid3 hPR hx2 HKM.out
        clear hx1 hx2 hPR 
        go_wp2
        first|go_end0|refine bodyPost_ret (results_none rfl _ _ _) rfl ?_
        exact ⟨v43,HEND.out _ _ HS43.out.2.2,Or.inl ⟨x43,HR43.out,HS43.out.2.1,rfl,HS43.out.1⟩⟩
 · have j25:(k9==25)=false:=by simp [h25]
   by_cases h26:k9=26
   · subst h26
     have HRP:Hid (R=(zgz [115,116,114,105,110,103] (.node 26 n9 m9 a9 us9) txt).bind fun x=>(layP [n,opn] x).bind fun x=>(rowP zat ts x).bind (layP [shut])):=HR0.out
     clear h25
     go_wp2_with fail
     refine ((znv [115,116,114,105,110,103] ⟨by decide,by decide⟩:Does p d w 131 _ _).run wb (HFR.out _ _ HSB.out.2.2) 26 n9 m9 a9 us9 o9 c9 (HKW9.out _ (HFR.out _ _ HSB.out.2.2)).2 txt v0 HSB.out.1 HSB.out.2.1).mono ?_
     rintro e w1 ⟨v1,hk,hQ⟩
     have HKM:=hid (HSB.out.2.2.trans hk)
     clear hk
     rcases hQ with ⟨x1,hx1,hx2,rfl,hPR⟩|⟨hx1,he⟩
     case inr =>
      have HF:Hid (R=none):=HRP.out.trans (by rw [hx1];rfl)
      clear hx1
      unfold zaa at he
      subst he
      go_wp2
      exact ⟨rfl,v1,HEND.out _ _ HKM.out,Or.inr ⟨HF.out,rfl⟩⟩
     have HR1:Hid (R=(layP [n,opn] x1).bind fun x=>(rowP zat ts x).bind (layP [shut])):=HRP.out.trans (by rw [hx1];rfl)
     have HS1:=hid3 hPR hx2 HKM.out
     clear hx1 hx2 hPR z0 z1 z2 z3 z4 y0 y1 y2 y3 y4 q0 q1 q2 q3 q4 hwb hwa
     obtain ⟨⟨z0,z1,z2,z3,z4⟩,_⟩:=zab (HBK.out _ _ HS1.out.2.2)
     clear z0 z2 z3
     go_wp2_with fail
     refine (za7 p [n,opn] _ rfl (by intro t ht;simp only [List.mem_cons,List.not_mem_nil,or_false] at ht;rcases ht with rfl|rfl <;> first|exact HN.out|exact HOP.out|exact HSH.out|exact ⟨by decide,by decide⟩) (by simp) 2 rfl x1 d v1 w1 HS1.out.1 HS1.out.2.1).mono ?_
     rintro e w2 ⟨v2,hk,hQ⟩
     have HKM:=hid (HS1.out.2.2.trans hk)
     clear hk
     rcases hQ with ⟨x2,hx1,hx2,rfl,hPR⟩|⟨hx1,he⟩
     case inr =>
      have HF:Hid (R=none):=HR1.out.trans (by rw [hx1];rfl)
      clear hx1
      unfold zaa at he
      subst he
      go_wp2
      exact ⟨rfl,v2,HEND.out _ _ HKM.out,Or.inr ⟨HF.out,rfl⟩⟩
     have HR2:Hid (R=(rowP zat (ts.drop 0) x2).bind (layP [shut])):=HR1.out.trans (by rw [hx1];rfl)
     have HS2:=hid3 hPR hx2 HKM.out
     clear hx1 hx2 hPR z1 z4
     obtain ⟨⟨z0,z1,z2,z3,z4⟩,_⟩:=zab (HBK.out _ _ HS2.out.2.2)
     clear z0 z1 z2 z3
     by_cases hcc:c=1
     · have hM0:M=0:=by omega
       subst hM0
       subst hcc
       go_wp2_with fail
       go_loopw [40] (fun i wr=>∃ (x:List UInt8) (v:Value),i=.int .i64 0∧Hid (PR wr p x d v∧x.length<=16000∧Lx.Kept p v0 v wa wr)∧Hid (R=(rowP zat (ts.drop 0) x).bind (layP [shut]))) (fun _ _=>0)
       case atStart=>exact ⟨x2,v2,rfl,HS2,HR2⟩
       case round =>
        obtain ⟨x,v,rfl,HSQ,HRQ⟩:=hrel
        have HRA:Hid (R=layP [shut] x):=by show _=_;rw [HRQ.out,List.drop_of_length_le (by have:=HTL.out;omega)];rfl
        clear HRQ
        go_wp2_with fail
        refine (za7 p [shut] _ rfl (by intro t ht;simp only [List.mem_cons,List.not_mem_nil,or_false] at ht;rcases ht with rfl <;> first|exact HN.out|exact HOP.out|exact HSH.out|exact ⟨by decide,by decide⟩) (by simp) 1 rfl x d v wr HSQ.out.1 HSQ.out.2.1).mono ?_
        rintro e w61 ⟨v61,hk,hQ⟩
        have HKM:=hid (HSQ.out.2.2.trans hk)
        clear hk
        rcases hQ with ⟨x61,hx1,hx2,rfl,hPR⟩|⟨hx1,he⟩
        case inr =>
         have HF:Hid (R=none):=HRA.out.trans (by rw [hx1])
         clear hx1
         unfold zaa at he
         subst he
         go_wp2
         exact ⟨rfl,v61,HEND.out _ _ HKM.out,Or.inr ⟨HF.out,rfl⟩⟩
        have HR61:Hid (R=some x61):=HRA.out.trans (by rw [hx1])
        have HS61:=hid3 hPR hx2 HKM.out
        clear hx1 hx2 hPR 
        go_wp2
        first|go_end0|refine bodyPost_ret (results_none rfl _ _ _) rfl ?_
        exact ⟨v61,HEND.out _ _ HS61.out.2.2,Or.inl ⟨x61,HR61.out,HS61.out.2.1,rfl,HS61.out.1⟩⟩
     · have hcn:(2:Int)<=(c:Int):=by have:=HCC.out;omega
       go_wp2_with fail
       go_loopw [40] (fun i wr=>∃ (q:Nat) (x:List UInt8) (v:Value),i=.int .i64 q∧q<=M∧Hid (PR wr p x d v∧x.length<=16000∧Lx.Kept p v0 v wa wr)∧Hid (R=(rowP zat (ts.drop q) x).bind (layP [shut]))) (fun i _=>M - (RowKit.intOf i).toNat)
       case atStart=>exact ⟨0,x2,v2,rfl,by omega,HS2,HR2⟩
       case round =>
        obtain ⟨q,x,v,rfl,hq,HSQ,HRQ⟩:=hrel
        by_cases hlt:q<M
        · have hlt' : (q:Int)<M:=by omega
          have hq0:(0:Int)<=(q:Int):=by omega
          have hqm:(q:Int)<=1000:=by have:=HMM.out;omega
          have HQL:=hid hlt
          have HQK:Hid (q<ts.length):=by show _<_;have:=HTL.out;omega
          obtain ⟨k1,n1,m1,a1,us,o1,c1,he,hkd⟩:=HKD.out q HQK.out
          have HDR:Hid (ts.drop q=.node k1 n1 m1 a1 us::ts.drop (q+1)):=by show _=_;rw [<- he];exact zdl HQK.out
          have HKT:Hid (∀ w2,za1 p w w2->TreeR p w2 (.node k1 n1 m1 a1 us) (zaj k1 n1 m1 a1 (.slice o1 us.length c1))):=fun w2 h2=>(hkd w2 h2).2
          have HKR:Hid (∀ w2,za1 p w w2->KidR w2 g ((f+5)+q*5) k1 n1 m1 a1 (.slice o1 us.length c1)):=fun w2 h2=>(hkd w2 h2).1
          obtain ⟨a0,b0,c0,d0,e0⟩:=HKR.out wr (HFR.out _ _ HSQ.out.2.2)
          obtain ⟨wb,hwb⟩:∃ x,wr.alloc (.cells #[.int .i64 k1,.string ⟨n1.toArray⟩,.int .i64 m1,.int .i64 a1,.slice o1 us.length c1] 29)=x:=⟨_,rfl⟩
          have HBB:Hid (Below wr.heap.size wr wb):=by show Below _ _ _;rw [<- hwb];exact zad _ _
          have HKB:Hid (wb.heap[wr.heap.size]?=some (za2 k1 n1 m1 a1 (.slice o1 us.length c1))):=by show _=_;rw [<- hwb];exact heap_alloc_new _ _
          obtain ⟨⟨y0,y1,y2,y3,y4⟩,_⟩:=zab HKB.out
          have HSB:=hid3 (HSQ.out.1.below HBB.out) HSQ.out.2.1 (HSQ.out.2.2.trans (Lx.Kept.of_below HBB.out))
          have HKBK:Hid (∀ v' w',Lx.Kept p v v' wb w'->w'.heap[wr.heap.size]?=some (za2 k1 n1 m1 a1 (.slice o1 us.length c1))):=boxed HSQ.out.1 HKB.out
          have HCB:Hid (Lx.Kept p v v wb wb):=Lx.Kept.of_below (Below.refl _ _)
          clear he hkd hlt
          have HRS:Hid (R=((zat (.node k1 n1 m1 a1 us) x).bind (rowP zat (ts.drop (q+1)))).bind (layP [shut])):=by show _=_;rw [HRQ.out,HDR.out];rfl
          clear HRQ HDR
          go_wp2_with fail
          refine (HV.out.run wb (HFR.out _ _ HSB.out.2.2) k1 n1 m1 a1 us o1 c1 (HKT.out _ (HFR.out _ _ HSB.out.2.2)) x v HSB.out.1 HSB.out.2.1).mono ?_
          rintro e w23 ⟨v23,hk,hQ⟩
          have HKM:=hid (HSB.out.2.2.trans hk)
          clear hk
          rcases hQ with ⟨x23,hx1,hx2,rfl,hPR⟩|⟨hx1,he⟩
          case inr =>
           have HF:Hid (R=none):=HRS.out.trans (by rw [hx1];rfl)
           clear hx1
           unfold zaa at he
           subst he
           go_wp2
           exact ⟨rfl,v23,HEND.out _ _ HKM.out,Or.inr ⟨HF.out,rfl⟩⟩
          have HR23:Hid (R=(rowP zat (ts.drop (q+1)) x23).bind (layP [shut])):=HRS.out.trans (by rw [hx1];rfl)
          have HS23:=hid3 hPR hx2 HKM.out
          clear hx1 hx2 hPR a0 b0 c0 d0 e0 y0 y1 y2 y3 y4 hwb
          go_wp2
          go_roundw
          case rel=>exact ⟨q+1,x23,v23,by go_num,HQL.out,HS23,HR23⟩
          case measure=>have:=HQL.out;simp [RowKit.intOf];omega
        · have hqe:q=M:=by omega
          subst hqe
          have hlt2:¬ (q:Int)<q:=by omega
          have HRA:Hid (R=layP [shut] x):=by show _=_;rw [HRQ.out,List.drop_of_length_le (by have:=HTL.out;omega)];rfl
          clear HRQ
          go_wp2_with fail
          refine (za7 p [shut] _ rfl (by intro t ht;simp only [List.mem_cons,List.not_mem_nil,or_false] at ht;rcases ht with rfl <;> first|exact HN.out|exact HOP.out|exact HSH.out|exact ⟨by decide,by decide⟩) (by simp) 1 rfl x d v wr HSQ.out.1 HSQ.out.2.1).mono ?_
          rintro e w43 ⟨v43,hk,hQ⟩
          have HKM:=hid (HSQ.out.2.2.trans hk)
          clear hk
          rcases hQ with ⟨x43,hx1,hx2,rfl,hPR⟩|⟨hx1,he⟩
          case inr =>
           have HF:Hid (R=none):=HRA.out.trans (by rw [hx1])
           clear hx1
           unfold zaa at he
           subst he
           go_wp2
           exact ⟨rfl,v43,HEND.out _ _ HKM.out,Or.inr ⟨HF.out,rfl⟩⟩
          have HR43:Hid (R=some x43):=HRA.out.trans (by rw [hx1])
          have HS43:=hid3 hPR hx2 HKM.out
          clear hx1 hx2 hPR 
          go_wp2
          first|go_end0|refine bodyPost_ret (results_none rfl _ _ _) rfl ?_
          exact ⟨v43,HEND.out _ _ HS43.out.2.2,Or.inl ⟨x43,HR43.out,HS43.out.2.1,rfl,HS43.out.1⟩⟩
   · have j26:(k9==26)=false:=by simp [h26]
     have HRP:Hid (R=(wr (.node k9 n9 m9 a9 us9) txt).bind fun x=>(layP [n,opn] x).bind fun x=>(rowP zat ts x).bind (layP [shut])):=by show _=_;rw [HR0.out];unfold ofP;rw [if_neg (show ¬ (ITree.node k9 n9 m9 a9 us9).kind=25 from h25),if_neg (show ¬ (ITree.node k9 n9 m9 a9 us9).kind=26 from h26)]
     clear h25 h26
     go_wp2_with fail
     refine (HWR.out.run wb (HFR.out _ _ HSB.out.2.2) k9 n9 m9 a9 us9 o9 c9 (HKW9.out _ (HFR.out _ _ HSB.out.2.2)).2 txt v0 HSB.out.1 HSB.out.2.1).mono ?_
     rintro e w1 ⟨v1,hk,hQ⟩
     have HKM:=hid (HSB.out.2.2.trans hk)
     clear hk
     rcases hQ with ⟨x1,hx1,hx2,rfl,hPR⟩|⟨hx1,he⟩
     case inr =>
      have HF:Hid (R=none):=HRP.out.trans (by rw [hx1];rfl)
      clear hx1
      unfold zaa at he
      subst he
      go_wp2
      exact ⟨rfl,v1,HEND.out _ _ HKM.out,Or.inr ⟨HF.out,rfl⟩⟩
     have HR1:Hid (R=(layP [n,opn] x1).bind fun x=>(rowP zat ts x).bind (layP [shut])):=HRP.out.trans (by rw [hx1];rfl)
     have HS1:=hid3 hPR hx2 HKM.out
     clear hx1 hx2 hPR z0 z1 z2 z3 z4 y0 y1 y2 y3 y4 q0 q1 q2 q3 q4 hwb hwa
     obtain ⟨⟨z0,z1,z2,z3,z4⟩,_⟩:=zab (HBK.out _ _ HS1.out.2.2)
     clear z0 z2 z3
     go_wp2_with fail
     refine (za7 p [n,opn] _ rfl (by intro t ht;simp only [List.mem_cons,List.not_mem_nil,or_false] at ht;rcases ht with rfl|rfl <;> first|exact HN.out|exact HOP.out|exact HSH.out|exact ⟨by decide,by decide⟩) (by simp) 2 rfl x1 d v1 w1 HS1.out.1 HS1.out.2.1).mono ?_
     rintro e w2 ⟨v2,hk,hQ⟩
     have HKM:=hid (HS1.out.2.2.trans hk)
     clear hk
     rcases hQ with ⟨x2,hx1,hx2,rfl,hPR⟩|⟨hx1,he⟩
     case inr =>
      have HF:Hid (R=none):=HR1.out.trans (by rw [hx1];rfl)
      clear hx1
      unfold zaa at he
      subst he
      go_wp2
      exact ⟨rfl,v2,HEND.out _ _ HKM.out,Or.inr ⟨HF.out,rfl⟩⟩
     have HR2:Hid (R=(rowP zat (ts.drop 0) x2).bind (layP [shut])):=HR1.out.trans (by rw [hx1];rfl)
     have HS2:=hid3 hPR hx2 HKM.out
     clear hx1 hx2 hPR z1 z4
     obtain ⟨⟨z0,z1,z2,z3,z4⟩,_⟩:=zab (HBK.out _ _ HS2.out.2.2)
     clear z0 z1 z2 z3
     by_cases hcc:c=1
     · have hM0:M=0:=by omega
       subst hM0
       subst hcc
       go_wp2_with fail
       go_loopw [40] (fun i wr=>∃ (x:List UInt8) (v:Value),i=.int .i64 0∧Hid (PR wr p x d v∧x.length<=16000∧Lx.Kept p v0 v wa wr)∧Hid (R=(rowP zat (ts.drop 0) x).bind (layP [shut]))) (fun _ _=>0)
       case atStart=>exact ⟨x2,v2,rfl,HS2,HR2⟩
       case round =>
        obtain ⟨x,v,rfl,HSQ,HRQ⟩:=hrel
        have HRA:Hid (R=layP [shut] x):=by show _=_;rw [HRQ.out,List.drop_of_length_le (by have:=HTL.out;omega)];rfl
        clear HRQ
        go_wp2_with fail
        refine (za7 p [shut] _ rfl (by intro t ht;simp only [List.mem_cons,List.not_mem_nil,or_false] at ht;rcases ht with rfl <;> first|exact HN.out|exact HOP.out|exact HSH.out|exact ⟨by decide,by decide⟩) (by simp) 1 rfl x d v wr HSQ.out.1 HSQ.out.2.1).mono ?_
        rintro e w61 ⟨v61,hk,hQ⟩
        have HKM:=hid (HSQ.out.2.2.trans hk)
        clear hk
        rcases hQ with ⟨x61,hx1,hx2,rfl,hPR⟩|⟨hx1,he⟩
        case inr =>
         have HF:Hid (R=none):=HRA.out.trans (by rw [hx1])
         clear hx1
         unfold zaa at he
         subst he
         go_wp2
         exact ⟨rfl,v61,HEND.out _ _ HKM.out,Or.inr ⟨HF.out,rfl⟩⟩
        have HR61:Hid (R=some x61):=HRA.out.trans (by rw [hx1])
        have HS61:=hid3 hPR hx2 HKM.out
        clear hx1 hx2 hPR 
        go_wp2
        first|go_end0|refine bodyPost_ret (results_none rfl _ _ _) rfl ?_
        exact ⟨v61,HEND.out _ _ HS61.out.2.2,Or.inl ⟨x61,HR61.out,HS61.out.2.1,rfl,HS61.out.1⟩⟩
     · have hcn:(2:Int)<=(c:Int):=by have:=HCC.out;omega
       go_wp2_with fail
       go_loopw [40] (fun i wr=>∃ (q:Nat) (x:List UInt8) (v:Value),i=.int .i64 q∧q<=M∧Hid (PR wr p x d v∧x.length<=16000∧Lx.Kept p v0 v wa wr)∧Hid (R=(rowP zat (ts.drop q) x).bind (layP [shut]))) (fun i _=>M - (RowKit.intOf i).toNat)
       case atStart=>exact ⟨0,x2,v2,rfl,by omega,HS2,HR2⟩
       case round =>
        obtain ⟨q,x,v,rfl,hq,HSQ,HRQ⟩:=hrel
        by_cases hlt:q<M
        · have hlt' : (q:Int)<M:=by omega
          have hq0:(0:Int)<=(q:Int):=by omega
          have hqm:(q:Int)<=1000:=by have:=HMM.out;omega
          have HQL:=hid hlt
          have HQK:Hid (q<ts.length):=by show _<_;have:=HTL.out;omega
          obtain ⟨k1,n1,m1,a1,us,o1,c1,he,hkd⟩:=HKD.out q HQK.out
          have HDR:Hid (ts.drop q=.node k1 n1 m1 a1 us::ts.drop (q+1)):=by show _=_;rw [<- he];exact zdl HQK.out
          have HKT:Hid (∀ w2,za1 p w w2->TreeR p w2 (.node k1 n1 m1 a1 us) (zaj k1 n1 m1 a1 (.slice o1 us.length c1))):=fun w2 h2=>(hkd w2 h2).2
          have HKR:Hid (∀ w2,za1 p w w2->KidR w2 g ((f+5)+q*5) k1 n1 m1 a1 (.slice o1 us.length c1)):=fun w2 h2=>(hkd w2 h2).1
          obtain ⟨a0,b0,c0,d0,e0⟩:=HKR.out wr (HFR.out _ _ HSQ.out.2.2)
          obtain ⟨wb,hwb⟩:∃ x,wr.alloc (.cells #[.int .i64 k1,.string ⟨n1.toArray⟩,.int .i64 m1,.int .i64 a1,.slice o1 us.length c1] 29)=x:=⟨_,rfl⟩
          have HBB:Hid (Below wr.heap.size wr wb):=by show Below _ _ _;rw [<- hwb];exact zad _ _
          have HKB:Hid (wb.heap[wr.heap.size]?=some (za2 k1 n1 m1 a1 (.slice o1 us.length c1))):=by show _=_;rw [<- hwb];exact heap_alloc_new _ _
          obtain ⟨⟨y0,y1,y2,y3,y4⟩,_⟩:=zab HKB.out
          have HSB:=hid3 (HSQ.out.1.below HBB.out) HSQ.out.2.1 (HSQ.out.2.2.trans (Lx.Kept.of_below HBB.out))
          have HKBK:Hid (∀ v' w',Lx.Kept p v v' wb w'->w'.heap[wr.heap.size]?=some (za2 k1 n1 m1 a1 (.slice o1 us.length c1))):=boxed HSQ.out.1 HKB.out
          have HCB:Hid (Lx.Kept p v v wb wb):=Lx.Kept.of_below (Below.refl _ _)
          clear he hkd hlt
          have HRS:Hid (R=((zat (.node k1 n1 m1 a1 us) x).bind (rowP zat (ts.drop (q+1)))).bind (layP [shut])):=by show _=_;rw [HRQ.out,HDR.out];rfl
          clear HRQ HDR
          go_wp2_with fail
          refine (HV.out.run wb (HFR.out _ _ HSB.out.2.2) k1 n1 m1 a1 us o1 c1 (HKT.out _ (HFR.out _ _ HSB.out.2.2)) x v HSB.out.1 HSB.out.2.1).mono ?_
          rintro e w23 ⟨v23,hk,hQ⟩
          have HKM:=hid (HSB.out.2.2.trans hk)
          clear hk
          rcases hQ with ⟨x23,hx1,hx2,rfl,hPR⟩|⟨hx1,he⟩
          case inr =>
           have HF:Hid (R=none):=HRS.out.trans (by rw [hx1];rfl)
           clear hx1
           unfold zaa at he
           subst he
           go_wp2
           exact ⟨rfl,v23,HEND.out _ _ HKM.out,Or.inr ⟨HF.out,rfl⟩⟩
          have HR23:Hid (R=(rowP zat (ts.drop (q+1)) x23).bind (layP [shut])):=HRS.out.trans (by rw [hx1];rfl)
          have HS23:=hid3 hPR hx2 HKM.out
          clear hx1 hx2 hPR a0 b0 c0 d0 e0 y0 y1 y2 y3 y4 hwb
          go_wp2
          go_roundw
          case rel=>exact ⟨q+1,x23,v23,by go_num,HQL.out,HS23,HR23⟩
          case measure=>have:=HQL.out;simp [RowKit.intOf];omega
        · have hqe:q=M:=by omega
          subst hqe
          have hlt2:¬ (q:Int)<q:=by omega
          have HRA:Hid (R=layP [shut] x):=by show _=_;rw [HRQ.out,List.drop_of_length_le (by have:=HTL.out;omega)];rfl
          clear HRQ
          go_wp2_with fail
          refine (za7 p [shut] _ rfl (by intro t ht;simp only [List.mem_cons,List.not_mem_nil,or_false] at ht;rcases ht with rfl <;> first|exact HN.out|exact HOP.out|exact HSH.out|exact ⟨by decide,by decide⟩) (by simp) 1 rfl x d v wr HSQ.out.1 HSQ.out.2.1).mono ?_
          rintro e w43 ⟨v43,hk,hQ⟩
          have HKM:=hid (HSQ.out.2.2.trans hk)
          clear hk
          rcases hQ with ⟨x43,hx1,hx2,rfl,hPR⟩|⟨hx1,he⟩
          case inr =>
           have HF:Hid (R=none):=HRA.out.trans (by rw [hx1])
           clear hx1
           unfold zaa at he
           subst he
           go_wp2
           exact ⟨rfl,v43,HEND.out _ _ HKM.out,Or.inr ⟨HF.out,rfl⟩⟩
          have HR43:Hid (R=some x43):=HRA.out.trans (by rw [hx1])
          have HS43:=hid3 hPR hx2 HKM.out
          clear hx1 hx2 hPR 
          go_wp2
          first|go_end0|refine bodyPost_ret (results_none rfl _ _ _) rfl ?_
          exact ⟨v43,HEND.out _ _ HS43.out.2.2,Or.inl ⟨x43,HR43.out,HS43.out.2.1,rfl,HS43.out.1⟩⟩
def plainP (wr:ITree->List UInt8->Option (List UInt8)) (t:ITree) (txt:List UInt8):Option (List UInt8):=if zaw t.name true&&zan t.kids.length t.num 1 1 then (wr (t.kids.getD 0 zby) txt).bind (layP [t.name]) else none
def maybeP (wr:ITree->List UInt8->Option (List UInt8)) (t:ITree) (txt:List UInt8):Option (List UInt8):=if zaw t.name true&&zan t.kids.length t.num 1 1 then (wr (t.kids.getD 0 zby) txt).bind (layP [[42],t.name]) else none
def fixedP (wr:ITree->List UInt8->Option (List UInt8)) (t:ITree) (txt:List UInt8):Option (List UInt8):=if zaw t.name true&&zan t.kids.length t.num 2 2 then (if (t.kids.getD 0 zby).kind=26 then none else sizedP wr [91] [93] t txt) else none
def zjh (wr:ITree->List UInt8->Option (List UInt8)) (t:ITree) (txt:List UInt8):Option (List UInt8):=if zaw t.name true&&zan t.kids.length t.num 1 2 then sizedP wr [60] [62] t txt else none
def zcs (wr:ITree->List UInt8->Option (List UInt8)) (t:ITree) (txt:List UInt8):Option (List UInt8) :=
 if t.kind=13 then zgz [118,111,105,100] t txt else if t.kind=14 then plainP wr t txt else if t.kind=17 then maybeP wr t txt else if t.kind=15 then fixedP wr t txt else if t.kind=16 then zjh wr t txt else none
theorem zku {wr:ITree->List UInt8->Option (List UInt8)} {k:Int} {n:List UInt8} {m a:Int} {ks:List ITree} {L:Nat} (hl:ks.length=L) {b:Bool} (hb:(zaw n true&&zan L m 1 1)=b) (x:List UInt8):plainP wr (.node k n m a ks) x=if b then (wr (ks.getD 0 zby) x).bind (layP [n]) else none:=by
 subst hl
 subst hb
 rfl
theorem zkv {wr:ITree->List UInt8->Option (List UInt8)} {k:Int} {n:List UInt8} {m a:Int} {ks:List ITree} {L:Nat} (hl:ks.length=L) {b:Bool} (hb:(zaw n true&&zan L m 1 1)=b) (x:List UInt8):maybeP wr (.node k n m a ks) x=if b then (wr (ks.getD 0 zby) x).bind (layP [[42],n]) else none:=by
 subst hl
 subst hb
 rfl
theorem zkz {wr:ITree->List UInt8->Option (List UInt8)} {k:Int} {n:List UInt8} {m a:Int} {ks:List ITree} {L:Nat} (hl:ks.length=L) {b:Bool} (hb:(zaw n true&&zan L m 2 2)=b) (x:List UInt8):fixedP wr (.node k n m a ks) x=if b then (if (ks.getD 0 zby).kind=26 then none else sizedP wr [91] [93] (.node k n m a ks) x) else none:=by
 subst hl
 subst hb
 rfl
theorem zlo {wr:ITree->List UInt8->Option (List UInt8)} {k:Int} {n:List UInt8} {m a:Int} {ks:List ITree} {L:Nat} (hl:ks.length=L) {b:Bool} (hb:(zaw n true&&zan L m 1 2)=b) (x:List UInt8):zjh wr (.node k n m a ks) x=if b then sizedP wr [60] [62] (.node k n m a ks) x else none:=by
 subst hl
 subst hb
 rfl
set_option maxHeartbeats 2000000 in
set_option maxRecDepth 4000 in
theorem does_decl {p:Nat} {d:Int} {w0:World} {wr:ITree->List UInt8->Option (List UInt8)} (hwr:Does p d w0 132 (fun v=>#[.pointer (some ⟨p,0,none⟩),v]) wr) (hv:Does p d w0 157 (fun v=>#[.pointer (some ⟨p,0,none⟩),v]) zat):Does p d w0 98 (fun v=>#[.pointer (some ⟨p,0,none⟩),v]) (zcs wr):=by
 refine ⟨fun w hf k n m a ks o c ht txt v0 h hx=>?_⟩
 have HTR:=hid ht
 have HN0:=hid ((zay ht).1)
 have HCC:=hid ((zay ht).2.2.1)
 have HWR:Hid (Does p d w 132 (fun v=>#[.pointer (some ⟨p,0,none⟩),v]) wr):=hwr.front hf
 have HV:Hid (Does p d w 157 (fun v=>#[.pointer (some ⟨p,0,none⟩),v]) zat):=hv.front hf
 have hn:=HN0.out
 clear ht hf hwr hv
 obtain ⟨L,hL⟩:∃ L,ks.length=L:=⟨_,rfl⟩
 have HL:Hid (ks.length=L):=hL
 rw [hL]
 rw [hL] at HCC
 clear hL
 have HSZ:Hid (∀ opn shut:List UInt8,(opn≠[]∧opn.length<=64)->(shut≠[]∧shut.length<=64)->(n≠[]∧n.length<=64)->(1<=L∧L<=2)->∀ w2,za1 p w w2->∀ txt v,PR w2 p txt d v->txt.length<=16000->Calls Tryz.prog 133 #[.pointer (some ⟨p,0,none⟩),zaj k n m a (.slice o L c),.string ⟨opn.toArray⟩,.string ⟨shut.toArray⟩] w2 (zbp p d v (sizedP wr opn shut (.node k n m a ks) txt) w2)):=fun opn shut h1 h2 h3 h4 w2 h5 txt v h6 h7=>by
  have hh:=zhg (HWR.out.front h5) (HV.out.front h5) k n m a ks o c (TreeR.frame (Nat.le_refl _) (fun b hb=>h5 b hb) _ _ HTR.out) opn shut h1 h2 h3 (by rw [HL.out];exact h4) txt v h6 h7
  rw [HL.out] at hh
  exact hh
 by_cases h13:k=13
 · subst h13
   have HP:=hid2 h hx
   obtain ⟨R,hR⟩:∃ R,zcs wr (.node 13 n m a ks) txt=R:=⟨_,rfl⟩
   rw [hR]
   have HR:Hid (R=zcs wr (.node 13 n m a ks) txt):=hR.symm
   clear hn
   clear h hx hR
   obtain ⟨wa,hwa⟩:∃ x,w.alloc (.cells #[.int .i64 13,.string ⟨n.toArray⟩,.int .i64 m,.int .i64 a,.slice o L c] 29)=x:=⟨_,rfl⟩
   have HB:=hidB hwa
   have HK:Hid (wa.heap[w.heap.size]?=some (za2 13 n m a (.slice o L c))):=by show _=_;rw [<- hwa];exact heap_alloc_new _ _
   have HS:Hid (PR wa p txt d v0∧txt.length<=16000∧Lx.Kept p v0 v0 wa wa):=⟨HP.out.1.below HB.out,HP.out.2,Lx.Kept.of_below (Below.refl _ _)⟩
   have HBK:Hid (∀ v' w',Lx.Kept p v0 v' wa w'->w'.heap[w.heap.size]?=some (za2 13 n m a (.slice o L c))):=boxed HP.out.1 HK.out
   have HEND:Hid (∀ v' w',Lx.Kept p v0 v' wa w'->Lx.Kept p v0 v' w w'):=fun v' w' hk=>(Lx.Kept.of_below HB.out).trans hk
   have HFR:Hid (∀ v' w',Lx.Kept p v0 v' wa w'->za1 p w w'):=fun v' w' hk=>HP.out.1.front (HEND.out _ _ hk)
   obtain ⟨⟨z0,z1,z2,z3,z4⟩,_⟩:=zab HK.out
   unfold zaj
   have HR0:Hid (R=aloneP [118,111,105,100] n m ks.length txt):=HR.out
   rw [HL.out] at HR0
   go_enter Tryz.func98,Tryz.ntmps98
   go_wp2_with fail
   refine (zdm p 13 n m a o L c [118,111,105,100] ⟨by decide,by decide⟩ txt d v0 wa HS.out.1 HS.out.2.1 HN0.out).mono ?_
   rintro e w1 ⟨v1,hk,hQ⟩
   have HKM:=hid (HS.out.2.2.trans hk)
   clear hk
   rcases hQ with ⟨x1,hx1,hx2,rfl,hPR⟩|⟨hx1,he⟩
   case inr =>
    have HF:Hid (R=none):=HR0.out.trans (by rw [hx1])
    clear hx1
    unfold zaa at he
    subst he
    go_wp2
    exact ⟨rfl,v1,HEND.out _ _ HKM.out,Or.inr ⟨HF.out,rfl⟩⟩
   have HR1:Hid (R=some x1):=HR0.out.trans (by rw [hx1])
   have HS1:=hid3 hPR hx2 HKM.out
   clear hx1 hx2 hPR 
   go_wp2
   first|go_end0|refine bodyPost_ret (results_none rfl _ _ _) rfl ?_
   exact ⟨v1,HEND.out _ _ HS1.out.2.2,Or.inl ⟨x1,HR1.out,HS1.out.2.1,rfl,HS1.out.1⟩⟩
 by_cases h14:k=14
 · subst h14
   have HP:=hid2 h hx
   obtain ⟨R,hR⟩:∃ R,zcs wr (.node 14 n m a ks) txt=R:=⟨_,rfl⟩
   rw [hR]
   have HR:Hid (R=zcs wr (.node 14 n m a ks) txt):=hR.symm
   have HMH:Hid (∀ w,Calls Tryz.prog 59 #[zaj 14 n m a (.slice o L c),.bool true,.int .i64 1,.int .i64 1] w (zb6 (zaw n true&&zan L m 1 1) w)):=fun w=>zbw 14 n m a o L c 1 1 w (by unfold maxLen at hn;omega)
   unfold zaj at HMH
   clear hn
   clear h hx hR
   obtain ⟨wa,hwa⟩:∃ x,w.alloc (.cells #[.int .i64 14,.string ⟨n.toArray⟩,.int .i64 m,.int .i64 a,.slice o L c] 29)=x:=⟨_,rfl⟩
   have HB:=hidB hwa
   have HK:Hid (wa.heap[w.heap.size]?=some (za2 14 n m a (.slice o L c))):=by show _=_;rw [<- hwa];exact heap_alloc_new _ _
   have HS:Hid (PR wa p txt d v0∧txt.length<=16000∧Lx.Kept p v0 v0 wa wa):=⟨HP.out.1.below HB.out,HP.out.2,Lx.Kept.of_below (Below.refl _ _)⟩
   have HBK:Hid (∀ v' w',Lx.Kept p v0 v' wa w'->w'.heap[w.heap.size]?=some (za2 14 n m a (.slice o L c))):=boxed HP.out.1 HK.out
   have HEND:Hid (∀ v' w',Lx.Kept p v0 v' wa w'->Lx.Kept p v0 v' w w'):=fun v' w' hk=>(Lx.Kept.of_below HB.out).trans hk
   have HFR:Hid (∀ v' w',Lx.Kept p v0 v' wa w'->za1 p w w'):=fun v' w' hk=>HP.out.1.front (HEND.out _ _ hk)
   obtain ⟨⟨z0,z1,z2,z3,z4⟩,_⟩:=zab HK.out
   unfold zaj
   have HR0:Hid (R=plainP wr (.node 14 n m a ks) txt):=HR.out
   go_enter Tryz.func98,Tryz.ntmps98
   go_wp2_with fail
   refine (HMH.out _).mono ?_
   rintro e w1 ⟨hB,hq⟩
   have HKM:=hid (HS.out.2.2.trans (Lx.Kept.of_below hB))
   have HPM:=hid (HS.out.1.below hB)
   clear hB
   rcases hq with ⟨hq,rfl⟩|⟨hq,he⟩
   case inr =>
    have HF:Hid (R=none):=by
     show _=_
     rw [HR0.out];rw [zku HL.out rfl];rw [hq];rfl
    clear hq
    unfold zaa at he
    subst he
    go_wp2
    exact ⟨rfl,v0,HEND.out _ _ HKM.out,Or.inr ⟨HF.out,rfl⟩⟩
   have HR1:Hid (R=(wr (ks.getD 0 zby) txt).bind (layP [n])):=by
    show _=_
    rw [HR0.out];rw [zku HL.out rfl];rw [hq];rfl
   have HQ1:Hid ((zaw n true&&zan L m 1 1)=true):=hq
   have HS1:=hid3 HPM.out HS.out.2.1 HKM.out
   clear hq z0 z1 z2 z3 z4 hwa
   have HN:Hid (n≠[]∧n.length<=64):=by
    have:=HQ1.out
    rw [Bool.and_eq_true] at this
    exact zco this.1
   have hlen:1<=L∧L<=1:=by
    have:=HQ1.out
    unfold zan at this
    simp at this
    omega
   have HLE:=hid hlen
   obtain ⟨g,f,ho,hg,hkd⟩:=zcy HTR.out (by have:=HL.out;omega)
   subst ho
   have HKA:=hid hkd
   clear hlen hg hkd
   have hl1:(1:Int)<=(L:Int):=by have:=HLE.out;omega
   obtain ⟨k9,n9,m9,a9,us9,o9,c9,he9,hkd9⟩:=HKA.out (0) (by have:=HL.out;have:=HLE.out;omega)
   have HKE9:Hid (ks.getD (0) zby=.node k9 n9 m9 a9 us9):=he9
   have HKW9:Hid (∀ w2,za1 p w w2->KidR w2 g (f+(0)*5) k9 n9 m9 a9 (.slice o9 us9.length c9)∧TreeR p w2 (.node k9 n9 m9 a9 us9) (zaj k9 n9 m9 a9 (.slice o9 us9.length c9))):=hkd9
   clear he9 hkd9
   have HR9:Hid (R=(wr (.node k9 n9 m9 a9 us9) txt).bind (layP [n])):=by show _=_;rw [HR1.out,HKE9.out]
   obtain ⟨⟨z0,z1,z2,z3,z4⟩,_⟩:=zab (HBK.out _ _ HS1.out.2.2)
   clear z0 z1 z2 z3
   obtain ⟨q0,q1,q2,q3,q4⟩:=(HKW9.out _ (HFR.out _ _ HS1.out.2.2)).1
   simp only [Nat.zero_mul,Nat.add_zero] at q0 q1 q2 q3 q4
   go_wp2_with fail
   refine (HWR.out.run w1 (HFR.out _ _ HS1.out.2.2) k9 n9 m9 a9 us9 o9 c9 (HKW9.out _ (HFR.out _ _ HS1.out.2.2)).2 txt v0 HS1.out.1 HS1.out.2.1).mono ?_
   rintro e w2 ⟨v2,hk,hQ⟩
   have HKM:=hid (HS1.out.2.2.trans hk)
   clear hk
   rcases hQ with ⟨x2,hx1,hx2,rfl,hPR⟩|⟨hx1,he⟩
   case inr =>
    have HF:Hid (R=none):=HR9.out.trans (by rw [hx1];rfl)
    clear hx1
    unfold zaa at he
    subst he
    go_wp2
    exact ⟨rfl,v2,HEND.out _ _ HKM.out,Or.inr ⟨HF.out,rfl⟩⟩
   have HR2:Hid (R=layP [n] x2):=HR9.out.trans (by rw [hx1];rfl)
   have HS2:=hid3 hPR hx2 HKM.out
   clear hx1 hx2 hPR z4 q0 q1 q2 q3 q4
   obtain ⟨⟨z0,z1,z2,z3,z4⟩,_⟩:=zab (HBK.out _ _ HS2.out.2.2)
   clear z0 z2 z3 z4
   go_wp2_with fail
   refine (za7 p [n] _ rfl (by intro t ht;simp only [List.mem_cons,List.not_mem_nil,or_false] at ht;rcases ht with rfl <;> first|exact HN.out|exact HOP.out|exact HSH.out|exact ⟨by decide,by decide⟩) (by simp) 1 rfl x2 d v2 w2 HS2.out.1 HS2.out.2.1).mono ?_
   rintro e w3 ⟨v3,hk,hQ⟩
   have HKM:=hid (HS2.out.2.2.trans hk)
   clear hk
   rcases hQ with ⟨x3,hx1,hx2,rfl,hPR⟩|⟨hx1,he⟩
   case inr =>
    have HF:Hid (R=none):=HR2.out.trans (by rw [hx1])
    clear hx1
    unfold zaa at he
    subst he
    go_wp2
    exact ⟨rfl,v3,HEND.out _ _ HKM.out,Or.inr ⟨HF.out,rfl⟩⟩
   have HR3:Hid (R=some x3):=HR2.out.trans (by rw [hx1])
   have HS3:=hid3 hPR hx2 HKM.out
   clear hx1 hx2 hPR z1
   go_wp2
   first|go_end0|refine bodyPost_ret (results_none rfl _ _ _) rfl ?_
   exact ⟨v3,HEND.out _ _ HS3.out.2.2,Or.inl ⟨x3,HR3.out,HS3.out.2.1,rfl,HS3.out.1⟩⟩
 by_cases h17:k=17
 · subst h17
   have HP:=hid2 h hx
   obtain ⟨R,hR⟩:∃ R,zcs wr (.node 17 n m a ks) txt=R:=⟨_,rfl⟩
   rw [hR]
   have HR:Hid (R=zcs wr (.node 17 n m a ks) txt):=hR.symm
   have HMH:Hid (∀ w,Calls Tryz.prog 59 #[zaj 17 n m a (.slice o L c),.bool true,.int .i64 1,.int .i64 1] w (zb6 (zaw n true&&zan L m 1 1) w)):=fun w=>zbw 17 n m a o L c 1 1 w (by unfold maxLen at hn;omega)
   unfold zaj at HMH
   clear hn
   clear h hx hR
   obtain ⟨wa,hwa⟩:∃ x,w.alloc (.cells #[.int .i64 17,.string ⟨n.toArray⟩,.int .i64 m,.int .i64 a,.slice o L c] 29)=x:=⟨_,rfl⟩
   have HB:=hidB hwa
   have HK:Hid (wa.heap[w.heap.size]?=some (za2 17 n m a (.slice o L c))):=by show _=_;rw [<- hwa];exact heap_alloc_new _ _
   have HS:Hid (PR wa p txt d v0∧txt.length<=16000∧Lx.Kept p v0 v0 wa wa):=⟨HP.out.1.below HB.out,HP.out.2,Lx.Kept.of_below (Below.refl _ _)⟩
   have HBK:Hid (∀ v' w',Lx.Kept p v0 v' wa w'->w'.heap[w.heap.size]?=some (za2 17 n m a (.slice o L c))):=boxed HP.out.1 HK.out
   have HEND:Hid (∀ v' w',Lx.Kept p v0 v' wa w'->Lx.Kept p v0 v' w w'):=fun v' w' hk=>(Lx.Kept.of_below HB.out).trans hk
   have HFR:Hid (∀ v' w',Lx.Kept p v0 v' wa w'->za1 p w w'):=fun v' w' hk=>HP.out.1.front (HEND.out _ _ hk)
   obtain ⟨⟨z0,z1,z2,z3,z4⟩,_⟩:=zab HK.out
   unfold zaj
   have HR0:Hid (R=maybeP wr (.node 17 n m a ks) txt):=HR.out
   go_enter Tryz.func98,Tryz.ntmps98
   go_wp2_with fail
   refine (HMH.out _).mono ?_
   rintro e w1 ⟨hB,hq⟩
   have HKM:=hid (HS.out.2.2.trans (Lx.Kept.of_below hB))
   have HPM:=hid (HS.out.1.below hB)
   clear hB
   rcases hq with ⟨hq,rfl⟩|⟨hq,he⟩
   case inr =>
    have HF:Hid (R=none):=by
     show _=_
     rw [HR0.out];rw [zkv HL.out rfl];rw [hq];rfl
    clear hq
    unfold zaa at he
    subst he
    go_wp2
    exact ⟨rfl,v0,HEND.out _ _ HKM.out,Or.inr ⟨HF.out,rfl⟩⟩
   have HR1:Hid (R=(wr (ks.getD 0 zby) txt).bind (layP [[42],n])):=by
    show _=_
    rw [HR0.out];rw [zkv HL.out rfl];rw [hq];rfl
   have HQ1:Hid ((zaw n true&&zan L m 1 1)=true):=hq
   have HS1:=hid3 HPM.out HS.out.2.1 HKM.out
   clear hq z0 z1 z2 z3 z4 hwa
   have HN:Hid (n≠[]∧n.length<=64):=by
    have:=HQ1.out
    rw [Bool.and_eq_true] at this
    exact zco this.1
   have hlen:1<=L∧L<=1:=by
    have:=HQ1.out
    unfold zan at this
    simp at this
    omega
   have HLE:=hid hlen
   obtain ⟨g,f,ho,hg,hkd⟩:=zcy HTR.out (by have:=HL.out;omega)
   subst ho
   have HKA:=hid hkd
   clear hlen hg hkd
   have hl1:(1:Int)<=(L:Int):=by have:=HLE.out;omega
   obtain ⟨k9,n9,m9,a9,us9,o9,c9,he9,hkd9⟩:=HKA.out (0) (by have:=HL.out;have:=HLE.out;omega)
   have HKE9:Hid (ks.getD (0) zby=.node k9 n9 m9 a9 us9):=he9
   have HKW9:Hid (∀ w2,za1 p w w2->KidR w2 g (f+(0)*5) k9 n9 m9 a9 (.slice o9 us9.length c9)∧TreeR p w2 (.node k9 n9 m9 a9 us9) (zaj k9 n9 m9 a9 (.slice o9 us9.length c9))):=hkd9
   clear he9 hkd9
   have HR9:Hid (R=(wr (.node k9 n9 m9 a9 us9) txt).bind (layP [[42],n])):=by show _=_;rw [HR1.out,HKE9.out]
   obtain ⟨⟨z0,z1,z2,z3,z4⟩,_⟩:=zab (HBK.out _ _ HS1.out.2.2)
   clear z0 z1 z2 z3
   obtain ⟨q0,q1,q2,q3,q4⟩:=(HKW9.out _ (HFR.out _ _ HS1.out.2.2)).1
   simp only [Nat.zero_mul,Nat.add_zero] at q0 q1 q2 q3 q4
   go_wp2_with fail
   refine (HWR.out.run w1 (HFR.out _ _ HS1.out.2.2) k9 n9 m9 a9 us9 o9 c9 (HKW9.out _ (HFR.out _ _ HS1.out.2.2)).2 txt v0 HS1.out.1 HS1.out.2.1).mono ?_
   rintro e w2 ⟨v2,hk,hQ⟩
   have HKM:=hid (HS1.out.2.2.trans hk)
   clear hk
   rcases hQ with ⟨x2,hx1,hx2,rfl,hPR⟩|⟨hx1,he⟩
   case inr =>
    have HF:Hid (R=none):=HR9.out.trans (by rw [hx1];rfl)
    clear hx1
    unfold zaa at he
    subst he
    go_wp2
    exact ⟨rfl,v2,HEND.out _ _ HKM.out,Or.inr ⟨HF.out,rfl⟩⟩
   have HR2:Hid (R=layP [[42],n] x2):=HR9.out.trans (by rw [hx1];rfl)
   have HS2:=hid3 hPR hx2 HKM.out
   clear hx1 hx2 hPR z4 q0 q1 q2 q3 q4
   obtain ⟨⟨z0,z1,z2,z3,z4⟩,_⟩:=zab (HBK.out _ _ HS2.out.2.2)
   clear z0 z2 z3 z4
   go_wp2_with fail
   refine (za7 p [[42],n] _ rfl (by intro t ht;simp only [List.mem_cons,List.not_mem_nil,or_false] at ht;rcases ht with rfl|rfl <;> first|exact HN.out|exact HOP.out|exact HSH.out|exact ⟨by decide,by decide⟩) (by simp) 2 rfl x2 d v2 w2 HS2.out.1 HS2.out.2.1).mono ?_
   rintro e w3 ⟨v3,hk,hQ⟩
   have HKM:=hid (HS2.out.2.2.trans hk)
   clear hk
   rcases hQ with ⟨x3,hx1,hx2,rfl,hPR⟩|⟨hx1,he⟩
   case inr =>
    have HF:Hid (R=none):=HR2.out.trans (by rw [hx1])
    clear hx1
    unfold zaa at he
    subst he
    go_wp2
    exact ⟨rfl,v3,HEND.out _ _ HKM.out,Or.inr ⟨HF.out,rfl⟩⟩
   have HR3:Hid (R=some x3):=HR2.out.trans (by rw [hx1])
   have HS3:=hid3 hPR hx2 HKM.out
   clear hx1 hx2 hPR z1
   go_wp2
   first|go_end0|refine bodyPost_ret (results_none rfl _ _ _) rfl ?_
   exact ⟨v3,HEND.out _ _ HS3.out.2.2,Or.inl ⟨x3,HR3.out,HS3.out.2.1,rfl,HS3.out.1⟩⟩
 by_cases h15:k=15
 · subst h15
   have HP:=hid2 h hx
   obtain ⟨R,hR⟩:∃ R,zcs wr (.node 15 n m a ks) txt=R:=⟨_,rfl⟩
   rw [hR]
   have HR:Hid (R=zcs wr (.node 15 n m a ks) txt):=hR.symm
   have HMH:Hid (∀ w,Calls Tryz.prog 59 #[zaj 15 n m a (.slice o L c),.bool true,.int .i64 2,.int .i64 2] w (zb6 (zaw n true&&zan L m 2 2) w)):=fun w=>zbw 15 n m a o L c 2 2 w (by unfold maxLen at hn;omega)
   unfold zaj at HMH
   clear hn
   clear h hx hR
   obtain ⟨wa,hwa⟩:∃ x,w.alloc (.cells #[.int .i64 15,.string ⟨n.toArray⟩,.int .i64 m,.int .i64 a,.slice o L c] 29)=x:=⟨_,rfl⟩
   have HB:=hidB hwa
   have HK:Hid (wa.heap[w.heap.size]?=some (za2 15 n m a (.slice o L c))):=by show _=_;rw [<- hwa];exact heap_alloc_new _ _
   have HS:Hid (PR wa p txt d v0∧txt.length<=16000∧Lx.Kept p v0 v0 wa wa):=⟨HP.out.1.below HB.out,HP.out.2,Lx.Kept.of_below (Below.refl _ _)⟩
   have HBK:Hid (∀ v' w',Lx.Kept p v0 v' wa w'->w'.heap[w.heap.size]?=some (za2 15 n m a (.slice o L c))):=boxed HP.out.1 HK.out
   have HEND:Hid (∀ v' w',Lx.Kept p v0 v' wa w'->Lx.Kept p v0 v' w w'):=fun v' w' hk=>(Lx.Kept.of_below HB.out).trans hk
   have HFR:Hid (∀ v' w',Lx.Kept p v0 v' wa w'->za1 p w w'):=fun v' w' hk=>HP.out.1.front (HEND.out _ _ hk)
   obtain ⟨⟨z0,z1,z2,z3,z4⟩,_⟩:=zab HK.out
   unfold zaj
   have HR0:Hid (R=fixedP wr (.node 15 n m a ks) txt):=HR.out
   go_enter Tryz.func98,Tryz.ntmps98
   go_wp2_with fail
   refine (HMH.out _).mono ?_
   rintro e w1 ⟨hB,hq⟩
   have HKM:=hid (HS.out.2.2.trans (Lx.Kept.of_below hB))
   have HPM:=hid (HS.out.1.below hB)
   clear hB
   rcases hq with ⟨hq,rfl⟩|⟨hq,he⟩
   case inr =>
    have HF:Hid (R=none):=by
     show _=_
     rw [HR0.out];rw [zkz HL.out rfl];rw [hq];rfl
    clear hq
    unfold zaa at he
    subst he
    go_wp2
    exact ⟨rfl,v0,HEND.out _ _ HKM.out,Or.inr ⟨HF.out,rfl⟩⟩
   have HR1:Hid (R=if (ks.getD 0 zby).kind=26 then none else sizedP wr [91] [93] (.node 15 n m a ks) txt):=by
    show _=_
    rw [HR0.out];rw [zkz HL.out rfl];rw [hq];rfl
   have HQ1:Hid ((zaw n true&&zan L m 2 2)=true):=hq
   have HS1:=hid3 HPM.out HS.out.2.1 HKM.out
   clear hq z0 z1 z2 z3 z4 hwa
   have HN:Hid (n≠[]∧n.length<=64):=by
    have:=HQ1.out
    rw [Bool.and_eq_true] at this
    exact zco this.1
   have hlen:2<=L∧L<=2:=by
    have:=HQ1.out
    unfold zan at this
    simp at this
    omega
   have HLE:=hid hlen
   obtain ⟨g,f,ho,hg,hkd⟩:=zcy HTR.out (by have:=HL.out;omega)
   subst ho
   have HKA:=hid hkd
   clear hlen hg hkd
   have hl1:(1:Int)<=(L:Int):=by have:=HLE.out;omega
   obtain ⟨k9,n9,m9,a9,us9,o9,c9,he9,hkd9⟩:=HKA.out (0) (by have:=HL.out;have:=HLE.out;omega)
   have HKE9:Hid (ks.getD (0) zby=.node k9 n9 m9 a9 us9):=he9
   have HKW9:Hid (∀ w2,za1 p w w2->KidR w2 g (f+(0)*5) k9 n9 m9 a9 (.slice o9 us9.length c9)∧TreeR p w2 (.node k9 n9 m9 a9 us9) (zaj k9 n9 m9 a9 (.slice o9 us9.length c9))):=hkd9
   clear he9 hkd9
   obtain ⟨⟨z0,z1,z2,z3,z4⟩,_⟩:=zab (HBK.out _ _ HS1.out.2.2)
   obtain ⟨q0,q1,q2,q3,q4⟩:=(HKW9.out _ (HFR.out _ _ HS1.out.2.2)).1
   simp only [Nat.zero_mul,Nat.add_zero] at q0 q1 q2 q3 q4
   by_cases h26:k9=26
   case pos =>
    have j26:(k9 != 26)=false:=by simp [h26]
    have HF:Hid (R=none):=by
     show _=_
     rw [HR1.out,HKE9.out];exact if_pos h26
    clear h26
    go_wp2_with (first|(go_at_call 58;refine (zar _).mono ?_;rintro e wi ⟨rfl,hwi⟩;rw [hwi];clear hwi wi)|(go_at_call 58;refine (zak _).mono ?_;rintro e wi ⟨he,hwi⟩;rw [hwi];clear hwi;unfold zaa at he;rw [he];clear he wi))
    exact ⟨rfl,v0,HEND.out _ _ HS1.out.2.2,Or.inr ⟨HF.out,rfl⟩⟩
   have j26:(k9 != 26)=true:=by simp [h26]
   have HR9:Hid (R=sizedP wr [91] [93] (.node 15 n m a ks) txt):=by show _=_;rw [HR1.out,HKE9.out];exact if_neg h26
   clear h26
   go_wp2_with (first|(go_at_call 58;refine (zar _).mono ?_;rintro e wi ⟨rfl,hwi⟩;rw [hwi];clear hwi wi)|(go_at_call 58;refine (zak _).mono ?_;rintro e wi ⟨he,hwi⟩;rw [hwi];clear hwi;unfold zaa at he;rw [he];clear he wi))
   refine (HSZ.out [91] [93] ⟨by decide,by decide⟩ ⟨by decide,by decide⟩ HN.out (by have:=HLE.out;omega) w1 (HFR.out _ _ HS1.out.2.2) txt v0 HS1.out.1 HS1.out.2.1).mono ?_
   rintro e w2 ⟨v2,hk,hQ⟩
   have HKM:=hid (HS1.out.2.2.trans hk)
   clear hk
   rcases hQ with ⟨x2,hx1,hx2,rfl,hPR⟩|⟨hx1,he⟩
   case inr =>
    have HF:Hid (R=none):=HR9.out.trans (by rw [hx1])
    clear hx1
    unfold zaa at he
    subst he
    go_wp2
    exact ⟨rfl,v2,HEND.out _ _ HKM.out,Or.inr ⟨HF.out,rfl⟩⟩
   have HR2:Hid (R=some x2):=HR9.out.trans (by rw [hx1])
   have HS2:=hid3 hPR hx2 HKM.out
   clear hx1 hx2 hPR 
   go_wp2
   first|go_end0|refine bodyPost_ret (results_none rfl _ _ _) rfl ?_
   exact ⟨v2,HEND.out _ _ HS2.out.2.2,Or.inl ⟨x2,HR2.out,HS2.out.2.1,rfl,HS2.out.1⟩⟩
 by_cases h16:k=16
 · subst h16
   have HP:=hid2 h hx
   obtain ⟨R,hR⟩:∃ R,zcs wr (.node 16 n m a ks) txt=R:=⟨_,rfl⟩
   rw [hR]
   have HR:Hid (R=zcs wr (.node 16 n m a ks) txt):=hR.symm
   have HMH:Hid (∀ w,Calls Tryz.prog 59 #[zaj 16 n m a (.slice o L c),.bool true,.int .i64 1,.int .i64 2] w (zb6 (zaw n true&&zan L m 1 2) w)):=fun w=>zbw 16 n m a o L c 1 2 w (by unfold maxLen at hn;omega)
   unfold zaj at HMH
   clear hn
   clear h hx hR
   obtain ⟨wa,hwa⟩:∃ x,w.alloc (.cells #[.int .i64 16,.string ⟨n.toArray⟩,.int .i64 m,.int .i64 a,.slice o L c] 29)=x:=⟨_,rfl⟩
   have HB:=hidB hwa
   have HK:Hid (wa.heap[w.heap.size]?=some (za2 16 n m a (.slice o L c))):=by show _=_;rw [<- hwa];exact heap_alloc_new _ _
   have HS:Hid (PR wa p txt d v0∧txt.length<=16000∧Lx.Kept p v0 v0 wa wa):=⟨HP.out.1.below HB.out,HP.out.2,Lx.Kept.of_below (Below.refl _ _)⟩
   have HBK:Hid (∀ v' w',Lx.Kept p v0 v' wa w'->w'.heap[w.heap.size]?=some (za2 16 n m a (.slice o L c))):=boxed HP.out.1 HK.out
   have HEND:Hid (∀ v' w',Lx.Kept p v0 v' wa w'->Lx.Kept p v0 v' w w'):=fun v' w' hk=>(Lx.Kept.of_below HB.out).trans hk
   have HFR:Hid (∀ v' w',Lx.Kept p v0 v' wa w'->za1 p w w'):=fun v' w' hk=>HP.out.1.front (HEND.out _ _ hk)
   obtain ⟨⟨z0,z1,z2,z3,z4⟩,_⟩:=zab HK.out
   unfold zaj
   have HR0:Hid (R=zjh wr (.node 16 n m a ks) txt):=HR.out
   go_enter Tryz.func98,Tryz.ntmps98
   go_wp2_with fail
   refine (HMH.out _).mono ?_
   rintro e w1 ⟨hB,hq⟩
   have HKM:=hid (HS.out.2.2.trans (Lx.Kept.of_below hB))
   have HPM:=hid (HS.out.1.below hB)
   clear hB
   rcases hq with ⟨hq,rfl⟩|⟨hq,he⟩
   case inr =>
    have HF:Hid (R=none):=by
     show _=_
     rw [HR0.out];rw [zlo HL.out rfl];rw [hq];rfl
    clear hq
    unfold zaa at he
    subst he
    go_wp2
    exact ⟨rfl,v0,HEND.out _ _ HKM.out,Or.inr ⟨HF.out,rfl⟩⟩
   have HR1:Hid (R=sizedP wr [60] [62] (.node 16 n m a ks) txt):=by
    show _=_
    rw [HR0.out];rw [zlo HL.out rfl];rw [hq];rfl
   have HQ1:Hid ((zaw n true&&zan L m 1 2)=true):=hq
   have HS1:=hid3 HPM.out HS.out.2.1 HKM.out
   clear hq z0 z1 z2 z3 z4 hwa
   have HN:Hid (n≠[]∧n.length<=64):=by
    have:=HQ1.out
    rw [Bool.and_eq_true] at this
    exact zco this.1
   have hlen:1<=L∧L<=2:=by
    have:=HQ1.out
    unfold zan at this
    simp at this
    omega
   have HLE:=hid hlen
   obtain ⟨g,f,ho,hg,hkd⟩:=zcy HTR.out (by have:=HL.out;omega)
   subst ho
   have HKA:=hid hkd
   clear hlen hg hkd
   have hl1:(1:Int)<=(L:Int):=by have:=HLE.out;omega
   obtain ⟨⟨z0,z1,z2,z3,z4⟩,_⟩:=zab (HBK.out _ _ HS1.out.2.2)
   go_wp2_with fail
   refine (HSZ.out [60] [62] ⟨by decide,by decide⟩ ⟨by decide,by decide⟩ HN.out (by have:=HLE.out;omega) w1 (HFR.out _ _ HS1.out.2.2) txt v0 HS1.out.1 HS1.out.2.1).mono ?_
   rintro e w2 ⟨v2,hk,hQ⟩
   have HKM:=hid (HS1.out.2.2.trans hk)
   clear hk
   rcases hQ with ⟨x2,hx1,hx2,rfl,hPR⟩|⟨hx1,he⟩
   case inr =>
    have HF:Hid (R=none):=HR1.out.trans (by rw [hx1])
    clear hx1
    unfold zaa at he
    subst he
    go_wp2
    exact ⟨rfl,v2,HEND.out _ _ HKM.out,Or.inr ⟨HF.out,rfl⟩⟩
   have HR2:Hid (R=some x2):=HR1.out.trans (by rw [hx1])
   have HS2:=hid3 hPR hx2 HKM.out
   clear hx1 hx2 hPR 
   go_wp2
   first|go_end0|refine bodyPost_ret (results_none rfl _ _ _) rfl ?_
   exact ⟨v2,HEND.out _ _ HS2.out.2.2,Or.inl ⟨x2,HR2.out,HS2.out.2.1,rfl,HS2.out.1⟩⟩
 have HNEG:zcs wr (.node k n m a ks) txt=none:=by
  unfold zcs
  rw [if_neg (show ¬ (ITree.node k n m a ks).kind=13 from h13),if_neg (show ¬ (ITree.node k n m a ks).kind=14 from h14),if_neg (show ¬ (ITree.node k n m a ks).kind=17 from h17),if_neg (show ¬ (ITree.node k n m a ks).kind=15 from h15),if_neg (show ¬ (ITree.node k n m a ks).kind=16 from h16)]
 have j13:(k==13)=false:=by simp [h13]
 have j14:(k==14)=false:=by simp [h14]
 have j17:(k==17)=false:=by simp [h17]
 have j15:(k==15)=false:=by simp [h15]
 have j16:(k==16)=false:=by simp [h16]
 have HP:=hid2 h hx
 obtain ⟨R,hR⟩:∃ R,zcs wr (.node k n m a ks) txt=R:=⟨_,rfl⟩
 rw [hR]
 have HR:Hid (R=zcs wr (.node k n m a ks) txt):=hR.symm
 clear h13 h14 h17 h15 h16
 clear h hx hR
 obtain ⟨wa,hwa⟩:∃ x,w.alloc (.cells #[.int .i64 k,.string ⟨n.toArray⟩,.int .i64 m,.int .i64 a,.slice o L c] 29)=x:=⟨_,rfl⟩
 have HB:=hidB hwa
 have HK:Hid (wa.heap[w.heap.size]?=some (za2 k n m a (.slice o L c))):=by show _=_;rw [<- hwa];exact heap_alloc_new _ _
 have HS:Hid (PR wa p txt d v0∧txt.length<=16000∧Lx.Kept p v0 v0 wa wa):=⟨HP.out.1.below HB.out,HP.out.2,Lx.Kept.of_below (Below.refl _ _)⟩
 have HBK:Hid (∀ v' w',Lx.Kept p v0 v' wa w'->w'.heap[w.heap.size]?=some (za2 k n m a (.slice o L c))):=boxed HP.out.1 HK.out
 have HEND:Hid (∀ v' w',Lx.Kept p v0 v' wa w'->Lx.Kept p v0 v' w w'):=fun v' w' hk=>(Lx.Kept.of_below HB.out).trans hk
 have HFR:Hid (∀ v' w',Lx.Kept p v0 v' wa w'->za1 p w w'):=fun v' w' hk=>HP.out.1.front (HEND.out _ _ hk)
 obtain ⟨⟨z0,z1,z2,z3,z4⟩,_⟩:=zab HK.out
 unfold zaj
 have HF:Hid (R=none):=HR.out.trans HNEG
 go_enter Tryz.func98,Tryz.ntmps98
 go_wp2_with (first|(go_at_call 58;refine (zar _).mono ?_;rintro e wi ⟨rfl,hwi⟩;rw [hwi];clear hwi wi)|(go_at_call 58;refine (zak _).mono ?_;rintro e wi ⟨he,hwi⟩;rw [hwi];clear hwi;unfold zaa at he;rw [he];clear he wi))
 exact ⟨rfl,v0,HEND.out _ _ HS.out.2.2,Or.inr ⟨HF.out,rfl⟩⟩
def zom (fi:ITree->List UInt8->Option (List UInt8)) (t:ITree) (txt:List UInt8):Option (List UInt8) :=
 if zaw t.name false&&zan t.kids.length t.num 1 1 then (layP [[100,101,102,97,117,108,116],[58]] txt).bind fun x=>(fi (t.kids.getD 0 zby) x).bind (layP [[125]]) else none
theorem zol {fi:ITree->List UInt8->Option (List UInt8)} {k:Int} {n:List UInt8} {m a:Int} {us:List ITree} {l:Nat} (hl:us.length=l) {b:Bool} (hb:(zaw n false&&zan l m 1 1)=b) (x:List UInt8):zom fi (.node k n m a us) x=if b then (layP [[100,101,102,97,117,108,116],[58]] x).bind fun x=>(fi (us.getD 0 zby) x).bind (layP [[125]]) else none:=by
 subst hl
 subst hb
 rfl
def zm1 (ar fi:ITree->List UInt8->Option (List UInt8)) (ts:List ITree) (txt:List UInt8):Option (List UInt8) :=
 if (ts.getD (ts.length - 1) zby).kind=9 then (if 1<=ts.length - 2∧ts.length - 2<=64 then (rowP ar ((ts.drop 1).take (ts.length - 2)) txt).bind (zom fi (ts.getD (ts.length - 1) zby)) else none)
 else (if ts.length - 1<=64 then (rowP ar (ts.drop 1) txt).bind (layP [[125]]) else none)
def choiceP (de ar fi:ITree->List UInt8->Option (List UInt8)) (ts:List ITree) (txt:List UInt8):Option (List UInt8) :=
 (layP [[115,119,105,116,99,104],[40]] txt).bind fun x=>(de (ts.getD 0 zby) x).bind fun x=>(layP [[41],[123]] x).bind (zm1 ar fi ts)
set_option maxHeartbeats 2000000 in
set_option maxRecDepth 4000 in
theorem zh1 (p g f L c:Nat) (ts:List ITree) (hL:ts.length=L) (hLm:2<=L∧L<=66) (hc:L<=c∧c<=maxLen) (txt:List UInt8) (d:Int) (v0:Value) (wa:World) (h:PR wa p txt d v0) (hx:txt.length<=16000) {de ar fi:ITree->List UInt8->Option (List UInt8)} (hde:Does p d wa 98 (fun v=>#[.pointer (some ⟨p,0,none⟩),v]) de) (har:Does p d wa 161 (fun v=>#[.pointer (some ⟨p,0,none⟩),v]) ar) (hfi:Does p d wa 160 (fun v=>#[.pointer (some ⟨p,0,none⟩),v]) fi) (hk:zf8 p wa g f ts) :
 Calls Tryz.prog 138 #[.pointer (some ⟨p,0,none⟩),.slice (some ⟨g,f,none⟩) L c] wa (zbp p d v0 (choiceP de ar fi ts txt) wa):=by
 obtain ⟨M,hM⟩:∃ M,L=M+2:=⟨L - 2,by omega⟩
 subst hM
 have HL:Hid (ts.length=M+2):=hL
 have HLE:Hid (M<=64):=by show _<=_;omega
 have HCC:=hid hc
 have HKA:=hid hk
 have HDE:Hid (Does p d wa 98 (fun v=>#[.pointer (some ⟨p,0,none⟩),v]) de):=hde
 have HAR:Hid (Does p d wa 161 (fun v=>#[.pointer (some ⟨p,0,none⟩),v]) ar):=har
 have HFI:Hid (Does p d wa 160 (fun v=>#[.pointer (some ⟨p,0,none⟩),v]) fi):=hfi
 clear hL hLm hc hk hde har hfi
 have HP:=hid2 h hx
 obtain ⟨R,hR⟩:∃ R,choiceP de ar fi ts txt=R:=⟨_,rfl⟩
 rw [hR]
 have HR:Hid (R=choiceP de ar fi ts txt):=hR.symm
 clear h hx hR
 have HS:Hid (PR wa p txt d v0∧txt.length<=16000∧Lx.Kept p v0 v0 wa wa):=⟨HP.out.1,HP.out.2,Lx.Kept.of_below (Below.refl _ _)⟩
 have HEND:Hid (∀ v' w',Lx.Kept p v0 v' wa w'->Lx.Kept p v0 v' wa w'):=fun v' w' hk=>hk
 have HFR:Hid (∀ v' w',Lx.Kept p v0 v' wa w'->za1 p wa w'):=fun v' w' hk=>HP.out.1.front hk
 obtain ⟨k8,n8,m8,a8,us8,o8,c8,he8,hkd8⟩:=HKA.out (0) (by have:=HL.out;have:=HLE.out;omega)
 have HKE8:Hid (ts.getD (0) zby=.node k8 n8 m8 a8 us8):=he8
 have HKW8:Hid (∀ w2,za1 p wa w2->KidR w2 g (f+(0)*5) k8 n8 m8 a8 (.slice o8 us8.length c8)∧TreeR p w2 (.node k8 n8 m8 a8 us8) (zaj k8 n8 m8 a8 (.slice o8 us8.length c8))):=hkd8
 clear he8 hkd8
 obtain ⟨k9,n9,m9,a9,us9,o9,c9,he9,hkd9⟩:=HKA.out (M+1) (by have:=HL.out;have:=HLE.out;omega)
 have HKE9:Hid (ts.getD (M+1) zby=.node k9 n9 m9 a9 us9):=he9
 have HKW9:Hid (∀ w2,za1 p wa w2->KidR w2 g (f+(M+1)*5) k9 n9 m9 a9 (.slice o9 us9.length c9)∧TreeR p w2 (.node k9 n9 m9 a9 us9) (zaj k9 n9 m9 a9 (.slice o9 us9.length c9))):=hkd9
 clear he9 hkd9
 have HR0:Hid (R=(layP [[115,119,105,116,99,104],[40]] txt).bind fun x=>(de (.node k8 n8 m8 a8 us8) x).bind fun x=>(layP [[41],[123]] x).bind (zm1 ar fi ts)):=by show _=_;rw [HR.out,<- HKE8.out];rfl
 have hm0:(0:Int)<=(M:Int):=by omega
 have hm2:(M:Int)<=64:=by have:=HLE.out;omega
 have hc1:(M:Int)+2<=(c:Int):=by have:=HCC.out;omega
 have hc2:(c:Int)<=9223372036854775807:=by have:=HCC.out.2;unfold maxLen at this;omega
 go_enter Tryz.func138,Tryz.ntmps138
 go_wp2_with fail
 refine (za7 p [[115,119,105,116,99,104],[40]] _ rfl (by intro t ht;simp only [List.mem_cons,List.not_mem_nil,or_false] at ht;rcases ht with rfl|rfl <;> first|exact HN.out|exact HOP.out|exact HSH.out|exact ⟨by decide,by decide⟩) (by simp) 2 rfl txt d v0 wa HS.out.1 HS.out.2.1).mono ?_
 rintro e w1 ⟨v1,hk,hQ⟩
 have HKM:=hid (HS.out.2.2.trans hk)
 clear hk
 rcases hQ with ⟨x1,hx1,hx2,rfl,hPR⟩|⟨hx1,he⟩
 case inr =>
  have HF:Hid (R=none):=HR0.out.trans (by rw [hx1];rfl)
  clear hx1
  unfold zaa at he
  subst he
  go_wp2
  exact ⟨rfl,v1,HEND.out _ _ HKM.out,Or.inr ⟨HF.out,rfl⟩⟩
 have HR1:Hid (R=(de (.node k8 n8 m8 a8 us8) x1).bind fun x=>(layP [[41],[123]] x).bind (zm1 ar fi ts)):=HR0.out.trans (by rw [hx1];rfl)
 have HS1:=hid3 hPR hx2 HKM.out
 clear hx1 hx2 hPR 
 obtain ⟨q0,q1,q2,q3,q4⟩:=(HKW8.out _ (HFR.out _ _ HS1.out.2.2)).1
 simp only [Nat.zero_mul,Nat.add_zero] at q0 q1 q2 q3 q4
 go_wp2_with fail
 refine (HDE.out.run w1 (HFR.out _ _ HS1.out.2.2) k8 n8 m8 a8 us8 o8 c8 (HKW8.out _ (HFR.out _ _ HS1.out.2.2)).2 x1 v1 HS1.out.1 HS1.out.2.1).mono ?_
 rintro e w2 ⟨v2,hk,hQ⟩
 have HKM:=hid (HS1.out.2.2.trans hk)
 clear hk
 rcases hQ with ⟨x2,hx1,hx2,rfl,hPR⟩|⟨hx1,he⟩
 case inr =>
  have HF:Hid (R=none):=HR1.out.trans (by rw [hx1];rfl)
  clear hx1
  unfold zaa at he
  subst he
  go_wp2
  exact ⟨rfl,v2,HEND.out _ _ HKM.out,Or.inr ⟨HF.out,rfl⟩⟩
 have HR2:Hid (R=(layP [[41],[123]] x2).bind (zm1 ar fi ts)):=HR1.out.trans (by rw [hx1];rfl)
 have HS2:=hid3 hPR hx2 HKM.out
 clear hx1 hx2 hPR q0 q1 q2 q3 q4
 go_wp2_with fail
 refine (za7 p [[41],[123]] _ rfl (by intro t ht;simp only [List.mem_cons,List.not_mem_nil,or_false] at ht;rcases ht with rfl|rfl <;> first|exact HN.out|exact HOP.out|exact HSH.out|exact ⟨by decide,by decide⟩) (by simp) 2 rfl x2 d v2 w2 HS2.out.1 HS2.out.2.1).mono ?_
 rintro e w3 ⟨v3,hk,hQ⟩
 have HKM:=hid (HS2.out.2.2.trans hk)
 clear hk
 rcases hQ with ⟨x3,hx1,hx2,rfl,hPR⟩|⟨hx1,he⟩
 case inr =>
  have HF:Hid (R=none):=HR2.out.trans (by rw [hx1];rfl)
  clear hx1
  unfold zaa at he
  subst he
  go_wp2
  exact ⟨rfl,v3,HEND.out _ _ HKM.out,Or.inr ⟨HF.out,rfl⟩⟩
 have HR3:Hid (R=zm1 ar fi ts x3):=HR2.out.trans (by rw [hx1];rfl)
 have HS3:=hid3 hPR hx2 HKM.out
 clear hx1 hx2 hPR 
 obtain ⟨q0,q1,q2,q3,q4⟩:=(HKW9.out _ (HFR.out _ _ HS3.out.2.2)).1
 rw [show f+(M+1)*5=f+5+M*5 by omega] at q0 q1 q2 q3 q4
 obtain ⟨l9,hl9⟩:∃ l,us9.length=l:=⟨_,rfl⟩
 rw [hl9] at q4
 have HL9:Hid (us9.length=l9):=hl9
 clear hl9
 obtain ⟨wl,hwl⟩:∃ x,w3.alloc (.cells #[.int .i64 k9,.string ⟨n9.toArray⟩,.int .i64 m9,.int .i64 a9,.slice o9 l9 c9] 29)=x:=⟨_,rfl⟩
 have HBL:Hid (Below w3.heap.size w3 wl):=by show Below _ _ _;rw [<- hwl];exact zad _ _
 have HKL:Hid (wl.heap[w3.heap.size]?=some (za2 k9 n9 m9 a9 (.slice o9 l9 c9))):=by show _=_;rw [<- hwl];exact heap_alloc_new _ _
 obtain ⟨⟨y0,y1,y2,y3,y4⟩,_⟩:=zab HKL.out
 obtain ⟨vl,hvl⟩:∃ x,v3=x:=⟨_,rfl⟩
 have HSL:Hid (PR wl p x3 d vl∧x3.length<=16000∧Lx.Kept p vl vl wl wl):=by
  show _∧_∧_
  rw [<- hvl]
  exact ⟨HS3.out.1.below HBL.out,HS3.out.2.1,Lx.Kept.of_below (Below.refl _ _)⟩
 have HLB:Hid (∀ v' w',Lx.Kept p vl v' wl w'->w'.heap[w3.heap.size]?=some (za2 k9 n9 m9 a9 (.slice o9 l9 c9))):=by
  show ∀ v' w',_
  rw [<- hvl]
  exact boxed HS3.out.1 HKL.out
 have HEND2:Hid (∀ v' w',Lx.Kept p vl v' wl w'->Lx.Kept p v0 v' wa w'):=fun v' w' hk=>(HS3.out.2.2.trans (Lx.Kept.of_below HBL.out)).trans (by rw [hvl];exact hk)
 have HFL:=hid (HFR.out _ _ (HS3.out.2.2.trans (Lx.Kept.of_below HBL.out)))
 have HFR2:Hid (∀ v' w',Lx.Kept p vl v' wl w'->za1 p wl w'):=fun v' w' hk=>HSL.out.1.front hk
 have HAR2:Hid (Does p d wl 161 (fun v=>#[.pointer (some ⟨p,0,none⟩),v]) ar):=HAR.out.front HFL.out
 have HFI2:Hid (Does p d wl 160 (fun v=>#[.pointer (some ⟨p,0,none⟩),v]) fi):=HFI.out.front HFL.out
 have HKA2:=hid (HKA.out.front HFL.out)
 have HT9:Hid (∀ w2,za1 p wl w2->TreeR p w2 (.node k9 n9 m9 a9 us9) (zaj k9 n9 m9 a9 (.slice o9 us9.length c9))):=fun w2 h2=>(HKW9.out w2 (HFL.out.trans h2)).2
 have HRL:Hid (R=if k9=9 then (if 1<=M∧M<=64 then (rowP ar ((ts.drop 1).take M) x3).bind (zom fi (.node k9 n9 m9 a9 us9)) else none) else (if M+1<=64 then (rowP ar (ts.drop 1) x3).bind (layP [[125]]) else none)):=by
  show _=_
  rw [HR3.out]
  unfold zm1
  rw [HL.out,show M+2 - 1=M+1 by omega,show M+2 - 2=M by omega,HKE9.out]
  rfl
 clear hvl HEND HFR
 by_cases h9:k9=9
 · subst h9
   have HRB:Hid (R=if 1<=M∧M<=64 then (rowP ar ((ts.drop 1).take M) x3).bind (zom fi (.node 9 n9 m9 a9 us9)) else none):=HRL.out
   by_cases hM1:M=0
   · subst hM1
     have HF:Hid (R=none):=HRB.out
     go_wp2_with (first|(go_at_call 58;refine (zar _).mono ?_;rintro e wi ⟨rfl,hwi⟩;rw [hwi];clear hwi wi)|(go_at_call 58;refine (zak _).mono ?_;rintro e wi ⟨he,hwi⟩;rw [hwi];clear hwi;unfold zaa at he;rw [he];clear he wi))
     exact ⟨rfl,vl,HEND2.out _ _ HSL.out.2.2,Or.inr ⟨HF.out,rfl⟩⟩
   have j1:decide ((1:Int)<=(M:Int))=true:=by simp;omega
   have j2:decide ((M:Int)<=64)=true:=by simp;omega
   have i1:(1:Int)<=(M:Int):=by omega
   have HRC:Hid (R=(rowP ar (((ts.drop 1).take M).drop 0) x3).bind (zom fi (.node 9 n9 m9 a9 us9))):=by show _=_;rw [HRB.out,if_pos ⟨by omega,by omega⟩];rfl
   have HKD:=hid ((HKA2.out.drop 1).take M)
   obtain ⟨tr,htr⟩:∃ l,(ts.drop 1).take M=l:=⟨_,rfl⟩
   have HTL:Hid (tr.length=M):=by show _=_;rw [<- htr,List.length_take,List.length_drop];have:=HL.out;omega
   rw [htr] at HKD HRC
   clear htr hM1
   go_wp2_with (first|(go_at_call 58;refine (zar _).mono ?_;rintro e wi ⟨rfl,hwi⟩;rw [hwi];clear hwi wi)|(go_at_call 58;refine (zak _).mono ?_;rintro e wi ⟨he,hwi⟩;rw [hwi];clear hwi;unfold zaa at he;rw [he];clear he wi))
   clear q0 q1 q2 q3 q4 y0 y1 y2 y3 y4 hwl
   go_loopw [48] (fun i wr=>∃ (q:Nat) (x:List UInt8) (v:Value),i=.int .i64 q∧q<=M∧Hid (PR wr p x d v∧x.length<=16000∧Lx.Kept p vl v wl wr)∧Hid (R=(rowP ar (tr.drop q) x).bind (zom fi (.node 9 n9 m9 a9 us9)))) (fun i _=>M - (RowKit.intOf i).toNat)
   case atStart=>exact ⟨0,x3,vl,rfl,by omega,HSL,HRC⟩
   case round =>
    obtain ⟨q,x,v,rfl,hq,HSQ,HRQ⟩:=hrel
    by_cases hlt:q<M
    · have hlt' : (q:Int)<M:=by omega
      have hq0:(0:Int)<=(q:Int):=by omega
      have hqm:(q:Int)<=1000:=by have:=HLE.out;omega
      have HQL:=hid hlt
      have HQK:Hid (q<tr.length):=by show _<_;have:=HTL.out;omega
      obtain ⟨k1,n1,m1,a1,us,o1,c1,he,hkd⟩:=HKD.out q HQK.out
      have HDR:Hid (tr.drop q=.node k1 n1 m1 a1 us::tr.drop (q+1)):=by show _=_;rw [<- he];exact zdl HQK.out
      have HKT:Hid (∀ w2,za1 p wl w2->TreeR p w2 (.node k1 n1 m1 a1 us) (zaj k1 n1 m1 a1 (.slice o1 us.length c1))):=fun w2 h2=>(hkd w2 h2).2
      have HKR:Hid (∀ w2,za1 p wl w2->KidR w2 g ((f+5)+q*5) k1 n1 m1 a1 (.slice o1 us.length c1)):=fun w2 h2=>(hkd w2 h2).1
      obtain ⟨a0,b0,c0,d0,e0⟩:=HKR.out wr (HFR2.out _ _ HSQ.out.2.2)
      obtain ⟨wb,hwb⟩:∃ x,wr.alloc (.cells #[.int .i64 k1,.string ⟨n1.toArray⟩,.int .i64 m1,.int .i64 a1,.slice o1 us.length c1] 29)=x:=⟨_,rfl⟩
      have HBB:Hid (Below wr.heap.size wr wb):=by show Below _ _ _;rw [<- hwb];exact zad _ _
      have HKB:Hid (wb.heap[wr.heap.size]?=some (za2 k1 n1 m1 a1 (.slice o1 us.length c1))):=by show _=_;rw [<- hwb];exact heap_alloc_new _ _
      obtain ⟨⟨y0,y1,y2,y3,y4⟩,_⟩:=zab HKB.out
      have HSB:=hid3 (HSQ.out.1.below HBB.out) HSQ.out.2.1 (HSQ.out.2.2.trans (Lx.Kept.of_below HBB.out))
      have HKBK:Hid (∀ v' w',Lx.Kept p v v' wb w'->w'.heap[wr.heap.size]?=some (za2 k1 n1 m1 a1 (.slice o1 us.length c1))):=boxed HSQ.out.1 HKB.out
      have HCB:Hid (Lx.Kept p v v wb wb):=Lx.Kept.of_below (Below.refl _ _)
      clear he hkd hlt
      have HRS:Hid (R=((ar (.node k1 n1 m1 a1 us) x).bind (rowP ar (tr.drop (q+1)))).bind (zom fi (.node 9 n9 m9 a9 us9))):=by show _=_;rw [HRQ.out,HDR.out];rfl
      clear HRQ HDR
      go_wp2_with fail
      refine (HAR2.out.run wb (HFR2.out _ _ HSB.out.2.2) k1 n1 m1 a1 us o1 c1 (HKT.out _ (HFR2.out _ _ HSB.out.2.2)) x v HSB.out.1 HSB.out.2.1).mono ?_
      rintro e w31 ⟨v31,hk,hQ⟩
      have HKM:=hid (HSB.out.2.2.trans hk)
      clear hk
      rcases hQ with ⟨x31,hx1,hx2,rfl,hPR⟩|⟨hx1,he⟩
      case inr =>
       have HF:Hid (R=none):=HRS.out.trans (by rw [hx1];rfl)
       clear hx1
       unfold zaa at he
       subst he
       go_wp2
       exact ⟨rfl,v31,HEND2.out _ _ HKM.out,Or.inr ⟨HF.out,rfl⟩⟩
      have HR31:Hid (R=(rowP ar (tr.drop (q+1)) x31).bind (zom fi (.node 9 n9 m9 a9 us9))):=HRS.out.trans (by rw [hx1];rfl)
      have HS31:=hid3 hPR hx2 HKM.out
      clear hx1 hx2 hPR a0 b0 c0 d0 e0 y0 y1 y2 y3 y4 hwb
      go_wp2
      go_roundw
      case rel=>exact ⟨q+1,x31,v31,by go_num,HQL.out,HS31,HR31⟩
      case measure=>have:=HQL.out;simp [RowKit.intOf];omega
    · have hqe:q=M:=by omega
      subst hqe
      have hlt2:¬ (q:Int)<q:=by omega
      have HRA:Hid (R=zom fi (.node 9 n9 m9 a9 us9) x):=by show _=_;rw [HRQ.out,List.drop_of_length_le (by have:=HTL.out;omega)];rfl
      clear HRQ
      have HN9:=hid ((zay (HT9.out _ (HFR2.out _ _ HSQ.out.2.2))).1)
      have HMK:Hid (∀ w,Calls Tryz.prog 59 #[zaj 9 n9 m9 a9 (.slice o9 l9 c9),.bool false,.int .i64 1,.int .i64 1] w (zb6 (zaw n9 false&&zan l9 m9 1 1) w)):=fun w=>zc3 9 n9 m9 a9 o9 l9 c9 1 1 w (by have hn:=HN9.out;unfold maxLen at hn;omega)
      unfold zaj at HMK
      obtain ⟨⟨y0,y1,y2,y3,y4⟩,_⟩:=zab (HLB.out _ _ HSQ.out.2.2)
      go_wp2_with fail
      refine (HMK.out _).mono ?_
      rintro e w51 ⟨hB,hq⟩
      have HKM:=hid (HSQ.out.2.2.trans (Lx.Kept.of_below hB))
      have HPM:=hid (HSQ.out.1.below hB)
      clear hB
      rcases hq with ⟨hq,rfl⟩|⟨hq,he⟩
      case inr =>
       have HF:Hid (R=none):=by
        show _=_
        rw [HRA.out];rw [zol HL9.out rfl];rw [hq];rfl
       clear hq
       unfold zaa at he
       subst he
       go_wp2
       exact ⟨rfl,v,HEND2.out _ _ HKM.out,Or.inr ⟨HF.out,rfl⟩⟩
      have HR51:Hid (R=(layP [[100,101,102,97,117,108,116],[58]] x).bind fun x=>(fi (us9.getD 0 zby) x).bind (layP [[125]])):=by
       show _=_
       rw [HRA.out];rw [zol HL9.out rfl];rw [hq];rfl
      have HQ51:Hid ((zaw n9 false&&zan l9 m9 1 1)=true):=hq
      have HS51:=hid3 HPM.out HSQ.out.2.1 HKM.out
      clear hq y0 y1 y2 y3 y4
      have hl9:l9=1:=by
       have:=HQ51.out
       unfold zan at this
       simp at this
       omega
      clear HQ51 HMK
      subst hl9
      obtain ⟨g2,f2,ho2,hg2,hk2⟩:=zlr (HT9.out wl (fun _ _=>rfl)) (by have:=HL9.out;omega)
      subst ho2
      obtain ⟨k3,n3,m3,a3,us3,o3,c3,he3,hkd3⟩:=hk2 0 (by have:=HL9.out;omega)
      have HRv:Hid (R=(layP [[100,101,102,97,117,108,116],[58]] x).bind fun x=>(fi (.node k3 n3 m3 a3 us3) x).bind (layP [[125]])):=by show _=_;rw [HR51.out,he3]
      have HKW3:Hid (∀ w2,za1 p wl w2->KidR w2 g2 (f2+0*5) k3 n3 m3 a3 (.slice o3 us3.length c3)∧TreeR p w2 (.node k3 n3 m3 a3 us3) (zaj k3 n3 m3 a3 (.slice o3 us3.length c3))):=hkd3
      clear hk2 hg2 he3 hkd3
      go_wp2_with fail
      refine (za7 p [[100,101,102,97,117,108,116],[58]] _ rfl (by intro t ht;simp only [List.mem_cons,List.not_mem_nil,or_false] at ht;rcases ht with rfl|rfl <;> first|exact HN.out|exact HOP.out|exact HSH.out|exact ⟨by decide,by decide⟩) (by simp) 2 rfl x d v w51 HS51.out.1 HS51.out.2.1).mono ?_
      rintro e w52 ⟨v52,hk,hQ⟩
      have HKM:=hid (HS51.out.2.2.trans hk)
      clear hk
      rcases hQ with ⟨x52,hx1,hx2,rfl,hPR⟩|⟨hx1,he⟩
      case inr =>
       have HF:Hid (R=none):=HRv.out.trans (by rw [hx1];rfl)
       clear hx1
       unfold zaa at he
       subst he
       go_wp2
       exact ⟨rfl,v52,HEND2.out _ _ HKM.out,Or.inr ⟨HF.out,rfl⟩⟩
      have HR52:Hid (R=(fi (.node k3 n3 m3 a3 us3) x52).bind (layP [[125]])):=HRv.out.trans (by rw [hx1];rfl)
      have HS52:=hid3 hPR hx2 HKM.out
      clear hx1 hx2 hPR 
      obtain ⟨⟨y0,y1,y2,y3,y4⟩,_⟩:=zab (HLB.out _ _ HS52.out.2.2)
      clear y0 y1 y2 y3
      obtain ⟨q0,q1,q2,q3,q4⟩:=(HKW3.out _ (HFR2.out _ _ HS52.out.2.2)).1
      simp only [Nat.zero_mul,Nat.add_zero] at q0 q1 q2 q3 q4
      go_wp2_with fail
      refine (HFI2.out.run w52 (HFR2.out _ _ HS52.out.2.2) k3 n3 m3 a3 us3 o3 c3 (HKW3.out _ (HFR2.out _ _ HS52.out.2.2)).2 x52 v52 HS52.out.1 HS52.out.2.1).mono ?_
      rintro e w53 ⟨v53,hk,hQ⟩
      have HKM:=hid (HS52.out.2.2.trans hk)
      clear hk
      rcases hQ with ⟨x53,hx1,hx2,rfl,hPR⟩|⟨hx1,he⟩
      case inr =>
       have HF:Hid (R=none):=HR52.out.trans (by rw [hx1];rfl)
       clear hx1
       unfold zaa at he
       subst he
       go_wp2
       exact ⟨rfl,v53,HEND2.out _ _ HKM.out,Or.inr ⟨HF.out,rfl⟩⟩
      have HR53:Hid (R=layP [[125]] x53):=HR52.out.trans (by rw [hx1];rfl)
      have HS53:=hid3 hPR hx2 HKM.out
      clear hx1 hx2 hPR y4 q0 q1 q2 q3 q4
      go_wp2_with fail
      refine (za7 p [[125]] _ rfl (by intro t ht;simp only [List.mem_cons,List.not_mem_nil,or_false] at ht;rcases ht with rfl <;> first|exact HN.out|exact HOP.out|exact HSH.out|exact ⟨by decide,by decide⟩) (by simp) 1 rfl x53 d v53 w53 HS53.out.1 HS53.out.2.1).mono ?_
      rintro e w54 ⟨v54,hk,hQ⟩
      have HKM:=hid (HS53.out.2.2.trans hk)
      clear hk
      rcases hQ with ⟨x54,hx1,hx2,rfl,hPR⟩|⟨hx1,he⟩
      case inr =>
       have HF:Hid (R=none):=HR53.out.trans (by rw [hx1])
       clear hx1
       unfold zaa at he
       subst he
       go_wp2
       exact ⟨rfl,v54,HEND2.out _ _ HKM.out,Or.inr ⟨HF.out,rfl⟩⟩
      have HR54:Hid (R=some x54):=HR53.out.trans (by rw [hx1])
      have HS54:=hid3 hPR hx2 HKM.out
      clear hx1 hx2 hPR 
      go_wp2
      first|go_end0|refine bodyPost_ret (results_none rfl _ _ _) rfl ?_
      exact ⟨v54,HEND2.out _ _ HS54.out.2.2,Or.inl ⟨x54,HR54.out,HS54.out.2.1,rfl,HS54.out.1⟩⟩
 · have j9:(k9==9)=false:=by simp [h9]
   have HRB:Hid (R=if M+1<=64 then (rowP ar (ts.drop 1) x3).bind (layP [[125]]) else none):=by show _=_;rw [HRL.out,if_neg h9]
   clear h9
   by_cases hM1:M=64
   · subst hM1
     have HF:Hid (R=none):=HRB.out
     go_wp2_with (first|(go_at_call 58;refine (zar _).mono ?_;rintro e wi ⟨rfl,hwi⟩;rw [hwi];clear hwi wi)|(go_at_call 58;refine (zak _).mono ?_;rintro e wi ⟨he,hwi⟩;rw [hwi];clear hwi;unfold zaa at he;rw [he];clear he wi))
     exact ⟨rfl,vl,HEND2.out _ _ HSL.out.2.2,Or.inr ⟨HF.out,rfl⟩⟩
   have j1:decide ((1:Int)<=(M:Int)+1)=true:=by simp;omega
   have j2:decide ((M:Int)+1<=64)=true:=by simp;omega
   have i1:(M:Int)+1<=64:=by omega
   have HRC:Hid (R=(rowP ar ((ts.drop 1).drop 0) x3).bind (layP [[125]])):=by show _=_;rw [HRB.out,if_pos (by omega)];rfl
   have HKD:=hid (HKA2.out.drop 1)
   obtain ⟨tr,htr⟩:∃ l,ts.drop 1=l:=⟨_,rfl⟩
   have HTL:Hid (tr.length=M+1):=by show _=_;rw [<- htr,List.length_drop];have:=HL.out;omega
   rw [htr] at HKD HRC
   clear htr hM1
   go_wp2_with (first|(go_at_call 58;refine (zar _).mono ?_;rintro e wi ⟨rfl,hwi⟩;rw [hwi];clear hwi wi)|(go_at_call 58;refine (zak _).mono ?_;rintro e wi ⟨he,hwi⟩;rw [hwi];clear hwi;unfold zaa at he;rw [he];clear he wi))
   clear q0 q1 q2 q3 q4 y0 y1 y2 y3 y4 hwl
   go_loopw [48] (fun i wr=>∃ (q:Nat) (x:List UInt8) (v:Value),i=.int .i64 q∧q<=(M+1)∧Hid (PR wr p x d v∧x.length<=16000∧Lx.Kept p vl v wl wr)∧Hid (R=(rowP ar (tr.drop q) x).bind (layP [[125]]))) (fun i _=>(M+1) - (RowKit.intOf i).toNat)
   case atStart=>exact ⟨0,x3,vl,rfl,by omega,HSL,HRC⟩
   case round =>
    obtain ⟨q,x,v,rfl,hq,HSQ,HRQ⟩:=hrel
    by_cases hlt:q<(M+1)
    · have hlt' : (q:Int)<(M+1):=by omega
      have hq0:(0:Int)<=(q:Int):=by omega
      have hqm:(q:Int)<=1000:=by have:=HLE.out;omega
      have HQL:=hid hlt
      have HQK:Hid (q<tr.length):=by show _<_;have:=HTL.out;omega
      obtain ⟨k1,n1,m1,a1,us,o1,c1,he,hkd⟩:=HKD.out q HQK.out
      have HDR:Hid (tr.drop q=.node k1 n1 m1 a1 us::tr.drop (q+1)):=by show _=_;rw [<- he];exact zdl HQK.out
      have HKT:Hid (∀ w2,za1 p wl w2->TreeR p w2 (.node k1 n1 m1 a1 us) (zaj k1 n1 m1 a1 (.slice o1 us.length c1))):=fun w2 h2=>(hkd w2 h2).2
      have HKR:Hid (∀ w2,za1 p wl w2->KidR w2 g ((f+5)+q*5) k1 n1 m1 a1 (.slice o1 us.length c1)):=fun w2 h2=>(hkd w2 h2).1
      obtain ⟨a0,b0,c0,d0,e0⟩:=HKR.out wr (HFR2.out _ _ HSQ.out.2.2)
      obtain ⟨wb,hwb⟩:∃ x,wr.alloc (.cells #[.int .i64 k1,.string ⟨n1.toArray⟩,.int .i64 m1,.int .i64 a1,.slice o1 us.length c1] 29)=x:=⟨_,rfl⟩
      have HBB:Hid (Below wr.heap.size wr wb):=by show Below _ _ _;rw [<- hwb];exact zad _ _
      have HKB:Hid (wb.heap[wr.heap.size]?=some (za2 k1 n1 m1 a1 (.slice o1 us.length c1))):=by show _=_;rw [<- hwb];exact heap_alloc_new _ _
      obtain ⟨⟨y0,y1,y2,y3,y4⟩,_⟩:=zab HKB.out
      have HSB:=hid3 (HSQ.out.1.below HBB.out) HSQ.out.2.1 (HSQ.out.2.2.trans (Lx.Kept.of_below HBB.out))
      have HKBK:Hid (∀ v' w',Lx.Kept p v v' wb w'->w'.heap[wr.heap.size]?=some (za2 k1 n1 m1 a1 (.slice o1 us.length c1))):=boxed HSQ.out.1 HKB.out
      have HCB:Hid (Lx.Kept p v v wb wb):=Lx.Kept.of_below (Below.refl _ _)
      clear he hkd hlt
      have HRS:Hid (R=((ar (.node k1 n1 m1 a1 us) x).bind (rowP ar (tr.drop (q+1)))).bind (layP [[125]])):=by show _=_;rw [HRQ.out,HDR.out];rfl
      clear HRQ HDR
      go_wp2_with fail
      refine (HAR2.out.run wb (HFR2.out _ _ HSB.out.2.2) k1 n1 m1 a1 us o1 c1 (HKT.out _ (HFR2.out _ _ HSB.out.2.2)) x v HSB.out.1 HSB.out.2.1).mono ?_
      rintro e w31 ⟨v31,hk,hQ⟩
      have HKM:=hid (HSB.out.2.2.trans hk)
      clear hk
      rcases hQ with ⟨x31,hx1,hx2,rfl,hPR⟩|⟨hx1,he⟩
      case inr =>
       have HF:Hid (R=none):=HRS.out.trans (by rw [hx1];rfl)
       clear hx1
       unfold zaa at he
       subst he
       go_wp2
       exact ⟨rfl,v31,HEND2.out _ _ HKM.out,Or.inr ⟨HF.out,rfl⟩⟩
      have HR31:Hid (R=(rowP ar (tr.drop (q+1)) x31).bind (layP [[125]])):=HRS.out.trans (by rw [hx1];rfl)
      have HS31:=hid3 hPR hx2 HKM.out
      clear hx1 hx2 hPR a0 b0 c0 d0 e0 y0 y1 y2 y3 y4 hwb
      go_wp2
      go_roundw
      case rel=>exact ⟨q+1,x31,v31,by go_num,HQL.out,HS31,HR31⟩
      case measure=>have:=HQL.out;simp [RowKit.intOf];omega
    · have hqe:q=(M+1):=by omega
      subst hqe
      have hlt2:¬ ((M:Int)+1)<(M:Int)+1:=by omega
      have HRA:Hid (R=layP [[125]] x):=by show _=_;rw [HRQ.out,List.drop_of_length_le (by have:=HTL.out;omega)];rfl
      clear HRQ
      go_wp2_with fail
      refine (za7 p [[125]] _ rfl (by intro t ht;simp only [List.mem_cons,List.not_mem_nil,or_false] at ht;rcases ht with rfl <;> first|exact HN.out|exact HOP.out|exact HSH.out|exact ⟨by decide,by decide⟩) (by simp) 1 rfl x d v wr HSQ.out.1 HSQ.out.2.1).mono ?_
      rintro e w51 ⟨v51,hk,hQ⟩
      have HKM:=hid (HSQ.out.2.2.trans hk)
      clear hk
      rcases hQ with ⟨x51,hx1,hx2,rfl,hPR⟩|⟨hx1,he⟩
      case inr =>
       have HF:Hid (R=none):=HRA.out.trans (by rw [hx1])
       clear hx1
       unfold zaa at he
       subst he
       go_wp2
       exact ⟨rfl,v51,HEND2.out _ _ HKM.out,Or.inr ⟨HF.out,rfl⟩⟩
      have HR51:Hid (R=some x51):=HRA.out.trans (by rw [hx1])
      have HS51:=hid3 hPR hx2 HKM.out
      clear hx1 hx2 hPR 
      go_wp2
      first|go_end0|refine bodyPost_ret (results_none rfl _ _ _) rfl ?_
      exact ⟨v51,HEND2.out _ _ HS51.out.2.2,Or.inl ⟨x51,HR51.out,HS51.out.2.1,rfl,HS51.out.1⟩⟩
end Go.Proofs.YtodfklpmbclgkaaGreatDoor.Pr
