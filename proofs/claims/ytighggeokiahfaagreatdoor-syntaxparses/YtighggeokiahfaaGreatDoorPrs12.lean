import Derived.Test.YtighggeokiahfaaGreatDoorPrs11
set_option maxRecDepth 4000
set_option maxHeartbeats 20000000
namespace Go.Proofs.YtighggeokiahfaaGreatDoor.Dm
open Go.RowKit
theorem bld3 (a:Int) (w:World):(Instr.build 29 #[(3,.int .i64 a)]).run Tryz.prog w=.ok (.agg #[.int .i64 0,.string ⟨#[]⟩,.int .i64 0,.int .i64 a,.slice none 0 0]) w:=by kernel_rfl
def bareR (s:RS) (b:Bool):Tree × RS:=
 if s.e==0&&b then
  if s.hd.kind==1 then (.node 27 s.hd.text 0 s.hd.at_ [],s.adv)
  else if s.hd.text==zbh then
   if s.adv.is wInt then (.node 19 [] 0 s.hd.at_ [],s.adv.adv) else (.node 21 [] 0 s.hd.at_ [],s.adv.want ze8)
  else (.node (baseD s.hd.text) [] 0 s.hd.at_ [],s.adv)
 else (.node 0 [] 0 s.hd.at_ [],s.fail 40)
theorem zga (p g cap:Nat) (ts:List Tok) (hE:Ends ts) (d:Int) (s:RS) (w:World) (h:DS w p g cap ts d s):
 Calls Tryz.prog 125 #[.pointer (some ⟨p,0,none⟩)] w (zdh p g cap ts d (treeIs w.heap.size) (zed s) w):=by
 rw [show zed s=bareR s s.begins from rfl];have Aa:Hid (p<w.heap.size∧g<w.heap.size):=⟨h.plt,h.glt⟩;obtain ⟨R,hR⟩:∃ R,bareR s s.begins=R:=⟨_,rfl⟩;rw [hR];have HR:=hid (hR.symm);obtain ⟨wa,hwa⟩:∃ x,w.alloc (.cells #[.int .i64 0,.string ⟨#[]⟩,.int .i64 0,.int .i64 0,.slice none 0 0] 29)=x:=⟨_,rfl⟩;have HB:Hid (Below w.heap.size w wa):=hidB hwa;have HK:Hid (Kep w wa w.heap.size (kidO 0 [] 0 0 (.slice none 0 0))):=by show Kep _ _ _ _;rw [<- hwa];exact Kep.new (Nat.le_refl _) _
 have HD:=hid (h.below HB.out);clear h hR;have HS:Hid (Sole p w wa):=Sole.of_below HB.out;obtain ⟨i,hi,h1,hh,hs⟩:=HD.out.at_;have Ak:Hid (DP wa p g cap ts i d s.e s.pl∧s.hd=ts[i]∧s.ts=ts.drop i):=⟨h1,hh,hs⟩;have Bb:Hid ((i:Int)<=16001):=by show _<=_;have:=h1.ln;omega
 have hl:=h1.look hi;obtain ⟨E0,hE0⟩:∃ x,s.e=x:=⟨_,rfl⟩;obtain ⟨K,hK⟩:∃ x,ts[i].kind=x:=⟨_,rfl⟩;obtain ⟨M,hM⟩:∃ x,ts[i].num=x:=⟨_,rfl⟩;obtain ⟨A,hA⟩:∃ x,ts[i].at_=x:=⟨_,rfl⟩;obtain ⟨S,hS⟩:∃ x,ts[i].text=x:=⟨_,rfl⟩;rw [hE0,hK,hM,hA,hS] at hl;have HF:Hid (s.e=E0∧s.hd.kind=K∧s.hd.num=M∧s.hd.at_=A∧s.hd.text=S):=⟨hE0,by rw [hh];exact hK,by rw [hh];exact hM,by rw [hh];exact hA,by rw [hh];exact hS⟩;clear hE0 hK hM hA hS hh hs h1;obtain ⟨hp,hg,hi',c0,c1,c3,t0,t1,t2,t3,f1⟩:=hl;have c1x:∀ x,(wa.alloc x).cell? ⟨p,1,none⟩=some (.int .i64 i):=fun x=>by rw [World.cell?_alloc_lt _ _ _ hp];exact c1
 have c3x:∀ x,(wa.alloc x).cell? ⟨p,3,none⟩=some (.int .i64 E0):=fun x=>by rw [World.cell?_alloc_lt _ _ _ hp];exact c3
 have f1x:∀ x,(wa.alloc x).frozen? ⟨p,1,none⟩=false:=fun x=>by rw [World.frozen?_alloc_old _ _ _ (Nat.ne_of_lt hp)];exact f1
 have Be:Hid (∀ x k,Below wa.heap.size wa ((wa.alloc x).drewN k)):=fun x k=>zad (zab wa x) k;have hne:¬ p=wa.heap.size:=by omega
 have hne2:¬ wa.heap.size=p:=by omega
 have him:=Bb.out;obtain ⟨BG,hBG⟩:∃ x,s.begins=x:=⟨_,rfl⟩;have Am:=hid hBG;rw [hBG] at HR;clear hBG;have q3:=bld3;have Ax:Hid (BG=true->s.hd.kind≠5∨s.hd.text≠[]):=fun h=>Or.inl (by
  intro h5;have:=Am.out;unfold RS.begins at this;rw [h5,h] at this;revert this
  simp)
 obtain ⟨sb,hsb⟩:∃ y:ByteArray,(⟨S.toArray⟩:ByteArray)=y:=⟨_,rfl⟩;have Aq:Hid (sb=⟨S.toArray⟩∧sb.toList=S):=⟨hsb.symm,by rw [<- hsb,ByteArray.toList_mk]⟩;rw [hsb] at t1;clear hsb;by_cases he:E0=0
 case neg =>
  have Ai:Hid (R=(.node 0 [] 0 A [],s.fail 40)):=by
   show _=_;rw [HR.out];unfold bareR;rw [HF.out.1,HF.out.2.2.2.1,show (E0==0)=false by simp [he]];rfl
  go_enter Tryz.func125,Tryz.ntmps125
  go_wp2_with fail
  clear hwa;go_region;all_goals (
   go_wp2_with fail
   refine (ze4 p g cap ts d s _ (HD.out.below (zcv wa _ _ 1))).mono ?_;rintro e w1 ⟨rfl,hB⟩;have Ac:Hid (w1.heap[wa.heap.size]?=some (.cells #[.int .i64 K,.string sb,.int .i64 M,.int .i64 A] 41 (0,0))∧w1.heap[wa.heap.size+1]?=some (kidO 0 [] 0 A (.slice none 0 0))):=⟨zaj hB (zgd wa _ _ 1).1,zaj hB (zgd wa _ _ 1).2⟩;have Ab:Hid (Below wa.heap.size wa w1):=(zcv wa _ _ 1).trans (hB.mono (zcv wa _ _ 1).size);have Af:=hid (HK.out.below Ab.out);have Aj:=hid (HS.out.trans (Sole.of_below Ab.out));have An:=hid (HD.out.below Ab.out);have Ae:Hid (Kep w w1 (wa.heap.size+1) (kidO 0 [] 0 A (.slice none 0 0))):=⟨Ac.out.2,Nat.le_trans HS.out.size (by omega)⟩;have Ag:=hid (Ak.out.1.below Ab.out);rw [Am.out];clear hB;obtain ⟨⟨_,_,_,p3,_⟩,_⟩:=zb4 Ag.out.blk;rw [HF.out.1] at p3;go_wp2_with fail
   refine (zbs p g cap ts d 40 s _ An.out).mono ?_;rintro e w2 ⟨rfl,hD,hS⟩;have Ao:=hid hD;have Ap:=hid (Aj.out.trans hS);have Ah:=hid (Af.out.sole Aa.out.1 hS);have Ad:=hid (Ae.out.sole Aa.out.1 hS);clear hD hS;obtain ⟨⟨x0,x1,x2,x3,x4⟩,_⟩:=zaa Ad.out.1;obtain ⟨⟨z0,z1,z2,z3,z4⟩,⟨y0,y1,y2,y3,y4⟩⟩:=zaa Ah.out.1;go_wp2;refine ret5 (n:=[]) z0 z1 z2 z3 z4 rfl (fun u q0 q1 q2 q3 q4=>by simp [results,Tryz.results125,go_sem,q0,q1,q2,q3,q4]) Ah.out.2 Ap.out ?_;intro wz hf;rw [Ai.out];have hr2:=Ah.out.2;have hpg:=Aa.out;exact ⟨_,rfl,zff,Ao.out.but (by omega) (by omega) hf.2,hf.1⟩)
 subst he;cases BG with
 | false =>
  have Ai:Hid (R=(.node 0 [] 0 A [],s.fail 40)):=by
   show _=_;rw [HR.out];unfold bareR;rw [HF.out.2.2.2.1];simp
  go_enter Tryz.func125,Tryz.ntmps125
  go_wp2_with fail
  clear hwa;go_region;all_goals (
   go_wp2_with fail
   refine (ze4 p g cap ts d s _ (HD.out.below (zcv wa _ _ 1))).mono ?_;rintro e w1 ⟨rfl,hB⟩;have Ac:Hid (w1.heap[wa.heap.size]?=some (.cells #[.int .i64 K,.string sb,.int .i64 M,.int .i64 A] 41 (0,0))∧w1.heap[wa.heap.size+1]?=some (kidO 0 [] 0 A (.slice none 0 0))):=⟨zaj hB (zgd wa _ _ 1).1,zaj hB (zgd wa _ _ 1).2⟩;have Ab:Hid (Below wa.heap.size wa w1):=(zcv wa _ _ 1).trans (hB.mono (zcv wa _ _ 1).size);have Af:=hid (HK.out.below Ab.out);have Aj:=hid (HS.out.trans (Sole.of_below Ab.out));have An:=hid (HD.out.below Ab.out);have Ae:Hid (Kep w w1 (wa.heap.size+1) (kidO 0 [] 0 A (.slice none 0 0))):=⟨Ac.out.2,Nat.le_trans HS.out.size (by omega)⟩;have Ag:=hid (Ak.out.1.below Ab.out);rw [Am.out];clear hB;obtain ⟨⟨_,_,_,p3,_⟩,_⟩:=zb4 Ag.out.blk;rw [HF.out.1] at p3;go_wp2_with fail
   refine (zbs p g cap ts d 40 s _ An.out).mono ?_;rintro e w2 ⟨rfl,hD,hS⟩;have Ao:=hid hD;have Ap:=hid (Aj.out.trans hS);have Ah:=hid (Af.out.sole Aa.out.1 hS);have Ad:=hid (Ae.out.sole Aa.out.1 hS);clear hD hS;obtain ⟨⟨x0,x1,x2,x3,x4⟩,_⟩:=zaa Ad.out.1;obtain ⟨⟨z0,z1,z2,z3,z4⟩,⟨y0,y1,y2,y3,y4⟩⟩:=zaa Ah.out.1;go_wp2;refine ret5 (n:=[]) z0 z1 z2 z3 z4 rfl (fun u q0 q1 q2 q3 q4=>by simp [results,Tryz.results125,go_sem,q0,q1,q2,q3,q4]) Ah.out.2 Ap.out ?_;intro wz hf;rw [Ai.out];have hr2:=Ah.out.2;have hpg:=Aa.out;exact ⟨_,rfl,zff,Ao.out.but (by omega) (by omega) hf.2,hf.1⟩)
 | true =>
  have Ay:Hid (R=if K==1 then (.node 27 S 0 A [],s.adv) else if S==zbh then
    (if s.adv.is wInt then (.node 19 [] 0 A [],s.adv.adv) else (.node 21 [] 0 A [],s.adv.want ze8))
   else (.node (baseD S) [] 0 A [],s.adv)):=by
   show _=_;rw [HR.out];unfold bareR;rw [HF.out.1,HF.out.2.1,HF.out.2.2.2.1,HF.out.2.2.2.2];rfl
  have Ar:=hid (Ax.out rfl);clear Ax;by_cases hk:K=1
  case pos =>
   subst hk;have Ai:=hid (Ay.out);go_enter Tryz.func125,Tryz.ntmps125
   go_wp2_with fail
   clear hwa;go_region;all_goals (
    (go_wp2_with fail);refine (ze4 p g cap ts d s _ (HD.out.below (zcv wa _ _ 1))).mono ?_;rintro e w1 ⟨rfl,hB⟩;have Ac:Hid (w1.heap[wa.heap.size]?=some (.cells #[.int .i64 1,.string sb,.int .i64 M,.int .i64 A] 41 (0,0))∧w1.heap[wa.heap.size+1]?=some (kidO 0 [] 0 A (.slice none 0 0))):=⟨zaj hB (zgd wa _ _ 1).1,zaj hB (zgd wa _ _ 1).2⟩;have Ab:Hid (Below wa.heap.size wa w1):=(zcv wa _ _ 1).trans (hB.mono (zcv wa _ _ 1).size);have Af:=hid (HK.out.below Ab.out);have Aj:=hid (HS.out.trans (Sole.of_below Ab.out));have An:=hid (HD.out.below Ab.out);have Ae:Hid (Kep w w1 (wa.heap.size+1) (kidO 0 [] 0 A (.slice none 0 0))):=⟨Ac.out.2,Nat.le_trans HS.out.size (by omega)⟩;have Ag:=hid (Ak.out.1.below Ab.out);rw [Am.out];clear hB;obtain ⟨⟨_,p1,_,p3,_⟩,g1,_⟩:=zb4 Ag.out.blk;rw [HF.out.1] at p3;obtain ⟨⟨x0,x1,x2,x3,x4⟩,⟨v0,v1,v2,v3,v4⟩⟩:=zaa Ac.out.2;have u0:w1.cell? ⟨wa.heap.size,0,none⟩=some (.int .i64 1):=(by simp [World.cell?,Ac.out.1]);have u1:w1.cell? ⟨wa.heap.size,1,none⟩=some (.string sb):=(by simp [World.cell?,Ac.out.1]);obtain ⟨⟨z0,z1,z2,z3,z4⟩,⟨y0,y1,y2,y3,y4⟩⟩:=zaa Af.out.1;have hn1:¬ p=wa.heap.size+1:=(by omega);have hn2:¬ wa.heap.size+1=p:=(by omega);have hlt:=HK.out.lt;have hn3:¬ w.heap.size=p:=(by have:=Aa.out.1;omega);have hn4:¬ p=w.heap.size:=(by have:=Aa.out.1;omega);have hn5:¬ w.heap.size=wa.heap.size+1:=(by omega);have hn6:¬ wa.heap.size+1=w.heap.size:=(by omega);go_wp2;obtain ⟨hsb,_⟩:=Aq.out;subst hsb;obtain ⟨w9,hw9⟩:∃ x,((w1.setCell ⟨p,1,none⟩ (.int .i64 ((i:Int)+1))).setCell ⟨wa.heap.size+1,0,none⟩ (.int .i64 27)).setCell ⟨wa.heap.size+1,1,none⟩ (.string ⟨S.toArray⟩)=x:=⟨_,rfl⟩;rw [hw9];have Al:Hid (Kep w w9 w.heap.size (kidO 0 [] 0 0 (.slice none 0 0))∧DS w9 p g cap ts d s.adv∧Sole p w w9):=by
     show _∧_;rw [<- hw9];have st:=DS.step hE Ag.out Ak.out.2.2 Ar.out (Sole.refl p w1) rfl;have hh:=Aa.out;exact ⟨zcj (zcj (Af.out.sole Aa.out.1 (Sole.setCell w1 1 _)) hn5 _ _) hn5 _ _,(st.1.set (by omega) (by omega) _ _).set (by omega) (by omega) _ _,Sole.set (Sole.set (Aj.out.trans st.2) (by omega) _ _) (by omega) _ _⟩
    clear hw9;obtain ⟨⟨z0,z1,z2,z3,z4⟩,⟨y0,y1,y2,y3,y4⟩⟩:=zaa Al.out.1.1;refine ret5 z0 z1 z2 z3 z4 rfl (fun u q0 q1 q2 q3 q4=>by simp [results,Tryz.results125,go_sem,q0,q1,q2,q3,q4]) (Nat.le_refl _) Al.out.2.2 ?_;intro wz hf;rw [Ai.out];have hpg:=Aa.out;exact ⟨_,rfl,zff,Al.out.2.1.but hpg.1 hpg.2 hf.2,hf.1⟩)
  have hkb:(K==1)=false:=by simp [hk]
  obtain ⟨Z,hZ⟩:∃ x,baseD S=x:=⟨_,rfl⟩;have Az:Hid (∀ w,Calls Tryz.prog 153 #[.string sb] w fun e w'=>e=.returned (.int .i64 Z)∧w'=w):=fun w=>by rw [Aq.out.1,<- hZ];exact base_any S w
  have Ba:Hid (R=if S==zbh then (if s.adv.is wInt then (.node 19 [] 0 A [],s.adv.adv) else (.node 21 [] 0 A [],s.adv.want ze8)) else (.node Z [] 0 A [],s.adv)):=by
   show _=_;rw [Ay.out,hkb,hZ];rfl
  clear hZ;cases hu:(sb.toList==[117,110,115,105,103,110,101,100]) with
  | false =>
   have Ai:Hid (R=(.node Z [] 0 A [],s.adv)):=by
    show _=_;rw [Ba.out];rw [Aq.out.2] at hu;rw [show (S==zbh)=false from hu];rfl
   go_enter Tryz.func125,Tryz.ntmps125
   go_wp2_with fail
   clear hwa;go_region;all_goals (
    (go_wp2_with fail);refine (ze4 p g cap ts d s _ (HD.out.below (zcv wa _ _ 1))).mono ?_;rintro e w1 ⟨rfl,hB⟩;have Ac:Hid (w1.heap[wa.heap.size]?=some (.cells #[.int .i64 K,.string sb,.int .i64 M,.int .i64 A] 41 (0,0))∧w1.heap[wa.heap.size+1]?=some (kidO 0 [] 0 A (.slice none 0 0))):=⟨zaj hB (zgd wa _ _ 1).1,zaj hB (zgd wa _ _ 1).2⟩;have Ab:Hid (Below wa.heap.size wa w1):=(zcv wa _ _ 1).trans (hB.mono (zcv wa _ _ 1).size);have Af:=hid (HK.out.below Ab.out);have Aj:=hid (HS.out.trans (Sole.of_below Ab.out));have An:=hid (HD.out.below Ab.out);have Ae:Hid (Kep w w1 (wa.heap.size+1) (kidO 0 [] 0 A (.slice none 0 0))):=⟨Ac.out.2,Nat.le_trans HS.out.size (by omega)⟩;have Ag:=hid (Ak.out.1.below Ab.out);rw [Am.out];clear hB;obtain ⟨⟨_,p1,_,p3,_⟩,g1,_⟩:=zb4 Ag.out.blk;rw [HF.out.1] at p3;obtain ⟨⟨x0,x1,x2,x3,x4⟩,⟨v0,v1,v2,v3,v4⟩⟩:=zaa Ac.out.2;have u0:w1.cell? ⟨wa.heap.size,0,none⟩=some (.int .i64 K):=(by simp [World.cell?,Ac.out.1]);have u1:w1.cell? ⟨wa.heap.size,1,none⟩=some (.string sb):=(by simp [World.cell?,Ac.out.1]);obtain ⟨⟨z0,z1,z2,z3,z4⟩,⟨y0,y1,y2,y3,y4⟩⟩:=zaa Af.out.1;have hn1:¬ p=wa.heap.size+1:=(by omega);have hn2:¬ wa.heap.size+1=p:=(by omega);have hlt:=HK.out.lt;have hn3:¬ w.heap.size=p:=(by have:=Aa.out.1;omega);have hn4:¬ p=w.heap.size:=(by have:=Aa.out.1;omega);have hn5:¬ w.heap.size=wa.heap.size+1:=(by omega);have hn6:¬ wa.heap.size+1=w.heap.size:=(by omega);(go_wp2_with fail);refine (Az.out _).mono ?_;rintro e w3 ⟨rfl,hw3⟩;rw [hw3];clear hw3 w3;go_wp2;obtain ⟨w9,hw9⟩:∃ x,(w1.setCell ⟨p,1,none⟩ (.int .i64 ((i:Int)+1))).setCell ⟨wa.heap.size+1,0,none⟩ (.int .i64 Z)=x:=⟨_,rfl⟩;rw [hw9];have Al:Hid (Kep w w9 w.heap.size (kidO 0 [] 0 0 (.slice none 0 0))∧DS w9 p g cap ts d s.adv∧Sole p w w9):=by
     show _∧_;rw [<- hw9];have st:=DS.step hE Ag.out Ak.out.2.2 Ar.out (Sole.refl p w1) rfl;have hh:=Aa.out;exact ⟨zcj (Af.out.sole Aa.out.1 (Sole.setCell w1 1 _)) hn5 _ _,st.1.set (by omega) (by omega) _ _,Sole.set (Aj.out.trans st.2) (by omega) _ _⟩
    clear hw9;obtain ⟨⟨z0,z1,z2,z3,z4⟩,⟨y0,y1,y2,y3,y4⟩⟩:=zaa Al.out.1.1;refine ret5 (n:=[]) z0 z1 z2 z3 z4 rfl (fun u q0 q1 q2 q3 q4=>by simp [results,Tryz.results125,go_sem,q0,q1,q2,q3,q4]) (Nat.le_refl _) Al.out.2.2 ?_;intro wz hf;rw [Ai.out];have hpg:=Aa.out;exact ⟨_,rfl,zff,Al.out.2.1.but hpg.1 hpg.2 hf.2,hf.1⟩)
  | true =>
   have Ai:Hid (R=if s.adv.is wInt then (.node 19 [] 0 A [],s.adv.adv) else (.node 21 [] 0 A [],s.adv.want ze8)):=by
    show _=_;rw [Ba.out];rw [Aq.out.2] at hu;rw [show (S==zbh)=true from hu];rfl
   go_enter Tryz.func125,Tryz.ntmps125
   go_wp2_with fail
   clear hwa;go_region;all_goals (
    (go_wp2_with fail);refine (ze4 p g cap ts d s _ (HD.out.below (zcv wa _ _ 1))).mono ?_;rintro e w1 ⟨rfl,hB⟩;have Ac:Hid (w1.heap[wa.heap.size]?=some (.cells #[.int .i64 K,.string sb,.int .i64 M,.int .i64 A] 41 (0,0))∧w1.heap[wa.heap.size+1]?=some (kidO 0 [] 0 A (.slice none 0 0))):=⟨zaj hB (zgd wa _ _ 1).1,zaj hB (zgd wa _ _ 1).2⟩;have Ab:Hid (Below wa.heap.size wa w1):=(zcv wa _ _ 1).trans (hB.mono (zcv wa _ _ 1).size);have Af:=hid (HK.out.below Ab.out);have Aj:=hid (HS.out.trans (Sole.of_below Ab.out));have An:=hid (HD.out.below Ab.out);have Ae:Hid (Kep w w1 (wa.heap.size+1) (kidO 0 [] 0 A (.slice none 0 0))):=⟨Ac.out.2,Nat.le_trans HS.out.size (by omega)⟩;have Ag:=hid (Ak.out.1.below Ab.out);rw [Am.out];clear hB;obtain ⟨⟨_,p1,_,p3,_⟩,g1,_⟩:=zb4 Ag.out.blk;rw [HF.out.1] at p3;obtain ⟨⟨x0,x1,x2,x3,x4⟩,⟨v0,v1,v2,v3,v4⟩⟩:=zaa Ac.out.2;have u0:w1.cell? ⟨wa.heap.size,0,none⟩=some (.int .i64 K):=(by simp [World.cell?,Ac.out.1]);have u1:w1.cell? ⟨wa.heap.size,1,none⟩=some (.string sb):=(by simp [World.cell?,Ac.out.1]);obtain ⟨⟨z0,z1,z2,z3,z4⟩,⟨y0,y1,y2,y3,y4⟩⟩:=zaa Af.out.1;have hn1:¬ p=wa.heap.size+1:=(by omega);have hn2:¬ wa.heap.size+1=p:=(by omega);have hlt:=HK.out.lt;have hn3:¬ w.heap.size=p:=(by have:=Aa.out.1;omega);have hn4:¬ p=w.heap.size:=(by have:=Aa.out.1;omega);have hn5:¬ w.heap.size=wa.heap.size+1:=(by omega);have hn6:¬ wa.heap.size+1=w.heap.size:=(by omega);(go_wp2_with fail);refine (Az.out _).mono ?_;rintro e w3 ⟨rfl,hw3⟩;rw [hw3];clear hw3 w3;(go_wp2_with fail);have HW:Hid (Kep w (((w1.setCell ⟨p,1,none⟩ (.int .i64 ((i:Int)+1))).setCell ⟨wa.heap.size+1,0,none⟩ (.int .i64 Z)).setCell ⟨wa.heap.size+1,0,none⟩ (.int .i64 19)) w.heap.size (kidO 0 [] 0 0 (.slice none 0 0))∧DS (((w1.setCell ⟨p,1,none⟩ (.int .i64 ((i:Int)+1))).setCell ⟨wa.heap.size+1,0,none⟩ (.int .i64 Z)).setCell ⟨wa.heap.size+1,0,none⟩ (.int .i64 19)) p g cap ts d s.adv∧Sole p w (((w1.setCell ⟨p,1,none⟩ (.int .i64 ((i:Int)+1))).setCell ⟨wa.heap.size+1,0,none⟩ (.int .i64 Z)).setCell ⟨wa.heap.size+1,0,none⟩ (.int .i64 19))∧Kep w (((w1.setCell ⟨p,1,none⟩ (.int .i64 ((i:Int)+1))).setCell ⟨wa.heap.size+1,0,none⟩ (.int .i64 Z)).setCell ⟨wa.heap.size+1,0,none⟩ (.int .i64 19)) (wa.heap.size+1) (kidO 19 [] 0 A (.slice none 0 0))):=by
     have st:=DS.step hE Ag.out Ak.out.2.2 Ar.out (Sole.refl p w1) rfl;have hh:=Aa.out;exact ⟨zcj (zcj (Af.out.sole Aa.out.1 (Sole.setCell w1 1 _)) hn5 _ _) hn5 _ _,(st.1.set (by omega) (by omega) _ _).set (by omega) (by omega) _ _,Sole.set (Sole.set (Aj.out.trans st.2) (by omega) _ _) (by omega) _ _,zae (zae ((Sole.setCell w1 1 _).blk Ac.out.2 hn2)),by omega⟩
    refine (zci p g cap ts hE d [105,110,116] (by simp) s.adv _ HW.out.2.1).mono ?_;rintro e w2 ⟨rfl,hD,hS⟩;have Ao:=hid hD;have Ap:=hid (HW.out.2.2.1.trans hS);have Ah:=hid (HW.out.1.sole Aa.out.1 hS);have Ad:=hid (HW.out.2.2.2.sole Aa.out.1 hS);clear hD hS HW p1 p3 g1 x0 x1 x2 x3 x4 v0 v1 v2 v3 v4 u0 u1 z0 z1 z2 z3 z4 y0 y1 y2 y3 y4;obtain ⟨⟨x0,x1,x2,x3,x4⟩,⟨v0,v1,v2,v3,v4⟩⟩:=zaa Ad.out.1;cases hq:s.adv.is [105,110,116] with
    | true =>
     have Au:Hid (R=(.node 19 [] 0 A [],s.adv.may [105,110,116])):=by
      show _=_;rw [Ai.out];unfold RS.may;rw [show s.adv.is wInt=true from hq,hq];rfl
     obtain ⟨⟨z0,z1,z2,z3,z4⟩,⟨y0,y1,y2,y3,y4⟩⟩:=zaa Ah.out.1;go_wp2;refine ret5 (n:=[]) z0 z1 z2 z3 z4 rfl (fun u q0 q1 q2 q3 q4=>by simp [results,Tryz.results125,go_sem,q0,q1,q2,q3,q4]) Ah.out.2 Ap.out ?_;intro wz hf;rw [Au.out];have hr2:=Ah.out.2;have hpg:=Aa.out;exact ⟨_,rfl,zff,Ao.out.but (by omega) (by omega) hf.2,hf.1⟩
    | false =>
     have Au:Hid (R=(.node 21 [] 0 A [],(s.adv.may [105,110,116]).want [104,121,112,101,114])):=by
      show _=_;rw [Ai.out];unfold RS.may;rw [show s.adv.is wInt=false from hq,hq];rfl
     (go_wp2_with fail);refine (zak p g cap ts hE d [104,121,112,101,114] (by simp) _ _ (Ao.out.set (r:=wa.heap.size+1) (by omega) (by omega) _ _)).mono ?_;rintro e w3 ⟨rfl,hD,hS⟩;have Bc:=hid hD;have Bd:=hid ((Sole.set Ap.out (show w.heap.size<=wa.heap.size+1 by omega) 0 (.int .i64 21)).trans hS);have Av:=hid ((zcj Ah.out hn5 0 (.int .i64 21)).sole Aa.out.1 hS);have Aw:=hid (Kep.sole (cur:=w2.setCell ⟨wa.heap.size+1,0,none⟩ (.int .i64 21)) ⟨zae Ad.out.1,Ad.out.2⟩ Aa.out.1 hS);clear hD hS x0 x1 x2 x3 x4 v0 v1 v2 v3 v4;obtain ⟨⟨x0,x1,x2,x3,x4⟩,_⟩:=zaa Aw.out.1;obtain ⟨⟨z0,z1,z2,z3,z4⟩,⟨y0,y1,y2,y3,y4⟩⟩:=zaa Av.out.1;go_wp2;refine ret5 (n:=[]) z0 z1 z2 z3 z4 rfl (fun u q0 q1 q2 q3 q4=>by simp [results,Tryz.results125,go_sem,q0,q1,q2,q3,q4]) Av.out.2 Bd.out ?_;intro wz hf;rw [Au.out];have hr2:=Av.out.2;have hpg:=Aa.out;exact ⟨_,rfl,zff,Bc.out.but (by omega) (by omega) hf.2,hf.1⟩)
theorem info29x:∃ i:TypeInfo,Tryz.prog.info? 29=some i∧i.zero=some (.agg #[.int .i64 0,.string ⟨#[]⟩,.int .i64 0,.int .i64 0,.slice none 0 0])∧i.size=5∧i.bytes=64 :=
 ⟨(Tryz.prog.info? 29).getD default,by kernel_rfl,by kernel_rfl,by kernel_rfl,by kernel_rfl⟩
def listP (n:Tok) (of:Tree) (s:PS):Ans Tree :=
 (s.want [60]).bind fun _ s =>
   if s.sees [62] then (s.want [62]).bind fun _ s=>.ok (named 16 n [of]) s
   else (zbz s).bind fun v s=>(s.want [62]).bind fun _ s=>.ok (named 16 n [of,v]) s
structure App (A:Nat->Prop) (w w' : World) (acc:List Tree) (t:Tree) (sl:Value) (g N cap:Nat):Prop where
 list:ListAt A w' (acc++[t]) (.slice (some ⟨g,0,none⟩) (N+1) cap)
 grow:w.grownBy w' sl.ownBlock
theorem app_news {A:Nat->Prop} {w w' : World} {acc:List Tree} {sl:Value} {N g cap:Nat} {xs:List Value} {k m:Int} {n:List UInt8} {a:Nat} {ks:List Tree} {s8:Value} (hN:acc.length=N) (hA:∀ q,sl.ownBlock=some q->A q) (hr:RowV (fun b=>A b∧sl.ownBlock≠some b) w acc xs) (hAH:A w.heap.size)
 (ht:TreeAt (fun b=>A b∧sl.ownBlock≠some b) w (.node k n m a ks) (kidV k n m a s8))
 (hown:w'.ownsRow 0 29 5 (.slice (some ⟨g,0,none⟩) (N+1) cap) (N+1) (xs++[.int .i64 k,.string ⟨n.toArray⟩,.int .i64 m,.int .i64 a,s8])) (hg:w.grownBy w' sl.ownBlock) (hat:sl.ownBlock=some g∨g=w.heap.size):App A w w' acc (.node k n m a ks) sl g N cap:=by
 refine ⟨zbn (sl:=sl) hA hr (zay ht) (by rw [hN];exact hown) hg w.heap.size (Nat.le_refl _) hAH ?_,hg⟩;rcases hat with e|e
 · exact Or.inl e.symm
 · exact Or.inr (by rw [e];rfl)
theorem zim {ops:Array Oper} {rest:List Oper} {o:Oper} {a:Act} {Q:Exit->Act->World->Prop} (w:World) (hgd:o.guard=none) (s x:Operand) (ho:o.op=.call { callee:=.builtin .append,args:=#[s,x],argTypes:=#[27,27] })
 (A:Nat->Prop) (acc:List Tree) (oq:Option Addr) (N cq:Nat) (hl:ListAt A w acc (.slice oq N cq)) (hs:a.eval s=.slice oq N cq) (hN:N<=20000) (q:Nat) (k m:Int) (n:List UInt8) (at_:Nat) (ks:List Tree) (o8:Option Addr) (l8 c8:Nat) (hx:a.eval x=.slice (some ⟨q,0,none⟩) 1 1)
 (hq:w.heap[q]?=some (kidO k n m at_ (.slice o8 l8 c8))) (ht:TreeAt (fun b=>A b∧(Value.slice oq N cq).ownBlock≠some b) w (.node k n m at_ ks) (kidV k n m at_ (.slice o8 l8 c8))) (hAH:A w.heap.size)
 (h:∀ g cap w',App A w w' acc (.node k n m at_ ks) (.slice oq N cq) g N cap->wpList Tryz.prog ops Q rest (a.put o.dst (.slice (some ⟨g,0,none⟩) (N+1) cap)) w'):wpList Tryz.prog ops Q (o::rest) a w:=by
 obtain ⟨inf,hi1,hi2,hi3,hi4⟩:=info29x;obtain ⟨o',c',e⟩:=hl.len;have hlen:acc.length=N:=by cases e;rfl
 obtain ⟨xs,ho',hA,hr⟩:=hl;rw [hlen] at ho';refine wpList_append_lies w hgd s x 27 ho 0 29 inf _ 5 64 Tryz.underlying27 hi1 hi2 hi3 hi4 rfl (by decide) (.slice oq N cq) N xs hs ho' ⟨q,0,none⟩ 1 1 [.int .i64 k,.string ⟨n.toArray⟩,.int .i64 m,.int .i64 at_,.slice o8 l8 c8] hx rfl (World.news_of_block (cs:=#[.int .i64 k,.string ⟨n.toArray⟩,.int .i64 m,.int .i64 at_,.slice o8 l8 c8]) (t:=29) (fr:=(0,0)) hq) (by simp [Value.oneCell']) (by decide) (by unfold maxLen;omega) (by omega) (Nat.zero_le _) _ rfl ?_;intro g cap w' hown hgrow hat _;exact h g cap w' (app_news hlen hA hr hAH ht hown hgrow hat)
theorem zfi {ops:Array Oper} {o:Oper} {a:Act} {K:Act->World->Prop} {Q:Exit->Act->World->Prop} {E:Prop} (w:World) (hgd:o.guard=none) (s x:Operand) (ho:o.op=.call { callee:=.builtin .append,args:=#[s,x],argTypes:=#[27,27] })
 (A:Nat->Prop) (acc:List Tree) (oq:Option Addr) (N cq:Nat) (hl:ListAt A w acc (.slice oq N cq)) (hs:a.eval s=.slice oq N cq) (hN:N<=20000) (q:Nat) (k m:Int) (n:List UInt8) (at_:Nat) (ks:List Tree) (o8:Option Addr) (l8 c8:Nat) (hx:a.eval x=.slice (some ⟨q,0,none⟩) 1 1)
 (hq:w.heap[q]?=some (kidO k n m at_ (.slice o8 l8 c8))) (ht:TreeAt (fun b=>A b∧(Value.slice oq N cq).ownBlock≠some b) w (.node k n m at_ ks) (kidV k n m at_ (.slice o8 l8 c8))) (hAH:A w.heap.size)
 (h:∀ g cap w',App A w w' acc (.node k n m at_ ks) (.slice oq N cq) g N cap->K (a.put o.dst (.slice (some ⟨g,0,none⟩) (N+1) cap)) w'):if Region.wanted o (yielded ops a.tmps)=true then Oper.wp Tryz.prog o a w K Q else E:=by
 obtain ⟨inf,hi1,hi2,hi3,hi4⟩:=info29x;obtain ⟨o',c',e⟩:=hl.len;have hlen:acc.length=N:=by cases e;rfl
 obtain ⟨xs,ho',hA,hr⟩:=hl;rw [hlen] at ho';refine step_append_lies w hgd s x 27 ho 0 29 inf _ 5 64 Tryz.underlying27 hi1 hi2 hi3 hi4 rfl (by decide) (.slice oq N cq) N xs hs ho' ⟨q,0,none⟩ 1 1 [.int .i64 k,.string ⟨n.toArray⟩,.int .i64 m,.int .i64 at_,.slice o8 l8 c8] hx rfl (World.news_of_block (cs:=#[.int .i64 k,.string ⟨n.toArray⟩,.int .i64 m,.int .i64 at_,.slice o8 l8 c8]) (t:=29) (fr:=(0,0)) hq) (by simp [Value.oneCell']) (by decide) (by unfold maxLen;omega) (by omega) (Nat.zero_le _) _ rfl ?_;intro g cap w' hown hgrow hat _;exact h g cap w' (app_news hlen hA hr hAH ht hown hgrow hat)
theorem zmq {p:Nat} {w cur nxt:World} {row:Option Nat} (h:Sole p w cur) (hg:cur.grownBy nxt row) (hq:∀ q,row=some q->w.heap.size<=q):Sole p w nxt:=
 ⟨hg.os.trans h.os,hg.tape.trans h.tape,hg.output.trans h.output,Nat.le_trans h.size hg.size,fun b hb hp=>(hg.block b (Nat.lt_of_lt_of_le hb h.size) (fun e=>by have:=hq b e.symm;omega)).trans (h.block b hb hp)⟩
theorem DS.grown {w nxt:World} {p g cap:Nat} {ts:List Tok} {d:Int} {s:RS} (h:DS w p g cap ts d s) {row:Option Nat} (hg:w.grownBy nxt row) (hp:row≠some p) (hgq:row≠some g):DS nxt p g cap ts d s:=by
 obtain ⟨i,h1,h2⟩:=h;exact ⟨i,h1,h2.of_blocks (hg.block p h2.plt (fun e=>hp e.symm)) (hg.block g h2.gl (fun e=>hgq e.symm))⟩
theorem za0 {w cur nxt:World} {b:Nat} {o:Obj} (h:Kep w cur b o) {row:Option Nat} (hg:cur.grownBy nxt row) (hne:row≠some b):Kep w nxt b o:=⟨(hg.block b h.lt (fun e=>hne e.symm)).trans h.1,h.2⟩
theorem zb2 {A:Nat->Prop} {w:World} {ks:List Tree} {sl:Value} (h:ListAt A w ks sl) {q:Nat} (e:sl.ownBlock=some q):A q∧q<w.heap.size:=by
 obtain ⟨xs,ho,hA,_⟩:=h;exact ⟨hA q e,(ho.lt q e).2⟩
theorem zf9 {A:Nat->Prop} {w:World} {ks:List Tree} {o:Option Addr} {N c:Nat} (h:ListAt A w ks (.slice o N c)):ks.length=N:=by
 obtain ⟨o',c',e⟩:=h.len;cases e;rfl
def mu (p n:Nat) (w:World):Nat:=
 match w.cell? ⟨p,1,none⟩,w.cell? ⟨p,3,none⟩ with
 | some (.int _ i),some (.int _ e)=>2*(n-i.toNat)+(if e=0 then 1 else 0)
 | _,_=>0
def muS (s:RS):Nat:=2*s.ts.length+(if s.e=0 then 1 else 0)
theorem zd5 {w:World} {p g cap:Nat} {ts:List Tok} {d:Int} {s:RS} (h:DS w p g cap ts d s):mu p ts.length w=muS s:=by
 obtain ⟨i,h1,h2⟩:=h;obtain ⟨⟨_,c1,_,c3,_⟩,_⟩:=zb4 h2.blk;unfold mu muS;rw [c1,c3,h1,List.length_drop];simp
theorem DS.e_cell {w:World} {p g cap:Nat} {ts:List Tok} {d:Int} {s:RS} (h:DS w p g cap ts d s):w.cell? ⟨p,3,none⟩=some (.int .i64 s.e)∧w.cell? ⟨p,2,none⟩=some (.int .i64 d):=by
 obtain ⟨i,h1,h2⟩:=h;obtain ⟨⟨_,_,c2,c3,_⟩,_⟩:=zb4 h2.blk;exact ⟨c3,c2⟩
end Go.Proofs.YtighggeokiahfaaGreatDoor.Dm
namespace Go.Proofs.YtighggeokiahfaaGreatDoor.Dm
structure Okt (t:Tok):Prop where
 word:za6 t.text=true->t.kind=2
 sign:∀ c,zeu c=true->t.text=[c]->t.kind=4
 name:t.kind=1->za6 t.text=false
 num:t.kind=3->t.text=[]
def Okl (ts:List Tok):Prop:=∀ t∈ts,Okt t
theorem okt_end:Okt ⟨5,[],0,0⟩:=⟨fun h=>absurd h (by decide),fun c _ h=>absurd h (by simp),fun h=>absurd (show (5:Int)=1 from h) (by decide),fun _=>rfl⟩
theorem beq_no {k c:Int} (h:¬ k=c):(k==c)=false:=by simp [h]
theorem Okl.hd {ts:List Tok} (h:Okl ts):Okt (ts.headD ⟨5,[],0,0⟩):=by
 cases ts with
 | nil=>exact okt_end
 | cons t l=>exact h t (by simp)
theorem Okl.tail {ts:List Tok} (h:Okl ts):Okl ts.tail:=fun t ht=>h t (List.mem_of_mem_tail ht)
def zfk (x:List UInt8):Prop:=za6 x=true∨∃ c,zeu c=true∧x=[c]
theorem zfk.ne {x:List UInt8} (h:zfk x):x≠[]:=by
 rcases h with h|⟨c,_,rfl⟩
 · rintro rfl;revert h;decide
 · simp
theorem Okt.spell {t:Tok} (h:Okt t) {x:List UInt8} (hx:zfk x) (e:t.text=x):(t.kind==4||t.kind==2)=true:=by
 subst e;rcases hx with hx|⟨c,hc,hx⟩
 · rw [h.word hx];decide
 · rw [h.sign c hc hx];decide
theorem is_sees {ts:List Tok} {pl:Nat} {x:List UInt8} (f:Bool) (hx:zfk x) (h:Okl ts):(⟨ts,0,pl⟩:RS).is x=(⟨ts,f⟩:PS).sees x:=by
 unfold RS.is PS.sees RS.hd PS.hd;cases e:((ts.headD ⟨5,[],0,0⟩).text==x) with
 | false=>simp
 | true=>rw [h.hd.spell hx (by simpa using e)];rfl
theorem zdp {s:RS} (h:s.e≠0) (x:List UInt8):s.is x=false:=by unfold RS.is;simp [h]
theorem zdu {s:RS} (h:s.e≠0) (e:Int):s.fail e=s:=by unfold RS.fail;rw [if_neg h]
theorem zal {s:RS} (h:s.e≠0) (x:List UInt8):s.want x=s:=by unfold RS.want;rw [zdp h,zdu h];rfl
theorem zgo {s:RS} (h:s.e≠0):zav s=(([],0),s):=by unfold zav;rw [zdu h];simp [h]
theorem zd0 {s:RS} (h:s.e≠0) (b:Bool):zaq b s=(zh9,s):=by unfold zaq;rw [zdu h];simp [h]
theorem zh4 {s:RS} (h:s.e≠0):(zao s).2=s:=by
 unfold zao;rw [zgo h,zd0 h];split <;> rfl
theorem bare_stuck {s:RS} (h:s.e≠0):(zed s).2=s:=by unfold zed;rw [zdu h];simp [h]
theorem typed_stuck {B:RS->Tree × RS} {s:RS} (h:s.e≠0):(zcf B s).2=s:=by unfold zcf;simp [h,bare_stuck h]
theorem zfq {s:RS} (h:s.e≠0) (t:Tree) (n:Int):(zdw t n s).2=s:=by
 unfold zdw;simp only [zgo h,zdp h,zdu h,Bool.false_and,Bool.false_eq_true,if_false];split <;> rfl
theorem zm7 {B:RS->Tree × RS} {v:Bool} {s:RS} (h:s.e≠0):(zce B v s).2=s:=by
 unfold zce;simp only [zdp h,zfq h,Bool.false_and,Bool.false_eq_true,if_false,typed_stuck h]
theorem zii {s:RS} (h:s.e≠0) (f:Nat) (l:List Tree):zex f l s=(l,s):=by cases f <;> simp [zex,h]
theorem zjn {B:RS->Tree × RS} {s:RS} (h:s.e≠0) (f:Nat) (l:List Tree):zf1 B f l s=(l,s):=by cases f <;> simp [zf1,h]
theorem zjo {s:RS} (h:s.e≠0) (f:Nat) (l:List Tree):zhy f l s=(l,s):=by cases f <;> simp [zhy,h]
theorem zh6 {s:RS} (h:s.e≠0) (f:Nat) (l:List Tree):zb8 f l s=(l,s):=by cases f <;> simp [zb8,h]
theorem zh0 {s:RS} (h:s.e≠0) (f:Nat) (l:List Tree):zbi f l s=(l,s):=by cases f <;> simp [zbi,h]
theorem zd6 {s:RS} (h:s.e≠0) (f:Nat) (l:List Tree):zcq f l s=([],s):=by cases f <;> simp [zcq,h]
theorem zep {B:RS->Tree × RS} {b:Bool} {s:RS} (h:s.e≠0) (f:Nat) (l:List Tree):zc7 B b f l s=([],s):=by cases f <;> simp [zc7,h]
theorem zf5 {s:RS} (h:s.e≠0) (f:Nat) (l:List Tree):zc6 f l s=(l,s):=by cases f <;> simp [zc6,h]
theorem zjg {B:RS->Tree × RS} {s:RS} (h:s.e≠0) (l:List Tree):zgm B l s=(l,s):=by unfold zgm;simp [zdp h,zal h]
def Agr {α:Type} (k:Nat) (ts:List Tok) (pl:Nat) (r:Ans α) (q:α × RS):Prop:=
 match r with
 | .ok a s=>s.full=false∧Okl s.ts∧s.ts.length+k<=ts.length∧q=(a,⟨s.ts,0,pl⟩)
 | .no e i=>e≠0∧q.2.e=e∧q.2.pl=i
def Sim {α:Type} (k:Nat) (P:PS->Ans α) (D:RS->α × RS):Prop:=∀ ts pl,Okl ts->Agr k ts pl (P ⟨ts,false⟩) (D ⟨ts,0,pl⟩)
theorem Agr.bind {α β:Type} {k j:Nat} {ts:List Tok} {pl:Nat} {r:Ans α} {q:α × RS} {Q:α->PS->Ans β} {E:α->RS->β × RS} (h:Agr k ts pl r q) (hQ:∀ a ts',Okl ts'->ts'.length+k<=ts.length->Agr j ts' pl (Q a ⟨ts',false⟩) (E a ⟨ts',0,pl⟩)) (st:∀ a s,s.e≠0->(E a s).2=s):Agr (k+j) ts pl (r.bind Q) (E q.1 q.2):=by
 cases r with
 | ok a s=>
  obtain ⟨ss,f⟩:=s;obtain ⟨h1,h2,h3,rfl⟩:=h;obtain rfl:f=false:=h1;have h4:=hQ a ss h2 h3;show Agr (k+j) ts pl (Q a ⟨ss,false⟩) (E a ⟨ss,0,pl⟩);cases hr:Q a ⟨ss,false⟩ with
  | ok b u=>rw [hr] at h4;exact ⟨h4.1,h4.2.1,by have:=h4.2.2.1;have h3':ss.length+k<=ts.length:=h3;omega,h4.2.2.2⟩
  | no e i=>rw [hr] at h4;exact h4
 | no e i=>
  obtain ⟨h1,h2,h3⟩:=h;show e≠0∧(E q.1 q.2).2.e=e∧(E q.1 q.2).2.pl=i;rw [st q.1 q.2 (by rw [h2];exact h1)];exact ⟨h1,h2,h3⟩
theorem Agr.less {α:Type} {k j:Nat} {ts:List Tok} {pl:Nat} {r:Ans α} {q:α × RS} (h:Agr k ts pl r q) (hj:j<=k):Agr j ts pl r q:=by
 cases r with
 | ok a s=>exact ⟨h.1,h.2.1,by have:=h.2.2.1;omega,h.2.2.2⟩
 | no e i=>exact h
theorem zfg {α:Type} (a:α) (ts:List Tok) (pl:Nat) (ok:Okl ts):Agr 0 ts pl (.ok a ⟨ts,false⟩) (a,⟨ts,0,pl⟩):=⟨rfl,ok,Nat.le_refl _,rfl⟩
theorem zg6 {α:Type} {k:Nat} {ts:List Tok} {pl:Nat} {e:Int} (he:e≠0) (q:α):Agr k ts pl ((⟨ts,false⟩:PS).bad e) (q,(⟨ts,0,pl⟩:RS).fail e):=by
 refine ⟨he,?_,?_⟩ <;> (unfold RS.fail;rfl)
theorem ok_ne {ts:List Tok} (h:(ts.headD ⟨5,[],0,0⟩).text≠[]∨(ts.headD ⟨5,[],0,0⟩).kind≠5):ts.tail.length+1<=ts.length:=by
 cases ts with
 | nil=>rcases h with h|h <;> exact absurd rfl h
 | cons t l=>simp
theorem sees_text {ts:List Tok} {f:Bool} {x:List UInt8} (hx:zfk x) (h:(⟨ts,f⟩:PS).sees x=true):(ts.headD ⟨5,[],0,0⟩).text≠[]:=by
 unfold PS.sees PS.hd at h;rw [beq_iff_eq] at h;rw [show (ts.headD ⟨5,[],0,0⟩).text=x from h];exact hx.ne
theorem zgb {α:Type} {k:Nat} {ts:List Tok} {pl:Nat} {Q:Tok->PS->Ans α} {q:α × RS} (ok:Okl ts) (hl:ts.tail.length+1<=ts.length) (h:Okl ts.tail->Agr k ts.tail pl (Q (ts.headD ⟨5,[],0,0⟩) ⟨ts.tail,false⟩) q):Agr (1+k) ts pl ((⟨ts,false⟩:PS).take.bind Q) q:=by
 have h1:=h ok.tail;show Agr (1+k) ts pl (Q (ts.headD ⟨5,[],0,0⟩) ⟨ts.tail,false⟩) q;cases hr:Q (ts.headD ⟨5,[],0,0⟩) ⟨ts.tail,false⟩ with
 | ok b u=>rw [hr] at h1;exact ⟨h1.1,h1.2.1,by have:=h1.2.2.1;omega,h1.2.2.2⟩
 | no e i=>rw [hr] at h1;exact h1
theorem sim_want (x:List UInt8) (hx:zfk x):Sim 1 (fun s=>s.want x) (fun s=>((),s.want x)):=by
 intro ts pl ok;show Agr 1 ts pl ((⟨ts,false⟩:PS).want x) ((),(⟨ts,0,pl⟩:RS).want x);unfold PS.want RS.want;rw [is_sees false hx ok];cases e:(⟨ts,false⟩:PS).sees x with
 | false=>exact zg6 (by decide) _
 | true=>exact zgb (k:=0) (Q:=fun _ s=>.ok () s) ok (ok_ne (Or.inl (sees_text hx e))) (fun ok'=>zfg () _ pl ok')
theorem sim_name:Sim 1 (fun s=>(zcp s).bind fun t s=>.ok (t.text,t.at_) s) zav:=by
 intro ts pl ok;show Agr 1 ts pl ((zcp ⟨ts,false⟩).bind _) _;unfold zcp PS.ofKind zav;by_cases hk:(ts.headD ⟨5,[],0,0⟩).kind=1
 · rw [if_pos (show (⟨ts,false⟩:PS).hd.kind=1 from hk),if_pos (by show ((0:Int)==0&&(ts.headD ⟨5,[],0,0⟩).kind==1)=true;rw [hk];rfl)];exact zgb (k:=0) (Q:=fun t s=>.ok (t.text,t.at_) s) ok (ok_ne (Or.inr (by rw [hk];decide))) (fun ok'=>zfg _ _ pl ok')
 · rw [if_neg (show ¬ (⟨ts,false⟩:PS).hd.kind=1 from hk),if_neg (by show ¬ ((0:Int)==0&&(ts.headD ⟨5,[],0,0⟩).kind==1)=true;rw [beq_no hk];decide)];exact zg6 (by decide) _
theorem Ans.bind_bind {α β γ:Type} (r:Ans α) (f:α->PS->Ans β) (g:β->PS->Ans γ):(r.bind f).bind g=r.bind fun a s=>(f a s).bind g:=by cases r <;> rfl
theorem zfa {β:Type} {j:Nat} {Q:Tok->PS->Ans β} {E:List UInt8 × Nat->RS->β × RS} (hQ:∀ (t:Tok) ts pl,Okl ts->Agr j ts pl (Q t ⟨ts,false⟩) (E (t.text,t.at_) ⟨ts,0,pl⟩)) (st:∀ a s,s.e≠0->(E a s).2=s):Sim (1+j) (fun s=>(zcp s).bind Q) (fun s=>E (zav s).1 (zav s).2):=by
 intro ts pl ok;have h:=sim_name ts pl ok;show Agr (1+j) ts pl ((zcp ⟨ts,false⟩).bind Q) (E (zav ⟨ts,0,pl⟩).1 (zav ⟨ts,0,pl⟩).2);cases hr:zcp ⟨ts,false⟩ with
 | ok t s=>
  obtain ⟨ss,f⟩:=s;simp only [hr] at h;obtain ⟨h1,h2,h3,h4⟩:=h;obtain rfl:f=false:=h1;rw [h4];have h5:=hQ t ss pl h2;show Agr (1+j) ts pl (Q t ⟨ss,false⟩) _;cases hr2:Q t ⟨ss,false⟩ with
  | ok b u=>rw [hr2] at h5;exact ⟨h5.1,h5.2.1,by have:=h5.2.2.1;have:ss.length+1<=ts.length:=h3;omega,h5.2.2.2⟩
  | no e i=>rw [hr2] at h5;exact h5
 | no e i=>
  simp only [hr] at h;obtain ⟨h1,h2,h3⟩:=h;show e≠0∧_∧_;rw [st _ _ (by rw [h2];exact h1)];exact ⟨h1,h2,h3⟩
theorem zjf:Sim 1 zeb (zaq false):=by
 intro ts pl ok;unfold zeb PS.ofKind zaq;by_cases hk:(ts.headD ⟨5,[],0,0⟩).kind=3
 · rw [if_pos (show (⟨ts,false⟩:PS).hd.kind=3 from hk),if_pos (by show ((0:Int)==0&&(ts.headD ⟨5,[],0,0⟩).kind==3&&!(false&&_))=true;rw [hk];rfl)];exact zgb (k:=0) (Q:=fun t s=>.ok (Tree.node 28 [] t.num t.at_ []) s) ok (ok_ne (Or.inr (by rw [hk];decide))) (fun ok'=>zfg _ _ pl ok')
 · rw [if_neg (show ¬ (⟨ts,false⟩:PS).hd.kind=3 from hk),if_neg (by show ¬ ((0:Int)==0&&(ts.headD ⟨5,[],0,0⟩).kind==3&&!(false&&_))=true;rw [beq_no hk];simp)];exact zg6 (by decide) _
theorem zk3:Sim 1 za5 (zaq true):=by
 intro ts pl ok;unfold za5;by_cases hn:(ts.headD ⟨5,[],0,0⟩).num<0
 · rw [if_pos (show (⟨ts,false⟩:PS).hd.num<0 from hn)];unfold zaq;rw [if_neg (by show ¬ ((0:Int)==0&&(ts.headD ⟨5,[],0,0⟩).kind==3&&!(true&&decide ((ts.headD ⟨5,[],0,0⟩).num<0)))=true;rw [decide_eq_true hn];simp)];exact zg6 (by decide) _
 · rw [if_neg (show ¬ (⟨ts,false⟩:PS).hd.num<0 from hn)];have h:=zjf ts pl ok;have e:zaq true ⟨ts,0,pl⟩=zaq false ⟨ts,0,pl⟩:=by
    unfold zaq;have e1:decide ((⟨ts,0,pl⟩:RS).hd.num<0)=false:=decide_eq_false hn;rw [e1];rfl
   rw [e];exact h
theorem ziu:Sim 1 zbz zao:=by
 intro ts pl ok;unfold zbz zao;by_cases hk:(ts.headD ⟨5,[],0,0⟩).kind=1
 · rw [if_pos (show (⟨ts,false⟩:PS).hd.kind=1 from hk),if_pos (by show ((ts.headD ⟨5,[],0,0⟩).kind==1)=true;rw [hk];rfl)];exact zfa (j:=0) (Q:=fun t s=>.ok (named 27 t []) s) (E:=fun n s=>(Tree.node 27 n.1 0 n.2 [],s)) (fun t ts pl ok=>zfg _ ts pl ok) (fun _ _ _=>rfl) ts pl ok
 · rw [if_neg (show ¬ (⟨ts,false⟩:PS).hd.kind=1 from hk),if_neg (by show ¬ ((ts.headD ⟨5,[],0,0⟩).kind==1)=true;rw [beq_no hk];decide)];exact zjf ts pl ok
def RS.n (s:RS):Nat:=s.ts.length
theorem zey (s:RS):s.adv.n<=s.n:=by unfold RS.adv RS.n;simp
theorem zew (s:RS) (e:Int):(s.fail e).n=s.n:=by unfold RS.fail RS.n;split <;> rfl
theorem za4 (s:RS) (x:List UInt8):(s.want x).n<=s.n:=by
 unfold RS.want;split
 · exact zey s
 · rw [zew];exact Nat.le_refl _
theorem adv_lt {s:RS} {x:List UInt8} (hx:x≠[]) (h:s.is x=true):s.adv.n<s.n:=by
 unfold RS.is at h;simp only [Bool.and_eq_true,beq_iff_eq] at h;have h2:=h.2.1;unfold RS.hd at h2;unfold RS.adv RS.n;cases hs:s.ts with
 | nil=>rw [hs] at h2;exact absurd h2.symm hx
 | cons t l=>simp
theorem zkn {s:RS} {x:List UInt8} (hx:x≠[]) (h:(s.want x).e=0):(s.want x).n<s.n:=by
 unfold RS.want at h ⊢;split
 · next hi=>exact adv_lt hx hi
 · next hi=>
   rw [if_neg hi] at h;unfold RS.fail at h;split at h
   · exact absurd (show (40:Int)=0 from h) (by decide)
   · next he=>exact absurd h he
theorem zfe (s:RS):(zav s).2.n<=s.n:=by unfold zav;split;exact zey s;rw [zew];exact Nat.le_refl _
theorem zfu (b:Bool) (s:RS):(zaq b s).2.n<=s.n:=by unfold zaq;split;exact zey s;rw [zew];exact Nat.le_refl _
theorem zin (s:RS):(zao s).2.n<=s.n:=by unfold zao;split;exact zfe s;exact zfu _ s
theorem zn9 (s:RS):(zed s).2.n<=s.n:=by
 have h1:=zey s;have h2:=zey s.adv;have h3:=za4 s.adv ze8;unfold zed;split
 · split
   · exact h1
   · split
     · split
       · exact Nat.le_trans h2 h1
       · exact Nat.le_trans h3 h1
     · exact h1
 · rw [zew];exact Nat.le_refl _
def Down (B:RS->Tree × RS):Prop:=∀ s,(B s).2.n<=s.n
theorem typed_le {B:RS->Tree × RS} (hB:Down B) (s:RS):(zcf B s).2.n<=s.n:=by unfold zcf;split;exact hB s;exact zn9 s
theorem znl (t:Tree) (l:Int) (s:RS):(zdw t l s).2.n<=s.n:=by
 have h1:=zfe s;have h2:=zey (zav s).2;have h3:=zin (zav s).2.adv;have h4:=za4 (zao (zav s).2.adv).2 [93];have h5:=za4 (zao (zav s).2.adv).2 [62];have h6:=za4 (zav s).2.adv [62];have h7:=zew (zav s).2 40;unfold zdw;simp only;repeat' split
 all_goals (simp only;omega)
theorem zic {B:RS->Tree × RS} (hB:Down B) (v:Bool) (s:RS):(zce B v s).2.n<=s.n:=by
 have h1:=zey s;have h2:=typed_le hB s;have h3:=zey (zcf B s).2;have h4:=zfe (zcf B s).2.adv;unfold zce;simp only;repeat' split
 · exact h1
 · exact Nat.le_trans (znl _ _ _) h1
 · exact Nat.le_trans (znl _ _ _) h1
 · simp only;omega
 · exact Nat.le_trans (znl _ _ _) h2
theorem zm2:∀ (f:Nat) (l:List Tree) (s:RS),(zcq f l s).2.n<=s.n
 | 0,_,_=>Nat.le_refl _
 | f+1,l,s=>by
  rw [zcq];split
  · simp only;have h1:=zfe s;have h2:=za4 (zav s).2 [61];have h3:=zin ((zav s).2.want [61]);split
    · have h4:=zey (zao ((zav s).2.want [61])).2;simp only;omega
    · refine Nat.le_trans (zm2 f _ _) (Nat.le_trans (za4 _ _) ?_);split
      · rw [zew];omega
      · omega
  · exact Nat.le_refl _
theorem fields_le {B:RS->Tree × RS} (hB:Down B) (b:Bool):∀ (f:Nat) (l:List Tree) (s:RS),(zc7 B b f l s).2.n<=s.n
 | 0,_,_=>Nat.le_refl _
 | f+1,l,s=>by
  rw [zc7];split
  · simp only;have h1:=zic hB true s;have h2:=za4 (zce B true s).2 [59];split
    · have h4:=zey ((zce B true s).2.want [59]);simp only;omega
    · refine Nat.le_trans (fields_le hB b f _ _) ?_;split
      · rw [zew];split
        · rw [zew];omega
        · omega
      · omega
  · exact Nat.le_refl _
theorem zn8:∀ (f:Nat) (l:List Tree) (s:RS),(zex f l s).2.n<=s.n
 | 0,_,_=>Nat.le_refl _
 | f+1,l,s=>by
  rw [zex];split
  · simp only;have h1:=zin s;have h2:=za4 (zao s).2 [58];split
    · refine Nat.le_trans (zn8 f _ _) (Nat.le_trans (za4 _ _) ?_);split
      · rw [zew];omega
      · omega
    · simp only;omega
  · exact Nat.le_refl _
theorem arm_le {B:RS->Tree × RS} (hB:Down B) (s:RS):(armD B s).2.n<=s.n:=by
 unfold armD;exact Nat.le_trans (za4 _ _) (Nat.le_trans (zic hB _ _) (Nat.le_trans (zn8 _ _ _) (za4 _ _)))
theorem arms_le {B:RS->Tree × RS} (hB:Down B):∀ (f:Nat) (l:List Tree) (s:RS),(zf1 B f l s).2.n<=s.n
 | 0,_,_=>Nat.le_refl _
 | f+1,l,s=>by
  rw [zf1];split
  · simp only;have h1:=arm_le hB s;split
    · refine Nat.le_trans (arms_le hB f _ _) ?_;split
      · rw [zew];exact h1
      · exact h1
    · exact h1
  · exact Nat.le_refl _
theorem rest_le {B:RS->Tree × RS} (hB:Down B) (l:List Tree) (s:RS):(zgm B l s).2.n<=s.n:=by
 unfold zgm;split
 · exact Nat.le_trans (za4 _ _) (Nat.le_trans (za4 _ _) (Nat.le_trans (zic hB _ _) (Nat.le_trans (za4 _ _) (zey s))))
 · exact za4 _ _
theorem choice_le {B:RS->Tree × RS} (hB:Down B) (s:RS):(zgh B s).2.n<=s.n:=by
 unfold zgh;exact Nat.le_trans (rest_le hB _ _) (Nat.le_trans (arms_le hB _ _ _) (Nat.le_trans (za4 _ _) (Nat.le_trans (za4 _ _) (Nat.le_trans (zic hB _ _) (Nat.le_trans (za4 _ _) (za4 _ _))))))
theorem kids_le {B:RS->Tree × RS} (hB:Down B) (b:Bool) (k:Int) (s:RS):(zec B b k s).2.n<=s.n:=by
 unfold zec;split
 · exact Nat.le_trans (zm2 _ _ _) (za4 _ _)
 · split
   · exact Nat.le_trans (fields_le hB _ _ _ _) (za4 _ _)
   · exact choice_le hB s
theorem zfz:∀ d,Down (zc2 d)
 | 0,s=>by rw [zc2,zew];exact Nat.le_refl _
 | d+1,s=>by
  rw [zc2];exact Nat.le_trans (kids_le (zfz d) _ _ _) (zey s)
theorem args_le:∀ (f:Nat) (l:List Tree) (s:RS),(zhy f l s).2.n<=s.n
 | 0,_,_=>Nat.le_refl _
 | f+1,l,s=>by
  rw [zhy];split
  · simp only;have h1:=zn9 s;split
    · refine Nat.le_trans (args_le f _ _) (Nat.le_trans (za4 _ _) ?_);split
      · rw [zew];exact h1
      · exact h1
    · exact h1
  · exact Nat.le_refl _
theorem result_le (s:RS):(zea s).2.n<=s.n:=by unfold zea;split;exact zey s;exact zn9 s
theorem argsD_le (s:RS):(zfb s).2.n<=s.n:=by unfold zfb;split;exact zey s;exact args_le _ _ s
theorem proc_le (s:RS):(zg9 s).2.n<=s.n:=by
 unfold zg9;exact Nat.le_trans (za4 _ _) (Nat.le_trans (zfu _ _) (Nat.le_trans (za4 _ _) (Nat.le_trans (za4 _ _) (Nat.le_trans (argsD_le _) (Nat.le_trans (za4 _ _) (Nat.le_trans (zfe _) (result_le s)))))))
theorem znv:∀ (f:Nat) (l:List Tree) (s:RS),(zb8 f l s).2.n<=s.n
 | 0,_,_=>Nat.le_refl _
 | f+1,l,s=>by
  rw [zb8];split
  · simp only;have h1:=proc_le s;have h2:=zey (zg9 s).2;split
    · simp only;omega
    · refine Nat.le_trans (znv f _ _) ?_;split
      · rw [zew];exact h1
      · exact h1
  · exact Nat.le_refl _
theorem version_le (s:RS):(zc4 s).2.n<=s.n:=by
 unfold zc4;exact Nat.le_trans (za4 _ _) (Nat.le_trans (zfu _ _) (Nat.le_trans (za4 _ _) (Nat.le_trans (znv _ _ _) (Nat.le_trans (za4 _ _) (Nat.le_trans (zfe _) (za4 _ _))))))
theorem zko:∀ (f:Nat) (l:List Tree) (s:RS),(zbi f l s).2.n<=s.n
 | 0,_,_=>Nat.le_refl _
 | f+1,l,s=>by
  rw [zbi];split
  · simp only;have h1:=version_le s;have h2:=zey (zc4 s).2;split
    · simp only;omega
    · refine Nat.le_trans (zko f _ _) ?_;split
      · rw [zew];exact h1
      · exact h1
  · exact Nat.le_refl _
theorem program_le (s:RS):(zev s).2.n<=s.n:=by
 unfold zev;exact Nat.le_trans (zfu _ _) (Nat.le_trans (za4 _ _) (Nat.le_trans (zko _ _ _) (Nat.le_trans (za4 _ _) (zfe _))))
theorem def_le (s:RS):(defD s).2.n<=s.n:=by
 have h1:=zey s;unfold defD;split
 · exact Nat.le_trans (kids_le (zfz 7) _ _ _) (Nat.le_trans (zfe _) h1)
 · split
   · exact Nat.le_trans (zfu _ _) (Nat.le_trans (za4 _ _) (Nat.le_trans (zfe _) h1))
   · split
     · exact Nat.le_trans (zic (zfz 8) _ _) h1
     · split
       · exact Nat.le_trans (program_le _) h1
       · rw [zew];exact Nat.le_refl _
theorem zcs {s t:RS} {x:List UInt8} (hx:x≠[]) (h:t.n<=s.n) (he:s.e=0):2*(t.want x).n+(if (t.want x).e=0 then 1 else 0)<2*s.n+(if s.e=0 then 1 else 0):=by
 rw [if_pos he];have h1:=za4 t x;split
 · next h0=>have:=zkn hx h0;omega
 · omega
end Go.Proofs.YtighggeokiahfaaGreatDoor.Dm
namespace Go.Proofs.YtighggeokiahfaaGreatDoor.Dm
open Go.RowKit
theorem App.ds {A:Nat->Prop} {w wc w6:World} {acc:List Tree} {t:Tree} {sl:Value} {gq N cq:Nat} {p g cap:Nat} {ts:List Tok} {d:Int} {s:RS} (h:App A wc w6 acc t sl gq N cq) (hD:DS wc p g cap ts d s) (hS:Sole p w wc) (ho:∀ q,sl.ownBlock=some q->w.heap.size<=q) (hp:p<w.heap.size) (hg:g<w.heap.size):DS w6 p g cap ts d s∧Sole p w w6:=
 ⟨hD.grown h.grow (fun e=>by have:=ho p e;omega) (fun e=>by have:=ho g e;omega),zmq hS h.grow ho⟩
theorem node1 {A:Nat->Prop} {w:World} {q:Nat} {k m k8 m8:Int} {n n8:List UInt8} {a a8:Nat} {ks:List Tree} {s8:Value} (h:w.heap[q]?=some (kidO k8 n8 m8 a8 s8)) (hA:A q) (ht:TreeAt (fun b=>A b∧b≠q) w (.node k8 n8 m8 a8 ks) (kidV k8 n8 m8 a8 s8)):TreeAt A w (.node k n m a [.node k8 n8 m8 a8 ks]) (kidV k n m a (.slice (some ⟨q,0,none⟩) 1 1)):=
 treeAt_node.2 ⟨_,rfl,zbd (ks:=[.node k8 n8 m8 a8 ks]) h (by simp) hA (zay ht)⟩
theorem zcd (s:RS):muS s=2*s.n+(if s.e=0 then 1 else 0):=rfl
theorem zi4 (k a:Int) (s:ByteArray) (o:Option Addr) (n c:Nat) (w:World):(Instr.build 29 #[(0,.int .i64 k),(1,.string s),(3,.int .i64 a),(4,.slice o n c)]).run Tryz.prog w=.ok (.agg #[.int .i64 k,.string s,.int .i64 0,.int .i64 a,.slice o n c]) w:=by kernel_rfl
theorem zfv (p g cap:Nat) (ts:List Tok) (hE:Ends ts) (d:Int) (s:RS) (w:World) (h:DS w p g cap ts d s):
 Calls Tryz.prog 82 #[.pointer (some ⟨p,0,none⟩)] w (zdh p g cap ts d (zbq w.heap.size) (ze7 s) w):=by
 have Ak:Hid (p<w.heap.size∧g<w.heap.size):=⟨h.plt,h.glt⟩;have Cu:Hid (∀ w1 s1,DS w1 p g cap ts d s1->s1.n<=16001):=fun w1 s1 h1=>by
  obtain ⟨i,h2,h3⟩:=h1;unfold RS.n;rw [h2,List.length_drop];have:=h3.ln;omega
 obtain ⟨R,hR⟩:∃ R,ze7 s=R:=⟨_,rfl⟩;rw [hR];have HR:=hid (hR.symm);have HD:=hid h;have HS:Hid (Sole p w w):=Sole.refl _ _;have qb:=zi4;clear h hR;go_enter Tryz.func82,Tryz.ntmps82
 go_wp2_with fail
 refine (zak p g cap ts hE d [123] (by simp) s _ HD.out).mono ?_;rintro e w1 ⟨rfl,hD,hS⟩;have Cv:=hid hS;have Bz:=hid hD;have Cw:=hid (HS.out.trans Cv.out);clear hD hS;obtain ⟨s1,hs1⟩:∃ x,s.want [123]=x:=⟨_,rfl⟩;have Cx:Hid (R=zcq (s1.n+1) [] s1):=by
  show _=_;rw [HR.out];unfold ze7 RS.n;rw [hs1]
 rw [hs1] at Bz;clear hs1;have Ca:=hid (Cu.out _ _ Bz.out);go_wp2_with fail
 go_loopw [3] (fun sl wr=>∃ (acc:List Tree) (N:Nat) (oq:Option Addr) (cq:Nat) (st:RS) (f:Nat),sl=.slice oq N cq∧Hid (DS wr p g cap ts d st)∧Hid (Sole p w wr)∧Hid (zbq w.heap.size acc wr (.slice oq N cq))∧Hid (R=zcq f acc st)∧Hid (N+f=s1.n+1∧(st.e=0->st.n<f))) (fun _ wr=>mu p ts.length wr)
 case atStart => exact ⟨[],0,none,0,s1,s1.n+1,rfl,Bz,Cw,listAt_nil,Cx,⟨by omega,fun _=>by omega⟩⟩
 case round =>
  obtain ⟨acc,N,oq,cq,st,f,rfl,Bw,Cm,Cy,Cn,Bb⟩:=hrel;have Bx:Hid (mu p ts.length wr=muS st):=zd5 Bw.out;obtain ⟨e3,e2⟩:=Bw.out.e_cell;obtain ⟨EE,hEE⟩:∃ x,st.e=x:=⟨_,rfl⟩;have Al:=hid hEE;rw [hEE] at e3;clear hEE;by_cases he:EE=0
  case neg =>
   have he2:(EE==0)=false:=by simp [he]
   have Ar:Hid (R=([],st)):=Cn.out.trans (zd6 (by rw [Al.out];exact he) f acc);go_wp2;go_ret;rw [Ar.out];exact ⟨_,rfl,listAt_nil,Bw.out,Cm.out⟩
  subst he;obtain ⟨f,rfl⟩:∃ f' : Nat,f=f'+1:=⟨f-1,by have:=Bb.out.2 Al.out;omega⟩;have Ar:Hid (R=(if (zao ((zav st).2.want [61])).2.is [125] then (acc++[zar 5 (zav st).1 [(zao ((zav st).2.want [61])).1]],(zao ((zav st).2.want [61])).2.adv)
    else zcq f (acc++[zar 5 (zav st).1 [(zao ((zav st).2.want [61])).1]]) ((if (zao ((zav st).2.want [61])).2.is [44]&&(acc++[zar 5 (zav st).1 [(zao ((zav st).2.want [61])).1]]).length==64 then (zao ((zav st).2.want [61])).2.fail 42 else (zao ((zav st).2.want [61])).2).want [44]))):=by
   show _=_;rw [Cn.out,zcq,Al.out];rfl
  go_wp2_with fail
  refine (zco p g cap ts hE d st _ Bw.out).mono ?_;rintro e w11 ⟨v,rfl,rfl,hD,hS⟩;have Be:=hid hS;have Au:=hid hD;have Bf:=hid (Cm.out.trans Be.out);have Am:=hid (ListAt.sole Cy.out (by intro b hb;have hpg:=Ak.out.1;have hb2:=hb;first | (unfold zaf at hb2;omega) | exact (Aq.out b hb)) Be.out);clear hD hS;obtain ⟨nm,hnm⟩:∃ x,(zav st).1=x:=⟨_,rfl⟩;obtain ⟨sn,hsn⟩:∃ x,(zav st).2=x:=⟨_,rfl⟩;have Cz:Hid (sn.n<=st.n):=by show _<=_;rw [<- hsn];exact zfe st
  rw [hnm,hsn] at Ar;rw [hnm];rw [hsn] at Au;clear hnm hsn;go_wp2_with fail
  refine (zak p g cap ts hE d [61] (by simp) sn _ Au.out).mono ?_;rintro e w12 ⟨rfl,hD,hS⟩;have Bg:=hid hS;have Bh:=hid hD;have Av:=hid (Bf.out.trans Bg.out);have Ac:=hid (ListAt.sole Am.out (by intro b hb;have hpg:=Ak.out.1;have hb2:=hb;first | (unfold zaf at hb2;omega) | exact (Aq.out b hb)) Bg.out);clear hD hS;go_wp2_with fail
  have Cb:=hid (Sole.size Av.out);refine (zck p g cap ts hE d (sn.want [61]) _ Bh.out).mono ?_;rintro e w13 ⟨v,rfl,hv,hD,hS⟩;have Aw:=hid hS;have Ax:=hid hD;have Bi:=hid (Av.out.trans Aw.out);have Ab:=hid (ListAt.sole Ac.out (by intro b hb;have hpg:=Ak.out.1;have hb2:=hb;first | (unfold zaf at hb2;omega) | exact (Aq.out b hb)) Aw.out);obtain ⟨k13,n13,m13,a13,ks13,o13,l13,c13,he13,rfl⟩:=zam hv;have Ay:=hid he13;clear he13;have Az:=hid hv;clear hv hD hS;obtain ⟨tv,htv⟩:∃ x,(zao (sn.want [61])).1=x:=⟨_,rfl⟩;obtain ⟨sv,hsv⟩:∃ x,(zao (sn.want [61])).2=x:=⟨_,rfl⟩;have Ai:Hid (sv.n<=st.n):=by show _<=_;rw [<- hsv];exact Nat.le_trans (zin _) (Nat.le_trans (za4 _ _) Cz.out)
  rw [htv,hsv] at Ar;rw [htv] at Az Ay;rw [hsv] at Ax;clear htv hsv;obtain ⟨wb,hwb⟩:∃ x,w13.alloc (.cells #[.int .i64 k13,.string ⟨n13.toArray⟩,.int .i64 m13,.int .i64 a13,.slice o13 l13 c13] 29)=x:=⟨_,rfl⟩;obtain ⟨wc,hwc⟩:∃ x,wb.alloc (.cells #[.int .i64 5,.string ⟨nm.1.toArray⟩,.int .i64 0,.int .i64 nm.2,.slice (some ⟨w13.heap.size,0,none⟩) 1 1] 29)=x:=⟨_,rfl⟩;have Bj:Hid (Below w13.heap.size w13 wc∧wb.heap.size=w13.heap.size+1):=⟨by rw [<- hwc,<- hwb];exact (zab _ _).alloc (by simp) _,by rw [<- hwb];simp⟩;have Co:=hid (Ax.out.below Bj.out.1);have Cc:=hid (Bi.out.trans (Sole.of_below Bj.out.1));have Cp:=hid (ListAt.below Ab.out Bj.out.1);have Cq:Hid (wc.heap[w13.heap.size]?=some (kidO k13 n13 m13 a13 (.slice o13 l13 c13))):=by show _=_;rw [<- hwc];exact za3 (by rw [<- hwb];exact heap_alloc_new _ _)
  have Cr:Hid (wc.heap[wb.heap.size]?=some (kidO 5 nm.1 0 nm.2 (.slice (some ⟨w13.heap.size,0,none⟩) 1 1))):=by show _=_;rw [<- hwc];exact heap_alloc_new _ _
  have Cd:Hid (∀ q,(Value.slice oq N cq).ownBlock=some q->w.heap.size<=q∧q<w12.heap.size):=fun q e=>by
   have h1:=zb2 Ac.out e;exact ⟨h1.1,h1.2⟩
  have Cs:Hid (TreeAt (fun b=>zaf w.heap.size b∧(Value.slice oq N cq).ownBlock≠some b) wc (.node 5 nm.1 0 nm.2 [.node k13 n13 m13 a13 ks13]) (kidV 5 nm.1 0 nm.2 (.slice (some ⟨w13.heap.size,0,none⟩) 1 1))):=by
   have h1:=Cb.out;have h2:=Aw.out.size;have h4:treeIs w12.heap.size (.node k13 n13 m13 a13 ks13) w13 (kidV k13 n13 m13 a13 (.slice o13 l13 c13)):=by rw [<- Ay.out];exact Az.out
   have h3:=TreeAt.there _ _ h4;refine node1 Cq.out ⟨by unfold zaf;omega,fun e=>by have:=Cd.out _ e;omega⟩ ((TreeAt.below h3 Bj.out.1).weaken (fun b hb=>?_));have hb1:w12.heap.size<=b:=hb.1;exact ⟨⟨by unfold zaf;omega,fun e=>by have:=Cd.out b e;omega⟩,Nat.ne_of_lt hb.2⟩
  have Da:Hid (N<=20000):=by show _<=_;have:=Bb.out.1;have:=Ca.out;omega
  have Ct:Hid (zaf w.heap.size wc.heap.size):=by show _<=_;exact Cc.out.size
  obtain ⟨nt,na⟩:=nm;unfold kidV;go_wp2_with (at_builtin;refine zim _ rfl _ _ rfl (zaf w.heap.size) acc oq N cq Cp.out rfl Da.out wb.heap.size 5 0 nt na [.node k13 n13 m13 a13 ks13] (some ⟨w13.heap.size,0,none⟩) 1 1 rfl Cr.out Cs.out Ct.out ?_;intro gq cq2 w6 hA;have Ce:=hid hA;clear hA)
  have Cf:=hid (Ce.out.ds Co.out Cc.out (fun q e=>(Cd.out q e).1) Ak.out.1 Ak.out.2);have Db:=hid Cf.out.1;have Dc:=hid Cf.out.2;have Dd:=hid (Ce.out.list);rw [Ay.out] at Ar;clear hwb hwc Cf Ce Co Cc Cp Cq Cr Cs Ct Bj Az Au Bh Ax Bf Av Bi Am Ac Ab;refine (zci p g cap ts hE d [125] (by simp) sv _ Db.out).mono ?_;rintro e w21 ⟨rfl,hD,hS⟩;have Bl:=hid hS;have An:=hid hD;have Bm:=hid (Dc.out.trans Bl.out);have Aj:=hid (ListAt.sole Dd.out (by intro b hb;have hpg:=Ak.out.1;have hb2:=hb;first | (unfold zaf at hb2;omega) | exact (Aq.out b hb)) Bl.out);clear hD hS;cases hb1:sv.is [125] with
  | true =>
   have Bc:Hid (R=(acc++[(Tree.node 5 nt 0 na [Tree.node k13 n13 m13 a13 ks13])],sv.may [125])):=by
    show _=_;rw [Ar.out];unfold RS.may zar;rw [hb1];rfl
   clear hb1;go_wp2;go_ret;rw [Bc.out];exact ⟨_,rfl,Aj.out,An.out,Bm.out⟩
  | false =>
   have Bc:Hid (R=zcq f (acc++[(Tree.node 5 nt 0 na [Tree.node k13 n13 m13 a13 ks13])]) ((if sv.is [44]&&(acc++[(Tree.node 5 nt 0 na [Tree.node k13 n13 m13 a13 ks13])]).length==64 then sv.fail 42 else sv).want [44])):=by
    show _=_;rw [Ar.out];rw [hb1];rfl
   rw [show sv.may [125]=sv by unfold RS.may;rw [hb1];rfl] at An;have De:Hid ((acc++[(Tree.node 5 nt 0 na [Tree.node k13 n13 m13 a13 ks13])]).length=N+1):=zf9 Aj.out;rw [De.out] at Bc;clear hb1;go_wp2_with fail
   refine (zd8 p g cap ts d [44] sv _ An.out).mono ?_;rintro e w22 ⟨rfl,hB⟩;have Ba:=hid hB;have Ao:=hid (An.out.below Ba.out);have Ap:=hid (Bm.out.trans (Sole.of_below Ba.out));have Aa:=hid (ListAt.below Aj.out Ba.out);clear hB;by_cases h64:N+1=64
   case neg =>
    have j64:((N:Int)+1==64)=false:=(by simp;omega);have Bd:Hid (R=zcq f (acc++[(Tree.node 5 nt 0 na [Tree.node k13 n13 m13 a13 ks13])]) (sv.want [44])):=by
     show _=_;rw [Bc.out,show (N+1==64)=false by simp;omega,Bool.and_false];rfl
    clear h64;cases hb2:sv.is [44]
    ·  skip
       (go_wp2_with fail);refine (zak p g cap ts hE d [44] (by simp) sv _ Ao.out).mono ?_;rintro e w23 ⟨rfl,hD,hS⟩;have Bn:=hid hS;have Bo:=hid hD;have Cg:=hid (Ap.out.trans Bn.out);have Ae:=hid (ListAt.sole Aa.out (by intro b hb;have hpg:=Ak.out.1;have hb2:=hb;first | (unfold zaf at hb2;omega) | exact (Aq.out b hb)) Bn.out);clear hD hS;go_wp2;go_roundw
       case rel =>
        refine ⟨acc++[(Tree.node 5 nt 0 na [Tree.node k13 n13 m13 a13 ks13])],N+1,some ⟨gq,0,none⟩,cq2,_,f,rfl,Bo,Cg,Ae,Bd,?_⟩;have h1:=Bb.out;refine ⟨by omega,fun h0=>?_⟩;have h2:=zkn (by simp) h0;have h3:=h1.2 Al.out;have h4:sv.n<=st.n:=Ai.out;omega
       case measure =>
        rw [zd5 Bo.out,Bx.out,zcd,zcd];exact zcs (by simp) Ai.out Al.out
    ·  skip
       (go_wp2_with fail);refine (zak p g cap ts hE d [44] (by simp) sv _ Ao.out).mono ?_;rintro e w24 ⟨rfl,hD,hS⟩;have Bp:=hid hS;have Bq:=hid hD;have Ch:=hid (Ap.out.trans Bp.out);have Af:=hid (ListAt.sole Aa.out (by intro b hb;have hpg:=Ak.out.1;have hb2:=hb;first | (unfold zaf at hb2;omega) | exact (Aq.out b hb)) Bp.out);clear hD hS;go_wp2;go_roundw
       case rel =>
        refine ⟨acc++[(Tree.node 5 nt 0 na [Tree.node k13 n13 m13 a13 ks13])],N+1,some ⟨gq,0,none⟩,cq2,_,f,rfl,Bq,Ch,Af,Bd,?_⟩;have h1:=Bb.out;refine ⟨by omega,fun h0=>?_⟩;have h2:=zkn (by simp) h0;have h3:=h1.2 Al.out;have h4:sv.n<=st.n:=Ai.out;omega
       case measure =>
        rw [zd5 Bq.out,Bx.out,zcd,zcd];exact zcs (by simp) Ai.out Al.out
   have j64:((N:Int)+1==64)=true:=by simp;omega
   have H64:=hid h64;clear h64;cases hb2:sv.is [44] with
   | false =>
    have Bd:Hid (R=zcq f (acc++[(Tree.node 5 nt 0 na [Tree.node k13 n13 m13 a13 ks13])]) (sv.want [44])):=by
     show _=_;rw [Bc.out,hb2];rfl
    (go_wp2_with fail);refine (zak p g cap ts hE d [44] (by simp) sv _ Ao.out).mono ?_;rintro e w25 ⟨rfl,hD,hS⟩;have Br:=hid hS;have Bs:=hid hD;have Ci:=hid (Ap.out.trans Br.out);have Ag:=hid (ListAt.sole Aa.out (by intro b hb;have hpg:=Ak.out.1;have hb2:=hb;first | (unfold zaf at hb2;omega) | exact (Aq.out b hb)) Br.out);clear hD hS;go_wp2;go_roundw
    case rel =>
     refine ⟨acc++[(Tree.node 5 nt 0 na [Tree.node k13 n13 m13 a13 ks13])],N+1,some ⟨gq,0,none⟩,cq2,_,f,rfl,Bs,Ci,Ag,Bd,?_⟩;have h1:=Bb.out;refine ⟨by omega,fun h0=>?_⟩;have h2:=zkn (by simp) h0;have h3:=h1.2 Al.out;have h4:sv.n<=st.n:=Ai.out;omega
    case measure =>
     rw [zd5 Bs.out,Bx.out,zcd,zcd];exact zcs (by simp) Ai.out Al.out
   | true =>
    have Bd:Hid (R=zcq f (acc++[(Tree.node 5 nt 0 na [Tree.node k13 n13 m13 a13 ks13])]) ((sv.fail 42).want [44])):=by
     show _=_;rw [Bc.out,hb2,H64.out];rfl
    (go_wp2_with fail);refine (zbs p g cap ts d 42 sv _ Ao.out).mono ?_;rintro e w26 ⟨rfl,hD,hS⟩;have Bt:=hid hS;have Cj:=hid hD;have Ck:=hid (Ap.out.trans Bt.out);have Ah:=hid (ListAt.sole Aa.out (by intro b hb;have hpg:=Ak.out.1;have hb2:=hb;first | (unfold zaf at hb2;omega) | exact (Aq.out b hb)) Bt.out);clear hD hS;(go_wp2_with fail);refine (zak p g cap ts hE d [44] (by simp) (sv.fail 42) _ Cj.out).mono ?_;rintro e w27 ⟨rfl,hD,hS⟩;have Bu:=hid hS;have Bv:=hid hD;have Cl:=hid (Ck.out.trans Bu.out);have Ad:=hid (ListAt.sole Ah.out (by intro b hb;have hpg:=Ak.out.1;have hb2:=hb;first | (unfold zaf at hb2;omega) | exact (Aq.out b hb)) Bu.out);clear hD hS;go_wp2;go_roundw
    case rel =>
     refine ⟨acc++[(Tree.node 5 nt 0 na [Tree.node k13 n13 m13 a13 ks13])],N+1,some ⟨gq,0,none⟩,cq2,_,f,rfl,Bv,Cl,Ad,Bd,?_⟩;have h1:=Bb.out;refine ⟨by omega,fun h0=>?_⟩;have h2:=zkn (by simp) h0;have h3:=h1.2 Al.out;have h4:(sv.fail 42).n<=st.n:=(by rw [zew];exact Ai.out);omega
    case measure =>
     rw [zd5 Bv.out,Bx.out,zcd,zcd];exact zcs (by simp) (by rw [zew];exact Ai.out) Al.out
end Go.Proofs.YtighggeokiahfaaGreatDoor.Dm
