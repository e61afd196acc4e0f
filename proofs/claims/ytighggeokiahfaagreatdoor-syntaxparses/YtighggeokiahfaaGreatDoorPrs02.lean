import Derived.Test.YtighggeokiahfaaGreatDoorPrs01
import Derived.Deep.RegionHeldLaw
import Derived.Deep.RegionLaw
set_option maxRecDepth 4000
set_option maxHeartbeats 20000000
namespace Go.Proofs.YtighggeokiahfaaGreatDoor
open Go.RowKit
theorem node_one' {B B4 q:Nat} {w5 wz:World} {k9 m9 k m:Int} {n9 n:List UInt8} {a9 a:Nat} {ks9:List Tree} {sl:Value} (hT:treeIs B4 (.node k9 n9 m9 a9 ks9) w5 (kidV k9 n9 m9 a9 sl)) (hB:B<=B4) (hq:w5.heap.size<=q) (hBq:B<=q)
 (hf:∀ b,B4<=b->b<w5.heap.size->wz.heap[b]?=w5.heap[b]?) (h:wz.heap[q]?=some (zdr [.int .i64 k9,.string ⟨n9.toArray⟩,.int .i64 m9,.int .i64 a9,sl])) :
 treeIs B (.node k n m a [.node k9 n9 m9 a9 ks9]) wz (kidV k n m a (.slice (some ⟨q,0,none⟩) 1 1)):=by
 refine treeAt_node.2 ⟨_,rfl,_,zf7 h rfl (by omega),fun g e=>by cases e;exact hBq,zay ?_⟩;refine TreeAt.frame (fun b hb=>⟨Nat.le_trans hB hb.1,fun e=>?_⟩) (fun b hb hl=>hf b hb.1 hl) _ _ (TreeAt.there _ _ hT);have e2:q=b:=Option.some.inj e;exact absurd hb.2 (by omega)
def zde (B:PS->Ans Tree) (s:PS):Ans Tree :=
 (zcw 9 s).bind fun e s=>(s.want [58]).bind fun _ s=>(za8 B s).bind fun t s =>
   match e with
   | .node k n m i _=>.ok (.node k n m i [t]) s
theorem zny (p g cap:Nat) (ts:List Tok) (hE:Ends ts) (d:Int) (B:PS->Ans Tree) (hF:zd2 p g cap ts d 145 (za8 B)) (i:Nat) (full:Bool) (w:World) (h:PP w p g cap ts i d full) (hba:zbv p w) (hi:i+1<ts.length) :
 Calls Tryz.prog 148 #[.pointer (some ⟨p,0,none⟩)] w (zai p g cap ts d (treeIs w.heap.size) (zde B (PSof ts i full)) w):=by
 have HP:Hid (p<w.heap.size∧g<w.heap.size):=⟨h.plt,h.glt⟩;have HE:Hid (Ends ts):=hE;have Ak:Hid (zbv p w):=hba;have HF:Hid (zd2 p g cap ts d 145 (za8 B)):=hF;have HN:Hid (∀ w1,Below w.heap.size w w1->Calls Tryz.prog 112 #[.pointer (some ⟨p,0,none⟩),.int .i64 9] w1 (zai p g cap ts d (treeIs w1.heap.size) (zcw 9 (PSof ts i full)) w1)):=fun w1 hB=>zgq p g cap ts i d 9 full w1 (h.below hB) hi;obtain ⟨R,hR⟩:∃ R,zde B (PSof ts i full)=R:=⟨_,rfl⟩;rw [hR];obtain ⟨rn,hrn⟩:∃ rn,zcw 9 (PSof ts i full)=rn:=⟨_,rfl⟩;have HR:Hid (R=rn.bind fun e s=>(s.want [58]).bind fun _ s=>(za8 B s).bind fun t s =>
  match e with
  | .node k n m i _=>.ok (.node k n m i [t]) s):=by
  show _=_;rw [<- hR,<- hrn];rfl
 rw [hrn] at HN;clear h hE hrn hR hF hi hba;go_enter Tryz.func148,Tryz.ntmps148
 go_wp2_with fail
 have HB:Hid (Below w.heap.size w (w.alloc (.cells #[.int .i64 0,.string ⟨#[]⟩,.int .i64 0,.int .i64 0,.slice none 0 0] 29))):=(Below.refl _ _).alloc (Nat.le_refl _) _;refine (HN.out _ HB.out).mono ?_;cases rn with
 | no why at_ =>
  rintro e w2 ⟨rfl,hS⟩;have HS:Hid (Sole p w w2):=(Sole.of_below HB.out).trans hS;clear hS;go_wp2;refine ⟨rfl,?_⟩;rw [HR.out];exact ⟨rfl,HS.out⟩
 | ok t st =>
  rintro e w2 ⟨v,i,full,rfl,hT,rfl,hP,hS⟩;obtain ⟨k8,n8,m8,a8,ks8⟩:=t;obtain ⟨sl,rfl,hL⟩:=treeAt_node.1 hT;obtain ⟨o8,len8,cap8,rfl⟩:=hL.shape;have hlt:w.heap.size<w2.heap.size:=by have:=hS.size;simp at this;omega
  obtain ⟨w3,hw3⟩:∃ w3,w2.alloc (.cells #[.int .i64 k8,.string ⟨n8.toArray⟩,.int .i64 m8,.int .i64 a8,.slice o8 len8 cap8] 29)=w3:=⟨_,rfl⟩;have hB3:Below w2.heap.size w2 w3:=by rw [<- hw3];exact (Below.refl _ _).alloc (Nat.le_refl _) _
  have hs3:w3.heap.size=w2.heap.size+1:=by rw [<- hw3];simp
  have Al:Hid (PP w3 p g cap ts i d full):=hP.below hB3;have Ad:Hid (Sole p w w3):=((Sole.of_below HB.out).trans hS).trans (Sole.of_below hB3);have Am:Hid (Tre w3 w.heap.size):=((Tre.made w 29).block (hS.block w.heap.size (by simp) (Nat.ne_of_gt HP.out.1))).block (hB3.block w.heap.size hlt);have An:Hid (KidAt w3 w2.heap.size k8 n8 m8 a8 (.slice o8 len8 cap8)):=by show KidAt _ _ _ _ _ _ _;rw [<- hw3];exact KidAt.made _ _ _ _ _ _ _
  have Ao:Hid (w3.frozen? ⟨w2.heap.size,4,none⟩=false):=by show _=_;rw [<- hw3];simp
  have Aa:Hid (w.heap.size<w2.heap.size∧w3.heap.size=w2.heap.size+1):=⟨hlt,hs3⟩;have Ae:Hid (Calls Tryz.prog 41 #[.pointer (some ⟨p,0,none⟩),.slice (some ⟨w3.heap.size,0,none⟩) 1 1] (w3.alloc (.cells #[.string ⟨#[58]⟩] 9)) (zai p g cap ts d zf3 ((PSof ts i full).want [58]) w3)):=zbr p g cap ts HE.out i d full [58] (by simp) w3 Al.out;obtain ⟨ru,hru⟩:∃ r,(PSof ts i full).want [58]=r:=⟨_,rfl⟩;have Af:Hid (R=ru.bind fun _ s=>(za8 B s).bind fun t s=>.ok (.node k8 n8 m8 a8 [t]) s):=by
   show _=_;rw [HR.out,<- hru];rfl
  rw [hru] at Ae;clear hP hS hB3 hlt hs3 hru hT hL;unfold kidV;go_wp2_with fail
  refine Ae.out.mono ?_;cases ru with
  | no why at_ =>
   rintro e w4 ⟨rfl,hS⟩;have HS:Hid (Sole p w w4):=Ad.out.trans hS;clear hS;go_wp2;refine ⟨rfl,?_⟩;rw [Af.out];exact ⟨rfl,HS.out⟩
  | ok u st =>
   rintro e w4 ⟨v,i,full,rfl,rfl,rfl,hP,hS⟩;have hp:=HP.out.1;have hl:=Aa.out;have hs:=hS.size;have Ab:Hid (Sole p w w4):=Ad.out.trans hS;have Ap:Hid (Tre w4 w.heap.size):=Am.out.block (hS.block _ (by omega) (by omega));have Ag:Hid (KidAt w4 w2.heap.size k8 n8 m8 a8 (.slice o8 len8 cap8)∧w4.frozen? ⟨w2.heap.size,4,none⟩=false):=⟨An.out.block (hS.block _ (by omega) (by omega)),(zac (hS.block w2.heap.size (by omega) (by omega)) 4).2.trans Ao.out⟩;have Ah:Hid (w2.heap.size<w4.heap.size):=by show _<_;omega
   have Ai:Hid (Calls Tryz.prog 145 #[.pointer (some ⟨p,0,none⟩)] w4 (zai p g cap ts d (treeIs w4.heap.size) (za8 B (PSof ts i full)) w4)):=HF.out i full w4 hP (Ak.out.sole Ab.out);obtain ⟨rv,hrv⟩:∃ r,za8 B (PSof ts i full)=r:=⟨_,rfl⟩;have Aj:Hid (R=rv.bind fun t s=>.ok (.node k8 n8 m8 a8 [t]) s):=by
    show _=_;rw [Af.out,<- hrv];rfl
   rw [hrv] at Ai;clear hP hS hp hl hs hrv;go_wp2_with fail
   refine Ai.out.mono ?_;cases rv with
   | no why at_ =>
    rintro e w5 ⟨rfl,hS⟩;have HS:Hid (Sole p w w5):=Ab.out.trans hS;clear hS;go_wp2;refine ⟨rfl,?_⟩;rw [Aj.out];exact ⟨rfl,HS.out⟩
   | ok tv st =>
    rintro e w5 ⟨v,i,full,rfl,hT,rfl,hP,hS⟩;obtain ⟨k9,n9,m9,a9,ks9⟩:=tv;obtain ⟨sl,rfl,hL⟩:=treeAt_node.1 hT;obtain ⟨o9,len9,cap9,rfl⟩:=hL.shape;have hp:=HP.out;have hl:=Aa.out;have hl4:=Ah.out;have hs:=hS.size;have Aq:Hid (treeIs w4.heap.size (.node k9 n9 m9 a9 ks9) w5 (kidV k9 n9 m9 a9 (.slice o9 len9 cap9))):=hT;have Ar:Hid (PP w5 p g cap ts i d full):=hP;obtain ⟨wq,hwq⟩:∃ wq,w5.alloc (.cells #[.int .i64 k9,.string ⟨n9.toArray⟩,.int .i64 m9,.int .i64 a9,.slice o9 len9 cap9] 29)=wq:=⟨_,rfl⟩;have hBq:Below w5.heap.size w5 wq:=(by rw [<- hwq];exact (Below.refl _ _).alloc (Nat.le_refl _) _);have Ac:Hid (Below w5.heap.size w5 wq∧w2.heap.size<w5.heap.size∧wq.heap[w5.heap.size]?=some (zdr [.int .i64 k9,.string ⟨n9.toArray⟩,.int .i64 m9,.int .i64 a9,.slice o9 len9 cap9])):=⟨hBq,by omega,by rw [<- hwq];exact heap_alloc_new _ _⟩;have Au:Hid (Sole p w wq):=(Ab.out.trans hS).trans (Sole.of_below hBq);have e2:=(hBq.block w2.heap.size (by omega)).trans (hS.block w2.heap.size hl4 (by omega));obtain ⟨t0,t1,t2,t3,t4⟩:=Ag.out.1.block e2;have y44:=(zac e2 4).2.trans Ag.out.2;obtain ⟨z0,z1,z2,z3,z4,y0,y1,y2,y3,y4⟩:=(Ap.out.block (hS.block w.heap.size (by omega) (by omega))).block (hBq.block w.heap.size (by omega));have hne:¬ w2.heap.size=w.heap.size:=(by omega);have hne2:¬ w.heap.size=w2.heap.size:=(by omega);clear hP hS hT hL hs hp hl hl4 e2 hBq;unfold kidV;go_wp2;have hbx:∀ b,b≠w2.heap.size->(wq.setCell ⟨w2.heap.size,4,none⟩ (.slice (some ⟨w5.heap.size,0,none⟩) 1 1)).heap[b]?=wq.heap[b]?:=fun b hb=>Below.heap_setCell _ _ _ _ hb;have hBx:Below w.heap.size wq (wq.setCell ⟨w2.heap.size,4,none⟩ (.slice (some ⟨w5.heap.size,0,none⟩) 1 1)):=Below.setCell (p:=⟨w2.heap.size,4,none⟩) (Below.refl _ _) (Nat.le_of_lt Aa.out.1) _;generalize wq.setCell ⟨w2.heap.size,4,none⟩ (.slice (some ⟨w5.heap.size,0,none⟩) 1 1)=wx at hbx hBx ⊢;have ex:wx.heap[w.heap.size]?=wq.heap[w.heap.size]?:=hbx _ hne2;have q:=res5 wx w.heap.size (.int .i64 k8) (.string ⟨n8.toArray⟩) (.int .i64 m8) (.int .i64 a8) (.slice (some ⟨w5.heap.size,0,none⟩) 1 1) ((zac ex 0).1.trans z0) ((zac ex 1).1.trans z1) ((zac ex 2).1.trans z2) ((zac ex 3).1.trans z3) ((zac ex 4).1.trans z4);have hBz:=zan wx w.heap.size w.heap.size (.int .i64 k8) (.string ⟨n8.toArray⟩) (.int .i64 m8) (.int .i64 a8) (.slice (some ⟨w5.heap.size,0,none⟩) 1 1) (Nat.le_refl _);have hbt:=zbf wx w.heap.size (.int .i64 k8) (.string ⟨n8.toArray⟩) (.int .i64 m8) (.int .i64 a8) (.slice (some ⟨w5.heap.size,0,none⟩) 1 1);generalize ((((wx.setCell ⟨w.heap.size,0,none⟩ (.int .i64 k8)).setCell ⟨w.heap.size,1,none⟩ (.string ⟨n8.toArray⟩)).setCell ⟨w.heap.size,2,none⟩ (.int .i64 m8)).setCell ⟨w.heap.size,3,none⟩ (.int .i64 a8)).setCell ⟨w.heap.size,4,none⟩ (.slice (some ⟨w5.heap.size,0,none⟩) 1 1)=wz at q hBz hbt ⊢;obtain ⟨q0,q1,q2,q3,q4⟩:=q;have hl:=Aa.out;have hl4:=Ah.out;have hl25:=Ac.out.2.1;have hp:=HP.out;have hzq:∀ b,b≠w.heap.size->b≠w2.heap.size->wz.heap[b]?=wq.heap[b]?:=fun b h1 h2=>(hbt b h1).trans (hbx b h2)
    have hz5:∀ b,b<w5.heap.size->b≠w.heap.size->b≠w2.heap.size->wz.heap[b]?=w5.heap[b]?:=fun b hb h1 h2=>(hzq b h1 h2).trans (Ac.out.1.block b hb);refine bodyPost_ret (v:=.agg #[.int .i64 k8,.string ⟨n8.toArray⟩,.int .i64 m8,.int .i64 a8,.slice (some ⟨w5.heap.size,0,none⟩) 1 1]) (by simp [results,Tryz.results148,go_sem,q0,q1,q2,q3,q4]) rfl ?_;rw [Aj.out];exact ⟨_,_,_,rfl,node_one' Aq.out (by omega) (Nat.le_refl w5.heap.size) (by omega) (fun b hb hl5=>hz5 b hl5 (by omega) (by omega)) ((hzq _ (by omega) (by omega)).trans Ac.out.2.2),rfl,Ar.out.of_blocks (hz5 p (by omega) (by omega) (by omega)) (hz5 g (by omega) (by omega) (by omega)),(Au.out.below_after hBx).below_after hBz⟩
theorem version_no (p a:Nat) (w:World)
 (H0:Hid (∀ w1,Below w.heap.size w w1->Calls Tryz.prog 75 #[.pointer (some ⟨p,0,none⟩),.string ⟨#[118,101,114,115,105,111,110]⟩] w1 fun e w'=>e=.returned (.bool false)∧Below w1.heap.size w1 w'))
 (HW:Hid (∀ w1,Below w.heap.size w w1->Calls Tryz.prog 74 #[.pointer (some ⟨p,0,none⟩),.int .i64 40] w1 fun e w'=>e=.returned (.agg #[.int .i64 40,.int .i64 a])∧Below w1.heap.size w1 w')) :
 Calls Tryz.prog 73 #[.pointer (some ⟨p,0,none⟩)] w fun e w'=>e=.panicked [{ v:=.iface 50 (.agg #[.int .i64 40,.int .i64 a]),recovered:=false }]∧Below w.heap.size w w':=by
 go_enter Tryz.func73,Tryz.ntmps73
 go_wp2_with fail
 refine (H0.out _ ((Below.refl _ _).alloc (Nat.le_refl _) _)).mono ?_;rintro e w1 ⟨rfl,hB⟩;have HB:=hid (((Below.refl _ _).alloc (Nat.le_refl _) _).trans (hB.mono (by simp)));clear hB;go_wp2_with fail
 refine (HW.out _ HB.out).mono ?_;rintro e w2 ⟨rfl,hB⟩;have Aa:=hid (HB.out.trans (hB.mono HB.out.size));clear hB;go_wp2;exact ⟨rfl,rfl,Aa.out⟩
theorem version_yes (p g cap:Nat) (ts:List Tok) (hE:Ends ts) (d:Int) (F:PS->Ans Tree) (i:Nat) (full:Bool) (w:World) (h:PP w p g cap ts i d full)
 (H0:Hid (∀ w1,Below w.heap.size w w1->Calls Tryz.prog 75 #[.pointer (some ⟨p,0,none⟩),.string ⟨#[118,101,114,115,105,111,110]⟩] w1 fun e w'=>e=.returned (.bool true)∧Below w1.heap.size w1 w'))
 (HN:Hid (∀ w1,Below w.heap.size w w1->Calls Tryz.prog 72 #[.pointer (some ⟨p,0,none⟩),.int .i64 11,.func (.func 119) #[.pointer (some ⟨p,0,none⟩)] #[]] w1 (zai p g cap ts d (treeIs w1.heap.size) (F (PSof ts i full)) w1))) :
 Calls Tryz.prog 73 #[.pointer (some ⟨p,0,none⟩)] w (zai p g cap ts d (treeIs w.heap.size) ((F (PSof ts i full)).bind fun t s=>(s.want [59]).bind fun _ s=>.ok t s) w):=by
 have HP:=hid2 h.plt h.glt;have HE:=hid hE;obtain ⟨rn,hrn⟩:∃ rn,F (PSof ts i full)=rn:=⟨_,rfl⟩;rw [hrn] at HN ⊢;obtain ⟨R,hR⟩:∃ R,(rn.bind fun t s=>(s.want [59]).bind fun _ s=>Ans.ok t s)=R:=⟨_,rfl⟩;rw [hR];have HR:=hid hR.symm;clear h hE hrn hR;go_enter Tryz.func73,Tryz.ntmps73
 go_wp2_with fail
 refine (H0.out _ ((Below.refl _ _).alloc (Nat.le_refl _) _)).mono ?_;rintro e w1 ⟨rfl,hB⟩;have HB:=hid (((Below.refl _ _).alloc (Nat.le_refl _) _).trans (hB.mono (by simp)));have Aa:Hid (Tre w1 w.heap.size∧w.heap.size<w1.heap.size):=⟨(Tre.made w 29).block (hB.block _ (by simp)),by have:=hB.size;simp at this;omega⟩;clear hB;go_wp2_with fail
 refine (HN.out _ HB.out).mono ?_;cases rn with
 | no why at_ =>
  rintro e w2 ⟨rfl,hS⟩;have HS:=hid ((Sole.of_below HB.out).trans hS);clear hS;go_wp2;refine ⟨rfl,?_⟩;rw [HR.out];exact ⟨rfl,HS.out⟩
 | ok t st =>
  rintro e w2 ⟨v,i,full,rfl,hT,rfl,hP,hS⟩;obtain ⟨k9,n9,m9,a9,ks9⟩:=t;obtain ⟨sl,rfl,hL⟩:=treeAt_node.1 hT;obtain ⟨o9,len9,cap9,rfl⟩:=hL.shape;have hT' : treeIs (w.heap.size+1) (.node k9 n9 m9 a9 ks9) w2 (kidV k9 n9 m9 a9 (.slice o9 len9 cap9)):=TreeAt.frame (fun _ hb=>Nat.le_trans Aa.out.2 hb) (fun _ _ _=>rfl) _ _ hT;have hlt:w.heap.size<w2.heap.size:=Nat.lt_of_lt_of_le Aa.out.2 hS.size;obtain ⟨w3,hw3⟩:∃ w3,w2.alloc (.cells #[.int .i64 k9,.string ⟨n9.toArray⟩,.int .i64 m9,.int .i64 a9,.slice o9 len9 cap9] 29)=w3:=⟨_,rfl⟩;have hB3:Below w2.heap.size w2 w3:=by rw [<- hw3];exact (Below.refl _ _).alloc (Nat.le_refl _) _
  have hs3:w3.heap.size=w2.heap.size+1:=by rw [<- hw3];simp
  have Ae:=hid (hP.below hB3);have Ab:=hid (((Sole.of_below HB.out).trans hS).trans (Sole.of_below hB3));have Af:=hid ((Aa.out.1.block (hS.block w.heap.size Aa.out.2 (Nat.ne_of_gt HP.out.1))).block (hB3.block w.heap.size hlt));have Ag:Hid (KidAt w3 w2.heap.size k9 n9 m9 a9 (.slice o9 len9 cap9)):=by show KidAt _ _ _ _ _ _ _;rw [<- hw3];exact KidAt.made _ _ _ _ _ _ _
  have Ah:=hid (hT'.below (Nat.le_refl _) hB3 (Nat.le_refl _));have Ai:=hid2 hlt hs3;have Ac:=hid (zbr p g cap ts HE.out i d full [59] (by simp) w3 Ae.out);obtain ⟨ru,hru⟩:∃ r,(PSof ts i full).want [59]=r:=⟨_,rfl⟩;have Ad:Hid (R=ru.bind fun _ s=>.ok (.node k9 n9 m9 a9 ks9) s):=by
   show _=_;rw [HR.out,<- hru];rfl
  rw [hru] at Ac;clear hP hS hB3 hlt hs3 hru hT hT' hL;unfold kidV;go_wp2_with fail
  refine Ac.out.mono ?_;cases ru with
  | no why at_ =>
   rintro e w4 ⟨rfl,hS⟩;have HS:=hid (Ab.out.trans hS);clear hS;go_wp2;refine ⟨rfl,?_⟩;rw [Ad.out];exact ⟨rfl,HS.out⟩
  | ok u st =>
   rintro e w4 ⟨v,i,full,rfl,rfl,rfl,hP,hS⟩;have hp:=HP.out.1;have hl:=Ai.out;have Aj:=hid hP;have Ak:=hid (Ab.out.trans hS);obtain ⟨z0,z1,z2,z3,z4,y0,y1,y2,y3,y4⟩:=Af.out.block (hS.block _ (by omega) (by omega));obtain ⟨t0,t1,t2,t3,t4⟩:=Ag.out.block (hS.block _ (by omega) (by omega));have Al:=hid (Ah.out.sole (Nat.le_refl _) (by omega) hS);clear hP hS hp hl;go_wp2;have q:=res5 w4 w.heap.size (.int .i64 k9) (.string ⟨n9.toArray⟩) (.int .i64 m9) (.int .i64 a9) (.slice o9 len9 cap9) z0 z1 z2 z3 z4;have hBz:=zan w4 w.heap.size w.heap.size (.int .i64 k9) (.string ⟨n9.toArray⟩) (.int .i64 m9) (.int .i64 a9) (.slice o9 len9 cap9) (Nat.le_refl _);have hbt:=zbf w4 w.heap.size (.int .i64 k9) (.string ⟨n9.toArray⟩) (.int .i64 m9) (.int .i64 a9) (.slice o9 len9 cap9);generalize ((((w4.setCell ⟨w.heap.size,0,none⟩ (.int .i64 k9)).setCell ⟨w.heap.size,1,none⟩ (.string ⟨n9.toArray⟩)).setCell ⟨w.heap.size,2,none⟩ (.int .i64 m9)).setCell ⟨w.heap.size,3,none⟩ (.int .i64 a9)).setCell ⟨w.heap.size,4,none⟩ (.slice o9 len9 cap9)=wz at q hBz hbt ⊢;obtain ⟨q0,q1,q2,q3,q4⟩:=q;refine bodyPost_ret (v:=.agg #[.int .i64 k9,.string ⟨n9.toArray⟩,.int .i64 m9,.int .i64 a9,.slice o9 len9 cap9]) (by simp [results,Tryz.results73,go_sem,q0,q1,q2,q3,q4]) rfl ?_;rw [Ad.out];exact ⟨_,i,full,rfl,Al.out.but (Nat.le_succ _) (Nat.lt_succ_self _) (fun b _ hb=>hbt b hb),rfl,Aj.out.of_blocks (hBz.block p HP.out.1) (hBz.block g HP.out.2),Ak.out.below_after hBz⟩
theorem zh3 (p g cap:Nat) (ts:List Tok) (hE:Ends ts) (d:Int)
 (hN:∀ i full w,i+1<ts.length->PP w p g cap ts i d full->zbv p w->Calls Tryz.prog 72 #[.pointer (some ⟨p,0,none⟩),.int .i64 11,.func (.func 119) #[.pointer (some ⟨p,0,none⟩)] #[]] w (zai p g cap ts d (treeIs w.heap.size) (zef 11 zcg (PSof ts i full)) w)) :
 zd2 p g cap ts d 73 zdm:=by
 intro i full w h hba;have Aa:∀ w1,Below w.heap.size w w1->Calls Tryz.prog 75 #[.pointer (some ⟨p,0,none⟩),.string ⟨#[118,101,114,115,105,111,110]⟩] w1 fun e w'=>e=.returned (.bool ((PSof ts i full).sees zd3))∧Below w1.heap.size w1 w':=fun w1 hB=>by
  have hx:=ze5 p g cap ts i d full ⟨#[118,101,114,115,105,111,110]⟩ w1 (h.below hB);rw [ByteArray.toList_mk] at hx;exact hx
 unfold zdm;cases hse:(PSof ts i full).sees zd3
 · rw [hse] at Aa;rw [if_neg (by simp)];unfold PS.bad;rw [zb7 ts i full h.il];refine (version_no p (ts[i]'h.il).at_ w Aa (fun w1 hB=>zdb p g cap ts i d 40 full w1 (h.below hB))).mono ?_;rintro e' w' ⟨rfl,hB⟩;exact ⟨rfl,Sole.of_below hB⟩
 · have hi:i+1<ts.length:=by
    refine hE.text h.il ?_;unfold PS.sees at hse;rw [zb7 ts i full h.il] at hse;rw [show (ts[i]'h.il).text=zd3 by simpa using hse];simp [zd3]
   rw [hse] at Aa;rw [if_pos rfl];exact version_yes p g cap ts hE d (zef 11 zcg) i full w h Aa (fun w1 hB=>hN i full w1 hi (h.below hB) (hba.below hB))
def zj1:Value:=.agg #[.int .i64 18,.bool false,.string ⟨#[105,110,116]⟩,.int .i64 19,.bool true,.string ⟨#[105,110,116]⟩,.int .i64 20,.bool false,.string ⟨#[104,121,112,101,114]⟩,.int .i64 21,.bool true,.string ⟨#[104,121,112,101,114]⟩,.int .i64 22,.bool false,.string ⟨#[102,108,111,97,116]⟩,.int .i64 23,.bool false,.string ⟨#[100,111,117,98,108,101]⟩,.int .i64 24,.bool false,.string ⟨#[98,111,111,108]⟩]
theorem bares_at0 (w:World):(Instr.index 125 zj1 (.int .i64 0)).run Tryz.prog w=.ok (.agg #[.int .i64 18,.bool false,.string ⟨#[105,110,116]⟩]) w:=by kernel_rfl
theorem bares_at1 (w:World):(Instr.index 125 zj1 (.int .i64 1)).run Tryz.prog w=.ok (.agg #[.int .i64 19,.bool true,.string ⟨#[105,110,116]⟩]) w:=by kernel_rfl
theorem bares_at2 (w:World):(Instr.index 125 zj1 (.int .i64 2)).run Tryz.prog w=.ok (.agg #[.int .i64 20,.bool false,.string ⟨#[104,121,112,101,114]⟩]) w:=by kernel_rfl
theorem bares_at3 (w:World):(Instr.index 125 zj1 (.int .i64 3)).run Tryz.prog w=.ok (.agg #[.int .i64 21,.bool true,.string ⟨#[104,121,112,101,114]⟩]) w:=by kernel_rfl
theorem bares_at4 (w:World):(Instr.index 125 zj1 (.int .i64 4)).run Tryz.prog w=.ok (.agg #[.int .i64 22,.bool false,.string ⟨#[102,108,111,97,116]⟩]) w:=by kernel_rfl
theorem bares_at5 (w:World):(Instr.index 125 zj1 (.int .i64 5)).run Tryz.prog w=.ok (.agg #[.int .i64 23,.bool false,.string ⟨#[100,111,117,98,108,101]⟩]) w:=by kernel_rfl
theorem bares_at6 (w:World):(Instr.index 125 zj1 (.int .i64 6)).run Tryz.prog w=.ok (.agg #[.int .i64 24,.bool false,.string ⟨#[98,111,111,108]⟩]) w:=by kernel_rfl
theorem bares_at (k:Nat) (hk:k<7) (w:World):(Instr.index 125 zj1 (.int .i64 k)).run Tryz.prog w=.ok (.agg #[.int .i64 (zb0[k]'hk).1,.bool (zb0[k]'hk).2.1,.string ⟨(zb0[k]'hk).2.2.toArray⟩]) w:=by
 rcases k with _|_|_|_|_|_|_|k
 · exact bares_at0 w
 · exact bares_at1 w
 · exact bares_at2 w
 · exact bares_at3 w
 · exact bares_at4 w
 · exact bares_at5 w
 · exact bares_at6 w
 · omega
theorem bare_ref (p g cap:Nat) (ts:List Tok) (d k m:Int) (s:ByteArray) (a:Nat) (w:World) (hp:p<w.heap.size) (hg:g<w.heap.size) (r:Ans Tree) (hk:(k==1)=true)
 (H0:Hid (∀ w1,Below w.heap.size w w1->Calls Tryz.prog 38 #[.pointer (some ⟨p,0,none⟩)] w1 fun e w'=>e=.returned (.agg #[.int .i64 k,.string s,.int .i64 m,.int .i64 a])∧Below w1.heap.size w1 w'))
 (HT:Hid (∀ w1,Below w.heap.size w w1->Calls Tryz.prog 162 #[.pointer (some ⟨p,0,none⟩)] w1 (zai p g cap ts d (treeIs w1.heap.size) r w1))) :
 Calls Tryz.prog 142 #[.pointer (some ⟨p,0,none⟩)] w (zai p g cap ts d (treeIs w.heap.size) r w):=by
 have HP:=hid2 hp hg;clear hp hg;go_enter Tryz.func142,Tryz.ntmps142
 go_wp2_with fail
 refine (H0.out _ ((Below.refl _ _).alloc (Nat.le_refl _) _)).mono ?_;rintro e w1 ⟨rfl,hB⟩;obtain ⟨w3,hw3⟩:∃ w3,w1.alloc (.cells #[.int .i64 k,.string s,.int .i64 m,.int .i64 a] 41)=w3:=⟨_,rfl⟩;have hB3:Below w1.heap.size w1 w3:=by rw [<- hw3];exact (Below.refl _ _).alloc (Nat.le_refl _) _
 have hb1:Below w.heap.size w w1:=((Below.refl _ _).alloc (Nat.le_refl _) _).trans (hB.mono (by simp));have hl1:w.heap.size<w1.heap.size:=by have:=hB.size;simp at this;omega
 have hs3:w3.heap.size=w1.heap.size+1:=by rw [<- hw3];simp
 have Aa:=hid (hb1.trans (hB3.mono (Nat.le_of_lt hl1)));have HZ:Hid (Tre w3 w.heap.size∧w.heap.size<w3.heap.size):=⟨((Tre.made w 29).block (hB.block _ (by simp))).block (hB3.block _ hl1),by omega⟩;have HA:Hid (w3.cell? ⟨w1.heap.size,3,none⟩=some (.int .i64 a)∧w.heap.size<w1.heap.size∧w1.heap.size<w3.heap.size):=⟨by rw [<- hw3];simp,hl1,by omega⟩;have l0:w3.cell? ⟨w1.heap.size,0,none⟩=some (.int .i64 k):=by rw [<- hw3];simp
 clear hB hB3 hb1 hl1 hs3;go_wp2_with fail
 refine (HT.out _ Aa.out).mono ?_;cases r with
 | no why at_ =>
  rintro e w9 ⟨rfl,hS⟩;have Ab:=hid ((Sole.of_below Aa.out).trans hS);clear hS;go_wp2;exact ⟨rfl,rfl,Ab.out⟩
 | ok t st =>
  rintro e w9 ⟨v,i,full,rfl,hT,rfl,hP,hS⟩;obtain ⟨k9,n9,m9,a9,ks9⟩:=t;obtain ⟨sl,rfl,hL⟩:=treeAt_node.1 hT;obtain ⟨o9,len9,cap9,rfl⟩:=hL.shape;have Ac:=hid hT;have Ad:=hid hP;have Ab:=hid ((Sole.of_below Aa.out).trans hS);obtain ⟨z0,z1,z2,z3,z4,y0,y1,y2,y3,y4⟩:=HZ.out.1.block (hS.block w.heap.size HZ.out.2 (Nat.ne_of_gt HP.out.1));clear hP hS hT hL;unfold kidV at Ac ⊢;go_wp2;have q:=res5 w9 w.heap.size (.int .i64 k9) (.string ⟨n9.toArray⟩) (.int .i64 m9) (.int .i64 a9) (.slice o9 len9 cap9) z0 z1 z2 z3 z4;have hBz:=zan w9 w.heap.size w.heap.size (.int .i64 k9) (.string ⟨n9.toArray⟩) (.int .i64 m9) (.int .i64 a9) (.slice o9 len9 cap9) (Nat.le_refl _);have hbt:=zbf w9 w.heap.size (.int .i64 k9) (.string ⟨n9.toArray⟩) (.int .i64 m9) (.int .i64 a9) (.slice o9 len9 cap9);generalize ((((w9.setCell ⟨w.heap.size,0,none⟩ (.int .i64 k9)).setCell ⟨w.heap.size,1,none⟩ (.string ⟨n9.toArray⟩)).setCell ⟨w.heap.size,2,none⟩ (.int .i64 m9)).setCell ⟨w.heap.size,3,none⟩ (.int .i64 a9)).setCell ⟨w.heap.size,4,none⟩ (.slice o9 len9 cap9)=wz at q hBz hbt ⊢;obtain ⟨q0,q1,q2,q3,q4⟩:=q;exact bodyPost_ret (v:=.agg #[.int .i64 k9,.string ⟨n9.toArray⟩,.int .i64 m9,.int .i64 a9,.slice o9 len9 cap9]) (by simp [results,Tryz.results142,go_sem,q0,q1,q2,q3,q4]) rfl
   ⟨_,i,full,rfl,Ac.out.but (Nat.le_of_lt HZ.out.2) HZ.out.2 (fun b _ hb=>hbt b hb),rfl,Ad.out.of_blocks (hBz.block p HP.out.1) (hBz.block g HP.out.2),Ab.out.below_after hBz⟩
def zcb (uns:Bool) (at_:Nat) (l:List (Int × Bool × List UInt8)) (s:PS):Ans Tree :=
 match l.find? fun b=>b.2.1==uns&&s.sees b.2.2 with
 | some b=>s.take.bind fun _ s=>.ok (.node b.1 [] 0 at_ []) s
 | none=>s.bad 40
theorem seesAny_any (p g cap:Nat) (ts:List Tok) (i0:Nat) (d:Int) (full0:Bool) (b c:Nat) (ws:List (List UInt8)) (w:World) (h:PP w p g cap ts i0 d full0) (hbl:b<w.heap.size)
 (hw:∀ j (hj:j<ws.length),w.cell? ⟨b,j,none⟩=some (.string ⟨(ws[j]).toArray⟩)) (hl:ws.length<=2) :
 Calls Tryz.prog 149 #[.pointer (some ⟨p,0,none⟩),.slice (some ⟨b,0,none⟩) ws.length c] w fun e w'=>e=.returned (.bool (ws.any (PSof ts i0 full0).sees))∧Below w.heap.size w w':=by
 obtain ⟨R,hR⟩:∃ R,ws.any (PSof ts i0 full0).sees=R:=⟨_,rfl⟩;rw [hR];have HR:=hid hR;have HW:=hid hw;have H:=hid h;have Ad:=hid hbl;clear hR hw h hbl;go_enter Tryz.func149,Tryz.ntmps149
 go_wp2;go_loopw [4,9] (fun r i wr=>∃ k:Nat,r=.bool false∧i=.int .i64 k∧k<=ws.length∧Hid (Below w.heap.size w wr)∧Hid ((ws.drop k).any (PSof ts i0 full0).sees=R)) (fun _ i _=>ws.length - (intOf i).toNat)
 case atStart=>exact ⟨0,rfl,rfl,Nat.zero_le _,Below.refl _ _,HR⟩
 case round =>
  obtain ⟨k,rfl,rfl,hk,HB,HK⟩:=hrel;by_cases hlt:k<ws.length
  · have hk' : (k:Int)<ws.length:=(by omega);obtain ⟨t,ht⟩:∃ t,ws[k]=t:=⟨_,rfl⟩;have hc:wr.cell? ⟨b,k,none⟩=some (.string ⟨t.toArray⟩):=(by rw [(zac (HB.out.block b Ad.out) k).1,HW.out k hlt,ht]);have HD:Hid (ws.drop k=t::ws.drop (k+1)):=(by show _=_;rw [List.drop_eq_getElem_cons hlt,ht]);have Ae:=hid hlt;have Ab:Hid (Calls Tryz.prog 75 #[.pointer (some ⟨p,0,none⟩),.string ⟨t.toArray⟩] wr fun e w'=>e=.returned (.bool ((PSof ts i0 full0).sees t))∧Below wr.heap.size wr w'):=by
     have hx:=ze5 p g cap ts i0 d full0 ⟨t.toArray⟩ wr (H.out.below HB.out);rw [ByteArray.toList_mk] at hx;exact hx
    clear ht;cases hse:(PSof ts i0 full0).sees t
    · rw [hse] at Ab;have Aa:Hid ((ws.drop (k+1)).any (PSof ts i0 full0).sees=R):=by
       show _=_;have:=HK.out;rw [HD.out,List.any_cons,hse,Bool.false_or] at this;exact this
      clear hse;(go_wp2_with fail);refine Ab.out.mono ?_;rintro e w1 ⟨rfl,hB⟩;have Ac:=hid (HB.out.trans (hB.mono HB.out.size));clear hB;go_wp2;go_roundw
      case rel=>exact ⟨k+1,rfl,by go_num,Ae.out,Ac,Aa⟩
      case measure=>simp [intOf];omega
    · rw [hse] at Ab;have Aa:Hid (R=true):=by
       show _=_;rw [<- HK.out,HD.out,List.any_cons,hse,Bool.true_or]
      clear hse;(go_wp2_with fail);refine Ab.out.mono ?_;rintro e w1 ⟨rfl,hB⟩;have Ac:=hid (HB.out.trans (hB.mono HB.out.size));clear hB;go_wp2;go_ret;rw [Aa.out];exact ⟨rfl,Ac.out⟩
  · have hke:k=ws.length:=(by omega);subst hke;have hk' : ¬ (ws.length:Int)<ws.length:=(by omega);have Aa:Hid (R=false):=by
     show _=_;rw [<- HK.out,List.drop_length];rfl
    go_wp2;go_ret;rw [Aa.out];exact ⟨rfl,HB.out⟩
def zfj (full:Bool) (a b:Nat):Bool:=full||a==b
theorem zgr (ts:List Tok) (i:Nat) (full:Bool) (a b:Nat):(PSof ts i full).room a b=PSof ts i (zfj full a b):=by
 unfold PS.room zfj PSof;by_cases h:a=b
 · simp [h]
 · simp [h]
theorem PP.fulled {w:World} {p g cap:Nat} {ts:List Tok} {i:Nat} {d:Int} {full:Bool} (h:PP w p g cap ts i d full) (b:Bool):PP (w.setCell ⟨p,3,none⟩ (.bool b)) p g cap ts i d b:=by
 have ho:∀ o,(w.setCell ⟨p,3,none⟩ (.bool b)).cell? ⟨g,o,none⟩=w.cell? ⟨g,o,none⟩:=fun o=>World.cell?_setCell_other _ _ _ _ (by simp;intro e;exact absurd e.symm h.gp);refine ⟨?_,?_,?_,World.cell?_setCell_same _ _ _ h.c3,?_,?_,?_,fun k hk=>(ho _).trans (h.t0 k hk),fun k hk=>(ho _).trans (h.t1 k hk),fun k hk=>(ho _).trans (h.t2 k hk),fun k hk=>(ho _).trans (h.t3 k hk),h.il,h.ln,h.gp⟩
 · rw [World.cell?_setCell_other _ _ _ _ (by simp)];exact h.c0
 · rw [World.cell?_setCell_other _ _ _ _ (by simp)];exact h.c1
 · rw [World.cell?_setCell_other _ _ _ _ (by simp)];exact h.c2
 · rw [World.frozen?_setCell];exact h.f1
 · rw [World.frozen?_setCell];exact h.f2
 · rw [World.frozen?_setCell];exact h.f3
theorem zhp (p g cap:Nat) (ts:List Tok) (i:Nat) (d:Int) (full:Bool) (a b:Nat) (w:World) (h:PP w p g cap ts i d full) :
 Calls Tryz.prog 39 #[.pointer (some ⟨p,0,none⟩),.int .i64 a,.int .i64 b] w fun e w'=>e=.returned (.tuple #[])∧PP w' p g cap ts i d (zfj full a b)∧Sole p w w'∧w'.heap.size=w.heap.size:=by
 by_cases e:a=b
 · subst e;refine (zix p a _ w h.c3 h.f3).mono ?_;rintro e w' ⟨rfl,rfl⟩;exact ⟨rfl,by unfold zfj;simpa using h.fulled true,Sole.setCell w 3 _,by simp⟩
 · refine (zg0 p a b w (by simp;omega)).mono ?_;rintro e' w' ⟨rfl,hw⟩;have hr:zfj full a b=full:=by
    unfold zfj;rw [show (a==b)=false by simp [e],Bool.or_false]
   rw [hw,hr];exact ⟨rfl,h,Sole.refl p w,rfl⟩
theorem zl0 (k:Nat) (hk:k<7):(zb0[k]'hk).2.2≠[]:=by
 rcases k with _|_|_|_|_|_|_|k
 · simp [zb0,wInt]
 · simp [zb0,wInt]
 · simp [zb0,ze8]
 · simp [zb0,ze8]
 · simp [zb0,zml]
 · simp [zb0,zi7]
 · simp [zb0,wBool]
 · omega
theorem bare_plain (p g cap:Nat) (ts:List Tok) (hE:Ends ts) (d k m:Int) (s:ByteArray) (a:Nat) (w:World) (ix:Nat) (full:Bool) (h:PP w p g cap ts ix d full) (hb:zbv p w) (hk:(k==1)=false)
 (H0:Hid (∀ w1,Below w.heap.size w w1->Calls Tryz.prog 38 #[.pointer (some ⟨p,0,none⟩)] w1 fun e w'=>e=.returned (.agg #[.int .i64 k,.string s,.int .i64 m,.int .i64 a])∧Below w1.heap.size w1 w'))
 (HS:Hid (∀ w1,Below w.heap.size w w1->Calls Tryz.prog 75 #[.pointer (some ⟨p,0,none⟩),.string ⟨#[117,110,115,105,103,110,101,100]⟩] w1 fun e w'=>e=.returned (.bool false)∧Below w1.heap.size w1 w')) :
 Calls Tryz.prog 142 #[.pointer (some ⟨p,0,none⟩)] w (zai p g cap ts d (treeIs w.heap.size) (zcb false a zb0 (PSof ts ix full)) w):=by
 have HP:Hid (p<w.heap.size∧g<w.heap.size):=⟨h.plt,h.glt⟩;have HE:Hid (Ends ts):=hE;have H:Hid (PP w p g cap ts ix d full∧zbv p w):=⟨h,hb⟩;obtain ⟨R,hR⟩:∃ R,zcb false a zb0 (PSof ts ix full)=R:=⟨_,rfl⟩;rw [hR];have Aq:Hid (R=zcb false a (zb0.drop 0) (PSof ts ix full)):=hR.symm;clear h hb hE hR;go_enter Tryz.func142,Tryz.ntmps142
 go_wp2_with fail
 refine (H0.out _ ((Below.refl _ _).alloc (Nat.le_refl _) _)).mono ?_;rintro e w1 ⟨rfl,hB⟩;obtain ⟨w3,hw3⟩:∃ w3,w1.alloc (.cells #[.int .i64 k,.string s,.int .i64 m,.int .i64 a] 41)=w3:=⟨_,rfl⟩;have hB3:Below w1.heap.size w1 w3:=by rw [<- hw3];exact (Below.refl _ _).alloc (Nat.le_refl _) _
 have hb1:Below w.heap.size w w1:=((Below.refl _ _).alloc (Nat.le_refl _) _).trans (hB.mono (by simp));have hl1:w.heap.size<w1.heap.size:=by have:=hB.size;simp at this;omega
 have hs3:w3.heap.size=w1.heap.size+1:=by rw [<- hw3];simp
 have Am:Hid (Below w.heap.size w w3):=hb1.trans (hB3.mono (Nat.le_of_lt hl1));have HZ:Hid (Tre w3 w.heap.size∧w.heap.size<w3.heap.size):=⟨((Tre.made w 29).block (hB.block _ (by simp))).block (hB3.block _ hl1),by omega⟩;have HA:Hid (w3.cell? ⟨w1.heap.size,3,none⟩=some (.int .i64 a)∧w.heap.size<w1.heap.size∧w1.heap.size<w3.heap.size):=⟨by rw [<- hw3];simp,hl1,by omega⟩;have l0:w3.cell? ⟨w1.heap.size,0,none⟩=some (.int .i64 k):=by rw [<- hw3];simp
 clear hB hB3 hb1 hl1 hs3;go_wp2_with fail
 refine (HS.out _ Am.out).mono ?_;rintro e w5 ⟨rfl,hB⟩;have Ag:Hid (Below w.heap.size w w5):=Am.out.trans (hB.mono (Nat.le_of_lt HZ.out.2));have An:Hid (Tre w5 w.heap.size∧w.heap.size<w5.heap.size):=⟨HZ.out.1.block (hB.block _ HZ.out.2),Nat.lt_of_lt_of_le HZ.out.2 hB.size⟩;have Ar:Hid (w5.cell? ⟨w1.heap.size,3,none⟩=some (.int .i64 a)∧w.heap.size<w1.heap.size∧w1.heap.size<w5.heap.size):=⟨(zac (hB.block _ HA.out.2.2) 3).1.trans HA.out.1,HA.out.2.1,Nat.lt_of_lt_of_le HA.out.2.2 hB.size⟩;have Au:Hid (zbv p w5):=H.out.2.below Ag.out;have Ae:Hid (PP w5 p g cap ts ix d full):=H.out.1.below Ag.out;have Ah:Hid (Sole p w w5):=Sole.of_below Ag.out;clear hB;obtain ⟨_,bt,bfr,hbar⟩:=Au.out;have Av:Hid (w5.heap[0]?=some (.cells zj2 bt bfr)):=hbar;have Ai:Hid (∀ w1,Below w5.heap.size w5 w1->PP w1 p g cap ts ix d full):=fun w1 hB=>Ae.out.below hB;clear hbar;go_wp2_with (refine wpList_load_row rfl 125 _ rfl 0 rfl bt zj2 bfr _ Av.out Tryz.underlying125 rfl (by kernel_rfl) ?_)
 go_loopw [20] (fun i wr=>∃ k:Nat,i=.int .i64 k∧k<=7∧Hid (Below w5.heap.size w5 wr)∧Hid (R=zcb false a (zb0.drop k) (PSof ts ix full))) (fun i _=>7 - (intOf i).toNat)
 case atStart=>exact ⟨0,rfl,by omega,Below.refl _ _,Aq⟩
 case round =>
  obtain ⟨k,rfl,hk7,Ac,HK⟩:=hrel;by_cases hlt:k<7
  · have hlt' : (k:Int)<7:=(by omega);obtain ⟨kk,uu,ww,Aj⟩:∃ kk uu ww,Hid (zb0[k]'hlt=(kk,uu,ww)):=⟨_,_,_,rfl⟩;have hat:∀ w,(Instr.index 125 (.agg zj2) (.int .i64 k)).run Tryz.prog w=.ok (.agg #[.int .i64 kk,.bool uu,.string ⟨ww.toArray⟩]) w:=fun w=>by
     have:=bares_at k hlt w;rw [Aj.out] at this;exact this
    have HD:Hid (zb0.drop k=(kk,uu,ww)::zb0.drop (k+1)):=(by show _=_;rw [List.drop_eq_getElem_cons hlt,Aj.out]);have Aw:Hid (ww≠[]):=by
     show ww≠[];have:=zl0 k hlt;rw [Aj.out] at this;exact this
    obtain ⟨wb,hwb⟩:∃ wb,wr.alloc (.cells #[.int .i64 kk,.bool uu,.string ⟨ww.toArray⟩] 124)=wb:=⟨_,rfl⟩;have l0:wb.cell? ⟨wr.heap.size,0,none⟩=some (.int .i64 kk):=(by rw [<- hwb];simp);have l1:wb.cell? ⟨wr.heap.size,1,none⟩=some (.bool uu):=(by rw [<- hwb];simp);have l2:wb.cell? ⟨wr.heap.size,2,none⟩=some (.string ⟨ww.toArray⟩):=(by rw [<- hwb];simp);have Aa:Hid (Below w5.heap.size w5 wb∧w5.heap.size<=wr.heap.size∧wr.heap.size<wb.heap.size):=by
     refine ⟨?_,Ac.out.size,by rw [<- hwb];simp⟩;rw [<- hwb];exact Ac.out.alloc Ac.out.size _
    have Ax:Hid (wb.cell? ⟨wr.heap.size,0,none⟩=some (.int .i64 kk)):=l0;have Af:Hid (∀ w1,Below w5.heap.size w5 w1->Calls Tryz.prog 75 #[.pointer (some ⟨p,0,none⟩),.string ⟨ww.toArray⟩] w1 fun e w'=>e=.returned (.bool ((PSof ts ix full).sees ww))∧Below w1.heap.size w1 w'):=fun w1 hB=>by
     have hx:=ze5 p g cap ts ix d full ⟨ww.toArray⟩ w1 (Ai.out w1 hB);rw [ByteArray.toList_mk] at hx;exact hx
    have Ao:Hid (k<7):=hlt;by_cases huu:uu=false
    · have hue:(uu==false)=true:=(by rw [huu];rfl);cases hse:(PSof ts ix full).sees ww
      · rw [hse] at Af;have Ak:Hid (R=zcb false a (zb0.drop (k+1)) (PSof ts ix full)):=by
         show _=_;rw [HK.out,HD.out];unfold zcb;rw [List.find?_cons_of_neg (by simp [hse])]
        clear hse huu;(go_wp2_with fail);refine (Af.out _ Aa.out.1).mono ?_;rintro e w6 ⟨rfl,hB⟩;have Ab:Hid (Below w5.heap.size w5 w6):=Aa.out.1.trans (hB.mono Aa.out.1.size);clear hB;go_wp2;go_roundw
        case rel=>exact ⟨k+1,by go_num,Ao.out,Ab,Ak⟩
        case measure=>simp [intOf];omega
      · rw [hse] at Af;have Ad:Hid (R=(PSof ts ix full).take.bind fun _ s=>.ok (.node kk [] 0 a []) s):=by
         show _=_;rw [HK.out,HD.out];unfold zcb;rw [List.find?_cons_of_pos (by simp [hse,huu])]
        have hix:ix+1<ts.length:=by
         refine HE.out.text Ae.out.il ?_;unfold PS.sees at hse;rw [zb7 ts ix full Ae.out.il] at hse;rw [show (ts[ix]'Ae.out.il).text=ww by simpa using hse];exact Aw.out
        have Ap:Hid (∀ w1,Below w5.heap.size w5 w1->Calls Tryz.prog 69 #[.pointer (some ⟨p,0,none⟩)] w1 (zai p g cap ts d zfh (PSof ts ix full).take w1)):=fun w1 hB=>zdn p g cap ts ix d full w1 (Ai.out w1 hB) hix;clear hse hix huu;generalize (PSof ts ix full).take=r at Ad Ap;(go_wp2_with fail);refine (Af.out _ Aa.out.1).mono ?_;rintro e w6 ⟨rfl,hB⟩;have Ab:Hid (Below w5.heap.size w5 w6∧w6.heap[wr.heap.size]?=wb.heap[wr.heap.size]?∧wr.heap.size<w6.heap.size):=⟨Aa.out.1.trans (hB.mono Aa.out.1.size),hB.block _ Aa.out.2.2,Nat.lt_of_lt_of_le Aa.out.2.2 hB.size⟩;clear hB;(go_wp2_with fail);refine (Ap.out _ Ab.out.1).mono ?_;cases r with
        | no why at_ =>
         rintro e w9 ⟨rfl,hS⟩;have Al:Hid (Sole p w w9):=(Ah.out.trans (Sole.of_below Ab.out.1)).trans hS;clear hS;go_wp2;refine ⟨rfl,?_⟩;rw [Ad.out];exact ⟨rfl,Al.out⟩
        | ok t st =>
         rintro e w9 ⟨v,i9,full9,rfl,rfl,rfl,hP,hS⟩;have Ay:Hid (PP w9 p g cap ts i9 d full9):=hP;have Al:Hid (Sole p w w9):=(Ah.out.trans (Sole.of_below Ab.out.1)).trans hS;have hp:=HP.out;have h56:=Ab.out.1.size;have hz5:=An.out.2;have ha5:=Ar.out;have hbb:=Aa.out;have hb6:=Ab.out.2.2;obtain ⟨z0,z1,z2,z3,z4,y0,y1,y2,y3,y4⟩:=(An.out.1.block (Ab.out.1.block _ hz5)).block (hS.block w.heap.size (by omega) (by omega));have m0:w9.cell? ⟨wr.heap.size,0,none⟩=some (.int .i64 kk):=by
          rw [(zac ((hS.block wr.heap.size (by omega) (by omega)).trans Ab.out.2.1) 0).1];exact Ax.out
         have m3:w9.cell? ⟨w1.heap.size,3,none⟩=some (.int .i64 a):=by
          rw [(zac ((hS.block w1.heap.size (by omega) (by omega)).trans (Ab.out.1.block _ ha5.2.2)) 3).1];exact ha5.1
         have qb:=bld03 kk a;clear hP hS h56 hz5 ha5 hbb hb6 hp;unfold tokV;go_wp2;have q:=res5 w9 w.heap.size (.int .i64 kk) (.string ⟨#[]⟩) (.int .i64 0) (.int .i64 a) (.slice none 0 0) z0 z1 z2 z3 z4;have hBz:=zan w9 w.heap.size w.heap.size (.int .i64 kk) (.string ⟨#[]⟩) (.int .i64 0) (.int .i64 a) (.slice none 0 0) (Nat.le_refl _);generalize ((((w9.setCell ⟨w.heap.size,0,none⟩ (.int .i64 kk)).setCell ⟨w.heap.size,1,none⟩ (.string ⟨#[]⟩)).setCell ⟨w.heap.size,2,none⟩ (.int .i64 0)).setCell ⟨w.heap.size,3,none⟩ (.int .i64 a)).setCell ⟨w.heap.size,4,none⟩ (.slice none 0 0)=wz at q hBz ⊢;obtain ⟨q0,q1,q2,q3,q4⟩:=q;refine bodyPost_ret (v:=.agg #[.int .i64 kk,.string ⟨#[]⟩,.int .i64 0,.int .i64 a,.slice none 0 0]) (by simp [results,Tryz.results142,go_sem,q0,q1,q2,q3,q4]) rfl ?_;rw [Ad.out];exact ⟨_,i9,full9,rfl,treeAt_node.2 ⟨_,rfl,listAt_nil⟩,rfl,Ay.out.of_blocks (hBz.block p HP.out.1) (hBz.block g HP.out.2),Al.out.below_after hBz⟩
    · have hue:(uu==false)=false:=(by cases uu <;> simp_all);have Ak:Hid (R=zcb false a (zb0.drop (k+1)) (PSof ts ix full)):=by
       show _=_;rw [HK.out,HD.out];unfold zcb;rw [List.find?_cons_of_neg (by simp [hue])]
      clear huu;go_wp2;go_roundw
      case rel=>exact ⟨k+1,by go_num,Ao.out,Aa.out.1,Ak⟩
      case measure=>simp [intOf];omega
  · have hke:k=7:=(by omega);subst hke;have Ad:Hid (R=.no 40 (ts[ix]'Ae.out.il).at_):=by
     show _=_;rw [HK.out];show PS.bad _ _=_;unfold PS.bad;rw [zb7 ts ix full Ae.out.il]
    have Az:Hid (∀ w1,Below w5.heap.size w5 w1->Calls Tryz.prog 74 #[.pointer (some ⟨p,0,none⟩),.int .i64 40] w1 fun e w'=>e=.returned (.agg #[.int .i64 40,.int .i64 ((ts[ix]'Ae.out.il).at_:Nat)])∧Below w1.heap.size w1 w'):=fun w1 hB=>zdb p g cap ts ix d 40 full w1 (Ai.out w1 hB);rw [show ((7:Nat):Int)=7 from rfl];(go_wp2_with fail);refine (Az.out _ Ac.out).mono ?_;rintro e w2 ⟨rfl,hB⟩;have Ba:Hid (Below w5.heap.size w5 w2):=Ac.out.trans (hB.mono Ac.out.size);clear hB;go_wp2;refine ⟨rfl,?_⟩;rw [Ad.out];exact ⟨rfl,Ah.out.trans (Sole.of_below Ba.out)⟩
theorem bare_uns (p g cap:Nat) (ts:List Tok) (hE:Ends ts) (d k m:Int) (s:ByteArray) (a:Nat) (w:World) (i0:Nat) (full0:Bool) (h:PP w p g cap ts i0 d full0) (hb:zbv p w) (hi:i0+1<ts.length) (hk:(k==1)=false)
 (H0:Hid (∀ w1,Below w.heap.size w w1->Calls Tryz.prog 38 #[.pointer (some ⟨p,0,none⟩)] w1 fun e w'=>e=.returned (.agg #[.int .i64 k,.string s,.int .i64 m,.int .i64 a])∧Below w1.heap.size w1 w'))
 (HS:Hid (∀ w1,Below w.heap.size w w1->Calls Tryz.prog 75 #[.pointer (some ⟨p,0,none⟩),.string ⟨#[117,110,115,105,103,110,101,100]⟩] w1 fun e w'=>e=.returned (.bool true)∧Below w1.heap.size w1 w')) :
 Calls Tryz.prog 142 #[.pointer (some ⟨p,0,none⟩)] w (zai p g cap ts d (treeIs w.heap.size) ((PSof ts i0 full0).take.bind fun _ s=>zcb true a zb0 s) w):=by
 have HP:=hid2 h.plt h.glt;have HE:=hid hE;have H:=hid2 h hb;have HT:Hid (∀ w1,Below w.heap.size w w1->Calls Tryz.prog 69 #[.pointer (some ⟨p,0,none⟩)] w1 (zai p g cap ts d zfh (PSof ts i0 full0).take w1)):=fun w1 hB=>zdn p g cap ts i0 d full0 w1 (h.below hB) hi;obtain ⟨R,hR⟩:∃ R,((PSof ts i0 full0).take.bind fun _ s=>zcb true a zb0 s)=R:=⟨_,rfl⟩;rw [hR];obtain ⟨r0,hr0⟩:∃ r0,(PSof ts i0 full0).take=r0:=⟨_,rfl⟩;rw [hr0] at HT hR;have Am:=hid hR.symm;clear h hb hE hR hr0 hi;go_enter Tryz.func142,Tryz.ntmps142
 go_wp2_with fail
 refine (H0.out _ ((Below.refl _ _).alloc (Nat.le_refl _) _)).mono ?_;rintro e w1 ⟨rfl,hB⟩;obtain ⟨w3,hw3⟩:∃ w3,w1.alloc (.cells #[.int .i64 k,.string s,.int .i64 m,.int .i64 a] 41)=w3:=⟨_,rfl⟩;have hB3:Below w1.heap.size w1 w3:=by rw [<- hw3];exact (Below.refl _ _).alloc (Nat.le_refl _) _
 have hb1:Below w.heap.size w w1:=((Below.refl _ _).alloc (Nat.le_refl _) _).trans (hB.mono (by simp));have hl1:w.heap.size<w1.heap.size:=by have:=hB.size;simp at this;omega
 have hs3:w3.heap.size=w1.heap.size+1:=by rw [<- hw3];simp
 have An:=hid (hb1.trans (hB3.mono (Nat.le_of_lt hl1)));have HZ:Hid (Tre w3 w.heap.size∧w.heap.size<w3.heap.size):=⟨((Tre.made w 29).block (hB.block _ (by simp))).block (hB3.block _ hl1),by omega⟩;have HA:Hid (w3.cell? ⟨w1.heap.size,3,none⟩=some (.int .i64 a)∧w.heap.size<w1.heap.size∧w1.heap.size<w3.heap.size):=⟨by rw [<- hw3];simp,hl1,by omega⟩;have l0:w3.cell? ⟨w1.heap.size,0,none⟩=some (.int .i64 k):=by rw [<- hw3];simp
 clear hB hB3 hb1 hl1 hs3;go_wp2_with fail
 refine (HS.out _ An.out).mono ?_;rintro e w4 ⟨rfl,hB⟩;have Af:=hid (An.out.trans (hB.mono (Nat.le_of_lt HZ.out.2)));have Ao:Hid (Tre w4 w.heap.size∧w.heap.size<w4.heap.size):=⟨HZ.out.1.block (hB.block _ HZ.out.2),Nat.lt_of_lt_of_le HZ.out.2 hB.size⟩;have Ap:Hid (w4.cell? ⟨w1.heap.size,3,none⟩=some (.int .i64 a)∧w.heap.size<w1.heap.size∧w1.heap.size<w4.heap.size):=⟨(zac (hB.block _ HA.out.2.2) 3).1.trans HA.out.1,HA.out.2.1,Nat.lt_of_lt_of_le HA.out.2.2 hB.size⟩;clear hB;go_wp2_with fail
 refine (HT.out _ Af.out).mono ?_;cases r0 with
 | no why at_ =>
  rintro e w9 ⟨rfl,hS⟩;have Ad:=hid ((Sole.of_below Af.out).trans hS);clear hS;go_wp2;refine ⟨rfl,?_⟩;rw [Am.out];exact ⟨rfl,Ad.out⟩
 | ok tk st =>
  rintro e w5 ⟨v,ix,full,rfl,rfl,rfl,hP,hS⟩;have hp:=HP.out;have hz4:=Ao.out.2;have ha4:=Ap.out.2;have Ag:=hid hP;have Ai:=hid ((Sole.of_below Af.out).trans hS);have Aq:Hid (Tre w5 w.heap.size∧w.heap.size<w5.heap.size):=⟨Ao.out.1.block (hS.block _ hz4 (by omega)),Nat.lt_of_lt_of_le hz4 hS.size⟩;have Av:Hid (w5.cell? ⟨w1.heap.size,3,none⟩=some (.int .i64 a)∧w.heap.size<w1.heap.size∧w1.heap.size<w5.heap.size):=⟨(zac (hS.block w1.heap.size (by omega) (by omega)) 3).1.trans Ap.out.1,ha4.1,Nat.lt_of_lt_of_le ha4.2 hS.size⟩;have Aw:=hid ((H.out.2.below Af.out).sole hS);have Ax:=hid Am.out;clear hP hS hp hz4 ha4;unfold tokV;obtain ⟨_,bt,bfr,hbar⟩:=Aw.out;have Ay:=hid hbar;have Aj:Hid (∀ w1,Below w5.heap.size w5 w1->PP w1 p g cap ts ix d full):=fun w1 hB=>Ag.out.below hB;clear hbar;go_wp2_with (refine wpList_load_row rfl 125 _ rfl 0 rfl bt zj2 bfr _ Ay.out Tryz.underlying125 rfl (by kernel_rfl) ?_)
  go_loopw [20] (fun i wr=>∃ k:Nat,i=.int .i64 k∧k<=7∧Hid (Below w5.heap.size w5 wr)∧Hid (R=zcb true a (zb0.drop k) (PSof ts ix full))) (fun i _=>7 - (intOf i).toNat)
  case atStart=>exact ⟨0,rfl,by omega,Below.refl _ _,Ax⟩
  case round =>
   obtain ⟨k,rfl,hk7,Ac,HK⟩:=hrel;by_cases hlt:k<7
   · have hlt' : (k:Int)<7:=(by omega);obtain ⟨kk,uu,ww,Ak⟩:∃ kk uu ww,Hid (zb0[k]'hlt=(kk,uu,ww)):=⟨_,_,_,rfl⟩;have hat:∀ w,(Instr.index 125 (.agg zj2) (.int .i64 k)).run Tryz.prog w=.ok (.agg #[.int .i64 kk,.bool uu,.string ⟨ww.toArray⟩]) w:=fun w=>by
      have:=bares_at k hlt w;rw [Ak.out] at this;exact this
     have HD:Hid (zb0.drop k=(kk,uu,ww)::zb0.drop (k+1)):=(by show _=_;rw [List.drop_eq_getElem_cons hlt,Ak.out]);have Az:Hid (ww≠[]):=by
      show ww≠[];have:=zl0 k hlt;rw [Ak.out] at this;exact this
     obtain ⟨wb,hwb⟩:∃ wb,wr.alloc (.cells #[.int .i64 kk,.bool uu,.string ⟨ww.toArray⟩] 124)=wb:=⟨_,rfl⟩;have l0:wb.cell? ⟨wr.heap.size,0,none⟩=some (.int .i64 kk):=(by rw [<- hwb];simp);have l1:wb.cell? ⟨wr.heap.size,1,none⟩=some (.bool uu):=(by rw [<- hwb];simp);have l2:wb.cell? ⟨wr.heap.size,2,none⟩=some (.string ⟨ww.toArray⟩):=(by rw [<- hwb];simp);have Aa:Hid (Below w5.heap.size w5 wb∧w5.heap.size<=wr.heap.size∧wr.heap.size<wb.heap.size):=by
      refine ⟨?_,Ac.out.size,by rw [<- hwb];simp⟩;rw [<- hwb];exact Ac.out.alloc Ac.out.size _
     have Ba:=hid l0;have Ah:Hid (∀ w1,Below w5.heap.size w5 w1->Calls Tryz.prog 75 #[.pointer (some ⟨p,0,none⟩),.string ⟨ww.toArray⟩] w1 fun e w'=>e=.returned (.bool ((PSof ts ix full).sees ww))∧Below w1.heap.size w1 w'):=fun w1 hB=>by
      have hx:=ze5 p g cap ts ix d full ⟨ww.toArray⟩ w1 (Aj.out w1 hB);rw [ByteArray.toList_mk] at hx;exact hx
     have Ar:=hid hlt;by_cases huu:uu=true
     · have hue:(uu==true)=true:=(by rw [huu];rfl);cases hse:(PSof ts ix full).sees ww
       · rw [hse] at Ah;have Al:Hid (R=zcb true a (zb0.drop (k+1)) (PSof ts ix full)):=by
          show _=_;rw [HK.out,HD.out];unfold zcb;rw [List.find?_cons_of_neg (by simp [hse])]
         clear hse huu;(go_wp2_with fail);refine (Ah.out _ Aa.out.1).mono ?_;rintro e w6 ⟨rfl,hB⟩;have Ab:=hid (Aa.out.1.trans (hB.mono Aa.out.1.size));clear hB;go_wp2;go_roundw
         case rel=>exact ⟨k+1,by go_num,Ar.out,Ab,Al⟩
         case measure=>simp [intOf];omega
       · rw [hse] at Ah;have Ae:Hid (R=(PSof ts ix full).take.bind fun _ s=>.ok (.node kk [] 0 a []) s):=by
          show _=_;rw [HK.out,HD.out];unfold zcb;rw [List.find?_cons_of_pos (by simp [hse,huu])]
         have hix:ix+1<ts.length:=by
          refine HE.out.text Ag.out.il ?_;unfold PS.sees at hse;rw [zb7 ts ix full Ag.out.il] at hse;rw [show (ts[ix]'Ag.out.il).text=ww by simpa using hse];exact Az.out
         have Au:Hid (∀ w1,Below w5.heap.size w5 w1->Calls Tryz.prog 69 #[.pointer (some ⟨p,0,none⟩)] w1 (zai p g cap ts d zfh (PSof ts ix full).take w1)):=fun w1 hB=>zdn p g cap ts ix d full w1 (Aj.out w1 hB) hix;clear hse hix huu;generalize (PSof ts ix full).take=r at Ae Au;(go_wp2_with fail);refine (Ah.out _ Aa.out.1).mono ?_;rintro e w6 ⟨rfl,hB⟩;have Ab:Hid (Below w5.heap.size w5 w6∧w6.heap[wr.heap.size]?=wb.heap[wr.heap.size]?∧wr.heap.size<w6.heap.size):=⟨Aa.out.1.trans (hB.mono Aa.out.1.size),hB.block _ Aa.out.2.2,Nat.lt_of_lt_of_le Aa.out.2.2 hB.size⟩;clear hB;(go_wp2_with fail);refine (Au.out _ Ab.out.1).mono ?_;cases r with
         | no why at_ =>
          rintro e w9 ⟨rfl,hS⟩;have Ad:=hid ((Ai.out.trans (Sole.of_below Ab.out.1)).trans hS);clear hS;go_wp2;refine ⟨rfl,?_⟩;rw [Ae.out];exact ⟨rfl,Ad.out⟩
         | ok t st =>
          rintro e w9 ⟨v,i9,full9,rfl,rfl,rfl,hP,hS⟩;have Bb:=hid hP;have Ad:=hid ((Ai.out.trans (Sole.of_below Ab.out.1)).trans hS);have hp:=HP.out;have h56:=Ab.out.1.size;have hz5:=Aq.out.2;have ha5:=Av.out;have hbb:=Aa.out;have hb6:=Ab.out.2.2;obtain ⟨z0,z1,z2,z3,z4,y0,y1,y2,y3,y4⟩:=(Aq.out.1.block (Ab.out.1.block _ hz5)).block (hS.block w.heap.size (by omega) (by omega));have m0:w9.cell? ⟨wr.heap.size,0,none⟩=some (.int .i64 kk):=by
           rw [(zac ((hS.block wr.heap.size (by omega) (by omega)).trans Ab.out.2.1) 0).1];exact Ba.out
          have m3:w9.cell? ⟨w1.heap.size,3,none⟩=some (.int .i64 a):=by
           rw [(zac ((hS.block w1.heap.size (by omega) (by omega)).trans (Ab.out.1.block _ ha5.2.2)) 3).1];exact ha5.1
          have qb:=bld03 kk a;clear hP hS h56 hz5 ha5 hbb hb6 hp;unfold tokV;go_wp2;have q:=res5 w9 w.heap.size (.int .i64 kk) (.string ⟨#[]⟩) (.int .i64 0) (.int .i64 a) (.slice none 0 0) z0 z1 z2 z3 z4;have hBz:=zan w9 w.heap.size w.heap.size (.int .i64 kk) (.string ⟨#[]⟩) (.int .i64 0) (.int .i64 a) (.slice none 0 0) (Nat.le_refl _);generalize ((((w9.setCell ⟨w.heap.size,0,none⟩ (.int .i64 kk)).setCell ⟨w.heap.size,1,none⟩ (.string ⟨#[]⟩)).setCell ⟨w.heap.size,2,none⟩ (.int .i64 0)).setCell ⟨w.heap.size,3,none⟩ (.int .i64 a)).setCell ⟨w.heap.size,4,none⟩ (.slice none 0 0)=wz at q hBz ⊢;obtain ⟨q0,q1,q2,q3,q4⟩:=q;refine bodyPost_ret (v:=.agg #[.int .i64 kk,.string ⟨#[]⟩,.int .i64 0,.int .i64 a,.slice none 0 0]) (by simp [results,Tryz.results142,go_sem,q0,q1,q2,q3,q4]) rfl ?_;rw [Ae.out];exact ⟨_,i9,full9,rfl,treeAt_node.2 ⟨_,rfl,listAt_nil⟩,rfl,Bb.out.of_blocks (hBz.block p HP.out.1) (hBz.block g HP.out.2),Ad.out.below_after hBz⟩
     · have hue:(uu==true)=false:=(by cases uu <;> simp_all);have Al:Hid (R=zcb true a (zb0.drop (k+1)) (PSof ts ix full)):=by
        show _=_;rw [HK.out,HD.out];unfold zcb;rw [List.find?_cons_of_neg (by simp [hue])]
       clear huu;go_wp2;go_roundw
       case rel=>exact ⟨k+1,by go_num,Ar.out,Aa.out.1,Al⟩
       case measure=>simp [intOf];omega
   · have hke:k=7:=(by omega);subst hke;have Ae:Hid (R=.no 40 (ts[ix]'Ag.out.il).at_):=by
      show _=_;rw [HK.out];show PS.bad _ _=_;unfold PS.bad;rw [zb7 ts ix full Ag.out.il]
     have Bc:Hid (∀ w1,Below w5.heap.size w5 w1->Calls Tryz.prog 74 #[.pointer (some ⟨p,0,none⟩),.int .i64 40] w1 fun e w'=>e=.returned (.agg #[.int .i64 40,.int .i64 ((ts[ix]'Ag.out.il).at_:Nat)])∧Below w1.heap.size w1 w'):=fun w1 hB=>zdb p g cap ts ix d 40 full w1 (Aj.out w1 hB);rw [show ((7:Nat):Int)=7 from rfl];(go_wp2_with fail);refine (Bc.out _ Ac.out).mono ?_;rintro e w2 ⟨rfl,hB⟩;have Bd:=hid (Ac.out.trans (hB.mono Ac.out.size));clear hB;go_wp2;refine ⟨rfl,?_⟩;rw [Ae.out];exact ⟨rfl,Ai.out.trans (Sole.of_below Bd.out)⟩
theorem zga (p g cap:Nat) (ts:List Tok) (hE:Ends ts) (d:Int):zd2 p g cap ts d 142 zd7:=by
 intro i full w h hba;have HT:∀ w1,Below w.heap.size w w1->Calls Tryz.prog 38 #[.pointer (some ⟨p,0,none⟩)] w1 fun e w'=>e=.returned (tokV (ts[i]'h.il))∧Below w1.heap.size w1 w':=fun w1 hB=>zcc p g cap ts i d full w1 (h.below hB);have Aa:∀ w1,Below w.heap.size w w1->Calls Tryz.prog 75 #[.pointer (some ⟨p,0,none⟩),.string ⟨#[117,110,115,105,103,110,101,100]⟩] w1 fun e w'=>e=.returned (.bool ((PSof ts i full).sees zbh))∧Below w1.heap.size w1 w':=fun w1 hB=>by
  have hx:=ze5 p g cap ts i d full ⟨#[117,110,115,105,103,110,101,100]⟩ w1 (h.below hB);rw [ByteArray.toList_mk] at hx;exact hx
 have hd:=zb7 ts i full h.il;by_cases hk:(ts[i]'h.il).kind=1
 · have e1:zd7 (PSof ts i full)=refP (PSof ts i full):=by unfold zd7;rw [hd,if_pos hk]
   rw [e1];exact bare_ref p g cap ts d _ _ _ _ w h.plt h.glt _ (by simp [hk]) HT (fun w1 hB=>ziy p g cap ts hE i d full w1 (h.below hB))
 · cases hse:(PSof ts i full).sees zbh
   · have e1:zd7 (PSof ts i full)=zcb false (ts[i]'h.il).at_ zb0 (PSof ts i full):=by
      unfold zd7;rw [hd,if_neg hk,hse];rfl
     rw [e1];rw [hse] at Aa;exact bare_plain p g cap ts hE d _ _ _ _ w i full h hba (by simp [hk]) HT Aa
   · have e1:zd7 (PSof ts i full)=(PSof ts i full).take.bind fun _ s=>zcb true (ts[i]'h.il).at_ zb0 s:=by
      unfold zd7;rw [hd,if_neg hk,hse];show ((PSof ts i full).take.bind fun _ s=>Ans.ok () s).bind _=_;cases (PSof ts i full).take <;> rfl
     rw [e1];rw [hse] at Aa;refine bare_uns p g cap ts hE d _ _ _ _ w i full h hba (hE.text h.il ?_) (by simp [hk]) HT Aa;unfold PS.sees at hse;rw [hd] at hse;rw [show (ts[i]'h.il).text=zbh by simpa using hse];simp [zbh]
def kidO (k:Int) (n:List UInt8) (m:Int) (a:Nat) (sl:Value):Obj:=.cells #[.int .i64 k,.string ⟨n.toArray⟩,.int .i64 m,.int .i64 a,sl] 29 (0,0)
def tokO (t:Tok):Obj:=.cells #[.int .i64 t.kind,.string ⟨t.text.toArray⟩,.int .i64 t.num,.int .i64 t.at_] 41 (0,0)
theorem zaa {w:World} {b:Nat} {k:Int} {n:List UInt8} {m:Int} {a:Nat} {sl:Value} (h:w.heap[b]?=some (kidO k n m a sl)) :
 (w.cell? ⟨b,0,none⟩=some (.int .i64 k)∧w.cell? ⟨b,1,none⟩=some (.string ⟨n.toArray⟩)∧w.cell? ⟨b,2,none⟩=some (.int .i64 m)∧w.cell? ⟨b,3,none⟩=some (.int .i64 a)∧w.cell? ⟨b,4,none⟩=some sl) ∧
 (w.frozen? ⟨b,0,none⟩=false∧w.frozen? ⟨b,1,none⟩=false∧w.frozen? ⟨b,2,none⟩=false∧w.frozen? ⟨b,3,none⟩=false∧w.frozen? ⟨b,4,none⟩=false):=by
 unfold kidO at h;simp [World.cell?,World.frozen?,h]
theorem zbo {w:World} {b:Nat} {t:Tok} (h:w.heap[b]?=some (tokO t)) :
 w.cell? ⟨b,0,none⟩=some (.int .i64 t.kind)∧w.cell? ⟨b,1,none⟩=some (.string ⟨t.text.toArray⟩)∧w.cell? ⟨b,2,none⟩=some (.int .i64 t.num)∧w.cell? ⟨b,3,none⟩=some (.int .i64 t.at_):=by
 unfold tokO at h;simp [World.cell?,h]
theorem zej {w:World} {b:Nat} {o:Obj} (h:w.heap[b]?=some o):b<w.heap.size:=(Array.getElem?_eq_some_iff.1 h).1
theorem Sole.blk {p:Nat} {w w' : World} (hS:Sole p w w') {b:Nat} {o:Obj} (h:w.heap[b]?=some o) (hb:b≠p):w'.heap[b]?=some o:=(hS.block b (zej h) hb).trans h
theorem zaj {w w' : World} (hB:Below w.heap.size w w') {b:Nat} {o:Obj} (h:w.heap[b]?=some o):w'.heap[b]?=some o:=(hB.block b (zej h)).trans h
theorem za3 {w:World} {x:Obj} {b:Nat} {o:Obj} (h:w.heap[b]?=some o):(w.alloc x).heap[b]?=some o:=(heap_alloc_old w x (zej h)).trans h
theorem zae {u:World} {r o:Nat} {cs:Array Value} {t:TypeId} {v:Value} (h:u.heap[r]?=some (.cells cs t (0,0))):(u.setCell ⟨r,o,none⟩ v).heap[r]?=some (.cells (cs.setIfInBounds o v) t (0,0)):=by
 simp [World.setCell,Array.getElem?_modify,h]
theorem zc5 {u:World} {r:Nat} {k0 m0 k m:Int} {n0 n:List UInt8} {a0 a:Nat} {s0 sl:Value} (h:u.heap[r]?=some (kidO k0 n0 m0 a0 s0)) :
 (((((u.setCell ⟨r,0,none⟩ (.int .i64 k)).setCell ⟨r,1,none⟩ (.string ⟨n.toArray⟩)).setCell ⟨r,2,none⟩ (.int .i64 m)).setCell ⟨r,3,none⟩ (.int .i64 a)).setCell ⟨r,4,none⟩ sl).heap[r]?=some (kidO k n m a sl) :=
 zae (zae (zae (zae (zae h))))
theorem zhn {u:World} {r:Nat} {k m:Int} {n:List UInt8} {a:Nat} {s0 sl:Value} (h:u.heap[r]?=some (kidO k n m a s0)):(u.setCell ⟨r,4,none⟩ sl).heap[r]?=some (kidO k n m a sl):=zae h
theorem fin5 {p:Nat} {w w9:World} {k m:Int} {n:List UInt8} {a:Nat} {sl:Value} {r:Nat} (hr:w.heap.size<=r) (hS:Sole p w w9) (wz:World)
 (e:((((w9.setCell ⟨r,0,none⟩ (.int .i64 k)).setCell ⟨r,1,none⟩ (.string ⟨n.toArray⟩)).setCell ⟨r,2,none⟩ (.int .i64 m)).setCell ⟨r,3,none⟩ (.int .i64 a)).setCell ⟨r,4,none⟩ sl=wz) :
 Sole p w wz∧(∀ b,b≠r->wz.heap[b]?=w9.heap[b]?):=by
 subst e;exact ⟨hS.below_after (zan w9 w.heap.size r _ _ _ _ _ hr),zbf w9 r _ _ _ _ _⟩
theorem ret5 {F:Func} {post:Ending->World->Prop} {act:Act} {p:Nat} {w W:World} {r:Nat} {k m:Int} {n:List UInt8} {a:Nat} {sl x0 x1 x2 x3 x4:Value} (h0:W.cell? ⟨r,0,none⟩=some x0) (h1:W.cell? ⟨r,1,none⟩=some x1) (h2:W.cell? ⟨r,2,none⟩=some x2) (h3:W.cell? ⟨r,3,none⟩=some x3) (h4:W.cell? ⟨r,4,none⟩=some x4)
 (hd:act.defers=[]) (hres:∀ u:World,u.cell? ⟨r,0,none⟩=some (.int .i64 k)->u.cell? ⟨r,1,none⟩=some (.string ⟨n.toArray⟩)->u.cell? ⟨r,2,none⟩=some (.int .i64 m)->u.cell? ⟨r,3,none⟩=some (.int .i64 a)->u.cell? ⟨r,4,none⟩=some sl->(results F act.tmps).run Tryz.prog u=.ok (.agg #[.int .i64 k,.string ⟨n.toArray⟩,.int .i64 m,.int .i64 a,sl]) u)
 (hr:w.heap.size<=r) (hS:Sole p w W) (hp:∀ wz,(Sole p w wz∧∀ b,b≠r->wz.heap[b]?=W.heap[b]?)->post (.returned (.agg #[.int .i64 k,.string ⟨n.toArray⟩,.int .i64 m,.int .i64 a,sl])) wz):
 bodyPost Tryz.prog F post .ret act (((((W.setCell ⟨r,0,none⟩ (.int .i64 k)).setCell ⟨r,1,none⟩ (.string ⟨n.toArray⟩)).setCell ⟨r,2,none⟩ (.int .i64 m)).setCell ⟨r,3,none⟩ (.int .i64 a)).setCell ⟨r,4,none⟩ sl):=by
 obtain ⟨q0,q1,q2,q3,q4⟩:=res5 W r (.int .i64 k) (.string ⟨n.toArray⟩) (.int .i64 m) (.int .i64 a) sl h0 h1 h2 h3 h4;exact bodyPost_ret (hres _ q0 q1 q2 q3 q4) hd (hp _ (fin5 hr hS _ rfl))
theorem PP.sole_but {w9 wz:World} {p g cap:Nat} {ts:List Tok} {i:Nat} {d:Int} {full:Bool} {r:Nat} (h:PP w9 p g cap ts i d full) (hp:p<r) (hg:g<r) (hz:∀ b,b≠r->wz.heap[b]?=w9.heap[b]?):PP wz p g cap ts i d full :=
 h.of_blocks (hz p (by omega)) (hz g (by omega))
def Kep (w cur:World) (b:Nat) (o:Obj):Prop:=cur.heap[b]?=some o∧w.heap.size<=b
theorem Kep.sole {p:Nat} {w cur nxt:World} {b:Nat} {o:Obj} (h:Kep w cur b o) (hp:p<w.heap.size) (hS:Sole p cur nxt):Kep w nxt b o:=⟨hS.blk h.1 (by have:=h.2;omega),h.2⟩
theorem Kep.below {w cur nxt:World} {b:Nat} {o:Obj} (h:Kep w cur b o) (hB:Below cur.heap.size cur nxt):Kep w nxt b o:=⟨zaj hB h.1,h.2⟩
theorem Kep.alloc {w cur:World} {b:Nat} {o:Obj} (h:Kep w cur b o) (x:Obj):Kep w (cur.alloc x) b o:=⟨za3 h.1,h.2⟩
theorem Kep.new {w cur:World} (hs:w.heap.size<=cur.heap.size) (o:Obj):Kep w (cur.alloc o) cur.heap.size o:=⟨heap_alloc_new _ _,hs⟩
theorem Kep.lt {w cur:World} {b:Nat} {o:Obj} (h:Kep w cur b o):b<cur.heap.size:=zej h.1
theorem Kep.but {w cur nxt:World} {b:Nat} {o:Obj} (h:Kep w cur b o) {r:Nat} (hz:∀ b,b≠r->nxt.heap[b]?=cur.heap[b]?) (hr:b≠r):Kep w nxt b o:=⟨(hz b hr).trans h.1,h.2⟩
theorem zab (w:World) (x:Obj):Below w.heap.size w (w.alloc x):=(Below.refl _ _).alloc (Nat.le_refl _) _
theorem hidB {w wa:World} {x:Obj} (h:w.alloc x=wa):Hid (Below w.heap.size w wa):=by rw [<- h];exact zab _ _
theorem Sole.alloc {p:Nat} {w cur:World} (h:Sole p w cur) (x:Obj):Sole p w (cur.alloc x):=h.trans (Sole.of_below (zab cur x))
theorem PP.alloc {w:World} {p g cap:Nat} {ts:List Tok} {i:Nat} {d:Int} {full:Bool} (h:PP w p g cap ts i d full) (x:Obj):PP (w.alloc x) p g cap ts i d full:=h.below (zab w x)
theorem TreeAt.sole {A:Nat->Prop} {p:Nat} {cur nxt:World} {t:Tree} {v:Value} (h:TreeAt A cur t v) (hA:∀ b,A b->b≠p) (hS:Sole p cur nxt):TreeAt A nxt t v:=TreeAt.frame (fun _ h=>h) (fun b hb hl=>hS.block b hl (hA b hb)) t v h
theorem TreeAt.below {A:Nat->Prop} {cur nxt:World} {t:Tree} {v:Value} (h:TreeAt A cur t v) (hB:Below cur.heap.size cur nxt):TreeAt A nxt t v:=TreeAt.frame (fun _ h=>h) (fun b _ hl=>hB.block b hl) t v h
theorem ListAt.sole {A:Nat->Prop} {p:Nat} {cur nxt:World} {t:List Tree} {v:Value} (h:ListAt A cur t v) (hA:∀ b,A b->b≠p) (hS:Sole p cur nxt):ListAt A nxt t v:=ListAt.frame (fun _ h=>h) (fun b hb hl=>hS.block b hl (hA b hb)) h
theorem ListAt.below {A:Nat->Prop} {cur nxt:World} {t:List Tree} {v:Value} (h:ListAt A cur t v) (hB:Below cur.heap.size cur nxt):ListAt A nxt t v:=ListAt.frame (fun _ h=>h) (fun b _ hl=>hB.block b hl) h
theorem ListAt.but {A:Nat->Prop} {cur nxt:World} {t:List Tree} {v:Value} {r:Nat} (h:ListAt A cur t v) (hA:∀ b,A b->b≠r) (hz:∀ b,b≠r->nxt.heap[b]?=cur.heap[b]?):ListAt A nxt t v:=ListAt.frame (fun _ h=>h) (fun b hb _=>hz b (hA b hb)) h
theorem ListAt.weaken {A A' : Nat->Prop} {w:World} {t:List Tree} {v:Value} (h:ListAt A w t v) (hA:∀ b,A b->A' b):ListAt A' w t v:=ListAt.frame hA (fun _ _ _=>rfl) h
theorem TreeAt.weaken {A A' : Nat->Prop} {w:World} {t:Tree} {v:Value} (h:TreeAt A w t v) (hA:∀ b,A b->A' b):TreeAt A' w t v:=TreeAt.frame hA (fun _ _ _=>rfl) _ _ h
theorem zbd {A:Nat->Prop} {w:World} {q:Nat} {ks:List Tree} {xs:List Value} (h:w.heap[q]?=some (zdr xs)) (hn:ks.length<=1000) (hA:A q) (hr:RowV (fun b=>A b∧b≠q) w ks xs):ListAt A w ks (.slice (some ⟨q,0,none⟩) ks.length ks.length) :=
 ⟨xs,zf7 h (zgz _ _ hr) hn,(fun g e=>by cases e;exact hA),RowV.frame (fun b hb=>⟨hb.1,fun e=>hb.2 (Option.some.inj e).symm⟩) (fun _ _ _=>rfl) _ _ hr⟩
theorem zbn {A:Nat->Prop} {w w' : World} {ks us:List Tree} {sl v' : Value} {xs ys:List Value} (hb:∀ g,sl.ownBlock=some g->A g) (S:Nat->Prop) (hr:RowV (fun b=>(A b∧sl.ownBlock≠some b)∧S b) w ks xs)
 (hu:RowV (fun b=>(A b∧sl.ownBlock≠some b)∧¬S b) w us ys) (ho' : w'.ownsRow 0 29 5 v' (ks.length+us.length) (xs++ys)) (hg:w.grownBy w' sl.ownBlock) (H:Nat) (hH:w.heap.size<=H) (hAH:A H) (hat:v'.ownBlock=sl.ownBlock∨v'.ownBlock=some H):ListAt A w' (ks++us) v':=by
 refine ⟨xs++ys,by rw [List.length_append];exact ho',?_,?_⟩
 · intro g e;rcases hat with h|h
   · exact hb g (h ▸ e)
   · rw [h] at e;cases e;exact hAH
 · have hall:=RowV.there _ _ (RowV.append S (A:=fun b=>A b∧sl.ownBlock≠some b) ks us xs ys hr hu);refine RowV.frame (fun b hb=>⟨hb.1.1,?_⟩) (fun b hb hl=>hg.block b hl (fun e=>hb.1.2 e.symm)) _ _ hall;rcases hat with h|h
   · rw [h];exact hb.1.2
   · rw [h];intro e;cases e;exact absurd hb.2 (by omega)
theorem zaz {A:Nat->Prop} {B r:Nat} {w9 wz:World} {k m:Int} {n:List UInt8} {a:Nat} {ks:List Tree} {sl:Value} (h:ListAt A w9 ks sl) (hB:∀ b,A b->B<=b) (hr:∀ b,A b->b≠r) (hz:∀ b,b≠r->wz.heap[b]?=w9.heap[b]?):treeIs B (.node k n m a ks) wz (kidV k n m a sl) :=
 treeAt_node.2 ⟨_,rfl,ListAt.frame (fun b hb=>hB b hb) (fun b hb _=>hz b (hr b hb)) h⟩
theorem zbt {A A' : Nat->Prop} {r:Nat} {w9 wz:World} {k m:Int} {n:List UInt8} {a:Nat} {ks:List Tree} {sl:Value} (h:ListAt A w9 ks sl) (hB:∀ b,A b->A' b) (hr:∀ b,A b->b≠r) (hz:∀ b,b≠r->wz.heap[b]?=w9.heap[b]?):TreeAt A' wz (.node k n m a ks) (kidV k n m a sl) :=
 treeAt_node.2 ⟨_,rfl,ListAt.frame (fun b hb=>hB b hb) (fun b hb _=>hz b (hr b hb)) h⟩
def Mix (A0:Nat->Prop) (B:Nat):Nat->Prop:=fun b=>A0 b∨B<=b
def mixIs (A0:Nat->Prop) (B:Nat) (t:Tree) (w:World) (v:Value):Prop:=TreeAt (Mix A0 B) w t v
theorem Sole.grown {p:Nat} {w cur nxt:World} {q:Nat} (h:Sole p w cur) (hg:cur.grownBy nxt (some q)) (hq:w.heap.size<=q):Sole p w nxt :=
 ⟨hg.os.trans h.os,hg.tape.trans h.tape,hg.output.trans h.output,Nat.le_trans h.size hg.size,fun b hb hp=>(hg.block b (Nat.lt_of_lt_of_le hb h.size) (fun e=>by cases e;omega)).trans (h.block b hb hp)⟩
theorem Kep.grown {w cur nxt:World} {b q:Nat} {o:Obj} (h:Kep w cur b o) (hg:cur.grownBy nxt (some q)) (hne:b≠q):Kep w nxt b o:=⟨(hg.block b h.lt (fun e=>hne (Option.some.inj e))).trans h.1,h.2⟩
theorem PP.grown {w nxt:World} {p g cap:Nat} {ts:List Tok} {i:Nat} {d:Int} {full:Bool} (h:PP w p g cap ts i d full) {q:Nat} (hg:w.grownBy nxt (some q)) (hp:p≠q) (hgq:g≠q):PP nxt p g cap ts i d full :=
 h.of_blocks (hg.block p h.plt (fun e=>hp (Option.some.inj e))) (hg.block g h.glt (fun e=>hgq (Option.some.inj e)))
theorem zbw {P:Program} {ops:Array Oper} {o:Oper} {a:Act} {w:World} {K:Act->World->Prop} {Q:Exit->Act->World->Prop} {E:Prop} (hg:o.guard=none) (f:FuncId) (args:Array Value)
 (hrun:(execOp a.eval o).run P w=.ok (.enter f args) w) (post:Ending->World->Prop) (hC:Calls P f args w post) (h:∀ e w',post e w'->∃ v,e=.returned v∧K (a.put o.dst v) w') :
 if Region.wanted o (yielded ops a.tmps)=true then Oper.wp P o a w K Q else E:=by
 have hw:Region.wanted o (yielded ops a.tmps)=true:=by simp [Region.wanted,hg]
 rw [if_pos hw];unfold Oper.wp;rw [hrun,Oper.upon_enter];refine hC.mono fun e w' hp=>?_;obtain ⟨v,rfl,hk⟩:=h e w' hp;exact hk
end Go.Proofs.YtighggeokiahfaaGreatDoor
