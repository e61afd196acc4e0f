import Derived.Test.YtfcbjcebkahehaaGreatDoorPly01
import Derived.Deep.RegionHeld3
import Derived.Lib.MinMax
import Derived.Deep.AppendLies
import Derived.Deep.RegionLaw
import Derived.ProofKit
import Derived.OpenShut
import Derived.LaidMore
import Derived.Lay
import Derived.SevenTiedAt
import Derived.Stop.Joined
import Derived.ChangeMaps5
import Derived.Carry
import Derived.LaidHandle
import Derived.Deep.Slices
import Derived.Test.YtfcbjcebkahehaaGreatDoorPly00
import Derived.WalkKit
import Derived.Below
import Derived.BigRegion
import Derived.Deep.QuietTactic
import Derived.BigQuiet
import Derived.Laws.IdiomStrings
import Derived.Laws.StructEq
import Derived.Maps.Keyed
import Derived.Deep.CutBlock
import Derived.Deep.CutRange
import Derived.Deep.DeepCutAuto
set_option maxRecDepth 8000
set_option maxHeartbeats 20000000
set_option linter.unusedSimpArgs false
namespace Go.Proofs.YtfcbjcebkahehaaGreatDoor
open Go.RowKit
def GsAt (w:World) (p:Nat) (oa:Option Addr) (gs:List Int):Prop :=
 0<gs.length->∃ q off,oa=some ⟨q,off,none⟩∧q<p∧∀ i,i<gs.length->w.cell? ⟨q,off+i,none⟩=some (iI (gs.getD i 0))
theorem GsAt.below {w w' : World} {p:Nat} {oa:Option Addr} {gs:List Int} (h:GsAt w p oa gs) (hB:Below p w w'):GsAt w' p oa gs:=fun h0=>by
 obtain ⟨q,off,h1,h2,h3⟩:=h h0;exact ⟨q,off,h1,h2,fun i hi=>(cells_of_block (hB.block q h2) _).1.trans (h3 i hi)⟩
theorem zg7 (gs:List Int) (k:Nat) (h:k<gs.length):zbr (gs.take (k+1))=zbr (gs.take k)++nbL 4 (gs.getD k 0).toNat:=by
 induction gs generalizing k with
 | nil=>simp at h
 | cons g gs ih =>
  cases k with
  | zero=>simp [zbr]
  | succ k =>
   simp only [List.take_succ_cons,zbr,List.append_assoc];rw [ih k (by simpa using h)];simp
theorem zer (gs:List Int) (k:Nat) (h:k<gs.length):(∀ g∈gs.take (k+1),isW g)↔((∀ g∈gs.take k,isW g)∧isW (gs.getD k 0)):=by
 rw [List.take_add_one,List.getElem?_eq_getElem h];simp only [List.mem_append,Option.toList_some,List.mem_singleton];have e:gs.getD k 0=gs[k]:=by rw [List.getD_eq_getElem?_getD,List.getElem?_eq_getElem h];rfl
 rw [e];constructor
 · exact fun H=>⟨fun g hg=>H g (.inl hg),H _ (.inr rfl)⟩
 · rintro ⟨H1,H2⟩ g (hg|rfl)
   · exact H1 g hg
   · exact H2
theorem zg6 (b p:Nat) (s:SysP) (oa:Option Addr) (cap:Nat) (M:Int) (P:Prop) (l:List UInt8) (w:World) (h:WrP w p M P l) (hM0:0<=M) (hM1:M<=2147483647) (hb:b<p)
 (c0:w.cell? ⟨b,0,none⟩=some (iI s.stamp)) (c1:w.cell? ⟨b,1,none⟩=some (.string ⟨s.machine.toArray⟩)) (c2:w.cell? ⟨b,2,none⟩=some (iI s.user)) (c3:w.cell? ⟨b,3,none⟩=some (iI s.group))
 (c4:w.cell? ⟨b,4,none⟩=some (.slice oa s.groups.length cap)) (hg:GsAt w p oa s.groups) (hcap:s.groups.length<=cap) (hlen:(s.groups.length:Int)<=9223372036854775807) (hr:P->(l.length:Int)+340<=M) :
 Calls Tryz.prog 112 #[.pointer (some ⟨b,0,none⟩),.pointer (some ⟨p,0,none⟩)] w (zb5 p M (P∧s.may) (l++s.body) w):=by
 obtain ⟨stamp,machine,user,group,gs⟩:=s;obtain ⟨n,hn⟩:∃ n,gs.length=n:=⟨_,rfl⟩;have HN:Hid (gs.length=n):=hn;have HR:Hid (P->(l.length:Int)+340<=M):=hr;have HM:Hid (0<=M∧M<=2147483647):=⟨hM0,hM1⟩;simp only [hn] at c0 c1 c2 c3 c4 hcap hlen;have Ap:Hid (WrP w p M P l):=h;have Ai:Hid (GsAt w p oa gs):=hg;have K:Hid (∀ w1:World,Below p w w1->∀ o,w1.cell? ⟨b,o,none⟩=w.cell? ⟨b,o,none⟩):=fun w1 hB o=>(cells_of_block (hB.block b hb) o).1;have S1:Hid (Calls Tryz.prog 116 #[.pointer (some ⟨p,0,none⟩),iI stamp] w (zb5 p M (P∧isW stamp) (l++nbL 4 stamp.toNat) w)):=w_uint p stamp M P l w h hM0 hM1 (fun q=>by have:=hr q;omega);clear h hg hr hM0 hM1 hn;go_enter Tryz.func112,Tryz.ntmps112
 go_wp2_with fail
 refine S1.out.mono ?_;rintro e w1 ⟨rfl,hw1,hB1⟩;have Ad:Hid (Below p w w1):=hB1;have d1:=(K.out w1 hB1 1).trans c1;have d2:=(K.out w1 hB1 2).trans c2;have d3:=(K.out w1 hB1 3).trans c3;have d4:=(K.out w1 hB1 4).trans c4;have S2:Hid (Calls Tryz.prog 122 #[.pointer (some ⟨p,0,none⟩),iI 255,.string ⟨machine.toArray⟩] w1 (zb5 p M ((P∧isW stamp)∧(machine.length:Int)<=255) (l++nbL 4 stamp.toNat++(nbL 4 machine.length++(machine++padB machine.length))) w1)) :=
  w_opaque p 255 M machine _ _ w1 hw1 HM.out.1 HM.out.2 (by decide) (by decide) (fun q q2=>by have:=HR.out q.1;rw [List.length_append,zaf];unfold pads;omega)
 clear hB1 hw1 c0 c1 c2 c3 c4 S1;go_wp2_with fail
 refine S2.out.mono ?_;rintro e w2 ⟨rfl,hw2,hB2⟩;have Ae:Hid (Below p w w2):=Ad.out.trans hB2;have d2:=(cells_of_block (hB2.block b hb) 2).1.trans d2;have d3:=(cells_of_block (hB2.block b hb) 3).1.trans d3;have d4:=(cells_of_block (hB2.block b hb) 4).1.trans d4;obtain ⟨l2,hl2⟩:∃ x,l++nbL 4 stamp.toNat++(nbL 4 machine.length++(machine++padB machine.length))=x:=⟨_,rfl⟩;have Aa:Hid ((machine.length:Int)<=255->(l2.length:Int)<=l.length+264):=fun q=>by
  rw [<- hl2];simp only [List.length_append,zaf,zau];unfold pads;omega
 have Aj:Hid (l2=l++nbL 4 stamp.toNat++(nbL 4 machine.length++(machine++padB machine.length))):=hl2.symm;rw [hl2] at hw2;have S3:Hid (Calls Tryz.prog 116 #[.pointer (some ⟨p,0,none⟩),iI user] w2 (zb5 p M (((P∧isW stamp)∧(machine.length:Int)<=255)∧isW user) (l2++nbL 4 user.toNat) w2)) :=
  w_uint p user M _ l2 w2 hw2 HM.out.1 HM.out.2 (fun q=>by have:=HR.out q.1.1;have:=Aa.out q.2;omega)
 clear hB2 hw2 d1 hl2 S2;go_wp2_with fail
 refine S3.out.mono ?_;rintro e w3 ⟨rfl,hw3,hB3⟩;have Af:Hid (Below p w w3):=Ae.out.trans hB3;have d3:=(cells_of_block (hB3.block b hb) 3).1.trans d3;have d4:=(cells_of_block (hB3.block b hb) 4).1.trans d4;have S4:Hid (Calls Tryz.prog 116 #[.pointer (some ⟨p,0,none⟩),iI group] w3 (zb5 p M ((((P∧isW stamp)∧(machine.length:Int)<=255)∧isW user)∧isW group) (l2++nbL 4 user.toNat++nbL 4 group.toNat) w3)) :=
  w_uint p group M _ _ w3 hw3 HM.out.1 HM.out.2 (fun q=>by have:=HR.out q.1.1.1;have:=Aa.out q.1.2;rw [List.length_append,zaf];omega)
 clear hB3 hw3 d2 S3;go_wp2_with fail
 refine S4.out.mono ?_;rintro e w4 ⟨rfl,hw4,hB4⟩;have Ag:Hid (Below p w w4):=Af.out.trans hB4;have d4:=(cells_of_block (hB4.block b hb) 4).1.trans d4;obtain ⟨l4,hl4⟩:∃ x,l2++nbL 4 user.toNat++nbL 4 group.toNat=x:=⟨_,rfl⟩;have Ah:Hid ((machine.length:Int)<=255->(l4.length:Int)<=l.length+272):=fun q=>by
  have:=Aa.out q
  rw [<- hl4];simp only [List.length_append,zaf];omega
 have Ak:Hid (l4=l2++nbL 4 user.toNat++nbL 4 group.toNat):=hl4.symm;rw [hl4] at hw4;have S5:Hid (Calls Tryz.prog 120 #[.pointer (some ⟨p,0,none⟩),iI 16,iI n] w4 (zb5 p M (((((P∧isW stamp)∧(machine.length:Int)<=255)∧isW user)∧isW group)∧(n:Int)<=16) (l4++nbL 4 n) w4)) :=
  w_count p 16 M n _ l4 w4 hw4 HM.out.1 HM.out.2 (by decide) (by decide) (fun q=>by have:=HR.out q.1.1.1.1;have:=Ah.out q.1.1.2;omega)
 clear hB4 hw4 d3 hl4 S4;go_wp2_with fail
 refine S5.out.mono ?_;rintro e w5 ⟨rfl,hw5,hB5⟩;have Al:Hid (Below p w w5):=Ag.out.trans hB5;have d4:=(cells_of_block (hB5.block b hb) 4).1.trans d4;obtain ⟨P5,hP5⟩:∃ x,(((((P∧isW stamp)∧(machine.length:Int)<=255)∧isW user)∧isW group)∧(n:Int)<=16)=x:=⟨_,rfl⟩;have Ab:Hid (P5↔(((((P∧isW stamp)∧(machine.length:Int)<=255)∧isW user)∧isW group)∧(n:Int)<=16)):=by rw [hP5];exact Iff.rfl
 rw [hP5] at hw5;have Am:Hid (WrP w5 p M P5 (l4++nbL 4 n)):=hw5;clear hB5 hw5 hP5 S5;obtain ⟨k,hk⟩:∃ k:Nat,min n 16=k:=⟨_,rfl⟩;have hkn:k<=n:=by omega
 have hk16:k<=16:=by omega
 have hki:min (n:Int) 16=(k:Int):=by omega
 have HK:Hid (min n 16=k):=hk;have hkc:k<=cap:=by omega
 clear hk;clear Ad Ae Af Ag K;go_wp2_with fail
 go_region;go_wp2_with fail
 go_loopw [56] (fun ix wr=>∃ j:Nat,ix=iI j∧j<=k∧Hid (WrP wr p M (P5∧∀ g∈gs.take j,isW g) (l4++nbL 4 n++zbr (gs.take j)))∧Hid (Below p w wr)) (fun ix _=>200 - (intOf ix).toNat)
 case atStart =>
  refine ⟨0,rfl,by omega,?_,?_⟩
  · exact (show WrP _ p M _ _ from (Am.out.iff (Q:=P5∧∀ g∈gs.take 0,isW g) ⟨fun x=>x.1,fun x=>⟨x,fun g hg=>by simp at hg⟩⟩ (m:=l4++nbL 4 n++zbr (gs.take 0)) (fun _=>by simp [zbr])).below (zan (Below.refl _ _) _))
  · exact (show Below p w _ from zan Al.out _)
 case round =>
  obtain ⟨j,rfl,hj,HW,HB⟩:=hrel;by_cases hlt:j<k
  · obtain ⟨q,off,ho,hq,hc⟩:=Ai.out (by have:=HN.out;omega);have hcell:wr.cell? ⟨q,off+j,none⟩=some (iI (gs.getD j 0)):=(cells_of_block (HB.out.block q hq) _).1.trans (hc j (by have:=HN.out;omega));subst ho;have S6:Hid (Calls Tryz.prog 116 #[.pointer (some ⟨p,0,none⟩),iI (gs.getD j 0)] wr (zb5 p M ((P5∧∀ g∈gs.take j,isW g)∧isW (gs.getD j 0)) (l4++nbL 4 n++zbr (gs.take j)++nbL 4 (gs.getD j 0).toNat) wr)) :=
     w_uint p _ M _ _ wr HW.out HM.out.1 HM.out.2 (fun x=>by
      have h5:=Ab.out.1 x.1;(have:=HR.out h5.1.1.1.1.1);(have:=Ah.out h5.1.1.1.2);simp only [List.length_append,zaf,zdl,List.length_take]
      omega)
    have HJ:Hid (j<gs.length):=(by have:=HN.out;show j<gs.length;omega);clear hc;obtain ⟨G,hG⟩:∃ G,gs.getD j 0=G:=⟨_,rfl⟩;have Ac:Hid (gs.getD j 0=G):=hG;rw [hG] at hcell S6;clear hG;(go_wp2_with fail);refine S6.out.mono ?_;rintro e w6 ⟨rfl,hw6,hB6⟩;have An:Hid (Below p w w6):=HB.out.trans hB6;have Ao:Hid (WrP w6 p M (P5∧∀ g∈gs.take (j+1),isW g) (l4++nbL 4 n++zbr (gs.take (j+1)))):=hw6.iff
     ⟨fun x=>⟨⟨x.1,((zer gs j HJ.out).1 x.2).1⟩,Ac.out ▸ ((zer gs j HJ.out).1 x.2).2⟩,fun x=>⟨x.1.1,(zer gs j HJ.out).2 ⟨x.1.2,Ac.out.symm ▸ x.2⟩⟩⟩
     (fun _=>by rw [zg7 gs j HJ.out,Ac.out,List.append_assoc (l4++nbL 4 n)])
    clear hw6 hB6 S6;go_wp2;go_roundw
    case rel=>exact ⟨j+1,by go_num,by omega,Ao,An⟩
    case measure=>simp [intOf];omega
  · obtain rfl:j=k:=(by omega);go_wp2;(first|go_end0|refine bodyPost_ret (results_none rfl _ _ _) rfl ?_);have hn:=HN.out;have hk:=HK.out;refine ⟨rfl,HW.out.iff ?_ ?_,HB.out⟩
    · unfold SysP.may;rw [Ab.out];constructor
      · rintro ⟨x0,x1,x2,x3,x4,x5,x6⟩;exact ⟨⟨⟨⟨⟨⟨x0,x1⟩,Int.ofNat_le.2 x4⟩,x2⟩,x3⟩,by simp only at x5;omega⟩,fun g hg=>x6 g (List.mem_of_mem_take hg)⟩
      · rintro ⟨⟨⟨⟨⟨⟨x0,x1⟩,x4⟩,x2⟩,x3⟩,x5⟩,x6⟩;refine ⟨x0,x1,x2,x3,Int.ofNat_le.1 x4,by simp only;omega,fun g hg=>x6 g ?_⟩;rw [List.take_of_length_le (by omega)];exact hg
    · intro x;have h5:=(Ab.out.1 x.1).2;rw [List.take_of_length_le (by omega),Ak.out,Aj.out];unfold SysP.body;simp only [List.append_assoc,hn]
def Bk (w:World) (b:Nat) (cs:List Value) (t:TypeId):Prop:=w.heap[b]?=some (.cells cs.toArray t)
theorem Bk.cell {w:World} {b:Nat} {cs:List Value} {t:TypeId} (h:Bk w b cs t) (i:Nat) {v:Value} (hv:cs[i]?=some v):w.cell? ⟨b,i,none⟩=some v:=by
 unfold Bk at h;simp [World.cell?,h,hv]
theorem Bk.frozen {w:World} {b:Nat} {cs:List Value} {t:TypeId} (h:Bk w b cs t) (i:Nat):w.frozen? ⟨b,i,none⟩=false:=by
 unfold Bk at h;simp [World.frozen?,h]
theorem Bk.lt {w:World} {b:Nat} {cs:List Value} {t:TypeId} (h:Bk w b cs t):b<w.heap.size:=by
 rcases Nat.lt_or_ge b w.heap.size with h1|h1
 · exact h1
 · unfold Bk at h;rw [Array.getElem?_eq_none h1] at h;cases h
theorem Bk.set {w:World} {b:Nat} {cs:List Value} {t:TypeId} (h:Bk w b cs t) (i:Nat) (v:Value):Bk (w.setCell ⟨b,i,none⟩ v) b (cs.set i v) t:=by
 unfold Bk at h ⊢;simp [World.setCell,Array.getElem?_modify,h]
theorem Bk.set_ne {w:World} {b b' : Nat} {cs:List Value} {t:TypeId} (h:Bk w b cs t) (hb:b≠b') (i:Nat) (v:Value):Bk (w.setCell ⟨b',i,none⟩ v) b cs t :=
 (Below.heap_setCell w _ v b hb).trans h
theorem Bk.new (w:World) (cs:List Value) (t:TypeId):Bk (w.alloc (.cells cs.toArray t)) w.heap.size cs t:=by
 show (w.heap.push _)[w.heap.size]?=_;simp
theorem Bk.below {w w' : World} {b B:Nat} {cs:List Value} {t:TypeId} (h:Bk w b cs t) (hB:Below B w w') (hb:b<B):Bk w' b cs t:=(hB.block b hb).trans h
theorem zav (w:World) (o:Obj):Below w.heap.size w (w.alloc o):=(Below.refl _ _).alloc (Nat.le_refl _) _
def prV (f:Int):Option (List UInt8)->Value
 | some l=>.tuple #[.agg #[iI f,.string ⟨l.toArray⟩],iI 0]
 | none=>.tuple #[.agg #[iI 0,.string ⟨#[]⟩],iI 110]
theorem authOf_ok (p:Nat) (f M:Int) (P:Prop) (l:List UInt8) (w:World) (h:WrP w p M P l) (hT:ErrT w) (hP:P) :
 Calls Tryz.prog 113 #[iI f,.pointer (some ⟨p,0,none⟩)] w fun e w'=>e=.returned (prV f (some l))∧Below w.heap.size w w':=by
 obtain ⟨wa,hwa⟩:∃ wa,w.alloc (.cells #[iI 0,.string ⟨#[]⟩] 44)=wa:=⟨_,rfl⟩;have hBa:Below w.heap.size w wa:=hwa ▸ zav _ _;have hz:wa.heap.size=w.heap.size+1:=by rw [<- hwa];simp
 have H1:Hid (Calls Tryz.prog 126 #[.pointer (some ⟨p,0,none⟩)] wa fun e w'=>e=.returned (.tuple #[.string ⟨l.toArray⟩,iI 0])∧Below wa.heap.size wa w'):=w_done_ok p M P l wa (h.below hBa) (hT.below hBa) hP;have HR:Hid (Bk wa w.heap.size [iI 0,.string ⟨#[]⟩] 44∧Below w.heap.size w wa∧wa.heap.size=w.heap.size+1):=⟨hwa ▸ Bk.new _ _ _,hBa,hz⟩;have Aa:Hid (w.alloc (.cells #[iI 0,.string ⟨#[]⟩] 44)=wa):=hwa;clear h hT hP hBa hz hwa;go_enter Tryz.func113,Tryz.ntmps113
 go_wp2_with fail
 rw [Aa.out];refine H1.out.mono ?_;rintro e w1 ⟨rfl,hB⟩;have hk:Bk w1 w.heap.size _ _:=HR.out.1.below hB (by have:=HR.out.2.2;omega);have c0:=hk.cell 0 rfl;have c1:=hk.cell 1 rfl;have f0:=hk.frozen 0;have f1:=hk.frozen 1;have q0:=((hk.set 0 (iI f)).set 1 (.string ⟨l.toArray⟩)).cell 0 rfl;have q1:=((hk.set 0 (iI f)).set 1 (.string ⟨l.toArray⟩)).cell 1 rfl;have HE:Hid (Below w.heap.size w ((w1.setCell ⟨w.heap.size,0,none⟩ (iI f)).setCell ⟨w.heap.size,1,none⟩ (.string ⟨l.toArray⟩))) :=
  (((HR.out.2.1.trans (hB.mono (by have:=HR.out.2.2;omega))).setCell (Nat.le_refl _) _).setCell (Nat.le_refl _) _)
 clear hB hk;go_wp2;refine bodyPost_ret (v:=prV f (some l)) (by unfold prV;simp [results,Tryz.results113,go_sem,q0,q1]) rfl ⟨rfl,HE.out⟩
theorem authOf_bad (p:Nat) (f M:Int) (P:Prop) (l:List UInt8) (w:World) (h:WrP w p M P l) (hT:ErrT w) (hP:¬ P) :
 Calls Tryz.prog 113 #[iI f,.pointer (some ⟨p,0,none⟩)] w fun e w'=>e=.returned (prV f none)∧Below w.heap.size w w':=by
 obtain ⟨wa,hwa⟩:∃ wa,w.alloc (.cells #[iI 0,.string ⟨#[]⟩] 44)=wa:=⟨_,rfl⟩;have hBa:Below w.heap.size w wa:=hwa ▸ zav _ _;have hz:wa.heap.size=w.heap.size+1:=by rw [<- hwa];simp
 have H1:Hid (Calls Tryz.prog 126 #[.pointer (some ⟨p,0,none⟩)] wa fun e w'=>(∃ E,E≠0∧e=.returned (.tuple #[.string ⟨#[]⟩,iI E]))∧Below wa.heap.size wa w'):=zgu p M P l wa (h.below hBa) (hT.below hBa) hP;have HR:Hid (Bk wa w.heap.size [iI 0,.string ⟨#[]⟩] 44∧Below w.heap.size w wa∧wa.heap.size=w.heap.size+1):=⟨hwa ▸ Bk.new _ _ _,hBa,hz⟩;have Aa:Hid (w.alloc (.cells #[iI 0,.string ⟨#[]⟩] 44)=wa):=hwa;clear h hT hP hBa hz hwa;go_enter Tryz.func113,Tryz.ntmps113
 go_wp2_with fail
 rw [Aa.out];refine H1.out.mono ?_;rintro e w1 ⟨⟨E,hE,rfl⟩,hB⟩;have hk:Bk w1 w.heap.size _ _:=HR.out.1.below hB (by have:=HR.out.2.2;omega);have c0:=hk.cell 0 rfl;have c1:=hk.cell 1 rfl;have f0:=hk.frozen 0;have f1:=hk.frozen 1;have q0:=((hk.set 0 (iI 0)).set 1 (.string ⟨#[]⟩)).cell 0 rfl;have q1:=((hk.set 0 (iI 0)).set 1 (.string ⟨#[]⟩)).cell 1 rfl;have HE:Hid (Below w.heap.size w ((w1.setCell ⟨w.heap.size,0,none⟩ (iI 0)).setCell ⟨w.heap.size,1,none⟩ (.string ⟨#[]⟩))) :=
  (((HR.out.2.1.trans (hB.mono (by have:=HR.out.2.2;omega))).setCell (Nat.le_refl _) _).setCell (Nat.le_refl _) _)
 have hE2:(E != 0)=true:=bne_iff_ne.2 hE;have hE3:¬ E=0:=hE;clear hB hk;go_wp2;refine bodyPost_ret (v:=prV f none) (by unfold prV;simp [results,Tryz.results113,go_sem,q0,q1]) rfl ⟨rfl,HE.out⟩
theorem zhe (p:Nat) (f M:Int) (P:Prop) [Decidable P] (l:List UInt8) (w:World) (h:WrP w p M P l) (hT:ErrT w) :
 Calls Tryz.prog 113 #[iI f,.pointer (some ⟨p,0,none⟩)] w fun e w'=>e=.returned (prV f (if P then some l else none))∧Below w.heap.size w w':=by
 by_cases hP:P
 · rw [if_pos hP];exact authOf_ok p f M P l w h hT hP
 · rw [if_neg hP];exact authOf_bad p f M P l w h hT hP
theorem GsAt.mono {w:World} {p p' : Nat} {oa:Option Addr} {gs:List Int} (h:GsAt w p oa gs) (hp:p<=p'):GsAt w p' oa gs:=fun h0=>by
 obtain ⟨q,off,h1,h2,h3⟩:=h h0;exact ⟨q,off,h1,by omega,h3⟩
theorem WrP.alloc {m:Int} {w wa:World} (hm:0<=m) (h:wa=w.alloc (.cells #[iI m,.slice none 0 0,.nilIface] 181)):WrP wa w.heap.size m True []∧Below w.heap.size w wa∧wa.heap.size=w.heap.size+1:=by
 subst h;exact ⟨WrP.new m w hm,zav _ _,by simp⟩
theorem prV_some (f:Int) (o:Option (List UInt8)):∃ (x:Int) (s:ByteArray) (y:Int),prV f o=.tuple #[.agg #[iI x,.string s],iI y]:=by
 cases o with
 | none=>exact ⟨_,_,_,rfl⟩
 | some l=>exact ⟨_,_,_,rfl⟩
theorem printSys_any (s:SysP) (oa:Option Addr) (cap:Nat) (w:World) (hT:ErrT w) (hg:GsAt w w.heap.size oa s.groups) (hcap:s.groups.length<=cap) (hlen:(s.groups.length:Int)<=9223372036854775807) :
 Calls Tryz.prog 71 #[.agg #[iI s.stamp,.string ⟨s.machine.toArray⟩,iI s.user,iI s.group,.slice oa s.groups.length cap]] w fun e w'=>e=.returned (prV 1 (printS s))∧Below w.heap.size w w':=by
 obtain ⟨w3,hw3⟩:∃ x,((w.alloc (.cells #[iI s.stamp,.string ⟨s.machine.toArray⟩,iI s.user,iI s.group,.slice oa s.groups.length cap] 26)).alloc (.cells #[iI 0,.string ⟨#[]⟩] 44)).alloc (.cells #[iI s.stamp,.string ⟨s.machine.toArray⟩,iI s.user,iI s.group,.slice oa s.groups.length cap] 171)=x:=⟨_,rfl⟩;have Ab:=hid hw3;have hz3:w3.heap.size=w.heap.size+1+1+1:=by rw [<- hw3];simp
 have hB3:Below w.heap.size w w3:=by
  rw [<- hw3];exact ((zav _ _).alloc (by simp) _).alloc (by simp;omega) _
 have hk3:Bk w3 (w.heap.size+1+1) [iI s.stamp,.string ⟨s.machine.toArray⟩,iI s.user,iI s.group,.slice oa s.groups.length cap] 171:=by
  rw [<- hw3];have:=Bk.new ((w.alloc (.cells #[iI s.stamp,.string ⟨s.machine.toArray⟩,iI s.user,iI s.group,.slice oa s.groups.length cap] 26)).alloc (.cells #[iI 0,.string ⟨#[]⟩] 44)) [iI s.stamp,.string ⟨s.machine.toArray⟩,iI s.user,iI s.group,.slice oa s.groups.length cap] 171;simpa using this
 have hr3:Bk w3 (w.heap.size+1) [iI 0,.string ⟨#[]⟩] 44:=by
  rw [<- hw3];refine Bk.below ?_ (zav _ _) (by simp);have:=Bk.new (w.alloc (.cells #[iI s.stamp,.string ⟨s.machine.toArray⟩,iI s.user,iI s.group,.slice oa s.groups.length cap] 26)) [iI 0,.string ⟨#[]⟩] 44
  simpa using this
 have HN:Hid (∀ w,Calls Tryz.prog 76 #[iI 400] w fun e w'=>e=.returned (.pointer (some ⟨w.heap.size,0,none⟩))∧w'=w.alloc (.cells #[iI 400,.slice none 0 0,.nilIface] 181)):=fun w=>w_new 400 w (by decide);have H3:Hid (w3.heap.size=w.heap.size+1+1+1∧Below w.heap.size w w3∧Bk w3 (w.heap.size+1) [iI 0,.string ⟨#[]⟩] 44∧ErrT w3):=⟨hz3,hB3,hr3,hT.below hB3⟩;have HS:Hid (∀ w4,w4=w3.alloc (.cells #[iI 400,.slice none 0 0,.nilIface] 181)->Calls Tryz.prog 112 #[.pointer (some ⟨w.heap.size+1+1,0,none⟩),.pointer (some ⟨w3.heap.size,0,none⟩)] w4 (zb5 w3.heap.size 400 (True∧s.may) ([]++s.body) w4)):=fun w4 h4=>by
  obtain ⟨h1,h2,h3⟩:=WrP.alloc (by decide) h4;have hk4:=hk3.below h2 (by omega);exact zg6 (w.heap.size+1+1) w3.heap.size s oa cap 400 True [] w4 h1 (by decide) (by decide) (by omega) (hk4.cell 0 rfl) (hk4.cell 1 rfl) (hk4.cell 2 rfl) (hk4.cell 3 rfl) (hk4.cell 4 rfl) (((hg.below hB3).mono (by omega)).below h2) hcap hlen (fun _=>by simp)
 have HP:Hid (∀ w5,WrP w5 w3.heap.size 400 (True∧s.may) ([]++s.body)->ErrT w5->Calls Tryz.prog 113 #[iI 1,.pointer (some ⟨w3.heap.size,0,none⟩)] w5 fun e w'=>e=.returned (prV 1 (printS s))∧Below w5.heap.size w5 w'):=fun w5 h5 hT5=>by
  have:=zhe w3.heap.size 1 400 s.may s.body w5 (h5.iff (by simp) (fun _=>by simp)) hT5
  exact this
 obtain ⟨st,mc,us,gr,gs⟩:=s;simp only at hg hcap hlen HS HP Ab ⊢;clear hz3 hB3 hk3 hr3 hg hT hw3;go_enter Tryz.func71,Tryz.ntmps71
 go_wp2_with fail
 rw [Ab.out];refine (HN.out _).mono ?_;rintro e w4 ⟨rfl,h4⟩;have H4:=hid h4;clear h4;go_wp2_with fail
 refine (HS.out _ H4.out).mono ?_;rintro e w5 ⟨rfl,h5,hB5⟩;have H5:Hid (WrP w5 w3.heap.size 400 (True∧SysP.may ⟨st,mc,us,gr,gs⟩) ([]++SysP.body ⟨st,mc,us,gr,gs⟩)):=h5;have Aa:Hid (Below w3.heap.size w3 w5):=(WrP.alloc (by decide) H4.out).2.1.trans hB5;have Ac:Hid (ErrT w5):=H3.out.2.2.2.below (Aa.out);clear h5 hB5;go_wp2_with fail
 refine (HP.out _ H5.out Ac.out).mono ?_;rintro e w6 ⟨rfl,hB6⟩;have hk:Bk w6 (w.heap.size+1) _ _:=(H3.out.2.2.1.below Aa.out (by have:=H3.out.1;omega)).below hB6 (by have:=H3.out.1;have:=Aa.out.size;omega);obtain ⟨x,sb,y,hv⟩:=prV_some 1 (printS ⟨st,mc,us,gr,gs⟩);rw [hv];have c0:=hk.cell 0 rfl;have c1:=hk.cell 1 rfl;have f0:=hk.frozen 0;have f1:=hk.frozen 1;have q0:=((hk.set 0 (iI x)).set 1 (.string sb)).cell 0 rfl;have q1:=((hk.set 0 (iI x)).set 1 (.string sb)).cell 1 rfl;have HE:Hid (Below w.heap.size w ((w6.setCell ⟨w.heap.size+1,0,none⟩ (iI x)).setCell ⟨w.heap.size+1,1,none⟩ (.string sb))) :=
  (((H3.out.2.1.trans (Aa.out.mono (by have:=H3.out.1;omega))).trans (hB6.mono (by have:=H3.out.1;have:=Aa.out.size;omega))).setCell (by simp) _).setCell (by simp) _
 have HV:=hid hv;clear hB6 hk hv;go_wp2;refine bodyPost_ret (v:=.tuple #[.agg #[iI x,.string sb],iI y]) (by simp [results,Tryz.results71,go_sem,q0,q1]) rfl ⟨by rw [HV.out],HE.out⟩
def from1 (m n:Int):Bool:=decide (1<=n)&&decide (n<=m)
theorem zc9 (m n:Int) (w:World):Calls Tryz.prog 182 #[iI m,iI n] w fun e w'=>e=.returned (.bool (from1 m n))∧w'=w:=by
 unfold from1;by_cases h0:1<=n
 · by_cases h1:n<=m
   · rw [decide_eq_true h0,decide_eq_true h1];have h2:decide (1<=n)=true:=decide_eq_true h0;have h3:decide (n<=m)=true:=decide_eq_true h1;(go_enter Tryz.func182,Tryz.ntmps182);go_wp2;go_ret;exact ⟨rfl,rfl⟩
   · rw [decide_eq_true h0,decide_eq_false h1];have h2:decide (1<=n)=true:=decide_eq_true h0;have h3:decide (n<=m)=false:=decide_eq_false h1;(go_enter Tryz.func182,Tryz.ntmps182);go_wp2;go_ret;exact ⟨rfl,rfl⟩
 · rw [decide_eq_false h0];have h2:decide (1<=n)=false:=decide_eq_false h0;go_enter Tryz.func182,Tryz.ntmps182
   go_wp2;go_ret;exact ⟨rfl,rfl⟩
def zb6 (i q u:Int):Bool:=from1 4611686018427387904 i&&(from1 4294967295 q&&from1 4294967295 u)
theorem zcd (i q u:Int):zb6 i q u=true↔(1<=i∧i<=4611686018427387904)∧(1<=q∧q<=4294967295)∧(1<=u∧u<=4294967295):=by
 unfold zb6 from1;simp only [Bool.and_eq_true,decide_eq_true_eq]
theorem nums_core (b:Nat) (i q u:Int) (x y z:Bool) (w:World) (c5:w.cell? ⟨b,5,none⟩=some (iI i)) (c6:w.cell? ⟨b,6,none⟩=some (iI q)) (c7:w.cell? ⟨b,7,none⟩=some (iI u))
 (H1:Hid (Calls Tryz.prog 182 #[iI 4611686018427387904,iI i] w fun e w'=>e=.returned (.bool x)∧w'=w)) (H2:Hid (Calls Tryz.prog 182 #[iI 4294967295,iI q] w fun e w'=>e=.returned (.bool y)∧w'=w))
 (H3:Hid (Calls Tryz.prog 182 #[iI 4294967295,iI u] w fun e w'=>e=.returned (.bool z)∧w'=w)) :
 Calls Tryz.prog 167 #[.pointer (some ⟨b,0,none⟩)] w fun e w'=>e=.returned (.bool (x&&(y&&z)))∧w'=w:=by
 cases x
 · go_enter Tryz.func167,Tryz.ntmps167
   go_wp2_with fail
   refine H1.out.mono ?_;rintro e w1 ⟨rfl,hw⟩;rw [hw];clear hw;go_wp2;go_ret;exact ⟨rfl,rfl⟩
 · cases y
   · (go_enter Tryz.func167,Tryz.ntmps167);(go_wp2_with fail);refine H1.out.mono ?_;rintro e w1 ⟨rfl,hw⟩;rw [hw];clear hw;(go_wp2_with fail);refine H2.out.mono ?_;rintro e w1 ⟨rfl,hw⟩;rw [hw];clear hw;go_wp2;go_ret;exact ⟨rfl,rfl⟩
   · (go_enter Tryz.func167,Tryz.ntmps167);(go_wp2_with fail);refine H1.out.mono ?_;rintro e w1 ⟨rfl,hw⟩;rw [hw];clear hw;(go_wp2_with fail);refine H2.out.mono ?_;rintro e w1 ⟨rfl,hw⟩;rw [hw];clear hw;(go_wp2_with fail);refine H3.out.mono ?_;rintro e w1 ⟨rfl,hw⟩;rw [hw];clear hw;go_wp2;go_ret;exact ⟨by cases z <;> rfl,rfl⟩
theorem nums_any (b:Nat) (i q u:Int) (w:World) (c5:w.cell? ⟨b,5,none⟩=some (iI i)) (c6:w.cell? ⟨b,6,none⟩=some (iI q)) (c7:w.cell? ⟨b,7,none⟩=some (iI u)) :
 Calls Tryz.prog 167 #[.pointer (some ⟨b,0,none⟩)] w fun e w'=>e=.returned (.bool (zb6 i q u))∧w'=w :=
 nums_core b i q u _ _ _ w c5 c6 c7 (zc9 _ _ w) (zc9 _ _ w) (zc9 _ _ w)
theorem mark_body (l:List UInt8) (m:MarkP) (h:m.may):l++byL 8 m.inst++byL 8 m.seq++byL 8 m.water++m.sys.body=l++m.body:=by
 obtain ⟨h1,h2,h3,_⟩:=h;unfold MarkP.body;rw [zb1 8 m.inst (by omega) (by simp;omega),zb1 8 m.seq (by omega) (by simp;omega),zb1 8 m.water (by omega) (by simp;omega)];simp only [List.append_assoc]
theorem may_iff (m:MarkP):m.may↔(zb6 m.inst m.seq m.water=true∧m.sys.may):=by
 unfold MarkP.may;rw [zcd];constructor
 · rintro ⟨a,b,c,d⟩;exact ⟨⟨a,b,c⟩,d⟩
 · rintro ⟨⟨a,b,c⟩,d⟩;exact ⟨a,b,c,d⟩
theorem mlay_any (b p:Nat) (m:MarkP) (oa:Option Addr) (cap:Nat) (M:Int) (P:Prop) (l:List UInt8) (w:World) (h:WrP w p M P l) (hM0:0<=M) (hM1:M<=2147483647) (hb:b<p)
 (c0:w.cell? ⟨b,0,none⟩=some (iI m.sys.stamp)) (c1:w.cell? ⟨b,1,none⟩=some (.string ⟨m.sys.machine.toArray⟩)) (c2:w.cell? ⟨b,2,none⟩=some (iI m.sys.user)) (c3:w.cell? ⟨b,3,none⟩=some (iI m.sys.group))
 (c4:w.cell? ⟨b,4,none⟩=some (.slice oa m.sys.groups.length cap)) (c5:w.cell? ⟨b,5,none⟩=some (iI m.inst)) (c6:w.cell? ⟨b,6,none⟩=some (iI m.seq)) (c7:w.cell? ⟨b,7,none⟩=some (iI m.water))
 (hg:GsAt w p oa m.sys.groups) (hcap:m.sys.groups.length<=cap) (hlen:(m.sys.groups.length:Int)<=9223372036854775807) (hr:P->(l.length:Int)+364<=M) :
 Calls Tryz.prog 137 #[.pointer (some ⟨b,0,none⟩),.pointer (some ⟨p,0,none⟩)] w (zb5 p M (P∧m.may) (l++m.body) w):=by
 have Ag:Hid (∀ w4,WrP w4 p M ((P∧zb6 m.inst m.seq m.water=true)∧m.sys.may) (l++byL 8 m.inst++byL 8 m.seq++byL 8 m.water++m.sys.body)->WrP w4 p M (P∧m.may) (l++m.body)):=fun w4 h4 =>
  h4.iff (by rw [may_iff];exact ⟨fun x=>⟨⟨x.1,x.2.1⟩,x.2.2⟩,fun x=>⟨x.1.1,x.1.2,x.2⟩⟩) (fun x=>mark_body l m ((may_iff m).2 ⟨x.1.2,x.2⟩))
 obtain ⟨i,q,u,s⟩:=m;simp only at c0 c1 c2 c3 c4 c5 c6 c7 hg hcap hlen Ag;have K:Hid (∀ w1:World,Below p w w1->∀ o,w1.cell? ⟨b,o,none⟩=w.cell? ⟨b,o,none⟩):=fun w1 hB o=>(cells_of_block (hB.block b hb) o).1;have HL:Hid (∀ w3 l3,Below p w w3->WrP w3 p M (P∧zb6 i q u=true) l3->((P∧zb6 i q u=true)->(l3.length:Int)+340<=M)->Calls Tryz.prog 112 #[.pointer (some ⟨b,0,none⟩),.pointer (some ⟨p,0,none⟩)] w3 (zb5 p M ((P∧zb6 i q u=true)∧s.may) (l3++s.body) w3)):=fun w3 l3 hB h3 hr3 =>
  zg6 b p s oa cap M _ l3 w3 h3 hM0 hM1 hb ((K.out w3 hB 0).trans c0) ((K.out w3 hB 1).trans c1) ((K.out w3 hB 2).trans c2) ((K.out w3 hB 3).trans c3) ((K.out w3 hB 4).trans c4) (hg.below hB) hcap hlen hr3
 have HR:Hid ((P∧zb6 i q u=true)->(l.length:Int)+364<=M):=fun x=>hr x.1;have HM:Hid (0<=M∧M<=2147483647):=⟨hM0,hM1⟩;have Ae:=hid (nums_any b i q u w c5 c6 c7);have Ak:Hid (Calls Tryz.prog 115 #[.pointer (some ⟨p,0,none⟩),iI 110] w (zb5 p M (P∧False) l w)):=w_fail p M 110 P l w h (by decide);have Al:=hid h;have HF:=Ag;clear Ag h hg hr c0 c1 c2 c3 c4 hM0 hM1 hcap hlen;cases hnb:zb6 i q u
 · rw [hnb] at Ae;have Aj:=hid hnb;go_enter Tryz.func137,Tryz.ntmps137
   go_wp2_with fail
   refine Ae.out.mono ?_;rintro e w9 ⟨rfl,hw⟩;rw [hw];clear hw;go_wp2_with fail
   refine Ak.out.mono ?_;rintro e W0 ⟨rfl,hw0,hB0⟩;have Af:Hid (Below p w W0):=hB0;have Ab:Hid (WrP W0 p M (P∧zb6 i q u=true) l):=hw0.iff (by rw [Aj.out];simp) (fun _=>rfl);have c5:=(K.out W0 hB0 5).trans c5;generalize hP0:(P∧zb6 i q u=true)=P0 at HL HF HR Ab;clear hP0 hB0 hw0 hnb Aj;have S1:Hid (Calls Tryz.prog 168 #[.pointer (some ⟨p,0,none⟩),iI i] W0 (zb5 p M P0 (l++byL 8 i) W0)):=zeu p i M P0 l W0 Ab.out HM.out.1 HM.out.2 (fun x=>by have:=HR.out x;omega);go_wp2_with fail
   refine S1.out.mono ?_;rintro e w1 ⟨rfl,hw1,hB1⟩;have Aa:Hid (Below p w w1):=Af.out.trans hB1;have d6:=(K.out w1 Aa.out 6).trans c6;have d7:=(K.out w1 Aa.out 7).trans c7;have S2:Hid (Calls Tryz.prog 168 #[.pointer (some ⟨p,0,none⟩),iI q] w1 (zb5 p M P0 (l++byL 8 i++byL 8 q) w1)):=zeu p q M P0 _ w1 hw1 HM.out.1 HM.out.2 (fun x=>by have:=HR.out x;rw [List.length_append,zbo];omega);clear hB1 hw1 S1;go_wp2_with fail
   refine S2.out.mono ?_;rintro e w2 ⟨rfl,hw2,hB2⟩;have Ac:Hid (Below p w w2):=Aa.out.trans hB2;have e7:=(K.out w2 Ac.out 7).trans c7;have S3:Hid (Calls Tryz.prog 168 #[.pointer (some ⟨p,0,none⟩),iI u] w2 (zb5 p M P0 (l++byL 8 i++byL 8 q++byL 8 u) w2)):=zeu p u M P0 _ w2 hw2 HM.out.1 HM.out.2 (fun x=>by have:=HR.out x;simp only [List.length_append,zbo];omega);clear hB2 hw2 S2 d6 d7;go_wp2_with fail
   refine S3.out.mono ?_;rintro e w3 ⟨rfl,hw3,hB3⟩;have Ad:Hid (Below p w w3):=Ac.out.trans hB3;have S4:Hid (Calls Tryz.prog 112 #[.pointer (some ⟨b,0,none⟩),.pointer (some ⟨p,0,none⟩)] w3 (zb5 p M (P0∧s.may) (l++byL 8 i++byL 8 q++byL 8 u++s.body) w3)):=HL.out w3 _ Ad.out hw3 (fun x=>by have:=HR.out x;simp only [List.length_append,zbo];omega);clear hB3 hw3 S3 e7;go_wp2_with fail
   refine S4.out.mono ?_;rintro e w4 ⟨rfl,hw4,hB4⟩;have Ah:Hid (Below p w w4):=Ad.out.trans hB4;have Ai:=hid hw4;clear hB4 hw4 S4;go_wp2;first|go_end0|refine bodyPost_ret (results_none rfl _ _ _) rfl ?_
   exact ⟨rfl,HF.out _ Ai.out,Ah.out⟩
 · rw [hnb] at Ae;obtain ⟨W0,hW0⟩:∃ x,x=w:=⟨_,rfl⟩;have Af:Hid (Below p w W0):=by rw [hW0];exact Below.refl _ _
   have Ab:Hid (WrP W0 p M (P∧zb6 i q u=true) l):=by rw [hW0];exact Al.out.iff ⟨fun x=>x.1,fun x=>⟨x,hnb⟩⟩ (fun _=>rfl)
   have Am:=hid hW0;generalize hP0:(P∧zb6 i q u=true)=P0 at HL HF HR Ab;clear hP0 hnb hW0;go_enter Tryz.func137,Tryz.ntmps137
   go_wp2_with fail
   refine Ae.out.mono ?_;rintro e w9 ⟨rfl,hw⟩;rw [hw];clear hw;rw [<- Am.out];have c5:=(K.out W0 Af.out 5).trans c5;have S1:Hid (Calls Tryz.prog 168 #[.pointer (some ⟨p,0,none⟩),iI i] W0 (zb5 p M P0 (l++byL 8 i) W0)):=zeu p i M P0 l W0 Ab.out HM.out.1 HM.out.2 (fun x=>by have:=HR.out x;omega);go_wp2_with fail
   refine S1.out.mono ?_;rintro e w1 ⟨rfl,hw1,hB1⟩;have Aa:Hid (Below p w w1):=Af.out.trans hB1;have d6:=(K.out w1 Aa.out 6).trans c6;have d7:=(K.out w1 Aa.out 7).trans c7;have S2:Hid (Calls Tryz.prog 168 #[.pointer (some ⟨p,0,none⟩),iI q] w1 (zb5 p M P0 (l++byL 8 i++byL 8 q) w1)):=zeu p q M P0 _ w1 hw1 HM.out.1 HM.out.2 (fun x=>by have:=HR.out x;rw [List.length_append,zbo];omega);clear hB1 hw1 S1;go_wp2_with fail
   refine S2.out.mono ?_;rintro e w2 ⟨rfl,hw2,hB2⟩;have Ac:Hid (Below p w w2):=Aa.out.trans hB2;have e7:=(K.out w2 Ac.out 7).trans c7;have S3:Hid (Calls Tryz.prog 168 #[.pointer (some ⟨p,0,none⟩),iI u] w2 (zb5 p M P0 (l++byL 8 i++byL 8 q++byL 8 u) w2)):=zeu p u M P0 _ w2 hw2 HM.out.1 HM.out.2 (fun x=>by have:=HR.out x;simp only [List.length_append,zbo];omega);clear hB2 hw2 S2 d6 d7;go_wp2_with fail
   refine S3.out.mono ?_;rintro e w3 ⟨rfl,hw3,hB3⟩;have Ad:Hid (Below p w w3):=Ac.out.trans hB3;have S4:Hid (Calls Tryz.prog 112 #[.pointer (some ⟨b,0,none⟩),.pointer (some ⟨p,0,none⟩)] w3 (zb5 p M (P0∧s.may) (l++byL 8 i++byL 8 q++byL 8 u++s.body) w3)):=HL.out w3 _ Ad.out hw3 (fun x=>by have:=HR.out x;simp only [List.length_append,zbo];omega);clear hB3 hw3 S3 e7;go_wp2_with fail
   refine S4.out.mono ?_;rintro e w4 ⟨rfl,hw4,hB4⟩;have Ah:Hid (Below p w w4):=Ad.out.trans hB4;have Ai:=hid hw4;clear hB4 hw4 S4;go_wp2;first|go_end0|refine bodyPost_ret (results_none rfl _ _ _) rfl ?_
   exact ⟨rfl,HF.out _ Ai.out,Ah.out⟩
theorem markOf_any (m:MarkP) (oa:Option Addr) (cap:Nat) (w:World) :
 Calls Tryz.prog 136 #[.agg #[iI m.inst,iI m.seq,iI m.water,iI m.sys.stamp,.string ⟨m.sys.machine.toArray⟩,iI m.sys.user,iI m.sys.group,.slice oa m.sys.groups.length cap]] w fun e w'=>e=.returned (.pointer (some ⟨w.heap.size+1,0,none⟩))∧w'.heap.size=w.heap.size+1+1∧Below w.heap.size w w'∧Bk w' (w.heap.size+1) [iI m.sys.stamp,.string ⟨m.sys.machine.toArray⟩,iI m.sys.user,iI m.sys.group,.slice oa m.sys.groups.length cap,iI m.inst,iI m.seq,iI m.water] 258:=by
 obtain ⟨i,q,u,st,mc,us,gr,gs⟩:=m;simp only;go_enter Tryz.func136,Tryz.ntmps136
 go_wp2;go_ret;refine ⟨rfl,by simp,(zav _ _).alloc (by simp) _,?_⟩;have:=Bk.new (w.alloc (.cells #[iI i,iI q,iI u,iI st,.string ⟨mc.toArray⟩,iI us,iI gr,.slice oa gs.length cap] 131)) [iI st,.string ⟨mc.toArray⟩,iI us,iI gr,.slice oa gs.length cap,iI i,iI q,iI u] 258
 simpa using this
theorem zhr (m:MarkP) (oa:Option Addr) (cap:Nat) (w:World) (hT:ErrT w) (hg:GsAt w w.heap.size oa m.sys.groups) (hcap:m.sys.groups.length<=cap) (hlen:(m.sys.groups.length:Int)<=9223372036854775807) :
 Calls Tryz.prog 94 #[.agg #[iI m.inst,iI m.seq,iI m.water,iI m.sys.stamp,.string ⟨m.sys.machine.toArray⟩,iI m.sys.user,iI m.sys.group,.slice oa m.sys.groups.length cap]] w fun e w'=>e=.returned (prV 1296126539 (zea m))∧Below w.heap.size w w':=by
 obtain ⟨w2,hw2⟩:∃ x,(w.alloc (.cells #[iI m.inst,iI m.seq,iI m.water,iI m.sys.stamp,.string ⟨m.sys.machine.toArray⟩,iI m.sys.user,iI m.sys.group,.slice oa m.sys.groups.length cap] 131)).alloc (.cells #[iI 0,.string ⟨#[]⟩] 44)=x:=⟨_,rfl⟩;have Ab:=hid hw2;have hz2:w2.heap.size=w.heap.size+1+1:=by rw [<- hw2];simp
 have hB2:Below w.heap.size w w2:=by
  rw [<- hw2];exact (zav _ _).alloc (by simp) _
 have hr2:Bk w2 (w.heap.size+1) [iI 0,.string ⟨#[]⟩] 44:=by
  rw [<- hw2];have:=Bk.new (w.alloc (.cells #[iI m.inst,iI m.seq,iI m.water,iI m.sys.stamp,.string ⟨m.sys.machine.toArray⟩,iI m.sys.user,iI m.sys.group,.slice oa m.sys.groups.length cap] 131)) [iI 0,.string ⟨#[]⟩] 44
  simpa using this
 have Ac:=hid (markOf_any m oa cap w2);have HN:Hid (∀ w,Calls Tryz.prog 76 #[iI 400] w fun e w'=>e=.returned (.pointer (some ⟨w.heap.size,0,none⟩))∧w'=w.alloc (.cells #[iI 400,.slice none 0 0,.nilIface] 181)):=fun w=>w_new 400 w (by decide);have H2:Hid (w2.heap.size=w.heap.size+1+1∧Below w.heap.size w w2∧Bk w2 (w.heap.size+1) [iI 0,.string ⟨#[]⟩] 44∧ErrT w2):=⟨hz2,hB2,hr2,hT.below hB2⟩;have HS:Hid (∀ w3 w4,w3.heap.size=w2.heap.size+1+1->Below w2.heap.size w2 w3->Bk w3 (w2.heap.size+1) [iI m.sys.stamp,.string ⟨m.sys.machine.toArray⟩,iI m.sys.user,iI m.sys.group,.slice oa m.sys.groups.length cap,iI m.inst,iI m.seq,iI m.water] 258->w4=w3.alloc (.cells #[iI 400,.slice none 0 0,.nilIface] 181)->Calls Tryz.prog 137 #[.pointer (some ⟨w2.heap.size+1,0,none⟩),.pointer (some ⟨w3.heap.size,0,none⟩)] w4 (zb5 w3.heap.size 400 (True∧m.may) ([]++m.body) w4)):=fun w3 w4 hz3 hB3 hk3 h4=>by
  obtain ⟨h1,h2,h3⟩:=WrP.alloc (by decide) h4;have hk4:=hk3.below h2 (by omega);exact mlay_any (w2.heap.size+1) w3.heap.size m oa cap 400 True [] w4 h1 (by decide) (by decide) (by omega) (hk4.cell 0 rfl) (hk4.cell 1 rfl) (hk4.cell 2 rfl) (hk4.cell 3 rfl) (hk4.cell 4 rfl) (hk4.cell 5 rfl) (hk4.cell 6 rfl) (hk4.cell 7 rfl) ((((hg.below (hB2.mono (Nat.le_refl _))).below (hB3.mono (by omega))).mono (by omega)).below h2) hcap hlen (fun _=>by simp)
 have HP:Hid (∀ p w5,WrP w5 p 400 (True∧m.may) ([]++m.body)->ErrT w5->Calls Tryz.prog 113 #[iI 1296126539,.pointer (some ⟨p,0,none⟩)] w5 fun e w'=>e=.returned (prV 1296126539 (zea m))∧Below w5.heap.size w5 w'):=fun p w5 h5 hT5=>by
  have:=zhe p 1296126539 400 m.may m.body w5 (h5.iff (by simp) (fun _=>by simp)) hT5
  exact this
 clear hz2 hB2 hr2 hg hT hw2;obtain ⟨i,q,u,st,mc,us,gr,gs⟩:=m;simp only at hcap hlen HS HP Ab Ac ⊢;go_enter Tryz.func94,Tryz.ntmps94
 go_wp2_with fail
 rw [Ab.out];refine Ac.out.mono ?_;rintro e w3 ⟨rfl,hz3,hB3,hk3⟩;have H3:=hid (And.intro hz3 (And.intro hB3 hk3));clear hz3 hB3 hk3;go_wp2_with fail
 refine (HN.out _).mono ?_;rintro e w4 ⟨rfl,h4⟩;have H4:=hid h4;clear h4;go_wp2_with fail
 refine (HS.out _ _ H3.out.1 H3.out.2.1 H3.out.2.2 H4.out).mono ?_;rintro e w5 ⟨rfl,h5,hB5⟩;have H5:=hid h5;have Ad:Hid (Below w3.heap.size w3 w5):=(WrP.alloc (by decide) H4.out).2.1.trans hB5;have Aa:Hid (Below w2.heap.size w2 w5):=H3.out.2.1.trans (Ad.out.mono (by have:=H3.out.1;omega));have Ae:Hid (ErrT w5):=H2.out.2.2.2.below Aa.out;clear h5 hB5;go_wp2_with fail
 refine (HP.out _ _ H5.out Ae.out).mono ?_;rintro e w6 ⟨rfl,hB6⟩;have hk:Bk w6 (w.heap.size+1) _ _:=(H2.out.2.2.1.below Aa.out (by have:=H2.out.1;omega)).below hB6 (by have:=H2.out.1;have:=Aa.out.size;omega);obtain ⟨x,sb,y,hv⟩:=prV_some 1296126539 (zea ⟨i,q,u,st,mc,us,gr,gs⟩);rw [hv];have c0:=hk.cell 0 rfl;have c1:=hk.cell 1 rfl;have f0:=hk.frozen 0;have f1:=hk.frozen 1;have q0:=((hk.set 0 (iI x)).set 1 (.string sb)).cell 0 rfl;have q1:=((hk.set 0 (iI x)).set 1 (.string sb)).cell 1 rfl;have HE:Hid (Below w.heap.size w ((w6.setCell ⟨w.heap.size+1,0,none⟩ (iI x)).setCell ⟨w.heap.size+1,1,none⟩ (.string sb))) :=
  (((H2.out.2.1.trans (Aa.out.mono (by have:=H2.out.1;omega))).trans (hB6.mono (by have:=H2.out.1;have:=Aa.out.size;omega))).setCell (by simp) _).setCell (by simp) _
 have HV:=hid hv;clear hB6 hk hv;go_wp2;refine bodyPost_ret (v:=.tuple #[.agg #[iI x,.string sb],iI y]) (by simp [results,Tryz.results94,go_sem,q0,q1]) rfl ⟨by rw [HV.out],HE.out⟩
theorem zdx {α:Type} (st:Rs) (d:α) (f:List UInt8->Rd α):(st.go d f).2.l.length<=st.l.length:=by
 unfold Rs.go;split
 · exact Nat.le_refl _
 · split
   · exact Nat.le_refl _
   · simp
theorem RR.of_block {w w' : World} {p:Nat} {l:List UInt8} {E:Int} (h:RR w p l E) (hb:w'.heap[p]?=w.heap[p]?):RR w' p l E :=
 ⟨(zaj hb 0).1.trans h.l,(zaj hb 1).1.trans h.e,(zaj hb 0).2.trans h.f0,(zaj hb 1).2.trans h.f1⟩
theorem RR.set_ne {w:World} {p b:Nat} {l:List UInt8} {E:Int} (h:RR w p l E) (hb:p≠b) (i:Nat) (v:Value):RR (w.setCell ⟨b,i,none⟩ v) p l E :=
 h.of_block (Below.heap_setCell w _ v p hb)
theorem Sole.belowB {w w' : World} {p b:Nat} (h:Sole p w w') (hb:b<=p) (hz:b<=w.heap.size):Below b w w':=⟨h.os,h.tape,h.output,h.size,fun k hk=>h.block k (by omega) (by omega)⟩
theorem Bk.sole {w w' : World} {p b:Nat} {cs:List Value} {t:TypeId} (h:Bk w b cs t) (hS:Sole p w w') (hb:b≠p):Bk w' b cs t:=(hS.block b h.lt hb).trans h
theorem info_int:∃ i:TypeInfo,Tryz.prog.info? 3=some i∧i.zero=some (iI 0)∧i.size=1∧i.bytes=8 :=
 ⟨(Tryz.prog.info? 3).getD default,by kernel_rfl,by kernel_rfl,by kernel_rfl,by kernel_rfl⟩
def zci (gs:List Int):List Value:=gs.map fun g=>iI g
theorem zbz (gs:List Int):(zci gs).length=gs.length:=by simp [zci]
structure At (w0 w:World) (b p:Nat) (st:Rs) (cs:List Value) (t:TypeId):Prop where
 r:RR w p st.l st.e
 k:Bk w b cs t
 low:Below b w0 w
 lp:b<p
theorem two_start (cs ds:List Value) (t u:TypeId) (w w2:World) (h:w2=(w.alloc (.cells cs.toArray t)).alloc (.cells ds.toArray u)):Bk w2 (w.heap.size+1) ds u∧Below w.heap.size w w2∧w2.heap.size=w.heap.size+1+1:=by
 subst h;have hz:(w.alloc (.cells cs.toArray t)).heap.size=w.heap.size+1:=by simp
 refine ⟨?_,(zav _ _).alloc (by simp) _,by simp⟩;have:=Bk.new (w.alloc (.cells cs.toArray t)) ds u
 rwa [hz] at this

end Go.Proofs.YtfcbjcebkahehaaGreatDoor
namespace Go.Proofs.YtfcbjcebkahehaaGreatDoor
open Go.ChangeMaps Go.ChangeShapes Go.WideShapes Go.ChangeAt Go.RowKit
theorem own:ownKnob Tryz.prog.godebug=none:=by kernel_rfl
theorem lift_law {H:Type} {enc:TypeId × Value->H} {os:Os} {f:FuncId} {fn:Func} {s:ChangeSpec} {X:World->Array Value->Prop}
 (hX:∀ (w w' : World) (args:Array Value),w.heap=w'.heap->X w args->X w' args) (started:os.Started) (noInit:Tryz.checked.prog.inits.idxOf? f=none) (hfn:Tryz.checked.prog.funcs[f]?=some fn)
 (witness:∃ (w:World) (tape:Tape) (i:Input),w.os=os∧(w.forCall tape i).Shaped Tryz.checked.prog∧i.vars=[]∧Input.okWide Tryz.checked.prog (w.forCall tape i) .any w.heap.size f i ∧
   ((s.pre enc Tryz.checked.prog fn [] false (w.forCall tape i).memory i.args∧X (w.forCall tape i).memory i.args)∧sizedMet enc Tryz.checked.prog fn (OpenSpec.ofChange s) false (w.forCall tape i).memory i.args)∧({} : Assume).holds Tryz.checked.prog (lone (Frame.enter Tryz.checked.prog f i.args .normal) [] (w.forCall tape i)))
 (contract:∀ (W:World) (base:Nat) (args:Array Value) (ds gs:List (DataW H)) (before:List MemPlace),
   (∀ (j:Nat) t v,fn.params[j]?=some t->args[j]?=some v->Value.okWide Tryz.checked.prog W .any base t v) ->
   DataW.Whole enc Tryz.checked.prog fn.params.toList s.vars false W args.toList ds gs before ->
   (DataW.weightsEach Tryz.checked.prog (fn.params.toList++s.plain.varTypes Tryz.checked.prog) (ds++gs)).all (·<=reachBytes)=true->X W args->W.ShapedOpen Tryz.checked.prog ->
   Calls Tryz.checked.prog f args W fun e W'=>∃ v,e=.returned v∧s.post enc Tryz.checked.prog fn false true false false W args v W') :
 ReturnsInHanded {} Tryz.checked os f .any (fun w args=>(s.pre enc Tryz.checked.prog fn [] false w args∧X w args)∧sizedMet enc Tryz.checked.prog fn (OpenSpec.ofChange s) false w args) (s.post enc Tryz.checked.prog fn false true false false):=by
 refine returnsInHanded_of_calls own started noInit witness ?_;intro w tape i _ hsh _ hok hpre _;obtain ⟨_,_,_,fn',hfn',_,_,_,_,hval⟩:=hok;obtain rfl:fn'=fn:=Option.some.inj (hfn'.symm.trans hfn);obtain ⟨⟨⟨ds,gs,before,hw,_⟩,hx⟩,hz⟩:=hpre;refine (contract (w.forCall tape i) w.heap.size i.args ds gs before hval (DataW.Whole.of_heap (w':=w.forCall tape i) (by rfl) hw) (hz.weights hw) (hX _ _ _ (by rfl) hx) hsh).mono ?_;rintro e W' ⟨v,rfl,hp⟩;exact ChangeSpec.post_blind hp
theorem err_rt:(Tryz.prog.cutTypes.find? (·.1== "internal/reflectlite.rtype")).map (·.2)=some 283:=by kernel_rfl
theorem err_row:((List.range 332).filter fun t=>Tryz.prog.rowNamed t [101,114,114,111,114])=[177]:=by kernel_rfl
theorem zek:Tryz.prog.types.size=332:=by kernel_rfl
theorem err_glob:Tryz.prog.globalNamed "errors.errorType" = some 1:=by kernel_rfl
theorem errT_of {W:World} (h:laidMetH Tryz.prog [("errors.errorType",Rows.laid_errors_errorType)] W):ErrT W:=by
 have h' : laidMet Tryz.prog [] W∧handlesMet Tryz.prog [("errors.errorType",Rows.laid_errors_errorType)] W:=h
 obtain ⟨name,u,ty,e1,e2,e3,e4,e5⟩:=h'.2 _ (List.mem_singleton.2 rfl);have en:name=[101,114,114,111,114]:=(Option.some.inj e1).symm;subst en;obtain rfl:=Option.some.inj (err_rt.symm.trans e2);have hm:ty∈(List.range 332).filter fun t=>Tryz.prog.rowNamed t [101,114,114,111,114]:=List.mem_filter.2 ⟨List.mem_range.2 (by rw [<- zek];exact e3),e4⟩;rw [err_row] at hm;obtain rfl:=List.mem_singleton.1 hm;have hh:typeHandle Tryz.prog 177=.pointer (some ⟨2,177,none⟩):=by kernel_rfl
 rw [hh] at e5;simpa [ErrT] using World.var?_cell err_glob e5 0
theorem wf_i64 {n:Int} (h:(Lit.int .i64 n).wf=true):-9223372036854775808<=n∧n<=9223372036854775807:=by
 have hmin:IntKind.i64.min=-9223372036854775808:=rfl;have hmax:IntKind.i64.max=9223372036854775807:=rfl;simp only [Lit.wf,Bool.and_eq_true,decide_eq_true_eq] at h;omega
theorem zgg:Tryz.prog.cellsOf 3=1:=by kernel_rfl
theorem cellsS:Tryz.prog.cellsOf 9=1:=by kernel_rfl
theorem cellsL:Tryz.prog.cellsOf 24=1:=by kernel_rfl
theorem cellsSy:Tryz.prog.cellsOf 26=5:=by kernel_rfl
theorem cellsAu:Tryz.prog.cellsOf 44=2:=by kernel_rfl
theorem list2 {α:Type} (l:List α) (h:l.length=2):∃ a b,l=[a,b]:=by
 match l,h with
 | [a,b],_=>exact ⟨a,b,rfl⟩
theorem list5 {α:Type} (l:List α) (h:l.length=5):∃ a b c d e,l=[a,b,c,d,e]:=by
 match l,h with
 | [a,b,c,d,e],_=>exact ⟨a,b,c,d,e,rfl⟩
theorem list10 {α:Type} (l:List α) (h:l.length=10):∃ a b c d e f g i j k,l=[a,b,c,d,e,f,g,i,j,k]:=by
 match l,h with
 | [a,b,c,d,e,f,g,i,j,k],_=>exact ⟨a,b,c,d,e,f,g,i,j,k,rfl⟩
section
variable {H:Type} {enc:TypeId × Value->H} {w:World} {sp:Nat->Bool} {held:Bool}
theorem ints_up {fuel:Nat} {v:Value} {x:DataW H × List MemPlace} (h:DataW.trod enc Tryz.prog w 0 sp held fuel 24 [v]=some x) :
 ∃ (gs:List Int) (oa:Option Addr) (cap:Nat),v=.slice oa gs.length cap∧GsAt w w.heap.size oa gs∧gs.length<=cap∧cap<=maxLen:=by
 rcases DataW.trod_slice Tryz.underlying24 h with ⟨h5,_⟩|⟨a,len,cap,elems,rest,n',hn,h5,_,_,hlc,hcm,hel,hrow,_⟩
 · rw [List.cons.injEq] at h5;exact ⟨[],none,0,h5.1,fun h0=>by simp at h0,by simp,by unfold maxLen;omega⟩
 · rw [List.cons.injEq] at h5;rw [zgg] at hrow;have hone:∀ i,i<len->∃ z:Int,w.cell? (a.add i)=some (iI z):=by
    intro i hi;have hr:=hrow i hi;obtain ⟨y,hy⟩:∃ y,elems[i]?=some y:=⟨elems[i]'(by omega),List.getElem?_eq_getElem (by omega)⟩;rw [hy,Option.bind_eq_some_iff] at hr;obtain ⟨ds,hd1,hd2⟩:=hr;obtain ⟨_,hdl,hdc⟩:=World.cells?_some hd1;obtain ⟨z,hz,_,_⟩:=DataW.trod_int Tryz.underlying3 hd2;have g0:=hdc 0 (by omega);rw [hz,Addr.add_zero',Nat.mul_one] at g0;exact ⟨z,by simpa using g0⟩
   obtain ⟨f,hf⟩:∃ f:Nat->Int,∀ i,i<len->w.cell? (a.add i)=some (iI (f i)) :=
    ⟨fun i=>if hi:i<len then (hone i hi).choose else 0,fun i hi=>by simp only [dif_pos hi];exact (hone i hi).choose_spec⟩
   refine ⟨(List.range len).map f,some a,cap,by simpa using h5.1,fun h0=>?_,by simpa using hlc,hcm⟩;have h0' : 0<len:=by simpa using h0
   obtain ⟨g,o,spot⟩:=a;have hc:=hf 0 h0';rw [Addr.add_zero'] at hc;have hspot:spot=none:=World.cell?_spot hc;subst hspot;refine ⟨g,o,rfl,World.block_lt_of_cell? w _ hc,fun i hi=>?_⟩;have hi' : i<len:=by simpa using hi
   have:=hf i hi'
   have e:((List.range len).map f).getD i 0=f i:=by rw [List.getD_eq_getElem?_getD];simp [hi']
   rw [e];simp only [Go.WideShapes.add_plain] at this;exact this
theorem sys_up {fuel:Nat} {cs:List Value} {x:DataW H × List MemPlace} (h:DataW.trod enc Tryz.prog w 0 sp held fuel 26 cs=some x) :
 ∃ (s:SysP) (oa:Option Addr) (cap:Nat),cs=[iI s.stamp,.string ⟨s.machine.toArray⟩,iI s.user,iI s.group,.slice oa s.groups.length cap]∧GsAt w w.heap.size oa s.groups∧s.groups.length<=cap∧cap<=maxLen:=by
 obtain ⟨xs,n,_,_,hl,hlen,hall⟩:=DataW.trod_struct Tryz.underlying26 h;rw [cellsSy] at hl;obtain ⟨v0,v1,v2,v3,v4,rfl⟩:=list5 cs hl;obtain ⟨y0,y1,y2,y3,y4,rfl⟩:=list5 xs hlen
 have e0:=hall 0 { name := "Stamp",type:=3,offset:=0,embedded:=false,tag := "",pkgPath := "",byteOffset:=0 } rfl
 have e1:=hall 1 { name := "Machine",type:=9,offset:=1,embedded:=false,tag := "",pkgPath := "",byteOffset:=8 } rfl
 have e2:=hall 2 { name := "User",type:=3,offset:=2,embedded:=false,tag := "",pkgPath := "",byteOffset:=24 } rfl
 have e3:=hall 3 { name := "Group",type:=3,offset:=3,embedded:=false,tag := "",pkgPath := "",byteOffset:=32 } rfl
 have e4:=hall 4 { name := "Groups",type:=24,offset:=4,embedded:=false,tag := "",pkgPath := "",byteOffset:=40 } rfl
 dsimp only at e0 e1 e2 e3 e4
 rw [zgg] at e0 e2 e3;rw [cellsS] at e1;rw [cellsL] at e4;obtain ⟨z0,hz0,_,_⟩:=DataW.trod_int Tryz.underlying3 (cs:=[v0]) (x:=y0) e0;obtain ⟨z1,hz1,_,_⟩:=DataW.trod_string Tryz.underlying9 (cs:=[v1]) (x:=y1) e1;obtain ⟨z2,hz2,_,_⟩:=DataW.trod_int Tryz.underlying3 (cs:=[v2]) (x:=y2) e2;obtain ⟨z3,hz3,_,_⟩:=DataW.trod_int Tryz.underlying3 (cs:=[v3]) (x:=y3) e3;obtain ⟨gs,oa,cap,hz4,hg,hc,hm⟩:=ints_up (v:=v4) (x:=y4) e4;rw [List.cons.injEq] at hz0 hz1 hz2 hz3;refine ⟨⟨z0,z1.data.toList,z2,z3,gs⟩,oa,cap,?_,hg,hc,hm⟩;rw [hz0.1,hz1.1,hz2.1,hz3.1,hz4]
end
end Go.Proofs.YtfcbjcebkahehaaGreatDoor
namespace Go.Proofs.YtfcbjcebkahehaaGreatDoor.Pc
open Go.RowKit
theorem hid {T:Prop} (h:T):Hid T:=h
theorem below_box (w:World) (o:Obj):Below w.heap.size w (w.alloc o):=(Below.refl _ _).alloc (Nat.le_refl _) _
def inB (n l h:Int):Bool:=decide (l<=n)&&decide (n<=h)
abbrev paV (b c t:Int):Value:=.agg #[iI b,iI c,iI t]
abbrev paC (b c t:Int):Obj:=.cells #[iI b,iI c,iI t] 23
theorem zbp (w:World) (n l h:Int):Calls Tryz.prog 114 #[iI n,iI l,iI h] w fun e w'=>e=.returned (.bool (inB n l h))∧w'=w:=by
 unfold inB;cases h1:decide (l<=n) <;> cases h2:decide (n<=h)
 all_goals (
  go_enter Tryz.func114,Tryz.ntmps114
  go_wp2;go_ret
  exact ⟨rfl,rfl⟩)
def rightP (b c t:Int):Bool:=inB b 1 1048576&&inB c b 1048576&&inB t 1 32
structure Box (w w0:World) (A:Nat) (b c t:Int):Prop where
 be:Below A w w0
 at_:w0.heap[A]?=some (paC b c t)
 new:A=w.heap.size
theorem Box.mk' (w:World) (b c t:Int):Box w (w.alloc (paC b c t)) w.heap.size b c t:=⟨below_box _ _,(MapKept.heap_alloc w _).1,rfl⟩
section
variable {w w0 w1:World} {A:Nat} {b c t:Int}
theorem Box.lt (h:Box w w0 A b c t):A<w0.heap.size:=(Array.getElem?_eq_some_iff.1 h.at_).1
theorem Box.c0 (h:Box w w0 A b c t):w0.cell? ⟨A,0,none⟩=some (iI b):=by unfold World.cell?;rw [h.at_];rfl
theorem Box.c1 (h:Box w w0 A b c t):w0.cell? ⟨A,1,none⟩=some (iI c):=by unfold World.cell?;rw [h.at_];rfl
theorem Box.c2 (h:Box w w0 A b c t):w0.cell? ⟨A,2,none⟩=some (iI t):=by unfold World.cell?;rw [h.at_];rfl
theorem Box.on (h:Box w w0 A b c t) (hb:Below w0.heap.size w0 w1):Box w w1 A b c t:=⟨h.be.trans (hb.mono (Nat.le_of_lt h.lt)),(hb.block A h.lt).trans h.at_,h.new⟩
end
theorem right_any (w:World) (b c t:Int):Calls Tryz.prog 74 #[paV b c t] w fun e w'=>e=.returned (.bool (rightP b c t))∧Below w.heap.size w w':=by
 obtain ⟨w0,hw0⟩:∃ w0,w.alloc (paC b c t)=w0:=⟨_,rfl⟩;have HB:Hid (Box w w0 w.heap.size b c t):=by rw [<- hw0];exact Box.mk' w b c t
 obtain ⟨A,hA⟩:∃ A,w.heap.size=A:=⟨_,rfl⟩;rw [hA] at HB ⊢;have c0:=HB.out.c0;have c1:=HB.out.c1;have c2:=HB.out.c2;have HE:=hid HB.out.be;have H1:=hid (zbp w0 b 1 1048576);have H2:=hid (zbp w0 c b 1048576);have H3:=hid (zbp w0 t 1 32);unfold rightP;cases h1:inB b 1 1048576 <;> rw [h1] at H1
 · go_enter Tryz.func74,Tryz.ntmps74
   go_wp2_with fail
   refine H1.out.mono ?_;rintro _ _ ⟨rfl,rfl⟩;go_wp2;go_ret;exact ⟨rfl,HE.out⟩
 cases h2:inB c b 1048576 <;> rw [h2] at H2
 · go_enter Tryz.func74,Tryz.ntmps74
   go_wp2_with fail
   refine H1.out.mono ?_;rintro _ _ ⟨rfl,rfl⟩;go_wp2_with fail
   refine H2.out.mono ?_;rintro _ _ ⟨rfl,rfl⟩;go_wp2;go_ret;exact ⟨rfl,HE.out⟩
 generalize inB t 1 32=q at *;go_enter Tryz.func74,Tryz.ntmps74
 go_wp2_with fail
 refine H1.out.mono ?_;rintro _ _ ⟨rfl,rfl⟩;go_wp2_with fail
 refine H2.out.mono ?_;rintro _ _ ⟨rfl,rfl⟩;go_wp2_with fail
 refine H3.out.mono ?_;rintro _ _ ⟨rfl,rfl⟩;go_wp2;go_ret;exact ⟨rfl,HE.out⟩
theorem dright_any (w:World) (b c t:Int):Calls Tryz.prog 59 #[paV b c t] w fun e w'=>e=.returned (.bool (rightP b c t))∧Below w.heap.size w w':=by
 obtain ⟨w0,hw0⟩:∃ w0,w.alloc (paC b c t)=w0:=⟨_,rfl⟩;have HB:Hid (Box w w0 w.heap.size b c t):=by rw [<- hw0];exact Box.mk' w b c t
 obtain ⟨A,hA⟩:∃ A,w.heap.size=A:=⟨_,rfl⟩;rw [hA] at HB ⊢;have c0:=HB.out.c0;have c1:=HB.out.c1;have c2:=HB.out.c2;have HE:=hid HB.out.be;unfold rightP inB;cases h1:decide (1<=b)
 · go_enter Tryz.func59,Tryz.ntmps59
   go_wp2;go_ret;exact ⟨rfl,HE.out⟩
 cases h2:decide (b<=1048576)
 · go_enter Tryz.func59,Tryz.ntmps59
   go_wp2;go_ret;exact ⟨rfl,HE.out⟩
 cases h3:decide (b<=c)
 · go_enter Tryz.func59,Tryz.ntmps59
   go_wp2;go_ret;exact ⟨rfl,HE.out⟩
 cases h4:decide (c<=1048576)
 · go_enter Tryz.func59,Tryz.ntmps59
   go_wp2;go_ret;exact ⟨rfl,HE.out⟩
 cases h5:decide (1<=t)
 · go_enter Tryz.func59,Tryz.ntmps59
   go_wp2;go_ret;exact ⟨rfl,HE.out⟩
 cases h6:decide (t<=32)
 · go_enter Tryz.func59,Tryz.ntmps59
   go_wp2;go_ret;exact ⟨rfl,HE.out⟩
 · go_enter Tryz.func59,Tryz.ntmps59
   go_wp2;go_ret;exact ⟨rfl,HE.out⟩
def dbl (c:Int):Nat->Int->Int
 | 0,v=>v
 | k+1,v=>if v<c then dbl c k (2*v) else v
theorem dbl_stop {c v:Int} (h:¬ v<c):∀ k,dbl c k v=v
 | 0=>rfl
 | k+1=>by unfold dbl;rw [if_neg h]
theorem dbl_step {c v:Int} (h:v<c) (k:Nat):dbl c (k+1) v=dbl c k (2*v):=by
 conv=>lhs;unfold dbl
 rw [if_pos h]
def waitP (b c t n:Int):Int:=if rightP b c t=true then min (dbl c n.toNat b) c else 0
theorem zdu {b c t:Int} (h:rightP b c t=true):1<=b∧b<=c∧c<=1048576∧1<=t∧t<=32:=by
 unfold rightP inB at h;simp at h
 omega
theorem min_go (a b:Int):(if b<a then b else a)=min a b:=by omega
theorem wait_any (w:World) (b c t n:Int) (hn:-9223372036854775808<=n∧n<=9223372036854775807):Calls Tryz.prog 91 #[paV b c t,iI n] w fun e w'=>e=.returned (iI (waitP b c t n))∧Below w.heap.size w w':=by
 obtain ⟨w0,hw0⟩:∃ w0,w.alloc (paC b c t)=w0:=⟨_,rfl⟩;have HB:Hid (Box w w0 w.heap.size b c t):=by rw [<- hw0];exact Box.mk' w b c t
 obtain ⟨A,hA⟩:∃ A,w.heap.size=A:=⟨_,rfl⟩;rw [hA] at HB ⊢;have c0:=HB.out.c0;have c1:=HB.out.c1;have c2:=HB.out.c2;have HR:=hid (right_any w0 b c t);unfold waitP;cases hr:rightP b c t <;> rw [hr] at HR
 · go_enter Tryz.func91,Tryz.ntmps91
   go_wp2_with fail
   refine HR.out.mono ?_;rintro _ w1 ⟨rfl,e1⟩;have HE:=hid (HB.out.on e1).be;clear e1;go_wp2;go_ret;exact ⟨rfl,HE.out⟩
 · have HI:=hid (zdu hr);have HN:=hid hn;rw [if_pos rfl];clear hr hn;go_enter Tryz.func91,Tryz.ntmps91
   go_wp2_with fail
   refine HR.out.mono ?_;rintro _ w1 ⟨rfl,e1⟩;have Aa:=hid (HB.out.on e1);clear c0 c1 c2 e1 HB hw0;have c0:=Aa.out.c0;have c1:=Aa.out.c1;go_wp2_with fail
   go_loopw [1,5] (fun u1 u5 wr=>∃ (k v:Int),u1=iI k∧u5=iI v∧wr=w1∧1<=v∧v<=2097152∧-9223372036854775808<=k∧k<=9223372036854775807∧dbl c k.toNat v=dbl c n.toNat b) (fun u1 _ _=>(intOf u1).toNat)
   case atStart=>exact ⟨n,b,rfl,rfl,rfl,by have:=HI.out;omega,by have:=HI.out;omega,HN.out.1,HN.out.2,rfl⟩
   case round =>
    obtain ⟨k,v,rfl,rfl,rfl,hv1,hv2,hk1,hk2,hd⟩:=hrel;by_cases hk:0<k
    · by_cases hv:v<c
      · have HV:=hid (And.intro hv1 (And.intro hv2 (And.intro hk1 hk2)));have HD:=hid hd;have w1' : wrap64 (v*2)=v*2:=(by unfold wrap64;omega);have w2' : wrap64 (k - 1)=k - 1:=(by unfold wrap64;omega);clear hd hv1 hv2 hk1 hk2;go_wp2;go_roundw
        case rel=>exact ⟨k - 1,v*2,by first|rfl|rw [w2'],by first|rfl|rw [w1'],by first|trivial|rfl,by have:=HV.out;omega,by have:=HV.out;have:=HI.out;omega,by have:=HV.out;omega,by have:=HV.out;omega,by
         rw [<- HD.out,show k.toNat=(k - 1).toNat+1 by omega,dbl_step hv,Int.mul_comm]⟩
        case measure=>rw [w2'];show (k - 1).toNat<k.toNat;omega
      · have HE:=hid (show min v c=min (dbl c n.toNat b) c by rw [<- hd,dbl_stop hv]);have Ab:=hid Aa.out.be;have hg:=min_go v c;clear hd;go_wp2;go_ret;exact ⟨by rw [<- HE.out];rfl,Ab.out⟩
    · have HE:=hid (show min v c=min (dbl c n.toNat b) c by rw [<- hd,show k.toNat=0 by omega];rfl);have Ab:=hid Aa.out.be;have hg:=min_go v c;clear hd;go_wp2;go_ret;exact ⟨by rw [<- HE.out];rfl,Ab.out⟩
theorem dwait_any (w:World) (b c t n:Int) (hn:-9223372036854775808<=n∧n<=9223372036854775807):Calls Tryz.prog 98 #[paV b c t,iI n] w fun e w'=>e=.returned (iI (waitP b c t n))∧Below w.heap.size w w':=by
 obtain ⟨w0,hw0⟩:∃ w0,w.alloc (paC b c t)=w0:=⟨_,rfl⟩;have HB:Hid (Box w w0 w.heap.size b c t):=by rw [<- hw0];exact Box.mk' w b c t
 obtain ⟨A,hA⟩:∃ A,w.heap.size=A:=⟨_,rfl⟩;rw [hA] at HB ⊢;have c0:=HB.out.c0;have c1:=HB.out.c1;have c2:=HB.out.c2;have HR:=hid (dright_any w0 b c t);unfold waitP;cases hr:rightP b c t <;> rw [hr] at HR
 · go_enter Tryz.func98,Tryz.ntmps98
   go_wp2_with fail
   refine HR.out.mono ?_;rintro _ w1 ⟨rfl,e1⟩;have HE:=hid (HB.out.on e1).be;clear e1;go_wp2;go_ret;exact ⟨rfl,HE.out⟩
 · have HI:=hid (zdu hr);have HN:=hid hn;rw [if_pos rfl];clear hr hn;go_enter Tryz.func98,Tryz.ntmps98
   go_wp2_with fail
   refine HR.out.mono ?_;rintro _ w1 ⟨rfl,e1⟩;have Aa:=hid (HB.out.on e1);clear c0 c1 c2 e1 HB hw0;have c0:=Aa.out.c0;have c1:=Aa.out.c1;go_wp2_with fail
   go_loopw [6,7] (fun u6 u7 wr=>∃ (i v:Int),u7=iI i∧u6=iI v∧wr=w1∧1<=v∧v<=2097152∧0<=i∧(i<=n∨i=0)∧dbl c (n - i).toNat v=dbl c n.toNat b) (fun _ u7 _=>(n - intOf u7).toNat)
   case atStart=>exact ⟨0,b,rfl,rfl,rfl,by have:=HI.out;omega,by have:=HI.out;omega,by omega,.inr rfl,by rw [Int.sub_zero]⟩
   case round =>
    obtain ⟨i,v,rfl,rfl,rfl,hv1,hv2,hk1,hk2,hd⟩:=hrel;by_cases hk:i<n
    · by_cases hv:v<c
      · have HV:=hid (And.intro hv1 (And.intro hv2 (And.intro hk1 hk2)));have HD:=hid hd;have w1' : wrap64 (2*v)=2*v:=(by unfold wrap64;omega);have w2' : wrap64 (i+1)=i+1:=(by have:=HN.out;unfold wrap64;omega);clear hd hv1 hv2 hk1 hk2;go_wp2;go_roundw
        case rel=>exact ⟨i+1,2*v,by first|rfl|rw [w2'],by first|rfl|rw [w1'],by first|trivial|rfl,by have:=HV.out;omega,by have:=HV.out;have:=HI.out;omega,by have:=HV.out;omega,.inl (by omega),by
         rw [<- HD.out,show (n - i).toNat=(n - (i+1)).toNat+1 by omega,dbl_step hv]⟩
        case measure=>first|(rw [w2'];show (n - (i+1)).toNat<(n - i).toNat;omega)|(show (n - (i+1)).toNat<(n - i).toNat;omega)
      · have HE:=hid (show min v c=min (dbl c n.toNat b) c by rw [<- hd,dbl_stop hv]);have Ab:=hid Aa.out.be;have hg:=min_go v c;clear hd;go_wp2;go_ret;exact ⟨by rw [<- HE.out];rfl,Ab.out⟩
    · have HE:=hid (show min v c=min (dbl c n.toNat b) c by rw [<- hd,show (n - i).toNat=0 by omega];rfl);have Ab:=hid Aa.out.be;have hg:=min_go v c;clear hd;go_wp2;go_ret;exact ⟨by rw [<- HE.out];rfl,Ab.out⟩
theorem wait_in (b c t n:Int):0<=waitP b c t n∧waitP b c t n<=1048576:=by
 unfold waitP;split
 · rename_i h;have:=zdu h
   have hd:∀ k v,0<=v->0<=dbl c k v:=by
    intro k;induction k with
    | zero=>intro v h;exact h
    | succ k ih =>
     intro v h;unfold dbl;split
     · exact ih _ (by omega)
     · exact h
   have:=hd n.toNat b (by omega)
   omega
 · omega
def totP (b c t:Int):Nat->Int
 | 0=>0
 | k+1=>totP b c t k+waitP b c t k
theorem tot_in (b c t:Int):∀ k,0<=totP b c t k∧totP b c t k<=k*1048576
 | 0=>by simp [totP]
 | k+1=>by
  have h1:=tot_in b c t k;have h2:=wait_in b c t k;unfold totP;omega
theorem tot_no {b c t:Int} (h:rightP b c t=false):∀ k,totP b c t k=0
 | 0=>rfl
 | k+1=>by
  unfold totP waitP;rw [tot_no h k,h];rfl
def totalP (b c t:Int):Int:=if rightP b c t=true then totP b c t t.toNat else 0
theorem total_any (w:World) (b c t:Int):Calls Tryz.prog 53 #[paV b c t] w fun e w'=>e=.returned (iI (totalP b c t))∧Below w.heap.size w w':=by
 obtain ⟨w0,hw0⟩:∃ w0,w.alloc (paC b c t)=w0:=⟨_,rfl⟩;have HB:Hid (Box w w0 w.heap.size b c t):=by rw [<- hw0];exact Box.mk' w b c t
 obtain ⟨A,hA⟩:∃ A,w.heap.size=A:=⟨_,rfl⟩;rw [hA] at HB ⊢;have c0:=HB.out.c0;have c1:=HB.out.c1;have c2:=HB.out.c2;have HR:=hid (right_any w0 b c t);unfold totalP;cases hr:rightP b c t <;> rw [hr] at HR
 · go_enter Tryz.func53,Tryz.ntmps53
   go_wp2_with fail
   refine HR.out.mono ?_;rintro _ w1 ⟨rfl,e1⟩;have HE:=hid (HB.out.on e1).be;clear e1;go_wp2;go_ret;exact ⟨rfl,HE.out⟩
 · have HI:=hid (zdu hr);rw [if_pos rfl];clear hr;go_enter Tryz.func53,Tryz.ntmps53
   go_wp2_with fail
   refine HR.out.mono ?_;rintro _ w1 ⟨rfl,e1⟩;have Ab:=hid (HB.out.on e1);clear c0 c1 c2 e1 HB hw0;have c0:=Ab.out.c0;have c1:=Ab.out.c1;have c2:=Ab.out.c2;go_wp2_with fail
   go_loopw [3,10] (fun u3 u10 wr=>∃ (k:Nat),u10=iI k∧u3=iI (totP b c t k)∧(k:Int)<=t∧Box w wr A b c t) (fun _ u10 _=>(t - intOf u10).toNat)
   case atStart=>exact ⟨0,rfl,rfl,by have:=HI.out;omega,Ab.out⟩
   case round =>
    obtain ⟨k,rfl,rfl,hk,hb⟩:=hrel;have Aa:=hid hb;clear hb Ab c0 c1 c2;have c0:=Aa.out.c0;have c1:=Aa.out.c1;have c2:=Aa.out.c2;by_cases hlt:(k:Int)<t
    · have HW:=hid (wait_any wr b c t k (by have:=HI.out;omega));obtain ⟨v,hv⟩:∃ v,waitP b c t (k:Int)=v:=⟨_,rfl⟩;obtain ⟨s,hs⟩:∃ s,totP b c t k=s:=⟨_,rfl⟩;have HS:Hid (totP b c t (k+1)=s+v):=(by rw [<- hs,<- hv];exact rfl);have w1' : wrap64 (s+v)=s+v:=by
       have h1:=tot_in b c t k;have h2:=wait_in b c t k;rw [hs] at h1;rw [hv] at h2;(have:=HI.out);unfold wrap64;omega
      have w2' : wrap64 ((k:Int)+1)=(k:Int)+1:=(by have:=HI.out;unfold wrap64;omega);rw [hv] at HW;rw [hs];have HK:=hid (And.intro hk hlt);clear hv hs hk;(go_wp2_with fail);refine HW.out.mono ?_;rintro _ w2 ⟨rfl,e2⟩;have Ac:=hid (Aa.out.on e2);clear e2 c0 c1 c2 Aa HW;go_wp2;go_roundw
      case rel=>exact ⟨k+1,by first|rfl|(rw [w2'];rfl),by rw [HS.out];first|rfl|rw [w1'],by have:=HK.out;omega,Ac.out⟩
      case measure=>first|(rw [w2'];show (t - ((k:Int)+1)).toNat<(t - (k:Int)).toNat;omega)|(show (t - ((k:Int)+1)).toNat<(t - (k:Int)).toNat;omega)
    · have hkt:t.toNat=k:=(by omega);have Ad:=hid Aa.out.be;clear Aa;go_wp2;go_ret;exact ⟨rfl,Ad.out⟩
theorem dtotal_any (w:World) (b c t:Int):Calls Tryz.prog 65 #[paV b c t] w fun e w'=>e=.returned (iI (totalP b c t))∧Below w.heap.size w w':=by
 obtain ⟨w0,hw0⟩:∃ w0,w.alloc (paC b c t)=w0:=⟨_,rfl⟩;have HB:Hid (Box w w0 w.heap.size b c t):=by rw [<- hw0];exact Box.mk' w b c t
 obtain ⟨A,hA⟩:∃ A,w.heap.size=A:=⟨_,rfl⟩;rw [hA] at HB ⊢;have c0:=HB.out.c0;have c1:=HB.out.c1;have c2:=HB.out.c2;go_enter Tryz.func65,Tryz.ntmps65
 go_wp2_with fail
 go_loopw [3,4] (fun u3 u4 wr=>∃ (k:Nat),u4=iI k∧u3=iI (totP b c t k)∧((k:Int)<=t∨k=0)∧k<=32∧Box w wr A b c t) (fun _ u4 _=>32 - (intOf u4).toNat)
 case atStart=>exact ⟨0,rfl,rfl,.inr rfl,by omega,HB.out⟩
 case round =>
  obtain ⟨k,rfl,rfl,hk,hk2,hb⟩:=hrel;have Aa:=hid hb;clear hb HB c0 c1 c2;have c0:=Aa.out.c0;have c1:=Aa.out.c1;have c2:=Aa.out.c2;by_cases hlt:(k:Int)<t
  · by_cases hl2:(k:Int)<32
    · have HW:=hid (dwait_any wr b c t k (by omega));obtain ⟨v,hv⟩:∃ v,waitP b c t (k:Int)=v:=⟨_,rfl⟩;obtain ⟨s,hs⟩:∃ s,totP b c t k=s:=⟨_,rfl⟩;have HS:Hid (totP b c t (k+1)=s+v):=(by rw [<- hs,<- hv];exact rfl);have w1' : wrap64 (s+v)=s+v:=by
       have h1:=tot_in b c t k;have h2:=wait_in b c t k;rw [hs] at h1;rw [hv] at h2;unfold wrap64;omega
      have w2' : wrap64 ((k:Int)+1)=(k:Int)+1:=(by unfold wrap64;omega);rw [hv] at HW;rw [hs];have HK:=hid (And.intro hlt hl2);clear hv hs hk hk2;(go_wp2_with fail);refine HW.out.mono ?_;rintro _ w2 ⟨rfl,e2⟩;have Ac:=hid (Aa.out.on e2);clear e2 c0 c1 c2 Aa HW;go_wp2;go_roundw
      case rel=>exact ⟨k+1,by first|rfl|(rw [w2'];rfl),by rw [HS.out];first|rfl|rw [w1'],.inl (by have:=HK.out;omega),by have:=HK.out;omega,Ac.out⟩
      case measure=>first|(rw [w2'];show 32 - ((k:Int)+1).toNat<32 - (k:Int).toNat;omega)|(show 32 - ((k:Int)+1).toNat<32 - (k:Int).toNat;omega)
    · have HE:Hid (totP b c t k=totalP b c t):=by
       unfold totalP;cases hr:rightP b c t
       · rw [tot_no hr];exact rfl
       · rw [if_pos rfl,show t.toNat=k by have:=zdu hr;omega];exact rfl
      have Ab:=hid Aa.out.be;clear Aa;go_wp2;go_ret;exact ⟨by rw [<- HE.out];rfl,Ab.out⟩
  · have HE:Hid (totP b c t k=totalP b c t):=by
     unfold totalP;cases hr:rightP b c t
     · rw [tot_no hr];exact rfl
     · rw [if_pos rfl,show t.toNat=k by have:=zdu hr;omega];exact rfl
    have Ab:=hid Aa.out.be;clear Aa;go_wp2;go_ret;exact ⟨by rw [<- HE.out];rfl,Ab.out⟩
end Go.Proofs.YtfcbjcebkahehaaGreatDoor.Pc
namespace Go.Proofs.YtfcbjcebkahehaaGreatDoor.Cl
open Go.RowKit
abbrev ptr (b:Nat):Value:=.pointer (some ⟨b,0,none⟩)
abbrev I64 (n:Int):Prop:=-9223372036854775808<=n∧n<=9223372036854775807
theorem meas {n j:Nat} {q:Int} (hq:q=(j:Int)+1) (hj:(j:Int)<(n:Int)):n - (intOf (iI q)).toNat<n - (intOf (iI (j:Int))).toNat:=by
 show n - q.toNat<n - (j:Int).toNat
 omega
theorem zbk {P:Program} {ops:Array Oper} {o:Oper} {a:Act} {w:World} {K:Act->World->Prop} {Q:Exit->Act->World->Prop} {E:Prop}
 (hg:o.guard=none) (s x:Operand) (t:TypeId) (hop:o.op=Op.call { callee:=Callee.builtin Builtin.append,args:=#[s,x],argTypes:=#[t,t] })
 (v1 v2 r:Value) (w' : World) (hs:a.eval s=v1) (hx:a.eval x=v2) (hrun:(Builtin.append_ #[t,t] o.type #[v1,v2]).run P w=.ok r w') (hK:K (a.put o.dst r) w') :
 if Region.wanted o (yielded ops a.tmps)=true then Oper.wp P o a w K Q else E:=by
 have hw:Region.wanted o (yielded ops a.tmps)=true:=by simp [Region.wanted,hg]
 rw [if_pos hw];unfold Oper.wp;simp [execOp,hop,resolve,invoke,builtin,hs,hx,hrun,Result.andThen]
 exact hK
theorem za5 {P:Program} {ops:Array Oper} {rest:List Oper} {o:Oper} {a:Act} {Q:Exit->Act->World->Prop} {w:World} (hgd:o.guard=none) (s x:Operand) (t:TypeId)
 (ho:o.op=.call { callee:=.builtin .append,args:=#[s,x],argTypes:=#[t,t] }) (v1 v2 r:Value) (w' : World) (hs:a.eval s=v1) (hx:a.eval x=v2) (hrun:(Builtin.append_ #[t,t] o.type #[v1,v2]).run P w=.ok r w')
 (h:wpList P ops Q rest (a.put o.dst r) w'):wpList P ops Q (o::rest) a w:=by
 refine wpList_plain hgd fun K hK=>?_;unfold Oper.wp execOp;simp only [ho,resolve,invoke,builtin,Sem.run_bind,Sem.run_pure,Result.andThen_ok,List.map_toArray,List.map_cons,List.map_nil,hs,hx,hrun];exact hK _ _ h
theorem own_block {w w' : World} {base:Nat} {e:TypeId} {size:Nat} {v:Value} {n:Nat} {xs:List Value} (h:w.ownsRow base e size v n xs) (hb:∀ g,v.ownBlock=some g->w'.heap[g]?=w.heap[g]?):w'.ownsRow base e size v n xs:=by
 refine ⟨h.1,?_⟩;rcases h.2 with hn|⟨g,cap,cur,rfl,h1,h2,h3⟩
 · exact .inl hn
 · exact .inr ⟨g,cap,cur,rfl,h1,(hb g rfl).trans h2,h3⟩
structure Mv (T:Nat->Prop) (w w' : World) (K K' : Nat->Nat):Prop where
 os:w'.os=w.os
 tape:w'.tape=w.tape
 output:w'.output=w.output
 size:w.heap.size<=w'.heap.size
 old:∀ b,b<w.heap.size->K' b=K b
 kept:∀ b,b<w.heap.size->¬ T (K b)->w'.heap[b]?=w.heap[b]?
theorem Mv.refl (T:Nat->Prop) (w:World) (K:Nat->Nat):Mv T w w K K:=⟨rfl,rfl,rfl,Nat.le_refl _,fun _ _=>rfl,fun _ _ _=>rfl⟩
theorem Mv.trans {T:Nat->Prop} {a b c:World} {K K' K'' : Nat->Nat} (h:Mv T a b K K') (k:Mv T b c K' K''):Mv T a c K K'' :=
 ⟨k.os.trans h.os,k.tape.trans h.tape,k.output.trans h.output,Nat.le_trans h.size k.size,fun i hi=>(k.old i (Nat.lt_of_lt_of_le hi h.size)).trans (h.old i hi),fun i hi ht=>(k.kept i (Nat.lt_of_lt_of_le hi h.size) (by rw [h.old i hi];exact ht)).trans (h.kept i hi ht)⟩
theorem Mv.mono {T T' : Nat->Prop} {a b:World} {K K' : Nat->Nat} (h:Mv T a b K K') (ht:∀ t,T t->T' t):Mv T' a b K K':=⟨h.os,h.tape,h.output,h.size,h.old,fun i hi h2=>h.kept i hi (fun h3=>h2 (ht _ h3))⟩
def ext (w:World) (K:Nat->Nat) (N:Nat->Nat):Nat->Nat:=fun b=>if b<w.heap.size then K b else N b
theorem zbd {w:World} {K N:Nat->Nat} {b:Nat} (h:b<w.heap.size):ext w K N b=K b:=if_pos h
theorem za2 {w:World} {K N:Nat->Nat} {b:Nat} (h:w.heap.size<=b):ext w K N b=N b:=if_neg (by omega)
theorem Mv.of_below {w w' : World} (h:Below w.heap.size w w') (K N:Nat->Nat):Mv (fun _=>False) w w' K (ext w K N):=⟨h.os,h.tape,h.output,h.size,fun _ hb=>zbd hb,fun b hb _=>h.block b hb⟩
theorem Mv.of_grown {w w' : World} {p t:Nat} (h:w.grownBy w' (some p)) (K N:Nat->Nat) (hp:K p=t):Mv (fun x=>x=t) w w' K (ext w K N) :=
 ⟨h.os,h.tape,h.output,h.size,fun _ hb=>zbd hb,fun b hb ht=>h.block b hb (fun e=>ht (by cases e;exact hp))⟩
theorem Mv.of_set (w:World) (K:Nat->Nat) (a:Addr) (v:Value) {t:Nat} (hp:K a.block=t):Mv (fun x=>x=t) w (w.setCell a v) K K :=
 ⟨rfl,rfl,rfl,by simp [World.setCell],fun _ _=>rfl,fun b _ ht=>Below.heap_setCell _ _ _ _ (fun e=>ht (by rw [e];exact hp))⟩
theorem Mv.drew (T:Nat->Prop) (w:World) (K:Nat->Nat):Mv T w w.drew K K:=⟨rfl,rfl,rfl,Nat.le_refl _,fun _ _=>rfl,fun _ _ _=>rfl⟩
structure TB (K:Nat->Nat) (w:World) (t b:Nat) (o:Obj):Prop where
 at_:w.heap[b]?=some o
 k:K b=t
theorem TB.lt {K:Nat->Nat} {w:World} {t b:Nat} {o:Obj} (h:TB K w t b o):b<w.heap.size:=(Array.getElem?_eq_some_iff.1 h.at_).1
theorem TB.mv {T:Nat->Prop} {K K' : Nat->Nat} {w w' : World} {t b:Nat} {o:Obj} (h:TB K w t b o) (m:Mv T w w' K K') (ht:¬ T t):TB K' w' t b o :=
 ⟨(m.kept b h.lt (by rw [h.k];exact ht)).trans h.at_,(m.old b h.lt).trans h.k⟩
theorem TB.new (w:World) (K N:Nat->Nat) (o:Obj) {t:Nat} (ht:N w.heap.size=t):TB (ext w K N) (w.alloc o) t w.heap.size o:=⟨(MapKept.heap_alloc w o).1,(za2 (Nat.le_refl _)).trans ht⟩
theorem Mv.alloc (w:World) (K N:Nat->Nat) (o:Obj):Mv (fun _=>False) w (w.alloc o) K (ext w K N):=Mv.of_below ((Below.refl _ _).alloc (Nat.le_refl _) _) K N
theorem fm_len {α:Type} {cf:α->List Value} {sz:Nat} (hcf:∀ x,(cf x).length=sz) (l:List α):(l.flatMap cf).length=l.length*sz:=by
 induction l with
 | nil=>simp
 | cons x l ih=>simp only [List.flatMap_cons,List.length_append,ih,hcf,List.length_cons,Nat.succ_mul];omega
theorem fm_get {α:Type} {cf:α->List Value} {sz:Nat} (hcf:∀ x,(cf x).length=sz):∀ (l:List α) (j k:Nat) (x:α),k<sz->l[j]?=some x->(l.flatMap cf)[j*sz+k]?=(cf x)[k]?
 | [],j,k,x,_,hj=>by simp at hj
 | y::l,0,k,x,hk,hj=>by
  simp at hj
  subst hj;rw [List.flatMap_cons,Nat.zero_mul,Nat.zero_add,List.getElem?_append_left (by rw [hcf];exact hk)]
 | y::l,j+1,k,x,hk,hj=>by
  have e:(j+1)*sz+k - (cf y).length=j*sz+k:=by rw [hcf,Nat.succ_mul];omega
  rw [List.flatMap_cons,List.getElem?_append_right (by rw [hcf,Nat.succ_mul];omega),e];exact fm_get hcf l j k x hk (by simpa using hj)
structure RW {α:Type} (e sz:Nat) (cf:α->List Value) (K:Nat->Nat) (w:World) (B t:Nat) (v:Value) (l:List α):Prop where
 own:w.ownsRow B e sz v l.length (l.flatMap cf)
 k:∀ g,v.ownBlock=some g->K g=t
section
variable {α:Type} {e sz:Nat} {cf:α->List Value} {K K' : Nat->Nat} {w w' : World} {B t:Nat} {v:Value} {l:List α}
theorem RW.mv {T:Nat->Prop} (h:RW e sz cf K w B t v l) (m:Mv T w w' K K') (ht:¬ T t):RW e sz cf K' w' B t v l :=
 ⟨own_block h.own (fun g hg=>m.kept g (h.own.lt g hg).2 (by rw [h.k g hg];exact ht)),fun g hg=>(m.old g (h.own.lt g hg).2).trans (h.k g hg)⟩
theorem RW.nil (e sz:Nat) (cf:α->List Value) (K:Nat->Nat) (w:World) (B t:Nat):RW e sz cf K w B t (.slice none 0 0) []:=⟨⟨by simp,.inl ⟨rfl,rfl⟩⟩,fun g hg=>by cases hg⟩
theorem RW.form (h:RW e sz cf K w B t v l):∃ oa cap,v=.slice oa l.length cap∧l.length<=cap∧(0<l.length->∃ g,oa=some ⟨g,0,none⟩):=by
 rcases h.own.2 with ⟨e1,e2⟩|⟨g,cap,_,e1,_,_,e4,_⟩
 · exact ⟨none,0,by rw [e2];exact e1,by omega,fun h=>by omega⟩
 · exact ⟨_,cap,e1,e4,fun _=>⟨g,rfl⟩⟩
theorem RW.cell (hcf:∀ x,(cf x).length=sz) {g cap n:Nat} (h:RW e sz cf K w B t (.slice (some ⟨g,0,none⟩) n cap) l) (hn:l.length=n) {j:Nat} {x:α} (hx:l[j]?=some x) (k:Nat) (hk:k<sz):w.cell? ⟨g,j*sz+k,none⟩=(cf x)[k]?:=by
 have hj:j<l.length:=(List.getElem?_eq_some_iff.1 hx).1;have ho:=h.own;subst hn;rw [ho.cellAt (j*sz+k) (by have:=Nat.mul_le_mul_right sz (show j+1<=l.length by omega);rw [Nat.succ_mul] at this;omega),fm_get hcf l j k x hk hx]
theorem RW.app {ty:TypeId} {i:TypeInfo} {z:Value} {bytes:Nat} (hty:Tryz.prog.underlying ty=some (.slice e)) (hi:Tryz.prog.info? e=some i) (hz:i.zero=some z) (hs:i.size=sz) (hby:i.bytes=bytes) (hzs:z.cells.size=sz) (hsz:0<sz) (hcf:∀ x,(cf x).length=sz) (h1:∀ x,∀ u∈cf x,u.oneCell'=true)
 (h:RW e sz cf K w B t v l) (hB:B<=w.heap.size) {N:Nat} {x:α} {cs:Array Value} (hcs:cs.toList=cf x) (hb:w.heap[N]?=some (.cells cs e (0,0))) (hm:(l.length+1)*bytes<=140737488355328) (hm2:l.length+1<=1000000000000) :
 ∃ v' w' K',(∀ r,(Builtin.append_ #[ty,ty] r #[v,.slice (some ⟨N,0,none⟩) 1 1]).run Tryz.prog w=.ok v' w')∧RW e sz cf K' w' B t v' (l++[x])∧Mv (fun x=>x=t) w w' K K':=by
 obtain ⟨v',w',hr,ho,hg,_,hat⟩:=run_append_own_at (P:=Tryz.prog) w B ty 0 e i z sz bytes hty hi hz hs hby hzs hsz v l.length (l.flatMap cf) h.own ⟨N,0,none⟩ 1 1 (cf x) (by rw [hcf,Nat.one_mul]) (by rw [<- hcs];exact World.news_of_block hb) (h1 x) (by unfold maxLen;omega) hm hB;refine ⟨v',w',ext w K (fun _=>t),fun r=>hr,⟨?_,fun g hg2=>?_⟩,⟨hg.os,hg.tape,hg.output,hg.size,fun _ hb=>zbd hb,fun b hb ht=>hg.block b hb (fun e2=>ht (h.k b e2.symm))⟩⟩
 · rw [List.flatMap_append];simpa using ho
 · rcases hat with e2|e2
   · rw [e2] at hg2;(have:=(h.own.lt g hg2).2);rw [zbd this];exact h.k g hg2
   · rw [e2] at hg2;cases hg2;exact za2 (Nat.le_refl _)
end
theorem zak (w:World) (K:Nat->Nat) (m:Nat):Mv (fun _=>False) w (w.drewN m) K K:=⟨rfl,rfl,rfl,Nat.le_refl _,fun _ _=>rfl,fun _ _ _=>rfl⟩
theorem zb0 {j:Nat} (h:j<=100000000000):wrap64 ((j:Int)+1)=(j:Int)+1:=by unfold wrap64;omega
def inB (n l h:Int):Bool:=decide (l<=n)&&decide (n<=h)
theorem zbp (w:World) (n l h:Int):Calls Tryz.prog 73 #[iI n,iI l,iI h] w fun e w'=>e=.returned (.bool (inB n l h))∧w'=w:=by
 unfold inB;cases h1:decide (l<=n) <;> cases h2:decide (n<=h)
 all_goals (
  go_enter Tryz.func73,Tryz.ntmps73
  go_wp2;go_ret
  exact ⟨rfl,rfl⟩)
theorem zgi (w:World) (n:Int):Calls Tryz.prog 72 #[iI n] w fun e w'=>e=.returned (.bool (inB n 1 16777215))∧w'=w:=by
 have H:=hid (zbp w n 1 16777215);generalize inB n 1 16777215=b at *;go_enter Tryz.func72,Tryz.ntmps72
 go_wp2_with fail
 refine H.out.mono ?_;rintro _ w' ⟨rfl,hw'⟩;subst hw';go_wp2;go_ret;exact ⟨rfl,rfl⟩
theorem zc5 (w:World) (n:Int):Calls Tryz.prog 92 #[iI n] w fun e w'=>e=.returned (.bool (inB n 0 4294967295))∧w'=w:=by
 have H:=hid (zbp w n 0 4294967295);generalize inB n 0 4294967295=b at *;go_enter Tryz.func92,Tryz.ntmps92
 go_wp2_with fail
 refine H.out.mono ?_;rintro _ w' ⟨rfl,hw'⟩;subst hw';go_wp2;go_ret;exact ⟨rfl,rfl⟩
end Go.Proofs.YtfcbjcebkahehaaGreatDoor.Cl
