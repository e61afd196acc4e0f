import Derived.Test.YtighggeokiahfaaGreatDoorNear11
import Derived.Test.YtighggeokiahfaaGreatDoorNear10
import Derived.Test.YtighggeokiahfaaGreatDoorTie
import Derived.Test.YtighggeokiahfaaGreatDoorCards
import Derived.ProofKit
import Derived.OpenShut
import Derived.LaidMore
import Derived.Lay
import Derived.SevenTiedAt
import Derived.Stop.Joined
import Derived.Lib.LaidTab
import Derived.Lib.LaidU8
import Derived.Test.YtighggeokiahfaaGreatDoorNear00
import Derived.Test.YtighggeokiahfaaGreatDoorNear03
namespace Go.Proofs.YtighggeokiahfaaGreatDoor
open Go.RowKit
/-- what Print answers -/
def zlu (R:Option (List UInt8)) (w:World) (e:Ending) (w' : World):Prop :=
 (match R with
 | some x=>e=.returned (.tuple #[.string ⟨x.toArray⟩,.int .i64 0])
 | none=>e=.returned (.tuple #[.string ⟨#[]⟩,.int .i64 43]))∧Below w.heap.size w w'
theorem Kept.to_below {p:Nat} {v v' : Value} {w wp w' : World} {txt:List UInt8} {d:Int} (hB:Below w.heap.size w wp) (hp:w.heap.size<=p) (hP:PR wp p txt d v) (hS:Lx.Kept p v v' wp w'):Below w.heap.size w w' :=
 ⟨hS.os.trans hB.os,hS.tape.trans hB.tape,hS.output.trans hB.output,Nat.le_trans hB.size hS.size,fun b hb=>(hS.block b (Nat.lt_of_lt_of_le hb hB.size) (by omega) (own_ge hP.own b (by omega))).trans (hB.block b hb)⟩
theorem PR.made (w:World):PR (w.alloc (.cells #[.slice none 0 0,.int .i64 0] 68)) w.heap.size [] 0 (.slice none 0 0):=by
 have hb:(w.alloc (.cells #[.slice none 0 0,.int .i64 0] 68)).heap[w.heap.size]?=some (.cells #[.slice none 0 0,.int .i64 0] 68 (0,0)):=heap_alloc_new _ _
 refine ⟨?_,?_,?_,?_,World.ownsRow_nil _ _ _ _⟩
 · unfold World.cell?;simp only [hb];rfl
 · unfold World.cell?;simp only [hb];rfl
 · unfold World.frozen?;simp only [hb];rfl
 · unfold World.frozen?;simp only [hb];rfl
set_option maxHeartbeats 2000000 in
set_option maxRecDepth 4000 in
theorem print_any (k:Int) (n:List UInt8) (m a:Int) (o:Option Addr) (L c:Nat) (R:Option (List UInt8)) (w:World)
 (hsrc:∀ w1 p,w.heap.size<=p->Below w.heap.size w w1->PR w1 p [] 0 (.slice none 0 0)->Calls Tryz.prog 36 #[.pointer (some ⟨p,0,none⟩),zc7 k n m a (.slice o L c)] w1 (zht p 0 (.slice none 0 0) R w1)) :
 Calls Tryz.prog 20 #[zc7 k n m a (.slice o L c)] w (zlu R w):=by
 have hmf:∀ (fn:Fn) (first cap:Array Value) (w:World),(Instr.makeFunc fn first cap).run Tryz.prog w=.ok (.func fn first cap) w:=fun _ _ _ _=>rfl
 have Ad:=hid hsrc
 clear hsrc
 obtain ⟨wa1,hwa1⟩:∃ x,w.alloc (.cells #[.int .i64 k,.string ⟨n.toArray⟩,.int .i64 m,.int .i64 a,.slice o L c] 29)=x:=⟨_,rfl⟩
 obtain ⟨wa2,hwa2⟩:∃ x,wa1.alloc (.cells #[.string ⟨#[]⟩] 9)=x:=⟨_,rfl⟩
 obtain ⟨wa3,hwa3⟩:∃ x,wa2.alloc (.cells #[.int .i64 0] 30)=x:=⟨_,rfl⟩
 obtain ⟨wp,hwp⟩:∃ x,wa3.alloc (.cells #[.slice none 0 0,.int .i64 0] 68)=x:=⟨_,rfl⟩
 have b1:Below w.heap.size w wa1:=by rw [<- hwa1];exact zac _ _
 have b2:Below w.heap.size w wa2:=by rw [<- hwa2];exact b1.alloc b1.size _
 have b3:Below w.heap.size w wa3:=by rw [<- hwa3];exact b2.alloc b2.size _
 have bp:Below w.heap.size w wp:=by rw [<- hwp];exact b3.alloc b3.size _
 have kt:wp.heap[w.heap.size]?=some (zje k n m a (.slice o L c)):=by rw [<- hwp,<- hwa3,<- hwa2,<- hwa1];exact za9 (za9 (za9 (heap_alloc_new _ _)))
 have ks:wp.heap[wa1.heap.size]?=some (strO []):=by rw [<- hwp,<- hwa3,<- hwa2];exact za9 (za9 (heap_alloc_new _ _))
 have ke:wp.heap[wa2.heap.size]?=some (oneO 0 30):=by rw [<- hwp,<- hwa3];exact za9 (heap_alloc_new _ _)
 have Aa:Hid (w.heap.size<wa1.heap.size∧wa1.heap.size<wa2.heap.size∧wa2.heap.size<wa3.heap.size∧wa3.heap.size<wp.heap.size):=⟨by rw [<- hwa1];simp,by rw [<- hwa2];simp,by rw [<- hwa3];simp,by rw [<- hwp];simp⟩
 have HP:Hid (PR wp wa3.heap.size [] 0 (.slice none 0 0)∧Below w.heap.size w wp):=⟨by rw [<- hwp];exact PR.made wa3,bp⟩
 have HK:=hid2 ks ke
 obtain ⟨⟨z0,z1,z2,z3,z4⟩,_⟩:=za5 kt
 have m1:¬ wa1.heap.size=wa2.heap.size:=by have:=Aa.out;omega
 have m2:¬ wa2.heap.size=wa1.heap.size:=by have:=Aa.out;omega
 clear b1 b2 b3 bp kt ks ke
 unfold zc7 at Ad ⊢
 go_enter_defers Tryz.func20,Tryz.ntmps20
 go_wp2_with fail
 refine (Ad.out wp wa3.heap.size (by have:=Aa.out;omega) HP.out.2 HP.out.1).mono ?_
 clear hwa1 hwa2 hwa3 hwp
 rintro e w9 ⟨v9,hk,hQ⟩
 have hlt:=Aa.out
 have hB9:Below w.heap.size w w9:=Kept.to_below HP.out.2 (by omega) HP.out.1 hk
 have k1:w9.heap[wa1.heap.size]?=some (strO []):=(hk.block _ (ze0 HK.out.1) (by omega) (by simp [Value.ownBlock])).trans HK.out.1
 have k2:w9.heap[wa2.heap.size]?=some (oneO 0 30):=(hk.block _ (ze0 HK.out.2) (by omega) (by simp [Value.ownBlock])).trans HK.out.2
 have Ab:=hid3 k1 k2 hB9
 clear hk hB9 hlt
 rcases hQ with ⟨x,hx1,hx2,rfl,hPR⟩|⟨hx1,he⟩
 · subst hx1
   have hcv:=conv_text hPR
   have Ae:=hid hPR
   have c0:=hPR.c0
   obtain ⟨s0,f0⟩:=zil k1
   obtain ⟨e0,g0⟩:=zbr k2
   obtain ⟨o9,c9,hv9⟩:=Lx.own_form hPR.own
   subst hv9
   clear hPR k1 k2 hx2
   go_wp2
   have hlt:=Aa.out
   have hz1:((w9.setCell ⟨wa1.heap.size,0,none⟩ (.string ⟨x.toArray⟩)).setCell ⟨wa2.heap.size,0,none⟩ (.int .i64 0)).heap[wa1.heap.size]?=some (strO x):=(Below.heap_setCell _ _ _ _ m1).trans (zai Ab.out.1)
   have hz2:((w9.setCell ⟨wa1.heap.size,0,none⟩ (.string ⟨x.toArray⟩)).setCell ⟨wa2.heap.size,0,none⟩ (.int .i64 0)).heap[wa2.heap.size]?=some (oneO 0 30):=zai ((Below.heap_setCell _ _ _ _ m2).trans Ab.out.2.1)
   have hbz:Below w.heap.size w ((w9.setCell ⟨wa1.heap.size,0,none⟩ (.string ⟨x.toArray⟩)).setCell ⟨wa2.heap.size,0,none⟩ (.int .i64 0)):=(Ab.out.2.2.setCell (p:=⟨wa1.heap.size,0,none⟩) (by show w.heap.size<=wa1.heap.size;omega) _).setCell (p:=⟨wa2.heap.size,0,none⟩) (by show w.heap.size<=wa2.heap.size;omega) _
   generalize ((w9.setCell ⟨wa1.heap.size,0,none⟩ (.string ⟨x.toArray⟩)).setCell ⟨wa2.heap.size,0,none⟩ (.int .i64 0))=wz at hz1 hz2 hbz ⊢
   have HZ:=hid3 hz1 hz2 hbz
   clear hz1 hz2 hbz hcv c0 s0 f0 e0 g0 hlt
   refine leaves_cons (f:=35) (args:=#[.pointer (some ⟨wa1.heap.size,0,none⟩),.pointer (some ⟨wa2.heap.size,0,none⟩)]) (by simp) (by simp [go_sem]) ?_
   refine (pcatch_idle wa1.heap.size wa2.heap.size wz).mono ?_
   rintro e u' wy ⟨rfl,rfl,hby⟩
   have hbw:Below w.heap.size w wy:=HZ.out.2.2.trans (hby.mono HZ.out.2.2.size)
   have q5:=(zil (zao hby HZ.out.1)).1
   have q6:=(zbr (zao hby HZ.out.2.1)).1
   clear hby hmf
   simp [Leaves,settle,results,Tryz.results20,go_sem,q5,q6]
   exact ⟨rfl,hbw⟩
 · subst hx1
   unfold za0 at he
   subst he
   clear k1 k2
   go_wp2
   refine leaves_cons (f:=35) (args:=#[.pointer (some ⟨wa1.heap.size,0,none⟩),.pointer (some ⟨wa2.heap.size,0,none⟩)]) (by simp) (by simp [go_sem]) ?_
   refine (pcatch_fault wa1.heap.size wa2.heap.size 43 0 [] w9 [] 0 Ab.out.1 Ab.out.2.1 m1).mono ?_
   rintro e u' wz ⟨rfl,rfl,⟨hz1,hz2⟩,hf,h1,h2,h3,h4⟩
   have hlt:=Aa.out
   have Ac:=Ab.out.2.2
   have hbz:Below w.heap.size w wz:=⟨h1.trans Ac.os,h2.trans Ac.tape,h3.trans Ac.output,Nat.le_trans Ac.size h4,fun b hb=>(hf b (Nat.lt_of_lt_of_le hb Ac.size) (by omega) (by omega)).trans (Ac.block b hb)⟩
   have q5:=(zil hz1).1
   have q6:=(zbr hz2).1
   clear hf h1 h2 h3 h4 hz1 hz2 hmf
   simp [Leaves,settle,results,Tryz.results20,go_sem,q5,q6]
   exact ⟨rfl,hbz⟩
theorem zem {B:Nat} {a w:World} (h:Below B a w) (k:Nat):Below B a (w.drewN k):=⟨h.os,h.tape,h.output,h.size,h.block⟩
def ze9 (k k' : Int) (n n' : List UInt8) (m m' : Int) (L L' : Nat):Bool:=k==k'&&(n==n'&&(m==m'&&L==L'))
set_option maxHeartbeats 2000000 in
set_option maxRecDepth 4000 in
theorem same_core (k:Int) (n:List UInt8) (m a:Int) (o:Option Addr) (L c:Nat) (k' : Int) (n' : List UInt8) (m' a' : Int) (o' : Option Addr) (L' c' : Nat) (w:World) (hL:L<=maxLen) (sm:Nat->Bool)
 (hkid:∀ j,j<L->L=L'->∃ g g',o=some ⟨g,0,none⟩∧o'=some ⟨g',0,none⟩∧∃ k1 n1 m1 a1 sl1 k2 n2 m2 a2 sl2,∀ w1,Below w.heap.size w w1->KidR w1 g j k1 n1 m1 a1 sl1∧KidR w1 g' j k2 n2 m2 a2 sl2∧Calls Tryz.prog 23 #[zc7 k1 n1 m1 a1 sl1,zc7 k2 n2 m2 a2 sl2] w1 (fun e w'=>e=.returned (.bool (sm j))∧Below w1.heap.size w1 w')) :
 Calls Tryz.prog 23 #[zc7 k n m a (.slice o L c),zc7 k' n' m' a' (.slice o' L' c')] w (fun e w'=>e=.returned (.bool (ze9 k k' n n' m m' L L'&&(List.range L).all sm))∧Below w.heap.size w w'):=by
 have Ad:=hid hkid
 clear hkid
 have Ah:Hid (L<=9223372036854775807):=by unfold maxLen at hL;show L<=_;omega
 clear hL
 obtain ⟨R,hR⟩:∃ R,(ze9 k k' n n' m m' L L'&&(List.range L).all sm)=R:=⟨_,rfl⟩
 rw [hR]
 have HR:=hid hR
 clear hR
 obtain ⟨wa,hwa⟩:∃ x,w.alloc (.cells #[.int .i64 k,.string ⟨n.toArray⟩,.int .i64 m,.int .i64 a,.slice o L c] 29)=x:=⟨_,rfl⟩
 obtain ⟨wb,hwb⟩:∃ x,wa.alloc (.cells #[.int .i64 k',.string ⟨n'.toArray⟩,.int .i64 m',.int .i64 a',.slice o' L' c'] 29)=x:=⟨_,rfl⟩
 have ba:Below w.heap.size w wa:=by rw [<- hwa];exact zac _ _
 have bb:Below w.heap.size w wb:=by rw [<- hwb];exact ba.alloc ba.size _
 have HB:=hid bb
 have kk:wb.heap[w.heap.size]?=some (zje k n m a (.slice o L c)):=by rw [<- hwb,<- hwa];exact za9 (heap_alloc_new _ _)
 have kk' : wb.heap[wa.heap.size]?=some (zje k' n' m' a' (.slice o' L' c')):=by rw [<- hwb];exact heap_alloc_new _ _
 have HK:=hid2 kk kk'
 obtain ⟨⟨z0,z1,z2,z3,z4⟩,_⟩:=za5 kk
 obtain ⟨⟨y0,y1,y2,y3,y4⟩,_⟩:=za5 kk'
 unfold zc7
 clear kk kk' ba bb
 obtain ⟨E,hE⟩:∃ E,(n==n')=E:=⟨_,rfl⟩
 have HE:=hid hE
 have hE' : (n != n')=!E:=by rw [<- hE];rfl
 by_cases h1:k=k'
 · have j1:(k != k')=false:=by simp [h1]
   have H1:=hid h1
   clear h1
   cases E with
   | true =>
    by_cases h3:m=m'
    · have j3:(m != m')=false:=by simp [h3]
      have H3:=hid h3
      clear h3
      by_cases h4:L=L'
      · have Ai:=hid h4
        subst h4
        have HH:Hid (R=(List.range L).all sm):=by show _=_;rw [<- HR.out];unfold ze9;rw [HE.out];simp [H1.out,H3.out]
        have Aj:=hid2 H1.out H3.out
        go_enter Tryz.func23,Tryz.ntmps23
        go_wp2
        clear hwa hwb j1 j3 hE hE'
        go_loopw [37] (fun i wr=>∃ (q:Nat),i=.int .i64 q∧q<=L∧Hid (Below wb.heap.size wb wr)∧Hid (∀ j,j<q->sm j=true)) (fun i _=>L - (intOf i).toNat)
        case atStart=>exact ⟨0,rfl,by omega,Below.refl _ _,fun j hj=>absurd hj (by omega)⟩
        case round =>
         obtain ⟨q,rfl,hq,Aa,Af⟩:=hrel
         have x4:wr.cell? ⟨w.heap.size,4,none⟩=some (.slice o L c):=(za5 (zao Aa.out HK.out.1)).1.2.2.2.2
         have u4:wr.cell? ⟨wa.heap.size,4,none⟩=some (.slice o' L c'):=(za5 (zao Aa.out HK.out.2)).1.2.2.2.2
         by_cases hlt:q<L
         · have hlt' : (q:Int)<L:=by omega
           have hq0:(0:Int)<=(q:Int):=by omega
           have hqm:(q:Int)<=9223372036854775806:=by have:=Ah.out;omega
           have Ae:=hid hlt
           obtain ⟨g,g',ho,ho',k1,n1,m1,a1,sl1,k2,n2,m2,a2,sl2,hkq⟩:=Ad.out q hlt (by trivial)
           subst ho
           subst ho'
           have Ab:=hid (HB.out.trans (Aa.out.mono HB.out.size))
           obtain ⟨r1,r2,r3⟩:=hkq _ Ab.out
           clear r3
           obtain ⟨a0,b0,c0,d0,e0⟩:=r1
           obtain ⟨a9,b9,c9,d9,e9⟩:=r2
           have Ag:=hid hkq
           clear hkq hlt
           obtain ⟨F,hF⟩:∃ F,sm q=F:=⟨_,rfl⟩
           have HF:=hid hF
           clear hF
           go_wp2_with fail
           have s0:(wr.cell? ⟨w.heap.size,4,none⟩=some (.slice (some ⟨g,0,none⟩) L c)∧wr.cell? ⟨wa.heap.size,4,none⟩=some (.slice (some ⟨g',0,none⟩) L c')∧wr.cell? ⟨g,q*5,none⟩=some (.int .i64 k1)∧wr.cell? ⟨g,q*5+1,none⟩=some (.string ⟨n1.toArray⟩)∧wr.cell? ⟨g,q*5+2,none⟩=some (.int .i64 m1)∧wr.cell? ⟨g,q*5+3,none⟩=some (.int .i64 a1)∧wr.cell? ⟨g,q*5+4,none⟩=some sl1∧wr.cell? ⟨g',q*5,none⟩=some (.int .i64 k2)∧wr.cell? ⟨g',q*5+1,none⟩=some (.string ⟨n2.toArray⟩)∧wr.cell? ⟨g',q*5+2,none⟩=some (.int .i64 m2)∧wr.cell? ⟨g',q*5+3,none⟩=some (.int .i64 a2)∧wr.cell? ⟨g',q*5+4,none⟩=some sl2):=⟨x4,u4,a0,b0,c0,d0,e0,a9,b9,c9,d9,e9⟩
           have s1:∀ i,((wr.drewN i).cell? ⟨w.heap.size,4,none⟩=some (.slice (some ⟨g,0,none⟩) L c)∧(wr.drewN i).cell? ⟨wa.heap.size,4,none⟩=some (.slice (some ⟨g',0,none⟩) L c')∧(wr.drewN i).cell? ⟨g,q*5,none⟩=some (.int .i64 k1)∧(wr.drewN i).cell? ⟨g,q*5+1,none⟩=some (.string ⟨n1.toArray⟩)∧(wr.drewN i).cell? ⟨g,q*5+2,none⟩=some (.int .i64 m1)∧(wr.drewN i).cell? ⟨g,q*5+3,none⟩=some (.int .i64 a1)∧(wr.drewN i).cell? ⟨g,q*5+4,none⟩=some sl1∧(wr.drewN i).cell? ⟨g',q*5,none⟩=some (.int .i64 k2)∧(wr.drewN i).cell? ⟨g',q*5+1,none⟩=some (.string ⟨n2.toArray⟩)∧(wr.drewN i).cell? ⟨g',q*5+2,none⟩=some (.int .i64 m2)∧(wr.drewN i).cell? ⟨g',q*5+3,none⟩=some (.int .i64 a2)∧(wr.drewN i).cell? ⟨g',q*5+4,none⟩=some sl2):=fun _=>s0
           go_region_held (fun w'=>(w'.cell? ⟨w.heap.size,4,none⟩=some (.slice (some ⟨g,0,none⟩) L c)∧w'.cell? ⟨wa.heap.size,4,none⟩=some (.slice (some ⟨g',0,none⟩) L c')∧w'.cell? ⟨g,q*5,none⟩=some (.int .i64 k1)∧w'.cell? ⟨g,q*5+1,none⟩=some (.string ⟨n1.toArray⟩)∧w'.cell? ⟨g,q*5+2,none⟩=some (.int .i64 m1)∧w'.cell? ⟨g,q*5+3,none⟩=some (.int .i64 a1)∧w'.cell? ⟨g,q*5+4,none⟩=some sl1∧w'.cell? ⟨g',q*5,none⟩=some (.int .i64 k2)∧w'.cell? ⟨g',q*5+1,none⟩=some (.string ⟨n2.toArray⟩)∧w'.cell? ⟨g',q*5+2,none⟩=some (.int .i64 m2)∧w'.cell? ⟨g',q*5+3,none⟩=some (.int .i64 a2)∧w'.cell? ⟨g',q*5+4,none⟩=some sl2)) (first|with_reducible exact s0|with_reducible exact s1 _|with_reducible exact s7|exact s0) (first
            | (go_at_call 23
               refine ((Ag.out _ (zem Ab.out _)).2.2).mono ?_
               rintro e w7 ⟨rfl,hB0⟩
               have hB:Below wr.heap.size wr w7:=(zem (Below.refl _ _) _).trans hB0
               have Ac:=hid (Aa.out.trans (hB.mono Aa.out.size))
               have s7:(w7.cell? ⟨w.heap.size,4,none⟩=some (.slice (some ⟨g,0,none⟩) L c)∧w7.cell? ⟨wa.heap.size,4,none⟩=some (.slice (some ⟨g',0,none⟩) L c')∧w7.cell? ⟨g,q*5,none⟩=some (.int .i64 k1)∧w7.cell? ⟨g,q*5+1,none⟩=some (.string ⟨n1.toArray⟩)∧w7.cell? ⟨g,q*5+2,none⟩=some (.int .i64 m1)∧w7.cell? ⟨g,q*5+3,none⟩=some (.int .i64 a1)∧w7.cell? ⟨g,q*5+4,none⟩=some sl1∧w7.cell? ⟨g',q*5,none⟩=some (.int .i64 k2)∧w7.cell? ⟨g',q*5+1,none⟩=some (.string ⟨n2.toArray⟩)∧w7.cell? ⟨g',q*5+2,none⟩=some (.int .i64 m2)∧w7.cell? ⟨g',q*5+3,none⟩=some (.int .i64 a2)∧w7.cell? ⟨g',q*5+4,none⟩=some sl2):=by
                have h1:=Ab.out.trans (hB.mono Ab.out.size)
                obtain ⟨p1,p2,_⟩:=Ag.out _ h1
                exact ⟨(za5 (zao Ac.out HK.out.1)).1.2.2.2.2,(za5 (zao Ac.out HK.out.2)).1.2.2.2.2,p1.c0,p1.c1,p1.c2,p1.c3,p1.c4,p2.c0,p2.c1,p2.c2,p2.c3,p2.c4⟩
               clear hB hB0))
           cases F with
           | true =>
            rw [HF.out]
            go_wp2
            go_roundw
            case rel=>exact ⟨q+1,by go_num,Ae.out,Ac,fun j hj=>by rcases Nat.lt_succ_iff_lt_or_eq.1 hj with h|h;exact Af.out j h;rw [h];exact HF.out⟩
            case measure=>have:=Ae.out;simp [intOf];omega
           | false =>
            rw [HF.out]
            go_wp2
            go_ret
            refine ⟨?_,HB.out.trans (Ac.out.mono HB.out.size)⟩
            rw [HH.out]
            have:(List.range L).all sm=false:=by
             rw [List.all_eq_false]
             exact ⟨q,List.mem_range.2 Ae.out,by rw [HF.out];decide⟩
            rw [this]
            rfl
         · have hqe:q=L:=by omega
           subst hqe
           have hlt' : ¬ (q:Int)<q:=by omega
           go_wp2
           go_ret
           refine ⟨?_,HB.out.trans (Aa.out.mono HB.out.size)⟩
           rw [HH.out]
           have:(List.range q).all sm=true:=by
            rw [List.all_eq_true]
            intro x hx
            exact Af.out x (List.mem_range.1 hx)
           rw [this]
           rfl
      · have j5:¬ (L:Int)=L':=by omega
        have j4:((L:Int) != L')=true:=by simp;omega
        have HH:Hid (R=false):=by show _=_;rw [<- HR.out];unfold ze9;simp [h4]
        go_enter Tryz.func23,Tryz.ntmps23
        go_wp2
        go_ret
        rw [HH.out]
        exact ⟨rfl,HB.out⟩
    · have j3:(m != m')=true:=by simp [h3]
      have HH:Hid (R=false):=by show _=_;rw [<- HR.out];unfold ze9;simp [h3]
      go_enter Tryz.func23,Tryz.ntmps23
      go_wp2
      go_ret
      rw [HH.out]
      exact ⟨rfl,HB.out⟩
   | false =>
    have HH:Hid (R=false):=by show _=_;rw [<- HR.out];unfold ze9;rw [HE.out];simp
    go_enter Tryz.func23,Tryz.ntmps23
    go_wp2
    go_ret
    rw [HH.out]
    exact ⟨rfl,HB.out⟩
 · have j1:(k != k')=true:=by simp [h1]
   have HH:Hid (R=false):=by show _=_;rw [<- HR.out];unfold ze9;simp [h1]
   go_enter Tryz.func23,Tryz.ntmps23
   go_wp2
   go_ret
   rw [HH.out]
   exact ⟨rfl,HB.out⟩
mutual
def sameP:ITree->ITree->Bool
 | .node k n m _ ks,.node k' n' m' _ ks'=>ze9 k k' n n' m m' ks.length ks'.length&&zmf ks ks'
def zmf:List ITree->List ITree->Bool
 | t::ts,us=>(match us with|[]=>true|u::us=>sameP t u&&zmf ts us)
 | [],_=>true
end
theorem zme:(ks ks' : List ITree)->ks.length=ks'.length->(zmf ks ks'=true↔∀ j (h1:j<ks.length) (h2:j<ks'.length),sameP ks[j] ks'[j]=true)
 | [],_,_=>by rw [zmf];simp
 | t::ts,[],h=>by simp at h
 | t::ts,u::us,h=>by
  rw [zmf]
  simp only [Bool.and_eq_true]
  rw [zme ts us (by simpa using h)]
  constructor
  · rintro ⟨h1,h2⟩ j hj hj'
    cases j with
    | zero=>exact h1
    | succ j=>exact h2 j (by simpa using hj) (by simpa using hj')
  · intro h1
    exact ⟨h1 0 (by simp) (by simp),fun j hj hj'=>h1 (j+1) (by simpa using hj) (by simpa using hj')⟩
def smAt (ks ks' : List ITree) (j:Nat):Bool:=match ks[j]?,ks'[j]? with|some a,some b=>sameP a b|_,_=>true
theorem smAt_all (ks ks' : List ITree) (h:ks.length=ks'.length):(List.range ks.length).all (smAt ks ks')=zmf ks ks':=by
 rw [Bool.eq_iff_iff,zme ks ks' h,List.all_eq_true]
 constructor
 · intro h1 j hj hj'
   have:=h1 j (List.mem_range.2 hj)
   unfold smAt at this
   rw [List.getElem?_eq_getElem hj,List.getElem?_eq_getElem hj'] at this
   exact this
 · intro h1 j hj
   have hj:=List.mem_range.1 hj
   have hj' : j<ks'.length:=by omega
   unfold smAt
   rw [List.getElem?_eq_getElem hj,List.getElem?_eq_getElem hj']
   exact h1 j hj hj'
theorem kid_size {k m a:Int} {n:List UInt8} {ks:List ITree} {j:Nat} (h:j<ks.length):SizeOf.sizeOf ks[j]<SizeOf.sizeOf (ITree.node k n m a ks):=by
 have:=List.sizeOf_lt_of_mem (List.getElem_mem h)
 simp
 omega
theorem zm7:(N:Nat)->(t u:ITree)->SizeOf.sizeOf t<=N->∀ (B B' : Nat) (w:World) (v v' : Value),zif B w t v->zif B' w u v'->B<=w.heap.size->B'<=w.heap.size->Calls Tryz.prog 23 #[v,v'] w (fun e w'=>e=.returned (.bool (sameP t u))∧Below w.heap.size w w')
 | 0,.node k n m a ks,_,h=>by simp at h
 | N+1,.node k n m a ks,.node k' n' m' a' ks',hN=>by
  intro B B' w v v' ht hu hB hB'
  rw [zfo] at ht hu
  obtain ⟨o,c,rfl,h2,h3,h4,h5,h6⟩:=ht
  obtain ⟨o',c',rfl,i2,i3,i4,i5,i6⟩:=hu
  have hsz:∀ j (h:j<ks.length),SizeOf.sizeOf ks[j]<=N:=fun j h=>by
   have:=kid_size (k:=k) (n:=n) (m:=m) (a:=a) h
   omega
  refine (same_core k n m a o ks.length c k' n' m' a' o' ks'.length c' w (Nat.le_trans h2 h3) (smAt ks ks') ?_).mono ?_
  · intro j hj hll
    have hj' : j<ks'.length:=by omega
    rcases h6 with h6|⟨g,rfl,hg,hr⟩
    · subst h6;simp at hj
    rcases i6 with i6|⟨g',rfl,hg',hr'⟩
    · subst i6;simp at hj'
    refine ⟨g,g',rfl,rfl,?_⟩
    obtain ⟨k1,n1,m1,a1,us,he⟩:∃ k1 n1 m1 a1 us,ks[j]=.node k1 n1 m1 a1 us:=by cases ks[j];exact ⟨_,_,_,_,_,rfl⟩
    obtain ⟨k2,n2,m2,a2,us',he'⟩:∃ k1 n1 m1 a1 us,ks'[j]=.node k1 n1 m1 a1 us:=by cases ks'[j];exact ⟨_,_,_,_,_,rfl⟩
    obtain ⟨o1,c1,hk,htr⟩:=znl hr j hj k1 m1 a1 n1 us he
    obtain ⟨o2,c2,hk',htr'⟩:=znl hr' j hj' k2 m2 a2 n2 us' he'
    refine ⟨k1,n1,m1,a1,_,k2,n2,m2,a2,_,fun w1 hw=>⟨hk.frame (hw.block g (by omega)),hk'.frame (hw.block g' (by omega)),?_⟩⟩
    have hs:smAt ks ks' j=sameP (.node k1 n1 m1 a1 us) (.node k2 n2 m2 a2 us'):=by
     unfold smAt
     rw [List.getElem?_eq_getElem hj,List.getElem?_eq_getElem hj',he,he']
    rw [hs]
    exact zm7 N _ _ (he ▸ hsz j hj) B B' w1 _ _ (htr.frame (Nat.le_refl _) (fun b hb=>hw.block b (by omega))) (htr'.frame (Nat.le_refl _) (fun b hb=>hw.block b (by omega))) (Nat.le_trans hB hw.size) (Nat.le_trans hB' hw.size)
  · rintro e w' ⟨rfl,h⟩
    refine ⟨?_,h⟩
    rw [sameP]
    by_cases hll:ks.length=ks'.length
    · rw [smAt_all ks ks' hll]
    · have:ze9 k k' n n' m m' ks.length ks'.length=false:=by unfold ze9;simp [hll]
      rw [this]
      rfl
end Go.Proofs.YtighggeokiahfaaGreatDoor
namespace Go.Proofs.YtighggeokiahfaaGreatDoor
open Go.RowKit Go.Lib
def zlb:Tree:=.node 1 [] 0 0 [.node 2 [65] 0 6 [.node 28 [] 16 10 []]]
def exNum:ITree:=.node 28 [] 16 10 []
def exKid:ITree:=.node 2 [65] 0 6 [exNum]
def exI:ITree:=.node 1 [] 0 0 [exKid]
theorem ex_toI:zlb.toI=exI:=by kernel_rfl
theorem parse_ex:zjn [99,111,110,115,116,32,65,32,61,32,48,120,49,48,59]=.ok zlb:=by kernel_rfl
theorem parse_ex2:zjn [116,121,112,101,100,101,102,32,118,111,105,100,59]=.err 40 8:=by kernel_rfl
theorem ex_ok:TreeOk zlb:=by
 unfold zlb
 simp [TreeOk,zlt,maxLen]
/-- the example's tree as it lies -/
structure ExAt (w:World) (g c g1 c1:Nat) (o2:Option Addr) (c2:Nat):Prop where
 top:zif w.heap.size w exI (zc7 1 [] 0 0 (.slice (some ⟨g,0,none⟩) 1 c))
 one:zif w.heap.size w exKid (zc7 2 [65] 0 6 (.slice (some ⟨g1,0,none⟩) 1 c1))
 kid:KidR w g 0 2 [65] 0 6 (.slice (some ⟨g1,0,none⟩) 1 c1)
 num:KidR w g1 0 28 [] 16 10 (.slice o2 0 c2)
 lt:g<w.heap.size
 lt1:g1<w.heap.size
theorem ExAt.below {w w' : World} {g c g1 c1:Nat} {o2:Option Addr} {c2:Nat} (h:ExAt w g c g1 c1 o2 c2) (hB:Below w.heap.size w w'):ExAt w' g c g1 c1 o2 c2 :=
 ⟨h.top.frame hB.size hB.block,h.one.frame hB.size hB.block,h.kid.frame (hB.block g h.lt),h.num.frame (hB.block g1 h.lt1),Nat.lt_of_lt_of_le h.lt hB.size,Nat.lt_of_lt_of_le h.lt1 hB.size⟩
theorem ex_at {B:Nat} {w:World} {v:Value} (h:zah B zlb w v):∃ g c g1 c1 o2 c2,v=zc7 1 [] 0 0 (.slice (some ⟨g,0,none⟩) 1 c)∧ExAt w g c g1 c1 o2 c2:=by
 have ht:=zae.toR zlb v ex_ok h
 rw [ex_toI] at ht
 have ht0:=ht
 unfold exI at ht
 rw [zfo] at ht
 obtain ⟨o,c,rfl,_,_,_,_,h6⟩:=ht
 rcases h6 with h6|⟨g,rfl,hg,hr⟩
 · cases h6
 obtain ⟨o1,c1,hk,hk2⟩:=znl hr 0 (by simp) 2 0 6 [65] [exNum] rfl
 have hk3:=hk2
 rw [zfo] at hk2
 obtain ⟨o1',c1',he,_,_,_,_,h7⟩:=hk2
 unfold zc7 at he
 have he:=congrArg (fun v=>match v with|Value.agg l=>l.toList|_=>[]) he
 simp at he
 obtain ⟨rfl,rfl⟩:=he
 rcases h7 with h7|⟨g1,rfl,hg1,hr1⟩
 · cases h7
 obtain ⟨o2,c2,hk4,_⟩:=znl hr1 0 (by simp) 28 16 10 [] [] rfl
 exact ⟨g,c,g1,c1,o2,c2,rfl,ht0,hk3,hk,hk4,hg,hg1⟩
theorem ex_same {w:World} {g c g1 c1:Nat} {o2:Option Addr} {c2:Nat} (h:ExAt w g c g1 c1 o2 c2):Calls Tryz.prog 23 #[zc7 1 [] 0 0 (.slice (some ⟨g,0,none⟩) 1 c),zc7 1 [] 0 0 (.slice (some ⟨g,0,none⟩) 1 c)] w (fun e w'=>e=.returned (.bool true)∧Below w.heap.size w w') :=
 zm7 _ exI exI (Nat.le_refl _) _ _ w _ _ h.top h.top (Nat.le_refl _) (Nat.le_refl _)
theorem ex_other {w:World} {g c g1 c1:Nat} {o2:Option Addr} {c2:Nat} (h:ExAt w g c g1 c1 o2 c2):Calls Tryz.prog 23 #[zc7 1 [] 0 0 (.slice (some ⟨g,0,none⟩) 1 c),zc7 2 [65] 0 6 (.slice (some ⟨g1,0,none⟩) 1 c1)] w (fun e w'=>e=.returned (.bool false)∧Below w.heap.size w w') :=
 zm7 _ exI exKid (Nat.le_refl _) _ _ w _ _ h.top h.one (Nat.le_refl _) (Nat.le_refl _)
theorem itoa16:itoa 16=[49,54]:=by
 rw [show (16:Int)=((16:Nat):Int) from rfl,itoa_nonneg,decDigits_two (by decide) (by decide)]
 rfl
theorem itoa_small16 (w:World):Calls Tryz.prog 130 #[.int .i64 16] w fun e w'=>e=.returned (.string ⟨(itoa 16).toArray⟩)∧Below w.heap.size w w':=by
 refine (Tryz.strconv_Itoa_small 16 (by decide) w).mono ?_
 rintro e w' ⟨rfl,rfl⟩
 refine ⟨?_,Below.refl _ _⟩
 rw [show (16:Int)=((16:Nat):Int) from rfl,itoa_nonneg]
theorem ex_text:zgy (fun _=>zh3 [65] 0 1 28 [] 16 0) 1 [] 0 [exKid] []=some [99,111,110,115,116,32,65,61,49,54,59]:=by
 unfold zgy defsP zh3 zj0
 rw [itoa16]
 kernel_rfl
theorem ex_print {w:World} {g c g1 c1:Nat} {o2:Option Addr} {c2:Nat} (h:ExAt w g c g1 c1 o2 c2):Calls Tryz.prog 20 #[zc7 1 [] 0 0 (.slice (some ⟨g,0,none⟩) 1 c)] w (zlu (some [99,111,110,115,116,32,65,61,49,54,59]) w):=by
 refine print_any 1 [] 0 0 (some ⟨g,0,none⟩) 1 c _ w (fun w1 p hp hB hP=>?_)
 have h1:=h.below hB
 have hlt:=h.lt
 have hlt1:=h.lt1
 have hx:=zku p 1 [] 0 0 (some ⟨g,0,none⟩) [exKid] c g [] 0 (.slice none 0 0) w1 hP (by simp) (by simp) (fun _=>zh3 [65] 0 1 28 [] 16 0) (fun j hj=>by
  have hj:j=0:=by simp at hj;omega
  subst hj
  refine ⟨rfl,by omega,2,[65],0,6,_,_,_,h1.kid,fun w2 txt v hPv hx hf=>?_⟩
  exact pconst_any p [65] 0 6 (some ⟨g1,0,none⟩) 1 c1 g1 28 [] 16 10 o2 0 c2 txt 0 v w2 hPv hx (by simp [maxLen]) (by decide) (by decide) (fun m=>m=16) rfl (by
   rintro m rfl w3 _
   exact itoa_small16 w3) (fun _=>⟨rfl,by omega,h1.num.frame (hf g1 (by omega))⟩))
 rw [ex_text] at hx
 exact hx
theorem none_print (w:World):Calls Tryz.prog 20 #[zc7 99 [] 0 0 (.slice none 0 0)] w (zlu none w):=by
 refine print_any 99 [] 0 0 none 0 0 _ w (fun w1 p hp hB hP=>?_)
 exact zku p 99 [] 0 0 none [] 0 0 [] 0 (.slice none 0 0) w1 hP (by simp) (by simp) (fun _ _=>none) (fun j hj=>by simp at hj)
end Go.Proofs.YtighggeokiahfaaGreatDoor
namespace Go.Proofs.YtighggeokiahfaaGreatDoor
open Go.RowKit
theorem pair0 (a b:Value) (w:World):(Instr.extract (.tuple #[a,b]) 0).run Tryz.prog w=.ok a w:=rfl
theorem pair1 (a b:Value) (w:World):(Instr.extract (.tuple #[a,b]) 1).run Tryz.prog w=.ok b w:=rfl
theorem bld99 (w:World):(Instr.build 29 #[(0,.int .i64 99)]).run Tryz.prog w=.ok (.agg #[.int .i64 99,.string ⟨#[]⟩,.int .i64 0,.int .i64 0,.slice none 0 0]) w:=by kernel_rfl
set_option maxHeartbeats 2000000 in
set_option maxRecDepth 4000 in
theorem zlq (w:World) (hG:zhj w):Calls Tryz.prog 10 #[] w (fun e w'=>e=.returned (.bool true)∧Below w.heap.size w w'):=by
 have HG:=hid hG
 have Aj:Hid (Calls Tryz.prog 11 #[.string ⟨[99,111,110,115,116,32,65,32,61,32,48,120,49,48,59].toArray⟩] w (zdq (.ok zlb) w)):=by
  have hp:=zky [99,111,110,115,116,32,65,32,61,32,48,120,49,48,59] w hG
  rw [parse_ex] at hp
  exact hp
 clear hG
 have x0:=ext0
 have x1:=ext1
 have x2:=ext2
 have y0:=pair0
 have y1:=pair1
 have qb:=bld99
 go_enter Tryz.func10,Tryz.ntmps10
 go_wp2_with fail
 refine Aj.out.mono ?_
 rintro e w1 ⟨v,rfl,hT,hB1⟩
 obtain ⟨g,c,g1,c1,o2,c2,rfl,hex⟩:=ex_at hT
 have Al:=hid hB1
 obtain ⟨wb,hwb⟩:∃ x,w1.alloc (.cells #[.int .i64 1,.string ⟨#[]⟩,.int .i64 0,.int .i64 0,.slice (some ⟨g,0,none⟩) 1 c] 29)=x:=⟨_,rfl⟩
 have hbb:Below w1.heap.size w1 wb:=by rw [<- hwb];exact zac _ _
 have Ab:=hid (hex.below hbb)
 have Ac:=hid (hB1.trans (hbb.mono hB1.size))
 have Af:Hid (wb.heap[w1.heap.size]?=some (zje 1 [] 0 0 (.slice (some ⟨g,0,none⟩) 1 c))):=by show _=_;rw [<- hwb];exact heap_alloc_new _ _
 obtain ⟨⟨z0,z1,z2,z3,z4⟩,_⟩:=za5 Af.out
 clear hT hB1 hex hbb
 unfold zc7
 go_wp2_with fail
 refine (ex_print Ab.out).mono ?_
 rintro e w2 ⟨rfl,hB2⟩
 clear hwb z0 z1 z2 z3 z4
 have Ag:=hid hB2
 have Ae:=hid (Ac.out.trans (hB2.mono Ac.out.size))
 have Ak:Hid (Calls Tryz.prog 11 #[.string ⟨[116,121,112,101,100,101,102,32,118,111,105,100,59].toArray⟩] w2 (zdq (.err 40 8) w2)):=by
  have hp:=zky [116,121,112,101,100,101,102,32,118,111,105,100,59] w2 (HG.out.below Ae.out)
  rw [parse_ex2] at hp
  exact hp
 clear hB2
 go_wp2_with fail
 refine Ak.out.mono ?_
 rintro e w3 ⟨rfl,hB3⟩
 have Ah:=hid (Ag.out.trans (hB3.mono Ag.out.size))
 clear hB3
 unfold kidV
 go_wp2_with fail
 refine (none_print _).mono ?_
 rintro e w4 ⟨rfl,hB4⟩
 have Aa:Hid (Below wb.heap.size wb w4):=by
  have hb:=Ah.out.alloc Ah.out.size (.cells #[.int .i64 0,.string ⟨#[]⟩,.int .i64 0,.int .i64 0,.slice none 0 0] 29)
  exact hb.trans (hB4.mono hb.size)
 clear hB4
 have HS:Hid (∀ wx,Below wb.heap.size wb wx->(wx.cell? ⟨w1.heap.size,0,none⟩=some (.int .i64 1)∧wx.cell? ⟨w1.heap.size,1,none⟩=some (.string ⟨#[]⟩)∧wx.cell? ⟨w1.heap.size,2,none⟩=some (.int .i64 0)∧wx.cell? ⟨w1.heap.size,3,none⟩=some (.int .i64 0)∧wx.cell? ⟨w1.heap.size,4,none⟩=some (.slice (some ⟨g,0,none⟩) 1 c)∧wx.cell? ⟨g,0,none⟩=some (.int .i64 2)∧wx.cell? ⟨g,1,none⟩=some (.string ⟨#[65]⟩)∧wx.cell? ⟨g,2,none⟩=some (.int .i64 0)∧wx.cell? ⟨g,3,none⟩=some (.int .i64 6)∧wx.cell? ⟨g,4,none⟩=some (.slice (some ⟨g1,0,none⟩) 1 c1))):=by
  show ∀ wx,_
  intro wx hb
  obtain ⟨⟨z0,z1,z2,z3,z4⟩,_⟩:=za5 (zao hb Af.out)
  have he:=Ab.out.below hb
  exact ⟨z0,z1,z2,z3,z4,he.kid.c0,he.kid.c1,he.kid.c2,he.kid.c3,he.kid.c4⟩
 have s0:=HS.out w4 Aa.out
 have s1:∀ i,((w4.drewN i).cell? ⟨w1.heap.size,0,none⟩=some (.int .i64 1)∧(w4.drewN i).cell? ⟨w1.heap.size,1,none⟩=some (.string ⟨#[]⟩)∧(w4.drewN i).cell? ⟨w1.heap.size,2,none⟩=some (.int .i64 0)∧(w4.drewN i).cell? ⟨w1.heap.size,3,none⟩=some (.int .i64 0)∧(w4.drewN i).cell? ⟨w1.heap.size,4,none⟩=some (.slice (some ⟨g,0,none⟩) 1 c)∧(w4.drewN i).cell? ⟨g,0,none⟩=some (.int .i64 2)∧(w4.drewN i).cell? ⟨g,1,none⟩=some (.string ⟨#[65]⟩)∧(w4.drewN i).cell? ⟨g,2,none⟩=some (.int .i64 0)∧(w4.drewN i).cell? ⟨g,3,none⟩=some (.int .i64 6)∧(w4.drewN i).cell? ⟨g,4,none⟩=some (.slice (some ⟨g1,0,none⟩) 1 c1)):=fun _=>s0
 obtain ⟨z0,z1,z2,z3,z4,k0,k1,k2,k3,k4⟩:=s0
 have n2:w4.cell? ⟨g1,2,none⟩=some (.int .i64 16):=(Ab.out.below Aa.out).num.c2
 go_wp2_with fail
 have s0:=HS.out w4 Aa.out
 clear z0 z1 z2 z3 z4 k0 k1 k2 k3 k4 n2
 go_region_held (fun w'=>(w'.cell? ⟨w1.heap.size,0,none⟩=some (.int .i64 1)∧w'.cell? ⟨w1.heap.size,1,none⟩=some (.string ⟨#[]⟩)∧w'.cell? ⟨w1.heap.size,2,none⟩=some (.int .i64 0)∧w'.cell? ⟨w1.heap.size,3,none⟩=some (.int .i64 0)∧w'.cell? ⟨w1.heap.size,4,none⟩=some (.slice (some ⟨g,0,none⟩) 1 c)∧w'.cell? ⟨g,0,none⟩=some (.int .i64 2)∧w'.cell? ⟨g,1,none⟩=some (.string ⟨#[65]⟩)∧w'.cell? ⟨g,2,none⟩=some (.int .i64 0)∧w'.cell? ⟨g,3,none⟩=some (.int .i64 6)∧w'.cell? ⟨g,4,none⟩=some (.slice (some ⟨g1,0,none⟩) 1 c1))) (first|with_reducible exact s0|with_reducible exact s1 _|with_reducible exact s5|with_reducible exact s6|with_reducible exact s7|exact s0) (first
  | (go_at_call_of 23 (Value.slice (some (Addr.mk g1 0 none)) 1 c1)
     refine (ex_other (g:=g) (c:=c) (g1:=g1) (c1:=c1) (o2:=o2) (c2:=c2) ?_).mono ?_
     exact Ab.out.below Ad.out
     rintro e w6 ⟨rfl,hB0⟩
     have Ai:=hid (Ad.out.trans (hB0.mono Ad.out.size))
     have s6:=HS.out w6 Ai.out
     clear hB0)
  | (go_at_call 23
     refine (ex_same (g:=g) (c:=c) (g1:=g1) (c1:=c1) (o2:=o2) (c2:=c2) ?_).mono ?_
     exact Ab.out.below (zem Aa.out _)
     rintro e w5 ⟨rfl,hB0⟩
     have Ad:=hid ((zem Aa.out _).trans (hB0.mono (zem Aa.out _).size))
     have s5:=HS.out w5 Ad.out
     clear hB0))
 go_wp2
 go_ret
 exact ⟨rfl,Ac.out.trans (Ai.out.mono Ac.out.size)⟩
def addP (n m:Nat):Nat:=if n+m<=2147483647 then n+m else 2147483648
theorem add_le (n m:Nat):addP n m<=2147483648:=by unfold addP;split <;> omega
theorem add_any (n m:Nat) (hn:n<=9223372036854775807) (hm:m<=9223372036854775807) (w:World):Calls Tryz.prog 9 #[.int .i64 n,.int .i64 m] w fun e w'=>e=.returned (.int .i64 (addP n m))∧w'=w:=by
 have h1:(n:Int)<=9223372036854775807:=by omega
 have h2:(m:Int)<=9223372036854775807:=by omega
 by_cases h:n+m<=2147483647
 · have e:addP n m=n+m:=if_pos h
   rw [e]
   have h3:¬ (m:Int) > 2147483647 - (n:Int):=by omega
   have h4:decide ((2147483647 - (n:Int))<(m:Int))=false:=by simp;omega
   have h5:(n:Int)+(m:Int)<=2147483647:=by omega
   go_enter Tryz.func9,Tryz.ntmps9
   go_wp2
   go_ret
   exact ⟨rfl,rfl⟩
 · have e:addP n m=2147483648:=if_neg h
   rw [e]
   have h4:decide ((2147483647 - (n:Int))<(m:Int))=true:=by simp;omega
   have h3:(2147483647 - (n:Int))<(m:Int):=by omega
   go_enter Tryz.func9,Tryz.ntmps9
   go_wp2
   go_ret
   exact ⟨rfl,rfl⟩
def zdf (n:Nat):Nat:=addP n (addP n n)
theorem thrice_le (n:Nat):zdf n<=2147483648:=add_le _ _
theorem zi1 (n:Nat) (hn:n<=9223372036854775807) (w:World):Calls Tryz.prog 8 #[.int .i64 n] w fun e w'=>e=.returned (.int .i64 (zdf n))∧w'=w:=by
 have h1:(n:Int)<=9223372036854775807:=by omega
 have H1:Hid (∀ w,Calls Tryz.prog 9 #[.int .i64 n,.int .i64 n] w fun e w'=>e=.returned (.int .i64 (addP n n))∧w'=w):=fun w=>add_any n n hn hn w
 have H2:Hid (∀ w,Calls Tryz.prog 9 #[.int .i64 n,.int .i64 (addP n n:Nat)] w fun e w'=>e=.returned (.int .i64 (zdf n))∧w'=w):=fun w=>add_any n _ hn (by have:=add_le n n;omega) w
 generalize addP n n=y at *
 go_enter Tryz.func8,Tryz.ntmps8
 go_wp2_with fail
 refine (H1.out _).mono ?_
 rintro e w1 ⟨rfl,hw⟩
 rw [hw]
 clear hw
 go_wp2_with fail
 refine (H2.out _).mono ?_
 rintro e w2 ⟨rfl,hw⟩
 rw [hw]
 clear hw
 go_wp2
 go_ret
 exact ⟨rfl,rfl⟩
theorem tok_place {w:World} {base g cap:Nat} {ts:List Tok} (ho:w.ownsRow base 41 4 (.slice (some ⟨g,0,none⟩) ts.length cap) ts.length (Lx.tokCells ts)) (j:Nat) (hj:j<ts.length):w.cell? ⟨g,j*4+3,none⟩=some (.int .i64 (ts[j]).at_):=by
 rw [ho.cellAt _ (by omega)]
 exact (zc5 ts j hj).2.2.2


end Go.Proofs.YtighggeokiahfaaGreatDoor
namespace Go.Proofs.YtighggeokiahfaaGreatDoor
open Go.ChangeShapes Go.WideShapes Go.ChangeAt Go.RowKit
theorem own:ownKnob Tryz.prog.godebug=none:=by kernel_rfl
theorem globB:Tryz.prog.globalNamed "callbox/syntax.bares" = some 0:=by kernel_rfl
theorem typeB:(Tryz.prog.globals[0]?).map (·.type)=some 125:=by kernel_rfl
theorem cells124:Tryz.prog.cellsOf 124=3:=by kernel_rfl
theorem cells125:Tryz.prog.cellsOf 125=21:=by kernel_rfl
theorem cells3:Tryz.prog.cellsOf 3=1:=by kernel_rfl
theorem cells4:Tryz.prog.cellsOf 4=1:=by kernel_rfl
theorem cells9:Tryz.prog.cellsOf 9=1:=by kernel_rfl
theorem zie {s:ByteArray} {l:List UInt8} (h:s.data.toList=l):s=⟨l.toArray⟩:=by
 cases s with
 | mk a=>cases a;cases h;rfl
theorem row_of_trod {w:World} {fuel:Nat} {cs:List Value} {a:Int} {b:Bool} {l:List UInt8} {p:List MemPlace} (hl:cs.length=3)
 (h:DataW.trod (fun _=>()) Tryz.prog w 0 (fun _=>true) false fuel 124 cs=some (.agg [.lit (.int .i64 a),.lit (.bool b),.lit (.string l)],p)) :
 cs=[.int .i64 a,.bool b,.string ⟨l.toArray⟩]:=by
 match cs,hl with
 | [c0,c1,c2],_ =>
  obtain ⟨xs,n,rfl,hx,_,hlen,hall⟩:=DataW.trod_struct Tryz.underlying124 h
  have e0:=hall 0 { name := "kind",type:=3,offset:=0,embedded:=false,tag := "",pkgPath := "callbox/syntax",byteOffset:=0 } rfl
  have e1:=hall 1 { name := "unsigned",type:=4,offset:=1,embedded:=false,tag := "",pkgPath := "callbox/syntax",byteOffset:=8 } rfl
  have e2:=hall 2 { name := "word",type:=9,offset:=2,embedded:=false,tag := "",pkgPath := "callbox/syntax",byteOffset:=16 } rfl
  dsimp only at e0 e1 e2
  rw [cells3] at e0
  rw [cells4] at e1
  rw [cells9] at e2
  match xs,hlen with
  | [y0,y1,y2],_ =>
   obtain ⟨z0,hz0,hy0,_⟩:=DataW.trod_int Tryz.underlying3 (cs:=[c0]) (x:=y0) e0
   obtain ⟨z1,hz1,hy1⟩:=DataW.trod_bool Tryz.underlying4 (cs:=[c1]) (x:=y1) e1
   obtain ⟨z2,hz2,hy2,_⟩:=DataW.trod_string Tryz.underlying9 (cs:=[c2]) (x:=y2) e2
   subst hy0 hy1 hy2
   simp only [List.map_cons,List.map_nil,Prod.mk.injEq,DataW.agg.injEq,List.cons.injEq,DataW.lit.injEq,Lit.int.injEq,Lit.bool.injEq,Lit.string.injEq,true_and,and_true] at hx
   obtain ⟨⟨rfl,rfl,h2⟩,_⟩:=hx
   rw [List.cons.injEq] at hz0 hz1 hz2
   rw [hz0.1,hz1.1,hz2.1,zie h2.symm]
theorem bares_of {w:World} {fuel:Nat} {cs:Array Value} {p:List MemPlace}
 (h:DataW.trod (fun _=>()) Tryz.prog w 0 (fun _=>true) false fuel 125 cs.toList=some (Rows.laid_callbox_syntax_bares,p)):cs=zjs:=by
 obtain ⟨xs,m,rfl,hx,hl,hlen,hall⟩:=DataW.trod_array Tryz.underlying125 h
 rw [cells125] at hl
 rw [cells124] at hall
 have hx1:=congrArg Prod.fst hx
 match xs,hlen with
 | [y0,y1,y2,y3,y4,y5,y6],_ =>
  simp only [Rows.laid_callbox_syntax_bares,List.map_cons,List.map_nil,DataW.agg.injEq,List.cons.injEq,and_true] at hx1
  obtain ⟨g0,g1,g2,g3,g4,g5,g6⟩:=hx1
  have len3:∀ i,i<7->((cs.toList.drop (i*3)).take 3).length=3:=by
   intro i hi
   rw [List.length_take,List.length_drop,hl]
   omega
  have f:∀ (i:Nat) (y:DataW Unit × List MemPlace) (a:Int) (b:Bool) (l:List UInt8),i<7->[y0,y1,y2,y3,y4,y5,y6][i]?=some y->.agg [.lit (.int .i64 a),.lit (.bool b),.lit (.string l)]=y.1->(cs.toList.drop (i*3)).take 3=[.int .i64 a,.bool b,.string ⟨l.toArray⟩]:=by
   intro i y a b l hi hy hg
   obtain ⟨y1,y2⟩:=y
   cases hg
   exact row_of_trod (len3 i hi) ((hall i hi).trans hy)
  have r0:=f 0 _ _ _ _ (by omega) rfl g0
  have r1:=f 1 _ _ _ _ (by omega) rfl g1
  have r2:=f 2 _ _ _ _ (by omega) rfl g2
  have r3:=f 3 _ _ _ _ (by omega) rfl g3
  have r4:=f 4 _ _ _ _ (by omega) rfl g4
  have r5:=f 5 _ _ _ _ (by omega) rfl g5
  have r6:=f 6 _ _ _ _ (by omega) rfl g6
  have hc:cs.toList=(cs.toList.drop (0*3)).take 3++((cs.toList.drop (1*3)).take 3++((cs.toList.drop (2*3)).take 3++((cs.toList.drop (3*3)).take 3++((cs.toList.drop (4*3)).take 3++((cs.toList.drop (5*3)).take 3++(cs.toList.drop (6*3)).take 3))))):=by
   have step:∀ k,(cs.toList.drop k)=(cs.toList.drop k).take 3++cs.toList.drop (k+3):=by
    intro k
    rw [<- List.drop_drop,List.take_append_drop]
   have e6:(cs.toList.drop 18).take 3=cs.toList.drop 18:=List.take_of_length_le (by rw [List.length_drop,hl];decide)
   have s0:=step 0
   have s1:=step 3
   have s2:=step 6
   have s3:=step 9
   have s4:=step 12
   have s5:=step 15
   rw [<- e6] at s5
   rw [s5] at s4
   rw [s4] at s3
   rw [s3] at s2
   rw [s2] at s1
   rw [s1] at s0
   exact s0
  rw [r0,r1,r2,r3,r4,r5,r6] at hc
  have:cs=cs.toList.toArray:=rfl
  rw [this,hc]
  rfl
theorem glob_of {W:World} (hL:laidMetH Tryz.prog Rows.syntaxPlacesRow.laid W):zhj W:=by
 rw [MakeChecks.laidMetH_plain _ _ _ (by kernel_rfl)] at hL
 obtain ⟨g,t,cs,fuel,p,hg,ht,hvar,hd⟩:=Lib.laidMet.reads hL (n := "callbox/syntax.bares") (d:=Rows.laid_callbox_syntax_bares) (.tail _ (.tail _ (.tail _ (.head _))))
 obtain rfl:=Option.some.inj (globB.symm.trans hg)
 obtain rfl:=Option.some.inj (typeB.symm.trans ht)
 have hcs:=bares_of hd
 subst hcs
 unfold World.var? at hvar
 rw [globB] at hvar
 simp only [Option.bind_some] at hvar
 cases hb:W.heap[0]? with
 | none=>rw [hb] at hvar;cases hvar
 | some b =>
  rw [hb] at hvar
  cases b with
  | cells c t fr=>obtain rfl:=Option.some.inj hvar;exact ⟨t,fr,hb⟩
  | _=>cases hvar
end Go.Proofs.YtighggeokiahfaaGreatDoor
namespace Go.Proofs.YtighggeokiahfaaGreatDoor.Dm
/-- what is left of the tokens; what was wrong first, and where -/
structure RS where
 ts:List Tok
 e:Int
 pl:Nat
def RS.hd (s:RS):Tok:=s.ts.headD ⟨5,[],0,0⟩
def RS.adv (s:RS):RS:=⟨s.ts.tail,s.e,s.pl⟩
def RS.fail (s:RS) (e:Int):RS:=if s.e=0 then ⟨s.ts,e,s.hd.at_⟩ else s
def RS.is (s:RS) (t:List UInt8):Bool:=s.e==0&&(s.hd.text==t&&(s.hd.kind==4||s.hd.kind==2))
def RS.want (s:RS) (t:List UInt8):RS:=if s.is t then s.adv else s.fail 40
def zjc:Tree:=.node 0 [] 0 0 []
def zaz (s:RS):(List UInt8 × Nat) × RS:=if s.e==0&&s.hd.kind==1 then ((s.hd.text,s.hd.at_),s.adv) else (([],0),s.fail 40)
def zav (word:Bool) (s:RS):Tree × RS:=if s.e==0&&s.hd.kind==3&&!(word&&decide (s.hd.num<0)) then (.node 28 [] s.hd.num s.hd.at_ [],s.adv) else (zjc,s.fail 40)
def zau (s:RS):Tree × RS:=if s.hd.kind==1 then (.node 27 (zaz s).1.1 0 (zaz s).1.2 [],(zaz s).2) else zav false s
def baseD (t:List UInt8):Int:=if t==wInt then 18 else if t==zfb then 20 else if t==zl8 then 22 else if t==zi0 then 23 else if t==wBool then 24 else 0
def RS.begins (s:RS):Bool:=s.hd.kind==1||(s.hd.kind==2&&(s.hd.text==zbj||baseD s.hd.text != 0))
def zed (s:RS):Tree × RS:=
 if s.e==0&&s.begins then
  if s.hd.kind==1 then (.node 27 s.hd.text 0 s.hd.at_ [],s.adv)
  else if s.hd.text==zbj then
   if s.adv.is wInt then (.node 19 [] 0 s.hd.at_ [],s.adv.adv) else (.node 21 [] 0 s.hd.at_ [],s.adv.want zfb)
  else (.node (baseD s.hd.text) [] 0 s.hd.at_ [],s.adv)
 else (.node 0 [] 0 s.hd.at_ [],s.fail 40)
def zhb (t:List UInt8):Int:=if t==zd6 then 4 else if t==zbm then 6 else if t==zer then 7 else 0
def RS.bodied (s:RS):Int:=if s.hd.kind==2 then zhb s.hd.text else 0
def zce (B:RS->Tree × RS) (s:RS):Tree × RS:=if s.e==0&&s.bodied != 0 then B s else zed s
def zaw (k:Int) (n:List UInt8 × Nat) (ks:List Tree):Tree:=.node k n.1 0 n.2 ks
def zcn:Nat->List Tree->RS->List Tree × RS
 | 0,_,s=>([],s)
 | f+1,acc,s=>
  if s.e==0 then
   let n:=zaz s
   let v:=zau (n.2.want [61])
   let ks:=acc++[zaw 5 n.1 [v.1]]
   if v.2.is [125] then (ks,v.2.adv)
   else zcn f ks ((if v.2.is [44]&&ks.length==64 then v.2.fail 42 else v.2).want [44])
  else ([],s)
def zfa (s:RS):List Tree × RS:=zcn ((s.want [123]).ts.length+1) [] (s.want [123])
def RS.declares (s:RS):Bool:=s.bodied != 0||(s.begins||(s.hd.kind==2&&(s.hd.text==zde||(s.hd.text==ze4||s.hd.text==ze3))))
def zdv (t:Tree) (least:Int) (s:RS):Tree × RS:=
 let n:=zaz s
 if n.2.is [91]&&decide (least<2) then
  let v:=zau n.2.adv
  (zaw 15 n.1 [t,v.1],v.2.want [93])
 else if n.2.is [60] then
  if n.2.adv.is [62] then (zaw 16 n.1 [t],n.2.adv.want [62])
  else
   let v:=zau n.2.adv
   (zaw 16 n.1 [t,v.1],v.2.want [62])
 else if 0<least then (zaw 14 n.1 [t],n.2.fail 40)
 else (zaw 14 n.1 [t],n.2)
def zcd (B:RS->Tree × RS) (void:Bool) (s:RS):Tree × RS:=
 if s.is zde&&void then (.node 13 [] 0 s.hd.at_ [],s.adv)
 else if s.is ze4 then zdv (.node 25 [] 0 s.hd.at_ []) 1 s.adv
 else if s.is ze3 then zdv (.node 26 [] 0 s.hd.at_ []) 2 s.adv
 else
  let t:=zce B s
  if t.2.is [42] then
   let n:=zaz t.2.adv
   (zaw 17 n.1 [t.1],n.2)
  else zdv t.1 0 t.2
def zdb (B:RS->Tree × RS) (last:Bool):Nat->List Tree->RS->List Tree × RS
 | 0,_,s=>([],s)
 | f+1,acc,s=>
  if s.e==0 then
   let t:=zcd B true s
   let ks:=acc++[t.1]
   let s2:=t.2.want [59]
   if s2.is [125] then (ks,s2.adv)
   else zdb B last f ks (if s2.declares&&ks.length==64 then (if s2.bodied != 0&&last then s2.fail 41 else s2).fail 42 else s2)
  else ([],s)
def fieldsD (B:RS->Tree × RS) (last:Bool) (s:RS):List Tree × RS:=zdb B last ((s.want [123]).ts.length+1) [] (s.want [123])
def ze1:Nat->List Tree->RS->List Tree × RS
 | 0,acc,s=>(acc,s)
 | f+1,acc,s=>
  if s.e==0 then
   let v:=zau s
   let ks:=acc++[v.1]
   let s2:=v.2.want [58]
   if s2.is zb1 then ze1 f ks ((if ks.length==64 then s2.fail 42 else s2).want zb1) else (ks,s2)
  else (acc,s)
def armD (B:RS->Tree × RS) (s:RS):Tree × RS:=
 let l:=ze1 ((s.want zb1).ts.length+1) [] (s.want zb1)
 let t:=zcd B true l.2
 (.node 8 [] 0 s.hd.at_ (l.1++[t.1]),t.2.want [59])
def zf3 (B:RS->Tree × RS):Nat->List Tree->RS->List Tree × RS
 | 0,acc,s=>(acc,s)
 | f+1,acc,s=>
  if s.e==0 then
   let t:=armD B s
   let ks:=acc++[t.1]
   if t.2.is zb1 then zf3 B f ks (if 64<ks.length then t.2.fail 42 else t.2) else (ks,t.2)
  else (acc,s)
def zgl (B:RS->Tree × RS) (l:List Tree) (s:RS):List Tree × RS:=
 if s.is za2 then
  let t:=zcd B true (s.adv.want [58])
  (l++[.node 9 [] 0 s.hd.at_ [t.1]],(t.2.want [59]).want [125])
 else (l,s.want [125])
def zgh (B:RS->Tree × RS) (s:RS):List Tree × RS:=
 let d:=zcd B true ((s.want zgt).want [40])
 let s3:=(d.2.want [41]).want [123]
 let l:=zf3 B (s3.ts.length+1) [d.1] s3
 zgl B l.1 l.2
def zec (B:RS->Tree × RS) (last:Bool) (k:Int) (s:RS):List Tree × RS:=if k==4 then zfa s else if k==6 then fieldsD B last s else zgh B s
/-- a type with a body; so many more may stand within -/
def zc2:Nat->RS->Tree × RS
 | 0,s=>(zjc,s.fail 41)
 | d+1,s=>(.node s.bodied [] 0 s.hd.at_ (zec (zc2 d) (d==0) s.bodied s.adv).1,(zec (zc2 d) (d==0) s.bodied s.adv).2)
def zhu:Nat->List Tree->RS->List Tree × RS
 | 0,acc,s=>(acc,s)
 | f+1,acc,s=>
  if s.e==0 then
   let t:=zed s
   let ks:=acc++[t.1]
   if t.2.is [44] then zhu f ks ((if ks.length==4 then t.2.fail 42 else t.2).want [44]) else (ks,t.2)
  else (acc,s)
def zeb (s:RS):Tree × RS:=if s.is zde then (.node 13 [] 0 s.hd.at_ [],s.adv) else zed s
def zff (s:RS):List Tree × RS:=if s.is zde then ([.node 13 [] 0 s.hd.at_ []],s.adv) else zhu (s.ts.length+1) [] s
def zg9 (s:RS):Tree × RS:=
 let r:=zeb s
 let n:=zaz r.2
 let l:=zff (n.2.want [40])
 let v:=zav true ((l.2.want [41]).want [61])
 (zaw 12 n.1 (v.1::r.1::l.1),v.2.want [59])
def zb8:Nat->List Tree->RS->List Tree × RS
 | 0,acc,s=>(acc,s)
 | f+1,acc,s=>
  if s.e==0 then
   let t:=zg9 s
   let ks:=acc++[t.1]
   if t.2.is [125] then (ks,t.2.adv)
   else zb8 f ks (if (t.2.begins||t.2.is zde)&&ks.length==64 then t.2.fail 42 else t.2)
  else (acc,s)
def zc4 (s:RS):Tree × RS:=
 let n:=zaz (s.want zd5)
 let l:=zb8 ((n.2.want [123]).ts.length+1) [] (n.2.want [123])
 let v:=zav true (l.2.want [61])
 (zaw 11 n.1 (v.1::l.1),v.2.want [59])
def zbk:Nat->List Tree->RS->List Tree × RS
 | 0,acc,s=>(acc,s)
 | f+1,acc,s=>
  if s.e==0 then
   let t:=zc4 s
   let ks:=acc++[t.1]
   if t.2.is [125] then (ks,t.2.adv)
   else zbk f ks (if t.2.is zd5&&ks.length==64 then t.2.fail 42 else t.2)
  else (acc,s)
def zew (s:RS):Tree × RS:=
 let n:=zaz s
 let l:=zbk ((n.2.want [123]).ts.length+1) [] (n.2.want [123])
 let v:=zav true (l.2.want [61])
 (zaw 10 n.1 (v.1::l.1),v.2)
def defD (s:RS):Tree × RS:=
 if s.bodied != 0 then
  let n:=zaz s.adv
  let l:=zec (zc2 7) false s.bodied n.2
  (zaw s.bodied n.1 l.1,l.2)
 else if s.is zdt then
  let n:=zaz s.adv
  let v:=zav false (n.2.want [61])
  (zaw 2 n.1 [v.1],v.2)
 else if s.is zc3 then
  let t:=zcd (zc2 8) false s.adv
  (.node 3 [] 0 s.hd.at_ [t.1],t.2)
 else if s.is zdc then zew s.adv
 else (zjc,s.fail 40)
def zax (s:RS):Tree × RS:=((defD s).1,(defD s).2.want [59])
def RS.defines (s:RS):Bool:=s.bodied != 0||(s.is zdt||(s.is zc3||s.is zdc))
def zc9:Nat->List Tree->RS->List Tree × RS
 | 0,acc,s=>(acc,s)
 | f+1,acc,s=>
  if s.e==0&&s.hd.kind != 5 then
   if s.defines&&acc.length==100 then (acc,s.fail 42)
   else zc9 f (acc++[(zax s).1]) (zax s).2
  else (acc,s)
/-- what the document's Parse answers -/
def parseD (l:List UInt8):PRes:=
 match zeq l with
 | .err e i=>.err e i
 | .ok ts=>
  let r:=zc9 (ts.length+1) [] ⟨ts,0,0⟩
  if r.2.e==0 then .ok (.node 1 [] 0 0 r.1) else .err r.2.e r.2.pl
end Go.Proofs.YtighggeokiahfaaGreatDoor.Dm
namespace Go.Proofs.YtighggeokiahfaaGreatDoor.Dm
open Go.RowKit
def parO (g n cap i:Nat) (d e pl:Int):Obj:=.cells #[.slice (some ⟨g,0,none⟩) n cap,.int .i64 i,.int .i64 d,.int .i64 e,.int .i64 pl] 57 (0,0)
/-- tokens in memory -/
structure TokAt (w:World) (g:Nat) (ts:List Tok):Prop where
 t0:∀ j (h:j<ts.length),w.cell? ⟨g,j*4,none⟩=some (.int .i64 ts[j].kind)
 t1:∀ j (h:j<ts.length),w.cell? ⟨g,j*4+1,none⟩=some (.string ⟨ts[j].text.toArray⟩)
 t2:∀ j (h:j<ts.length),w.cell? ⟨g,j*4+2,none⟩=some (.int .i64 ts[j].num)
 t3:∀ j (h:j<ts.length),w.cell? ⟨g,j*4+3,none⟩=some (.int .i64 ts[j].at_)
/-- a parser of the document's: its tokens, where it is, how many bodies are open, what was wrong -/
structure DP (w:World) (p g cap:Nat) (ts:List Tok) (i:Nat) (d e:Int) (pl:Nat):Prop where
 blk:w.heap[p]?=some (parO g ts.length cap i d e pl)
 tok:TokAt w g ts
 il:i<ts.length
 ln:ts.length<=16001
 gp:g≠p
 gl:g<w.heap.size
theorem zb2 {w:World} {p g n cap i:Nat} {d e pl:Int} (h:w.heap[p]?=some (parO g n cap i d e pl)):
 (w.cell? ⟨p,0,none⟩=some (.slice (some ⟨g,0,none⟩) n cap)∧w.cell? ⟨p,1,none⟩=some (.int .i64 i)∧w.cell? ⟨p,2,none⟩=some (.int .i64 d)∧w.cell? ⟨p,3,none⟩=some (.int .i64 e)∧w.cell? ⟨p,4,none⟩=some (.int .i64 pl))∧
 (w.frozen? ⟨p,1,none⟩=false∧w.frozen? ⟨p,2,none⟩=false∧w.frozen? ⟨p,3,none⟩=false∧w.frozen? ⟨p,4,none⟩=false):=by
 unfold parO at h
 simp [World.cell?,World.frozen?,h]
theorem TokAt.of_block {w w' : World} {g:Nat} {ts:List Tok} (h:TokAt w g ts) (hg:w'.heap[g]?=w.heap[g]?):TokAt w' g ts:=
 ⟨fun j hj=>(zad hg _).1.trans (h.t0 j hj),fun j hj=>(zad hg _).1.trans (h.t1 j hj),fun j hj=>(zad hg _).1.trans (h.t2 j hj),fun j hj=>(zad hg _).1.trans (h.t3 j hj)⟩
theorem DP.of_blocks {w w' : World} {p g cap:Nat} {ts:List Tok} {i:Nat} {d e:Int} {pl:Nat} (h:DP w p g cap ts i d e pl) (hp:w'.heap[p]?=w.heap[p]?) (hg:w'.heap[g]?=w.heap[g]?):DP w' p g cap ts i d e pl:=
 ⟨hp.trans h.blk,h.tok.of_block hg,h.il,h.ln,h.gp,by
  have h1:w.heap[g]?=some (w.heap[g]'h.gl):=Array.getElem?_eq_getElem h.gl
  exact ze0 (hg.trans h1)⟩
theorem DP.plt {w:World} {p g cap:Nat} {ts:List Tok} {i:Nat} {d e:Int} {pl:Nat} (h:DP w p g cap ts i d e pl):p<w.heap.size:=ze0 h.blk
theorem DP.below {w w' : World} {p g cap:Nat} {ts:List Tok} {i:Nat} {d e:Int} {pl:Nat} (h:DP w p g cap ts i d e pl) (hB:Below w.heap.size w w'):DP w' p g cap ts i d e pl:=h.of_blocks (hB.block p h.plt) (hB.block g h.gl)
theorem DP.alloc {w:World} {p g cap:Nat} {ts:List Tok} {i:Nat} {d e:Int} {pl:Nat} (h:DP w p g cap ts i d e pl) (x:Obj):DP (w.alloc x) p g cap ts i d e pl:=h.below (zac w x)
theorem DP.put {w w' : World} {p g cap:Nat} {ts:List Tok} {i:Nat} {d e:Int} {pl:Nat} (h:DP w p g cap ts i d e pl) {j:Nat} {d' e' : Int} {pl' : Nat} (hp:w'.heap[p]?=some (parO g ts.length cap j d' e' pl')) (hg:w'.heap[g]?=w.heap[g]?) (hj:j<ts.length):DP w' p g cap ts j d' e' pl':=
 ⟨hp,h.tok.of_block hg,hj,h.ln,h.gp,by
  have h1:w.heap[g]?=some (w.heap[g]'h.gl):=Array.getElem?_eq_getElem h.gl
  exact ze0 (hg.trans h1)⟩
/-- where the document's parser is -/
def DS (w:World) (p g cap:Nat) (ts:List Tok) (d:Int) (s:RS):Prop:=∃ i,s.ts=ts.drop i∧DP w p g cap ts i d s.e s.pl
def zdj {α:Type} (p g cap:Nat) (ts:List Tok) (d:Int) (val:α->World->Value->Prop) (r:α × RS) (w:World) (e:Ending) (w' : World):Prop:=
 ∃ v,e=.returned v∧val r.1 w' v∧DS w' p g cap ts d r.2∧Sole p w w'
theorem DS.below {w w' : World} {p g cap:Nat} {ts:List Tok} {d:Int} {s:RS} (h:DS w p g cap ts d s) (hB:Below w.heap.size w w'):DS w' p g cap ts d s:=by
 obtain ⟨i,h1,h2⟩:=h
 exact ⟨i,h1,h2.below hB⟩
theorem hd_at {ts:List Tok} {i:Nat} (h:i<ts.length) (e:Int) (pl:Nat):(⟨ts.drop i,e,pl⟩:RS).hd=ts[i]:=by
 unfold RS.hd
 rw [List.drop_eq_getElem_cons h]
 rfl
theorem Sole.drew (p:Nat) (w:World) (k:Nat):Sole p w (w.drewN k):=⟨rfl,rfl,rfl,Nat.le_refl _,fun _ _ _=>rfl⟩
set_option maxRecDepth 4000 in
theorem fail_yes (p g cap n i:Nat) (d pl x:Int) (a:Nat) (w:World) (hb:w.heap[p]?=some (parO g n cap i d 0 pl)) (hi:(i:Int)<n) (hgp:g≠p) (t3' : w.cell? ⟨g,i*4+3,none⟩=some (.int .i64 a)):
 Calls Tryz.prog 29 #[.pointer (some ⟨p,0,none⟩),.int .i64 x] w fun e w'=>e=.returned (.tuple #[])∧w'.heap[p]?=some (parO g n cap i d x a)∧Sole p w w':=by
 have hE:Hid (∀ k,(((w.setCell ⟨p,3,none⟩ (.int .i64 x)).drewN k).setCell ⟨p,4,none⟩ (.int .i64 a)).heap[p]?=some (parO g n cap i d x a)∧Sole p w (((w.setCell ⟨p,3,none⟩ (.int .i64 x)).drewN k).setCell ⟨p,4,none⟩ (.int .i64 a))):=fun k=>
  ⟨zai (zai hb),((Sole.setCell w 3 (.int .i64 x)).trans (Sole.drew p _ k)).trans (Sole.setCell _ 4 _)⟩
 obtain ⟨⟨c0,c1,c2,c3,c4⟩,f1,f2,f3,f4⟩:=zb2 hb
 obtain ⟨wa,hwa⟩:∃ wa,w.setCell ⟨p,3,none⟩ (.int .i64 x)=wa:=⟨_,rfl⟩
 have d0:wa.cell? ⟨p,0,none⟩=some (.slice (some ⟨g,0,none⟩) n cap):=by rw [<- hwa,World.cell?_setCell_other _ _ _ _ (by simp)];exact c0
 have d1:wa.cell? ⟨p,1,none⟩=some (.int .i64 i):=by rw [<- hwa,World.cell?_setCell_other _ _ _ _ (by simp)];exact c1
 have d4:wa.cell? ⟨p,4,none⟩=some (.int .i64 pl):=by rw [<- hwa,World.cell?_setCell_other _ _ _ _ (by simp)];exact c4
 have e4:wa.frozen? ⟨p,4,none⟩=false:=by rw [<- hwa,World.frozen?_setCell];exact f4
 have t3:wa.cell? ⟨g,i*4+3,none⟩=some (.int .i64 a):=by rw [<- hwa,World.cell?_setCell_other _ _ _ _ (by simp)];exact t3'
 clear c0 c1 c2 c4 f1 f2 f4 t3' hgp hb
 go_enter Tryz.func29,Tryz.ntmps29
 go_wp2_with fail
 rw [hwa] at hE
 clear hwa
 go_region
 all_goals (
  go_wp2
  first | go_end0 | refine bodyPost_ret (results_none rfl _ _ _) rfl ?_
  exact ⟨rfl,hE.out _⟩)
theorem fail_no (p:Nat) (x e:Int) (w:World) (c3:w.cell? ⟨p,3,none⟩=some (.int .i64 e)) (he:(e==0)=false):
 Calls Tryz.prog 29 #[.pointer (some ⟨p,0,none⟩),.int .i64 x] w fun e w'=>e=.returned (.tuple #[])∧w'=w:=by
 go_enter Tryz.func29,Tryz.ntmps29
 go_wp2
 first | go_end0 | refine bodyPost_ret (results_none rfl _ _ _) rfl ?_
 exact ⟨rfl,rfl⟩
set_option maxRecDepth 4000 in
theorem is_core (p g cap n i:Nat) (e k m:Int) (s x:ByteArray) (a:Nat) (b1 b2 b3 b4:Bool) (w:World) (hp:p<w.heap.size) (hg:g<w.heap.size) (c0' : w.cell? ⟨p,0,none⟩=some (.slice (some ⟨g,0,none⟩) n cap)) (c1' : w.cell? ⟨p,1,none⟩=some (.int .i64 i)) (c3' : w.cell? ⟨p,3,none⟩=some (.int .i64 e)) (hi:(i:Int)<n)
 (t0' : w.cell? ⟨g,i*4,none⟩=some (.int .i64 k)) (t1' : w.cell? ⟨g,i*4+1,none⟩=some (.string s)) (t2' : w.cell? ⟨g,i*4+2,none⟩=some (.int .i64 m)) (t3' : w.cell? ⟨g,i*4+3,none⟩=some (.int .i64 a))
 (h1:(e==0)=b1) (h2:(s.toList==x.toList)=b2) (h3:(k==4)=b3) (h4:(k==2)=b4):
 Calls Tryz.prog 45 #[.pointer (some ⟨p,0,none⟩),.string x] w fun e w'=>e=.returned (.bool (b1&&(b2&&(b3||b4))))∧Below w.heap.size w w':=by
 have c3:∀ x,(w.alloc x).cell? ⟨p,3,none⟩=some (.int .i64 e):=fun x=>by rw [World.cell?_alloc_lt _ _ _ hp];exact c3'
 have HB:Hid (∀ x k,Below w.heap.size w ((w.alloc x).drewN k)):=fun x k=>zaj (zac w x) k
 cases b1
 · go_enter Tryz.func45,Tryz.ntmps45
   go_wp2_with fail
   go_region
   all_goals (
    go_wp2
    go_ret
    exact ⟨rfl,HB.out _ 1⟩)
 cases b2
 · go_enter Tryz.func45,Tryz.ntmps45
   go_wp2_with fail
   go_region
   all_goals (
    go_wp2
    go_ret
    exact ⟨rfl,HB.out _ 1⟩)
 cases b3
 · go_enter Tryz.func45,Tryz.ntmps45
   go_wp2_with fail
   go_region
   all_goals (
    go_wp2
    go_ret
    exact ⟨rfl,HB.out _ 1⟩)
 · go_enter Tryz.func45,Tryz.ntmps45
   go_wp2_with fail
   go_region
   all_goals (
    go_wp2
    go_ret
    exact ⟨rfl,HB.out _ 1⟩)
theorem DS.plt {w:World} {p g cap:Nat} {ts:List Tok} {d:Int} {s:RS} (h:DS w p g cap ts d s):p<w.heap.size:=by
 obtain ⟨i,_,h2⟩:=h
 exact h2.plt
theorem DS.glt {w:World} {p g cap:Nat} {ts:List Tok} {d:Int} {s:RS} (h:DS w p g cap ts d s):g<w.heap.size:=by
 obtain ⟨i,_,h2⟩:=h
 exact h2.gl
theorem DS.at_ {w:World} {p g cap:Nat} {ts:List Tok} {d:Int} {s:RS} (h:DS w p g cap ts d s):∃ i,∃ hi:i<ts.length,DP w p g cap ts i d s.e s.pl∧s.hd=ts[i]∧s.ts=ts.drop i:=by
 obtain ⟨i,h1,h2⟩:=h
 refine ⟨i,h2.il,h2,?_,h1⟩
 obtain ⟨a,b,c⟩:=s
 simp only at h1
 subst h1
 exact hd_at h2.il b c
theorem DS.advance {w w' : World} {p g cap:Nat} {ts:List Tok} {d:Int} {s:RS} {i:Nat} (hE:Ends ts) (h:DP w p g cap ts i d s.e s.pl) (hs:s.ts=ts.drop i) (hk:s.hd.kind≠5∨s.hd.text≠[]) (hp:w'.heap[p]?=some (parO g ts.length cap (i+1) d s.e s.pl)) (hg:w'.heap[g]?=w.heap[g]?):DS w' p g cap ts d s.adv:=by
 have hh:s.hd=ts[i]'h.il:=by
  obtain ⟨a,b,c⟩:=s
  simp only at hs
  subst hs
  exact hd_at h.il b c
 have hi:i+1<ts.length:=by
  rcases hk with hk|hk
  · exact hE.kind h.il (by rw [<- hh];exact hk)
  · exact hE.text h.il (by rw [<- hh];exact hk)
 exact ⟨i+1,by unfold RS.adv;rw [hs,List.tail_drop],h.put hp hg hi⟩
theorem zbu (p g cap:Nat) (ts:List Tok) (d x:Int) (s:RS) (w:World) (h:DS w p g cap ts d s):
 Calls Tryz.prog 29 #[.pointer (some ⟨p,0,none⟩),.int .i64 x] w fun e w'=>e=.returned (.tuple #[])∧DS w' p g cap ts d (s.fail x)∧Sole p w w':=by
 obtain ⟨i,hi,h1,hh,hs⟩:=h.at_
 by_cases he:s.e=0
 · rw [he] at h1
   refine (fail_yes p g cap ts.length i d s.pl x (ts[i].at_) w h1.blk (by omega) h1.gp (h1.tok.t3 i hi)).mono ?_
   rintro e w' ⟨rfl,hb,hS⟩
   refine ⟨rfl,⟨i,?_,?_⟩,hS⟩
   · unfold RS.fail;rw [if_pos he];exact hs
   · unfold RS.fail;rw [if_pos he,hh];exact h1.put hb (hS.block g h1.gl h1.gp) hi
 · refine (fail_no p x s.e w (zb2 h1.blk).1.2.2.2.1 (by simp [he])).mono ?_
   rintro e w' ⟨rfl,rfl⟩
   refine ⟨rfl,?_,Sole.refl _ _⟩
   unfold RS.fail;rw [if_neg he];exact h
theorem zea (p g cap:Nat) (ts:List Tok) (d:Int) (x:List UInt8) (s:RS) (w:World) (h:DS w p g cap ts d s):
 Calls Tryz.prog 45 #[.pointer (some ⟨p,0,none⟩),.string ⟨x.toArray⟩] w fun e w'=>e=.returned (.bool (s.is x))∧Below w.heap.size w w':=by
 obtain ⟨i,hi,h1,hh,hs⟩:=h.at_
 obtain ⟨⟨c0,c1,_,c3,_⟩,_⟩:=zb2 h1.blk
 unfold RS.is
 rw [hh]
 exact is_core p g cap ts.length i s.e ts[i].kind ts[i].num ⟨ts[i].text.toArray⟩ ⟨x.toArray⟩ ts[i].at_ _ _ _ _ w h1.plt h1.gl c0 c1 c3 (by omega) (h1.tok.t0 i hi) (h1.tok.t1 i hi) (h1.tok.t2 i hi) (h1.tok.t3 i hi) rfl (by rw [ByteArray.toList_mk,ByteArray.toList_mk]) rfl rfl
theorem is_hd {s:RS} {x:List UInt8} (h:s.is x=true):s.e=0∧s.hd.text=x∧(s.hd.kind=4∨s.hd.kind=2):=by
 unfold RS.is at h
 simpa using h
theorem may_no (p:Nat) (x:ByteArray) (w:World) (H:Hid (Calls Tryz.prog 45 #[.pointer (some ⟨p,0,none⟩),.string x] w fun e w'=>e=.returned (.bool false)∧Below w.heap.size w w')):
 Calls Tryz.prog 48 #[.pointer (some ⟨p,0,none⟩),.string x] w fun e w'=>e=.returned (.bool false)∧Below w.heap.size w w':=by
 go_enter Tryz.func48,Tryz.ntmps48
 go_wp2_with fail
 refine H.out.mono ?_
 rintro e w1 ⟨rfl,hB⟩
 have HB:=hid hB
 clear hB
 go_wp2
 go_ret
 exact ⟨rfl,HB.out⟩
theorem may_yes (p i:Nat) (x:ByteArray) (w:World) (hi:(i:Int)<=16001) (HC:Hid (∀ w1,Below w.heap.size w w1->w1.cell? ⟨p,1,none⟩=some (.int .i64 i)∧w1.frozen? ⟨p,1,none⟩=false)) (H:Hid (Calls Tryz.prog 45 #[.pointer (some ⟨p,0,none⟩),.string x] w fun e w'=>e=.returned (.bool true)∧Below w.heap.size w w')):
 Calls Tryz.prog 48 #[.pointer (some ⟨p,0,none⟩),.string x] w fun e w'=>e=.returned (.bool true)∧∃ w1,Below w.heap.size w w1∧w'=w1.setCell ⟨p,1,none⟩ (.int .i64 ((i:Int)+1)):=by
 go_enter Tryz.func48,Tryz.ntmps48
 go_wp2_with fail
 refine H.out.mono ?_
 rintro e w1 ⟨rfl,hB⟩
 obtain ⟨c1,f1⟩:=HC.out w1 hB
 have HB:=hid hB
 clear hB
 go_wp2
 go_ret
 exact ⟨rfl,w1,HB.out,rfl⟩
theorem adv_blk {w1 : World} {p g n cap i:Nat} {d e pl:Int} (h:w1.heap[p]?=some (parO g n cap i d e pl)):(w1.setCell ⟨p,1,none⟩ (.int .i64 ((i:Int)+1))).heap[p]?=some (parO g n cap (i+1) d e pl):=zai h
theorem DS.step {w w1 : World} {p g cap:Nat} {ts:List Tok} {d:Int} {s:RS} {i:Nat} (hE:Ends ts) (h:DP w p g cap ts i d s.e s.pl) (hs:s.ts=ts.drop i) (hk:s.hd.kind≠5∨s.hd.text≠[]) (hB:Sole p w w1) (hp:w1.heap[p]?=w.heap[p]?):DS (w1.setCell ⟨p,1,none⟩ (.int .i64 ((i:Int)+1))) p g cap ts d s.adv∧Sole p w (w1.setCell ⟨p,1,none⟩ (.int .i64 ((i:Int)+1))):=
 ⟨DS.advance hE h hs hk (adv_blk (hp.trans h.blk)) ((Sole.setCell w1 1 _).block g (Nat.lt_of_lt_of_le h.gl hB.size) h.gp |>.trans (hB.block g h.gl h.gp)),hB.trans (Sole.setCell w1 1 _)⟩
/-- what may leaves -/
def RS.may (s:RS) (x:List UInt8):RS:=if s.is x then s.adv else s
theorem zch (p g cap:Nat) (ts:List Tok) (hE:Ends ts) (d:Int) (x:List UInt8) (hx:x≠[]) (s:RS) (w:World) (h:DS w p g cap ts d s):
 Calls Tryz.prog 48 #[.pointer (some ⟨p,0,none⟩),.string ⟨x.toArray⟩] w fun e w'=>e=.returned (.bool (s.is x))∧DS w' p g cap ts d (s.may x)∧Sole p w w':=by
 have hI:=zea p g cap ts d x s w h
 unfold RS.may
 cases hb:s.is x with
 | false=>
  rw [hb] at hI
  refine (may_no p _ w hI).mono ?_
  rintro e w' ⟨rfl,hB⟩
  exact ⟨rfl,h.below hB,Sole.of_below hB⟩
 | true=>
  rw [hb] at hI
  obtain ⟨i,hi,h1,hh,hs⟩:=h.at_
  refine (may_yes p i _ w (by have:=h1.ln;omega) (fun w1 hB=>⟨(zad (hB.block p h1.plt) 1).1.trans (zb2 h1.blk).1.2.1,(zad (hB.block p h1.plt) 1).2.trans (zb2 h1.blk).2.1⟩) hI).mono ?_
  rintro e w' ⟨rfl,w1,hB,rfl⟩
  exact ⟨rfl,DS.step hE h1 hs (Or.inr (by rw [(is_hd hb).2.1];exact hx)) (Sole.of_below hB) (hB.block p h1.plt)⟩
def WPost (b:Bool) (Z:World->Prop) (Q:World->World->Prop) (w' : World):Prop:=(b=true∧Z w')∨(b=false∧∃ w1,Z w1∧Q w1 w')
theorem want_core (p:Nat) (b:Bool) (x:ByteArray) (w:World) (Q:World->World->Prop) (Z:World->Prop) (H:Hid (Calls Tryz.prog 48 #[.pointer (some ⟨p,0,none⟩),.string x] w fun e w'=>e=.returned (.bool b)∧Z w')) (HF:Hid (∀ w1,Z w1->Calls Tryz.prog 29 #[.pointer (some ⟨p,0,none⟩),.int .i64 40] w1 fun e w'=>e=.returned (.tuple #[])∧Q w1 w')):
 Calls Tryz.prog 49 #[.pointer (some ⟨p,0,none⟩),.string x] w fun e w'=>e=.returned (.tuple #[])∧WPost b Z Q w':=by
 go_enter Tryz.func49,Tryz.ntmps49
 go_wp2_with fail
 refine H.out.mono ?_
 rintro e w1 ⟨rfl,hZ⟩
 have HZ:=hid hZ
 clear hZ
 cases b
 · go_wp2_with fail
   refine (HF.out _ HZ.out).mono ?_
   rintro e w2 ⟨rfl,hQ⟩
   have HQ:=hid hQ
   clear hQ
   go_wp2
   first | go_end0 | refine bodyPost_ret (results_none rfl _ _ _) rfl ?_
   exact ⟨rfl,Or.inr ⟨rfl,w1,HZ.out,HQ.out⟩⟩
 · go_wp2
   first | go_end0 | refine bodyPost_ret (results_none rfl _ _ _) rfl ?_
   exact ⟨rfl,Or.inl ⟨rfl,HZ.out⟩⟩
theorem zan (p g cap:Nat) (ts:List Tok) (hE:Ends ts) (d:Int) (x:List UInt8) (hx:x≠[]) (s:RS) (w:World) (h:DS w p g cap ts d s):
 Calls Tryz.prog 49 #[.pointer (some ⟨p,0,none⟩),.string ⟨x.toArray⟩] w fun e w'=>e=.returned (.tuple #[])∧DS w' p g cap ts d (s.want x)∧Sole p w w':=by
 refine (want_core p (s.is x) _ w (fun w1 w'=>DS w' p g cap ts d ((s.may x).fail 40)∧Sole p w1 w') (fun w'=>DS w' p g cap ts d (s.may x)∧Sole p w w') (zch p g cap ts hE d x hx s w h) (fun w1 hz=>zbu p g cap ts d 40 (s.may x) w1 hz.1)).mono ?_
 rintro e w' ⟨rfl,⟨hb,h1,h2⟩|⟨hb,w1,⟨h1,h2⟩,h3,h4⟩⟩
 · refine ⟨rfl,?_,h2⟩
   unfold RS.want;unfold RS.may at h1;rw [hb] at h1 ⊢;exact h1
 · refine ⟨rfl,?_,h2.trans h4⟩
   unfold RS.want;unfold RS.may at h3;rw [hb] at h3 ⊢;exact h3
theorem DS.drew {w:World} {p g cap:Nat} {ts:List Tok} {d:Int} {s:RS} (h:DS w p g cap ts d s) (k:Nat):DS (w.drewN k) p g cap ts d s:=by
 obtain ⟨i,h1,h2⟩:=h
 exact ⟨i,h1,h2.of_blocks rfl rfl⟩
/-- the cells that a look at the next token wants, in a world that has grown -/
structure Look (w:World) (p g cap n i:Nat) (e k m:Int) (s:ByteArray) (a:Nat):Prop where
 hp:p<w.heap.size
 hg:g<w.heap.size
 hi:(i:Int)<n
 c0:w.cell? ⟨p,0,none⟩=some (.slice (some ⟨g,0,none⟩) n cap)
 c1:w.cell? ⟨p,1,none⟩=some (.int .i64 i)
 c3:w.cell? ⟨p,3,none⟩=some (.int .i64 e)
 t0:w.cell? ⟨g,i*4,none⟩=some (.int .i64 k)
 t1:w.cell? ⟨g,i*4+1,none⟩=some (.string s)
 t2:w.cell? ⟨g,i*4+2,none⟩=some (.int .i64 m)
 t3:w.cell? ⟨g,i*4+3,none⟩=some (.int .i64 a)
 f1:w.frozen? ⟨p,1,none⟩=false
theorem Look.alloc {w:World} {p g cap n i:Nat} {e k m:Int} {s:ByteArray} {a:Nat} (h:Look w p g cap n i e k m s a) (x:Obj):Look (w.alloc x) p g cap n i e k m s a:=
 ⟨by have:=h.hp;simp;omega,by have:=h.hg;simp;omega,h.hi,by rw [World.cell?_alloc_lt _ _ _ h.hp];exact h.c0,by rw [World.cell?_alloc_lt _ _ _ h.hp];exact h.c1,by rw [World.cell?_alloc_lt _ _ _ h.hp];exact h.c3,
  by rw [World.cell?_alloc_lt _ _ _ h.hg];exact h.t0,by rw [World.cell?_alloc_lt _ _ _ h.hg];exact h.t1,by rw [World.cell?_alloc_lt _ _ _ h.hg];exact h.t2,by rw [World.cell?_alloc_lt _ _ _ h.hg];exact h.t3,by rw [World.frozen?_alloc_old _ _ _ (Nat.ne_of_lt h.hp)];exact h.f1⟩
theorem DP.look {w:World} {p g cap:Nat} {ts:List Tok} {i:Nat} {d e:Int} {pl:Nat} (h:DP w p g cap ts i d e pl) (hi:i<ts.length):Look w p g cap ts.length i e (ts[i]'hi).kind (ts[i]'hi).num ⟨(ts[i]'hi).text.toArray⟩ (ts[i]'hi).at_:=by
 obtain ⟨⟨c0,c1,_,c3,_⟩,f1,_⟩:=zb2 h.blk
 exact ⟨h.plt,h.gl,by have:=h.il;omega,c0,c1,c3,h.tok.t0 i h.il,h.tok.t1 i h.il,h.tok.t2 i h.il,h.tok.t3 i h.il,f1⟩
set_option maxRecDepth 4000 in
theorem name_no (p g cap n i:Nat) (e k m:Int) (s:ByteArray) (a:Nat) (b1 b2:Bool) (w:World) (Q:World->Prop) (hl:Look w p g cap n i e k m s a) (h1:(e==0)=b1) (h2:(k==1)=b2) (hb:(b1&&b2)=false)
 (HF:Hid (∀ w1,Below w.heap.size w w1->Calls Tryz.prog 29 #[.pointer (some ⟨p,0,none⟩),.int .i64 40] w1 fun e w'=>e=.returned (.tuple #[])∧Q w')):
 Calls Tryz.prog 46 #[.pointer (some ⟨p,0,none⟩)] w fun e w'=>e=.returned (.tuple #[.string ⟨#[]⟩,.int .i64 0])∧Q w':=by
 obtain ⟨hp,hg,hi,c0,c1,c3',t0,t1,t2,t3,_⟩:=hl
 have c3:∀ x,(w.alloc x).cell? ⟨p,3,none⟩=some (.int .i64 e):=fun x=>by rw [World.cell?_alloc_lt _ _ _ hp];exact c3'
 have HB:Hid (∀ x k,Below w.heap.size w ((w.alloc x).drewN k)):=fun x k=>zaj (zac w x) k
 cases b1
 · clear hb
   have he:¬ e=0:=by simpa using h1
   go_enter Tryz.func46,Tryz.ntmps46
   go_wp2_with fail
   go_region
   all_goals (
    go_wp2_with fail
    refine (HF.out _ (HB.out _ 1)).mono ?_
    rintro e w2 ⟨rfl,hQ⟩
    have HQ:=hid hQ
    clear hQ
    go_wp2
    go_ret2
    exact ⟨rfl,HQ.out⟩)
 · obtain rfl:b2=false:=hb
   have hk:¬ k=1:=by simpa using h2
   obtain rfl:e=0:=by simpa using h1
   go_enter Tryz.func46,Tryz.ntmps46
   go_wp2_with fail
   go_region
   all_goals (
    go_wp2_with fail
    refine (HF.out _ (HB.out _ 1)).mono ?_
    rintro e w2 ⟨rfl,hQ⟩
    have HQ:=hid hQ
    clear hQ
    go_wp2
    go_ret2
    exact ⟨rfl,HQ.out⟩)
set_option maxRecDepth 4000 in
theorem name_yes (p g cap n i:Nat) (m:Int) (s:ByteArray) (a:Nat) (w:World) (Q:World->Prop) (hl:Look w p g cap n i 0 1 m s a) (hm:(i:Int)<=16001)
 (HQ:Hid (∀ x k,Q (((w.setCell ⟨p,1,none⟩ (.int .i64 ((i:Int)+1))).alloc x).drewN k))):
 Calls Tryz.prog 46 #[.pointer (some ⟨p,0,none⟩)] w fun e w'=>e=.returned (.tuple #[.string s,.int .i64 a])∧Q w':=by
 obtain ⟨hp,hg,hi,c0,c1',c3',t0,t1,t2,t3,f1'⟩:=hl
 have c3:∀ x,(w.alloc x).cell? ⟨p,3,none⟩=some (.int .i64 0):=fun x=>by rw [World.cell?_alloc_lt _ _ _ hp];exact c3'
 have c1:∀ x,(w.alloc x).cell? ⟨p,1,none⟩=some (.int .i64 i):=fun x=>by rw [World.cell?_alloc_lt _ _ _ hp];exact c1'
 have f1:∀ x,(w.alloc x).frozen? ⟨p,1,none⟩=false:=fun x=>by rw [World.frozen?_alloc_old _ _ _ (Nat.ne_of_lt hp)];exact f1'
 have hne:¬ p=w.heap.size:=by omega
 have hne2:¬ w.heap.size=p:=by omega
 go_enter Tryz.func46,Tryz.ntmps46
 go_wp2_with fail
 go_region
 all_goals (
  go_wp2_with fail
  go_region
  all_goals (
   go_wp2
   go_ret2
   exact ⟨rfl,HQ.out _ 2⟩))
def nameIs (n:List UInt8 × Nat) (_:World) (v:Value):Prop:=v=.tuple #[.string ⟨n.1.toArray⟩,.int .i64 n.2]
theorem Sole.grow {p:Nat} (w:World) (x:Obj) (k:Nat):Sole p w ((w.alloc x).drewN k):=Sole.of_below (zaj (zac w x) k)
theorem DS.stepN {w:World} {p g cap:Nat} {ts:List Tok} {d:Int} {s:RS} {i:Nat} (hE:Ends ts) (h:DP w p g cap ts i d s.e s.pl) (hs:s.ts=ts.drop i) (hk:s.hd.kind≠5∨s.hd.text≠[]) (x:Obj) (j:Nat):DS (((w.setCell ⟨p,1,none⟩ (.int .i64 ((i:Int)+1))).alloc x).drewN j) p g cap ts d s.adv∧Sole p w (((w.setCell ⟨p,1,none⟩ (.int .i64 ((i:Int)+1))).alloc x).drewN j):=by
 have h1:=DS.step hE h hs hk (Sole.refl p w) rfl
 exact ⟨(h1.1.below (zac _ x)).drew j,h1.2.trans (Sole.grow _ x j)⟩
theorem zcm (p g cap:Nat) (ts:List Tok) (hE:Ends ts) (d:Int) (s:RS) (w:World) (h:DS w p g cap ts d s):
 Calls Tryz.prog 46 #[.pointer (some ⟨p,0,none⟩)] w (zdj p g cap ts d nameIs (zaz s) w):=by
 obtain ⟨i,hi,h1,hh,hs⟩:=h.at_
 have hl:=h1.look hi
 unfold zaz
 cases hb:(s.e==0&&s.hd.kind==1) with
 | false=>
  rw [hh] at hb
  refine (name_no p g cap ts.length i s.e _ _ _ _ _ _ w (fun w'=>DS w' p g cap ts d (s.fail 40)∧Sole p w w') hl rfl rfl hb (fun w1 hB=>(zbu p g cap ts d 40 s w1 (h.below hB)).mono ?_)).mono ?_
  · rintro e w' ⟨rfl,h2,h3⟩
    exact ⟨rfl,h2,(Sole.of_below hB).trans h3⟩
  · rintro e w' ⟨rfl,h2,h3⟩
    exact ⟨_,rfl,rfl,h2,h3⟩
 | true=>
  rw [Bool.and_eq_true,beq_iff_eq,beq_iff_eq] at hb
  have hk:s.hd.kind≠5∨s.hd.text≠[]:=Or.inl (by rw [hb.2];decide)
  rw [hb.1,show (ts[i]'hi).kind=1 by rw [<- hh];exact hb.2] at hl
  refine (name_yes p g cap ts.length i _ _ _ w (fun w'=>DS w' p g cap ts d s.adv∧Sole p w w') hl (by have:=h1.ln;omega) (fun x j=>DS.stepN hE h1 hs hk x j)).mono ?_
  rintro e w' ⟨rfl,h2,h3⟩
  refine ⟨_,rfl,?_,h2,h3⟩
  show _=_
  rw [hh];rfl
end Go.Proofs.YtighggeokiahfaaGreatDoor.Dm
