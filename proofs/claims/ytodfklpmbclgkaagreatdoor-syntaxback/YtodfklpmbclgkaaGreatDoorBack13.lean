import Derived.Test.YtodfklpmbclgkaaGreatDoorBack12
import Derived.Test.YtodfklpmbclgkaaGreatDoorBack11
namespace Go.Proofs.YtodfklpmbclgkaaGreatDoor
open Go.RowKit
/-- what Print answers -/
def zen (R:Option (List UInt8)) (w:World) (e:Ending) (w' : World):Prop :=
 (match R with
 | some x=>e=.returned (.tuple #[.string ⟨x.toArray⟩,.int .i64 0])
 | none=>e=.returned (.tuple #[.string ⟨#[]⟩,.int .i64 43]))∧Below w.heap.size w w'
theorem Kept.to_below {p:Nat} {v v' : Value} {w wp w' : World} {txt:List UInt8} {d:Int} (hB:Below w.heap.size w wp) (hp:w.heap.size<=p) (hP:PR wp p txt d v) (hS:Lx.Kept p v v' wp w'):Below w.heap.size w w' :=
 ⟨hS.os.trans hB.os,hS.tape.trans hB.tape,hS.output.trans hB.output,Nat.le_trans hB.size hS.size,fun b hb=>(hS.block b (Nat.lt_of_lt_of_le hb hB.size) (by omega) (own_ge hP.own b (by omega))).trans (hB.block b hb)⟩
theorem PR.made (w:World):PR (w.alloc (.cells #[.slice none 0 0,.int .i64 0] 68)) w.heap.size [] 0 (.slice none 0 0):=by
 have hb:(w.alloc (.cells #[.slice none 0 0,.int .i64 0] 68)).heap[w.heap.size]?=some (.cells #[.slice none 0 0,.int .i64 0] 68 (0,0)):=heap_alloc_new _ _
 refine ⟨?_,?_,?_,?_,World.ownsRow_nil _ _ _ _⟩
 · unfold World.cell?;simp only [hb];rfl
 · unfold World.cell?;simp only [hb];rfl
 · unfold World.frozen?;simp only [hb];rfl
 · unfold World.frozen?;simp only [hb];rfl
set_option maxHeartbeats 2000000 in
set_option maxRecDepth 4000 in
theorem zli (k:Int) (n:List UInt8) (m a:Int) (o:Option Addr) (L c:Nat) (R:Option (List UInt8)) (w:World)
 (hsrc:∀ w1 p,w.heap.size<=p->Below w.heap.size w w1->PR w1 p [] 0 (.slice none 0 0)->Calls Tryz.prog 36 #[.pointer (some ⟨p,0,none⟩),zaj k n m a (.slice o L c)] w1 (zbp p 0 (.slice none 0 0) R w1)) :
 Calls Tryz.prog 20 #[zaj k n m a (.slice o L c)] w (zen R w):=by
 have hmf:∀ (fn:Fn) (first cap:Array Value) (w:World),(Instr.makeFunc fn first cap).run Tryz.prog w=.ok (.func fn first cap) w:=fun _ _ _ _=>rfl
 have HSRC:=hid hsrc
 clear hsrc
 obtain ⟨wa1,hwa1⟩:∃ x,w.alloc (.cells #[.int .i64 k,.string ⟨n.toArray⟩,.int .i64 m,.int .i64 a,.slice o L c] 29)=x:=⟨_,rfl⟩
 obtain ⟨wa2,hwa2⟩:∃ x,wa1.alloc (.cells #[.string ⟨#[]⟩] 9)=x:=⟨_,rfl⟩
 obtain ⟨wa3,hwa3⟩:∃ x,wa2.alloc (.cells #[.int .i64 0] 30)=x:=⟨_,rfl⟩
 obtain ⟨wp,hwp⟩:∃ x,wa3.alloc (.cells #[.slice none 0 0,.int .i64 0] 68)=x:=⟨_,rfl⟩
 have b1:Below w.heap.size w wa1:=by rw [<- hwa1];exact zad _ _
 have b2:Below w.heap.size w wa2:=by rw [<- hwa2];exact b1.alloc b1.size _
 have b3:Below w.heap.size w wa3:=by rw [<- hwa3];exact b2.alloc b2.size _
 have bp:Below w.heap.size w wp:=by rw [<- hwp];exact b3.alloc b3.size _
 have kt:wp.heap[w.heap.size]?=some (za2 k n m a (.slice o L c)):=by rw [<- hwp,<- hwa3,<- hwa2,<- hwa1];exact zc0 (zc0 (zc0 (heap_alloc_new _ _)))
 have ks:wp.heap[wa1.heap.size]?=some (strO []):=by rw [<- hwp,<- hwa3,<- hwa2];exact zc0 (zc0 (heap_alloc_new _ _))
 have ke:wp.heap[wa2.heap.size]?=some (oneO 0 30):=by rw [<- hwp,<- hwa3];exact zc0 (heap_alloc_new _ _)
 have HLT:Hid (w.heap.size<wa1.heap.size∧wa1.heap.size<wa2.heap.size∧wa2.heap.size<wa3.heap.size∧wa3.heap.size<wp.heap.size):=⟨by rw [<- hwa1];simp,by rw [<- hwa2];simp,by rw [<- hwa3];simp,by rw [<- hwp];simp⟩
 have HP:Hid (PR wp wa3.heap.size [] 0 (.slice none 0 0)∧Below w.heap.size w wp):=⟨by rw [<- hwp];exact PR.made wa3,bp⟩
 have HK:=hid2 ks ke
 obtain ⟨⟨z0,z1,z2,z3,z4⟩,_⟩:=zab kt
 have m1:¬ wa1.heap.size=wa2.heap.size:=by have:=HLT.out;omega
 have m2:¬ wa2.heap.size=wa1.heap.size:=by have:=HLT.out;omega
 clear b1 b2 b3 bp kt ks ke
 unfold zaj at HSRC ⊢
 go_enter_defers Tryz.func20,Tryz.ntmps20
 go_wp2_with fail
 refine (HSRC.out wp wa3.heap.size (by have:=HLT.out;omega) HP.out.2 HP.out.1).mono ?_
 clear hwa1 hwa2 hwa3 hwp
 rintro e w9 ⟨v9,hk,hQ⟩
 have hlt:=HLT.out
 have hB9:Below w.heap.size w w9:=Kept.to_below HP.out.2 (by omega) HP.out.1 hk
 have k1:w9.heap[wa1.heap.size]?=some (strO []):=(hk.block _ (zep HK.out.1) (by omega) (by simp [Value.ownBlock])).trans HK.out.1
 have k2:w9.heap[wa2.heap.size]?=some (oneO 0 30):=(hk.block _ (zep HK.out.2) (by omega) (by simp [Value.ownBlock])).trans HK.out.2
 have HK9:=hid3 k1 k2 hB9
 clear hk hB9 hlt
 rcases hQ with ⟨x,hx1,hx2,rfl,hPR⟩|⟨hx1,he⟩
 · subst hx1
   have hcv:=conv_text hPR
   have HP9:=hid hPR
   have c0:=hPR.c0
   obtain ⟨s0,f0⟩:=zil k1
   obtain ⟨e0,g0⟩:=zb2 k2
   obtain ⟨o9,c9,hv9⟩:=Lx.own_form hPR.own
   subst hv9
   clear hPR k1 k2 hx2
   go_wp2
   have hlt:=HLT.out
   have hz1:((w9.setCell ⟨wa1.heap.size,0,none⟩ (.string ⟨x.toArray⟩)).setCell ⟨wa2.heap.size,0,none⟩ (.int .i64 0)).heap[wa1.heap.size]?=some (strO x):=(Below.heap_setCell _ _ _ _ m1).trans (zav HK9.out.1)
   have hz2:((w9.setCell ⟨wa1.heap.size,0,none⟩ (.string ⟨x.toArray⟩)).setCell ⟨wa2.heap.size,0,none⟩ (.int .i64 0)).heap[wa2.heap.size]?=some (oneO 0 30):=zav ((Below.heap_setCell _ _ _ _ m2).trans HK9.out.2.1)
   have hbz:Below w.heap.size w ((w9.setCell ⟨wa1.heap.size,0,none⟩ (.string ⟨x.toArray⟩)).setCell ⟨wa2.heap.size,0,none⟩ (.int .i64 0)):=(HK9.out.2.2.setCell (p:=⟨wa1.heap.size,0,none⟩) (by show w.heap.size<=wa1.heap.size;omega) _).setCell (p:=⟨wa2.heap.size,0,none⟩) (by show w.heap.size<=wa2.heap.size;omega) _
   generalize ((w9.setCell ⟨wa1.heap.size,0,none⟩ (.string ⟨x.toArray⟩)).setCell ⟨wa2.heap.size,0,none⟩ (.int .i64 0))=wz at hz1 hz2 hbz ⊢
   have HZ:=hid3 hz1 hz2 hbz
   clear hz1 hz2 hbz hcv c0 s0 f0 e0 g0 hlt
   refine leaves_cons (f:=35) (args:=#[.pointer (some ⟨wa1.heap.size,0,none⟩),.pointer (some ⟨wa2.heap.size,0,none⟩)]) (by simp) (by simp [go_sem]) ?_
   refine (pcatch_idle wa1.heap.size wa2.heap.size wz).mono ?_
   rintro e u' wy ⟨rfl,rfl,hby⟩
   have hbw:Below w.heap.size w wy:=HZ.out.2.2.trans (hby.mono HZ.out.2.2.size)
   have q5:=(zil (za8 hby HZ.out.1)).1
   have q6:=(zb2 (za8 hby HZ.out.2.1)).1
   clear hby hmf
   simp [Leaves,settle,results,Tryz.results20,go_sem,q5,q6]
   exact ⟨rfl,hbw⟩
 · subst hx1
   unfold zaa at he
   subst he
   clear k1 k2
   go_wp2
   refine leaves_cons (f:=35) (args:=#[.pointer (some ⟨wa1.heap.size,0,none⟩),.pointer (some ⟨wa2.heap.size,0,none⟩)]) (by simp) (by simp [go_sem]) ?_
   refine (pcatch_fault wa1.heap.size wa2.heap.size 43 0 [] w9 [] 0 HK9.out.1 HK9.out.2.1 m1).mono ?_
   rintro e u' wz ⟨rfl,rfl,⟨hz1,hz2⟩,hf,h1,h2,h3,h4⟩
   have hlt:=HLT.out
   have HB9:=HK9.out.2.2
   have hbz:Below w.heap.size w wz:=⟨h1.trans HB9.os,h2.trans HB9.tape,h3.trans HB9.output,Nat.le_trans HB9.size h4,fun b hb=>(hf b (Nat.lt_of_lt_of_le hb HB9.size) (by omega) (by omega)).trans (HB9.block b hb)⟩
   have q5:=(zil hz1).1
   have q6:=(zb2 hz2).1
   clear hf h1 h2 h3 h4 hz1 hz2 hmf
   simp [Leaves,settle,results,Tryz.results20,go_sem,q5,q6]
   exact ⟨rfl,hbz⟩
theorem zd8 {B:Nat} {a w:World} (h:Below B a w) (k:Nat):Below B a (w.drewN k):=⟨h.os,h.tape,h.output,h.size,h.block⟩
def zbo (k k' : Int) (n n' : List UInt8) (m m' : Int) (L L' : Nat):Bool:=k==k'&&(n==n'&&(m==m'&&L==L'))
set_option maxHeartbeats 2000000 in
set_option maxRecDepth 4000 in
theorem zld (k:Int) (n:List UInt8) (m a:Int) (o:Option Addr) (L c:Nat) (k' : Int) (n' : List UInt8) (m' a' : Int) (o' : Option Addr) (L' c' : Nat) (w:World) (hL:L<=maxLen) (sm:Nat->Bool)
 (hkid:∀ j,j<L->L=L'->∃ g g',o=some ⟨g,0,none⟩∧o'=some ⟨g',0,none⟩∧∃ k1 n1 m1 a1 sl1 k2 n2 m2 a2 sl2,∀ w1,Below w.heap.size w w1->KidR w1 g j k1 n1 m1 a1 sl1∧KidR w1 g' j k2 n2 m2 a2 sl2∧Calls Tryz.prog 23 #[zaj k1 n1 m1 a1 sl1,zaj k2 n2 m2 a2 sl2] w1 (fun e w'=>e=.returned (.bool (sm j))∧Below w1.heap.size w1 w')) :
 Calls Tryz.prog 23 #[zaj k n m a (.slice o L c),zaj k' n' m' a' (.slice o' L' c')] w (fun e w'=>e=.returned (.bool (zbo k k' n n' m m' L L'&&(List.range L).all sm))∧Below w.heap.size w w'):=by
 have HKID:=hid hkid
 clear hkid
 have HLM:Hid (L<=9223372036854775807):=by unfold maxLen at hL;show L<=_;omega
 clear hL
 obtain ⟨R,hR⟩:∃ R,(zbo k k' n n' m m' L L'&&(List.range L).all sm)=R:=⟨_,rfl⟩
 rw [hR]
 have HR:=hid hR
 clear hR
 obtain ⟨wa,hwa⟩:∃ x,w.alloc (.cells #[.int .i64 k,.string ⟨n.toArray⟩,.int .i64 m,.int .i64 a,.slice o L c] 29)=x:=⟨_,rfl⟩
 obtain ⟨wb,hwb⟩:∃ x,wa.alloc (.cells #[.int .i64 k',.string ⟨n'.toArray⟩,.int .i64 m',.int .i64 a',.slice o' L' c'] 29)=x:=⟨_,rfl⟩
 have ba:Below w.heap.size w wa:=by rw [<- hwa];exact zad _ _
 have bb:Below w.heap.size w wb:=by rw [<- hwb];exact ba.alloc ba.size _
 have HB:=hid bb
 have kk:wb.heap[w.heap.size]?=some (za2 k n m a (.slice o L c)):=by rw [<- hwb,<- hwa];exact zc0 (heap_alloc_new _ _)
 have kk' : wb.heap[wa.heap.size]?=some (za2 k' n' m' a' (.slice o' L' c')):=by rw [<- hwb];exact heap_alloc_new _ _
 have HK:=hid2 kk kk'
 obtain ⟨⟨z0,z1,z2,z3,z4⟩,_⟩:=zab kk
 obtain ⟨⟨y0,y1,y2,y3,y4⟩,_⟩:=zab kk'
 unfold zaj
 clear kk kk' ba bb
 obtain ⟨E,hE⟩:∃ E,(n==n')=E:=⟨_,rfl⟩
 have HE:=hid hE
 have hE' : (n != n')=!E:=by rw [<- hE];rfl
 by_cases h1:k=k'
 · have j1:(k != k')=false:=by simp [h1]
   have H1:=hid h1
   clear h1
   cases E with
   | true =>
    by_cases h3:m=m'
    · have j3:(m != m')=false:=by simp [h3]
      have H3:=hid h3
      clear h3
      by_cases h4:L=L'
      · have HLL:=hid h4
        subst h4
        have HH:Hid (R=(List.range L).all sm):=by show _=_;rw [<- HR.out];unfold zbo;rw [HE.out];simp [H1.out,H3.out]
        have HKK:=hid2 H1.out H3.out
        go_enter Tryz.func23,Tryz.ntmps23
        go_wp2
        clear hwa hwb j1 j3 hE hE'
        go_loopw [37] (fun i wr=>∃ (q:Nat),i=.int .i64 q∧q<=L∧Hid (Below wb.heap.size wb wr)∧Hid (∀ j,j<q->sm j=true)) (fun i _=>L - (intOf i).toNat)
        case atStart=>exact ⟨0,rfl,by omega,Below.refl _ _,fun j hj=>absurd hj (by omega)⟩
        case round =>
         obtain ⟨q,rfl,hq,HBR,HSM⟩:=hrel
         have x4:wr.cell? ⟨w.heap.size,4,none⟩=some (.slice o L c):=(zab (za8 HBR.out HK.out.1)).1.2.2.2.2
         have u4:wr.cell? ⟨wa.heap.size,4,none⟩=some (.slice o' L c'):=(zab (za8 HBR.out HK.out.2)).1.2.2.2.2
         by_cases hlt:q<L
         · have hlt' : (q:Int)<L:=by omega
           have hq0:(0:Int)<=(q:Int):=by omega
           have hqm:(q:Int)<=9223372036854775806:=by have:=HLM.out;omega
           have HQL:=hid hlt
           obtain ⟨g,g',ho,ho',k1,n1,m1,a1,sl1,k2,n2,m2,a2,sl2,hkq⟩:=HKID.out q hlt (by trivial)
           subst ho
           subst ho'
           have HBW:=hid (HB.out.trans (HBR.out.mono HB.out.size))
           obtain ⟨r1,r2,r3⟩:=hkq _ HBW.out
           clear r3
           obtain ⟨a0,b0,c0,d0,e0⟩:=r1
           obtain ⟨a9,b9,c9,d9,e9⟩:=r2
           have HKQ:=hid hkq
           clear hkq hlt
           obtain ⟨F,hF⟩:∃ F,sm q=F:=⟨_,rfl⟩
           have HF:=hid hF
           clear hF
           go_wp2_with fail
           have s0:(wr.cell? ⟨w.heap.size,4,none⟩=some (.slice (some ⟨g,0,none⟩) L c)∧wr.cell? ⟨wa.heap.size,4,none⟩=some (.slice (some ⟨g',0,none⟩) L c')∧wr.cell? ⟨g,q*5,none⟩=some (.int .i64 k1)∧wr.cell? ⟨g,q*5+1,none⟩=some (.string ⟨n1.toArray⟩)∧wr.cell? ⟨g,q*5+2,none⟩=some (.int .i64 m1)∧wr.cell? ⟨g,q*5+3,none⟩=some (.int .i64 a1)∧wr.cell? ⟨g,q*5+4,none⟩=some sl1∧wr.cell? ⟨g',q*5,none⟩=some (.int .i64 k2)∧wr.cell? ⟨g',q*5+1,none⟩=some (.string ⟨n2.toArray⟩)∧wr.cell? ⟨g',q*5+2,none⟩=some (.int .i64 m2)∧wr.cell? ⟨g',q*5+3,none⟩=some (.int .i64 a2)∧wr.cell? ⟨g',q*5+4,none⟩=some sl2):=⟨x4,u4,a0,b0,c0,d0,e0,a9,b9,c9,d9,e9⟩
           have s1:∀ i,((wr.drewN i).cell? ⟨w.heap.size,4,none⟩=some (.slice (some ⟨g,0,none⟩) L c)∧(wr.drewN i).cell? ⟨wa.heap.size,4,none⟩=some (.slice (some ⟨g',0,none⟩) L c')∧(wr.drewN i).cell? ⟨g,q*5,none⟩=some (.int .i64 k1)∧(wr.drewN i).cell? ⟨g,q*5+1,none⟩=some (.string ⟨n1.toArray⟩)∧(wr.drewN i).cell? ⟨g,q*5+2,none⟩=some (.int .i64 m1)∧(wr.drewN i).cell? ⟨g,q*5+3,none⟩=some (.int .i64 a1)∧(wr.drewN i).cell? ⟨g,q*5+4,none⟩=some sl1∧(wr.drewN i).cell? ⟨g',q*5,none⟩=some (.int .i64 k2)∧(wr.drewN i).cell? ⟨g',q*5+1,none⟩=some (.string ⟨n2.toArray⟩)∧(wr.drewN i).cell? ⟨g',q*5+2,none⟩=some (.int .i64 m2)∧(wr.drewN i).cell? ⟨g',q*5+3,none⟩=some (.int .i64 a2)∧(wr.drewN i).cell? ⟨g',q*5+4,none⟩=some sl2):=fun _=>s0
           go_region_held (fun w'=>(w'.cell? ⟨w.heap.size,4,none⟩=some (.slice (some ⟨g,0,none⟩) L c)∧w'.cell? ⟨wa.heap.size,4,none⟩=some (.slice (some ⟨g',0,none⟩) L c')∧w'.cell? ⟨g,q*5,none⟩=some (.int .i64 k1)∧w'.cell? ⟨g,q*5+1,none⟩=some (.string ⟨n1.toArray⟩)∧w'.cell? ⟨g,q*5+2,none⟩=some (.int .i64 m1)∧w'.cell? ⟨g,q*5+3,none⟩=some (.int .i64 a1)∧w'.cell? ⟨g,q*5+4,none⟩=some sl1∧w'.cell? ⟨g',q*5,none⟩=some (.int .i64 k2)∧w'.cell? ⟨g',q*5+1,none⟩=some (.string ⟨n2.toArray⟩)∧w'.cell? ⟨g',q*5+2,none⟩=some (.int .i64 m2)∧w'.cell? ⟨g',q*5+3,none⟩=some (.int .i64 a2)∧w'.cell? ⟨g',q*5+4,none⟩=some sl2)) (first|with_reducible exact s0|with_reducible exact s1 _|with_reducible exact s7|exact s0) (first
            | (go_at_call 23
               refine ((HKQ.out _ (zd8 HBW.out _)).2.2).mono ?_
               rintro e w7 ⟨rfl,hB0⟩
               have hB:Below wr.heap.size wr w7:=(zd8 (Below.refl _ _) _).trans hB0
               have HB7:=hid (HBR.out.trans (hB.mono HBR.out.size))
               have s7:(w7.cell? ⟨w.heap.size,4,none⟩=some (.slice (some ⟨g,0,none⟩) L c)∧w7.cell? ⟨wa.heap.size,4,none⟩=some (.slice (some ⟨g',0,none⟩) L c')∧w7.cell? ⟨g,q*5,none⟩=some (.int .i64 k1)∧w7.cell? ⟨g,q*5+1,none⟩=some (.string ⟨n1.toArray⟩)∧w7.cell? ⟨g,q*5+2,none⟩=some (.int .i64 m1)∧w7.cell? ⟨g,q*5+3,none⟩=some (.int .i64 a1)∧w7.cell? ⟨g,q*5+4,none⟩=some sl1∧w7.cell? ⟨g',q*5,none⟩=some (.int .i64 k2)∧w7.cell? ⟨g',q*5+1,none⟩=some (.string ⟨n2.toArray⟩)∧w7.cell? ⟨g',q*5+2,none⟩=some (.int .i64 m2)∧w7.cell? ⟨g',q*5+3,none⟩=some (.int .i64 a2)∧w7.cell? ⟨g',q*5+4,none⟩=some sl2):=by
                have h1:=HBW.out.trans (hB.mono HBW.out.size)
                obtain ⟨p1,p2,_⟩:=HKQ.out _ h1
                exact ⟨(zab (za8 HB7.out HK.out.1)).1.2.2.2.2,(zab (za8 HB7.out HK.out.2)).1.2.2.2.2,p1.c0,p1.c1,p1.c2,p1.c3,p1.c4,p2.c0,p2.c1,p2.c2,p2.c3,p2.c4⟩
               clear hB hB0))
           cases F with
           | true =>
            rw [HF.out]
            go_wp2
            go_roundw
            case rel=>exact ⟨q+1,by go_num,HQL.out,HB7,fun j hj=>by rcases Nat.lt_succ_iff_lt_or_eq.1 hj with h|h;exact HSM.out j h;rw [h];exact HF.out⟩
            case measure=>have:=HQL.out;simp [intOf];omega
           | false =>
            rw [HF.out]
            go_wp2
            go_ret
            refine ⟨?_,HB.out.trans (HB7.out.mono HB.out.size)⟩
            rw [HH.out]
            have:(List.range L).all sm=false:=by
             rw [List.all_eq_false]
             exact ⟨q,List.mem_range.2 HQL.out,by rw [HF.out];decide⟩
            rw [this]
            rfl
         · have hqe:q=L:=by omega
           subst hqe
           have hlt' : ¬ (q:Int)<q:=by omega
           go_wp2
           go_ret
           refine ⟨?_,HB.out.trans (HBR.out.mono HB.out.size)⟩
           rw [HH.out]
           have:(List.range q).all sm=true:=by
            rw [List.all_eq_true]
            intro x hx
            exact HSM.out x (List.mem_range.1 hx)
           rw [this]
           rfl
      · have j5:¬ (L:Int)=L':=by omega
        have j4:((L:Int) != L')=true:=by simp;omega
        have HH:Hid (R=false):=by show _=_;rw [<- HR.out];unfold zbo;simp [h4]
        go_enter Tryz.func23,Tryz.ntmps23
        go_wp2
        go_ret
        rw [HH.out]
        exact ⟨rfl,HB.out⟩
    · have j3:(m != m')=true:=by simp [h3]
      have HH:Hid (R=false):=by show _=_;rw [<- HR.out];unfold zbo;simp [h3]
      go_enter Tryz.func23,Tryz.ntmps23
      go_wp2
      go_ret
      rw [HH.out]
      exact ⟨rfl,HB.out⟩
   | false =>
    have HH:Hid (R=false):=by show _=_;rw [<- HR.out];unfold zbo;rw [HE.out];simp
    go_enter Tryz.func23,Tryz.ntmps23
    go_wp2
    go_ret
    rw [HH.out]
    exact ⟨rfl,HB.out⟩
 · have j1:(k != k')=true:=by simp [h1]
   have HH:Hid (R=false):=by show _=_;rw [<- HR.out];unfold zbo;simp [h1]
   go_enter Tryz.func23,Tryz.ntmps23
   go_wp2
   go_ret
   rw [HH.out]
   exact ⟨rfl,HB.out⟩
mutual
def zdw:ITree->ITree->Bool
 | .node k n m _ ks,.node k' n' m' _ ks'=>zbo k k' n n' m m' ks.length ks'.length&&zct ks ks'
def zct:List ITree->List ITree->Bool
 | t::ts,us=>(match us with|[]=>true|u::us=>zdw t u&&zct ts us)
 | [],_=>true
end
theorem znb:(ks ks' : List ITree)->ks.length=ks'.length->(zct ks ks'=true↔∀ j (h1:j<ks.length) (h2:j<ks'.length),zdw ks[j] ks'[j]=true)
 | [],_,_=>by rw [zct];simp
 | t::ts,[],h=>by simp at h
 | t::ts,u::us,h=>by
  rw [zct]
  simp only [Bool.and_eq_true]
  rw [znb ts us (by simpa using h)]
  constructor
  · rintro ⟨h1,h2⟩ j hj hj'
    cases j with
    | zero=>exact h1
    | succ j=>exact h2 j (by simpa using hj) (by simpa using hj')
  · intro h1
    exact ⟨h1 0 (by simp) (by simp),fun j hj hj'=>h1 (j+1) (by simpa using hj) (by simpa using hj')⟩
def smAt (ks ks' : List ITree) (j:Nat):Bool:=match ks[j]?,ks'[j]? with|some a,some b=>zdw a b|_,_=>true
theorem smAt_all (ks ks' : List ITree) (h:ks.length=ks'.length):(List.range ks.length).all (smAt ks ks')=zct ks ks':=by
 rw [Bool.eq_iff_iff,znb ks ks' h,List.all_eq_true]
 constructor
 · intro h1 j hj hj'
   have:=h1 j (List.mem_range.2 hj)
   unfold smAt at this
   rw [List.getElem?_eq_getElem hj,List.getElem?_eq_getElem hj'] at this
   exact this
 · intro h1 j hj
   have hj:=List.mem_range.1 hj
   have hj' : j<ks'.length:=by omega
   unfold smAt
   rw [List.getElem?_eq_getElem hj,List.getElem?_eq_getElem hj']
   exact h1 j hj hj'
theorem kid_size {k m a:Int} {n:List UInt8} {ks:List ITree} {j:Nat} (h:j<ks.length):SizeOf.sizeOf ks[j]<SizeOf.sizeOf (ITree.node k n m a ks):=by
 have:=List.sizeOf_lt_of_mem (List.getElem_mem h)
 simp
 omega
theorem ze1:(N:Nat)->(t u:ITree)->SizeOf.sizeOf t<=N->∀ (B B' : Nat) (w:World) (v v' : Value),TreeR B w t v->TreeR B' w u v'->B<=w.heap.size->B'<=w.heap.size->Calls Tryz.prog 23 #[v,v'] w (fun e w'=>e=.returned (.bool (zdw t u))∧Below w.heap.size w w')
 | 0,.node k n m a ks,_,h=>by simp at h
 | N+1,.node k n m a ks,.node k' n' m' a' ks',hN=>by
  intro B B' w v v' ht hu hB hB'
  rw [treeR_node] at ht hu
  obtain ⟨o,c,rfl,h2,h3,h4,h5,h6⟩:=ht
  obtain ⟨o',c',rfl,i2,i3,i4,i5,i6⟩:=hu
  have hsz:∀ j (h:j<ks.length),SizeOf.sizeOf ks[j]<=N:=fun j h=>by
   have:=kid_size (k:=k) (n:=n) (m:=m) (a:=a) h
   omega
  refine (zld k n m a o ks.length c k' n' m' a' o' ks'.length c' w (Nat.le_trans h2 h3) (smAt ks ks') ?_).mono ?_
  · intro j hj hll
    have hj' : j<ks'.length:=by omega
    rcases h6 with h6|⟨g,rfl,hg,hr⟩
    · subst h6;simp at hj
    rcases i6 with i6|⟨g',rfl,hg',hr'⟩
    · subst i6;simp at hj'
    refine ⟨g,g',rfl,rfl,?_⟩
    obtain ⟨k1,n1,m1,a1,us,he⟩:∃ k1 n1 m1 a1 us,ks[j]=.node k1 n1 m1 a1 us:=by cases ks[j];exact ⟨_,_,_,_,_,rfl⟩
    obtain ⟨k2,n2,m2,a2,us',he'⟩:∃ k1 n1 m1 a1 us,ks'[j]=.node k1 n1 m1 a1 us:=by cases ks'[j];exact ⟨_,_,_,_,_,rfl⟩
    obtain ⟨o1,c1,hk,htr⟩:=zg1 hr j hj k1 m1 a1 n1 us he
    obtain ⟨o2,c2,hk',htr'⟩:=zg1 hr' j hj' k2 m2 a2 n2 us' he'
    refine ⟨k1,n1,m1,a1,_,k2,n2,m2,a2,_,fun w1 hw=>⟨hk.frame (hw.block g (by omega)),hk'.frame (hw.block g' (by omega)),?_⟩⟩
    have hs:smAt ks ks' j=zdw (.node k1 n1 m1 a1 us) (.node k2 n2 m2 a2 us'):=by
     unfold smAt
     rw [List.getElem?_eq_getElem hj,List.getElem?_eq_getElem hj',he,he']
    rw [hs]
    exact ze1 N _ _ (he ▸ hsz j hj) B B' w1 _ _ (htr.frame (Nat.le_refl _) (fun b hb=>hw.block b (by omega))) (htr'.frame (Nat.le_refl _) (fun b hb=>hw.block b (by omega))) (Nat.le_trans hB hw.size) (Nat.le_trans hB' hw.size)
  · rintro e w' ⟨rfl,h⟩
    refine ⟨?_,h⟩
    rw [zdw]
    by_cases hll:ks.length=ks'.length
    · rw [smAt_all ks ks' hll]
    · have:zbo k k' n n' m m' ks.length ks'.length=false:=by unfold zbo;simp [hll]
      rw [this]
      rfl
end Go.Proofs.YtodfklpmbclgkaaGreatDoor
namespace Go.Proofs.YtodfklpmbclgkaaGreatDoor.Pr
open Go.RowKit Go.Lib
mutual
def TreeR (B:Nat) (w:World):ITree->Value->Prop
 | .node k n m a ks,v=>∃ o c,v=zaj k n m a (.slice o ks.length c)∧ks.length<=c∧c<=maxLen∧n.length<=maxLen∧(-9223372036854775808<=m∧m<=9223372036854775807)∧(ks=[]∨∃ g f,o=some ⟨g,f,none⟩∧g<B∧RowR B w g f ks)
def RowR (B:Nat) (w:World) (g:Nat):Nat->List ITree->Prop
 | _,[]=>True
 | j,t::ts=>(∃ v0 v1 v2 v3 v4,(w.cell? ⟨g,j,none⟩=some v0∧w.cell? ⟨g,j+1,none⟩=some v1∧w.cell? ⟨g,j+2,none⟩=some v2∧w.cell? ⟨g,j+3,none⟩=some v3∧w.cell? ⟨g,j+4,none⟩=some v4)∧TreeR B w t (.agg #[v0,v1,v2,v3,v4]))∧RowR B w g (j+5) ts
end
theorem treeR_node {B:Nat} {w:World} {k m a:Int} {n:List UInt8} {ks:List ITree} {v:Value} : TreeR B w (.node k n m a ks) v↔∃ o c,v=zaj k n m a (.slice o ks.length c)∧ks.length<=c∧c<=maxLen∧n.length<=maxLen∧(-9223372036854775808<=m∧m<=9223372036854775807)∧(ks=[]∨∃ g f,o=some ⟨g,f,none⟩∧g<B∧RowR B w g f ks):=by rw [TreeR]
theorem rowR_cons {B:Nat} {w:World} {g j:Nat} {t:ITree} {ts:List ITree} : RowR B w g j (t::ts)↔(∃ v0 v1 v2 v3 v4,(w.cell? ⟨g,j,none⟩=some v0∧w.cell? ⟨g,j+1,none⟩=some v1∧w.cell? ⟨g,j+2,none⟩=some v2∧w.cell? ⟨g,j+3,none⟩=some v3∧w.cell? ⟨g,j+4,none⟩=some v4)∧TreeR B w t (.agg #[v0,v1,v2,v3,v4]))∧RowR B w g (j+5) ts:=by rw [RowR]
mutual
theorem TreeR.frame {B B' : Nat} {w w' : World} (hB:B<=B') (h:∀ b,b<B->w'.heap[b]?=w.heap[b]?):(t:ITree)->(v:Value)->TreeR B w t v->TreeR B' w' t v
 | .node k n m a ks,v,ht=>by
  rw [treeR_node] at ht ⊢
  obtain ⟨o,c,h1,h2,h3,h4,h5,h6⟩:=ht
  refine ⟨o,c,h1,h2,h3,h4,h5,?_⟩
  rcases h6 with h6|⟨g,f,h7,h8,h9⟩
  · exact Or.inl h6
  · exact Or.inr ⟨g,f,h7,Nat.lt_of_lt_of_le h8 hB,RowR.frame hB h g h8 f ks h9⟩
theorem RowR.frame {B B' : Nat} {w w' : World} (hB:B<=B') (h:∀ b,b<B->w'.heap[b]?=w.heap[b]?) (g:Nat) (hg:g<B):(j:Nat)->(ts:List ITree)->RowR B w g j ts->RowR B' w' g j ts
 | _,[],_=>by rw [RowR];trivial
 | j,t::ts,hr=>by
  rw [rowR_cons] at hr ⊢
  obtain ⟨⟨v0,v1,v2,v3,v4,⟨c0,c1,c2,c3,c4⟩,ht⟩,hs⟩:=hr
  have hgg:=h g hg
  exact ⟨⟨v0,v1,v2,v3,v4,⟨(zae hgg _).1.trans c0,(zae hgg _).1.trans c1,(zae hgg _).1.trans c2,(zae hgg _).1.trans c3,(zae hgg _).1.trans c4⟩,TreeR.frame hB h t _ ht⟩,RowR.frame hB h g hg (j+5) ts hs⟩
end
theorem ziu {B:Nat} {w:World} {g:Nat} : (ts:List ITree)->(j i:Nat)->(hi:i<ts.length)->RowR B w g j ts->∃ v0 v1 v2 v3 v4,(w.cell? ⟨g,j+i*5,none⟩=some v0∧w.cell? ⟨g,j+i*5+1,none⟩=some v1∧w.cell? ⟨g,j+i*5+2,none⟩=some v2∧w.cell? ⟨g,j+i*5+3,none⟩=some v3∧w.cell? ⟨g,j+i*5+4,none⟩=some v4)∧TreeR B w ts[i] (.agg #[v0,v1,v2,v3,v4])
 | [],_,_,hi,_=>by simp at hi
 | t::ts,j,0,_,h=>by
  rw [rowR_cons] at h
  simp only [Nat.zero_mul,Nat.add_zero]
  exact h.1
 | t::ts,j,i+1,hi,h=>by
  rw [rowR_cons] at h
  have:=ziu ts (j+5) i (by simp at hi;omega) h.2
  rw [show j+5+i*5=j+(i+1)*5 by omega] at this
  exact this
/-- a kid as it lies -/
structure KidR (w:World) (g j:Nat) (k:Int) (n:List UInt8) (m a:Int) (sl:Value):Prop where
 c0:w.cell? ⟨g,j,none⟩=some (.int .i64 k)
 c1:w.cell? ⟨g,j+1,none⟩=some (.string ⟨n.toArray⟩)
 c2:w.cell? ⟨g,j+2,none⟩=some (.int .i64 m)
 c3:w.cell? ⟨g,j+3,none⟩=some (.int .i64 a)
 c4:w.cell? ⟨g,j+4,none⟩=some sl
theorem KidR.frame {w w' : World} {g j:Nat} {k m a:Int} {n:List UInt8} {sl:Value} (h:KidR w g j k n m a sl) (hg:w'.heap[g]?=w.heap[g]?):KidR w' g j k n m a sl :=
 ⟨(zae hg _).1.trans h.c0,(zae hg _).1.trans h.c1,(zae hg _).1.trans h.c2,(zae hg _).1.trans h.c3,(zae hg _).1.trans h.c4⟩
theorem zg1 {B:Nat} {w:World} {g f:Nat} {ks:List ITree} (h:RowR B w g f ks) (i:Nat) (hi:i<ks.length) (k m a:Int) (n:List UInt8) (us:List ITree) (he:ks[i]=.node k n m a us) :
 ∃ o c,KidR w g (f+i*5) k n m a (.slice o us.length c)∧TreeR B w (.node k n m a us) (zaj k n m a (.slice o us.length c)):=by
 obtain ⟨v0,v1,v2,v3,v4,⟨c0,c1,c2,c3,c4⟩,ht⟩:=ziu ks f i hi h
 rw [he] at ht
 have ht2:=ht
 rw [treeR_node] at ht2
 obtain ⟨o,c,h1,_⟩:=ht2
 unfold zaj at h1
 have h1:=congrArg (fun v=>match v with|Value.agg l=>l.toList|_=>[]) h1
 simp at h1
 obtain ⟨rfl,rfl,rfl,rfl,rfl⟩:=h1
 exact ⟨o,c,⟨c0,c1,c2,c3,c4⟩,ht⟩
mutual
theorem of_flat {B:Nat} {w:World} : (t:ITree)->(v:Value)->Go.Proofs.YtodfklpmbclgkaaGreatDoor.TreeR B w t v->TreeR B w t v
 | .node k n m a ks,v,ht=>by
  rw [Go.Proofs.YtodfklpmbclgkaaGreatDoor.treeR_node] at ht
  rw [treeR_node]
  obtain ⟨o,c,h1,h2,h3,h4,h5,h6⟩:=ht
  refine ⟨o,c,h1,h2,h3,h4,h5,?_⟩
  rcases h6 with h6|⟨g,h7,h8,h9⟩
  · exact Or.inl h6
  · exact Or.inr ⟨g,0,h7,h8,row_flat g 0 ks h9⟩
theorem row_flat {B:Nat} {w:World} (g:Nat):(j:Nat)->(ts:List ITree)->Go.Proofs.YtodfklpmbclgkaaGreatDoor.RowR B w g j ts->RowR B w g (j*5) ts
 | _,[],_=>by rw [RowR];trivial
 | j,t::ts,hr=>by
  rw [Go.Proofs.YtodfklpmbclgkaaGreatDoor.rowR_cons] at hr
  rw [rowR_cons]
  obtain ⟨⟨v0,v1,v2,v3,v4,hc,ht⟩,hs⟩:=hr
  refine ⟨⟨v0,v1,v2,v3,v4,hc,of_flat t _ ht⟩,?_⟩
  have h2:=row_flat g (j+1) ts hs
  rw [show (j+1)*5=j*5+5 by omega] at h2
  exact h2
end
theorem toR {A:Nat->Prop} {w:World} (t:Tree) (v:Value) (hk:zdv t) (h:zam A w t v):TreeR w.heap.size w t.toI v:=of_flat _ _ (zam.toR t v hk h)
set_option maxHeartbeats 2000000 in
set_option maxRecDepth 4000 in
theorem zft (p:Nat) (k:Int) (n:List UInt8) (m a:Int) (o:Option Addr) (ks:List ITree) (c:Nat) (g f:Nat) (txt0:List UInt8) (d:Int) (v0:Value) (w:World) (h:PR w p txt0 d v0) (hx:txt0.length<=16000) (hn:n.length<=maxLen)
 (df:ITree->List UInt8->Option (List UInt8))
 (hkid:∀ j (hj:j<ks.length),o=some ⟨g,f,none⟩∧g<p∧∃ k1 n1 m1 a1 o1 l1 c1,KidR w g (f+j*5) k1 n1 m1 a1 (.slice o1 l1 c1)∧∀ w1 txt v,PR w1 p txt d v->txt.length<=16000->za1 p w w1->Calls Tryz.prog 60 #[.pointer (some ⟨p,0,none⟩),zaj k1 n1 m1 a1 (.slice o1 l1 c1)] w1 (zbp p d v (df ks[j] txt) w1)) :
 Calls Tryz.prog 36 #[.pointer (some ⟨p,0,none⟩),zaj k n m a (.slice o ks.length c)] w (zbp p d v0 (zdi df k n m ks txt0) w):=by
 have HP:=hid2 h hx
 have HKID:=hid hkid
 obtain ⟨R,hR⟩:∃ R,zdi df k n m ks txt0=R:=⟨_,rfl⟩
 rw [hR]
 have HR:=hid hR
 obtain ⟨L,hL⟩:∃ L,ks.length=L:=⟨_,rfl⟩
 rw [hL]
 have HL:=hid hL
 obtain ⟨ok,hok⟩:∃ ok,(zaw n false&&zan L m 0 100)=ok:=⟨_,rfl⟩
 have HOK:=hid hok
 have HMH:Hid (∀ w,Calls Tryz.prog 59 #[zaj k n m a (.slice o L c),.bool false,.int .i64 0,.int .i64 100] w (zb6 ok w)):=by
  show ∀ w,_
  intro w
  rw [<- hok]
  exact zc3 k n m a o L c 0 100 w (by unfold maxLen at hn;omega)
 unfold zaj at HMH
 clear h hx hkid hok hn hR hL
 obtain ⟨wa,hwa⟩:∃ x,w.alloc (.cells #[.int .i64 k,.string ⟨n.toArray⟩,.int .i64 m,.int .i64 a,.slice o L c] 29)=x:=⟨_,rfl⟩
 have HB:=hidB hwa
 have kk:wa.heap[w.heap.size]?=some (za2 k n m a (.slice o L c)):=by rw [<- hwa];exact heap_alloc_new _ _
 have HK:=hid kk
 obtain ⟨⟨z0,z1,z2,z3,z4⟩,_⟩:=zab kk
 unfold zaj
 clear kk
 by_cases h1:k=1
 case neg =>
  have j1:(k==1)=false:=by simp [h1]
  have HR2:Hid (R=none):=by show _=_;rw [<- HR.out];unfold zdi;simp [h1]
  go_enter Tryz.func36,Tryz.ntmps36
  go_wp2_with (first|(go_at_call 58;refine (zar _).mono ?_;rintro e wi ⟨rfl,hwi⟩;rw [hwi];clear hwi wi)|(go_at_call 58;refine (zak _).mono ?_;rintro e wi ⟨he,hwi⟩;rw [hwi];clear hwi;unfold zaa at he;rw [he];clear he wi))
  exact ⟨rfl,v0,Lx.Kept.of_below HB.out,Or.inr ⟨HR2.out,rfl⟩⟩
 subst h1
 cases ok with
 | false =>
  have HR2:Hid (R=none):=by show _=_;rw [<- HR.out];unfold zdi;rw [HL.out,HOK.out];rfl
  go_enter Tryz.func36,Tryz.ntmps36
  go_wp2_with (first|(go_at_call 58;refine (zar _).mono ?_;rintro e wi ⟨rfl,hwi⟩;rw [hwi];clear hwi wi)|(go_at_call 58;refine (zak _).mono ?_;rintro e wi ⟨he,hwi⟩;rw [hwi];clear hwi;unfold zaa at he;rw [he];clear he wi))
  refine (HMH.out _).mono ?_
  rintro e w2 ⟨hB,hq⟩
  rcases hq with ⟨hq,_⟩|⟨_,he⟩
  · cases hq
  have HB2:=hid (HB.out.trans (hB.mono HB.out.size))
  clear hB
  unfold zaa at he
  subst he
  go_wp2
  exact ⟨rfl,v0,Lx.Kept.of_below HB2.out,Or.inr ⟨HR2.out,rfl⟩⟩
 | true =>
  have HR2:Hid (zg5 df (ks.drop 0) txt0=R):=by show _=_;rw [<- HR.out];unfold zdi;rw [HL.out,HOK.out];rfl
  have hl:L<=100:=by
   have:=HOK.out
   unfold zan at this
   simp at this
   omega
  have HL100:=hid hl
  go_enter Tryz.func36,Tryz.ntmps36
  go_wp2_with (first|(go_at_call 58;refine (zar _).mono ?_;rintro e wi ⟨rfl,hwi⟩;rw [hwi];clear hwi wi)|(go_at_call 58;refine (zak _).mono ?_;rintro e wi ⟨he,hwi⟩;rw [hwi];clear hwi;unfold zaa at he;rw [he];clear he wi))
  refine (HMH.out _).mono ?_
  rintro e w2 ⟨hB,hq⟩
  rcases hq with ⟨_,rfl⟩|⟨hq,_⟩
  case inr=>cases hq
  have HB2:=hid (HB.out.trans (hB.mono HB.out.size))
  have HK2:=hid (za8 hB HK.out)
  obtain ⟨⟨z0,z1,z2,z3,z4⟩,_⟩:=zab HK2.out
  clear hB hwa
  go_wp2_with fail
  go_loopw [15] (fun i wr=>∃ (q:Nat) (txt:List UInt8) (v:Value),i=.int .i64 q∧q<=L∧Hid (PR wr p txt d v∧txt.length<=16000)∧Hid (Lx.Kept p v0 v w wr)∧Hid (zg5 df (ks.drop q) txt=R)) (fun i _=>L - (RowKit.intOf i).toNat)
  case atStart=>exact ⟨0,txt0,v0,rfl,by omega,⟨HP.out.1.below HB2.out,HP.out.2⟩,Lx.Kept.of_below HB2.out,HR2⟩
  case round =>
   obtain ⟨q,txt,v,rfl,hq,HPR,HKP,HDF⟩:=hrel
   by_cases hlt:q<L
   · have hlt' : (q:Int)<L:=by omega
     have hq0:(0:Int)<=(q:Int):=by omega
     have hqm:(q:Int)<=1000:=by have:=HL100.out;omega
     have HQL:=hid hlt
     have hqk:q<ks.length:=by have:=HL.out;omega
     obtain ⟨ho,hgp,k1,n1,m1,a1,o1,l1,c1,hkr,hcal⟩:=HKID.out q hqk
     subst ho
     have HFR:=hid (HP.out.1.front HKP.out)
     have HCAL:=hid hcal
     have HSTEP:Hid (R=((df ks[q] txt).bind (layP [[59]])).bind (zg5 df (ks.drop (q+1)))):=by
      show _=_
      rw [<- HDF.out,List.drop_eq_getElem_cons hqk]
      rfl
     obtain ⟨tq,htq⟩:∃ t,ks[q]=t:=⟨_,rfl⟩
     rw [htq] at HCAL HSTEP
     obtain ⟨a0,b0,c0,d0,e0⟩:=hkr.frame (HFR.out g hgp)
     clear hcal hkr hgp hlt htq hqk HDF
     unfold zaj at HCAL
     obtain ⟨wb,hwb⟩:∃ x,wr.alloc (.cells #[.int .i64 k1,.string ⟨n1.toArray⟩,.int .i64 m1,.int .i64 a1,.slice o1 l1 c1] 29)=x:=⟨_,rfl⟩
     have HBB:Hid (Below wr.heap.size wr wb):=by show Below _ _ _;rw [<- hwb];exact zad _ _
     have HKB:Hid (wb.heap[wr.heap.size]?=some (za2 k1 n1 m1 a1 (.slice o1 l1 c1))):=by show _=_;rw [<- hwb];exact heap_alloc_new _ _
     obtain ⟨⟨x0,x1,x2,x3,x4⟩,_⟩:=zab HKB.out
     have HPB:=hid (HPR.out.1.below HBB.out)
     have HFB:=hid (HFR.out.trans (za1.of_below (Nat.le_of_lt HPR.out.1.lt) HBB.out))
     go_wp2_with fail
     refine (HCAL.out wb txt v HPB.out HPR.out.2 HFB.out).mono ?_
     clear hwb
     rintro e w3 ⟨v3,hk,hQ⟩
     have HK3:=hid ((HKP.out.trans (Lx.Kept.of_below HBB.out)).trans hk)
     clear hk
     rcases hQ with ⟨x,hx1,hx2,rfl,hPR⟩|⟨hx1,he⟩
     case inr =>
      have HF:Hid (R=none):=HSTEP.out.trans (by rw [hx1];rfl)
      clear hx1
      unfold zaa at he
      subst he
      go_wp2
      exact ⟨rfl,v3,HK3.out,Or.inr ⟨HF.out,rfl⟩⟩
     have HF:Hid (R=(layP [[59]] x).bind (zg5 df (ks.drop (q+1)))):=HSTEP.out.trans (by rw [hx1];rfl)
     have HP3:=hid2 hPR hx2
     clear hx1 hx2 hPR
     go_wp2_with fail
     refine (za7 p [[59]] _ rfl (by intro t ht;simp at ht;subst ht;exact ⟨by simp,by simp⟩) (by simp) 1 rfl x d v3 w3 HP3.out.1 HP3.out.2).mono ?_
     rintro e w4 ⟨v4,hk,hQ⟩
     have HK4:=hid (HK3.out.trans hk)
     clear hk
     rcases hQ with ⟨y,hx1,hx2,rfl,hPR⟩|⟨hx1,he⟩
     case inr =>
      have HG:Hid (R=none):=HF.out.trans (by rw [hx1];rfl)
      clear hx1
      unfold zaa at he
      subst he
      go_wp2
      exact ⟨rfl,v4,HK4.out,Or.inr ⟨HG.out,rfl⟩⟩
     have HG:Hid (zg5 df (ks.drop (q+1)) y=R):=by show _=_;rw [HF.out,hx1];rfl
     have HP4:=hid2 hPR hx2
     clear hx1 hx2 hPR
     go_wp2
     go_roundw
     case rel=>exact ⟨q+1,y,v4,by go_num,HQL.out,HP4,HK4,HG⟩
     case measure=>have:=HQL.out;simp [RowKit.intOf];omega
   · have hqe:q=L:=by omega
     subst hqe
     have hlt' : ¬ (q:Int)<q:=by omega
     have HG:Hid (R=some txt):=by show _=_;rw [<- HDF.out,List.drop_of_length_le (by have:=HL.out;omega)];rfl
     go_wp2
     first|go_end0|refine bodyPost_ret (results_none rfl _ _ _) rfl ?_
     exact ⟨v,HKP.out,Or.inl ⟨txt,HG.out,HPR.out.2,rfl,HPR.out.1⟩⟩
theorem boxed {w wa:World} {p:Nat} {txt:List UInt8} {d:Int} {v0:Value} {O:Obj} (h:PR w p txt d v0) (hk:wa.heap[w.heap.size]?=some O):∀ v' w',Lx.Kept p v0 v' wa w'->w'.heap[w.heap.size]?=some O :=
 fun _ _ hK=>(hK.block _ (zep hk) (by have:=h.lt;omega) (own_lt h.own _ (Nat.le_refl _))).trans hk
/-- what a function of the printer's does to any tree, from w on -/
structure Does (p:Nat) (d:Int) (w:World) (f:Nat) (args:Value->Array Value) (P:ITree->List UInt8->Option (List UInt8)):Prop where
 run:∀ w1,za1 p w w1->∀ k n m a ks o c,TreeR p w1 (.node k n m a ks) (zaj k n m a (.slice o ks.length c))->∀ txt v0,PR w1 p txt d v0->txt.length<=16000->Calls Tryz.prog f (args (zaj k n m a (.slice o ks.length c))) w1 (zbp p d v0 (P (.node k n m a ks) txt) w1)
theorem Does.front {p:Nat} {d:Int} {w w' : World} {f:Nat} {args:Value->Array Value} {P:ITree->List UInt8->Option (List UInt8)} (h:Does p d w f args P) (hf:za1 p w w'):Does p d w' f args P :=
 ⟨fun w1 h1=>h.run w1 (hf.trans h1)⟩
theorem zay {B:Nat} {w:World} {k m a:Int} {n:List UInt8} {ks:List ITree} {o:Option Addr} {c:Nat} (h:TreeR B w (.node k n m a ks) (zaj k n m a (.slice o ks.length c))) :
 n.length<=maxLen∧(-9223372036854775808<=m∧m<=9223372036854775807)∧(ks.length<=c∧c<=maxLen)∧(ks=[]∨∃ g f,o=some ⟨g,f,none⟩∧g<B∧RowR B w g f ks):=by
 rw [treeR_node] at h
 obtain ⟨o',c',h1,h2,h3,h4,h5,h6⟩:=h
 unfold zaj at h1
 have h1:=congrArg (fun v=>match v with|Value.agg l=>l.toList|_=>[]) h1
 simp at h1
 obtain ⟨rfl,rfl⟩:=h1
 exact ⟨h4,h5,⟨h2,h3⟩,h6⟩
def aloneP (word:List UInt8) (n:List UInt8) (m:Int) (L:Nat) (txt:List UInt8):Option (List UInt8):=if zaw n false&&zan L m 0 0 then layP [word] txt else none
def refP (n:List UInt8) (m:Int) (L:Nat) (txt:List UInt8):Option (List UInt8):=if zaw n true&&zan L m 0 0 then layP [n] txt else none
set_option maxHeartbeats 2000000 in
set_option maxRecDepth 4000 in
theorem zdm (p:Nat) (k:Int) (n:List UInt8) (m a:Int) (o:Option Addr) (L c:Nat) (word:List UInt8) (hw:word≠[]∧word.length<=64) (txt:List UInt8) (d:Int) (v0:Value) (w:World) (h:PR w p txt d v0) (hx:txt.length<=16000) (hn:n.length<=maxLen) :
 Calls Tryz.prog 131 #[.pointer (some ⟨p,0,none⟩),zaj k n m a (.slice o L c),.string ⟨word.toArray⟩] w (zbp p d v0 (aloneP word n m L txt) w):=by
 have HP:=hid2 h hx
 obtain ⟨R,hR⟩:∃ R,aloneP word n m L txt=R:=⟨_,rfl⟩
 rw [hR]
 have HR:=hid hR.symm
 have HMH:Hid (∀ w,Calls Tryz.prog 59 #[zaj k n m a (.slice o L c),.bool false,.int .i64 0,.int .i64 0] w (zb6 (zaw n false&&zan L m 0 0) w)):=fun w=>zc3 k n m a o L c 0 0 w (by unfold maxLen at hn;omega)
 unfold zaj at HMH
 have HN:=hid hw
 clear hn hw
 clear h hx hR
 obtain ⟨wa,hwa⟩:∃ x,w.alloc (.cells #[.int .i64 k,.string ⟨n.toArray⟩,.int .i64 m,.int .i64 a,.slice o L c] 29)=x:=⟨_,rfl⟩
 have HB:=hidB hwa
 have HK:Hid (wa.heap[w.heap.size]?=some (za2 k n m a (.slice o L c))):=by show _=_;rw [<- hwa];exact heap_alloc_new _ _
 have HS:Hid (PR wa p txt d v0∧txt.length<=16000∧Lx.Kept p v0 v0 wa wa):=⟨HP.out.1.below HB.out,HP.out.2,Lx.Kept.of_below (Below.refl _ _)⟩
 have HBK:=hid (boxed HP.out.1 HK.out)
 have HEND:Hid (∀ v' w',Lx.Kept p v0 v' wa w'->Lx.Kept p v0 v' w w'):=fun v' w' hk=>(Lx.Kept.of_below HB.out).trans hk
 have HFR:Hid (∀ v' w',Lx.Kept p v0 v' wa w'->za1 p w w'):=fun v' w' hk=>HP.out.1.front (HEND.out _ _ hk)
 obtain ⟨⟨z0,z1,z2,z3,z4⟩,_⟩:=zab HK.out
 unfold zaj
 go_enter Tryz.func131,Tryz.ntmps131
 go_wp2_with fail
 refine (HMH.out _).mono ?_
 rintro e w1 ⟨hB,hq⟩
 have HKM:=hid (HS.out.2.2.trans (Lx.Kept.of_below hB))
 have HPM:=hid (HS.out.1.below hB)
 clear hB
 rcases hq with ⟨hq,rfl⟩|⟨hq,he⟩
 case inr =>
  have HF:Hid (R=none):=by
   show _=_
   rw [HR.out];unfold aloneP;rw [hq];rfl
  clear hq
  unfold zaa at he
  subst he
  go_wp2
  exact ⟨rfl,v0,HEND.out _ _ HKM.out,Or.inr ⟨HF.out,rfl⟩⟩
 have HR1:Hid (R=layP [word] txt):=by
  show _=_
  rw [HR.out];unfold aloneP;rw [hq];rfl
 have HQ1:=hid hq
 have HS1:=hid3 HPM.out HS.out.2.1 HKM.out
 clear hq z0 z1 z2 z3 z4
 go_wp2_with fail
 refine (za7 p [word] _ rfl (by intro t ht;simp only [List.mem_cons,List.not_mem_nil,or_false] at ht;rcases ht with rfl <;> first|exact HN.out|exact HOP.out|exact HSH.out|exact ⟨by decide,by decide⟩) (by simp) 1 rfl txt d v0 w1 HS1.out.1 HS1.out.2.1).mono ?_
 rintro e w2 ⟨v2,hk,hQ⟩
 have HKM:=hid (HS1.out.2.2.trans hk)
 clear hk
 rcases hQ with ⟨x2,hx1,hx2,rfl,hPR⟩|⟨hx1,he⟩
 case inr =>
  have HF:=hid (HR1.out.trans (by rw [hx1]))
  clear hx1
  unfold zaa at he
  subst he
  go_wp2
  exact ⟨rfl,v2,HEND.out _ _ HKM.out,Or.inr ⟨HF.out,rfl⟩⟩
 have HR2:=hid (HR1.out.trans (by rw [hx1]))
 have HS2:=hid3 hPR hx2 HKM.out
 clear hx1 hx2 hPR 
 go_wp2
 first|go_end0|refine bodyPost_ret (results_none rfl _ _ _) rfl ?_
 exact ⟨v2,HEND.out _ _ HS2.out.2.2,Or.inl ⟨x2,HR2.out,HS2.out.2.1,rfl,HS2.out.1⟩⟩
set_option maxHeartbeats 2000000 in
set_option maxRecDepth 4000 in
theorem zej (p:Nat) (k:Int) (n:List UInt8) (m a:Int) (o:Option Addr) (L c:Nat) (txt:List UInt8) (d:Int) (v0:Value) (w:World) (h:PR w p txt d v0) (hx:txt.length<=16000) (hn:n.length<=maxLen) :
 Calls Tryz.prog 164 #[.pointer (some ⟨p,0,none⟩),zaj k n m a (.slice o L c)] w (zbp p d v0 (refP n m L txt) w):=by
 have HP:=hid2 h hx
 obtain ⟨R,hR⟩:∃ R,refP n m L txt=R:=⟨_,rfl⟩
 rw [hR]
 have HR:=hid hR.symm
 have HMH:Hid (∀ w,Calls Tryz.prog 59 #[zaj k n m a (.slice o L c),.bool true,.int .i64 0,.int .i64 0] w (zb6 (zaw n true&&zan L m 0 0) w)):=fun w=>zbw k n m a o L c 0 0 w (by unfold maxLen at hn;omega)
 unfold zaj at HMH
 clear hn
 clear h hx hR
 obtain ⟨wa,hwa⟩:∃ x,w.alloc (.cells #[.int .i64 k,.string ⟨n.toArray⟩,.int .i64 m,.int .i64 a,.slice o L c] 29)=x:=⟨_,rfl⟩
 have HB:=hidB hwa
 have HK:Hid (wa.heap[w.heap.size]?=some (za2 k n m a (.slice o L c))):=by show _=_;rw [<- hwa];exact heap_alloc_new _ _
 have HS:Hid (PR wa p txt d v0∧txt.length<=16000∧Lx.Kept p v0 v0 wa wa):=⟨HP.out.1.below HB.out,HP.out.2,Lx.Kept.of_below (Below.refl _ _)⟩
 have HBK:=hid (boxed HP.out.1 HK.out)
 have HEND:Hid (∀ v' w',Lx.Kept p v0 v' wa w'->Lx.Kept p v0 v' w w'):=fun v' w' hk=>(Lx.Kept.of_below HB.out).trans hk
 have HFR:Hid (∀ v' w',Lx.Kept p v0 v' wa w'->za1 p w w'):=fun v' w' hk=>HP.out.1.front (HEND.out _ _ hk)
 obtain ⟨⟨z0,z1,z2,z3,z4⟩,_⟩:=zab HK.out
 unfold zaj
 go_enter Tryz.func164,Tryz.ntmps164
 go_wp2_with fail
 refine (HMH.out _).mono ?_
 rintro e w1 ⟨hB,hq⟩
 have HKM:=hid (HS.out.2.2.trans (Lx.Kept.of_below hB))
 have HPM:=hid (HS.out.1.below hB)
 clear hB
 rcases hq with ⟨hq,rfl⟩|⟨hq,he⟩
 case inr =>
  have HF:Hid (R=none):=by
   show _=_
   rw [HR.out];unfold refP;rw [hq];rfl
  clear hq
  unfold zaa at he
  subst he
  go_wp2
  exact ⟨rfl,v0,HEND.out _ _ HKM.out,Or.inr ⟨HF.out,rfl⟩⟩
 have HR1:Hid (R=layP [n] txt):=by
  show _=_
  rw [HR.out];unfold refP;rw [hq];rfl
 have HQ1:=hid hq
 have HS1:=hid3 HPM.out HS.out.2.1 HKM.out
 clear hq z0 z1 z2 z3 z4
 have HN:Hid (n≠[]∧n.length<=64):=by
  have:=HQ1.out
  rw [Bool.and_eq_true] at this
  exact zco this.1
 obtain ⟨⟨z0,z1,z2,z3,z4⟩,_⟩:=zab (HBK.out _ _ HS1.out.2.2)
 clear z0 z2 z3 z4
 go_wp2_with fail
 refine (za7 p [n] _ rfl (by intro t ht;simp only [List.mem_cons,List.not_mem_nil,or_false] at ht;rcases ht with rfl <;> first|exact HN.out|exact HOP.out|exact HSH.out|exact ⟨by decide,by decide⟩) (by simp) 1 rfl txt d v0 w1 HS1.out.1 HS1.out.2.1).mono ?_
 rintro e w2 ⟨v2,hk,hQ⟩
 have HKM:=hid (HS1.out.2.2.trans hk)
 clear hk
 rcases hQ with ⟨x2,hx1,hx2,rfl,hPR⟩|⟨hx1,he⟩
 case inr =>
  have HF:=hid (HR1.out.trans (by rw [hx1]))
  clear hx1
  unfold zaa at he
  subst he
  go_wp2
  exact ⟨rfl,v2,HEND.out _ _ HKM.out,Or.inr ⟨HF.out,rfl⟩⟩
 have HR2:=hid (HR1.out.trans (by rw [hx1]))
 have HS2:=hid3 hPR hx2 HKM.out
 clear hx1 hx2 hPR z1
 go_wp2
 first|go_end0|refine bodyPost_ret (results_none rfl _ _ _) rfl ?_
 exact ⟨v2,HEND.out _ _ HS2.out.2.2,Or.inl ⟨x2,HR2.out,HS2.out.2.1,rfl,HS2.out.1⟩⟩
def valueP (k:Int) (n:List UInt8) (m:Int) (L:Nat) (txt:List UInt8):Option (List UInt8):=if k=27 then refP n m L txt else zgj (-2147483648) k n m L txt
def resultP (bp:List UInt8->Option (List UInt8)) (k:Int) (n:List UInt8) (m:Int) (L:Nat) (txt:List UInt8):Option (List UInt8):=if k=13 then aloneP [118,111,105,100] n m L txt else bp txt
set_option maxHeartbeats 2000000 in
set_option maxRecDepth 4000 in
theorem zfs (p:Nat) (k:Int) (n:List UInt8) (m a:Int) (o:Option Addr) (L c:Nat) (hm:-9223372036854775808<=m∧m<=9223372036854775807) (txt:List UInt8) (d:Int) (v0:Value) (w:World) (h:PR w p txt d v0) (hx:txt.length<=16000) (hn:n.length<=maxLen) (hI:zey (fun m=>-9223372036854775808<=m∧m<=9223372036854775807) p w) :
 Calls Tryz.prog 157 #[.pointer (some ⟨p,0,none⟩),zaj k n m a (.slice o L c)] w (zbp p d v0 (valueP k n m L txt) w):=by
 by_cases h1:k=27
 · subst h1
   have HP:=hid2 h hx
   obtain ⟨R,hR⟩:∃ R,valueP 27 n m L txt=R:=⟨_,rfl⟩
   rw [hR]
   have HR:=hid hR.symm
   have HNL:=hid hn
   have HM:=hid hm
   have HI:=hid hI
   clear hn hm hI
   clear h hx hR
   obtain ⟨wa,hwa⟩:∃ x,w.alloc (.cells #[.int .i64 27,.string ⟨n.toArray⟩,.int .i64 m,.int .i64 a,.slice o L c] 29)=x:=⟨_,rfl⟩
   have HB:=hidB hwa
   have HK:Hid (wa.heap[w.heap.size]?=some (za2 27 n m a (.slice o L c))):=by show _=_;rw [<- hwa];exact heap_alloc_new _ _
   have HS:Hid (PR wa p txt d v0∧txt.length<=16000∧Lx.Kept p v0 v0 wa wa):=⟨HP.out.1.below HB.out,HP.out.2,Lx.Kept.of_below (Below.refl _ _)⟩
   have HBK:=hid (boxed HP.out.1 HK.out)
   have HEND:Hid (∀ v' w',Lx.Kept p v0 v' wa w'->Lx.Kept p v0 v' w w'):=fun v' w' hk=>(Lx.Kept.of_below HB.out).trans hk
   have HFR:Hid (∀ v' w',Lx.Kept p v0 v' wa w'->za1 p w w'):=fun v' w' hk=>HP.out.1.front (HEND.out _ _ hk)
   obtain ⟨⟨z0,z1,z2,z3,z4⟩,_⟩:=zab HK.out
   unfold zaj
   have HR0:Hid (R=refP n m L txt):=by show _=_;rw [HR.out];unfold valueP;rfl
   go_enter Tryz.func157,Tryz.ntmps157
   go_wp2_with fail
   refine (zej p 27 n m a o L c txt d v0 wa HS.out.1 HS.out.2.1 HNL.out).mono ?_
   rintro e w1 ⟨v1,hk,hQ⟩
   have HKM:=hid (HS.out.2.2.trans hk)
   clear hk
   rcases hQ with ⟨x1,hx1,hx2,rfl,hPR⟩|⟨hx1,he⟩
   case inr =>
    have HF:=hid (HR0.out.trans (by rw [hx1]))
    clear hx1
    unfold zaa at he
    subst he
    go_wp2
    exact ⟨rfl,v1,HEND.out _ _ HKM.out,Or.inr ⟨HF.out,rfl⟩⟩
   have HR1:=hid (HR0.out.trans (by rw [hx1]))
   have HS1:=hid3 hPR hx2 HKM.out
   clear hx1 hx2 hPR 
   go_wp2
   first|go_end0|refine bodyPost_ret (results_none rfl _ _ _) rfl ?_
   exact ⟨v1,HEND.out _ _ HS1.out.2.2,Or.inl ⟨x1,HR1.out,HS1.out.2.1,rfl,HS1.out.1⟩⟩
 · have j1:(k==27)=false:=by simp [h1]
   have HP:=hid2 h hx
   obtain ⟨R,hR⟩:∃ R,valueP k n m L txt=R:=⟨_,rfl⟩
   rw [hR]
   have HR:=hid hR.symm
   have HNL:=hid hn
   have HM:=hid hm
   have HI:=hid hI
   clear hn hm hI
   clear h hx hR
   obtain ⟨wa,hwa⟩:∃ x,w.alloc (.cells #[.int .i64 k,.string ⟨n.toArray⟩,.int .i64 m,.int .i64 a,.slice o L c] 29)=x:=⟨_,rfl⟩
   have HB:=hidB hwa
   have HK:Hid (wa.heap[w.heap.size]?=some (za2 k n m a (.slice o L c))):=by show _=_;rw [<- hwa];exact heap_alloc_new _ _
   have HS:Hid (PR wa p txt d v0∧txt.length<=16000∧Lx.Kept p v0 v0 wa wa):=⟨HP.out.1.below HB.out,HP.out.2,Lx.Kept.of_below (Below.refl _ _)⟩
   have HBK:=hid (boxed HP.out.1 HK.out)
   have HEND:Hid (∀ v' w',Lx.Kept p v0 v' wa w'->Lx.Kept p v0 v' w w'):=fun v' w' hk=>(Lx.Kept.of_below HB.out).trans hk
   have HFR:Hid (∀ v' w',Lx.Kept p v0 v' wa w'->za1 p w w'):=fun v' w' hk=>HP.out.1.front (HEND.out _ _ hk)
   obtain ⟨⟨z0,z1,z2,z3,z4⟩,_⟩:=zab HK.out
   unfold zaj
   have HR0:Hid (R=zgj (-2147483648) k n m L txt):=by show _=_;rw [HR.out];unfold valueP;rw [if_neg h1]
   have HNE:=hid h1
   clear h1
   go_enter Tryz.func157,Tryz.ntmps157
   go_wp2_with fail
   refine (zia p k n m a o L c (-2147483648) txt d v0 wa HS.out.1 HS.out.2.1 HM.out.1 HM.out.2 (fun w1 hw=>HI.out m HM.out w1 ((HFR.out _ _ HS.out.2.2).trans (za1.of_below (Nat.le_of_lt HS.out.1.lt) hw)))).mono ?_
   rintro e w1 ⟨v1,hk,hQ⟩
   have HKM:=hid (HS.out.2.2.trans hk)
   clear hk
   rcases hQ with ⟨x1,hx1,hx2,rfl,hPR⟩|⟨hx1,he⟩
   case inr =>
    have HF:=hid (HR0.out.trans (by rw [hx1]))
    clear hx1
    unfold zaa at he
    subst he
    go_wp2
    exact ⟨rfl,v1,HEND.out _ _ HKM.out,Or.inr ⟨HF.out,rfl⟩⟩
   have HR1:=hid (HR0.out.trans (by rw [hx1]))
   have HS1:=hid3 hPR hx2 HKM.out
   clear hx1 hx2 hPR 
   go_wp2
   first|go_end0|refine bodyPost_ret (results_none rfl _ _ _) rfl ?_
   exact ⟨v1,HEND.out _ _ HS1.out.2.2,Or.inl ⟨x1,HR1.out,HS1.out.2.1,rfl,HS1.out.1⟩⟩
set_option maxHeartbeats 2000000 in
set_option maxRecDepth 4000 in
theorem zje (p:Nat) (k:Int) (n:List UInt8) (m a:Int) (o:Option Addr) (L c:Nat) (bp:List UInt8->Option (List UInt8)) (txt:List UInt8) (d:Int) (v0:Value) (w:World) (h:PR w p txt d v0) (hx:txt.length<=16000) (hn:n.length<=maxLen) (HBP0:k≠13->Hid (∀ w1,za1 p w w1->∀ txt v0,PR w1 p txt d v0->txt.length<=16000->Calls Tryz.prog 156 #[.pointer (some ⟨p,0,none⟩),zaj k n m a (.slice o L c)] w1 (zbp p d v0 (bp txt) w1))) :
 Calls Tryz.prog 158 #[.pointer (some ⟨p,0,none⟩),zaj k n m a (.slice o L c)] w (zbp p d v0 (resultP bp k n m L txt) w):=by
 by_cases h1:k=13
 · subst h1
   have HP:=hid2 h hx
   obtain ⟨R,hR⟩:∃ R,resultP bp 13 n m L txt=R:=⟨_,rfl⟩
   rw [hR]
   have HR:=hid hR.symm
   have HNL:=hid hn
   clear hn HBP0
   clear h hx hR
   obtain ⟨wa,hwa⟩:∃ x,w.alloc (.cells #[.int .i64 13,.string ⟨n.toArray⟩,.int .i64 m,.int .i64 a,.slice o L c] 29)=x:=⟨_,rfl⟩
   have HB:=hidB hwa
   have HK:Hid (wa.heap[w.heap.size]?=some (za2 13 n m a (.slice o L c))):=by show _=_;rw [<- hwa];exact heap_alloc_new _ _
   have HS:Hid (PR wa p txt d v0∧txt.length<=16000∧Lx.Kept p v0 v0 wa wa):=⟨HP.out.1.below HB.out,HP.out.2,Lx.Kept.of_below (Below.refl _ _)⟩
   have HBK:=hid (boxed HP.out.1 HK.out)
   have HEND:Hid (∀ v' w',Lx.Kept p v0 v' wa w'->Lx.Kept p v0 v' w w'):=fun v' w' hk=>(Lx.Kept.of_below HB.out).trans hk
   have HFR:Hid (∀ v' w',Lx.Kept p v0 v' wa w'->za1 p w w'):=fun v' w' hk=>HP.out.1.front (HEND.out _ _ hk)
   obtain ⟨⟨z0,z1,z2,z3,z4⟩,_⟩:=zab HK.out
   unfold zaj
   have HR0:Hid (R=aloneP [118,111,105,100] n m L txt):=by show _=_;rw [HR.out];unfold resultP;rfl
   go_enter Tryz.func158,Tryz.ntmps158
   go_wp2_with fail
   refine (zdm p 13 n m a o L c [118,111,105,100] ⟨by decide,by decide⟩ txt d v0 wa HS.out.1 HS.out.2.1 HNL.out).mono ?_
   rintro e w1 ⟨v1,hk,hQ⟩
   have HKM:=hid (HS.out.2.2.trans hk)
   clear hk
   rcases hQ with ⟨x1,hx1,hx2,rfl,hPR⟩|⟨hx1,he⟩
   case inr =>
    have HF:=hid (HR0.out.trans (by rw [hx1]))
    clear hx1
    unfold zaa at he
    subst he
    go_wp2
    exact ⟨rfl,v1,HEND.out _ _ HKM.out,Or.inr ⟨HF.out,rfl⟩⟩
   have HR1:=hid (HR0.out.trans (by rw [hx1]))
   have HS1:=hid3 hPR hx2 HKM.out
   clear hx1 hx2 hPR 
   go_wp2
   first|go_end0|refine bodyPost_ret (results_none rfl _ _ _) rfl ?_
   exact ⟨v1,HEND.out _ _ HS1.out.2.2,Or.inl ⟨x1,HR1.out,HS1.out.2.1,rfl,HS1.out.1⟩⟩
 · have j1:(k==13)=false:=by simp [h1]
   have HP:=hid2 h hx
   obtain ⟨R,hR⟩:∃ R,resultP bp k n m L txt=R:=⟨_,rfl⟩
   rw [hR]
   have HR:=hid hR.symm
   have HNL:=hid hn
   have HBP:=HBP0 h1
   unfold zaj at HBP
   clear hn HBP0
   clear h hx hR
   obtain ⟨wa,hwa⟩:∃ x,w.alloc (.cells #[.int .i64 k,.string ⟨n.toArray⟩,.int .i64 m,.int .i64 a,.slice o L c] 29)=x:=⟨_,rfl⟩
   have HB:=hidB hwa
   have HK:Hid (wa.heap[w.heap.size]?=some (za2 k n m a (.slice o L c))):=by show _=_;rw [<- hwa];exact heap_alloc_new _ _
   have HS:Hid (PR wa p txt d v0∧txt.length<=16000∧Lx.Kept p v0 v0 wa wa):=⟨HP.out.1.below HB.out,HP.out.2,Lx.Kept.of_below (Below.refl _ _)⟩
   have HBK:=hid (boxed HP.out.1 HK.out)
   have HEND:Hid (∀ v' w',Lx.Kept p v0 v' wa w'->Lx.Kept p v0 v' w w'):=fun v' w' hk=>(Lx.Kept.of_below HB.out).trans hk
   have HFR:Hid (∀ v' w',Lx.Kept p v0 v' wa w'->za1 p w w'):=fun v' w' hk=>HP.out.1.front (HEND.out _ _ hk)
   obtain ⟨⟨z0,z1,z2,z3,z4⟩,_⟩:=zab HK.out
   unfold zaj
   have HR0:Hid (R=bp txt):=by show _=_;rw [HR.out];unfold resultP;rw [if_neg h1]
   have HNE:=hid h1
   clear h1
   go_enter Tryz.func158,Tryz.ntmps158
   go_wp2_with fail
   refine (HBP.out wa (HFR.out _ _ HS.out.2.2) txt v0 HS.out.1 HS.out.2.1).mono ?_
   rintro e w1 ⟨v1,hk,hQ⟩
   have HKM:=hid (HS.out.2.2.trans hk)
   clear hk
   rcases hQ with ⟨x1,hx1,hx2,rfl,hPR⟩|⟨hx1,he⟩
   case inr =>
    have HF:=hid (HR0.out.trans (by rw [hx1]))
    clear hx1
    unfold zaa at he
    subst he
    go_wp2
    exact ⟨rfl,v1,HEND.out _ _ HKM.out,Or.inr ⟨HF.out,rfl⟩⟩
   have HR1:=hid (HR0.out.trans (by rw [hx1]))
   have HS1:=hid3 hPR hx2 HKM.out
   clear hx1 hx2 hPR 
   go_wp2
   first|go_end0|refine bodyPost_ret (results_none rfl _ _ _) rfl ?_
   exact ⟨v1,HEND.out _ _ HS1.out.2.2,Or.inl ⟨x1,HR1.out,HS1.out.2.1,rfl,HS1.out.1⟩⟩
def zd6:List (Int × Bool × List UInt8)->Int->List UInt8->Int->Nat->List UInt8->Option (List UInt8)
 | [],_,_,_,_,_=>none
 | b::r,k,n,m,L,txt=>if b.1=k then (if b.2.1 then (layP [[117,110,115,105,103,110,101,100]] txt).bind (aloneP b.2.2 n m L) else aloneP b.2.2 n m L txt) else zd6 r k n m L txt
def bareP (k:Int) (n:List UInt8) (m:Int) (L:Nat) (txt:List UInt8):Option (List UInt8):=if k=27 then refP n m L txt else zd6 zau k n m L txt
theorem bares_shorts:∀ b∈zau,b.2.2≠[]∧b.2.2.length<=64:=by decide
theorem bares_short (k:Nat) (hk:k<7):(zau[k]'hk).2.2≠[]∧(zau[k]'hk).2.2.length<=64:=bares_shorts _ (List.getElem_mem hk)
set_option maxHeartbeats 2000000 in
set_option maxRecDepth 4000 in
theorem zh3 (p:Nat) (k:Int) (n:List UInt8) (m a:Int) (o:Option Addr) (L c:Nat) (txt:List UInt8) (d:Int) (v0:Value) (w:World) (h:PR w p txt d v0) (hx:txt.length<=16000) (hn:n.length<=maxLen) (hG:zd3 w) (h0:0<p) :
 Calls Tryz.prog 156 #[.pointer (some ⟨p,0,none⟩),zaj k n m a (.slice o L c)] w (zbp p d v0 (bareP k n m L txt) w):=by
 by_cases h1:k=27
 · subst h1
   have HP:=hid2 h hx
   obtain ⟨R,hR⟩:∃ R,bareP 27 n m L txt=R:=⟨_,rfl⟩
   rw [hR]
   have HR:=hid hR.symm
   have HNL:=hid hn
   have HG:=hid2 hG h0
   clear hn hG h0
   clear h hx hR
   obtain ⟨wa,hwa⟩:∃ x,w.alloc (.cells #[.int .i64 27,.string ⟨n.toArray⟩,.int .i64 m,.int .i64 a,.slice o L c] 29)=x:=⟨_,rfl⟩
   have HB:=hidB hwa
   have HK:Hid (wa.heap[w.heap.size]?=some (za2 27 n m a (.slice o L c))):=by show _=_;rw [<- hwa];exact heap_alloc_new _ _
   have HS:Hid (PR wa p txt d v0∧txt.length<=16000∧Lx.Kept p v0 v0 wa wa):=⟨HP.out.1.below HB.out,HP.out.2,Lx.Kept.of_below (Below.refl _ _)⟩
   have HBK:=hid (boxed HP.out.1 HK.out)
   have HEND:Hid (∀ v' w',Lx.Kept p v0 v' wa w'->Lx.Kept p v0 v' w w'):=fun v' w' hk=>(Lx.Kept.of_below HB.out).trans hk
   have HFR:Hid (∀ v' w',Lx.Kept p v0 v' wa w'->za1 p w w'):=fun v' w' hk=>HP.out.1.front (HEND.out _ _ hk)
   obtain ⟨⟨z0,z1,z2,z3,z4⟩,_⟩:=zab HK.out
   unfold zaj
   have HR0:Hid (R=refP n m L txt):=by show _=_;rw [HR.out];unfold bareP;rfl
   go_enter Tryz.func156,Tryz.ntmps156
   go_wp2_with fail
   refine (zej p 27 n m a o L c txt d v0 wa HS.out.1 HS.out.2.1 HNL.out).mono ?_
   rintro e w1 ⟨v1,hk,hQ⟩
   have HKM:=hid (HS.out.2.2.trans hk)
   clear hk
   rcases hQ with ⟨x1,hx1,hx2,rfl,hPR⟩|⟨hx1,he⟩
   case inr =>
    have HF:=hid (HR0.out.trans (by rw [hx1]))
    clear hx1
    unfold zaa at he
    subst he
    go_wp2
    exact ⟨rfl,v1,HEND.out _ _ HKM.out,Or.inr ⟨HF.out,rfl⟩⟩
   have HR1:=hid (HR0.out.trans (by rw [hx1]))
   have HS1:=hid3 hPR hx2 HKM.out
   clear hx1 hx2 hPR 
   go_wp2
   first|go_end0|refine bodyPost_ret (results_none rfl _ _ _) rfl ?_
   exact ⟨v1,HEND.out _ _ HS1.out.2.2,Or.inl ⟨x1,HR1.out,HS1.out.2.1,rfl,HS1.out.1⟩⟩
 · have j1:(k==27)=false:=by simp [h1]
   have HP:=hid2 h hx
   obtain ⟨R,hR⟩:∃ R,bareP k n m L txt=R:=⟨_,rfl⟩
   rw [hR]
   have HR:=hid hR.symm
   have HNL:=hid hn
   have HG:=hid2 hG h0
   clear hn hG h0
   clear h hx hR
   obtain ⟨wa,hwa⟩:∃ x,w.alloc (.cells #[.int .i64 k,.string ⟨n.toArray⟩,.int .i64 m,.int .i64 a,.slice o L c] 29)=x:=⟨_,rfl⟩
   have HB:=hidB hwa
   have HK:Hid (wa.heap[w.heap.size]?=some (za2 k n m a (.slice o L c))):=by show _=_;rw [<- hwa];exact heap_alloc_new _ _
   have HS:Hid (PR wa p txt d v0∧txt.length<=16000∧Lx.Kept p v0 v0 wa wa):=⟨HP.out.1.below HB.out,HP.out.2,Lx.Kept.of_below (Below.refl _ _)⟩
   have HBK:=hid (boxed HP.out.1 HK.out)
   have HEND:Hid (∀ v' w',Lx.Kept p v0 v' wa w'->Lx.Kept p v0 v' w w'):=fun v' w' hk=>(Lx.Kept.of_below HB.out).trans hk
   have HFR:Hid (∀ v' w',Lx.Kept p v0 v' wa w'->za1 p w w'):=fun v' w' hk=>HP.out.1.front (HEND.out _ _ hk)
   obtain ⟨⟨z0,z1,z2,z3,z4⟩,_⟩:=zab HK.out
   unfold zaj
   have HR0:Hid (R=zd6 zau k n m L txt):=by show _=_;rw [HR.out];unfold bareP;rw [if_neg h1]
   clear h1
   obtain ⟨bt,bfr,hbar⟩:=HG.out.1.below HB.out
   have HBX:=hid hbar
   clear hbar
   go_enter Tryz.func156,Tryz.ntmps156
   go_wp2_with (refine wpList_load_row rfl 125 _ rfl 0 rfl bt zh8 bfr _ HBX.out Tryz.underlying125 rfl (by kernel_rfl) ?_)
   clear z0 z1 z2 z3 z4
   go_loopw [13] (fun i wr=>∃ q:Nat,i=.int .i64 q∧q<=7∧Hid (Below wa.heap.size wa wr)∧Hid (R=zd6 (zau.drop q) k n m L txt)) (fun i _=>7 - (RowKit.intOf i).toNat)
   case atStart=>exact ⟨0,rfl,by omega,Below.refl _ _,HR0⟩
   case round =>
    obtain ⟨q,rfl,hq7,HBW,HRQ⟩:=hrel
    by_cases hlt:q<7
    · have hlt' : (q:Int)<7:=by omega
      obtain ⟨kk,uu,ww,HEL⟩:∃ kk uu ww,Hid (zau[q]'hlt=(kk,uu,ww)):=⟨_,_,_,rfl⟩
      have hat:∀ w,(Instr.index 125 (.agg zh8) (.int .i64 q)).run Tryz.prog w=.ok (.agg #[.int .i64 kk,.bool uu,.string ⟨ww.toArray⟩]) w:=fun w=>by
       have:=zoq q hlt w
       rw [HEL.out] at this
       exact this
      have HD:Hid (zau.drop q=(kk,uu,ww)::zau.drop (q+1)):=by show _=_;rw [List.drop_eq_getElem_cons hlt,HEL.out]
      have HN:Hid (ww≠[]∧ww.length<=64):=by
       show ww≠[]∧ww.length<=64
       have:=bares_short q hlt
       rw [HEL.out] at this
       exact this
      obtain ⟨wb,hwb⟩:∃ wb,wr.alloc (.cells #[.int .i64 kk,.bool uu,.string ⟨ww.toArray⟩] 124)=wb:=⟨_,rfl⟩
      have l0:wb.cell? ⟨wr.heap.size,0,none⟩=some (.int .i64 kk):=by rw [<- hwb];simp
      have l1:wb.cell? ⟨wr.heap.size,1,none⟩=some (.bool uu):=by rw [<- hwb];simp
      have l2:wb.cell? ⟨wr.heap.size,2,none⟩=some (.string ⟨ww.toArray⟩):=by rw [<- hwb];simp
      have HBB:Hid (Below wa.heap.size wa wb∧wr.heap.size<wb.heap.size):=by
       refine ⟨?_,by rw [<- hwb];simp⟩
       rw [<- hwb];exact HBW.out.alloc HBW.out.size _
      have HROW:Hid (wb.heap[wr.heap.size]?=some (.cells #[.int .i64 kk,.bool uu,.string ⟨ww.toArray⟩] 124 (0,0))):=by show _=_;rw [<- hwb];exact heap_alloc_new _ _
      have HOWN:=hid HBW.out.size
      have HSB:Hid (PR wb p txt d v0∧txt.length<=16000∧Lx.Kept p v0 v0 wa wb):=⟨HS.out.1.below HBB.out.1,HS.out.2.1,Lx.Kept.of_below HBB.out.1⟩
      have HKL:=hid hlt
      have HQN:Hid (kk=k->R=if uu then (layP [[117,110,115,105,103,110,101,100]] txt).bind (aloneP ww n m L) else aloneP ww n m L txt):=fun hk=>by rw [HRQ.out,HD.out];unfold zd6;rw [if_pos hk]
      have HQS:Hid (kk≠k->R=zd6 (zau.drop (q+1)) k n m L txt):=fun hk=>by rw [HRQ.out,HD.out,zd6];rw [if_neg hk]
      obtain ⟨⟨z0,z1,z2,z3,z4⟩,_⟩:=zab (HBK.out _ _ HSB.out.2.2)
      clear hlt HRQ HD HEL
      by_cases hkk:kk=k
      · have j2:(kk != k)=false:=by simp [hkk]
        have HR1:=HQN.out hkk
        cases uu with
        | false =>
        have HR4:=hid HR1
        clear HR1 hkk
        go_wp2_with fail
        refine (zdm p k n m a o L c ww HN.out txt d v0 wb HSB.out.1 HSB.out.2.1 HNL.out).mono ?_
        rintro e w5 ⟨v5,hk,hQ⟩
        have HKM:=hid (HSB.out.2.2.trans hk)
        clear hk
        rcases hQ with ⟨x5,hx1,hx2,rfl,hPR⟩|⟨hx1,he⟩
        case inr =>
         have HF:=hid (HR4.out.trans (by rw [hx1]))
         clear hx1
         unfold zaa at he
         subst he
         go_wp2
         exact ⟨rfl,v5,HEND.out _ _ HKM.out,Or.inr ⟨HF.out,rfl⟩⟩
        have HR5:=hid (HR4.out.trans (by rw [hx1]))
        have HS5:=hid3 hPR hx2 HKM.out
        clear hx1 hx2 hPR 
        go_wp2
        first|go_end0|refine bodyPost_ret (results_none rfl _ _ _) rfl ?_
        exact ⟨v5,HEND.out _ _ HS5.out.2.2,Or.inl ⟨x5,HR5.out,HS5.out.2.1,rfl,HS5.out.1⟩⟩
        | true =>
        have HR4:=hid HR1
        clear HR1 hkk
        go_wp2_with fail
        refine (za7 p [[117,110,115,105,103,110,101,100]] _ rfl (by intro t ht;simp only [List.mem_cons,List.not_mem_nil,or_false] at ht;rcases ht with rfl <;> first|exact HN.out|exact HOP.out|exact HSH.out|exact ⟨by decide,by decide⟩) (by simp) 1 rfl txt d v0 wb HSB.out.1 HSB.out.2.1).mono ?_
        rintro e w5 ⟨v5,hk,hQ⟩
        have HKM:=hid (HSB.out.2.2.trans hk)
        have HRW:Hid (w5.heap[wr.heap.size]?=some (.cells #[.int .i64 kk,.bool true,.string ⟨ww.toArray⟩] 124 (0,0))):=(hk.block _ HBB.out.2 (by have:=HS.out.1.lt;have:=HOWN.out;omega) (own_lt HS.out.1.own _ HOWN.out)).trans HROW.out
        clear hk
        rcases hQ with ⟨x5,hx1,hx2,rfl,hPR⟩|⟨hx1,he⟩
        case inr =>
         have HF:Hid (R=none):=HR4.out.trans (by rw [hx1];rfl)
         clear hx1
         unfold zaa at he
         subst he
         go_wp2
         exact ⟨rfl,v5,HEND.out _ _ HKM.out,Or.inr ⟨HF.out,rfl⟩⟩
        have HR5:Hid (R=aloneP ww n m L x5):=HR4.out.trans (by rw [hx1];rfl)
        have HS5:=hid3 hPR hx2 HKM.out
        clear hx1 hx2 hPR z0 z1 z2 z3 z4 l0 l1 l2
        have l2:w5.cell? ⟨wr.heap.size,2,none⟩=some (.string ⟨ww.toArray⟩):=by have hb:=HRW.out;unfold World.cell?;simp only [hb];rfl
        obtain ⟨⟨z0,z1,z2,z3,z4⟩,_⟩:=zab (HBK.out _ _ HS5.out.2.2)
        go_wp2_with fail
        refine (zdm p k n m a o L c ww HN.out x5 d v5 w5 HS5.out.1 HS5.out.2.1 HNL.out).mono ?_
        rintro e w6 ⟨v6,hk,hQ⟩
        have HKM:=hid (HS5.out.2.2.trans hk)
        clear hk
        rcases hQ with ⟨x6,hx1,hx2,rfl,hPR⟩|⟨hx1,he⟩
        case inr =>
         have HF:=hid (HR5.out.trans (by rw [hx1]))
         clear hx1
         unfold zaa at he
         subst he
         go_wp2
         exact ⟨rfl,v6,HEND.out _ _ HKM.out,Or.inr ⟨HF.out,rfl⟩⟩
        have HR6:=hid (HR5.out.trans (by rw [hx1]))
        have HS6:=hid3 hPR hx2 HKM.out
        clear hx1 hx2 hPR 
        go_wp2
        first|go_end0|refine bodyPost_ret (results_none rfl _ _ _) rfl ?_
        exact ⟨v6,HEND.out _ _ HS6.out.2.2,Or.inl ⟨x6,HR6.out,HS6.out.2.1,rfl,HS6.out.1⟩⟩
      · have j2:(kk != k)=true:=by simp [hkk]
        have HR2:=hid (HQS.out hkk)
        clear hkk
        go_wp2
        go_roundw
        case rel=>exact ⟨q+1,by go_num,HKL.out,HBB.out.1,HR2⟩
        case measure=>simp [RowKit.intOf];omega
    · have hqe:q=7:=by omega
      subst hqe
      have HR2:Hid (R=none):=by show _=_;rw [HRQ.out];rfl
      clear HRQ
      go_wp2_with (go_at_call 58;refine (zak _).mono ?_;rintro e wi ⟨he,hwi⟩;rw [hwi];clear hwi;unfold zaa at he;rw [he];clear he wi)
      exact ⟨rfl,v0,HEND.out _ _ (Lx.Kept.of_below HBW.out),Or.inr ⟨HR2.out,rfl⟩⟩
end Go.Proofs.YtodfklpmbclgkaaGreatDoor.Pr
