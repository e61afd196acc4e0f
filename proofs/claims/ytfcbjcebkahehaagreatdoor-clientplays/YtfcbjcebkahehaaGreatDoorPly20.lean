import Derived.Test.YtfcbjcebkahehaaGreatDoorPly19
import Derived.Test.YtfcbjcebkahehaaGreatDoorPly02
import Derived.Deep.Slices
set_option maxRecDepth 8000
set_option maxHeartbeats 20000000
set_option linter.unusedSimpArgs false
namespace Go.Proofs.YtfcbjcebkahehaaGreatDoor.Cl
open Go.RowKit
theorem Mk.toBelow {w w' : World} {K K' : Nat->Nat} (m:Mk (fun _=>False) w w' K K'):Below w.heap.size w w':=⟨m.os,m.tape,m.output,m.size,fun b hb=>m.kept b hb (fun e=>e)⟩
theorem bld42 (w:World):(Instr.build 42 #[]).run Tryz.prog w=.ok (.agg #[.slice none 0 0,.slice none 0 0,.slice none 0 0,.slice none 0 0,.slice none 0 0,.slice none 0 0,.slice none 0 0,.slice none 0 0,.slice none 0 0]) w:=by kernel_rfl
def nilB:Obj:=.cells #[.slice none 0 0,.slice none 0 0,.slice none 0 0,.slice none 0 0,.slice none 0 0,.slice none 0 0,.slice none 0 0,.slice none 0 0,.slice none 0 0] 42
theorem PS.first {W wa wb wc:World} {one two:Cf} {s1 s2:Nat} (h0:Below W.heap.size W wa) (b1:1<W.heap.size) (hT:ErrT W) (q1:zdr wa wb one s1) (m1:Below wa.heap.size wa wb) (q2:zdr wb wc two s2) (m2:Below wb.heap.size wb wc) :
 ∃ K,PS W K (wc.alloc nilB) s1 s2 wc.heap.size 0:=by
 have hTa:ErrT wa:=(World.cell?_of_block (a:=⟨1,0,none⟩) (h0.block 1 b1)).trans hT;have hTb:ErrT wb:=(World.cell?_of_block (a:=⟨1,0,none⟩) (m1.block 1 (Nat.lt_of_lt_of_le b1 h0.size))).trans hTa;have hz0:∀ b,b<W.heap.size->ext W (fun _=>0) (fun _=>298) b=0:=fun b hb=>zbd hb;obtain ⟨K1,a1,n1⟩:=q1.sp m1 (B:=W.heap.size) (t:=100) (K:=ext W (fun _=>0) (fun _=>298)) h0.size (fun b hb=>by rw [hz0 b hb];omega) b1 hTa;have hz1:=n1.wk.zero (fun e=>e) h0.size hz0;have hB1:=Nat.le_trans h0.size m1.size;obtain ⟨K2,a2,n2⟩:=q2.sp m2 (B:=W.heap.size) (t:=200) (K:=K1) hB1 (fun b hb=>by rw [hz1 b hb];omega) b1 hTb;have hz2:=n2.wk.zero (fun e=>e) hB1 hz1;have hB2:=Nat.le_trans hB1 m2.size;have m3:=Mv.alloc wc K2 (fun _=>300) nilB;refine ⟨_,(a1.wk n2.wk hz1 (fun e=>e) (fun _ _ e=>e)).wk m3.wk hz2 (fun e=>e) (fun _ _ e=>e),a2.wk m3.wk hz2 (fun e=>e) (fun _ _ e=>e),?_,m3.wk.zero (fun e=>e) hB2 hz2,(h0.trans (m1.mono h0.size)).trans ((m2.mono hB1).trans (((Below.refl _ _).alloc (Nat.le_refl _) nilB).mono hB2))⟩;have bl:∀ {α:Type} (e sz le:Nat) (cf:α->List Value) (mk:Nat->α) (a:Nat),BL e sz le cf mk a 0 0 (ext wc K2 (fun _=>300)) (wc.alloc nilB) W.heap.size ⟨.slice none 0 0,.slice none 0 0,.slice none 0 0,[],[],[],0⟩:=fun e sz le cf mk a=>⟨RW.nil _ _ _ _ _ _ _,RW.nil _ _ _ _ _ _ _,RW.nil _ _ _ _ _ _ _,rfl,rfl,Nat.zero_le _,fun j s _ hs=>(by simp at hs),fun t s hs=>(by simp at hs),Nat.le_trans hB2 m3.size⟩;exact ⟨⟨.slice none 0 0,.slice none 0 0,.slice none 0 0,[],[],[],0⟩,⟨.slice none 0 0,.slice none 0 0,.slice none 0 0,[],[],[],0⟩,⟨.slice none 0 0,.slice none 0 0,.slice none 0 0,[],[],[],0⟩,⟨TB.new wc K2 (fun _=>300) nilB rfl,bl _ _ _ _ _ _,bl _ _ _ _ _ _,bl _ _ _ _ _ _⟩,by simp,by simp,by simp⟩
theorem plays_any (one two:Cf) (oa1 oa2 oa:Option Addr) (cap1 cap2 n cap:Nat) (A:Nat->OpR) (w:World) (hT:ErrT w) (hg1:GsAt w w.heap.size oa1 one.sys.groups) (hc1:one.sys.groups.length<=cap1) (hg2:GsAt w w.heap.size oa2 two.sys.groups) (hc2:two.sys.groups.length<=cap2) (hA:OpsAt w oa n A) :
 Calls Tryz.prog 4 #[.agg (cfA one oa1 cap1),.agg (cfA two oa2 cap2),.slice oa n cap] w fun e w'=>e=.returned (.bool true)∧Below w.heap.size w w':=by
 obtain ⟨S0,hS0⟩:∃ y,w.heap.size=y:=⟨_,rfl⟩;obtain ⟨w0,hw0⟩:∃ y,w.alloc (cfB one oa1 cap1)=y:=⟨_,rfl⟩;obtain ⟨S1,hS1⟩:∃ y,w0.heap.size=y:=⟨_,rfl⟩;obtain ⟨w1,hw1⟩:∃ y,w0.alloc (cfB two oa2 cap2)=y:=⟨_,rfl⟩;have B0:Below w.heap.size w w0:=by rw [<- hw0];exact (Below.refl _ _).alloc (Nat.le_refl _) _
 have B1:Below w0.heap.size w0 w1:=by rw [<- hw1];exact (Below.refl _ _).alloc (Nat.le_refl _) _
 have k0:w0.heap[S0]?=some (cfB one oa1 cap1):=by rw [<- hw0,<- hS0];exact (MapKept.heap_alloc w _).1
 have k1:w1.heap[S1]?=some (cfB two oa2 cap2):=by rw [<- hw1,<- hS1];exact (MapKept.heap_alloc w0 _).1
 have hlt0:S0<w0.heap.size:=(Array.getElem?_eq_some_iff.1 k0).1;have hlt1:S1<w1.heap.size:=(Array.getElem?_eq_some_iff.1 k1).1;have k10:w1.heap[S0]?=some (cfB one oa1 cap1):=(B1.block S0 hlt0).trans k0;have hl1:1<w.heap.size:=World.block_lt_of_cell? _ _ hT;have Ab:Hid (Below w.heap.size w w1):=B0.trans (B1.mono B0.size);obtain ⟨ms1,hms1⟩:∃ ms:ByteArray,(⟨one.sys.machine.toArray⟩:ByteArray)=ms:=⟨_,rfl⟩;obtain ⟨ms2,hms2⟩:∃ ms:ByteArray,(⟨two.sys.machine.toArray⟩:ByteArray)=ms:=⟨_,rfl⟩;have hz1:ms1.size=one.sys.machine.length:=by rw [<- hms1];simp [ByteArray.size]
 have hz2:ms2.size=two.sys.machine.length:=by rw [<- hms2];simp [ByteArray.size]
 obtain ⟨n1,hn1⟩:∃ n,one.sys.groups.length=n:=⟨_,rfl⟩;obtain ⟨n2,hn2⟩:∃ n,two.sys.groups.length=n:=⟨_,rfl⟩;have c8:w1.cell? ⟨S0,8,none⟩=some (.string ms1):=by rw [<- hms1];exact zaa k10 rfl
 have c11:w1.cell? ⟨S0,11,none⟩=some (.slice oa1 n1 cap1):=by rw [<- hn1];exact zaa k10 rfl
 have d8:w1.cell? ⟨S1,8,none⟩=some (.string ms2):=by rw [<- hms2];exact zaa k1 rfl
 have d11:w1.cell? ⟨S1,11,none⟩=some (.slice oa2 n2 cap2):=by rw [<- hn2];exact zaa k1 rfl
 have wn:=wgs_nn n A n;obtain ⟨W,hW⟩:∃ y,wgs n A n=y:=⟨_,rfl⟩;rw [hW] at wn;obtain ⟨v1,hv1⟩:∃ y,aU (ms1.size:Int) (n1:Int)=y:=⟨_,rfl⟩;obtain ⟨v2,hv2⟩:∃ y,aU (ms2.size:Int) (n2:Int)=y:=⟨_,rfl⟩;obtain ⟨v3,hv3⟩:∃ y,aU v1 v2=y:=⟨_,rfl⟩;obtain ⟨v4,hv4⟩:∃ y,aU W v3=y:=⟨_,rfl⟩;have a1:0<=v1:=by rw [<- hv1];exact zgj (by omega) (by omega)
 have a2:0<=v2:=by rw [<- hv2];exact zgj (by omega) (by omega)
 have a3:0<=v3:=by rw [<- hv3];exact zgj a1 a2
 have G0:Hid (∀ m',Calls Tryz.prog 9 #[.slice oa n cap] (w1.drewN m') fun e w''=>e=.returned (iI W)∧∃ m,w''=w1.drewN m):=fun m'=>(weighs_any oa n cap A (w1.drewN m') ((hA.below Ab.out).below (zak w1 (fun _=>0) m').wk.toBelow)).mono (by rintro _ w2 ⟨rfl,k,rfl⟩;exact ⟨by rw [hW],m'+k,World.drewN_drewN _ _ _⟩);have G1:Hid (∀ m',Calls Tryz.prog 6 #[iI (ms1.size:Int),iI (n1:Int)] (w1.drewN m') fun e w''=>e=.returned (iI v1)∧∃ m,w''=w1.drewN m):=fun m'=>(zet _ _ (by omega) (by omega) _).mono (by rintro _ w2 ⟨rfl,rfl⟩;exact ⟨by rw [hv1],m',rfl⟩);have G2:Hid (∀ m',Calls Tryz.prog 6 #[iI (ms2.size:Int),iI (n2:Int)] (w1.drewN m') fun e w''=>e=.returned (iI v2)∧∃ m,w''=w1.drewN m):=fun m'=>(zet _ _ (by omega) (by omega) _).mono (by rintro _ w2 ⟨rfl,rfl⟩;exact ⟨by rw [hv2],m',rfl⟩);have G3:Hid (∀ m',Calls Tryz.prog 6 #[iI v1,iI v2] (w1.drewN m') fun e w''=>e=.returned (iI v3)∧∃ m,w''=w1.drewN m):=fun m'=>(zet _ _ a1 a2 _).mono (by rintro _ w2 ⟨rfl,rfl⟩;exact ⟨by rw [hv3],m',rfl⟩);have G4:Hid (∀ m',Calls Tryz.prog 6 #[iI W,iI v3] (w1.drewN m') fun e w''=>e=.returned (iI v4)∧∃ m,w''=w1.drewN m):=fun m'=>(zet _ _ wn a3 _).mono (by rintro _ w2 ⟨rfl,rfl⟩;exact ⟨by rw [hv4],m',rfl⟩);have HD:Hid (∀ m,Below w.heap.size w (w1.drewN m)):=fun m=>Ab.out.trans (((zak w1 (fun _=>0) m).wk.toBelow).mono Ab.out.size);by_cases hbig:(2147483647:Int)<v4
 · clear hT hg1 hc1 hg2 hc2 hA B0 B1 k0 k1 k10 hlt0 hlt1 hl1 Ab hms1 hms2 hz1 hz2 hn1 hn2 wn hW hv1 hv2 hv3 hv4 a1 a2 a3;go_enter Tryz.func4,Tryz.ntmps4
   go_wp2_with fail
   go_quiet (first|(go_at_call 9;with_reducible exact G0.out _)|(go_at_call 6;first|with_reducible exact G1.out _|with_reducible exact G2.out _|with_reducible exact G3.out _|with_reducible exact G4.out _))
   go_wp2;go_ret;exact ⟨by simp,HD.out _⟩
 · obtain ⟨hWB,hv3B,_⟩:=zib (n:=W) (m:=v3) (by omega);obtain ⟨hv1B,hv2B,_⟩:=zib (n:=v1) (m:=v2) (by omega);obtain ⟨x1,x2,_⟩:=zib (n:=(ms1.size:Int)) (m:=(n1:Int)) (by omega);obtain ⟨y1,y2,_⟩:=zib (n:=(ms2.size:Int)) (m:=(n2:Int)) (by omega);obtain ⟨wo1,wo2⟩:=wgs_ok n A n (by omega);have hn33:n<=33554431:=by omega
   have Ag:Hid (∀ j,j<n->(A j).fits):=fun j hj=>⟨(hA.ok j hj).1,(hA.ok j hj).2.1,(hA.ok j hj).2.2.1,(wo2 j hj).1,(wo2 j hj).2.1,(wo2 j hj).2.2⟩;have HE:Hid (∀ w',Below w.heap.size w w'->ErrT w'):=fun w' hb=>(World.cell?_of_block (a:=⟨1,0,none⟩) (hb.block 1 hl1)).trans hT;have HG:Hid (∀ w',Below w.heap.size w w'->∀ (oa:Option Addr) (gs:List Int),GsAt w w.heap.size oa gs->GsAt w' w'.heap.size oa gs):=fun w' hb oa gs hg h0=>by
    obtain ⟨q,off,e1,e2,e3⟩:=hg h0;exact ⟨q,off,e1,Nat.lt_of_lt_of_le e2 hb.size,fun i hi=>(World.cell?_of_block (a:=⟨q,off+i,none⟩) (hb.block q e2)).trans (e3 i hi)⟩
   have An:Hid (∀ w',Below w1.heap.size w1 w'->w'.heap[S0]?=some (cfB one oa1 cap1)∧Calls Tryz.prog 8 #[.agg (cfA one oa1 cap1)] w' fun e w''=>∃ s,e=.returned (.tuple #[ptr s,.bool true])∧Below w'.heap.size w' w''∧zdr w' w'' one s):=fun w' hb=>by
    have bb:=Ab.out.trans (hb.mono Ab.out.size);exact ⟨(hb.block S0 (Nat.lt_of_lt_of_le hlt0 B1.size)).trans k10,zhc one oa1 cap1 n1 w' hn1 (HE.out w' bb) (HG.out w' bb _ _ hg1) (by omega) (by omega) (by omega)⟩
   have Ao:Hid (∀ w',Below w1.heap.size w1 w'->w'.heap[S1]?=some (cfB two oa2 cap2)∧Calls Tryz.prog 8 #[.agg (cfA two oa2 cap2)] w' fun e w''=>∃ s,e=.returned (.tuple #[ptr s,.bool true])∧Below w'.heap.size w' w''∧zdr w' w'' two s):=fun w' hb=>by
    have bb:=Ab.out.trans (hb.mono Ab.out.size);exact ⟨(hb.block S1 hlt1).trans k1,zhc two oa2 cap2 n2 w' hn2 (HE.out w' bb) (HG.out w' bb _ _ hg2) (by omega) (by omega) (by omega)⟩
   have HO:=hid hA;have Ap:=hid (And.intro hl1 hT);clear hT hg1 hc1 hg2 hc2 hA B0 B1 k0 k1 k10 hlt0 hlt1 hl1 hms1 hms2 hz1 hz2 hn1 hn2 wn hW hv1 hv2 hv3 hv4 a1 a2 a3 hWB hv3B hv1B hv2B x1 x2 y1 y2 wo1 wo2;have hni:(n:Int)<=33554431:=by omega
   go_enter Tryz.func4,Tryz.ntmps4
   go_wp2_with fail
   go_quiet (first|(go_at_call 9;with_reducible exact G0.out _)|(go_at_call 6;first|with_reducible exact G1.out _|with_reducible exact G2.out _|with_reducible exact G3.out _|with_reducible exact G4.out _))
   obtain ⟨w2,hw2⟩:∃ y,w1.drewN nq=y:=⟨_,rfl⟩;rw [hw2];have Ak:Hid (Below w1.heap.size w1 w2):=by rw [<- hw2];exact (zak w1 (fun _=>0) nq).wk.toBelow
   clear G0 G1 G2 G3 G4 HD c8 c11 d8 d11 hw2 hw0 hw1 hS0 hS1;go_wp2_with fail
   refine (awake_any w2 (HE.out w2 (Ab.out.trans (Ak.out.mono Ab.out.size)))).mono ?_;rintro _ w3 ⟨rfl,hb3⟩;have Ah:Hid (Below w1.heap.size w1 w3):=Ak.out.trans (hb3.mono Ak.out.size);obtain ⟨k3,hC3⟩:=An.out w3 Ah.out;have Aq:=hid hC3;have e0:w3.cell? ⟨S0,0,none⟩=some (iI one.ad):=zaa k3 rfl;have e1:w3.cell? ⟨S0,1,none⟩=some (iI one.inst):=zaa k3 rfl;have e2:w3.cell? ⟨S0,2,none⟩=some (iI one.first):=zaa k3 rfl;have e3:w3.cell? ⟨S0,3,none⟩=some (iI one.win):=zaa k3 rfl;have e4:w3.cell? ⟨S0,4,none⟩=some (iI one.pb):=zaa k3 rfl;have e5:w3.cell? ⟨S0,5,none⟩=some (iI one.pc):=zaa k3 rfl;have e6:w3.cell? ⟨S0,6,none⟩=some (iI one.pt):=zaa k3 rfl;have e7:w3.cell? ⟨S0,7,none⟩=some (iI one.sys.stamp):=zaa k3 rfl;have e8:w3.cell? ⟨S0,8,none⟩=some (.string ⟨one.sys.machine.toArray⟩):=zaa k3 rfl;have e9:w3.cell? ⟨S0,9,none⟩=some (iI one.sys.user):=zaa k3 rfl;have e10:w3.cell? ⟨S0,10,none⟩=some (iI one.sys.group):=zaa k3 rfl;have e11:w3.cell? ⟨S0,11,none⟩=some (.slice oa1 one.sys.groups.length cap1):=zaa k3 rfl;clear k3 hC3 hb3 Ak;go_wp2_with fail
   refine Aq.out.mono ?_;rintro _ w4 ⟨s1,rfl,hb4,hq4⟩;have Ar:Hid (Below w1.heap.size w1 w4):=Ah.out.trans (hb4.mono Ah.out.size);obtain ⟨k4,hC4⟩:=Ao.out w4 Ar.out;have Au:=hid hC4;have Am:=hid (And.intro hb4 hq4);clear e0 e1 e2 e3 e4 e5 e6 e7 e8 e9 e10 e11;have f0:w4.cell? ⟨S1,0,none⟩=some (iI two.ad):=zaa k4 rfl;have f1:w4.cell? ⟨S1,1,none⟩=some (iI two.inst):=zaa k4 rfl;have f2:w4.cell? ⟨S1,2,none⟩=some (iI two.first):=zaa k4 rfl;have f3:w4.cell? ⟨S1,3,none⟩=some (iI two.win):=zaa k4 rfl;have f4:w4.cell? ⟨S1,4,none⟩=some (iI two.pb):=zaa k4 rfl;have f5:w4.cell? ⟨S1,5,none⟩=some (iI two.pc):=zaa k4 rfl;have f6:w4.cell? ⟨S1,6,none⟩=some (iI two.pt):=zaa k4 rfl;have f7:w4.cell? ⟨S1,7,none⟩=some (iI two.sys.stamp):=zaa k4 rfl;have f8:w4.cell? ⟨S1,8,none⟩=some (.string ⟨two.sys.machine.toArray⟩):=zaa k4 rfl;have f9:w4.cell? ⟨S1,9,none⟩=some (iI two.sys.user):=zaa k4 rfl;have f10:w4.cell? ⟨S1,10,none⟩=some (iI two.sys.group):=zaa k4 rfl;have f11:w4.cell? ⟨S1,11,none⟩=some (.slice oa2 two.sys.groups.length cap2):=zaa k4 rfl;clear k4 hC4 Aq hb4 hq4;go_wp2_with fail
   refine Au.out.mono ?_;rintro _ w5 ⟨s2,rfl,hb5,hq5⟩;obtain ⟨bb,hbb⟩:∃ y,w5.heap.size=y:=⟨_,rfl⟩;obtain ⟨w6,hw6⟩:∃ y,w5.alloc nilB=y:=⟨_,rfl⟩;have Av:Hid (∃ K,PS w K w6 s1 s2 bb 0):=by
    (have:=PS.first (Ab.out.trans (Ah.out.mono Ab.out.size)) Ap.out.1 Ap.out.2 Am.out.2 Am.out.1 hq5 hb5);rw [hw6,hbb] at this;exact this
   unfold nilB at hw6;have hbk:=fun w=>bld42 w;clear f0 f1 f2 f3 f4 f5 f6 f7 f8 f9 f10 f11 Au Ah Ar Am hq5 hb5 An Ao HG HE Ab;go_wp2_with fail
   clear hw6 hbb hbk;go_loopw [13] (fun iv wr=>∃ (i:Nat),iv=iI i∧i<=n∧Hid (∃ K,PS w K wr s1 s2 bb i)) (fun iv _=>n - (intOf iv).toNat)
   case atStart=>exact ⟨0,rfl,Nat.zero_le _,Av.out⟩
   case round =>
    obtain ⟨i,rfl,hi,HA⟩:=hrel;obtain ⟨w7,hw7⟩:∃ y,y=wr:=⟨_,rfl⟩;subst hw7;clear Av;by_cases hlt:i<n
    · have hlt' : (i:Int)<(n:Int):=(by omega);have hi0:(0:Int)<=(i:Int):=(by omega);obtain ⟨K,P⟩:=HA.out;obtain ⟨g,off,hoa,_,hR⟩:=(HO.out.below P.be).at_ (Nat.lt_of_le_of_lt (Nat.zero_le _) hlt);subst hoa;obtain ⟨o,ho⟩:∃ o,A i=o:=⟨_,rfl⟩;have hri:=hR i hlt;have hfo:=Ag.out i hlt;rw [ho] at hri hfo;have p1:w7.cell? ⟨g,off+i*19+1,none⟩=some (iI o.on):=hri 1 _ rfl;have Aw:=hid (zeb o.on 4 hfo.on (by omega) w7);have Ac:=hid P;have Af:=hid hri;have Al:=hid hfo;have hi33:i<=33554430:=(by omega);have Aa:=hid (And.intro hlt (And.intro (zb0 (j:=i) (by omega)) hi33));clear hR hri hfo ho P HA hi hlt hi33;(go_wp2_with fail);refine Aw.out.mono ?_;rintro _ wq ⟨kp,rfl,hkp0,hkp1,hwq⟩;rw [hwq];clear hwq wq Aw;obtain ⟨b3,hb3⟩:∃ b,(kp==(3:Int))=b:=⟨_,rfl⟩;clear hkp0 hkp1;cases b3
      · as_aux_lemma =>
        rcases Ac.out.a.cell with hc|⟨p,r,c,hsd,hc⟩
        · have HZ:Hid (∃ K,PS w K w7 s1 s2 bb (i+1)):=⟨K,Ac.out.more⟩;clear Ac Af Al p1;go_wp2;go_roundw
          case rel=>exact ⟨i+1,by first|rfl|(rw [Aa.out.2.1];rfl),Aa.out.1,HZ.out⟩
          case measure=>first|exact meas rfl hlt'|exact meas Aa.out.2.1 hlt'
        · have Ai:=hid (Ac.out.one hsd o Al.out (by have:=Aa.out.2.2;omega));have hr0:w7.rangeAt g (off+i*19) (opL o):=Af.out;clear Ac Af hsd p1;(go_wp2_with (with_reducible refine zbj 48 rfl ?_));refine (show Hid _ from ?_);refine zbh rfl 48 rfl g (off+i*19) (opL o) rfl hr0 Tryz.underlying48 rfl size48 ?_;clear hr0 hc;(go_wp2_with fail);refine Ai.out.mono ?_;rintro _ w8 ⟨rfl,hh⟩;have Aj:=hid hh.out;clear hh Ai;(go_wp2_with fail);refine Aj.out.mono ?_;rintro _ w9 ⟨rfl,hh⟩;have Ad:=hid hh.out;clear hh Aj;obtain ⟨b2,hb2⟩:∃ b,(((i:Int) % 3)==(2:Int))=b:=⟨_,rfl⟩;cases b2
          · have HZ:Hid (∃ K,PS w K w9 s1 s2 bb (i+1)):=Ad.out;clear Ad;(go_wp2_with fail);go_roundw
            case rel=>exact ⟨i+1,by first|rfl|(rw [Aa.out.2.1];rfl),Aa.out.1,HZ.out⟩
            case measure=>first|exact meas rfl hlt'|exact meas Aa.out.2.1 hlt'
          · obtain ⟨K9,P9⟩:=Ad.out;have Ae:=hid (P9.still (by have:=Aa.out.2.2;omega));clear Ad P9;(go_wp2_with fail);refine Ae.out.mono ?_;rintro _ wz ⟨rfl,hh⟩;have HZ:Hid (∃ K,PS w K wz s1 s2 bb (i+1)):=hh.out;clear hh Ae;go_wp2;go_roundw
            case rel=>exact ⟨i+1,by first|rfl|(rw [Aa.out.2.1];rfl),Aa.out.1,HZ.out⟩
            case measure=>first|exact meas rfl hlt'|exact meas Aa.out.2.1 hlt'
      · as_aux_lemma =>
        rcases Ac.out.b.cell with hc|⟨p,r,c,hsd,hc⟩
        · have HZ:Hid (∃ K,PS w K w7 s1 s2 bb (i+1)):=⟨K,Ac.out.more⟩;clear Ac Af Al p1;go_wp2;go_roundw
          case rel=>exact ⟨i+1,by first|rfl|(rw [Aa.out.2.1];rfl),Aa.out.1,HZ.out⟩
          case measure=>first|exact meas rfl hlt'|exact meas Aa.out.2.1 hlt'
        · have Ai:=hid (Ac.out.two hsd o Al.out (by have:=Aa.out.2.2;omega));have hr0:w7.rangeAt g (off+i*19) (opL o):=Af.out;clear Ac Af hsd p1;(go_wp2_with (with_reducible refine zbj 48 rfl ?_));refine (show Hid _ from ?_);refine zbh rfl 48 rfl g (off+i*19) (opL o) rfl hr0 Tryz.underlying48 rfl size48 ?_;clear hr0 hc;(go_wp2_with fail);refine Ai.out.mono ?_;rintro _ w8 ⟨rfl,hh⟩;have Aj:=hid hh.out;clear hh Ai;(go_wp2_with fail);refine Aj.out.mono ?_;rintro _ w9 ⟨rfl,hh⟩;have Ad:=hid hh.out;clear hh Aj;obtain ⟨b2,hb2⟩:∃ b,(((i:Int) % 3)==(2:Int))=b:=⟨_,rfl⟩;cases b2
          · have HZ:Hid (∃ K,PS w K w9 s1 s2 bb (i+1)):=Ad.out;clear Ad;(go_wp2_with fail);go_roundw
            case rel=>exact ⟨i+1,by first|rfl|(rw [Aa.out.2.1];rfl),Aa.out.1,HZ.out⟩
            case measure=>first|exact meas rfl hlt'|exact meas Aa.out.2.1 hlt'
          · obtain ⟨K9,P9⟩:=Ad.out;have Ae:=hid (P9.still (by have:=Aa.out.2.2;omega));clear Ad P9;(go_wp2_with fail);refine Ae.out.mono ?_;rintro _ wz ⟨rfl,hh⟩;have HZ:Hid (∃ K,PS w K wz s1 s2 bb (i+1)):=hh.out;clear hh Ae;go_wp2;go_roundw
            case rel=>exact ⟨i+1,by first|rfl|(rw [Aa.out.2.1];rfl),Aa.out.1,HZ.out⟩
            case measure=>first|exact meas rfl hlt'|exact meas Aa.out.2.1 hlt'
    · have hge:¬ (i:Int)<(n:Int):=(by omega);have e:i=n:=(by omega);obtain ⟨K,P⟩:=HA.out;have Ae:=hid (P.still (by omega));clear HA HO Ag hlt hi P e;(go_wp2_with fail);refine Ae.out.mono ?_;rintro _ w8 ⟨rfl,hh⟩;have HE:Hid (Below w.heap.size w w8):=by
       obtain ⟨K',P'⟩:=hh.out;exact P'.be
      clear Ae hh;go_wp2;go_ret;exact ⟨by simp,HE.out⟩
end Go.Proofs.YtfcbjcebkahehaaGreatDoor.Cl
namespace Go.Proofs.YtfcbjcebkahehaaGreatDoor
open Go.ChangeMaps Go.ChangeShapes Go.WideShapes Go.ChangeAt Go.RowKit
theorem cellsBl:Tryz.prog.cellsOf 4=1:=by kernel_rfl
theorem cellsRp:Tryz.prog.cellsOf 46=10:=by kernel_rfl
theorem cellsOp:Tryz.prog.cellsOf 48=19:=by kernel_rfl
theorem list9 {α:Type} (l:List α) (h:l.length=9):∃ a b c d e f g i j,l=[a,b,c,d,e,f,g,i,j]:=by
 match l,h with
 | [a,b,c,d,e,f,g,i,j],_=>exact ⟨a,b,c,d,e,f,g,i,j,rfl⟩
theorem list19 {α:Type} (l:List α) (h:l.length=19):∃ a0 a1 a2 a3 a4 a5 a6 a7 a8 a9 b0 b1 b2 b3 b4 b5 b6 b7 b8,l=[a0,a1,a2,a3,a4,a5,a6,a7,a8,a9,b0,b1,b2,b3,b4,b5,b6,b7,b8]:=by
 match l,h with
 | [a0,a1,a2,a3,a4,a5,a6,a7,a8,a9,b0,b1,b2,b3,b4,b5,b6,b7,b8],_=>exact ⟨a0,a1,a2,a3,a4,a5,a6,a7,a8,a9,b0,b1,b2,b3,b4,b5,b6,b7,b8,rfl⟩
theorem zhq {n:Nat} (h:n<=reachBytes):n<=281474976710656:=by unfold reachBytes at h;omega
theorem i64_of {n:Int} (h:(Lit.int .i64 n).wf=true):Cl.I64 n:=wf_i64 h
section
variable {H:Type} {enc:TypeId × Value->H} {w:World} {base:Nat} {sp:Nat->Bool} {held:Bool}
theorem auth_op {fuel:Nat} {cs:List Value} {x:DataW H × List MemPlace} (h:DataW.trod enc Tryz.prog w base sp held fuel 44 cs=some x) :
 ∃ a:AuthP,cs=[iI a.flavor,.string ⟨a.body.toArray⟩]∧((x.1.weights Tryz.prog 44).all (·<=reachBytes)=true->a.body.length<=281474976710656):=by
 obtain ⟨xs,n,_,hx,hl,hlen,hall⟩:=DataW.trod_struct Tryz.underlying44 h;rw [cellsAu] at hl;obtain ⟨v0,v1,rfl⟩:=list2 cs hl;obtain ⟨y0,y1,rfl⟩:=list2 xs hlen
 have e0:=hall 0 { name := "Flavor",type:=3,offset:=0,embedded:=false,tag := "",pkgPath := "",byteOffset:=0 } rfl
 have e1:=hall 1 { name := "Body",type:=9,offset:=1,embedded:=false,tag := "",pkgPath := "",byteOffset:=8 } rfl
 dsimp only at e0 e1
 rw [zgg] at e0;rw [cellsS] at e1;obtain ⟨z0,hz0,rfl,i0⟩:=DataW.trod_int Tryz.underlying3 (cs:=[v0]) (x:=y0) e0;obtain ⟨z1,hz1,rfl,_⟩:=DataW.trod_string Tryz.underlying9 (cs:=[v1]) (x:=y1) e1;rw [List.cons.injEq] at hz0 hz1;refine ⟨⟨z0,z1.data.toList⟩,by rw [hz0.1,hz1.1],fun hw=>?_⟩;rw [hx] at hw;simp [DataW.weights,DataW.weightsEach,Tryz.underlying44] at hw
 exact zhq hw
theorem reply_op {fuel:Nat} {cs:List Value} {x:DataW H × List MemPlace} (h:DataW.trod enc Tryz.prog w base sp held fuel 46 cs=some x) :
 ∃ c:ReplyP,cs=zam c∧((x.1.weights Tryz.prog 46).all (·<=reachBytes)=true->c.verf.body.length<=281474976710656∧c.results.length<=281474976710656):=by
 obtain ⟨xs,n,_,hx,hl,hlen,hall⟩:=DataW.trod_struct Tryz.underlying46 h;rw [cellsRp] at hl;obtain ⟨v0,v1,v2,v3,v4,v5,v6,v7,v8,v9,rfl⟩:=list10 cs hl;obtain ⟨y0,y1,y2,y3,y4,y5,y6,y7,y8,rfl⟩:=list9 xs hlen
 have e0:=hall 0 { name := "Xid",type:=3,offset:=0,embedded:=false,tag := "",pkgPath := "",byteOffset:=0 } rfl
 have e1:=hall 1 { name := "Denied",type:=4,offset:=1,embedded:=false,tag := "",pkgPath := "",byteOffset:=8 } rfl
 have e2:=hall 2 { name := "Verf",type:=44,offset:=2,embedded:=false,tag := "",pkgPath := "",byteOffset:=16 } rfl
 have e3:=hall 3 { name := "Accept",type:=3,offset:=4,embedded:=false,tag := "",pkgPath := "",byteOffset:=40 } rfl
 have e4:=hall 4 { name := "Reject",type:=3,offset:=5,embedded:=false,tag := "",pkgPath := "",byteOffset:=48 } rfl
 have e5:=hall 5 { name := "Why",type:=3,offset:=6,embedded:=false,tag := "",pkgPath := "",byteOffset:=56 } rfl
 have e6:=hall 6 { name := "Low",type:=3,offset:=7,embedded:=false,tag := "",pkgPath := "",byteOffset:=64 } rfl
 have e7:=hall 7 { name := "High",type:=3,offset:=8,embedded:=false,tag := "",pkgPath := "",byteOffset:=72 } rfl
 have e8:=hall 8 { name := "Results",type:=9,offset:=9,embedded:=false,tag := "",pkgPath := "",byteOffset:=80 } rfl
 dsimp only at e0 e1 e2 e3 e4 e5 e6 e7 e8
 rw [zgg] at e0 e3 e4 e5 e6 e7;rw [cellsAu] at e2;rw [cellsS] at e8;rw [cellsBl] at e1;obtain ⟨z0,hz0,rfl,i0⟩:=DataW.trod_int Tryz.underlying3 (cs:=[v0]) (x:=y0) e0;obtain ⟨z1,hz1,rfl⟩:=DataW.trod_bool Tryz.underlying4 (cs:=[v1]) (x:=y1) e1;obtain ⟨z2,hz2,w2⟩:=auth_op (cs:=[v2,v3]) (x:=y2) e2;obtain ⟨z3,hz3,rfl,i3⟩:=DataW.trod_int Tryz.underlying3 (cs:=[v4]) (x:=y3) e3;obtain ⟨z4,hz4,rfl,i4⟩:=DataW.trod_int Tryz.underlying3 (cs:=[v5]) (x:=y4) e4;obtain ⟨z5,hz5,rfl,i5⟩:=DataW.trod_int Tryz.underlying3 (cs:=[v6]) (x:=y5) e5;obtain ⟨z6,hz6,rfl,i6⟩:=DataW.trod_int Tryz.underlying3 (cs:=[v7]) (x:=y6) e6;obtain ⟨z7,hz7,rfl,i7⟩:=DataW.trod_int Tryz.underlying3 (cs:=[v8]) (x:=y7) e7;obtain ⟨z8,hz8,rfl,_⟩:=DataW.trod_string Tryz.underlying9 (cs:=[v9]) (x:=y8) e8;simp only [List.cons.injEq,and_true] at hz0 hz1 hz2 hz3 hz4 hz5 hz6 hz7 hz8;refine ⟨⟨z0,z1,z2,z3,z6,z7,z8.data.toList,z4,z5⟩,?_,fun hw=>?_⟩
 · rw [hz0,hz1,hz2.1,hz2.2,hz3,hz4,hz5,hz6,hz7,hz8];rfl
 · rw [hx] at hw;simp [DataW.weights,DataW.weightsEach,Tryz.underlying46] at hw
   exact ⟨w2 (by simpa using hw.1),zhq hw.2⟩
theorem op_up {fuel:Nat} {cs:List Value} {x:DataW H × List MemPlace} (h:DataW.trod enc Tryz.prog w base sp held fuel 48 cs=some x) (hw:(x.1.weights Tryz.prog 48).all (·<=reachBytes)=true) :
 ∃ o:Cl.OpR,cs=Cl.opL o∧Cl.I64 o.on∧Cl.I64 o.n∧Cl.I64 o.dst∧o.s.length<=281474976710656∧o.r.verf.body.length<=281474976710656∧o.r.results.length<=281474976710656:=by
 obtain ⟨xs,n,_,hx,hl,hlen,hall⟩:=DataW.trod_struct Tryz.underlying48 h;rw [cellsOp] at hl;obtain ⟨v0,v1,v2,v3,v4,v5,v6,v7,v8,u0,u1,u2,u3,u4,u5,u6,u7,u8,u9,rfl⟩:=list19 cs hl;obtain ⟨y0,y1,y2,y3,y4,y5,y6,y7,y8,y9,rfl⟩:=list10 xs hlen
 have e0:=hall 0 { name := "Kind",type:=3,offset:=0,embedded:=false,tag := "",pkgPath := "",byteOffset:=0 } rfl
 have e1:=hall 1 { name := "On",type:=3,offset:=1,embedded:=false,tag := "",pkgPath := "",byteOffset:=8 } rfl
 have e2:=hall 2 { name := "N",type:=3,offset:=2,embedded:=false,tag := "",pkgPath := "",byteOffset:=16 } rfl
 have e3:=hall 3 { name := "M",type:=3,offset:=3,embedded:=false,tag := "",pkgPath := "",byteOffset:=24 } rfl
 have e4:=hall 4 { name := "To",type:=3,offset:=4,embedded:=false,tag := "",pkgPath := "",byteOffset:=32 } rfl
 have e5:=hall 5 { name := "Prog",type:=3,offset:=5,embedded:=false,tag := "",pkgPath := "",byteOffset:=40 } rfl
 have e6:=hall 6 { name := "Vers",type:=3,offset:=6,embedded:=false,tag := "",pkgPath := "",byteOffset:=48 } rfl
 have e7:=hall 7 { name := "Proc",type:=3,offset:=7,embedded:=false,tag := "",pkgPath := "",byteOffset:=56 } rfl
 have e8:=hall 8 { name := "S",type:=9,offset:=8,embedded:=false,tag := "",pkgPath := "",byteOffset:=64 } rfl
 have e9:=hall 9 { name := "R",type:=46,offset:=9,embedded:=false,tag := "",pkgPath := "",byteOffset:=80 } rfl
 dsimp only at e0 e1 e2 e3 e4 e5 e6 e7 e8 e9
 rw [zgg] at e0 e1 e2 e3 e4 e5 e6 e7;rw [cellsS] at e8;rw [cellsRp] at e9;obtain ⟨z0,hz0,rfl,i0⟩:=DataW.trod_int Tryz.underlying3 (cs:=[v0]) (x:=y0) e0;obtain ⟨z1,hz1,rfl,i1⟩:=DataW.trod_int Tryz.underlying3 (cs:=[v1]) (x:=y1) e1;obtain ⟨z2,hz2,rfl,i2⟩:=DataW.trod_int Tryz.underlying3 (cs:=[v2]) (x:=y2) e2;obtain ⟨z3,hz3,rfl,i3⟩:=DataW.trod_int Tryz.underlying3 (cs:=[v3]) (x:=y3) e3;obtain ⟨z4,hz4,rfl,i4⟩:=DataW.trod_int Tryz.underlying3 (cs:=[v4]) (x:=y4) e4;obtain ⟨z5,hz5,rfl,i5⟩:=DataW.trod_int Tryz.underlying3 (cs:=[v5]) (x:=y5) e5;obtain ⟨z6,hz6,rfl,i6⟩:=DataW.trod_int Tryz.underlying3 (cs:=[v6]) (x:=y6) e6;obtain ⟨z7,hz7,rfl,i7⟩:=DataW.trod_int Tryz.underlying3 (cs:=[v7]) (x:=y7) e7;obtain ⟨z8,hz8,rfl,_⟩:=DataW.trod_string Tryz.underlying9 (cs:=[v8]) (x:=y8) e8;obtain ⟨z9,hz9,w9⟩:=reply_op (cs:=[u0,u1,u2,u3,u4,u5,u6,u7,u8,u9]) (x:=y9) e9;simp only [List.cons.injEq,and_true] at hz0 hz1 hz2 hz3 hz4 hz5 hz6 hz7 hz8;rw [hx] at hw;simp [DataW.weights,DataW.weightsEach,Tryz.underlying48] at hw
 have hw9:=w9 (by simpa using hw.2);refine ⟨⟨z0,z1,z2,z3,z4,z5,z6,z7,z8.data.toList,z9⟩,?_,i64_of i1,i64_of i2,i64_of i4,zhq hw.1,hw9.1,hw9.2⟩;rw [hz9,hz0,hz1,hz2,hz3,hz4,hz5,hz6,hz7,hz8];rfl
theorem zd5 {P:Program} {e:TypeId} : ∀ {l:List (DataW H)} {d:DataW H},(DataW.weightsAll P e l).all (·<=reachBytes)=true->d∈l->(d.weights P e).all (·<=reachBytes)=true
 | [],_,_,h=>by cases h
 | x::l,d,hw,h=>by
  rw [DataW.weightsAll,List.all_append,Bool.and_eq_true] at hw;rcases List.mem_cons.1 h with rfl|h
  · exact hw.1
  · exact zd5 hw.2 h
end
instance:Inhabited Cl.OpR:=⟨⟨0,0,0,0,0,0,0,0,[],⟨0,false,⟨0,[]⟩,0,0,0,[],0,0⟩⟩⟩
structure OpHere (w:World) (a:Addr) (i:Nat) (o:Cl.OpR):Prop where
 c:∀ k v,(Cl.opL o)[k]?=some v->w.cell? ((a.add (i*19)).add k)=some v
 ok:Cl.I64 o.on∧Cl.I64 o.n∧Cl.I64 o.dst∧o.s.length<=281474976710656∧o.r.verf.body.length<=281474976710656∧o.r.results.length<=281474976710656
theorem op_here {H:Type} {enc:TypeId × Value->H} {w:World} {base:Nat} {sp:Nat->Bool} {held:Bool} {n:Nat} {a:Addr} {i:Nat} {cs:List Value} {x:DataW H × List MemPlace}
 (h1:w.cells? base (a.add (i*19)) 19=some cs) (h2:DataW.trod enc Tryz.prog w base sp held n 48 cs=some x) (hw:(x.1.weights Tryz.prog 48).all (·<=reachBytes)=true):∃ o,OpHere w a i o:=by
 obtain ⟨_,hlen,hcell⟩:=World.cells?_some h1;obtain ⟨o,rfl,r⟩:=op_up h2 hw;refine ⟨o,fun k v hv=>?_,r⟩;have hk:k<19:=by
  have:=(List.getElem?_eq_some_iff.1 hv).1
  simpa [Cl.opL] using this
 rw [hcell k hk];exact hv
theorem open_ops {H:Type} {enc:TypeId × Value->H} {W:World} {base:Nat} {v:Value} {d:DataW H} {ps:List MemPlace} (h:DataW.Trod enc Tryz.prog W 0 (fun _=>true) true 35 v d ps) (hv:Value.okWide Tryz.prog W .any base 35 v) (hw:(d.weights Tryz.prog 35).all (·<=reachBytes)=true) :
 ∃ (oa:Option Addr) (len cap:Nat) (A:Nat->Cl.OpR),v=.slice oa len cap∧Cl.OpsAt W oa len A:=by
 obtain ⟨fuel,hf⟩:=h;rcases Go.Deep.open_slice Tryz.underlying35 hf with ⟨h0,_⟩|⟨a,len,cap,m,n,D,Pl,h0,_,hl,hm,hmm,hd,hx⟩
 · have hv0:v=.slice none 0 0:=by
    obtain ⟨a',l',c',rfl⟩:=okWide_slice Tryz.underlying35 hv;simpa [Value.cells] using h0
   exact ⟨none,0,0,fun _=>default,hv0,⟨fun h=>absurd h (by omega),fun j hj=>absurd hj (by omega)⟩⟩
 · have hv0:v=.slice (some a) len cap:=by
    obtain ⟨a',l',c',rfl⟩:=okWide_slice Tryz.underlying35 hv;simpa [Value.cells] using h0
   have hlm:len<=m:=by rw [hmm];simp;exact hl
   rw [cellsOp] at hx;have hd1:d=.slice ((List.range len).map D) ((List.range (m - len)).map fun j=>D (len+j)):=congrArg Prod.fst hd;have hwe:∀ i,i<len->((D i).weights Tryz.prog 48).all (·<=reachBytes)=true:=fun i hi=>by
    rw [hd1] at hw;simp only [DataW.weights,Tryz.underlying35] at hw;rw [List.all_cons,Bool.and_eq_true,List.all_append,Bool.and_eq_true] at hw;exact zd5 hw.2.1 (List.mem_map_of_mem (List.mem_range.2 hi))
   obtain ⟨f,hfx⟩:=Go.Deep.choose_lt (α:=Cl.OpR) (p:=fun i y=>OpHere W a i y) (n:=len) (fun i hi=>by
    obtain ⟨cs',h1,h2⟩:=hx i (by omega)
    exact op_here h1 h2 (hwe i hi))
   obtain ⟨b,off,spot⟩:=a;refine ⟨some ⟨b,off,spot⟩,len,cap,f,hv0,⟨fun hp=>?_,fun j hj=>(hfx j hj).ok⟩⟩;have h00:=(hfx 0 hp).c 0 _ rfl;have hs:spot=none:=by simpa [Addr.add] using World.cell?_spot h00
   subst hs;refine ⟨b,off,rfl,World.block_lt_of_cell? _ _ h00,fun j hj k v hv=>?_⟩;have:=(hfx j hj).c k v hv
   rw [Go.WideShapes.add_plain,Go.WideShapes.add_plain] at this;exact this
end Go.Proofs.YtfcbjcebkahehaaGreatDoor
