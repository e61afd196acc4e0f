import Derived.Test.YtfcbjcebkahehaaGreatDoorPly17
import Derived.Test.YtfcbjcebkahehaaGreatDoorPly10
import Derived.Test.YtfcbjcebkahehaaGreatDoorPly07
import Derived.Test.YtfcbjcebkahehaaGreatDoorPly12
import Derived.Test.YtfcbjcebkahehaaGreatDoorPly14
import Derived.Deep.DeepCutAuto
set_option maxRecDepth 8000
set_option maxHeartbeats 20000000
set_option linter.unusedSimpArgs false
namespace Go.Proofs.YtfcbjcebkahehaaGreatDoor.Cl
open Go.RowKit
section
variable {K K' : Nat->Nat} {w w' : World} {B bb:Nat} {x y z:Ks} {t s p r:Nat} {c:Cf} {next now:Int} {L:List Wt} {M:List Dw} {D:List Oc} {q:Mq} {T:List Int}
theorem BK.fresh_n (h:BK K w B bb x y z 0 0 0 0 0 0) (m:Mk (fun u=>u<300∨u=1000+6*(x.N+x.FL.length)+0∨u=1000+6*(x.N+x.FL.length)+0+1) w w' K K'):BK K' w' B bb x y z 0 0 0 0 0 0 :=
 ⟨h.blk.wk m (by show ¬ (_∨_);omega),h.n.mv m (by show ¬ (_∨_);omega) (by show ¬ (_∨_);omega) (by show ¬ (_∨_);omega) (fun n _=>⟨by show ¬ (_∨_);omega,by show ¬ (_∨_);omega⟩),h.p.other m (b:=0) (by omega) (by omega) (by omega) (fun u e=>by rcases e with e|e|e <;> first|exact .inl (by omega)|exact .inr (.inr (.inr (.inr ⟨_,.inl (by rw [e])⟩)))|exact .inr (.inr (.inr (.inr ⟨x.N+x.FL.length,.inr (by omega)⟩)))),h.o.other m (b:=0) (by omega) (by omega) (by omega) (fun u e=>by rcases e with e|e|e <;> first|exact .inl (by omega)|exact .inr (.inr (.inr (.inr ⟨_,.inl (by rw [e])⟩)))|exact .inr (.inr (.inr (.inr ⟨x.N+x.FL.length,.inr (by omega)⟩))))⟩
theorem BK.fresh_p (h:BK K w B bb x y z 0 0 0 0 0 0) (m:Mk (fun u=>u<300∨u=1000+6*(y.N+y.FL.length)+2∨u=1000+6*(y.N+y.FL.length)+2+1) w w' K K'):BK K' w' B bb x y z 0 0 0 0 0 0 :=
 ⟨h.blk.wk m (by show ¬ (_∨_);omega),h.n.other m (b:=1) (by omega) (by omega) (by omega) (fun u e=>by rcases e with e|e|e <;> first|exact .inl (by omega)|exact .inr (.inr (.inr (.inr ⟨_,.inl (by rw [e])⟩)))|exact .inr (.inr (.inr (.inr ⟨y.N+y.FL.length,.inr (by omega)⟩)))),h.p.mv m (by show ¬ (_∨_);omega) (by show ¬ (_∨_);omega) (by show ¬ (_∨_);omega) (fun n _=>⟨by show ¬ (_∨_);omega,by show ¬ (_∨_);omega⟩),h.o.other m (b:=1) (by omega) (by omega) (by omega) (fun u e=>by rcases e with e|e|e <;> first|exact .inl (by omega)|exact .inr (.inr (.inr (.inr ⟨_,.inl (by rw [e])⟩)))|exact .inr (.inr (.inr (.inr ⟨y.N+y.FL.length,.inr (by omega)⟩))))⟩
theorem BK.fresh_o (h:BK K w B bb x y z 0 0 0 0 0 0) (m:Mk (fun u=>u<300∨u=1000+6*(z.N+z.FL.length)+4∨u=1000+6*(z.N+z.FL.length)+4+1) w w' K K'):BK K' w' B bb x y z 0 0 0 0 0 0 :=
 ⟨h.blk.wk m (by show ¬ (_∨_);omega),h.n.other m (b:=2) (by omega) (by omega) (by omega) (fun u e=>by rcases e with e|e|e <;> first|exact .inl (by omega)|exact .inr (.inr (.inr (.inr ⟨_,.inl (by rw [e])⟩)))|exact .inr (.inr (.inr (.inr ⟨z.N+z.FL.length,.inr (by omega)⟩)))),h.p.other m (b:=2) (by omega) (by omega) (by omega) (fun u e=>by rcases e with e|e|e <;> first|exact .inl (by omega)|exact .inr (.inr (.inr (.inr ⟨_,.inl (by rw [e])⟩)))|exact .inr (.inr (.inr (.inr ⟨z.N+z.FL.length,.inr (by omega)⟩)))),h.o.mv m (by show ¬ (_∨_);omega) (by show ¬ (_∨_);omega) (by show ¬ (_∨_);omega) (fun n _=>⟨by show ¬ (_∨_);omega,by show ¬ (_∨_);omega⟩)⟩
theorem SI.looks_any (h:SI K w B t s p r c next now L M D q T) (b:BK K w B bb x y z 0 0 0 0 0 0) (ht:t+40<300) (t0:0<t) (hz:∀ b,b<B->K b=0) (hN:x.N+x.FL.length<=1000000000) (hl:L.length<=100000000) :
 Calls Tryz.prog 12 #[ptr s,ptr bb] w fun e w'=>e=.returned (.bool true)∧Hid (∃ K' x',SI K' w' B t s p r c next now L M D q T∧BK K' w' B bb x' y z 0 0 0 0 0 0∧x'.N=x.N∧x'.FL.length=x.FL.length+2∧Mk (fun u=>300<=u) w w' K K'):=by
 have HT:=hid (And.intro ht (And.intro t0 (And.intro hN hl)));have H0:Hid (SI K w B t s p r c next now L M D q T∧BK K w B bb x y z 0 0 0 0 0 0∧(∀ b,b<B->K b=0)):=⟨h,b,hz⟩;clear h b ht t0 hz hN hl;go_enter Tryz.func12,Tryz.ntmps12
 go_wp2_with fail
 go_loopw [5] (fun iv wr=>∃ (k:Nat) (K1:Nat->Nat) (x1:Ks),iv=iI k∧k<=2∧Hid (SI K1 wr B t s p r c next now L M D q T∧BK K1 wr B bb x1 y z 0 0 0 0 0 0∧(∀ b,b<B->K1 b=0)∧x1.N=x.N∧x1.FL.length=x.FL.length+k∧Mk (fun u=>300<=u) w wr K K1)) (fun iv _=>2 - (intOf iv).toNat)
 case atStart=>exact ⟨0,K,x,rfl,by omega,H0.out.1,H0.out.2.1,H0.out.2.2,rfl,rfl,Mk.refl _ _ _⟩
 case round =>
  obtain ⟨k,K1,x1,rfl,hk,HA⟩:=hrel;obtain ⟨w1,hw1⟩:∃ y,y=wr:=⟨_,rfl⟩;subst hw1;clear H0;obtain ⟨vt,sb,_⟩:=HA.out.1.me;have s0:w1.cell? ⟨s,0,none⟩=some (ptr p):=zaa sb.at_ rfl;have s1:w1.cell? ⟨s,1,none⟩=some (ptr r):=zaa sb.at_ rfl;by_cases hlt:k<2
  · as_aux_lemma =>
    have hk' : (k:Int)<2:=(by omega);obtain ⟨tp,htp⟩:∃ tp,1000+6*(x1.N+x1.FL.length)+0=tp:=⟨_,rfl⟩;have hT:=HT.out;have hA:=HA.out;have HP:=hid (hA.1.waiting_any tp (by omega));have e1:=hA.2.2.2.1;have e2:=hA.2.2.2.2.1;have Ab:Hid (x1.FL.length<=10000000000∧L.length<=100000000):=⟨by omega,by omega⟩;have Aa:=hid htp;have Ad:=hid sb;have Ac:=hid (And.intro hlt (zb0 (j:=k) (by omega)));clear hlt hk hT hA htp sb e1 e2;(go_wp2_with fail);refine HP.out.mono ?_;rintro _ w2 ⟨v,rfl,HH⟩;obtain ⟨K2,R2,m2,H3⟩:=HH.out;have HD:=hid (H3 w2 (Below.refl _ _));have Ah:=hid R2;have s1b:w2.cell? ⟨s,1,none⟩=some (ptr r):=zaa (Ad.out.mv m2 (by have:=Aa.out;have:=HT.out;omega)).at_ rfl;clear s0 s1 R2 m2 H3 HH HP;(go_wp2_with fail);refine HD.out.mono ?_;rintro _ w3 ⟨v',rfl,HH⟩;obtain ⟨K3,S3,R3,R3',m3⟩:=HH.out;obtain ⟨o1,c1,rfl,_,_⟩:=R3.form;obtain ⟨o2,c2,rfl,_,_⟩:=R3'.form;have HI:=hid (zfn R3 R3' (by rw [List.length_map];exact Ab.out.2));have Ae:=hid (And.intro S3 (And.intro R3 (And.intro R3' m3)));obtain ⟨n,hn⟩:∃ n,(List.map Wt.seq L).length=n:=⟨_,rfl⟩;have Af:=hid hn;rw [hn] at HI ⊢;clear s1b HD HH S3 R3 R3' m3 hn Ah;(go_wp2_with fail);refine HI.out.mono ?_;rintro _ w4 ⟨rfl,kd,hw4⟩;have HE:Hid (SI K3 w4 B t s p r c next now L M D q T∧BK K3 w4 B bb x1 y z 0 0 0 0 0 0∧(∀ b,b<B->K3 b=0)∧RW 3 1 intC K3 w4 B tp (.slice o1 n c1) (L.map Wt.seq)∧RW 3 1 intC K3 w4 B (tp+1) (.slice o2 n c2) (L.map Wt.seq)∧Mk (fun u=>300<=u) w w4 K K3):=by
     obtain ⟨S3,R3,R3',m3⟩:=Ae.out;obtain ⟨a1,a2,a3,a4,a5,a6⟩:=HA.out;have htp:=Aa.out;have md:=zak w3 K3 kd;have hn:=Af.out;rw [hn] at R3 R3';rw [hw4];have mA:Mk (fun u=>u=tp∨u=tp+1) w1 (w3.drewN kd) K1 K3:=m3.wk.trans (md.wk.mono (fun _ e=>e.elim));refine ⟨S3.to md (fun _ e=>e.elim),a2.fresh_n (mA.mono (fun u e=>by rw [htp];omega)),mA.zero (by omega) a2.n.hB a3,R3.mv md id,R3'.mv md id,a6.trans (mA.mono (fun u e=>by omega))⟩
    have Ag:Hid (x1.N=x.N∧x1.FL.length=x.FL.length+k):=⟨HA.out.2.2.2.1,HA.out.2.2.2.2.1⟩;clear HI Ae hw4 HA Ad;obtain ⟨a1,a2,a3,a4,a5,a6⟩:=HE.out;obtain ⟨xo,xc,hxv,_,_⟩:=a2.n.f.form;obtain ⟨S5,hS5⟩:∃ y,w4.heap.size=y:=⟨_,rfl⟩;obtain ⟨w5,hw5⟩:∃ y,w4.alloc (.cells #[.slice o1 n c1] 24)=y:=⟨_,rfl⟩;obtain ⟨oa,ca,w6,w7,K7,r6,z6,f6,hw7,z7,_,H7⟩:=a2.put_n (s:=⟨o1,n,c1⟩) (u:=⟨o2,n,c2⟩) (by rw [Aa.out];exact a4) (by rw [show 1001+6*(x1.N+x1.FL.length)+0=tp+1 by have:=Aa.out;omega];exact a5) (by rw [List.length_map];exact Ab.out.2) Ab.out.1 hS5 hw5;obtain ⟨S8,hS8⟩:∃ y,w7.heap.size=y:=⟨_,rfl⟩;obtain ⟨w8,hw8⟩:∃ y,w7.alloc (.cells #[.slice o2 n c2] 24)=y:=⟨_,rfl⟩;obtain ⟨ob,cb,w9,wx,K9,r9,z9,f9,hwx,BX,mX⟩:=H7 S8 w8 hS8 hw8;have z4:w4.cell? ⟨bb,0,none⟩=some x1.vf:=a2.ce rfl;obtain ⟨m1,hm1⟩:∃ m1,x1.FL.length=m1:=⟨_,rfl⟩;obtain ⟨f1,hf1⟩:∃ f1,x1.vf=f1:=⟨_,rfl⟩;obtain ⟨g1,hg1⟩:∃ g1,x1.vw=g1:=⟨_,rfl⟩;have HF:Hid (∃ K' x',SI K' wx B t s p r c next now L M D q T∧BK K' wx B bb x' y z 0 0 0 0 0 0∧(∀ b,b<B->K' b=0)∧x'.N=x1.N∧x'.FL.length=x1.FL.length+1∧Mk (fun u=>300<=u) w wx K K'):=by
     have hT:=HT.out;exact ⟨K9,_,a1.wk mX a3 (by show ¬ (_∨_);omega) (fun j hj=>by show ¬ (_∨_);omega),BX.out,mX.zero (by show ¬ (_∨_);omega) a2.n.hB a3,rfl,by simp,a6.trans (mX.mono (fun u e=>by omega))⟩
    rw [hm1] at r6 r9 hw7 hwx;rw [hf1] at r6 z6 z4;rw [hg1] at r9 z7 z9;have Ai:=hid r6;have Aj:=hid r9;have hbs:=fun oa n c w=>blsL38 oa n c w;clear a1 a2 a3 a4 a5 a6 HE H7 BX mX r6 r9 hm1 hf1 hg1 hxv Aa Af Ab;(go_wp2_with (at_builtin;refine Hid.out ?_));refine (show Hid _ from ?_);refine za5 rfl _ _ 38 rfl _ _ _ _ rfl rfl (Ai.out _) ?_;clear hw5 hS5;(go_wp2_with (at_builtin;refine Hid.out ?_));refine (show Hid _ from ?_);refine za5 rfl _ _ 38 rfl _ _ _ _ rfl rfl (Aj.out _) ?_;clear hw8 hS8 hbs;(go_wp2_with fail);go_roundw
    case rel=>exact (by obtain ⟨K',x',h1,h2,h3,h4,h5,h6⟩:=HF.out;exact ⟨k+1,K',x',by first|rfl|(rw [Ac.out.2];rfl),Ac.out.1,h1,h2,h3,h4.trans Ag.out.1,by rw [h5,Ag.out.2];omega,h6⟩)
    case measure=>first|exact meas rfl hk'|exact meas Ac.out.2 hk'
  · obtain rfl:k=2:=(by omega);have HW:Hid (∀ m',Calls Tryz.prog 23 #[ptr p] (w1.drewN m') fun e w''=>e=.returned (iI (zaz next L))∧∃ m,w''=w1.drewN m):=fun m'=>((HA.out.1.to (zak w1 K1 m') (fun _ e=>e.elim)).water_p).mono (by rintro _ w2 ⟨rfl,rfl⟩;exact ⟨rfl,m',rfl⟩);have HW' : Hid (∀ m',Calls Tryz.prog 39 #[ptr r] (w1.drewN m') fun e w''=>e=.returned (iI (zaz next L))∧∃ m,w''=w1.drewN m):=fun m'=>((HA.out.1.to (zak w1 K1 m') (fun _ e=>e.elim)).water_d).mono (by rintro _ w2 ⟨rfl,rfl⟩;exact ⟨rfl,m',rfl⟩);have HX:Hid (∀ m',Calls Tryz.prog 24 #[ptr p] (w1.drewN m') fun e w''=>e=.returned (iI now)∧∃ m,w''=w1.drewN m):=fun m'=>((HA.out.1.to (zak w1 K1 m') (fun _ e=>e.elim)).now_p).mono (by rintro _ w2 ⟨rfl,rfl⟩;exact ⟨rfl,m',rfl⟩);have HX' : Hid (∀ m',Calls Tryz.prog 40 #[ptr r] (w1.drewN m') fun e w''=>e=.returned (iI now)∧∃ m,w''=w1.drewN m):=fun m'=>((HA.out.1.to (zak w1 K1 m') (fun _ e=>e.elim)).now_d).mono (by rintro _ w2 ⟨rfl,rfl⟩;exact ⟨rfl,m',rfl⟩);obtain ⟨gs,hgs⟩:∃ gs,gsP q.m q.s=gs:=⟨_,rfl⟩;have HY:Hid (∀ m',Calls Tryz.prog 41 #[ptr p] (w1.drewN m') fun e w''=>e=.returned (iI gs)∧∃ m,w''=w1.drewN m):=fun m'=>((HA.out.1.to (zak w1 K1 m') (fun _ e=>e.elim)).guess_p).mono (by rintro _ w2 ⟨rfl,rfl⟩;exact ⟨by rw [hgs],m',rfl⟩);have HY' : Hid (∀ m',Calls Tryz.prog 42 #[ptr r] (w1.drewN m') fun e w''=>e=.returned (iI gs)∧∃ m,w''=w1.drewN m):=fun m'=>((HA.out.1.to (zak w1 K1 m') (fun _ e=>e.elim)).guess_d).mono (by rintro _ w2 ⟨rfl,rfl⟩;exact ⟨by rw [hgs],m',rfl⟩);obtain ⟨wl,hwl⟩:∃ wl,zaz next L=wl:=⟨_,rfl⟩;rw [hwl] at HW HW';have HE:Hid (∀ m,∃ K' x',SI K' (w1.drewN m) B t s p r c next now L M D q T∧BK K' (w1.drewN m) B bb x' y z 0 0 0 0 0 0∧x'.N=x.N∧x'.FL.length=x.FL.length+2∧Mk (fun u=>300<=u) w (w1.drewN m) K K'):=fun m=>by
     obtain ⟨a1,a2,a3,a4,a5,a6⟩:=HA.out;have md:=zak w1 K1 m;exact ⟨K1,x1,a1.to md (fun _ e=>e.elim),a2.far md.wk (fun _ _ e=>e.elim),a4,a5,a6.trans (md.wk.mono (fun _ e=>e.elim))⟩
    clear HA sb hgs hwl hlt hk;(go_wp2_with fail);go_quiet (first|(go_at_call 23;with_reducible exact HW.out _)|(go_at_call 39;with_reducible exact HW'.out _)|(go_at_call 24;with_reducible exact HX.out _)|(go_at_call 40;with_reducible exact HX'.out _)|(go_at_call 41;with_reducible exact HY.out _)|(go_at_call 42;with_reducible exact HY'.out _))
    go_wp2;go_ret;exact ⟨by simp,HE.out _⟩
end
structure Is where
 seq:Int
 at_:Int
 sent:Int
 over:Bool
section
variable {c:Cf} {now next:Int} {I:List Is} {L:List Wt} {D:List Oc} {n1 n2:Int}
end
section
variable {c:Cf} {now next:Int} {I:List Is} {L:List Wt} {D:List Oc} {n1 n2:Int}
end
theorem zeb (c:Int) (n:Int) (hc:-9223372036854775808<=c∧c<=9223372036854775807) (hn:0<n) (w:World):Calls Tryz.prog 10 #[iI c,iI n] w fun e w'=>∃ k:Int,e=.returned (iI k)∧0<=k∧k<n∧w'=w:=by
 by_cases h:c<0
 · obtain ⟨d,hd⟩:∃ d,-(c+1)=d:=⟨_,rfl⟩;have hd0:0<=d:=by omega
   have hk:0<=d % n∧d % n<n:=⟨Int.emod_nonneg _ (by omega),Int.emod_lt_of_pos _ hn⟩;go_enter Tryz.func10,Tryz.ntmps10
   go_wp2;go_ret;exact ⟨_,rfl,by first|exact hk.1|(rw [hd];exact hk.1),by first|exact hk.2|(rw [hd];exact hk.2),rfl⟩
 · have hk:0<=c % n∧c % n<n:=⟨Int.emod_nonneg _ (by omega),Int.emod_lt_of_pos _ hn⟩;go_enter Tryz.func10,Tryz.ntmps10
   go_wp2;go_ret;exact ⟨_,rfl,hk.1,hk.2,rfl⟩
section
variable {K K' : Nat->Nat} {w w' : World} {B t p xb:Nat} {c:Cf} {oa:Option Addr} {cap:Nat} {next now:Int} {L:List Wt} {D:List Oc} {vw vd:Value} {q:Mq} {vi:Value} {I:List Is} {n1 n2:Int}
end
end Go.Proofs.YtfcbjcebkahehaaGreatDoor.Cl
namespace Go.Proofs.YtfcbjcebkahehaaGreatDoor.Cl
set_option linter.unusedSimpArgs false
open Go.RowKit
structure OpR where
 kind:Int
 on:Int
 n:Int
 m:Int
 dst:Int
 prog:Int
 vers:Int
 proc:Int
 s:List UInt8
 r:ReplyP
def opL (o:OpR):List Value:=[iI o.kind,iI o.on,iI o.n,iI o.m,iI o.dst,iI o.prog,iI o.vers,iI o.proc,.string ⟨o.s.toArray⟩,iI o.r.xid,.bool o.r.denied,iI o.r.verf.flavor,.string ⟨o.r.verf.body.toArray⟩,iI o.r.accept,iI o.r.reject,iI o.r.why,iI o.r.low,iI o.r.high,.string ⟨o.r.results.toArray⟩]
structure OpR.fits (o:OpR):Prop where
 on:I64 o.on
 n:I64 o.n
 dst:I64 o.dst
 s:o.s.length<=2147483647
 b:o.r.verf.body.length<=2147483647
 r:o.r.results.length<=2147483647
theorem bld78_2 (a b:Int) (w:World):(Instr.build 78 #[(0,iI a),(1,iI b)]).run Tryz.prog w=.ok (.agg #[iI a,iI b,.string ⟨#[]⟩]) w:=by kernel_rfl
theorem prP_len (r:ReplyP):(prP r).1.length<=r.verf.body.length+r.results.length+100:=by
 unfold prP prM;by_cases hm:r.may
 · rw [if_pos hm];have hp:∀ n,(padB n).length<=4:=fun n=>by rw [zau];unfold pads;omega
   have:=hp r.verf.body.length
   simp only [ReplyP.lay,AuthP.lay];split <;> (try split) <;> simp only [List.length_append,zaf,List.length_nil] <;> omega
 · rw [if_neg hm];simp
theorem op_range {w:World} {S:Nat} {o:OpR} (h:w.heap[S]?=some (.cells (opL o).toArray 48)):w.rangeAt S 9 (zam o.r):=fun j v hv=>by
 refine zaa h ?_;have:((opL o).drop 9)[j]?=some v:=hv
 rw [List.getElem?_drop] at this;simpa using this
structure Rp (w wx:World) (S0 S1 S2 S4:Nat) (o:OpR) (a b:Int) (d:ByteArray) (z:Int):Prop where
 be:Below w.heap.size w wx
 s0:wx.heap[S0]?=some (.cells (opL o).toArray 48)
 s1:wx.heap[S1]?=some (.cells #[iI 0,iI 0,.string ⟨#[]⟩] 78)
 s2:wx.heap[S2]?=some (.cells #[iI a,iI b,.string d] 78)
 s4:wx.heap[S4]?=some (.cells (zam { o.r with xid:=z }).toArray 46)
theorem Rp.below {w wx wy:World} {S0 S1 S2 S4:Nat} {o:OpR} {a b z:Int} {d:ByteArray} (h:Rp w wx S0 S1 S2 S4 o a b d z) (hb:Below wx.heap.size wx wy):Rp w wy S0 S1 S2 S4 o a b d z :=
 have lt:∀ {S:Nat} {ob:Obj},wx.heap[S]?=some ob->wy.heap[S]?=some ob:=fun {S} {_} e=>(hb.block S (Array.getElem?_eq_some_iff.1 e).1).trans e
 ⟨h.be.trans (hb.mono h.be.size),lt h.s0,lt h.s1,lt h.s2,lt h.s4⟩
theorem Rp.set2 {w wx:World} {S0 S1 S2 S4:Nat} {o:OpR} {a b z:Int} {d:ByteArray} (h:Rp w wx S0 S1 S2 S4 o a b d z) (l:w.heap.size<=S2) (n0:S0≠S2) (n1:S1≠S2) (n4:S4≠S2) :
 (∀ x,Rp w (wx.setCell ⟨S2,0,none⟩ (iI x)) S0 S1 S2 S4 o x b d z)∧(∀ x,Rp w (wx.setCell ⟨S2,1,none⟩ (iI x)) S0 S1 S2 S4 o a x d z)∧(∀ x,Rp w (wx.setCell ⟨S2,2,none⟩ (.string x)) S0 S1 S2 S4 o a b x z):=by
 have be:∀ k v,Below w.heap.size w (wx.setCell ⟨S2,k,none⟩ v):=fun k v=>h.be.setCell l _;have ne:∀ {S:Nat} (k:Nat) (v:Value),S≠S2->(wx.setCell ⟨S2,k,none⟩ v).heap[S]?=wx.heap[S]?:=fun k v e=>Below.heap_setCell _ _ _ _ e;exact ⟨fun x=>⟨be _ _,(ne _ _ n0).trans h.s0,(ne _ _ n1).trans h.s1,zae h.s2 0 _,(ne _ _ n4).trans h.s4⟩,fun x=>⟨be _ _,(ne _ _ n0).trans h.s0,(ne _ _ n1).trans h.s1,zae h.s2 1 _,(ne _ _ n4).trans h.s4⟩,fun x=>⟨be _ _,(ne _ _ n0).trans h.s0,(ne _ _ n1).trans h.s1,zae h.s2 2 _,(ne _ _ n4).trans h.s4⟩⟩
section
variable {K K' : Nat->Nat} {w w' : World} {B t s p r:Nat} {c:Cf} {next now:Int} {L:List Wt} {M:List Dw} {D:List Oc} {q:Mq} {T:List Int}
theorem SI.reply_any (h:SI K w B t s p r c next now L M D q T) (o:OpR) (hf:o.fits) (hT:T.length<=1000000000) :
 Calls Tryz.prog 32 #[ptr s,.agg (opL o).toArray] w fun e w'=>(∃ (src dst:Int) (data:List UInt8),e=.returned (.agg #[iI src,iI dst,.string ⟨data.toArray⟩])∧data.length<=140737488355328)∧Below w.heap.size w w':=by
 obtain ⟨S0,hS0⟩:∃ y,w.heap.size=y:=⟨_,rfl⟩;obtain ⟨w0,hw0⟩:∃ y,w.alloc (.cells (opL o).toArray 48)=y:=⟨_,rfl⟩;obtain ⟨S1,hS1⟩:∃ y,w0.heap.size=y:=⟨_,rfl⟩;obtain ⟨w1,hw1⟩:∃ y,w0.alloc (.cells #[iI 0,iI 0,.string ⟨#[]⟩] 78)=y:=⟨_,rfl⟩;obtain ⟨S2,hS2⟩:∃ y,w1.drew.heap.size=y:=⟨_,rfl⟩;obtain ⟨w2,hw2⟩:∃ y,w1.drew.alloc (.cells #[iI 0,iI 0,.string ⟨#[]⟩] 78)=y:=⟨_,rfl⟩;have B0:Below w.heap.size w w0:=by rw [<- hw0];exact (Below.refl _ _).alloc (Nat.le_refl _) _
 have B1:Below w0.heap.size w0 w1:=by rw [<- hw1];exact (Below.refl _ _).alloc (Nat.le_refl _) _
 have B1d:Below w1.heap.size w1 w1.drew:=zdb w1 1;have B2:Below w1.heap.size w1 w2:=by rw [<- hw2];exact B1d.alloc (Nat.le_refl _) _
 have k0:w0.heap[S0]?=some (.cells (opL o).toArray 48):=by rw [<- hw0,<- hS0];exact (MapKept.heap_alloc w _).1
 have k1:w1.heap[S1]?=some (.cells #[iI 0,iI 0,.string ⟨#[]⟩] 78):=by rw [<- hw1,<- hS1];exact (MapKept.heap_alloc w0 _).1
 have k2:w2.heap[S2]?=some (.cells #[iI 0,iI 0,.string ⟨#[]⟩] 78):=by rw [<- hw2,<- hS2];exact (MapKept.heap_alloc w1.drew _).1
 have hlt0:S0<w0.heap.size:=(Array.getElem?_eq_some_iff.1 k0).1;have hlt1:S1<w1.heap.size:=(Array.getElem?_eq_some_iff.1 k1).1;have k10:w1.heap[S0]?=some (.cells (opL o).toArray 48):=(B1.block S0 hlt0).trans k0;have n01:S0<S1:=by omega
 have n12:S1<S2:=by rw [<- hS2];exact hlt1
 obtain ⟨vt,sb,rt⟩:=h.me;obtain ⟨to_,tc,rfl,_,hgt⟩:=rt.form;obtain ⟨oa',cap',vw',vd',qb,Q⟩:=h.dc;obtain ⟨n,hn⟩:∃ n,T.length=n:=⟨_,rfl⟩;rw [hn] at sb rt hT hgt;have Ac:Hid (∀ wx,Below w.heap.size w wx->wx.cell? ⟨s,1,none⟩=some (ptr r)∧wx.cell? ⟨s,2,none⟩=some (.slice to_ n tc)∧wx.cell? ⟨r,0,none⟩=some (iI c.ad)∧wx.cell? ⟨r,2,none⟩=some (iI c.first)):=fun wx hb=>by
  have e1:=(hb.block s sb.lt).trans sb.at_;have e2:=(hb.block r Q.cl.lt).trans Q.cl.at_;exact ⟨zaa e1 rfl,zaa e1 rfl,zaa e2 rfl,zaa e2 rfl⟩
 have Aj:Hid (∀ wx,Below w.heap.size w wx->∀ k,k<n->∃ g x,to_=some ⟨g,0,none⟩∧wx.cell? ⟨g,k,none⟩=some (iI x)):=fun wx hb k hk=>by
  obtain ⟨g,rfl⟩:=hgt (by omega);have hx:T[k]?=some (T[k]'(by omega)):=List.getElem?_eq_getElem (by omega);refine ⟨g,T[k]'(by omega),rfl,?_⟩;have:=rt.cell intL hn hx 0 (by omega)
  rw [Nat.mul_one,Nat.add_zero] at this;rw [World.cell?_of_block (a:=⟨g,k,none⟩) (hb.block g (rt.own.lt g rfl).2)];exact this
 have HF:=hid hf;have B1' : Below w.heap.size w w1:=B0.trans (B1.mono B0.size);have s0:w1.drew.cell? ⟨S0,4,none⟩=some (iI o.dst)∧w1.drew.cell? ⟨s,1,none⟩=some (ptr r)∧w1.drew.cell? ⟨r,0,none⟩=some (iI c.ad):=by
  have e:=Ac.out w1.drew (B1'.trans (B1d.mono B1'.size));exact ⟨zaa (w:=w1.drew) k10 rfl,e.1,e.2.2.1⟩
 have s2:w2.cell? ⟨S0,4,none⟩=some (iI o.dst)∧w2.cell? ⟨s,1,none⟩=some (ptr r)∧w2.cell? ⟨r,0,none⟩=some (iI c.ad):=by
  have e:=Ac.out w2 (B1'.trans (B2.mono B1'.size));exact ⟨zaa ((B2.block S0 (by omega)).trans k10) rfl,e.1,e.2.2.1⟩
 have HK:Hid (Below w.heap.size w w2∧w2.heap[S0]?=some (.cells (opL o).toArray 48)∧w2.heap[S1]?=some (.cells #[iI 0,iI 0,.string ⟨#[]⟩] 78)∧w2.heap[S2]?=some (.cells #[iI 0,iI 0,.string ⟨#[]⟩] 78)∧S0<S1∧S1<S2∧w.heap.size=S0):=⟨B1'.trans (B2.mono B1'.size),(B2.block S0 (by omega)).trans k10,(B2.block S1 hlt1).trans k1,k2,n01,n12,hS0⟩;have hni:(n:Int)<=1000000000:=by omega
 have hbb:=fun a b w=>bld78_2 a b w;have hto:=hf.dst;have Ad:=hid (zeb o.dst 100 hto (by omega) w1.drew);have Ae:=hid (zeb o.dst 100 hto (by omega) w2);clear h k0 k1 k2 k10 hlt0 hlt1 n01 n12 B0 B1 B1d B2 B1' sb rt hgt Q hf hn hT hto;go_enter Tryz.func32,Tryz.ntmps32
 go_wp2_with fail
 go_cut [5] (fun u5 wx=>u5=ptr S2∧Hid (∃ a1,wx=w2.setCells S2 0 [iI a1,iI c.ad,.string ⟨#[]⟩]))
 case first =>
  refine zah (S:=fun w'=>w'.cell? ⟨S0,4,none⟩=some (iI o.dst)∧w'.cell? ⟨s,1,none⟩=some (ptr r)∧w'.cell? ⟨r,0,none⟩=some (iI c.ad)) (n:=14) (by kernel_rfl) rfl (by kernel_rfl) (by kernel_rfl) ?_ (fun hHeld=>?_)
  · exact s0
  refine tk 0 ?_ rfl ?_ ?_;rotate_left
  · (intro w hs;(try dsimp only at hs);go_simp;try with_reducible rfl)
  try simp only [gA,gB,gC,Act.put,gE,gF,gG]
  refine tk 1 ?_ rfl ?_ ?_;rotate_left
  · (intro w hs;(try dsimp only at hs);go_simp;try with_reducible rfl)
  try simp only [gA,gB,gC,Act.put,gE,gF,gG]
  refine tk 4 ?_ rfl ?_ ?_;rotate_left
  · (intro w hs;(try dsimp only at hs);go_simp;try with_reducible rfl)
  try simp only [gA,gB,gC,Act.put,gE,gF,gG]
  refine tk 5 ?_ rfl ?_ ?_;rotate_left
  · (intro w hs;(try dsimp only at hs);go_simp;try with_reducible rfl)
  try simp only [gA,gB,gC,Act.put,gE,gF,gG]
  refine tk 6 ?_ rfl ?_ ?_;rotate_left
  · (intro w hs;(try dsimp only at hs);go_simp;try with_reducible rfl)
  try simp only [gA,gB,gC,Act.put,gE,gF,gG]
  refine tk 7 ?_ rfl ?_ ?_;rotate_left
  · (intro w hs;(try dsimp only at hs);go_simp;try with_reducible rfl)
  try simp only [gA,gB,gC,Act.put,gE,gF,gG]
  refine tk 8 ?_ rfl ?_ ?_;rotate_left
  · (intro w hs;(try dsimp only at hs);go_simp;try with_reducible rfl)
  try simp only [gA,gB,gC,Act.put,gE,gF,gG]
  refine tk 9 ?_ rfl ?_ ?_;rotate_left
  · (intro w hs;(try dsimp only at hs);go_simp;try with_reducible rfl)
  try simp only [gA,gB,gC,Act.put,gE,gF,gG]
  refine tk 10 ?_ rfl ?_ ?_;rotate_left
  · (intro w hs;(try dsimp only at hs);go_simp;try with_reducible rfl)
  try simp only [gA,gB,gC,Act.put,gE,gF,gG]
  refine tk 11 ?_ rfl ?_ ?_;rotate_left
  · (intro w hs;(try dsimp only at hs);go_simp;try with_reducible rfl)
  try simp only [gA,gB,gC,Act.put,gE,gF,gG]
  refine wpAnyH_ready (rs:=[2,13]) (by kernel_rfl) (by simp) ?_;refine AllReadyH.cons rfl (fun KK hK=>?_) (AllReadyH.cons rfl (fun KK hK=>?_) AllReadyH.nil)
  · go_simp
    refine Ad.out.mono ?_;rintro _ wq ⟨kp,rfl,hkp0,hkp1,hwq⟩;rw [hwq];clear hwq wq;refine hK.out _ _ ?_ (fun hHeld1=>?_)
    · exact s0
    clear hK hHeld;(try simp only [gA,gB,gC,Act.put,gE,gF,gG]);refine tk 3 ?_ rfl ?_ ?_;rotate_left
    · (intro w hs;(try dsimp only at hs);go_simp;try with_reducible rfl)
    (try simp only [gA,gB,gC,Act.put,gE,gF,gG]);refine tk 12 ?_ rfl ?_ ?_;rotate_left
    · (intro w hs;(try dsimp only at hs);go_simp;try with_reducible rfl)
    (try simp only [gA,gB,gC,Act.put,gE,gF,gG]);refine rd 13 rfl (fun KK hK=>?_);go_simp
    refine hK.out _ _ ?_ (fun hHeld2=>?_)
    · exact s2
    clear hK hHeld1;(try simp only [gA,gB,gC,Act.put,gE,gF,gG]);obtain ⟨a1,ha1⟩:∃ y,IntKind.i64.wrap (1+kp)=y:=⟨_,rfl⟩;obtain ⟨w3,hw3⟩:∃ y,w2.setCells S2 0 [iI a1,iI c.ad,.string ⟨#[]⟩]=y:=⟨_,rfl⟩;have k2:=HK.out.2.2.2.1;have g1:0+([iI a1,iI c.ad,.string ⟨#[]⟩]:List Value).length<=(#[iI 0,iI 0,.string ⟨#[]⟩]:Array Value).size:=(by simp);have g2:(Tryz.prog.info? 78).map (·.size)=some ([iI a1,iI c.ad,.string ⟨#[]⟩]:List Value).length:=zcu;have g3:∀ v∈([iI a1,iI c.ad,.string ⟨#[]⟩]:List Value),v.oneCell'=true:=(by intro v hv;simp only [List.mem_cons,List.not_mem_nil,or_false] at hv;rcases hv with rfl|rfl|rfl <;> rfl);refine wpAnyH_done (by kernel_rfl) ?_ _;refine zbx.done ?_;refine wpOp_step (i:=14) rfl (fun KK hK=>?_);have Ag:=hid hK;clear hK;with_reducible refine zcj rfl 78 (.tmp 5) (.tmp 22) rfl S2 0 [iI a1,iI c.ad,.string ⟨#[]⟩] k2 (by go_simp) (by go_simp) g1 g2 g3 hw3 ?_
    with_reducible refine Ag.out _ _ ?_
    (go_wp2_with fail);go_meet
    exact ⟨rfl,a1,hw3.symm⟩
  · go_simp
    refine hK.out _ _ ?_ (fun hHeld1=>?_)
    · exact s2
    clear hK hHeld;(try simp only [gA,gB,gC,Act.put,gE,gF,gG]);refine rd 2 rfl (fun KK hK=>?_);go_simp
    refine Ae.out.mono ?_;rintro _ wq ⟨kp,rfl,hkp0,hkp1,hwq⟩;rw [hwq];clear hwq wq;refine hK.out _ _ ?_ (fun hHeld2=>?_)
    · exact s2
    clear hK hHeld1;(try simp only [gA,gB,gC,Act.put,gE,gF,gG]);refine tk 3 ?_ rfl ?_ ?_;rotate_left
    · (intro w hs;(try dsimp only at hs);go_simp;try with_reducible rfl)
    (try simp only [gA,gB,gC,Act.put,gE,gF,gG]);refine tk 12 ?_ rfl ?_ ?_;rotate_left
    · (intro w hs;(try dsimp only at hs);go_simp;try with_reducible rfl)
    (try simp only [gA,gB,gC,Act.put,gE,gF,gG]);obtain ⟨a1,ha1⟩:∃ y,IntKind.i64.wrap (1+kp)=y:=⟨_,rfl⟩;obtain ⟨w3,hw3⟩:∃ y,w2.setCells S2 0 [iI a1,iI c.ad,.string ⟨#[]⟩]=y:=⟨_,rfl⟩;have k2:=HK.out.2.2.2.1;have g1:0+([iI a1,iI c.ad,.string ⟨#[]⟩]:List Value).length<=(#[iI 0,iI 0,.string ⟨#[]⟩]:Array Value).size:=(by simp);have g2:(Tryz.prog.info? 78).map (·.size)=some ([iI a1,iI c.ad,.string ⟨#[]⟩]:List Value).length:=zcu;have g3:∀ v∈([iI a1,iI c.ad,.string ⟨#[]⟩]:List Value),v.oneCell'=true:=(by intro v hv;simp only [List.mem_cons,List.not_mem_nil,or_false] at hv;rcases hv with rfl|rfl|rfl <;> rfl);refine wpAnyH_done (by kernel_rfl) ?_ _;refine zbx.done ?_;refine wpOp_step (i:=14) rfl (fun KK hK=>?_);have Ag:=hid hK;clear hK;with_reducible refine zcj rfl 78 (.tmp 5) (.tmp 22) rfl S2 0 [iI a1,iI c.ad,.string ⟨#[]⟩] k2 (by go_simp) (by go_simp) g1 g2 g3 hw3 ?_
    with_reducible refine Ag.out _ _ ?_
    (go_wp2_with fail);go_meet
    exact ⟨rfl,a1,hw3.symm⟩
 case rest =>
 obtain ⟨rfl,hcut2⟩:=hcut;obtain ⟨a1,hcw⟩:=hcut2.out;obtain ⟨w3,hw3⟩:∃ y,w2.setCells S2 0 [iI a1,iI c.ad,.string ⟨#[]⟩]=y:=⟨_,rfl⟩;rw [hw3] at hcw;have hcw:=hcw.symm;subst hcw;clear s0 s2 hbb Ad Ae hw0 hw1 hw2 hcut2;obtain ⟨S4,hS4⟩:∃ y,w3.heap.size=y:=⟨_,rfl⟩;obtain ⟨w4,hw4⟩:∃ y,w3.alloc (.cells #[iI 0,.bool false,iI 0,.string ⟨#[]⟩,iI 0,iI 0,iI 0,iI 0,iI 0,.string ⟨#[]⟩] 46)=y:=⟨_,rfl⟩;obtain ⟨w5,hw5⟩:∃ y,w4.setCells S4 0 (zam o.r)=y:=⟨_,rfl⟩;have HN:Hid (w.heap.size<=S2∧S0≠S2∧S1≠S2∧S4≠S2∧w.heap.size<=S4∧S0≠S4∧S1≠S4∧S2≠S4∧w.heap.size<=S1∧w3.heap[S0]?=some (.cells (opL o).toArray 48)∧w4.heap[S4]?=some (.cells #[iI 0,.bool false,iI 0,.string ⟨#[]⟩,iI 0,iI 0,iI 0,iI 0,iI 0,.string ⟨#[]⟩] 46))∧Hid (Rp w w5 S0 S1 S2 S4 o a1 c.ad ⟨#[]⟩ o.r.xid):=by
  obtain ⟨b2,q0,q1,q2,n01,n12,e0⟩:=HK.out;have b3:Below w.heap.size w w3:=by rw [<- hw3];exact za1 b2 (by omega)
  have r0:w3.heap[S0]?=some (.cells (opL o).toArray 48):=by rw [<- hw3,zbm _ _ _ _ _ (by omega)];exact q0
  have r1:w3.heap[S1]?=some (.cells #[iI 0,iI 0,.string ⟨#[]⟩] 78):=by rw [<- hw3,zbm _ _ _ _ _ (by omega)];exact q1
  have r2:w3.heap[S2]?=some (.cells #[iI a1,iI c.ad,.string ⟨#[]⟩] 78):=by rw [<- hw3];exact zat q2 _ rfl
  have l2:S2<S4:=by rw [<- hS4];exact (Array.getElem?_eq_some_iff.1 r2).1
  have b4:Below w3.heap.size w3 w4:=by rw [<- hw4];exact (Below.refl _ _).alloc (Nat.le_refl _) _
  have r4:w4.heap[S4]?=some (.cells #[iI 0,.bool false,iI 0,.string ⟨#[]⟩,iI 0,iI 0,iI 0,iI 0,iI 0,.string ⟨#[]⟩] 46):=by rw [<- hw4,<- hS4];exact (MapKept.heap_alloc w3 _).1
  have ne:∀ S,S<S4->w5.heap[S]?=w3.heap[S]?:=fun S hS=>by rw [<- hw5,zbm _ _ _ _ _ (by omega)];exact b4.block S (by omega)
  exact ⟨⟨by omega,by omega,by omega,by omega,by omega,by omega,by omega,by omega,by omega,r0,r4⟩,⟨by rw [<- hw5];exact za1 (b3.trans (b4.mono b3.size)) (by omega),(ne _ (by omega)).trans r0,(ne _ (by omega)).trans r1,(ne _ l2).trans r2,by rw [<- hw5];exact zat r4 _ rfl⟩⟩
 obtain ⟨HN,HR⟩:=HN;have Ai:=hid hw5;clear HK hw3;go_wp2_with (with_reducible refine zbj 46 rfl ?_)
 refine (show Hid _ from ?_);refine zbh rfl 46 rfl S0 9 (zam o.r) rfl (op_range HN.out.2.2.2.2.2.2.2.2.2.1) Tryz.underlying46 rfl zgz ?_;go_wp2_with (with_reducible refine zba 46 rfl ?_)
 refine (show Hid _ from ?_);refine za6 rfl 46 rfl S4 0 (zam o.r) HN.out.2.2.2.2.2.2.2.2.2.2 rfl rfl (by simp [zam]) zgz (by intro v hv;simp only [zam,List.mem_cons,List.not_mem_nil,or_false] at hv;rcases hv with rfl|rfl|rfl|rfl|rfl|rfl|rfl|rfl|rfl|rfl <;> rfl) Ai.out ?_;clear hw4 hw5 Ai;have s5:w5.drew.cell? ⟨S0,2,none⟩=some (iI o.n)∧w5.drew.cell? ⟨s,2,none⟩=some (.slice to_ n tc):=by
  have e:=Ac.out w5.drew (HR.out.be.trans ((zdb w5 1).mono HR.out.be.size));exact ⟨zaa (w:=w5.drew) HR.out.s0 rfl,e.2.1⟩
 have Ad:=hid (zeb o.n ((n:Int)+1) HF.out.n (by omega) w5.drew);have hw1n:wrap64 ((n:Int)+1)=(n:Int)+1:=zb0 (by omega);go_wp2_with fail
 refine zah (S:=fun w'=>w'.cell? ⟨S0,2,none⟩=some (iI o.n)∧w'.cell? ⟨s,2,none⟩=some (.slice to_ n tc)) (n:=9) (by kernel_rfl) rfl (by kernel_rfl) (by kernel_rfl) ?_ (fun hHeld3=>?_)
 · exact s5
 refine tk 0 ?_ rfl ?_ ?_;rotate_left
 · (intro w hs;(try dsimp only at hs);go_simp;try with_reducible rfl)
 try simp only [gA,gB,gC,Act.put,gE,gF,gG]
 refine tk 1 ?_ rfl ?_ ?_;rotate_left
 · (intro w hs;(try dsimp only at hs);go_simp;try with_reducible rfl)
 try simp only [gA,gB,gC,Act.put,gE,gF,gG]
 refine tk 2 ?_ rfl ?_ ?_;rotate_left
 · (intro w hs;(try dsimp only at hs);go_simp;try with_reducible rfl)
 try simp only [gA,gB,gC,Act.put,gE,gF,gG]
 refine tk 3 ?_ rfl ?_ ?_;rotate_left
 · (intro w hs;(try dsimp only at hs);go_simp;try with_reducible rfl)
 try simp only [gA,gB,gC,Act.put,gE,gF,gG]
 refine tk 4 ?_ rfl ?_ ?_;rotate_left
 · (intro w hs;(try dsimp only at hs);go_simp;try with_reducible rfl)
 try simp only [gA,gB,gC,Act.put,gE,gF,gG]
 refine tk 5 ?_ rfl ?_ ?_;rotate_left
 · (intro w hs;(try dsimp only at hs);go_simp;try with_reducible rfl)
 try simp only [gA,gB,gC,Act.put,gE,gF,gG]
 refine tk 6 ?_ rfl ?_ ?_;rotate_left
 · (intro w hs;(try dsimp only at hs);go_simp;try with_reducible rfl)
 try simp only [gA,gB,gC,Act.put,gE,gF,gG]
 refine tk 7 ?_ rfl ?_ ?_;rotate_left
 · (intro w hs;(try dsimp only at hs);go_simp;try with_reducible rfl)
 try simp only [gA,gB,gC,Act.put,gE,gF,gG]
 refine rd 8 rfl (fun KK hK=>?_);go_simp
 rw [IntWalk.i64_left,hw1n];refine Ad.out.mono ?_;rintro _ wq ⟨kp,rfl,hkp2,hkp3,hwq⟩;rw [hwq];clear hwq wq;refine hK.out _ _ ?_ (fun hHeld4=>?_)
 · exact s5
 clear hK hHeld3;try simp only [gA,gB,gC,Act.put,gE,gF,gG]
 refine wpAnyH_done (by kernel_rfl) ?_ _;refine zbx.done ?_;refine wpOp_step (i:=9) rfl (fun KK hK=>?_);have HK:=hid hK;clear hK;go_simp
 refine HK.out _ _ ?_;clear HK;obtain ⟨j,rfl⟩:∃ j:Nat,kp=(j:Int):=⟨kp.toNat,(Int.toNat_of_nonneg hkp2).symm⟩;have hj:j<=n:=by clear hw1n;omega
 obtain ⟨z,hz⟩:∃ z,bits BinOp.and IntKind.i64 (wrap64 (c.first+(j:Int))) 4294967295=z:=⟨_,rfl⟩;obtain ⟨w6,hw6⟩:∃ y,w5.drew.setCell ⟨S4,0,none⟩ (iI z)=y:=⟨_,rfl⟩;have Ab:Hid (Rp w w6 S0 S1 S2 S4 o a1 c.ad ⟨#[]⟩ z):=by
  have R:=HR.out.below (zdb w5 1);have N:=HN.out;rw [<- hw6];exact ⟨R.be.setCell N.2.2.2.2.1 _,(Below.heap_setCell _ _ _ _ N.2.2.2.2.2.1).trans R.s0,(Below.heap_setCell _ _ _ _ N.2.2.2.2.2.2.1).trans R.s1,(Below.heap_setCell _ _ _ _ N.2.2.2.2.2.2.2.1).trans R.s2,zae R.s4 0 _⟩
 have f4:w5.drew.cell? ⟨S4,0,none⟩=some (iI o.r.xid)∧w5.drew.frozen? ⟨S4,0,none⟩=false:=⟨zaa (w:=w5.drew) HR.out.s4 rfl,zab (w:=w5.drew) HR.out.s4 _⟩;have f2:w5.drew.cell? ⟨s,1,none⟩=some (ptr r)∧w5.drew.cell? ⟨r,2,none⟩=some (iI c.first):=by
  have e:=Ac.out w5.drew (HR.out.be.trans ((zdb w5 1).mono HR.out.be.size));exact ⟨e.1,e.2.2.2⟩
 have Aa:Hid (w.heap.size<=S2∧S0≠S2∧S1≠S2∧S4≠S2∧w.heap.size<=S1):=⟨HN.out.1,HN.out.2.1,HN.out.2.2.1,HN.out.2.2.2.1,HN.out.2.2.2.2.2.2.2.2.1⟩;clear HR HN s5 hHeld4 Ad hkp2 hkp3 hw1n;obtain ⟨f40,f41⟩:=f4;obtain ⟨f20,f21⟩:=f2;go_upto_region 4 with fail
 go_cut [45] (fun _ wx=>Hid (Rp w wx S0 S1 S2 S4 o a1 c.ad ⟨#[]⟩ z))
 case first =>
  go_wp2_with fail
  go_meet
  exact Ab.out
 case rest =>
 obtain ⟨w6,hw6⟩:∃ y,y=wc:=⟨_,rfl⟩;subst hw6;have Ab:=hid hcut.out;clear hcut hw6;go_upto_region 5 with fail
 go_cut [58] (fun u58 wx=>∃ b:Bool,u58=.bool b∧(b=true->j<n)∧Hid (wx=w6))
 case first =>
  have p1:w6.cell? ⟨s,2,none⟩=some (.slice to_ n tc):=(Ac.out w6 Ab.out.be).2.1;have p2:w6.cell? ⟨S0,3,none⟩=some (iI o.m):=zaa Ab.out.s0 rfl;by_cases hjn:j<n
  · have hji:(j:Int)<(n:Int):=(by omega);(go_wp2_with fail);go_meet
    exact ⟨_,rfl,fun _=>hjn,rfl⟩
  · have hji:¬ ((j:Int)<(n:Int)):=(by omega);(go_wp2_with fail);go_meet
    exact ⟨false,rfl,fun e=>(by cases e),rfl⟩
 case rest =>
 obtain ⟨b5,rfl,hbj,hwx⟩:=hcut;have hwx:=hwx.out.symm;subst hwx;go_upto_if 58 with fail
 go_cut [59] (fun _ wx=>Hid (∃ pa,Rp w wx S0 S1 S2 S4 o pa c.ad ⟨#[]⟩ z))
 case first =>
  cases b5
  · (go_wp2_with fail);go_meet
    exact ⟨_,Ab.out⟩
  · have hjn:j<n:=hbj rfl;have hji:(j:Int)<(n:Int):=(by omega);have hj0:(0:Int)<=(j:Int):=(by omega);obtain ⟨g,x,hto,pg⟩:=Aj.out w6 Ab.out.be j hjn;subst hto;have p1:w6.cell? ⟨s,2,none⟩=some (.slice (some ⟨g,0,none⟩) n tc):=(Ac.out w6 Ab.out.be).2.1;have pf:w6.cell? ⟨S2,0,none⟩=some (iI a1):=zaa Ab.out.s2 rfl;have pf2:w6.frozen? ⟨S2,0,none⟩=false:=zab Ab.out.s2 _;(go_wp2_with fail);go_meet
    exact ⟨_,(Ab.out.set2 Aa.out.1 Aa.out.2.1 Aa.out.2.2.1 Aa.out.2.2.2.1).1 x⟩
 case rest =>
 obtain ⟨w7,hw7⟩:∃ y,y=wc:=⟨_,rfl⟩;subst hw7;obtain ⟨pa,h7⟩:=hcut.out;have R7:=hid h7;clear hcut h7 Ab;go_upto_region 7 with fail
 go_cut [70] (fun u70 wx=>∃ b:Bool,u70=.bool b∧Hid (wx=w7))
 case first =>
  have p3:w7.cell? ⟨S0,3,none⟩=some (iI o.m):=zaa R7.out.s0 rfl;go_wp2_with fail
  go_meet
  exact ⟨_,rfl,rfl⟩
 case rest =>
 obtain ⟨b11,rfl,hwx⟩:=hcut;have hwx:=hwx.out.symm;subst hwx;go_upto_if 70 with fail
 go_cut [71] (fun _ wx=>Hid (∃ pb,Rp w wx S0 S1 S2 S4 o pa pb ⟨#[]⟩ z))
 case first =>
  cases b11
  · (go_wp2_with fail);go_meet
    exact ⟨_,R7.out⟩
  · have p3:w7.cell? ⟨S0,3,none⟩=some (iI o.m):=zaa R7.out.s0 rfl;have p4:w7.cell? ⟨S2,1,none⟩=some (iI c.ad):=zaa R7.out.s2 rfl;have p5:w7.frozen? ⟨S2,1,none⟩=false:=zab R7.out.s2 _;(go_wp2_with fail);go_meet
    exact ⟨_,(R7.out.set2 Aa.out.1 Aa.out.2.1 Aa.out.2.2.1 Aa.out.2.2.2.1).2.1 o.m⟩
 case rest =>
 obtain ⟨w8,hw8⟩:∃ y,y=wc:=⟨_,rfl⟩;subst hw8;obtain ⟨pb,h8⟩:=hcut.out;have R8:=hid h8;clear hcut h8 R7;have HL:=hid (prP_len { o.r with xid:=z });have hb8:w8.rangeAt S4 0 (zam { o.r with xid:=z }):=zal R8.out.s4;have Ah:=hid (zbn { o.r with xid:=z } w8 (by have:=HF.out.r;show o.r.results.length<=_;omega));obtain ⟨pr,hpr⟩:∃ pr,prP { o.r with xid:=z }=pr:=⟨_,rfl⟩;rw [hpr] at HL Ah;obtain ⟨pl,pe⟩:=pr;clear hpr;go_wp2_with (with_reducible refine zbj 46 rfl ?_)
 refine (show Hid _ from ?_);refine zbh rfl 46 rfl S4 0 (zam { o.r with xid:=z }) rfl hb8 Tryz.underlying46 rfl zgz ?_;clear hb8;go_wp2_with fail
 refine Ah.out.mono ?_;rintro _ w9 ⟨rfl,hb9⟩;have R9:=hid (R8.out.below hb9);obtain ⟨ds,hds⟩:∃ ds:ByteArray,(⟨pl.toArray⟩:ByteArray)=ds:=⟨_,rfl⟩;obtain ⟨wa,hwa⟩:∃ y,w9.setCell ⟨S2,2,none⟩ (.string ds)=y:=⟨_,rfl⟩;have Ra:=hid ((R9.out.set2 Aa.out.1 Aa.out.2.1 Aa.out.2.2.1 Aa.out.2.2.2.1).2.2 ds);rw [hwa] at Ra;have g0:w9.cell? ⟨S2,2,none⟩=some (.string ⟨#[]⟩):=zaa R9.out.s2 rfl;have g1:w9.frozen? ⟨S2,2,none⟩=false:=zab R9.out.s2 _;have g2:wa.cell? ⟨S0,8,none⟩=some (.string ⟨o.s.toArray⟩):=zaa Ra.out.s0 rfl;have g3:wa.cell? ⟨S2,2,none⟩=some (.string ds):=zaa Ra.out.s2 rfl;have g4:wa.frozen? ⟨S2,2,none⟩=false:=zab Ra.out.s2 _;have hPL:Hid (pl.length<=o.r.verf.body.length+o.r.results.length+100):=HL.out;clear HL Ah hb9 R8;obtain ⟨eb,heb⟩:∃ eb,(pe != (0:Int))=eb:=⟨_,rfl⟩;rw [hds];cases eb
 · as_aux_lemma =>
   obtain ⟨wb,hwb⟩:∃ y,y=wa:=⟨_,rfl⟩;subst hwb;have Rb:=Ra;obtain ⟨dd,hdd⟩:∃ y,y=ds:=⟨_,rfl⟩;subst hdd;obtain ⟨wc,hwc⟩:∃ y,wb.setCells S1 0 [iI pa,iI pb,.string dd]=y:=⟨_,rfl⟩;have kc:wc.heap[S1]?=some (.cells #[iI pa,iI pb,.string dd] 78):=by rw [<- hwc];exact zat Rb.out.s1 _ rfl
   have q0:wc.cell? ⟨S1,0,none⟩=some (iI pa):=zaa kc rfl;have q1:wc.cell? ⟨S1,1,none⟩=some (iI pb):=zaa kc rfl;have q2:wc.cell? ⟨S1,2,none⟩=some (.string dd):=zaa kc rfl;have HB:Hid (Below w.heap.size w wc):=by rw [<- hwc];exact za1 Rb.out.be Aa.out.2.2.2.2
   have Af:=hid hwc;have hr2:wb.rangeAt S2 0 [iI pa,iI pb,.string dd]:=zal Rb.out.s2;clear kc hwc;go_wp2_with (with_reducible refine zbj 78 rfl ?_)
   refine (show Hid _ from ?_);refine zbh rfl 78 rfl S2 0 [iI pa,iI pb,.string dd] rfl hr2 Tryz.underlying78 rfl zcu ?_;clear hr2;go_wp2_with (with_reducible refine zba 78 rfl ?_)
   refine (show Hid _ from ?_);refine za6 rfl 78 rfl S1 0 [iI pa,iI pb,.string dd] Rb.out.s1 rfl rfl (by simp) zcu (by intro v hv;simp only [List.mem_cons,List.not_mem_nil,or_false] at hv;rcases hv with rfl|rfl|rfl <;> rfl) Af.out ?_;clear Af Rb;go_wp2;refine bodyPost_ret (v:=.agg #[iI pa,iI pb,.string dd]) (by simp [results,Tryz.results32,go_sem,q0,q1,q2]) rfl ?_;exact ⟨⟨_,_,pl,by rw [hds],by have:=hPL.out;have:=HF.out.b;have:=HF.out.r;omega⟩,HB.out⟩
 · as_aux_lemma =>
   obtain ⟨dd,hdd⟩:∃ dd:ByteArray,(⟨o.s.toArray⟩:ByteArray)=dd:=⟨_,rfl⟩;rw [hdd] at g2;obtain ⟨wb,hwb⟩:∃ y,wa.setCell ⟨S2,2,none⟩ (.string dd)=y:=⟨_,rfl⟩;have Rb:=hid ((Ra.out.set2 Aa.out.1 Aa.out.2.1 Aa.out.2.2.1 Aa.out.2.2.2.1).2.2 dd);rw [hwb] at Rb;obtain ⟨wc,hwc⟩:∃ y,wb.setCells S1 0 [iI pa,iI pb,.string dd]=y:=⟨_,rfl⟩;have kc:wc.heap[S1]?=some (.cells #[iI pa,iI pb,.string dd] 78):=by rw [<- hwc];exact zat Rb.out.s1 _ rfl
   have q0:wc.cell? ⟨S1,0,none⟩=some (iI pa):=zaa kc rfl;have q1:wc.cell? ⟨S1,1,none⟩=some (iI pb):=zaa kc rfl;have q2:wc.cell? ⟨S1,2,none⟩=some (.string dd):=zaa kc rfl;have HB:Hid (Below w.heap.size w wc):=by rw [<- hwc];exact za1 Rb.out.be Aa.out.2.2.2.2
   have Af:=hid hwc;have hr2:wb.rangeAt S2 0 [iI pa,iI pb,.string dd]:=zal Rb.out.s2;clear kc hwc;go_wp2_with (with_reducible refine zbj 78 rfl ?_)
   refine (show Hid _ from ?_);refine zbh rfl 78 rfl S2 0 [iI pa,iI pb,.string dd] rfl hr2 Tryz.underlying78 rfl zcu ?_;clear hr2;go_wp2_with (with_reducible refine zba 78 rfl ?_)
   refine (show Hid _ from ?_);refine za6 rfl 78 rfl S1 0 [iI pa,iI pb,.string dd] Rb.out.s1 rfl rfl (by simp) zcu (by intro v hv;simp only [List.mem_cons,List.not_mem_nil,or_false] at hv;rcases hv with rfl|rfl|rfl <;> rfl) Af.out ?_;clear Af Rb;go_wp2;refine bodyPost_ret (v:=.agg #[iI pa,iI pb,.string dd]) (by simp [results,Tryz.results32,go_sem,q0,q1,q2]) rfl ?_;exact ⟨⟨_,_,o.s,by rw [hdd],by have:=HF.out.s;omega⟩,HB.out⟩
end
end Go.Proofs.YtfcbjcebkahehaaGreatDoor.Cl
