import Derived.Test.YtfcbjcebkahehaaGreatDoorPly18
import Derived.Test.YtfcbjcebkahehaaGreatDoorPly07
import Derived.Test.YtfcbjcebkahehaaGreatDoorPly06
import Derived.Test.YtfcbjcebkahehaaGreatDoorPly03
set_option maxRecDepth 8000
set_option maxHeartbeats 20000000
set_option linter.unusedSimpArgs false
namespace Go.Proofs.YtfcbjcebkahehaaGreatDoor.Cl
set_option linter.unusedSimpArgs false
open Go.RowKit
theorem size48:(Tryz.prog.info? 48).map (·.size)=some 19:=by kernel_rfl
def SD (K:Nat->Nat) (w:World) (B t s p r:Nat) (c:Cf) (n:Nat):Prop:=∃ next now L M D q T,SI K w B t s p r c next now L M D q T∧L.length+D.length<=n∧next<=4294967296+(n:Int)∧now<=40*(n:Int)∧T.length<=n
def zdv (K:Nat->Nat) (w:World) (B t s p r:Nat) (c:Cf) (n bb:Nat) (x y z:Ks) (w' : World):Prop:=∃ K' y' z',SD K' w' B t s p r c (n+1)∧BK K' w' B bb x y' z' 0 0 0 0 0 0∧(y'.N=y.N∧y'.FL.length<=y.FL.length+1)∧(z'.N=z.N∧z'.FL.length<=z.FL.length+1)∧Mk (fun u=>(t<=u∧u<=t+22)∨299<=u) w w' K K'
section
variable {K K' : Nat->Nat} {w w' : World} {B bb:Nat} {x y z:Ks} {t s p r n:Nat} {c:Cf} {next now:Int} {L:List Wt} {M:List Dw} {D:List Oc} {q:Mq} {T:List Int}
theorem SI.putT (h:SI K w B t s p r c next now L M D q T) (hz:∀ b,b<B->K b=0) (t0:0<t) (hT:T.length<=1000000000) {vt:Value} (d:Int) {S1:Nat} {w1:World} (hS1:w.heap.size=S1) (hw1:w.alloc (.cells #[iI d] 3)=w1) (hs:w.heap[s]?=some (.cells #[ptr p,ptr r,vt] 52)) (hr:RW 3 1 intC K w B (t+20) vt T) :
 ∃ o2 n2 c2 w2 w3 K3,(∀ ty,(Builtin.append_ #[24,24] ty #[vt,.slice (some ⟨S1,0,none⟩) 1 1]).run Tryz.prog w1=.ok (.slice o2 n2 c2) w2)∧Mv (fun u=>u=t+20) w w2 K K3∧w2.cell? ⟨s,2,none⟩=some vt∧w2.frozen? ⟨s,2,none⟩=false∧w2.setCell ⟨s,2,none⟩ (.slice o2 n2 c2)=w3∧Hid (SI K3 w3 B t s p r c next now L M D q (T++[d])∧Mk (fun u=>u=t+20∨u=t+22) w w3 K K3):=by
 have hB:B<=w.heap.size:=by
  obtain ⟨_,_,_,_,P⟩:=h.pc;exact P.hB
 have m1:Mv (fun _=>False) w w1 K (ext w K (fun _=>t+7)):=by rw [<- hw1];exact Mv.alloc _ _ _ _
 have r1:=hr.mv m1 id;obtain ⟨i,hi,⟨zz,hz1,hzs⟩,hsz,hby⟩:=ke24.info;obtain ⟨v2,w2,K2,q1,q2,m2⟩:=RW.app (ty:=24) Tryz.underlying24 hi hz1 hsz hby hzs (by omega) intL intO r1 (Nat.le_trans hB m1.size) (N:=S1) (x:=d) (cs:=#[iI d]) rfl (by rw [<- hw1,<- hS1];exact (MapKept.heap_alloc w _).1) (by omega) (by omega);obtain ⟨vt',a1,a2⟩:=h.me;obtain ⟨o2,c2,hv2,_,_⟩:=q2.form;subst hv2;have b0:TB K w (t+22) s (.cells #[ptr p,ptr r,vt] 52):=⟨hs,a1.k⟩;have b2:=(b0.mv m1 id).mv m2 (by omega);obtain ⟨w3,hw3⟩:∃ y,w2.setCell ⟨s,2,none⟩ (.slice o2 (T++[d]).length c2)=y:=⟨_,rfl⟩;have m3:Mv (fun u=>u=t+22) w2 w3 K2 K2:=by rw [<- hw3];exact Mv.of_set w2 K2 ⟨s,2,none⟩ _ b2.k
 have b3:=zbw b2 2 (.slice o2 (T++[d]).length c2);rw [hw3] at b3;have mm:Mk (fun u=>u=t+20∨u=t+22) w w3 K K2:=(m1.wk.mono (fun _ e=>e.elim)).trans ((m2.wk.mono (fun u e=>.inl e)).trans (m3.wk.mono (fun u e=>.inr e)));have h1:=h.b1;obtain ⟨oa,cap,vw,vd,P⟩:=h.pc;obtain ⟨oa',cap',vw',vd',qb,Q⟩:=h.dc;refine ⟨o2,_,c2,w2,w3,K2,fun ty=>q1 ty,(m1.mono (fun _ e=>e.elim)).trans m2,zaa b2.at_ rfl,zab b2.at_ _,hw3,⟨⟨_,b3,q2.mv m3 (by omega)⟩,⟨oa,cap,vw,vd,P.wk mm hz (by omega) (fun j hj _=>by omega) (fun e=>P.dn.nil_of e)⟩,⟨oa',cap',vw',vd',qb,Q.wk mm h1 hz (by omega) (fun j hj _=>by omega) (fun e=>Q.dn.nil_of e)⟩,h.pr,h.so,h.n0,h.x0,h.sq,h.ln⟩,mm⟩
end
theorem SI.does_none {K:Nat->Nat} {w:World} {B bb:Nat} {x y z:Ks} {t s p r n:Nat} {c:Cf} {next now:Int} {L:List Wt} {M:List Dw} {D:List Oc} {q:Mq} {T:List Int} (h:SI K w B t s p r c next now L M D q T) (b:BK K w B bb x y z 0 0 0 0 0 0) (o:OpR) (hf:o.fits) (hk:¬ (o.kind=1∨o.kind=2∨o.kind=3∨o.kind=4∨o.kind=5∨o.kind=6)) (ht:t+60<299) (t0:0<t) (hz:∀ b,b<B->K b=0) (hn:n<=33554431) (hl:L.length+D.length<=n) (hx:next<=4294967296+(n:Int)) (hw:now<=40*(n:Int)) (hT:T.length<=n) (hy:y.FL.length<=1000000000) (hzz:z.FL.length<=1000000000) :
 Calls Tryz.prog 11 #[ptr s,.agg (opL o).toArray,ptr bb] w fun e w'=>e=.returned (.bool true)∧Hid (zdv K w B t s p r c n bb x y z w'):=by
 obtain ⟨S0,hS0⟩:∃ y,w.heap.size=y:=⟨_,rfl⟩;obtain ⟨w0,hw0⟩:∃ y,w.alloc (.cells (opL o).toArray 48)=y:=⟨_,rfl⟩;obtain ⟨K0,hK0⟩:∃ y,ext w K (fun _=>299)=y:=⟨_,rfl⟩;have m0:Mv (fun _=>False) w w0 K K0:=by rw [<- hw0,<- hK0];exact Mv.alloc _ _ _ _
 have k0:TB K0 w0 299 S0 (.cells (opL o).toArray 48):=by rw [<- hw0,<- hK0,<- hS0];exact TB.new _ _ _ _ rfl
 have h0:=h.to m0 (fun _ e=>e.elim);have b0:=b.far m0.wk (fun _ _ e=>e.elim);have hz0:=m0.wk.zero (fun e=>e) b.n.hB hz;have HS:Hid (SI K0 w0 B t s p r c next now L M D q T∧BK K0 w0 B bb x y z 0 0 0 0 0 0∧(∀ b,b<B->K0 b=0)∧Mv (fun _=>False) w w0 K K0):=⟨h0,b0,hz0,m0⟩;have HN:Hid (t+60<299∧0<t∧n<=33554431∧L.length+D.length<=n∧next<=4294967296+(n:Int)∧now<=40*(n:Int)∧T.length<=n∧y.FL.length<=1000000000∧z.FL.length<=1000000000):=⟨ht,t0,hn,hl,hx,hw,hT,hy,hzz⟩;have HF:=hid hf;have Aa:=hid k0;clear h b h0 b0 hz0 m0 hz ht t0 hn hl hx hw hT hf hK0 hy hzz;obtain ⟨kd,hkd⟩:∃ y,o.kind=y:=⟨_,rfl⟩;have ck:w0.cell? ⟨S0,0,none⟩=some (iI kd):=by rw [<- hkd];exact zaa k0.at_ rfl
 rw [hkd] at hk;clear hkd k0;have e1:(kd==(1:Int))=false:=by rw [beq_eq_false_iff_ne];omega
 have e2:(kd==(2:Int))=false:=by rw [beq_eq_false_iff_ne];omega
 have e3:(kd==(3:Int))=false:=by rw [beq_eq_false_iff_ne];omega
 have e4:(kd==(4:Int))=false:=by rw [beq_eq_false_iff_ne];omega
 have e5:(kd==(5:Int))=false:=by rw [beq_eq_false_iff_ne];omega
 have e6:(kd==(6:Int))=false:=by rw [beq_eq_false_iff_ne];omega
 have HE:Hid (zdv K w B t s p r c n bb x y z w0):=by
  obtain ⟨a1,a2,a3,a4⟩:=HS.out;have hN:=HN.out;exact ⟨K0,y,z,⟨next,now,L,M,D,q,T,a1,by omega,by omega,by omega,by omega⟩,a2,⟨rfl,by omega⟩,⟨rfl,by omega⟩,a4.wk.mono (fun _ e=>e.elim)⟩
 clear hk HS HN HF Aa;go_enter Tryz.func11,Tryz.ntmps11
 go_wp2;go_ret;exact ⟨by simp,HE.out⟩
theorem SI.does_raw {K:Nat->Nat} {w:World} {B bb:Nat} {x y z:Ks} {t s p r n:Nat} {c:Cf} {next now:Int} {L:List Wt} {M:List Dw} {D:List Oc} {q:Mq} {T:List Int} (h:SI K w B t s p r c next now L M D q T) (b:BK K w B bb x y z 0 0 0 0 0 0) (o:OpR) (hf:o.fits) (hk:o.kind=5) (ht:t+60<299) (t0:0<t) (hz:∀ b,b<B->K b=0) (hn:n<=33554431) (hl:L.length+D.length<=n) (hx:next<=4294967296+(n:Int)) (hw:now<=40*(n:Int)) (hT:T.length<=n) (hy:y.FL.length<=1000000000) (hzz:z.FL.length<=1000000000) :
 Calls Tryz.prog 11 #[ptr s,.agg (opL o).toArray,ptr bb] w fun e w'=>e=.returned (.bool true)∧Hid (zdv K w B t s p r c n bb x y z w'):=by
 obtain ⟨S0,hS0⟩:∃ y,w.heap.size=y:=⟨_,rfl⟩;obtain ⟨w0,hw0⟩:∃ y,w.alloc (.cells (opL o).toArray 48)=y:=⟨_,rfl⟩;obtain ⟨K0,hK0⟩:∃ y,ext w K (fun _=>299)=y:=⟨_,rfl⟩;have m0:Mv (fun _=>False) w w0 K K0:=by rw [<- hw0,<- hK0];exact Mv.alloc _ _ _ _
 have k0:TB K0 w0 299 S0 (.cells (opL o).toArray 48):=by rw [<- hw0,<- hK0,<- hS0];exact TB.new _ _ _ _ rfl
 have h0:=h.to m0 (fun _ e=>e.elim);have b0:=b.far m0.wk (fun _ _ e=>e.elim);have hz0:=m0.wk.zero (fun e=>e) b.n.hB hz;have HS:Hid (SI K0 w0 B t s p r c next now L M D q T∧BK K0 w0 B bb x y z 0 0 0 0 0 0∧(∀ b,b<B->K0 b=0)∧Mv (fun _=>False) w w0 K K0):=⟨h0,b0,hz0,m0⟩;have HN:Hid (t+60<299∧0<t∧n<=33554431∧L.length+D.length<=n∧next<=4294967296+(n:Int)∧now<=40*(n:Int)∧T.length<=n∧y.FL.length<=1000000000∧z.FL.length<=1000000000):=⟨ht,t0,hn,hl,hx,hw,hT,hy,hzz⟩;have HF:=hid hf;have Aa:=hid k0;clear h b h0 b0 hz0 m0 hz ht t0 hn hl hx hw hT hf hK0 hy hzz;obtain ⟨kd,hkd⟩:∃ y,o.kind=y:=⟨_,rfl⟩;have ck:w0.cell? ⟨S0,0,none⟩=some (iI kd):=by rw [<- hkd];exact zaa k0.at_ rfl
 rw [hkd] at hk;clear hkd k0;subst hk;have c4:w0.cell? ⟨S0,4,none⟩=some (iI o.dst):=zaa Aa.out.at_ rfl;have c2:w0.cell? ⟨S0,2,none⟩=some (iI o.n):=zaa Aa.out.at_ rfl;have c8:w0.cell? ⟨S0,8,none⟩=some (.string ⟨o.s.toArray⟩):=zaa Aa.out.at_ rfl;have HH:=hid (HS.out.1.hears_any o.dst o.n o.s (by have:=HF.out.s;omega));have hbd:=fun a b (s:ByteArray) w=>(show (Instr.build 78 #[(0,iI a),(1,iI b),(2,.string s)]).run Tryz.prog w=.ok (.agg #[iI a,iI b,.string s]) w from by kernel_rfl);go_enter Tryz.func11,Tryz.ntmps11
 go_wp2_with fail
 refine HH.out.mono ?_;rintro _ w2 ⟨rfl,H3⟩;have HE:Hid (zdv K w B t s p r c n bb x y z w2):=by
  obtain ⟨a1,a2,a3,a4⟩:=HS.out;have hN:=HN.out;obtain ⟨K',L',M',D',q',h3,hl3,m3⟩:=H3.out;exact ⟨K',y,z,⟨next,now,L',M',D',q',T,h3,by omega,by omega,by omega,by omega⟩,a2.far m3.wk (fun u hu=>by omega),⟨rfl,by omega⟩,⟨rfl,by omega⟩,(a4.wk.mono (fun _ e=>e.elim)).trans (m3.wk.mono (fun u e=>by omega))⟩
 clear HS HN HF Aa HH H3;go_wp2;go_ret;exact ⟨by simp,HE.out⟩
theorem SI.does_hear {K:Nat->Nat} {w:World} {B bb:Nat} {x y z:Ks} {t s p r n:Nat} {c:Cf} {next now:Int} {L:List Wt} {M:List Dw} {D:List Oc} {q:Mq} {T:List Int} (h:SI K w B t s p r c next now L M D q T) (b:BK K w B bb x y z 0 0 0 0 0 0) (o:OpR) (hf:o.fits) (hk:o.kind=4) (ht:t+60<299) (t0:0<t) (hz:∀ b,b<B->K b=0) (hn:n<=33554431) (hl:L.length+D.length<=n) (hx:next<=4294967296+(n:Int)) (hw:now<=40*(n:Int)) (hT:T.length<=n) (hy:y.FL.length<=1000000000) (hzz:z.FL.length<=1000000000) :
 Calls Tryz.prog 11 #[ptr s,.agg (opL o).toArray,ptr bb] w fun e w'=>e=.returned (.bool true)∧Hid (zdv K w B t s p r c n bb x y z w'):=by
 obtain ⟨S0,hS0⟩:∃ y,w.heap.size=y:=⟨_,rfl⟩;obtain ⟨w0,hw0⟩:∃ y,w.alloc (.cells (opL o).toArray 48)=y:=⟨_,rfl⟩;obtain ⟨K0,hK0⟩:∃ y,ext w K (fun _=>299)=y:=⟨_,rfl⟩;have m0:Mv (fun _=>False) w w0 K K0:=by rw [<- hw0,<- hK0];exact Mv.alloc _ _ _ _
 have k0:TB K0 w0 299 S0 (.cells (opL o).toArray 48):=by rw [<- hw0,<- hK0,<- hS0];exact TB.new _ _ _ _ rfl
 have h0:=h.to m0 (fun _ e=>e.elim);have b0:=b.far m0.wk (fun _ _ e=>e.elim);have hz0:=m0.wk.zero (fun e=>e) b.n.hB hz;have HS:Hid (SI K0 w0 B t s p r c next now L M D q T∧BK K0 w0 B bb x y z 0 0 0 0 0 0∧(∀ b,b<B->K0 b=0)∧Mv (fun _=>False) w w0 K K0):=⟨h0,b0,hz0,m0⟩;have HN:Hid (t+60<299∧0<t∧n<=33554431∧L.length+D.length<=n∧next<=4294967296+(n:Int)∧now<=40*(n:Int)∧T.length<=n∧y.FL.length<=1000000000∧z.FL.length<=1000000000):=⟨ht,t0,hn,hl,hx,hw,hT,hy,hzz⟩;have HF:=hid hf;have Ab:=hid k0;clear h b h0 b0 hz0 m0 hz ht t0 hn hl hx hw hT hf hK0 hy hzz;obtain ⟨kd,hkd⟩:∃ y,o.kind=y:=⟨_,rfl⟩;have ck:w0.cell? ⟨S0,0,none⟩=some (iI kd):=by rw [<- hkd];exact zaa k0.at_ rfl
 rw [hkd] at hk;clear hkd k0;subst hk;have hr0:w0.rangeAt S0 0 (opL o):=zal Ab.out.at_;have HR:=hid (HS.out.1.reply_any o HF.out (by have:=HN.out;omega));go_enter Tryz.func11,Tryz.ntmps11
 go_wp2_with (with_reducible refine zbj 48 rfl ?_)
 refine (show Hid _ from ?_);refine zbh rfl 48 rfl S0 0 (opL o) rfl hr0 Tryz.underlying48 rfl size48 ?_;clear hr0 ck;go_wp2_with fail
 refine HR.out.mono ?_;rintro _ w2 ⟨⟨src,dst,data,rfl,hdl⟩,hb2⟩;obtain ⟨ds,hds⟩:∃ ds:ByteArray,(⟨data.toArray⟩:ByteArray)=ds:=⟨_,rfl⟩;rw [hds];obtain ⟨S3,hS3⟩:∃ y,w2.heap.size=y:=⟨_,rfl⟩;obtain ⟨w3,hw3⟩:∃ y,w2.alloc (.cells #[iI 0,iI 0,.string ⟨#[]⟩] 78)=y:=⟨_,rfl⟩;obtain ⟨w4,hw4⟩:∃ y,w3.setCells S3 0 [iI src,iI dst,.string ds]=y:=⟨_,rfl⟩;have k3:w3.heap[S3]?=some (.cells #[iI 0,iI 0,.string ⟨#[]⟩] 78):=by rw [<- hw3,<- hS3];exact (MapKept.heap_alloc w2 _).1
 have k4:w4.heap[S3]?=some (.cells #[iI src,iI dst,.string ds] 78):=by rw [<- hw4];exact zat k3 _ rfl
 have hb4:Below w0.heap.size w0 w4:=by rw [<- hw4];exact za1 (hb2.trans (by rw [<- hw3];exact ((Below.refl _ _).alloc (Nat.le_refl _) _).mono hb2.size)) (by rw [<- hS3];exact hb2.size)
 have m4:=Mv.of_below hb4 K0 (fun _=>299);have HH:=hid ((HS.out.1.to m4 (fun _ e=>e.elim)).hears_any src dst data hdl);have Aa:Hid (BK (ext w0 K0 (fun _=>299)) w4 B bb x y z 0 0 0 0 0 0∧Mk (fun u=>(t<=u∧u<=t+22)∨299<=u) w w4 K (ext w0 K0 (fun _=>299))):=⟨HS.out.2.1.far m4.wk (fun _ _ e=>e.elim),(HS.out.2.2.2.wk.mono (fun _ e=>e.elim)).trans (m4.wk.mono (fun _ e=>e.elim))⟩;rw [hds] at HH;have Ac:=hid k3;have Ad:=hid hw4;have hr4:w4.rangeAt S3 0 [iI src,iI dst,.string ds]:=zal k4;clear HS Ab HR hb2 hb4 m4 k3 k4 hw4 hdl hds;go_wp2_with (with_reducible refine zba 78 rfl ?_)
 refine (show Hid _ from ?_);refine za6 rfl 78 rfl S3 0 [iI src,iI dst,.string ds] Ac.out rfl rfl (by simp) zcu (by intro v hv;simp only [List.mem_cons,List.not_mem_nil,or_false] at hv;rcases hv with rfl|rfl|rfl <;> rfl) Ad.out ?_;clear Ac Ad hw3;go_wp2_with (with_reducible refine zbj 78 rfl ?_)
 refine (show Hid _ from ?_);refine zbh rfl 78 rfl S3 0 [iI src,iI dst,.string ds] rfl hr4 Tryz.underlying78 rfl zcu ?_;clear hr4;go_wp2_with fail
 refine HH.out.mono ?_;rintro _ w5 ⟨rfl,H3⟩;have HE:Hid (zdv K w B t s p r c n bb x y z w5):=by
  have hN:=HN.out;obtain ⟨K',L',M',D',q',h3,hl3,m3⟩:=H3.out;exact ⟨K',y,z,⟨next,now,L',M',D',q',T,h3,by omega,by omega,by omega,by omega⟩,Aa.out.1.far m3.wk (fun u hu=>by omega),⟨rfl,by omega⟩,⟨rfl,by omega⟩,Aa.out.2.trans (m3.wk.mono (fun u e=>by omega))⟩
 clear HN HF HH H3 Aa;go_wp2;go_ret;exact ⟨by simp,HE.out⟩
theorem SI.does_tick {K:Nat->Nat} {w:World} {B bb:Nat} {x y z:Ks} {t s p r n:Nat} {c:Cf} {next now:Int} {L:List Wt} {M:List Dw} {D:List Oc} {q:Mq} {T:List Int} (h:SI K w B t s p r c next now L M D q T) (b:BK K w B bb x y z 0 0 0 0 0 0) (o:OpR) (hf:o.fits) (hk:o.kind=3) (ht:t+60<299) (t0:0<t) (hz:∀ b,b<B->K b=0) (hn:n<=33554431) (hl:L.length+D.length<=n) (hx:next<=4294967296+(n:Int)) (hw:now<=40*(n:Int)) (hT:T.length<=n) (hy:y.FL.length<=1000000000) (hzz:z.FL.length<=1000000000) :
 Calls Tryz.prog 11 #[ptr s,.agg (opL o).toArray,ptr bb] w fun e w'=>e=.returned (.bool true)∧Hid (zdv K w B t s p r c n bb x y z w'):=by
 obtain ⟨S0,hS0⟩:∃ y,w.heap.size=y:=⟨_,rfl⟩;obtain ⟨w0,hw0⟩:∃ y,w.alloc (.cells (opL o).toArray 48)=y:=⟨_,rfl⟩;obtain ⟨K0,hK0⟩:∃ y,ext w K (fun _=>299)=y:=⟨_,rfl⟩;have m0:Mv (fun _=>False) w w0 K K0:=by rw [<- hw0,<- hK0];exact Mv.alloc _ _ _ _
 have k0:TB K0 w0 299 S0 (.cells (opL o).toArray 48):=by rw [<- hw0,<- hK0,<- hS0];exact TB.new _ _ _ _ rfl
 have h0:=h.to m0 (fun _ e=>e.elim);have b0:=b.far m0.wk (fun _ _ e=>e.elim);have hz0:=m0.wk.zero (fun e=>e) b.n.hB hz;have HS:Hid (SI K0 w0 B t s p r c next now L M D q T∧BK K0 w0 B bb x y z 0 0 0 0 0 0∧(∀ b,b<B->K0 b=0)∧Mv (fun _=>False) w w0 K K0):=⟨h0,b0,hz0,m0⟩;have HN:Hid (t+60<299∧0<t∧n<=33554431∧L.length+D.length<=n∧next<=4294967296+(n:Int)∧now<=40*(n:Int)∧T.length<=n∧y.FL.length<=1000000000∧z.FL.length<=1000000000):=⟨ht,t0,hn,hl,hx,hw,hT,hy,hzz⟩;have HF:=hid hf;have Ac:=hid k0;clear h b h0 b0 hz0 m0 hz ht t0 hn hl hx hw hT hf hK0 hy hzz;obtain ⟨kd,hkd⟩:∃ y,o.kind=y:=⟨_,rfl⟩;have ck:w0.cell? ⟨S0,0,none⟩=some (iI kd):=by rw [<- hkd];exact zaa k0.at_ rfl
 rw [hkd] at hk;clear hkd k0;subst hk;have Ad:Hid (I64 o.n):=HF.out.n;go_enter Tryz.func11,Tryz.ntmps11
 go_wp2_with fail
 clear ck;go_loopw [14] (fun iv wr=>∃ (i:Nat) (K1:Nat->Nat) (L1:List Wt) (M1:List Dw) (D1:List Oc),iv=iI i∧i<=40∧Hid (SI K1 wr B t s p r c next (now+i) L1 M1 D1 q T∧L1.length+D1.length<=L.length+D.length∧Mv (fun u=>t<=u∧u<=t+16) w0 wr K0 K1)) (fun iv _=>41 - (intOf iv).toNat)
 case atStart=>exact ⟨0,K0,L,M,D,rfl,by omega,by simpa using HS.out.1,Nat.le_refl _,Mv.refl _ _ _⟩
 case round =>
  obtain ⟨i,K1,L1,M1,D1,rfl,hi,HA⟩:=hrel;obtain ⟨w1,hw1⟩:∃ y,y=wr:=⟨_,rfl⟩;subst hw1;have c2:w1.cell? ⟨S0,2,none⟩=some (iI o.n):=zaa (Ac.out.mv HA.out.2.2 (by have:=HN.out;omega)).at_ rfl;obtain ⟨vt,sb,_⟩:=HA.out.1.me;have s0:w1.cell? ⟨s,0,none⟩=some (ptr p):=zaa sb.at_ rfl;have Ab:=hid sb;have Ae:=hid (zeb o.n 41 Ad.out (by omega) w1);clear sb;go_wp2_with fail
  refine Ae.out.mono ?_;rintro _ wq ⟨kp,rfl,hkp0,hkp1,hwq⟩;rw [hwq];clear hwq wq Ae;by_cases hlt:(i:Int)<kp
  · as_aux_lemma =>
    have hi40:i<40:=(by omega);have Af:=hid (HA.out.1.tick_any (by have:=HN.out;omega));have Aa:=hid (And.intro hi40 (zb0 (j:=i) (by omega)));clear hi40 hi hkp0 hkp1;(go_wp2_with fail);refine Af.out.mono ?_;rintro _ w2 ⟨⟨v1,rfl⟩,HH⟩;obtain ⟨K2,m2,H3⟩:=HH.out;have HD:=hid (H3 w2 (Below.refl _ _));have s1:w2.cell? ⟨s,1,none⟩=some (ptr r):=zaa (Ab.out.mv m2 (by omega)).at_ rfl;clear m2 H3 HH Af s0 c2;(go_wp2_with fail);refine HD.out.mono ?_;rintro _ w3 ⟨⟨v2,rfl⟩,HH⟩;have HE:Hid (∃ (K1:Nat->Nat) (L1:List Wt) (M1:List Dw) (D1:List Oc),SI K1 w3 B t s p r c next (now+((i+1:Nat):Int)) L1 M1 D1 q T∧L1.length+D1.length<=L.length+D.length∧Mv (fun u=>t<=u∧u<=t+16) w0 w3 K0 K1):=by
     obtain ⟨K3,L3,M3,D3,h3,hl3,m3⟩:=HH.out;refine ⟨K3,L3,M3,D3,?_,Nat.le_trans hl3 HA.out.2.1,HA.out.2.2.trans m3⟩;rw [show now+((i+1:Nat):Int)=now+(i:Int)+1 by omega];exact h3
    clear HD HH HA Ab s1;go_wp2;go_roundw
    case rel=>exact (by obtain ⟨K3,L3,M3,D3,h3⟩:=HE.out;exact ⟨i+1,K3,L3,M3,D3,by first|rfl|(rw [Aa.out.2];rfl),Aa.out.1,h3⟩)
    case measure=>first|exact meas (n:=41) rfl (by have:=Aa.out.1;omega)|exact meas (n:=41) Aa.out.2 (by have:=Aa.out.1;omega)
  · have HE:Hid (zdv K w B t s p r c n bb x y z w1):=by
     obtain ⟨a1,a2,a3,a4⟩:=HS.out;have hN:=HN.out;obtain ⟨h3,hl3,m3⟩:=HA.out;exact ⟨K1,y,z,⟨next,_,L1,M1,D1,q,T,h3,by omega,by omega,by omega,by omega⟩,a2.far m3.wk (fun u hu=>by omega),⟨rfl,by omega⟩,⟨rfl,by omega⟩,(a4.wk.mono (fun _ e=>e.elim)).trans (m3.wk.mono (fun u e=>by omega))⟩
    clear HS HN HF Ac HA Ab Ad hi hkp0 hkp1;go_wp2;go_ret;exact ⟨by simp,HE.out⟩
theorem SI.does_due {K:Nat->Nat} {w:World} {B bb:Nat} {x y z:Ks} {t s p r n:Nat} {c:Cf} {next now:Int} {L:List Wt} {M:List Dw} {D:List Oc} {q:Mq} {T:List Int} (h:SI K w B t s p r c next now L M D q T) (b:BK K w B bb x y z 0 0 0 0 0 0) (o:OpR) (hf:o.fits) (hk:o.kind=2) (ht:t+60<299) (t0:0<t) (hz:∀ b,b<B->K b=0) (hn:n<=33554431) (hl:L.length+D.length<=n) (hx:next<=4294967296+(n:Int)) (hw:now<=40*(n:Int)) (hT:T.length<=n) (hy:y.FL.length<=1000000000) (hzz:z.FL.length<=1000000000) :
 Calls Tryz.prog 11 #[ptr s,.agg (opL o).toArray,ptr bb] w fun e w'=>e=.returned (.bool true)∧Hid (zdv K w B t s p r c n bb x y z w'):=by
 obtain ⟨S0,hS0⟩:∃ y,w.heap.size=y:=⟨_,rfl⟩;obtain ⟨w0,hw0⟩:∃ y,w.alloc (.cells (opL o).toArray 48)=y:=⟨_,rfl⟩;obtain ⟨K0,hK0⟩:∃ y,ext w K (fun _=>299)=y:=⟨_,rfl⟩;have m0:Mv (fun _=>False) w w0 K K0:=by rw [<- hw0,<- hK0];exact Mv.alloc _ _ _ _
 have k0:TB K0 w0 299 S0 (.cells (opL o).toArray 48):=by rw [<- hw0,<- hK0,<- hS0];exact TB.new _ _ _ _ rfl
 have h0:=h.to m0 (fun _ e=>e.elim);have b0:=b.far m0.wk (fun _ _ e=>e.elim);have hz0:=m0.wk.zero (fun e=>e) b.n.hB hz;have HS:Hid (SI K0 w0 B t s p r c next now L M D q T∧BK K0 w0 B bb x y z 0 0 0 0 0 0∧(∀ b,b<B->K0 b=0)∧Mv (fun _=>False) w w0 K K0):=⟨h0,b0,hz0,m0⟩;have HN:Hid (t+60<299∧0<t∧n<=33554431∧L.length+D.length<=n∧next<=4294967296+(n:Int)∧now<=40*(n:Int)∧T.length<=n∧y.FL.length<=1000000000∧z.FL.length<=1000000000):=⟨ht,t0,hn,hl,hx,hw,hT,hy,hzz⟩;have HF:=hid hf;have Ag:=hid k0;clear h b h0 b0 hz0 m0 hz ht t0 hn hl hx hw hT hf hK0 hy hzz;obtain ⟨kd,hkd⟩:∃ y,o.kind=y:=⟨_,rfl⟩;have ck:w0.cell? ⟨S0,0,none⟩=some (iI kd):=by rw [<- hkd];exact zaa k0.at_ rfl
 rw [hkd] at hk;clear hkd k0;subst hk;obtain ⟨tp,htp⟩:∃ tp,1000+6*(y.N+y.FL.length)+2=tp:=⟨_,rfl⟩;have HP:=hid (HS.out.1.due_any tp (by have:=HN.out;omega));have Aa:=hid htp;obtain ⟨vt,sb,_⟩:=HS.out.1.me;have s0:w0.cell? ⟨s,0,none⟩=some (ptr p):=zaa sb.at_ rfl;have Ad:=hid sb;clear sb htp;go_enter Tryz.func11,Tryz.ntmps11
 go_wp2_with fail
 clear ck;refine HP.out.mono ?_;rintro _ w1 ⟨v,rfl,HH⟩;obtain ⟨K1,LL,R1,hLL,m1,H3⟩:=HH.out;have hN:=HN.out;have s1:w1.cell? ⟨s,1,none⟩=some (ptr r):=zaa (Ad.out.mv m1 (by have:=Aa.out;omega)).at_ rfl;have HD:=hid (H3 w1 (Below.refl _ _));have Ab:=hid hLL;clear m1 H3 HH HP s0 R1 hLL hN;go_wp2_with fail
 refine HD.out.mono ?_;rintro _ w2 ⟨v',rfl,HH⟩;obtain ⟨K2,L2,M2,S2,hL2,R2,R2',m2⟩:=HH.out;have mk2:Mk (fun u=>(t<=u∧u<=t+16)∨u=tp∨u=tp+1) w0 w2 K0 K2:=m2.wk;have HX:Hid (∃ L' M' D',SI K2 w2 B t s p r c next now L' M' D' q T∧L'.length+D'.length<=L.length+D.length):=⟨L2,M2,D,S2,by omega⟩;obtain ⟨o1,c1,rfl,_,_⟩:=R2.form;obtain ⟨o2,c2,rfl,_,_⟩:=R2'.form;obtain ⟨nn,hnn⟩:∃ nn,LL.length=nn:=⟨_,rfl⟩;have HI:=hid (zg1 R2 R2' Ab.out);rw [hnn] at HI R2 R2' ⊢;have Ac:=hid (And.intro R2 R2');have Ah:=hid hnn;have Ae:=hid mk2;clear HD HH R2 R2' mk2 hnn s1;go_wp2_with fail
 refine HI.out.mono ?_;rintro _ w4 ⟨rfl,kq,hw4⟩;have Af:Hid ((∃ L' M' D',SI K2 w4 B t s p r c next now L' M' D' q T∧L'.length+D'.length<=L.length+D.length)∧BK K2 w4 B bb x y z 0 0 0 0 0 0∧(∀ b,b<B->K2 b=0)∧RW 78 3 pkC K2 w4 B tp (.slice o1 nn c1) LL∧RW 78 3 pkC K2 w4 B (tp+1) (.slice o2 nn c2) LL∧Mk (fun u=>(t<=u∧u<=t+22)∨299<=u) w w4 K K2):=by
  obtain ⟨a1,a2,a3,a4⟩:=HS.out;obtain ⟨L',M',D',X1,X2⟩:=HX.out;have htp:=Aa.out;have hN:=HN.out;have md:=zak w2 K2 kq;rw [hw4];have mA:Mk (fun u=>(t<=u∧u<=t+16)∨u=tp∨u=tp+1) w0 (w2.drewN kq) K0 K2:=Ae.out.trans (md.wk.mono (fun _ e=>e.elim));exact ⟨⟨L',M',D',X1.to md (fun _ e=>e.elim),X2⟩,a2.fresh_p (mA.mono (fun u e=>by rw [htp];omega)),mA.zero (by omega) a2.n.hB a3,Ac.out.1.mv md id,Ac.out.2.mv md id,(a4.wk.mono (fun _ e=>e.elim)).trans (mA.mono (fun u e=>by omega))⟩
 clear HI HX Ac Ae hw4 HS Ad Ag;obtain ⟨a1,a2,a3,a4,a5,a6⟩:=Af.out;obtain ⟨S5,hS5⟩:∃ y,w4.heap.size=y:=⟨_,rfl⟩;obtain ⟨w5,hw5⟩:∃ y,w4.alloc (.cells #[.slice o1 nn c1] 73)=y:=⟨_,rfl⟩;obtain ⟨oa,ca,w6,w7,K7,r6,z6,f6,hw7,z7,_,H7⟩:=a2.put_p (s:=⟨o1,nn,c1⟩) (u:=⟨o2,nn,c2⟩) (by rw [Aa.out];exact a4) (by rw [show 1001+6*(y.N+y.FL.length)+2=tp+1 by have:=Aa.out;omega];exact a5) Ab.out (by have:=HN.out;omega) hS5 hw5;obtain ⟨S8,hS8⟩:∃ y,w7.heap.size=y:=⟨_,rfl⟩;obtain ⟨w8,hw8⟩:∃ y,w7.alloc (.cells #[.slice o2 nn c2] 73)=y:=⟨_,rfl⟩;obtain ⟨ob,cb,w9,wx,K9,r9,z9,f9,hwx,BX,mX⟩:=H7 S8 w8 hS8 hw8;have z4:w4.cell? ⟨bb,2,none⟩=some y.vf:=a2.ce rfl;have Ai:Hid (zdv K w B t s p r c n bb x y z wx):=by
  have hN:=HN.out;obtain ⟨L',M',D',X1,X2⟩:=a1;exact ⟨K9,_,z,⟨next,now,L',M',D',q,T,X1.wk mX a3 (by show ¬ (_∨_);omega) (fun j hj=>by show ¬ (_∨_);omega),by omega,by omega,by omega,by omega⟩,BX.out,⟨rfl,by simp⟩,⟨rfl,by omega⟩,a6.trans (mX.mono (fun u e=>by omega))⟩
 obtain ⟨m1,hm1⟩:∃ m1,y.FL.length=m1:=⟨_,rfl⟩;obtain ⟨f1,hf1⟩:∃ f1,y.vf=f1:=⟨_,rfl⟩;obtain ⟨g1,hg1⟩:∃ g1,y.vw=g1:=⟨_,rfl⟩;rw [hm1] at r6 r9 hw7 hwx;rw [hf1] at r6 z6 z4;rw [hg1] at r9 z7 z9;have Aj:=hid r6;have Ak:=hid r9;have hbs:=fun oa n c w=>blsL39 oa n c w;clear a1 a2 a3 a4 a5 a6 Af H7 BX mX r6 r9 hm1 hf1 hg1 Aa Ah Ab HN HF;go_wp2_with (at_builtin;refine Hid.out ?_)
 refine (show Hid _ from ?_);refine za5 rfl _ _ 39 rfl _ _ _ _ rfl rfl (Aj.out _) ?_;clear hw5 hS5;go_wp2_with (at_builtin;refine Hid.out ?_)
 refine (show Hid _ from ?_);refine za5 rfl _ _ 39 rfl _ _ _ _ rfl rfl (Ak.out _) ?_;clear hw8 hS8 hbs;go_wp2;go_ret;exact ⟨by simp,Ai.out⟩
theorem SI.does_done {K:Nat->Nat} {w:World} {B bb:Nat} {x y z:Ks} {t s p r n:Nat} {c:Cf} {next now:Int} {L:List Wt} {M:List Dw} {D:List Oc} {q:Mq} {T:List Int} (h:SI K w B t s p r c next now L M D q T) (b:BK K w B bb x y z 0 0 0 0 0 0) (o:OpR) (hf:o.fits) (hk:o.kind=6) (ht:t+60<299) (t0:0<t) (hz:∀ b,b<B->K b=0) (hn:n<=33554431) (hl:L.length+D.length<=n) (hx:next<=4294967296+(n:Int)) (hw:now<=40*(n:Int)) (hT:T.length<=n) (hy:y.FL.length<=1000000000) (hzz:z.FL.length<=1000000000) :
 Calls Tryz.prog 11 #[ptr s,.agg (opL o).toArray,ptr bb] w fun e w'=>e=.returned (.bool true)∧Hid (zdv K w B t s p r c n bb x y z w'):=by
 obtain ⟨S0,hS0⟩:∃ y,w.heap.size=y:=⟨_,rfl⟩;obtain ⟨w0,hw0⟩:∃ y,w.alloc (.cells (opL o).toArray 48)=y:=⟨_,rfl⟩;obtain ⟨K0,hK0⟩:∃ y,ext w K (fun _=>299)=y:=⟨_,rfl⟩;have m0:Mv (fun _=>False) w w0 K K0:=by rw [<- hw0,<- hK0];exact Mv.alloc _ _ _ _
 have k0:TB K0 w0 299 S0 (.cells (opL o).toArray 48):=by rw [<- hw0,<- hK0,<- hS0];exact TB.new _ _ _ _ rfl
 have h0:=h.to m0 (fun _ e=>e.elim);have b0:=b.far m0.wk (fun _ _ e=>e.elim);have hz0:=m0.wk.zero (fun e=>e) b.n.hB hz;have HS:Hid (SI K0 w0 B t s p r c next now L M D q T∧BK K0 w0 B bb x y z 0 0 0 0 0 0∧(∀ b,b<B->K0 b=0)∧Mv (fun _=>False) w w0 K K0):=⟨h0,b0,hz0,m0⟩;have HN:Hid (t+60<299∧0<t∧n<=33554431∧L.length+D.length<=n∧next<=4294967296+(n:Int)∧now<=40*(n:Int)∧T.length<=n∧y.FL.length<=1000000000∧z.FL.length<=1000000000):=⟨ht,t0,hn,hl,hx,hw,hT,hy,hzz⟩;have HF:=hid hf;have Ag:=hid k0;clear h b h0 b0 hz0 m0 hz ht t0 hn hl hx hw hT hf hK0 hy hzz;obtain ⟨kd,hkd⟩:∃ y,o.kind=y:=⟨_,rfl⟩;have ck:w0.cell? ⟨S0,0,none⟩=some (iI kd):=by rw [<- hkd];exact zaa k0.at_ rfl
 rw [hkd] at hk;clear hkd k0;subst hk;obtain ⟨tp,htp⟩:∃ tp,1000+6*(z.N+z.FL.length)+4=tp:=⟨_,rfl⟩;have HP:=hid (HS.out.1.out_any HS.out.2.2.1 (by have:=HN.out;omega) tp (by have:=HN.out;omega));have Aa:=hid htp;obtain ⟨vt,sb,_⟩:=HS.out.1.me;have s0:w0.cell? ⟨s,0,none⟩=some (ptr p):=zaa sb.at_ rfl;have Ad:=hid sb;clear sb htp;go_enter Tryz.func11,Tryz.ntmps11
 go_wp2_with fail
 clear ck;refine HP.out.mono ?_;rintro _ w1 ⟨v,rfl,HH⟩;obtain ⟨K1,m1,R1,H3⟩:=HH.out;have hN:=HN.out;have s1:w1.cell? ⟨s,1,none⟩=some (ptr r):=zaa (Ad.out.wk m1 (by have:=Aa.out;omega)).at_ rfl;have HD:=hid (H3 w1 (Below.refl _ _));obtain ⟨LL,hLLe⟩:∃ y,y=D:=⟨_,rfl⟩;have Ab:Hid (LL.length<=100000000):=by rw [hLLe];show D.length<=_;omega
 clear m1 H3 HH HP s0 R1 hN;go_wp2_with fail
 refine HD.out.mono ?_;rintro _ w2 ⟨v',rfl,HH⟩;obtain ⟨K2,S2,R2,R2',mk2⟩:=HH.out;rw [<- hLLe] at R2 R2';clear hLLe;have HX:Hid (∃ L' M' D',SI K2 w2 B t s p r c next now L' M' D' q T∧L'.length+D'.length<=L.length+D.length):=⟨L,M,[],S2,by simp⟩;obtain ⟨o1,c1,rfl,_,_⟩:=R2.form;obtain ⟨o2,c2,rfl,_,_⟩:=R2'.form;obtain ⟨nn,hnn⟩:∃ nn,LL.length=nn:=⟨_,rfl⟩;have HI:=hid (zg2 R2 R2' Ab.out);rw [hnn] at HI R2 R2' ⊢;have Ac:=hid (And.intro R2 R2');have Ah:=hid hnn;have Ae:=hid mk2;clear HD HH R2 R2' mk2 hnn s1;go_wp2_with fail
 refine HI.out.mono ?_;rintro _ w4 ⟨rfl,kq,hw4⟩;have Af:Hid ((∃ L' M' D',SI K2 w4 B t s p r c next now L' M' D' q T∧L'.length+D'.length<=L.length+D.length)∧BK K2 w4 B bb x y z 0 0 0 0 0 0∧(∀ b,b<B->K2 b=0)∧RW 80 9 ocC K2 w4 B tp (.slice o1 nn c1) LL∧RW 80 9 ocC K2 w4 B (tp+1) (.slice o2 nn c2) LL∧Mk (fun u=>(t<=u∧u<=t+22)∨299<=u) w w4 K K2):=by
  obtain ⟨a1,a2,a3,a4⟩:=HS.out;obtain ⟨L',M',D',X1,X2⟩:=HX.out;have htp:=Aa.out;have hN:=HN.out;have md:=zak w2 K2 kq;rw [hw4];have mA:Mk (fun u=>(t<=u∧u<=t+16)∨u=tp∨u=tp+1) w0 (w2.drewN kq) K0 K2:=Ae.out.trans (md.wk.mono (fun _ e=>e.elim));exact ⟨⟨L',M',D',X1.to md (fun _ e=>e.elim),X2⟩,a2.fresh_o (mA.mono (fun u e=>by rw [htp];omega)),mA.zero (by omega) a2.n.hB a3,Ac.out.1.mv md id,Ac.out.2.mv md id,(a4.wk.mono (fun _ e=>e.elim)).trans (mA.mono (fun u e=>by omega))⟩
 clear HI HX Ac Ae hw4 HS Ad Ag;obtain ⟨a1,a2,a3,a4,a5,a6⟩:=Af.out;obtain ⟨S5,hS5⟩:∃ y,w4.heap.size=y:=⟨_,rfl⟩;obtain ⟨w5,hw5⟩:∃ y,w4.alloc (.cells #[.slice o1 nn c1] 75)=y:=⟨_,rfl⟩;obtain ⟨oa,ca,w6,w7,K7,r6,z6,f6,hw7,z7,_,H7⟩:=a2.put_o (s:=⟨o1,nn,c1⟩) (u:=⟨o2,nn,c2⟩) (by rw [Aa.out];exact a4) (by rw [show 1001+6*(z.N+z.FL.length)+4=tp+1 by have:=Aa.out;omega];exact a5) Ab.out (by have:=HN.out;omega) hS5 hw5;obtain ⟨S8,hS8⟩:∃ y,w7.heap.size=y:=⟨_,rfl⟩;obtain ⟨w8,hw8⟩:∃ y,w7.alloc (.cells #[.slice o2 nn c2] 75)=y:=⟨_,rfl⟩;obtain ⟨ob,cb,w9,wx,K9,r9,z9,f9,hwx,BX,mX⟩:=H7 S8 w8 hS8 hw8;have z4:w4.cell? ⟨bb,4,none⟩=some z.vf:=a2.ce rfl;have Ai:Hid (zdv K w B t s p r c n bb x y z wx):=by
  have hN:=HN.out;obtain ⟨L',M',D',X1,X2⟩:=a1;exact ⟨K9,y,_,⟨next,now,L',M',D',q,T,X1.wk mX a3 (by show ¬ (_∨_);omega) (fun j hj=>by show ¬ (_∨_);omega),by omega,by omega,by omega,by omega⟩,BX.out,⟨rfl,by omega⟩,⟨rfl,by simp⟩,a6.trans (mX.mono (fun u e=>by omega))⟩
 obtain ⟨m1,hm1⟩:∃ m1,z.FL.length=m1:=⟨_,rfl⟩;obtain ⟨f1,hf1⟩:∃ f1,z.vf=f1:=⟨_,rfl⟩;obtain ⟨g1,hg1⟩:∃ g1,z.vw=g1:=⟨_,rfl⟩;rw [hm1] at r6 r9 hw7 hwx;rw [hf1] at r6 z6 z4;rw [hg1] at r9 z7 z9;have Aj:=hid r6;have Ak:=hid r9;have hbs:=fun oa n c w=>blsL40 oa n c w;clear a1 a2 a3 a4 a5 a6 Af H7 BX mX r6 r9 hm1 hf1 hg1 Aa Ah Ab HN HF;go_wp2_with (at_builtin;refine Hid.out ?_)
 refine (show Hid _ from ?_);refine za5 rfl _ _ 40 rfl _ _ _ _ rfl rfl (Aj.out _) ?_;clear hw5 hS5;go_wp2_with (at_builtin;refine Hid.out ?_)
 refine (show Hid _ from ?_);refine za5 rfl _ _ 40 rfl _ _ _ _ rfl rfl (Ak.out _) ?_;clear hw8 hS8 hbs;go_wp2;go_ret;exact ⟨by simp,Ai.out⟩
theorem SI.does_call {K:Nat->Nat} {w:World} {B bb:Nat} {x y z:Ks} {t s p r n:Nat} {c:Cf} {next now:Int} {L:List Wt} {M:List Dw} {D:List Oc} {q:Mq} {T:List Int} (h:SI K w B t s p r c next now L M D q T) (b:BK K w B bb x y z 0 0 0 0 0 0) (o:OpR) (hf:o.fits) (hk:o.kind=1) (ht:t+60<299) (t0:0<t) (hz:∀ b,b<B->K b=0) (hn:n<=33554431) (hl:L.length+D.length<=n) (hx:next<=4294967296+(n:Int)) (hw:now<=40*(n:Int)) (hT:T.length<=n) (hy:y.FL.length<=1000000000) (hzz:z.FL.length<=1000000000) :
 Calls Tryz.prog 11 #[ptr s,.agg (opL o).toArray,ptr bb] w fun e w'=>e=.returned (.bool true)∧Hid (zdv K w B t s p r c n bb x y z w'):=by
 obtain ⟨S0,hS0⟩:∃ y,w.heap.size=y:=⟨_,rfl⟩;obtain ⟨w0,hw0⟩:∃ y,w.alloc (.cells (opL o).toArray 48)=y:=⟨_,rfl⟩;obtain ⟨K0,hK0⟩:∃ y,ext w K (fun _=>299)=y:=⟨_,rfl⟩;have m0:Mv (fun _=>False) w w0 K K0:=by rw [<- hw0,<- hK0];exact Mv.alloc _ _ _ _
 have k0:TB K0 w0 299 S0 (.cells (opL o).toArray 48):=by rw [<- hw0,<- hK0,<- hS0];exact TB.new _ _ _ _ rfl
 have h0:=h.to m0 (fun _ e=>e.elim);have b0:=b.far m0.wk (fun _ _ e=>e.elim);have hz0:=m0.wk.zero (fun e=>e) b.n.hB hz;have HS:Hid (SI K0 w0 B t s p r c next now L M D q T∧BK K0 w0 B bb x y z 0 0 0 0 0 0∧(∀ b,b<B->K0 b=0)∧Mv (fun _=>False) w w0 K K0):=⟨h0,b0,hz0,m0⟩;have HN:Hid (t+60<299∧0<t∧n<=33554431∧L.length+D.length<=n∧next<=4294967296+(n:Int)∧now<=40*(n:Int)∧T.length<=n∧y.FL.length<=1000000000∧z.FL.length<=1000000000):=⟨ht,t0,hn,hl,hx,hw,hT,hy,hzz⟩;have HF:=hid hf;have Ab:=hid k0;clear h b h0 b0 hz0 m0 hz ht t0 hn hl hx hw hT hf hK0 hy hzz;obtain ⟨kd,hkd⟩:∃ y,o.kind=y:=⟨_,rfl⟩;have ck:w0.cell? ⟨S0,0,none⟩=some (iI kd):=by rw [<- hkd];exact zaa k0.at_ rfl
 rw [hkd] at hk;clear hkd k0;subst hk;have HP:=hid ((HS.out.1.to (Mv.drew (fun _=>False) w0 K0) (fun _ e=>e.elim)).call_any o.dst o.prog o.vers o.proc o.s (by have:=HF.out.s;omega) (by have:=HN.out;omega) (by have:=HN.out;omega));have Aa:Hid (∀ u Ku,Mv (fun u=>t<=u∧u<=t+16) w0 u K0 Ku->u.cell? ⟨s,0,none⟩=some (ptr p)∧u.cell? ⟨s,1,none⟩=some (ptr r)∧u.cell? ⟨S0,4,none⟩=some (iI o.dst)∧u.cell? ⟨S0,5,none⟩=some (iI o.prog)∧u.cell? ⟨S0,6,none⟩=some (iI o.vers)∧u.cell? ⟨S0,7,none⟩=some (iI o.proc)∧u.cell? ⟨S0,8,none⟩=some (.string ⟨o.s.toArray⟩)):=fun u Ku m=>by
  obtain ⟨vt,sb,_⟩:=HS.out.1.me;have sb':=sb.mv m (by omega);have k':=Ab.out.mv m (by have:=HN.out;omega);exact ⟨zaa sb'.at_ rfl,zaa sb'.at_ rfl,zaa k'.at_ rfl,zaa k'.at_ rfl,zaa k'.at_ rfl,zaa k'.at_ rfl,zaa k'.at_ rfl⟩
 have s0:w0.drew.cell? ⟨s,0,none⟩=some (ptr p)∧w0.drew.cell? ⟨s,1,none⟩=some (ptr r)∧w0.drew.cell? ⟨S0,4,none⟩=some (iI o.dst)∧w0.drew.cell? ⟨S0,5,none⟩=some (iI o.prog)∧w0.drew.cell? ⟨S0,6,none⟩=some (iI o.vers)∧w0.drew.cell? ⟨S0,7,none⟩=some (iI o.proc)∧w0.drew.cell? ⟨S0,8,none⟩=some (.string ⟨o.s.toArray⟩):=Aa.out w0.drew K0 (Mv.drew _ w0 K0);go_enter Tryz.func11,Tryz.ntmps11
 go_wp2_with fail
 clear ck;refine zah (S:=fun w'=>w'.cell? ⟨s,0,none⟩=some (ptr p)∧w'.cell? ⟨s,1,none⟩=some (ptr r)∧w'.cell? ⟨S0,4,none⟩=some (iI o.dst)∧w'.cell? ⟨S0,5,none⟩=some (iI o.prog)∧w'.cell? ⟨S0,6,none⟩=some (iI o.vers)∧w'.cell? ⟨S0,7,none⟩=some (iI o.proc)∧w'.cell? ⟨S0,8,none⟩=some (.string ⟨o.s.toArray⟩)) (n:=19) (by kernel_rfl) rfl (by kernel_rfl) (by kernel_rfl) ?_ (fun hHeld=>?_)
 · exact s0
 refine tk 0 ?_ rfl ?_ ?_;rotate_left
 · (intro w hs;(try dsimp only at hs);go_simp;try with_reducible rfl)
 try simp only [gA,gB,gC,Act.put,gE,gF,gG]
 refine tk 1 ?_ rfl ?_ ?_;rotate_left
 · (intro w hs;(try dsimp only at hs);go_simp;try with_reducible rfl)
 try simp only [gA,gB,gC,Act.put,gE,gF,gG]
 refine tk 2 ?_ rfl ?_ ?_;rotate_left
 · (intro w hs;(try dsimp only at hs);go_simp;try with_reducible rfl)
 try simp only [gA,gB,gC,Act.put,gE,gF,gG]
 refine tk 3 ?_ rfl ?_ ?_;rotate_left
 · (intro w hs;(try dsimp only at hs);go_simp;try with_reducible rfl)
 try simp only [gA,gB,gC,Act.put,gE,gF,gG]
 refine tk 4 ?_ rfl ?_ ?_;rotate_left
 · (intro w hs;(try dsimp only at hs);go_simp;try with_reducible rfl)
 try simp only [gA,gB,gC,Act.put,gE,gF,gG]
 refine tk 5 ?_ rfl ?_ ?_;rotate_left
 · (intro w hs;(try dsimp only at hs);go_simp;try with_reducible rfl)
 try simp only [gA,gB,gC,Act.put,gE,gF,gG]
 refine tk 6 ?_ rfl ?_ ?_;rotate_left
 · (intro w hs;(try dsimp only at hs);go_simp;try with_reducible rfl)
 try simp only [gA,gB,gC,Act.put,gE,gF,gG]
 refine tk 7 ?_ rfl ?_ ?_;rotate_left
 · (intro w hs;(try dsimp only at hs);go_simp;try with_reducible rfl)
 try simp only [gA,gB,gC,Act.put,gE,gF,gG]
 refine tk 8 ?_ rfl ?_ ?_;rotate_left
 · (intro w hs;(try dsimp only at hs);go_simp;try with_reducible rfl)
 try simp only [gA,gB,gC,Act.put,gE,gF,gG]
 refine tk 9 ?_ rfl ?_ ?_;rotate_left
 · (intro w hs;(try dsimp only at hs);go_simp;try with_reducible rfl)
 try simp only [gA,gB,gC,Act.put,gE,gF,gG]
 refine tk 10 ?_ rfl ?_ ?_;rotate_left
 · (intro w hs;(try dsimp only at hs);go_simp;try with_reducible rfl)
 try simp only [gA,gB,gC,Act.put,gE,gF,gG]
 refine tk 11 ?_ rfl ?_ ?_;rotate_left
 · (intro w hs;(try dsimp only at hs);go_simp;try with_reducible rfl)
 try simp only [gA,gB,gC,Act.put,gE,gF,gG]
 refine tk 12 ?_ rfl ?_ ?_;rotate_left
 · (intro w hs;(try dsimp only at hs);go_simp;try with_reducible rfl)
 try simp only [gA,gB,gC,Act.put,gE,gF,gG]
 refine tk 13 ?_ rfl ?_ ?_;rotate_left
 · (intro w hs;(try dsimp only at hs);go_simp;try with_reducible rfl)
 try simp only [gA,gB,gC,Act.put,gE,gF,gG]
 refine rd 14 rfl (fun KK hK=>?_);go_simp
 refine HP.out.mono ?_;rintro _ w1 ⟨nn,ff,rfl,H1⟩;obtain ⟨K1,m1,H2⟩:=H1.out;have m01:Mv (fun u=>t<=u∧u<=t+16) w0 w1 K0 K1:=(Mv.drew _ w0 K0).trans (m1.mono (fun u e=>by omega));have s1:w1.cell? ⟨s,0,none⟩=some (ptr p)∧w1.cell? ⟨s,1,none⟩=some (ptr r)∧w1.cell? ⟨S0,4,none⟩=some (iI o.dst)∧w1.cell? ⟨S0,5,none⟩=some (iI o.prog)∧w1.cell? ⟨S0,6,none⟩=some (iI o.vers)∧w1.cell? ⟨S0,7,none⟩=some (iI o.proc)∧w1.cell? ⟨S0,8,none⟩=some (.string ⟨o.s.toArray⟩):=Aa.out w1 K1 m01;refine hK.out _ _ ?_ (fun hHeld1=>?_)
 · exact s1
 clear hK hHeld;try simp only [gA,gB,gC,Act.put,gE,gF,gG]
 refine tk 15 ?_ rfl ?_ ?_;rotate_left
 · (intro w hs;(try dsimp only at hs);go_simp;try with_reducible rfl)
 try simp only [gA,gB,gC,Act.put,gE,gF,gG]
 refine tk 16 ?_ rfl ?_ ?_;rotate_left
 · (intro w hs;(try dsimp only at hs);go_simp;try with_reducible rfl)
 try simp only [gA,gB,gC,Act.put,gE,gF,gG]
 refine tk 17 ?_ rfl ?_ ?_;rotate_left
 · (intro w hs;(try dsimp only at hs);go_simp;try with_reducible rfl)
 try simp only [gA,gB,gC,Act.put,gE,gF,gG]
 refine tk 18 ?_ rfl ?_ ?_;rotate_left
 · (intro w hs;(try dsimp only at hs);go_simp;try with_reducible rfl)
 try simp only [gA,gB,gC,Act.put,gE,gF,gG]
 refine wpAnyH_done (by kernel_rfl) ?_ _;refine zbx.done ?_;refine wpOp_step (i:=19) rfl (fun KK hK=>?_);have HK:=hid hK;clear hK;go_simp
 refine HK.out _ _ ?_;clear HK;have HD:=hid (H2 w1.drew (zdb w1 1));have s2:w1.drew.cell? ⟨s,0,none⟩=some (ptr p)∧w1.drew.cell? ⟨s,1,none⟩=some (ptr r)∧w1.drew.cell? ⟨S0,4,none⟩=some (iI o.dst)∧w1.drew.cell? ⟨S0,5,none⟩=some (iI o.prog)∧w1.drew.cell? ⟨S0,6,none⟩=some (iI o.vers)∧w1.drew.cell? ⟨S0,7,none⟩=some (iI o.proc)∧w1.drew.cell? ⟨S0,8,none⟩=some (.string ⟨o.s.toArray⟩):=Aa.out w1.drew K1 (m01.trans (Mv.drew _ w1 K1));have Ac:=hid m01;clear H2 m1 hHeld1 s0 s1 HP H1 m01;go_wp2_with fail
 refine zah (S:=fun w'=>w'.cell? ⟨s,0,none⟩=some (ptr p)∧w'.cell? ⟨s,1,none⟩=some (ptr r)∧w'.cell? ⟨S0,4,none⟩=some (iI o.dst)∧w'.cell? ⟨S0,5,none⟩=some (iI o.prog)∧w'.cell? ⟨S0,6,none⟩=some (iI o.vers)∧w'.cell? ⟨S0,7,none⟩=some (iI o.proc)∧w'.cell? ⟨S0,8,none⟩=some (.string ⟨o.s.toArray⟩)) (n:=19) (by kernel_rfl) rfl (by kernel_rfl) (by kernel_rfl) ?_ (fun hHeld2=>?_)
 · exact s2
 refine tk 0 ?_ rfl ?_ ?_;rotate_left
 · (intro w hs;(try dsimp only at hs);go_simp;try with_reducible rfl)
 try simp only [gA,gB,gC,Act.put,gE,gF,gG]
 refine tk 1 ?_ rfl ?_ ?_;rotate_left
 · (intro w hs;(try dsimp only at hs);go_simp;try with_reducible rfl)
 try simp only [gA,gB,gC,Act.put,gE,gF,gG]
 refine tk 2 ?_ rfl ?_ ?_;rotate_left
 · (intro w hs;(try dsimp only at hs);go_simp;try with_reducible rfl)
 try simp only [gA,gB,gC,Act.put,gE,gF,gG]
 refine tk 3 ?_ rfl ?_ ?_;rotate_left
 · (intro w hs;(try dsimp only at hs);go_simp;try with_reducible rfl)
 try simp only [gA,gB,gC,Act.put,gE,gF,gG]
 refine tk 4 ?_ rfl ?_ ?_;rotate_left
 · (intro w hs;(try dsimp only at hs);go_simp;try with_reducible rfl)
 try simp only [gA,gB,gC,Act.put,gE,gF,gG]
 refine tk 5 ?_ rfl ?_ ?_;rotate_left
 · (intro w hs;(try dsimp only at hs);go_simp;try with_reducible rfl)
 try simp only [gA,gB,gC,Act.put,gE,gF,gG]
 refine tk 6 ?_ rfl ?_ ?_;rotate_left
 · (intro w hs;(try dsimp only at hs);go_simp;try with_reducible rfl)
 try simp only [gA,gB,gC,Act.put,gE,gF,gG]
 refine tk 7 ?_ rfl ?_ ?_;rotate_left
 · (intro w hs;(try dsimp only at hs);go_simp;try with_reducible rfl)
 try simp only [gA,gB,gC,Act.put,gE,gF,gG]
 refine tk 8 ?_ rfl ?_ ?_;rotate_left
 · (intro w hs;(try dsimp only at hs);go_simp;try with_reducible rfl)
 try simp only [gA,gB,gC,Act.put,gE,gF,gG]
 refine tk 9 ?_ rfl ?_ ?_;rotate_left
 · (intro w hs;(try dsimp only at hs);go_simp;try with_reducible rfl)
 try simp only [gA,gB,gC,Act.put,gE,gF,gG]
 refine tk 10 ?_ rfl ?_ ?_;rotate_left
 · (intro w hs;(try dsimp only at hs);go_simp;try with_reducible rfl)
 try simp only [gA,gB,gC,Act.put,gE,gF,gG]
 refine tk 11 ?_ rfl ?_ ?_;rotate_left
 · (intro w hs;(try dsimp only at hs);go_simp;try with_reducible rfl)
 try simp only [gA,gB,gC,Act.put,gE,gF,gG]
 refine tk 12 ?_ rfl ?_ ?_;rotate_left
 · (intro w hs;(try dsimp only at hs);go_simp;try with_reducible rfl)
 try simp only [gA,gB,gC,Act.put,gE,gF,gG]
 refine tk 13 ?_ rfl ?_ ?_;rotate_left
 · (intro w hs;(try dsimp only at hs);go_simp;try with_reducible rfl)
 try simp only [gA,gB,gC,Act.put,gE,gF,gG]
 refine rd 14 rfl (fun KK hK=>?_);go_simp
 refine HD.out.mono ?_;rintro _ w2 ⟨rfl,H1⟩;have s3:w2.cell? ⟨s,0,none⟩=some (ptr p)∧w2.cell? ⟨s,1,none⟩=some (ptr r)∧w2.cell? ⟨S0,4,none⟩=some (iI o.dst)∧w2.cell? ⟨S0,5,none⟩=some (iI o.prog)∧w2.cell? ⟨S0,6,none⟩=some (iI o.vers)∧w2.cell? ⟨S0,7,none⟩=some (iI o.proc)∧w2.cell? ⟨S0,8,none⟩=some (.string ⟨o.s.toArray⟩):=by
  obtain ⟨K2,nx2,L2,M2,h2,hl2,hx2,m2⟩:=H1.out;exact Aa.out w2 K2 ((Mv.drew _ w0 K0).trans m2)
 refine hK.out _ _ ?_ (fun hHeld3=>?_)
 · exact s3
 clear hK hHeld2;try simp only [gA,gB,gC,Act.put,gE,gF,gG]
 refine tk 15 ?_ rfl ?_ ?_;rotate_left
 · (intro w hs;(try dsimp only at hs);go_simp;try with_reducible rfl)
 try simp only [gA,gB,gC,Act.put,gE,gF,gG]
 refine tk 16 ?_ rfl ?_ ?_;rotate_left
 · (intro w hs;(try dsimp only at hs);go_simp;try with_reducible rfl)
 try simp only [gA,gB,gC,Act.put,gE,gF,gG]
 refine tk 17 ?_ rfl ?_ ?_;rotate_left
 · (intro w hs;(try dsimp only at hs);go_simp;try with_reducible rfl)
 try simp only [gA,gB,gC,Act.put,gE,gF,gG]
 refine tk 18 ?_ rfl ?_ ?_;rotate_left
 · (intro w hs;(try dsimp only at hs);go_simp;try with_reducible rfl)
 try simp only [gA,gB,gC,Act.put,gE,gF,gG]
 refine wpAnyH_done (by kernel_rfl) ?_ _;refine zbx.done ?_;refine wpOp_step (i:=19) rfl (fun KK hK=>?_);have HK:=hid hK;clear hK;go_simp
 refine HK.out _ _ ?_;clear HK;have s4:w2.cell? ⟨s,0,none⟩=some (ptr p)∧w2.cell? ⟨s,1,none⟩=some (ptr r)∧w2.cell? ⟨S0,4,none⟩=some (iI o.dst)∧w2.cell? ⟨S0,5,none⟩=some (iI o.prog)∧w2.cell? ⟨S0,6,none⟩=some (iI o.vers)∧w2.cell? ⟨S0,7,none⟩=some (iI o.proc)∧w2.cell? ⟨S0,8,none⟩=some (.string ⟨o.s.toArray⟩):=s3;clear hHeld3 s2 s3 HD;have HA:Hid (∃ K2 nx2 L2 M2,SI K2 w2 B t s p r c nx2 now L2 M2 D q T∧L2.length<=L.length+1∧nx2<=next+1∧Mv (fun u=>t<=u∧u<=t+16) w0 w2 K0 K2):=by
  obtain ⟨K2,nx2,L2,M2,h2,hl2,hx2,m2⟩:=H1.out;exact ⟨K2,nx2,L2,M2,h2,hl2,hx2,(Mv.drew _ w0 K0).trans m2⟩
 clear H1 Aa Ac;obtain ⟨b0,hb0⟩:∃ b,(ff==(0:Int))=b:=⟨_,rfl⟩;cases b0
 · as_aux_lemma =>
   have HE:Hid (zdv K w B t s p r c n bb x y z w2):=by
    obtain ⟨a1,a2,a3,a4⟩:=HS.out;have hN:=HN.out;obtain ⟨K2,nx2,L2,M2,h2,hl2,hx2,m2⟩:=HA.out;exact ⟨K2,y,z,⟨nx2,now,L2,M2,D,q,T,h2,by omega,by omega,by omega,by omega⟩,a2.far m2.wk (fun u hu=>by omega),⟨rfl,by omega⟩,⟨rfl,by omega⟩,(a4.wk.mono (fun _ e=>e.elim)).trans (m2.wk.mono (fun u e=>by omega))⟩
   clear HS HN HF Ab HA s4;go_wp2;go_ret;exact ⟨by simp,HE.out⟩
 · as_aux_lemma =>
   obtain ⟨K2,nx2,L2,M2,h2,hl2,hx2,m2⟩:=HA.out;obtain ⟨vt,sb,rt⟩:=h2.me;obtain ⟨S5,hS5⟩:∃ y,w2.drew.heap.size=y:=⟨_,rfl⟩;obtain ⟨w5,hw5⟩:∃ y,w2.drew.alloc (.cells #[iI o.dst] 3)=y:=⟨_,rfl⟩;have md:=Mv.drew (fun _=>False) w2 K2;obtain ⟨o6,n6,c6,w6,w7,K7,r6,m6,z6,f6,hw7,HX⟩:=(h2.to md (fun _ e=>e.elim)).putT (m2.wk.zero (by have:=HN.out;omega) HS.out.2.1.n.hB HS.out.2.2.1) (by have:=HN.out;omega) (by have:=HN.out;omega) o.dst hS5 hw5 sb.at_ (rt.mv md id);have HE:Hid (zdv K w B t s p r c n bb x y z w7):=by
    obtain ⟨a1,a2,a3,a4⟩:=HS.out;have hN:=HN.out;have mX:=(md.wk.mono (fun _ e=>e.elim)).trans HX.out.2;exact ⟨K7,y,z,⟨nx2,now,L2,M2,D,q,_,HX.out.1,by omega,by omega,by omega,by simp;omega⟩,(a2.far m2.wk (fun u hu=>by omega)).far mX (fun u hu=>by omega),⟨rfl,by omega⟩,⟨rfl,by omega⟩,((a4.wk.mono (fun _ e=>e.elim)).trans (m2.wk.mono (fun u e=>by omega))).trans (mX.mono (fun u e=>by omega))⟩
   have k2:=Ab.out.mv m2 (by have:=HN.out;omega);have hb5:Below w2.heap.size w2 w5:=by rw [<- hw5];exact ((Below.refl _ _).drew).alloc (Nat.le_refl _) _
   have g1:w2.drew.cell? ⟨s,2,none⟩=some vt∧w2.drew.cell? ⟨S0,4,none⟩=some (iI o.dst):=⟨zaa (w:=w2.drew) sb.at_ rfl,zaa (w:=w2.drew) k2.at_ rfl⟩;have g2:w5.cell? ⟨s,2,none⟩=some vt∧w5.cell? ⟨S0,4,none⟩=some (iI o.dst):=⟨zaa ((hb5.block s sb.lt).trans sb.at_) rfl,zaa ((hb5.block S0 k2.lt).trans k2.at_) rfl⟩;have g3:w6.cell? ⟨s,2,none⟩=some vt∧w6.cell? ⟨S0,4,none⟩=some (iI o.dst):=⟨z6,zaa ((k2.mv md (fun e=>e)).mv m6 (by have:=HN.out;omega)).at_ rfl⟩;have Ad:=hid r6;have hbs:(Instr.buildSlice 24 1 #[(0,iI o.dst)]).run Tryz.prog w2.drew=.ok (.slice (some ⟨S5,0,none⟩) 1 1) w5:=by rw [<- hS5,<- hw5];exact bls24n _ _
   clear HS HN HF Ab HA HX md m2 m6 hl2 hx2 h2 sb rt r6 s4 z6 k2 hb5;go_wp2_with fail
   refine zah (S:=fun w'=>w'.cell? ⟨s,2,none⟩=some vt∧w'.cell? ⟨S0,4,none⟩=some (iI o.dst)) (n:=11) (by kernel_rfl) rfl (by kernel_rfl) (by kernel_rfl) ?_ (fun hHeld4=>?_)
   · exact g1
   refine tk 0 ?_ rfl ?_ ?_;rotate_left
   · (intro w hs;(try dsimp only at hs);go_simp;try with_reducible rfl)
   try simp only [gA,gB,gC,Act.put,gE,gF,gG]
   refine tk 1 ?_ rfl ?_ ?_;rotate_left
   · (intro w hs;(try dsimp only at hs);go_simp;try with_reducible rfl)
   try simp only [gA,gB,gC,Act.put,gE,gF,gG]
   refine tk 2 ?_ rfl ?_ ?_;rotate_left
   · (intro w hs;(try dsimp only at hs);go_simp;try with_reducible rfl)
   try simp only [gA,gB,gC,Act.put,gE,gF,gG]
   refine tk 3 ?_ rfl ?_ ?_;rotate_left
   · (intro w hs;(try dsimp only at hs);go_simp;try with_reducible rfl)
   try simp only [gA,gB,gC,Act.put,gE,gF,gG]
   refine tk 4 ?_ rfl ?_ ?_;rotate_left
   · (intro w hs;(try dsimp only at hs);go_simp;try with_reducible rfl)
   try simp only [gA,gB,gC,Act.put,gE,gF,gG]
   refine tk 5 ?_ rfl ?_ ?_;rotate_left
   · (intro w hs;(try dsimp only at hs);go_simp;try with_reducible rfl)
   try simp only [gA,gB,gC,Act.put,gE,gF,gG]
   refine tk 6 ?_ rfl ?_ ?_;rotate_left
   · (intro w hs;(try dsimp only at hs);go_simp;try with_reducible rfl)
   try simp only [gA,gB,gC,Act.put,gE,gF,gG]
   refine rd 7 rfl (fun KK hK=>?_);refine zd7 rfl 24 (.tmp 67) rfl (iI o.dst) (.slice (some ⟨S5,0,none⟩) 1 1) w5 (by go_simp) hbs ?_;refine hK.out _ _ ?_ (fun hHeld5=>?_)
   · exact g2
   clear hK hHeld4;try simp only [gA,gB,gC,Act.put,gE,gF,gG]
   refine rd 8 rfl (fun KK hK=>?_);refine zbk rfl (.tmp 65) (.tmp 68) 24 rfl vt (.slice (some ⟨S5,0,none⟩) 1 1) _ _ (by go_simp) (by go_simp) (Ad.out _) ?_;refine hK.out _ _ ?_ (fun hHeld6=>?_)
   · exact g3
   clear hK hHeld5;try simp only [gA,gB,gC,Act.put,gE,gF,gG]
   refine tk 9 ?_ rfl ?_ ?_;rotate_left
   · (intro w hs;(try dsimp only at hs);go_simp;try with_reducible rfl)
   try simp only [gA,gB,gC,Act.put,gE,gF,gG]
   refine tk 10 ?_ rfl ?_ ?_;rotate_left
   · (intro w hs;(try dsimp only at hs);go_simp;try with_reducible rfl)
   try simp only [gA,gB,gC,Act.put,gE,gF,gG]
   obtain ⟨z6,_⟩:=g3;refine wpAnyH_done (by kernel_rfl) ?_ _;refine zbx.done ?_;refine wpOp_step (i:=11) rfl (fun KK hK=>?_);have HK:=hid hK;clear hK;go_simp
   refine HK.out _ _ ?_;clear HK;clear hHeld6 g1 g2 hbs hw5 f6 z6;go_wp2;go_ret;exact ⟨by simp,HE.out⟩
end Go.Proofs.YtfcbjcebkahehaaGreatDoor.Cl
namespace Go.Proofs.YtfcbjcebkahehaaGreatDoor.Cl
open Go.RowKit
def cf0:Cf:=⟨65537,5,9,2,2,8,4,⟨0,[],0,0,[]⟩⟩
def cf9:Cf:=⟨0,0,0,0,0,0,0,⟨0,[],0,0,[]⟩⟩
abbrev ag0:Value:=.agg #[iI 65537,iI 5,iI 9,iI 2,iI 2,iI 8,iI 4,iI 0,.string ⟨#[]⟩,iI 0,iI 0,.slice none 0 0]
abbrev ag9:Value:=.agg #[iI 0,iI 0,iI 0,iI 0,iI 0,iI 0,iI 0,iI 0,.string ⟨#[]⟩,iI 0,iI 0,.slice none 0 0]
theorem bld23 (w:World):(Instr.build 23 #[(0,iI 2),(1,iI 8),(2,iI 4)]).run Tryz.prog w=.ok (.agg #[iI 2,iI 8,iI 4]) w:=by kernel_rfl
theorem bld28 (w:World):(Instr.build 28 #[(0,iI 65537),(1,iI 5),(2,iI 9),(3,iI 2),(4,.agg #[iI 2,iI 8,iI 4])]).run Tryz.prog w=.ok ag0 w:=by kernel_rfl
theorem bld28z (w:World):(Instr.build 28 #[]).run Tryz.prog w=.ok ag9 w:=by kernel_rfl
theorem bld80b (w:World):(Instr.build 80 #[(0,iI 9),(1,iI 2),(8,iI 22)]).run Tryz.prog w=.ok (.agg #[iI 9,iI 2,iI 0,iI 0,iI 0,iI 0,iI 0,.string ⟨#[]⟩,iI 22]) w:=by kernel_rfl
theorem eql80 (w:World):(binOp .eql 80 (.agg #[iI 9,iI 2,iI 0,iI 0,iI 0,iI 0,iI 0,.string ⟨#[]⟩,iI 22]) (.agg #[iI 9,iI 2,iI 0,iI 0,iI 0,iI 0,iI 0,.string ⟨#[]⟩,iI 22])).run Tryz.prog w=.ok (.bool true) w:=by kernel_rfl
theorem ok0:okC cf0=true:=by
 unfold okC cf0;rw [decide_eq_true (by unfold SysP.may isW;simp)];rfl
theorem ok9:okC cf9=false:=by
 unfold okC cf9;rw [decide_eq_true (by unfold SysP.may isW;simp)];rfl
theorem tot0:Pc.totalP 2 8 4=22:=by kernel_rfl
theorem run0:runG 2 8 4 0 40 (0,0)=(1,2):=by kernel_rfl
theorem new0 (w:World) (hT:ErrT w):Calls Tryz.prog 14 #[ag0] w fun e w'=>∃ p,e=.returned (.tuple #[ptr p,iI 0])∧NewC w w' cf0 p:=by
 refine (new_any cf0 none 0 w hT (fun h=>absurd h (by decide)) (by decide) (by decide) (fun _ e=>by cases e) (by decide)).mono ?_;rintro e w' (⟨h,_⟩|⟨_,h⟩)
 · rw [ok0] at h;cases h
 · exact h
theorem new9 (w:World) (hT:ErrT w):Calls Tryz.prog 14 #[ag9] w fun e w'=>e=.returned (.tuple #[.pointer none,iI 170])∧Below w.heap.size w w':=by
 refine (new_any cf9 none 0 w hT (fun h=>absurd h (by decide)) (by decide) (by decide) (fun _ e=>by cases e) (by decide)).mono ?_;rintro e w' (⟨_,h⟩|⟨h,_⟩)
 · exact h
 · rw [ok9] at h;cases h
theorem config_any (w:World):Calls Tryz.prog 18 #[] w fun e w'=>e=.returned ag0∧Below w.heap.size w w':=by
 obtain ⟨S0,hS0⟩:∃ S0,w.heap.size=S0:=⟨_,rfl⟩;have h1:=fun w=>bld23 w;have h2:=fun w=>bld28 w;go_enter Tryz.func18,Tryz.ntmps18
 go_wp2;obtain ⟨w0,hw0⟩:∃ y,w.alloc (.cells #[iI 65537,iI 5,iI 9,iI 2,iI 2,iI 8,iI 4,iI 0,.string ⟨#[]⟩,iI 0,iI 0,.slice none 0 0] 28)=y:=⟨_,rfl⟩;have k0:w0.heap[S0]?=some (.cells #[iI 65537,iI 5,iI 9,iI 2,iI 2,iI 8,iI 4,iI 0,.string ⟨#[]⟩,iI 0,iI 0,.slice none 0 0] 28):=by rw [<- hw0,<- hS0];exact (MapKept.heap_alloc w _).1
 have b0:Below w.heap.size w w0:=by rw [<- hw0];exact (Below.refl _ _).alloc (Nat.le_refl _) _
 have q0:w0.cell? ⟨S0,0,none⟩=some (iI 65537):=zaa k0 rfl;have q1:w0.cell? ⟨S0,1,none⟩=some (iI 5):=zaa k0 rfl;have q2:w0.cell? ⟨S0,2,none⟩=some (iI 9):=zaa k0 rfl;have q3:w0.cell? ⟨S0,3,none⟩=some (iI 2):=zaa k0 rfl;have q4:w0.cell? ⟨S0,4,none⟩=some (iI 2):=zaa k0 rfl;have q5:w0.cell? ⟨S0,5,none⟩=some (iI 8):=zaa k0 rfl;have q6:w0.cell? ⟨S0,6,none⟩=some (iI 4):=zaa k0 rfl;have q7:w0.cell? ⟨S0,7,none⟩=some (iI 0):=zaa k0 rfl;have q8:w0.cell? ⟨S0,8,none⟩=some (.string ⟨#[]⟩):=zaa k0 rfl;have q9:w0.cell? ⟨S0,9,none⟩=some (iI 0):=zaa k0 rfl;have q10:w0.cell? ⟨S0,10,none⟩=some (iI 0):=zaa k0 rfl;have q11:w0.cell? ⟨S0,11,none⟩=some (.slice none 0 0):=zaa k0 rfl;have HB:=hid b0;clear k0 b0;rw [hw0];refine bodyPost_ret (v:=ag0) (by simp [results,Tryz.results18,go_sem,q0,q1,q2,q3,q4,q5,q6,q7,q8,q9,q10,q11]) rfl ?_;exact ⟨rfl,HB.out⟩
structure AP (w w' : World) (p:Nat) (next now:Int) (L:List Wt) (D:List Oc) (v:Value) (l:List Pk):Prop where
 ex:∃ K oa cap vw vd q,PC K w' w.heap.size 1 p cf0 oa cap next now L D vw vd q∧RW 78 3 pkC K w' w.heap.size 100 v l∧Mv (fun u=>1<=u) w w' (fun _=>0) K
theorem AP.below {w w' : World} {p:Nat} {next now:Int} {L:List Wt} {D:List Oc} {v:Value} {l:List Pk} (h:AP w w' p next now L D v l):Below w.heap.size w w':=by
 obtain ⟨K,oa,cap,vw,vd,q,P,R,M⟩:=h.ex;exact ⟨M.os,M.tape,M.output,M.size,fun b hb=>M.kept b hb (by omega)⟩
theorem aw_new {w w1 w2 w3:World} {p:Nat} (hT:ErrT w) (h1:Below w.heap.size w w1) (h2:NewC w1 w2 cf0 p) (h3:Below w2.heap.size w2 w3):AP w w3 p 9 0 [] [] (.slice none 0 0) []:=by
 have hl:1<w.heap.size:=World.block_lt_of_cell? _ _ hT;have hT1:ErrT w1:=(World.cell?_of_block (a:=⟨1,0,none⟩) (h1.block 1 hl)).trans hT;obtain ⟨K2,q,oa,cap,P2,m2⟩:=h2.pc (ext w (fun _=>0) (fun _=>50)) w.heap.size 1 h1.size hl (fun b hb=>by rw [zbd hb];omega) ok0 hT1;have m1:=Mv.of_below h1 (fun _=>0) (fun _=>50);have m3:=Mv.of_below h3 K2 (fun _=>50);exact ⟨⟨_,oa,cap,_,_,q,P2.below h3 (fun _=>50),RW.nil _ _ _ _ _ _ _,(m1.mono (fun _ e=>e.elim)).trans ((m2.mono (fun _ e=>e.elim)).trans (m3.mono (fun _ e=>e.elim)))⟩⟩
theorem aw_call {w w' : World} {p:Nat} (h:AP w w' p 9 0 [] [] (.slice none 0 0) []):Calls Tryz.prog 19 #[ptr p,iI 65636,iI 7,iI 1,iI 2,.string ⟨#[97,98,99,100]⟩] w' fun e w''=>e=.returned (.tuple #[iI 9,iI 0])∧∃ x,Hid (x.isNew 65636 7 1 2 [97,98,99,100] 0 22 9∧AP w w'' p 10 0 [x] [] (.slice none 0 0) []):=by
 obtain ⟨K,oa,cap,vw,vd,q,P,R,M⟩:=h.ex;refine (P.call_any 65636 7 1 2 [97,98,99,100] (by decide) (by decide) (by decide) (by decide) (by decide)).mono ?_;rintro e w'' ⟨rfl,K',x,vw',vd',P',⟨fin,hf,hx⟩,m⟩;refine ⟨rfl,x,?_,⟨K',oa,cap,vw',vd',q,P',RW.nil _ _ _ _ _ _ _,M.trans (m.mono (fun u e=>by omega))⟩⟩;have:fin=22:=by rw [<- hf];show IntKind.i64.wrap (0+Pc.totalP 2 8 4)=22;rw [tot0];rfl
 rw [<- this];exact hx
theorem fine0 {x:Wt} (h:x.isNew 65636 7 1 2 [97,98,99,100] 0 22 9):x.fine:=by
 obtain ⟨_,_,_,_,h5,h6,h7,_,h9,_,_⟩:=h;unfold Wt.fine;rw [h5,h6,h7,h9];decide
theorem due0 {x:Wt} (h:x.isNew 65636 7 1 2 [97,98,99,100] 0 22 9):dueW cf0 0 x=true∧(givW cf0 0 x).snd=1∧(givW cf0 0 x).due=2:=by
 obtain ⟨_,_,_,_,_,h6,h7,_,_,_,_⟩:=h;unfold dueW givW;rw [h6,h7];show dueB 4 0 0 0=true∧(runG 2 8 4 0 40 (0,0)).1=1∧(runG 2 8 4 0 40 (0,0)).2=2;rw [run0];exact ⟨by decide,rfl,rfl⟩
theorem aw_due {w w' : World} {p:Nat} {x:Wt} (hx:x.isNew 65636 7 1 2 [97,98,99,100] 0 22 9) (h:AP w w' p 10 0 [x] [] (.slice none 0 0) []):Calls Tryz.prog 20 #[ptr p] w' fun e w''=>∃ v,e=.returned v∧Hid (AP w w'' p 10 0 [givW cf0 0 x] [] v [⟨65537,65636,x.data cf0 9⟩]):=by
 obtain ⟨K,oa,cap,vw,vd,q,P,R,M⟩:=h.ex;refine (P.due_any 100 (by omega) (fun y hy=>by simp at hy;rw [hy];exact fine0 hx) (by simp)).mono ?_;rintro e w'' ⟨v,rfl,hh⟩;obtain ⟨K',P',R',m⟩:=hh.out;refine ⟨v,rfl,⟨K',oa,cap,vw,vd,q,?_,?_,M.trans (m.mono (fun u e=>by omega))⟩⟩
 · simpa [dueL,(due0 hx).1] using P'
 · have e1:pksL cf0 (zaz 10 [x]) 0 [x]=[⟨65537,65636,x.data cf0 9⟩]:=by
    (simp [pksL,(due0 hx).1,zaz]);exact ⟨rfl,hx.1,by rw [hx.2.2.2.2.2.2.2.2.2.2]⟩
   rw [<- e1];exact R'
theorem aw_due2 {w w' : World} {p:Nat} {x:Wt} {v:Value} {l:List Pk} (hx:x.isNew 65636 7 1 2 [97,98,99,100] 0 22 9) (h:AP w w' p 10 0 [givW cf0 0 x] [] v l):Calls Tryz.prog 20 #[ptr p] w' fun e w''=>∃ o c,e=.returned (.slice o 0 c)∧Hid (AP w w'' p 10 0 [givW cf0 0 x] [] v l):=by
 obtain ⟨K,oa,cap,vw,vd,q,P,R,M⟩:=h.ex;obtain ⟨_,d1,d2⟩:=due0 hx;have hd:dueW cf0 0 (givW cf0 0 x)=false:=by unfold dueW;rw [d1,d2];decide
 have hf:=fine0 hx;refine (P.due_any 101 (by omega) (fun y hy=>?_) (by simp)).mono ?_
 · simp at hy
   rw [hy];have h9:x.tms=0:=hx.2.2.2.2.2.2.2.2.1;refine ⟨by rw [d1];decide,by rw [d2];decide,?_,hf.2.2.2⟩;show 0<=x.tms+1∧x.tms+1<=1000000000000;rw [h9];decide
 rintro e w'' ⟨v',rfl,hh⟩;obtain ⟨K',P',R',m⟩:=hh.out;obtain ⟨o,c,ev,_,_⟩:=R'.form;have e0:(pksL cf0 (zaz 10 [givW cf0 0 x]) 0 [givW cf0 0 x]).length=0:=by simp [pksL,hd]
 rw [e0] at ev;refine ⟨o,c,by rw [ev],⟨K',oa,cap,vw,vd,q,?_,R.mv m (by omega),M.trans (m.mono (fun u e=>by omega))⟩⟩;simpa [dueL,hd] using P'
def lst (x:Wt) (i:Nat):List Wt:=if i<22 then [x] else []
def outs (x:Wt) (i:Nat):List Oc:=if i<22 then [] else [tOut 22 x]
theorem aw_tick {w w' : World} {p:Nat} {x:Wt} {v:Value} {l:List Pk} (hx:x.fin=22) (i:Nat) (hi:i<22) (h:AP w w' p 10 (i:Int) (lst x i) (outs x i) v l):Calls Tryz.prog 21 #[ptr p] w' fun e w''=>(∃ v,e=.returned v)∧Hid (AP w w'' p 10 ((i+1:Nat):Int) (lst x (i+1)) (outs x (i+1)) v l):=by
 obtain ⟨K,oa,cap,vw,vd,q,P,R,M⟩:=h.ex;have hl:lst x i=[x]:=if_pos hi;have ho:outs x i=[]:=if_pos hi;rw [hl,ho] at P;refine (P.tick_any (by omega) (by simp)).mono ?_;rintro e w'' ⟨he,hh⟩;obtain ⟨K',vw',vd',P',m⟩:=hh.out;refine ⟨he,⟨K',oa,cap,vw',vd',q,?_,R.mv m (by omega),M.trans (m.mono (fun u e=>by omega))⟩⟩;have hc:(((i+1:Nat):Int))=(i:Int)+1:=by omega
 rw [hc];by_cases h2:i+1<22
 · have ob:zbq ((i:Int)+1) x=false:=by unfold zbq;rw [hx];exact decide_eq_false (by omega)
   have l2:lst x (i+1)=[x]:=if_pos h2;have o2:outs x (i+1)=[]:=if_pos h2;rw [l2,o2];simpa [List.dropWhile,List.takeWhile,ob] using P'
 · have h3:(i:Int)+1=22:=by omega
   have ob:zbq ((i:Int)+1) x=true:=by unfold zbq;rw [hx];exact decide_eq_true (by omega)
   have l2:lst x (i+1)=[]:=if_neg h2;have o2:outs x (i+1)=[tOut 22 x]:=if_neg h2;rw [l2,o2];rw [h3] at P' ob ⊢;simpa [List.dropWhile,List.takeWhile,ob] using P'
theorem aw_done {w w' : World} {p:Nat} {x:Wt} {v:Value} {d:List UInt8} (hs:x.seq=9) (h:AP w w' p 10 22 [] [tOut 22 x] v [⟨65537,65636,d⟩]):Calls Tryz.prog 22 #[ptr p] w' fun e w''=>∃ g1 c1 g2 c2,v=.slice (some ⟨g1,0,none⟩) 1 c1∧e=.returned (.slice (some ⟨g2,0,none⟩) 1 c2)∧(w''.cell? ⟨g1,0,none⟩=some (iI 65537)∧w''.cell? ⟨g1,1,none⟩=some (iI 65636))∧(w''.cell? ⟨g2,0,none⟩=some (iI 9)∧w''.cell? ⟨g2,1,none⟩=some (iI 2)∧w''.cell? ⟨g2,2,none⟩=some (iI 0)∧w''.cell? ⟨g2,3,none⟩=some (iI 0)∧w''.cell? ⟨g2,4,none⟩=some (iI 0)∧w''.cell? ⟨g2,5,none⟩=some (iI 0)∧w''.cell? ⟨g2,6,none⟩=some (iI 0)∧w''.cell? ⟨g2,7,none⟩=some (.string ⟨#[]⟩)∧w''.cell? ⟨g2,8,none⟩=some (iI 22))∧Hid (AP w w'' p 10 22 [] [] v [⟨65537,65636,d⟩]):=by
 obtain ⟨K,oa,cap,vw,vd,q,P,R,M⟩:=h.ex;refine P.done_any.mono ?_;rintro e w'' ⟨rfl,P',R',m⟩;have R1:=R.mv m (by omega);obtain ⟨o1,c1,e1,_,hg1⟩:=R1.form;obtain ⟨g1,rfl⟩:=hg1 (by simp);obtain ⟨o2,c2,e2,_,hg2⟩:=R'.form;obtain ⟨g2,rfl⟩:=hg2 (by simp);subst e1;subst e2;have a:=fun k hk=>R1.cell pkL rfl (j:=0) rfl k hk;have b:=fun k hk=>R'.cell ocL rfl (j:=0) rfl k hk;refine ⟨g1,c1,g2,c2,rfl,rfl,⟨?_,?_⟩,⟨?_,?_,?_,?_,?_,?_,?_,?_,?_⟩,⟨K,oa,cap,vw,_,q,P',R1,M.trans (m.mono (fun u e=>by omega))⟩⟩
 · simpa [pkC] using a 0 (by omega)
 · simpa [pkC] using a 1 (by omega)
 · simpa [ocC,tOut,hs] using b 0 (by omega)
 · simpa [ocC,tOut] using b 1 (by omega)
 · simpa [ocC,tOut] using b 2 (by omega)
 · simpa [ocC,tOut] using b 3 (by omega)
 · simpa [ocC,tOut] using b 4 (by omega)
 · simpa [ocC,tOut] using b 5 (by omega)
 · simpa [ocC,tOut] using b 6 (by omega)
 · simpa [ocC,tOut] using b 7 (by omega)
 · simpa [ocC,tOut] using b 8 (by omega)
theorem aw_ends {w w' : World} {p:Nat} {v:Value} {l:List Pk} (h:AP w w' p 10 22 [] [] v l):Calls Tryz.prog 23 #[ptr p] w' (fun e w''=>e=.returned (iI 10)∧w''=w')∧Calls Tryz.prog 24 #[ptr p] w' (fun e w''=>e=.returned (iI 22)∧w''=w'):=by
 obtain ⟨K,oa,cap,vw,vd,q,P,R,M⟩:=h.ex;exact ⟨P.water_any,P.now_any⟩
theorem awake_any (w:World) (hT:ErrT w):Calls Tryz.prog 7 #[] w fun e w'=>e=.returned (.bool true)∧Below w.heap.size w w':=by
 have hl:1<w.heap.size:=World.block_lt_of_cell? _ _ hT;have HE:Hid (∀ w',Below w.heap.size w w'->ErrT w'):=fun w' h=>(World.cell?_of_block (a:=⟨1,0,none⟩) (h.block 1 hl)).trans hT;have HT:=hid hT;have HC:=hid (config_any w);have hz:=fun w=>bld28z w;clear hT hl;go_enter Tryz.func7,Tryz.ntmps7
 go_wp2_with fail
 refine HC.out.mono ?_;rintro _ w1 ⟨rfl,hb1⟩;have Aa:=hid hb1;have H0:=hid (new0 w1 (HE.out w1 hb1));clear HC hb1;go_wp2_with fail
 refine H0.out.mono ?_;rintro _ w2 ⟨p,rfl,hN⟩;have HN:=hid hN;have b12:=hN.be;have H9:=hid (new9 w2 (HE.out w2 (Aa.out.trans (b12.mono Aa.out.size))));clear H0 hN b12;go_wp2_with fail
 refine H9.out.mono ?_;rintro _ w3 ⟨rfl,hb3⟩;have Ab:=hid (aw_new HT.out Aa.out HN.out hb3);have H4:=hid (aw_call Ab.out);clear H9 hb3 HN Aa HE Ab;go_wp2_with fail
 refine H4.out.mono ?_;rintro _ w4 ⟨rfl,x,HX⟩;have H5:=hid (aw_due HX.out.1 HX.out.2);clear H4;go_wp2_with fail
 refine H5.out.mono ?_;rintro _ w5 ⟨v5,rfl,Ac⟩;have H6:=hid (aw_due2 HX.out.1 Ac.out);clear H5 Ac;go_wp2_with fail
 refine H6.out.mono ?_;rintro _ w6 ⟨o6,c6,rfl,Ad⟩;have HQ:Hid ((givW cf0 0 x).fin=22∧(givW cf0 0 x).seq=9):=⟨HX.out.1.2.2.2.2.2.2.2.1,HX.out.1.2.2.2.2.2.2.2.2.2.2⟩;have HP:Hid (AP w w6 p 10 ((0:Nat):Int) (lst (givW cf0 0 x) 0) (outs (givW cf0 0 x) 0) v5 [⟨65537,65636,x.data cf0 9⟩]):=Ad.out;obtain ⟨y,hy⟩:∃ y,givW cf0 0 x=y:=⟨_,rfl⟩;obtain ⟨d,hd⟩:∃ d,x.data cf0 9=d:=⟨_,rfl⟩;rw [hy] at HQ HP;rw [hd] at HP;clear H6 Ad HX hy hd;go_wp2_with fail
 go_loopw [9] (fun u9 wr=>∃ j:Nat,u9=iI (j:Int)∧j<=22∧Hid (AP w wr p 10 (j:Int) (lst y j) (outs y j) v5 [⟨65537,65636,d⟩])) (fun u9 _=>22 - (intOf u9).toNat)
 case atStart=>exact ⟨0,rfl,by omega,HP.out⟩
 case round =>
  obtain ⟨j,rfl,hj,HR⟩:=hrel;clear HP;obtain ⟨wo,hwo⟩:∃ yy,yy=wr:=⟨_,rfl⟩;subst hwo;by_cases hlt:j<22
  · have hji:(j:Int)<22:=(by omega);have Ae:=hid (aw_tick HQ.out.1 j hlt HR.out);have hj1:wrap64 ((j:Int)+1)=(j:Int)+1:=zb0 (by omega);clear HR;(go_wp2_with fail);refine Ae.out.mono ?_;rintro _ w7 ⟨⟨v7,rfl⟩,H7⟩;clear Ae;go_wp2;go_roundw
    case rel=>exact ⟨j+1,by simp,by omega,H7.out⟩
    case measure=>exact meas (n:=22) rfl (by omega)
  · obtain rfl:j=22:=(by omega);have HD:=hid (aw_done HQ.out.2 HR.out);clear HR hlt hj;rw [show ((22:Nat):Int)=22 from rfl];(go_wp2_with fail);refine HD.out.mono ?_;rintro _ w8 ⟨g1,c1,g2,c2,hv5,rfl,⟨p0,p1⟩,⟨q0,q1,q2,q3,q4,q5,q6,q7,q8⟩,HF⟩;subst hv5;have HW:=hid (aw_ends HF.out);have Af:=hid HF.out.below;have hb80:=fun w=>bld80b w;have he80:=fun w=>eql80 w;clear HD HF;(go_wp2_with fail);refine HW.out.1.mono ?_;rintro _ _ ⟨rfl,rfl⟩;(go_wp2_with fail);refine HW.out.2.mono ?_;rintro _ _ ⟨rfl,rfl⟩;go_wp2;go_ret;exact ⟨rfl,Af.out⟩
theorem addsUp_small (n m:Int) (h:n<=2147483647∧m<=2147483647) (h0:0<=n∧0<=m) (w:World):Calls Tryz.prog 6 #[iI n,iI m] w fun e w'=>e=.returned (iI (n+m))∧w'=w:=by
 have a:¬ 2147483647<n:=by omega
 have b:¬ 2147483647<m:=by omega
 have c:wrap64 (n+m)=n+m:=by unfold wrap64;omega
 go_enter Tryz.func6,Tryz.ntmps6
 go_wp2;go_ret;exact ⟨rfl,rfl⟩
theorem addsUp_great (n m:Int) (h:2147483647<n∨2147483647<m) (w:World):Calls Tryz.prog 6 #[iI n,iI m] w fun e w'=>e=.returned (iI 2147483648)∧w'=w:=by
 by_cases a:2147483647<n
 · clear h;go_enter Tryz.func6,Tryz.ntmps6
   go_wp2;go_ret;exact ⟨rfl,rfl⟩
 · have b:2147483647<m:=by omega
   clear h;go_enter Tryz.func6,Tryz.ntmps6
   go_wp2;go_ret;exact ⟨rfl,rfl⟩
def aU (n m:Int):Int:=if n<=2147483647∧m<=2147483647 then n+m else 2147483648
theorem zgj {n m:Int} (h:0<=n) (h' : 0<=m):0<=aU n m:=by unfold aU;split <;> omega
theorem zib {n m:Int} (h:aU n m<=2147483647):n<=2147483647∧m<=2147483647∧aU n m=n+m:=by
 unfold aU at h ⊢;split at h
 · rename_i h1;rw [if_pos h1];exact ⟨h1.1,h1.2,rfl⟩
 · omega
theorem zet (n m:Int) (h0:0<=n) (h1:0<=m) (w:World):Calls Tryz.prog 6 #[iI n,iI m] w fun e w'=>e=.returned (iI (aU n m))∧w'=w:=by
 unfold aU;by_cases h:n<=2147483647∧m<=2147483647
 · rw [if_pos h];exact addsUp_small n m h ⟨h0,h1⟩ w
 · rw [if_neg h];exact addsUp_great n m (by omega) w
def opW (o:OpR):Int:=aU o.s.length (aU o.r.verf.body.length o.r.results.length)
def wgs (n:Nat) (A:Nat->OpR):Nat->Int
 | 0=>aU 0 n
 | i+1=>if wgs n A i<=2147483647 then aU (aU (wgs n A i) 64) (opW (A i)) else wgs n A i
theorem opW_nn (o:OpR):0<=opW o:=zgj (by omega) (zgj (by omega) (by omega))
theorem wgs_nn (n:Nat) (A:Nat->OpR):∀ i,0<=wgs n A i
 | 0=>zgj (by omega) (by omega)
 | i+1=>by
  unfold wgs;split
  · exact zgj (zgj (wgs_nn n A i) (by omega)) (opW_nn _)
  · exact wgs_nn n A i
theorem wgs_ok (n:Nat) (A:Nat->OpR):∀ i,wgs n A i<=2147483647->(n:Int)+64*(i:Int)<=wgs n A i∧∀ j,j<i->(A j).s.length<=2147483647∧(A j).r.verf.body.length<=2147483647∧(A j).r.results.length<=2147483647
 | 0,h=>by
  unfold wgs at h ⊢;obtain ⟨_,_,e⟩:=zib h;rw [e];exact ⟨by omega,fun j hj=>by omega⟩
 | i+1,h=>by
  unfold wgs at h ⊢;by_cases hi:wgs n A i<=2147483647
  · rw [if_pos hi] at h ⊢;obtain ⟨g1,g2⟩:=wgs_ok n A i hi;obtain ⟨a1,a2,a3⟩:=zib h;obtain ⟨b1,b2,b3⟩:=zib a1;unfold opW at a2 a3;obtain ⟨c1,c2,c3⟩:=zib a2;obtain ⟨d1,d2,d3⟩:=zib c2;(have:=opW_nn (A i));unfold opW at this;unfold opW;rw [a3,b3];refine ⟨by omega,fun j hj=>?_⟩;by_cases e:j=i
    · subst e;exact ⟨by omega,by omega,by omega⟩
    · exact g2 j (by omega)
  · rw [if_neg hi] at h;exact absurd h hi
theorem wgs_stop {n:Nat} {A:Nat->OpR} {i:Nat} (h:2147483647<wgs n A i):∀ k,wgs n A (i+k)=wgs n A i
 | 0=>rfl
 | k+1=>by
  have ih:=wgs_stop h k;show (if wgs n A (i+k)<=2147483647 then _ else wgs n A (i+k))=_;rw [ih,if_neg (by omega)]
structure OpsAt (w:World) (oa:Option Addr) (n:Nat) (A:Nat->OpR):Prop where
 at_:0<n->∃ g off,oa=some ⟨g,off,none⟩∧g<w.heap.size∧∀ j,j<n->w.rangeAt g (off+j*19) (opL (A j))
 ok:∀ j,j<n->I64 (A j).on∧I64 (A j).n∧I64 (A j).dst∧(A j).s.length<=281474976710656∧(A j).r.verf.body.length<=281474976710656∧(A j).r.results.length<=281474976710656
theorem OpsAt.below {w w' : World} {oa:Option Addr} {n:Nat} {A:Nat->OpR} (h:OpsAt w oa n A) (hb:Below w.heap.size w w'):OpsAt w' oa n A:=⟨fun h0=>by
 obtain ⟨g,off,e1,e2,e3⟩:=h.at_ h0
 exact ⟨g,off,e1,Nat.lt_of_lt_of_le e2 hb.size,fun j hj k v hv=>(World.cell?_of_block (a:=⟨g,off+j*19+k,none⟩) (hb.block g e2)).trans (e3 j hj k v hv)⟩,h.ok⟩
theorem weighs_any (oa:Option Addr) (n cap:Nat) (A:Nat->OpR) (w:World) (h:OpsAt w oa n A) :
 Calls Tryz.prog 9 #[.slice oa n cap] w fun e w'=>e=.returned (iI (wgs n A n))∧∃ k,w'=w.drewN k:=by
 have HO:=hid h;have Aa:=hid (zet 0 n (by omega) (by omega) w);obtain ⟨v0,hv0⟩:∃ v,aU 0 (n:Int)=v:=⟨_,rfl⟩;have Ac:Hid (wgs n A 0=v0):=hv0;rw [hv0] at Aa;clear h hv0;go_enter Tryz.func9,Tryz.ntmps9
 go_wp2_with fail
 refine Aa.out.mono ?_;rintro _ wq ⟨rfl,hwq⟩;rw [hwq];clear hwq wq Aa;go_wp2_with fail
 go_loopw [3,4] (fun nv iv wr=>∃ (i:Nat) (v:Int),nv=iI v∧iv=iI i∧i<=n∧Hid (wgs n A i=v∧∃ k,wr=w.drewN k)) (fun _ iv _=>n - (intOf iv).toNat)
 case atStart=>exact ⟨0,v0,rfl,rfl,Nat.zero_le _,Ac.out,0,rfl⟩
 case round =>
  obtain ⟨i,v,rfl,rfl,hi,HA⟩:=hrel;obtain ⟨w1,hw1⟩:∃ y,y=wr:=⟨_,rfl⟩;subst hw1;clear Ac;by_cases hlt:i<n
  · have hlt' : (i:Int)<(n:Int):=(by omega);by_cases hv:v<=2147483647
    · as_aux_lemma =>
      have hi0:(0:Int)<=(i:Int):=(by omega);obtain ⟨g,off,hoa,hgl,hR⟩:=HO.out.at_ (Nat.lt_of_le_of_lt (Nat.zero_le _) hlt);subst hoa;obtain ⟨k,hk⟩:=HA.out.2;have hri:=hR i hlt;obtain ⟨o,ho⟩:∃ o,A i=o:=⟨_,rfl⟩;rw [ho] at hri;obtain ⟨s1,hs1⟩:∃ s1:ByteArray,(⟨o.s.toArray⟩:ByteArray)=s1:=⟨_,rfl⟩;obtain ⟨s2,hs2⟩:∃ s2:ByteArray,(⟨o.r.verf.body.toArray⟩:ByteArray)=s2:=⟨_,rfl⟩;obtain ⟨s3,hs3⟩:∃ s3:ByteArray,(⟨o.r.results.toArray⟩:ByteArray)=s3:=⟨_,rfl⟩;have z1:s1.size=o.s.length:=(by rw [<- hs1];simp [ByteArray.size]);have z2:s2.size=o.r.verf.body.length:=(by rw [<- hs2];simp [ByteArray.size]);have z3:s3.size=o.r.results.length:=(by rw [<- hs3];simp [ByteArray.size]);have p1:w1.cell? ⟨g,off+i*19+8,none⟩=some (.string s1):=(by rw [hk,<- hs1];exact hri 8 _ rfl);have p2:w1.cell? ⟨g,off+i*19+12,none⟩=some (.string s2):=(by rw [hk,<- hs2];exact hri 12 _ rfl);have p3:w1.cell? ⟨g,off+i*19+18,none⟩=some (.string s3):=(by rw [hk,<- hs3];exact hri 18 _ rfl);have p2' : w1.cell? ⟨g,off+i*19+9+2+1,none⟩=some (.string s2):=p2;have p3' : w1.cell? ⟨g,off+i*19+9+8,none⟩=some (iI o.r.high):=(by rw [hk];exact hri 17 _ rfl);have p3'' : w1.cell? ⟨g,off+i*19+9+9,none⟩=some (.string s3):=p3;obtain ⟨b1,hb1⟩:∃ y,aU v 64=y:=⟨_,rfl⟩;obtain ⟨b2,hb2⟩:∃ y,aU (s2.size:Int) (s3.size:Int)=y:=⟨_,rfl⟩;obtain ⟨b3,hb3⟩:∃ y,aU (s1.size:Int) b2=y:=⟨_,rfl⟩;obtain ⟨b4,hb4⟩:∃ y,aU b1 b3=y:=⟨_,rfl⟩;have n0:0<=v:=(by rw [<- HA.out.1];exact wgs_nn n A i);have n1:0<=b1:=(by rw [<- hb1];exact zgj n0 (by omega));have n2:0<=b2:=(by rw [<- hb2];exact zgj (by omega) (by omega));have n3:0<=b3:=(by rw [<- hb3];exact zgj (by omega) n2);have H1:Hid (∀ m',Calls Tryz.prog 6 #[iI v,iI 64] (w1.drewN m') fun e w''=>e=.returned (iI b1)∧∃ m,w''=w1.drewN m):=fun m'=>(zet v 64 n0 (by omega) _).mono (by rintro _ w2 ⟨rfl,rfl⟩;exact ⟨by rw [hb1],m',rfl⟩);have H2:Hid (∀ m',Calls Tryz.prog 6 #[iI (s2.size:Int),iI (s3.size:Int)] (w1.drewN m') fun e w''=>e=.returned (iI b2)∧∃ m,w''=w1.drewN m):=fun m'=>(zet _ _ (by omega) (by omega) _).mono (by rintro _ w2 ⟨rfl,rfl⟩;exact ⟨by rw [hb2],m',rfl⟩);have H3:Hid (∀ m',Calls Tryz.prog 6 #[iI (s1.size:Int),iI b2] (w1.drewN m') fun e w''=>e=.returned (iI b3)∧∃ m,w''=w1.drewN m):=fun m'=>(zet _ _ (by omega) n2 _).mono (by rintro _ w2 ⟨rfl,rfl⟩;exact ⟨by rw [hb3],m',rfl⟩);have H4:Hid (∀ m',Calls Tryz.prog 6 #[iI b1,iI b3] (w1.drewN m') fun e w''=>e=.returned (iI b4)∧∃ m,w''=w1.drewN m):=fun m'=>(zet _ _ n1 n3 _).mono (by rintro _ w2 ⟨rfl,rfl⟩;exact ⟨by rw [hb4],m',rfl⟩);have HE:Hid (∀ m,wgs n A (i+1)=b4∧∃ k,w1.drewN m=w.drewN k):=fun m=>by
       refine ⟨?_,k+m,by rw [hk];exact World.drewN_drewN _ _ _⟩;show (if wgs n A i<=2147483647 then _ else _)=_;rw [HA.out.1,if_pos hv,ho];unfold opW;rw [<- z1,<- z2,<- z3,hb2,hb3,hb1,hb4]
      have hnb:=(wgs_ok n A i (by rw [HA.out.1];exact hv)).1;have hvv:=HA.out.1;have Ab:=hid (And.intro hlt (zb0 (j:=i) (by omega)));clear hgl hR hk hri ho hs1 hs2 hs3 z1 z2 z3 hb1 hb2 hb3 hb4 n0 n1 n2 n3 HA hlt hi hnb hvv;(go_wp2_with fail);go_quiet (first|(go_at_call 6;first|with_reducible exact H1.out _|with_reducible exact H2.out _|with_reducible exact H3.out _|with_reducible exact H4.out _))
      go_wp2;go_roundw
      case rel=>exact ⟨i+1,b4,rfl,by first|rfl|(rw [Ab.out.2];rfl),Ab.out.1,HE.out _⟩
      case measure=>first|exact meas rfl hlt'|exact meas Ab.out.2 hlt'
    · have HE:Hid (wgs n A n=v∧∃ k,w1=w.drewN k):=by
       refine ⟨?_,HA.out.2⟩;(have:=wgs_stop (n:=n) (A:=A) (i:=i) (by rw [HA.out.1];omega) (n - i));rw [show i+(n - i)=n by omega,HA.out.1] at this;exact this
      have hgt:¬ v<=2147483647:=hv;clear HA HO hv hlt hi;go_wp2;go_ret;exact ⟨by rw [HE.out.1];rfl,HE.out.2⟩
  · have hge:¬ (i:Int)<(n:Int):=(by omega);have HE:Hid (wgs n A n=v∧∃ k,w1=w.drewN k):=by
     have e:i=n:=(by omega);have hA:=HA.out;rw [e] at hA;exact hA
    clear HA HO hlt hi;go_wp2;go_ret;exact ⟨by rw [HE.out.1];rfl,HE.out.2⟩
theorem Mk.below {T:Nat->Prop} {w w' : World} {K K' : Nat->Nat} {B:Nat} (m:Mk T w w' K K') (h0:¬ T 0) (hz:∀ b,b<B->K b=0) (hB:B<=w.heap.size):Below B w w':=⟨m.os,m.tape,m.output,m.size,fun b hb=>m.kept b (Nat.lt_of_lt_of_le hb hB) (by rw [hz b hb];exact h0)⟩
def nilS:Obj:=.cells #[.pointer none,.pointer none,.slice none 0 0] 52
def SP (K:Nat->Nat) (w:World) (B t s n:Nat):Prop:=TB K w (t+22) s nilS∨∃ p r c,SD K w B t s p r c n
def BN (K:Nat->Nat) (w:World) (B bb n:Nat):Prop:=∃ x y z,BK K w B bb x y z 0 0 0 0 0 0∧x.N+x.FL.length<=2*n∧y.N+y.FL.length<=n∧z.N+z.FL.length<=n
section
variable {K K' : Nat->Nat} {w w' : World} {B bb:Nat} {t s p r n:Nat} {c:Cf}
theorem SD.wk {U:Nat->Prop} (h:SD K w B t s p r c n) (m:Mk U w w' K K') (hz:∀ b,b<B->K b=0) (h0:¬ U 0) (hj:∀ j,j<=22->¬ U (t+j)):SD K' w' B t s p r c n:=by
 obtain ⟨next,now,L,M,D,q,T,h1,h2,h3,h4,h5⟩:=h;exact ⟨next,now,L,M,D,q,T,h1.wk m hz h0 hj,h2,h3,h4,h5⟩
theorem SD.more (h:SD K w B t s p r c n):SD K w B t s p r c (n+1):=by
 obtain ⟨next,now,L,M,D,q,T,h1,h2,h3,h4,h5⟩:=h;exact ⟨next,now,L,M,D,q,T,h1,by omega,by omega,by omega,by omega⟩
theorem SP.wk {U:Nat->Prop} (h:SP K w B t s n) (m:Mk U w w' K K') (hz:∀ b,b<B->K b=0) (h0:¬ U 0) (hj:∀ j,j<=22->¬ U (t+j)):SP K' w' B t s n:=by
 rcases h with h|⟨p,r,c,h⟩
 · exact .inl (h.wk m (hj 22 (by omega)))
 · exact .inr ⟨p,r,c,h.wk m hz h0 hj⟩
theorem SP.more (h:SP K w B t s n):SP K w B t s (n+1):=by
 rcases h with h|⟨p,r,c,h⟩
 · exact .inl h
 · exact .inr ⟨p,r,c,h.more⟩
theorem BN.more (h:BN K w B bb n):BN K w B bb (n+1):=by
 obtain ⟨x,y,z,h1,h2,h3,h4⟩:=h;exact ⟨x,y,z,h1,by omega,by omega,by omega⟩
theorem BN.hB (h:BN K w B bb n):B<=w.heap.size:=by
 obtain ⟨x,y,z,h1,_⟩:=h;exact h1.n.hB
theorem BN.still (h:BN K w B bb n) (hn:n<=33554432):Calls Tryz.prog 13 #[ptr bb] w fun e w'=>e=.returned (.bool true)∧Hid (∃ K',BN K' w' B bb n∧Mk (fun u=>300<=u) w w' K K'):=by
 obtain ⟨x,y,z,h1,h2,h3,h4⟩:=h;refine (h1.still_any (by omega) (by omega) (by omega)).mono ?_;rintro e w' ⟨rfl,hh⟩;obtain ⟨K',x',y',z',g1,⟨a1,a2⟩,⟨b1,b2⟩,⟨c1,c2⟩,m⟩:=hh.out;exact ⟨rfl,K',⟨x',y',z',g1,by rw [a1,a2];simpa using h2,by rw [b1,b2];simpa using h3,by rw [c1,c2];simpa using h4⟩,m⟩
theorem SD.does (h:SD K w B t s p r c n) (b:BN K w B bb n) (o:OpR) (hf:o.fits) (ht:t+60<299) (t0:0<t) (hz:∀ b,b<B->K b=0) (hn:n<=33554431) :
 Calls Tryz.prog 11 #[ptr s,.agg (opL o).toArray,ptr bb] w fun e w1=>e=.returned (.bool true)∧Hid (Calls Tryz.prog 12 #[ptr s,ptr bb] w1 fun e w2=>e=.returned (.bool true)∧Hid (∃ K2,SD K2 w2 B t s p r c (n+1)∧BN K2 w2 B bb (n+1)∧Mk (fun u=>(t<=u∧u<=t+22)∨299<=u) w w2 K K2)):=by
 obtain ⟨next,now,L,M,D,q,T,h1,h2,h3,h4,h5⟩:=h;obtain ⟨x,y,z,b1,b2,b3,b4⟩:=b;have hd:Calls Tryz.prog 11 #[ptr s,.agg (opL o).toArray,ptr bb] w fun e w'=>e=.returned (.bool true)∧Hid (zdv K w B t s p r c n bb x y z w'):=by
  by_cases k1:o.kind=1
  · exact h1.does_call b1 o hf k1 ht t0 hz hn h2 h3 h4 h5 (by omega) (by omega)
  by_cases k2:o.kind=2
  · exact h1.does_due b1 o hf k2 ht t0 hz hn h2 h3 h4 h5 (by omega) (by omega)
  by_cases k3:o.kind=3
  · exact h1.does_tick b1 o hf k3 ht t0 hz hn h2 h3 h4 h5 (by omega) (by omega)
  by_cases k4:o.kind=4
  · exact h1.does_hear b1 o hf k4 ht t0 hz hn h2 h3 h4 h5 (by omega) (by omega)
  by_cases k5:o.kind=5
  · exact h1.does_raw b1 o hf k5 ht t0 hz hn h2 h3 h4 h5 (by omega) (by omega)
  by_cases k6:o.kind=6
  · exact h1.does_done b1 o hf k6 ht t0 hz hn h2 h3 h4 h5 (by omega) (by omega)
  · exact h1.does_none b1 o hf (by omega) ht t0 hz hn h2 h3 h4 h5 (by omega) (by omega)
 refine hd.mono ?_;rintro e w1 ⟨rfl,hh⟩;refine ⟨rfl,?_⟩;obtain ⟨K1,y',z',⟨next',now',L',M',D',q',T',g1,g2,g3,g4,g5⟩,e1,⟨e2,e3⟩,⟨e4,e5⟩,m1⟩:=hh.out;have hz1:=m1.zero (by omega) b1.n.hB hz;refine (g1.looks_any e1 (by omega) t0 hz1 (by omega) (by omega)).mono ?_;rintro e w2 ⟨rfl,hh2⟩;obtain ⟨K2,x',f1,f2,f3,f4,m2⟩:=hh2.out;exact ⟨rfl,K2,⟨next',now',L',M',D',q',T',f1,g2,g3,g4,g5⟩,⟨x',y',z',f2,by omega,by omega,by omega⟩,m1.trans (m2.mono (fun u hu=>by omega))⟩
end
structure PS (W:World) (K:Nat->Nat) (w:World) (s1 s2 bb n:Nat):Prop where
 a:SP K w W.heap.size 100 s1 n
 b:SP K w W.heap.size 200 s2 n
 k:BN K w W.heap.size bb n
 z:∀ b,b<W.heap.size->K b=0
 be:Below W.heap.size W w
section
variable {W w:World} {K:Nat->Nat} {s1 s2 bb n:Nat}
theorem PS.more (h:PS W K w s1 s2 bb n):PS W K w s1 s2 bb (n+1):=⟨h.a.more,h.b.more,h.k.more,h.z,h.be⟩
theorem PS.still (h:PS W K w s1 s2 bb n) (hn:n<=33554432):Calls Tryz.prog 13 #[ptr bb] w fun e w'=>e=.returned (.bool true)∧Hid (∃ K',PS W K' w' s1 s2 bb n):=by
 have hB:=h.k.hB;refine (h.k.still hn).mono ?_;rintro e w' ⟨rfl,hh⟩;obtain ⟨K',k',m⟩:=hh.out;exact ⟨rfl,K',h.a.wk m h.z (by omega) (fun j hj=>by omega),h.b.wk m h.z (by omega) (fun j hj=>by omega),k',m.zero (by omega) hB h.z,h.be.trans (m.below (by omega) h.z hB)⟩
theorem PS.one (h:PS W K w s1 s2 bb n) {p r:Nat} {c:Cf} (hs:SD K w W.heap.size 100 s1 p r c n) (o:OpR) (hf:o.fits) (hn:n<=33554431) :
 Calls Tryz.prog 11 #[ptr s1,.agg (opL o).toArray,ptr bb] w fun e w1=>e=.returned (.bool true)∧Hid (Calls Tryz.prog 12 #[ptr s1,ptr bb] w1 fun e w2=>e=.returned (.bool true)∧Hid (∃ K2,PS W K2 w2 s1 s2 bb (n+1))):=by
 have hB:=h.k.hB;refine (hs.does h.k o hf (by omega) (by omega) h.z hn).mono ?_;rintro e w1 ⟨rfl,hh⟩;refine ⟨rfl,hh.out.mono ?_⟩;rintro e w2 ⟨rfl,hh2⟩;obtain ⟨K2,a',k',m⟩:=hh2.out;exact ⟨rfl,K2,.inr ⟨p,r,c,a'⟩,(h.b.wk m h.z (by omega) (fun j hj=>by omega)).more,k',m.zero (by omega) hB h.z,h.be.trans (m.below (by omega) h.z hB)⟩
theorem PS.two (h:PS W K w s1 s2 bb n) {p r:Nat} {c:Cf} (hs:SD K w W.heap.size 200 s2 p r c n) (o:OpR) (hf:o.fits) (hn:n<=33554431) :
 Calls Tryz.prog 11 #[ptr s2,.agg (opL o).toArray,ptr bb] w fun e w1=>e=.returned (.bool true)∧Hid (Calls Tryz.prog 12 #[ptr s2,ptr bb] w1 fun e w2=>e=.returned (.bool true)∧Hid (∃ K2,PS W K2 w2 s1 s2 bb (n+1))):=by
 have hB:=h.k.hB;refine (hs.does h.k o hf (by omega) (by omega) h.z hn).mono ?_;rintro e w1 ⟨rfl,hh⟩;refine ⟨rfl,hh.out.mono ?_⟩;rintro e w2 ⟨rfl,hh2⟩;obtain ⟨K2,a',k',m⟩:=hh2.out;exact ⟨rfl,K2,(h.a.wk m h.z (by omega) (fun j hj=>by omega)).more,.inr ⟨p,r,c,a'⟩,k',m.zero (by omega) hB h.z,h.be.trans (m.below (by omega) h.z hB)⟩
theorem SP.cell {B t s:Nat} (h:SP K w B t s n):w.cell? ⟨s,1,none⟩=some (.pointer none)∨∃ p r c,SD K w B t s p r c n∧w.cell? ⟨s,1,none⟩=some (ptr r):=by
 rcases h with h|⟨p,r,c,h⟩
 · exact .inl (zaa h.at_ rfl)
 · refine .inr ⟨p,r,c,h,?_⟩;obtain ⟨_,_,_,_,_,_,_,h1,_⟩:=h;obtain ⟨vt,sb,_⟩:=h1.me;exact zaa sb.at_ rfl
theorem zdr.sp {w w' : World} {c:Cf} {s B t:Nat} {K:Nat->Nat} (h:zdr w w' c s) (be:Below w.heap.size w w') (hB:B<=w.heap.size) (hK:∀ b,b<B->K b<t) (b1:1<B) (hT:ErrT w):∃ K',SP K' w' B t s 0∧Mv (fun _=>False) w w' K K':=by
 by_cases hok:okC c=true
 · have hc:c.first<=4294967296:=by
    have h1:=hok;unfold okC at h1;simp only [Bool.and_eq_true,decide_eq_true_eq,inB] at h1;omega
   obtain ⟨K',p,r,q,h1,m⟩:=h.side hok be hB hK b1 hT;exact ⟨K',.inr ⟨p,r,c,c.first,0,[],[],[],q,[],h1,by simp,by simpa using hc,by simp,by simp⟩,m⟩
 · rcases h with ⟨_,hs,h2⟩|⟨h1,_⟩
   · exact ⟨ext w K (fun _=>t+22),.inl ⟨h2,za2 hs⟩,Mv.of_below be K _⟩
   · exact absurd h1 hok
end
end Go.Proofs.YtfcbjcebkahehaaGreatDoor.Cl
