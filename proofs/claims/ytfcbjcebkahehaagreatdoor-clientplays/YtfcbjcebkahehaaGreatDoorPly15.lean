import Derived.Test.YtfcbjcebkahehaaGreatDoorPly09
import Derived.Test.YtfcbjcebkahehaaGreatDoorPly06
import Derived.Test.YtfcbjcebkahehaaGreatDoorPly14
import Derived.Test.YtfcbjcebkahehaaGreatDoorPly10
import Derived.Test.YtfcbjcebkahehaaGreatDoorPly11
import Derived.Test.YtfcbjcebkahehaaGreatDoorPly04
set_option maxRecDepth 8000
set_option maxHeartbeats 20000000
set_option linter.unusedSimpArgs false
namespace Go.Proofs.YtfcbjcebkahehaaGreatDoor.Cl
open Go.RowKit
section
variable {K K' : Nat->Nat} {w w' : World} {B t p:Nat} {c:Cf} {oa:Option Addr} {cap:Nat} {next now:Int} {L:List Dw} {D:List Oc} {vw vd:Value} {q:Mq}
theorem DC.call_bad (p:Nat) (dst prog vers proc:Int) (s:ByteArray) (w:World) (hb:zh9 dst prog vers proc=false) :
 Calls Tryz.prog 28 #[ptr p,iI dst,iI prog,iI vers,iI proc,.string s] w fun e w'=>e=.returned (.tuple #[iI 0,iI 1])∧w'=w:=by
 obtain ⟨b1,hb1⟩:∃ b,inB prog 0 4294967295=b:=⟨_,rfl⟩;obtain ⟨b2,hb2⟩:∃ b,inB vers 0 4294967295=b:=⟨_,rfl⟩;obtain ⟨b3,hb3⟩:∃ b,inB proc 0 4294967295=b:=⟨_,rfl⟩;have H1:Hid (∀ w,Calls Tryz.prog 61 #[iI prog] w fun e w'=>e=.returned (.bool b1)∧w'=w):=fun w=>by rw [<- hb1];exact zbs _ w
 have H2:Hid (∀ w,Calls Tryz.prog 61 #[iI vers] w fun e w'=>e=.returned (.bool b2)∧w'=w):=fun w=>by rw [<- hb2];exact zbs _ w
 have H3:Hid (∀ w,Calls Tryz.prog 61 #[iI proc] w fun e w'=>e=.returned (.bool b3)∧w'=w):=fun w=>by rw [<- hb3];exact zbs _ w
 unfold zh9 at hb;rw [hb1,hb2,hb3] at hb;have HB:=hid hb;clear hb hb1 hb2 hb3;cases b1
 · clear HB;go_enter Tryz.func28,Tryz.ntmps28
   go_wp2_with fail
   refine (H1.out _).mono ?_;rintro _ v1 ⟨rfl,hv1⟩;rw [hv1];clear hv1 v1;go_wp2_with fail
   refine (H2.out _).mono ?_;rintro _ v2 ⟨rfl,hv2⟩;rw [hv2];clear hv2 v2;go_wp2_with fail
   refine (H3.out _).mono ?_;rintro _ v3 ⟨rfl,hv3⟩;rw [hv3];clear hv3 v3;go_wp2;go_ret2
   exact ⟨rfl,rfl⟩
 cases b2
 · clear HB;go_enter Tryz.func28,Tryz.ntmps28
   go_wp2_with fail
   refine (H1.out _).mono ?_;rintro _ v1 ⟨rfl,hv1⟩;rw [hv1];clear hv1 v1;go_wp2_with fail
   refine (H2.out _).mono ?_;rintro _ v2 ⟨rfl,hv2⟩;rw [hv2];clear hv2 v2;go_wp2_with fail
   refine (H3.out _).mono ?_;rintro _ v3 ⟨rfl,hv3⟩;rw [hv3];clear hv3 v3;go_wp2;go_ret2
   exact ⟨rfl,rfl⟩
 cases b3
 · clear HB;go_enter Tryz.func28,Tryz.ntmps28
   go_wp2_with fail
   refine (H1.out _).mono ?_;rintro _ v1 ⟨rfl,hv1⟩;rw [hv1];clear hv1 v1;go_wp2_with fail
   refine (H2.out _).mono ?_;rintro _ v2 ⟨rfl,hv2⟩;rw [hv2];clear hv2 v2;go_wp2_with fail
   refine (H3.out _).mono ?_;rintro _ v3 ⟨rfl,hv3⟩;rw [hv3];clear hv3 v3;go_wp2;go_ret2
   exact ⟨rfl,rfl⟩
 have hd:inB dst 1 16777215=false:=by have:=HB.out;simpa using this
 clear HB;rw [inB_is] at hd;cases d1:decide (dst<1)
 · have d2:decide (16777215<dst)=true:=by rw [d1] at hd;simpa using hd
   clear hd;go_enter Tryz.func28,Tryz.ntmps28
   go_wp2_with fail
   refine (H1.out _).mono ?_;rintro _ v1 ⟨rfl,hv1⟩;rw [hv1];clear hv1 v1;go_wp2_with fail
   refine (H2.out _).mono ?_;rintro _ v2 ⟨rfl,hv2⟩;rw [hv2];clear hv2 v2;go_wp2_with fail
   refine (H3.out _).mono ?_;rintro _ v3 ⟨rfl,hv3⟩;rw [hv3];clear hv3 v3;go_wp2;go_ret2
   exact ⟨rfl,rfl⟩
 · clear hd;go_enter Tryz.func28,Tryz.ntmps28
   go_wp2_with fail
   refine (H1.out _).mono ?_;rintro _ v1 ⟨rfl,hv1⟩;rw [hv1];clear hv1 v1;go_wp2_with fail
   refine (H2.out _).mono ?_;rintro _ v2 ⟨rfl,hv2⟩;rw [hv2];clear hv2 v2;go_wp2_with fail
   refine (H3.out _).mono ?_;rintro _ v3 ⟨rfl,hv3⟩;rw [hv3];clear hv3 v3;go_wp2;go_ret2
   exact ⟨rfl,rfl⟩
theorem DC.call_no (h:DC K w B t p c oa cap next now L D vw vd q) (dst prog vers proc:Int) (s:ByteArray) (r:Int) (hx:-1000000000000<=next∧next<=1000000000000) (hy:-1000000000000<=zbl next L∧zbl next L<=1000000000000) (hr:refP c.win next (zbl next L) dst prog vers proc s.size=r) (hr0:r≠0) :
 Calls Tryz.prog 28 #[ptr p,iI dst,iI prog,iI vers,iI proc,.string s] w fun e w'=>e=.returned (.tuple #[iI 0,iI r])∧∃ k,w'=w.drewN k:=by
 unfold refP at hr;cases hb:zh9 dst prog vers proc
 · rw [hb] at hr;have:r=1:=by rw [<- hr];rfl
   subst this;exact (DC.call_bad p dst prog vers proc s w hb).mono fun e w' ⟨h1,h2⟩=>⟨h1,0,h2⟩
 rw [hb,if_pos rfl] at hr;unfold zh9 at hb;simp only [Bool.and_eq_true] at hb;obtain ⟨hb0,hb1,hb2,hb3⟩:=hb;have H1:Hid (∀ w,Calls Tryz.prog 61 #[iI prog] w fun e w'=>e=.returned (.bool true)∧w'=w):=fun w=>by rw [<- hb1];exact zbs _ w
 have H2:Hid (∀ w,Calls Tryz.prog 61 #[iI vers] w fun e w'=>e=.returned (.bool true)∧w'=w):=fun w=>by rw [<- hb2];exact zbs _ w
 have H3:Hid (∀ w,Calls Tryz.prog 61 #[iI proc] w fun e w'=>e=.returned (.bool true)∧w'=w):=fun w=>by rw [<- hb3];exact zbs _ w
 have d1:decide (dst<1)=false:=by unfold inB at hb0;simp at hb0 ⊢;omega
 have d2:decide (16777215<dst)=false:=by unfold inB at hb0;simp at hb0 ⊢;omega
 obtain ⟨n,hn⟩:∃ n,s.size=n:=⟨_,rfl⟩;rw [hn] at hr;obtain ⟨m4,hm4⟩:∃ m,n % 4=m:=⟨_,rfl⟩;have hr4:Int.tmod (n:Int) 4=(m4:Int):=by rw [<- hm4];exact (Int.ofNat_tmod n 4)
 rw [hm4] at hr;have c3:w.cell? ⟨p,3,none⟩=some (iI c.win):=h.ce rfl;have c13:w.cell? ⟨p,13,none⟩=some (iI next):=h.ce rfl;obtain ⟨wa,hwa⟩:∃ wa,zbl next L=wa:=⟨_,rfl⟩;have HW:Hid (∀ i,Calls Tryz.prog 39 #[ptr p] (w.drewN i) fun e w'=>e=.returned (iI wa)∧w'=w.drewN i):=fun i=>by rw [<- hwa];exact (h.to (zak w K i) (fun _ e=>e.elim)).water_any
 rw [hwa] at hr hy;have hsub:wrap64 (next - wa)=next - wa:=by unfold wrap64;omega
 have hsub2:IntKind.i64.wrap (next - wa)=next - wa:=by rw [IntWalk.i64_left];exact hsub
 obtain ⟨df,hdf⟩:∃ df,next - wa=df:=⟨_,rfl⟩;rw [hdf] at hsub hsub2 hr;have Aa:Hid (∃ k,w=w.drewN k):=⟨0,rfl⟩;clear h hb0 hb1 hb2 hb3 hwa hx hy;by_cases h1:1000<n
 · have e1:decide ((1000:Int)<(n:Int))=true:=by simp;omega
   rw [if_pos (.inl h1)] at hr;subst hr;clear h1 hm4;go_enter Tryz.func28,Tryz.ntmps28
   go_wp2_with fail
   refine (H1.out _).mono ?_;rintro _ v1 ⟨rfl,hv1⟩;rw [hv1];clear hv1 v1;go_wp2_with fail
   refine (H2.out _).mono ?_;rintro _ v2 ⟨rfl,hv2⟩;rw [hv2];clear hv2 v2;go_wp2_with fail
   refine (H3.out _).mono ?_;rintro _ v3 ⟨rfl,hv3⟩;rw [hv3];clear hv3 v3;go_wp2;go_ret2
   exact ⟨rfl,Aa.out⟩
 have e1:decide ((1000:Int)<(n:Int))=false:=by simp;omega
 by_cases h2:m4≠0
 · have e2:((m4:Int) != 0)=true:=by rw [bne_iff_ne];omega
   rw [if_pos (.inr h2)] at hr;subst hr;clear h1 hm4 h2;go_enter Tryz.func28,Tryz.ntmps28
   go_wp2_with fail
   refine (H1.out _).mono ?_;rintro _ v1 ⟨rfl,hv1⟩;rw [hv1];clear hv1 v1;go_wp2_with fail
   refine (H2.out _).mono ?_;rintro _ v2 ⟨rfl,hv2⟩;rw [hv2];clear hv2 v2;go_wp2_with fail
   refine (H3.out _).mono ?_;rintro _ v3 ⟨rfl,hv3⟩;rw [hv3];clear hv3 v3;go_wp2;go_ret2
   exact ⟨rfl,Aa.out⟩
 have e2:((m4:Int) != 0)=false:=by have:m4=0:=Classical.byContradiction h2;subst this;rfl
 rw [if_neg (fun o=>o.elim h1 h2)] at hr;by_cases h3:c.win<=df
 · rw [if_pos h3] at hr;subst hr;clear h1 h2 hm4;go_enter Tryz.func28,Tryz.ntmps28
   go_wp2_with fail
   refine (H1.out _).mono ?_;rintro _ v1 ⟨rfl,hv1⟩;rw [hv1];clear hv1 v1;go_wp2_with fail
   refine (H2.out _).mono ?_;rintro _ v2 ⟨rfl,hv2⟩;rw [hv2];clear hv2 v2;go_wp2_with fail
   refine (H3.out _).mono ?_;rintro _ v3 ⟨rfl,hv3⟩;rw [hv3];clear hv3 v3;go_wp2_with fail
   go_quiet ((go_at_call 39;exact Calls.quiet_of_same (HW.out _)))
   go_wp2;go_ret2
   exact ⟨rfl,_,rfl⟩
 · rw [if_neg h3] at hr;have h4:4294967295<next:=by
    rcases Int.lt_or_le 4294967295 next with k|k
    · exact k
    · rw [if_neg (by omega)] at hr;exact absurd hr.symm hr0
   rw [if_pos h4] at hr;subst hr;clear h1 h2 hm4;go_enter Tryz.func28,Tryz.ntmps28
   go_wp2_with fail
   refine (H1.out _).mono ?_;rintro _ v1 ⟨rfl,hv1⟩;rw [hv1];clear hv1 v1;go_wp2_with fail
   refine (H2.out _).mono ?_;rintro _ v2 ⟨rfl,hv2⟩;rw [hv2];clear hv2 v2;go_wp2_with fail
   refine (H3.out _).mono ?_;rintro _ v3 ⟨rfl,hv3⟩;rw [hv3];clear hv3 v3;go_wp2_with fail
   go_quiet ((go_at_call 39;exact Calls.quiet_of_same (HW.out _)))
   go_wp2;go_ret2
   exact ⟨rfl,_,rfl⟩
end
end Go.Proofs.YtfcbjcebkahehaaGreatDoor.Cl
namespace Go.Proofs.YtfcbjcebkahehaaGreatDoor.Cl
set_option linter.unusedSimpArgs false
open Go.RowKit
theorem dbld108 (v0 v2 v3 v4:Int) (s:ByteArray) (w:World):(Instr.build 108 #[(0,iI v0),(1,iI 2),(2,iI v2),(3,iI v3),(4,iI v4),(7,.string s)]).run Tryz.prog w=.ok (.agg #[iI v0,iI 2,iI v2,iI v3,iI v4,iI 0,.string ⟨#[]⟩,iI 0,.string ⟨#[]⟩,.string s]) w:=by kernel_rfl
theorem bld126 (v0 v2 v3 v4 v10 v11:Int) (s:ByteArray) (w:World):(Instr.build 126 #[(0,.agg #[iI v0,iI 2,iI v2,iI v3,iI v4,iI 0,.string ⟨#[]⟩,iI 0,.string ⟨#[]⟩,.string s]),(1,iI v10),(2,iI v11)]).run Tryz.prog w=.ok (.agg #[iI v0,iI 2,iI v2,iI v3,iI v4,iI 0,.string ⟨#[]⟩,iI 0,.string ⟨#[]⟩,.string s,iI v10,iI v11,iI 0,iI 0,iI 0]) w:=by kernel_rfl
theorem bls121 (v0 v2 v3 v4 v10 v11:Int) (s:ByteArray) (w:World):(Instr.buildSlice 121 1 #[(0,.agg #[iI v0,iI 2,iI v2,iI v3,iI v4,iI 0,.string ⟨#[]⟩,iI 0,.string ⟨#[]⟩,.string s,iI v10,iI v11,iI 0,iI 0,iI 0])]).run Tryz.prog w=.ok (.slice (some ⟨w.heap.size,0,none⟩) 1 1) (w.alloc (.cells #[iI v0,iI 2,iI v2,iI v3,iI v4,iI 0,.string ⟨#[]⟩,iI 0,.string ⟨#[]⟩,.string s,iI v10,iI v11,iI 0,iI 0,iI 0] 126)):=by kernel_rfl
section
variable {K K' : Nat->Nat} {w w' : World} {B t p:Nat} {c:Cf} {oa:Option Addr} {cap:Nat} {next now:Int} {L:List Dw} {D:List Oc} {vw vd:Value} {q:Mq}
theorem DC.call_any (h:DC K w B t p c oa cap next now L D vw vd q) (dst prog vers proc:Int) (args:List UInt8) (hx:-1000000000000<=next∧next<=1000000000000) (hy:-1000000000000<=zbl next L∧zbl next L<=1000000000000) (hr:refP c.win next (zbl next L) dst prog vers proc args.length=0) (hL:L.length<=100000000) :
 Calls Tryz.prog 28 #[ptr p,iI dst,iI prog,iI vers,iI proc,.string ⟨args.toArray⟩] w fun e w'=>e=.returned (.tuple #[iI next,iI 0])∧Hid (∃ K' vw' vd',DC K' w' B t p c oa cap (next+1) now (L++[⟨next,prog,vers,proc,args,dst,now,0,0,0⟩]) D vw' vd' q∧Mv (fun u=>u=t∨u=t+1) w w' K K'):=by
 obtain ⟨X,hX⟩:∃ X:Dw,X=⟨next,prog,vers,proc,args,dst,now,0,0,0⟩:=⟨_,rfl⟩;obtain ⟨s,hs⟩:∃ s:ByteArray,(⟨args.toArray⟩:ByteArray)=s:=⟨_,rfl⟩;have hsz:s.size=args.length:=by rw [<- hs];simp [ByteArray.size]
 have hXC:(dwC X).toArray=#[iI next,iI 2,iI prog,iI vers,iI proc,iI 0,.string ⟨#[]⟩,iI 0,.string ⟨#[]⟩,.string s,iI dst,iI now,iI 0,iI 0,iI 0]:=by rw [hX,<- hs];rfl
 rw [<- hX,hs];unfold refP at hr;cases hb:zh9 dst prog vers proc
 · rw [hb] at hr;simp at hr
 rw [hb,if_pos rfl] at hr;unfold zh9 at hb;simp only [Bool.and_eq_true] at hb;obtain ⟨hb0,hb1,hb2,hb3⟩:=hb;have H1:Hid (∀ w,Calls Tryz.prog 61 #[iI prog] w fun e w'=>e=.returned (.bool true)∧w'=w):=fun w=>by rw [<- hb1];exact zbs _ w
 have H2:Hid (∀ w,Calls Tryz.prog 61 #[iI vers] w fun e w'=>e=.returned (.bool true)∧w'=w):=fun w=>by rw [<- hb2];exact zbs _ w
 have H3:Hid (∀ w,Calls Tryz.prog 61 #[iI proc] w fun e w'=>e=.returned (.bool true)∧w'=w):=fun w=>by rw [<- hb3];exact zbs _ w
 have d1:decide (dst<1)=false:=by unfold inB at hb0;simp at hb0 ⊢;omega
 have d2:decide (16777215<dst)=false:=by unfold inB at hb0;simp at hb0 ⊢;omega
 obtain ⟨n,hn⟩:∃ n,s.size=n:=⟨_,rfl⟩;rw [<- hsz,hn] at hr;obtain ⟨m4,hm4⟩:∃ m,n % 4=m:=⟨_,rfl⟩;have hr4:Int.tmod (n:Int) 4=(m4:Int):=by rw [<- hm4];exact (Int.ofNat_tmod n 4)
 rw [hm4] at hr;have c3:w.cell? ⟨p,3,none⟩=some (iI c.win):=h.ce rfl;obtain ⟨wa,hwa⟩:∃ wa,zbl next L=wa:=⟨_,rfl⟩;have HW:Hid (∀ i,Calls Tryz.prog 39 #[ptr p] (w.drewN i) fun e w'=>e=.returned (iI wa)∧w'=w.drewN i):=fun i=>by rw [<- hwa];exact (h.to (zak w K i) (fun _ e=>e.elim)).water_any
 rw [hwa] at hr hy;have hsub:wrap64 (next - wa)=next - wa:=by unfold wrap64;omega
 have hsub2:IntKind.i64.wrap (next - wa)=next - wa:=by rw [IntWalk.i64_left];exact hsub
 have hnx:wrap64 (next+1)=next+1:=by unfold wrap64;omega
 obtain ⟨df,hdf⟩:∃ df,next - wa=df:=⟨_,rfl⟩;rw [hdf] at hsub hsub2 hr;have h1:¬ 1000<n:=fun e=>by rw [if_pos (.inl e)] at hr;omega
 have h2:m4=0:=Classical.byContradiction fun e=>by rw [if_pos (.inr e)] at hr;omega
 have e1:decide ((1000:Int)<(n:Int))=false:=by simp;omega
 have e2:((m4:Int) != 0)=false:=by subst h2;rfl
 rw [if_neg (by omega)] at hr;have h3:¬ c.win<=df:=fun e=>by rw [if_pos e] at hr;omega
 rw [if_neg h3] at hr;have h4:¬ 4294967295<next:=fun e=>by rw [if_pos e] at hr;omega
 have HH:=hid h;have Aa:=hid hL;have Ab:=hid hXC;have c13:w.cell? ⟨p,13,none⟩=some (iI next):=h.ce rfl;have HT:Hid (∀ wq kq,w.drewN kq=wq->∃ w1,wq.setCell ⟨p,13,none⟩ (iI (next+1))=w1∧wq.cell? ⟨p,13,none⟩=some (iI next)∧wq.frozen? ⟨p,13,none⟩=false∧∃ o14 c14 l14,(w1.drew.cell? ⟨p,14,none⟩=some (.slice o14 l14 c14)∧w1.drew.cell? ⟨p,12,none⟩=some (iI now))∧∃ N4 w4 oe ce w5 w6,w1.drew.heap.size=N4∧w1.drew.alloc (.cells #[iI next,iI 2,iI prog,iI vers,iI proc,iI 0,.string ⟨#[]⟩,iI 0,.string ⟨#[]⟩,.string s,iI dst,iI now,iI 0,iI 0,iI 0] 126)=w4∧(w4.cell? ⟨p,14,none⟩=some (.slice o14 l14 c14)∧w4.cell? ⟨p,12,none⟩=some (iI now))∧Hid (∀ r,(Builtin.append_ #[121,121] r #[.slice o14 l14 c14,.slice (some ⟨N4,0,none⟩) 1 1]).run Tryz.prog w4=.ok (.slice oe (l14+1) ce) w5)∧(w5.cell? ⟨p,14,none⟩=some (.slice o14 l14 c14)∧w5.cell? ⟨p,12,none⟩=some (iI now))∧w5.frozen? ⟨p,14,none⟩=false∧w5.setCell ⟨p,14,none⟩ (.slice oe (l14+1) ce)=w6∧Hid (∃ K' vw' vd',DC K' w6 B t p c oa cap (next+1) now (L++[X]) D vw' vd' q∧Mv (fun u=>u=t∨u=t+1) w w6 K K')):=by
  intro wq kq hq;subst hq;have h:=HH.out.to (zak w K kq) (fun _ e=>e.elim);obtain ⟨P1,m1⟩:=h.next_ (next+1);obtain ⟨w1,hw1⟩:∃ y,(w.drewN kq).setCell ⟨p,13,none⟩ (iI (next+1))=y:=⟨_,rfl⟩;rw [hw1] at P1 m1;obtain ⟨o14,c14,e14,_,_⟩:=P1.wr.form;obtain ⟨l14,hl⟩:∃ l,L.length=l:=⟨_,rfl⟩;rw [hl] at e14;subst e14;obtain ⟨w4,hw4⟩:∃ y,w1.drew.alloc (.cells #[iI next,iI 2,iI prog,iI vers,iI proc,iI 0,.string ⟨#[]⟩,iI 0,.string ⟨#[]⟩,.string s,iI dst,iI now,iI 0,iI 0,iI 0] 126)=y:=⟨_,rfl⟩;obtain ⟨N4,hN4⟩:∃ y,w1.drew.heap.size=y:=⟨_,rfl⟩;have b4:Below w1.heap.size w1 w4:=by rw [<- hw4];exact (show Below w1.heap.size w1 w1.drew from ⟨rfl,rfl,rfl,Nat.le_refl _,fun _ _=>rfl⟩).alloc (Nat.le_refl _) _
  have k4:w4.heap[N4]?=some (.cells (dwC X).toArray 126):=by rw [Ab.out,<- hw4,<- hN4];exact (MapKept.heap_alloc w1.drew _).1
  have P4:=P1.below b4 (fun _=>t+7);have m4:=Mv.of_below b4 K (fun _=>t+7);generalize ext w1 K (fun _=>t+7)=K4 at P4 m4;obtain ⟨i,z,hi,hz,hs,hby,hzs⟩:=zh0;obtain ⟨v5,w5,K5,hr5,R5,m5⟩:=RW.app (ty:=121) zd6 hi hz hs hby hzs (by omega) dwL dwO P4.wr P4.hB (N:=N4) (x:=X) (cs:=(dwC X).toArray) rfl k4 (by have:=Aa.out;omega) (by have:=Aa.out;omega);obtain ⟨oe,ce,e5,_,_⟩:=R5.form;rw [List.length_append,hl] at e5;have cl5:=P4.cl.mv m5 (by omega);obtain ⟨P6,m6⟩:=P4.re m5 ⟨by omega,by omega,by omega⟩ R5 (P4.dn.mv m5 (by omega)) 14 v5 (zae cl5.at_ 14 _);refine ⟨w1,hw1,h.ce rfl,h.fz 13,o14,c14,l14,⟨zaa (w:=w1.drew) P1.cl.at_ rfl,zaa (w:=w1.drew) P1.cl.at_ rfl⟩,N4,w4,oe,ce,w5,_,hN4,hw4,⟨P4.ce rfl,P4.ce rfl⟩,?_,⟨zaa cl5.at_ rfl,zaa cl5.at_ rfl⟩,zab cl5.at_ 14,rfl,?_⟩
  · intro r;rw [show Value.slice oe (l14+1) ce=v5 from e5.symm];exact hr5 r
  · rw [show Value.slice oe (l14+1) ce=v5 from e5.symm];exact ⟨K5,_,_,P6,((zak w K kq).mono (fun _ e=>e.elim)).trans ((m1.mono (fun _ e=>.inl e)).trans ((m4.mono (fun _ e=>e.elim)).trans (m6.mono (fun _ e=>e.elim .inr .inl))))⟩
 have hb1':=fun v0 v2 v3 v4 s w=>dbld108 v0 v2 v3 v4 s w;have hb2':=fun v0 v2 v3 v4 v10 v11 s w=>bld126 v0 v2 v3 v4 v10 v11 s w;have hb3':=fun v0 v2 v3 v4 v10 v11 s w=>bls121 v0 v2 v3 v4 v10 v11 s w;clear h hL hb0 hb1 hb2 hb3 hwa hx hy hr hX hXC hs hsz HH Aa Ab h1 h2 hm4;go_enter Tryz.func28,Tryz.ntmps28
 go_wp2_with fail
 refine (H1.out _).mono ?_;rintro _ v1 ⟨rfl,hv1⟩;rw [hv1];clear hv1 v1;go_wp2_with fail
 refine (H2.out _).mono ?_;rintro _ v2 ⟨rfl,hv2⟩;rw [hv2];clear hv2 v2;go_wp2_with fail
 refine (H3.out _).mono ?_;rintro _ v3 ⟨rfl,hv3⟩;rw [hv3];clear hv3 v3;go_wp2_with fail
 go_quiet ((go_at_call 39;exact Calls.quiet_of_same (HW.out _)))
 rename_i nq;obtain ⟨wq,hwq⟩:∃ y,w.drewN nq=y:=⟨_,rfl⟩;obtain ⟨w1,hw1,y13,f13,o14,c14,l14,s1,N4,w4,oe,ce,w5,w6,hN4,hw4,s4,hr5,s5,f14,hw6,HE⟩:=HT.out wq _ hwq;clear HT HW H1 H2 H3 c3 c13;go_wp2_with fail
 refine zah (S:=fun w'=>w'.cell? ⟨p,14,none⟩=some (.slice o14 l14 c14)∧w'.cell? ⟨p,12,none⟩=some (iI now)) (n:=21) (by kernel_rfl) rfl (by kernel_rfl) (by kernel_rfl) ?_ (fun hHeld1=>?_)
 · exact s1
 refine tk 0 ?_ rfl ?_ ?_;rotate_left
 · (intro w hs;(try dsimp only at hs);go_simp;try with_reducible rfl)
 try simp only [gA,gB,gC,Act.put,gE,gF,gG]
 refine tk 1 ?_ rfl ?_ ?_;rotate_left
 · (intro w hs;(try dsimp only at hs);go_simp;try with_reducible rfl)
 try simp only [gA,gB,gC,Act.put,gE,gF,gG]
 refine tk 2 ?_ rfl ?_ ?_;rotate_left
 · (intro w hs;(try dsimp only at hs);go_simp;try with_reducible rfl)
 try simp only [gA,gB,gC,Act.put,gE,gF,gG]
 refine tk 3 ?_ rfl ?_ ?_;rotate_left
 · (intro w hs;(try dsimp only at hs);go_simp;try with_reducible rfl)
 try simp only [gA,gB,gC,Act.put,gE,gF,gG]
 refine tk 4 ?_ rfl ?_ ?_;rotate_left
 · (intro w hs;(try dsimp only at hs);go_simp;try with_reducible rfl)
 try simp only [gA,gB,gC,Act.put,gE,gF,gG]
 refine tk 5 ?_ rfl ?_ ?_;rotate_left
 · (intro w hs;(try dsimp only at hs);go_simp;try with_reducible rfl)
 try simp only [gA,gB,gC,Act.put,gE,gF,gG]
 refine tk 6 ?_ rfl ?_ ?_;rotate_left
 · (intro w hs;(try dsimp only at hs);go_simp;try with_reducible rfl)
 try simp only [gA,gB,gC,Act.put,gE,gF,gG]
 refine tk 7 ?_ rfl ?_ ?_;rotate_left
 · (intro w hs;(try dsimp only at hs);go_simp;try with_reducible rfl)
 try simp only [gA,gB,gC,Act.put,gE,gF,gG]
 refine tk 8 ?_ rfl ?_ ?_;rotate_left
 · (intro w hs;(try dsimp only at hs);go_simp;try with_reducible rfl)
 try simp only [gA,gB,gC,Act.put,gE,gF,gG]
 refine tk 9 ?_ rfl ?_ ?_;rotate_left
 · (intro w hs;(try dsimp only at hs);go_simp;try with_reducible rfl)
 try simp only [gA,gB,gC,Act.put,gE,gF,gG]
 refine tk 10 ?_ rfl ?_ ?_;rotate_left
 · (intro w hs;(try dsimp only at hs);go_simp;try with_reducible rfl)
 try simp only [gA,gB,gC,Act.put,gE,gF,gG]
 refine tk 11 ?_ rfl ?_ ?_;rotate_left
 · (intro w hs;(try dsimp only at hs);go_simp;try with_reducible rfl)
 try simp only [gA,gB,gC,Act.put,gE,gF,gG]
 refine tk 12 ?_ rfl ?_ ?_;rotate_left
 · (intro w hs;(try dsimp only at hs);go_simp;try with_reducible rfl)
 try simp only [gA,gB,gC,Act.put,gE,gF,gG]
 refine tk 13 ?_ rfl ?_ ?_;rotate_left
 · (intro w hs;(try dsimp only at hs);go_simp;try with_reducible rfl)
 try simp only [gA,gB,gC,Act.put,gE,gF,gG]
 refine tk 14 ?_ rfl ?_ ?_;rotate_left
 · (intro w hs;(try dsimp only at hs);go_simp;try with_reducible rfl)
 try simp only [gA,gB,gC,Act.put,gE,gF,gG]
 refine tk 15 ?_ rfl ?_ ?_;rotate_left
 · (intro w hs;(try dsimp only at hs);go_simp;try with_reducible rfl)
 try simp only [gA,gB,gC,Act.put,gE,gF,gG]
 refine tk 16 ?_ rfl ?_ ?_;rotate_left
 · (intro w hs;(try dsimp only at hs);go_simp;try with_reducible rfl)
 try simp only [gA,gB,gC,Act.put,gE,gF,gG]
 refine rd 17 rfl (fun KK hK=>?_);go_simp
 refine hK.out _ _ ?_ (fun hHeld4=>?_)
 · exact s4
 clear hK hHeld1;try simp only [gA,gB,gC,Act.put,gE,gF,gG]
 refine rd 18 rfl (fun KK hK=>?_);refine zbk rfl (.tmp 84) (.tmp 97) 121 rfl (.slice o14 l14 c14) (.slice (some ⟨N4,0,none⟩) 1 1) _ _ (by go_simp) (by go_simp) (hr5.out _) ?_;refine hK.out _ _ ?_ (fun hHeld5=>?_)
 · exact s5
 clear hK hHeld4;try simp only [gA,gB,gC,Act.put,gE,gF,gG]
 refine tk 19 ?_ rfl ?_ ?_;rotate_left
 · (intro w hs;(try dsimp only at hs);go_simp;try with_reducible rfl)
 try simp only [gA,gB,gC,Act.put,gE,gF,gG]
 refine tk 20 ?_ rfl ?_ ?_;rotate_left
 · (intro w hs;(try dsimp only at hs);go_simp;try with_reducible rfl)
 try simp only [gA,gB,gC,Act.put,gE,gF,gG]
 refine wpAnyH_done (by kernel_rfl) ?_ _;refine zbx.done ?_;refine wpOp_step (i:=21) rfl (fun KK hK=>?_);have HK:=hid hK;clear hK;go_simp
 refine HK.out _ _ ?_;clear HK;clear hHeld5 s1 s4 s5;go_wp2;go_ret2
 exact ⟨rfl,HE⟩
end
end Go.Proofs.YtfcbjcebkahehaaGreatDoor.Cl
namespace Go.Proofs.YtfcbjcebkahehaaGreatDoor.Cl
open Go.RowKit
structure Pair (c:Cf) (now:Int) (x:Wt) (y:Dw):Prop where
 seq:x.seq=y.seq
 prog:x.prog=y.prog
 vers:x.vers=y.vers
 proc:x.proc=y.proc
 args:x.args=y.args
 dst:x.dst=y.dst
 snd:x.snd=y.don
 don0:0<=y.don
 don1:y.don<=c.pt
 due:x.due=y.iss+Pc.totP c.pb c.pc c.pt y.don.toNat
 fin:x.fin=y.iss+Pc.totalP c.pb c.pc c.pt
 tms:x.tms=y.giv
 last:x.last=y.last
 iss0:0<=y.iss
 iss:y.iss<=now
 ahead:∀ k:Nat,(k:Int)<y.don->y.iss+Pc.totP c.pb c.pc c.pt k<=now
 giv0:0<=y.giv
 giv1:y.giv<=y.don
 last0:0<=y.last
 last1:y.last<=now
 len:y.args.length<=1000
theorem Pair.later {c:Cf} {now now' : Int} {x:Wt} {y:Dw} (h:Pair c now x y) (hn:now<=now'):Pair c now' x y :=
 { h with iss:=Int.le_trans h.iss hn,ahead:=fun k hk=>Int.le_trans (h.ahead k hk) hn,last1:=Int.le_trans h.last1 hn }
theorem Pair.hit {c:Cf} {now:Int} {x:Wt} {y:Dw} (h:Pair c now x y) (n src:Int):hitW n src x=hitD n src y:=by unfold hitW hitD;rw [h.seq,h.dst]
theorem Pair.over {c:Cf} {now:Int} {x:Wt} {y:Dw} (h:Pair c now x y) (n:Int):zbq n x=zby c n y:=by unfold zbq zby;rw [h.fin]
theorem Pair.out {c:Cf} {now:Int} {x:Wt} {y:Dw} (h:Pair c now x y) (n:Int):tOut n x=dOut n y:=by unfold tOut dOut;rw [h.seq]
theorem Pair.data {c:Cf} {now:Int} {x:Wt} {y:Dw} (h:Pair c now x y) (water:Int):x.data c water=y.data c water:=by
 unfold Wt.data Dw.data Wt.reqC Dw.reqC Wt.mark;rw [h.seq,h.prog,h.vers,h.proc,h.args]
theorem dcnt_from {b c t now iss:Int} : ∀ (d k n:Nat),(∀ i:Nat,n<=i->i<n+d->(i:Int)<t∧iss+Pc.totP b c t i<=now)->dcnt b c t now iss (k+d) n=dcnt b c t now iss k (n+d)
 | 0,_,_,_=>rfl
 | d+1,k,n,h=>by
  rw [show k+(d+1)=(k+d)+1 by omega,zez (h n (Nat.le_refl _) (by omega)),dcnt_from d k (n+1) (fun i h1 h2=>h i (by omega) (by omega)),show n+1+d=n+(d+1) by omega]
theorem zgd {b c t now iss:Int} : ∀ (k n:Nat),t<=(n:Int)+(k:Int)->dcnt b c t now iss (k+1) n=dcnt b c t now iss k n
 | 0,n,h=>by
  rw [zcs (by omega),zcs (by omega)]
 | k+1,n,h=>by
  by_cases hg:(n:Int)<t∧iss+Pc.totP b c t n<=now
  · rw [zez hg,zez hg,zgd k (n+1) (by omega)]
  · rw [zcs hg,zcs hg]
theorem dcnt_more {b c t now iss:Int} (n:Nat):∀ (d k:Nat),t<=(n:Int)+(k:Int)->dcnt b c t now iss (k+d) n=dcnt b c t now iss k n
 | 0,_,_=>rfl
 | d+1,k,h=>by rw [show k+(d+1)=(k+d)+1 by omega,zgd (k+d) n (by omega),dcnt_more n d k h]
theorem runG_is {b c t now iss:Int} : ∀ (k n:Nat),runG b c t now k ((n:Int),iss+Pc.totP b c t n)=((dcnt b c t now iss k n:Int),iss+Pc.totP b c t (dcnt b c t now iss k n))
 | 0,_=>rfl
 | k+1,n=>by
  by_cases hg:(n:Int)<t∧iss+Pc.totP b c t n<=now
  · have hd:dueB t now (n:Int) (iss+Pc.totP b c t n)=true:=(by unfold dueB;simp [hg.1,hg.2]);rw [zez hg,runG_go hd,<- runG_is k (n+1)];congr 1
    show ((n:Int)+1,iss+Pc.totP b c t n+Pc.waitP b c t n)=(((n+1:Nat):Int),iss+(Pc.totP b c t n+Pc.waitP b c t n));rw [Int.add_assoc];rfl
  · have hd:dueB t now (n:Int) (iss+Pc.totP b c t n)=false:=by
     unfold dueB;by_cases h1:(n:Int)<t
     · have h2:¬ iss+Pc.totP b c t n<=now:=fun e=>hg ⟨h1,e⟩;simp [h2]
     · simp [h1]
    rw [zcs hg,runG_stop hd]
theorem Pair.count {c:Cf} {now:Int} {x:Wt} {y:Dw} (h:Pair c now x y) (hp:c.pt<=32):dueN c now y=dcnt c.pb c.pc c.pt now y.iss 40 y.don.toNat:=by
 have h0:=h.don0;have h1:=h.don1;obtain ⟨d,hd⟩:∃ d:Nat,y.don=d:=⟨y.don.toNat,by omega⟩;have e:y.don.toNat=d:=by omega
 unfold dueN;rw [e];have hd32:d<=32:=by omega
 have a:=dcnt_from (b:=c.pb) (c:=c.pc) (t:=c.pt) (now:=now) (iss:=y.iss) d (40 - d) 0 (fun i _ h2=>⟨by omega,h.ahead i (by omega)⟩);rw [Nat.zero_add,show 40 - d+d=40 by omega] at a;rw [a];have b:=dcnt_more (b:=c.pb) (c:=c.pc) (t:=c.pt) (now:=now) (iss:=y.iss) d d (40 - d) (by omega);rw [show 40 - d+d=40 by omega] at b;exact b.symm
theorem dcnt_ge {b c t now iss:Int} : ∀ (k n:Nat),n<=dcnt b c t now iss k n
 | 0,_=>Nat.le_refl _
 | k+1,n=>by
  unfold dcnt;split
  · exact Nat.le_trans (Nat.le_succ n) (dcnt_ge k (n+1))
  · exact Nat.le_refl _
theorem dcnt_le {b c t now iss:Int} : ∀ (k n:Nat),(n:Int)<=t->(dcnt b c t now iss k n:Int)<=t
 | 0,_,h=>h
 | k+1,n,h=>by
  unfold dcnt;split
  · rename_i hg;exact dcnt_le k (n+1) (by omega)
  · exact h
theorem zhb {b c t now iss:Int} : ∀ (k n:Nat) (i:Nat),n<=i->i<dcnt b c t now iss k n->iss+Pc.totP b c t i<=now
 | 0,n,i,h1,h2=>by unfold dcnt at h2;omega
 | k+1,n,i,h1,h2=>by
  unfold dcnt at h2;split at h2
  · rename_i hg;rcases Nat.eq_or_lt_of_le h1 with e|e
    · rw [<- e];exact hg.2
    · exact zhb k (n+1) i e h2
  · omega
theorem Pair.isDue {c:Cf} {now:Int} {x:Wt} {y:Dw} (h:Pair c now x y) (hp:c.pt<=32):dueW c now x=dueD c now y:=by
 have h0:=h.don0;obtain ⟨d,hd⟩:∃ d:Nat,y.don=d:=⟨y.don.toNat,by omega⟩;have e:y.don.toNat=d:=by omega
 have hc:=h.count hp;have hdu:=h.due;rw [e] at hc hdu;unfold dueW dueD;rw [h.snd,hdu,hc,hd];by_cases hg:(d:Int)<c.pt∧y.iss+Pc.totP c.pb c.pc c.pt d<=now
 · rw [zez hg];have g:=dcnt_ge (b:=c.pb) (c:=c.pc) (t:=c.pt) (now:=now) (iss:=y.iss) 39 (d+1);have hne:((dcnt c.pb c.pc c.pt now y.iss 39 (d+1):Nat):Int)≠(d:Int):=by omega
   unfold dueB;simp [hg.1,hg.2,hne]
 · rw [zcs hg];unfold dueB;by_cases h1:(d:Int)<c.pt
   · have h2:¬ y.iss+Pc.totP c.pb c.pc c.pt d<=now:=fun e=>hg ⟨h1,e⟩;simp [h2]
   · simp [h1]
theorem Pair.given {c:Cf} {now:Int} {x:Wt} {y:Dw} (h:Pair c now x y) (hp:c.pt<=32) (hdu' : dueD c now y=true):Pair c now (givW c now x) (givD c now y):=by
 have h0:=h.don0;obtain ⟨d,hd⟩:∃ d:Nat,y.don=d:=⟨y.don.toNat,by omega⟩;have e:y.don.toNat=d:=by omega
 have hc:=h.count hp;have hdu:=h.due;have h1:=h.don1;rw [e] at hc hdu;have hr:=runG_is (b:=c.pb) (c:=c.pc) (t:=c.pt) (now:=now) (iss:=y.iss) 40 d;have hs:(x.snd,x.due)=((d:Int),y.iss+Pc.totP c.pb c.pc c.pt d):=by rw [h.snd,hdu,hd]
 have e1:(givW c now x).snd=(dueN c now y:Int):=by unfold givW;rw [hs,hr,hc]
 have e2:(givW c now x).due=y.iss+Pc.totP c.pb c.pc c.pt (dueN c now y):=by unfold givW;rw [hs,hr,hc]
 refine ⟨h.seq,h.prog,h.vers,h.proc,h.args,h.dst,e1,?_,?_,e2,h.fin,by show x.tms+1=y.giv+1;rw [h.tms],rfl,h.iss0,h.iss,?_,?_,?_,?_,Int.le_refl _,h.len⟩
 · show (0:Int)<=(dueN c now y:Int);omega
 · show (dueN c now y:Int)<=c.pt;rw [hc];exact dcnt_le 40 d (by omega)
 · intro k hk;have hk' : (k:Int)<(dueN c now y:Int):=hk;rw [hc] at hk';rcases Nat.lt_or_ge k d with q|q
   · exact h.ahead k (by omega)
   · exact zhb 40 d k q (Int.ofNat_lt.1 hk')
 · show 0<=y.giv+1;have:=h.giv0;omega
 · show y.giv+1<=(dueN c now y:Int);have g:=dcnt_ge (b:=c.pb) (c:=c.pc) (t:=c.pt) (now:=now) (iss:=y.iss) 40 d;have hne:((dueN c now y:Nat):Int)≠y.don:=by
    unfold dueD at hdu';simpa using hdu'
   have hg1:=h.giv1;rw [hc] at hne ⊢;omega
 · show 0<=now;have:=h.last0;have:=h.last1;omega
inductive Pairs (c:Cf) (now:Int):List Wt->List Dw->Prop
 | nil:Pairs c now [] []
 | cons {x:Wt} {y:Dw} {L:List Wt} {M:List Dw} (h:Pair c now x y) (r:Pairs c now L M):Pairs c now (x::L) (y::M)
def Sorted:List Dw->Prop
 | []=>True
 | y::M=>(∀ z∈M,y.iss<=z.iss)∧Sorted M
section
variable {c:Cf} {now:Int} {L:List Wt} {M:List Dw}
theorem Pairs.len (h:Pairs c now L M):L.length=M.length:=by
 induction h with
 | nil=>rfl
 | cons _ _ ih=>simp [ih]
theorem Pairs.later {now' : Int} (h:Pairs c now L M) (hn:now<=now'):Pairs c now' L M:=by
 induction h with
 | nil=>exact .nil
 | cons p _ ih=>exact .cons (p.later hn) ih
theorem Pairs.snoc {x:Wt} {y:Dw} (h:Pairs c now L M) (p:Pair c now x y):Pairs c now (L++[x]) (M++[y]):=by
 induction h with
 | nil=>exact .cons p .nil
 | cons p' _ ih=>exact .cons p' ih
theorem Pairs.seqs (h:Pairs c now L M):L.map Wt.seq=M.map Dw.seq:=by
 induction h with
 | nil=>rfl
 | cons p _ ih=>simp [p.seq,ih]
theorem Pairs.water (h:Pairs c now L M) (next:Int):zaz next L=zbl next M:=by
 cases h with
 | nil=>rfl
 | cons p _=>exact p.seq
theorem Pairs.mem1 (h:Pairs c now L M):∀ x∈L,∃ y∈M,Pair c now x y:=by
 induction h with
 | nil=>intro x hx;cases hx
 | cons p _ ih =>
  intro x hx;rcases List.mem_cons.1 hx with e|e
  · subst e;exact ⟨_,by simp,p⟩
  · obtain ⟨y,hy,q⟩:=ih x e;exact ⟨y,by simp [hy],q⟩
theorem Pairs.mem2 (h:Pairs c now L M):∀ y∈M,∃ x∈L,Pair c now x y:=by
 induction h with
 | nil=>intro x hx;cases hx
 | cons p _ ih =>
  intro x hx;rcases List.mem_cons.1 hx with e|e
  · subst e;exact ⟨_,by simp,p⟩
  · obtain ⟨y,hy,q⟩:=ih x e;exact ⟨y,by simp [hy],q⟩
theorem Pairs.due (h:Pairs c now L M) (hp:c.pt<=32):Pairs c now (dueL c now L) (zcr c now M):=by
 induction h with
 | nil=>exact .nil
 | @cons x y L M p r ih =>
  have hd:=p.isDue hp;refine .cons ?_ ih;show Pair c now (if dueW c now x then givW c now x else x) (if dueD c now y then givD c now y else y);rw [hd];split
  · rename_i hh;exact p.given hp hh
  · exact p
theorem Pairs.packets (h:Pairs c now L M) (hp:c.pt<=32) (water:Int):pksL c water now L=zct c water now M:=by
 unfold pksL zct;induction h with
 | nil=>rfl
 | @cons x y L M p r ih =>
  have hd:=p.isDue hp;rw [List.filter_cons,List.filter_cons,hd];split
  · rw [List.map_cons,List.map_cons,ih,p.dst,p.data]
  · exact ih
theorem Pairs.tick (h:Pairs c now L M) (hs:Sorted M) (n:Int):(L.takeWhile (zbq n)).map (tOut n)=(M.filter (zby c n)).map (dOut n)∧Pairs c now (L.dropWhile (zbq n)) (M.filter fun y=>!zby c n y):=by
 induction h with
 | nil=>exact ⟨rfl,.nil⟩
 | @cons x y L M p r ih =>
  obtain ⟨h1,h2⟩:=hs;obtain ⟨i1,i2⟩:=ih h2;have ho:=p.over n;cases hd:zby c n y
  · rw [hd] at ho;have hall:∀ z∈M,zby c n z=false:=fun z hz=>by
     (have:=h1 z hz);unfold zby at hd ⊢;simp only [decide_eq_false_iff_not] at hd ⊢;omega
    have e1:M.filter (zby c n)=[]:=List.filter_eq_nil_iff.2 (fun z hz=>by rw [hall z hz];simp);have e2:(M.filter fun y=>!zby c n y)=M:=List.filter_eq_self.2 (fun z hz=>by rw [hall z hz];rfl);rw [List.takeWhile_cons_of_neg (by rw [ho];simp),List.dropWhile_cons_of_neg (by rw [ho];simp),List.filter_cons,hd,List.filter_cons,hd,e1,e2];exact ⟨rfl,.cons p r⟩
  · rw [hd] at ho;rw [List.takeWhile_cons_of_pos ho,List.dropWhile_cons_of_pos ho,List.filter_cons,hd,List.filter_cons,hd];refine ⟨?_,i2⟩;show tOut n x::_=dOut n y::_;rw [p.out n,i1]
theorem Pairs.split (h:Pairs c now L M) {A:List Wt} {x:Wt} {R:List Wt} (e:L=A++x::R):∃ A' y R',M=A'++y::R'∧Pairs c now A A'∧Pair c now x y∧Pairs c now R R':=by
 induction A generalizing L M with
 | nil =>
  subst e;cases h with
  | cons p r=>exact ⟨[],_,_,rfl,.nil,p,r⟩
 | cons a A ih =>
  subst e;cases h with
  | cons p r =>
   obtain ⟨A',y,R',e,q1,q2,q3⟩:=ih r rfl;exact ⟨_::A',y,R',by rw [e];rfl,.cons p q1,q2,q3⟩
theorem Pairs.app {A R:List Wt} {A' R' : List Dw} (h:Pairs c now A A') (k:Pairs c now R R'):Pairs c now (A++R) (A'++R'):=by
 induction h with
 | nil=>exact k
 | cons p _ ih=>exact .cons p ih
theorem Sorted.sub:∀ {A R:List Dw} {y:Dw},Sorted (A++y::R)->Sorted (A++R)
 | [],_,_,h=>h.2
 | a::A,R,y,h=>⟨fun z hz=>h.1 z (by simp at hz ⊢;exact hz.elim .inl (fun q=>.inr (.inr q))),Sorted.sub h.2⟩
theorem Sorted.filter {q:Dw->Bool} : ∀ {M:List Dw},Sorted M->Sorted (M.filter q)
 | [],_=>trivial
 | y::M,h=>by
  rw [List.filter_cons];split
  · exact ⟨fun z hz=>h.1 z (List.mem_filter.1 hz).1,Sorted.filter h.2⟩
  · exact Sorted.filter h.2
theorem Sorted.due (c:Cf) (now:Int):∀ {M:List Dw},Sorted M->Sorted (zcr c now M)
 | [],_=>trivial
 | y::M,h=>by
  have e:∀ z:Dw,(if dueD c now z then givD c now z else z).iss=z.iss:=fun z=>by split <;> rfl
  refine ⟨fun z hz=>?_,Sorted.due c now h.2⟩;obtain ⟨z',hz',rfl⟩:=List.mem_map.1 hz;rw [e,e];exact h.1 z' hz'
theorem Sorted.snoc {y:Dw} : ∀ {M:List Dw},Sorted M->(∀ z∈M,z.iss<=y.iss)->Sorted (M++[y])
 | [],_,_=>⟨fun z hz=>by simp at hz,trivial⟩
 | a::M,h,k=>⟨fun z hz=>by
  simp at hz
  rcases hz with e|e
  · exact h.1 z e
  · subst e;exact k a (by simp),Sorted.snoc h.2 (fun z hz=>k z (by simp [hz]))⟩
end
theorem Pair.fresh {c:Cf} {now next fin:Int} {x:Wt} {dst prog vers proc:Int} {args:List UInt8} (hx:x.isNew dst prog vers proc args now fin next) (hf:fin=now+Pc.totalP c.pb c.pc c.pt) (hp:0<=c.pt) (hn:0<=now) (hl:args.length<=1000):Pair c now x ⟨next,prog,vers,proc,args,dst,now,0,0,0⟩:=by
 obtain ⟨e1,e2,e3,e4,e5,e6,e7,e8,e9,e10,e11⟩:=hx;refine ⟨e11,e2,e3,e4,e5,e1,e6,Int.le_refl _,hp,?_,by rw [e8,hf],e9,e10,hn,Int.le_refl _,?_,Int.le_refl _,Int.le_refl _,Int.le_refl _,hn,hl⟩
 · rw [e7];show now=now+Pc.totP c.pb c.pc c.pt 0;rw [show Pc.totP c.pb c.pc c.pt 0=0 from rfl];omega
 · intro k hk;have hk' : (k:Int)<0:=hk;omega
theorem fields78:Tryz.prog.underlying 78=some (.struct (Tryz.prog.fieldsOf 78)):=by kernel_rfl
theorem stood78:Tryz.prog.stoodInHeld 78=false:=by kernel_rfl
theorem guard78:Tryz.prog.eqGuardType Tryz.prog.depth 78=false:=by kernel_rfl
theorem fieldsOf78:(Tryz.prog.fieldsOf 78).toList=[⟨"From",3,0,false,"","",0⟩,⟨"To",3,1,false,"","",8⟩,⟨"Data",9,2,false,"","",16⟩]:=by kernel_rfl
theorem ek78 (w:World) (x:Pk):(Op.equalIn 10000 78 (.agg (pkC x).toArray) (.agg (pkC x).toArray)).run Tryz.prog w=.ok true w:=by
 rw [run_equalIn_struct w 9999 _ _ _ fields78 stood78,fieldsOf78]
 have n0 : "From"≠ "_" := by decide
 have n1 : "To"≠ "_" := by decide
 have n2 : "Data"≠ "_" := by decide
 simp only [Op.eqFields,if_pos n0,if_pos n1,if_pos n2,Sem.run_bind];have p0:∀ w,(part 3 (pkC x).toArray 0).run Tryz.prog w=.ok (.int .i64 x.src) w:=fun w=>zfb w _ 0 _ rfl;simp only [p0,Result.andThen_ok];rw [ekI];simp only [Result.andThen_ok,Bool.not_true,Bool.false_eq_true,if_false,Sem.run_bind];have p1:∀ w,(part 3 (pkC x).toArray 1).run Tryz.prog w=.ok (.int .i64 x.dst) w:=fun w=>zfb w _ 1 _ rfl;simp only [p1,Result.andThen_ok];rw [ekI];simp only [Result.andThen_ok,Bool.not_true,Bool.false_eq_true,if_false,Sem.run_bind];have p2:∀ w,(part 9 (pkC x).toArray 2).run Tryz.prog w=.ok (.string ⟨x.data.toArray⟩) w:=fun w=>partS w _ 2 _ rfl;simp only [p2,Result.andThen_ok];rw [ekS];rfl
theorem neq78 (w:World) (x:Pk):(binOp .neq 78 (.agg #[.int .i64 x.src,.int .i64 x.dst,.string ⟨x.data.toArray⟩]) (.agg #[.int .i64 x.src,.int .i64 x.dst,.string ⟨x.data.toArray⟩])).run Tryz.prog w=.ok (.bool false) w:=by
 rw [run_neq_struct];rw [show (#[.int .i64 x.src,.int .i64 x.dst,.string ⟨x.data.toArray⟩]:Array Value)=(pkC x).toArray from rfl,ek78];rfl
theorem guardn78 (w:World) (op:BinOp) (x y:Operand) (xs ys:Array Value):(eqGuard op 78 x y (.agg xs) (.agg ys)).run Tryz.prog w=.ok () w:=run_eqGuard_agg w op 78 x y xs ys guard78
theorem zg1 {K:Nat->Nat} {w:World} {B t B' t' : Nat} {v v' : Value} {l:List Pk} (h:RW 78 3 pkC K w B t v l) (h' : RW 78 3 pkC K w B' t' v' l) (hl:l.length<=100000000) :
 Calls Tryz.prog 30 #[v,v'] w fun e w'=>e=.returned (.bool true)∧∃ k,w'=w.drewN k:=by
 obtain ⟨o1,c1,rfl,_,hg1⟩:=h.form;obtain ⟨o2,c2,rfl,_,hg2⟩:=h'.form;obtain ⟨n,hn⟩:∃ n,l.length=n:=⟨_,rfl⟩;have HH:Hid (RW 78 3 pkC K w B t (.slice o1 n c1) l∧RW 78 3 pkC K w B' t' (.slice o2 n c2) l):=⟨by rw [<- hn];exact h,by rw [<- hn];exact h'⟩;have HG:=hid (And.intro hg1 hg2);have HN:=hid hn;have HB:Hid (n<=100000000):=by rw [<- hn];exact hl
 rw [hn];clear h h' hg1 hg2 hl hn;go_enter Tryz.func30,Tryz.ntmps30
 go_wp2_with fail
 go_loopw [5] (fun u5 wr=>∃ (j:Nat),u5=.int .i64 (j:Int)∧j<=n∧Hid (∃ k,wr=w.drewN k)) (fun u5 _=>n - (intOf u5).toNat)
 case atStart=>exact ⟨0,rfl,by omega,0,rfl⟩
 case round =>
  obtain ⟨j,rfl,hjn,HR⟩:=hrel;obtain ⟨wo,hwo⟩:∃ yy,yy=wr:=⟨_,rfl⟩;subst hwo;obtain ⟨k,hk⟩:=HR.out;by_cases hj:j<n
  · have hji:(j:Int)<(n:Int):=(by omega);obtain ⟨g1,rfl⟩:=HG.out.1 (by rw [HN.out];omega);obtain ⟨g2,rfl⟩:=HG.out.2 (by rw [HN.out];omega);obtain ⟨x,hx⟩:∃ x,l[j]?=some x:=⟨_,List.getElem?_eq_getElem (by rw [HN.out];omega)⟩;have e10:wo.cell? ⟨g1,j*3,none⟩=some (.int .i64 x.src):=by
     rw [hk];show w.cell? _=_;exact HH.out.1.cell pkL HN.out hx 0 (by omega)
    have e11:wo.cell? ⟨g1,j*3+1,none⟩=some (.int .i64 x.dst):=by
     rw [hk];show w.cell? _=_;exact HH.out.1.cell pkL HN.out hx 1 (by omega)
    have e12:wo.cell? ⟨g1,j*3+2,none⟩=some (.string ⟨x.data.toArray⟩):=by
     rw [hk];show w.cell? _=_;exact HH.out.1.cell pkL HN.out hx 2 (by omega)
    have e20:wo.cell? ⟨g2,j*3,none⟩=some (.int .i64 x.src):=by
     rw [hk];show w.cell? _=_;exact HH.out.2.cell pkL HN.out hx 0 (by omega)
    have e21:wo.cell? ⟨g2,j*3+1,none⟩=some (.int .i64 x.dst):=by
     rw [hk];show w.cell? _=_;exact HH.out.2.cell pkL HN.out hx 1 (by omega)
    have e22:wo.cell? ⟨g2,j*3+2,none⟩=some (.string ⟨x.data.toArray⟩):=by
     rw [hk];show w.cell? _=_;exact HH.out.2.cell pkL HN.out hx 2 (by omega)
    have hj1:wrap64 ((j:Int)+1)=(j:Int)+1:=zb0 (by have:=HB.out;omega);have hq:=fun w=>neq78 w x;have hgd:=fun w op x y xs ys=>guardn78 w op x y xs ys;have HF:Hid (∀ k2,∃ k,wo.drewN k2=w.drewN k):=fun k2=>⟨k+k2,by rw [hk];simp [World.drewN,Nat.add_assoc]⟩;clear hx HR hk;(go_wp2_with fail);go_quiet (fail)
    go_wp2;go_roundw
    case rel=>exact ⟨j+1,by first|rfl|(rw [hj1];rfl),by omega,HF.out _⟩
    case measure=>exact meas (by first|rfl|exact hj1) hji
  · obtain rfl:j=n:=(by omega);have HF:Hid (∃ k,wo=w.drewN k):=HR.out;clear HR hj hk;go_wp2;go_ret;exact ⟨rfl,HF.out⟩
theorem fields80:Tryz.prog.underlying 80=some (.struct (Tryz.prog.fieldsOf 80)):=by kernel_rfl
theorem stood80:Tryz.prog.stoodInHeld 80=false:=by kernel_rfl
theorem guard80:Tryz.prog.eqGuardType Tryz.prog.depth 80=false:=by kernel_rfl
theorem fieldsOf80:(Tryz.prog.fieldsOf 80).toList=[⟨"Sequence",3,0,false,"","",0⟩,⟨"Status",3,1,false,"","",8⟩,⟨"Accept",3,2,false,"","",16⟩,⟨"Reject",3,3,false,"","",24⟩,⟨"Why",3,4,false,"","",32⟩,⟨"Low",3,5,false,"","",40⟩,⟨"High",3,6,false,"","",48⟩,⟨"Results",9,7,false,"","",56⟩,⟨"At",3,8,false,"","",72⟩]:=by kernel_rfl
theorem ek80 (w:World) (x:Oc):(Op.equalIn 10000 80 (.agg (ocC x).toArray) (.agg (ocC x).toArray)).run Tryz.prog w=.ok true w:=by
 rw [run_equalIn_struct w 9999 _ _ _ fields80 stood80,fieldsOf80]
 have n0 : "Sequence"≠ "_" := by decide
 have n1 : "Status"≠ "_" := by decide
 have n2 : "Accept"≠ "_" := by decide
 have n3 : "Reject"≠ "_" := by decide
 have n4 : "Why"≠ "_" := by decide
 have n5 : "Low"≠ "_" := by decide
 have n6 : "High"≠ "_" := by decide
 have n7 : "Results"≠ "_" := by decide
 have n8 : "At"≠ "_" := by decide
 simp only [Op.eqFields,if_pos n0,if_pos n1,if_pos n2,if_pos n3,if_pos n4,if_pos n5,if_pos n6,if_pos n7,if_pos n8,Sem.run_bind];have p0:∀ w,(part 3 (ocC x).toArray 0).run Tryz.prog w=.ok (.int .i64 x.seq) w:=fun w=>zfb w _ 0 _ rfl;simp only [p0,Result.andThen_ok];rw [ekI];simp only [Result.andThen_ok,Bool.not_true,Bool.false_eq_true,if_false,Sem.run_bind];have p1:∀ w,(part 3 (ocC x).toArray 1).run Tryz.prog w=.ok (.int .i64 x.st) w:=fun w=>zfb w _ 1 _ rfl;simp only [p1,Result.andThen_ok];rw [ekI];simp only [Result.andThen_ok,Bool.not_true,Bool.false_eq_true,if_false,Sem.run_bind];have p2:∀ w,(part 3 (ocC x).toArray 2).run Tryz.prog w=.ok (.int .i64 x.acc) w:=fun w=>zfb w _ 2 _ rfl;simp only [p2,Result.andThen_ok];rw [ekI];simp only [Result.andThen_ok,Bool.not_true,Bool.false_eq_true,if_false,Sem.run_bind];have p3:∀ w,(part 3 (ocC x).toArray 3).run Tryz.prog w=.ok (.int .i64 x.rej) w:=fun w=>zfb w _ 3 _ rfl;simp only [p3,Result.andThen_ok];rw [ekI];simp only [Result.andThen_ok,Bool.not_true,Bool.false_eq_true,if_false,Sem.run_bind];have p4:∀ w,(part 3 (ocC x).toArray 4).run Tryz.prog w=.ok (.int .i64 x.why) w:=fun w=>zfb w _ 4 _ rfl;simp only [p4,Result.andThen_ok];rw [ekI];simp only [Result.andThen_ok,Bool.not_true,Bool.false_eq_true,if_false,Sem.run_bind];have p5:∀ w,(part 3 (ocC x).toArray 5).run Tryz.prog w=.ok (.int .i64 x.low) w:=fun w=>zfb w _ 5 _ rfl;simp only [p5,Result.andThen_ok];rw [ekI];simp only [Result.andThen_ok,Bool.not_true,Bool.false_eq_true,if_false,Sem.run_bind];have p6:∀ w,(part 3 (ocC x).toArray 6).run Tryz.prog w=.ok (.int .i64 x.high) w:=fun w=>zfb w _ 6 _ rfl;simp only [p6,Result.andThen_ok];rw [ekI];simp only [Result.andThen_ok,Bool.not_true,Bool.false_eq_true,if_false,Sem.run_bind];have p7:∀ w,(part 9 (ocC x).toArray 7).run Tryz.prog w=.ok (.string ⟨x.res.toArray⟩) w:=fun w=>partS w _ 7 _ rfl;simp only [p7,Result.andThen_ok];rw [ekS];simp only [Result.andThen_ok,Bool.not_true,Bool.false_eq_true,if_false,Sem.run_bind];have p8:∀ w,(part 3 (ocC x).toArray 8).run Tryz.prog w=.ok (.int .i64 x.at_) w:=fun w=>zfb w _ 8 _ rfl;simp only [p8,Result.andThen_ok];rw [ekI];rfl
theorem neq80 (w:World) (x:Oc):(binOp .neq 80 (.agg #[.int .i64 x.seq,.int .i64 x.st,.int .i64 x.acc,.int .i64 x.rej,.int .i64 x.why,.int .i64 x.low,.int .i64 x.high,.string ⟨x.res.toArray⟩,.int .i64 x.at_]) (.agg #[.int .i64 x.seq,.int .i64 x.st,.int .i64 x.acc,.int .i64 x.rej,.int .i64 x.why,.int .i64 x.low,.int .i64 x.high,.string ⟨x.res.toArray⟩,.int .i64 x.at_])).run Tryz.prog w=.ok (.bool false) w:=by
 rw [run_neq_struct];rw [show (#[.int .i64 x.seq,.int .i64 x.st,.int .i64 x.acc,.int .i64 x.rej,.int .i64 x.why,.int .i64 x.low,.int .i64 x.high,.string ⟨x.res.toArray⟩,.int .i64 x.at_]:Array Value)=(ocC x).toArray from rfl,ek80];rfl
theorem guardn80 (w:World) (op:BinOp) (x y:Operand) (xs ys:Array Value):(eqGuard op 80 x y (.agg xs) (.agg ys)).run Tryz.prog w=.ok () w:=run_eqGuard_agg w op 80 x y xs ys guard80
theorem zg2 {K:Nat->Nat} {w:World} {B t B' t' : Nat} {v v' : Value} {l:List Oc} (h:RW 80 9 ocC K w B t v l) (h' : RW 80 9 ocC K w B' t' v' l) (hl:l.length<=100000000) :
 Calls Tryz.prog 35 #[v,v'] w fun e w'=>e=.returned (.bool true)∧∃ k,w'=w.drewN k:=by
 obtain ⟨o1,c1,rfl,_,hg1⟩:=h.form;obtain ⟨o2,c2,rfl,_,hg2⟩:=h'.form;obtain ⟨n,hn⟩:∃ n,l.length=n:=⟨_,rfl⟩;have HH:Hid (RW 80 9 ocC K w B t (.slice o1 n c1) l∧RW 80 9 ocC K w B' t' (.slice o2 n c2) l):=⟨by rw [<- hn];exact h,by rw [<- hn];exact h'⟩;have HG:=hid (And.intro hg1 hg2);have HN:=hid hn;have HB:Hid (n<=100000000):=by rw [<- hn];exact hl
 rw [hn];clear h h' hg1 hg2 hl hn;go_enter Tryz.func35,Tryz.ntmps35
 go_wp2_with fail
 go_loopw [5] (fun u5 wr=>∃ (j:Nat),u5=.int .i64 (j:Int)∧j<=n∧Hid (∃ k,wr=w.drewN k)) (fun u5 _=>n - (intOf u5).toNat)
 case atStart=>exact ⟨0,rfl,by omega,0,rfl⟩
 case round =>
  obtain ⟨j,rfl,hjn,HR⟩:=hrel;obtain ⟨wo,hwo⟩:∃ yy,yy=wr:=⟨_,rfl⟩;subst hwo;obtain ⟨k,hk⟩:=HR.out;by_cases hj:j<n
  · have hji:(j:Int)<(n:Int):=(by omega);obtain ⟨g1,rfl⟩:=HG.out.1 (by rw [HN.out];omega);obtain ⟨g2,rfl⟩:=HG.out.2 (by rw [HN.out];omega);obtain ⟨x,hx⟩:∃ x,l[j]?=some x:=⟨_,List.getElem?_eq_getElem (by rw [HN.out];omega)⟩;have e10:wo.cell? ⟨g1,j*9,none⟩=some (.int .i64 x.seq):=by
     rw [hk];show w.cell? _=_;exact HH.out.1.cell ocL HN.out hx 0 (by omega)
    have e11:wo.cell? ⟨g1,j*9+1,none⟩=some (.int .i64 x.st):=by
     rw [hk];show w.cell? _=_;exact HH.out.1.cell ocL HN.out hx 1 (by omega)
    have e12:wo.cell? ⟨g1,j*9+2,none⟩=some (.int .i64 x.acc):=by
     rw [hk];show w.cell? _=_;exact HH.out.1.cell ocL HN.out hx 2 (by omega)
    have e13:wo.cell? ⟨g1,j*9+3,none⟩=some (.int .i64 x.rej):=by
     rw [hk];show w.cell? _=_;exact HH.out.1.cell ocL HN.out hx 3 (by omega)
    have e14:wo.cell? ⟨g1,j*9+4,none⟩=some (.int .i64 x.why):=by
     rw [hk];show w.cell? _=_;exact HH.out.1.cell ocL HN.out hx 4 (by omega)
    have e15:wo.cell? ⟨g1,j*9+5,none⟩=some (.int .i64 x.low):=by
     rw [hk];show w.cell? _=_;exact HH.out.1.cell ocL HN.out hx 5 (by omega)
    have e16:wo.cell? ⟨g1,j*9+6,none⟩=some (.int .i64 x.high):=by
     rw [hk];show w.cell? _=_;exact HH.out.1.cell ocL HN.out hx 6 (by omega)
    have e17:wo.cell? ⟨g1,j*9+7,none⟩=some (.string ⟨x.res.toArray⟩):=by
     rw [hk];show w.cell? _=_;exact HH.out.1.cell ocL HN.out hx 7 (by omega)
    have e18:wo.cell? ⟨g1,j*9+8,none⟩=some (.int .i64 x.at_):=by
     rw [hk];show w.cell? _=_;exact HH.out.1.cell ocL HN.out hx 8 (by omega)
    have e20:wo.cell? ⟨g2,j*9,none⟩=some (.int .i64 x.seq):=by
     rw [hk];show w.cell? _=_;exact HH.out.2.cell ocL HN.out hx 0 (by omega)
    have e21:wo.cell? ⟨g2,j*9+1,none⟩=some (.int .i64 x.st):=by
     rw [hk];show w.cell? _=_;exact HH.out.2.cell ocL HN.out hx 1 (by omega)
    have e22:wo.cell? ⟨g2,j*9+2,none⟩=some (.int .i64 x.acc):=by
     rw [hk];show w.cell? _=_;exact HH.out.2.cell ocL HN.out hx 2 (by omega)
    have e23:wo.cell? ⟨g2,j*9+3,none⟩=some (.int .i64 x.rej):=by
     rw [hk];show w.cell? _=_;exact HH.out.2.cell ocL HN.out hx 3 (by omega)
    have e24:wo.cell? ⟨g2,j*9+4,none⟩=some (.int .i64 x.why):=by
     rw [hk];show w.cell? _=_;exact HH.out.2.cell ocL HN.out hx 4 (by omega)
    have e25:wo.cell? ⟨g2,j*9+5,none⟩=some (.int .i64 x.low):=by
     rw [hk];show w.cell? _=_;exact HH.out.2.cell ocL HN.out hx 5 (by omega)
    have e26:wo.cell? ⟨g2,j*9+6,none⟩=some (.int .i64 x.high):=by
     rw [hk];show w.cell? _=_;exact HH.out.2.cell ocL HN.out hx 6 (by omega)
    have e27:wo.cell? ⟨g2,j*9+7,none⟩=some (.string ⟨x.res.toArray⟩):=by
     rw [hk];show w.cell? _=_;exact HH.out.2.cell ocL HN.out hx 7 (by omega)
    have e28:wo.cell? ⟨g2,j*9+8,none⟩=some (.int .i64 x.at_):=by
     rw [hk];show w.cell? _=_;exact HH.out.2.cell ocL HN.out hx 8 (by omega)
    have hj1:wrap64 ((j:Int)+1)=(j:Int)+1:=zb0 (by have:=HB.out;omega);have hq:=fun w=>neq80 w x;have hgd:=fun w op x y xs ys=>guardn80 w op x y xs ys;have HF:Hid (∀ k2,∃ k,wo.drewN k2=w.drewN k):=fun k2=>⟨k+k2,by rw [hk];simp [World.drewN,Nat.add_assoc]⟩;clear hx HR hk;(go_wp2_with fail);go_quiet (fail)
    go_wp2;go_roundw
    case rel=>exact ⟨j+1,by first|rfl|(rw [hj1];rfl),by omega,HF.out _⟩
    case measure=>exact meas (by first|rfl|exact hj1) hji
  · obtain rfl:j=n:=(by omega);have HF:Hid (∃ k,wo=w.drewN k):=HR.out;clear HR hj hk;go_wp2;go_ret;exact ⟨rfl,HF.out⟩
structure SI (K:Nat->Nat) (w:World) (B t s p r:Nat) (c:Cf) (next now:Int) (L:List Wt) (M:List Dw) (D:List Oc) (q:Mq) (T:List Int):Prop where
 me:∃ vt,TB K w (t+22) s (.cells #[ptr p,ptr r,vt] 52)∧RW 3 1 intC K w B (t+20) vt T
 pc:∃ oa cap vw vd,PC K w B t p c oa cap next now L D vw vd q
 dc:∃ oa cap vw vd qb,DC K w B (t+10) r c oa cap next now M D vw vd ⟨qb,q.h,q.m,q.s⟩
 pr:Pairs c now L M
 so:Sorted M
 n0:0<=now∧now<=10000000000
 x0:1<=next∧next<=10000000000
 sq:∀ x∈L,1<=x.seq∧x.seq<next
 ln:L.length+D.length<=100000000
section
variable {K K' : Nat->Nat} {w w' : World} {B t s p r:Nat} {c:Cf} {next now:Int} {L:List Wt} {M:List Dw} {D:List Oc} {q:Mq} {T:List Int}
theorem SI.to {U:Nat->Prop} (h:SI K w B t s p r c next now L M D q T) (m:Mv U w w' K K') (ht:∀ t',U t'->t+22<t'):SI K' w' B t s p r c next now L M D q T:=by
 obtain ⟨vt,a1,a2⟩:=h.me;obtain ⟨oa,cap,vw,vd,P⟩:=h.pc;obtain ⟨oa',cap',vw',vd',qb,Q⟩:=h.dc;exact ⟨⟨vt,a1.mv m (fun e=>by have:=ht _ e;omega),a2.mv m (fun e=>by have:=ht _ e;omega)⟩,⟨oa,cap,vw,vd,P.to m (fun t' e=>by have:=ht _ e;omega)⟩,⟨oa',cap',vw',vd',qb,Q.to m (fun t' e=>by have:=ht _ e;omega)⟩,h.pr,h.so,h.n0,h.x0,h.sq,h.ln⟩
theorem SI.below (h:SI K w B t s p r c next now L M D q T) (hb:Below w.heap.size w w') (N:Nat->Nat):SI (ext w K N) w' B t s p r c next now L M D q T:=h.to (Mv.of_below hb K N) (fun _ e=>e.elim)
theorem zey {α:Type} {f:α->Bool} : ∀ {A A' : List α} {x x' : α} {R R' : List α},A++x::R=A'++x'::R'->f x=true->(∀ y∈A,f y=false)->f x'=true->(∀ y∈A',f y=false)->A=A'∧x=x'∧R=R'
 | [],[],_,_,_,_,e,_,_,_,_=>by simp at e;exact ⟨rfl,e.1,e.2⟩
 | [],a::A',_,_,_,_,e,h,_,_,k=>by simp at e;rw [e.1,k a (by simp)] at h;cases h
 | a::A,[],_,_,_,_,e,_,h,k,_=>by simp at e;rw [<- e.1,h a (by simp)] at k;cases k
 | a::A,a'::A',_,_,_,_,e,h1,h2,h3,h4=>by
  simp at e
  obtain ⟨e1,e2,e3⟩:=zey e.2 h1 (fun y hy=>h2 y (by simp [hy])) h3 (fun y hy=>h4 y (by simp [hy]));exact ⟨by rw [e.1,e1],e2,e3⟩
theorem SI.hear_any (h:SI K w B t s p r c next now L M D q T) (src dst:Int) (data:List UInt8) (hlen:data.length<=140737488355328) :
 Calls Tryz.prog 51 #[ptr p,.agg #[iI src,iI dst,.string ⟨data.toArray⟩]] w fun e w1=>∃ z:Int,e=.returned (iI z)∧Hid (∃ K1,Mv (fun u=>t<=u∧u<=t+6) w w1 K K1∧∀ w2,Below w1.heap.size w1 w2->Calls Tryz.prog 68 #[ptr r,.agg #[iI src,iI dst,.string ⟨data.toArray⟩]] w2 fun e w'=>e=.returned (iI z)∧Hid (∃ K' L' M' D' q',SI K' w' B t s p r c next now L' M' D' q' T∧L'.length+D'.length<=L.length+D.length∧Mv (fun u=>t<=u∧u<=t+16) w w' K K')):=by
 obtain ⟨oa,cap,vw,vd,P⟩:=h.pc;obtain ⟨oa',cap',vw',vd',qb,Q⟩:=h.dc;have hML:=h.pr.len;have hln:=h.ln;have hlast:∀ y∈M,-1000000000000<=now - y.last∧now - y.last<=1000000000000:=fun y hy=>by
  obtain ⟨x,_,pr⟩:=h.pr.mem2 y hy;have:=pr.last0;have:=pr.last1;have:=h.n0
  omega
 have hlastW:∀ x∈L,-1000000000000<=now - x.last∧now - x.last<=1000000000000:=fun x hx=>by
  obtain ⟨y,hy,pr⟩:=h.pr.mem1 x hx;rw [pr.last];exact hlast y hy
 refine (P.hear_any src dst data (by omega) (by omega) (by omega) hlastW).mono ?_;rintro e w1 (⟨rfl,hno,hb⟩|⟨A,x,R,rfl,hd,hr,hLe,hx,hA,hh⟩)
 · refine ⟨0,rfl,ext w K (fun _=>t+7),(Mv.of_below hb.out K _).mono (fun _ e=>e.elim),fun w2 hb2=>?_⟩;have hbb:=hb.out.trans (hb2.mono hb.out.size);have nohit:∀ A y R,M=A++y::R->dst=c.ad->(za0 data).2=0->hitD (za0 data).1.xid src y=true->False:=fun A y R e1 e2 e3 e4=>by
    rcases hno with k|k|k
    · exact k e2
    · exact k e3
    · obtain ⟨x,hx,pr⟩:=h.pr.mem2 y (by rw [e1];simp);rw [<- pr.hit,k x hx] at e4;cases e4
   refine ((Q.below hbb (fun _=>t+7)).hear_any src dst data hlen (by omega) (by omega) hlast q.h q.m q.s (fun A y R e1 e2 e3 e4 _=>(nohit A y R e1 e2 e3 e4).elim)).mono ?_;rintro e w' (⟨rfl,_,hb3⟩|⟨A,y,R,_,e2,e3,e1,e4,_,_⟩)
   · refine ⟨rfl,_,L,M,D,q,h.below (hbb.trans (hb3.out.mono hbb.size)) (fun _=>t+7),Nat.le_refl _,(Mv.of_below (hbb.trans (hb3.out.mono hbb.size)) K (fun _=>t+7)).mono (fun _ e=>e.elim)⟩
   · exact (nohit A y R e1 e2 e3 e4).elim
 · obtain ⟨K1,vw1,vd1,q',P1,mq,m1⟩:=hh.out;obtain ⟨A',y,R',eM,pA,pxy,pR⟩:=h.pr.split hLe;have hxy:hitD (za0 data).1.xid src y=true:=by rw [<- pxy.hit];exact hx
   have hA' : ∀ z∈A',hitD (za0 data).1.xid src z=false:=fun z hz=>by
    obtain ⟨x',hx',pz⟩:=pA.mem2 z hz;rw [<- pz.hit];exact hA x' hx'
   refine ⟨_,rfl,K1,m1.mono (fun u e=>by omega),fun w2 hb2=>?_⟩;have Q1:=(Q.to m1 (fun t' e=>by omega)).below hb2 (fun _=>t+7);have m2:=Mv.of_below hb2 K1 (fun _=>t+7);have ok':=P1.me.ok;refine (Q1.hear_any src dst data hlen (by omega) (by omega) hlast q'.h q'.m q'.s (fun A2 y2 R2 e1 _ _ e4 e5=>?_)).mono ?_
   · obtain ⟨_,ey,_⟩:=zey (e1.symm.trans eM) e4 e5 hxy hA';subst ey;refine ⟨ok',fun hg=>?_,fun hg=>?_⟩
     · (have:=mq.2.1 (by rw [pxy.tms];exact hg));rw [this];exact ⟨rfl,rfl,rfl⟩
     · (have:=mq.2.2 (by rw [pxy.tms];exact hg));rw [pxy.last] at this;exact this
   · rintro e w' (⟨_,hno,_⟩|⟨A2,y2,R2,rfl,_,_,e1,e4,e5,hh2⟩)
     · exfalso
       rcases hno with k|k|k
       · exact k hd
       · exact k hr
       · (have:=k y (by rw [eM];simp));rw [hxy] at this;cases this
     · obtain ⟨rfl,rfl,rfl⟩:=zey (e1.symm.trans eM) e4 e5 hxy hA';obtain ⟨K3,vw3,vd3,Q3,m3⟩:=hh2.out;obtain ⟨vt,a1,a2⟩:=h.me;have mm:Mv (fun u=>t<=u∧u<=t+16) w w' K K3:=(m1.mono (fun u e=>by omega)).trans ((m2.mono (fun _ e=>e.elim)).trans (m3.mono (fun u e=>by omega)));refine ⟨rfl,K3,A++R,A2++R2,D++[{ zcy (za0 data).1 with seq:=x.seq,at_:=now }],q',⟨⟨vt,a1.mv mm (by omega),a2.mv mm (by omega)⟩,⟨_,_,_,_,(P1.below hb2 (fun _=>t+7)).to m3 (fun t' e=>by omega)⟩,⟨oa',cap',vw3,vd3,qb,by rw [pxy.seq];exact Q3⟩,pA.app pR,?_,h.n0,h.x0,?_,?_⟩,?_,mm⟩
       · have:=h.so;rw [eM] at this;exact this.sub
       · intro z hz;exact h.sq z (by rw [hLe];simp at hz ⊢;exact hz.elim .inl (fun k=>.inr (.inr k)))
       · rw [hLe] at hln;simp at hln ⊢;omega
       · rw [hLe];simp;omega
end
section
variable {K K' : Nat->Nat} {w w' : World} {B t s p r:Nat} {c:Cf} {next now:Int} {L:List Wt} {M:List Dw} {D:List Oc} {q:Mq} {T:List Int}
theorem SI.pt (h:SI K w B t s p r c next now L M D q T):0<=c.pt∧c.pt<=32:=by
 obtain ⟨_,_,_,_,P⟩:=h.pc;have hok:=P.ok;unfold okC Pc.rightP at hok;simp only [Bool.and_eq_true,decide_eq_true_eq,inB,Pc.inB] at hok;omega
theorem SI.fineD (h:SI K w B t s p r c next now L M D q T):∀ y∈M,y.fine:=fun y hy=>by
 obtain ⟨x,_,pr⟩:=h.pr.mem2 y hy;have h1:=pr.iss0;have h2:=pr.iss;have h3:=h.n0;have h4:=pr.giv0;have h5:=pr.giv1;have h6:=pr.don1;have h7:=h.pt.2;have h8:=pr.len;exact ⟨⟨by omega,by omega⟩,⟨by omega,by omega⟩,h8⟩
theorem SI.fineW (h:SI K w B t s p r c next now L M D q T):∀ x∈L,x.fine:=fun x hx=>by
 obtain ⟨y,_,pr⟩:=h.pr.mem1 x hx;have h1:=pr.iss0;have h2:=pr.iss;have h3:=h.n0;have h4:=pr.giv0;have h5:=pr.giv1;have h6:=pr.don1;have h7:=h.pt.2;have h8:=pr.len;have h0:=pr.don0;have ht:=Pc.tot_in c.pb c.pc c.pt y.don.toNat
 have hk:(y.don.toNat:Int)*1048576<=32*1048576:=by omega
 exact ⟨by rw [pr.snd];exact h0,⟨by rw [pr.due];omega,by rw [pr.due];omega⟩,⟨by rw [pr.tms];exact h4,by rw [pr.tms];omega⟩,by rw [pr.args];exact h8⟩
theorem SI.due_any (h:SI K w B t s p r c next now L M D q T) (tp:Nat) (htp:t+40<tp) :
 Calls Tryz.prog 20 #[ptr p] w fun e w1=>∃ v,e=.returned v∧Hid (∃ K1 PK,RW 78 3 pkC K1 w1 B tp v PK∧PK.length<=100000000∧Mv (fun u=>(t<=u∧u<=t+6)∨u=tp) w w1 K K1∧∀ w2,Below w1.heap.size w1 w2->Calls Tryz.prog 29 #[ptr r] w2 fun e w'=>∃ v',e=.returned v'∧Hid (∃ K' L' M',SI K' w' B t s p r c next now L' M' D q T∧L'.length=L.length∧RW 78 3 pkC K' w' B tp v PK∧RW 78 3 pkC K' w' B (tp+1) v' PK∧Mv (fun u=>(t<=u∧u<=t+16)∨u=tp∨u=tp+1) w w' K K')):=by
 obtain ⟨oa,cap,vw,vd,P⟩:=h.pc;obtain ⟨oa',cap',vw',vd',qb,Q⟩:=h.dc;have hML:=h.pr.len;have hln:=h.ln;have hp:=h.pt.2;refine (P.due_any tp (by omega) h.fineW (by omega)).mono ?_;rintro e w1 ⟨v,rfl,hh⟩;obtain ⟨K1,P1,R1,m1⟩:=hh.out;refine ⟨v,rfl,K1,_,R1,Nat.le_trans (pksL_len _ _ _ _) (by omega),m1.mono (fun u e=>by omega),fun w2 hb2=>?_⟩;have Q1:=(Q.to m1 (fun t' e=>by omega)).below hb2 (fun _=>t+7);have m2:=Mv.of_below hb2 K1 (fun _=>t+7);refine (Q1.due_any (tp+1) (by omega) h.fineD (by omega)).mono ?_;rintro e w' ⟨v',rfl,hh2⟩;obtain ⟨K3,Q3,R3,m3⟩:=hh2.out;obtain ⟨vt,a1,a2⟩:=h.me;have mm:Mv (fun u=>(t<=u∧u<=t+16)∨u=tp∨u=tp+1) w w' K K3:=(m1.mono (fun u e=>by omega)).trans ((m2.mono (fun _ e=>e.elim)).trans (m3.mono (fun u e=>by omega)));refine ⟨v',rfl,K3,dueL c now L,zcr c now M,⟨⟨vt,a1.mv mm (by omega),a2.mv mm (by omega)⟩,⟨_,_,_,_,(P1.below hb2 (fun _=>t+7)).to m3 (fun t' e=>by omega)⟩,⟨_,_,_,_,qb,Q3⟩,h.pr.due hp,h.so.due c now,h.n0,h.x0,?_,by rw [zel];exact hln⟩,zel _ _ _,((R1.mv m2 (fun e=>e)).mv m3 (by omega)),?_,mm⟩
 · intro z hz;obtain ⟨z',hz',rfl⟩:=List.mem_map.1 hz;have e:(if dueW c now z' then givW c now z' else z').seq=z'.seq:=by split <;> rfl
   rw [e];exact h.sq z' hz'
 · rw [h.pr.packets hp,h.pr.water];exact R3
theorem SI.tick_any (h:SI K w B t s p r c next now L M D q T) (hn:now+1<=10000000000) :
 Calls Tryz.prog 21 #[ptr p] w fun e w1=>(∃ v,e=.returned v)∧Hid (∃ K1,Mv (fun u=>t<=u∧u<=t+6) w w1 K K1∧∀ w2,Below w1.heap.size w1 w2->Calls Tryz.prog 31 #[ptr r] w2 fun e w'=>(∃ v,e=.returned v)∧Hid (∃ K' L' M' D',SI K' w' B t s p r c next (now+1) L' M' D' q T∧L'.length+D'.length<=L.length+D.length∧Mv (fun u=>t<=u∧u<=t+16) w w' K K')):=by
 obtain ⟨oa,cap,vw,vd,P⟩:=h.pc;obtain ⟨oa',cap',vw',vd',qb,Q⟩:=h.dc;have hML:=h.pr.len;have hln:=h.ln;have h0:=h.n0;refine (P.tick_any (by omega) (by omega)).mono ?_;rintro e w1 ⟨he,hh⟩;obtain ⟨K1,vw1,vd1,P1,m1⟩:=hh.out;refine ⟨he,K1,m1.mono (fun u e=>by omega),fun w2 hb2=>?_⟩;have Q1:=(Q.to m1 (fun t' e=>by omega)).below hb2 (fun _=>t+7);have m2:=Mv.of_below hb2 K1 (fun _=>t+7);refine (Q1.tick_any (by omega) (fun y hy=>(h.fineD y hy).1) (by omega)).mono ?_;rintro e w' ⟨he',hh2⟩;obtain ⟨K3,vw3,vd3,Q3,m3⟩:=hh2.out;obtain ⟨vt,a1,a2⟩:=h.me;have mm:Mv (fun u=>t<=u∧u<=t+16) w w' K K3:=(m1.mono (fun u e=>by omega)).trans ((m2.mono (fun _ e=>e.elim)).trans (m3.mono (fun u e=>by omega)));obtain ⟨t1,t2⟩:=h.pr.tick h.so (now+1);have hlen:(L.dropWhile (zbq (now+1))).length+(D++(L.takeWhile (zbq (now+1))).map (tOut (now+1))).length=L.length+D.length:=by
  have e2:(L.takeWhile (zbq (now+1))++L.dropWhile (zbq (now+1))).length=L.length:=by rw [List.takeWhile_append_dropWhile]
  rw [List.length_append] at e2;rw [List.length_append,List.length_map];omega
 refine ⟨he',K3,L.dropWhile (zbq (now+1)),M.filter (fun y=>!zby c (now+1) y),D++(L.takeWhile (zbq (now+1))).map (tOut (now+1)),⟨⟨vt,a1.mv mm (by omega),a2.mv mm (by omega)⟩,⟨_,_,_,_,(P1.below hb2 (fun _=>t+7)).to m3 (fun t' e=>by omega)⟩,⟨_,_,vw3,vd3,qb,by rw [t1];exact Q3⟩,t2.later (by omega),h.so.filter,by omega,h.x0,fun z hz=>h.sq z ((List.dropWhile_sublist _).subset hz),by omega⟩,by omega,mm⟩
end
section
variable {K K' : Nat->Nat} {w w' : World} {B t s p r:Nat} {c:Cf} {next now:Int} {L:List Wt} {M:List Dw} {D:List Oc} {q:Mq} {T:List Int}
theorem SI.wat (h:SI K w B t s p r c next now L M D q T):1<=zaz next L∧zaz next L<=10000000000:=by
 have hx:=h.x0;cases hL:L with
 | nil=>exact hx
 | cons x L' =>
  have:=h.sq x (by rw [hL];simp)
  show 1<=x.seq∧x.seq<=_;omega
section
variable {oa:Option Addr} {cap:Nat} {vw vd:Value}
theorem PC.call_not (h:PC K w B t p c oa cap next now L D vw vd q) (dst prog vers proc:Int) (s:ByteArray) (r:Int) (hx:-1000000000000<=next∧next<=1000000000000) (hy:-1000000000000<=zaz next L∧zaz next L<=1000000000000) (hr:refP c.win next (zaz next L) dst prog vers proc s.size=r) (hr0:r≠0) :
 Calls Tryz.prog 19 #[ptr p,iI dst,iI prog,iI vers,iI proc,.string s] w fun e w'=>e=.returned (.tuple #[iI 0,iI r])∧∃ k,w'=w.drewN k:=by
 have HR:=hid (h.refuse_any dst prog vers proc s hx hy);rw [hr] at HR;have hne:(r != 0)=true:=by simpa using hr0
 clear h hx hy hr hr0;go_enter Tryz.func19,Tryz.ntmps19
 go_wp2_with fail
 refine HR.out.mono ?_;rintro _ w1 ⟨rfl,k,hk⟩;have HK:Hid (∃ k,w1=w.drewN k):=⟨k,hk⟩;clear HR hk;go_wp2;go_ret2
 exact ⟨rfl,HK.out⟩
end
theorem SI.call_any (h:SI K w B t s p r c next now L M D q T) (dst prog vers proc:Int) (args:List UInt8) (ha:args.length<=281474976710656) (hn:next+1<=10000000000) (hl:L.length+D.length+1<=100000000) :
 Calls Tryz.prog 19 #[ptr p,iI dst,iI prog,iI vers,iI proc,.string ⟨args.toArray⟩] w fun e w1=>∃ n f:Int,e=.returned (.tuple #[iI n,iI f])∧Hid (∃ K1,Mv (fun u=>t<=u∧u<=t+6) w w1 K K1∧∀ w2,Below w1.heap.size w1 w2->Calls Tryz.prog 28 #[ptr r,iI dst,iI prog,iI vers,iI proc,.string ⟨args.toArray⟩] w2 fun e w'=>e=.returned (.tuple #[iI n,iI f])∧Hid (∃ K' next' L' M',SI K' w' B t s p r c next' now L' M' D q T∧L'.length<=L.length+1∧next'<=next+1∧Mv (fun u=>t<=u∧u<=t+16) w w' K K')):=by
 obtain ⟨oa,cap,vw,vd,P⟩:=h.pc;obtain ⟨oa',cap',vw',vd',qb,Q⟩:=h.dc;have hML:=h.pr.len;have h0:=h.n0;have hx:=h.x0;have hw:=h.wat
 have hwd:zbl next M=zaz next L:=(h.pr.water next).symm;obtain ⟨f,hf⟩:∃ f,refP c.win next (zaz next L) dst prog vers proc args.length=f:=⟨_,rfl⟩;have hsz:(⟨args.toArray⟩:ByteArray).size=args.length:=by simp [ByteArray.size]
 by_cases hf0:f=0
 case neg =>
  refine (P.call_not dst prog vers proc ⟨args.toArray⟩ f (by omega) (by omega) (by rw [hsz];exact hf) hf0).mono ?_;rintro e w1 ⟨rfl,k,hk⟩;have b1:Below w.heap.size w w1:=by rw [hk];exact zdb w k
  refine ⟨0,f,rfl,ext w K (fun _=>t+7),(Mv.of_below b1 K _).mono (fun _ e=>e.elim),fun w2 hb2=>?_⟩;have bb:=b1.trans (hb2.mono b1.size);refine ((Q.below bb (fun _=>t+7)).call_no dst prog vers proc ⟨args.toArray⟩ f (by omega) (by rw [hwd];omega) (by rw [hsz,hwd];exact hf) hf0).mono ?_;rintro e w' ⟨rfl,k2,hk2⟩;have b3:Below w2.heap.size w2 w':=by rw [hk2];exact zdb w2 k2
  have bbb:=bb.trans (b3.mono bb.size);exact ⟨rfl,_,next,L,M,h.below bbb (fun _=>t+7),by omega,by omega,(Mv.of_below bbb K _).mono (fun _ e=>e.elim)⟩
 subst hf0;refine (P.call_any dst prog vers proc args (by omega) (by omega) hf ha (by omega)).mono ?_;rintro e w1 ⟨rfl,K1,x,vw1,vd1,P1,⟨fin,hfin,hxn⟩,m1⟩;refine ⟨next,0,rfl,K1,m1.mono (fun u e=>by omega),fun w2 hb2=>?_⟩;have Q1:=(Q.to m1 (fun t' e=>by omega)).below hb2 (fun _=>t+7);have m2:=Mv.of_below hb2 K1 (fun _=>t+7);refine (Q1.call_any dst prog vers proc args (by omega) (by rw [hwd];omega) (by rw [hwd];exact hf) (by omega)).mono ?_;rintro e w' ⟨rfl,hh2⟩;obtain ⟨K3,vw3,vd3,Q3,m3⟩:=hh2.out;obtain ⟨vt,a1,a2⟩:=h.me;have mm:Mv (fun u=>t<=u∧u<=t+16) w w' K K3:=(m1.mono (fun u e=>by omega)).trans ((m2.mono (fun _ e=>e.elim)).trans (m3.mono (fun u e=>by omega)));have hlen:args.length<=1000:=by
  unfold refP at hf;cases hb:zh9 dst prog vers proc
  · rw [hb] at hf;simp at hf
  · rw [hb,if_pos rfl] at hf;by_cases h1:1000<args.length
    · rw [if_pos (.inl h1)] at hf;omega
    · omega
 have hti:=total_in c.pb c.pc c.pt h.pt.2;have hfn:fin=now+Pc.totalP c.pb c.pc c.pt:=by
  rw [<- hfin,IntWalk.i64_left];unfold wrap64;omega
 have hnew:=Pair.fresh (c:=c) hxn hfn h.pt.1 h0.1 hlen;refine ⟨rfl,K3,next+1,L++[x],M++[⟨next,prog,vers,proc,args,dst,now,0,0,0⟩],⟨⟨vt,a1.mv mm (by omega),a2.mv mm (by omega)⟩,⟨_,_,_,_,(P1.below hb2 (fun _=>t+7)).to m3 (fun t' e=>by omega)⟩,⟨_,_,vw3,vd3,qb,Q3⟩,h.pr.snoc hnew,h.so.snoc (fun z hz=>?_),h0,by omega,?_,by rw [List.length_append];simp;omega⟩,by simp,Int.le_refl _,mm⟩
 · obtain ⟨_,_,pz⟩:=h.pr.mem2 z hz;exact pz.iss
 · intro z hz;rcases List.mem_append.1 hz with k|k
   · have:=h.sq z k;omega
   · (simp at k);subst k;obtain ⟨_,_,_,_,_,_,_,_,_,_,e11⟩:=hxn;omega
end
section
variable {K K' : Nat->Nat} {w w' : World} {B t s p r:Nat} {c:Cf} {next now:Int} {L:List Wt} {M:List Dw} {D:List Oc} {q:Mq} {T:List Int}
theorem SI.waiting_any (h:SI K w B t s p r c next now L M D q T) (tp:Nat) (htp:t+40<tp) :
 Calls Tryz.prog 36 #[ptr p] w fun e w1=>∃ v,e=.returned v∧Hid (∃ K1,RW 3 1 intC K1 w1 B tp v (L.map Wt.seq)∧Mv (fun u=>u=tp) w w1 K K1∧∀ w2,Below w1.heap.size w1 w2->Calls Tryz.prog 37 #[ptr r] w2 fun e w'=>∃ v',e=.returned v'∧Hid (∃ K',SI K' w' B t s p r c next now L M D q T∧RW 3 1 intC K' w' B tp v (L.map Wt.seq)∧RW 3 1 intC K' w' B (tp+1) v' (L.map Wt.seq)∧Mv (fun u=>u=tp∨u=tp+1) w w' K K')):=by
 obtain ⟨oa,cap,vw,vd,P⟩:=h.pc;have hML:=h.pr.len;have hln:=h.ln;refine (P.waiting_any tp (by omega) (by omega)).mono ?_;rintro e w1 ⟨v,rfl,hh⟩;obtain ⟨K1,R1,m1⟩:=hh.out;refine ⟨v,rfl,K1,R1,m1,fun w2 hb2=>?_⟩;have m2:=Mv.of_below hb2 K1 (fun _=>t+7);have h2:=(h.to m1 (fun t' e=>by omega)).below hb2 (fun _=>t+7);obtain ⟨oa',cap',vw',vd',qb,Q⟩:=h2.dc;refine (Q.waiting_any (tp+1) (by omega) (by omega)).mono ?_;rintro e w' ⟨v',rfl,hh2⟩;obtain ⟨K3,R3,m3⟩:=hh2.out;refine ⟨v',rfl,K3,h2.to m3 (fun t' e=>by omega),(R1.mv m2 (fun e=>e)).mv m3 (by omega),by rw [h.pr.seqs];exact R3,(m1.mono (fun u e=>.inl e)).trans ((m2.mono (fun _ e=>e.elim)).trans (m3.mono (fun u e=>.inr e)))⟩
theorem SI.water_p (h:SI K w B t s p r c next now L M D q T):Calls Tryz.prog 23 #[ptr p] w fun e w'=>e=.returned (iI (zaz next L))∧w'=w:=by
 obtain ⟨_,_,_,_,P⟩:=h.pc;exact P.water_any
theorem SI.water_d (h:SI K w B t s p r c next now L M D q T):Calls Tryz.prog 39 #[ptr r] w fun e w'=>e=.returned (iI (zaz next L))∧w'=w:=by
 obtain ⟨_,_,_,_,_,Q⟩:=h.dc;rw [h.pr.water];exact Q.water_any
theorem SI.now_p (h:SI K w B t s p r c next now L M D q T):Calls Tryz.prog 24 #[ptr p] w fun e w'=>e=.returned (iI now)∧w'=w:=by
 obtain ⟨_,_,_,_,P⟩:=h.pc;exact P.now_any
theorem SI.now_d (h:SI K w B t s p r c next now L M D q T):Calls Tryz.prog 40 #[ptr r] w fun e w'=>e=.returned (iI now)∧w'=w:=by
 obtain ⟨_,_,_,_,_,Q⟩:=h.dc;exact Q.now_any
theorem SI.guess_p (h:SI K w B t s p r c next now L M D q T):Calls Tryz.prog 41 #[ptr p] w fun e w'=>e=.returned (iI (gsP q.m q.s))∧w'=w:=by
 obtain ⟨_,_,_,_,P⟩:=h.pc;exact P.guess_any
theorem SI.guess_d (h:SI K w B t s p r c next now L M D q T):Calls Tryz.prog 42 #[ptr r] w fun e w'=>e=.returned (iI (gsP q.m q.s))∧w'=w:=by
 obtain ⟨_,_,_,_,_,Q⟩:=h.dc;exact Q.guess_any
end
end Go.Proofs.YtfcbjcebkahehaaGreatDoor.Cl
namespace Go.Proofs.YtfcbjcebkahehaaGreatDoor.Cl
set_option linter.unusedSimpArgs false
open Go.RowKit
section
variable {K K' : Nat->Nat} {w w' : World} {B t s p r:Nat} {c:Cf} {next now:Int} {L:List Wt} {M:List Dw} {D:List Oc} {q:Mq} {T:List Int}
theorem SI.hears_any (h:SI K w B t s p r c next now L M D q T) (src dst:Int) (data:List UInt8) (hlen:data.length<=140737488355328) :
 Calls Tryz.prog 33 #[ptr s,.agg #[iI src,iI dst,.string ⟨data.toArray⟩]] w fun e w'=>e=.returned (.bool true)∧Hid (∃ K' L' M' D' q',SI K' w' B t s p r c next now L' M' D' q' T∧L'.length+D'.length<=L.length+D.length∧Mv (fun u=>t<=u∧u<=t+16) w w' K K'):=by
 obtain ⟨S,hS⟩:∃ y,w.heap.size=y:=⟨_,rfl⟩;obtain ⟨ds,hds⟩:∃ ds:ByteArray,(⟨data.toArray⟩:ByteArray)=ds:=⟨_,rfl⟩;obtain ⟨w0,hw0⟩:∃ y,w.alloc (.cells #[iI src,iI dst,.string ds] 78)=y:=⟨_,rfl⟩;have B0:Below w.heap.size w w0:=by rw [<- hw0];exact (Below.refl _ _).alloc (Nat.le_refl _) _
 have k0:w0.heap[S]?=some (.cells #[iI src,iI dst,.string ds] 78):=by rw [<- hw0,<- hS];exact (MapKept.heap_alloc w _).1
 have b0:Below w.heap.size w w0.drew:=B0.trans ((zdb w0 1).mono B0.size);obtain ⟨K0,hK0⟩:∃ y,ext w K (fun _=>t+23)=y:=⟨_,rfl⟩;have h0:SI K0 w0.drew B t s p r c next now L M D q T:=by rw [<- hK0];exact h.below b0 _
 have m0:Mv (fun _=>False) w w0.drew K K0:=by rw [<- hK0];exact Mv.of_below b0 K _
 have hKS:K0 S=t+23:=by rw [<- hK0];exact za2 (Nat.le_of_eq hS)
 have hk0:w0.drew.heap[S]?=some (.cells #[iI src,iI dst,.string ds] 78):=k0;obtain ⟨vt,sb,_⟩:=h0.me;have s0:w0.drew.cell? ⟨s,0,none⟩=some (ptr p)∧w0.drew.cell? ⟨s,1,none⟩=some (ptr r)∧w0.drew.cell? ⟨S,0,none⟩=some (iI src)∧w0.drew.cell? ⟨S,1,none⟩=some (iI dst)∧w0.drew.cell? ⟨S,2,none⟩=some (.string ds):=⟨zaa sb.at_ rfl,zaa sb.at_ rfl,zaa hk0 rfl,zaa hk0 rfl,zaa hk0 rfl⟩;have HS:Hid (∀ u Ku,Mv (fun u=>t<=u∧u<=t+16) w0.drew u K0 Ku->u.cell? ⟨s,0,none⟩=some (ptr p)∧u.cell? ⟨s,1,none⟩=some (ptr r)∧u.cell? ⟨S,0,none⟩=some (iI src)∧u.cell? ⟨S,1,none⟩=some (iI dst)∧u.cell? ⟨S,2,none⟩=some (.string ds)):=fun u Ku m=>by
  have sb':=sb.mv m (by omega);have k' : u.heap[S]?=some (.cells #[iI src,iI dst,.string ds] 78):=(m.kept S (Array.getElem?_eq_some_iff.1 hk0).1 (by rw [hKS];omega)).trans hk0;exact ⟨zaa sb'.at_ rfl,zaa sb'.at_ rfl,zaa k' rfl,zaa k' rfl,zaa k' rfl⟩
 have HP:=hid (h0.hear_any src dst data hlen);have HM:=hid m0;rw [hds] at HP;rw [hds];clear h B0 k0 b0 h0 m0 hKS hk0 hds hlen hK0 sb;go_enter Tryz.func33,Tryz.ntmps33
 go_wp2_with fail
 refine zah (S:=fun w'=>w'.cell? ⟨s,0,none⟩=some (ptr p)∧w'.cell? ⟨s,1,none⟩=some (ptr r)∧w'.cell? ⟨S,0,none⟩=some (iI src)∧w'.cell? ⟨S,1,none⟩=some (iI dst)∧w'.cell? ⟨S,2,none⟩=some (.string ds)) (n:=6) (by kernel_rfl) rfl (by kernel_rfl) (by kernel_rfl) ?_ (fun hHeld=>?_)
 · exact s0
 refine tk 0 ?_ rfl ?_ ?_;rotate_left
 · (intro w hs;(try dsimp only at hs);go_simp;try with_reducible rfl)
 try simp only [gA,gB,gC,Act.put,gE,gF,gG]
 refine tk 1 ?_ rfl ?_ ?_;rotate_left
 · (intro w hs;(try dsimp only at hs);go_simp;try with_reducible rfl)
 try simp only [gA,gB,gC,Act.put,gE,gF,gG]
 refine tk 2 ?_ rfl ?_ ?_;rotate_left
 · (intro w hs;(try dsimp only at hs);go_simp;try with_reducible rfl)
 try simp only [gA,gB,gC,Act.put,gE,gF,gG]
 refine tk 3 ?_ rfl ?_ ?_;rotate_left
 · (intro w hs;(try dsimp only at hs);go_simp;try with_reducible rfl)
 try simp only [gA,gB,gC,Act.put,gE,gF,gG]
 refine tk 4 ?_ rfl ?_ ?_;rotate_left
 · (intro w hs;(try dsimp only at hs);go_simp;try with_reducible rfl)
 try simp only [gA,gB,gC,Act.put,gE,gF,gG]
 refine rd 5 rfl (fun KK hK=>?_);go_simp
 refine HP.out.mono ?_;rintro _ w1 ⟨z,rfl,H1⟩;obtain ⟨K1,m1,H2⟩:=H1.out;refine hK.out _ _ ?_ (fun hHeld1=>?_)
 · exact HS.out w1 K1 (m1.mono (fun u e=>by omega))
 clear hK hHeld;try simp only [gA,gB,gC,Act.put,gE,gF,gG]
 refine wpAnyH_done (by kernel_rfl) ?_ _;refine zbx.done ?_;refine wpOp_step (i:=6) rfl (fun KK hK=>?_);have HK:=hid hK;clear hK;go_simp
 refine HK.out _ _ ?_;clear HK;have HD:=hid (H2 w1.drew (zdb w1 1));have s1:w1.drew.cell? ⟨s,0,none⟩=some (ptr p)∧w1.drew.cell? ⟨s,1,none⟩=some (ptr r)∧w1.drew.cell? ⟨S,0,none⟩=some (iI src)∧w1.drew.cell? ⟨S,1,none⟩=some (iI dst)∧w1.drew.cell? ⟨S,2,none⟩=some (.string ds):=HS.out w1.drew K1 ((m1.mono (fun u e=>by omega)).trans (Mv.drew _ w1 K1));have Aa:Hid (∀ u,(∃ Ku,Mv (fun u=>t<=u∧u<=t+16) w0.drew u K0 Ku)->u.cell? ⟨s,0,none⟩=some (ptr p)∧u.cell? ⟨s,1,none⟩=some (ptr r)∧u.cell? ⟨S,0,none⟩=some (iI src)∧u.cell? ⟨S,1,none⟩=some (iI dst)∧u.cell? ⟨S,2,none⟩=some (.string ds)):=fun u ⟨Ku,m⟩=>HS.out u Ku m;clear H2 m1 hHeld1 s0 HP HS;go_wp2_with fail
 refine zah (S:=fun w'=>w'.cell? ⟨s,0,none⟩=some (ptr p)∧w'.cell? ⟨s,1,none⟩=some (ptr r)∧w'.cell? ⟨S,0,none⟩=some (iI src)∧w'.cell? ⟨S,1,none⟩=some (iI dst)∧w'.cell? ⟨S,2,none⟩=some (.string ds)) (n:=8) (by kernel_rfl) rfl (by kernel_rfl) (by kernel_rfl) ?_ (fun hHeld2=>?_)
 · exact s1
 refine tk 0 ?_ rfl ?_ ?_;rotate_left
 · (intro w hs;(try dsimp only at hs);go_simp;try with_reducible rfl)
 try simp only [gA,gB,gC,Act.put,gE,gF,gG]
 refine tk 1 ?_ rfl ?_ ?_;rotate_left
 · (intro w hs;(try dsimp only at hs);go_simp;try with_reducible rfl)
 try simp only [gA,gB,gC,Act.put,gE,gF,gG]
 refine tk 2 ?_ rfl ?_ ?_;rotate_left
 · (intro w hs;(try dsimp only at hs);go_simp;try with_reducible rfl)
 try simp only [gA,gB,gC,Act.put,gE,gF,gG]
 refine tk 3 ?_ rfl ?_ ?_;rotate_left
 · (intro w hs;(try dsimp only at hs);go_simp;try with_reducible rfl)
 try simp only [gA,gB,gC,Act.put,gE,gF,gG]
 refine tk 4 ?_ rfl ?_ ?_;rotate_left
 · (intro w hs;(try dsimp only at hs);go_simp;try with_reducible rfl)
 try simp only [gA,gB,gC,Act.put,gE,gF,gG]
 refine tk 5 ?_ rfl ?_ ?_;rotate_left
 · (intro w hs;(try dsimp only at hs);go_simp;try with_reducible rfl)
 try simp only [gA,gB,gC,Act.put,gE,gF,gG]
 refine rd 6 rfl (fun KK hK=>?_);go_simp
 refine HD.out.mono ?_;rintro _ w2 ⟨rfl,H3⟩;refine hK.out _ _ ?_ (fun hHeld3=>?_)
 · exact Aa.out w2 (by obtain ⟨K3,_,_,_,_,_,_,m3⟩:=H3.out;exact ⟨K3,m3⟩)
 clear hK hHeld2;try simp only [gA,gB,gC,Act.put,gE,gF,gG]
 refine tk 7 ?_ rfl ?_ ?_;rotate_left
 · (intro w hs;(try dsimp only at hs);go_simp;try with_reducible rfl)
 try simp only [gA,gB,gC,Act.put,gE,gF,gG]
 refine wpAnyH_done (by kernel_rfl) ?_ _;refine zbx.done ?_;refine wpOp_step (i:=8) rfl (fun KK hK=>?_);have HK:=hid hK;clear hK;go_simp
 refine HK.out _ _ ?_;clear HK;clear hHeld3 s1 Aa HD;go_wp2;go_ret;refine ⟨by simp,?_⟩;obtain ⟨K3,L',M',D',q',h3,hl,m3⟩:=H3.out;exact ⟨K3,L',M',D',q',h3,hl,(HM.out.mono (fun _ e=>e.elim)).trans m3⟩
end
end Go.Proofs.YtfcbjcebkahehaaGreatDoor.Cl
namespace Go.Proofs.YtfcbjcebkahehaaGreatDoor.Cl
open Go.RowKit
theorem zdr.side {w w' : World} {c:Cf} {s:Nat} (h:zdr w w' c s) (hok:okC c=true) (be:Below w.heap.size w w') {K:Nat->Nat} {B t:Nat} (hB:B<=w.heap.size) (hK:∀ b,b<B->K b<t) (b1:1<B) (hT:ErrT w):∃ K' p r q,SI K' w' B t s p r c c.first 0 [] [] [] q []∧Mv (fun _=>False) w w' K K':=by
 rcases h with ⟨h,_⟩|⟨_,p,r,w4,w5,w6,g,hc,hd,b4,g0,g1,kp,hs,ks⟩
 · rw [h] at hok;cases hok
 obtain ⟨q1,oa1,cap1,a1,a2,a3,a4,a5,a6,a7⟩:=hc.cl;obtain ⟨q2,oa2,cap2,d1,d2,d3,d4,d5,d6,_,d8,d9⟩:=hd.cl;have hp:=hc.new;have hr:=hd.new;have z4:=b4.size;have z5:=hc.be.size;have z6:=hd.be.size;have lp:p<w5.heap.size:=(Array.getElem?_eq_some_iff.1 a1).1;have lq:q1<w5.heap.size:=(Array.getElem?_eq_some_iff.1 a2).1;have lr:r<w6.heap.size:=(Array.getElem?_eq_some_iff.1 d1).1;have k5:∀ b,w4.heap.size<=b->b<w5.heap.size->w'.heap[b]?=w5.heap[b]?:=fun b h1 h2=>(kp b (by omega) (by omega)).trans (hd.be.block b h2);have k6:∀ b,w4.heap.size<=b->b<w6.heap.size->w'.heap[b]?=w6.heap[b]?:=fun b h1 h2=>kp b h2 (by omega);obtain ⟨N,hN⟩:∃ N:Nat->Nat,N=fun b=>if b=s then t+22 else if b=p then t else if b=q1 then t+5 else if b=r then t+10 else if b=q2 then t+15 else if b<w5.heap.size then t+6 else t+16:=⟨_,rfl⟩;have Ns:N s=t+22:=by rw [hN];simp
 have Np:N p=t:=by rw [hN];show (if _=s then _ else _)=_;rw [if_neg (by omega),if_pos rfl]
 have Nq:N q1=t+5:=by rw [hN];show (if _=s then _ else _)=_;rw [if_neg (by omega),if_neg (Ne.symm a6),if_pos rfl]
 have Nr:N r=t+10:=by rw [hN];show (if _=s then _ else _)=_;rw [if_neg (by omega),if_neg (by omega),if_neg (by omega),if_pos rfl]
 have Nq2:N q2=t+15:=by rw [hN];show (if _=s then _ else _)=_;rw [if_neg (by omega),if_neg (by omega),if_neg (by omega),if_neg (by omega),if_pos rfl]
 have m:=Mv.of_below be K N;have e:∀ b,w.heap.size<=b->ext w K N b=N b:=fun b hb=>za2 hb;have hBe:∀ b,b<B->ext w K N b<t:=fun b hb=>by rw [zbd (Nat.lt_of_lt_of_le hb hB)];exact hK b hb
 refine ⟨ext w K N,p,r,⟨q1,false,0,0⟩,⟨⟨.slice none 0 0,⟨ks,by rw [e s (by omega)];exact Ns⟩,RW.nil _ _ _ _ _ _ _⟩,⟨oa1,cap1,.slice none 0 0,.slice none 0 0,?_⟩,⟨oa2,cap2,.slice none 0 0,.slice none 0 0,q2,?_⟩,.nil,trivial,by omega,?_,fun x hx=>(by cases hx),by simp⟩,m⟩
 · refine ⟨⟨(k5 p hp lp).trans a1,by rw [e p (by omega)];exact Np⟩,RW.nil _ _ _ _ _ _ _,RW.nil _ _ _ _ _ _ _,fun x hx=>by simp at hx,by simp,⟨⟨(k5 q1 a5 lq).trans a2,by rw [e q1 (by omega)];exact Nq⟩,⟨Nat.zero_le _,Nat.zero_le _,fun _=>⟨rfl,rfl⟩⟩⟩,?_,a3,hok,Nat.le_trans hB be.size,hT.below be,hBe,b1⟩;intro h0;obtain ⟨q0,off,e1,e2,e3,e4⟩:=a4 h0;have hn:=a7 _ e1;refine ⟨q0,off,e1,?_,by have:=(Array.getElem?_eq_some_iff.1 ks).1;omega,fun i hi=>?_⟩
   · rw [e q0 (by omega),hN];show (if _=s then _ else _)=_;rw [if_neg (by omega),if_neg hn.2.2.1,if_neg hn.2.2.2,if_neg (by omega),if_neg (by omega),if_pos e3]
   · rw [World.cell?_of_block (a:=⟨q0,off+i,none⟩) (k5 q0 e2 e3)];exact e4 i hi
 · refine ⟨⟨(k6 r (by omega) lr).trans d1,by rw [e r (by omega)];exact Nr⟩,RW.nil _ _ _ _ _ _ _,RW.nil _ _ _ _ _ _ _,⟨⟨(k6 q2 (by omega) (by omega)).trans d2,by rw [e q2 (by omega)];exact Nq2⟩,⟨Nat.zero_le _,Nat.zero_le _,fun _=>⟨rfl,rfl⟩⟩⟩,?_,d3,hok,Nat.le_trans hB be.size,fun b hb=>by have:=hBe b hb;omega⟩;intro h0;obtain ⟨q0,off,e1,e2,e3,e4⟩:=d4 h0;have hn:=d9 h0 _ e1;have hn' : q0<q2:=hn;refine ⟨q0,off,e1,?_,by have:=(Array.getElem?_eq_some_iff.1 ks).1;omega,fun i hi=>?_⟩
   · rw [e q0 (by omega),hN];show (if _=s then _ else _)=_;rw [if_neg (by omega),if_neg (by omega),if_neg (by omega),if_neg (by omega),if_neg (by omega),if_neg (by omega)]
   · rw [World.cell?_of_block (a:=⟨q0,off+i,none⟩) (k6 q0 (by omega) e3)];exact e4 i hi
 · have h1:=hok;unfold okC at h1;simp only [Bool.and_eq_true,decide_eq_true_eq,inB] at h1;omega
end Go.Proofs.YtfcbjcebkahehaaGreatDoor.Cl
