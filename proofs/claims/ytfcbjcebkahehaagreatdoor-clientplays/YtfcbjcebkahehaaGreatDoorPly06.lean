import Derived.Test.YtfcbjcebkahehaaGreatDoorPly05
import Derived.Test.YtfcbjcebkahehaaGreatDoorPly02
import Derived.StillTail
import Derived.Deep.RegionWith
import Derived.Deep.RegionHeldLaw
import Derived.Lib.SliceRun
import Derived.Deep.RegionLaw
set_option maxRecDepth 8000
set_option maxHeartbeats 20000000
set_option linter.unusedSimpArgs false
namespace Go.Proofs.YtfcbjcebkahehaaGreatDoor.Cl
open Go.RowKit
def zh9 (dst prog vers proc:Int):Bool:=inB dst 1 16777215&&(inB prog 0 4294967295&&(inB vers 0 4294967295&&inB proc 0 4294967295))
def refP (win next water dst prog vers proc:Int) (n:Nat):Int :=
 if zh9 dst prog vers proc then (if 1000<n∨n % 4≠0 then 173 else if win<=next - water then 171 else if 4294967295<next then 172 else 0) else 1
section
variable {K K' : Nat->Nat} {w w' : World} {B t p:Nat} {c:Cf} {oa:Option Addr} {cap:Nat} {next now:Int} {L:List Wt} {D:List Oc} {vw vd:Value} {q:Mq}
theorem PC.refuse_any (h:PC K w B t p c oa cap next now L D vw vd q) (dst prog vers proc:Int) (s:ByteArray) (hx:-1000000000000<=next∧next<=1000000000000) (hy:-1000000000000<=zaz next L∧zaz next L<=1000000000000) :
 Calls Tryz.prog 54 #[ptr p,iI dst,iI prog,iI vers,iI proc,.string s] w fun e w'=>e=.returned (iI (refP c.win next (zaz next L) dst prog vers proc s.size))∧∃ k,w'=w.drewN k:=by
 obtain ⟨b1,hb1⟩:∃ b,inB dst 1 16777215=b:=⟨_,rfl⟩;obtain ⟨b2,hb2⟩:∃ b,inB prog 0 4294967295=b:=⟨_,rfl⟩;obtain ⟨b3,hb3⟩:∃ b,inB vers 0 4294967295=b:=⟨_,rfl⟩;obtain ⟨b4,hb4⟩:∃ b,inB proc 0 4294967295=b:=⟨_,rfl⟩;have H1:Hid (∀ w,Calls Tryz.prog 72 #[iI dst] w fun e w'=>e=.returned (.bool b1)∧w'=w):=fun w=>by rw [<- hb1];exact zgi w _
 have H2:Hid (∀ w,Calls Tryz.prog 92 #[iI prog] w fun e w'=>e=.returned (.bool b2)∧w'=w):=fun w=>by rw [<- hb2];exact zc5 w _
 have H3:Hid (∀ w,Calls Tryz.prog 92 #[iI vers] w fun e w'=>e=.returned (.bool b3)∧w'=w):=fun w=>by rw [<- hb3];exact zc5 w _
 have H4:Hid (∀ w,Calls Tryz.prog 92 #[iI proc] w fun e w'=>e=.returned (.bool b4)∧w'=w):=fun w=>by rw [<- hb4];exact zc5 w _
 obtain ⟨wa,hwa⟩:∃ wa,zaz next L=wa:=⟨_,rfl⟩;have HW:Hid (∀ i,Calls Tryz.prog 23 #[ptr p] (w.drewN i) fun e w'=>e=.returned (iI wa)∧w'=w.drewN i):=fun i=>by rw [<- hwa];exact (h.to (zak w K i) (fun _ e=>e.elim)).water_any
 rw [hwa] at hy ⊢;have c3:w.cell? ⟨p,3,none⟩=some (iI c.win):=h.ce rfl;have c12:w.cell? ⟨p,12,none⟩=some (iI next):=h.ce rfl;obtain ⟨n,hn⟩:∃ n,s.size=n:=⟨_,rfl⟩;have href:refP c.win next wa dst prog vers proc n=if (b1&&(b2&&(b3&&b4))) then (if 1000<n∨n % 4≠0 then 173 else if c.win<=next - wa then 171 else if 4294967295<next then 172 else 0) else 1:=by
  unfold refP zh9;rw [hb1,hb2,hb3,hb4]
 obtain ⟨R,hR⟩:∃ R,refP c.win next wa dst prog vers proc n=R:=⟨_,rfl⟩;rw [hn,hR];rw [hR] at href;have HF:=hid href;have hsub:wrap64 (next - wa)=next - wa:=by unfold wrap64;omega
 have hsub2:IntKind.i64.wrap (next - wa)=next - wa:=by rw [IntWalk.i64_left];exact hsub
 obtain ⟨df,hdf⟩:∃ df,next - wa=df:=⟨_,rfl⟩;rw [hdf] at hsub hsub2 HF;have hlen:s.size=n:=hn;clear h hb1 hb2 hb3 hb4 hwa href hx hy;have Aa:Hid (∃ k,w=w.drewN k):=⟨0,rfl⟩;cases b1
 · have hv:R=1:=by have:=HF.out;simpa using this
   subst hv;clear HF;go_enter Tryz.func54,Tryz.ntmps54
   go_wp2_with fail
   refine (H1.out _).mono ?_;rintro _ v1 ⟨rfl,hv1⟩;rw [hv1];clear hv1 v1;go_wp2;go_ret;exact ⟨rfl,Aa.out⟩
 · cases b2
   · have hv:R=1:=(by have:=HF.out;simpa using this);subst hv;clear HF;(go_enter Tryz.func54,Tryz.ntmps54);(go_wp2_with fail);refine (H1.out _).mono ?_;rintro _ v1 ⟨rfl,hv1⟩;rw [hv1];clear hv1 v1;(go_wp2_with fail);refine (H2.out _).mono ?_;rintro _ v2 ⟨rfl,hv2⟩;rw [hv2];clear hv2 v2;go_wp2;go_ret;exact ⟨rfl,Aa.out⟩
   · cases b3
     · have hv:R=1:=(by have:=HF.out;simpa using this);subst hv;clear HF;(go_enter Tryz.func54,Tryz.ntmps54);(go_wp2_with fail);refine (H1.out _).mono ?_;rintro _ v1 ⟨rfl,hv1⟩;rw [hv1];clear hv1 v1;(go_wp2_with fail);refine (H2.out _).mono ?_;rintro _ v2 ⟨rfl,hv2⟩;rw [hv2];clear hv2 v2;(go_wp2_with fail);refine (H3.out _).mono ?_;rintro _ v3 ⟨rfl,hv3⟩;rw [hv3];clear hv3 v3;go_wp2;go_ret;exact ⟨rfl,Aa.out⟩
     · cases b4
       · have hv:R=1:=(by have:=HF.out;simpa using this);subst hv;clear HF;(go_enter Tryz.func54,Tryz.ntmps54);(go_wp2_with fail);refine (H1.out _).mono ?_;rintro _ v1 ⟨rfl,hv1⟩;rw [hv1];clear hv1 v1;(go_wp2_with fail);refine (H2.out _).mono ?_;rintro _ v2 ⟨rfl,hv2⟩;rw [hv2];clear hv2 v2;(go_wp2_with fail);refine (H3.out _).mono ?_;rintro _ v3 ⟨rfl,hv3⟩;rw [hv3];clear hv3 v3;(go_wp2_with fail);refine (H4.out _).mono ?_;rintro _ v4 ⟨rfl,hv4⟩;rw [hv4];clear hv4 v4;go_wp2;go_ret;exact ⟨rfl,Aa.out⟩
       · simp only [Bool.and_self,if_true] at HF;obtain ⟨m4,hm4⟩:∃ m,n % 4=m:=⟨_,rfl⟩;have hr4:Int.tmod (n:Int) 4=(m4:Int):=(by rw [<- hm4];exact (Int.ofNat_tmod n 4));rw [hm4] at HF;by_cases h1:1000<n
         · have d1:decide ((1000:Int)<(n:Int))=true:=(by simp;omega);have hv:R=173:=(by have:=HF.out;rw [if_pos (.inl h1)] at this;exact this);subst hv;clear HF;(go_enter Tryz.func54,Tryz.ntmps54);(go_wp2_with fail);refine (H1.out _).mono ?_;rintro _ v1 ⟨rfl,hv1⟩;rw [hv1];clear hv1 v1;(go_wp2_with fail);refine (H2.out _).mono ?_;rintro _ v2 ⟨rfl,hv2⟩;rw [hv2];clear hv2 v2;(go_wp2_with fail);refine (H3.out _).mono ?_;rintro _ v3 ⟨rfl,hv3⟩;rw [hv3];clear hv3 v3;(go_wp2_with fail);refine (H4.out _).mono ?_;rintro _ v4 ⟨rfl,hv4⟩;rw [hv4];clear hv4 v4;go_wp2;go_ret;exact ⟨rfl,Aa.out⟩
         · have d1:decide ((1000:Int)<(n:Int))=false:=(by simp;omega);by_cases h2:m4=0
           · have d2:((m4:Int)==0)=true:=(by rw [h2];rfl);have hni:¬ (1000<n∨m4≠0):=(by omega);by_cases h3:c.win<=df
             · have d3:decide (c.win<=df)=true:=(by simp [h3]);have hv:R=171:=(by have:=HF.out;rw [if_neg hni,if_pos h3] at this;exact this);subst hv;clear HF;(go_enter Tryz.func54,Tryz.ntmps54);(go_wp2_with fail);refine (H1.out _).mono ?_;rintro _ v1 ⟨rfl,hv1⟩;rw [hv1];clear hv1 v1;(go_wp2_with fail);refine (H2.out _).mono ?_;rintro _ v2 ⟨rfl,hv2⟩;rw [hv2];clear hv2 v2;(go_wp2_with fail);refine (H3.out _).mono ?_;rintro _ v3 ⟨rfl,hv3⟩;rw [hv3];clear hv3 v3;(go_wp2_with fail);refine (H4.out _).mono ?_;rintro _ v4 ⟨rfl,hv4⟩;rw [hv4];clear hv4 v4;(go_wp2_with fail);go_quiet ((go_at_call 23;exact Calls.quiet_of_same (HW.out _)))
               go_wp2;go_ret;exact ⟨rfl,_,rfl⟩
             · have d3:decide (c.win<=df)=false:=(by simp;omega);by_cases h4:4294967295<next
               · have d4:decide (4294967295<next)=true:=(by simp [h4]);have hv:R=172:=(by have:=HF.out;rw [if_neg hni,if_neg h3,if_pos h4] at this;exact this);subst hv;clear HF;(go_enter Tryz.func54,Tryz.ntmps54);(go_wp2_with fail);refine (H1.out _).mono ?_;rintro _ v1 ⟨rfl,hv1⟩;rw [hv1];clear hv1 v1;(go_wp2_with fail);refine (H2.out _).mono ?_;rintro _ v2 ⟨rfl,hv2⟩;rw [hv2];clear hv2 v2;(go_wp2_with fail);refine (H3.out _).mono ?_;rintro _ v3 ⟨rfl,hv3⟩;rw [hv3];clear hv3 v3;(go_wp2_with fail);refine (H4.out _).mono ?_;rintro _ v4 ⟨rfl,hv4⟩;rw [hv4];clear hv4 v4;(go_wp2_with fail);go_quiet ((go_at_call 23;exact Calls.quiet_of_same (HW.out _)))
                 go_wp2;go_ret;exact ⟨rfl,_,rfl⟩
               · have d4:decide (4294967295<next)=false:=(by simp;omega);have hv:R=0:=(by have:=HF.out;rw [if_neg hni,if_neg h3,if_neg h4] at this;exact this);subst hv;clear HF;(go_enter Tryz.func54,Tryz.ntmps54);(go_wp2_with fail);refine (H1.out _).mono ?_;rintro _ v1 ⟨rfl,hv1⟩;rw [hv1];clear hv1 v1;(go_wp2_with fail);refine (H2.out _).mono ?_;rintro _ v2 ⟨rfl,hv2⟩;rw [hv2];clear hv2 v2;(go_wp2_with fail);refine (H3.out _).mono ?_;rintro _ v3 ⟨rfl,hv3⟩;rw [hv3];clear hv3 v3;(go_wp2_with fail);refine (H4.out _).mono ?_;rintro _ v4 ⟨rfl,hv4⟩;rw [hv4];clear hv4 v4;(go_wp2_with fail);go_quiet ((go_at_call 23;exact Calls.quiet_of_same (HW.out _)))
                 go_wp2;go_ret;exact ⟨rfl,_,rfl⟩
           · have d2:((m4:Int)==0)=false:=(by simp;omega);have hv:R=173:=(by have:=HF.out;rw [if_pos (.inr h2)] at this;exact this);subst hv;clear HF;(go_enter Tryz.func54,Tryz.ntmps54);(go_wp2_with fail);refine (H1.out _).mono ?_;rintro _ v1 ⟨rfl,hv1⟩;rw [hv1];clear hv1 v1;(go_wp2_with fail);refine (H2.out _).mono ?_;rintro _ v2 ⟨rfl,hv2⟩;rw [hv2];clear hv2 v2;(go_wp2_with fail);refine (H3.out _).mono ?_;rintro _ v3 ⟨rfl,hv3⟩;rw [hv3];clear hv3 v3;(go_wp2_with fail);refine (H4.out _).mono ?_;rintro _ v4 ⟨rfl,hv4⟩;rw [hv4];clear hv4 v4;go_wp2;go_ret;exact ⟨rfl,Aa.out⟩
end
theorem NewC.pc {w w' : World} {c:Cf} {p:Nat} (h:NewC w w' c p) (K:Nat->Nat) (B t:Nat) (hB:B<=w.heap.size) (b1:1<B) (hK:∀ b,b<B->K b<t) (hok:okC c=true) (hT:ErrT w) :
 ∃ K' q oa cap,PC K' w' B t p c oa cap c.first 0 [] [] (.slice none 0 0) (.slice none 0 0) q∧Mv (fun _=>False) w w' K K':=by
 obtain ⟨q,oa,cap,e1,e2,e3,e4,e5,e6,e7⟩:=h.cl;have hp:=h.new;have hlp:p<w'.heap.size:=(Array.getElem?_eq_some_iff.1 e1).1;refine ⟨ext w K (fun b=>if b=p then t else if b=q then t+5 else t+6),⟨q,false,0,0⟩,oa,cap,⟨⟨e1,?_⟩,RW.nil _ _ _ _ _ _ _,RW.nil _ _ _ _ _ _ _,fun x hx=>by simp at hx,by simp,⟨⟨e2,?_⟩,Nat.zero_le _,Nat.zero_le _,fun _=>⟨rfl,rfl⟩⟩,?_,e3,hok,Nat.le_trans hB h.be.size,hT.below h.be,fun b hb=>?_,b1⟩,Mv.of_below h.be K _⟩
 · rw [za2 hp,if_pos rfl]
 · rw [za2 e5,if_neg (Ne.symm e6),if_pos rfl]
 · intro h0;obtain ⟨g,off,a1,a2,a3,a4⟩:=e4 h0;refine ⟨g,off,a1,?_,a3,a4⟩;have hn:=e7 _ a1;rw [za2 a2,if_neg hn.2.2.1,if_neg hn.2.2.2]
 · rw [zbd (Nat.lt_of_lt_of_le hb hB)];exact hK b hb
theorem three (W:World) (a b d:Obj):(((W.alloc a).alloc b).alloc d).heap[W.heap.size]?=some a∧(((W.alloc a).alloc b).alloc d).heap[W.heap.size+1]?=some b∧(((W.alloc a).alloc b).alloc d).heap[W.heap.size+1+1]?=some d:=by
 have s1:(W.alloc a).heap.size=W.heap.size+1:=by simp
 have s2:((W.alloc a).alloc b).heap.size=W.heap.size+1+1:=by simp
 have h1:=(MapKept.heap_alloc W a).1;have h2:=(MapKept.heap_alloc (W.alloc a) b).1;have h3:=(MapKept.heap_alloc ((W.alloc a).alloc b) d).1;rw [s1] at h2;rw [s2] at h3;exact ⟨(Below.heap_alloc _ _ _ (by omega)).trans ((Below.heap_alloc _ _ _ (by omega)).trans h1),(Below.heap_alloc _ _ _ (by omega)).trans h2,h3⟩
theorem info109:∃ i:TypeInfo,Tryz.prog.info? 109=some i∧i.zero=some (.pointer none)∧i.size=1∧i.bytes=8 :=
 ⟨(Tryz.prog.info? 109).getD default,by kernel_rfl,by kernel_rfl,by kernel_rfl,by kernel_rfl⟩
theorem app94 {K:Nat->Nat} {w:World} {B t:Nat} {v:Value} {l:List Nat} (h:RW 109 1 ptrC K w B t v l) (hB:B<=w.heap.size) {N x:Nat} (hb:w.heap[N]?=some (.cells #[ptr x] 109 (0,0))) (hl:l.length<=100000000) :
 ∃ oa c w' K',(∀ r,(Builtin.append_ #[94,94] r #[v,.slice (some ⟨N,0,none⟩) 1 1]).run Tryz.prog w=.ok (.slice oa (l.length+1) c) w')∧RW 109 1 ptrC K' w' B t (.slice oa (l.length+1) c) (l++[x])∧Mv (fun x=>x=t) w w' K K':=by
 obtain ⟨i,hi,hz,hs,hby⟩:=info109;obtain ⟨v',w',K',q1,q2,q3⟩:=RW.app (ty:=94) Tryz.underlying94 hi hz hs hby rfl (by omega) ptrL ptrO h hB (N:=N) (x:=x) (cs:=#[ptr x]) rfl hb (by omega) (by omega);obtain ⟨oa,c,e,_,_⟩:=q2.form;rw [List.length_append,List.length_singleton] at e;subst e;exact ⟨oa,c,w',K',q1,q2,q3⟩
section
variable {K K' : Nat->Nat} {w w' : World} {B t p:Nat} {c:Cf} {oa:Option Addr} {cap:Nat} {next now:Int} {L:List Wt} {D:List Oc} {vw vd:Value} {q:Mq}
theorem PC.add {v:Value} {x:Wt} (h:PC K w B t p c oa cap next now L D vw vd q) (hx:WtAt K w t c oa cap x) (hn:∀ y∈L,y.b≠x.b) (R:RW 109 1 ptrC K' w' B (t+1) v (L.map Wt.b++[x.b])) (m:Mv (fun u=>u=t+1) w w' K K') :
 PC K' (w'.setCell ⟨p,14,none⟩ v) B t p c oa cap next now (L++[x]) D v vd q∧Mv (fun u=>u=t∨u=t+1) w (w'.setCell ⟨p,14,none⟩ v) K K':=by
 have cl:=h.cl.mv m (by omega);have m2:Mv (fun u=>u=t) w' (w'.setCell ⟨p,14,none⟩ v) K' K':=Mv.of_set w' K' ⟨p,14,none⟩ v cl.k;have mm:Mv (fun u=>u=t∨u=t+1) w (w'.setCell ⟨p,14,none⟩ v) K K':=(m.mono (fun u e=>.inr e)).trans (m2.mono (fun u e=>.inl e));have me:=h.me;refine ⟨⟨⟨zae cl.at_ 14 _,cl.k⟩,?_,h.dn.mv mm (by omega),fun y hy=>?_,?_,me.mv mm (by omega),h.gs.mv mm (by omega),h.gl,h.ok,Nat.le_trans h.hB mm.size,h.er mm (fun t' e=>by omega),h.h0' mm,h.b1⟩,mm⟩
 · rw [List.map_append];exact R.mv m2 (by omega)
 · rcases List.mem_append.1 hy with e|e
   · exact (h.cs y e).mv mm (by omega) (by omega)
   · (simp at e);subst e;exact hx.mv mm (by omega) (by omega)
 · rw [List.map_append,List.map_singleton];refine List.nodup_append.2 ⟨h.nd,by simp,fun a ha b hb=>?_⟩;simp at hb
   subst hb;obtain ⟨y,hy,rfl⟩:=List.mem_map.1 ha;exact hn y hy
theorem PC.upd {A R:List Wt} {x x' : Wt} (h:PC K w B t p c oa cap next now (A++x::R) D vw vd q) (hs:x'.b=x.b∧x'.bx=x.bx∧x'.bc=x.bc∧x'.bt=x.bt∧x'.bxB=x.bxB∧x'.dst=x.dst) (hb:w'.heap[x.b]?=some x'.blk) (hg:w.grownBy w' (some x.b)) :
 PC (ext w K (fun _=>t+7)) w' B t p c oa cap next now (A++x'::R) D vw vd q∧Mv (fun u=>u=t+3) w w' K (ext w K (fun _=>t+7)):=by
 have hx:=h.cs x (by simp);have m:Mv (fun u=>u=t+3) w w' K (ext w K (fun _=>t+7)):=Mv.of_grown hg K _ hx.me.k;have me:=h.me;have hmap:(A++x'::R).map Wt.b=(A++x::R).map Wt.b:=by simp [hs.1]
 have hnd:=h.nd;refine ⟨⟨h.cl.mv m (by omega),by rw [hmap];exact h.wr.mv m (by omega),h.dn.mv m (by omega),fun y hy=>?_,by rw [hmap];exact h.nd,me.mv m (by omega),h.gs.mv m (by omega),h.gl,h.ok,Nat.le_trans h.hB m.size,h.er m (fun t' e=>by omega),h.h0' m,h.b1⟩,m⟩;have old:∀ y∈A++x::R,y.b≠x.b->WtAt (ext w K (fun _=>t+7)) w' t c oa cap y:=fun y hy hne=>by
  have hy':=h.cs y hy;exact ⟨⟨(hg.block y.b hy'.me.lt (by simpa using hne)).trans hy'.me.at_,(m.old _ hy'.me.lt).trans hy'.me.k⟩,hy'.bx.mv m (by omega),hy'.bc.mv m (by omega),hy'.bt.mv m (by omega)⟩
 rw [List.map_append,List.map_cons] at hnd;have hnd2:=List.nodup_append.1 hnd;rcases List.mem_append.1 hy with e|e
 · refine old y (List.mem_append.2 (.inl e)) (fun e2=>?_);exact hnd2.2.2 y.b (List.mem_map.2 ⟨y,e,rfl⟩) x.b (by simp) e2
 · rcases List.mem_cons.1 e with e|e
   · subst e;obtain ⟨h1,h2,h3,h4,h5,h6⟩:=hs;refine ⟨⟨by rw [h1];exact hb,by rw [h1];exact (m.old _ hx.me.lt).trans hx.me.k⟩,?_,?_,?_⟩
     · rw [h2,h5];exact hx.bx.mv m (by omega)
     · rw [h3];exact hx.bc.mv m (by omega)
     · rw [h4,h6];exact hx.bt.mv m (by omega)
   · refine old y (List.mem_append.2 (.inr (List.mem_cons_of_mem _ e))) (fun e2=>?_);(have:=(List.nodup_cons.1 hnd2.2.1).1);exact this (e2 ▸ List.mem_map.2 ⟨y,e,rfl⟩)
end
section
variable {K:Nat->Nat} {w:World} {B t p:Nat} {c:Cf} {oa:Option Addr} {cap:Nat} {next now:Int} {L:List Wt} {D:List Oc} {vw vd:Value} {q:Mq}
theorem PC.called (h:PC K w B t p c oa cap next now L D vw vd q) (x:Wt) {w7 w8 w9:World} {A:Nat} (b7:Below w.heap.size w w7) (hc:x.bc=w.heap.size∧x.bt=w.heap.size+1∧x.bx=w.heap.size+1+1) (k0:w7.heap[x.bc]?=some (cfB c oa cap)) (k1:w7.heap[x.bt]?=some (.cells #[iI x.dst] 3)) (k2:w7.heap[x.bx]?=some x.bxB)
 (hP:w7.heap.size=x.b) (hw8:w7.alloc x.blk=w8) {N9:Nat} (hN:w8.heap.size=N9) (hw9:w8.alloc (.cells #[ptr x.b] 109)=w9) (hl:L.length<=100000000) (hA:A<w.heap.size∧K A=t+7) :
 ∃ o c10 w10 K10,(∀ r,(Builtin.append_ #[94,94] r #[vw,.slice (some ⟨N9,0,none⟩) 1 1]).run Tryz.prog w9=.ok (.slice o (L.length+1) c10) w10)∧w10.heap[p]?=some (clB c oa cap next now vw vd q)∧w10.heap[A]?=w.heap[A]?∧A≠p ∧
  PC K10 (w10.setCell ⟨p,14,none⟩ (.slice o (L.length+1) c10)) B t p c oa cap next now (L++[x]) D (.slice o (L.length+1) c10) vd q∧Mv (fun u=>u=t∨u=t+1) w (w10.setCell ⟨p,14,none⟩ (.slice o (L.length+1) c10)) K K10:=by
 have hbx:x.bx<w7.heap.size:=(Array.getElem?_eq_some_iff.1 k2).1;have b8:Below w7.heap.size w7 w8:=by rw [<- hw8];exact (Below.refl _ _).alloc (Nat.le_refl _) _
 have b9:Below w7.heap.size w7 w9:=by rw [<- hw9];exact b8.alloc b8.size _
 have bw9:Below w.heap.size w w9:=b7.trans (b9.mono b7.size);obtain ⟨NF,hNF⟩:∃ NF:Nat->Nat,NF=fun b=>if b=x.b then t+3 else if b<x.b then t+4 else t+7:=⟨_,rfl⟩;have h9:=h.below bw9 NF;have m9:=Mv.of_below bw9 K NF;have kx:w9.heap[x.b]?=some x.blk:=by
  have e1:w8.heap[x.b]?=some x.blk:=by rw [<- hw8,<- hP];exact (MapKept.heap_alloc w7 _).1
  rw [<- hw9];exact (Below.heap_alloc _ _ _ (Array.getElem?_eq_some_iff.1 e1).1).trans e1
 have hx:WtAt (ext w K NF) w9 t c oa cap x:=by
  have hz:=b7.size;refine ⟨⟨kx,?_⟩,⟨(b9.block _ hbx).trans k2,?_⟩,⟨(b9.block _ (by omega)).trans k0,?_⟩,⟨(b9.block _ (by omega)).trans k1,?_⟩⟩
  · rw [za2 (by omega),hNF];simp
  · rw [za2 (by omega),hNF];simp only;rw [if_neg (by omega),if_pos (by omega)]
  · rw [za2 (by omega),hNF];simp only;rw [if_neg (by omega),if_pos (by omega)]
  · rw [za2 (by omega),hNF];simp only;rw [if_neg (by omega),if_pos (by omega)]
 obtain ⟨o,c10,w10,K10,r10,R10,m10⟩:=app94 h9.wr h9.hB (N:=N9) (x:=x.b) (by rw [<- hw9,<- hN];exact (MapKept.heap_alloc w8 _).1) (by rw [List.length_map];exact hl);rw [List.length_map] at r10 R10;have hz:=b7.size;obtain ⟨P10,mm⟩:=h9.add hx (fun y hy e=>by have:=(h.cs y hy).me.lt;omega) R10 m10;refine ⟨o,c10,w10,K10,r10,(h9.cl.mv m10 (by omega)).at_,?_,fun e=>?_,P10,(m9.mono (fun _ e=>e.elim)).trans mm⟩
 · exact (m10.kept A (Nat.lt_of_lt_of_le hA.1 bw9.size) (by rw [zbd hA.1,hA.2];omega)).trans (bw9.block A hA.1)
 · have h1:=hA.2;have h2:=h.cl.k;rw [e] at h1;omega
end
end Go.Proofs.YtfcbjcebkahehaaGreatDoor.Cl
namespace Go.Proofs.YtfcbjcebkahehaaGreatDoor
open Go
section
variable {P:Program} {ops:Array Oper} {Q:Exit->Act->World->Prop} {md:Region.Mode} {S:World->Prop}
def zbx (P:Program) (ops:Array Oper) (Q:Exit->Act->World->Prop) (n:Nat):Exit->Act->World->Prop
 | .normal,a,w=>wpOp P ops Q n (fun a' w'=>Q .normal a' w') a w
 | e,a,w=>Q e a w
theorem zbx.done {n:Nat} {a:Act} {w:World} (h:wpOp P ops Q n (fun a' w'=>Q .normal a' w') a w):zbx P ops Q n .normal a w:=h
theorem ze4 {n:Nat} (h:LetsOut (zbx P ops Q n)):LetsOut Q:=by
 obtain ⟨a,w,h⟩:=h;exact ⟨a,w,h⟩
theorem wpOp_last {n j:Nat} {a:Act} {w:World} {K:Act->World->Prop} (h:wpOp P ops (zbx P ops Q n) j K a w):wpOp P ops Q j K a w:=by
 unfold wpOp at *;cases hj:ops[j]? with
 | none=>rw [hj] at h;exact h
 | some o =>
  rw [hj] at h;simp only [] at h ⊢;split
  · rename_i hw;rw [if_pos hw] at h;rcases h with h|⟨h1,h2⟩
    · refine .inl ?_;unfold Oper.wp at *;cases hr:(execOp a.eval o).run P w with
      | ok x w' =>
       rw [hr] at h;cases x with
       | enter f args =>
        refine Calls.mono (show Calls P f args w' _ from h) fun e w'' he=>?_;cases e with
        | returned v=>exact he
        | panicked c=>exact he
        | outgrown=>exact ze4 he
       | _=>exact h
      | halt x w' =>
       rw [hr] at h;cases x <;> exact h
    · exact .inr ⟨h1,ze4 h2⟩
  · rename_i hw;rw [if_neg hw] at h;exact h
def lowB (md:Region.Mode) (ops:Array Oper):Bool:=(List.range ops.size).all fun j=>match ops[j]? with
 | some o=>o.after.all fun e=>!(Region.binds md e)||decide (e.on<j)
 | none=>true
theorem lowB_spec (h:lowB md ops=true) {j:Nat} {o:Oper} (ho:ops[j]?=some o) {e:_} (he:e∈o.after) (hb:Region.binds md e=true):e.on<j:=by
 have hj:j<ops.size:=(Array.getElem?_eq_some_iff.1 ho).1;have h1:=List.all_eq_true.1 h j (List.mem_range.2 hj);simp only [ho] at h1;have h2:=(Array.all_eq_true'.1 h1) e he;simpa [hb] using h2
theorem ready_ne (hl:lowB md ops=true) {listed:Array Bool} (hs:listed.size=ops.size):∀ i,listed.getD i true=false->i<ops.size->Region.ready md ops listed≠[]:=by
 intro i;induction i using Nat.strongRecOn with
 | _ i ih =>
  intro hi hlt h0;by_cases hall:∀ e∈(ops[i]).after,Region.binds md e=true->listed.getD e.on false=true
  · have:i∈Region.ready md ops listed:=mem_ready.2 ⟨hi,ops[i],Array.getElem?_eq_getElem hlt,hall⟩
    rw [h0] at this;cases this
  · simp only [Classical.not_forall] at hall;obtain ⟨e,he,hb,hn⟩:=hall;have hlow:=lowB_spec hl (Array.getElem?_eq_getElem hlt) he hb;refine ih e.on hlow ?_ (by omega) h0;exact getD_in (by omega) (by simpa using hn)
def Closed (md:Region.Mode) (ops:Array Oper) (listed:Array Bool):Prop:=∀ j oj,ops[j]?=some oj->listed.getD j false=true->∀ e∈oj.after,Region.binds md e=true->listed.getD e.on false=true
theorem Closed.set {listed:Array Bool} {i:Nat} (h:Closed md ops listed) (hi:i∈Region.ready md ops listed):Closed md ops (listed.setIfInBounds i true):=fun j oj hj hl e he hb=>by
 obtain ⟨_,oi,hoi,hall⟩:=mem_ready.1 hi;by_cases hij:i=j
 · subst hij;obtain rfl:oj=oi:=Option.some.inj (hj.symm.trans hoi);exact getD_set_true (hall e he hb)
 · rw [getD_set_ne false hij] at hl;exact getD_set_true (h j oj hj hl e he hb)
theorem wpAny_last {n:Nat} (hsz:ops.size=n+1) (hl:lowB md ops=true) (hw:Region.sinkB md ops n=true) :
 ∀ (fuel:Nat) (listed:Array Bool) (a:Act) (w:World),listed.size=n+1->listed.getD n true=false->Closed md ops listed->wpAnyH P md ops (zbx P ops Q n) S fuel (listed.setIfInBounds n true) a w->wpAny P md ops Q (fuel+1) listed a w:=by
 have r3:∀ {listed:Array Bool},listed.size=n+1->Closed md ops listed->n∈Region.ready md ops listed->Region.ready md ops (listed.setIfInBounds n true)=[]:=by
  intro listed hs hcl hn;obtain ⟨_,on,ho,hall⟩:=mem_ready.1 hn;have hbe:∀ d i,n - i=d->i<n->listed.getD i false=true:=by
   intro d;induction d using Nat.strongRecOn with
   | _ d ih =>
    intro i hd hi;have h1:=List.all_eq_true.1 hw i (List.mem_range.2 hi);obtain ⟨j,hj,hj2⟩:=List.any_eq_true.1 h1;simp only [Bool.and_eq_true,decide_eq_true_eq] at hj2;obtain ⟨oj,hoj,e,he,hb,hon⟩:=Region.waitsFor_spec hj2.2;have hjle:j<=n:=(by have:=List.mem_range.1 hj;omega);rw [<- hon];by_cases hjn:j=n
    · subst hjn;obtain rfl:oj=on:=Option.some.inj (hoj.symm.trans ho);exact hall e he hb
    · exact hcl j oj hoj (ih (n - j) (by omega) j rfl (by omega)) e he hb
  rw [List.eq_nil_iff_forall_not_mem];intro j hj;obtain ⟨h0,oj,hoj,_⟩:=mem_ready.1 hj;have hjs:j<n+1:=by have:=(Array.getElem?_eq_some_iff.1 hoj).1;omega
  by_cases hjn:j=n
  · subst hjn;simp [hs] at h0
  · rw [getD_set_ne true (Ne.symm hjn)] at h0;have h1:=hbe _ j rfl (by omega);rw [getD_both h0] at h1;cases h1
 intro fuel;induction fuel with
 | zero =>
  intro listed a w hs hn hcl h;refine ⟨fun h0=>absurd h0 (ready_ne hl (by omega) n hn (by omega)),fun i hi=>?_⟩;by_cases hin:i=n
  · subst hin;exact wpOp_mono (fun a' w' hq=>⟨h.1,hq⟩) h.2
  · (have:=ready_mono hi hin);rw [h.1] at this;cases this
 | succ fuel ih =>
  intro listed a w hs hn hcl h;refine ⟨fun h0=>absurd h0 (ready_ne hl (by omega) n hn (by omega)),fun i hi=>?_⟩;by_cases hin:i=n
  · subst hin;have h0:=r3 hs hcl hi;exact wpOp_mono (fun a' w' hq=>wpAny_done h0 hq _) (h.1 h0)
  · refine wpOp_mono (fun a' w' hh=>ih (listed.setIfInBounds i true) a' w' (by simpa using hs) (by rw [getD_set_ne true hin];exact hn) (hcl.set hi) ?_) (wpOp_last (h.2 i (ready_mono hi hin)));rw [Array.setIfInBounds_comm _ _ hin];exact hh.2
theorem zah {id:Nat} {a:Act} {w:World} {n:Nat} (hm:P.follows .mixedOrders=true) (hsz:ops.size=n+1) (hl:lowB .any ops=true) (hw:Region.sinkB .any ops n=true) (hS:S w.drew)
 (h:S w.drew->wpAnyH P .any ops (zbx P ops Q n) S n ((Array.replicate ops.size false).setIfInBounds n true) a w.drew):(Code.region id ops true).wp P Q a w:=by
 refine wp_region_any hm ?_;have:=wpAny_last (Q:=Q) (S:=S) hsz hl hw n (Array.replicate ops.size false) a w.drew (by simp [hsz]) (by simp [hsz]) (fun j oj _ hl=>by rw [getD_replicate_false] at hl;cases hl) (h hS)
 rw [hsz] at this ⊢;exact this
theorem gA {α:Type} {xs:List α} {i:Nat} (h:i<xs.toArray.size):xs.toArray[i]=xs[i]'(by simpa using h):=List.getElem_toArray h
theorem gB {α:Type} (a:α) (l:List α) (i:Nat) (h:i+1<(a::l).length):(a::l)[i+1]=l[i]'(by simpa using h):=rfl
theorem gC {α:Type} (a:α) (l:List α) (h:0<(a::l).length):(a::l)[0]=a:=rfl
theorem gE {α:Type} (l:List α) (i:Nat) (a:α):l.toArray.setIfInBounds i a=(l.set i a).toArray:=List.setIfInBounds_toArray l i a
theorem gF {α:Type} (x:α) (l:List α) (i:Nat) (a:α):(x::l).set (i+1) a=x::l.set i a:=rfl
theorem gG {α:Type} (x:α) (l:List α) (a:α):(x::l).set 0 a=a::l:=rfl
theorem tk (i:Nat) (v:Value) {oi:Oper} {fuel:Nat} {listed:Array Bool} {a:Act} {w:World} (hi:ops[i]?=some oi) (hy:∀ w,S w->(execOp a.eval oi).run P w=.ok (.value v) w) (h:wpAnyH P md ops Q S fuel (listed.setIfInBounds i true) (a.put oi.dst v) w) (hc:(Region.noSelect ops&&Region.free md ops listed i&&(Region.ready md ops listed).contains i)=true:=by kernel_rfl) (hQ:∀ c a w,Q (.panic c) (a.put oi.dst v) w->Q (.panic c) a w:=by exact fun _ _ _ h=>h) (hw:Region.wanted oi (yielded ops a.tmps)=true:=by rfl) (hS:S w:=by assumption):wpAnyH P md ops Q S (fuel+1) listed a w:=by
 simp only [Bool.and_eq_true] at hc;exact wpAnyH_take hi hc.1.1 hc.1.2 hc.2 hQ (Or.inl ⟨hw,hy⟩) hS h
theorem rd (i:Nat) {o:Oper} {fuel:Nat} {listed:Array Bool} {a:Act} {w:World} (ho:ops[i]?=some o) (h:∀ K' : Act->World->Prop,Shut (∀ (a:Act) (w:World),S w->(S w->wpAnyH P md ops Q S fuel (listed.setIfInBounds i true) a w)->K' a w)->if Region.wanted o (yielded ops a.tmps)=true then Oper.wp P o a w K' Q else K' (a.put o.dst undef) w) (hr:Region.ready md ops listed=[i]:=by kernel_rfl):wpAnyH P md ops Q S (fuel+1) listed a w:=wpAnyH_ready hr (by simp) (AllReadyH.cons ho h AllReadyH.nil)
end
end Go.Proofs.YtfcbjcebkahehaaGreatDoor
namespace Go.Proofs.YtfcbjcebkahehaaGreatDoor.Cl
set_option linter.unusedSimpArgs false
open Go.RowKit
abbrev zB:Obj:=.cells #[iI 0,iI 0,iI 0,iI 0,iI 0,iI 0,.string ⟨#[]⟩,iI 0,.string ⟨#[]⟩,.string ⟨#[]⟩] 108
theorem bld108 (next prog vers proc:Int) (s:ByteArray) (w:World):(Instr.build 108 #[(0,iI next),(1,iI 2),(2,iI prog),(3,iI vers),(4,iI proc),(7,.string s)]).run Tryz.prog w=.ok (.agg #[iI next,iI 2,iI prog,iI vers,iI proc,iI 0,.string ⟨#[]⟩,iI 0,.string ⟨#[]⟩,.string s]) w:=by kernel_rfl
theorem bld113 (seq dst due fin:Int) (a b d:Nat) (w:World):(Instr.build 113 #[(0,iI seq),(1,iI dst),(2,.func (.func 93) #[] #[ptr a,ptr b,ptr d]),(4,iI due),(5,iI fin)]).run Tryz.prog w=.ok (.agg #[iI seq,iI dst,.func (.func 93) #[] #[ptr a,ptr b,ptr d],iI 0,iI due,iI fin,iI 0,iI 0]) w:=by kernel_rfl
theorem bls94 (y:Nat) (w:World):(Instr.buildSlice 94 1 #[(0,ptr y)]).run Tryz.prog w=.ok (.slice (some ⟨w.heap.size,0,none⟩) 1 1) (w.alloc (.cells #[ptr y] 109)):=by kernel_rfl
def Wt.isNew (x:Wt) (dst prog vers proc:Int) (args:List UInt8) (now fin seq:Int):Prop:=x.dst=dst∧x.prog=prog∧x.vers=vers∧x.proc=proc∧x.args=args∧x.snd=0∧x.due=now∧x.fin=fin∧x.tms=0∧x.last=0∧x.seq=seq
section
variable {K K' : Nat->Nat} {w w' : World} {B t p:Nat} {c:Cf} {oa:Option Addr} {cap:Nat} {next now:Int} {L:List Wt} {D:List Oc} {vw vd:Value} {q:Mq}
theorem PC.call_any (h:PC K w B t p c oa cap next now L D vw vd q) (dst prog vers proc:Int) (args:List UInt8) (hx:-1000000000000<=next∧next<=1000000000000) (hy:-1000000000000<=zaz next L∧zaz next L<=1000000000000) (hr:refP c.win next (zaz next L) dst prog vers proc args.length=0) (hs:args.length<=281474976710656) (hL:L.length<=100000000) :
 Calls Tryz.prog 19 #[ptr p,iI dst,iI prog,iI vers,iI proc,.string ⟨args.toArray⟩] w fun e w'=>e=.returned (.tuple #[iI next,iI 0])∧∃ K' x vw' vd',PC K' w' B t p c oa cap (next+1) now (L++[x]) D vw' vd' q∧(∃ fin,IntKind.i64.wrap (now+Pc.totalP c.pb c.pc c.pt)=fin∧x.isNew dst prog vers proc args now fin next)∧Mv (fun u=>u=t∨u=t+1) w w' K K':=by
 obtain ⟨s,hs0⟩:∃ s:ByteArray,(⟨args.toArray⟩:ByteArray)=s:=⟨_,rfl⟩;have hsz:s.size=args.length:=by rw [<- hs0];simp [ByteArray.size]
 rw [<- hsz] at hr hs;rw [hs0];have Ag:Hid (wrap64 (next+1)=next+1):=by show _=_;unfold wrap64;omega
 have HR:=hid (h.refuse_any dst prog vers proc s hx hy);rw [hr] at HR;have Ah:Hid (∀ w',Calls Tryz.prog 45 #[.string s] w' fun e w''=>e=.returned (.string s)∧Below w'.heap.size w' w''):=fun w'=>zgf s w' hs;have HP:=hid h;have Ai:=hid hL;clear h hx hy hr hs hL hsz;go_enter Tryz.func19,Tryz.ntmps19
 go_wp2_with fail
 refine HR.out.mono ?_;rintro _ w1 ⟨rfl,k,hw1⟩;have Ae:Hid (PC K w1 B t p c oa cap next now L D vw vd q):=by
  rw [hw1];exact HP.out.to (zak w K k) (fun _ e=>e.elim)
 have c12:w1.cell? ⟨p,12,none⟩=some (iI next):=Ae.out.ce rfl;have hlp:p<w1.heap.size:=Ae.out.cl.lt;have Aj:Hid (Mv (fun u=>u=t∨u=t+1) w w1 K K):=by rw [hw1];exact (zak w K k).mono (fun _ e=>e.elim)
 clear HR HP hw1;go_wp2_with fail
 go_cut [15] (fun u15 wx=>∃ A,u15=ptr A∧Hid (wx.heap[A]?=some (.cells #[iI next,iI 2,iI prog,iI vers,iI proc,iI 0,.string ⟨#[]⟩,iI 0,.string ⟨#[]⟩,.string s] 108)∧w1.heap.size<=A∧Below w1.heap.size w1 wx))
 case first =>
  have hb:=fun w=>bld108 next prog vers proc s w;have c12b:(w1.alloc zB).cell? ⟨p,12,none⟩=some (iI next):=(World.cell?_of_block (a:=⟨p,12,none⟩) (Below.heap_alloc w1 zB p hlp)).trans c12
  go_region_with (first
   | (go_at_call 45
      refine (Ah.out _).mono ?_;rintro _ w2 ⟨rfl,hb2⟩;have c12w:w2.cell? ⟨p,12,none⟩=some (iI next):=by
       first
        | exact (World.cell?_of_block (a:=⟨p,12,none⟩) (hb2.block p hlp)).trans c12
        | exact (World.cell?_of_block (a:=⟨p,12,none⟩) (hb2.block p (by simp;omega))).trans c12b
      have bw2:Below w1.heap.size w1 w2:=by
       first
        | exact ⟨hb2.os,hb2.tape,hb2.output,hb2.size,hb2.block⟩
        | exact ((Below.refl w1.heap.size w1).alloc (Nat.le_refl _) zB).trans (Below.mono ⟨hb2.os,hb2.tape,hb2.output,hb2.size,hb2.block⟩ (by simp))
      obtain ⟨SA,hSA⟩:∃ y,w2.heap.size=y:=⟨_,rfl⟩;obtain ⟨wz,hwz⟩:∃ y,w2.alloc zB=y:=⟨_,rfl⟩;have kz:wz.heap[SA]?=some zB:=(by rw [<- hwz,<- hSA];exact (MapKept.heap_alloc w2 _).1);have hleA:w1.heap.size<=SA:=(by rw [<- hSA];exact bw2.size);have bwz:Below w1.heap.size w1 wz:=(by rw [<- hwz];exact bw2.alloc bw2.size _);have c12z:wz.cell? ⟨p,12,none⟩=some (iI next):=(by rw [<- hwz];exact (World.cell?_of_block (a:=⟨p,12,none⟩) (Below.heap_alloc w2 zB p (World.block_lt_of_cell? _ _ c12w))).trans c12w);obtain ⟨x1,hx1⟩:∃ y,wz.setCell ⟨SA,0,none⟩ (iI next)=y:=⟨_,rfl⟩;have zx1:wz.cell? ⟨SA,0,none⟩=some (iI 0):=zaa kz rfl;have fx1:wz.frozen? ⟨SA,0,none⟩=false:=zab kz 0;have kx1:x1.heap[SA]?=some (.cells #[iI next,iI 0,iI 0,iI 0,iI 0,iI 0,.string ⟨#[]⟩,iI 0,.string ⟨#[]⟩,.string ⟨#[]⟩] 108):=(by rw [<- hx1];exact zae kz 0 _);have bx1:Below w1.heap.size w1 x1:=(by rw [<- hx1];exact zac bwz hleA);obtain ⟨x2,hx2⟩:∃ y,x1.setCell ⟨SA,1,none⟩ (iI 2)=y:=⟨_,rfl⟩;have zx2:x1.cell? ⟨SA,1,none⟩=some (iI 0):=zaa kx1 rfl;have fx2:x1.frozen? ⟨SA,1,none⟩=false:=zab kx1 1;have kx2:x2.heap[SA]?=some (.cells #[iI next,iI 2,iI 0,iI 0,iI 0,iI 0,.string ⟨#[]⟩,iI 0,.string ⟨#[]⟩,.string ⟨#[]⟩] 108):=(by rw [<- hx2];exact zae kx1 1 _);have bx2:Below w1.heap.size w1 x2:=(by rw [<- hx2];exact zac bx1 hleA);obtain ⟨x3,hx3⟩:∃ y,x2.setCell ⟨SA,2,none⟩ (iI prog)=y:=⟨_,rfl⟩;have zx3:x2.cell? ⟨SA,2,none⟩=some (iI 0):=zaa kx2 rfl;have fx3:x2.frozen? ⟨SA,2,none⟩=false:=zab kx2 2;have kx3:x3.heap[SA]?=some (.cells #[iI next,iI 2,iI prog,iI 0,iI 0,iI 0,.string ⟨#[]⟩,iI 0,.string ⟨#[]⟩,.string ⟨#[]⟩] 108):=(by rw [<- hx3];exact zae kx2 2 _);have bx3:Below w1.heap.size w1 x3:=(by rw [<- hx3];exact zac bx2 hleA);obtain ⟨x4,hx4⟩:∃ y,x3.setCell ⟨SA,3,none⟩ (iI vers)=y:=⟨_,rfl⟩;have zx4:x3.cell? ⟨SA,3,none⟩=some (iI 0):=zaa kx3 rfl;have fx4:x3.frozen? ⟨SA,3,none⟩=false:=zab kx3 3;have kx4:x4.heap[SA]?=some (.cells #[iI next,iI 2,iI prog,iI vers,iI 0,iI 0,.string ⟨#[]⟩,iI 0,.string ⟨#[]⟩,.string ⟨#[]⟩] 108):=(by rw [<- hx4];exact zae kx3 3 _);have bx4:Below w1.heap.size w1 x4:=(by rw [<- hx4];exact zac bx3 hleA);obtain ⟨x5,hx5⟩:∃ y,x4.setCell ⟨SA,4,none⟩ (iI proc)=y:=⟨_,rfl⟩;have zx5:x4.cell? ⟨SA,4,none⟩=some (iI 0):=zaa kx4 rfl;have fx5:x4.frozen? ⟨SA,4,none⟩=false:=zab kx4 4;have kx5:x5.heap[SA]?=some (.cells #[iI next,iI 2,iI prog,iI vers,iI proc,iI 0,.string ⟨#[]⟩,iI 0,.string ⟨#[]⟩,.string ⟨#[]⟩] 108):=(by rw [<- hx5];exact zae kx4 4 _);have bx5:Below w1.heap.size w1 x5:=(by rw [<- hx5];exact zac bx4 hleA);obtain ⟨x6,hx6⟩:∃ y,x5.setCell ⟨SA,5,none⟩ (iI 0)=y:=⟨_,rfl⟩;have zx6:x5.cell? ⟨SA,5,none⟩=some (iI 0):=zaa kx5 rfl;have fx6:x5.frozen? ⟨SA,5,none⟩=false:=zab kx5 5;have kx6:x6.heap[SA]?=some (.cells #[iI next,iI 2,iI prog,iI vers,iI proc,iI 0,.string ⟨#[]⟩,iI 0,.string ⟨#[]⟩,.string ⟨#[]⟩] 108):=(by rw [<- hx6];exact zae kx5 5 _);have bx6:Below w1.heap.size w1 x6:=(by rw [<- hx6];exact zac bx5 hleA);obtain ⟨x7,hx7⟩:∃ y,x6.setCell ⟨SA,6,none⟩ (.string ⟨#[]⟩)=y:=⟨_,rfl⟩
      have zx7:x6.cell? ⟨SA,6,none⟩=some (.string ⟨#[]⟩):=zaa kx6 rfl;have fx7:x6.frozen? ⟨SA,6,none⟩=false:=zab kx6 6;have kx7:x7.heap[SA]?=some (.cells #[iI next,iI 2,iI prog,iI vers,iI proc,iI 0,.string ⟨#[]⟩,iI 0,.string ⟨#[]⟩,.string ⟨#[]⟩] 108):=(by rw [<- hx7];exact zae kx6 6 _);have bx7:Below w1.heap.size w1 x7:=(by rw [<- hx7];exact zac bx6 hleA);obtain ⟨x8,hx8⟩:∃ y,x7.setCell ⟨SA,7,none⟩ (iI 0)=y:=⟨_,rfl⟩;have zx8:x7.cell? ⟨SA,7,none⟩=some (iI 0):=zaa kx7 rfl;have fx8:x7.frozen? ⟨SA,7,none⟩=false:=zab kx7 7;have kx8:x8.heap[SA]?=some (.cells #[iI next,iI 2,iI prog,iI vers,iI proc,iI 0,.string ⟨#[]⟩,iI 0,.string ⟨#[]⟩,.string ⟨#[]⟩] 108):=(by rw [<- hx8];exact zae kx7 7 _);have bx8:Below w1.heap.size w1 x8:=(by rw [<- hx8];exact zac bx7 hleA);obtain ⟨x9,hx9⟩:∃ y,x8.setCell ⟨SA,8,none⟩ (.string ⟨#[]⟩)=y:=⟨_,rfl⟩;have zx9:x8.cell? ⟨SA,8,none⟩=some (.string ⟨#[]⟩):=zaa kx8 rfl;have fx9:x8.frozen? ⟨SA,8,none⟩=false:=zab kx8 8;have kx9:x9.heap[SA]?=some (.cells #[iI next,iI 2,iI prog,iI vers,iI proc,iI 0,.string ⟨#[]⟩,iI 0,.string ⟨#[]⟩,.string ⟨#[]⟩] 108):=(by rw [<- hx9];exact zae kx8 8 _);have bx9:Below w1.heap.size w1 x9:=(by rw [<- hx9];exact zac bx8 hleA);obtain ⟨x10,hx10⟩:∃ y,x9.setCell ⟨SA,9,none⟩ (.string s)=y:=⟨_,rfl⟩;have zx10:x9.cell? ⟨SA,9,none⟩=some (.string ⟨#[]⟩):=zaa kx9 rfl;have fx10:x9.frozen? ⟨SA,9,none⟩=false:=zab kx9 9;have kx10:x10.heap[SA]?=some (.cells #[iI next,iI 2,iI prog,iI vers,iI proc,iI 0,.string ⟨#[]⟩,iI 0,.string ⟨#[]⟩,.string s] 108):=(by rw [<- hx10];exact zae kx9 9 _);have bx10:Below w1.heap.size w1 x10:=(by rw [<- hx10];exact zac bx9 hleA);have HA:=hid (And.intro kx10 (And.intro hleA bx10));clear kx1 bx1 kx2 bx2 kx3 bx3 kx4 bx4 kx5 bx5 kx6 bx6 kx7 bx7 kx8 bx8 kx9 bx9 kx10 bx10 kz bwz hleA;try (
       have kb0:w2.heap[w1.heap.size]?=some zB:=(hb2.block w1.heap.size (by simp)).trans (MapKept.heap_alloc w1 zB).1;obtain ⟨SB,hSB⟩:∃ y,w1.heap.size=y:=⟨_,rfl⟩;rw [hSB] at kb0;have hleB:w1.heap.size<=SB:=Nat.le_of_eq hSB;obtain ⟨y1,hy1⟩:∃ y,w2.setCell ⟨SB,0,none⟩ (iI next)=y:=⟨_,rfl⟩;have zy1:w2.cell? ⟨SB,0,none⟩=some (iI 0):=zaa kb0 rfl;have fy1:w2.frozen? ⟨SB,0,none⟩=false:=zab kb0 0;have ky1:y1.heap[SB]?=some (.cells #[iI next,iI 0,iI 0,iI 0,iI 0,iI 0,.string ⟨#[]⟩,iI 0,.string ⟨#[]⟩,.string ⟨#[]⟩] 108):=(by rw [<- hy1];exact zae kb0 0 _);have by1:Below w1.heap.size w1 y1:=(by rw [<- hy1];exact zac bw2 hleB);obtain ⟨y2,hy2⟩:∃ y,y1.setCell ⟨SB,1,none⟩ (iI 2)=y:=⟨_,rfl⟩;have zy2:y1.cell? ⟨SB,1,none⟩=some (iI 0):=zaa ky1 rfl;have fy2:y1.frozen? ⟨SB,1,none⟩=false:=zab ky1 1;have ky2:y2.heap[SB]?=some (.cells #[iI next,iI 2,iI 0,iI 0,iI 0,iI 0,.string ⟨#[]⟩,iI 0,.string ⟨#[]⟩,.string ⟨#[]⟩] 108):=(by rw [<- hy2];exact zae ky1 1 _);have by2:Below w1.heap.size w1 y2:=(by rw [<- hy2];exact zac by1 hleB);obtain ⟨y3,hy3⟩:∃ y,y2.setCell ⟨SB,2,none⟩ (iI prog)=y:=⟨_,rfl⟩;have zy3:y2.cell? ⟨SB,2,none⟩=some (iI 0):=zaa ky2 rfl;have fy3:y2.frozen? ⟨SB,2,none⟩=false:=zab ky2 2;have ky3:y3.heap[SB]?=some (.cells #[iI next,iI 2,iI prog,iI 0,iI 0,iI 0,.string ⟨#[]⟩,iI 0,.string ⟨#[]⟩,.string ⟨#[]⟩] 108):=(by rw [<- hy3];exact zae ky2 2 _);have by3:Below w1.heap.size w1 y3:=(by rw [<- hy3];exact zac by2 hleB);obtain ⟨y4,hy4⟩:∃ y,y3.setCell ⟨SB,3,none⟩ (iI vers)=y:=⟨_,rfl⟩;have zy4:y3.cell? ⟨SB,3,none⟩=some (iI 0):=zaa ky3 rfl;have fy4:y3.frozen? ⟨SB,3,none⟩=false:=zab ky3 3;have ky4:y4.heap[SB]?=some (.cells #[iI next,iI 2,iI prog,iI vers,iI 0,iI 0,.string ⟨#[]⟩,iI 0,.string ⟨#[]⟩,.string ⟨#[]⟩] 108):=(by rw [<- hy4];exact zae ky3 3 _);have by4:Below w1.heap.size w1 y4:=(by rw [<- hy4];exact zac by3 hleB);obtain ⟨y5,hy5⟩:∃ y,y4.setCell ⟨SB,4,none⟩ (iI proc)=y:=⟨_,rfl⟩;have zy5:y4.cell? ⟨SB,4,none⟩=some (iI 0):=zaa ky4 rfl;have fy5:y4.frozen? ⟨SB,4,none⟩=false:=zab ky4 4;have ky5:y5.heap[SB]?=some (.cells #[iI next,iI 2,iI prog,iI vers,iI proc,iI 0,.string ⟨#[]⟩,iI 0,.string ⟨#[]⟩,.string ⟨#[]⟩] 108):=(by rw [<- hy5];exact zae ky4 4 _);have by5:Below w1.heap.size w1 y5:=(by rw [<- hy5];exact zac by4 hleB);obtain ⟨y6,hy6⟩:∃ y,y5.setCell ⟨SB,5,none⟩ (iI 0)=y:=⟨_,rfl⟩;have zy6:y5.cell? ⟨SB,5,none⟩=some (iI 0):=zaa ky5 rfl;have fy6:y5.frozen? ⟨SB,5,none⟩=false:=zab ky5 5;have ky6:y6.heap[SB]?=some (.cells #[iI next,iI 2,iI prog,iI vers,iI proc,iI 0,.string ⟨#[]⟩,iI 0,.string ⟨#[]⟩,.string ⟨#[]⟩] 108):=(by rw [<- hy6];exact zae ky5 5 _);have by6:Below w1.heap.size w1 y6:=(by rw [<- hy6];exact zac by5 hleB);obtain ⟨y7,hy7⟩:∃ y,y6.setCell ⟨SB,6,none⟩ (.string ⟨#[]⟩)=y:=⟨_,rfl⟩;have zy7:y6.cell? ⟨SB,6,none⟩=some (.string ⟨#[]⟩):=zaa ky6 rfl;have fy7:y6.frozen? ⟨SB,6,none⟩=false:=zab ky6 6;have ky7:y7.heap[SB]?=some (.cells #[iI next,iI 2,iI prog,iI vers,iI proc,iI 0,.string ⟨#[]⟩,iI 0,.string ⟨#[]⟩,.string ⟨#[]⟩] 108):=by rw [<- hy7];exact zae ky6 6 _
       have by7:Below w1.heap.size w1 y7:=(by rw [<- hy7];exact zac by6 hleB);obtain ⟨y8,hy8⟩:∃ y,y7.setCell ⟨SB,7,none⟩ (iI 0)=y:=⟨_,rfl⟩;have zy8:y7.cell? ⟨SB,7,none⟩=some (iI 0):=zaa ky7 rfl;have fy8:y7.frozen? ⟨SB,7,none⟩=false:=zab ky7 7;have ky8:y8.heap[SB]?=some (.cells #[iI next,iI 2,iI prog,iI vers,iI proc,iI 0,.string ⟨#[]⟩,iI 0,.string ⟨#[]⟩,.string ⟨#[]⟩] 108):=(by rw [<- hy8];exact zae ky7 7 _);have by8:Below w1.heap.size w1 y8:=(by rw [<- hy8];exact zac by7 hleB);obtain ⟨y9,hy9⟩:∃ y,y8.setCell ⟨SB,8,none⟩ (.string ⟨#[]⟩)=y:=⟨_,rfl⟩;have zy9:y8.cell? ⟨SB,8,none⟩=some (.string ⟨#[]⟩):=zaa ky8 rfl;have fy9:y8.frozen? ⟨SB,8,none⟩=false:=zab ky8 8;have ky9:y9.heap[SB]?=some (.cells #[iI next,iI 2,iI prog,iI vers,iI proc,iI 0,.string ⟨#[]⟩,iI 0,.string ⟨#[]⟩,.string ⟨#[]⟩] 108):=(by rw [<- hy9];exact zae ky8 8 _);have by9:Below w1.heap.size w1 y9:=(by rw [<- hy9];exact zac by8 hleB);obtain ⟨y10,hy10⟩:∃ y,y9.setCell ⟨SB,9,none⟩ (.string s)=y:=⟨_,rfl⟩;have zy10:y9.cell? ⟨SB,9,none⟩=some (.string ⟨#[]⟩):=zaa ky9 rfl;have fy10:y9.frozen? ⟨SB,9,none⟩=false:=zab ky9 9;have ky10:y10.heap[SB]?=some (.cells #[iI next,iI 2,iI prog,iI vers,iI proc,iI 0,.string ⟨#[]⟩,iI 0,.string ⟨#[]⟩,.string s] 108):=(by rw [<- hy10];exact zae ky9 9 _);have by10:Below w1.heap.size w1 y10:=(by rw [<- hy10];exact zac by9 hleB);have Ak:=hid (And.intro ky10 (And.intro hleB by10))
       clear ky1 by1 ky2 by2 ky3 by3 ky4 by4 ky5 by5 ky6 by6 ky7 by7 ky8 by8 ky9 by9 ky10 by10 kb0 hleB)
      have Ao:=hid hb2
      clear hb2))
  all_goals (
   go_wp2_with fail
   go_meet
   first
    | exact ⟨_,rfl,HA.out⟩
    | exact ⟨_,rfl,Ak.out⟩)
 case rest =>
  obtain ⟨A,hA,HA⟩:=hcut;subst hA;obtain ⟨w2,hw2⟩:∃ yy,yy=wc:=⟨_,rfl⟩;subst hw2;have Ab:=hid (Ae.out.below HA.out.2.2 (fun _=>t+7));have Ad:Hid (ext w1 K (fun _=>t+7) A=t+7∧Mv (fun _=>False) w1 w2 K (ext w1 K (fun _=>t+7))∧A<w2.heap.size):=⟨za2 HA.out.2.1,Mv.of_below HA.out.2.2 K _,(Array.getElem?_eq_some_iff.1 HA.out.1).1⟩;generalize ext w1 K (fun _=>t+7)=K2 at Ab Ad;obtain ⟨o14,c14,e14,_,_⟩:=Ab.out.wr.form;rw [List.length_map] at e14;obtain ⟨n,hn⟩:∃ n,L.length=n:=⟨_,rfl⟩;rw [hn] at e14;subst e14;obtain ⟨S2,hS2⟩:∃ y,w2.heap.size=y:=⟨_,rfl⟩;have Aa:Hid (∀ w',Below w2.heap.size w2 w'->w'.heap[p]?=some (clB c oa cap next now (.slice o14 n c14) vd q)∧w'.heap[A]?=some (.cells #[iI next,iI 2,iI prog,iI vers,iI proc,iI 0,.string ⟨#[]⟩,iI 0,.string ⟨#[]⟩,.string s] 108)):=fun w' hb=>⟨(hb.block p Ab.out.cl.lt).trans Ab.out.cl.at_,(hb.block A (Array.getElem?_eq_some_iff.1 HA.out.1).1).trans HA.out.1⟩;have hS:∀ w',Below w2.heap.size w2 w'->w'.cell? ⟨p,0,none⟩=some (iI c.ad)∧w'.cell? ⟨p,1,none⟩=some (iI c.inst)∧w'.cell? ⟨p,2,none⟩=some (iI c.first)∧w'.cell? ⟨p,3,none⟩=some (iI c.win)∧w'.cell? ⟨p,4,none⟩=some (iI c.pb)∧w'.cell? ⟨p,5,none⟩=some (iI c.pc)∧w'.cell? ⟨p,6,none⟩=some (iI c.pt)∧w'.cell? ⟨p,7,none⟩=some (iI c.sys.stamp)∧w'.cell? ⟨p,8,none⟩=some (.string ⟨c.sys.machine.toArray⟩)∧w'.cell? ⟨p,9,none⟩=some (iI c.sys.user)∧w'.cell? ⟨p,10,none⟩=some (iI c.sys.group)∧w'.cell? ⟨p,11,none⟩=some (.slice oa c.sys.groups.length cap)∧w'.cell? ⟨p,12,none⟩=some (iI next)∧w'.cell? ⟨p,13,none⟩=some (iI now)∧w'.cell? ⟨p,14,none⟩=some (.slice o14 n c14)∧w'.cell? ⟨A,0,none⟩=some (iI next)∧w'.cell? ⟨A,1,none⟩=some (iI 2)∧w'.cell? ⟨A,2,none⟩=some (iI prog)∧w'.cell? ⟨A,3,none⟩=some (iI vers)∧w'.cell? ⟨A,4,none⟩=some (iI proc)∧w'.cell? ⟨A,5,none⟩=some (iI 0)∧w'.cell? ⟨A,6,none⟩=some (.string ⟨#[]⟩)∧w'.cell? ⟨A,7,none⟩=some (iI 0)∧w'.cell? ⟨A,8,none⟩=some (.string ⟨#[]⟩)∧w'.cell? ⟨A,9,none⟩=some (.string s):=fun w' hb=>⟨zaa (Aa.out w' hb).1 rfl,zaa (Aa.out w' hb).1 rfl,zaa (Aa.out w' hb).1 rfl,zaa (Aa.out w' hb).1 rfl,zaa (Aa.out w' hb).1 rfl,zaa (Aa.out w' hb).1 rfl,zaa (Aa.out w' hb).1 rfl,zaa (Aa.out w' hb).1 rfl,zaa (Aa.out w' hb).1 rfl,zaa (Aa.out w' hb).1 rfl,zaa (Aa.out w' hb).1 rfl,zaa (Aa.out w' hb).1 rfl,zaa (Aa.out w' hb).1 rfl,zaa (Aa.out w' hb).1 rfl,zaa (Aa.out w' hb).1 rfl,zaa (Aa.out w' hb).2 rfl,zaa (Aa.out w' hb).2 rfl,zaa (Aa.out w' hb).2 rfl,zaa (Aa.out w' hb).2 rfl,zaa (Aa.out w' hb).2 rfl,zaa (Aa.out w' hb).2 rfl,zaa (Aa.out w' hb).2 rfl,zaa (Aa.out w' hb).2 rfl,zaa (Aa.out w' hb).2 rfl,zaa (Aa.out w' hb).2 rfl⟩
  have s0:w2.drew.cell? ⟨p,0,none⟩=some (iI c.ad)∧w2.drew.cell? ⟨p,1,none⟩=some (iI c.inst)∧w2.drew.cell? ⟨p,2,none⟩=some (iI c.first)∧w2.drew.cell? ⟨p,3,none⟩=some (iI c.win)∧w2.drew.cell? ⟨p,4,none⟩=some (iI c.pb)∧w2.drew.cell? ⟨p,5,none⟩=some (iI c.pc)∧w2.drew.cell? ⟨p,6,none⟩=some (iI c.pt)∧w2.drew.cell? ⟨p,7,none⟩=some (iI c.sys.stamp)∧w2.drew.cell? ⟨p,8,none⟩=some (.string ⟨c.sys.machine.toArray⟩)∧w2.drew.cell? ⟨p,9,none⟩=some (iI c.sys.user)∧w2.drew.cell? ⟨p,10,none⟩=some (iI c.sys.group)∧w2.drew.cell? ⟨p,11,none⟩=some (.slice oa c.sys.groups.length cap)∧w2.drew.cell? ⟨p,12,none⟩=some (iI next)∧w2.drew.cell? ⟨p,13,none⟩=some (iI now)∧w2.drew.cell? ⟨p,14,none⟩=some (.slice o14 n c14)∧w2.drew.cell? ⟨A,0,none⟩=some (iI next)∧w2.drew.cell? ⟨A,1,none⟩=some (iI 2)∧w2.drew.cell? ⟨A,2,none⟩=some (iI prog)∧w2.drew.cell? ⟨A,3,none⟩=some (iI vers)∧w2.drew.cell? ⟨A,4,none⟩=some (iI proc)∧w2.drew.cell? ⟨A,5,none⟩=some (iI 0)∧w2.drew.cell? ⟨A,6,none⟩=some (.string ⟨#[]⟩)∧w2.drew.cell? ⟨A,7,none⟩=some (iI 0)∧w2.drew.cell? ⟨A,8,none⟩=some (.string ⟨#[]⟩)∧w2.drew.cell? ⟨A,9,none⟩=some (.string s):=hS w2.drew ⟨rfl,rfl,rfl,Nat.le_refl _,fun _ _=>rfl⟩;have HS:=hid hS;have Al:Hid (Calls Tryz.prog 55 #[.agg (cfA c oa cap),iI dst,.agg #[iI next,iI 2,iI prog,iI vers,iI proc,iI 0,.string ⟨#[]⟩,iI 0,.string ⟨#[]⟩,.string s]] w2.drew fun e w'=>e=.returned (.func (.func 93) #[] #[ptr (S2+1+1),ptr S2,ptr (S2+1)])∧Hid (Below w2.heap.size w2 w'∧w'.heap[S2]?=some (cfB c oa cap)∧w'.heap[S2+1]?=some (.cells #[iI dst] 3)∧w'.heap[S2+1+1]?=some (.cells #[iI next,iI 2,iI prog,iI vers,iI proc,iI 0,.string ⟨#[]⟩,iI 0,.string ⟨#[]⟩,.string s] 108))):=by
   refine (zhm c oa cap dst next prog vers proc s w2.drew).mono ?_;rintro _ w' ⟨rfl,rfl⟩;have b0:Below w2.heap.size w2 w2.drew:=⟨rfl,rfl,rfl,Nat.le_refl _,fun _ _=>rfl⟩;have b1:=b0.alloc b0.size (cfB c oa cap);have b2:=b1.alloc b1.size (.cells #[iI dst] 3);have h3:=three w2.drew (cfB c oa cap) (.cells #[iI dst] 3) (.cells #[iI next,iI 2,iI prog,iI vers,iI proc,iI 0,.string ⟨#[]⟩,iI 0,.string ⟨#[]⟩,.string s] 108);rw [show w2.drew.heap.size=S2 from hS2] at h3;exact ⟨by rw [<- hS2];rfl,b2.alloc b2.size _,h3.1,h3.2.1,h3.2.2⟩
  have Am:Hid (∀ w',Calls Tryz.prog 53 #[.agg #[iI c.pb,iI c.pc,iI c.pt]] w' fun e w''=>e=.returned (iI (Pc.totalP c.pb c.pc c.pt))∧Below w'.heap.size w' w''):=fun w'=>Pc.total_any w' _ _ _;obtain ⟨fin,hfin⟩:∃ fin,IntKind.i64.wrap (now+Pc.totalP c.pb c.pc c.pt)=fin:=⟨_,rfl⟩;have hb113:=fun w=>bld113 next dst now fin (S2+1+1) S2 (S2+1) w;have hb94:=fun (b:Nat) w=>bls94 b w;have An:=hid hn
  have Ac:Hid (∀ w6 w7,(Below w2.heap.size w2 w6∧w6.heap[S2]?=some (cfB c oa cap)∧w6.heap[S2+1]?=some (.cells #[iI dst] 3)∧w6.heap[S2+1+1]?=some (.cells #[iI next,iI 2,iI prog,iI vers,iI proc,iI 0,.string ⟨#[]⟩,iI 0,.string ⟨#[]⟩,.string s] 108))->Below w6.heap.size w6 w7->∀ w8 w9 P8 N9,w7.heap.size=P8->w7.alloc (.cells #[iI next,iI dst,.func (.func 93) #[] #[ptr (S2+1+1),ptr S2,ptr (S2+1)],iI 0,iI now,iI fin,iI 0,iI 0] 113)=w8->w8.heap.size=N9->w8.alloc (.cells #[ptr P8] 109)=w9 ->
   ∃ o10 c10 w10,(∀ r,(Builtin.append_ #[94,94] r #[.slice o14 n c14,.slice (some ⟨N9,0,none⟩) 1 1]).run Tryz.prog w9=.ok (.slice o10 (n+1) c10) w10)∧w10.heap[p]?=some (clB c oa cap next now (.slice o14 n c14) vd q)∧w10.heap[A]?=some (.cells #[iI next,iI 2,iI prog,iI vers,iI proc,iI 0,.string ⟨#[]⟩,iI 0,.string ⟨#[]⟩,.string s] 108)∧A≠p∧∀ wx,w10.setCell ⟨p,14,none⟩ (.slice o10 (n+1) c10)=wx->∃ K10 x o10 c10,PC K10 wx B t p c oa cap next now (L++[x]) D (.slice o10 (n+1) c10) vd q∧wx.heap[A]?=some (.cells #[iI next,iI 2,iI prog,iI vers,iI proc,iI 0,.string ⟨#[]⟩,iI 0,.string ⟨#[]⟩,.string s] 108)∧A≠p∧x.isNew dst prog vers proc args now fin next∧Mv (fun u=>u=t∨u=t+1) w1 wx K K10):=by
   intro w6 w7 h6 b67 w8 w9 P8 N9 hP8 hw8 hN9 hw9;have l0:=(Array.getElem?_eq_some_iff.1 h6.2.1).1;have l1:=(Array.getElem?_eq_some_iff.1 h6.2.2.1).1;have l2:=(Array.getElem?_eq_some_iff.1 h6.2.2.2).1;have b7:Below w2.heap.size w2 w7:=h6.1.trans (b67.mono h6.1.size);obtain ⟨o10,c10,w10,K10,r10,kp,kA,hne,P10,m10⟩:=Ab.out.called (A:=A) ⟨P8,S2+1+1,S2,S2+1,next,dst,prog,vers,proc,args,0,now,fin,0,0⟩ b7 ⟨hS2.symm,by rw [hS2],by rw [hS2]⟩ ((b67.block _ l0).trans h6.2.1) ((b67.block _ l1).trans h6.2.2.1) ((b67.block _ l2).trans (by rw [h6.2.2.2,<- hs0])) hP8 hw8 hN9 hw9 Ai.out ⟨Ad.out.2.2,Ad.out.1⟩;rw [hn] at r10 P10 m10;have kA':=kA.trans HA.out.1;refine ⟨o10,c10,w10,r10,kp,kA',hne,fun wx hwx=>?_⟩;rw [hwx] at P10 m10;refine ⟨K10,_,o10,c10,P10,?_,hne,⟨rfl,rfl,rfl,rfl,rfl,rfl,rfl,rfl,rfl,rfl,rfl⟩,(Ad.out.2.1.mono (fun _ e=>e.elim)).trans m10⟩;rw [<- hwx,Below.heap_setCell _ _ _ _ hne];exact kA'
  clear hS HA hn;go_wp2_with fail
  go_cut [71] (fun _ wx=>Hid (∃ K10 x o10 c10,PC K10 wx B t p c oa cap next now (L++[x]) D (.slice o10 (n+1) c10) vd q∧wx.heap[A]?=some (.cells #[iI next,iI 2,iI prog,iI vers,iI proc,iI 0,.string ⟨#[]⟩,iI 0,.string ⟨#[]⟩,.string s] 108)∧A≠p∧x.isNew dst prog vers proc args now fin next∧Mv (fun u=>u=t∨u=t+1) w1 wx K K10))
  case first =>
   refine zah (S:=fun w'=>w'.cell? ⟨p,0,none⟩=some (iI c.ad)∧w'.cell? ⟨p,1,none⟩=some (iI c.inst)∧w'.cell? ⟨p,2,none⟩=some (iI c.first)∧w'.cell? ⟨p,3,none⟩=some (iI c.win)∧w'.cell? ⟨p,4,none⟩=some (iI c.pb)∧w'.cell? ⟨p,5,none⟩=some (iI c.pc)∧w'.cell? ⟨p,6,none⟩=some (iI c.pt)∧w'.cell? ⟨p,7,none⟩=some (iI c.sys.stamp)∧w'.cell? ⟨p,8,none⟩=some (.string ⟨c.sys.machine.toArray⟩)∧w'.cell? ⟨p,9,none⟩=some (iI c.sys.user)∧w'.cell? ⟨p,10,none⟩=some (iI c.sys.group)∧w'.cell? ⟨p,11,none⟩=some (.slice oa c.sys.groups.length cap)∧w'.cell? ⟨p,12,none⟩=some (iI next)∧w'.cell? ⟨p,13,none⟩=some (iI now)∧w'.cell? ⟨p,14,none⟩=some (.slice o14 n c14)∧w'.cell? ⟨A,0,none⟩=some (iI next)∧w'.cell? ⟨A,1,none⟩=some (iI 2)∧w'.cell? ⟨A,2,none⟩=some (iI prog)∧w'.cell? ⟨A,3,none⟩=some (iI vers)∧w'.cell? ⟨A,4,none⟩=some (iI proc)∧w'.cell? ⟨A,5,none⟩=some (iI 0)∧w'.cell? ⟨A,6,none⟩=some (.string ⟨#[]⟩)∧w'.cell? ⟨A,7,none⟩=some (iI 0)∧w'.cell? ⟨A,8,none⟩=some (.string ⟨#[]⟩)∧w'.cell? ⟨A,9,none⟩=some (.string s)) (n:=38) (by kernel_rfl) rfl (by kernel_rfl) (by kernel_rfl) ?_ (fun hHeld=>?_)
   · exact s0
   refine tk 0 ?_ rfl ?_ ?_;rotate_left
   · (intro w hs;(try dsimp only at hs);go_simp;try with_reducible rfl)
   try simp only [gA,gB,gC,Act.put,gE,gF,gG]
   refine tk 1 ?_ rfl ?_ ?_;rotate_left
   · (intro w hs;(try dsimp only at hs);go_simp;try with_reducible rfl)
   try simp only [gA,gB,gC,Act.put,gE,gF,gG]
   refine tk 2 ?_ rfl ?_ ?_;rotate_left
   · (intro w hs;(try dsimp only at hs);go_simp;try with_reducible rfl)
   try simp only [gA,gB,gC,Act.put,gE,gF,gG]
   refine tk 3 ?_ rfl ?_ ?_;rotate_left
   · (intro w hs;(try dsimp only at hs);go_simp;try with_reducible rfl)
   try simp only [gA,gB,gC,Act.put,gE,gF,gG]
   refine tk 4 ?_ rfl ?_ ?_;rotate_left
   · (intro w hs;(try dsimp only at hs);go_simp;try with_reducible rfl)
   try simp only [gA,gB,gC,Act.put,gE,gF,gG]
   refine tk 5 ?_ rfl ?_ ?_;rotate_left
   · (intro w hs;(try dsimp only at hs);go_simp;try with_reducible rfl)
   try simp only [gA,gB,gC,Act.put,gE,gF,gG]
   refine tk 6 ?_ rfl ?_ ?_;rotate_left
   · (intro w hs;(try dsimp only at hs);go_simp;try with_reducible rfl)
   try simp only [gA,gB,gC,Act.put,gE,gF,gG]
   refine tk 7 ?_ rfl ?_ ?_;rotate_left
   · (intro w hs;(try dsimp only at hs);go_simp;try with_reducible rfl)
   try simp only [gA,gB,gC,Act.put,gE,gF,gG]
   refine tk 8 ?_ rfl ?_ ?_;rotate_left
   · (intro w hs;(try dsimp only at hs);go_simp;try with_reducible rfl)
   try simp only [gA,gB,gC,Act.put,gE,gF,gG]
   refine tk 9 ?_ rfl ?_ ?_;rotate_left
   · (intro w hs;(try dsimp only at hs);go_simp;try with_reducible rfl)
   try simp only [gA,gB,gC,Act.put,gE,gF,gG]
   refine tk 10 ?_ rfl ?_ ?_;rotate_left
   · (intro w hs;(try dsimp only at hs);go_simp;try with_reducible rfl)
   try simp only [gA,gB,gC,Act.put,gE,gF,gG]
   refine tk 11 ?_ rfl ?_ ?_;rotate_left
   · (intro w hs;(try dsimp only at hs);go_simp;try with_reducible rfl)
   try simp only [gA,gB,gC,Act.put,gE,gF,gG]
   refine tk 12 ?_ rfl ?_ ?_;rotate_left
   · (intro w hs;(try dsimp only at hs);go_simp;try with_reducible rfl)
   try simp only [gA,gB,gC,Act.put,gE,gF,gG]
   refine tk 13 ?_ rfl ?_ ?_;rotate_left
   · (intro w hs;(try dsimp only at hs);go_simp;try with_reducible rfl)
   try simp only [gA,gB,gC,Act.put,gE,gF,gG]
   refine tk 14 ?_ rfl ?_ ?_;rotate_left
   · (intro w hs;(try dsimp only at hs);go_simp;try with_reducible rfl)
   try simp only [gA,gB,gC,Act.put,gE,gF,gG]
   refine tk 15 ?_ rfl ?_ ?_;rotate_left
   · (intro w hs;(try dsimp only at hs);go_simp;try with_reducible rfl)
   try simp only [gA,gB,gC,Act.put,gE,gF,gG]
   refine tk 17 ?_ rfl ?_ ?_;rotate_left
   · (intro w hs;(try dsimp only at hs);go_simp;try with_reducible rfl)
   try simp only [gA,gB,gC,Act.put,gE,gF,gG]
   refine tk 18 ?_ rfl ?_ ?_;rotate_left
   · (intro w hs;(try dsimp only at hs);go_simp;try with_reducible rfl)
   try simp only [gA,gB,gC,Act.put,gE,gF,gG]
   refine tk 19 ?_ rfl ?_ ?_;rotate_left
   · (intro w hs;(try dsimp only at hs);go_simp;try with_reducible rfl)
   try simp only [gA,gB,gC,Act.put,gE,gF,gG]
   refine tk 20 ?_ rfl ?_ ?_;rotate_left
   · (intro w hs;(try dsimp only at hs);go_simp;try with_reducible rfl)
   try simp only [gA,gB,gC,Act.put,gE,gF,gG]
   refine tk 21 ?_ rfl ?_ ?_;rotate_left
   · (intro w hs;(try dsimp only at hs);go_simp;try with_reducible rfl)
   try simp only [gA,gB,gC,Act.put,gE,gF,gG]
   refine tk 22 ?_ rfl ?_ ?_;rotate_left
   · (intro w hs;(try dsimp only at hs);go_simp;try with_reducible rfl)
   try simp only [gA,gB,gC,Act.put,gE,gF,gG]
   refine tk 23 ?_ rfl ?_ ?_;rotate_left
   · (intro w hs;(try dsimp only at hs);go_simp;try with_reducible rfl)
   try simp only [gA,gB,gC,Act.put,gE,gF,gG]
   refine tk 24 ?_ rfl ?_ ?_;rotate_left
   · (intro w hs;(try dsimp only at hs);go_simp;try with_reducible rfl)
   try simp only [gA,gB,gC,Act.put,gE,gF,gG]
   refine tk 25 ?_ rfl ?_ ?_;rotate_left
   · (intro w hs;(try dsimp only at hs);go_simp;try with_reducible rfl)
   try simp only [gA,gB,gC,Act.put,gE,gF,gG]
   refine tk 26 ?_ rfl ?_ ?_;rotate_left
   · (intro w hs;(try dsimp only at hs);go_simp;try with_reducible rfl)
   try simp only [gA,gB,gC,Act.put,gE,gF,gG]
   refine tk 27 ?_ rfl ?_ ?_;rotate_left
   · (intro w hs;(try dsimp only at hs);go_simp;try with_reducible rfl)
   try simp only [gA,gB,gC,Act.put,gE,gF,gG]
   refine tk 28 ?_ rfl ?_ ?_;rotate_left
   · (intro w hs;(try dsimp only at hs);go_simp;try with_reducible rfl)
   try simp only [gA,gB,gC,Act.put,gE,gF,gG]
   refine tk 29 ?_ rfl ?_ ?_;rotate_left
   · (intro w hs;(try dsimp only at hs);go_simp;try with_reducible rfl)
   try simp only [gA,gB,gC,Act.put,gE,gF,gG]
   refine wpAnyH_ready (rs:=[16]) (by kernel_rfl) (by simp) ?_;refine AllReadyH.cons rfl (fun K hK=>?_) AllReadyH.nil;go_simp
   refine Al.out.mono ?_;rintro _ w6 ⟨rfl,H6⟩;have s6:=HS.out w6 H6.out.1;refine hK.out _ _ ?_ (fun hHeld6=>?_)
   · exact s6
   clear hK hHeld;try simp only [gA,gB,gC,Act.put,gE,gF,gG]
   refine wpAnyH_ready (rs:=[30]) (by kernel_rfl) (by simp) ?_;refine AllReadyH.cons rfl (fun K hK=>?_) AllReadyH.nil;go_simp
   refine (Am.out _).mono ?_;rintro _ w7 ⟨rfl,hb7⟩;have b7:Below w2.heap.size w2 w7:=H6.out.1.trans (Below.mono ⟨hb7.os,hb7.tape,hb7.output,hb7.size,hb7.block⟩ H6.out.1.size);have s7:=HS.out w7 b7;obtain ⟨P8,hP8⟩:∃ y,w7.heap.size=y:=⟨_,rfl⟩;obtain ⟨w8,hw8⟩:∃ y,w7.alloc (.cells #[iI next,iI dst,.func (.func 93) #[] #[ptr (S2+1+1),ptr S2,ptr (S2+1)],iI 0,iI now,iI fin,iI 0,iI 0] 113)=y:=⟨_,rfl⟩;have b8:Below w2.heap.size w2 w8:=by rw [<- hw8];exact b7.alloc b7.size _
   have s8:=HS.out w8 b8;obtain ⟨N9,hN9⟩:∃ y,w8.heap.size=y:=⟨_,rfl⟩;obtain ⟨w9,hw9⟩:∃ y,w8.alloc (.cells #[ptr P8] 109)=y:=⟨_,rfl⟩;have b9:Below w2.heap.size w2 w9:=by rw [<- hw9];exact b8.alloc b8.size _
   have s9:=HS.out w9 b9;obtain ⟨o10,c10,w10,r10,kp10,kA10,hne,hfin2⟩:=Ac.out w6 w7 H6.out ⟨hb7.os,hb7.tape,hb7.output,hb7.size,hb7.block⟩ w8 w9 P8 N9 hP8 hw8 hN9 hw9;have s10:w10.cell? ⟨p,0,none⟩=some (iI c.ad)∧w10.cell? ⟨p,1,none⟩=some (iI c.inst)∧w10.cell? ⟨p,2,none⟩=some (iI c.first)∧w10.cell? ⟨p,3,none⟩=some (iI c.win)∧w10.cell? ⟨p,4,none⟩=some (iI c.pb)∧w10.cell? ⟨p,5,none⟩=some (iI c.pc)∧w10.cell? ⟨p,6,none⟩=some (iI c.pt)∧w10.cell? ⟨p,7,none⟩=some (iI c.sys.stamp)∧w10.cell? ⟨p,8,none⟩=some (.string ⟨c.sys.machine.toArray⟩)∧w10.cell? ⟨p,9,none⟩=some (iI c.sys.user)∧w10.cell? ⟨p,10,none⟩=some (iI c.sys.group)∧w10.cell? ⟨p,11,none⟩=some (.slice oa c.sys.groups.length cap)∧w10.cell? ⟨p,12,none⟩=some (iI next)∧w10.cell? ⟨p,13,none⟩=some (iI now)∧w10.cell? ⟨p,14,none⟩=some (.slice o14 n c14)∧w10.cell? ⟨A,0,none⟩=some (iI next)∧w10.cell? ⟨A,1,none⟩=some (iI 2)∧w10.cell? ⟨A,2,none⟩=some (iI prog)∧w10.cell? ⟨A,3,none⟩=some (iI vers)∧w10.cell? ⟨A,4,none⟩=some (iI proc)∧w10.cell? ⟨A,5,none⟩=some (iI 0)∧w10.cell? ⟨A,6,none⟩=some (.string ⟨#[]⟩)∧w10.cell? ⟨A,7,none⟩=some (iI 0)∧w10.cell? ⟨A,8,none⟩=some (.string ⟨#[]⟩)∧w10.cell? ⟨A,9,none⟩=some (.string s):=⟨zaa kp10 rfl,zaa kp10 rfl,zaa kp10 rfl,zaa kp10 rfl,zaa kp10 rfl,zaa kp10 rfl,zaa kp10 rfl,zaa kp10 rfl,zaa kp10 rfl,zaa kp10 rfl,zaa kp10 rfl,zaa kp10 rfl,zaa kp10 rfl,zaa kp10 rfl,zaa kp10 rfl,zaa kA10 rfl,zaa kA10 rfl,zaa kA10 rfl,zaa kA10 rfl,zaa kA10 rfl,zaa kA10 rfl,zaa kA10 rfl,zaa kA10 rfl,zaa kA10 rfl,zaa kA10 rfl⟩;have y10:w10.cell? ⟨p,14,none⟩=some (.slice o14 n c14):=zaa kp10 rfl;have f10:=zab kp10 14;obtain ⟨w11,hw11⟩:∃ y,w10.setCell ⟨p,14,none⟩ (.slice o10 (n+1) c10)=y:=⟨_,rfl⟩;have Af:=hid r10;have HE:=hid (hfin2 w11 hw11);clear r10 b8 b9 b7 kp10 kA10 hfin2;refine hK.out _ _ ?_ (fun hHeld7=>?_)
   · exact s7
   clear hK hHeld6;try simp only [gA,gB,gC,Act.put,gE,gF,gG]
   refine tk 31 ?_ rfl ?_ ?_;rotate_left
   · (intro w hs;(try dsimp only at hs);go_simp;try with_reducible rfl)
   try simp only [gA,gB,gC,Act.put,gE,gF,gG]
   refine tk 32 ?_ rfl ?_ ?_;rotate_left
   · (intro w hs;(try dsimp only at hs);go_simp;try with_reducible rfl)
   try simp only [gA,gB,gC,Act.put,gE,gF,gG]
   refine wpAnyH_ready (rs:=[33]) (by kernel_rfl) (by simp) ?_;refine AllReadyH.cons rfl (fun K hK=>?_) AllReadyH.nil;go_simp
   refine hK.out _ _ ?_ (fun hHeld8=>?_)
   · exact s8
   clear hK hHeld7;try simp only [gA,gB,gC,Act.put,gE,gF,gG]
   refine wpAnyH_ready (rs:=[34]) (by kernel_rfl) (by simp) ?_;refine AllReadyH.cons rfl (fun K hK=>?_) AllReadyH.nil;go_simp
   refine hK.out _ _ ?_ (fun hHeld9=>?_)
   · exact s9
   clear hK hHeld8;try simp only [gA,gB,gC,Act.put,gE,gF,gG]
   refine wpAnyH_ready (rs:=[35]) (by kernel_rfl) (by simp) ?_;refine AllReadyH.cons rfl (fun K hK=>?_) AllReadyH.nil;refine zbk rfl (.tmp 40) (.tmp 70) 94 rfl (.slice o14 n c14) (.slice (some ⟨N9,0,none⟩) 1 1) _ _ (by go_simp) (by go_simp) (Af.out _) ?_;refine hK.out _ _ ?_ (fun hHeld10=>?_)
   · exact s10
   clear hK hHeld9;try simp only [gA,gB,gC,Act.put,gE,gF,gG]
   refine tk 36 ?_ rfl ?_ ?_;rotate_left
   · (intro w hs;(try dsimp only at hs);go_simp;try with_reducible rfl)
   try simp only [gA,gB,gC,Act.put,gE,gF,gG]
   refine tk 37 ?_ rfl ?_ ?_;rotate_left
   · (intro w hs;(try dsimp only at hs);go_simp;try with_reducible rfl)
   try simp only [gA,gB,gC,Act.put,gE,gF,gG]
   refine wpAnyH_done (by kernel_rfl) ?_ _;refine zbx.done ?_;refine wpOp_step (i:=38) rfl (fun K hK=>?_);have HK:=hid hK;clear hK;go_simp
   refine HK.out _ _ ?_;clear HK;go_wp2_with fail
   go_meet
   exact HE.out
  case rest =>
   obtain ⟨K10,x,o10,c10,P10,kA,hne,hnew,m10⟩:=hcut.out;obtain ⟨w3,hw3⟩:∃ yy,yy=wc:=⟨_,rfl⟩;subst hw3;have d12:w3.cell? ⟨p,12,none⟩=some (iI next):=P10.ce rfl;have g12:=P10.fz 12;have hnx:wrap64 (next+1)=next+1:=Ag.out;obtain ⟨w4,hw4⟩:∃ y,w3.setCell ⟨p,12,none⟩ (iI (next+1))=y:=⟨_,rfl⟩;have Pn:=P10.next_ (next+1);rw [hw4] at Pn;have a0:w4.cell? ⟨A,0,none⟩=some (iI next):=by rw [<- hw4];exact (World.cell?_of_block (a:=⟨A,0,none⟩) (Below.heap_setCell _ _ _ _ hne)).trans (zaa kA rfl)
   have HF:Hid (∃ K' x o' c',PC K' w4 B t p c oa cap (next+1) now (L++[x]) D (.slice o' (n+1) c') vd q∧x.isNew dst prog vers proc args now fin next∧Mv (fun u=>u=t∨u=t+1) w1 w4 K K'):=⟨K10,x,o10,c10,Pn.1,hnew,m10.trans (Pn.2.mono (fun u e=>.inl e))⟩;clear P10 kA hne hnew m10 hcut Pn;go_wp2;go_ret2
   refine ⟨rfl,?_⟩;have hf:=HF.out;rw [<- An.out] at hf;obtain ⟨K',x,o',c',q1,q2,q3⟩:=hf;exact ⟨K',x,_,_,q1,⟨_,hfin,q2⟩,Aj.out.trans q3⟩
end
end Go.Proofs.YtfcbjcebkahehaaGreatDoor.Cl
namespace Go.Proofs.YtfcbjcebkahehaaGreatDoor.Cl
open Go.RowKit
theorem under94:Tryz.prog.underlying 94=some (.slice 109):=by kernel_rfl
theorem zero109 (w:World):(zeroValue 109).run Tryz.prog w=.ok (.pointer none) w:=by kernel_rfl
def delA (cur:Array Value) (n a:Nat):Array Value:=(cur.toList.take a++(cur.toList.take n).drop (a+1)++cur.toList.drop (a+(n - (a+1)))).toArray
theorem del_core (g n cap i j:Nat) (cur:Array Value) (w:World) (hg:w.heap[g]?=some (.cells cur 109 (0,0))) (hcur:cur.size=cap) (hj1:j=i+1) (hj:j<=n) (hcap:n<=cap) (h1:∀ u∈cur.toList.take n,u.oneCell'=true) :
 Calls Tryz.prog 96 #[.slice (some ⟨g,0,none⟩) n cap,iI (i:Int),iI (j:Int)] w fun e w'=>e=.returned (.slice (some ⟨g,0,none⟩) (n - 1) cap)∧w'=(w.drew.setRow g (delA cur n i)).setCell ⟨g,n - 1,none⟩ (.pointer none):=by
 obtain ⟨news,hnews⟩:∃ news,news=(cur.toList.take n).drop j:=⟨_,rfl⟩;have hlen:news.length=n - j:=by rw [hnews];simp;omega
 obtain ⟨m,hmm⟩:∃ m,i+(n - j)=m:=⟨_,rfl⟩;have hnm:n=m+1:=by omega
 obtain ⟨A,hA,hsrc⟩:∃ A:Addr,(if cap=j then some (⟨g,0,none⟩:Addr) else some ⟨g,j,none⟩)=some A∧Hid (∀ t u,news[t]?=some u->w.drew.cell? (A.add t)=some u):=by
  have hget:∀ t u,news[t]?=some u->w.drew.cell? ⟨g,j+t,none⟩=some u:=fun t u hu=>by
   have ht:t<n - j:=by rw [<- hlen];exact (List.getElem?_eq_some_iff.1 hu).1
   rw [hnews,List.getElem?_drop,List.getElem?_take] at hu;rw [if_pos (by omega),Array.getElem?_toList] at hu;show w.cell? _=_;exact zaa hg hu
  by_cases h:cap=j
  · refine ⟨⟨g,0,none⟩,by simp [h],fun t u hu=>?_⟩;have h0:news.length=0:=(by rw [hlen];omega);rw [List.length_eq_zero_iff.1 h0] at hu;simp at hu
  · exact ⟨⟨g,j,none⟩,by simp [h],fun t u hu=>by rw [Addr.add_lit];exact hget t u hu⟩
 have s2:∀ u∈news,u.oneCell'=true:=fun u hu=>h1 u (by rw [hnews] at hu;exact List.mem_of_mem_drop hu);obtain ⟨i0,hi0,hi1,hi2,hi3⟩:=info109;obtain ⟨W1,hW1⟩:∃ W1,W1=w.drew.setRow g (delA cur n i):=⟨_,rfl⟩;have hrun:Hid (∀ r,(Builtin.append_ #[94,94] r #[.slice (some ⟨g,0,none⟩) i cap,.slice (some A) (n - j) (cap - j)]).run Tryz.prog w.drew=.ok (.slice (some ⟨g,0,none⟩) m cap) W1):=fun r=>by
  have h:=run_append_room (P:=Tryz.prog) w.drew 94 r 109 i0 under94 hi0 g i cap cur hg A (n - j) (cap - j) news (by rw [hi2,Nat.mul_one];exact hlen) hsrc.out s2 (by omega) (by rw [hi2,hlen,hcur];omega);rw [h,hmm,hW1,hi2,hlen];unfold delA;rw [hnews,Nat.mul_one,hj1]
 have hg1:W1.heap[g]?=some (.cells (delA cur n i) 109 (0,0)):=by rw [hW1];exact setRow_heap w.drew g cur _ 109 (0,0) hg
 have hsz:(delA cur n i).size=cap:=by unfold delA;simp;omega
 have hcl:∀ ty,(Builtin.clear_ #[94] ty #[.slice (some ⟨g,m,none⟩) (n - m) (cap - m)]).run Tryz.prog W1=.ok (.tuple #[]) (W1.setCell ⟨g,m,none⟩ (.pointer none)):=fun ty=>by
  have h:=Lib.run_clear_slice (P:=Tryz.prog) W1 94 109 ty (.pointer none) under94 zero109 rfl rfl g m (n - m) (cap - m) (by omega) (fun t ht=>by
   rw [zaa hg1 (k:=m+t) (v:=(delA cur n i)[m+t]'(by omega)) (Array.getElem?_eq_getElem _)];rfl) (fun t ht=>zab hg1 _)
  rw [h,show n - m=1 by omega];rfl
 have HW:Hid (W1=w.drew.setRow g (delA cur n i)):=hW1;have hic:i<=cap:=by omega
 have hjc:j<=cap:=by omega
 have hij:i<=j:=by omega
 have hne:¬ i=j:=by omega
 have hmn:m<=n:=by omega
 have hmc:¬ cap=m:=by omega
 have hmc2:m<=cap:=by omega
 have HF:Hid (n=m+1):=hnm;clear hW1 hg1 hg hnews hlen s2 hsrc hsz hcur hmm hnm hj1 h1;go_enter Tryz.func96,Tryz.ntmps96
 go_wp2_with fail
 go_region_law (refine zbk rfl (.tmp 22) (.tmp 25) 94 rfl (.slice (some ⟨g,0,none⟩) i cap) (.slice (some A) (n - j) (cap - j)) _ _ (by go_simp) (by go_simp) (hrun.out _) ?_)
 go_wp2;go_ret;rw [<- HW.out,show n - 1=m by have:=HF.out;omega];exact ⟨rfl,rfl⟩
theorem fm_ptr (l:List Nat):l.flatMap ptrC=l.map ptr:=by
 induction l with
 | nil=>rfl
 | cons x l ih=>simp [List.flatMap_cons,ptrC,ih]
theorem RW.del {K:Nat->Nat} {w:World} {B t g n cap:Nat} {l1 l2:List Nat} {b:Nat} (h:RW 109 1 ptrC K w B t (.slice (some ⟨g,0,none⟩) n cap) (l1++b::l2)) (hn:(l1++b::l2).length=n) :
 Calls Tryz.prog 96 #[.slice (some ⟨g,0,none⟩) n cap,iI (l1.length:Int),iI ((l1.length+1:Nat):Int)] w fun e w'=>e=.returned (.slice (some ⟨g,0,none⟩) (n - 1) cap)∧RW 109 1 ptrC K w' B t (.slice (some ⟨g,0,none⟩) (n - 1) cap) (l1++l2)∧Mv (fun u=>u=t) w w' K K:=by
 have hk:=h.k g rfl;rcases h.own.2 with ⟨e,_⟩|⟨g',cap',cur,e,h1,h2,h3,h4,h5,h6⟩
 · cases e
 · simp only [Value.slice.injEq,Option.some.injEq,Addr.mk.injEq] at e;obtain ⟨⟨rfl,_⟩,_,rfl⟩:=e;rw [hn,Nat.mul_one] at h6;rw [Nat.mul_one] at h5;rw [hn] at h3;have hln:l1.length+1+l2.length=n:=by rw [<- hn];simp;omega
   have h6' : cur.toList.take n=l1.map ptr++ptr b::l2.map ptr:=by rw [h6,fm_ptr];simp
   refine (del_core g n cap l1.length (l1.length+1) cur w h2 h5 rfl (by omega) h3 (fun u hu=>?_)).mono ?_
   · rw [h6'] at hu;rcases List.mem_append.1 hu with e|e
     · obtain ⟨_,_,rfl⟩:=List.mem_map.1 e;rfl
     · rcases List.mem_cons.1 e with rfl|e
       · rfl
       · obtain ⟨_,_,rfl⟩:=List.mem_map.1 e;rfl
   · rintro _ w' ⟨rfl,rfl⟩;have hd:(delA cur n l1.length).toList=(l1++l2).map ptr++cur.toList.drop (l1.length+(n - (l1.length+1))):=by
      unfold delA;have t1:cur.toList.take l1.length=l1.map ptr:=by
       have:cur.toList.take l1.length=(cur.toList.take n).take l1.length:=by rw [List.take_take,Nat.min_eq_left (by omega)]
       rw [this,h6',List.take_append_of_le_length (by simp),List.take_of_length_le (by simp)]
      have t2:(cur.toList.take n).drop (l1.length+1)=l2.map ptr:=by
       rw [h6'];rw [List.drop_append,List.drop_eq_nil_of_le (by simp)];simp
      rw [t1,t2];simp
     have hg1:(w.drew.setRow g (delA cur n l1.length)).heap[g]?=some (.cells (delA cur n l1.length) 109 (0,0)):=setRow_heap w.drew g cur _ 109 (0,0) h2;have hsz:(delA cur n l1.length).size=cap:=by
      rw [<- Array.length_toList,hd];(simp);omega
     refine ⟨rfl,⟨⟨by rw [fm_ptr];simp,.inr ⟨g,cap,_,?_,h1,zae hg1 _ _,?_,h4,?_,?_⟩⟩,fun g' hg'=>by cases hg';exact hk⟩,?_⟩
     · rw [show (l1++l2).length=n - 1 by rw [List.length_append];omega]
     · rw [List.length_append];omega
     · rw [Array.size_setIfInBounds,hsz,Nat.mul_one]
     · rw [Array.toList_setIfInBounds,Nat.mul_one,show (l1++l2).length=n - 1 by rw [List.length_append];omega,List.take_set_of_le (Nat.le_refl _),hd,List.take_append_of_le_length (by simp;omega),List.take_of_length_le (by simp;omega),fm_ptr]
     · refine ⟨rfl,rfl,rfl,by simp [World.setCell],fun _ _=>rfl,fun b' hb' ht=>?_⟩;have hne:b'≠g:=fun e=>ht (by rw [e];exact hk);rw [Below.heap_setCell _ _ _ _ hne,setRow_other _ _ _ _ hne];rfl
theorem info80:∃ i z,Tryz.prog.info? 80=some i∧i.zero=some z∧i.size=9∧i.bytes=80∧z.cells.size=9 :=
 ⟨(Tryz.prog.info? 80).getD default,.agg #[iI 0,iI 0,iI 0,iI 0,iI 0,iI 0,iI 0,.string ⟨#[]⟩,iI 0],by kernel_rfl,by kernel_rfl,by kernel_rfl,by kernel_rfl,by kernel_rfl⟩
theorem under75:Tryz.prog.underlying 75=some (.slice 80):=by kernel_rfl
theorem app75 {K:Nat->Nat} {w:World} {B t:Nat} {v:Value} {l:List Oc} (h:RW 80 9 ocC K w B t v l) (hB:B<=w.heap.size) {N:Nat} {x:Oc} (hb:w.heap[N]?=some (.cells (ocC x).toArray 80 (0,0))) (hl:l.length<=100000000) :
 ∃ oa c w' K',(∀ r,(Builtin.append_ #[75,75] r #[v,.slice (some ⟨N,0,none⟩) 1 1]).run Tryz.prog w=.ok (.slice oa (l.length+1) c) w')∧RW 80 9 ocC K' w' B t (.slice oa (l.length+1) c) (l++[x])∧Mv (fun x=>x=t) w w' K K':=by
 obtain ⟨i,z,hi,hz,hs,hby,hzs⟩:=info80;obtain ⟨v',w',K',q1,q2,q3⟩:=RW.app (ty:=75) under75 hi hz hs hby hzs (by omega) ocL ocO h hB (N:=N) (x:=x) (cs:=(ocC x).toArray) rfl hb (by omega) (by omega);obtain ⟨oa,c,e,_,_⟩:=q2.form;rw [List.length_append,List.length_singleton] at e;subst e;exact ⟨oa,c,w',K',q1,q2,q3⟩
section
variable {K K' : Nat->Nat} {w w' : World} {B t p:Nat} {c:Cf} {oa:Option Addr} {cap:Nat} {next now:Int} {L:List Wt} {D:List Oc} {vw vd:Value} {q:Mq}
theorem PC.less {v:Value} {L1 L2:List Wt} {x:Wt} (h:PC K w B t p c oa cap next now (L1++x::L2) D vw vd q) (R:RW 109 1 ptrC K w' B (t+1) v ((L1++L2).map Wt.b)) (m:Mv (fun u=>u=t+1) w w' K K) :
 PC K (w'.setCell ⟨p,14,none⟩ v) B t p c oa cap next now (L1++L2) D v vd q∧Mv (fun u=>u=t∨u=t+1) w (w'.setCell ⟨p,14,none⟩ v) K K:=by
 have cl:=h.cl.mv m (by omega);have m2:Mv (fun u=>u=t) w' (w'.setCell ⟨p,14,none⟩ v) K K:=Mv.of_set w' K ⟨p,14,none⟩ v cl.k;have mm:Mv (fun u=>u=t∨u=t+1) w (w'.setCell ⟨p,14,none⟩ v) K K:=(m.mono (fun u e=>.inr e)).trans (m2.mono (fun u e=>.inl e));have me:=h.me;have hsub:(L1++L2).Sublist (L1++x::L2):=List.Sublist.append (List.Sublist.refl _) (List.sublist_cons_self _ _);refine ⟨⟨⟨zae cl.at_ 14 _,cl.k⟩,R.mv m2 (by omega),h.dn.mv mm (by omega),fun y hy=>(h.cs y (hsub.subset hy)).mv mm (by omega) (by omega),h.nd.sublist (hsub.map _),me.mv mm (by omega),h.gs.mv mm (by omega),h.gl,h.ok,Nat.le_trans h.hB mm.size,h.er mm (fun t' e=>by omega),h.h0' mm,h.b1⟩,mm⟩
theorem PC.told (h:PC K w B t p c oa cap next now L D vw vd q) {N:Nat} {o:Oc} (hN:w.heap[N]?=some (.cells (ocC o).toArray 80)) (hl:D.length<=100000000) :
 ∃ o' c' w' K',(∀ r,(Builtin.append_ #[75,75] r #[vd,.slice (some ⟨N,0,none⟩) 1 1]).run Tryz.prog w=.ok (.slice o' (D.length+1) c') w')∧w'.heap[p]?=w.heap[p]?∧PC K' (w'.setCell ⟨p,15,none⟩ (.slice o' (D.length+1) c')) B t p c oa cap next now L (D++[o]) vw (.slice o' (D.length+1) c') q∧Mv (fun u=>u=t∨u=t+2) w (w'.setCell ⟨p,15,none⟩ (.slice o' (D.length+1) c')) K K':=by
 obtain ⟨o',c',w',K',hr,R,m⟩:=app75 h.dn h.hB hN hl;have cl:=h.cl.mv m (by omega);obtain ⟨v,hv⟩:∃ v,Value.slice o' (D.length+1) c'=v:=⟨_,rfl⟩;rw [hv] at R;refine ⟨o',c',w',K',hr,cl.at_.trans h.cl.at_.symm,?_⟩;rw [hv];have m2:Mv (fun u=>u=t) w' (w'.setCell ⟨p,15,none⟩ v) K' K':=Mv.of_set w' K' ⟨p,15,none⟩ v cl.k;have mm:Mv (fun u=>u=t∨u=t+2) w (w'.setCell ⟨p,15,none⟩ v) K K':=(m.mono (fun u e=>.inr e)).trans (m2.mono (fun u e=>.inl e));have me:=h.me;exact ⟨⟨⟨zae cl.at_ 15 _,cl.k⟩,h.wr.mv mm (by omega),R.mv m2 (by omega),fun y hy=>(h.cs y hy).mv mm (by omega) (by omega),h.nd,me.mv mm (by omega),h.gs.mv mm (by omega),h.gl,h.ok,Nat.le_trans h.hB mm.size,h.er mm (fun t' e=>by omega),h.h0' mm,h.b1⟩,mm⟩
end
end Go.Proofs.YtfcbjcebkahehaaGreatDoor.Cl
