import Derived.Test.YtfcbjcebkahehaaGreatDoorPly15
import Derived.Test.YtfcbjcebkahehaaGreatDoorPly06
set_option maxRecDepth 8000
set_option maxHeartbeats 20000000
set_option linter.unusedSimpArgs false
namespace Go.Proofs.YtfcbjcebkahehaaGreatDoor.Cl
open Go.RowKit
structure Mk (T:Nat->Prop) (w w' : World) (K K' : Nat->Nat):Prop where
 os:w'.os=w.os
 tape:w'.tape=w.tape
 output:w'.output=w.output
 size:w.heap.size<=w'.heap.size
 old:∀ b,b<w.heap.size->¬ T (K b)->K' b=K b
 kept:∀ b,b<w.heap.size->¬ T (K b)->w'.heap[b]?=w.heap[b]?
theorem Mv.wk {T:Nat->Prop} {w w' : World} {K K' : Nat->Nat} (m:Mv T w w' K K'):Mk T w w' K K':=⟨m.os,m.tape,m.output,m.size,fun b hb _=>m.old b hb,m.kept⟩
theorem Mk.refl (T:Nat->Prop) (w:World) (K:Nat->Nat):Mk T w w K K:=(Mv.refl T w K).wk
theorem Mk.trans {T:Nat->Prop} {a b c:World} {K K' K'' : Nat->Nat} (h:Mk T a b K K') (k:Mk T b c K' K''):Mk T a c K K'' :=
 ⟨k.os.trans h.os,k.tape.trans h.tape,k.output.trans h.output,Nat.le_trans h.size k.size,fun i hi ht=>(k.old i (Nat.lt_of_lt_of_le hi h.size) (by rw [h.old i hi ht];exact ht)).trans (h.old i hi ht),fun i hi ht=>(k.kept i (Nat.lt_of_lt_of_le hi h.size) (by rw [h.old i hi ht];exact ht)).trans (h.kept i hi ht)⟩
theorem Mk.mono {T T' : Nat->Prop} {a b:World} {K K' : Nat->Nat} (h:Mk T a b K K') (ht:∀ t,T t->T' t):Mk T' a b K K':=⟨h.os,h.tape,h.output,h.size,fun i hi h2=>h.old i hi (fun h3=>h2 (ht _ h3)),fun i hi h2=>h.kept i hi (fun h3=>h2 (ht _ h3))⟩
section
variable {K K' : Nat->Nat} {w w' : World} {T:Nat->Prop}
theorem TB.wk {t b:Nat} {o:Obj} (h:TB K w t b o) (m:Mk T w w' K K') (ht:¬ T t):TB K' w' t b o :=
 ⟨(m.kept b h.lt (by rw [h.k];exact ht)).trans h.at_,(m.old b h.lt (by rw [h.k];exact ht)).trans h.k⟩
theorem RW.wk {α:Type} {e sz:Nat} {cf:α->List Value} {B t:Nat} {v:Value} {l:List α} (h:RW e sz cf K w B t v l) (m:Mk T w w' K K') (ht:¬ T t):RW e sz cf K' w' B t v l :=
 ⟨own_block h.own (fun g hg=>m.kept g (h.own.lt g hg).2 (by rw [h.k g hg];exact ht)),fun g hg=>(m.old g (h.own.lt g hg).2 (by rw [h.k g hg];exact ht)).trans (h.k g hg)⟩
theorem GsT.wk {t:Nat} {oa:Option Addr} {gs:List Int} (h:GsT K w t oa gs) (m:Mk T w w' K K') (ht:¬ T t):GsT K' w' t oa gs:=fun h0=>by
 obtain ⟨q,off,e1,e2,e3,e4⟩:=h h0;exact ⟨q,off,e1,(m.old q e3 (by rw [e2];exact ht)).trans e2,Nat.lt_of_lt_of_le e3 m.size,fun i hi=>(World.cell?_of_block (a:=⟨q,off+i,none⟩) (m.kept q e3 (by rw [e2];exact ht))).trans (e4 i hi)⟩
theorem Mk.zero {B:Nat} (m:Mk T w w' K K') (h0:¬ T 0) (hB:B<=w.heap.size) (hz:∀ b,b<B->K b=0):∀ b,b<B->K' b=0:=fun b hb=>(m.old b (Nat.lt_of_lt_of_le hb hB) (by rw [hz b hb];exact h0)).trans (hz b hb)
theorem err_mk (h:ErrT w) (m:Mk T w w' K K') (h0:¬ T (K 1)):ErrT w':=err_mv (K:=K) (K':=K) (T:=fun t=>T t) h ⟨m.os,m.tape,m.output,m.size,fun _ _=>rfl,m.kept⟩ h0
theorem PC.wk {B t p:Nat} {c:Cf} {oa:Option Addr} {cap:Nat} {next now:Int} {L:List Wt} {D:List Oc} {vw vd:Value} {q:Mq} (h:PC K w B t p c oa cap next now L D vw vd q) (m:Mk T w w' K K') (hz:∀ b,b<B->K b=0) (h0:¬ T 0) (n:∀ j,j<=6->(j=2->vd≠.slice none 0 0)->¬ T (t+j)) (hD:vd=.slice none 0 0->D=[]):PC K' w' B t p c oa cap next now L D vw vd q:=by
 have me:=h.me;have g0:=h.h0 1 h.b1;refine ⟨h.cl.wk m (n 0 (by omega) (by omega)),h.wr.wk m (n 1 (by omega) (by omega)),?_,fun x hx=>?_,h.nd,⟨me.tb.wk m (n 5 (by omega) (by omega)),me.ok⟩,h.gs.wk m (n 6 (by omega) (by omega)),h.gl,h.ok,Nat.le_trans h.hB m.size,err_mk h.err m (by rw [hz 1 h.b1];exact h0),fun b hb=>by rw [m.zero h0 h.hB hz b hb];omega,h.b1⟩
 · by_cases e:vd=.slice none 0 0
   · rw [hD e,e];exact RW.nil _ _ _ _ _ _ _
   · exact h.dn.wk m (n 2 (by omega) (fun _=>e))
 · obtain ⟨a1,a2,a3,a4⟩:=h.cs x hx;exact ⟨a1.wk m (n 3 (by omega) (by omega)),a2.wk m (n 4 (by omega) (by omega)),a3.wk m (n 4 (by omega) (by omega)),a4.wk m (n 4 (by omega) (by omega))⟩
theorem DC.wk {B t p:Nat} {c:Cf} {oa:Option Addr} {cap:Nat} {next now:Int} {L:List Dw} {D:List Oc} {vw vd:Value} {q:Mq} (h:DC K w B t p c oa cap next now L D vw vd q) (m:Mk T w w' K K') (h1:1<B) (hz:∀ b,b<B->K b=0) (h0:¬ T 0) (n:∀ j,j<=6->(j=2->vd≠.slice none 0 0)->¬ T (t+j)) (hD:vd=.slice none 0 0->D=[]):DC K' w' B t p c oa cap next now L D vw vd q:=by
 have me:=h.me;have g0:=h.h0 1 h1;refine ⟨h.cl.wk m (n 0 (by omega) (by omega)),h.wr.wk m (n 1 (by omega) (by omega)),?_,⟨me.tb.wk m (n 5 (by omega) (by omega)),me.ok⟩,h.gs.wk m (n 6 (by omega) (by omega)),h.gl,h.ok,Nat.le_trans h.hB m.size,fun b hb=>by rw [m.zero h0 h.hB hz b hb];omega⟩;by_cases e:vd=.slice none 0 0
 · rw [hD e,e];exact RW.nil _ _ _ _ _ _ _
 · exact h.dn.wk m (n 2 (by omega) (fun _=>e))
end
section
variable {K K' : Nat->Nat} {w w' : World} {B t s p r:Nat} {c:Cf} {next now:Int} {L:List Wt} {M:List Dw} {D:List Oc} {q:Mq} {T:List Int}
theorem RW.nil_of {α:Type} {e sz:Nat} {cf:α->List Value} {l:List α} {v:Value} {t:Nat} (h:RW e sz cf K w B t v l):v=.slice none 0 0->l=[]:=fun e=>by
 obtain ⟨oa,cap,e2,_,_⟩:=h.form;rw [e] at e2;injection e2 with _ e3 _
 exact List.eq_nil_of_length_eq_zero e3.symm
theorem SI.b1 (h:SI K w B t s p r c next now L M D q T):1<B:=by
 obtain ⟨_,_,_,_,P⟩:=h.pc;exact P.b1
theorem SI.wk {U:Nat->Prop} (h:SI K w B t s p r c next now L M D q T) (m:Mk U w w' K K') (hz:∀ b,b<B->K b=0) (h0:¬ U 0) (n:∀ j,j<=22->¬ U (t+j)):SI K' w' B t s p r c next now L M D q T:=by
 have h1:=h.b1;obtain ⟨vt,a1,a2⟩:=h.me;obtain ⟨oa,cap,vw,vd,P⟩:=h.pc;obtain ⟨oa',cap',vw',vd',qb,Q⟩:=h.dc;exact ⟨⟨vt,a1.wk m (n 22 (by omega)),a2.wk m (n 20 (by omega))⟩,⟨oa,cap,vw,vd,P.wk m hz h0 (fun j hj _=>n j (by omega)) (fun e=>P.dn.nil_of e)⟩,⟨oa',cap',vw',vd',qb,Q.wk m h1 hz h0 (fun j hj _=>by rw [Nat.add_assoc];exact n (10+j) (by omega)) (fun e=>Q.dn.nil_of e)⟩,h.pr,h.so,h.n0,h.x0,h.sq,h.ln⟩
def tagd (K:Nat->Nat) (v:Value) (tp:Nat):Nat->Nat:=fun b=>if v.ownBlock=some b then tp else K b
theorem RW.tagd {α:Type} {e sz:Nat} {cf:α->List Value} {l:List α} {v:Value} {t:Nat} (h:RW e sz cf K w B t v l) (tp:Nat):RW e sz cf (tagd K v tp) w B tp v l:=⟨h.own,fun _ hg=>if_pos hg⟩
theorem mk_tagd {α:Type} {e sz:Nat} {cf:α->List Value} {l:List α} {v:Value} {t:Nat} (h:RW e sz cf K w B t v l) (tp:Nat):Mk (fun u=>u=t) w w K (tagd K v tp) :=
 ⟨rfl,rfl,rfl,Nat.le_refl _,fun b _ ht=>if_neg (fun e=>ht (h.k b e)),fun _ _ _=>rfl⟩
theorem SI.out_any (h:SI K w B t s p r c next now L M D q T) (hz:∀ b,b<B->K b=0) (t0:0<t) (tp:Nat) (htp:t+40<tp) :
 Calls Tryz.prog 22 #[ptr p] w fun e w1=>∃ v,e=.returned v∧Hid (∃ K1,Mk (fun u=>(t<=u∧u<=t+6)∨u=tp) w w1 K K1∧RW 80 9 ocC K1 w1 B tp v D∧∀ w2,Below w1.heap.size w1 w2->Calls Tryz.prog 34 #[ptr r] w2 fun e w'=>∃ v',e=.returned v'∧Hid (∃ K',SI K' w' B t s p r c next now L M [] q T∧RW 80 9 ocC K' w' B tp v D∧RW 80 9 ocC K' w' B (tp+1) v' D∧Mk (fun u=>(t<=u∧u<=t+16)∨u=tp∨u=tp+1) w w' K K')):=by
 have h1:=h.b1;obtain ⟨oa,cap,vw,vd,P⟩:=h.pc;obtain ⟨oa',cap',vw',vd',qb,Q⟩:=h.dc;refine P.done_any.mono ?_;rintro e w1 ⟨rfl,P1,R1,m1⟩;have mt:=mk_tagd R1 tp;have mm1:Mk (fun u=>(t<=u∧u<=t+6)∨u=tp) w w1 K (tagd K vd tp):=(m1.wk.mono (fun u e=>by omega)).trans (mt.mono (fun u e=>by omega));refine ⟨vd,rfl,_,mm1,R1.tagd tp,fun w2 hb2=>?_⟩;have hz1:=m1.wk.zero (by omega) P.hB hz
 have P2:=P1.wk mt hz1 (by omega) (fun j hj h2=>by
  by_cases e:j=2
  · exact (h2 e rfl).elim
  · omega) (fun _=>rfl)
 have hz2:=mt.zero (by omega) P1.hB hz1;have Q1:=((Q.to m1 (fun t' e=>by omega)).wk mt h1 hz1 (by omega) (fun j hj _=>by omega) (fun e=>Q.dn.nil_of e)).below hb2 (fun _=>t+7);have m2:=Mv.of_below hb2 (tagd K vd tp) (fun _=>t+7);have P3:=P2.below hb2 (fun _=>t+7);have R2:=(R1.tagd tp).mv m2 (fun e=>e);have hz3:=m2.wk.zero (fun e=>e) P2.hB hz2;refine Q1.done_any.mono ?_;rintro e w' ⟨rfl,Q3,R3,m3⟩;obtain ⟨vt,a1,a2⟩:=h.me;have mt2:=mk_tagd R3 (tp+1);have hz4:=m3.wk.zero (by omega) P3.hB hz3;have P4:=(P3.to m3 (fun t' e=>by omega)).wk mt2 hz4 (by omega) (fun j hj _=>by omega) (fun _=>rfl)
 have Q4:=Q3.wk mt2 h1 hz4 (by omega) (fun j hj h2=>by
  by_cases e:j=2
  · exact (h2 e rfl).elim
  · omega) (fun _=>rfl)
 have mm:Mk (fun u=>(t<=u∧u<=t+16)∨u=tp∨u=tp+1) w w' K (tagd (ext w1 (tagd K vd tp) (fun _=>t+7)) vd' (tp+1)):=(mm1.mono (fun u e=>by omega)).trans ((m2.wk.mono (fun _ e=>e.elim)).trans ((m3.wk.mono (fun u e=>by omega)).trans (mt2.mono (fun u e=>by omega))));exact ⟨vd',rfl,_,⟨⟨vt,a1.wk mm (by omega),a2.wk mm (by omega)⟩,⟨_,_,_,_,P4⟩,⟨_,_,_,_,qb,Q4⟩,h.pr,h.so,h.n0,h.x0,h.sq,by have:=h.ln;simp;omega⟩,(R2.mv m3 (by omega)).wk mt2 (by omega),R3.tagd (tp+1),mm⟩
end
structure Sl where
 oa:Option Addr
 n:Nat
 c:Nat
abbrev slV (s:Sl):Value:=.slice s.oa s.n s.c
def slC (s:Sl):List Value:=[slV s]
theorem slL (s:Sl):(slC s).length=1:=rfl
theorem slO (s:Sl):∀ u∈slC s,u.oneCell'=true:=by
 intro u hu;simp only [slC,List.mem_cons,List.not_mem_nil,or_false] at hu;subst hu;rfl
structure KL (tl le:Nat):Prop where
 ty:Tryz.prog.underlying tl=some (.slice le)
 info:∃ i:TypeInfo,Tryz.prog.info? le=some i∧i.zero=some (.slice none 0 0)∧i.size=1∧i.bytes=24
theorem kl38:KL 38 24:=⟨Tryz.underlying38,(Tryz.prog.info? 24).getD default,by kernel_rfl,by kernel_rfl,by kernel_rfl,by kernel_rfl⟩
theorem kl39:KL 39 73:=⟨Tryz.underlying39,(Tryz.prog.info? 73).getD default,by kernel_rfl,by kernel_rfl,by kernel_rfl,by kernel_rfl⟩
theorem kl40:KL 40 75:=⟨Tryz.underlying40,(Tryz.prog.info? 75).getD default,by kernel_rfl,by kernel_rfl,by kernel_rfl,by kernel_rfl⟩
structure KE (te e sz bytes:Nat):Prop where
 ty:Tryz.prog.underlying te=some (.slice e)
 info:∃ i:TypeInfo,Tryz.prog.info? e=some i∧(∃ z,i.zero=some z∧z.cells.size=sz)∧i.size=sz∧i.bytes=bytes
 sz0:0<sz
 by0:bytes<=1000
structure Ks where
 vf:Value
 vw:Value
 va:Value
 FL:List Sl
 WL:List Sl
 AL:List Sl
 N:Nat
structure BL {α:Type} (e sz le:Nat) (cf:α->List Value) (mk:Nat->α) (a i i' : Nat) (K:Nat->Nat) (w:World) (B:Nat) (x:Ks):Prop where
 f:RW le 1 slC K w B (310+10*a) x.vf x.FL
 g:RW le 1 slC K w B (311+10*a) x.vw x.WL
 al:RW le 1 slC K w B (312+10*a) x.va x.AL
 lw:x.WL.length=x.FL.length
 la:x.AL.length=x.N+i
 hi:i<=x.FL.length
 ent:∀ j s,i'<=j->x.FL[j]?=some s->∃ u l,x.WL[j]?=some u∧RW e sz cf K w B (1000+6*(x.N+j)+2*a) (slV s) l∧RW e sz cf K w B (1001+6*(x.N+j)+2*a) (slV u) l∧l.length<=100000000
 all:∀ t s,x.AL[t]?=some s->∃ n,RW e sz cf K w B (1000+6*t+2*a) (slV s) (List.replicate n (mk t))∧n<=100000003
 hB:B<=w.heap.size
section
variable {α:Type} {e sz le tl te bytes:Nat} {cf:α->List Value} {mk:Nat->α} {a i i' : Nat} {K K' : Nat->Nat} {w w' : World} {B:Nat} {x:Ks}
theorem BL.mv {T:Nat->Prop} (h:BL e sz le cf mk a i i' K w B x) (m:Mk T w w' K K') (h1:¬ T (310+10*a)) (h2:¬ T (311+10*a)) (h3:¬ T (312+10*a)) (ha:∀ n,n<x.N+i∨(x.N+i'<=n∧n<x.N+x.FL.length)->¬ T (1000+6*n+2*a)∧¬ T (1001+6*n+2*a)):BL e sz le cf mk a i i' K' w' B x:=by
 refine ⟨h.f.wk m h1,h.g.wk m h2,h.al.wk m h3,h.lw,h.la,h.hi,fun j s hij hs=>?_,fun t s hs=>?_,Nat.le_trans h.hB m.size⟩
 · have hj:=(List.getElem?_eq_some_iff.1 hs).1;obtain ⟨u,l,e1,e2,e3,e4⟩:=h.ent j s hij hs;have n:=ha (x.N+j) (.inr ⟨by omega,by omega⟩);exact ⟨u,l,e1,e2.wk m n.1,e3.wk m n.2,e4⟩
 · have ht:=(List.getElem?_eq_some_iff.1 hs).1;have:=h.la
   obtain ⟨n,e1,e2⟩:=h.all t s hs;exact ⟨n,e1.wk m (ha t (.inl (by omega))).1,e2⟩
theorem BL.far {T:Nat->Prop} (h:BL e sz le cf mk a i i' K w B x) (m:Mk T w w' K K') (ht:∀ u,310<=u->¬ T u):BL e sz le cf mk a i i' K' w' B x :=
 h.mv m (ht _ (by omega)) (ht _ (by omega)) (ht _ (by omega)) (fun n _=>⟨ht _ (by omega),ht _ (by omega)⟩)
theorem BL.other {T:Nat->Prop} {b:Nat} (h:BL e sz le cf mk a i i' K w B x) (m:Mk T w w' K K') (ha:a<3) (hb:b<3) (hab:a≠b) (ht:∀ u,T u->u<310∨u=310+10*b∨u=311+10*b∨u=312+10*b∨∃ n,u=1000+6*n+2*b∨u=1001+6*n+2*b):BL e sz le cf mk a i i' K' w' B x:=by
 have k:∀ u,T u->u<310∨u=310+10*b∨u=311+10*b∨u=312+10*b∨(1000<=u∧(u=1000+6*((u - 1000) / 6)+2*b∨u=1001+6*((u - 1000) / 6)+2*b)):=fun u hu=>by
  rcases ht u hu with h|h|h|h|⟨n,h⟩
  · exact .inl h
  · exact .inr (.inl h)
  · exact .inr (.inr (.inl h))
  · exact .inr (.inr (.inr (.inl h)))
  · exact .inr (.inr (.inr (.inr (by omega))))
 refine h.mv m (fun c=>?_) (fun c=>?_) (fun c=>?_) (fun n _=>⟨fun c=>?_,fun c=>?_⟩) <;> (have:=k _ c;omega)
theorem RW.put {t:Nat} {v:Value} {l:List Sl} (k:KL tl le) (h:RW le 1 slC K w B t v l) (hB:B<=w.heap.size) {b:Nat} {s:Sl} (hb:w.heap[b]?=some (.cells #[slV s] le (0,0))) (hl:l.length<=100000000000) :
 ∃ oa c w' K',(∀ r,(Builtin.append_ #[tl,tl] r #[v,.slice (some ⟨b,0,none⟩) 1 1]).run Tryz.prog w=.ok (.slice oa (l.length+1) c) w')∧RW le 1 slC K' w' B t (.slice oa (l.length+1) c) (l++[s])∧Mv (fun x=>x=t) w w' K K':=by
 obtain ⟨i,hi,hz,hs,hby⟩:=k.info;obtain ⟨v',w',K',q1,q2,q3⟩:=RW.app (ty:=tl) k.ty hi hz hs hby rfl (by omega) slL slO h hB (N:=b) (x:=s) (cs:=#[slV s]) rfl hb (by omega) (by omega);obtain ⟨oa,c,e,_,_⟩:=q2.form;rw [List.length_append,List.length_singleton] at e;subst e;exact ⟨oa,c,w',K',q1,q2,q3⟩
theorem RW.slen {t:Nat} {s:Sl} {l:List α} (h:RW e sz cf K w B t (slV s) l):s.n=l.length:=by
 obtain ⟨oa,c,e,_,_⟩:=h.form;injection e
theorem BL.put (h:BL e sz le cf mk a 0 0 K w B x) {s u:Sl} {l:List α} (hs:RW e sz cf K w B (1000+6*(x.N+x.FL.length)+2*a) (slV s) l) (hu:RW e sz cf K w B (1001+6*(x.N+x.FL.length)+2*a) (slV u) l) (hl:l.length<=100000000) {w' : World} {K' : Nat->Nat} {v1 v2:Value}
 (h1:RW le 1 slC K' w' B (310+10*a) v1 (x.FL++[s])) (h2:RW le 1 slC K' w' B (311+10*a) v2 (x.WL++[u])) (m:Mk (fun t=>t=300∨t=310+10*a∨t=311+10*a) w w' K K') (ha:a<3):BL e sz le cf mk a 0 0 K' w' B ⟨v1,v2,x.va,x.FL++[s],x.WL++[u],x.AL,x.N⟩:=by
 refine ⟨h1,h2,h.al.wk m (by omega),by simp [h.lw],h.la,Nat.zero_le _,fun j s' _ hs'=>?_,fun t s' hs'=>?_,Nat.le_trans h.hB m.size⟩
 · rcases Nat.lt_or_ge j x.FL.length with hj|hj
   · rw [List.getElem?_append_left hj] at hs';obtain ⟨u',l',e1,e2,e3,e4⟩:=h.ent j s' (Nat.zero_le _) hs';exact ⟨u',l',by rw [List.getElem?_append_left (by rw [h.lw];exact hj)];exact e1,e2.wk m (by show ¬ (_∨_);omega),e3.wk m (by show ¬ (_∨_);omega),e4⟩
   · have hj2:=(List.getElem?_eq_some_iff.1 hs').1;rw [List.length_append,List.length_singleton] at hj2;obtain rfl:j=x.FL.length:=(by omega);rw [List.getElem?_append_right (Nat.le_refl _),Nat.sub_self] at hs';cases hs';exact ⟨u,l,by rw [List.getElem?_append_right (by rw [h.lw];exact Nat.le_refl _),h.lw,Nat.sub_self];rfl,hs.wk m (by show ¬ (_∨_);omega),hu.wk m (by show ¬ (_∨_);omega),hl⟩
 · obtain ⟨n,e1,e2⟩:=h.all t s' hs';exact ⟨n,e1.wk m (by show ¬ (_∨_);omega),e2⟩
theorem BL.take (h:BL e sz le cf mk a i i K w B x) {s:Sl} (hs:x.FL[i]?=some s):BL e sz le cf mk a i (i+1) K w B x∧∃ u l,x.WL[i]?=some u∧RW e sz cf K w B (1000+6*(x.N+i)+2*a) (slV s) l∧RW e sz cf K w B (1001+6*(x.N+i)+2*a) (slV u) l∧l.length<=100000000 :=
 ⟨⟨h.f,h.g,h.al,h.lw,h.la,h.hi,fun j s' hj=>h.ent j s' (by omega),h.all,h.hB⟩,h.ent i s (Nat.le_refl _) hs⟩
theorem rep_mid (n k:Nat) (m x:α) (l:List α) (h:k+(l.length+1)=n):(List.replicate k m++x::l).length=n:=by simp;omega
theorem zhp (k:Nat) (m:α) (l:List α):List.replicate k m++m::l=List.replicate (k+1) m++l:=by rw [List.replicate_succ',List.append_assoc];rfl
theorem RW.app3 (k:KE te e sz bytes) (hcf:∀ x,(cf x).length=sz) (h1:∀ x,∀ u∈cf x,u.oneCell'=true) {t n:Nat} {v:Value} {m:α} (h:RW e sz cf K w B t v (List.replicate n m)) (hn:n<=100000000) (hB:B<=w.heap.size) {b:Nat} (hb:∀ j,j<3->w.rangeAt b (0+j*sz) (cf m)) :
 ∃ g c w' K',(∀ r,(Builtin.append_ #[te,te] r #[v,.slice (some ⟨b,0,none⟩) 3 3]).run Tryz.prog w=.ok (.slice (some ⟨g,0,none⟩) (n+3) c) w')∧RW e sz cf K' w' B t (.slice (some ⟨g,0,none⟩) (n+3) c) (List.replicate (n+3) m)∧Mv (fun u=>u=t) w w' K K':=by
 obtain ⟨i,hi,⟨z,hz,hzs⟩,hs,hby⟩:=k.info;have hlen:(List.replicate n m).length=n:=by simp
 have hmul:(n+3)*bytes<=100000003*1000:=Nat.mul_le_mul (by omega) k.by0
 obtain ⟨v',w',q1,q2,q3,q4⟩:=own_apps (ty:=te) k.ty hi hz hs hby hzs k.sz0 hcf h1 h.own hB b 0 3 (List.replicate 3 m) (fun j y hj=>by
  have h3:=(List.getElem?_eq_some_iff.1 hj).1;simp at h3
  rw [List.getElem?_replicate,if_pos h3] at hj;cases hj
  exact hb j h3) (by simp;omega) (by simp;omega)
 have e1:List.replicate n m++List.replicate 3 m=List.replicate (n+3) m:=by rw [List.replicate_append_replicate]
 rw [e1] at q2;have hR:RW e sz cf (ext w K (fun _=>t)) w' B t v' (List.replicate (n+3) m):=by
  refine ⟨q2,fun g hg=>?_⟩;rcases q4 with c|c
  · rw [c] at hg;rw [zbd (h.own.lt g hg).2];exact h.k g hg
  · rw [c] at hg;cases hg;exact za2 (Nat.le_refl _)
 obtain ⟨oa,c,e2,_,e4⟩:=hR.form;obtain ⟨g,rfl⟩:=e4 (by simp);rw [List.length_replicate] at e2;subst e2;refine ⟨g,c,w',_,fun r=>?_,hR,⟨q3.os,q3.tape,q3.output,q3.size,fun _ hb=>zbd hb,fun b hb ht=>q3.block b hb (fun e2=>ht (h.k b e2.symm))⟩⟩;have:=q1 r
 rwa [List.length_replicate] at this
theorem BL.grown (h:BL e sz le cf mk a i (i+1) K w B x) (ha:a<3) {s:Sl} {n:Nat} (hi:i<x.FL.length) (hs:RW e sz cf K w B (1000+6*(x.N+i)+2*a) (slV s) (List.replicate n (mk (x.N+i)))) (hn:n<=100000003) {w' : World} {K' : Nat->Nat} {v1:Value} (h1:RW le 1 slC K' w' B (312+10*a) v1 (x.AL++[s])) (m:Mk (fun t=>t=300∨t=312+10*a) w w' K K') :
 BL e sz le cf mk a (i+1) (i+1) K' w' B ⟨x.vf,x.vw,v1,x.FL,x.WL,x.AL++[s],x.N⟩:=by
 have hla:=h.la;refine ⟨h.f.wk m (by show ¬ (_∨_);omega),h.g.wk m (by show ¬ (_∨_);omega),h1,h.lw,by simp [hla];omega,hi,fun j s' hj hs'=>?_,fun t s' hs'=>?_,Nat.le_trans h.hB m.size⟩
 · obtain ⟨u',l',e1,e2,e3,e4⟩:=h.ent j s' hj hs';exact ⟨u',l',e1,e2.wk m (by show ¬ (_∨_);omega),e3.wk m (by show ¬ (_∨_);omega),e4⟩
 · rcases Nat.lt_or_ge t x.AL.length with ht|ht
   · have hs2:x.AL[t]?=some s':=(by rw [<- hs'];exact (List.getElem?_append_left ht).symm);obtain ⟨n',e1,e2⟩:=h.all t s' hs2;exact ⟨n',e1.wk m (by show ¬ (_∨_);omega),e2⟩
   · have ht2:=(List.getElem?_eq_some_iff.1 hs').1;rw [List.length_append,List.length_singleton] at ht2;obtain rfl:t=x.N+i:=(by omega);have hs2:(x.AL++[s])[x.AL.length]?=some s':=(by rw [<- hs'];exact congrArg (fun z=>(x.AL++[s])[z]?) hla);rw [List.getElem?_append_right (Nat.le_refl _),Nat.sub_self] at hs2;cases hs2;exact ⟨n,hs.wk m (by show ¬ (_∨_);omega),hn⟩
theorem BL.over (h:BL e sz le cf mk a i i K w B x):BL e sz le cf mk a 0 0 K w B ⟨.slice none 0 0,.slice none 0 0,x.va,[],[],x.AL,x.N+i⟩ :=
 ⟨RW.nil _ _ _ _ _ _ _,RW.nil _ _ _ _ _ _ _,h.al,rfl,h.la,Nat.zero_le _,fun j s _ hs=>(by simp at hs),h.all,h.hB⟩
end
theorem ke24:KE 24 3 1 8:=⟨Tryz.underlying24,⟨(Tryz.prog.info? 3).getD default,by kernel_rfl,⟨iI 0,by kernel_rfl,rfl⟩,by kernel_rfl,by kernel_rfl⟩,by omega,by omega⟩
theorem ke73:KE 73 78 3 32:=⟨Tryz.underlying73,⟨(Tryz.prog.info? 78).getD default,by kernel_rfl,⟨.agg #[iI 0,iI 0,.string ⟨#[]⟩],by kernel_rfl,rfl⟩,by kernel_rfl,by kernel_rfl⟩,by omega,by omega⟩
theorem ke75:KE 75 80 9 80:=⟨Tryz.underlying75,⟨(Tryz.prog.info? 80).getD default,by kernel_rfl,⟨.agg #[iI 0,iI 0,iI 0,iI 0,iI 0,iI 0,iI 0,.string ⟨#[]⟩,iI 0],by kernel_rfl,rfl⟩,by kernel_rfl,by kernel_rfl⟩,by omega,by omega⟩
def mkI (t:Nat):Int:=-1 - (t:Int)
def mkP (t:Nat):Pk:={ src:=-1 - (t:Int),dst:=0,data:=[] }
def mkO (t:Nat):Oc:={ seq:=-1 - (t:Int),st:=0,acc:=0,rej:=0,why:=0,low:=0,high:=0,res:=[],at_:=0 }
structure BK (K:Nat->Nat) (w:World) (B bb:Nat) (x y z:Ks) (i i' j j' k k' : Nat):Prop where
 blk:TB K w 300 bb (.cells #[x.vf,x.vw,y.vf,y.vw,z.vf,z.vw,x.va,y.va,z.va] 42)
 n:BL 3 1 24 intC mkI 0 i i' K w B x
 p:BL 78 3 73 pkC mkP 1 j j' K w B y
 o:BL 80 9 75 ocC mkO 2 k k' K w B z
theorem zbw {K:Nat->Nat} {w:World} {t b:Nat} {cs:Array Value} {ty:Nat} (h:TB K w t b (.cells cs ty)) (o:Nat) (v:Value):TB K (w.setCell ⟨b,o,none⟩ v) t b (.cells (cs.setIfInBounds o v) ty):=⟨zae h.at_ o v,h.k⟩
section
variable {K K' : Nat->Nat} {w w' : World} {B bb:Nat} {x y z:Ks} {i i' j j' k k' : Nat}
theorem BK.far {T:Nat->Prop} (h:BK K w B bb x y z i i' j j' k k') (m:Mk T w w' K K') (ht:∀ u,300<=u->¬ T u):BK K' w' B bb x y z i i' j j' k k' :=
 ⟨h.blk.wk m (ht _ (by omega)),h.n.far m (fun u hu=>ht u (by omega)),h.p.far m (fun u hu=>ht u (by omega)),h.o.far m (fun u hu=>ht u (by omega))⟩
theorem BK.ce (h:BK K w B bb x y z i i' j j' k k') {q:Nat} {v:Value} (hq:(#[x.vf,x.vw,y.vf,y.vw,z.vf,z.vw,x.va,y.va,z.va]:Array Value)[q]?=some v):w.cell? ⟨bb,q,none⟩=some v:=zaa h.blk.at_ hq
theorem BK.put_n (h:BK K w B bb x y z 0 0 0 0 0 0) {s u:Sl} {l:List Int} (hs:RW 3 1 intC K w B (1000+6*(x.N+x.FL.length)+0) (slV s) l) (hu:RW 3 1 intC K w B (1001+6*(x.N+x.FL.length)+0) (slV u) l) (hl:l.length<=100000000) (hn:x.FL.length<=10000000000) {S1:Nat} {w1:World} (hS1:w.heap.size=S1) (hw1:w.alloc (.cells #[slV s] 24)=w1) :
 ∃ oa c w2 w3 K3,(∀ r,(Builtin.append_ #[38,38] r #[x.vf,.slice (some ⟨S1,0,none⟩) 1 1]).run Tryz.prog w1=.ok (.slice oa (x.FL.length+1) c) w2)∧w2.cell? ⟨bb,0,none⟩=some x.vf∧w2.frozen? ⟨bb,0,none⟩=false∧w2.setCell ⟨bb,0,none⟩ (.slice oa (x.FL.length+1) c)=w3∧w3.cell? ⟨bb,1,none⟩=some x.vw∧Mk (fun t=>t=300∨t=310) w w3 K K3 ∧
  ∀ S3 w4,w3.heap.size=S3->w3.alloc (.cells #[slV u] 24)=w4->∃ ob d w5 w6 K',(∀ r,(Builtin.append_ #[38,38] r #[x.vw,.slice (some ⟨S3,0,none⟩) 1 1]).run Tryz.prog w4=.ok (.slice ob (x.FL.length+1) d) w5)∧w5.cell? ⟨bb,1,none⟩=some x.vw∧w5.frozen? ⟨bb,1,none⟩=false∧w5.setCell ⟨bb,1,none⟩ (.slice ob (x.FL.length+1) d)=w6 ∧
   Hid (BK K' w6 B bb ⟨.slice oa (x.FL.length+1) c,.slice ob (x.FL.length+1) d,x.va,x.FL++[s],x.WL++[u],x.AL,x.N⟩ y z 0 0 0 0 0 0)∧Mk (fun t=>t=300∨t=310∨t=311) w w6 K K':=by
 have m1:Mv (fun _=>False) w w1 K (ext w K (fun _=>299)):=by rw [<- hw1];exact Mv.alloc _ _ _ _
 have h1:=h.far m1.wk (fun _ _ h=>h.elim);obtain ⟨oa,c,w2,K2,q1,q2,m2⟩:=h1.n.f.put kl38 h1.n.hB (b:=S1) (s:=s) (by rw [<- hw1,<- hS1];exact (MapKept.heap_alloc w _).1) (by omega);have b2:=h1.blk.mv m2 (by omega);obtain ⟨w3,hw3⟩:∃ w3,w2.setCell ⟨bb,0,none⟩ (.slice oa (x.FL.length+1) c)=w3:=⟨_,rfl⟩;have m3:Mv (fun t=>t=300) w2 w3 K2 K2:=by rw [<- hw3];exact Mv.of_set w2 K2 ⟨bb,0,none⟩ _ b2.k
 have b3:=zbw b2 0 (.slice oa (x.FL.length+1) c);rw [hw3] at b3;refine ⟨oa,c,w2,w3,K2,q1,zaa b2.at_ rfl,zab b2.at_ _,hw3,zaa b3.at_ rfl,(m1.wk.mono (fun t h=>h.elim)).trans ((m2.wk.mono (fun t h=>by omega)).trans (m3.wk.mono (fun t h=>by omega))),fun S3 w4 hS3 hw4=>?_⟩;have m4:Mv (fun _=>False) w3 w4 K2 (ext w3 K2 (fun _=>299)):=by rw [<- hw4];exact Mv.alloc _ _ _ _
 have g4:=((h1.n.g.mv m2 (by omega)).mv m3 (by omega)).mv m4 id;have hB4:B<=w4.heap.size:=Nat.le_trans h1.n.hB (Nat.le_trans m2.size (Nat.le_trans m3.size m4.size));have hlw:=h.n.lw;obtain ⟨ob,d,w5,K5,q5,g5,m5⟩:=g4.put kl38 hB4 (b:=S3) (s:=u) (by rw [<- hw4,<- hS3];exact (MapKept.heap_alloc w3 _).1) (by omega);rw [hlw] at q5 g5;have b5:=(b3.mv m4 id).mv m5 (by omega);obtain ⟨w6,hw6⟩:∃ w6,w5.setCell ⟨bb,1,none⟩ (.slice ob (x.FL.length+1) d)=w6:=⟨_,rfl⟩;have m6:Mv (fun t=>t=300) w5 w6 K5 K5:=by rw [<- hw6];exact Mv.of_set w5 K5 ⟨bb,1,none⟩ _ b5.k
 have b6:=zbw b5 1 (.slice ob (x.FL.length+1) d);rw [hw6] at b6;have m16:Mv (fun t=>t=300∨t=310∨t=311) w1 w6 (ext w K (fun _=>299)) K5:=(((m2.mono (fun t h=>by omega)).trans (m3.mono (fun t h=>by omega))).trans (m4.mono (fun t h=>h.elim))).trans ((m5.mono (fun t h=>by omega)).trans (m6.mono (fun t h=>by omega)));have m06:Mk (fun t=>t=300∨t=310∨t=311) w w6 K K5:=(m1.wk.mono (fun t h=>h.elim)).trans m16.wk;have q26:=(((q2.mv m3 (by omega)).mv m4 id).mv m5 (by omega)).mv m6 (by omega);refine ⟨ob,d,w5,w6,K5,q5,zaa b5.at_ rfl,zab b5.at_ _,hw6,⟨b6,h.n.put hs hu hl q26 (g5.mv m6 (by omega)) m06 (by omega),h.p.other m06 (b:=0) (by omega) (by omega) (by omega) (fun u h=>by omega),h.o.other m06 (b:=0) (by omega) (by omega) (by omega) (fun u h=>by omega)⟩,m06⟩
theorem BK.put_p (h:BK K w B bb x y z 0 0 0 0 0 0) {s u:Sl} {l:List Pk} (hs:RW 78 3 pkC K w B (1000+6*(y.N+y.FL.length)+2) (slV s) l) (hu:RW 78 3 pkC K w B (1001+6*(y.N+y.FL.length)+2) (slV u) l) (hl:l.length<=100000000) (hn:y.FL.length<=10000000000) {S1:Nat} {w1:World} (hS1:w.heap.size=S1) (hw1:w.alloc (.cells #[slV s] 73)=w1) :
 ∃ oa c w2 w3 K3,(∀ r,(Builtin.append_ #[39,39] r #[y.vf,.slice (some ⟨S1,0,none⟩) 1 1]).run Tryz.prog w1=.ok (.slice oa (y.FL.length+1) c) w2)∧w2.cell? ⟨bb,2,none⟩=some y.vf∧w2.frozen? ⟨bb,2,none⟩=false∧w2.setCell ⟨bb,2,none⟩ (.slice oa (y.FL.length+1) c)=w3∧w3.cell? ⟨bb,3,none⟩=some y.vw∧Mk (fun t=>t=300∨t=320) w w3 K K3 ∧
  ∀ S3 w4,w3.heap.size=S3->w3.alloc (.cells #[slV u] 73)=w4->∃ ob d w5 w6 K',(∀ r,(Builtin.append_ #[39,39] r #[y.vw,.slice (some ⟨S3,0,none⟩) 1 1]).run Tryz.prog w4=.ok (.slice ob (y.FL.length+1) d) w5)∧w5.cell? ⟨bb,3,none⟩=some y.vw∧w5.frozen? ⟨bb,3,none⟩=false∧w5.setCell ⟨bb,3,none⟩ (.slice ob (y.FL.length+1) d)=w6 ∧
   Hid (BK K' w6 B bb x ⟨.slice oa (y.FL.length+1) c,.slice ob (y.FL.length+1) d,y.va,y.FL++[s],y.WL++[u],y.AL,y.N⟩ z 0 0 0 0 0 0)∧Mk (fun t=>t=300∨t=320∨t=321) w w6 K K':=by
 have m1:Mv (fun _=>False) w w1 K (ext w K (fun _=>299)):=by rw [<- hw1];exact Mv.alloc _ _ _ _
 have h1:=h.far m1.wk (fun _ _ h=>h.elim);obtain ⟨oa,c,w2,K2,q1,q2,m2⟩:=h1.p.f.put kl39 h1.n.hB (b:=S1) (s:=s) (by rw [<- hw1,<- hS1];exact (MapKept.heap_alloc w _).1) (by omega);have b2:=h1.blk.mv m2 (by omega);obtain ⟨w3,hw3⟩:∃ w3,w2.setCell ⟨bb,2,none⟩ (.slice oa (y.FL.length+1) c)=w3:=⟨_,rfl⟩;have m3:Mv (fun t=>t=300) w2 w3 K2 K2:=by rw [<- hw3];exact Mv.of_set w2 K2 ⟨bb,2,none⟩ _ b2.k
 have b3:=zbw b2 2 (.slice oa (y.FL.length+1) c);rw [hw3] at b3;refine ⟨oa,c,w2,w3,K2,q1,zaa b2.at_ rfl,zab b2.at_ _,hw3,zaa b3.at_ rfl,(m1.wk.mono (fun t h=>h.elim)).trans ((m2.wk.mono (fun t h=>by omega)).trans (m3.wk.mono (fun t h=>by omega))),fun S3 w4 hS3 hw4=>?_⟩;have m4:Mv (fun _=>False) w3 w4 K2 (ext w3 K2 (fun _=>299)):=by rw [<- hw4];exact Mv.alloc _ _ _ _
 have g4:=((h1.p.g.mv m2 (by omega)).mv m3 (by omega)).mv m4 id;have hB4:B<=w4.heap.size:=Nat.le_trans h1.n.hB (Nat.le_trans m2.size (Nat.le_trans m3.size m4.size));have hlw:=h.p.lw;obtain ⟨ob,d,w5,K5,q5,g5,m5⟩:=g4.put kl39 hB4 (b:=S3) (s:=u) (by rw [<- hw4,<- hS3];exact (MapKept.heap_alloc w3 _).1) (by omega);rw [hlw] at q5 g5;have b5:=(b3.mv m4 id).mv m5 (by omega);obtain ⟨w6,hw6⟩:∃ w6,w5.setCell ⟨bb,3,none⟩ (.slice ob (y.FL.length+1) d)=w6:=⟨_,rfl⟩;have m6:Mv (fun t=>t=300) w5 w6 K5 K5:=by rw [<- hw6];exact Mv.of_set w5 K5 ⟨bb,3,none⟩ _ b5.k
 have b6:=zbw b5 3 (.slice ob (y.FL.length+1) d);rw [hw6] at b6;have m16:Mv (fun t=>t=300∨t=320∨t=321) w1 w6 (ext w K (fun _=>299)) K5:=(((m2.mono (fun t h=>by omega)).trans (m3.mono (fun t h=>by omega))).trans (m4.mono (fun t h=>h.elim))).trans ((m5.mono (fun t h=>by omega)).trans (m6.mono (fun t h=>by omega)));have m06:Mk (fun t=>t=300∨t=320∨t=321) w w6 K K5:=(m1.wk.mono (fun t h=>h.elim)).trans m16.wk;have q26:=(((q2.mv m3 (by omega)).mv m4 id).mv m5 (by omega)).mv m6 (by omega);refine ⟨ob,d,w5,w6,K5,q5,zaa b5.at_ rfl,zab b5.at_ _,hw6,⟨b6,h.n.other m06 (b:=1) (by omega) (by omega) (by omega) (fun u h=>by omega),h.p.put hs hu hl q26 (g5.mv m6 (by omega)) m06 (by omega),h.o.other m06 (b:=1) (by omega) (by omega) (by omega) (fun u h=>by omega)⟩,m06⟩
theorem BK.put_o (h:BK K w B bb x y z 0 0 0 0 0 0) {s u:Sl} {l:List Oc} (hs:RW 80 9 ocC K w B (1000+6*(z.N+z.FL.length)+4) (slV s) l) (hu:RW 80 9 ocC K w B (1001+6*(z.N+z.FL.length)+4) (slV u) l) (hl:l.length<=100000000) (hn:z.FL.length<=10000000000) {S1:Nat} {w1:World} (hS1:w.heap.size=S1) (hw1:w.alloc (.cells #[slV s] 75)=w1) :
 ∃ oa c w2 w3 K3,(∀ r,(Builtin.append_ #[40,40] r #[z.vf,.slice (some ⟨S1,0,none⟩) 1 1]).run Tryz.prog w1=.ok (.slice oa (z.FL.length+1) c) w2)∧w2.cell? ⟨bb,4,none⟩=some z.vf∧w2.frozen? ⟨bb,4,none⟩=false∧w2.setCell ⟨bb,4,none⟩ (.slice oa (z.FL.length+1) c)=w3∧w3.cell? ⟨bb,5,none⟩=some z.vw∧Mk (fun t=>t=300∨t=330) w w3 K K3 ∧
  ∀ S3 w4,w3.heap.size=S3->w3.alloc (.cells #[slV u] 75)=w4->∃ ob d w5 w6 K',(∀ r,(Builtin.append_ #[40,40] r #[z.vw,.slice (some ⟨S3,0,none⟩) 1 1]).run Tryz.prog w4=.ok (.slice ob (z.FL.length+1) d) w5)∧w5.cell? ⟨bb,5,none⟩=some z.vw∧w5.frozen? ⟨bb,5,none⟩=false∧w5.setCell ⟨bb,5,none⟩ (.slice ob (z.FL.length+1) d)=w6 ∧
   Hid (BK K' w6 B bb x y ⟨.slice oa (z.FL.length+1) c,.slice ob (z.FL.length+1) d,z.va,z.FL++[s],z.WL++[u],z.AL,z.N⟩ 0 0 0 0 0 0)∧Mk (fun t=>t=300∨t=330∨t=331) w w6 K K':=by
 have m1:Mv (fun _=>False) w w1 K (ext w K (fun _=>299)):=by rw [<- hw1];exact Mv.alloc _ _ _ _
 have h1:=h.far m1.wk (fun _ _ h=>h.elim);obtain ⟨oa,c,w2,K2,q1,q2,m2⟩:=h1.o.f.put kl40 h1.n.hB (b:=S1) (s:=s) (by rw [<- hw1,<- hS1];exact (MapKept.heap_alloc w _).1) (by omega);have b2:=h1.blk.mv m2 (by omega);obtain ⟨w3,hw3⟩:∃ w3,w2.setCell ⟨bb,4,none⟩ (.slice oa (z.FL.length+1) c)=w3:=⟨_,rfl⟩;have m3:Mv (fun t=>t=300) w2 w3 K2 K2:=by rw [<- hw3];exact Mv.of_set w2 K2 ⟨bb,4,none⟩ _ b2.k
 have b3:=zbw b2 4 (.slice oa (z.FL.length+1) c);rw [hw3] at b3;refine ⟨oa,c,w2,w3,K2,q1,zaa b2.at_ rfl,zab b2.at_ _,hw3,zaa b3.at_ rfl,(m1.wk.mono (fun t h=>h.elim)).trans ((m2.wk.mono (fun t h=>by omega)).trans (m3.wk.mono (fun t h=>by omega))),fun S3 w4 hS3 hw4=>?_⟩;have m4:Mv (fun _=>False) w3 w4 K2 (ext w3 K2 (fun _=>299)):=by rw [<- hw4];exact Mv.alloc _ _ _ _
 have g4:=((h1.o.g.mv m2 (by omega)).mv m3 (by omega)).mv m4 id;have hB4:B<=w4.heap.size:=Nat.le_trans h1.n.hB (Nat.le_trans m2.size (Nat.le_trans m3.size m4.size));have hlw:=h.o.lw;obtain ⟨ob,d,w5,K5,q5,g5,m5⟩:=g4.put kl40 hB4 (b:=S3) (s:=u) (by rw [<- hw4,<- hS3];exact (MapKept.heap_alloc w3 _).1) (by omega);rw [hlw] at q5 g5;have b5:=(b3.mv m4 id).mv m5 (by omega);obtain ⟨w6,hw6⟩:∃ w6,w5.setCell ⟨bb,5,none⟩ (.slice ob (z.FL.length+1) d)=w6:=⟨_,rfl⟩;have m6:Mv (fun t=>t=300) w5 w6 K5 K5:=by rw [<- hw6];exact Mv.of_set w5 K5 ⟨bb,5,none⟩ _ b5.k
 have b6:=zbw b5 5 (.slice ob (z.FL.length+1) d);rw [hw6] at b6;have m16:Mv (fun t=>t=300∨t=330∨t=331) w1 w6 (ext w K (fun _=>299)) K5:=(((m2.mono (fun t h=>by omega)).trans (m3.mono (fun t h=>by omega))).trans (m4.mono (fun t h=>h.elim))).trans ((m5.mono (fun t h=>by omega)).trans (m6.mono (fun t h=>by omega)));have m06:Mk (fun t=>t=300∨t=330∨t=331) w w6 K K5:=(m1.wk.mono (fun t h=>h.elim)).trans m16.wk;have q26:=(((q2.mv m3 (by omega)).mv m4 id).mv m5 (by omega)).mv m6 (by omega);refine ⟨ob,d,w5,w6,K5,q5,zaa b5.at_ rfl,zab b5.at_ _,hw6,⟨b6,h.n.other m06 (b:=2) (by omega) (by omega) (by omega) (fun u h=>by omega),h.p.other m06 (b:=2) (by omega) (by omega) (by omega) (fun u h=>by omega),h.o.put hs hu hl q26 (g5.mv m6 (by omega)) m06 (by omega)⟩,m06⟩
end
theorem wrapM {j:Nat} (h:j<=100000000000):wrap64 (-1 - (j:Int))=-1 - (j:Int):=by unfold wrap64;omega
theorem mark_at {α:Type} {e sz:Nat} {cf:α->List Value} {K:Nat->Nat} {w:World} {B t:Nat} {s:Sl} {n:Nat} {m:α} (hcf:∀ x,(cf x).length=sz) (h:RW e sz cf K w B t (slV s) (List.replicate n m)) {c:Nat} (hc:c<s.n):∃ g,s.oa=some ⟨g,0,none⟩∧∀ k,k<sz->w.cell? ⟨g,c*sz+k,none⟩=(cf m)[k]?:=by
 obtain ⟨oa,cc,e1,_,hg⟩:=h.form;rw [List.length_replicate] at e1 hg;injection e1 with e2 e3 e4
 obtain ⟨g,rfl⟩:=hg (by omega);refine ⟨g,e2,fun k hk=>?_⟩;rw [<- e3] at h;obtain ⟨so,sn,sc⟩:=s;simp only at e2 e3 e4 hc;subst e2 e4;exact h.cell hcf (by simp) (x:=m) (by simp [hc]) k hk
theorem RW.cell1 {K:Nat->Nat} {w:World} {B le t:Nat} {g n c:Nat} {l:List Sl} (h:RW le 1 slC K w B t (.slice (some ⟨g,0,none⟩) n c) l) (hn:l.length=n) {i:Nat} {s:Sl} (hs:l[i]?=some s):w.cell? ⟨g,i,none⟩=some (.slice s.oa s.n s.c):=by
 have:=h.cell slL hn hs 0 (by omega)
 rw [Nat.mul_one,Nat.add_zero] at this;exact this
theorem BK.reads_any {K:Nat->Nat} {w:World} {B bb:Nat} {x y z:Ks} {i i' j j' k k' : Nat} (h:BK K w B bb x y z i i' j j' k k') (hx:x.AL.length<=10000000000) (hy:y.AL.length<=10000000000) (hz:z.AL.length<=10000000000) :
 Calls Tryz.prog 43 #[ptr bb] w fun e w'=>e=.returned (.bool true)∧w'=w:=by
 have Ac:=hid h;have q0:w.cell? ⟨bb,6,none⟩=some x.va:=h.ce rfl;obtain ⟨ao0,ac0,hv0,_,hg0⟩:=h.n.al.form;obtain ⟨n0,hn0⟩:∃ n,x.AL.length=n:=⟨_,rfl⟩;rw [hn0] at hv0 hg0 hx;rw [hv0] at q0;have Ah:=hid hv0;have Ai:=hid hg0;have Ae:=hid hn0;have hi0:(n0:Int)<=10000000000:=by omega
 clear hv0 hg0 hn0 hx;have q1:w.cell? ⟨bb,7,none⟩=some y.va:=h.ce rfl;obtain ⟨ao1,ac1,hv1,_,hg1⟩:=h.p.al.form;obtain ⟨n1,hn1⟩:∃ n,y.AL.length=n:=⟨_,rfl⟩;rw [hn1] at hv1 hg1 hy;rw [hv1] at q1;have Aj:=hid hv1;have Ak:=hid hg1;have Af:=hid hn1;have hi1:(n1:Int)<=10000000000:=by omega
 clear hv1 hg1 hn1 hy;have q2:w.cell? ⟨bb,8,none⟩=some z.va:=h.ce rfl;obtain ⟨ao2,ac2,hv2,_,hg2⟩:=h.o.al.form;obtain ⟨n2,hn2⟩:∃ n,z.AL.length=n:=⟨_,rfl⟩;rw [hn2] at hv2 hg2 hz;rw [hv2] at q2;have Al:=hid hv2;have Am:=hid hg2;have Ag:=hid hn2;have hi2:(n2:Int)<=10000000000:=by omega
 clear hv2 hg2 hn2 hz;clear h;go_enter Tryz.func43,Tryz.ntmps43
 go_wp2_with fail
 go_loopw [3] (fun iv wr=>∃ k:Nat,iv=iI k∧k<=n0∧Hid (wr=w)) (fun iv _=>n0 - (intOf iv).toNat)
 case atStart=>exact ⟨0,rfl,Nat.zero_le _,rfl⟩
 case round =>
  obtain ⟨k,rfl,hk,HW⟩:=hrel;have hw:=HW.out.symm;subst hw;by_cases hlt:k<n0
  · as_aux_lemma =>
    have hk' : (k:Int)<(n0:Int):=(by omega);have hk0:(0:Int)<=(k:Int):=(by omega);obtain ⟨ga,hga⟩:=Ai.out (Nat.lt_of_le_of_lt (Nat.zero_le _) hlt);subst hga;obtain ⟨s,hs⟩:∃ s,x.AL[k]?=some s:=⟨_,List.getElem?_eq_getElem (by rw [Ae.out];exact hlt)⟩;have ra:=Ac.out.n.al;rw [Ah.out] at ra;have pl:=ra.cell1 Ae.out hs;obtain ⟨nm,hm,hnm⟩:=Ac.out.n.all k s hs;have hsn:(s.n:Int)<=100000003:=by
     (have:=hm.slen);rw [List.length_replicate] at this;omega
    have HM:=hid hm;have hkm:=wrapM (j:=k) (by omega);have Aa:=hid (And.intro hlt (zb0 (j:=k) (by omega)));clear hs hm hnm hk ra;(go_wp2_with fail);go_loopw [4] (fun cv wr=>∃ c:Nat,cv=iI c∧c<=s.n∧Hid (wr=w)) (fun cv _=>s.n - (intOf cv).toNat)
    case atStart=>exact ⟨0,rfl,Nat.zero_le _,rfl⟩
    case round =>
     obtain ⟨c,rfl,hc,Ad⟩:=hrel;have hw2:=Ad.out.symm;subst hw2;by_cases hcl:c<s.n
     · have hc' : (c:Int)<(s.n:Int):=(by omega);have hc0:(0:Int)<=(c:Int):=(by omega);obtain ⟨g,hg,hcell⟩:=mark_at intL HM.out hcl;have d0:w.cell? ⟨g,c,none⟩=some (iI (-1 - (k:Int))):=by
        (have:=hcell 0 (by omega));rw [Nat.mul_one] at this;exact this
       rw [hg] at pl;have Ab:=hid (And.intro hcl (zb0 (j:=c) (by omega)));clear hcell hg hcl hc;go_wp2;go_roundw
       case rel=>exact ⟨c+1,by first|rfl|(rw [Ab.out.2];rfl),Ab.out.1,trivial⟩
       case measure=>first|exact meas rfl hc'|exact meas Ab.out.2 hc'
     · obtain rfl:c=s.n:=(by omega);go_wp2;go_roundw
       case rel=>exact ⟨k+1,by first|rfl|(rw [Aa.out.2];rfl),Aa.out.1,trivial⟩
       case measure=>first|exact meas rfl hk'|exact meas Aa.out.2 hk'
  · obtain rfl:k=n0:=(by omega);(go_wp2_with fail);go_loopw [5] (fun iv wr=>∃ k:Nat,iv=iI k∧k<=n1∧Hid (wr=w)) (fun iv _=>n1 - (intOf iv).toNat)
    case atStart=>exact ⟨0,rfl,Nat.zero_le _,rfl⟩
    case round =>
     obtain ⟨k,rfl,hk,HW⟩:=hrel;have hw:=HW.out.symm;subst hw;by_cases hlt:k<n1
     · as_aux_lemma =>
       have hk' : (k:Int)<(n1:Int):=(by omega);have hk0:(0:Int)<=(k:Int):=(by omega);obtain ⟨ga,hga⟩:=Ak.out (Nat.lt_of_le_of_lt (Nat.zero_le _) hlt);subst hga;obtain ⟨s,hs⟩:∃ s,y.AL[k]?=some s:=⟨_,List.getElem?_eq_getElem (by rw [Af.out];exact hlt)⟩;have ra:=Ac.out.p.al;rw [Aj.out] at ra;have pl:=ra.cell1 Af.out hs;obtain ⟨nm,hm,hnm⟩:=Ac.out.p.all k s hs;have hsn:(s.n:Int)<=100000003:=by
        (have:=hm.slen);rw [List.length_replicate] at this;omega
       have HM:=hid hm;have hkm:=wrapM (j:=k) (by omega);have Aa:=hid (And.intro hlt (zb0 (j:=k) (by omega)));clear hs hm hnm hk ra;(go_wp2_with fail);go_loopw [6] (fun cv wr=>∃ c:Nat,cv=iI c∧c<=s.n∧Hid (wr=w)) (fun cv _=>s.n - (intOf cv).toNat)
       case atStart=>exact ⟨0,rfl,Nat.zero_le _,rfl⟩
       case round =>
        obtain ⟨c,rfl,hc,Ad⟩:=hrel;have hw2:=Ad.out.symm;subst hw2;by_cases hcl:c<s.n
        · have hc' : (c:Int)<(s.n:Int):=(by omega);have hc0:(0:Int)<=(c:Int):=(by omega);obtain ⟨g,hg,hcell⟩:=mark_at pkL HM.out hcl;have d0:w.cell? ⟨g,c*3,none⟩=some (iI (-1 - (k:Int))):=by
           (have:=hcell 0 (by omega));exact this
          rw [hg] at pl;have Ab:=hid (And.intro hcl (zb0 (j:=c) (by omega)));clear hcell hg hcl hc;go_wp2;go_roundw
          case rel=>exact ⟨c+1,by first|rfl|(rw [Ab.out.2];rfl),Ab.out.1,trivial⟩
          case measure=>first|exact meas rfl hc'|exact meas Ab.out.2 hc'
        · obtain rfl:c=s.n:=(by omega);go_wp2;go_roundw
          case rel=>exact ⟨k+1,by first|rfl|(rw [Aa.out.2];rfl),Aa.out.1,trivial⟩
          case measure=>first|exact meas rfl hk'|exact meas Aa.out.2 hk'
     · obtain rfl:k=n1:=(by omega);(go_wp2_with fail);go_loopw [7] (fun iv wr=>∃ k:Nat,iv=iI k∧k<=n2∧Hid (wr=w)) (fun iv _=>n2 - (intOf iv).toNat)
       case atStart=>exact ⟨0,rfl,Nat.zero_le _,rfl⟩
       case round =>
        obtain ⟨k,rfl,hk,HW⟩:=hrel;have hw:=HW.out.symm;subst hw;by_cases hlt:k<n2
        · as_aux_lemma =>
          have hk' : (k:Int)<(n2:Int):=(by omega);have hk0:(0:Int)<=(k:Int):=(by omega);obtain ⟨ga,hga⟩:=Am.out (Nat.lt_of_le_of_lt (Nat.zero_le _) hlt);subst hga;obtain ⟨s,hs⟩:∃ s,z.AL[k]?=some s:=⟨_,List.getElem?_eq_getElem (by rw [Ag.out];exact hlt)⟩;have ra:=Ac.out.o.al;rw [Al.out] at ra;have pl:=ra.cell1 Ag.out hs;obtain ⟨nm,hm,hnm⟩:=Ac.out.o.all k s hs;have hsn:(s.n:Int)<=100000003:=by
           (have:=hm.slen);rw [List.length_replicate] at this;omega
          have HM:=hid hm;have hkm:=wrapM (j:=k) (by omega);have Aa:=hid (And.intro hlt (zb0 (j:=k) (by omega)));clear hs hm hnm hk ra;(go_wp2_with fail);go_loopw [8] (fun cv wr=>∃ c:Nat,cv=iI c∧c<=s.n∧Hid (wr=w)) (fun cv _=>s.n - (intOf cv).toNat)
          case atStart=>exact ⟨0,rfl,Nat.zero_le _,rfl⟩
          case round =>
           obtain ⟨c,rfl,hc,Ad⟩:=hrel;have hw2:=Ad.out.symm;subst hw2;by_cases hcl:c<s.n
           · have hc' : (c:Int)<(s.n:Int):=(by omega);have hc0:(0:Int)<=(c:Int):=(by omega);obtain ⟨g,hg,hcell⟩:=mark_at ocL HM.out hcl;have d0:w.cell? ⟨g,c*9,none⟩=some (iI (-1 - (k:Int))):=by
              (have:=hcell 0 (by omega));exact this
             rw [hg] at pl;have Ab:=hid (And.intro hcl (zb0 (j:=c) (by omega)));clear hcell hg hcl hc;go_wp2;go_roundw
             case rel=>exact ⟨c+1,by first|rfl|(rw [Ab.out.2];rfl),Ab.out.1,trivial⟩
             case measure=>first|exact meas rfl hc'|exact meas Ab.out.2 hc'
           · obtain rfl:c=s.n:=(by omega);go_wp2;go_roundw
             case rel=>exact ⟨k+1,by first|rfl|(rw [Aa.out.2];rfl),Aa.out.1,trivial⟩
             case measure=>first|exact meas rfl hk'|exact meas Aa.out.2 hk'
        · obtain rfl:k=n2:=(by omega);go_wp2;go_ret;exact ⟨by simp,rfl⟩
theorem zcu:(Tryz.prog.info? 78).map (·.size)=some 3:=by kernel_rfl
theorem own_fz {w:World} {B g n c n' e sz:Nat} {xs:List Value} (h:w.ownsRow B e sz (.slice (some ⟨g,0,none⟩) n c) n' xs) (o:Nat):w.frozen? ⟨g,o,none⟩=false:=by
 rcases h.2 with ⟨h1,_⟩|⟨g2,c2,cur,h1,h2,h3,_⟩
 · cases h1
 · injection h1 with e1 _ e2
   injection e1 with e1
   injection e1 with e1
   subst e1 e2;unfold World.frozen?;rw [h3];simp
theorem own_cs {α:Type} {e sz:Nat} {cf:α->List Value} {w:World} {B g n c i:Nat} {l:List α} (h:w.ownsRow B e sz (.slice (some ⟨g,0,none⟩) n c) l.length (l.flatMap cf)) (hl:l.length=n) (hi:i<n):∃ cs t,w.heap[g]?=some (.cells cs t)∧i*sz+sz<=cs.size:=by
 rcases h.2 with ⟨h1,_⟩|⟨g2,c2,cur,h1,h2,h3,h4,_,h6,_⟩
 · cases h1
 · injection h1 with e1 _ e2
   injection e1 with e1
   injection e1 with e1
   subst e1 e2;refine ⟨cur,_,h3,?_⟩;have:(i+1)*sz<=c*sz:=Nat.mul_le_mul_right sz (by omega)
   rw [Nat.succ_mul] at this;omega
theorem zfs {P:Program} {ops:Array Oper} {o:Oper} {a:Act} {w:World} {K:Act->World->Prop} {Q:Exit->Act->World->Prop} {E:Prop} (hg:o.guard=none) (t:TypeId) (x y z:Operand) (hop:o.op=Op.buildSlice t 3 #[(0,x),(1,y),(2,z)]) (v1 v2 v3 r:Value) (w' : World) (hx:a.eval x=v1) (hy:a.eval y=v2) (hz:a.eval z=v3) (hrun:(Instr.buildSlice t 3 #[(0,v1),(1,v2),(2,v3)]).run P w=.ok r w') (hK:K (a.put o.dst r) w') :
 if Region.wanted o (yielded ops a.tmps)=true then Oper.wp P o a w K Q else E:=by
 have hw:Region.wanted o (yielded ops a.tmps)=true:=by simp [Region.wanted,hg]
 rw [if_pos hw];unfold Oper.wp;simp [execOp,hop,hx,hy,hz,hrun,Result.andThen]
 exact hK
theorem zd7 {P:Program} {ops:Array Oper} {o:Oper} {a:Act} {w:World} {K:Act->World->Prop} {Q:Exit->Act->World->Prop} {E:Prop} (hg:o.guard=none) (t:TypeId) (x:Operand) (hop:o.op=Op.buildSlice t 1 #[(0,x)]) (v1 r:Value) (w' : World) (hx:a.eval x=v1) (hrun:(Instr.buildSlice t 1 #[(0,v1)]).run P w=.ok r w') (hK:K (a.put o.dst r) w') :
 if Region.wanted o (yielded ops a.tmps)=true then Oper.wp P o a w K Q else E:=by
 have hw:Region.wanted o (yielded ops a.tmps)=true:=by simp [Region.wanted,hg]
 rw [if_pos hw];unfold Oper.wp;simp [execOp,hop,hx,hrun,Result.andThen]
 exact hK
theorem bls24v (a:Int) (w:World):(Instr.buildSlice 24 3 #[(0,iI a),(1,iI a),(2,iI a)]).run Tryz.prog w=.ok (.slice (some ⟨w.heap.size,0,none⟩) 3 3) (w.alloc (.cells #[iI a,iI a,iI a] 3)):=by kernel_rfl
theorem bls73_3 (a:Int) (w:World):(Instr.buildSlice 73 3 #[(0,.agg #[iI (a),iI 0,.string ⟨#[]⟩]),(1,.agg #[iI (a),iI 0,.string ⟨#[]⟩]),(2,.agg #[iI (a),iI 0,.string ⟨#[]⟩])]).run Tryz.prog w=.ok (.slice (some ⟨w.heap.size,0,none⟩) 3 3) (w.alloc (.cells #[iI (a),iI 0,.string ⟨#[]⟩,iI (a),iI 0,.string ⟨#[]⟩,iI (a),iI 0,.string ⟨#[]⟩] 78)):=by kernel_rfl
theorem bld78_m (a:Int) (w:World):(Instr.build 78 #[(0,iI a)]).run Tryz.prog w=.ok (.agg #[iI (a),iI 0,.string ⟨#[]⟩]) w:=by kernel_rfl
theorem bls75_3 (a:Int) (w:World):(Instr.buildSlice 75 3 #[(0,.agg #[iI (a),iI 0,iI 0,iI 0,iI 0,iI 0,iI 0,.string ⟨#[]⟩,iI 0]),(1,.agg #[iI (a),iI 0,iI 0,iI 0,iI 0,iI 0,iI 0,.string ⟨#[]⟩,iI 0]),(2,.agg #[iI (a),iI 0,iI 0,iI 0,iI 0,iI 0,iI 0,.string ⟨#[]⟩,iI 0])]).run Tryz.prog w=.ok (.slice (some ⟨w.heap.size,0,none⟩) 3 3) (w.alloc (.cells #[iI (a),iI 0,iI 0,iI 0,iI 0,iI 0,iI 0,.string ⟨#[]⟩,iI 0,iI (a),iI 0,iI 0,iI 0,iI 0,iI 0,iI 0,.string ⟨#[]⟩,iI 0,iI (a),iI 0,iI 0,iI 0,iI 0,iI 0,iI 0,.string ⟨#[]⟩,iI 0] 80)):=by kernel_rfl
theorem bld80_m (a:Int) (w:World):(Instr.build 80 #[(0,iI a)]).run Tryz.prog w=.ok (.agg #[iI (a),iI 0,iI 0,iI 0,iI 0,iI 0,iI 0,.string ⟨#[]⟩,iI 0]) w:=by kernel_rfl
theorem blsL38 (oa:Option Addr) (n c:Nat) (w:World):(Instr.buildSlice 38 1 #[(0,.slice oa n c)]).run Tryz.prog w=.ok (.slice (some ⟨w.heap.size,0,none⟩) 1 1) (w.alloc (.cells #[.slice oa n c] 24)):=by kernel_rfl
theorem blsL39 (oa:Option Addr) (n c:Nat) (w:World):(Instr.buildSlice 39 1 #[(0,.slice oa n c)]).run Tryz.prog w=.ok (.slice (some ⟨w.heap.size,0,none⟩) 1 1) (w.alloc (.cells #[.slice oa n c] 73)):=by kernel_rfl
theorem blsL40 (oa:Option Addr) (n c:Nat) (w:World):(Instr.buildSlice 40 1 #[(0,.slice oa n c)]).run Tryz.prog w=.ok (.slice (some ⟨w.heap.size,0,none⟩) 1 1) (w.alloc (.cells #[.slice oa n c] 75)):=by kernel_rfl
theorem BK.grow_n {K:Nat->Nat} {w:World} {B bb:Nat} {x:Ks} {X1:Ks} {j1:Nat} {X2:Ks} {j2:Nat} {i M:Nat} (h:BK K w B bb x X1 X2 i (i+1) j1 j1 j2 j2) (hM:x.N+i=M) (hi:i<x.FL.length) {s:Sl} (hs:RW 3 1 intC K w B (1000+6*(x.N+i)+2*0) (slV s) (List.replicate s.n (mkI M))) (hn:s.n<=100000000) (hN:M<=10000000000) {S1:Nat} {w1:World} (hS1:w.heap.size=S1) (hw1:w.alloc (.cells #[iI (-1 - (M:Int)),iI (-1 - (M:Int)),iI (-1 - (M:Int))] 3)=w1) :
 ∃ g c w2 K2,(∀ r,(Builtin.append_ #[24,24] r #[slV s,.slice (some ⟨S1,0,none⟩) 3 3]).run Tryz.prog w1=.ok (.slice (some ⟨g,0,none⟩) (s.n+3) c) w2)∧Mv (fun u=>u=1000+6*(x.N+i)+2*0) w w2 K K2∧∀ S3 w3,w2.heap.size=S3->w2.alloc (.cells #[.slice (some ⟨g,0,none⟩) (s.n+3) c] 24)=w3->∃ o2 c2 w4 w5 K5,(∀ r,(Builtin.append_ #[38,38] r #[x.va,.slice (some ⟨S3,0,none⟩) 1 1]).run Tryz.prog w3=.ok (.slice o2 (M+1) c2) w4)∧Mv (fun u=>u=1000+6*(x.N+i)+2*0∨u=312) w w4 K K5∧w4.cell? ⟨bb,6,none⟩=some x.va∧w4.frozen? ⟨bb,6,none⟩=false∧w4.setCell ⟨bb,6,none⟩ (.slice o2 (M+1) c2)=w5∧Hid (BK K5 w5 B bb ⟨x.vf,x.vw,.slice o2 (M+1) c2,x.FL,x.WL,x.AL++[⟨some ⟨g,0,none⟩,s.n+3,c⟩],x.N⟩ X1 X2 (i+1) (i+1) j1 j1 j2 j2∧Mk (fun u=>300<=u) w w5 K K5):=by
 subst hM;have m1:Mv (fun _=>False) w w1 K (ext w K (fun _=>299)):=by rw [<- hw1];exact Mv.alloc _ _ _ _
 have hb1:w1.heap[S1]?=some (.cells #[iI (-1 - ((x.N+i:Nat):Int)),iI (-1 - ((x.N+i:Nat):Int)),iI (-1 - ((x.N+i:Nat):Int))] 3):=by rw [<- hw1,<- hS1];exact (MapKept.heap_alloc w _).1
 have h1:=h.far m1.wk (fun _ _ e=>e.elim);have hs1:=hs.mv m1 id
 obtain ⟨g,c,w2,K2,q1,q2,m2⟩:=RW.app3 ke24 intL intO hs1 hn h1.n.hB (b:=S1) (fun j hj=>by
  intro q v hv;have hk:((intC (mkI (x.N+i))++(intC (mkI (x.N+i))++intC (mkI (x.N+i)))):List Value)[j*1+q]?=some v:=by
   have hq:q<1:=by have:=(List.getElem?_eq_some_iff.1 hv).1;rwa [intL] at this
   obtain rfl|rfl|rfl:j=0∨j=1∨j=2:=by omega
   · rw [List.getElem?_append_left (by rw [intL];omega),Nat.zero_mul,Nat.zero_add];exact hv
   · rw [List.getElem?_append_right (by rw [intL];omega),List.getElem?_append_left (by rw [intL];omega),intL,show 1*1+q - 1=q by omega];exact hv
   · rw [List.getElem?_append_right (by rw [intL];omega),List.getElem?_append_right (by rw [intL];omega),intL,show 2*1+q - 1 - 1=q by omega];exact hv
  rw [Nat.zero_add]
  exact zaa hb1 (by simpa [intC,mkI] using hk))
 refine ⟨g,c,w2,K2,q1,(m1.mono (fun _ e=>e.elim)).trans m2,fun S3 w3 hS3 hw3=>?_⟩;have m3:Mv (fun _=>False) w2 w3 K2 (ext w2 K2 (fun _=>299)):=by rw [<- hw3];exact Mv.alloc _ _ _ _
 have m13:Mv (fun u=>u=1000+6*(x.N+i)+2*0) w w3 K (ext w2 K2 (fun _=>299)):=((m1.mono (fun _ e=>e.elim)).trans m2).trans (m3.mono (fun _ e=>e.elim));have hla:=h.n.la;have a3:=h.n.al.mv m13 (by omega);obtain ⟨o2,c2,w4,K4,q4,q5,m4⟩:=a3.put kl38 (Nat.le_trans h.n.hB m13.size) (b:=S3) (s:=⟨some ⟨g,0,none⟩,s.n+3,c⟩) (by rw [<- hw3,<- hS3];exact (MapKept.heap_alloc w2 _).1) (by omega);rw [hla] at q4 q5;have m14:Mv (fun u=>u=1000+6*(x.N+i)+2*0∨u=312) w w4 K K4:=(m13.mono (fun u e=>.inl e)).trans (m4.mono (fun u e=>.inr e));have b4:=h.blk.mv m14 (by omega);obtain ⟨w5,hw5⟩:∃ w5,w4.setCell ⟨bb,6,none⟩ (.slice o2 (x.N+i+1) c2)=w5:=⟨_,rfl⟩;have m5:Mv (fun u=>u=300) w4 w5 K4 K4:=by rw [<- hw5];exact Mv.of_set w4 K4 ⟨bb,6,none⟩ _ b4.k
 have b5:=zbw b4 6 (.slice o2 (x.N+i+1) c2);rw [hw5] at b5;have mM:Mk (fun u=>u=300∨u=312∨u=1000+6*(x.N+i)+2*0) w w5 K K4:=(m14.wk.mono (fun u e=>by omega)).trans (m5.wk.mono (fun u e=>.inl e));have h3:BL 3 1 24 intC mkI 0 i (i+1) _ w3 B x:=h.n.mv m13.wk (by omega) (by omega) (by omega) (fun n _=>⟨by omega,by omega⟩);have m35:Mk (fun u=>u=300∨u=312+10*0) w3 w5 _ K4:=(m4.wk.mono (fun u e=>by omega)).trans (m5.wk.mono (fun u e=>.inl e));have gr:=h3.grown (by omega) hi (s:=⟨some ⟨g,0,none⟩,s.n+3,c⟩) (q2.mv m3 (fun e=>e)) (by omega) (q5.mv m5 (by omega)) m35;refine ⟨o2,c2,w4,w5,K4,q4,m14,zaa b4.at_ rfl,zab b4.at_ _,hw5,⟨b5,gr,(h.p.other mM (b:=0) (by omega) (by omega) (by omega) (fun u e=>by rcases e with rfl|rfl|rfl <;> first|exact .inl (by omega)|exact .inr (.inr (.inr (.inl rfl)))|exact .inr (.inr (.inr (.inr ⟨x.N+i,.inl rfl⟩))))),(h.o.other mM (b:=0) (by omega) (by omega) (by omega) (fun u e=>by rcases e with rfl|rfl|rfl <;> first|exact .inl (by omega)|exact .inr (.inr (.inr (.inl rfl)))|exact .inr (.inr (.inr (.inr ⟨x.N+i,.inl rfl⟩)))))⟩,mM.mono (fun u e=>by omega)⟩
theorem BK.grow_p {K:Nat->Nat} {w:World} {B bb:Nat} {x:Ks} {X0:Ks} {j0:Nat} {X2:Ks} {j2:Nat} {i M:Nat} (h:BK K w B bb X0 x X2 j0 j0 i (i+1) j2 j2) (hM:x.N+i=M) (hi:i<x.FL.length) {s:Sl} (hs:RW 78 3 pkC K w B (1000+6*(x.N+i)+2*1) (slV s) (List.replicate s.n (mkP M))) (hn:s.n<=100000000) (hN:M<=10000000000) {S1:Nat} {w1:World} (hS1:w.heap.size=S1) (hw1:w.alloc (.cells #[iI (-1 - (M:Int)),iI 0,.string ⟨#[]⟩,iI (-1 - (M:Int)),iI 0,.string ⟨#[]⟩,iI (-1 - (M:Int)),iI 0,.string ⟨#[]⟩] 78)=w1) :
 ∃ g c w2 K2,(∀ r,(Builtin.append_ #[73,73] r #[slV s,.slice (some ⟨S1,0,none⟩) 3 3]).run Tryz.prog w1=.ok (.slice (some ⟨g,0,none⟩) (s.n+3) c) w2)∧Mv (fun u=>u=1000+6*(x.N+i)+2*1) w w2 K K2∧∀ S3 w3,w2.heap.size=S3->w2.alloc (.cells #[.slice (some ⟨g,0,none⟩) (s.n+3) c] 73)=w3->∃ o2 c2 w4 w5 K5,(∀ r,(Builtin.append_ #[39,39] r #[x.va,.slice (some ⟨S3,0,none⟩) 1 1]).run Tryz.prog w3=.ok (.slice o2 (M+1) c2) w4)∧Mv (fun u=>u=1000+6*(x.N+i)+2*1∨u=322) w w4 K K5∧w4.cell? ⟨bb,7,none⟩=some x.va∧w4.frozen? ⟨bb,7,none⟩=false∧w4.setCell ⟨bb,7,none⟩ (.slice o2 (M+1) c2)=w5∧Hid (BK K5 w5 B bb X0 ⟨x.vf,x.vw,.slice o2 (M+1) c2,x.FL,x.WL,x.AL++[⟨some ⟨g,0,none⟩,s.n+3,c⟩],x.N⟩ X2 j0 j0 (i+1) (i+1) j2 j2∧Mk (fun u=>300<=u) w w5 K K5):=by
 subst hM;have m1:Mv (fun _=>False) w w1 K (ext w K (fun _=>299)):=by rw [<- hw1];exact Mv.alloc _ _ _ _
 have hb1:w1.heap[S1]?=some (.cells #[iI (-1 - ((x.N+i:Nat):Int)),iI 0,.string ⟨#[]⟩,iI (-1 - ((x.N+i:Nat):Int)),iI 0,.string ⟨#[]⟩,iI (-1 - ((x.N+i:Nat):Int)),iI 0,.string ⟨#[]⟩] 78):=by rw [<- hw1,<- hS1];exact (MapKept.heap_alloc w _).1
 have h1:=h.far m1.wk (fun _ _ e=>e.elim);have hs1:=hs.mv m1 id
 obtain ⟨g,c,w2,K2,q1,q2,m2⟩:=RW.app3 ke73 pkL pkO hs1 hn h1.n.hB (b:=S1) (fun j hj=>by
  intro q v hv;have hk:((pkC (mkP (x.N+i))++(pkC (mkP (x.N+i))++pkC (mkP (x.N+i)))):List Value)[j*3+q]?=some v:=by
   have hq:q<3:=by have:=(List.getElem?_eq_some_iff.1 hv).1;rwa [pkL] at this
   obtain rfl|rfl|rfl:j=0∨j=1∨j=2:=by omega
   · rw [List.getElem?_append_left (by rw [pkL];omega),Nat.zero_mul,Nat.zero_add];exact hv
   · rw [List.getElem?_append_right (by rw [pkL];omega),List.getElem?_append_left (by rw [pkL];omega),pkL,show 1*3+q - 3=q by omega];exact hv
   · rw [List.getElem?_append_right (by rw [pkL];omega),List.getElem?_append_right (by rw [pkL];omega),pkL,show 2*3+q - 3 - 3=q by omega];exact hv
  rw [Nat.zero_add]
  exact zaa hb1 (by simpa [pkC,mkP] using hk))
 refine ⟨g,c,w2,K2,q1,(m1.mono (fun _ e=>e.elim)).trans m2,fun S3 w3 hS3 hw3=>?_⟩;have m3:Mv (fun _=>False) w2 w3 K2 (ext w2 K2 (fun _=>299)):=by rw [<- hw3];exact Mv.alloc _ _ _ _
 have m13:Mv (fun u=>u=1000+6*(x.N+i)+2*1) w w3 K (ext w2 K2 (fun _=>299)):=((m1.mono (fun _ e=>e.elim)).trans m2).trans (m3.mono (fun _ e=>e.elim));have hla:=h.p.la;have a3:=h.p.al.mv m13 (by omega);obtain ⟨o2,c2,w4,K4,q4,q5,m4⟩:=a3.put kl39 (Nat.le_trans h.n.hB m13.size) (b:=S3) (s:=⟨some ⟨g,0,none⟩,s.n+3,c⟩) (by rw [<- hw3,<- hS3];exact (MapKept.heap_alloc w2 _).1) (by omega);rw [hla] at q4 q5;have m14:Mv (fun u=>u=1000+6*(x.N+i)+2*1∨u=322) w w4 K K4:=(m13.mono (fun u e=>.inl e)).trans (m4.mono (fun u e=>.inr e));have b4:=h.blk.mv m14 (by omega);obtain ⟨w5,hw5⟩:∃ w5,w4.setCell ⟨bb,7,none⟩ (.slice o2 (x.N+i+1) c2)=w5:=⟨_,rfl⟩;have m5:Mv (fun u=>u=300) w4 w5 K4 K4:=by rw [<- hw5];exact Mv.of_set w4 K4 ⟨bb,7,none⟩ _ b4.k
 have b5:=zbw b4 7 (.slice o2 (x.N+i+1) c2);rw [hw5] at b5;have mM:Mk (fun u=>u=300∨u=322∨u=1000+6*(x.N+i)+2*1) w w5 K K4:=(m14.wk.mono (fun u e=>by omega)).trans (m5.wk.mono (fun u e=>.inl e));have h3:BL 78 3 73 pkC mkP 1 i (i+1) _ w3 B x:=h.p.mv m13.wk (by omega) (by omega) (by omega) (fun n _=>⟨by omega,by omega⟩);have m35:Mk (fun u=>u=300∨u=312+10*1) w3 w5 _ K4:=(m4.wk.mono (fun u e=>by omega)).trans (m5.wk.mono (fun u e=>.inl e));have gr:=h3.grown (by omega) hi (s:=⟨some ⟨g,0,none⟩,s.n+3,c⟩) (q2.mv m3 (fun e=>e)) (by omega) (q5.mv m5 (by omega)) m35;refine ⟨o2,c2,w4,w5,K4,q4,m14,zaa b4.at_ rfl,zab b4.at_ _,hw5,⟨b5,(h.n.other mM (b:=1) (by omega) (by omega) (by omega) (fun u e=>by rcases e with rfl|rfl|rfl <;> first|exact .inl (by omega)|exact .inr (.inr (.inr (.inl rfl)))|exact .inr (.inr (.inr (.inr ⟨x.N+i,.inl rfl⟩))))),gr,(h.o.other mM (b:=1) (by omega) (by omega) (by omega) (fun u e=>by rcases e with rfl|rfl|rfl <;> first|exact .inl (by omega)|exact .inr (.inr (.inr (.inl rfl)))|exact .inr (.inr (.inr (.inr ⟨x.N+i,.inl rfl⟩)))))⟩,mM.mono (fun u e=>by omega)⟩
theorem BK.grow_o {K:Nat->Nat} {w:World} {B bb:Nat} {x:Ks} {X0:Ks} {j0:Nat} {X1:Ks} {j1:Nat} {i M:Nat} (h:BK K w B bb X0 X1 x j0 j0 j1 j1 i (i+1)) (hM:x.N+i=M) (hi:i<x.FL.length) {s:Sl} (hs:RW 80 9 ocC K w B (1000+6*(x.N+i)+2*2) (slV s) (List.replicate s.n (mkO M))) (hn:s.n<=100000000) (hN:M<=10000000000) {S1:Nat} {w1:World} (hS1:w.heap.size=S1) (hw1:w.alloc (.cells #[iI (-1 - (M:Int)),iI 0,iI 0,iI 0,iI 0,iI 0,iI 0,.string ⟨#[]⟩,iI 0,iI (-1 - (M:Int)),iI 0,iI 0,iI 0,iI 0,iI 0,iI 0,.string ⟨#[]⟩,iI 0,iI (-1 - (M:Int)),iI 0,iI 0,iI 0,iI 0,iI 0,iI 0,.string ⟨#[]⟩,iI 0] 80)=w1) :
 ∃ g c w2 K2,(∀ r,(Builtin.append_ #[75,75] r #[slV s,.slice (some ⟨S1,0,none⟩) 3 3]).run Tryz.prog w1=.ok (.slice (some ⟨g,0,none⟩) (s.n+3) c) w2)∧Mv (fun u=>u=1000+6*(x.N+i)+2*2) w w2 K K2∧∀ S3 w3,w2.heap.size=S3->w2.alloc (.cells #[.slice (some ⟨g,0,none⟩) (s.n+3) c] 75)=w3->∃ o2 c2 w4 w5 K5,(∀ r,(Builtin.append_ #[40,40] r #[x.va,.slice (some ⟨S3,0,none⟩) 1 1]).run Tryz.prog w3=.ok (.slice o2 (M+1) c2) w4)∧Mv (fun u=>u=1000+6*(x.N+i)+2*2∨u=332) w w4 K K5∧w4.cell? ⟨bb,8,none⟩=some x.va∧w4.frozen? ⟨bb,8,none⟩=false∧w4.setCell ⟨bb,8,none⟩ (.slice o2 (M+1) c2)=w5∧Hid (BK K5 w5 B bb X0 X1 ⟨x.vf,x.vw,.slice o2 (M+1) c2,x.FL,x.WL,x.AL++[⟨some ⟨g,0,none⟩,s.n+3,c⟩],x.N⟩ j0 j0 j1 j1 (i+1) (i+1)∧Mk (fun u=>300<=u) w w5 K K5):=by
 subst hM;have m1:Mv (fun _=>False) w w1 K (ext w K (fun _=>299)):=by rw [<- hw1];exact Mv.alloc _ _ _ _
 have hb1:w1.heap[S1]?=some (.cells #[iI (-1 - ((x.N+i:Nat):Int)),iI 0,iI 0,iI 0,iI 0,iI 0,iI 0,.string ⟨#[]⟩,iI 0,iI (-1 - ((x.N+i:Nat):Int)),iI 0,iI 0,iI 0,iI 0,iI 0,iI 0,.string ⟨#[]⟩,iI 0,iI (-1 - ((x.N+i:Nat):Int)),iI 0,iI 0,iI 0,iI 0,iI 0,iI 0,.string ⟨#[]⟩,iI 0] 80):=by rw [<- hw1,<- hS1];exact (MapKept.heap_alloc w _).1
 have h1:=h.far m1.wk (fun _ _ e=>e.elim);have hs1:=hs.mv m1 id
 obtain ⟨g,c,w2,K2,q1,q2,m2⟩:=RW.app3 ke75 ocL ocO hs1 hn h1.n.hB (b:=S1) (fun j hj=>by
  intro q v hv;have hk:((ocC (mkO (x.N+i))++(ocC (mkO (x.N+i))++ocC (mkO (x.N+i)))):List Value)[j*9+q]?=some v:=by
   have hq:q<9:=by have:=(List.getElem?_eq_some_iff.1 hv).1;rwa [ocL] at this
   obtain rfl|rfl|rfl:j=0∨j=1∨j=2:=by omega
   · rw [List.getElem?_append_left (by rw [ocL];omega),Nat.zero_mul,Nat.zero_add];exact hv
   · rw [List.getElem?_append_right (by rw [ocL];omega),List.getElem?_append_left (by rw [ocL];omega),ocL,show 1*9+q - 9=q by omega];exact hv
   · rw [List.getElem?_append_right (by rw [ocL];omega),List.getElem?_append_right (by rw [ocL];omega),ocL,show 2*9+q - 9 - 9=q by omega];exact hv
  rw [Nat.zero_add]
  exact zaa hb1 (by simpa [ocC,mkO] using hk))
 refine ⟨g,c,w2,K2,q1,(m1.mono (fun _ e=>e.elim)).trans m2,fun S3 w3 hS3 hw3=>?_⟩;have m3:Mv (fun _=>False) w2 w3 K2 (ext w2 K2 (fun _=>299)):=by rw [<- hw3];exact Mv.alloc _ _ _ _
 have m13:Mv (fun u=>u=1000+6*(x.N+i)+2*2) w w3 K (ext w2 K2 (fun _=>299)):=((m1.mono (fun _ e=>e.elim)).trans m2).trans (m3.mono (fun _ e=>e.elim));have hla:=h.o.la;have a3:=h.o.al.mv m13 (by omega);obtain ⟨o2,c2,w4,K4,q4,q5,m4⟩:=a3.put kl40 (Nat.le_trans h.n.hB m13.size) (b:=S3) (s:=⟨some ⟨g,0,none⟩,s.n+3,c⟩) (by rw [<- hw3,<- hS3];exact (MapKept.heap_alloc w2 _).1) (by omega);rw [hla] at q4 q5;have m14:Mv (fun u=>u=1000+6*(x.N+i)+2*2∨u=332) w w4 K K4:=(m13.mono (fun u e=>.inl e)).trans (m4.mono (fun u e=>.inr e));have b4:=h.blk.mv m14 (by omega);obtain ⟨w5,hw5⟩:∃ w5,w4.setCell ⟨bb,8,none⟩ (.slice o2 (x.N+i+1) c2)=w5:=⟨_,rfl⟩;have m5:Mv (fun u=>u=300) w4 w5 K4 K4:=by rw [<- hw5];exact Mv.of_set w4 K4 ⟨bb,8,none⟩ _ b4.k
 have b5:=zbw b4 8 (.slice o2 (x.N+i+1) c2);rw [hw5] at b5;have mM:Mk (fun u=>u=300∨u=332∨u=1000+6*(x.N+i)+2*2) w w5 K K4:=(m14.wk.mono (fun u e=>by omega)).trans (m5.wk.mono (fun u e=>.inl e));have h3:BL 80 9 75 ocC mkO 2 i (i+1) _ w3 B x:=h.o.mv m13.wk (by omega) (by omega) (by omega) (fun n _=>⟨by omega,by omega⟩);have m35:Mk (fun u=>u=300∨u=312+10*2) w3 w5 _ K4:=(m4.wk.mono (fun u e=>by omega)).trans (m5.wk.mono (fun u e=>.inl e));have gr:=h3.grown (by omega) hi (s:=⟨some ⟨g,0,none⟩,s.n+3,c⟩) (q2.mv m3 (fun e=>e)) (by omega) (q5.mv m5 (by omega)) m35;refine ⟨o2,c2,w4,w5,K4,q4,m14,zaa b4.at_ rfl,zab b4.at_ _,hw5,⟨b5,(h.n.other mM (b:=2) (by omega) (by omega) (by omega) (fun u e=>by rcases e with rfl|rfl|rfl <;> first|exact .inl (by omega)|exact .inr (.inr (.inr (.inl rfl)))|exact .inr (.inr (.inr (.inr ⟨x.N+i,.inl rfl⟩))))),(h.p.other mM (b:=2) (by omega) (by omega) (by omega) (fun u e=>by rcases e with rfl|rfl|rfl <;> first|exact .inl (by omega)|exact .inr (.inr (.inr (.inl rfl)))|exact .inr (.inr (.inr (.inr ⟨x.N+i,.inl rfl⟩))))),gr⟩,mM.mono (fun u e=>by omega)⟩
end Go.Proofs.YtfcbjcebkahehaaGreatDoor.Cl
