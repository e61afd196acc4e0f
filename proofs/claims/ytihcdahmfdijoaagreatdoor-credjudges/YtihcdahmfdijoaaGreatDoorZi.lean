/- What the laws gather: lists that came out, and lists as they should be. -/
import Derived.Test.YtihcdahmfdijoaaGreatDoorZh
namespace Go.Proofs.YtihcdahmfdijoaaGreatDoor
open Go.RowKit
theorem append_some {P:Program} {w:World} (k base:Nat) (t ty e:TypeId) (i:TypeInfo) (z:Value) (size bytes:Nat) (ht:P.underlying t=some (.slice e)) (hi:P.info? e=some i) (hz:i.zero=some z)
 (hsize:i.size=size) (hby:i.bytes=bytes) (hzs:z.cells.size=size) (hsz:0<size) (v:Value) (n:Nat) (xs:List Value) (hown:w.ownsRow base e size v n xs)
 (a:Addr) (c:Nat) (news:List Value) (hk:0<k) (hl:news.length=k*size) (hnews:∀ j u,news[j]?=some u→w.cell? (a.add j)=some u) (h1:∀ u∈news,u.oneCell'=true)
 (h63:n+k≤maxLen) (hbytes:(n+k)*bytes≤140737488355328) (hbase:base≤w.heap.size) :
 ∃ g cap w',(Builtin.append_ #[t,t] ty #[v,.slice (some a) k c]).run P w=.ok (.slice (some ⟨g,0,none⟩) (n+k) cap) w'∧w'.ownsRow base e size (.slice (some ⟨g,0,none⟩) (n+k) cap) (n+k) (xs++news)∧
  ((v.ownBlock=some g∧w.grownBy w' (some g))∨(g=w.heap.size∧w.grownBy w' none)):=by
 obtain ⟨g,cap,w',hr,h2,h3,h4,h5⟩:=run_append_lies (P:=P) w t ty base e i z size bytes ht hi hz hsize hby hzs hsz v n xs hown a k c news hl hnews h1 hk h63 hbytes hbase w.heap.size rfl
 refine ⟨g,cap,w',hr,h2,?_⟩
 subst hsize hby
 have hm:n+k≤9223372036854775807:=by unfold maxLen at h63;omega
 rcases hown.2 with ⟨rfl,rfl⟩|⟨g0,cap0,cur,rfl,hb0,hg0,hnc,hcm,hcs,htake⟩
 · have hr2:=run_append_nil (P:=P) w t ty e i z ht hi hz a k c news hl hnews (by omega) (by omega) (by rw [Nat.zero_add] at hbytes;omega)
   simp only [Nat.zero_add] at hr
   rw [hr2] at hr
   cases hr
   exact .inr ⟨rfl,⟨rfl,rfl,rfl,by simp,fun k hk _=>Below.heap_alloc w.drew _ k hk⟩⟩
 · by_cases hroom:n+k≤cap0
   · have hfit:n*i.size+news.length≤cur.size:=by
      rw [hl,hcs,← Nat.add_mul];exact Nat.mul_le_mul_right _ hroom
     have hr2:=run_append_room (P:=P) w t ty e i ht hi g0 n cap0 cur hg0 a k c news hl hnews h1 hroom hfit
     rw [hr2] at hr
     cases hr
     exact .inl ⟨rfl,h3⟩
   · have holds:∀ j u,xs[j]?=some u→w.cell? ((⟨g0,0,none⟩:Addr).add j)=some u:=hown.cells (g:=g0) rfl
     have hr2:=run_append_grow (P:=P) w t ty e i z ht hi hz ⟨g0,0,none⟩ n cap0 xs hown.1 holds a k c news hl hnews (by omega) (by omega) (growslice_fits (by omega) hbytes)
     rw [hr2] at hr
     cases hr
     exact .inr ⟨rfl,⟨rfl,rfl,rfl,by simp,fun k hk _=>Below.heap_alloc w.drew _ k hk⟩⟩
theorem wpList_append_some {P:Program} {w:World} {ops:Array Oper} {rest:List Oper} {o:Oper} {ac:Act} {Q:Exit→Act→World→Prop} (hgd:o.guard=none) (s x:Operand) (t:TypeId)
 (ho:o.op=.call { callee:=.builtin .append,args:=#[s,x],argTypes:=#[t,t] })
 (k base:Nat) (e:TypeId) (i:TypeInfo) (z:Value) (size bytes:Nat) (ht:P.underlying t=some (.slice e)) (hi:P.info? e=some i∧i.zero=some z∧i.size=size∧i.bytes=bytes) (hzs:z.cells.size=size) (hsz:0<size) (v:Value) (n:Nat) (xs:List Value) (hs:ac.eval s=v) (hown:w.ownsRow base e size v n xs)
 (a:Addr) (c:Nat) (news:List Value) (hk:0<k) (hx:ac.eval x=.slice (some a) k c) (hl:news.length=k*size) (hnews:∀ j u,news[j]?=some u→w.cell? (a.add j)=some u) (h1:∀ u∈news,u.oneCell'=true)
 (h63:n+k≤maxLen) (hbytes:(n+k)*bytes≤140737488355328) (hbase:base≤w.heap.size)
 (h:∀ g cap w',w'.ownsRow base e size (.slice (some ⟨g,0,none⟩) (n+k) cap) (n+k) (xs++news)→((v.ownBlock=some g∧w.grownBy w' (some g))∨(g=w.heap.size∧w.grownBy w' none))→wpList P ops Q rest (ac.put o.dst (.slice (some ⟨g,0,none⟩) (n+k) cap)) w'):
 wpList P ops Q (o::rest) ac w:=by
 refine wpList_plain hgd fun K hK=>?_
 obtain ⟨g,cap,w',hr,h2,h3⟩:=append_some k base t o.type e i z size bytes ht hi.1 hi.2.1 hi.2.2.1 hi.2.2.2 hzs hsz v n xs hown a c news hk hl hnews h1 h63 hbytes hbase
 unfold Oper.wp execOp
 simp only [ho,resolve,invoke,builtin,Sem.run_bind,Sem.run_pure,Result.andThen_ok,List.map_toArray,List.map_cons,List.map_nil,hs,hx,hr]
 exact hK _ _ (h g cap w' h2 h3)
/-- one list that came out, and what it should be -/
structure One2 where
 g:Option Nat
 n:Nat
 c:Nat
 v:List Int
 o:Option Addr
 d:Nat
def One2.l (x:One2):Value:=sv x.g x.n x.c
def One2.w (x:One2):Value:=.slice x.o x.n x.d
/-- a row of numbers behind an address, in a block of the tag 2 -/
def Off (w:World) (K:Nat→Nat) (o:Option Addr) (gs:List Int):Prop:=0<gs.length→∃ q off,o=some ⟨q,off,none⟩∧q<w.heap.size∧K q=2∧∀ i,i<gs.length→w.cell? ⟨q,off+i,none⟩=some (.int .i64 (gs.getD i 0))
/-- what is gathered: X, of which a are in l and b in want -/
structure Ga (w:World) (B:Nat) (X:List One2) (a b:Nat) (vl vw:Value) (K:Nat→Nat):Prop where
 lown:w.ownsRow B 28 1 vl a ((X.take a).map One2.l)
 lK:∀ g,vl.ownBlock=some g→K g=0
 wown:w.ownsRow B 28 1 vw b ((X.take b).map One2.w)
 wK:∀ g,vw.ownBlock=some g→K g=1
 row:∀ i x g,X[i]?=some x→x.g=some g→Rw w B g x.n x.c∧K g=3+i
 nil:∀ x∈X,x.g=none→x.n=0∧x.c=0
 num:∀ x∈X,x.v.length=x.n∧x.n≤1000∧GsAt w w.heap.size (x.g.map fun g=>⟨g,0,none⟩) x.v∧Off w K x.o x.v
 hB:B≤w.heap.size
theorem Ga.start (w:World) (B:Nat) (hB:B≤w.heap.size):Ga w B [] 0 0 (.slice none 0 0) (.slice none 0 0) (fun _=>0) :=
 ⟨World.ownsRow_nil _ _ _ _,fun _ _=>rfl,World.ownsRow_nil _ _ _ _,fun g e=>by simp [Value.ownBlock] at e,fun i x g h=>by simp at h,fun x h=>by simp at h,fun x h=>by simp at h,hB⟩
theorem GsAt.kept {w w' : World} {p p':Nat} {oa:Option Addr} {gs:List Int} (h:GsAt w p oa gs) (hp:p≤p') (hk:∀ q off,oa=some ⟨q,off,none⟩→0<gs.length→w'.heap[q]?=w.heap[q]?):GsAt w' p' oa gs:=fun h0=>by
 obtain ⟨q,off,h1,h2,h3⟩:=h h0
 exact ⟨q,off,h1,by omega,fun i hi=>(cellB (hk q off h1 h0) _).trans (h3 i hi)⟩
theorem Off.kept {w w' : World} {K K':Nat→Nat} {oa:Option Addr} {gs:List Int} (h:Off w K oa gs) (c:Nat) (hc:2≠c) (hs:w.heap.size≤w'.heap.size) (ho:∀ b,b<w.heap.size→K' b=K b) (hk:∀ g,g<w.heap.size→K g≠c→w'.heap[g]?=w.heap[g]?):Off w' K' oa gs:=fun h0=>by
 obtain ⟨q,off,h1,h2,h4,h3⟩:=h h0
 exact ⟨q,off,h1,by omega,(ho q h2).trans h4,fun i hi=>(cellB (hk q h2 (by rw [h4];exact hc)) _).trans (h3 i hi)⟩
/-- what touches blocks of the tag c (0: l, 1: want) alone -/
theorem Ga.rows {w w' : World} {B:Nat} {X:List One2} {a b:Nat} {vl vw:Value} {K K':Nat→Nat} (h:Ga w B X a b vl vw K) (c:Nat) (hc:c<2) (hs:w.heap.size≤w'.heap.size) (ho:∀ b,b<w.heap.size→K' b=K b) (hk:∀ g,g<w.heap.size→K g≠c→w'.heap[g]?=w.heap[g]?):
 (∀ i x g,X[i]?=some x→x.g=some g→Rw w' B g x.n x.c∧K' g=3+i)∧(∀ x∈X,x.v.length=x.n∧x.n≤1000∧GsAt w' w'.heap.size (x.g.map fun g=>⟨g,0,none⟩) x.v∧Off w' K' x.o x.v):=by
 refine ⟨fun i x g h1 h2=>?_,fun x hx=>?_⟩
 · obtain ⟨r1,r2⟩:=h.row i x g h1 h2
   exact ⟨r1.kept (hk g r1.lt (by omega)),(ho g r1.lt).trans r2⟩
 · obtain ⟨n1,n2,n3,n4⟩:=h.num x hx
   refine ⟨n1,n2,n3.kept hs (fun q off e h0=>?_),n4.kept c (by omega) hs ho hk⟩
   obtain ⟨i,hi⟩:=List.getElem?_of_mem hx
   cases hg:x.g with
   | none=>rw [hg] at e;cases e
   | some g =>
    rw [hg] at e
    cases e
    obtain ⟨r1,r2⟩:=h.row i x _ hi hg
    exact hk _ r1.lt (by omega)
theorem Ga.idle {w w' : World} {B:Nat} {X:List One2} {a b:Nat} {vl vw:Value} {K:Nat→Nat} (h:Ga w B X a b vl vw K) (hB:Below w.heap.size w w'):Ga w' B X a b vl vw K:=by
 have r:=h.rows (w':=w') (K':=K) 0 (by omega) hB.size (fun _ _=>rfl) (fun g hl _=>hB.block g hl)
 exact ⟨owns_block h.lown (fun g _ hl=>hB.block g hl),h.lK,owns_block h.wown (fun g _ hl=>hB.block g hl),h.wK,r.1,h.nil,r.2,Nat.le_trans h.hB hB.size⟩
theorem Ga.putL {w w' : World} {B:Nat} {X:List One2} {a b a' q cap:Nat} {vl vw:Value} {K:Nat→Nat} {W:World} (h:Ga w B X a b vl vw K) (hW:Below B W w) (hown:w'.ownsRow B 28 1 (.slice (some ⟨q,0,none⟩) a' cap) a' ((X.take a').map One2.l)) (hp:(vl.ownBlock=some q∧w.grownBy w' (some q))∨(q=w.heap.size∧w.grownBy w' none)):
 (∃ K',Ga w' B X a' b (.slice (some ⟨q,0,none⟩) a' cap) vw K')∧Below B W w':=by
 obtain ⟨K',t1⟩:=tch (c:=0) h.lK hp hW h.hB (hown.lt q rfl).1
 have r:=h.rows (w':=w') (K':=K') 0 (by omega) t1.size t1.old t1.kept
 refine ⟨⟨K',hown,fun g e=>by cases e;exact t1.own,owns_block h.wown (fun g e hl=>t1.kept g hl (by rw [h.wK g e];omega)),fun g e=>(t1.old g (h.wown.lt g e).2).trans (h.wK g e),r.1,h.nil,r.2,Nat.le_trans h.hB t1.size⟩,t1.below⟩
theorem Ga.putW {w w' : World} {B:Nat} {X:List One2} {a b b' q cap:Nat} {vl vw:Value} {K:Nat→Nat} {W:World} (h:Ga w B X a b vl vw K) (hW:Below B W w) (hown:w'.ownsRow B 28 1 (.slice (some ⟨q,0,none⟩) b' cap) b' ((X.take b').map One2.w)) (hp:(vw.ownBlock=some q∧w.grownBy w' (some q))∨(q=w.heap.size∧w.grownBy w' none)):
 (∃ K',Ga w' B X a b' vl (.slice (some ⟨q,0,none⟩) b' cap) K')∧Below B W w':=by
 obtain ⟨K',t1⟩:=tch (c:=1) h.wK hp hW h.hB (hown.lt q rfl).1
 have r:=h.rows (w':=w') (K':=K') 1 (by omega) t1.size t1.old t1.kept
 refine ⟨⟨K',owns_block h.lown (fun g e hl=>t1.kept g hl (by rw [h.lK g e];omega)),fun g e=>(t1.old g (h.lown.lt g e).2).trans (h.lK g e),hown,fun g e=>by cases e;exact t1.own,r.1,h.nil,r.2,Nat.le_trans h.hB t1.size⟩,t1.below⟩
/-- one more list that came out, and what it should be -/
theorem Ga.more {w w' : World} {B:Nat} {X:List One2} {a b b1 b2:Nat} {vl vw:Value} {K:Nat→Nat} {oa ob:Option Addr} {ca cb:Nat} {gs:List Int} (h:Ga w B X a b vl vw K) (hB:Below w.heap.size w w') (h1:OwnI w' b1 (.slice oa gs.length ca) gs) (h2:OwnI w' b2 (.slice ob gs.length cb) gs) (hb1:w.heap.size≤b1) (hb2:w.heap.size≤b2)
 (hne:∀ g g2,(Value.slice oa gs.length ca).ownBlock=some g→(Value.slice ob gs.length cb).ownBlock=some g2→g≠g2) (hn:gs.length≤1000) (ha:a≤X.length) (hb:b≤X.length):
 ∃ x K',One2.l x=.slice oa gs.length ca∧One2.w x=.slice ob gs.length cb∧Ga w' B (X++[x]) a b vl vw K':=by
 obtain ⟨og,hog,hog0,hogr⟩:∃ og:Option Nat,oa=og.map (fun g=>(⟨g,0,none⟩:Addr))∧(og=none→gs.length=0∧ca=0)∧(∀ g,og=some g→b1≤g∧Rw w' B g gs.length ca∧(Value.slice oa gs.length ca).ownBlock=some g):=by
  rcases h1.2 with ⟨e,h0⟩|⟨g,c,cur,e,e2,e3,e4,e5,e6,e7⟩
  · injection e with e1 e2 e3
    subst e1 e3
    exact ⟨none,rfl,fun _=>⟨e2,rfl⟩,fun g e=>by cases e⟩
  · cases e
    exact ⟨some g,rfl,(fun e=>by cases e),fun g' e=>by cases e;exact ⟨e2,⟨by have:=h.hB;omega,⟨cur,e3,e6⟩,e4,e5⟩,rfl⟩⟩
 have hc:=h.idle hB
 obtain ⟨K',hK'⟩:∃ K':Nat→Nat,K'=fun b=>if b<w.heap.size then K b else if og=some b then 3+X.length else 2:=⟨_,rfl⟩
 have ho:∀ b,b<w.heap.size→K' b=K b:=fun b hb=>by rw [hK'];exact if_pos hb
 have r:=h.rows (w':=w') (K':=K') 0 (by omega) hB.size ho (fun g hl _=>hB.block g hl)
 refine ⟨⟨og,gs.length,ca,gs,ob,cb⟩,K',by unfold One2.l sv;rw [hog],rfl,?_⟩
 refine ⟨?_,fun g e=>(ho g (h.lown.lt g e).2).trans (h.lK g e),?_,fun g e=>(ho g (h.wown.lt g e).2).trans (h.wK g e),fun i x g hx hg=>?_,fun x hx hg=>?_,fun x hx=>?_,hc.hB⟩
 · rw [List.take_append_of_le_length ha];exact hc.lown
 · rw [List.take_append_of_le_length hb];exact hc.wown
 · rcases Nat.lt_or_ge i X.length with hi|hi
   · rw [List.getElem?_append_left hi] at hx
     exact r.1 i x g hx hg
   · have hi2:i=X.length:=by
      have:=(List.getElem?_eq_some_iff.1 hx).1
      simp at this;omega
     subst hi2
     rw [List.getElem?_append_right (Nat.le_refl _),Nat.sub_self] at hx
     cases hx
     obtain ⟨q1,q2,_⟩:=hogr g hg
     refine ⟨q2,?_⟩
     rw [hK']
     show (if g<w.heap.size then K g else if og=some g then 3+X.length else 2)=_
     rw [if_neg (by omega),if_pos hg]
 · rcases List.mem_append.1 hx with hx|hx
   · exact h.nil x hx hg
   · cases List.mem_singleton.1 hx
     exact hog0 hg
 · rcases List.mem_append.1 hx with hx|hx
   · exact r.2 x hx
   · cases List.mem_singleton.1 hx
     refine ⟨rfl,hn,?_,fun h0=>?_⟩
     · have:=h1.gsAt
       rw [hog] at this
       exact this
     · have h00:0<gs.length:=h0
       obtain ⟨q,off,e1,e2,e3⟩:=h2.gsAt h0
       refine ⟨q,off,e1,e2,?_,e3⟩
       rcases h2.2 with ⟨e,h9⟩|⟨g2,c2,cur2,e,f2,f3⟩
       · omega
       · have hq:q=g2:=by
          have e4:=e
          injection e4 with e4
          rw [e1] at e4
          injection e4 with e4
          injection e4 with e4
         subst hq
         rw [hK']
         show (if q<w.heap.size then K q else if og=some q then 3+X.length else 2)=_
         rw [if_neg (by omega),if_neg]
         intro e5
         exact hne q q (hogr q e5).2.2 (by rw [e];rfl) rfl
/-- all is gathered: as apart wants it -/
theorem Ga.out {w:World} {B q cl qw cw:Nat} {X:List One2} {K:Nat→Nat} (h:Ga w B X X.length X.length (.slice (some ⟨q,0,none⟩) X.length cl) (.slice (some ⟨qw,0,none⟩) X.length cw) K) (hm:X.length≤1000):
 Calls Tryz.prog 13 #[.slice (some ⟨q,0,none⟩) X.length cl,.slice (some ⟨qw,0,none⟩) X.length cw] w (fun e w'=>e=.returned (.bool true)∧Below B w w'):=by
 have hX:∀ i,i<X.length→∃ x,X[i]?=some x∧X.getD i ⟨none,0,0,[],none,0⟩=x:=fun i hi=>⟨X[i],List.getElem?_eq_getElem hi,by rw [List.getD_eq_getElem?_getD,List.getElem?_eq_getElem hi];rfl⟩
 refine apart_any w B q X.length cl qw cw (fun i=>(X.getD i ⟨none,0,0,[],none,0⟩).g) (fun i=>(X.getD i ⟨none,0,0,[],none,0⟩).n) (fun i=>(X.getD i ⟨none,0,0,[],none,0⟩).c) K (fun i=>(X.getD i ⟨none,0,0,[],none,0⟩).v) (fun i=>(X.getD i ⟨none,0,0,[],none,0⟩).o) (fun i=>(X.getD i ⟨none,0,0,[],none,0⟩).d) ⟨fun i hi=>?_,fun i g _ hi hg=>?_,fun i hi hg=>?_,h.lK q rfl,(h.lown.lt q rfl).2⟩ (fun i hi=>?_) hm h.hB (fun i hi=>?_)
 · obtain ⟨x,h1,h2⟩:=hX i hi
   rw [h.lown.cellAt i (by omega),h2,List.take_length,List.getElem?_map,h1];rfl
 · obtain ⟨x,h1,h2⟩:=hX i hi
   rw [h2] at hg ⊢
   exact h.row i x g h1 hg
 · obtain ⟨x,h1,h2⟩:=hX i hi
   rw [h2] at hg ⊢
   exact h.nil x (List.mem_of_getElem? h1) hg
 · obtain ⟨x,h1,h2⟩:=hX i hi
   rw [h2]
   exact (h.num x (List.mem_of_getElem? h1)).2.1
 · obtain ⟨x,h1,h2⟩:=hX i hi
   obtain ⟨n1,n2,n3,n4⟩:=h.num x (List.mem_of_getElem? h1)
   rw [h2]
   refine ⟨n1,n3,?_,fun h0=>?_⟩
   · rw [h.wown.cellAt i (by omega),List.take_length,List.getElem?_map,h1];rfl
   · obtain ⟨q1,off,e1,e2,_,e3⟩:=n4 h0
     exact ⟨q1,off,e1,e2,e3⟩
end Go.Proofs.YtihcdahmfdijoaaGreatDoor
