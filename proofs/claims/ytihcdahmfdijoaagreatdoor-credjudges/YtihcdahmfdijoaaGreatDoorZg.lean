/- Lists of numbers that are written over and grown: what holds of them. Each block has a tag: whose it is. -/
import Derived.Test.YtihcdahmfdijoaaGreatDoorZb
import Derived.Deep.AppendLies
import Derived.Laws.OwnMore
namespace Go.Proofs.YtihcdahmfdijoaaGreatDoor
open Go.RowKit
theorem owns_block {w w' : World} {base:Nat} {e:TypeId} {size:Nat} {v:Value} {n:Nat} {xs:List Value} (h:w.ownsRow base e size v n xs) (hb:∀ g,v.ownBlock=some g→g<w.heap.size→w'.heap[g]?=w.heap[g]?):w'.ownsRow base e size v n xs:=
 ownsRow_of_block h (fun g hg=>hb g hg (h.lt g hg).2)
theorem append_parted {w:World} (base:Nat) (t ty e:TypeId) (i:TypeInfo) (z:Value) (size bytes:Nat) (ht:Tryz.prog.underlying t=some (.slice e)) (hi:Tryz.prog.info? e=some i) (hz:i.zero=some z)
 (hsize:i.size=size) (hby:i.bytes=bytes) (hzs:z.cells.size=size) (hsz:0<size) (v:Value) (n:Nat) (xs:List Value) (hown:w.ownsRow base e size v n xs)
 (a:Addr) (c:Nat) (news:List Value) (hl:news.length=1*size) (hnews:∀ j u,news[j]?=some u→w.cell? (a.add j)=some u) (h1:∀ u∈news,u.oneCell'=true)
 (h63:n+1≤maxLen) (hbytes:(n+1)*bytes≤140737488355328) (hbase:base≤w.heap.size) :
 ∃ g cap w',(Builtin.append_ #[t,t] ty #[v,.slice (some a) 1 c]).run Tryz.prog w=.ok (.slice (some ⟨g,0,none⟩) (n+1) cap) w'∧w'.ownsRow base e size (.slice (some ⟨g,0,none⟩) (n+1) cap) (n+1) (xs++news)∧
  ((v.ownBlock=some g∧w.grownBy w' (some g))∨(g=w.heap.size∧w.grownBy w' none)):=by
 obtain ⟨g,cap,w',hr,h2,h3,h4,h5⟩:=run_append_lies (P:=Tryz.prog) w t ty base e i z size bytes ht hi hz hsize hby hzs hsz v n xs hown a 1 c news hl hnews h1 (by omega) h63 hbytes hbase w.heap.size rfl
 refine ⟨g,cap,w',hr,h2,?_⟩
 subst hsize hby
 have hm:n+1≤9223372036854775807:=by unfold maxLen at h63;omega
 rcases hown.2 with ⟨rfl,rfl⟩|⟨g0,cap0,cur,rfl,hb0,hg0,hnc,hcm,hcs,htake⟩
 · have hr2:=run_append_nil (P:=Tryz.prog) w t ty e i z ht hi hz a 1 c news hl hnews (by omega) (by omega) (by omega)
   simp only [Nat.zero_add] at hr
   rw [hr2] at hr
   cases hr
   exact .inr ⟨rfl,⟨rfl,rfl,rfl,by simp,fun k hk _=>Below.heap_alloc w.drew _ k hk⟩⟩
 · by_cases hroom:n+1≤cap0
   · have hfit:n*i.size+news.length≤cur.size:=by
      rw [hl,hcs,← Nat.add_mul];exact Nat.mul_le_mul_right _ hroom
     have hr2:=run_append_room (P:=Tryz.prog) w t ty e i ht hi g0 n cap0 cur hg0 a 1 c news hl hnews h1 hroom hfit
     rw [hr2] at hr
     cases hr
     exact .inl ⟨rfl,h3⟩
   · have holds:∀ j u,xs[j]?=some u→w.cell? ((⟨g0,0,none⟩:Addr).add j)=some u:=hown.cells (g:=g0) rfl
     have hr2:=run_append_grow (P:=Tryz.prog) w t ty e i z ht hi hz ⟨g0,0,none⟩ n cap0 xs hown.1 holds a 1 c news hl hnews (by omega) (by omega) (growslice_fits (by omega) hbytes)
     rw [hr2] at hr
     cases hr
     exact .inr ⟨rfl,⟨rfl,rfl,rfl,by simp,fun k hk _=>Below.heap_alloc w.drew _ k hk⟩⟩
theorem wpList_append_parted {w:World} {ops:Array Oper} {rest:List Oper} {o:Oper} {ac:Act} {Q:Exit→Act→World→Prop} (hgd:o.guard=none) (s x:Operand) (t:TypeId)
 (ho:o.op=.call { callee:=.builtin .append,args:=#[s,x],argTypes:=#[t,t] })
 (base:Nat) (e:TypeId) (i:TypeInfo) (z:Value) (size bytes:Nat) (ht:Tryz.prog.underlying t=some (.slice e)) (hi:Tryz.prog.info? e=some i∧i.zero=some z∧i.size=size∧i.bytes=bytes) (hzs:z.cells.size=size) (hsz:0<size) (v:Value) (n:Nat) (xs:List Value) (hs:ac.eval s=v) (hown:w.ownsRow base e size v n xs)
 (a:Addr) (c:Nat) (news:List Value) (hx:ac.eval x=.slice (some a) 1 c) (hl:news.length=1*size) (hnews:∀ j u,news[j]?=some u→w.cell? (a.add j)=some u) (h1:∀ u∈news,u.oneCell'=true)
 (h63:n+1≤maxLen) (hbytes:(n+1)*bytes≤140737488355328) (hbase:base≤w.heap.size)
 (h:∀ g cap w',w'.ownsRow base e size (.slice (some ⟨g,0,none⟩) (n+1) cap) (n+1) (xs++news)→((v.ownBlock=some g∧w.grownBy w' (some g))∨(g=w.heap.size∧w.grownBy w' none))→wpList Tryz.prog ops Q rest (ac.put o.dst (.slice (some ⟨g,0,none⟩) (n+1) cap)) w'):
 wpList Tryz.prog ops Q (o::rest) ac w:=by
 refine wpList_plain hgd fun K hK=>?_
 obtain ⟨g,cap,w',hr,h2,h3⟩:=append_parted base t o.type e i z size bytes ht hi.1 hi.2.1 hi.2.2.1 hi.2.2.2 hzs hsz v n xs hown a c news hl hnews h1 h63 hbytes hbase
 unfold Oper.wp execOp
 simp only [ho,resolve,invoke,builtin,Sem.run_bind,Sem.run_pure,Result.andThen_ok,List.map_toArray,List.map_cons,List.map_nil,hs,hx,hr]
 exact hK _ _ (h g cap w' h2 h3)
theorem info_sl:∃ i:TypeInfo,Tryz.prog.info? 28=some i∧i.zero=some (.slice none 0 0)∧i.size=1∧i.bytes=24 :=
 ⟨(Tryz.prog.info? 28).getD default,by kernel_rfl,by kernel_rfl,by kernel_rfl,by kernel_rfl⟩
theorem und_ll:Tryz.prog.underlying 27=some (.slice 28):=by kernel_rfl
theorem und_sl:Tryz.prog.underlying 28=some (.slice 3):=by kernel_rfl
theorem cellB {w w' : World} {b:Nat} (h:w'.heap[b]?=w.heap[b]?) (o:Nat):w'.cell? ⟨b,o,none⟩=w.cell? ⟨b,o,none⟩:=World.cell?_of_block (a:=⟨b,o,none⟩) h
/-- a row that can be written: its block, whole -/
structure Rw (w:World) (B g n c:Nat):Prop where
 low:B≤g
 ex:∃ cur,w.heap[g]?=some (.cells cur 3 (0,0))∧cur.size=c*1
 n:n≤c
 c:c≤maxLen
theorem Rw.of_own {w:World} {B g n c:Nat} {xs:List Value} (h:w.ownsRow B 3 1 (.slice (some ⟨g,0,none⟩) n c) n xs):Rw w B g n c:=by
 rcases h.2 with ⟨h1,_⟩|⟨g2,c2,cur,h1,h2,h3,h4,h5,h6,h7⟩
 · cases h1
 · injection h1 with h1 _ hc
   injection h1 with h1
   injection h1 with h1
   subst h1 hc
   exact ⟨h2,⟨cur,h3,h6⟩,h4,h5⟩
theorem Rw.own {w:World} {B g n c:Nat} (h:Rw w B g n c):∃ xs,w.ownsRow B 3 1 (.slice (some ⟨g,0,none⟩) n c) n xs:=by
 obtain ⟨cur,h1,h2⟩:=h.ex
 refine ⟨cur.toList.take (n*1),?_,.inr ⟨g,c,cur,rfl,h.low,h1,h.n,h.c,h2,rfl⟩⟩
 have:=h.n
 simp;omega
theorem Rw.lt {w:World} {B g n c:Nat} (h:Rw w B g n c):g<w.heap.size:=by
 obtain ⟨cur,h1,_⟩:=h.ex
 exact (Array.getElem?_eq_some_iff.1 h1).1
theorem Rw.cell {w:World} {B g n c:Nat} (h:Rw w B g n c) (o:Nat) (ho:o<n*1):∃ u,w.cell? ⟨g,o,none⟩=some u:=by
 obtain ⟨cur,h1,h2⟩:=h.ex
 have:=h.n
 have hlt:o<cur.size:=by omega
 refine ⟨cur[o],?_⟩
 unfold World.cell?
 rw [h1]
 simp [hlt]
theorem Rw.frozen {w:World} {B g n c:Nat} (h:Rw w B g n c) (o:Nat):w.frozen? ⟨g,o,none⟩=false:=by
 obtain ⟨cur,h1,h2⟩:=h.ex
 unfold World.frozen?
 rw [h1]
 simp
theorem Rw.set {w:World} {B g n c:Nat} (h:Rw w B g n c) (g2 o:Nat) (u:Value):Rw (w.setCell ⟨g2,o,none⟩ u) B g n c:=by
 obtain ⟨cur,h1,h2⟩:=h.ex
 by_cases hg:g=g2
 · subst hg
   have hh:(w.setCell ⟨g,o,none⟩ u).heap[g]?=some (.cells (cur.setIfInBounds o u) 3 (0,0)):=by
    unfold World.setCell
    simp [Array.getElem?_modify,h1]
   exact ⟨h.low,⟨_,hh,by simpa using h2⟩,h.n,h.c⟩
 · exact ⟨h.low,⟨cur,by rw [Below.heap_setCell _ _ _ _ hg];exact h1,h2⟩,h.n,h.c⟩
theorem Rw.kept {w w' : World} {B g n c:Nat} (h:Rw w B g n c) (e:w'.heap[g]?=w.heap[g]?):Rw w' B g n c:=by
 obtain ⟨cur,h1,h2⟩:=h.ex
 exact ⟨h.low,⟨cur,e.trans h1,h2⟩,h.n,h.c⟩
/-- the first n numbers of a row are marks of k -/
def Mk (w:World) (g n k:Nat):Prop:=∀ i,i<n→w.cell? ⟨g,i,none⟩=some (.int .i64 (-1-(k:Int)))
theorem Mk.kept {w w' : World} {g n k:Nat} (h:Mk w g n k) (e:w'.heap[g]?=w.heap[g]?):Mk w' g n k:=fun i hi=>(cellB e _).trans (h i hi)
abbrev sv (o:Option Nat) (n c:Nat):Value:=.slice (o.map fun g=>⟨g,0,none⟩) n c
theorem sv_block (o:Option Nat) (n c:Nat):(sv o n c).ownBlock=o:=by cases o<;>rfl
/-- the lists, from lo on as they came; K: each block's tag -/
structure Ls (w:World) (B gl m lo:Nat) (G:Nat→Option Nat) (N C K:Nat→Nat):Prop where
 cell:∀ i,i<m→w.cell? ⟨gl,i,none⟩=some (sv (G i) (N i) (C i))
 row:∀ i g,lo≤i→i<m→G i=some g→Rw w B g (N i) (C i)∧K g=3+i
 nil:∀ i,i<m→G i=none→N i=0∧C i=0
 gk:K gl=0
 lt:gl<w.heap.size
theorem Ls.kept {w w' : World} {B gl m lo:Nat} {G:Nat→Option Nat} {N C K K' : Nat→Nat} (h:Ls w B gl m lo G N C K) (c:Nat) (h0:c≠0) (hc:∀ i,lo≤i→i<m→3+i≠c) (hK:∀ b,b<w.heap.size→K' b=K b) (hs:w.heap.size≤w'.heap.size) (hk:∀ g,g<w.heap.size→K g≠c→w'.heap[g]?=w.heap[g]?):Ls w' B gl m lo G N C K':=by
 refine ⟨fun i hi=>?_,fun i g h1 h2 h3=>?_,h.nil,(hK gl h.lt).trans h.gk,Nat.lt_of_lt_of_le h.lt hs⟩
 · rw [cellB (hk gl h.lt (by rw [h.gk];omega)) i];exact h.cell i hi
 · obtain ⟨r1,r2⟩:=h.row i g h1 h2 h3
   exact ⟨r1.kept (hk g r1.lt (by rw [r2];exact hc i h1 h2)),(hK g r1.lt).trans r2⟩
/-- an entry of all: what it reads -/
structure Ent (w:World) (K:Nat→Nat) (v:Value) (k:Nat) (o:Option Nat) (n:Nat):Prop where
 v:∃ c,v=sv o n c
 nil:o=none→n=0
 le:n≤maxLen
 mark:∀ g,o=some g→g<w.heap.size∧Mk w g n k∧K g=3+k
/-- a step that touches blocks of the tag c alone -/
structure Tch (W w w' : World) (B c q:Nat) (K K' : Nat→Nat):Prop where
 own:K' q=c
 old:∀ b,b<w.heap.size→K' b=K b
 size:w.heap.size≤w'.heap.size
 kept:∀ g,g<w.heap.size→K g≠c→w'.heap[g]?=w.heap[g]?
 below:Below B W w'
theorem tch {W w w' : World} {B c q:Nat} {K:Nat→Nat} {o:Option Nat} (ho:∀ g,o=some g→K g=c) (hp:(o=some q∧w.grownBy w' (some q))∨(q=w.heap.size∧w.grownBy w' none)) (hb:Below B W w) (hB:B≤w.heap.size) (hq:B≤q):∃ K',Tch W w w' B c q K K':=by
 rcases hp with ⟨e,hg⟩|⟨e,hg⟩
 · exact ⟨K,ho q e,fun _ _=>rfl,hg.size,fun g hl hk=>hg.block g hl (fun e2=>hk (by cases e2;exact ho _ e)),hb.grown hg hB (fun k e2=>by cases e2;exact hq)⟩
 · refine ⟨fun b=>if b=q then c else K b,if_pos rfl,fun b hb2=>if_neg (by omega),hg.size,fun g hl _=>hg.block g hl (by simp),hb.grown hg hB (fun k e2=>by cases e2)⟩
theorem tch0 {W w w' : World} {B:Nat} {K:Nat→Nat} (hg:Below w.heap.size w w') (hb:Below B W w) (hB:B≤w.heap.size):∃ q K',Tch W w w' B 1 q K K'∧∀ g,g<w.heap.size→w'.heap[g]?=w.heap[g]?:=
 ⟨w.heap.size,fun b=>if b=w.heap.size then 1 else K b,⟨if_pos rfl,fun b hb2=>if_neg (by omega),hg.size,fun g hl _=>hg.block g hl,hb.trans (hg.mono hB)⟩,fun g hl=>hg.block g hl⟩
/-- the second half's state: of list j, all its T entries (blocks Eo, lengths En), x in the block xo -/
structure P2 (W w:World) (B gl m j:Nat) (G:Nat→Option Nat) (N C K:Nat→Nat) (va:Value) (T:Nat) (EL:List Value) (Eo:Nat→Option Nat) (En:Nat→Nat) (xo:Option Nat) (nx cx:Nat):Prop where
 ls:Ls w B gl m (j+1) G N C K
 mark:∀ i g,j<i→i<m→G i=some g→Mk w g (N i) i
 aown:w.ownsRow B 28 1 va T EL
 aK:∀ g,va.ownBlock=some g→K g=1
 ent:∀ t v,EL[t]?=some v→Ent w K v (t/20) (Eo t) (En t)
 xnil:xo=none→nx=0∧cx=0
 xr:∀ g,xo=some g→Rw w B g nx cx∧Mk w g nx j∧K g=3+j
 xE:∀ t g,t<T→Eo t=some g→xo=some g→En t≤nx
 below:Below B W w
 hB:B≤w.heap.size
variable {W w w' : World} {B gl m j:Nat} {G:Nat→Option Nat} {N C K:Nat→Nat} {va:Value} {T:Nat} {EL:List Value} {Eo:Nat→Option Nat} {En:Nat→Nat} {xo:Option Nat} {nx cx:Nat}
theorem P2.len (h:P2 W w B gl m j G N C K va T EL Eo En xo nx cx):EL.length=T:=by simpa using h.aown.1
theorem Ent.kept {K' : Nat→Nat} {v:Value} {k:Nat} {o:Option Nat} {n c:Nat} (h:Ent w K v k o n) (hc:3+k≠c) (hK:∀ b,b<w.heap.size→K' b=K b) (hs:w.heap.size≤w'.heap.size) (hk:∀ g,g<w.heap.size→K g≠c→w'.heap[g]?=w.heap[g]?):Ent w' K' v k o n:=
 ⟨h.v,h.nil,h.le,fun g e=>by
  obtain ⟨h1,h2,h3⟩:=h.mark g e
  exact ⟨Nat.lt_of_lt_of_le h1 hs,h2.kept (hk g h1 (by rw [h3];exact hc)),(hK g h1).trans h3⟩⟩
/-- What touches none of it leaves it. -/
theorem P2.idle (h:P2 W w B gl m j G N C K va T EL Eo En xo nx cx) (hg:Below w.heap.size w w'):P2 W w' B gl m j G N C K va T EL Eo En xo nx cx:=by
 have hk:∀ g,g<w.heap.size→w'.heap[g]?=w.heap[g]?:=fun g hl=>hg.block g hl
 refine ⟨⟨fun i hi=>(cellB (hk gl h.ls.lt) i).trans (h.ls.cell i hi),fun i g h1 h2 h3=>?_,h.ls.nil,h.ls.gk,Nat.lt_of_lt_of_le h.ls.lt hg.size⟩,fun i g h1 h2 h3=>(h.mark i g h1 h2 h3).kept (hk g (h.ls.row i g h1 h2 h3).1.lt),owns_block h.aown (fun g _ hl=>hk g hl),h.aK,fun t v hv=>?_,h.xnil,fun g e=>?_,h.xE,h.below.trans (hg.mono h.hB),Nat.le_trans h.hB hg.size⟩
 · obtain ⟨r1,r2⟩:=h.ls.row i g h1 h2 h3
   exact ⟨r1.kept (hk g r1.lt),r2⟩
 · exact (h.ent t v hv).kept (c:=3+t/20+1) (by omega) (fun _ _=>rfl) hg.size (fun g hl _=>hk g hl)
 · obtain ⟨r1,r2,r3⟩:=h.xr g e
   exact ⟨r1.kept (hk g r1.lt),r2.kept (hk g r1.lt),r3⟩
def setAt {α:Type} (f:Nat→α) (T:Nat) (a:α):Nat→α:=fun t=>if t=T then a else f t
/-- x is put behind all. -/
theorem P2.put {q cap:Nat} (h:P2 W w B gl m j G N C K va T EL Eo En xo nx cx) (hT:T/20=j) (hown:w'.ownsRow B 28 1 (.slice (some ⟨q,0,none⟩) (T+1) cap) (T+1) (EL++[sv xo nx cx])) (hp:(va.ownBlock=some q∧w.grownBy w' (some q))∨(q=w.heap.size∧w.grownBy w' none)) :
 ∃ K',P2 W w' B gl m j G N C K' (.slice (some ⟨q,0,none⟩) (T+1) cap) (T+1) (EL++[sv xo nx cx]) (setAt Eo T xo) (setAt En T nx) xo nx cx:=by
 have hlen:=h.len
 obtain ⟨K',t1⟩:=tch h.aK hp h.below h.hB (hown.lt q rfl).1
 have hX:∀ g,xo=some g→Rw w' B g nx cx∧Mk w' g nx j∧K' g=3+j:=fun g e=>by
  obtain ⟨r1,r2,r3⟩:=h.xr g e
  have hk:=t1.kept g r1.lt (by omega)
  exact ⟨r1.kept hk,r2.kept hk,(t1.old g r1.lt).trans r3⟩
 refine ⟨K',h.ls.kept 1 (by omega) (fun i _ _=>by omega) t1.old t1.size t1.kept,fun i g h1 h2 h3=>?_,hown,fun g e=>?_,?_,h.xnil,hX,?_,t1.below,Nat.le_trans h.hB t1.size⟩
 · obtain ⟨r1,r2⟩:=h.ls.row i g h1 h2 h3
   exact (h.mark i g h1 h2 h3).kept (t1.kept g r1.lt (by omega))
 · cases e;exact t1.own
 · intro t v hv
   unfold setAt
   by_cases ht:t=T
   · rw [if_pos ht,if_pos ht]
     have e:v=sv xo nx cx:=by
      rw [ht,← hlen,List.getElem?_append_right (Nat.le_refl _),Nat.sub_self] at hv
      simpa using hv.symm
     rw [ht,hT]
     refine ⟨⟨cx,e⟩,fun e=>(h.xnil e).1,?_,fun g e=>⟨(hX g e).1.lt,(hX g e).2⟩⟩
     cases hxo:xo with
     | none=>rw [(h.xnil hxo).1];exact Nat.zero_le _
     | some g=>have r:=(h.xr g hxo).1;exact Nat.le_trans r.n r.c
   · rw [if_neg ht,if_neg ht]
     have hlt2:t<T:=by
      have:=(List.getElem?_eq_some_iff.1 hv).1
      simp at this;omega
     rw [List.getElem?_append_left (by omega)] at hv
     exact (h.ent t v hv).kept (c:=1) (by omega) t1.old t1.size t1.kept
 · intro t g ht
   unfold setAt
   by_cases e:t=T
   · rw [if_pos e,if_pos e];intro _ _;exact Nat.le_refl _
   · rw [if_neg e,if_neg e];exact h.xE t g (by omega)
/-- x grows by one. -/
theorem P2.grow {g' cap:Nat} {xs:List Value} (h:P2 W w B gl m j G N C K va T EL Eo En xo nx cx) (hx:w.ownsRow B 3 1 (sv xo nx cx) nx xs) (hown:w'.ownsRow B 3 1 (.slice (some ⟨g',0,none⟩) (nx+1) cap) (nx+1) (xs++[.int .i64 (-1-(j:Int))]))
 (hp:(xo=some g'∧w.grownBy w' (some g'))∨(g'=w.heap.size∧w.grownBy w' none)) :
 ∃ K',P2 W w' B gl m j G N C K' va T EL Eo En (some g') (nx+1) cap:=by
 have hxl:xs.length=nx*1:=hx.1
 obtain ⟨K',t1⟩:=tch (c:=3+j) (fun g e=>(h.xr g e).2.2) hp h.below h.hB (hown.lt g' rfl).1
 have hmk:Mk w' g' (nx+1) j:=fun i hi=>by
  rcases Nat.lt_or_ge i nx with h1|h1
  · cases hxo:xo with
    | none=>have:=(h.xnil hxo).1;omega
    | some g =>
     subst hxo
     have h2:=(h.xr g rfl).2.1 i h1
     rw [hown.cellAt i (by omega),List.getElem?_append_left (by omega),← hx.cellAt i (by omega)]
     exact h2
  · obtain rfl:i=nx:=by omega
    rw [hown.cellAt _ (by omega),List.getElem?_append_right (by omega),hxl,Nat.mul_one,Nat.sub_self];rfl
 have hrw:Rw w' B g' (nx+1) cap:=.of_own hown
 refine ⟨K',h.ls.kept (3+j) (by omega) (fun i _ _=>by omega) t1.old t1.size t1.kept,fun i g h1 h2 h3=>?_,owns_block h.aown (fun g e hl=>t1.kept g hl (by rw [h.aK g e];omega)),fun g e=>(t1.old g (h.aown.lt g e).2).trans (h.aK g e),?_,(fun e=>by cases e),(fun g e=>by cases e;exact ⟨hrw,hmk,t1.own⟩),?_,t1.below,Nat.le_trans h.hB t1.size⟩
 · obtain ⟨r1,r2⟩:=h.ls.row i g h1 h2 h3
   exact (h.mark i g h1 h2 h3).kept (t1.kept g r1.lt (by omega))
 · intro t v hv
   have ht:t<T:=by have:=(List.getElem?_eq_some_iff.1 hv).1;have:=h.len;omega
   have he:=h.ent t v hv
   refine ⟨he.v,he.nil,he.le,fun g e=>?_⟩
   obtain ⟨h1,h2,h3⟩:=he.mark g e
   refine ⟨Nat.lt_of_lt_of_le h1 t1.size,?_,(t1.old g h1).trans h3⟩
   rcases hp with ⟨e5,_⟩|⟨_,hg2⟩
   · by_cases hgg:g=g'
     · subst hgg
       have e4:=h.xE t g ht e e5
       have e6:=(h.xr g e5).2.2
       have e7:t/20=j:=by omega
       rw [e7]
       exact fun i hi=>hmk i (by omega)
     · rename_i hg2
       exact h2.kept (hg2.block g h1 (by simpa using hgg))
   · exact h2.kept (hg2.block g h1 (by simp))
 · intro t g ht e e2
   cases e2
   rcases hp with ⟨e5,_⟩|⟨e5,_⟩
   · have:=h.xE t g' ht e e5;omega
   · have hv:=List.getElem?_eq_getElem (l:=EL) (i:=t) (by rw [h.len];exact ht)
     have:=((h.ent t _ hv).mark g' e).1;omega
/-- between two lists -/
structure Q2 (W w:World) (B gl m j:Nat) (G:Nat→Option Nat) (N C K:Nat→Nat) (va:Value) (T:Nat) (EL:List Value) (Eo:Nat→Option Nat) (En:Nat→Nat):Prop where
 ls:Ls w B gl m j G N C K
 mark:∀ i g,j≤i→i<m→G i=some g→Mk w g (N i) i
 aown:w.ownsRow B 28 1 va T EL
 aK:∀ g,va.ownBlock=some g→K g=1
 ent:∀ t v,EL[t]?=some v→Ent w K v (t/20) (Eo t) (En t)
 tT:T≤20*j
 below:Below B W w
 hB:B≤w.heap.size
theorem Q2.start (h:Ls w B gl m 0 G N C K) (hm:∀ i g,i<m→G i=some g→Mk w g (N i) i) (hb:Below B W w) (hB:B≤w.heap.size):Q2 W w B gl m 0 G N C K (.slice none 0 0) 0 [] (fun _=>none) (fun _=>0) :=
 ⟨h,fun i g _ h2 h3=>hm i g h2 h3,World.ownsRow_nil _ _ _ _,fun g e=>by simp [Value.ownBlock] at e,fun t v hv=>by simp at hv,by omega,hb,hB⟩
theorem Q2.begin (h:Q2 W w B gl m j G N C K va T EL Eo En) (hj:j<m):P2 W w B gl m j G N C K va T EL Eo En (G j) (N j) (C j):=by
 refine ⟨⟨h.ls.cell,fun i g h1 h2 h3=>h.ls.row i g (by omega) h2 h3,h.ls.nil,h.ls.gk,h.ls.lt⟩,fun i g h1 h2 h3=>h.mark i g (by omega) h2 h3,h.aown,h.aK,h.ent,fun e=>h.ls.nil j hj e,fun g e=>?_,fun t g ht e e2=>?_,h.below,h.hB⟩
 · obtain ⟨r1,r2⟩:=h.ls.row j g (Nat.le_refl _) hj e
   exact ⟨r1,h.mark j g (Nat.le_refl _) hj e,r2⟩
 · have hl:EL.length=T:=by simpa using h.aown.1
   have hv:=List.getElem?_eq_getElem (l:=EL) (i:=t) (by rw [hl];exact ht)
   have h3:=((h.ent t _ hv).mark g e).2.2
   have h4:=(h.ls.row j g (Nat.le_refl _) hj e2).2
   have:=h.tT
   omega
theorem P2.done (h:P2 W w B gl m j G N C K va T EL Eo En xo nx cx) (hT:T≤20*(j+1)):Q2 W w B gl m (j+1) G N C K va T EL Eo En :=
 ⟨h.ls,fun i g h1 h2 h3=>h.mark i g (by omega) h2 h3,h.aown,h.aK,h.ent,hT,h.below,h.hB⟩
end Go.Proofs.YtihcdahmfdijoaaGreatDoor
