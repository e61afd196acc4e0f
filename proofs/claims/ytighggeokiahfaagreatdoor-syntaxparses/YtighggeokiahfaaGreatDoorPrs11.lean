import Derived.Test.YtighggeokiahfaaGreatDoorTie
import Derived.Test.YtighggeokiahfaaGreatDoorCards
import Derived.Test.YtighggeokiahfaaGreatDoorPrs10
import Derived.ProofKit
import Derived.OpenShut
import Derived.LaidMore
import Derived.Lay
import Derived.SevenTiedAt
import Derived.Stop.Joined
import Derived.Lib.LaidTab
import Derived.Lib.LaidU8
import Derived.Test.YtighggeokiahfaaGreatDoorPrs02
import Derived.Test.YtighggeokiahfaaGreatDoorPrs00
set_option maxRecDepth 4000
set_option maxHeartbeats 20000000
namespace Go.Proofs.YtighggeokiahfaaGreatDoor
open Go.ChangeShapes Go.WideShapes Go.ChangeAt Go.RowKit
theorem own:ownKnob Tryz.prog.godebug=none:=by kernel_rfl
theorem globB:Tryz.prog.globalNamed "callbox/syntax.bares" = some 0:=by kernel_rfl
theorem typeB:(Tryz.prog.globals[0]?).map (·.type)=some 125:=by kernel_rfl
theorem cells124:Tryz.prog.cellsOf 124=3:=by kernel_rfl
theorem cells125:Tryz.prog.cellsOf 125=21:=by kernel_rfl
theorem cells3:Tryz.prog.cellsOf 3=1:=by kernel_rfl
theorem cells4:Tryz.prog.cellsOf 4=1:=by kernel_rfl
theorem cells9:Tryz.prog.cellsOf 9=1:=by kernel_rfl
theorem zij {s:ByteArray} {l:List UInt8} (h:s.data.toList=l):s=⟨l.toArray⟩:=by
 cases s with
 | mk a=>cases a;cases h;rfl
theorem row_of_trod {w:World} {fuel:Nat} {cs:List Value} {a:Int} {b:Bool} {l:List UInt8} {p:List MemPlace} (hl:cs.length=3)
 (h:DataW.trod (fun _=>()) Tryz.prog w 0 (fun _=>true) false fuel 124 cs=some (.agg [.lit (.int .i64 a),.lit (.bool b),.lit (.string l)],p)) :
 cs=[.int .i64 a,.bool b,.string ⟨l.toArray⟩]:=by
 match cs,hl with
 | [c0,c1,c2],_ =>
  obtain ⟨xs,n,rfl,hx,_,hlen,hall⟩:=DataW.trod_struct Tryz.underlying124 h
  have e0:=hall 0 { name := "kind",type:=3,offset:=0,embedded:=false,tag := "",pkgPath := "callbox/syntax",byteOffset:=0 } rfl
  have e1:=hall 1 { name := "unsigned",type:=4,offset:=1,embedded:=false,tag := "",pkgPath := "callbox/syntax",byteOffset:=8 } rfl
  have e2:=hall 2 { name := "word",type:=9,offset:=2,embedded:=false,tag := "",pkgPath := "callbox/syntax",byteOffset:=16 } rfl
  dsimp only at e0 e1 e2
  rw [cells3] at e0;rw [cells4] at e1;rw [cells9] at e2;match xs,hlen with
  | [y0,y1,y2],_ =>
   obtain ⟨z0,hz0,hy0,_⟩:=DataW.trod_int Tryz.underlying3 (cs:=[c0]) (x:=y0) e0;obtain ⟨z1,hz1,hy1⟩:=DataW.trod_bool Tryz.underlying4 (cs:=[c1]) (x:=y1) e1;obtain ⟨z2,hz2,hy2,_⟩:=DataW.trod_string Tryz.underlying9 (cs:=[c2]) (x:=y2) e2;subst hy0 hy1 hy2;simp only [List.map_cons,List.map_nil,Prod.mk.injEq,DataW.agg.injEq,List.cons.injEq,DataW.lit.injEq,Lit.int.injEq,Lit.bool.injEq,Lit.string.injEq,true_and,and_true] at hx;obtain ⟨⟨rfl,rfl,h2⟩,_⟩:=hx;rw [List.cons.injEq] at hz0 hz1 hz2;rw [hz0.1,hz1.1,hz2.1,zij h2.symm]
theorem bares_of {w:World} {fuel:Nat} {cs:Array Value} {p:List MemPlace}
 (h:DataW.trod (fun _=>()) Tryz.prog w 0 (fun _=>true) false fuel 125 cs.toList=some (Rows.laid_callbox_syntax_bares,p)):cs=zj2:=by
 obtain ⟨xs,m,rfl,hx,hl,hlen,hall⟩:=DataW.trod_array Tryz.underlying125 h;rw [cells125] at hl;rw [cells124] at hall;have hx1:=congrArg Prod.fst hx;match xs,hlen with
 | [y0,y1,y2,y3,y4,y5,y6],_ =>
  simp only [Rows.laid_callbox_syntax_bares,List.map_cons,List.map_nil,DataW.agg.injEq,List.cons.injEq,and_true] at hx1;obtain ⟨g0,g1,g2,g3,g4,g5,g6⟩:=hx1;have len3:∀ i,i<7->((cs.toList.drop (i*3)).take 3).length=3:=by
   intro i hi;rw [List.length_take,List.length_drop,hl];omega
  have f:∀ (i:Nat) (y:DataW Unit × List MemPlace) (a:Int) (b:Bool) (l:List UInt8),i<7->[y0,y1,y2,y3,y4,y5,y6][i]?=some y->.agg [.lit (.int .i64 a),.lit (.bool b),.lit (.string l)]=y.1->(cs.toList.drop (i*3)).take 3=[.int .i64 a,.bool b,.string ⟨l.toArray⟩]:=by
   intro i y a b l hi hy hg;obtain ⟨y1,y2⟩:=y;cases hg;exact row_of_trod (len3 i hi) ((hall i hi).trans hy)
  have r0:=f 0 _ _ _ _ (by omega) rfl g0;have r1:=f 1 _ _ _ _ (by omega) rfl g1;have r2:=f 2 _ _ _ _ (by omega) rfl g2;have r3:=f 3 _ _ _ _ (by omega) rfl g3;have r4:=f 4 _ _ _ _ (by omega) rfl g4;have r5:=f 5 _ _ _ _ (by omega) rfl g5;have r6:=f 6 _ _ _ _ (by omega) rfl g6;have hc:cs.toList=(cs.toList.drop (0*3)).take 3++((cs.toList.drop (1*3)).take 3++((cs.toList.drop (2*3)).take 3++((cs.toList.drop (3*3)).take 3++((cs.toList.drop (4*3)).take 3++((cs.toList.drop (5*3)).take 3++(cs.toList.drop (6*3)).take 3))))):=by
   have step:∀ k,(cs.toList.drop k)=(cs.toList.drop k).take 3++cs.toList.drop (k+3):=by
    intro k;rw [<- List.drop_drop,List.take_append_drop]
   have e6:(cs.toList.drop 18).take 3=cs.toList.drop 18:=List.take_of_length_le (by rw [List.length_drop,hl];decide);have s0:=step 0;have s1:=step 3;have s2:=step 6;have s3:=step 9;have s4:=step 12;have s5:=step 15;rw [<- e6] at s5;rw [s5] at s4;rw [s4] at s3;rw [s3] at s2;rw [s2] at s1;rw [s1] at s0;exact s0
  rw [r0,r1,r2,r3,r4,r5,r6] at hc;have:cs=cs.toList.toArray:=rfl;rw [this,hc];rfl
theorem glob_of {W:World} (hL:laidMetH Tryz.prog Rows.syntaxPlacesRow.laid W):zi6 W:=by
 rw [MakeChecks.laidMetH_plain _ _ _ (by kernel_rfl)] at hL
 obtain ⟨g,t,cs,fuel,p,hg,ht,hvar,hd⟩:=Lib.laidMet.reads hL (n := "callbox/syntax.bares") (d:=Rows.laid_callbox_syntax_bares) (.tail _ (.tail _ (.tail _ (.head _))))
 obtain rfl:=Option.some.inj (globB.symm.trans hg);obtain rfl:=Option.some.inj (typeB.symm.trans ht);have hcs:=bares_of hd;subst hcs;unfold World.var? at hvar;rw [globB] at hvar;simp only [Option.bind_some] at hvar;cases hb:W.heap[0]? with
 | none=>rw [hb] at hvar;cases hvar
 | some b =>
  rw [hb] at hvar;cases b with
  | cells c t fr=>obtain rfl:=Option.some.inj hvar;exact ⟨t,fr,hb⟩
  | _=>cases hvar
end Go.Proofs.YtighggeokiahfaaGreatDoor
namespace Go.Proofs.YtighggeokiahfaaGreatDoor.Dm
open Go.RowKit
mutual
def TreeAt (A:Nat->Prop) (w:World):Tree->Value->Prop
 | .node k n m a ks,v=>∃ sl,v=kidV k n m a sl∧∃ xs,w.ownsRow 0 29 5 sl ks.length xs∧(∀ g,sl.ownBlock=some g->A g)∧RowV (fun b=>A b∧sl.ownBlock≠some b) w ks xs
def RowV (A:Nat->Prop) (w:World):List Tree->List Value->Prop
 | [],xs=>xs=[]
 | t::ts,xs=>∃ v0 v1 v2 v3 v4 ys,xs=v0::v1::v2::v3::v4::ys∧TreeAt A w t (.agg #[v0,v1,v2,v3,v4])∧RowV A w ts ys
end
def ListAt (A:Nat->Prop) (w:World) (ks:List Tree) (sl:Value):Prop :=
 ∃ xs,w.ownsRow 0 29 5 sl ks.length xs∧(∀ g,sl.ownBlock=some g->A g)∧RowV (fun b=>A b∧sl.ownBlock≠some b) w ks xs
theorem treeAt_node {A:Nat->Prop} {w:World} {k:Int} {n:List UInt8} {m:Int} {a:Nat} {ks:List Tree} {v:Value} : TreeAt A w (.node k n m a ks) v↔∃ sl,v=kidV k n m a sl∧ListAt A w ks sl:=by
 rw [TreeAt];rfl
theorem zho {A:Nat->Prop} {w:World} : RowV A w [] []:=by rw [RowV]
theorem rowV_cons {A:Nat->Prop} {w:World} {t:Tree} {ts:List Tree} {xs:List Value} : RowV A w (t::ts) xs↔∃ v0 v1 v2 v3 v4 ys,xs=v0::v1::v2::v3::v4::ys∧TreeAt A w t (.agg #[v0,v1,v2,v3,v4])∧RowV A w ts ys:=by rw [RowV]
theorem listAt_nil {A:Nat->Prop} {w:World} : ListAt A w [] (.slice none 0 0):=⟨[],World.ownsRow_nil w 0 29 5,(fun g hg=>by simp [Value.ownBlock] at hg),zho⟩
mutual
theorem TreeAt.frame {A A' : Nat->Prop} {w w' : World} (hA:∀ b,A b->A' b) (h:∀ b,A b->b<w.heap.size->w'.heap[b]?=w.heap[b]?):(t:Tree)->(v:Value)->TreeAt A w t v->TreeAt A' w' t v
 | .node k n m a ks,v=>by
  intro ht;rw [treeAt_node] at ht ⊢;obtain ⟨sl,e,xs,ho,hg,hr⟩:=ht;exact ⟨sl,e,xs,zbc ho (fun g e hl=>h g (hg g e) hl),fun g e=>hA g (hg g e),RowV.frame (fun b hb=>⟨hA b hb.1,hb.2⟩) (fun b hb=>h b hb.1) ks xs hr⟩
theorem RowV.frame {A A' : Nat->Prop} {w w' : World} (hA:∀ b,A b->A' b) (h:∀ b,A b->b<w.heap.size->w'.heap[b]?=w.heap[b]?):(ts:List Tree)->(xs:List Value)->RowV A w ts xs->RowV A' w' ts xs
 | [],xs=>fun hr=>by rw [RowV] at hr ⊢;exact hr
 | t::ts,xs=>by
  intro hr;rw [rowV_cons] at hr ⊢;obtain ⟨v0,v1,v2,v3,v4,ys,e,ht,hr⟩:=hr;exact ⟨v0,v1,v2,v3,v4,ys,e,TreeAt.frame hA h t _ ht,RowV.frame hA h ts ys hr⟩
end
theorem ListAt.frame {A A' : Nat->Prop} {w w' : World} (hA:∀ b,A b->A' b) (h:∀ b,A b->b<w.heap.size->w'.heap[b]?=w.heap[b]?) {ks:List Tree} {sl:Value} (hl:ListAt A w ks sl):ListAt A' w' ks sl:=by
 obtain ⟨xs,ho,hg,hr⟩:=hl;exact ⟨xs,zbc ho (fun g e hl=>h g (hg g e) hl),fun g e=>hA g (hg g e),RowV.frame (fun b hb=>⟨hA b hb.1,hb.2⟩) (fun b hb=>h b hb.1) ks xs hr⟩
mutual
theorem TreeAt.there {A:Nat->Prop} {w:World} : (t:Tree)->(v:Value)->TreeAt A w t v->TreeAt (fun b=>A b∧b<w.heap.size) w t v
 | .node k n m a ks,v=>by
  intro ht;rw [treeAt_node] at ht ⊢;obtain ⟨sl,e,xs,ho,hg,hr⟩:=ht;exact ⟨sl,e,xs,ho,fun g e=>⟨hg g e,(ho.lt g e).2⟩,RowV.frame (fun b hb=>⟨⟨hb.1.1,hb.2⟩,hb.1.2⟩) (fun _ _ _=>rfl) ks xs (RowV.there ks xs hr)⟩
theorem RowV.there {A:Nat->Prop} {w:World} : (ts:List Tree)->(xs:List Value)->RowV A w ts xs->RowV (fun b=>A b∧b<w.heap.size) w ts xs
 | [],xs=>fun hr=>by rw [RowV] at hr ⊢;exact hr
 | t::ts,xs=>by
  intro hr;rw [rowV_cons] at hr ⊢;obtain ⟨v0,v1,v2,v3,v4,ys,e,ht,hr⟩:=hr;exact ⟨v0,v1,v2,v3,v4,ys,e,TreeAt.there t _ ht,RowV.there ts ys hr⟩
end
theorem RowV.append {A:Nat->Prop} {w:World} : (ts us:List Tree)->(xs ys:List Value)->RowV A w ts xs->RowV A w us ys->RowV A w (ts++us) (xs++ys)
 | [],us,xs,ys=>fun h k=>by rw [RowV] at h;subst h;exact k
 | t::ts,us,xs,ys=>fun h k=>by
  rw [rowV_cons] at h;obtain ⟨v0,v1,v2,v3,v4,zs,rfl,ht,hr⟩:=h;rw [List.cons_append,rowV_cons];exact ⟨v0,v1,v2,v3,v4,zs++ys,rfl,ht,RowV.append ts us zs ys hr k⟩
theorem ListAt.len {A:Nat->Prop} {w:World} {ks:List Tree} {sl:Value} (h:ListAt A w ks sl):∃ o c,sl=.slice o ks.length c:=by
 obtain ⟨xs,ho,_,_⟩:=h;rcases ho.2 with ⟨rfl,h0⟩|⟨g,cap,cur,rfl,_⟩
 · exact ⟨none,0,by rw [h0]⟩
 · exact ⟨_,cap,rfl⟩
theorem ListAt.shape {A:Nat->Prop} {w:World} {ks:List Tree} {sl:Value} (h:ListAt A w ks sl):∃ o n c,sl=.slice o n c:=by
 obtain ⟨o,c,e⟩:=h.len;exact ⟨o,_,c,e⟩
def treeIs (B:Nat) (t:Tree) (w:World) (v:Value):Prop:=TreeAt (zaf B) w t v
def zbq (B:Nat) (ks:List Tree) (w:World) (v:Value):Prop:=ListAt (zaf B) w ks v
theorem treeIs.below {B B' C:Nat} {w w' : World} {t:Tree} {v:Value} (h:treeIs B t w v) (hB:B'<=B) (hw:Below C w w') (hC:w.heap.size<=C):treeIs B' t w' v :=
 TreeAt.frame (fun _ hb=>Nat.le_trans hB hb) (fun b _ hl=>hw.block b (Nat.lt_of_lt_of_le hl hC)) t v h
theorem treeIs.sole {B B' p:Nat} {w w' : World} {t:Tree} {v:Value} (h:treeIs B t w v) (hB:B'<=B) (hp:p<B) (hw:Sole p w w'):treeIs B' t w' v :=
 TreeAt.frame (fun _ hb=>Nat.le_trans hB hb) (fun b hb hl=>hw.block b hl (by have:B<=b:=hb;omega)) t v h
theorem treeIs.but {B B' r:Nat} {w w' : World} {t:Tree} {v:Value} (h:treeIs B t w v) (hB:B'<=B) (hr:r<B) (hw:∀ b,b<w.heap.size->b≠r->w'.heap[b]?=w.heap[b]?):treeIs B' t w' v :=
 TreeAt.frame (fun _ hb=>Nat.le_trans hB hb) (fun b hb hl=>hw b hl (by have:B<=b:=hb;omega)) t v h
theorem zbq.sole {B B' p:Nat} {w w' : World} {t:List Tree} {v:Value} (h:zbq B t w v) (hB:B'<=B) (hp:p<B) (hw:Sole p w w'):zbq B' t w' v :=
 ListAt.frame (fun _ hb=>Nat.le_trans hB hb) (fun b hb hl=>hw.block b hl (by have:B<=b:=hb;omega)) h
theorem zgz {A:Nat->Prop} {w:World} : (ts:List Tree)->(xs:List Value)->RowV A w ts xs->xs.length=ts.length*5
 | [],xs=>fun h=>by rw [RowV] at h;subst h;rfl
 | t::ts,xs=>fun h=>by
  rw [rowV_cons] at h;obtain ⟨v0,v1,v2,v3,v4,ys,rfl,_,hr⟩:=h;have:=zgz ts ys hr;simp only [List.length_cons];omega
theorem zay {A:Nat->Prop} {w:World} {k m:Int} {n:List UInt8} {a:Nat} {ks:List Tree} {sl:Value} (h:TreeAt A w (.node k n m a ks) (kidV k n m a sl)):RowV A w [.node k n m a ks] [.int .i64 k,.string ⟨n.toArray⟩,.int .i64 m,.int .i64 a,sl] :=
 rowV_cons.2 ⟨_,_,_,_,_,[],rfl,h,zho⟩
theorem zen {A:Nat->Prop} {w:World} : (ts:List Tree)->(xs:List Value)->RowV A w ts xs->∀ u∈xs,u.oneCell'=true
 | [],xs=>fun h=>by rw [RowV] at h;subst h;simp
 | t::ts,xs=>fun h=>by
  rw [rowV_cons] at h;obtain ⟨v0,v1,v2,v3,v4,ys,rfl,ht,hr⟩:=h;obtain ⟨k,n,m,a,ks⟩:=t;obtain ⟨sl,e,hl⟩:=treeAt_node.1 ht;obtain ⟨o,c,rfl⟩:=hl.len;unfold kidV at e;simp only [Value.agg.injEq,Array.mk.injEq,List.cons.injEq] at e;obtain ⟨rfl,rfl,rfl,rfl,rfl,_⟩:=e;intro u hu;simp only [List.mem_cons] at hu;rcases hu with rfl|rfl|rfl|rfl|rfl|hu
  · simp [Value.oneCell']
  · simp [Value.oneCell']
  · simp [Value.oneCell']
  · simp [Value.oneCell']
  · simp [Value.oneCell']
  · exact zen ts ys hr u hu
theorem TreeAt.sole {A:Nat->Prop} {p:Nat} {cur nxt:World} {t:Tree} {v:Value} (h:TreeAt A cur t v) (hA:∀ b,A b->b≠p) (hS:Sole p cur nxt):TreeAt A nxt t v:=TreeAt.frame (fun _ h=>h) (fun b hb hl=>hS.block b hl (hA b hb)) t v h
theorem TreeAt.below {A:Nat->Prop} {cur nxt:World} {t:Tree} {v:Value} (h:TreeAt A cur t v) (hB:Below cur.heap.size cur nxt):TreeAt A nxt t v:=TreeAt.frame (fun _ h=>h) (fun b _ hl=>hB.block b hl) t v h
theorem ListAt.sole {A:Nat->Prop} {p:Nat} {cur nxt:World} {t:List Tree} {v:Value} (h:ListAt A cur t v) (hA:∀ b,A b->b≠p) (hS:Sole p cur nxt):ListAt A nxt t v:=ListAt.frame (fun _ h=>h) (fun b hb hl=>hS.block b hl (hA b hb)) h
theorem ListAt.below {A:Nat->Prop} {cur nxt:World} {t:List Tree} {v:Value} (h:ListAt A cur t v) (hB:Below cur.heap.size cur nxt):ListAt A nxt t v:=ListAt.frame (fun _ h=>h) (fun b _ hl=>hB.block b hl) h
theorem ListAt.but {A:Nat->Prop} {cur nxt:World} {t:List Tree} {v:Value} {r:Nat} (h:ListAt A cur t v) (hA:∀ b,A b->b≠r) (hz:∀ b,b≠r->nxt.heap[b]?=cur.heap[b]?):ListAt A nxt t v:=ListAt.frame (fun _ h=>h) (fun b hb _=>hz b (hA b hb)) h
theorem ListAt.weaken {A A' : Nat->Prop} {w:World} {t:List Tree} {v:Value} (h:ListAt A w t v) (hA:∀ b,A b->A' b):ListAt A' w t v:=ListAt.frame hA (fun _ _ _=>rfl) h
theorem TreeAt.weaken {A A' : Nat->Prop} {w:World} {t:Tree} {v:Value} (h:TreeAt A w t v) (hA:∀ b,A b->A' b):TreeAt A' w t v:=TreeAt.frame hA (fun _ _ _=>rfl) _ _ h
theorem zbd {A:Nat->Prop} {w:World} {q:Nat} {ks:List Tree} {xs:List Value} (h:w.heap[q]?=some (zdr xs)) (hn:ks.length<=1000) (hA:A q) (hr:RowV (fun b=>A b∧b≠q) w ks xs):ListAt A w ks (.slice (some ⟨q,0,none⟩) ks.length ks.length) :=
 ⟨xs,zf7 h (zgz _ _ hr) hn,(fun g e=>by cases e;exact hA),RowV.frame (fun b hb=>⟨hb.1,fun e=>hb.2 (Option.some.inj e).symm⟩) (fun _ _ _=>rfl) _ _ hr⟩
theorem zbn {A:Nat->Prop} {w w' : World} {ks us:List Tree} {sl v' : Value} {xs ys:List Value} (hb:∀ g,sl.ownBlock=some g->A g) (hr:RowV (fun b=>A b∧sl.ownBlock≠some b) w ks xs)
 (hu:RowV (fun b=>A b∧sl.ownBlock≠some b) w us ys) (ho' : w'.ownsRow 0 29 5 v' (ks.length+us.length) (xs++ys)) (hg:w.grownBy w' sl.ownBlock) (H:Nat) (hH:w.heap.size<=H) (hAH:A H) (hat:v'.ownBlock=sl.ownBlock∨v'.ownBlock=some H):ListAt A w' (ks++us) v':=by
 refine ⟨xs++ys,by rw [List.length_append];exact ho',?_,?_⟩
 · intro g e;rcases hat with h|h
   · exact hb g (h ▸ e)
   · rw [h] at e;cases e;exact hAH
 · have hall:=RowV.there _ _ (RowV.append ks us xs ys hr hu);refine RowV.frame (fun b hb=>⟨hb.1.1,?_⟩) (fun b hb hl=>hg.block b hl (fun e=>hb.1.2 e.symm)) _ _ hall;rcases hat with h|h
   · rw [h];exact hb.1.2
   · rw [h];intro e;cases e;exact absurd hb.2 (by omega)
theorem zaz {A:Nat->Prop} {B r:Nat} {w9 wz:World} {k m:Int} {n:List UInt8} {a:Nat} {ks:List Tree} {sl:Value} (h:ListAt A w9 ks sl) (hB:∀ b,A b->B<=b) (hr:∀ b,A b->b≠r) (hz:∀ b,b≠r->wz.heap[b]?=w9.heap[b]?):treeIs B (.node k n m a ks) wz (kidV k n m a sl) :=
 treeAt_node.2 ⟨_,rfl,ListAt.frame (fun b hb=>hB b hb) (fun b hb _=>hz b (hr b hb)) h⟩
theorem zbt {A A' : Nat->Prop} {r:Nat} {w9 wz:World} {k m:Int} {n:List UInt8} {a:Nat} {ks:List Tree} {sl:Value} (h:ListAt A w9 ks sl) (hB:∀ b,A b->A' b) (hr:∀ b,A b->b≠r) (hz:∀ b,b≠r->wz.heap[b]?=w9.heap[b]?):TreeAt A' wz (.node k n m a ks) (kidV k n m a sl) :=
 treeAt_node.2 ⟨_,rfl,ListAt.frame (fun b hb=>hB b hb) (fun b hb _=>hz b (hr b hb)) h⟩
def mixIs (A0:Nat->Prop) (B:Nat) (t:Tree) (w:World) (v:Value):Prop:=TreeAt (Mix A0 B) w t v
end Go.Proofs.YtighggeokiahfaaGreatDoor.Dm
namespace Go.Proofs.YtighggeokiahfaaGreatDoor.Dm
structure RS where
 ts:List Tok
 e:Int
 pl:Nat
def RS.hd (s:RS):Tok:=s.ts.headD ⟨5,[],0,0⟩
def RS.adv (s:RS):RS:=⟨s.ts.tail,s.e,s.pl⟩
def RS.fail (s:RS) (e:Int):RS:=if s.e=0 then ⟨s.ts,e,s.hd.at_⟩ else s
def RS.is (s:RS) (t:List UInt8):Bool:=s.e==0&&(s.hd.text==t&&(s.hd.kind==4||s.hd.kind==2))
def RS.want (s:RS) (t:List UInt8):RS:=if s.is t then s.adv else s.fail 40
def zh9:Tree:=.node 0 [] 0 0 []
def zav (s:RS):(List UInt8 × Nat) × RS:=if s.e==0&&s.hd.kind==1 then ((s.hd.text,s.hd.at_),s.adv) else (([],0),s.fail 40)
def zaq (word:Bool) (s:RS):Tree × RS:=if s.e==0&&s.hd.kind==3&&!(word&&decide (s.hd.num<0)) then (.node 28 [] s.hd.num s.hd.at_ [],s.adv) else (zh9,s.fail 40)
def zao (s:RS):Tree × RS:=if s.hd.kind==1 then (.node 27 (zav s).1.1 0 (zav s).1.2 [],(zav s).2) else zaq false s
def baseD (t:List UInt8):Int:=if t==wInt then 18 else if t==ze8 then 20 else if t==zml then 22 else if t==zi7 then 23 else if t==wBool then 24 else 0
def RS.begins (s:RS):Bool:=s.hd.kind==1||(s.hd.kind==2&&(s.hd.text==zbh||baseD s.hd.text != 0))
def zed (s:RS):Tree × RS:=
 if s.e==0&&s.begins then
  if s.hd.kind==1 then (.node 27 s.hd.text 0 s.hd.at_ [],s.adv)
  else if s.hd.text==zbh then
   if s.adv.is wInt then (.node 19 [] 0 s.hd.at_ [],s.adv.adv) else (.node 21 [] 0 s.hd.at_ [],s.adv.want ze8)
  else (.node (baseD s.hd.text) [] 0 s.hd.at_ [],s.adv)
 else (.node 0 [] 0 s.hd.at_ [],s.fail 40)
def zhc (t:List UInt8):Int:=if t==zd4 then 4 else if t==zbk then 6 else if t==zes then 7 else 0
def RS.bodied (s:RS):Int:=if s.hd.kind==2 then zhc s.hd.text else 0
def zcf (B:RS->Tree × RS) (s:RS):Tree × RS:=if s.e==0&&s.bodied != 0 then B s else zed s
def zar (k:Int) (n:List UInt8 × Nat) (ks:List Tree):Tree:=.node k n.1 0 n.2 ks
def zcq:Nat->List Tree->RS->List Tree × RS
 | 0,_,s=>([],s)
 | f+1,acc,s=>
  if s.e==0 then
   let n:=zav s
   let v:=zao (n.2.want [61])
   let ks:=acc++[zar 5 n.1 [v.1]]
   if v.2.is [125] then (ks,v.2.adv)
   else zcq f ks ((if v.2.is [44]&&ks.length==64 then v.2.fail 42 else v.2).want [44])
  else ([],s)
def ze7 (s:RS):List Tree × RS:=zcq ((s.want [123]).ts.length+1) [] (s.want [123])
def RS.declares (s:RS):Bool:=s.bodied != 0||(s.begins||(s.hd.kind==2&&(s.hd.text==zdc||(s.hd.text==ze0||s.hd.text==zez))))
def zdw (t:Tree) (least:Int) (s:RS):Tree × RS:=
 let n:=zav s
 if n.2.is [91]&&decide (least<2) then
  let v:=zao n.2.adv
  (zar 15 n.1 [t,v.1],v.2.want [93])
 else if n.2.is [60] then
  if n.2.adv.is [62] then (zar 16 n.1 [t],n.2.adv.want [62])
  else
   let v:=zao n.2.adv
   (zar 16 n.1 [t,v.1],v.2.want [62])
 else if 0<least then (zar 14 n.1 [t],n.2.fail 40)
 else (zar 14 n.1 [t],n.2)
def zce (B:RS->Tree × RS) (void:Bool) (s:RS):Tree × RS:=
 if s.is zdc&&void then (.node 13 [] 0 s.hd.at_ [],s.adv)
 else if s.is ze0 then zdw (.node 25 [] 0 s.hd.at_ []) 1 s.adv
 else if s.is zez then zdw (.node 26 [] 0 s.hd.at_ []) 2 s.adv
 else
  let t:=zcf B s
  if t.2.is [42] then
   let n:=zav t.2.adv
   (zar 17 n.1 [t.1],n.2)
  else zdw t.1 0 t.2
def zc7 (B:RS->Tree × RS) (last:Bool):Nat->List Tree->RS->List Tree × RS
 | 0,_,s=>([],s)
 | f+1,acc,s=>
  if s.e==0 then
   let t:=zce B true s
   let ks:=acc++[t.1]
   let s2:=t.2.want [59]
   if s2.is [125] then (ks,s2.adv)
   else zc7 B last f ks (if s2.declares&&ks.length==64 then (if s2.bodied != 0&&last then s2.fail 41 else s2).fail 42 else s2)
  else ([],s)
def fieldsD (B:RS->Tree × RS) (last:Bool) (s:RS):List Tree × RS:=zc7 B last ((s.want [123]).ts.length+1) [] (s.want [123])
def zex:Nat->List Tree->RS->List Tree × RS
 | 0,acc,s=>(acc,s)
 | f+1,acc,s=>
  if s.e==0 then
   let v:=zao s
   let ks:=acc++[v.1]
   let s2:=v.2.want [58]
   if s2.is zb3 then zex f ks ((if ks.length==64 then s2.fail 42 else s2).want zb3) else (ks,s2)
  else (acc,s)
def armD (B:RS->Tree × RS) (s:RS):Tree × RS:=
 let l:=zex ((s.want zb3).ts.length+1) [] (s.want zb3)
 let t:=zce B true l.2
 (.node 8 [] 0 s.hd.at_ (l.1++[t.1]),t.2.want [59])
def zf1 (B:RS->Tree × RS):Nat->List Tree->RS->List Tree × RS
 | 0,acc,s=>(acc,s)
 | f+1,acc,s=>
  if s.e==0 then
   let t:=armD B s
   let ks:=acc++[t.1]
   if t.2.is zb3 then zf1 B f ks (if 64<ks.length then t.2.fail 42 else t.2) else (ks,t.2)
  else (acc,s)
def zgm (B:RS->Tree × RS) (l:List Tree) (s:RS):List Tree × RS:=
 if s.is za2 then
  let t:=zce B true (s.adv.want [58])
  (l++[.node 9 [] 0 s.hd.at_ [t.1]],(t.2.want [59]).want [125])
 else (l,s.want [125])
def zgh (B:RS->Tree × RS) (s:RS):List Tree × RS:=
 let d:=zce B true ((s.want zgu).want [40])
 let s3:=(d.2.want [41]).want [123]
 let l:=zf1 B (s3.ts.length+1) [d.1] s3
 zgm B l.1 l.2
def zec (B:RS->Tree × RS) (last:Bool) (k:Int) (s:RS):List Tree × RS:=if k==4 then ze7 s else if k==6 then fieldsD B last s else zgh B s
def zc2:Nat->RS->Tree × RS
 | 0,s=>(zh9,s.fail 41)
 | d+1,s=>(.node s.bodied [] 0 s.hd.at_ (zec (zc2 d) (d==0) s.bodied s.adv).1,(zec (zc2 d) (d==0) s.bodied s.adv).2)
def zhy:Nat->List Tree->RS->List Tree × RS
 | 0,acc,s=>(acc,s)
 | f+1,acc,s=>
  if s.e==0 then
   let t:=zed s
   let ks:=acc++[t.1]
   if t.2.is [44] then zhy f ks ((if ks.length==4 then t.2.fail 42 else t.2).want [44]) else (ks,t.2)
  else (acc,s)
def zea (s:RS):Tree × RS:=if s.is zdc then (.node 13 [] 0 s.hd.at_ [],s.adv) else zed s
def zfb (s:RS):List Tree × RS:=if s.is zdc then ([.node 13 [] 0 s.hd.at_ []],s.adv) else zhy (s.ts.length+1) [] s
def zg9 (s:RS):Tree × RS:=
 let r:=zea s
 let n:=zav r.2
 let l:=zfb (n.2.want [40])
 let v:=zaq true ((l.2.want [41]).want [61])
 (zar 12 n.1 (v.1::r.1::l.1),v.2.want [59])
def zb8:Nat->List Tree->RS->List Tree × RS
 | 0,acc,s=>(acc,s)
 | f+1,acc,s=>
  if s.e==0 then
   let t:=zg9 s
   let ks:=acc++[t.1]
   if t.2.is [125] then (ks,t.2.adv)
   else zb8 f ks (if (t.2.begins||t.2.is zdc)&&ks.length==64 then t.2.fail 42 else t.2)
  else (acc,s)
def zc4 (s:RS):Tree × RS:=
 let n:=zav (s.want zd3)
 let l:=zb8 ((n.2.want [123]).ts.length+1) [] (n.2.want [123])
 let v:=zaq true (l.2.want [61])
 (zar 11 n.1 (v.1::l.1),v.2.want [59])
def zbi:Nat->List Tree->RS->List Tree × RS
 | 0,acc,s=>(acc,s)
 | f+1,acc,s=>
  if s.e==0 then
   let t:=zc4 s
   let ks:=acc++[t.1]
   if t.2.is [125] then (ks,t.2.adv)
   else zbi f ks (if t.2.is zd3&&ks.length==64 then t.2.fail 42 else t.2)
  else (acc,s)
def zev (s:RS):Tree × RS:=
 let n:=zav s
 let l:=zbi ((n.2.want [123]).ts.length+1) [] (n.2.want [123])
 let v:=zaq true (l.2.want [61])
 (zar 10 n.1 (v.1::l.1),v.2)
def defD (s:RS):Tree × RS:=
 if s.bodied != 0 then
  let n:=zav s.adv
  let l:=zec (zc2 7) false s.bodied n.2
  (zar s.bodied n.1 l.1,l.2)
 else if s.is zdv then
  let n:=zav s.adv
  let v:=zaq false (n.2.want [61])
  (zar 2 n.1 [v.1],v.2)
 else if s.is zc3 then
  let t:=zce (zc2 8) false s.adv
  (.node 3 [] 0 s.hd.at_ [t.1],t.2)
 else if s.is zda then zev s.adv
 else (zh9,s.fail 40)
def zat (s:RS):Tree × RS:=((defD s).1,(defD s).2.want [59])
def RS.defines (s:RS):Bool:=s.bodied != 0||(s.is zdv||(s.is zc3||s.is zda))
def zc6:Nat->List Tree->RS->List Tree × RS
 | 0,acc,s=>(acc,s)
 | f+1,acc,s=>
  if s.e==0&&s.hd.kind != 5 then
   if s.defines&&acc.length==100 then (acc,s.fail 42)
   else zc6 f (acc++[(zat s).1]) (zat s).2
  else (acc,s)
def parseD (l:List UInt8):PRes:=
 match ze9 l with
 | .err e i=>.err e i
 | .ok ts=>
  let r:=zc6 (ts.length+1) [] ⟨ts,0,0⟩
  if r.2.e==0 then .ok (.node 1 [] 0 0 r.1) else .err r.2.e r.2.pl
end Go.Proofs.YtighggeokiahfaaGreatDoor.Dm
namespace Go.Proofs.YtighggeokiahfaaGreatDoor.Dm
open Go.RowKit
def parO (g n cap i:Nat) (d e pl:Int):Obj:=.cells #[.slice (some ⟨g,0,none⟩) n cap,.int .i64 i,.int .i64 d,.int .i64 e,.int .i64 pl] 57 (0,0)
structure TokAt (w:World) (g:Nat) (ts:List Tok):Prop where
 t0:∀ j (h:j<ts.length),w.cell? ⟨g,j*4,none⟩=some (.int .i64 ts[j].kind)
 t1:∀ j (h:j<ts.length),w.cell? ⟨g,j*4+1,none⟩=some (.string ⟨ts[j].text.toArray⟩)
 t2:∀ j (h:j<ts.length),w.cell? ⟨g,j*4+2,none⟩=some (.int .i64 ts[j].num)
 t3:∀ j (h:j<ts.length),w.cell? ⟨g,j*4+3,none⟩=some (.int .i64 ts[j].at_)
structure DP (w:World) (p g cap:Nat) (ts:List Tok) (i:Nat) (d e:Int) (pl:Nat):Prop where
 blk:w.heap[p]?=some (parO g ts.length cap i d e pl)
 tok:TokAt w g ts
 il:i<ts.length
 ln:ts.length<=16001
 gp:g≠p
 gl:g<w.heap.size
theorem zb4 {w:World} {p g n cap i:Nat} {d e pl:Int} (h:w.heap[p]?=some (parO g n cap i d e pl)):
 (w.cell? ⟨p,0,none⟩=some (.slice (some ⟨g,0,none⟩) n cap)∧w.cell? ⟨p,1,none⟩=some (.int .i64 i)∧w.cell? ⟨p,2,none⟩=some (.int .i64 d)∧w.cell? ⟨p,3,none⟩=some (.int .i64 e)∧w.cell? ⟨p,4,none⟩=some (.int .i64 pl))∧
 (w.frozen? ⟨p,1,none⟩=false∧w.frozen? ⟨p,2,none⟩=false∧w.frozen? ⟨p,3,none⟩=false∧w.frozen? ⟨p,4,none⟩=false):=by
 unfold parO at h;simp [World.cell?,World.frozen?,h]
theorem TokAt.of_block {w w' : World} {g:Nat} {ts:List Tok} (h:TokAt w g ts) (hg:w'.heap[g]?=w.heap[g]?):TokAt w' g ts:=
 ⟨fun j hj=>(zac hg _).1.trans (h.t0 j hj),fun j hj=>(zac hg _).1.trans (h.t1 j hj),fun j hj=>(zac hg _).1.trans (h.t2 j hj),fun j hj=>(zac hg _).1.trans (h.t3 j hj)⟩
theorem DP.of_blocks {w w' : World} {p g cap:Nat} {ts:List Tok} {i:Nat} {d e:Int} {pl:Nat} (h:DP w p g cap ts i d e pl) (hp:w'.heap[p]?=w.heap[p]?) (hg:w'.heap[g]?=w.heap[g]?):DP w' p g cap ts i d e pl:=
 ⟨hp.trans h.blk,h.tok.of_block hg,h.il,h.ln,h.gp,by
  have h1:w.heap[g]?=some (w.heap[g]'h.gl):=Array.getElem?_eq_getElem h.gl;exact zej (hg.trans h1)⟩
theorem DP.plt {w:World} {p g cap:Nat} {ts:List Tok} {i:Nat} {d e:Int} {pl:Nat} (h:DP w p g cap ts i d e pl):p<w.heap.size:=zej h.blk
theorem DP.below {w w' : World} {p g cap:Nat} {ts:List Tok} {i:Nat} {d e:Int} {pl:Nat} (h:DP w p g cap ts i d e pl) (hB:Below w.heap.size w w'):DP w' p g cap ts i d e pl:=h.of_blocks (hB.block p h.plt) (hB.block g h.gl)
theorem DP.put {w w' : World} {p g cap:Nat} {ts:List Tok} {i:Nat} {d e:Int} {pl:Nat} (h:DP w p g cap ts i d e pl) {j:Nat} {d' e' : Int} {pl' : Nat} (hp:w'.heap[p]?=some (parO g ts.length cap j d' e' pl')) (hg:w'.heap[g]?=w.heap[g]?) (hj:j<ts.length):DP w' p g cap ts j d' e' pl':=
 ⟨hp,h.tok.of_block hg,hj,h.ln,h.gp,by
  have h1:w.heap[g]?=some (w.heap[g]'h.gl):=Array.getElem?_eq_getElem h.gl;exact zej (hg.trans h1)⟩
def DS (w:World) (p g cap:Nat) (ts:List Tok) (d:Int) (s:RS):Prop:=∃ i,s.ts=ts.drop i∧DP w p g cap ts i d s.e s.pl
def zdh {α:Type} (p g cap:Nat) (ts:List Tok) (d:Int) (val:α->World->Value->Prop) (r:α × RS) (w:World) (e:Ending) (w' : World):Prop:=
 ∃ v,e=.returned v∧val r.1 w' v∧DS w' p g cap ts d r.2∧Sole p w w'
theorem DS.below {w w' : World} {p g cap:Nat} {ts:List Tok} {d:Int} {s:RS} (h:DS w p g cap ts d s) (hB:Below w.heap.size w w'):DS w' p g cap ts d s:=by
 obtain ⟨i,h1,h2⟩:=h;exact ⟨i,h1,h2.below hB⟩
theorem hd_at {ts:List Tok} {i:Nat} (h:i<ts.length) (e:Int) (pl:Nat):(⟨ts.drop i,e,pl⟩:RS).hd=ts[i]:=by
 unfold RS.hd;rw [List.drop_eq_getElem_cons h];rfl
theorem Sole.drew (p:Nat) (w:World) (k:Nat):Sole p w (w.drewN k):=⟨rfl,rfl,rfl,Nat.le_refl _,fun _ _ _=>rfl⟩
theorem fail_yes (p g cap n i:Nat) (d pl x:Int) (a:Nat) (w:World) (hb:w.heap[p]?=some (parO g n cap i d 0 pl)) (hi:(i:Int)<n) (hgp:g≠p) (t3' : w.cell? ⟨g,i*4+3,none⟩=some (.int .i64 a)):
 Calls Tryz.prog 29 #[.pointer (some ⟨p,0,none⟩),.int .i64 x] w fun e w'=>e=.returned (.tuple #[])∧w'.heap[p]?=some (parO g n cap i d x a)∧Sole p w w':=by
 have hE:Hid (∀ k,(((w.setCell ⟨p,3,none⟩ (.int .i64 x)).drewN k).setCell ⟨p,4,none⟩ (.int .i64 a)).heap[p]?=some (parO g n cap i d x a)∧Sole p w (((w.setCell ⟨p,3,none⟩ (.int .i64 x)).drewN k).setCell ⟨p,4,none⟩ (.int .i64 a))):=fun k=>
  ⟨zae (zae hb),((Sole.setCell w 3 (.int .i64 x)).trans (Sole.drew p _ k)).trans (Sole.setCell _ 4 _)⟩
 obtain ⟨⟨c0,c1,c2,c3,c4⟩,f1,f2,f3,f4⟩:=zb4 hb;obtain ⟨wa,hwa⟩:∃ wa,w.setCell ⟨p,3,none⟩ (.int .i64 x)=wa:=⟨_,rfl⟩;have d0:wa.cell? ⟨p,0,none⟩=some (.slice (some ⟨g,0,none⟩) n cap):=by rw [<- hwa,World.cell?_setCell_other _ _ _ _ (by simp)];exact c0
 have d1:wa.cell? ⟨p,1,none⟩=some (.int .i64 i):=by rw [<- hwa,World.cell?_setCell_other _ _ _ _ (by simp)];exact c1
 have d4:wa.cell? ⟨p,4,none⟩=some (.int .i64 pl):=by rw [<- hwa,World.cell?_setCell_other _ _ _ _ (by simp)];exact c4
 have e4:wa.frozen? ⟨p,4,none⟩=false:=by rw [<- hwa,World.frozen?_setCell];exact f4
 have t3:wa.cell? ⟨g,i*4+3,none⟩=some (.int .i64 a):=by rw [<- hwa,World.cell?_setCell_other _ _ _ _ (by simp)];exact t3'
 clear c0 c1 c2 c4 f1 f2 f4 t3' hgp hb;go_enter Tryz.func29,Tryz.ntmps29
 go_wp2_with fail
 rw [hwa] at hE;clear hwa;go_region;all_goals (
  go_wp2;first | go_end0 | refine bodyPost_ret (results_none rfl _ _ _) rfl ?_
  exact ⟨rfl,hE.out _⟩)
theorem fail_no (p:Nat) (x e:Int) (w:World) (c3:w.cell? ⟨p,3,none⟩=some (.int .i64 e)) (he:(e==0)=false):
 Calls Tryz.prog 29 #[.pointer (some ⟨p,0,none⟩),.int .i64 x] w fun e w'=>e=.returned (.tuple #[])∧w'=w:=by
 go_enter Tryz.func29,Tryz.ntmps29
 go_wp2;first | go_end0 | refine bodyPost_ret (results_none rfl _ _ _) rfl ?_
 exact ⟨rfl,rfl⟩
theorem is_core (p g cap n i:Nat) (e k m:Int) (s x:ByteArray) (a:Nat) (b1 b2 b3 b4:Bool) (w:World) (hp:p<w.heap.size) (hg:g<w.heap.size) (c0' : w.cell? ⟨p,0,none⟩=some (.slice (some ⟨g,0,none⟩) n cap)) (c1' : w.cell? ⟨p,1,none⟩=some (.int .i64 i)) (c3' : w.cell? ⟨p,3,none⟩=some (.int .i64 e)) (hi:(i:Int)<n)
 (t0' : w.cell? ⟨g,i*4,none⟩=some (.int .i64 k)) (t1' : w.cell? ⟨g,i*4+1,none⟩=some (.string s)) (t2' : w.cell? ⟨g,i*4+2,none⟩=some (.int .i64 m)) (t3' : w.cell? ⟨g,i*4+3,none⟩=some (.int .i64 a))
 (h1:(e==0)=b1) (h2:(s.toList==x.toList)=b2) (h3:(k==4)=b3) (h4:(k==2)=b4):
 Calls Tryz.prog 45 #[.pointer (some ⟨p,0,none⟩),.string x] w fun e w'=>e=.returned (.bool (b1&&(b2&&(b3||b4))))∧Below w.heap.size w w':=by
 have c3:∀ x,(w.alloc x).cell? ⟨p,3,none⟩=some (.int .i64 e):=fun x=>by rw [World.cell?_alloc_lt _ _ _ hp];exact c3'
 have HB:Hid (∀ x k,Below w.heap.size w ((w.alloc x).drewN k)):=fun x k=>zad (zab w x) k;cases b1
 · go_enter Tryz.func45,Tryz.ntmps45
   go_wp2_with fail
   go_region;all_goals (
    go_wp2;go_ret;exact ⟨rfl,HB.out _ 1⟩)
 cases b2
 · go_enter Tryz.func45,Tryz.ntmps45
   go_wp2_with fail
   go_region;all_goals (
    go_wp2;go_ret;exact ⟨rfl,HB.out _ 1⟩)
 cases b3
 · go_enter Tryz.func45,Tryz.ntmps45
   go_wp2_with fail
   go_region;all_goals (
    go_wp2;go_ret;exact ⟨rfl,HB.out _ 1⟩)
 · go_enter Tryz.func45,Tryz.ntmps45
   go_wp2_with fail
   go_region;all_goals (
    go_wp2;go_ret;exact ⟨rfl,HB.out _ 1⟩)
theorem DS.plt {w:World} {p g cap:Nat} {ts:List Tok} {d:Int} {s:RS} (h:DS w p g cap ts d s):p<w.heap.size:=by
 obtain ⟨i,_,h2⟩:=h;exact h2.plt
theorem DS.glt {w:World} {p g cap:Nat} {ts:List Tok} {d:Int} {s:RS} (h:DS w p g cap ts d s):g<w.heap.size:=by
 obtain ⟨i,_,h2⟩:=h;exact h2.gl
theorem DS.at_ {w:World} {p g cap:Nat} {ts:List Tok} {d:Int} {s:RS} (h:DS w p g cap ts d s):∃ i,∃ hi:i<ts.length,DP w p g cap ts i d s.e s.pl∧s.hd=ts[i]∧s.ts=ts.drop i:=by
 obtain ⟨i,h1,h2⟩:=h;refine ⟨i,h2.il,h2,?_,h1⟩;obtain ⟨a,b,c⟩:=s;simp only at h1;subst h1;exact hd_at h2.il b c
theorem DS.advance {w w' : World} {p g cap:Nat} {ts:List Tok} {d:Int} {s:RS} {i:Nat} (hE:Ends ts) (h:DP w p g cap ts i d s.e s.pl) (hs:s.ts=ts.drop i) (hk:s.hd.kind≠5∨s.hd.text≠[]) (hp:w'.heap[p]?=some (parO g ts.length cap (i+1) d s.e s.pl)) (hg:w'.heap[g]?=w.heap[g]?):DS w' p g cap ts d s.adv:=by
 have hh:s.hd=ts[i]'h.il:=by
  obtain ⟨a,b,c⟩:=s;simp only at hs;subst hs;exact hd_at h.il b c
 have hi:i+1<ts.length:=by
  rcases hk with hk|hk
  · exact hE.kind h.il (by rw [<- hh];exact hk)
  · exact hE.text h.il (by rw [<- hh];exact hk)
 exact ⟨i+1,by unfold RS.adv;rw [hs,List.tail_drop],h.put hp hg hi⟩
theorem zbs (p g cap:Nat) (ts:List Tok) (d x:Int) (s:RS) (w:World) (h:DS w p g cap ts d s):
 Calls Tryz.prog 29 #[.pointer (some ⟨p,0,none⟩),.int .i64 x] w fun e w'=>e=.returned (.tuple #[])∧DS w' p g cap ts d (s.fail x)∧Sole p w w':=by
 obtain ⟨i,hi,h1,hh,hs⟩:=h.at_;by_cases he:s.e=0
 · rw [he] at h1;refine (fail_yes p g cap ts.length i d s.pl x (ts[i].at_) w h1.blk (by omega) h1.gp (h1.tok.t3 i hi)).mono ?_;rintro e w' ⟨rfl,hb,hS⟩;refine ⟨rfl,⟨i,?_,?_⟩,hS⟩
   · unfold RS.fail;rw [if_pos he];exact hs
   · unfold RS.fail;rw [if_pos he,hh];exact h1.put hb (hS.block g h1.gl h1.gp) hi
 · refine (fail_no p x s.e w (zb4 h1.blk).1.2.2.2.1 (by simp [he])).mono ?_;rintro e w' ⟨rfl,rfl⟩;refine ⟨rfl,?_,Sole.refl _ _⟩;unfold RS.fail;rw [if_neg he];exact h
theorem zd8 (p g cap:Nat) (ts:List Tok) (d:Int) (x:List UInt8) (s:RS) (w:World) (h:DS w p g cap ts d s):
 Calls Tryz.prog 45 #[.pointer (some ⟨p,0,none⟩),.string ⟨x.toArray⟩] w fun e w'=>e=.returned (.bool (s.is x))∧Below w.heap.size w w':=by
 obtain ⟨i,hi,h1,hh,hs⟩:=h.at_;obtain ⟨⟨c0,c1,_,c3,_⟩,_⟩:=zb4 h1.blk;unfold RS.is;rw [hh];exact is_core p g cap ts.length i s.e ts[i].kind ts[i].num ⟨ts[i].text.toArray⟩ ⟨x.toArray⟩ ts[i].at_ _ _ _ _ w h1.plt h1.gl c0 c1 c3 (by omega) (h1.tok.t0 i hi) (h1.tok.t1 i hi) (h1.tok.t2 i hi) (h1.tok.t3 i hi) rfl (by rw [ByteArray.toList_mk,ByteArray.toList_mk]) rfl rfl
theorem is_hd {s:RS} {x:List UInt8} (h:s.is x=true):s.e=0∧s.hd.text=x∧(s.hd.kind=4∨s.hd.kind=2):=by
 unfold RS.is at h;simpa using h
theorem may_no (p:Nat) (x:ByteArray) (w:World) (H:Hid (Calls Tryz.prog 45 #[.pointer (some ⟨p,0,none⟩),.string x] w fun e w'=>e=.returned (.bool false)∧Below w.heap.size w w')):
 Calls Tryz.prog 48 #[.pointer (some ⟨p,0,none⟩),.string x] w fun e w'=>e=.returned (.bool false)∧Below w.heap.size w w':=by
 go_enter Tryz.func48,Tryz.ntmps48
 go_wp2_with fail
 refine H.out.mono ?_;rintro e w1 ⟨rfl,hB⟩;have HB:=hid hB;clear hB;go_wp2;go_ret;exact ⟨rfl,HB.out⟩
theorem may_yes (p i:Nat) (x:ByteArray) (w:World) (hi:(i:Int)<=16001) (HC:Hid (∀ w1,Below w.heap.size w w1->w1.cell? ⟨p,1,none⟩=some (.int .i64 i)∧w1.frozen? ⟨p,1,none⟩=false)) (H:Hid (Calls Tryz.prog 45 #[.pointer (some ⟨p,0,none⟩),.string x] w fun e w'=>e=.returned (.bool true)∧Below w.heap.size w w')):
 Calls Tryz.prog 48 #[.pointer (some ⟨p,0,none⟩),.string x] w fun e w'=>e=.returned (.bool true)∧∃ w1,Below w.heap.size w w1∧w'=w1.setCell ⟨p,1,none⟩ (.int .i64 ((i:Int)+1)):=by
 go_enter Tryz.func48,Tryz.ntmps48
 go_wp2_with fail
 refine H.out.mono ?_;rintro e w1 ⟨rfl,hB⟩;obtain ⟨c1,f1⟩:=HC.out w1 hB;have HB:=hid hB;clear hB;go_wp2;go_ret;exact ⟨rfl,w1,HB.out,rfl⟩
theorem adv_blk {w1 : World} {p g n cap i:Nat} {d e pl:Int} (h:w1.heap[p]?=some (parO g n cap i d e pl)):(w1.setCell ⟨p,1,none⟩ (.int .i64 ((i:Int)+1))).heap[p]?=some (parO g n cap (i+1) d e pl):=zae h
theorem DS.step {w w1 : World} {p g cap:Nat} {ts:List Tok} {d:Int} {s:RS} {i:Nat} (hE:Ends ts) (h:DP w p g cap ts i d s.e s.pl) (hs:s.ts=ts.drop i) (hk:s.hd.kind≠5∨s.hd.text≠[]) (hB:Sole p w w1) (hp:w1.heap[p]?=w.heap[p]?):DS (w1.setCell ⟨p,1,none⟩ (.int .i64 ((i:Int)+1))) p g cap ts d s.adv∧Sole p w (w1.setCell ⟨p,1,none⟩ (.int .i64 ((i:Int)+1))):=
 ⟨DS.advance hE h hs hk (adv_blk (hp.trans h.blk)) ((Sole.setCell w1 1 _).block g (Nat.lt_of_lt_of_le h.gl hB.size) h.gp |>.trans (hB.block g h.gl h.gp)),hB.trans (Sole.setCell w1 1 _)⟩
def RS.may (s:RS) (x:List UInt8):RS:=if s.is x then s.adv else s
theorem zci (p g cap:Nat) (ts:List Tok) (hE:Ends ts) (d:Int) (x:List UInt8) (hx:x≠[]) (s:RS) (w:World) (h:DS w p g cap ts d s):
 Calls Tryz.prog 48 #[.pointer (some ⟨p,0,none⟩),.string ⟨x.toArray⟩] w fun e w'=>e=.returned (.bool (s.is x))∧DS w' p g cap ts d (s.may x)∧Sole p w w':=by
 have hI:=zd8 p g cap ts d x s w h;unfold RS.may;cases hb:s.is x with
 | false=>
  rw [hb] at hI;refine (may_no p _ w hI).mono ?_;rintro e w' ⟨rfl,hB⟩;exact ⟨rfl,h.below hB,Sole.of_below hB⟩
 | true=>
  rw [hb] at hI;obtain ⟨i,hi,h1,hh,hs⟩:=h.at_;refine (may_yes p i _ w (by have:=h1.ln;omega) (fun w1 hB=>⟨(zac (hB.block p h1.plt) 1).1.trans (zb4 h1.blk).1.2.1,(zac (hB.block p h1.plt) 1).2.trans (zb4 h1.blk).2.1⟩) hI).mono ?_;rintro e w' ⟨rfl,w1,hB,rfl⟩;exact ⟨rfl,DS.step hE h1 hs (Or.inr (by rw [(is_hd hb).2.1];exact hx)) (Sole.of_below hB) (hB.block p h1.plt)⟩
def WPost (b:Bool) (Z:World->Prop) (Q:World->World->Prop) (w' : World):Prop:=(b=true∧Z w')∨(b=false∧∃ w1,Z w1∧Q w1 w')
theorem want_core (p:Nat) (b:Bool) (x:ByteArray) (w:World) (Q:World->World->Prop) (Z:World->Prop) (H:Hid (Calls Tryz.prog 48 #[.pointer (some ⟨p,0,none⟩),.string x] w fun e w'=>e=.returned (.bool b)∧Z w')) (HF:Hid (∀ w1,Z w1->Calls Tryz.prog 29 #[.pointer (some ⟨p,0,none⟩),.int .i64 40] w1 fun e w'=>e=.returned (.tuple #[])∧Q w1 w')):
 Calls Tryz.prog 49 #[.pointer (some ⟨p,0,none⟩),.string x] w fun e w'=>e=.returned (.tuple #[])∧WPost b Z Q w':=by
 go_enter Tryz.func49,Tryz.ntmps49
 go_wp2_with fail
 refine H.out.mono ?_;rintro e w1 ⟨rfl,hZ⟩;have HZ:=hid hZ;clear hZ;cases b
 · go_wp2_with fail
   refine (HF.out _ HZ.out).mono ?_;rintro e w2 ⟨rfl,hQ⟩;have HQ:=hid hQ;clear hQ;go_wp2;first | go_end0 | refine bodyPost_ret (results_none rfl _ _ _) rfl ?_
   exact ⟨rfl,Or.inr ⟨rfl,w1,HZ.out,HQ.out⟩⟩
 · go_wp2;first | go_end0 | refine bodyPost_ret (results_none rfl _ _ _) rfl ?_
   exact ⟨rfl,Or.inl ⟨rfl,HZ.out⟩⟩
theorem zak (p g cap:Nat) (ts:List Tok) (hE:Ends ts) (d:Int) (x:List UInt8) (hx:x≠[]) (s:RS) (w:World) (h:DS w p g cap ts d s):
 Calls Tryz.prog 49 #[.pointer (some ⟨p,0,none⟩),.string ⟨x.toArray⟩] w fun e w'=>e=.returned (.tuple #[])∧DS w' p g cap ts d (s.want x)∧Sole p w w':=by
 refine (want_core p (s.is x) _ w (fun w1 w'=>DS w' p g cap ts d ((s.may x).fail 40)∧Sole p w1 w') (fun w'=>DS w' p g cap ts d (s.may x)∧Sole p w w') (zci p g cap ts hE d x hx s w h) (fun w1 hz=>zbs p g cap ts d 40 (s.may x) w1 hz.1)).mono ?_;rintro e w' ⟨rfl,⟨hb,h1,h2⟩|⟨hb,w1,⟨h1,h2⟩,h3,h4⟩⟩
 · refine ⟨rfl,?_,h2⟩;unfold RS.want;unfold RS.may at h1;rw [hb] at h1 ⊢;exact h1
 · refine ⟨rfl,?_,h2.trans h4⟩;unfold RS.want;unfold RS.may at h3;rw [hb] at h3 ⊢;exact h3
theorem DS.drew {w:World} {p g cap:Nat} {ts:List Tok} {d:Int} {s:RS} (h:DS w p g cap ts d s) (k:Nat):DS (w.drewN k) p g cap ts d s:=by
 obtain ⟨i,h1,h2⟩:=h;exact ⟨i,h1,h2.of_blocks rfl rfl⟩
structure Look (w:World) (p g cap n i:Nat) (e k m:Int) (s:ByteArray) (a:Nat):Prop where
 hp:p<w.heap.size
 hg:g<w.heap.size
 hi:(i:Int)<n
 c0:w.cell? ⟨p,0,none⟩=some (.slice (some ⟨g,0,none⟩) n cap)
 c1:w.cell? ⟨p,1,none⟩=some (.int .i64 i)
 c3:w.cell? ⟨p,3,none⟩=some (.int .i64 e)
 t0:w.cell? ⟨g,i*4,none⟩=some (.int .i64 k)
 t1:w.cell? ⟨g,i*4+1,none⟩=some (.string s)
 t2:w.cell? ⟨g,i*4+2,none⟩=some (.int .i64 m)
 t3:w.cell? ⟨g,i*4+3,none⟩=some (.int .i64 a)
 f1:w.frozen? ⟨p,1,none⟩=false
theorem DP.look {w:World} {p g cap:Nat} {ts:List Tok} {i:Nat} {d e:Int} {pl:Nat} (h:DP w p g cap ts i d e pl) (hi:i<ts.length):Look w p g cap ts.length i e (ts[i]'hi).kind (ts[i]'hi).num ⟨(ts[i]'hi).text.toArray⟩ (ts[i]'hi).at_:=by
 obtain ⟨⟨c0,c1,_,c3,_⟩,f1,_⟩:=zb4 h.blk;exact ⟨h.plt,h.gl,by have:=h.il;omega,c0,c1,c3,h.tok.t0 i h.il,h.tok.t1 i h.il,h.tok.t2 i h.il,h.tok.t3 i h.il,f1⟩
theorem name_no (p g cap n i:Nat) (e k m:Int) (s:ByteArray) (a:Nat) (b1 b2:Bool) (w:World) (Q:World->Prop) (hl:Look w p g cap n i e k m s a) (h1:(e==0)=b1) (h2:(k==1)=b2) (hb:(b1&&b2)=false)
 (HF:Hid (∀ w1,Below w.heap.size w w1->Calls Tryz.prog 29 #[.pointer (some ⟨p,0,none⟩),.int .i64 40] w1 fun e w'=>e=.returned (.tuple #[])∧Q w')):
 Calls Tryz.prog 46 #[.pointer (some ⟨p,0,none⟩)] w fun e w'=>e=.returned (.tuple #[.string ⟨#[]⟩,.int .i64 0])∧Q w':=by
 obtain ⟨hp,hg,hi,c0,c1,c3',t0,t1,t2,t3,_⟩:=hl;have c3:∀ x,(w.alloc x).cell? ⟨p,3,none⟩=some (.int .i64 e):=fun x=>by rw [World.cell?_alloc_lt _ _ _ hp];exact c3'
 have HB:Hid (∀ x k,Below w.heap.size w ((w.alloc x).drewN k)):=fun x k=>zad (zab w x) k;cases b1
 · clear hb;have he:¬ e=0:=by simpa using h1
   go_enter Tryz.func46,Tryz.ntmps46
   go_wp2_with fail
   go_region;all_goals (
    (go_wp2_with fail);refine (HF.out _ (HB.out _ 1)).mono ?_;rintro e w2 ⟨rfl,hQ⟩;have HQ:=hid hQ;clear hQ;go_wp2;go_ret2
    exact ⟨rfl,HQ.out⟩)
 · obtain rfl:b2=false:=hb;have hk:¬ k=1:=by simpa using h2
   obtain rfl:e=0:=by simpa using h1
   go_enter Tryz.func46,Tryz.ntmps46
   go_wp2_with fail
   go_region;all_goals (
    (go_wp2_with fail);refine (HF.out _ (HB.out _ 1)).mono ?_;rintro e w2 ⟨rfl,hQ⟩;have HQ:=hid hQ;clear hQ;go_wp2;go_ret2
    exact ⟨rfl,HQ.out⟩)
theorem name_yes (p g cap n i:Nat) (m:Int) (s:ByteArray) (a:Nat) (w:World) (Q:World->Prop) (hl:Look w p g cap n i 0 1 m s a) (hm:(i:Int)<=16001)
 (HQ:Hid (∀ x k,Q (((w.setCell ⟨p,1,none⟩ (.int .i64 ((i:Int)+1))).alloc x).drewN k))):
 Calls Tryz.prog 46 #[.pointer (some ⟨p,0,none⟩)] w fun e w'=>e=.returned (.tuple #[.string s,.int .i64 a])∧Q w':=by
 obtain ⟨hp,hg,hi,c0,c1',c3',t0,t1,t2,t3,f1'⟩:=hl;have c3:∀ x,(w.alloc x).cell? ⟨p,3,none⟩=some (.int .i64 0):=fun x=>by rw [World.cell?_alloc_lt _ _ _ hp];exact c3'
 have c1:∀ x,(w.alloc x).cell? ⟨p,1,none⟩=some (.int .i64 i):=fun x=>by rw [World.cell?_alloc_lt _ _ _ hp];exact c1'
 have f1:∀ x,(w.alloc x).frozen? ⟨p,1,none⟩=false:=fun x=>by rw [World.frozen?_alloc_old _ _ _ (Nat.ne_of_lt hp)];exact f1'
 have hne:¬ p=w.heap.size:=by omega
 have hne2:¬ w.heap.size=p:=by omega
 go_enter Tryz.func46,Tryz.ntmps46
 go_wp2_with fail
 go_region;all_goals (
  go_wp2_with fail
  go_region;all_goals (
   go_wp2;go_ret2
   exact ⟨rfl,HQ.out _ 2⟩))
def nameIs (n:List UInt8 × Nat) (_:World) (v:Value):Prop:=v=.tuple #[.string ⟨n.1.toArray⟩,.int .i64 n.2]
theorem Sole.grow {p:Nat} (w:World) (x:Obj) (k:Nat):Sole p w ((w.alloc x).drewN k):=Sole.of_below (zad (zab w x) k)
theorem DS.stepN {w:World} {p g cap:Nat} {ts:List Tok} {d:Int} {s:RS} {i:Nat} (hE:Ends ts) (h:DP w p g cap ts i d s.e s.pl) (hs:s.ts=ts.drop i) (hk:s.hd.kind≠5∨s.hd.text≠[]) (x:Obj) (j:Nat):DS (((w.setCell ⟨p,1,none⟩ (.int .i64 ((i:Int)+1))).alloc x).drewN j) p g cap ts d s.adv∧Sole p w (((w.setCell ⟨p,1,none⟩ (.int .i64 ((i:Int)+1))).alloc x).drewN j):=by
 have h1:=DS.step hE h hs hk (Sole.refl p w) rfl;exact ⟨(h1.1.below (zab _ x)).drew j,h1.2.trans (Sole.grow _ x j)⟩
theorem zco (p g cap:Nat) (ts:List Tok) (hE:Ends ts) (d:Int) (s:RS) (w:World) (h:DS w p g cap ts d s):
 Calls Tryz.prog 46 #[.pointer (some ⟨p,0,none⟩)] w (zdh p g cap ts d nameIs (zav s) w):=by
 obtain ⟨i,hi,h1,hh,hs⟩:=h.at_;have hl:=h1.look hi;unfold zav;cases hb:(s.e==0&&s.hd.kind==1) with
 | false=>
  rw [hh] at hb;refine (name_no p g cap ts.length i s.e _ _ _ _ _ _ w (fun w'=>DS w' p g cap ts d (s.fail 40)∧Sole p w w') hl rfl rfl hb (fun w1 hB=>(zbs p g cap ts d 40 s w1 (h.below hB)).mono ?_)).mono ?_
  · rintro e w' ⟨rfl,h2,h3⟩;exact ⟨rfl,h2,(Sole.of_below hB).trans h3⟩
  · rintro e w' ⟨rfl,h2,h3⟩;exact ⟨_,rfl,rfl,h2,h3⟩
 | true=>
  rw [Bool.and_eq_true,beq_iff_eq,beq_iff_eq] at hb;have hk:s.hd.kind≠5∨s.hd.text≠[]:=Or.inl (by rw [hb.2];decide);rw [hb.1,show (ts[i]'hi).kind=1 by rw [<- hh];exact hb.2] at hl;refine (name_yes p g cap ts.length i _ _ _ w (fun w'=>DS w' p g cap ts d s.adv∧Sole p w w') hl (by have:=h1.ln;omega) (fun x j=>DS.stepN hE h1 hs hk x j)).mono ?_;rintro e w' ⟨rfl,h2,h3⟩;refine ⟨_,rfl,?_,h2,h3⟩;show _=_;rw [hh];rfl
theorem DS.but {w w' : World} {p g cap:Nat} {ts:List Tok} {d:Int} {s:RS} {r:Nat} (h:DS w p g cap ts d s) (hp:p<r) (hg:g<r) (hz:∀ b,b≠r->w'.heap[b]?=w.heap[b]?):DS w' p g cap ts d s:=by
 obtain ⟨i,h1,h2⟩:=h;exact ⟨i,h1,h2.of_blocks (hz p (by omega)) (hz g (by omega))⟩
theorem bld_ (w:World):(Instr.build 29 #[]).run Tryz.prog w=.ok (.agg #[.int .i64 0,.string ⟨#[]⟩,.int .i64 0,.int .i64 0,.slice none 0 0]) w:=by kernel_rfl
theorem zff {B:Nat} {w:World} {k m:Int} {n:List UInt8} {a:Nat}:treeIs B (.node k n m a []) w (kidV k n m a (.slice none 0 0)):=treeAt_node.2 ⟨_,rfl,listAt_nil⟩
theorem zbj {w wa:World} {p b:Nat} {o:Obj} (h:Kep w wa b o) (hp:p<w.heap.size) (v:Value) (x:Obj) (k:Nat):Kep w (((wa.setCell ⟨p,1,none⟩ v).alloc x).drewN k) b o:=
 h.sole hp ((Sole.setCell wa 1 v).trans (Sole.grow _ x k))
theorem zch (p g cap:Nat) (ts:List Tok) (hE:Ends ts) (d:Int) (b:Bool) (s:RS) (w:World) (h:DS w p g cap ts d s):
 Calls Tryz.prog 50 #[.pointer (some ⟨p,0,none⟩),.bool b] w (zdh p g cap ts d (treeIs w.heap.size) (zaq b s) w):=by
 have Aa:Hid (p<w.heap.size∧g<w.heap.size):=⟨h.plt,h.glt⟩;obtain ⟨R,hR⟩:∃ R,zaq b s=R:=⟨_,rfl⟩;rw [hR];have HR:=hid (hR.symm);obtain ⟨wa,hwa⟩:∃ x,w.alloc (.cells #[.int .i64 0,.string ⟨#[]⟩,.int .i64 0,.int .i64 0,.slice none 0 0] 29)=x:=⟨_,rfl⟩;have HB:Hid (Below w.heap.size w wa):=hidB hwa;have HK:Hid (Kep w wa w.heap.size (kidO 0 [] 0 0 (.slice none 0 0))):=by show Kep _ _ _ _;rw [<- hwa];exact Kep.new (Nat.le_refl _) _
 have HD:=hid (h.below HB.out);clear h hR;obtain ⟨i,hi,h1,hh,hs⟩:=HD.out.at_;have Ah:Hid (DP wa p g cap ts i d s.e s.pl∧s.hd=ts[i]∧s.ts=ts.drop i):=⟨h1,hh,hs⟩;have Aj:Hid ((i:Int)<=16001):=by show _<=_;have:=h1.ln;omega
 have hl:=h1.look hi;obtain ⟨E0,hE0⟩:∃ x,s.e=x:=⟨_,rfl⟩;obtain ⟨K,hK⟩:∃ x,ts[i].kind=x:=⟨_,rfl⟩;obtain ⟨M,hM⟩:∃ x,ts[i].num=x:=⟨_,rfl⟩;obtain ⟨A,hA⟩:∃ x,ts[i].at_=x:=⟨_,rfl⟩;obtain ⟨S,hS⟩:∃ x,ts[i].text=x:=⟨_,rfl⟩;rw [hE0,hK,hM,hA,hS] at hl;have HF:Hid (s.e=E0∧s.hd.kind=K∧s.hd.num=M∧s.hd.at_=A∧s.hd.text=S):=⟨hE0,by rw [hh];exact hK,by rw [hh];exact hM,by rw [hh];exact hA,by rw [hh];exact hS⟩;clear hE0 hK hM hA hS hh hs h1;obtain ⟨hp,hg,hi',c0,c1,c3,t0,t1,t2,t3,f1⟩:=hl;have c1x:∀ x,(wa.alloc x).cell? ⟨p,1,none⟩=some (.int .i64 i):=fun x=>by rw [World.cell?_alloc_lt _ _ _ hp];exact c1
 have c3x:∀ x,(wa.alloc x).cell? ⟨p,3,none⟩=some (.int .i64 E0):=fun x=>by rw [World.cell?_alloc_lt _ _ _ hp];exact c3
 have f1x:∀ x,(wa.alloc x).frozen? ⟨p,1,none⟩=false:=fun x=>by rw [World.frozen?_alloc_old _ _ _ (Nat.ne_of_lt hp)];exact f1
 have Ac:Hid (∀ x k,Below wa.heap.size wa ((wa.alloc x).drewN k)):=fun x k=>zad (zab wa x) k;have hne:¬ p=wa.heap.size:=by omega
 have hne2:¬ wa.heap.size=p:=by omega
 have him:=Aj.out;have qb:=bld_;have qc:=bld023;by_cases he:E0=0
 case neg =>
  have Ad:Hid (R=(zh9,s.fail 40)):=by
   show _=_;rw [HR.out];unfold zaq;rw [HF.out.1,show (E0==0)=false by simp [he]];rfl
  have he2:(E0==0)=false:=by simp [he]
  go_enter Tryz.func50,Tryz.ntmps50
  go_wp2_with fail
  clear hwa;go_region;all_goals (
   go_wp2_with fail
   refine (zbs p g cap ts d 40 s _ (HD.out.below (Ac.out _ 1))).mono ?_;rintro e w2 ⟨rfl,hD,hS⟩;have Af:=hid hD;have Ag:=hid (((Sole.of_below HB.out).trans (Sole.of_below (Ac.out _ 1))).trans hS);have Ab:=hid ((HK.out.below (Ac.out _ 1)).sole Aa.out.1 hS);clear hD hS;obtain ⟨⟨z0,z1,z2,z3,z4⟩,⟨y0,y1,y2,y3,y4⟩⟩:=zaa Ab.out.1;go_wp2;refine ret5 (n:=[]) (a:=0) z0 z1 z2 z3 z4 rfl (fun u q0 q1 q2 q3 q4=>by simp [results,Tryz.results50,go_sem,q0,q1,q2,q3,q4]) Ab.out.2 Ag.out ?_;intro wz hf;rw [Ad.out];have hr2:=Ab.out.2;have hpg:=Aa.out;exact ⟨_,rfl,zff,Af.out.but (by omega) (by omega) hf.2,hf.1⟩)
 subst he;by_cases hk:K=3
 case neg =>
  have Ad:Hid (R=(zh9,s.fail 40)):=by
   show _=_;rw [HR.out];unfold zaq;rw [HF.out.2.1,show (K==3)=false by simp [hk]];simp
  have hk2:(K==3)=false:=by simp [hk]
  go_enter Tryz.func50,Tryz.ntmps50
  go_wp2_with fail
  clear hwa;go_region;all_goals (
   go_wp2_with fail
   refine (zbs p g cap ts d 40 s _ (HD.out.below (Ac.out _ 1))).mono ?_;rintro e w2 ⟨rfl,hD,hS⟩;have Af:=hid hD;have Ag:=hid (((Sole.of_below HB.out).trans (Sole.of_below (Ac.out _ 1))).trans hS);have Ab:=hid ((HK.out.below (Ac.out _ 1)).sole Aa.out.1 hS);clear hD hS;obtain ⟨⟨z0,z1,z2,z3,z4⟩,⟨y0,y1,y2,y3,y4⟩⟩:=zaa Ab.out.1;go_wp2;refine ret5 (n:=[]) (a:=0) z0 z1 z2 z3 z4 rfl (fun u q0 q1 q2 q3 q4=>by simp [results,Tryz.results50,go_sem,q0,q1,q2,q3,q4]) Ab.out.2 Ag.out ?_;intro wz hf;rw [Ad.out];have hr2:=Ab.out.2;have hpg:=Aa.out;exact ⟨_,rfl,zff,Af.out.but (by omega) (by omega) hf.2,hf.1⟩)
 subst hk;cases hb:(b&&decide (M<0)) with
 | true =>
  rw [Bool.and_eq_true,decide_eq_true_iff] at hb;obtain ⟨rfl,hm⟩:=hb;have Ad:Hid (R=(zh9,s.fail 40)):=by
   show _=_;rw [HR.out];unfold zaq;rw [HF.out.2.2.1,decide_eq_true hm];simp
  go_enter Tryz.func50,Tryz.ntmps50
  go_wp2_with fail
  clear hwa;go_region;all_goals (
   go_wp2_with fail
   refine (zbs p g cap ts d 40 s _ (HD.out.below (Ac.out _ 1))).mono ?_;rintro e w2 ⟨rfl,hD,hS⟩;have Af:=hid hD;have Ag:=hid (((Sole.of_below HB.out).trans (Sole.of_below (Ac.out _ 1))).trans hS);have Ab:=hid ((HK.out.below (Ac.out _ 1)).sole Aa.out.1 hS);clear hD hS;obtain ⟨⟨z0,z1,z2,z3,z4⟩,⟨y0,y1,y2,y3,y4⟩⟩:=zaa Ab.out.1;go_wp2;refine ret5 (n:=[]) (a:=0) z0 z1 z2 z3 z4 rfl (fun u q0 q1 q2 q3 q4=>by simp [results,Tryz.results50,go_sem,q0,q1,q2,q3,q4]) Ab.out.2 Ag.out ?_;intro wz hf;rw [Ad.out];have hr2:=Ab.out.2;have hpg:=Aa.out;exact ⟨_,rfl,zff,Af.out.but (by omega) (by omega) hf.2,hf.1⟩)
 | false =>
  have Ad:Hid (R=(.node 28 [] M A [],s.adv)):=by
   show _=_;rw [HR.out];unfold zaq;rw [HF.out.1,HF.out.2.1,HF.out.2.2.1,HF.out.2.2.2.1,hb];rfl
  have Ai:Hid (s.hd.kind≠5∨s.hd.text≠[]):=Or.inl (by rw [HF.out.2.1];decide);have HX:Hid (∀ x k,DS (((wa.setCell ⟨p,1,none⟩ (.int .i64 ((i:Int)+1))).alloc x).drewN k) p g cap ts d s.adv∧Sole p w (((wa.setCell ⟨p,1,none⟩ (.int .i64 ((i:Int)+1))).alloc x).drewN k)):=fun x k=>⟨(DS.stepN hE Ah.out.1 Ah.out.2.2 Ai.out x k).1,(Sole.of_below HB.out).trans (DS.stepN hE Ah.out.1 Ah.out.2.2 Ai.out x k).2⟩;have bq:b=false∨(b=true∧¬ M<0):=by cases b <;> simp at hb ⊢;omega
  rcases bq with rfl|⟨rfl,hm⟩
  · clear hb;have z0x:∀ v x,((wa.setCell ⟨p,1,none⟩ v).alloc x).cell? ⟨w.heap.size,0,none⟩=some (.int .i64 0):=fun v x=>(zaa (zbj HK.out Aa.out.1 v x 0).1).1.1;have y0x:∀ v x,((wa.setCell ⟨p,1,none⟩ v).alloc x).frozen? ⟨w.heap.size,0,none⟩=false:=fun v x=>(zaa (zbj HK.out Aa.out.1 v x 0).1).2.1;have z1x:∀ v x,((wa.setCell ⟨p,1,none⟩ v).alloc x).cell? ⟨w.heap.size,1,none⟩=some (.string ⟨#[]⟩):=fun v x=>(zaa (zbj HK.out Aa.out.1 v x 0).1).1.2.1;have y1x:∀ v x,((wa.setCell ⟨p,1,none⟩ v).alloc x).frozen? ⟨w.heap.size,1,none⟩=false:=fun v x=>(zaa (zbj HK.out Aa.out.1 v x 0).1).2.2.1;have z2x:∀ v x,((wa.setCell ⟨p,1,none⟩ v).alloc x).cell? ⟨w.heap.size,2,none⟩=some (.int .i64 0):=fun v x=>(zaa (zbj HK.out Aa.out.1 v x 0).1).1.2.2.1;have y2x:∀ v x,((wa.setCell ⟨p,1,none⟩ v).alloc x).frozen? ⟨w.heap.size,2,none⟩=false:=fun v x=>(zaa (zbj HK.out Aa.out.1 v x 0).1).2.2.2.1;have z3x:∀ v x,((wa.setCell ⟨p,1,none⟩ v).alloc x).cell? ⟨w.heap.size,3,none⟩=some (.int .i64 0):=fun v x=>(zaa (zbj HK.out Aa.out.1 v x 0).1).1.2.2.2.1;have y3x:∀ v x,((wa.setCell ⟨p,1,none⟩ v).alloc x).frozen? ⟨w.heap.size,3,none⟩=false:=fun v x=>(zaa (zbj HK.out Aa.out.1 v x 0).1).2.2.2.2.1;have z4x:∀ v x,((wa.setCell ⟨p,1,none⟩ v).alloc x).cell? ⟨w.heap.size,4,none⟩=some (.slice none 0 0):=fun v x=>(zaa (zbj HK.out Aa.out.1 v x 0).1).1.2.2.2.2;have y4x:∀ v x,((wa.setCell ⟨p,1,none⟩ v).alloc x).frozen? ⟨w.heap.size,4,none⟩=false:=fun v x=>(zaa (zbj HK.out Aa.out.1 v x 0).1).2.2.2.2.2;(go_enter Tryz.func50,Tryz.ntmps50);(go_wp2_with fail);clear hwa;go_region;all_goals (
     go_wp2;obtain ⟨w9,hw9⟩:∃ x,(wa.setCell ⟨p,1,none⟩ (.int .i64 ((i:Int)+1))).alloc (.cells #[.int .i64 3,.string ⟨S.toArray⟩,.int .i64 M,.int .i64 A] 41)=x:=⟨_,rfl⟩;rw [hw9];have Ae:Hid (Kep w w9 w.heap.size (kidO 0 [] 0 0 (.slice none 0 0))∧DS w9 p g cap ts d s.adv∧Sole p w w9):=by
      show _∧_;rw [<- hw9];exact ⟨zbj HK.out Aa.out.1 _ _ 0,HX.out _ 0⟩
     obtain ⟨⟨z0,z1,z2,z3,z4⟩,⟨y0,y1,y2,y3,y4⟩⟩:=zaa Ae.out.1.1;have q:=res5 w9 w.heap.size (.int .i64 28) (.string ⟨#[]⟩) (.int .i64 M) (.int .i64 A) (.slice none 0 0) z0 z1 z2 z3 z4;have hf:=fin5 (r:=w.heap.size) (w9:=w9) (k:=28) (n:=[]) (m:=M) (a:=A) (sl:=.slice none 0 0) (Nat.le_refl _) Ae.out.2.2 _ rfl;generalize ((((w9.setCell ⟨w.heap.size,0,none⟩ (.int .i64 28)).setCell ⟨w.heap.size,1,none⟩ (.string ⟨#[]⟩)).setCell ⟨w.heap.size,2,none⟩ (.int .i64 M)).setCell ⟨w.heap.size,3,none⟩ (.int .i64 A)).setCell ⟨w.heap.size,4,none⟩ (.slice none 0 0)=wz at q hf ⊢;obtain ⟨q0,q1,q2,q3,q4⟩:=q;refine bodyPost_ret (v:=.agg #[.int .i64 28,.string ⟨#[]⟩,.int .i64 M,.int .i64 A,.slice none 0 0]) (by simp [results,Tryz.results50,go_sem,q0,q1,q2,q3,q4]) rfl ?_;rw [Ad.out];have hpg:=Aa.out;exact ⟨_,rfl,zff,(Ae.out.2.1.but hpg.1 hpg.2 hf.2).drew 1,hf.1.trans (Sole.drew p _ 1)⟩)
  · clear hb;have z0x:∀ v x,((wa.setCell ⟨p,1,none⟩ v).alloc x).cell? ⟨w.heap.size,0,none⟩=some (.int .i64 0):=fun v x=>(zaa (zbj HK.out Aa.out.1 v x 0).1).1.1;have y0x:∀ v x,((wa.setCell ⟨p,1,none⟩ v).alloc x).frozen? ⟨w.heap.size,0,none⟩=false:=fun v x=>(zaa (zbj HK.out Aa.out.1 v x 0).1).2.1;have z1x:∀ v x,((wa.setCell ⟨p,1,none⟩ v).alloc x).cell? ⟨w.heap.size,1,none⟩=some (.string ⟨#[]⟩):=fun v x=>(zaa (zbj HK.out Aa.out.1 v x 0).1).1.2.1;have y1x:∀ v x,((wa.setCell ⟨p,1,none⟩ v).alloc x).frozen? ⟨w.heap.size,1,none⟩=false:=fun v x=>(zaa (zbj HK.out Aa.out.1 v x 0).1).2.2.1;have z2x:∀ v x,((wa.setCell ⟨p,1,none⟩ v).alloc x).cell? ⟨w.heap.size,2,none⟩=some (.int .i64 0):=fun v x=>(zaa (zbj HK.out Aa.out.1 v x 0).1).1.2.2.1;have y2x:∀ v x,((wa.setCell ⟨p,1,none⟩ v).alloc x).frozen? ⟨w.heap.size,2,none⟩=false:=fun v x=>(zaa (zbj HK.out Aa.out.1 v x 0).1).2.2.2.1;have z3x:∀ v x,((wa.setCell ⟨p,1,none⟩ v).alloc x).cell? ⟨w.heap.size,3,none⟩=some (.int .i64 0):=fun v x=>(zaa (zbj HK.out Aa.out.1 v x 0).1).1.2.2.2.1;have y3x:∀ v x,((wa.setCell ⟨p,1,none⟩ v).alloc x).frozen? ⟨w.heap.size,3,none⟩=false:=fun v x=>(zaa (zbj HK.out Aa.out.1 v x 0).1).2.2.2.2.1;have z4x:∀ v x,((wa.setCell ⟨p,1,none⟩ v).alloc x).cell? ⟨w.heap.size,4,none⟩=some (.slice none 0 0):=fun v x=>(zaa (zbj HK.out Aa.out.1 v x 0).1).1.2.2.2.2;have y4x:∀ v x,((wa.setCell ⟨p,1,none⟩ v).alloc x).frozen? ⟨w.heap.size,4,none⟩=false:=fun v x=>(zaa (zbj HK.out Aa.out.1 v x 0).1).2.2.2.2.2;(go_enter Tryz.func50,Tryz.ntmps50);(go_wp2_with fail);clear hwa;go_region;all_goals (
     go_wp2;obtain ⟨w9,hw9⟩:∃ x,(wa.setCell ⟨p,1,none⟩ (.int .i64 ((i:Int)+1))).alloc (.cells #[.int .i64 3,.string ⟨S.toArray⟩,.int .i64 M,.int .i64 A] 41)=x:=⟨_,rfl⟩;rw [hw9];have Ae:Hid (Kep w w9 w.heap.size (kidO 0 [] 0 0 (.slice none 0 0))∧DS w9 p g cap ts d s.adv∧Sole p w w9):=by
      show _∧_;rw [<- hw9];exact ⟨zbj HK.out Aa.out.1 _ _ 0,HX.out _ 0⟩
     obtain ⟨⟨z0,z1,z2,z3,z4⟩,⟨y0,y1,y2,y3,y4⟩⟩:=zaa Ae.out.1.1;have q:=res5 w9 w.heap.size (.int .i64 28) (.string ⟨#[]⟩) (.int .i64 M) (.int .i64 A) (.slice none 0 0) z0 z1 z2 z3 z4;have hf:=fin5 (r:=w.heap.size) (w9:=w9) (k:=28) (n:=[]) (m:=M) (a:=A) (sl:=.slice none 0 0) (Nat.le_refl _) Ae.out.2.2 _ rfl;generalize ((((w9.setCell ⟨w.heap.size,0,none⟩ (.int .i64 28)).setCell ⟨w.heap.size,1,none⟩ (.string ⟨#[]⟩)).setCell ⟨w.heap.size,2,none⟩ (.int .i64 M)).setCell ⟨w.heap.size,3,none⟩ (.int .i64 A)).setCell ⟨w.heap.size,4,none⟩ (.slice none 0 0)=wz at q hf ⊢;obtain ⟨q0,q1,q2,q3,q4⟩:=q;refine bodyPost_ret (v:=.agg #[.int .i64 28,.string ⟨#[]⟩,.int .i64 M,.int .i64 A,.slice none 0 0]) (by simp [results,Tryz.results50,go_sem,q0,q1,q2,q3,q4]) rfl ?_;rw [Ad.out];have hpg:=Aa.out;exact ⟨_,rfl,zff,(Ae.out.2.1.but hpg.1 hpg.2 hf.2).drew 1,hf.1.trans (Sole.drew p _ 1)⟩)
theorem zam {B:Nat} {w:World} {t:Tree} {v:Value} (h:treeIs B t w v):∃ k n m a ks o l c,t=.node k n m a ks∧v=kidV k n m a (.slice o l c):=by
 obtain ⟨k,n,m,a,ks⟩:=t;obtain ⟨sl,rfl,hl⟩:=treeAt_node.1 h;obtain ⟨o,l,c,rfl⟩:=hl.shape;exact ⟨k,n,m,a,ks,o,l,c,rfl,rfl⟩
theorem zks {B B' : Nat} {w:World} {t:Tree} {v:Value} (h:treeIs B t w v) (hB:B'<=B):treeIs B' t w v:=TreeAt.weaken h (fun _ hb=>Nat.le_trans hB hb)
theorem bld013 (k a:Int) (s:ByteArray) (w:World):(Instr.build 29 #[(0,.int .i64 k),(1,.string s),(3,.int .i64 a)]).run Tryz.prog w=.ok (.agg #[.int .i64 k,.string s,.int .i64 0,.int .i64 a,.slice none 0 0]) w:=by kernel_rfl
theorem zah (w:World):Below w.heap.size w w.drew:=zad (Below.refl _ _) 1
theorem zck (p g cap:Nat) (ts:List Tok) (hE:Ends ts) (d:Int) (s:RS) (w:World) (h:DS w p g cap ts d s):
 Calls Tryz.prog 122 #[.pointer (some ⟨p,0,none⟩)] w (zdh p g cap ts d (treeIs w.heap.size) (zao s) w):=by
 have Ab:Hid (p<w.heap.size∧g<w.heap.size):=⟨h.plt,h.glt⟩;obtain ⟨R,hR⟩:∃ R,zao s=R:=⟨_,rfl⟩;rw [hR];have HR:=hid (hR.symm);obtain ⟨wa,hwa⟩:∃ x,w.alloc (.cells #[.int .i64 0,.string ⟨#[]⟩,.int .i64 0,.int .i64 0,.slice none 0 0] 29)=x:=⟨_,rfl⟩;have HB:Hid (Below w.heap.size w wa):=hidB hwa;have HK:Hid (Kep w wa w.heap.size (kidO 0 [] 0 0 (.slice none 0 0))):=by show Kep _ _ _ _;rw [<- hwa];exact Kep.new (Nat.le_refl _) _
 have HD:=hid (h.below HB.out);clear h hR;have HS:Hid (Sole p w wa):=Sole.of_below HB.out;obtain ⟨i,hi,h1,hh,hs⟩:=HD.out.at_;have An:Hid (DP wa p g cap ts i d s.e s.pl∧s.hd=ts[i]∧s.ts=ts.drop i):=⟨h1,hh,hs⟩;have Ag:Hid ((i:Int)<=16001):=by show _<=_;have:=h1.ln;omega
 have hl:=h1.look hi;obtain ⟨E0,hE0⟩:∃ x,s.e=x:=⟨_,rfl⟩;obtain ⟨K,hK⟩:∃ x,ts[i].kind=x:=⟨_,rfl⟩;obtain ⟨M,hM⟩:∃ x,ts[i].num=x:=⟨_,rfl⟩;obtain ⟨A,hA⟩:∃ x,ts[i].at_=x:=⟨_,rfl⟩;obtain ⟨S,hS⟩:∃ x,ts[i].text=x:=⟨_,rfl⟩;rw [hE0,hK,hM,hA,hS] at hl;have HF:Hid (s.e=E0∧s.hd.kind=K∧s.hd.num=M∧s.hd.at_=A∧s.hd.text=S):=⟨hE0,by rw [hh];exact hK,by rw [hh];exact hM,by rw [hh];exact hA,by rw [hh];exact hS⟩;clear hE0 hK hM hA hS hh hs h1;obtain ⟨hp,hg,hi',c0,c1,c3,t0,t1,t2,t3,f1⟩:=hl;have c1x:∀ x,(wa.alloc x).cell? ⟨p,1,none⟩=some (.int .i64 i):=fun x=>by rw [World.cell?_alloc_lt _ _ _ hp];exact c1
 have c3x:∀ x,(wa.alloc x).cell? ⟨p,3,none⟩=some (.int .i64 E0):=fun x=>by rw [World.cell?_alloc_lt _ _ _ hp];exact c3
 have f1x:∀ x,(wa.alloc x).frozen? ⟨p,1,none⟩=false:=fun x=>by rw [World.frozen?_alloc_old _ _ _ (Nat.ne_of_lt hp)];exact f1
 have Ao:Hid (∀ x k,Below wa.heap.size wa ((wa.alloc x).drewN k)):=fun x k=>zad (zab wa x) k;have hne:¬ p=wa.heap.size:=by omega
 have hne2:¬ wa.heap.size=p:=by omega
 have him:=Ag.out;have qb:=bld013;by_cases hk:K=1
 case neg =>
  have hk2:(K==1)=false:=by simp [hk]
  have Ac:Hid (R=zaq false s):=by
   show _=_;rw [HR.out];unfold zao;rw [HF.out.2.1,hk2];rfl
  go_enter Tryz.func122,Tryz.ntmps122
  go_wp2_with fail
  clear hwa;go_region;all_goals (
   go_wp2_with fail
   have Ah:=hid (Kep.lt HK.out);have Ap:=hid (Sole.size HS.out);refine (zch p g cap ts hE d false s _ (HD.out.below (zah _))).mono ?_;rintro e w1 ⟨v,rfl,hv,hD,hS⟩;have Ae:=hid ((Sole.of_below (p:=p) (zah _)).trans hS);have Ai:=hid hD;have Aj:=hid (HS.out.trans Ae.out);have Ad:=hid (HK.out.sole Ab.out.1 Ae.out);obtain ⟨k1,n1,m1,a1,ks1,o1,l1,c1,he1,rfl⟩:=zam hv;have Aq:=hid he1;clear he1;have Ak:=hid (zks hv (Below.size (zah _)));clear hv hD hS;obtain ⟨⟨z0,z1,z2,z3,z4⟩,⟨y0,y1,y2,y3,y4⟩⟩:=zaa Ad.out.1;unfold kidV;go_wp2;refine ret5 z0 z1 z2 z3 z4 rfl (fun u q0 q1 q2 q3 q4=>by simp [results,Tryz.results122,go_sem,q0,q1,q2,q3,q4]) (Nat.le_refl _) Aj.out ?_;intro wz hf;rw [Ac.out];have hpg:=Ab.out;have hbs:=Ah.out;exact ⟨_,rfl,Ak.out.but (by omega) (by omega) (fun b _ hb=>hf.2 b hb),Ai.out.but hpg.1 hpg.2 hf.2,hf.1⟩)
 have Ac:Hid (R=(.node 27 (zav s).1.1 0 (zav s).1.2 [],(zav s).2)):=by
  show _=_;rw [HR.out];unfold zao;rw [HF.out.2.1,hk];rfl
 subst hk;go_enter Tryz.func122,Tryz.ntmps122
 go_wp2_with fail
 clear hwa;go_region;all_goals (
  go_wp2_with fail
  refine (zco p g cap ts hE d s _ (HD.out.below (zah _))).mono ?_;rintro e w2 ⟨v,rfl,rfl,hD,hS⟩;have Af:=hid ((Sole.of_below (p:=p) (zah _)).trans hS);have Al:=hid hD;have Am:=hid (HS.out.trans Af.out);have Aa:=hid (HK.out.sole Ab.out.1 Af.out);clear hD hS;obtain ⟨nm,hnm⟩:∃ x,(zav s).1.1=x:=⟨_,rfl⟩;obtain ⟨na,hna⟩:∃ x,(zav s).1.2=x:=⟨_,rfl⟩;rw [hnm,hna] at Ac;rw [hnm,hna];clear hnm hna;obtain ⟨⟨z0,z1,z2,z3,z4⟩,⟨y0,y1,y2,y3,y4⟩⟩:=zaa Aa.out.1;go_wp2;refine ret5 z0 z1 z2 z3 z4 rfl (fun u q0 q1 q2 q3 q4=>by simp [results,Tryz.results122,go_sem,q0,q1,q2,q3,q4]) Aa.out.2 Am.out ?_;intro wz hf;rw [Ac.out];have hr2:=Aa.out.2;have hpg:=Ab.out;exact ⟨_,rfl,zff,Al.out.but (by omega) (by omega) hf.2,hf.1⟩)
theorem base_any (x:List UInt8) (w:World):Calls Tryz.prog 153 #[.string ⟨x.toArray⟩] w fun e w'=>e=.returned (.int .i64 (baseD x))∧w'=w:=by
 obtain ⟨s,hs⟩:∃ y:ByteArray,(⟨x.toArray⟩:ByteArray)=y:=⟨_,rfl⟩;have hx:s.toList=x:=by rw [<- hs,ByteArray.toList_mk]
 rw [hs];unfold baseD wInt ze8 zml zi7 wBool;rw [<- hx];clear hx hs;cases h0:(s.toList==[105,110,116])
 case true =>
  go_enter Tryz.func153,Tryz.ntmps153
  go_wp2;go_ret;exact ⟨rfl,rfl⟩
 cases h1:(s.toList==[104,121,112,101,114])
 case true =>
  go_enter Tryz.func153,Tryz.ntmps153
  go_wp2;go_ret;exact ⟨rfl,rfl⟩
 cases h2:(s.toList==[102,108,111,97,116])
 case true =>
  go_enter Tryz.func153,Tryz.ntmps153
  go_wp2;go_ret;exact ⟨rfl,rfl⟩
 cases h3:(s.toList==[100,111,117,98,108,101])
 case true =>
  go_enter Tryz.func153,Tryz.ntmps153
  go_wp2;go_ret;exact ⟨rfl,rfl⟩
 cases h4:(s.toList==[98,111,111,108])
 case true =>
  go_enter Tryz.func153,Tryz.ntmps153
  go_wp2;go_ret;exact ⟨rfl,rfl⟩
 go_enter Tryz.func153,Tryz.ntmps153
 go_wp2;go_ret;exact ⟨rfl,rfl⟩
theorem bodied_core (p g cap n i:Nat) (e k m:Int) (s:ByteArray) (a:Nat) (w:World) (hl:Look w p g cap n i e k m s a):
 Calls Tryz.prog 44 #[.pointer (some ⟨p,0,none⟩)] w fun e w'=>e=.returned (.int .i64 (if k==2 then zhc s.toList else 0))∧Below w.heap.size w w':=by
 obtain ⟨hp,hg,hi,c0,c1,c3,t0,t1,t2,t3,_⟩:=hl;have HB:Hid (∀ x k,Below w.heap.size w ((w.alloc x).drewN k)):=fun x k=>zad (zab w x) k;by_cases hk:k=2
 case neg =>
  rw [show (k==2)=false by simp [hk]];go_enter Tryz.func44,Tryz.ntmps44
  go_wp2_with fail
  go_region;all_goals (
   go_wp2;go_ret;exact ⟨rfl,HB.out _ 1⟩)
 subst hk;unfold zhc zd4 zbk zes;cases h0:(s.toList==[101,110,117,109])
 case true =>
  go_enter Tryz.func44,Tryz.ntmps44
  go_wp2_with fail
  go_region;all_goals (
   go_wp2;go_ret;exact ⟨rfl,HB.out _ 1⟩)
 cases h1:(s.toList==[115,116,114,117,99,116])
 case true =>
  go_enter Tryz.func44,Tryz.ntmps44
  go_wp2_with fail
  go_region;all_goals (
   go_wp2;go_ret;exact ⟨rfl,HB.out _ 1⟩)
 cases h2:(s.toList==[117,110,105,111,110])
 case true =>
  go_enter Tryz.func44,Tryz.ntmps44
  go_wp2_with fail
  go_region;all_goals (
   go_wp2;go_ret;exact ⟨rfl,HB.out _ 1⟩)
 go_enter Tryz.func44,Tryz.ntmps44
 go_wp2_with fail
 go_region;all_goals (
  go_wp2;go_ret;exact ⟨rfl,HB.out _ 1⟩)
theorem zer (p g cap:Nat) (ts:List Tok) (d:Int) (s:RS) (w:World) (h:DS w p g cap ts d s):Calls Tryz.prog 44 #[.pointer (some ⟨p,0,none⟩)] w fun e w'=>e=.returned (.int .i64 s.bodied)∧Below w.heap.size w w':=by
 obtain ⟨i,hi,h1,hh,hs⟩:=h.at_;unfold RS.bodied;rw [hh];have h2:=bodied_core p g cap ts.length i s.e _ _ _ _ w (h1.look hi);rw [ByteArray.toList_mk] at h2;exact h2
theorem begins_core (p g cap n i:Nat) (e k m:Int) (s:ByteArray) (a:Nat) (z:Int) (w:World) (hl:Look w p g cap n i e k m s a) (HZ:Hid (∀ w,Calls Tryz.prog 153 #[.string s] w fun e w'=>e=.returned (.int .i64 z)∧w'=w)):
 Calls Tryz.prog 127 #[.pointer (some ⟨p,0,none⟩)] w fun e w'=>e=.returned (.bool (k==1||(k==2&&(s.toList==[117,110,115,105,103,110,101,100]||z != 0))))∧Below w.heap.size w w':=by
 obtain ⟨hp,hg,hi,c0,c1,c3,t0,t1,t2,t3,_⟩:=hl;have HB:Hid (∀ x k,Below w.heap.size w ((w.alloc x).drewN k)):=fun x k=>zad (zab w x) k;by_cases h1:k=1
 case pos =>
  subst h1;go_enter Tryz.func127,Tryz.ntmps127
  go_wp2_with fail
  go_region;all_goals (
   go_wp2;go_ret;exact ⟨rfl,HB.out _ 1⟩)
 have h1b:(k==1)=false:=by simp [h1]
 rw [h1b];by_cases h2:k=2
 case neg =>
  have h2b:(k==2)=false:=by simp [h2]
  rw [h2b];go_enter Tryz.func127,Tryz.ntmps127
  go_wp2_with fail
  go_region;all_goals (
   go_wp2;go_ret;exact ⟨rfl,HB.out _ 1⟩)
 subst h2;clear h1 h1b;cases h3:(s.toList==[117,110,115,105,103,110,101,100])
 case true =>
  go_enter Tryz.func127,Tryz.ntmps127
  go_wp2_with fail
  go_region;all_goals (
   go_wp2;go_ret;exact ⟨rfl,HB.out _ 1⟩)
 by_cases hz:z=0
 · subst hz;go_enter Tryz.func127,Tryz.ntmps127
   go_wp2_with fail
   go_region;all_goals (
    (go_wp2_with fail);refine (HZ.out _).mono ?_;rintro e w2 ⟨rfl,hw2⟩;rw [hw2];clear hw2;go_wp2;go_ret;exact ⟨rfl,HB.out _ 1⟩)
 · have hzb:(z != 0)=true:=by simp [hz]
   rw [hzb];go_enter Tryz.func127,Tryz.ntmps127
   go_wp2_with fail
   go_region;all_goals (
    (go_wp2_with fail);refine (HZ.out _).mono ?_;rintro e w2 ⟨rfl,hw2⟩;rw [hw2];clear hw2;go_wp2;go_ret;exact ⟨rfl,HB.out _ 1⟩)
theorem ze4 (p g cap:Nat) (ts:List Tok) (d:Int) (s:RS) (w:World) (h:DS w p g cap ts d s):Calls Tryz.prog 127 #[.pointer (some ⟨p,0,none⟩)] w fun e w'=>e=.returned (.bool s.begins)∧Below w.heap.size w w':=by
 obtain ⟨i,hi,h1,hh,hs⟩:=h.at_;unfold RS.begins;rw [hh];have h2:=begins_core p g cap ts.length i s.e _ _ _ _ (baseD ts[i].text) w (h1.look hi) (fun w=>base_any _ w);rw [ByteArray.toList_mk] at h2;exact h2
theorem zgd (w:World) (x y:Obj) (k:Nat):(((w.alloc x).alloc y).drewN k).heap[w.heap.size]?=some x∧(((w.alloc x).alloc y).drewN k).heap[w.heap.size+1]?=some y:=by
 constructor
 · show ((w.alloc x).alloc y).heap[w.heap.size]?=some x;exact za3 (heap_alloc_new w x)
 · show ((w.alloc x).alloc y).heap[w.heap.size+1]?=some y;have h:=heap_alloc_new (w.alloc x) y;rw [show (w.alloc x).heap.size=w.heap.size+1 by simp] at h;exact h
theorem zcv (w:World) (x y:Obj) (k:Nat):Below w.heap.size w (((w.alloc x).alloc y).drewN k):=zad ((zab w x).alloc (by simp) y) k
theorem DS.set {w:World} {p g cap:Nat} {ts:List Tok} {d:Int} {s:RS} {r:Nat} (h:DS w p g cap ts d s) (hp:p<r) (hg:g<r) (o:Nat) (v:Value):DS (w.setCell ⟨r,o,none⟩ v) p g cap ts d s:=h.but hp hg (fun _ hb=>Below.heap_setCell _ _ _ _ hb)
theorem Sole.set {p:Nat} {w cur:World} {r:Nat} (h:Sole p w cur) (hr:w.heap.size<=r) (o:Nat) (v:Value):Sole p w (cur.setCell ⟨r,o,none⟩ v):=h.below_after ((Below.refl _ _).setCell hr _)
theorem zcj {w cur:World} {r b:Nat} {o:Obj} (h:Kep w cur b o) (hr:b≠r) (j:Nat) (v:Value):Kep w (cur.setCell ⟨r,j,none⟩ v) b o:=⟨(Below.heap_setCell _ _ _ _ hr).trans h.1,h.2⟩
theorem zn6 (p g cap n i:Nat) (e k m:Int) (S:List UInt8) (sb:ByteArray) (hsb:sb=⟨S.toArray⟩) (a:Nat) (z:Int) (b:Bool) (w:World) (hl:Look w p g cap n i e k m sb a)
 (HZ:Hid (∀ w1,Below w.heap.size w w1->Calls Tryz.prog 44 #[.pointer (some ⟨p,0,none⟩)] w1 fun e w'=>e=.returned (.int .i64 z)∧Below w1.heap.size w1 w')) (HQ:Hid (∀ w1,Below w.heap.size w w1->Calls Tryz.prog 127 #[.pointer (some ⟨p,0,none⟩)] w1 fun e w'=>e=.returned (.bool b)∧Below w1.heap.size w1 w')):
 Calls Tryz.prog 123 #[.pointer (some ⟨p,0,none⟩)] w fun e w'=>e=.returned (.bool (z != 0||(b||(k==2&&(sb.toList==[118,111,105,100]||(sb.toList==[111,112,97,113,117,101]||sb.toList==[115,116,114,105,110,103]))))))∧Below w.heap.size w w':=by
 obtain ⟨hp,hg,hi,c0,c1,c3,t0,t1,t2,t3,_⟩:=hl;have Ac:=hid (hsb);clear hsb;have HB:Hid (∀ x k,Below w.heap.size w ((w.alloc x).drewN k)):=fun x k=>zad (zab w x) k;by_cases hz:z=0
 case neg =>
  have hzb:(z != 0)=true:=by simp [hz]
  rw [hzb];go_enter Tryz.func123,Tryz.ntmps123
  go_wp2_with fail
  go_region;all_goals (
   go_wp2_with fail
   refine (HZ.out _ (HB.out _ 1)).mono ?_;rintro e w1 ⟨rfl,hB1⟩;have Aa:Hid (w1.heap[w.heap.size]?=some (.cells #[.int .i64 k,.string sb,.int .i64 m,.int .i64 a] 41 (0,0))∧Below w.heap.size w w1):=⟨zaj hB1 (heap_alloc_new w _),(HB.out _ 1).trans (hB1.mono (HB.out _ 1).size)⟩;clear hB1;go_wp2_with fail
   refine (HQ.out _ Aa.out.2).mono ?_;rintro e w2 ⟨rfl,hB2⟩;have Ab:Hid (w2.heap[w.heap.size]?=some (.cells #[.int .i64 k,.string sb,.int .i64 m,.int .i64 a] 41 (0,0))∧Below w.heap.size w w2):=⟨zaj hB2 Aa.out.1,Aa.out.2.trans (hB2.mono Aa.out.2.size)⟩;clear hB2;have x0:w2.cell? ⟨w.heap.size,0,none⟩=some (.int .i64 k):=by simp [World.cell?,Ab.out.1]
   have x1:w2.cell? ⟨w.heap.size,1,none⟩=some (.string sb):=by simp [World.cell?,Ab.out.1]
   go_wp2;go_ret;exact ⟨rfl,Ab.out.2⟩)
 subst hz;cases b
 case true =>
  go_enter Tryz.func123,Tryz.ntmps123
  go_wp2_with fail
  go_region;all_goals (
   go_wp2_with fail
   refine (HZ.out _ (HB.out _ 1)).mono ?_;rintro e w1 ⟨rfl,hB1⟩;have Aa:Hid (w1.heap[w.heap.size]?=some (.cells #[.int .i64 k,.string sb,.int .i64 m,.int .i64 a] 41 (0,0))∧Below w.heap.size w w1):=⟨zaj hB1 (heap_alloc_new w _),(HB.out _ 1).trans (hB1.mono (HB.out _ 1).size)⟩;clear hB1;go_wp2_with fail
   refine (HQ.out _ Aa.out.2).mono ?_;rintro e w2 ⟨rfl,hB2⟩;have Ab:Hid (w2.heap[w.heap.size]?=some (.cells #[.int .i64 k,.string sb,.int .i64 m,.int .i64 a] 41 (0,0))∧Below w.heap.size w w2):=⟨zaj hB2 Aa.out.1,Aa.out.2.trans (hB2.mono Aa.out.2.size)⟩;clear hB2;have x0:w2.cell? ⟨w.heap.size,0,none⟩=some (.int .i64 k):=by simp [World.cell?,Ab.out.1]
   have x1:w2.cell? ⟨w.heap.size,1,none⟩=some (.string sb):=by simp [World.cell?,Ab.out.1]
   go_wp2;go_ret;exact ⟨rfl,Ab.out.2⟩)
 by_cases hk:k=2
 case neg =>
  have hkb:(k==2)=false:=by simp [hk]
  rw [hkb];go_enter Tryz.func123,Tryz.ntmps123
  go_wp2_with fail
  go_region;all_goals (
   go_wp2_with fail
   refine (HZ.out _ (HB.out _ 1)).mono ?_;rintro e w1 ⟨rfl,hB1⟩;have Aa:Hid (w1.heap[w.heap.size]?=some (.cells #[.int .i64 k,.string sb,.int .i64 m,.int .i64 a] 41 (0,0))∧Below w.heap.size w w1):=⟨zaj hB1 (heap_alloc_new w _),(HB.out _ 1).trans (hB1.mono (HB.out _ 1).size)⟩;clear hB1;go_wp2_with fail
   refine (HQ.out _ Aa.out.2).mono ?_;rintro e w2 ⟨rfl,hB2⟩;have Ab:Hid (w2.heap[w.heap.size]?=some (.cells #[.int .i64 k,.string sb,.int .i64 m,.int .i64 a] 41 (0,0))∧Below w.heap.size w w2):=⟨zaj hB2 Aa.out.1,Aa.out.2.trans (hB2.mono Aa.out.2.size)⟩;clear hB2;have x0:w2.cell? ⟨w.heap.size,0,none⟩=some (.int .i64 k):=by simp [World.cell?,Ab.out.1]
   have x1:w2.cell? ⟨w.heap.size,1,none⟩=some (.string sb):=by simp [World.cell?,Ab.out.1]
   go_wp2;go_ret;exact ⟨rfl,Ab.out.2⟩)
 subst hk;cases h0:(sb.toList==[118,111,105,100])
 case true =>
  go_enter Tryz.func123,Tryz.ntmps123
  go_wp2_with fail
  go_region;all_goals (
   go_wp2_with fail
   refine (HZ.out _ (HB.out _ 1)).mono ?_;rintro e w1 ⟨rfl,hB1⟩;have Aa:Hid (w1.heap[w.heap.size]?=some (.cells #[.int .i64 2,.string sb,.int .i64 m,.int .i64 a] 41 (0,0))∧Below w.heap.size w w1):=⟨zaj hB1 (heap_alloc_new w _),(HB.out _ 1).trans (hB1.mono (HB.out _ 1).size)⟩;clear hB1;go_wp2_with fail
   refine (HQ.out _ Aa.out.2).mono ?_;rintro e w2 ⟨rfl,hB2⟩;have Ab:Hid (w2.heap[w.heap.size]?=some (.cells #[.int .i64 2,.string sb,.int .i64 m,.int .i64 a] 41 (0,0))∧Below w.heap.size w w2):=⟨zaj hB2 Aa.out.1,Aa.out.2.trans (hB2.mono Aa.out.2.size)⟩;clear hB2;have x0:w2.cell? ⟨w.heap.size,0,none⟩=some (.int .i64 2):=by simp [World.cell?,Ab.out.1]
   have x1:w2.cell? ⟨w.heap.size,1,none⟩=some (.string sb):=by simp [World.cell?,Ab.out.1]
   go_wp2;go_ret;exact ⟨rfl,Ab.out.2⟩)
 cases h1:(sb.toList==[111,112,97,113,117,101])
 case true =>
  go_enter Tryz.func123,Tryz.ntmps123
  go_wp2_with fail
  go_region;all_goals (
   go_wp2_with fail
   refine (HZ.out _ (HB.out _ 1)).mono ?_;rintro e w1 ⟨rfl,hB1⟩;have Aa:Hid (w1.heap[w.heap.size]?=some (.cells #[.int .i64 2,.string sb,.int .i64 m,.int .i64 a] 41 (0,0))∧Below w.heap.size w w1):=⟨zaj hB1 (heap_alloc_new w _),(HB.out _ 1).trans (hB1.mono (HB.out _ 1).size)⟩;clear hB1;go_wp2_with fail
   refine (HQ.out _ Aa.out.2).mono ?_;rintro e w2 ⟨rfl,hB2⟩;have Ab:Hid (w2.heap[w.heap.size]?=some (.cells #[.int .i64 2,.string sb,.int .i64 m,.int .i64 a] 41 (0,0))∧Below w.heap.size w w2):=⟨zaj hB2 Aa.out.1,Aa.out.2.trans (hB2.mono Aa.out.2.size)⟩;clear hB2;have x0:w2.cell? ⟨w.heap.size,0,none⟩=some (.int .i64 2):=by simp [World.cell?,Ab.out.1]
   have x1:w2.cell? ⟨w.heap.size,1,none⟩=some (.string sb):=by simp [World.cell?,Ab.out.1]
   go_wp2;go_ret;exact ⟨rfl,Ab.out.2⟩)
 cases h2:(sb.toList==[115,116,114,105,110,103])
 case true =>
  go_enter Tryz.func123,Tryz.ntmps123
  go_wp2_with fail
  go_region;all_goals (
   go_wp2_with fail
   refine (HZ.out _ (HB.out _ 1)).mono ?_;rintro e w1 ⟨rfl,hB1⟩;have Aa:Hid (w1.heap[w.heap.size]?=some (.cells #[.int .i64 2,.string sb,.int .i64 m,.int .i64 a] 41 (0,0))∧Below w.heap.size w w1):=⟨zaj hB1 (heap_alloc_new w _),(HB.out _ 1).trans (hB1.mono (HB.out _ 1).size)⟩;clear hB1;go_wp2_with fail
   refine (HQ.out _ Aa.out.2).mono ?_;rintro e w2 ⟨rfl,hB2⟩;have Ab:Hid (w2.heap[w.heap.size]?=some (.cells #[.int .i64 2,.string sb,.int .i64 m,.int .i64 a] 41 (0,0))∧Below w.heap.size w w2):=⟨zaj hB2 Aa.out.1,Aa.out.2.trans (hB2.mono Aa.out.2.size)⟩;clear hB2;have x0:w2.cell? ⟨w.heap.size,0,none⟩=some (.int .i64 2):=by simp [World.cell?,Ab.out.1]
   have x1:w2.cell? ⟨w.heap.size,1,none⟩=some (.string sb):=by simp [World.cell?,Ab.out.1]
   go_wp2;go_ret;exact ⟨rfl,Ab.out.2⟩)
 go_enter Tryz.func123,Tryz.ntmps123
 go_wp2_with fail
 go_region;all_goals (
  go_wp2_with fail
  refine (HZ.out _ (HB.out _ 1)).mono ?_;rintro e w1 ⟨rfl,hB1⟩;have Aa:Hid (w1.heap[w.heap.size]?=some (.cells #[.int .i64 2,.string sb,.int .i64 m,.int .i64 a] 41 (0,0))∧Below w.heap.size w w1):=⟨zaj hB1 (heap_alloc_new w _),(HB.out _ 1).trans (hB1.mono (HB.out _ 1).size)⟩;clear hB1;go_wp2_with fail
  refine (HQ.out _ Aa.out.2).mono ?_;rintro e w2 ⟨rfl,hB2⟩;have Ab:Hid (w2.heap[w.heap.size]?=some (.cells #[.int .i64 2,.string sb,.int .i64 m,.int .i64 a] 41 (0,0))∧Below w.heap.size w w2):=⟨zaj hB2 Aa.out.1,Aa.out.2.trans (hB2.mono Aa.out.2.size)⟩;clear hB2;have x0:w2.cell? ⟨w.heap.size,0,none⟩=some (.int .i64 2):=by simp [World.cell?,Ab.out.1]
  have x1:w2.cell? ⟨w.heap.size,1,none⟩=some (.string sb):=by simp [World.cell?,Ab.out.1]
  go_wp2;go_ret;exact ⟨rfl,Ab.out.2⟩)
theorem declares_any (p g cap:Nat) (ts:List Tok) (d:Int) (s:RS) (w:World) (h:DS w p g cap ts d s):Calls Tryz.prog 123 #[.pointer (some ⟨p,0,none⟩)] w fun e w'=>e=.returned (.bool s.declares)∧Below w.heap.size w w':=by
 obtain ⟨i,hi,h1,hh,hs⟩:=h.at_;unfold RS.declares;have h2:=zn6 p g cap ts.length i s.e _ _ ts[i].text _ rfl _ s.bodied s.begins w (h1.look hi) (fun w1 hB=>zer p g cap ts d s w1 (h.below hB)) (fun w1 hB=>ze4 p g cap ts d s w1 (h.below hB));rw [ByteArray.toList_mk] at h2;rw [hh];exact h2
end Go.Proofs.YtighggeokiahfaaGreatDoor.Dm
