import Derived.Test.YtighggeokiahfaaGreatDoorNear02
import Derived.Deep.RegionHeldLaw
import Derived.Deep.RegionLaw
namespace Go.Proofs.YtighggeokiahfaaGreatDoor
open Go.RowKit
def kidO (k:Int) (n:List UInt8) (m:Int) (a:Nat) (sl:Value):Obj:=.cells #[.int .i64 k,.string ⟨n.toArray⟩,.int .i64 m,.int .i64 a,sl] 29 (0,0)
def tokO (t:Tok):Obj:=.cells #[.int .i64 t.kind,.string ⟨t.text.toArray⟩,.int .i64 t.num,.int .i64 t.at_] 41 (0,0)
theorem zaa {w:World} {b:Nat} {k:Int} {n:List UInt8} {m:Int} {a:Nat} {sl:Value} (h:w.heap[b]?=some (kidO k n m a sl)) :
 (w.cell? ⟨b,0,none⟩=some (.int .i64 k)∧w.cell? ⟨b,1,none⟩=some (.string ⟨n.toArray⟩)∧w.cell? ⟨b,2,none⟩=some (.int .i64 m)∧w.cell? ⟨b,3,none⟩=some (.int .i64 a)∧w.cell? ⟨b,4,none⟩=some sl) ∧
 (w.frozen? ⟨b,0,none⟩=false∧w.frozen? ⟨b,1,none⟩=false∧w.frozen? ⟨b,2,none⟩=false∧w.frozen? ⟨b,3,none⟩=false∧w.frozen? ⟨b,4,none⟩=false):=by
 unfold kidO at h
 simp [World.cell?,World.frozen?,h]
theorem zbq {w:World} {b:Nat} {t:Tok} (h:w.heap[b]?=some (tokO t)) :
 w.cell? ⟨b,0,none⟩=some (.int .i64 t.kind)∧w.cell? ⟨b,1,none⟩=some (.string ⟨t.text.toArray⟩)∧w.cell? ⟨b,2,none⟩=some (.int .i64 t.num)∧w.cell? ⟨b,3,none⟩=some (.int .i64 t.at_):=by
 unfold tokO at h
 simp [World.cell?,h]
theorem ze0 {w:World} {b:Nat} {o:Obj} (h:w.heap[b]?=some o):b<w.heap.size:=(Array.getElem?_eq_some_iff.1 h).1
theorem Sole.blk {p:Nat} {w w' : World} (hS:Sole p w w') {b:Nat} {o:Obj} (h:w.heap[b]?=some o) (hb:b≠p):w'.heap[b]?=some o:=(hS.block b (ze0 h) hb).trans h
theorem zao {w w' : World} (hB:Below w.heap.size w w') {b:Nat} {o:Obj} (h:w.heap[b]?=some o):w'.heap[b]?=some o:=(hB.block b (ze0 h)).trans h
theorem za9 {w:World} {x:Obj} {b:Nat} {o:Obj} (h:w.heap[b]?=some o):(w.alloc x).heap[b]?=some o:=(heap_alloc_old w x (ze0 h)).trans h
theorem zai {u:World} {r o:Nat} {cs:Array Value} {t:TypeId} {v:Value} (h:u.heap[r]?=some (.cells cs t (0,0))):(u.setCell ⟨r,o,none⟩ v).heap[r]?=some (.cells (cs.setIfInBounds o v) t (0,0)):=by
 simp [World.setCell,Array.getElem?_modify,h]
/-- a node's block written over -/
theorem zc6 {u:World} {r:Nat} {k0 m0 k m:Int} {n0 n:List UInt8} {a0 a:Nat} {s0 sl:Value} (h:u.heap[r]?=some (kidO k0 n0 m0 a0 s0)) :
 (((((u.setCell ⟨r,0,none⟩ (.int .i64 k)).setCell ⟨r,1,none⟩ (.string ⟨n.toArray⟩)).setCell ⟨r,2,none⟩ (.int .i64 m)).setCell ⟨r,3,none⟩ (.int .i64 a)).setCell ⟨r,4,none⟩ sl).heap[r]?=some (kidO k n m a sl) :=
 zai (zai (zai (zai (zai h))))
theorem zhl {u:World} {r:Nat} {k m:Int} {n:List UInt8} {a:Nat} {s0 sl:Value} (h:u.heap[r]?=some (kidO k n m a s0)):(u.setCell ⟨r,4,none⟩ sl).heap[r]?=some (kidO k n m a sl):=zai h
/-- a tree is laid into the result's block and read back -/
theorem fin5 {p:Nat} {w w9:World} {k m:Int} {n:List UInt8} {a:Nat} {sl:Value} {r:Nat} (hr:w.heap.size<=r) (hS:Sole p w w9) (wz:World)
 (e:((((w9.setCell ⟨r,0,none⟩ (.int .i64 k)).setCell ⟨r,1,none⟩ (.string ⟨n.toArray⟩)).setCell ⟨r,2,none⟩ (.int .i64 m)).setCell ⟨r,3,none⟩ (.int .i64 a)).setCell ⟨r,4,none⟩ sl=wz) :
 Sole p w wz∧(∀ b,b≠r->wz.heap[b]?=w9.heap[b]?):=by
 subst e
 exact ⟨hS.below_after (zas w9 w.heap.size r _ _ _ _ _ hr),zbf w9 r _ _ _ _ _⟩
theorem ret5 {F:Func} {post:Ending->World->Prop} {act:Act} {p:Nat} {w W:World} {r:Nat} {k m:Int} {n:List UInt8} {a:Nat} {sl x0 x1 x2 x3 x4:Value} (h0:W.cell? ⟨r,0,none⟩=some x0) (h1:W.cell? ⟨r,1,none⟩=some x1) (h2:W.cell? ⟨r,2,none⟩=some x2) (h3:W.cell? ⟨r,3,none⟩=some x3) (h4:W.cell? ⟨r,4,none⟩=some x4)
 (hd:act.defers=[]) (hres:∀ u:World,u.cell? ⟨r,0,none⟩=some (.int .i64 k)->u.cell? ⟨r,1,none⟩=some (.string ⟨n.toArray⟩)->u.cell? ⟨r,2,none⟩=some (.int .i64 m)->u.cell? ⟨r,3,none⟩=some (.int .i64 a)->u.cell? ⟨r,4,none⟩=some sl->(results F act.tmps).run Tryz.prog u=.ok (.agg #[.int .i64 k,.string ⟨n.toArray⟩,.int .i64 m,.int .i64 a,sl]) u)
 (hr:w.heap.size<=r) (hS:Sole p w W) (hp:∀ wz,(Sole p w wz∧∀ b,b≠r->wz.heap[b]?=W.heap[b]?)->post (.returned (.agg #[.int .i64 k,.string ⟨n.toArray⟩,.int .i64 m,.int .i64 a,sl])) wz):
 bodyPost Tryz.prog F post .ret act (((((W.setCell ⟨r,0,none⟩ (.int .i64 k)).setCell ⟨r,1,none⟩ (.string ⟨n.toArray⟩)).setCell ⟨r,2,none⟩ (.int .i64 m)).setCell ⟨r,3,none⟩ (.int .i64 a)).setCell ⟨r,4,none⟩ sl):=by
 obtain ⟨q0,q1,q2,q3,q4⟩:=res5 W r (.int .i64 k) (.string ⟨n.toArray⟩) (.int .i64 m) (.int .i64 a) sl h0 h1 h2 h3 h4
 exact bodyPost_ret (hres _ q0 q1 q2 q3 q4) hd (hp _ (fin5 hr hS _ rfl))
theorem PP.sole_but {w9 wz:World} {p g cap:Nat} {ts:List Tok} {i:Nat} {d:Int} {full:Bool} {r:Nat} (h:PP w9 p g cap ts i d full) (hp:p<r) (hg:g<r) (hz:∀ b,b≠r->wz.heap[b]?=w9.heap[b]?):PP wz p g cap ts i d full :=
 h.of_blocks (hz p (by omega)) (hz g (by omega))
/-- a block that this call has made: what stands in it -/
def Kep (w cur:World) (b:Nat) (o:Obj):Prop:=cur.heap[b]?=some o∧w.heap.size<=b
theorem Kep.sole {p:Nat} {w cur nxt:World} {b:Nat} {o:Obj} (h:Kep w cur b o) (hp:p<w.heap.size) (hS:Sole p cur nxt):Kep w nxt b o:=⟨hS.blk h.1 (by have:=h.2;omega),h.2⟩
theorem Kep.below {w cur nxt:World} {b:Nat} {o:Obj} (h:Kep w cur b o) (hB:Below cur.heap.size cur nxt):Kep w nxt b o:=⟨zao hB h.1,h.2⟩
theorem Kep.alloc {w cur:World} {b:Nat} {o:Obj} (h:Kep w cur b o) (x:Obj):Kep w (cur.alloc x) b o:=⟨za9 h.1,h.2⟩
theorem Kep.new {w cur:World} (hs:w.heap.size<=cur.heap.size) (o:Obj):Kep w (cur.alloc o) cur.heap.size o:=⟨heap_alloc_new _ _,hs⟩
theorem Kep.lt {w cur:World} {b:Nat} {o:Obj} (h:Kep w cur b o):b<cur.heap.size:=ze0 h.1
theorem Kep.but {w cur nxt:World} {b:Nat} {o:Obj} (h:Kep w cur b o) {r:Nat} (hz:∀ b,b≠r->nxt.heap[b]?=cur.heap[b]?) (hr:b≠r):Kep w nxt b o:=⟨(hz b hr).trans h.1,h.2⟩
theorem zac (w:World) (x:Obj):Below w.heap.size w (w.alloc x):=(Below.refl _ _).alloc (Nat.le_refl _) _
theorem hidB {w wa:World} {x:Obj} (h:w.alloc x=wa):Hid (Below w.heap.size w wa):=by rw [<- h];exact zac _ _
theorem Sole.alloc {p:Nat} {w cur:World} (h:Sole p w cur) (x:Obj):Sole p w (cur.alloc x):=h.trans (Sole.of_below (zac cur x))
theorem PP.alloc {w:World} {p g cap:Nat} {ts:List Tok} {i:Nat} {d:Int} {full:Bool} (h:PP w p g cap ts i d full) (x:Obj):PP (w.alloc x) p g cap ts i d full:=h.below (zac w x)
theorem zah.alloc {B:Nat} {w:World} {t:Tree} {v:Value} (h:zah B t w v) (x:Obj):zah B t (w.alloc x) v:=h.below (Nat.le_refl _) (zac w x) (Nat.le_refl _)
theorem zbg.alloc {B:Nat} {w:World} {t:List Tree} {v:Value} (h:zbg B t w v) (x:Obj):zbg B t (w.alloc x) v:=h.below (Nat.le_refl _) (zac w x) (Nat.le_refl _)
theorem zae.sole {A:Nat->Prop} {p:Nat} {cur nxt:World} {t:Tree} {v:Value} (h:zae A cur t v) (hA:∀ b,A b->b≠p) (hS:Sole p cur nxt):zae A nxt t v:=zae.frame (fun _ h=>h) (fun b hb hl=>hS.block b hl (hA b hb)) t v h
theorem zae.below {A:Nat->Prop} {cur nxt:World} {t:Tree} {v:Value} (h:zae A cur t v) (hB:Below cur.heap.size cur nxt):zae A nxt t v:=zae.frame (fun _ h=>h) (fun b _ hl=>hB.block b hl) t v h
theorem zab.sole {A:Nat->Prop} {p:Nat} {cur nxt:World} {t:List Tree} {v:Value} (h:zab A cur t v) (hA:∀ b,A b->b≠p) (hS:Sole p cur nxt):zab A nxt t v:=zab.frame (fun _ h=>h) (fun b hb hl=>hS.block b hl (hA b hb)) h
theorem zab.below {A:Nat->Prop} {cur nxt:World} {t:List Tree} {v:Value} (h:zab A cur t v) (hB:Below cur.heap.size cur nxt):zab A nxt t v:=zab.frame (fun _ h=>h) (fun b _ hl=>hB.block b hl) h
theorem zab.but {A:Nat->Prop} {cur nxt:World} {t:List Tree} {v:Value} {r:Nat} (h:zab A cur t v) (hA:∀ b,A b->b≠r) (hz:∀ b,b≠r->nxt.heap[b]?=cur.heap[b]?):zab A nxt t v:=zab.frame (fun _ h=>h) (fun b hb _=>hz b (hA b hb)) h
theorem zab.weaken {A A' : Nat->Prop} {w:World} {t:List Tree} {v:Value} (h:zab A w t v) (hA:∀ b,A b->A' b):zab A' w t v:=zab.frame hA (fun _ _ _=>rfl) h
theorem zae.weaken {A A' : Nat->Prop} {w:World} {t:Tree} {v:Value} (h:zae A w t v) (hA:∀ b,A b->A' b):zae A' w t v:=zae.frame hA (fun _ _ _=>rfl) _ _ h
/-- trees that lie in block q -/
theorem zbh {A:Nat->Prop} {w:World} {q:Nat} {ks:List Tree} {xs:List Value} (h:w.heap[q]?=some (zdw xs)) (hn:ks.length<=1000) (hA:A q) (hr:RowV (fun b=>A b∧b≠q) w ks xs):zab A w ks (.slice (some ⟨q,0,none⟩) ks.length ks.length) :=
 ⟨xs,zgz h (zj9 _ _ hr) hn,(fun g e=>by cases e;exact hA),RowV.frame (fun b hb=>⟨hb.1,fun e=>hb.2 (Option.some.inj e).symm⟩) (fun _ _ _=>rfl) _ _ hr⟩
/-- trees appended to a list that lies elsewhere -/
theorem zbv {A:Nat->Prop} {w w' : World} {ks us:List Tree} {sl v' : Value} {xs ys:List Value} (hb:∀ g,sl.ownBlock=some g->A g) (hr:RowV (fun b=>A b∧sl.ownBlock≠some b) w ks xs)
 (hu:RowV (fun b=>A b∧sl.ownBlock≠some b) w us ys) (ho' : w'.ownsRow 0 29 5 v' (ks.length+us.length) (xs++ys)) (hg:w.grownBy w' sl.ownBlock) (H:Nat) (hH:w.heap.size<=H) (hAH:A H) (hat:v'.ownBlock=sl.ownBlock∨v'.ownBlock=some H):zab A w' (ks++us) v':=by
 refine ⟨xs++ys,by rw [List.length_append];exact ho',?_,?_⟩
 · intro g e
   rcases hat with h|h
   · exact hb g (h ▸ e)
   · rw [h] at e;cases e;exact hAH
 · have hall:=RowV.there _ _ (RowV.append ks us xs ys hr hu)
   refine RowV.frame (fun b hb=>⟨hb.1.1,?_⟩) (fun b hb hl=>hg.block b hl (fun e=>hb.1.2 e.symm)) _ _ hall
   rcases hat with h|h
   · rw [h];exact hb.1.2
   · rw [h];intro e;cases e;exact absurd hb.2 (by omega)
/-- a node that is laid into the result's block -/
theorem za4 {A:Nat->Prop} {B r:Nat} {w9 wz:World} {k m:Int} {n:List UInt8} {a:Nat} {ks:List Tree} {sl:Value} (h:zab A w9 ks sl) (hB:∀ b,A b->B<=b) (hr:∀ b,A b->b≠r) (hz:∀ b,b≠r->wz.heap[b]?=w9.heap[b]?):zah B (.node k n m a ks) wz (kidV k n m a sl) :=
 zaf.2 ⟨_,rfl,zab.frame (fun b hb=>hB b hb) (fun b hb _=>hz b (hr b hb)) h⟩
theorem zb3 {A A' : Nat->Prop} {r:Nat} {w9 wz:World} {k m:Int} {n:List UInt8} {a:Nat} {ks:List Tree} {sl:Value} (h:zab A w9 ks sl) (hB:∀ b,A b->A' b) (hr:∀ b,A b->b≠r) (hz:∀ b,b≠r->wz.heap[b]?=w9.heap[b]?):zae A' wz (.node k n m a ks) (kidV k n m a sl) :=
 zaf.2 ⟨_,rfl,zab.frame (fun b hb=>hB b hb) (fun b hb _=>hz b (hr b hb)) h⟩
/-- of older blocks, or of new ones -/
def Mix (A0:Nat->Prop) (B:Nat):Nat->Prop:=fun b=>A0 b∨B<=b
def mixIs (A0:Nat->Prop) (B:Nat) (t:Tree) (w:World) (v:Value):Prop:=zae (Mix A0 B) w t v
/-- what the world has grown by, if the row lies behind w -/
theorem Sole.grown {p:Nat} {w cur nxt:World} {q:Nat} (h:Sole p w cur) (hg:cur.grownBy nxt (some q)) (hq:w.heap.size<=q):Sole p w nxt :=
 ⟨hg.os.trans h.os,hg.tape.trans h.tape,hg.output.trans h.output,Nat.le_trans h.size hg.size,fun b hb hp=>(hg.block b (Nat.lt_of_lt_of_le hb h.size) (fun e=>by cases e;omega)).trans (h.block b hb hp)⟩
theorem Kep.grown {w cur nxt:World} {b q:Nat} {o:Obj} (h:Kep w cur b o) (hg:cur.grownBy nxt (some q)) (hne:b≠q):Kep w nxt b o:=⟨(hg.block b h.lt (fun e=>hne (Option.some.inj e))).trans h.1,h.2⟩
theorem PP.grown {w nxt:World} {p g cap:Nat} {ts:List Tok} {i:Nat} {d:Int} {full:Bool} (h:PP w p g cap ts i d full) {q:Nat} (hg:w.grownBy nxt (some q)) (hp:p≠q) (hgq:g≠q):PP nxt p g cap ts i d full :=
 h.of_blocks (hg.block p h.plt (fun e=>hp (Option.some.inj e))) (hg.block g h.glt (fun e=>hgq (Option.some.inj e)))
/-- a call of a function by its contract, as one step of a region that draws its order -/
theorem zbw {P:Program} {ops:Array Oper} {o:Oper} {a:Act} {w:World} {K:Act->World->Prop} {Q:Exit->Act->World->Prop} {E:Prop} (hg:o.guard=none) (f:FuncId) (args:Array Value)
 (hrun:(execOp a.eval o).run P w=.ok (.enter f args) w) (post:Ending->World->Prop) (hC:Calls P f args w post) (h:∀ e w',post e w'->∃ v,e=.returned v∧K (a.put o.dst v) w') :
 if Region.wanted o (yielded ops a.tmps)=true then Oper.wp P o a w K Q else E:=by
 have hw:Region.wanted o (yielded ops a.tmps)=true:=by simp [Region.wanted,hg]
 rw [if_pos hw]
 unfold Oper.wp
 rw [hrun,Oper.upon_enter]
 refine hC.mono fun e w' hp=>?_
 obtain ⟨v,rfl,hk⟩:=h e w' hp
 exact hk
theorem zfd:∃ i:TypeInfo,Tryz.prog.info? 29=some i∧i.zero=some (.agg #[.int .i64 0,.string ⟨#[]⟩,.int .i64 0,.int .i64 0,.slice none 0 0])∧i.size=5∧i.bytes=64 :=
 ⟨(Tryz.prog.info? 29).getD default,by kernel_rfl,by kernel_rfl,by kernel_rfl,by kernel_rfl⟩
/-- what stands behind a list's name -/
def listP (n:Tok) (of:Tree) (s:PS):Ans Tree :=
 (s.want [60]).bind fun _ s =>
   if s.sees [62] then (s.want [62]).bind fun _ s=>.ok (named 16 n [of]) s
   else (zb7 s).bind fun v s=>(s.want [62]).bind fun _ s=>.ok (named 16 n [of,v]) s
set_option maxHeartbeats 2000000 in
set_option maxRecDepth 4000 in
theorem list_any (p g cap:Nat) (ts:List Tok) (hE:Ends ts) (i:Nat) (d:Int) (full:Bool) (t:Tok) (k9:Int) (n9:List UInt8) (m9:Int) (a9:Nat) (ks9:List Tree) (o9:Option Addr) (l9 c9:Nat) (A0:Nat->Prop) (w:World) (h:PP w p g cap ts i d full)
 (hA0:∀ b,A0 b->b≠p∧b<w.heap.size) (hT:zae A0 w (.node k9 n9 m9 a9 ks9) (kidV k9 n9 m9 a9 (.slice o9 l9 c9))) :
 Calls Tryz.prog 141 #[.pointer (some ⟨p,0,none⟩),tokV t,(kidV k9 n9 m9 a9 (.slice o9 l9 c9))] w (zam p g cap ts d (mixIs A0 w.heap.size) (listP t (.node k9 n9 m9 a9 ks9) (PSof ts i full)) w):=by
 have HP:Hid (p<w.heap.size∧g<w.heap.size):=⟨h.plt,h.glt⟩
 have Ai:Hid (∀ b,A0 b->b≠p∧b<w.heap.size):=hA0
 have HE:Hid (Ends ts):=hE
 obtain ⟨R,hR⟩:∃ R,listP t (.node k9 n9 m9 a9 ks9) (PSof ts i full)=R:=⟨_,rfl⟩
 rw [hR]
 have Bo:Hid (R=listP t (.node k9 n9 m9 a9 ks9) (PSof ts i full)):=hR.symm
 have hT0:zae A0 w (.node k9 n9 m9 a9 ks9) (kidV k9 n9 m9 a9 (.slice o9 l9 c9)):=hT
 unfold tokV kidV
 obtain ⟨wa1,hwa1⟩:∃ x,w.alloc (.cells #[.int .i64 t.kind,.string ⟨t.text.toArray⟩,.int .i64 t.num,.int .i64 t.at_] 41)=x:=⟨_,rfl⟩
 obtain ⟨wa2,hwa2⟩:∃ x,wa1.alloc (.cells #[.int .i64 k9,.string ⟨n9.toArray⟩,.int .i64 m9,.int .i64 a9,.slice o9 l9 c9] 29)=x:=⟨_,rfl⟩
 obtain ⟨wa,hwa⟩:∃ x,wa2.alloc (.cells #[.int .i64 0,.string ⟨#[]⟩,.int .i64 0,.int .i64 0,.slice none 0 0] 29)=x:=⟨_,rfl⟩
 obtain ⟨wq,hwq⟩:∃ x,wa.alloc (.cells #[.int .i64 k9,.string ⟨n9.toArray⟩,.int .i64 m9,.int .i64 a9,.slice o9 l9 c9] 29)=x:=⟨_,rfl⟩
 have b1:Below w.heap.size w wa1:=by rw [<- hwa1];exact zac _ _
 have b2:Below w.heap.size w wa2:=by rw [<- hwa2];exact b1.alloc b1.size _
 have b3:Below w.heap.size w wa:=by rw [<- hwa];exact b2.alloc b2.size _
 have b4:Below w.heap.size w wq:=by rw [<- hwq];exact b3.alloc b3.size _
 have kr:Kep w wq wa2.heap.size (kidO 0 [] 0 0 (.slice none 0 0)):=by rw [<- hwq,<- hwa];exact (Kep.new b2.size _).alloc _
 have kq:Kep w wq wa.heap.size (kidO k9 n9 m9 a9 (.slice o9 l9 c9)):=by rw [<- hwq];exact Kep.new b3.size _
 have kta:Kep w wa w.heap.size (tokO t):=by rw [<- hwa,<- hwa2,<- hwa1];exact ((Kep.new (Nat.le_refl _) _).alloc _).alloc _
 have koa:Kep w wa wa1.heap.size (kidO k9 n9 m9 a9 (.slice o9 l9 c9)):=by rw [<- hwa,<- hwa2];exact (Kep.new b1.size _).alloc _
 obtain ⟨t0,t1,t2,t3⟩:=zbq kta.1
 obtain ⟨⟨v0,v1,v2,v3,v4⟩,_⟩:=zaa koa.1
 have Av:Hid (Calls Tryz.prog 109 #[.int .i64 16,tokV t,.slice (some ⟨wa.heap.size,0,none⟩) 1 1] wq fun e w'=>e=.returned (kidV 16 t.text 0 t.at_ (.slice (some ⟨wa.heap.size,0,none⟩) 1 1))∧Below wq.heap.size wq w'):=zdh 16 t (some ⟨wa.heap.size,0,none⟩) 1 1 wq
 have HQ:Hid (Below w.heap.size w wq∧Kep w wq wa2.heap.size (kidO 0 [] 0 0 (.slice none 0 0))∧Kep w wq wa.heap.size (kidO k9 n9 m9 a9 (.slice o9 l9 c9))∧PP w p g cap ts i d full∧zae A0 w (.node k9 n9 m9 a9 ks9) (kidV k9 n9 m9 a9 (.slice o9 l9 c9))∧wa2.heap.size<wa.heap.size):=⟨b4,kr,kq,h,hT0,by rw [<- hwa];simp⟩
 clear b1 b2 b3 b4 kr kq kta koa h hT hE hA0 hR hT0
 unfold tokV at Av
 go_enter Tryz.func141,Tryz.ntmps141
 go_wp2_with fail
 refine Av.out.mono ?_
 rintro e w1 ⟨rfl,hB1⟩
 obtain ⟨wl,hwl⟩:∃ x,w1.alloc (.cells #[.int .i64 16,.string ⟨t.text.toArray⟩,.int .i64 0,.int .i64 t.at_,.slice (some ⟨wa.heap.size,0,none⟩) 1 1] 29)=x:=⟨_,rfl⟩
 have hs1:Below w.heap.size w w1:=HQ.out.1.trans (hB1.mono HQ.out.1.size)
 have hsl:Below w.heap.size w wl:=by rw [<- hwl];exact hs1.alloc hs1.size _
 have Bf:Hid (Sole p w wl):=Sole.of_below hsl
 have Bp:Hid (PP wl p g cap ts i d full):=HQ.out.2.2.2.1.below hsl
 have Bq:Hid (zae A0 wl (.node k9 n9 m9 a9 ks9) (kidV k9 n9 m9 a9 (.slice o9 l9 c9))):=HQ.out.2.2.2.2.1.below hsl
 have Br:Hid (Kep w wl wa2.heap.size (kidO 0 [] 0 0 (.slice none 0 0))):=by show Kep w wl _ _;rw [<- hwl];exact (HQ.out.2.1.below hB1).alloc _
 have Bs:Hid (Kep w wl wa.heap.size (kidO k9 n9 m9 a9 (.slice o9 l9 c9))):=by show Kep w wl _ _;rw [<- hwl];exact (HQ.out.2.2.1.below hB1).alloc _
 have Bt:Hid (Kep w wl w1.heap.size (kidO 16 t.text 0 t.at_ (.slice (some ⟨wa.heap.size,0,none⟩) 1 1))):=by show Kep w wl _ _;rw [<- hwl];exact Kep.new hs1.size _
 have Aw:Hid (wa2.heap.size<wa.heap.size∧wa.heap.size<w1.heap.size):=⟨HQ.out.2.2.2.2.2,(HQ.out.2.2.1.below hB1).lt⟩
 have Bg:Hid (Calls Tryz.prog 41 #[.pointer (some ⟨p,0,none⟩),.slice (some ⟨wl.heap.size,0,none⟩) 1 1] (wl.alloc (.cells #[.string ⟨#[60]⟩] 9)) (zam p g cap ts d zf5 ((PSof ts i full).want [60]) wl)):=zbt p g cap ts HE.out i d full [60] (by simp) wl Bp.out
 obtain ⟨ru,hru⟩:∃ r,(PSof ts i full).want [60]=r:=⟨_,rfl⟩
 have Ax:Hid (R=ru.bind fun _ s=>if s.sees [62] then (s.want [62]).bind fun _ s=>.ok (named 16 t [(.node k9 n9 m9 a9 ks9)]) s else (zb7 s).bind fun v s=>(s.want [62]).bind fun _ s=>.ok (named 16 t [(.node k9 n9 m9 a9 ks9),v]) s):=by
  show _=_
  rw [Bo.out,<- hru];rfl
 rw [hru] at Bg
 clear hB1 hs1 hsl hru hwa1 hwa2 hwa hwq Av HQ
 unfold kidV
 go_wp2_with fail
 clear hwl
 refine Bg.out.mono ?_
 cases ru with
 | no why at_ =>
  rintro e w4 ⟨rfl,hS⟩
  have HS:Hid (Sole p w w4):=Bf.out.trans hS
  clear hS
  go_wp2
  refine ⟨rfl,?_⟩
  rw [Ax.out]
  exact ⟨rfl,HS.out⟩
 | ok u st =>
  rintro e w2 ⟨v,i,full,rfl,rfl,rfl,hP,hS⟩
  have hp:=HP.out.1
  have hbb:=Ai.out
  have Ap:Hid (Calls Tryz.prog 75 #[.pointer (some ⟨p,0,none⟩),.string ⟨#[62]⟩] w2 fun e w'=>e=.returned (.bool ((PSof ts i full).sees [62]))∧Below w2.heap.size w2 w'):=by
   have hx:=ze8 p g cap ts i d full ⟨#[62]⟩ w2 hP
   rw [ByteArray.toList_mk] at hx
   exact hx
  have Bh:Hid (PP w2 p g cap ts i d full):=hP
  have Bi:Hid (Sole p w w2):=Bf.out.trans hS
  have Bj:Hid (zae A0 w2 (.node k9 n9 m9 a9 ks9) (kidV k9 n9 m9 a9 (.slice o9 l9 c9))):=Bq.out.sole (fun b h=>(hbb b h).1) hS
  have Ag:Hid (Kep w w2 wa2.heap.size (kidO 0 [] 0 0 (.slice none 0 0))):=Br.out.sole hp hS
  have Ak:Hid (Kep w w2 wa.heap.size (kidO k9 n9 m9 a9 (.slice o9 l9 c9))):=Bs.out.sole hp hS
  have Al:Hid (Kep w w2 w1.heap.size (kidO 16 t.text 0 t.at_ (.slice (some ⟨wa.heap.size,0,none⟩) 1 1))):=Bt.out.sole hp hS
  clear hP hS hp hbb
  cases hse:(PSof ts i full).sees [62]
  · rw [hse] at Ap
    obtain ⟨rv,hrv⟩:∃ r,zb7 (PSof ts i full)=r:=⟨_,rfl⟩
    have Aq:Hid (R=rv.bind fun v s=>(s.want [62]).bind fun _ s=>.ok (named 16 t [(.node k9 n9 m9 a9 ks9),v]) s):=by
     show _=_
     rw [Ax.out,<- hrv]
     show (if _ then _ else _)=_
     rw [hse,if_neg (by simp)]
    have Bu:Hid (∀ w3,Below w2.heap.size w2 w3->Calls Tryz.prog 140 #[.pointer (some ⟨p,0,none⟩)] w3 (zam p g cap ts d (zah w3.heap.size) rv w3)):=fun w3 hB=>by
     rw [<- hrv]
     exact zck p g cap ts HE.out i d full w3 (Bh.out.below hB)
    clear hse hrv
    go_wp2_with fail
    refine Ap.out.mono ?_
    rintro e w3 ⟨rfl,hB3⟩
    have Bl:Hid (Sole p w w3):=Bi.out.trans (Sole.of_below hB3)
    have Bv:Hid (zae A0 w3 (.node k9 n9 m9 a9 ks9) (kidV k9 n9 m9 a9 (.slice o9 l9 c9))):=Bj.out.below hB3
    have Ay:Hid (Kep w w3 wa2.heap.size (kidO 0 [] 0 0 (.slice none 0 0))):=Ag.out.below hB3
    have Az:Hid (Kep w w3 wa.heap.size (kidO k9 n9 m9 a9 (.slice o9 l9 c9))):=Ak.out.below hB3
    have Ah:Hid (Kep w w3 w1.heap.size (kidO 16 t.text 0 t.at_ (.slice (some ⟨wa.heap.size,0,none⟩) 1 1))):=Al.out.below hB3
    obtain ⟨⟨l0,l1,l2,l3,l4⟩,⟨f0,f1,f2,f3,f4⟩⟩:=zaa Ah.out.1
    have Bm:Hid (∀ m,Calls Tryz.prog 140 #[.pointer (some ⟨p,0,none⟩)] (w3.drewN m) (zam p g cap ts d (zah w3.heap.size) rv w3)):=fun m=>by
     have hB:Below w3.heap.size w3 (w3.drewN m):=zaj (Below.refl _ _) m
     exact (Bu.out _ (hB3.trans (hB.mono hB3.size))).mono fun e w' hp=>zam.from_below hB hp
    clear hB3
    go_wp2_with fail
    cases rv with
    | no why at_ =>
     go_region_dies
     all_goals (
      refine (Bm.out _).mono ?_
      rintro e w5 ⟨rfl,hS⟩
      refine ⟨rfl,?_⟩
      rw [Aq.out]
      exact ⟨rfl,Bl.out.trans hS⟩)
    | ok tv st =>
     obtain ⟨k8,n8,m8,a8,ks8⟩:=tv
     obtain ⟨inf,hi1,hi2,hi3,hi4⟩:=zfd
     have HI:Hid (Tryz.prog.info? 29=some inf∧inf.zero=some (.agg #[.int .i64 0,.string ⟨#[]⟩,.int .i64 0,.int .i64 0,.slice none 0 0])∧inf.size=5∧inf.bytes=64):=⟨hi1,hi2,hi3,hi4⟩
     clear hi1 hi2 hi3 hi4
     go_region_law (first
      | (refine zbw rfl 140 #[.pointer (some ⟨p,0,none⟩)] (by go_simp) _ (Bm.out _) ?_
         rintro e w5 ⟨v,i,full,rfl,hT,rfl,hP,hS⟩
         refine ⟨_,rfl,?_⟩
         obtain ⟨sl,rfl,hL⟩:=zaf.1 hT
         obtain ⟨o8,l8,c8,rfl⟩:=hL.shape
         have hp:=HP.out
         have hbb:=Ai.out
         have Bw:Hid (PP w5 p g cap ts i d full):=hP
         have Bx:Hid (Sole p w w5):=Bl.out.trans hS
         have Bz:Hid (zah w3.heap.size (.node k8 n8 m8 a8 ks8) w5 (kidV k8 n8 m8 a8 (.slice o8 l8 c8))):=hT
         have Ca:Hid (zae A0 w5 (.node k9 n9 m9 a9 ks9) (kidV k9 n9 m9 a9 (.slice o9 l9 c9))):=Bv.out.sole (fun b h=>(hbb b h).1) hS
         have Am:Hid (Kep w w5 wa2.heap.size (kidO 0 [] 0 0 (.slice none 0 0))):=Ay.out.sole hp.1 hS
         have An:Hid (Kep w w5 wa.heap.size (kidO k9 n9 m9 a9 (.slice o9 l9 c9))):=Az.out.sole hp.1 hS
         have Ab:Hid (Kep w w5 w1.heap.size (kidO 16 t.text 0 t.at_ (.slice (some ⟨wa.heap.size,0,none⟩) 1 1))):=Ah.out.sole hp.1 hS
         have Ba:Hid (w3.heap.size<=w5.heap.size):=hS.size
         have u4:=(zaa Ab.out.1).1.2.2.2.2
         obtain ⟨wb,hwb⟩:∃ x,w5.alloc (.cells #[.int .i64 k8,.string ⟨n8.toArray⟩,.int .i64 m8,.int .i64 a8,.slice o8 l8 c8] 29)=x:=⟨_,rfl⟩
         have Af:Hid (w5.alloc (.cells #[.int .i64 k8,.string ⟨n8.toArray⟩,.int .i64 m8,.int .i64 a8,.slice o8 l8 c8] 29)=wb):=hwb
         have x4:wb.cell? ⟨w1.heap.size,4,none⟩=some (.slice (some ⟨wa.heap.size,0,none⟩) 1 1):=by rw [<- hwb];exact (zaa (Ab.out.alloc _).1).1.2.2.2.2
         have Bn:Hid (wb.heap[wa.heap.size]?=some (zdw [.int .i64 k9,.string ⟨n9.toArray⟩,.int .i64 m9,.int .i64 a9,.slice o9 l9 c9])∧wb.heap[w5.heap.size]?=some (.cells #[.int .i64 k8,.string ⟨n8.toArray⟩,.int .i64 m8,.int .i64 a8,.slice o8 l8 c8] 29 (0,0))):=by
          refine ⟨?_,?_⟩
          · rw [<- hwb];exact (An.out.alloc _).1
          · rw [<- hwb];exact heap_alloc_new _ _
         clear hT hL hP hS hp hbb
         unfold kidV)
      | (refine step_append_lies _ rfl _ _ 27 rfl 0 29 inf (.agg #[.int .i64 0,.string ⟨#[]⟩,.int .i64 0,.int .i64 0,.slice none 0 0]) 5 64 Tryz.underlying27 HI.out.1 HI.out.2.1 HI.out.2.2.1 HI.out.2.2.2 rfl (by decide) (.slice (some ⟨wa.heap.size,0,none⟩) 1 1) 1 [.int .i64 k9,.string ⟨n9.toArray⟩,.int .i64 m9,.int .i64 a9,.slice o9 l9 c9] rfl (zgz Bn.out.1 rfl (by decide)) ⟨w5.heap.size,0,none⟩ 1 1 [.int .i64 k8,.string ⟨n8.toArray⟩,.int .i64 m8,.int .i64 a8,.slice o8 l8 c8] rfl rfl (World.news_of_block (cs:=#[.int .i64 k8,.string ⟨n8.toArray⟩,.int .i64 m8,.int .i64 a8,.slice o8 l8 c8]) (t:=29) (fr:=(0,0)) Bn.out.2) (by simp [Value.oneCell']) (by decide) (by decide) (by decide) (Nat.zero_le _) _ rfl ?_
         intro gq cq w6 hown hgrow hat hlt
         have hp:=HP.out
         have hbb:=Ai.out
         have hlt2:=Aw.out
         have hl1:=Ab.out.lt
         have hr2:=Am.out.2
         have hq2:=An.out.2
         have hwl2:=Ab.out.2
         have h3l:=Ah.out.lt
         have hl35:=Ba.out
         have hBw:Below w5.heap.size w5 wb:=by rw [<- Af.out];exact zac _ _
         have hsb:wb.heap.size=w5.heap.size+1:=by rw [<- Af.out];simp
         have hgr:wb.grownBy w6 (some wa.heap.size):=hgrow
         have Bb:Hid (Kep w w6 wa2.heap.size (kidO 0 [] 0 0 (.slice none 0 0))):=(Am.out.below hBw).grown hgr (by omega)
         have Ac:Hid (Kep w w6 w1.heap.size (kidO 16 t.text 0 t.at_ (.slice (some ⟨wa.heap.size,0,none⟩) 1 1))):=(Ab.out.below hBw).grown hgr (by omega)
         have Cb:Hid (PP w6 p g cap ts i d full):=(Bw.out.below hBw).grown hgr (by omega) (by omega)
         have Cc:Hid (Sole p w w6):=(Bx.out.trans (Sole.of_below hBw)).grown hgr hq2
         have Cd:Hid (zab (fun b=>Mix A0 w.heap.size b∧b≠w1.heap.size∧b≠wa2.heap.size) w6 [(.node k9 n9 m9 a9 ks9),.node k8 n8 m8 a8 ks8] (.slice (some ⟨gq,0,none⟩) 2 cq)):=by
          refine zbv (ks:=[(.node k9 n9 m9 a9 ks9)]) (us:=[.node k8 n8 m8 a8 ks8]) (sl:=.slice (some ⟨wa.heap.size,0,none⟩) 1 1) (fun g e=>?_) (za3 ((Ca.out.below hBw).weaken (fun b h=>?_))) (za3 ((zae.below (zae.there _ _ Bz.out) hBw).weaken (fun b h=>?_))) hown hgrow wb.heap.size (Nat.le_refl _) ⟨Or.inr (by omega),by omega,by omega⟩ ?_
          · have e2:wa.heap.size=g:=Option.some.inj e
            exact ⟨Or.inr (by omega),by omega,by omega⟩
          · have h0:=hbb b h
            refine ⟨⟨Or.inl h,by omega,by omega⟩,fun e=>?_⟩
            have e2:wa.heap.size=b:=Option.some.inj e
            omega
          · have h1:w3.heap.size<=b:=h.1
            refine ⟨⟨Or.inr (by omega),by omega,by omega⟩,fun e=>?_⟩
            have e2:wa.heap.size=b:=Option.some.inj e
            omega
          · rcases hat with e|e
            · exact Or.inl e.symm
            · exact Or.inr (by rw [e];rfl)
         obtain ⟨⟨j0,j1,j2,j3,j4⟩,⟨g0,g1,g2,g3,g4⟩⟩:=zaa Ac.out.1
         clear hown hgrow hat hlt hp hbb hlt2 hl1 hr2 hq2 hwl2 h3l hl35 hBw hsb hgr))
     all_goals (
      have hp:=HP.out
      have hlt2:=Aw.out
      have hwl2:=Ac.out.2
      have hz6:∀ b,b≠w1.heap.size->(w6.setCell ⟨w1.heap.size,4,none⟩ (.slice (some ⟨gq,0,none⟩) 2 cq)).heap[b]?=w6.heap[b]?:=fun b hb=>Below.heap_setCell _ _ _ _ hb
      have Ad:Hid (Kep w (w6.setCell ⟨w1.heap.size,4,none⟩ (.slice (some ⟨gq,0,none⟩) 2 cq)) w1.heap.size (kidO 16 t.text 0 t.at_ (.slice (some ⟨gq,0,none⟩) 2 cq))):=⟨zhl Ac.out.1,Ac.out.2⟩
      have Ae:Hid (Kep w (w6.setCell ⟨w1.heap.size,4,none⟩ (.slice (some ⟨gq,0,none⟩) 2 cq)) wa2.heap.size (kidO 0 [] 0 0 (.slice none 0 0))):=Bb.out.but hz6 (by omega)
      have Ar:Hid (PP (w6.setCell ⟨w1.heap.size,4,none⟩ (.slice (some ⟨gq,0,none⟩) 2 cq)) p g cap ts i d full):=Cb.out.sole_but (by omega) (by omega) hz6
      have Aj:Hid (Sole p w (w6.setCell ⟨w1.heap.size,4,none⟩ (.slice (some ⟨gq,0,none⟩) 2 cq))):=Cc.out.below_after ((Below.refl _ _).setCell hwl2 _)
      have Au:Hid (zab (fun b=>Mix A0 w.heap.size b∧b≠w1.heap.size∧b≠wa2.heap.size) (w6.setCell ⟨w1.heap.size,4,none⟩ (.slice (some ⟨gq,0,none⟩) 2 cq)) [(.node k9 n9 m9 a9 ks9),.node k8 n8 m8 a8 ks8] (.slice (some ⟨gq,0,none⟩) 2 cq)):=Cd.out.but (fun b h=>h.2.1) hz6
      generalize w6.setCell ⟨w1.heap.size,4,none⟩ (.slice (some ⟨gq,0,none⟩) 2 cq)=wc at Ad Ae Ar Aj Au ⊢
      clear hp hlt2 hwl2 hz6
      have Af:Hid (Calls Tryz.prog 41 #[.pointer (some ⟨p,0,none⟩),.slice (some ⟨wc.heap.size,0,none⟩) 1 1] (wc.alloc (.cells #[.string ⟨#[62]⟩] 9)) (zam p g cap ts d zf5 ((PSof ts i full).want [62]) wc)):=zbt p g cap ts HE.out i d full [62] (by simp) wc Ar.out
      obtain ⟨rw_,hrw⟩:∃ r,(PSof ts i full).want [62]=r:=⟨_,rfl⟩
      have Ao:Hid (R=rw_.bind fun _ s=>.ok (named 16 t [(.node k9 n9 m9 a9 ks9),.node k8 n8 m8 a8 ks8]) s):=by
       show _=_
       rw [Aq.out];first|(rw [<- hrw];done)|(rw [<- hrw];rfl)
      rw [hrw] at Af
      clear hrw
      go_wp2_with fail
      refine Af.out.mono ?_
      cases rw_ with
      | no why at_ =>
       rintro e w8 ⟨rfl,hS⟩
       have HS:Hid (Sole p w w8):=Aj.out.trans hS
       clear hS
       go_wp2
       refine ⟨rfl,?_⟩
       rw [Ao.out]
       exact ⟨rfl,HS.out⟩
      | ok u st =>
       rintro e w8 ⟨v,i,full,rfl,rfl,rfl,hP,hS⟩
       have hp:=HP.out
       have hb:=Ai.out
       have Bc:Hid (PP w8 p g cap ts i d full):=hP
       have Bd:Hid (Sole p w w8):=Aj.out.trans hS
       have Be:Hid (zab (fun b=>Mix A0 w.heap.size b∧b≠w1.heap.size∧b≠wa2.heap.size) w8 [(.node k9 n9 m9 a9 ks9),.node k8 n8 m8 a8 ks8] (.slice (some ⟨gq,0,none⟩) 2 cq)):=Au.out.sole (fun b h=>by rcases h.1 with h1|h1;exact (hb b h1).1;omega) hS
       have Aa:Hid (Kep w w8 wa2.heap.size (kidO 0 [] 0 0 (.slice none 0 0))):=Ae.out.sole hp.1 hS
       obtain ⟨⟨z0,z1,z2,z3,z4⟩,⟨y0,y1,y2,y3,y4⟩⟩:=zaa Aa.out.1
       obtain ⟨⟨l0,l1,l2,l3,l4⟩,_⟩:=zaa (Ad.out.sole hp.1 hS).1
       clear hP hS hp hb
       go_wp2
       have q:=res5 w8 wa2.heap.size (.int .i64 16) (.string ⟨t.text.toArray⟩) (.int .i64 0) (.int .i64 t.at_) (.slice (some ⟨gq,0,none⟩) 2 cq) z0 z1 z2 z3 z4
       have hf:=fin5 (k:=16) (n:=t.text) (m:=0) (a:=t.at_) (sl:=(.slice (some ⟨gq,0,none⟩) 2 cq)) Aa.out.2 Bd.out _ rfl
       generalize ((((w8.setCell ⟨wa2.heap.size,0,none⟩ (.int .i64 16)).setCell ⟨wa2.heap.size,1,none⟩ (.string ⟨t.text.toArray⟩)).setCell ⟨wa2.heap.size,2,none⟩ (.int .i64 0)).setCell ⟨wa2.heap.size,3,none⟩ (.int .i64 t.at_)).setCell ⟨wa2.heap.size,4,none⟩ (.slice (some ⟨gq,0,none⟩) 2 cq)=wz at q hf ⊢
       obtain ⟨q0,q1,q2,q3,q4⟩:=q
       refine bodyPost_ret (v:=.agg #[.int .i64 16,.string ⟨t.text.toArray⟩,.int .i64 0,.int .i64 t.at_,(.slice (some ⟨gq,0,none⟩) 2 cq)]) (by simp [results,Tryz.results141,go_sem,q0,q1,q2,q3,q4]) rfl ?_
       rw [Ao.out]
       have hr2:=Aa.out.2
       have hp:=HP.out
       exact ⟨_,i,full,rfl,zb3 Be.out (fun b h=>h.1) (fun b h=>h.2.2) hf.2,rfl,Bc.out.sole_but (by omega) (by omega) hf.2,hf.1⟩)
  · rw [hse] at Ap
    have Aq:Hid (R=((PSof ts i full).want [62]).bind fun _ s=>.ok (named 16 t [(.node k9 n9 m9 a9 ks9)]) s):=by
     show _=_
     rw [Ax.out]
     show (if _ then _ else _)=_
     rw [hse,if_pos rfl]
    clear hse
    go_wp2_with fail
    refine Ap.out.mono ?_
    rintro e w3 ⟨rfl,hB3⟩
    have hp:=HP.out
    have hbb:=Ai.out
    have hlt2:=Aw.out
    have hr2:=Ag.out.2
    have Ar:Hid (PP w3 p g cap ts i d full):=Bh.out.below hB3
    have Aj:Hid (Sole p w w3):=Bi.out.trans (Sole.of_below hB3)
    have Au:Hid (zab (fun b=>Mix A0 w.heap.size b∧b≠w1.heap.size∧b≠wa2.heap.size) w3 [(.node k9 n9 m9 a9 ks9)] (.slice (some ⟨wa.heap.size,0,none⟩) 1 1)):=by
     refine zbh (Ak.out.below hB3).1 (by simp) ⟨Or.inr (by omega),by omega,by omega⟩ (za3 ((Bj.out.below hB3).weaken (fun b h=>?_)))
     have h0:=hbb b h
     exact ⟨⟨Or.inl h,by omega,by omega⟩,by omega⟩
    have Ae:Hid (Kep w w3 wa2.heap.size (kidO 0 [] 0 0 (.slice none 0 0))):=Ag.out.below hB3
    have Ad:Hid (Kep w w3 w1.heap.size (kidO 16 t.text 0 t.at_ (.slice (some ⟨wa.heap.size,0,none⟩) 1 1))):=Al.out.below hB3
    clear hB3 hp hbb hlt2 hr2
    have Af:Hid (Calls Tryz.prog 41 #[.pointer (some ⟨p,0,none⟩),.slice (some ⟨w3.heap.size,0,none⟩) 1 1] (w3.alloc (.cells #[.string ⟨#[62]⟩] 9)) (zam p g cap ts d zf5 ((PSof ts i full).want [62]) w3)):=zbt p g cap ts HE.out i d full [62] (by simp) w3 Ar.out
    obtain ⟨rw_,hrw⟩:∃ r,(PSof ts i full).want [62]=r:=⟨_,rfl⟩
    have Ao:Hid (R=rw_.bind fun _ s=>.ok (named 16 t [(.node k9 n9 m9 a9 ks9)]) s):=by
     show _=_
     rw [Aq.out];first|(rw [<- hrw];done)|(rw [<- hrw];rfl)
    rw [hrw] at Af
    clear hrw
    go_wp2_with fail
    refine Af.out.mono ?_
    cases rw_ with
    | no why at_ =>
     rintro e w8 ⟨rfl,hS⟩
     have HS:Hid (Sole p w w8):=Aj.out.trans hS
     clear hS
     go_wp2
     refine ⟨rfl,?_⟩
     rw [Ao.out]
     exact ⟨rfl,HS.out⟩
    | ok u st =>
     rintro e w8 ⟨v,i,full,rfl,rfl,rfl,hP,hS⟩
     have hp:=HP.out
     have hb:=Ai.out
     have Bc:Hid (PP w8 p g cap ts i d full):=hP
     have Bd:Hid (Sole p w w8):=Aj.out.trans hS
     have Be:Hid (zab (fun b=>Mix A0 w.heap.size b∧b≠w1.heap.size∧b≠wa2.heap.size) w8 [(.node k9 n9 m9 a9 ks9)] (.slice (some ⟨wa.heap.size,0,none⟩) 1 1)):=Au.out.sole (fun b h=>by rcases h.1 with h1|h1;exact (hb b h1).1;omega) hS
     have Aa:Hid (Kep w w8 wa2.heap.size (kidO 0 [] 0 0 (.slice none 0 0))):=Ae.out.sole hp.1 hS
     obtain ⟨⟨z0,z1,z2,z3,z4⟩,⟨y0,y1,y2,y3,y4⟩⟩:=zaa Aa.out.1
     obtain ⟨⟨l0,l1,l2,l3,l4⟩,_⟩:=zaa (Ad.out.sole hp.1 hS).1
     clear hP hS hp hb
     go_wp2
     have q:=res5 w8 wa2.heap.size (.int .i64 16) (.string ⟨t.text.toArray⟩) (.int .i64 0) (.int .i64 t.at_) (.slice (some ⟨wa.heap.size,0,none⟩) 1 1) z0 z1 z2 z3 z4
     have hf:=fin5 (k:=16) (n:=t.text) (m:=0) (a:=t.at_) (sl:=(.slice (some ⟨wa.heap.size,0,none⟩) 1 1)) Aa.out.2 Bd.out _ rfl
     generalize ((((w8.setCell ⟨wa2.heap.size,0,none⟩ (.int .i64 16)).setCell ⟨wa2.heap.size,1,none⟩ (.string ⟨t.text.toArray⟩)).setCell ⟨wa2.heap.size,2,none⟩ (.int .i64 0)).setCell ⟨wa2.heap.size,3,none⟩ (.int .i64 t.at_)).setCell ⟨wa2.heap.size,4,none⟩ (.slice (some ⟨wa.heap.size,0,none⟩) 1 1)=wz at q hf ⊢
     obtain ⟨q0,q1,q2,q3,q4⟩:=q
     refine bodyPost_ret (v:=.agg #[.int .i64 16,.string ⟨t.text.toArray⟩,.int .i64 0,.int .i64 t.at_,(.slice (some ⟨wa.heap.size,0,none⟩) 1 1)]) (by simp [results,Tryz.results141,go_sem,q0,q1,q2,q3,q4]) rfl ?_
     rw [Ao.out]
     have hr2:=Aa.out.2
     have hp:=HP.out
     exact ⟨_,i,full,rfl,zb3 Be.out (fun b h=>h.1) (fun b h=>h.2.2) hf.2,rfl,Bc.out.sole_but (by omega) (by omega) hf.2,hf.1⟩
theorem Ends.sees {ts:List Tok} (hE:Ends ts) {i:Nat} {full:Bool} (hi:i<ts.length) {t:List UInt8} (ht:t≠[]) (h:(PSof ts i full).sees t=true):i+1<ts.length:=by
 refine hE.text hi ?_
 unfold PS.sees at h
 rw [zb6 ts i full hi] at h
 rw [show (ts[i]'hi).text=t by simpa using h]
 exact ht
theorem zf8 (p g cap:Nat) (ts:List Tok) (i:Nat) (d:Int) (full:Bool) (t:List UInt8) (w:World) (h:PP w p g cap ts i d full) :
 Calls Tryz.prog 75 #[.pointer (some ⟨p,0,none⟩),.string ⟨t.toArray⟩] w fun e w'=>e=.returned (.bool ((PSof ts i full).sees t))∧Below w.heap.size w w':=by
 have hx:=ze8 p g cap ts i d full ⟨t.toArray⟩ w h
 rw [ByteArray.toList_mk] at hx
 exact hx
set_option maxHeartbeats 2000000 in
set_option maxRecDepth 4000 in
theorem zee (p g cap:Nat) (ts:List Tok) (hE:Ends ts) (i:Nat) (d:Int) (full:Bool) (k9:Int) (n9:List UInt8) (m9:Int) (a9:Nat) (ks9:List Tree) (o9:Option Addr) (l9 c9:Nat) (A0:Nat->Prop) (w:World) (h:PP w p g cap ts i d full)
 (hA0:∀ b,A0 b->b≠p∧b<w.heap.size) (hT:zae A0 w (.node k9 n9 m9 a9 ks9) (kidV k9 n9 m9 a9 (.slice o9 l9 c9))) :
 Calls Tryz.prog 111 #[.pointer (some ⟨p,0,none⟩),(kidV k9 n9 m9 a9 (.slice o9 l9 c9))] w (zam p g cap ts d (mixIs A0 w.heap.size) (zdu k9 (.node k9 n9 m9 a9 ks9) (PSof ts i full)) w):=by
 have HP:=hid2 h.plt h.glt
 have Ao:=hid hA0
 have HE:=hid hE
 obtain ⟨R,hR⟩:∃ R,zdu k9 (.node k9 n9 m9 a9 ks9) (PSof ts i full)=R:=⟨_,rfl⟩
 rw [hR]
 have Bw:=hid hR.symm
 unfold kidV
 obtain ⟨wa1,hwa1⟩:∃ x,w.alloc (.cells #[.int .i64 k9,.string ⟨n9.toArray⟩,.int .i64 m9,.int .i64 a9,.slice o9 l9 c9] 29)=x:=⟨_,rfl⟩
 obtain ⟨wa,hwa⟩:∃ x,wa1.alloc (.cells #[.int .i64 0,.string ⟨#[]⟩,.int .i64 0,.int .i64 0,.slice none 0 0] 29)=x:=⟨_,rfl⟩
 have b1:Below w.heap.size w wa1:=by rw [<- hwa1];exact zac _ _
 have b2:Below w.heap.size w wa:=by rw [<- hwa];exact b1.alloc b1.size _
 have Bx:Hid (Kep w wa w.heap.size (kidO k9 n9 m9 a9 (.slice o9 l9 c9))):=by show Kep w wa _ _;rw [<- hwa,<- hwa1];exact (Kep.new (Nat.le_refl _) _).alloc _
 have Bz:Hid (Kep w wa wa1.heap.size (kidO 0 [] 0 0 (.slice none 0 0))):=by show Kep w wa _ _;rw [<- hwa];exact Kep.new b1.size _
 have Ca:=hid (hT.below b2)
 have Bq:Hid (Sole p w wa):=Sole.of_below b2
 have HN:=hid (zcm p g cap ts hE i d full wa (h.below b2))
 obtain ⟨rn,hrn⟩:∃ r,zcr (PSof ts i full)=r:=⟨_,rfl⟩
 have Bi:Hid (R=rn.bind fun t s=>(if s.sees [91]&&k9 != 26 then s.take.bind fun _ s=>(zb7 s).bind fun v s=>(s.want [93]).bind fun _ s=>.ok (named 15 t [(.node k9 n9 m9 a9 ks9),v]) s else if s.sees [60] then (s.want [60]).bind fun _ s=>if s.sees [62] then (s.want [62]).bind fun _ s=>.ok (named 16 t [(.node k9 n9 m9 a9 ks9)]) s else (zb7 s).bind fun v s=>(s.want [62]).bind fun _ s=>.ok (named 16 t [(.node k9 n9 m9 a9 ks9),v]) s else if k9==25||k9==26 then s.bad 40 else .ok (named 14 t [(.node k9 n9 m9 a9 ks9)]) s)):=by
  show _=_
  rw [Bw.out,<- hrn];rfl
 rw [hrn] at HN
 clear b1 b2 h hT hE hA0 hR hrn
 go_enter Tryz.func111,Tryz.ntmps111
 go_wp2_with fail
 refine HN.out.mono ?_
 cases rn with
 | no why at_ =>
  rintro e w99 ⟨rfl,hS⟩
  have Ah:=hid (Bq.out.trans hS)
  clear hS
  go_wp2
  refine ⟨rfl,?_⟩
  rw [Bi.out]
  exact ⟨rfl,Ah.out⟩
 | ok t st =>
  rintro e w2 ⟨v,i,full,rfl,rfl,rfl,hP,hS⟩
  obtain ⟨w3,hw3⟩:∃ x,w2.alloc (.cells #[.int .i64 t.kind,.string ⟨t.text.toArray⟩,.int .i64 t.num,.int .i64 t.at_] 41)=x:=⟨_,rfl⟩
  have hp:=HP.out.1
  have hs2:Sole p w w2:=Bq.out.trans hS
  have Bg:Hid (PP w3 p g cap ts i d full):=by show PP w3 _ _ _ _ _ _ _;rw [<- hw3];exact hP.alloc _
  have Bj:Hid (Sole p w w3):=by show Sole p w w3;rw [<- hw3];exact hs2.alloc _
  have Ay:Hid (Kep w w3 w.heap.size (kidO k9 n9 m9 a9 (.slice o9 l9 c9))):=by show Kep w w3 _ _;rw [<- hw3];exact (Bx.out.sole hp hS).alloc _
  have Az:Hid (Kep w w3 wa1.heap.size (kidO 0 [] 0 0 (.slice none 0 0))):=by show Kep w w3 _ _;rw [<- hw3];exact (Bz.out.sole hp hS).alloc _
  have Ba:Hid (Kep w w3 w2.heap.size (tokO t)):=by show Kep w w3 _ _;rw [<- hw3];exact Kep.new hs2.size _
  have Bl:Hid (zae A0 w3 (.node k9 n9 m9 a9 ks9) (kidV k9 n9 m9 a9 (.slice o9 l9 c9))):=by show zae _ w3 _ _;rw [<- hw3];exact (Ca.out.sole (fun b h=>(Ao.out b h).1) hS).below (zac _ _)
  have Au:=hid (zf8 p g cap ts i d full [91] w3 Bg.out)
  clear hP hS hp hs2 hwa1 hwa
  unfold tokV
  cases hse:(PSof ts i full).sees [91]
  · rw [hse] at Au
    have Aw:Hid (R=(if (PSof ts i full).sees [60] then ((PSof ts i full).want [60]).bind fun _ s=>if s.sees [62] then (s.want [62]).bind fun _ s=>.ok (named 16 t [(.node k9 n9 m9 a9 ks9)]) s else (zb7 s).bind fun v s=>(s.want [62]).bind fun _ s=>.ok (named 16 t [(.node k9 n9 m9 a9 ks9),v]) s else if k9==25||k9==26 then (PSof ts i full).bad 40 else .ok (named 14 t [(.node k9 n9 m9 a9 ks9)]) (PSof ts i full))):=by
     show _=_
     rw [Bi.out]
     show (if _ then _ else _)=_
     rw [hse,if_neg (by simp)]
    clear hse
    go_wp2_with fail
    clear hw3
    refine Au.out.mono ?_
    rintro e w4 ⟨rfl,hB4⟩
    have Ap:=hid (Bg.out.below hB4)
    have Ar:=hid (Bj.out.trans (Sole.of_below hB4))
    have Ad:=hid (Ay.out.below hB4)
    have Ai:=hid (Az.out.below hB4)
    have Aj:=hid (Ba.out.below hB4)
    have Av:=hid (Bl.out.below hB4)
    obtain ⟨⟨u0,u1,u2,u3,u4⟩,_⟩:=zaa Ad.out.1
    clear hB4
    have Ae:=hid (zf8 p g cap ts i d full [60] w4 Ap.out)
    cases hse:(PSof ts i full).sees [60]
    · rw [hse] at Ae
      by_cases hk25:k9=25∨k9=26
      · have Al:Hid (R=(PSof ts i full).bad 40):=by
         show _=_
         rw [Aw.out,hse,if_neg (by simp),if_pos (by rcases hk25 with e|e <;> simp [e])]
        clear hse
        by_cases e25:k9=25
        · have hk5:(k9==25)=true:=by simp [e25]
          clear hk25 e25
          go_wp2_with fail
          refine Ae.out.mono ?_
          rintro e w5 ⟨rfl,hB5⟩
          have Ak:=hid (Ap.out.below hB5)
          have Af:=hid (Ar.out.trans (Sole.of_below hB5))
          have Ab:=hid (Ad.out.below hB5)
          have Aa:=hid (Ai.out.below hB5)
          have Ag:=hid (Aj.out.below hB5)
          have Aq:=hid (Av.out.below hB5)
          clear hB5
          have Bb:=hid (zdd p g cap ts i d 40 full w5 Ak.out)
          have Am:Hid (R=.no 40 (ts[i]'Ak.out.il).at_):=by
           show _=_
           rw [Al.out]
           unfold PS.bad
           rw [zb6 ts i full Ak.out.il]
          obtain ⟨⟨v0,v1,v2,v3,v4⟩,_⟩:=zaa Ab.out.1
          go_wp2_with fail
          refine Bb.out.mono ?_
          rintro e w6 ⟨rfl,hB6⟩
          have An:=hid (Af.out.trans (Sole.of_below hB6))
          clear hB6
          go_wp2
          refine ⟨rfl,?_⟩
          rw [Am.out]
          exact ⟨rfl,An.out⟩
        · have hk5:(k9==25)=false:=by simp [e25]
          have hk6:(k9==26)=true:=by rcases hk25 with e|e;exact absurd e e25;simp [e]
          clear hk25 e25
          go_wp2_with fail
          refine Ae.out.mono ?_
          rintro e w5 ⟨rfl,hB5⟩
          have Ak:=hid (Ap.out.below hB5)
          have Af:=hid (Ar.out.trans (Sole.of_below hB5))
          have Ab:=hid (Ad.out.below hB5)
          have Aa:=hid (Ai.out.below hB5)
          have Ag:=hid (Aj.out.below hB5)
          have Aq:=hid (Av.out.below hB5)
          clear hB5
          have Bb:=hid (zdd p g cap ts i d 40 full w5 Ak.out)
          have Am:Hid (R=.no 40 (ts[i]'Ak.out.il).at_):=by
           show _=_
           rw [Al.out]
           unfold PS.bad
           rw [zb6 ts i full Ak.out.il]
          obtain ⟨⟨v0,v1,v2,v3,v4⟩,_⟩:=zaa Ab.out.1
          go_wp2_with fail
          refine Bb.out.mono ?_
          rintro e w6 ⟨rfl,hB6⟩
          have An:=hid (Af.out.trans (Sole.of_below hB6))
          clear hB6
          go_wp2
          refine ⟨rfl,?_⟩
          rw [Am.out]
          exact ⟨rfl,An.out⟩
      · have Al:Hid (R=.ok (named 14 t [(.node k9 n9 m9 a9 ks9)]) (PSof ts i full)):=by
         show _=_
         rw [Aw.out,hse,if_neg (by simp),if_neg (by simp;omega)]
        have hk5:(k9==25)=false:=by simp;omega
        have hk6:(k9==26)=false:=by simp;omega
        clear hse hk25
        go_wp2_with fail
        refine Ae.out.mono ?_
        rintro e w5 ⟨rfl,hB5⟩
        have Ak:=hid (Ap.out.below hB5)
        have Af:=hid (Ar.out.trans (Sole.of_below hB5))
        have Ab:=hid (Ad.out.below hB5)
        have Aa:=hid (Ai.out.below hB5)
        have Ag:=hid (Aj.out.below hB5)
        have Aq:=hid (Av.out.below hB5)
        clear hB5
        obtain ⟨wq,hwq⟩:∃ x,w5.alloc (.cells #[.int .i64 k9,.string ⟨n9.toArray⟩,.int .i64 m9,.int .i64 a9,.slice o9 l9 c9] 29)=x:=⟨_,rfl⟩
        have hBq:Below w5.heap.size w5 wq:=by rw [<- hwq];exact zac _ _
        have Ax:=hid (zdh 14 t (some ⟨w5.heap.size,0,none⟩) 1 1 wq)
        have HQ:Hid (Below w5.heap.size w5 wq∧wq.heap[w5.heap.size]?=some (zdw [.int .i64 k9,.string ⟨n9.toArray⟩,.int .i64 m9,.int .i64 a9,.slice o9 l9 c9])):=⟨hBq,by rw [<- hwq];exact heap_alloc_new _ _⟩
        clear hBq
        obtain ⟨t0,t1,t2,t3⟩:=zbq Ag.out.1
        obtain ⟨⟨v0,v1,v2,v3,v4⟩,_⟩:=zaa Ab.out.1
        unfold tokV at Ax
        go_wp2_with fail
        refine Ax.out.mono ?_
        rintro e w6 ⟨rfl,hB6⟩
        have hp:=HP.out
        have hbb:=Ao.out
        have h5:=Af.out.size
        have hr5:=Aa.out.lt
        have hB56:Below w5.heap.size w5 w6:=HQ.out.1.trans (hB6.mono HQ.out.1.size)
        have Bc:=hid (Ak.out.below hB56)
        have An:=hid (Af.out.trans (Sole.of_below hB56))
        have Ac:=hid (Aa.out.below hB56)
        have Bd:Hid (zab (fun b=>Mix A0 w.heap.size b∧b≠wa1.heap.size) w6 [(.node k9 n9 m9 a9 ks9)] (.slice (some ⟨w5.heap.size,0,none⟩) 1 1)):=by
         refine zbh (zao hB6 HQ.out.2) (by simp) ⟨Or.inr (by omega),by omega⟩ (za3 ((Aq.out.below hB56).weaken (fun b h=>?_)))
         have h0:=hbb b h
         have:=Aa.out.2
         exact ⟨⟨Or.inl h,by omega⟩,by omega⟩
        clear hB6 hB56 hp hbb h5 hr5 hwq HQ
        unfold kidV
        obtain ⟨⟨z0,z1,z2,z3,z4⟩,⟨y0,y1,y2,y3,y4⟩⟩:=zaa Ac.out.1
        go_wp2
        refine ret5 z0 z1 z2 z3 z4 rfl (fun u q0 q1 q2 q3 q4=>by simp [results,Tryz.results111,go_sem,q0,q1,q2,q3,q4]) Ac.out.2 An.out ?_
        intro wz hf
        rw [Al.out]
        have hr2:=Ac.out.2
        have hpg:=HP.out
        exact ⟨_,_,_,rfl,zb3 Bd.out (fun b h=>h.1) (fun b h=>h.2) hf.2,rfl,Bc.out.sole_but (by omega) (by omega) hf.2,hf.1⟩
    · rw [hse] at Ae
      have Al:Hid (R=listP t (.node k9 n9 m9 a9 ks9) (PSof ts i full)):=by
       show _=_
       rw [Aw.out,hse,if_pos rfl]
       rfl
      clear hse
      go_wp2_with fail
      refine Ae.out.mono ?_
      rintro e w5 ⟨rfl,hB5⟩
      have Ak:=hid (Ap.out.below hB5)
      have Af:=hid (Ar.out.trans (Sole.of_below hB5))
      have Ab:=hid (Ad.out.below hB5)
      have Aa:=hid (Ai.out.below hB5)
      have Ag:=hid (Aj.out.below hB5)
      have Aq:=hid (Av.out.below hB5)
      clear hB5
      have Be:=hid (list_any p g cap ts HE.out i d full t k9 n9 m9 a9 ks9 o9 l9 c9 A0 w5 Ak.out (fun b h=>⟨(Ao.out b h).1,Nat.lt_of_lt_of_le (Ao.out b h).2 Af.out.size⟩) Aq.out)
      obtain ⟨rl,hrl⟩:∃ r,listP t (.node k9 n9 m9 a9 ks9) (PSof ts i full)=r:=⟨_,rfl⟩
      have Am:=hid (Al.out.trans hrl)
      rw [hrl] at Be
      clear hrl
      obtain ⟨t0,t1,t2,t3⟩:=zbq Ag.out.1
      obtain ⟨⟨v0,v1,v2,v3,v4⟩,_⟩:=zaa Ab.out.1
      unfold tokV kidV at Be
      go_wp2_with fail
      refine Be.out.mono ?_
      cases rl with
      | no why at_ =>
       rintro e w99 ⟨rfl,hS⟩
       have Ah:=hid (Af.out.trans hS)
       clear hS
       go_wp2
       refine ⟨rfl,?_⟩
       rw [Am.out]
       exact ⟨rfl,Ah.out⟩
      | ok tv st =>
       rintro e w6 ⟨v,i,full,rfl,hT,rfl,hP,hS⟩
       obtain ⟨k8,n8,m8,a8,ks8⟩:=tv
       obtain ⟨sl,rfl,hL⟩:=zaf.1 hT
       obtain ⟨o8,l8,c8,rfl⟩:=hL.shape
       have Bc:=hid hP
       have An:=hid (Af.out.trans hS)
       have Ac:=hid (Aa.out.sole HP.out.1 hS)
       have h5r:=Aa.out.lt
       have h5s:=Af.out.size
       have hr52:=Aa.out.2
       have hbb:=Ao.out
       have Bd:Hid (zab (fun b=>Mix A0 w.heap.size b∧b≠wa1.heap.size) w6 ks8 (.slice o8 l8 c8)):=hL.weaken (fun b h=>by
        rcases h with h|h
        · have h0:=hbb b h
          exact ⟨Or.inl h,by omega⟩
        · exact ⟨Or.inr (by omega),by omega⟩)
       clear hP hS hT hL h5r h5s hr52 hbb
       unfold kidV
       obtain ⟨⟨z0,z1,z2,z3,z4⟩,⟨y0,y1,y2,y3,y4⟩⟩:=zaa Ac.out.1
       go_wp2
       refine ret5 z0 z1 z2 z3 z4 rfl (fun u q0 q1 q2 q3 q4=>by simp [results,Tryz.results111,go_sem,q0,q1,q2,q3,q4]) Ac.out.2 An.out ?_
       intro wz hf
       rw [Am.out]
       have hr2:=Ac.out.2
       have hpg:=HP.out
       exact ⟨_,_,_,rfl,zb3 Bd.out (fun b h=>h.1) (fun b h=>h.2) hf.2,rfl,Bc.out.sole_but (by omega) (by omega) hf.2,hf.1⟩
  · rw [hse] at Au
    by_cases hk:k9=26
    · have Aw:Hid (R=(if (PSof ts i full).sees [60] then ((PSof ts i full).want [60]).bind fun _ s=>if s.sees [62] then (s.want [62]).bind fun _ s=>.ok (named 16 t [(.node k9 n9 m9 a9 ks9)]) s else (zb7 s).bind fun v s=>(s.want [62]).bind fun _ s=>.ok (named 16 t [(.node k9 n9 m9 a9 ks9),v]) s else if k9==25||k9==26 then (PSof ts i full).bad 40 else .ok (named 14 t [(.node k9 n9 m9 a9 ks9)]) (PSof ts i full))):=by
       show _=_
       rw [Bi.out]
       show (if _ then _ else _)=_
       rw [if_neg (by simp [hk])]
      clear hse
      have hkn:(k9 != 26)=false:=by simp [hk]
      go_wp2_with fail
      clear hw3
      refine Au.out.mono ?_
      rintro e w4 ⟨rfl,hB4⟩
      have Ap:=hid (Bg.out.below hB4)
      have Ar:=hid (Bj.out.trans (Sole.of_below hB4))
      have Ad:=hid (Ay.out.below hB4)
      have Ai:=hid (Az.out.below hB4)
      have Aj:=hid (Ba.out.below hB4)
      have Av:=hid (Bl.out.below hB4)
      obtain ⟨⟨u0,u1,u2,u3,u4⟩,_⟩:=zaa Ad.out.1
      clear hB4
      clear hkn
      have hkn:(k9 != 26)=false:=by simp [hk]
      clear hk
      have Ae:=hid (zf8 p g cap ts i d full [60] w4 Ap.out)
      cases hse:(PSof ts i full).sees [60]
      · rw [hse] at Ae
        by_cases hk25:k9=25∨k9=26
        · have Al:Hid (R=(PSof ts i full).bad 40):=by
           show _=_
           rw [Aw.out,hse,if_neg (by simp),if_pos (by rcases hk25 with e|e <;> simp [e])]
          clear hse
          by_cases e25:k9=25
          · have hk5:(k9==25)=true:=by simp [e25]
            clear hk25 e25
            go_wp2_with fail
            refine Ae.out.mono ?_
            rintro e w5 ⟨rfl,hB5⟩
            have Ak:=hid (Ap.out.below hB5)
            have Af:=hid (Ar.out.trans (Sole.of_below hB5))
            have Ab:=hid (Ad.out.below hB5)
            have Aa:=hid (Ai.out.below hB5)
            have Ag:=hid (Aj.out.below hB5)
            have Aq:=hid (Av.out.below hB5)
            clear hB5
            have Bb:=hid (zdd p g cap ts i d 40 full w5 Ak.out)
            have Am:Hid (R=.no 40 (ts[i]'Ak.out.il).at_):=by
             show _=_
             rw [Al.out]
             unfold PS.bad
             rw [zb6 ts i full Ak.out.il]
            obtain ⟨⟨v0,v1,v2,v3,v4⟩,_⟩:=zaa Ab.out.1
            go_wp2_with fail
            refine Bb.out.mono ?_
            rintro e w6 ⟨rfl,hB6⟩
            have An:=hid (Af.out.trans (Sole.of_below hB6))
            clear hB6
            go_wp2
            refine ⟨rfl,?_⟩
            rw [Am.out]
            exact ⟨rfl,An.out⟩
          · have hk5:(k9==25)=false:=by simp [e25]
            have hk6:(k9==26)=true:=by rcases hk25 with e|e;exact absurd e e25;simp [e]
            clear hk25 e25
            go_wp2_with fail
            refine Ae.out.mono ?_
            rintro e w5 ⟨rfl,hB5⟩
            have Ak:=hid (Ap.out.below hB5)
            have Af:=hid (Ar.out.trans (Sole.of_below hB5))
            have Ab:=hid (Ad.out.below hB5)
            have Aa:=hid (Ai.out.below hB5)
            have Ag:=hid (Aj.out.below hB5)
            have Aq:=hid (Av.out.below hB5)
            clear hB5
            have Bb:=hid (zdd p g cap ts i d 40 full w5 Ak.out)
            have Am:Hid (R=.no 40 (ts[i]'Ak.out.il).at_):=by
             show _=_
             rw [Al.out]
             unfold PS.bad
             rw [zb6 ts i full Ak.out.il]
            obtain ⟨⟨v0,v1,v2,v3,v4⟩,_⟩:=zaa Ab.out.1
            go_wp2_with fail
            refine Bb.out.mono ?_
            rintro e w6 ⟨rfl,hB6⟩
            have An:=hid (Af.out.trans (Sole.of_below hB6))
            clear hB6
            go_wp2
            refine ⟨rfl,?_⟩
            rw [Am.out]
            exact ⟨rfl,An.out⟩
        · have Al:Hid (R=.ok (named 14 t [(.node k9 n9 m9 a9 ks9)]) (PSof ts i full)):=by
           show _=_
           rw [Aw.out,hse,if_neg (by simp),if_neg (by simp;omega)]
          have hk5:(k9==25)=false:=by simp;omega
          have hk6:(k9==26)=false:=by simp;omega
          clear hse hk25
          go_wp2_with fail
          refine Ae.out.mono ?_
          rintro e w5 ⟨rfl,hB5⟩
          have Ak:=hid (Ap.out.below hB5)
          have Af:=hid (Ar.out.trans (Sole.of_below hB5))
          have Ab:=hid (Ad.out.below hB5)
          have Aa:=hid (Ai.out.below hB5)
          have Ag:=hid (Aj.out.below hB5)
          have Aq:=hid (Av.out.below hB5)
          clear hB5
          obtain ⟨wq,hwq⟩:∃ x,w5.alloc (.cells #[.int .i64 k9,.string ⟨n9.toArray⟩,.int .i64 m9,.int .i64 a9,.slice o9 l9 c9] 29)=x:=⟨_,rfl⟩
          have hBq:Below w5.heap.size w5 wq:=by rw [<- hwq];exact zac _ _
          have Ax:=hid (zdh 14 t (some ⟨w5.heap.size,0,none⟩) 1 1 wq)
          have HQ:Hid (Below w5.heap.size w5 wq∧wq.heap[w5.heap.size]?=some (zdw [.int .i64 k9,.string ⟨n9.toArray⟩,.int .i64 m9,.int .i64 a9,.slice o9 l9 c9])):=⟨hBq,by rw [<- hwq];exact heap_alloc_new _ _⟩
          clear hBq
          obtain ⟨t0,t1,t2,t3⟩:=zbq Ag.out.1
          obtain ⟨⟨v0,v1,v2,v3,v4⟩,_⟩:=zaa Ab.out.1
          unfold tokV at Ax
          go_wp2_with fail
          refine Ax.out.mono ?_
          rintro e w6 ⟨rfl,hB6⟩
          have hp:=HP.out
          have hbb:=Ao.out
          have h5:=Af.out.size
          have hr5:=Aa.out.lt
          have hB56:Below w5.heap.size w5 w6:=HQ.out.1.trans (hB6.mono HQ.out.1.size)
          have Bc:=hid (Ak.out.below hB56)
          have An:=hid (Af.out.trans (Sole.of_below hB56))
          have Ac:=hid (Aa.out.below hB56)
          have Bd:Hid (zab (fun b=>Mix A0 w.heap.size b∧b≠wa1.heap.size) w6 [(.node k9 n9 m9 a9 ks9)] (.slice (some ⟨w5.heap.size,0,none⟩) 1 1)):=by
           refine zbh (zao hB6 HQ.out.2) (by simp) ⟨Or.inr (by omega),by omega⟩ (za3 ((Aq.out.below hB56).weaken (fun b h=>?_)))
           have h0:=hbb b h
           have:=Aa.out.2
           exact ⟨⟨Or.inl h,by omega⟩,by omega⟩
          clear hB6 hB56 hp hbb h5 hr5 hwq HQ
          unfold kidV
          obtain ⟨⟨z0,z1,z2,z3,z4⟩,⟨y0,y1,y2,y3,y4⟩⟩:=zaa Ac.out.1
          go_wp2
          refine ret5 z0 z1 z2 z3 z4 rfl (fun u q0 q1 q2 q3 q4=>by simp [results,Tryz.results111,go_sem,q0,q1,q2,q3,q4]) Ac.out.2 An.out ?_
          intro wz hf
          rw [Al.out]
          have hr2:=Ac.out.2
          have hpg:=HP.out
          exact ⟨_,_,_,rfl,zb3 Bd.out (fun b h=>h.1) (fun b h=>h.2) hf.2,rfl,Bc.out.sole_but (by omega) (by omega) hf.2,hf.1⟩
      · rw [hse] at Ae
        have Al:Hid (R=listP t (.node k9 n9 m9 a9 ks9) (PSof ts i full)):=by
         show _=_
         rw [Aw.out,hse,if_pos rfl]
         rfl
        clear hse
        go_wp2_with fail
        refine Ae.out.mono ?_
        rintro e w5 ⟨rfl,hB5⟩
        have Ak:=hid (Ap.out.below hB5)
        have Af:=hid (Ar.out.trans (Sole.of_below hB5))
        have Ab:=hid (Ad.out.below hB5)
        have Aa:=hid (Ai.out.below hB5)
        have Ag:=hid (Aj.out.below hB5)
        have Aq:=hid (Av.out.below hB5)
        clear hB5
        have Be:=hid (list_any p g cap ts HE.out i d full t k9 n9 m9 a9 ks9 o9 l9 c9 A0 w5 Ak.out (fun b h=>⟨(Ao.out b h).1,Nat.lt_of_lt_of_le (Ao.out b h).2 Af.out.size⟩) Aq.out)
        obtain ⟨rl,hrl⟩:∃ r,listP t (.node k9 n9 m9 a9 ks9) (PSof ts i full)=r:=⟨_,rfl⟩
        have Am:=hid (Al.out.trans hrl)
        rw [hrl] at Be
        clear hrl
        obtain ⟨t0,t1,t2,t3⟩:=zbq Ag.out.1
        obtain ⟨⟨v0,v1,v2,v3,v4⟩,_⟩:=zaa Ab.out.1
        unfold tokV kidV at Be
        go_wp2_with fail
        refine Be.out.mono ?_
        cases rl with
        | no why at_ =>
         rintro e w99 ⟨rfl,hS⟩
         have Ah:=hid (Af.out.trans hS)
         clear hS
         go_wp2
         refine ⟨rfl,?_⟩
         rw [Am.out]
         exact ⟨rfl,Ah.out⟩
        | ok tv st =>
         rintro e w6 ⟨v,i,full,rfl,hT,rfl,hP,hS⟩
         obtain ⟨k8,n8,m8,a8,ks8⟩:=tv
         obtain ⟨sl,rfl,hL⟩:=zaf.1 hT
         obtain ⟨o8,l8,c8,rfl⟩:=hL.shape
         have Bc:=hid hP
         have An:=hid (Af.out.trans hS)
         have Ac:=hid (Aa.out.sole HP.out.1 hS)
         have h5r:=Aa.out.lt
         have h5s:=Af.out.size
         have hr52:=Aa.out.2
         have hbb:=Ao.out
         have Bd:Hid (zab (fun b=>Mix A0 w.heap.size b∧b≠wa1.heap.size) w6 ks8 (.slice o8 l8 c8)):=hL.weaken (fun b h=>by
          rcases h with h|h
          · have h0:=hbb b h
            exact ⟨Or.inl h,by omega⟩
          · exact ⟨Or.inr (by omega),by omega⟩)
         clear hP hS hT hL h5r h5s hr52 hbb
         unfold kidV
         obtain ⟨⟨z0,z1,z2,z3,z4⟩,⟨y0,y1,y2,y3,y4⟩⟩:=zaa Ac.out.1
         go_wp2
         refine ret5 z0 z1 z2 z3 z4 rfl (fun u q0 q1 q2 q3 q4=>by simp [results,Tryz.results111,go_sem,q0,q1,q2,q3,q4]) Ac.out.2 An.out ?_
         intro wz hf
         rw [Am.out]
         have hr2:=Ac.out.2
         have hpg:=HP.out
         exact ⟨_,_,_,rfl,zb3 Bd.out (fun b h=>h.1) (fun b h=>h.2) hf.2,rfl,Bc.out.sole_but (by omega) (by omega) hf.2,hf.1⟩
    · have hix:=HE.out.sees Bg.out.il (t:=[91]) (by simp) hse
      obtain ⟨rt,hrt⟩:∃ r,(PSof ts i full).take=r:=⟨_,rfl⟩
      have Aw:Hid (R=rt.bind fun _ s=>(zb7 s).bind fun v s=>(s.want [93]).bind fun _ s=>.ok (named 15 t [(.node k9 n9 m9 a9 ks9),v]) s):=by
       show _=_
       rw [Bi.out,<- hrt]
       show (if _ then _ else _)=_
       rw [if_pos (by simp [hse,hk])]
      clear hse
      have hkn:(k9 != 26)=true:=by simp [hk]
      go_wp2_with fail
      clear hw3
      refine Au.out.mono ?_
      rintro e w4 ⟨rfl,hB4⟩
      have Ap:=hid (Bg.out.below hB4)
      have Ar:=hid (Bj.out.trans (Sole.of_below hB4))
      have Ad:=hid (Ay.out.below hB4)
      have Ai:=hid (Az.out.below hB4)
      have Aj:=hid (Ba.out.below hB4)
      have Av:=hid (Bl.out.below hB4)
      obtain ⟨⟨u0,u1,u2,u3,u4⟩,_⟩:=zaa Ad.out.1
      clear hB4
      have Br:=hid (zdm p g cap ts i d full w4 Ap.out hix)
      rw [hrt] at Br
      clear hrt hix hk
      go_wp2_with fail
      refine Br.out.mono ?_
      cases rt with
      | no why at_ =>
       rintro e w99 ⟨rfl,hS⟩
       have Ah:=hid (Ar.out.trans hS)
       clear hS
       go_wp2
       refine ⟨rfl,?_⟩
       rw [Aw.out]
       exact ⟨rfl,Ah.out⟩
      | ok tk st =>
       rintro e w5 ⟨v,i,full,rfl,rfl,rfl,hP,hS⟩
       have hp:=HP.out.1
       have Bs:=hid (zck p g cap ts HE.out i d full w5 hP)
       have Af:=hid (Ar.out.trans hS)
       have Ab:=hid (Ad.out.sole hp hS)
       have Aa:=hid (Ai.out.sole hp hS)
       have Ag:=hid (Aj.out.sole hp hS)
       have Aq:=hid (Av.out.sole (fun b h=>(Ao.out b h).1) hS)
       obtain ⟨rv,hrv⟩:∃ r,zb7 (PSof ts i full)=r:=⟨_,rfl⟩
       have Al:Hid (R=rv.bind fun v s=>(s.want [93]).bind fun _ s=>.ok (named 15 t [(.node k9 n9 m9 a9 ks9),v]) s):=by
        show _=_
        rw [Aw.out,<- hrv];rfl
       rw [hrv] at Bs
       clear hP hS hp hrv
       unfold tokV
       go_wp2_with fail
       refine Bs.out.mono ?_
       cases rv with
       | no why at_ =>
        rintro e w99 ⟨rfl,hS⟩
        have Ah:=hid (Af.out.trans hS)
        clear hS
        go_wp2
        refine ⟨rfl,?_⟩
        rw [Al.out]
        exact ⟨rfl,Ah.out⟩
       | ok tv st =>
        rintro e w6 ⟨v,i,full,rfl,hT,rfl,hP,hS⟩
        obtain ⟨k8,n8,m8,a8,ks8⟩:=tv
        obtain ⟨sl,rfl,hL⟩:=zaf.1 hT
        obtain ⟨o8,l8,c8,rfl⟩:=hL.shape
        have hp:=HP.out.1
        obtain ⟨w7,hw7⟩:∃ x,w6.alloc (.cells #[.int .i64 k8,.string ⟨n8.toArray⟩,.int .i64 m8,.int .i64 a8,.slice o8 l8 c8] 29)=x:=⟨_,rfl⟩
        have hB7:Below w6.heap.size w6 w7:=by rw [<- hw7];exact zac _ _
        have hs6:Sole p w w6:=Af.out.trans hS
        have Cb:=hid (hP.below hB7)
        have Bt:=hid (hs6.trans (Sole.of_below hB7))
        have Bm:=hid ((Ab.out.sole hp hS).below hB7)
        have Bn:=hid ((Aa.out.sole hp hS).below hB7)
        have Bo:=hid ((Ag.out.sole hp hS).below hB7)
        have Bp:Hid (Kep w w7 w6.heap.size (kidO k8 n8 m8 a8 (.slice o8 l8 c8))):=by show Kep w w7 _ _;rw [<- hw7];exact Kep.new hs6.size _
        have Cc:=hid ((Aq.out.sole (fun b h=>(Ao.out b h).1) hS).below hB7)
        have Cd:=hid (zae.below hT hB7)
        have Bu:Hid (wa1.heap.size<w5.heap.size∧w.heap.size<=w5.heap.size∧w5.heap.size<=w6.heap.size∧w6.heap.size<w7.heap.size):=⟨Aa.out.lt,Af.out.size,hS.size,by rw [<- hw7];simp⟩
        clear hP hS hp hB7 hs6 hT hL
        unfold kidV
        have Bv:=hid (zbt p g cap ts HE.out i d full [93] (by simp) w7 Cb.out)
        obtain ⟨ru,hru⟩:∃ r,(PSof ts i full).want [93]=r:=⟨_,rfl⟩
        have Am:Hid (R=ru.bind fun _ s=>.ok (named 15 t [(.node k9 n9 m9 a9 ks9),(.node k8 n8 m8 a8 ks8)]) s):=by
         show _=_
         rw [Al.out];first|(rw [<- hru];done)|(rw [<- hru];rfl)
        rw [hru] at Bv
        clear hru
        go_wp2_with fail
        refine Bv.out.mono ?_
        clear hw7
        cases ru with
        | no why at_ =>
         rintro e w99 ⟨rfl,hS⟩
         have Ah:=hid (Bt.out.trans hS)
         clear hS
         go_wp2
         refine ⟨rfl,?_⟩
         rw [Am.out]
         exact ⟨rfl,Ah.out⟩
        | ok u st =>
         rintro e w8 ⟨v,i,full,rfl,rfl,rfl,hP,hS⟩
         have hp:=HP.out.1
         have Ce:=hid hP
         have Cf:=hid (Bt.out.trans hS)
         have Bh:=hid (Bn.out.sole hp hS)
         have Cg:=hid (Cc.out.sole (fun b h=>(Ao.out b h).1) hS)
         have Ch:Hid (zae (zak w5.heap.size) w8 (.node k8 n8 m8 a8 ks8) (kidV k8 n8 m8 a8 (.slice o8 l8 c8))):=Cd.out.sole (fun b h=>by have h1:w5.heap.size<=b:=h;have:=Bu.out;omega) hS
         have Ci:=hid hS.size
         obtain ⟨t0,t1,t2,t3⟩:=zbq (Bo.out.sole hp hS).1
         obtain ⟨⟨v0,v1,v2,v3,v4⟩,_⟩:=zaa (Bm.out.sole hp hS).1
         obtain ⟨⟨x0,x1,x2,x3,x4⟩,_⟩:=zaa (Bp.out.sole hp hS).1
         obtain ⟨wq,hwq⟩:∃ x,w8.alloc (.cells #[.int .i64 k9,.string ⟨n9.toArray⟩,.int .i64 m9,.int .i64 a9,.slice o9 l9 c9,.int .i64 k8,.string ⟨n8.toArray⟩,.int .i64 m8,.int .i64 a8,.slice o8 l8 c8] 29)=x:=⟨_,rfl⟩
         have hBq:Below w8.heap.size w8 wq:=by rw [<- hwq];exact zac _ _
         have Ax:=hid (zdh 15 t (some ⟨w8.heap.size,0,none⟩) 2 2 wq)
         have HQ:Hid (Below w8.heap.size w8 wq∧wq.heap[w8.heap.size]?=some (zdw [.int .i64 k9,.string ⟨n9.toArray⟩,.int .i64 m9,.int .i64 a9,.slice o9 l9 c9,.int .i64 k8,.string ⟨n8.toArray⟩,.int .i64 m8,.int .i64 a8,.slice o8 l8 c8])):=⟨hBq,by rw [<- hwq];exact heap_alloc_new _ _⟩
         clear hP hS hp hBq
         unfold tokV at Ax
         go_wp2_with fail
         refine Ax.out.mono ?_
         rintro e w9 ⟨rfl,hB9⟩
         have hbb:=Ao.out
         have hle:=Bu.out
         have h78:=Ci.out
         have hr82:=Bh.out.2
         have hB89:Below w8.heap.size w8 w9:=HQ.out.1.trans (hB9.mono HQ.out.1.size)
         have Cj:=hid (Ce.out.below hB89)
         have Ck:=hid (Cf.out.trans (Sole.of_below hB89))
         have Bf:=hid (Bh.out.below hB89)
         have Cl:Hid (zab (fun b=>Mix A0 w.heap.size b∧b≠wa1.heap.size) w9 [(.node k9 n9 m9 a9 ks9),(.node k8 n8 m8 a8 ks8)] (.slice (some ⟨w8.heap.size,0,none⟩) 2 2)):=by
          refine zbh (zao hB9 HQ.out.2) (by simp) ⟨Or.inr (by omega),by omega⟩ (RowV.append [_] [_] _ _ (za3 ((Cg.out.below hB89).weaken (fun b h=>?_))) (za3 ((zae.below (zae.there _ _ Ch.out) hB89).weaken (fun b h=>?_))))
          · have h0:=hbb b h
            exact ⟨⟨Or.inl h,by omega⟩,by omega⟩
          · have h1:w5.heap.size<=b:=h.1
            exact ⟨⟨Or.inr (by omega),by omega⟩,by omega⟩
         clear hB9 hB89 hbb hle h78 hr82 hwq HQ
         unfold kidV
         obtain ⟨⟨z0,z1,z2,z3,z4⟩,⟨y0,y1,y2,y3,y4⟩⟩:=zaa Bf.out.1
         go_wp2
         refine ret5 z0 z1 z2 z3 z4 rfl (fun u q0 q1 q2 q3 q4=>by simp [results,Tryz.results111,go_sem,q0,q1,q2,q3,q4]) Bf.out.2 Ck.out ?_
         intro wz hf
         rw [Am.out]
         have hr2:=Bf.out.2
         have hpg:=HP.out
         exact ⟨_,_,_,rfl,zb3 Cl.out (fun b h=>h.1) (fun b h=>h.2) hf.2,rfl,Cj.out.sole_but (by omega) (by omega) hf.2,hf.1⟩
end Go.Proofs.YtighggeokiahfaaGreatDoor
