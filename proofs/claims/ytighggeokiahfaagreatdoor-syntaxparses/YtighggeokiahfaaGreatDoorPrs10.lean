import Derived.Test.YtighggeokiahfaaGreatDoorPrs09
import Derived.Shelf.Strconv.Itoa0
import Derived.Shelf.Strconv.Itoa1
import Derived.Shelf.LaysM
import Derived.Shelf.Strconv.Itoa2
import Derived.Shelf.Strconv.Itoa3
import Derived.Test.YtighggeokiahfaaGreatDoorProg
import Derived.Lib.ItoaLen
import Derived.Laws.BytesArg
set_option maxRecDepth 4000
set_option maxHeartbeats 20000000
namespace Go.Proofs.YtighggeokiahfaaGreatDoor
open Go.RowKit Go.Lib
inductive ITree where
 | node (k:Int) (n:List UInt8) (m a:Int) (ks:List ITree)
def zcu (k:Int) (n:List UInt8) (m a:Int) (sl:Value):Value:=.agg #[.int .i64 k,.string ⟨n.toArray⟩,.int .i64 m,.int .i64 a,sl]
def zhx (k:Int) (n:List UInt8) (m a:Int) (sl:Value):Obj:=.cells #[.int .i64 k,.string ⟨n.toArray⟩,.int .i64 m,.int .i64 a,sl] 29 (0,0)
theorem zax {w:World} {b:Nat} {k m a:Int} {n:List UInt8} {sl:Value} (h:w.heap[b]?=some (zhx k n m a sl)) :
 (w.cell? ⟨b,0,none⟩=some (.int .i64 k)∧w.cell? ⟨b,1,none⟩=some (.string ⟨n.toArray⟩)∧w.cell? ⟨b,2,none⟩=some (.int .i64 m)∧w.cell? ⟨b,3,none⟩=some (.int .i64 a)∧w.cell? ⟨b,4,none⟩=some sl) ∧
 (w.frozen? ⟨b,0,none⟩=false∧w.frozen? ⟨b,1,none⟩=false∧w.frozen? ⟨b,2,none⟩=false∧w.frozen? ⟨b,3,none⟩=false∧w.frozen? ⟨b,4,none⟩=false):=by
 unfold World.cell? World.frozen?;simp only [h];exact ⟨⟨rfl,rfl,rfl,rfl,rfl⟩,rfl,rfl,rfl,rfl,rfl⟩
mutual
def zik (B:Nat) (w:World):ITree->Value->Prop
 | .node k n m a ks,v=>∃ o c,v=zcu k n m a (.slice o ks.length c)∧ks.length<=c∧c<=maxLen∧n.length<=maxLen∧(-9223372036854775808<=m∧m<=9223372036854775807)∧(ks=[]∨∃ g,o=some ⟨g,0,none⟩∧g<B∧RowR B w g 0 ks)
def RowR (B:Nat) (w:World) (g:Nat):Nat->List ITree->Prop
 | _,[]=>True
 | j,t::ts=>(∃ v0 v1 v2 v3 v4,(w.cell? ⟨g,j*5,none⟩=some v0∧w.cell? ⟨g,j*5+1,none⟩=some v1∧w.cell? ⟨g,j*5+2,none⟩=some v2∧w.cell? ⟨g,j*5+3,none⟩=some v3∧w.cell? ⟨g,j*5+4,none⟩=some v4)∧zik B w t (.agg #[v0,v1,v2,v3,v4]))∧RowR B w g (j+1) ts
end
theorem zfm {B:Nat} {w:World} {k m a:Int} {n:List UInt8} {ks:List ITree} {v:Value} : zik B w (.node k n m a ks) v↔∃ o c,v=zcu k n m a (.slice o ks.length c)∧ks.length<=c∧c<=maxLen∧n.length<=maxLen∧(-9223372036854775808<=m∧m<=9223372036854775807)∧(ks=[]∨∃ g,o=some ⟨g,0,none⟩∧g<B∧RowR B w g 0 ks):=by rw [zik]
theorem ziw {B:Nat} {w:World} {g j:Nat} {t:ITree} {ts:List ITree} : RowR B w g j (t::ts)↔(∃ v0 v1 v2 v3 v4,(w.cell? ⟨g,j*5,none⟩=some v0∧w.cell? ⟨g,j*5+1,none⟩=some v1∧w.cell? ⟨g,j*5+2,none⟩=some v2∧w.cell? ⟨g,j*5+3,none⟩=some v3∧w.cell? ⟨g,j*5+4,none⟩=some v4)∧zik B w t (.agg #[v0,v1,v2,v3,v4]))∧RowR B w g (j+1) ts:=by rw [RowR]
mutual
theorem zik.frame {B B' : Nat} {w w' : World} (hB:B<=B') (h:∀ b,b<B->w'.heap[b]?=w.heap[b]?):(t:ITree)->(v:Value)->zik B w t v->zik B' w' t v
 | .node k n m a ks,v,ht=>by
  rw [zfm] at ht ⊢;obtain ⟨o,c,h1,h2,h3,h4,h5,h6⟩:=ht;refine ⟨o,c,h1,h2,h3,h4,h5,?_⟩;rcases h6 with h6|⟨g,h7,h8,h9⟩
  · exact Or.inl h6
  · exact Or.inr ⟨g,h7,Nat.lt_of_lt_of_le h8 hB,RowR.frame hB h g h8 0 ks h9⟩
theorem RowR.frame {B B' : Nat} {w w' : World} (hB:B<=B') (h:∀ b,b<B->w'.heap[b]?=w.heap[b]?) (g:Nat) (hg:g<B):(j:Nat)->(ts:List ITree)->RowR B w g j ts->RowR B' w' g j ts
 | _,[],_=>by rw [RowR];trivial
 | j,t::ts,hr=>by
  rw [ziw] at hr ⊢;obtain ⟨⟨v0,v1,v2,v3,v4,⟨c0,c1,c2,c3,c4⟩,ht⟩,hs⟩:=hr;have hgg:=h g hg;exact ⟨⟨v0,v1,v2,v3,v4,⟨(zac hgg _).1.trans c0,(zac hgg _).1.trans c1,(zac hgg _).1.trans c2,(zac hgg _).1.trans c3,(zac hgg _).1.trans c4⟩,zik.frame hB h t _ ht⟩,RowR.frame hB h g hg (j+1) ts hs⟩
end
theorem rowR_get {B:Nat} {w:World} {g:Nat} : (ts:List ITree)->(j i:Nat)->(hi:i<ts.length)->RowR B w g j ts->∃ v0 v1 v2 v3 v4,(w.cell? ⟨g,(j+i)*5,none⟩=some v0∧w.cell? ⟨g,(j+i)*5+1,none⟩=some v1∧w.cell? ⟨g,(j+i)*5+2,none⟩=some v2∧w.cell? ⟨g,(j+i)*5+3,none⟩=some v3∧w.cell? ⟨g,(j+i)*5+4,none⟩=some v4)∧zik B w ts[i] (.agg #[v0,v1,v2,v3,v4])
 | [],_,_,hi,_=>by simp at hi
 | t::ts,j,0,_,h=>by
  rw [ziw] at h;exact h.1
 | t::ts,j,i+1,hi,h=>by
  rw [ziw] at h;have:=rowR_get ts (j+1) i (by simp at hi;omega) h.2;rw [show j+1+i=j+(i+1) by omega] at this;exact this
structure KidR (w:World) (g j:Nat) (k:Int) (n:List UInt8) (m a:Int) (sl:Value):Prop where
 c0:w.cell? ⟨g,j*5,none⟩=some (.int .i64 k)
 c1:w.cell? ⟨g,j*5+1,none⟩=some (.string ⟨n.toArray⟩)
 c2:w.cell? ⟨g,j*5+2,none⟩=some (.int .i64 m)
 c3:w.cell? ⟨g,j*5+3,none⟩=some (.int .i64 a)
 c4:w.cell? ⟨g,j*5+4,none⟩=some sl
theorem KidR.frame {w w' : World} {g j:Nat} {k m a:Int} {n:List UInt8} {sl:Value} (h:KidR w g j k n m a sl) (hg:w'.heap[g]?=w.heap[g]?):KidR w' g j k n m a sl :=
 ⟨(zac hg _).1.trans h.c0,(zac hg _).1.trans h.c1,(zac hg _).1.trans h.c2,(zac hg _).1.trans h.c3,(zac hg _).1.trans h.c4⟩
theorem zn3 {B:Nat} {w:World} {g:Nat} {ks:List ITree} (h:RowR B w g 0 ks) (i:Nat) (hi:i<ks.length) (k m a:Int) (n:List UInt8) (us:List ITree) (he:ks[i]=.node k n m a us) :
 ∃ o c,KidR w g i k n m a (.slice o us.length c)∧zik B w (.node k n m a us) (zcu k n m a (.slice o us.length c)):=by
 obtain ⟨v0,v1,v2,v3,v4,⟨c0,c1,c2,c3,c4⟩,ht⟩:=rowR_get ks 0 i hi h;rw [Nat.zero_add] at c0 c1 c2 c3 c4;rw [he] at ht;have ht2:=ht;rw [zfm] at ht2;obtain ⟨o,c,h1,_⟩:=ht2;unfold zcu at h1;have h1:=congrArg (fun v=>match v with|Value.agg l=>l.toList|_=>[]) h1;simp at h1
 obtain ⟨rfl,rfl,rfl,rfl,rfl⟩:=h1;exact ⟨o,c,⟨c0,c1,c2,c3,c4⟩,ht⟩
mutual
def Tree.toI:Tree->ITree
 | .node k n m a ks=>.node k n m a (toIs ks)
def toIs:List Tree->List ITree
 | []=>[]
 | t::ts=>t.toI::toIs ts
end
theorem znh:(ts:List Tree)->(toIs ts).length=ts.length
 | []=>by rw [toIs];rfl
 | t::ts=>by rw [toIs];simp [znh ts]
mutual
def TreeOk:Tree->Prop
 | .node _ n m _ ks=>n.length<=maxLen∧(-9223372036854775808<=m∧m<=9223372036854775807)∧zl5 ks
def zl5:List Tree->Prop
 | []=>True
 | t::ts=>TreeOk t∧zl5 ts
end
mutual
theorem TreeAt.toR {A:Nat->Prop} {w:World} : (t:Tree)->(v:Value)->TreeOk t->TreeAt A w t v->zik w.heap.size w t.toI v
 | .node k n m a ks,v,hk,h=>by
  rw [TreeAt] at h;rw [TreeOk] at hk;obtain ⟨sl,rfl,xs,hown,hA,hrow⟩:=h;rw [Tree.toI,zfm];rcases hown with ⟨hxl,⟨rfl,hk0⟩|⟨g,cap,cur,rfl,_,hg,hnc,hcm,hcs,htake⟩⟩
  · have:ks=[]:=List.length_eq_zero_iff.1 hk0;subst this;exact ⟨none,0,rfl,by simp [toIs],by unfold maxLen;omega,hk.1,hk.2.1,Or.inl (by rw [toIs])⟩
  · refine ⟨some ⟨g,0,none⟩,cap,by rw [znh];rfl,by rw [znh];exact hnc,hcm,hk.1,hk.2.1,Or.inr ⟨g,rfl,zej hg,?_⟩⟩;refine RowV.toR g 0 ks xs hk.2.2 (fun i x hx=>?_) hrow;have h2:i<xs.length:=(List.getElem?_eq_some_iff.1 hx).1;rw [<- htake,List.getElem?_take] at hx;split at hx
    · rw [Nat.zero_mul,Nat.zero_add];unfold World.cell?;simp only [hg];simpa using hx
    · cases hx
theorem RowV.toR {A:Nat->Prop} {w:World} (g:Nat):(j:Nat)->(ts:List Tree)->(xs:List Value)->zl5 ts->(∀ i x,xs[i]?=some x->w.cell? ⟨g,j*5+i,none⟩=some x)->RowV A w ts xs->RowR w.heap.size w g j (toIs ts)
 | j,[],xs,_,_,_=>by rw [toIs,RowR];trivial
 | j,t::ts,xs,hk,hx,h=>by
  rw [zl5] at hk;replace h:=rowV_cons.1 h;obtain ⟨v0,v1,v2,v3,v4,ys,rfl,ht,hr⟩:=h;rw [toIs,ziw];refine ⟨⟨v0,v1,v2,v3,v4,⟨hx 0 _ rfl,hx 1 _ rfl,hx 2 _ rfl,hx 3 _ rfl,hx 4 _ rfl⟩,TreeAt.toR t _ hk.1 ht⟩,RowV.toR g (j+1) ts ys hk.2 (fun i x hi=>?_) hr⟩;have:=hx (i+5) x (by simpa using hi);rw [show (j+1)*5+i=j*5+(i+5) by omega];exact this
end
def zf8 (n:List UInt8) (name:Bool):Bool:=(Lx.isNameP n==name)&&(name||n==[])
def zdj (len:Nat) (m:Int) (least most:Nat):Bool:=decide (least<=len)&&decide (len<=most)&&m==0
def zkl (ok:Bool) (w:World) (e:Ending) (w' : World):Prop:=Below w.heap.size w w'∧((ok=true∧e=.returned (.tuple #[]))∨(ok=false∧e=zaw))
theorem zn0 (k:Int) (n:List UInt8) (m a:Int) (o:Option Addr) (len c least most:Nat) (w:World) (hn:(n.length:Int)<=9223372036854775807) :
 Calls Tryz.prog 59 #[zcu k n m a (.slice o len c),.bool true,.int .i64 (least:Nat),.int .i64 (most:Nat)] w (zkl (zf8 n true&&zdj len m least most) w):=by
 have hq:∀ w,Calls Tryz.prog 96 #[.string ⟨n.toArray⟩] w fun e w'=>e=.returned (.bool (Lx.isNameP n))∧w'=w:=fun w=>Lx.isName_any n w hn;have HQ:=hid hq;clear hq;obtain ⟨R,hR⟩:∃ R,(zf8 n true&&zdj len m least most)=R:=⟨_,rfl⟩;rw [hR];have HR:=hid hR;obtain ⟨wa,hwa⟩:∃ x,w.alloc (.cells #[.int .i64 k,.string ⟨n.toArray⟩,.int .i64 m,.int .i64 a,.slice o len c] 29)=x:=⟨_,rfl⟩;have HB:=hidB hwa;have kk:wa.heap[w.heap.size]?=some (zhx k n m a (.slice o len c)):=by rw [<- hwa];exact heap_alloc_new _ _
 obtain ⟨⟨z0,z1,z2,z3,z4⟩,_⟩:=zax kk;unfold zcu;clear hR kk;obtain ⟨N,hN⟩:∃ N,Lx.isNameP n=N:=⟨_,rfl⟩;rw [hN] at HQ;have HN:=hid hN;obtain ⟨E,hE⟩:∃ E,(n==[])=E:=⟨_,rfl⟩;have HE:=hid hE;clear hN;obtain ⟨X,hX⟩:∃ X,((N==true)&&(true||E))=X:=⟨_,rfl⟩;have HX:Hid (zf8 n true=X):=by show _=_;unfold zf8;rw [HN.out,HE.out];exact hX
 by_cases h1:least<=len
 · have i1:(least:Int)<=len:=by omega
   have j1:decide ((least:Int)<=len)=true:=by simp;omega
   by_cases h2:len<=most
   · have i2:(len:Int)<=most:=(by omega);have j2:decide ((len:Int)<=most)=true:=(by simp;omega);by_cases h3:m=0
     · subst h3;have HS:Hid (zdj len 0 least most=true):=(by show _=_;unfold zdj;simp [h1,h2]);clear hn;(cases N <;> cases E <;> simp at hX <;> subst hX);all_goals (
        (go_enter Tryz.func59,Tryz.ntmps59);(go_wp2_with (first|(go_at_call 96;refine (HQ.out _).mono ?_;rintro e wi ⟨rfl,hwi⟩;rw [hwi];clear hwi wi)|(go_at_call 58;refine (zbl _).mono ?_;rintro e wi ⟨rfl,hwi⟩;rw [hwi];clear hwi wi)|(go_at_call 58;refine (zba _).mono ?_;rintro e wi ⟨he,hwi⟩;rw [hwi];clear hwi;unfold zaw at he;rw [he];clear he wi)));first
        | (first|go_end0|refine bodyPost_ret (results_none rfl _ _ _) rfl ?_
           refine ⟨HB.out,Or.inl ⟨?_,rfl⟩⟩
           rw [<- HR.out,HX.out,HS.out];rfl)
        | (refine ⟨rfl,HB.out,Or.inr ⟨?_,rfl⟩⟩
           rw [<- HR.out,HX.out,HS.out];rfl))
     · have j3:(m==0)=false:=(by simp [h3]);have HS:Hid (zdj len m least most=false):=(by show _=_;unfold zdj;simp [h3]);clear hn;(cases N <;> cases E <;> simp at hX <;> subst hX);all_goals (
        (go_enter Tryz.func59,Tryz.ntmps59);(go_wp2_with (first|(go_at_call 96;refine (HQ.out _).mono ?_;rintro e wi ⟨rfl,hwi⟩;rw [hwi];clear hwi wi)|(go_at_call 58;refine (zbl _).mono ?_;rintro e wi ⟨rfl,hwi⟩;rw [hwi];clear hwi wi)|(go_at_call 58;refine (zba _).mono ?_;rintro e wi ⟨he,hwi⟩;rw [hwi];clear hwi;unfold zaw at he;rw [he];clear he wi)));first
        | (first|go_end0|refine bodyPost_ret (results_none rfl _ _ _) rfl ?_
           refine ⟨HB.out,Or.inl ⟨?_,rfl⟩⟩
           rw [<- HR.out,HX.out,HS.out];rfl)
        | (refine ⟨rfl,HB.out,Or.inr ⟨?_,rfl⟩⟩
           rw [<- HR.out,HX.out,HS.out];rfl))
   · have i2:¬ (len:Int)<=most:=(by omega);have j2:decide ((len:Int)<=most)=false:=(by simp;omega);have HS:Hid (zdj len m least most=false):=(by show _=_;unfold zdj;simp [h2]);clear hn;(cases N <;> cases E <;> simp at hX <;> subst hX);all_goals (
      (go_enter Tryz.func59,Tryz.ntmps59);(go_wp2_with (first|(go_at_call 96;refine (HQ.out _).mono ?_;rintro e wi ⟨rfl,hwi⟩;rw [hwi];clear hwi wi)|(go_at_call 58;refine (zbl _).mono ?_;rintro e wi ⟨rfl,hwi⟩;rw [hwi];clear hwi wi)|(go_at_call 58;refine (zba _).mono ?_;rintro e wi ⟨he,hwi⟩;rw [hwi];clear hwi;unfold zaw at he;rw [he];clear he wi)));first
      | (first|go_end0|refine bodyPost_ret (results_none rfl _ _ _) rfl ?_
         refine ⟨HB.out,Or.inl ⟨?_,rfl⟩⟩
         rw [<- HR.out,HX.out,HS.out];rfl)
      | (refine ⟨rfl,HB.out,Or.inr ⟨?_,rfl⟩⟩
         rw [<- HR.out,HX.out,HS.out];rfl))
 · have i1:¬ (least:Int)<=len:=by omega
   have j1:decide ((least:Int)<=len)=false:=by simp;omega
   have HS:Hid (zdj len m least most=false):=by show _=_;unfold zdj;simp [h1]
   clear hn;cases N <;> cases E <;> simp at hX <;> subst hX
   all_goals (
    (go_enter Tryz.func59,Tryz.ntmps59);(go_wp2_with (first|(go_at_call 96;refine (HQ.out _).mono ?_;rintro e wi ⟨rfl,hwi⟩;rw [hwi];clear hwi wi)|(go_at_call 58;refine (zbl _).mono ?_;rintro e wi ⟨rfl,hwi⟩;rw [hwi];clear hwi wi)|(go_at_call 58;refine (zba _).mono ?_;rintro e wi ⟨he,hwi⟩;rw [hwi];clear hwi;unfold zaw at he;rw [he];clear he wi)));first
    | (first|go_end0|refine bodyPost_ret (results_none rfl _ _ _) rfl ?_
       refine ⟨HB.out,Or.inl ⟨?_,rfl⟩⟩
       rw [<- HR.out,HX.out,HS.out];rfl)
    | (refine ⟨rfl,HB.out,Or.inr ⟨?_,rfl⟩⟩
       rw [<- HR.out,HX.out,HS.out];rfl))
theorem zmf (k:Int) (n:List UInt8) (m a:Int) (o:Option Addr) (len c least most:Nat) (w:World) (hn:(n.length:Int)<=9223372036854775807) :
 Calls Tryz.prog 59 #[zcu k n m a (.slice o len c),.bool false,.int .i64 (least:Nat),.int .i64 (most:Nat)] w (zkl (zf8 n false&&zdj len m least most) w):=by
 have hq:∀ w,Calls Tryz.prog 96 #[.string ⟨n.toArray⟩] w fun e w'=>e=.returned (.bool (Lx.isNameP n))∧w'=w:=fun w=>Lx.isName_any n w hn;have HQ:=hid hq;clear hq;obtain ⟨R,hR⟩:∃ R,(zf8 n false&&zdj len m least most)=R:=⟨_,rfl⟩;rw [hR];have HR:=hid hR;obtain ⟨wa,hwa⟩:∃ x,w.alloc (.cells #[.int .i64 k,.string ⟨n.toArray⟩,.int .i64 m,.int .i64 a,.slice o len c] 29)=x:=⟨_,rfl⟩;have HB:=hidB hwa;have kk:wa.heap[w.heap.size]?=some (zhx k n m a (.slice o len c)):=by rw [<- hwa];exact heap_alloc_new _ _
 obtain ⟨⟨z0,z1,z2,z3,z4⟩,_⟩:=zax kk;unfold zcu;clear hR kk;obtain ⟨N,hN⟩:∃ N,Lx.isNameP n=N:=⟨_,rfl⟩;rw [hN] at HQ;have HN:=hid hN;obtain ⟨E,hE⟩:∃ E,(n==[])=E:=⟨_,rfl⟩;have HE:=hid hE;clear hN;obtain ⟨X,hX⟩:∃ X,((N==false)&&(false||E))=X:=⟨_,rfl⟩;have HX:Hid (zf8 n false=X):=by show _=_;unfold zf8;rw [HN.out,HE.out];exact hX
 by_cases h1:least<=len
 · have i1:(least:Int)<=len:=by omega
   have j1:decide ((least:Int)<=len)=true:=by simp;omega
   by_cases h2:len<=most
   · have i2:(len:Int)<=most:=(by omega);have j2:decide ((len:Int)<=most)=true:=(by simp;omega);by_cases h3:m=0
     · subst h3;have HS:Hid (zdj len 0 least most=true):=(by show _=_;unfold zdj;simp [h1,h2]);clear hn;(cases N <;> cases E <;> simp at hX <;> subst hX);all_goals (
        (go_enter Tryz.func59,Tryz.ntmps59);(go_wp2_with (first|(go_at_call 96;refine (HQ.out _).mono ?_;rintro e wi ⟨rfl,hwi⟩;rw [hwi];clear hwi wi)|(go_at_call 58;refine (zbl _).mono ?_;rintro e wi ⟨rfl,hwi⟩;rw [hwi];clear hwi wi)|(go_at_call 58;refine (zba _).mono ?_;rintro e wi ⟨he,hwi⟩;rw [hwi];clear hwi;unfold zaw at he;rw [he];clear he wi)));first
        | (first|go_end0|refine bodyPost_ret (results_none rfl _ _ _) rfl ?_
           refine ⟨HB.out,Or.inl ⟨?_,rfl⟩⟩
           rw [<- HR.out,HX.out,HS.out];rfl)
        | (refine ⟨rfl,HB.out,Or.inr ⟨?_,rfl⟩⟩
           rw [<- HR.out,HX.out,HS.out];rfl))
     · have j3:(m==0)=false:=(by simp [h3]);have HS:Hid (zdj len m least most=false):=(by show _=_;unfold zdj;simp [h3]);clear hn;(cases N <;> cases E <;> simp at hX <;> subst hX);all_goals (
        (go_enter Tryz.func59,Tryz.ntmps59);(go_wp2_with (first|(go_at_call 96;refine (HQ.out _).mono ?_;rintro e wi ⟨rfl,hwi⟩;rw [hwi];clear hwi wi)|(go_at_call 58;refine (zbl _).mono ?_;rintro e wi ⟨rfl,hwi⟩;rw [hwi];clear hwi wi)|(go_at_call 58;refine (zba _).mono ?_;rintro e wi ⟨he,hwi⟩;rw [hwi];clear hwi;unfold zaw at he;rw [he];clear he wi)));first
        | (first|go_end0|refine bodyPost_ret (results_none rfl _ _ _) rfl ?_
           refine ⟨HB.out,Or.inl ⟨?_,rfl⟩⟩
           rw [<- HR.out,HX.out,HS.out];rfl)
        | (refine ⟨rfl,HB.out,Or.inr ⟨?_,rfl⟩⟩
           rw [<- HR.out,HX.out,HS.out];rfl))
   · have i2:¬ (len:Int)<=most:=(by omega);have j2:decide ((len:Int)<=most)=false:=(by simp;omega);have HS:Hid (zdj len m least most=false):=(by show _=_;unfold zdj;simp [h2]);clear hn;(cases N <;> cases E <;> simp at hX <;> subst hX);all_goals (
      (go_enter Tryz.func59,Tryz.ntmps59);(go_wp2_with (first|(go_at_call 96;refine (HQ.out _).mono ?_;rintro e wi ⟨rfl,hwi⟩;rw [hwi];clear hwi wi)|(go_at_call 58;refine (zbl _).mono ?_;rintro e wi ⟨rfl,hwi⟩;rw [hwi];clear hwi wi)|(go_at_call 58;refine (zba _).mono ?_;rintro e wi ⟨he,hwi⟩;rw [hwi];clear hwi;unfold zaw at he;rw [he];clear he wi)));first
      | (first|go_end0|refine bodyPost_ret (results_none rfl _ _ _) rfl ?_
         refine ⟨HB.out,Or.inl ⟨?_,rfl⟩⟩
         rw [<- HR.out,HX.out,HS.out];rfl)
      | (refine ⟨rfl,HB.out,Or.inr ⟨?_,rfl⟩⟩
         rw [<- HR.out,HX.out,HS.out];rfl))
 · have i1:¬ (least:Int)<=len:=by omega
   have j1:decide ((least:Int)<=len)=false:=by simp;omega
   have HS:Hid (zdj len m least most=false):=by show _=_;unfold zdj;simp [h1]
   clear hn;cases N <;> cases E <;> simp at hX <;> subst hX
   all_goals (
    (go_enter Tryz.func59,Tryz.ntmps59);(go_wp2_with (first|(go_at_call 96;refine (HQ.out _).mono ?_;rintro e wi ⟨rfl,hwi⟩;rw [hwi];clear hwi wi)|(go_at_call 58;refine (zbl _).mono ?_;rintro e wi ⟨rfl,hwi⟩;rw [hwi];clear hwi wi)|(go_at_call 58;refine (zba _).mono ?_;rintro e wi ⟨he,hwi⟩;rw [hwi];clear hwi;unfold zaw at he;rw [he];clear he wi)));first
    | (first|go_end0|refine bodyPost_ret (results_none rfl _ _ _) rfl ?_
       refine ⟨HB.out,Or.inl ⟨?_,rfl⟩⟩
       rw [<- HR.out,HX.out,HS.out];rfl)
    | (refine ⟨rfl,HB.out,Or.inr ⟨?_,rfl⟩⟩
       rw [<- HR.out,HX.out,HS.out];rfl))
end Go.Proofs.YtighggeokiahfaaGreatDoor
namespace Go.Proofs
open Go.Shelf
open Go.RowKit Go.Sort Go.Lib in
def Tryz.lays171_ren:Go.Shelf.Ren:=⟨fun|171=>130|243=>155|246=>163|283=>165|284=>166|285=>167|286=>168|129=>170|317=>169|318=>171|319=>172|320=>173|337=>174|338=>175|n=>n,fun|3=>3|9=>9|2=>2|4=>4|171=>127|0=>0|53=>128|37=>66|5=>5|173=>131|212=>134|51=>135|20=>20|213=>136|46=>138|232=>141|233=>142|n=>n,fun|17=>1|18=>2|19=>3|n=>n⟩
theorem Tryz.lays171:Go.Proofs.Lays.n171 Tryz.prog Tryz.lays171_ren:={
 mixed:=by kernel_rfl
 f129:=Tryz.func170.trans (congrArg some (by kernel_rfl))
 f171:=Tryz.func130.trans (congrArg some (by kernel_rfl))
 f243:=Tryz.func155.trans (congrArg some (by kernel_rfl))
 f246:=Tryz.func163.trans (congrArg some (by kernel_rfl))
 f283:=Tryz.func165.trans (congrArg some (by kernel_rfl))
 f284:=Tryz.func166.trans (congrArg some (by kernel_rfl))
 f285:=Tryz.func167.trans (congrArg some (by kernel_rfl))
 f286:=Tryz.func168.trans (congrArg some (by kernel_rfl))
 f317:=Tryz.func169.trans (congrArg some (by kernel_rfl))
 f318:=Tryz.func171.trans (congrArg some (by kernel_rfl))
 f319:=Tryz.func172.trans (congrArg some (by kernel_rfl))
 f320:=Tryz.func173.trans (congrArg some (by kernel_rfl))
 f337:=Tryz.func174.trans (congrArg some (by kernel_rfl))
 f338:=Tryz.func175.trans (congrArg some (by kernel_rfl))
 t0:=Tryz.underlying0
 a0:=Tryz.isAgg0
 z0:=Tryz.sizeOf0
 v0:=Tryz.zeroValue0
 t2:=Tryz.underlying2
 a2:=Tryz.isAgg2
 z2:=Tryz.sizeOf2
 v2:=Tryz.zeroValue2
 t3:=Tryz.underlying3
 a3:=Tryz.isAgg3
 z3:=Tryz.sizeOf3
 v3:=Tryz.zeroValue3
 t4:=Tryz.underlying4
 a4:=Tryz.isAgg4
 z4:=Tryz.sizeOf4
 v4:=Tryz.zeroValue4
 t5:=Tryz.underlying5
 a5:=Tryz.isAgg5
 z5:=Tryz.sizeOf5
 v5:=Tryz.zeroValue5
 t9:=Tryz.underlying9
 a9:=Tryz.isAgg9
 z9:=Tryz.sizeOf9
 v9:=Tryz.zeroValue9
 t20:=Tryz.underlying20
 a20:=Tryz.isAgg20
 z20:=Tryz.sizeOf20
 v20:=Tryz.zeroValue20
 t37:=Tryz.underlying66
 a37:=Tryz.isAgg66
 z37:=Tryz.sizeOf66
 v37:=Tryz.zeroValue66
 t46:=Tryz.underlying138
 a46:=Tryz.isAgg138
 z46:=Tryz.sizeOf138
 v46:=Tryz.zeroValue138
 t51:=Tryz.underlying135
 a51:=Tryz.isAgg135
 z51:=Tryz.sizeOf135
 v51:=Tryz.zeroValue135
 t53:=Tryz.underlying128
 a53:=Tryz.isAgg128
 z53:=Tryz.sizeOf128
 v53:=Tryz.zeroValue128
 t171:=Tryz.underlying127
 a171:=Tryz.isAgg127
 z171:=Tryz.sizeOf127
 v171:=Tryz.zeroValue127
 t173:=Tryz.underlying131
 a173:=Tryz.isAgg131
 z173:=Tryz.sizeOf131
 v173:=Tryz.zeroValue131
 t212:=Tryz.underlying134
 a212:=Tryz.isAgg134
 z212:=Tryz.sizeOf134
 v212:=Tryz.zeroValue134
 t213:=Tryz.underlying136
 a213:=Tryz.isAgg136
 z213:=Tryz.sizeOf136
 t232:=Tryz.underlying141
 a232:=Tryz.isAgg141
 z232:=Tryz.sizeOf141
 v232:=Tryz.zeroValue141
 t233:=Tryz.underlying142
 a233:=Tryz.isAgg142
 z233:=Tryz.sizeOf142
 v233:=Tryz.zeroValue142
 g17:=by kernel_rfl
 g18:=by kernel_rfl
 g19:=by kernel_rfl }
open Go.RowKit Go.Sort Go.Lib in
theorem Tryz.strconv_Itoa_small (i:Nat) (hi:i<100) (w:World) :
 Calls Tryz.prog 130 #[.int .i64 i] w fun e w'=>e=.returned (.string ⟨(Lib.decDigits i).toArray⟩)∧w'=w:=Any.strconv_Itoa_small Tryz.lays171 i hi w
end Go.Proofs
namespace Go.Proofs.YtighggeokiahfaaGreatDoor
open Go.RowKit Go.Lib
theorem layP_len:(ts:List (List UInt8))->(txt x:List UInt8)->txt.length<=16000->layP ts txt=some x->x.length<=16000
 | [],txt,x,h,e=>by rw [layP] at e;cases e;exact h
 | t::ts,txt,x,h,e=>by
  rw [layP_cons] at e;split at e
  · next h2=>exact layP_len ts _ x h2 e
  · cases e
def zhw (p:Nat) (d:Int) (v0:Value) (R:Option (List UInt8)) (w:World) (e:Ending) (w' : World):Prop :=
 ∃ v',Lx.Kept p v0 v' w w'∧((∃ x,R=some x∧x.length<=16000∧e=.returned (.tuple #[])∧PR w' p x d v')∨(R=none∧e=zaw))
theorem own_lt {w:World} {base:Nat} {v:Value} {n:Nat} {xs:List Value} (h:w.ownsRow base 5 1 v n xs) (b:Nat) (hb:w.heap.size<=b):some b≠v.ownBlock:=by
 rcases h.2 with ⟨rfl,rfl⟩|⟨g,cap,cur,rfl,hbg,hg,_⟩
 · simp [Value.ownBlock]
 · have:=zej hg;simp [Value.ownBlock]
   omega
theorem lay_lit (p:Nat) (ts:List (List UInt8)) (cs:Array Value) (hcs:cs=(ts.map fun t=>Value.string ⟨t.toArray⟩).toArray) (hts:∀ t∈ts,t≠[]∧t.length<=64) (hn:ts.length<=3) (N:Nat) (hN:ts.length=N) (txt:List UInt8) (d:Int) (v0:Value) (cur:World) (h:PR cur p txt d v0) (hx:txt.length<=16000) :
 Calls Tryz.prog 61 #[.pointer (some ⟨p,0,none⟩),.slice (some ⟨cur.heap.size,0,none⟩) N N] (cur.alloc (.cells cs 9)) (zhw p d v0 (layP ts txt) cur):=by
 subst hN;have hlt:=h.lt;have hB:Below cur.heap.size cur (cur.alloc (.cells cs 9)):=zab _ _;refine (zlh p cur.heap.size ts.length ts hts hn txt d v0 _ (h.below hB) hx (by omega) (by simp) (own_lt h.own _ (Nat.le_refl _)) ?_).mono ?_
 · intro j hj;have hb:(cur.alloc (.cells cs 9)).heap[cur.heap.size]?=some (.cells cs 9):=heap_alloc_new _ _;unfold World.cell?;simp only [hb];rw [hcs];simp [hj]
 · rintro e w' ⟨v',hk,h2⟩;refine ⟨v',(Lx.Kept.of_below hB).trans hk,?_⟩;rcases h2 with ⟨x,h3,h4,h5⟩|h3
   · exact Or.inl ⟨x,h3,layP_len _ _ _ hx h3,h4,h5⟩
   · exact Or.inr h3
def zle (k:Int) (n:List UInt8) (len:Nat):Bool:=k==28&&n==[]&&len==0
def znz (m least:Int):Bool:=decide (least<=m)&&decide (m<=4294967295)
def zj9 (least:Int) (k:Int) (n:List UInt8) (m:Int) (len:Nat) (txt:List UInt8):Option (List UInt8):=if zle k n len&&znz m least then layP [itoa m] txt else none
theorem itoa_some (n:Int):itoa n≠[]:=by
 have h:∀ u,decDigits u≠[]:=fun u e=>by
  have:=decDigits_length u;have h2:=nDigits_pos u;rw [e] at this;simp at this
  omega
 unfold itoa;split
 · exact List.cons_ne_nil _ _
 · exact h _
theorem pnumber_any (p:Nat) (k:Int) (n:List UInt8) (m a:Int) (o:Option Addr) (len c:Nat) (least:Int) (txt:List UInt8) (d:Int) (v0:Value) (w:World) (h:PR w p txt d v0) (hx:txt.length<=16000) (hm0:-9223372036854775808<=m) (hm1:m<=9223372036854775807)
 (hI:∀ w1,Below w.heap.size w w1->Calls Tryz.prog 130 #[.int .i64 m] w1 fun e w'=>e=.returned (.string ⟨(itoa m).toArray⟩)∧Below w1.heap.size w1 w') :
 Calls Tryz.prog 97 #[.pointer (some ⟨p,0,none⟩),zcu k n m a (.slice o len c),.int .i64 least] w (zhw p d v0 (zj9 least k n m len txt) w):=by
 have HI:=hid hI;have HP:=hid2 h hx;have HL:Hid ((itoa m).length<=64):=Nat.le_trans (itoa_length_le m hm0 hm1) (by decide);clear hI h hx hm0 hm1;obtain ⟨R,hR⟩:∃ R,zj9 least k n m len txt=R:=⟨_,rfl⟩;rw [hR];have HR:=hid hR;obtain ⟨wa,hwa⟩:∃ x,w.alloc (.cells #[.int .i64 k,.string ⟨n.toArray⟩,.int .i64 m,.int .i64 a,.slice o len c] 29)=x:=⟨_,rfl⟩;have HB:=hidB hwa;have kk:wa.heap[w.heap.size]?=some (zhx k n m a (.slice o len c)):=by rw [<- hwa];exact heap_alloc_new _ _
 have HK:=hid kk;obtain ⟨⟨z0,z1,z2,z3,z4⟩,_⟩:=zax kk;unfold zcu;clear hR kk;obtain ⟨E,hE⟩:∃ E,(n==[])=E:=⟨_,rfl⟩;have HE:=hid hE;by_cases h1:k=28
 · subst h1;cases E with
   | true =>
    by_cases h2:len=0
    · subst h2;have Ae:Hid (zle 28 n 0=true):=(by show _=_;unfold zle;rw [HE.out];rfl);by_cases h3:least<=m
      · have j3:decide (least<=m)=true:=(by simp [h3]);by_cases h4:m<=4294967295
        · have j4:decide (m<=4294967295)=true:=(by simp [h4]);have Aa:Hid (R=layP [itoa m] txt):=(by show _=_;rw [<- HR.out];unfold zj9 znz;rw [Ae.out];simp [h3,h4]);(go_enter Tryz.func97,Tryz.ntmps97);(go_wp2_with (first|(go_at_call 58;refine (zbl _).mono ?_;rintro e wi ⟨rfl,hwi⟩;rw [hwi];clear hwi wi)|(go_at_call 58;refine (zba _).mono ?_;rintro e wi ⟨he,hwi⟩;rw [hwi];clear hwi;unfold zaw at he;rw [he];clear he wi)|(go_at_call 130;refine (HI.out _ HB.out).mono ?_;rintro e w2 ⟨rfl,hB2⟩;have Ac:Hid (Below w.heap.size w w2):=HB.out.trans (hB2.mono HB.out.size);have y2:w2.cell? ⟨w.heap.size,2,none⟩=some (.int .i64 m):=(zax (zaj hB2 HK.out)).1.2.2.1;clear hB2)));refine (lay_lit p [itoa m] _ rfl (by have hl:=HL.out;have hs:=itoa_some m;intro t ht;simp at ht;subst ht;exact ⟨hs,hl⟩) (by simp) 1 rfl txt d v0 w2 (HP.out.1.below Ac.out) HP.out.2).mono ?_;rintro e w9 ⟨v',hk,hQ⟩;have Ad:=hid ((Lx.Kept.of_below Ac.out).trans hk);clear hk;rcases hQ with ⟨x,hx1,hx2,rfl,hPR⟩|⟨hx1,he⟩
          · have HF:=hid3 hx1 hx2 hPR;clear hx1 hx2 hPR;go_wp2;(first|go_end0|refine bodyPost_ret (results_none rfl _ _ _) rfl ?_);exact ⟨v',Ad.out,Or.inl ⟨x,Aa.out.trans HF.out.1,HF.out.2.1,rfl,HF.out.2.2⟩⟩
          · have HF:=hid hx1;clear hx1;unfold zaw at he;subst he;go_wp2;exact ⟨rfl,v',Ad.out,Or.inr ⟨Aa.out.trans HF.out,rfl⟩⟩
        · have j4:decide (m<=4294967295)=false:=(by simp;omega);have Ab:Hid ((zle 28 n 0&&znz m least)=false):=(by show _=_;unfold znz;simp [h4]);have Aa:Hid (R=none):=(by show _=_;rw [<- HR.out];unfold zj9;rw [Ab.out];rfl);(go_enter Tryz.func97,Tryz.ntmps97);(go_wp2_with (first|(go_at_call 58;refine (zbl _).mono ?_;rintro e wi ⟨rfl,hwi⟩;rw [hwi];clear hwi wi)|(go_at_call 58;refine (zba _).mono ?_;rintro e wi ⟨he,hwi⟩;rw [hwi];clear hwi;unfold zaw at he;rw [he];clear he wi)));exact ⟨rfl,v0,Lx.Kept.of_below HB.out,Or.inr ⟨Aa.out,rfl⟩⟩
      · have j3:decide (least<=m)=false:=(by simp;omega);have Ab:Hid ((zle 28 n 0&&znz m least)=false):=(by show _=_;unfold znz;simp [h3]);have Aa:Hid (R=none):=(by show _=_;rw [<- HR.out];unfold zj9;rw [Ab.out];rfl);(go_enter Tryz.func97,Tryz.ntmps97);(go_wp2_with (first|(go_at_call 58;refine (zbl _).mono ?_;rintro e wi ⟨rfl,hwi⟩;rw [hwi];clear hwi wi)|(go_at_call 58;refine (zba _).mono ?_;rintro e wi ⟨he,hwi⟩;rw [hwi];clear hwi;unfold zaw at he;rw [he];clear he wi)));exact ⟨rfl,v0,Lx.Kept.of_below HB.out,Or.inr ⟨Aa.out,rfl⟩⟩
    · have j2:((len:Int)==0)=false:=(by simp [h2]);have j2' : ¬ (len:Int)=0:=(by omega);have Ab:Hid ((zle 28 n len&&znz m least)=false):=(by show _=_;unfold zle;simp [h2]);have Aa:Hid (R=none):=(by show _=_;rw [<- HR.out];unfold zj9;rw [Ab.out];rfl);(go_enter Tryz.func97,Tryz.ntmps97);(go_wp2_with (first|(go_at_call 58;refine (zbl _).mono ?_;rintro e wi ⟨rfl,hwi⟩;rw [hwi];clear hwi wi)|(go_at_call 58;refine (zba _).mono ?_;rintro e wi ⟨he,hwi⟩;rw [hwi];clear hwi;unfold zaw at he;rw [he];clear he wi)));exact ⟨rfl,v0,Lx.Kept.of_below HB.out,Or.inr ⟨Aa.out,rfl⟩⟩
   | false =>
    have Ab:Hid ((zle 28 n len&&znz m least)=false):=(by show _=_;unfold zle;rw [HE.out];simp);have Aa:Hid (R=none):=(by show _=_;rw [<- HR.out];unfold zj9;rw [Ab.out];rfl);(go_enter Tryz.func97,Tryz.ntmps97);(go_wp2_with (first|(go_at_call 58;refine (zbl _).mono ?_;rintro e wi ⟨rfl,hwi⟩;rw [hwi];clear hwi wi)|(go_at_call 58;refine (zba _).mono ?_;rintro e wi ⟨he,hwi⟩;rw [hwi];clear hwi;unfold zaw at he;rw [he];clear he wi)));exact ⟨rfl,v0,Lx.Kept.of_below HB.out,Or.inr ⟨Aa.out,rfl⟩⟩
 · have j1:(k==28)=false:=by simp [h1]
   have Ab:Hid ((zle k n len&&znz m least)=false):=by show _=_;unfold zle;simp [h1]
   have Aa:Hid (R=none):=by show _=_;rw [<- HR.out];unfold zj9;rw [Ab.out];rfl
   go_enter Tryz.func97,Tryz.ntmps97
   go_wp2_with (first|(go_at_call 58;refine (zbl _).mono ?_;rintro e wi ⟨rfl,hwi⟩;rw [hwi];clear hwi wi)|(go_at_call 58;refine (zba _).mono ?_;rintro e wi ⟨he,hwi⟩;rw [hwi];clear hwi;unfold zaw at he;rw [he];clear he wi))
   exact ⟨rfl,v0,Lx.Kept.of_below HB.out,Or.inr ⟨Aa.out,rfl⟩⟩
def zke (p:Nat) (w w' : World):Prop:=∀ b,b<p->w'.heap[b]?=w.heap[b]?
theorem zke.trans {p:Nat} {a b c:World} (h:zke p a b) (k:zke p b c):zke p a c:=fun i hi=>(k i hi).trans (h i hi)
theorem zke.of_below {p:Nat} {a b:World} (hp:p<=a.heap.size) (h:Below a.heap.size a b):zke p a b:=fun i hi=>h.block i (by omega)
theorem own_ge {w:World} {base:Nat} {v:Value} {n:Nat} {xs:List Value} (h:w.ownsRow base 5 1 v n xs) (b:Nat) (hb:b<base):some b≠v.ownBlock:=by
 rcases h.2 with ⟨rfl,rfl⟩|⟨g,cap,cur,rfl,hbg,hg,_⟩
 · simp [Value.ownBlock]
 · simp [Value.ownBlock]
   omega
theorem PR.front {w w' : World} {p:Nat} {txt:List UInt8} {d:Int} {v v' : Value} (h:PR w p txt d v) (hk:Lx.Kept p v v' w w'):zke p w w':=fun b hb=>hk.block b (by have:=h.lt;omega) (by omega) (own_ge h.own b (by omega))
def zof (M:Int->Prop) (p:Nat) (w:World):Prop:=∀ m,M m->∀ w1,zke p w w1->Calls Tryz.prog 130 #[.int .i64 m] w1 fun e w'=>e=.returned (.string ⟨(itoa m).toArray⟩)∧Below w1.heap.size w1 w'
theorem zof.front {M:Int->Prop} {p:Nat} {w w' : World} (h:zof M p w) (hf:zke p w w'):zof M p w':=fun m hm w1 h1=>h m hm w1 (hf.trans h1)
theorem nameOk_len {n:List UInt8} (h:zf8 n true=true):n≠[]∧n.length<=64:=by
 unfold zf8 Lx.isNameP at h;simp at h
 constructor
 · rintro rfl;simp at h
 · omega
def zh8 (n:List UInt8) (m:Int) (len:Nat) (k1:Int) (n1:List UInt8) (m1:Int) (l1:Nat) (txt:List UInt8):Option (List UInt8) :=
 if zf8 n true&&zdj len m 1 1 then (layP [[99,111,110,115,116],n,[61]] txt).bind (zj9 (-2147483648) k1 n1 m1 l1) else none
theorem pconst_any (p:Nat) (n:List UInt8) (m a:Int) (o:Option Addr) (len c:Nat) (g:Nat) (k1:Int) (n1:List UInt8) (m1 a1:Int) (o1:Option Addr) (l1 c1:Nat) (txt:List UInt8) (d:Int) (v0:Value) (w:World) (h:PR w p txt d v0) (hx:txt.length<=16000) (hn:n.length<=maxLen) (hm0:-9223372036854775808<=m1) (hm1:m1<=9223372036854775807)
 (M:Int->Prop) (hM:M m1) (hI:zof M p w) (hkid:len=1->o=some ⟨g,0,none⟩∧g<p∧KidR w g 0 k1 n1 m1 a1 (.slice o1 l1 c1)) :
 Calls Tryz.prog 60 #[.pointer (some ⟨p,0,none⟩),zcu 2 n m a (.slice o len c)] w (zhw p d v0 (zh8 n m len k1 n1 m1 l1 txt) w):=by
 have HI:=hid2 hI hM;have HP:=hid2 h hx;have HM:=hid2 hm0 hm1;have Aa:=hid hkid;obtain ⟨R,hR⟩:∃ R,zh8 n m len k1 n1 m1 l1 txt=R:=⟨_,rfl⟩;rw [hR];have HR:=hid hR;obtain ⟨ok,hok⟩:∃ ok,(zf8 n true&&zdj len m 1 1)=ok:=⟨_,rfl⟩;have Ab:=hid hok;have Ae:Hid (∀ w,Calls Tryz.prog 59 #[zcu 2 n m a (.slice o len c),.bool true,.int .i64 1,.int .i64 1] w (zkl ok w)):=by
  show ∀ w,_;intro w;rw [<- hok];exact zn0 2 n m a o len c 1 1 w (by unfold maxLen at hn;omega)
 unfold zcu at Ae;clear hI h hx hm0 hm1 hkid hM hok hn hR;obtain ⟨wa,hwa⟩:∃ x,w.alloc (.cells #[.int .i64 2,.string ⟨n.toArray⟩,.int .i64 m,.int .i64 a,.slice o len c] 29)=x:=⟨_,rfl⟩;have HB:=hidB hwa;have kk:wa.heap[w.heap.size]?=some (zhx 2 n m a (.slice o len c)):=by rw [<- hwa];exact heap_alloc_new _ _
 have HK:=hid kk;obtain ⟨⟨z0,z1,z2,z3,z4⟩,_⟩:=zax kk;unfold zcu;clear kk;cases ok with
 | false =>
  have Ac:Hid (R=none):=by show _=_;rw [<- HR.out];unfold zh8;rw [Ab.out];rfl
  go_enter Tryz.func60,Tryz.ntmps60
  go_wp2_with fail
  refine (Ae.out _).mono ?_;rintro e w2 ⟨hB,hq⟩;rcases hq with ⟨hq,_⟩|⟨_,he⟩
  · cases hq
  have Ad:=hid (HB.out.trans (hB.mono HB.out.size));clear hB;unfold zaw at he;subst he;go_wp2;exact ⟨rfl,v0,Lx.Kept.of_below Ad.out,Or.inr ⟨Ac.out,rfl⟩⟩
 | true =>
  have Ac:Hid (R=(layP [[99,111,110,115,116],n,[61]] txt).bind (zj9 (-2147483648) k1 n1 m1 l1)):=by show _=_;rw [<- HR.out];unfold zh8;rw [Ab.out];rfl
  have HN:Hid (n≠[]∧n.length<=64):=by
   have:=Ab.out;rw [Bool.and_eq_true] at this;exact nameOk_len this.1
  have hl:len=1:=by
   have:=Ab.out;unfold zdj at this;simp at this
   omega
  subst hl;obtain ⟨ho,hgp,hkr⟩:=Aa.out rfl;subst ho;have Ai:=hid2 hgp hkr;clear Aa hgp hkr;go_enter Tryz.func60,Tryz.ntmps60
  go_wp2_with fail
  refine (Ae.out _).mono ?_;rintro e w2 ⟨hB,hq⟩;rcases hq with ⟨_,rfl⟩|⟨hq,_⟩
  case inr=>cases hq
  have Ad:=hid (HB.out.trans (hB.mono HB.out.size));have Af:=hid (zaj hB HK.out);obtain ⟨⟨z0,z1,z2,z3,z4⟩,_⟩:=zax Af.out;clear hB hwa;have Ak:=hid (HP.out.1.below Ad.out);go_wp2_with fail
  refine (lay_lit p [[99,111,110,115,116],n,[61]] _ rfl (by have hn:=HN.out;intro t ht;simp at ht;rcases ht with rfl|rfl|rfl;exact ⟨by simp,by simp⟩;exact hn;exact ⟨by simp,by simp⟩) (by simp) 3 rfl txt d v0 w2 Ak.out HP.out.2).mono ?_;rintro e w3 ⟨v3,hk,hQ⟩;have Ag:=hid ((Lx.Kept.of_below Ad.out).trans hk);rcases hQ with ⟨x,hx1,hx2,rfl,hPR⟩|⟨hx1,he⟩
  case inr =>
   have HF:Hid (R=none):=Ac.out.trans (by rw [hx1];rfl);clear hx1 hk;unfold zaw at he;subst he;go_wp2;exact ⟨rfl,v3,Ag.out,Or.inr ⟨HF.out,rfl⟩⟩
  have HF:Hid (R=zj9 (-2147483648) k1 n1 m1 l1 x):=Ac.out.trans (by rw [hx1];rfl);have Ah:=hid2 hPR hx2;have hfr:=HP.out.1.front Ag.out;have x4:w3.cell? ⟨w.heap.size,4,none⟩=some (.slice (some ⟨g,0,none⟩) 1 c):=(zax ((hk.block w.heap.size (zej Af.out) (by have:=HP.out.1.lt;omega) (own_lt HP.out.1.own _ (Nat.le_refl _))).trans Af.out)).1.2.2.2.2;obtain ⟨a0,b0,c0,d0,e0⟩:=Ai.out.2.frame (hfr g Ai.out.1);have Al:=hid (HI.out.1.front hfr);clear hx1 hx2 hPR hk hfr;simp only [Nat.zero_mul,Nat.zero_add] at a0 b0 c0 d0 e0;go_wp2_with fail
  refine (pnumber_any p k1 n1 m1 a1 o1 l1 c1 (-2147483648) x d v3 w3 Ah.out.1 Ah.out.2 HM.out.1 HM.out.2 (fun w1 hw=>Al.out m1 HI.out.2 w1 (zke.of_below (Nat.le_of_lt Ah.out.1.lt) hw))).mono ?_;rintro e w4 ⟨v4,hk,hQ⟩;have Aj:=hid (Ag.out.trans hk);clear hk;rcases hQ with ⟨y,hx1,hx2,rfl,hPR⟩|⟨hx1,he⟩
  · have HG:=hid3 (HF.out.trans hx1) hx2 hPR;clear hx1 hx2 hPR;go_wp2;(first|go_end0|refine bodyPost_ret (results_none rfl _ _ _) rfl ?_);exact ⟨v4,Aj.out,Or.inl ⟨y,HG.out.1,HG.out.2.1,rfl,HG.out.2.2⟩⟩
  · have HG:=hid (HF.out.trans hx1);clear hx1;unfold zaw at he;subst he;go_wp2;exact ⟨rfl,v4,Aj.out,Or.inr ⟨HG.out,rfl⟩⟩
def defsP (df:ITree->List UInt8->Option (List UInt8)):List ITree->List UInt8->Option (List UInt8)
 | [],txt=>some txt
 | t::ts,txt=>((df t txt).bind (layP [[59]])).bind (defsP df ts)
def zg2 (df:ITree->List UInt8->Option (List UInt8)) (k:Int) (n:List UInt8) (m:Int) (ks:List ITree) (txt:List UInt8):Option (List UInt8) :=
 if k==1&&(zf8 n false&&zdj ks.length m 0 100) then defsP df ks txt else none
theorem zk7 (p:Nat) (k:Int) (n:List UInt8) (m a:Int) (o:Option Addr) (ks:List ITree) (c:Nat) (g:Nat) (txt0:List UInt8) (d:Int) (v0:Value) (w:World) (h:PR w p txt0 d v0) (hx:txt0.length<=16000) (hn:n.length<=maxLen)
 (df:ITree->List UInt8->Option (List UInt8))
 (hkid:∀ j (hj:j<ks.length),o=some ⟨g,0,none⟩∧g<p∧∃ k1 n1 m1 a1 o1 l1 c1,KidR w g j k1 n1 m1 a1 (.slice o1 l1 c1)∧∀ w1 txt v,PR w1 p txt d v->txt.length<=16000->zke p w w1->Calls Tryz.prog 60 #[.pointer (some ⟨p,0,none⟩),zcu k1 n1 m1 a1 (.slice o1 l1 c1)] w1 (zhw p d v (df ks[j] txt) w1)) :
 Calls Tryz.prog 36 #[.pointer (some ⟨p,0,none⟩),zcu k n m a (.slice o ks.length c)] w (zhw p d v0 (zg2 df k n m ks txt0) w):=by
 have HP:=hid2 h hx;have Ag:=hid hkid;obtain ⟨R,hR⟩:∃ R,zg2 df k n m ks txt0=R:=⟨_,rfl⟩;rw [hR];have HR:=hid hR;obtain ⟨L,hL⟩:∃ L,ks.length=L:=⟨_,rfl⟩;rw [hL];have HL:=hid hL;obtain ⟨ok,hok⟩:∃ ok,(zf8 n false&&zdj L m 0 100)=ok:=⟨_,rfl⟩;have Ah:=hid hok;have Ai:Hid (∀ w,Calls Tryz.prog 59 #[zcu k n m a (.slice o L c),.bool false,.int .i64 0,.int .i64 100] w (zkl ok w)):=by
  show ∀ w,_;intro w;rw [<- hok];exact zmf k n m a o L c 0 100 w (by unfold maxLen at hn;omega)
 unfold zcu at Ai;clear h hx hkid hok hn hR hL;obtain ⟨wa,hwa⟩:∃ x,w.alloc (.cells #[.int .i64 k,.string ⟨n.toArray⟩,.int .i64 m,.int .i64 a,.slice o L c] 29)=x:=⟨_,rfl⟩;have HB:=hidB hwa;have kk:wa.heap[w.heap.size]?=some (zhx k n m a (.slice o L c)):=by rw [<- hwa];exact heap_alloc_new _ _
 have HK:=hid kk;obtain ⟨⟨z0,z1,z2,z3,z4⟩,_⟩:=zax kk;unfold zcu;clear kk;by_cases h1:k=1
 case neg =>
  have j1:(k==1)=false:=by simp [h1]
  have Ac:Hid (R=none):=by show _=_;rw [<- HR.out];unfold zg2;simp [h1]
  go_enter Tryz.func36,Tryz.ntmps36
  go_wp2_with (first|(go_at_call 58;refine (zbl _).mono ?_;rintro e wi ⟨rfl,hwi⟩;rw [hwi];clear hwi wi)|(go_at_call 58;refine (zba _).mono ?_;rintro e wi ⟨he,hwi⟩;rw [hwi];clear hwi;unfold zaw at he;rw [he];clear he wi))
  exact ⟨rfl,v0,Lx.Kept.of_below HB.out,Or.inr ⟨Ac.out,rfl⟩⟩
 subst h1;cases ok with
 | false =>
  have Ac:Hid (R=none):=by show _=_;rw [<- HR.out];unfold zg2;rw [HL.out,Ah.out];rfl
  go_enter Tryz.func36,Tryz.ntmps36
  go_wp2_with (first|(go_at_call 58;refine (zbl _).mono ?_;rintro e wi ⟨rfl,hwi⟩;rw [hwi];clear hwi wi)|(go_at_call 58;refine (zba _).mono ?_;rintro e wi ⟨he,hwi⟩;rw [hwi];clear hwi;unfold zaw at he;rw [he];clear he wi))
  refine (Ai.out _).mono ?_;rintro e w2 ⟨hB,hq⟩;rcases hq with ⟨hq,_⟩|⟨_,he⟩
  · cases hq
  have Af:=hid (HB.out.trans (hB.mono HB.out.size));clear hB;unfold zaw at he;subst he;go_wp2;exact ⟨rfl,v0,Lx.Kept.of_below Af.out,Or.inr ⟨Ac.out,rfl⟩⟩
 | true =>
  have Ac:Hid (defsP df (ks.drop 0) txt0=R):=by show _=_;rw [<- HR.out];unfold zg2;rw [HL.out,Ah.out];rfl
  have hl:L<=100:=by
   have:=Ah.out;unfold zdj at this;simp at this
   omega
  have Ad:=hid hl;go_enter Tryz.func36,Tryz.ntmps36
  go_wp2_with (first|(go_at_call 58;refine (zbl _).mono ?_;rintro e wi ⟨rfl,hwi⟩;rw [hwi];clear hwi wi)|(go_at_call 58;refine (zba _).mono ?_;rintro e wi ⟨he,hwi⟩;rw [hwi];clear hwi;unfold zaw at he;rw [he];clear he wi))
  refine (Ai.out _).mono ?_;rintro e w2 ⟨hB,hq⟩;rcases hq with ⟨_,rfl⟩|⟨hq,_⟩
  case inr=>cases hq
  have Af:=hid (HB.out.trans (hB.mono HB.out.size));have Ar:=hid (zaj hB HK.out);obtain ⟨⟨z0,z1,z2,z3,z4⟩,_⟩:=zax Ar.out;clear hB hwa;go_wp2_with fail
  go_loopw [15] (fun i wr=>∃ (q:Nat) (txt:List UInt8) (v:Value),i=.int .i64 q∧q<=L∧Hid (PR wr p txt d v∧txt.length<=16000)∧Hid (Lx.Kept p v0 v w wr)∧Hid (defsP df (ks.drop q) txt=R)) (fun i _=>L - (RowKit.intOf i).toNat)
  case atStart=>exact ⟨0,txt0,v0,rfl,by omega,⟨HP.out.1.below Af.out,HP.out.2⟩,Lx.Kept.of_below Af.out,Ac⟩
  case round =>
   obtain ⟨q,txt,v,rfl,hq,Ae,Aj,Ak⟩:=hrel;by_cases hlt:q<L
   · have hlt' : (q:Int)<L:=(by omega);have hq0:(0:Int)<=(q:Int):=(by omega);have hqm:(q:Int)<=1000:=(by have:=Ad.out;omega);have Am:=hid hlt;have hqk:q<ks.length:=(by have:=HL.out;omega);obtain ⟨ho,hgp,k1,n1,m1,a1,o1,l1,c1,hkr,hcal⟩:=Ag.out q hqk;subst ho;have An:=hid (HP.out.1.front Aj.out);have Ab:=hid hcal;have Aa:Hid (R=((df ks[q] txt).bind (layP [[59]])).bind (defsP df (ks.drop (q+1)))):=by
      show _=_;rw [<- Ak.out,List.drop_eq_getElem_cons hqk];rfl
     obtain ⟨tq,htq⟩:∃ t,ks[q]=t:=⟨_,rfl⟩;rw [htq] at Ab Aa;obtain ⟨a0,b0,c0,d0,e0⟩:=hkr.frame (An.out g hgp);clear hcal hkr hgp hlt htq hqk Ak;unfold zcu at Ab;obtain ⟨wb,hwb⟩:∃ x,wr.alloc (.cells #[.int .i64 k1,.string ⟨n1.toArray⟩,.int .i64 m1,.int .i64 a1,.slice o1 l1 c1] 29)=x:=⟨_,rfl⟩;have Al:Hid (Below wr.heap.size wr wb):=(by show Below _ _ _;rw [<- hwb];exact zab _ _);have Au:Hid (wb.heap[wr.heap.size]?=some (zhx k1 n1 m1 a1 (.slice o1 l1 c1))):=(by show _=_;rw [<- hwb];exact heap_alloc_new _ _);obtain ⟨⟨x0,x1,x2,x3,x4⟩,_⟩:=zax Au.out;have Av:=hid (Ae.out.1.below Al.out);have Aw:=hid (An.out.trans (zke.of_below (Nat.le_of_lt Ae.out.1.lt) Al.out));(go_wp2_with fail);refine (Ab.out wb txt v Av.out Ae.out.2 Aw.out).mono ?_;clear hwb;rintro e w3 ⟨v3,hk,hQ⟩;have Ao:=hid ((Aj.out.trans (Lx.Kept.of_below Al.out)).trans hk);clear hk;rcases hQ with ⟨x,hx1,hx2,rfl,hPR⟩|⟨hx1,he⟩
     case inr =>
      have HF:Hid (R=none):=Aa.out.trans (by rw [hx1];rfl);clear hx1;unfold zaw at he;subst he;go_wp2;exact ⟨rfl,v3,Ao.out,Or.inr ⟨HF.out,rfl⟩⟩
     have HF:Hid (R=(layP [[59]] x).bind (defsP df (ks.drop (q+1)))):=Aa.out.trans (by rw [hx1];rfl);have Ap:=hid2 hPR hx2;clear hx1 hx2 hPR;(go_wp2_with fail);refine (lay_lit p [[59]] _ rfl (by intro t ht;simp at ht;subst ht;exact ⟨by simp,by simp⟩) (by simp) 1 rfl x d v3 w3 Ap.out.1 Ap.out.2).mono ?_;rintro e w4 ⟨v4,hk,hQ⟩;have Aq:=hid (Ao.out.trans hk);clear hk;rcases hQ with ⟨y,hx1,hx2,rfl,hPR⟩|⟨hx1,he⟩
     case inr =>
      have HG:Hid (R=none):=HF.out.trans (by rw [hx1];rfl);clear hx1;unfold zaw at he;subst he;go_wp2;exact ⟨rfl,v4,Aq.out,Or.inr ⟨HG.out,rfl⟩⟩
     have HG:Hid (defsP df (ks.drop (q+1)) y=R):=(by show _=_;rw [HF.out,hx1];rfl);have Ax:=hid2 hPR hx2;clear hx1 hx2 hPR;go_wp2;go_roundw
     case rel=>exact ⟨q+1,y,v4,by go_num,Am.out,Ax,Aq,HG⟩
     case measure=>have:=Am.out;simp [RowKit.intOf];omega
   · have hqe:q=L:=(by omega);subst hqe;have hlt' : ¬ (q:Int)<q:=(by omega);have HG:Hid (R=some txt):=(by show _=_;rw [<- Ak.out,List.drop_of_length_le (by have:=HL.out;omega)];rfl);go_wp2;(first|go_end0|refine bodyPost_ret (results_none rfl _ _ _) rfl ?_);exact ⟨v,Aj.out,Or.inl ⟨txt,HG.out,Ae.out.2,rfl,Ae.out.1⟩⟩
end Go.Proofs.YtighggeokiahfaaGreatDoor
namespace Go.Proofs.YtighggeokiahfaaGreatDoor
open Go.RowKit
theorem conv_text {w:World} {p:Nat} {x:List UInt8} {d:Int} {v:Value} (h:PR w p x d v):(convert 66 9 v).run Tryz.prog w=.ok (.string ⟨x.toArray⟩) w:=by
 have ho:=h.own;rcases ho.2 with ⟨rfl,hx⟩|⟨g,cap,cur,rfl,hbg,hg,hnc,hcm,hcs,htake⟩
 · have:x=[]:=List.length_eq_zero_iff.1 hx;subst this;exact run_convert_bytes_nil w 66 5 Tryz.underlying66 Tryz.underlying5 0 0 9 Tryz.underlying9
 · have hr:=run_convert_bytes_arg (P:=Tryz.prog) w 66 5 Tryz.underlying66 Tryz.underlying5 g 0 x.length cap (x.map fun b=>(b.toNat:Int)) (by simp) (fun i hi=>by
    have h2:=ho.cells (g:=g) rfl i (.int .u8 (x[i]).toNat) (by simp [hi]);rw [show (⟨g,0+i,none⟩:Addr)=(⟨g,0,none⟩:Addr).add i by unfold Addr.add;simp];rw [h2]
    simp [hi]) 9 Tryz.underlying9
   have he:strOfNums (x.map fun b=>(b.toNat:Int))=⟨x.toArray⟩:=by
    unfold strOfNums;have hm:((x.map fun b=>(b.toNat:Int)).map fun n=>UInt8.ofNat n.toNat)=x:=by
     rw [List.map_map];refine (List.map_congr_left (g:=id) fun b _=>?_).trans (List.map_id x);simp
    rw [hm]
   rw [hr,he]
def strO (s:List UInt8):Obj:=.cells #[.string ⟨s.toArray⟩] 9 (0,0)
theorem zit {w:World} {b:Nat} {s:List UInt8} (h:w.heap[b]?=some (strO s)):w.cell? ⟨b,0,none⟩=some (.string ⟨s.toArray⟩)∧w.frozen? ⟨b,0,none⟩=false:=by
 unfold strO at h;simp [World.cell?,World.frozen?,h]
theorem pcatch_fault (sb eb:Nat) (why at_:Int) (older:List PanicEntry) (w:World) (s:List UInt8) (x:Int) (hs:w.heap[sb]?=some (strO s)) (he:w.heap[eb]?=some (oneO x 30)) (h1:sb≠eb) :
 CallsD Tryz.prog 35 #[.pointer (some ⟨sb,0,none⟩),.pointer (some ⟨eb,0,none⟩)] (.panicking ({ v:=.iface 50 (.agg #[.int .i64 why,.int .i64 at_]),recovered:=false }::older)) w fun e u' w' =>
  e=.returned (.tuple #[])∧u'=.panicking ({ v:=.iface 50 (.agg #[.int .i64 why,.int .i64 at_]),recovered:=true }::older) ∧
  (w'.heap[sb]?=some (strO [])∧w'.heap[eb]?=some (oneO why 30))∧(∀ b,b<w.heap.size->b≠sb->b≠eb->w'.heap[b]?=w.heap[b]?)∧w'.os=w.os∧w'.tape=w.tape∧w'.output=w.output∧w.heap.size<=w'.heap.size:=by
 have qa:=zj3 why at_;have HW:=hid2 hs he;refine callsD_of_wpS Tryz.func35 rfl fun c₀ cs hu=>?_;clear hs he;apply wpS_seq
 apply wpS_region
 simp [wpOpsS,go_sem,recoverD,hu,Tryz.ntmps35,Exit.thenS,Array.replicate,qa]
 obtain ⟨wa,hwa⟩:∃ x,w.alloc (.cells #[.int .i64 why,.int .i64 at_] 50)=x:=⟨_,rfl⟩;rw [hwa];have kt:wa.heap[sb]?=some (strO s):=by rw [<- hwa];exact za3 HW.out.1
 have ke:wa.heap[eb]?=some (oneO x 30):=by rw [<- hwa];exact za3 HW.out.2
 have HK:=hid2 kt ke;have HA:Hid (Below w.heap.size w wa):=by show Below w.heap.size w wa;rw [<- hwa];exact zab _ _
 have f0:wa.cell? ⟨w.heap.size,0,none⟩=some (.int .i64 why):=by rw [<- hwa];simp
 have f1:wa.cell? ⟨w.heap.size,1,none⟩=some (.int .i64 at_):=by rw [<- hwa];simp
 obtain ⟨z0,y0⟩:=zit kt;obtain ⟨e0,g0⟩:=zbp ke;have n1:¬ w.heap.size=sb:=by have:=zej HW.out.1;omega
 have n2:¬ w.heap.size=eb:=by have:=zej HW.out.2;omega
 have m1:¬ sb=eb:=h1;have m4:¬ eb=sb:=fun e=>h1 e.symm;clear kt ke h1 hwa qa;refine wpS_of_wp ?_;go_wp2;go_region;all_goals (
  go_wp2;have hz:(((wa.setCell ⟨sb,0,none⟩ (.string ⟨#[]⟩)).setCell ⟨eb,0,none⟩ (.int .i64 why)).drew.heap[sb]?=some (strO [])∧((wa.setCell ⟨sb,0,none⟩ (.string ⟨#[]⟩)).setCell ⟨eb,0,none⟩ (.int .i64 why)).drew.heap[eb]?=some (oneO why 30))∧(∀ b,b<w.heap.size->b≠sb->b≠eb->((wa.setCell ⟨sb,0,none⟩ (.string ⟨#[]⟩)).setCell ⟨eb,0,none⟩ (.int .i64 why)).drew.heap[b]?=w.heap[b]?)∧((wa.setCell ⟨sb,0,none⟩ (.string ⟨#[]⟩)).setCell ⟨eb,0,none⟩ (.int .i64 why)).drew.os=w.os∧((wa.setCell ⟨sb,0,none⟩ (.string ⟨#[]⟩)).setCell ⟨eb,0,none⟩ (.int .i64 why)).drew.tape=w.tape∧((wa.setCell ⟨sb,0,none⟩ (.string ⟨#[]⟩)).setCell ⟨eb,0,none⟩ (.int .i64 why)).drew.output=w.output∧w.heap.size<=((wa.setCell ⟨sb,0,none⟩ (.string ⟨#[]⟩)).setCell ⟨eb,0,none⟩ (.int .i64 why)).drew.heap.size:=by
   have hA:=HA.out;refine ⟨⟨?_,?_⟩,?_,hA.os,hA.tape,hA.output,?_⟩
   · exact (Below.heap_setCell _ _ _ _ m1).trans (zae HK.out.1)
   · exact zae ((Below.heap_setCell _ _ _ _ m4).trans HK.out.2)
   · intro b hb q1 q2;exact (Below.heap_setCell _ _ _ _ q2).trans ((Below.heap_setCell _ _ _ _ q1).trans (hA.block b hb))
   · show w.heap.size<=((wa.setCell ⟨sb,0,none⟩ (.string ⟨#[]⟩)).setCell ⟨eb,0,none⟩ (.int .i64 why)).heap.size;have:=hA.size;(simp);omega
  generalize ((wa.setCell ⟨sb,0,none⟩ (.string ⟨#[]⟩)).setCell ⟨eb,0,none⟩ (.int .i64 why)).drew=wz at hz ⊢;clear z0 y0 e0 g0 f0 f1 HW HK HA;cases c₀
  simp_all [bodyPostS,results,Tryz.results35])
theorem pcatch_idle (sb eb:Nat) (w:World) :
 CallsD Tryz.prog 35 #[.pointer (some ⟨sb,0,none⟩),.pointer (some ⟨eb,0,none⟩)] .returning w fun e u' w'=>e=.returned (.tuple #[])∧u'=.returning∧Below w.heap.size w w':=by
 have qa:=zl2;refine callsD_of_wpS Tryz.func35 rfl fun c₀ cs hu=>?_;apply wpS_seq
 apply wpS_region
 simp [wpOpsS,go_sem,recoverD,hu,Tryz.ntmps35,Exit.thenS,Array.replicate,qa]
 refine wpS_of_wp ?_;go_wp2;have hb:Below w.heap.size w (w.alloc (.cells #[.int .i64 0,.int .i64 0] 50)):=zab _ _;generalize w.alloc (.cells #[.int .i64 0,.int .i64 0] 50)=wz at hb ⊢;cases c₀;simp_all [bodyPostS,results,Tryz.results35]
def zl6 (R:Option (List UInt8)) (w:World) (e:Ending) (w' : World):Prop :=
 (match R with
 | some x=>e=.returned (.tuple #[.string ⟨x.toArray⟩,.int .i64 0])
 | none=>e=.returned (.tuple #[.string ⟨#[]⟩,.int .i64 43]))∧Below w.heap.size w w'
theorem Kept.to_below {p:Nat} {v v' : Value} {w wp w' : World} {txt:List UInt8} {d:Int} (hB:Below w.heap.size w wp) (hp:w.heap.size<=p) (hP:PR wp p txt d v) (hS:Lx.Kept p v v' wp w'):Below w.heap.size w w' :=
 ⟨hS.os.trans hB.os,hS.tape.trans hB.tape,hS.output.trans hB.output,Nat.le_trans hB.size hS.size,fun b hb=>(hS.block b (Nat.lt_of_lt_of_le hb hB.size) (by omega) (own_ge hP.own b (by omega))).trans (hB.block b hb)⟩
theorem PR.made (w:World):PR (w.alloc (.cells #[.slice none 0 0,.int .i64 0] 68)) w.heap.size [] 0 (.slice none 0 0):=by
 have hb:(w.alloc (.cells #[.slice none 0 0,.int .i64 0] 68)).heap[w.heap.size]?=some (.cells #[.slice none 0 0,.int .i64 0] 68 (0,0)):=heap_alloc_new _ _;refine ⟨?_,?_,?_,?_,World.ownsRow_nil _ _ _ _⟩
 · unfold World.cell?;simp only [hb];rfl
 · unfold World.cell?;simp only [hb];rfl
 · unfold World.frozen?;simp only [hb];rfl
 · unfold World.frozen?;simp only [hb];rfl
theorem print_any (k:Int) (n:List UInt8) (m a:Int) (o:Option Addr) (L c:Nat) (R:Option (List UInt8)) (w:World)
 (hsrc:∀ w1 p,w.heap.size<=p->Below w.heap.size w w1->PR w1 p [] 0 (.slice none 0 0)->Calls Tryz.prog 36 #[.pointer (some ⟨p,0,none⟩),zcu k n m a (.slice o L c)] w1 (zhw p 0 (.slice none 0 0) R w1)) :
 Calls Tryz.prog 20 #[zcu k n m a (.slice o L c)] w (zl6 R w):=by
 have hmf:∀ (fn:Fn) (first cap:Array Value) (w:World),(Instr.makeFunc fn first cap).run Tryz.prog w=.ok (.func fn first cap) w:=fun _ _ _ _=>rfl;have Ad:=hid hsrc;clear hsrc;obtain ⟨wa1,hwa1⟩:∃ x,w.alloc (.cells #[.int .i64 k,.string ⟨n.toArray⟩,.int .i64 m,.int .i64 a,.slice o L c] 29)=x:=⟨_,rfl⟩;obtain ⟨wa2,hwa2⟩:∃ x,wa1.alloc (.cells #[.string ⟨#[]⟩] 9)=x:=⟨_,rfl⟩;obtain ⟨wa3,hwa3⟩:∃ x,wa2.alloc (.cells #[.int .i64 0] 30)=x:=⟨_,rfl⟩;obtain ⟨wp,hwp⟩:∃ x,wa3.alloc (.cells #[.slice none 0 0,.int .i64 0] 68)=x:=⟨_,rfl⟩;have b1:Below w.heap.size w wa1:=by rw [<- hwa1];exact zab _ _
 have b2:Below w.heap.size w wa2:=by rw [<- hwa2];exact b1.alloc b1.size _
 have b3:Below w.heap.size w wa3:=by rw [<- hwa3];exact b2.alloc b2.size _
 have bp:Below w.heap.size w wp:=by rw [<- hwp];exact b3.alloc b3.size _
 have kt:wp.heap[w.heap.size]?=some (zhx k n m a (.slice o L c)):=by rw [<- hwp,<- hwa3,<- hwa2,<- hwa1];exact za3 (za3 (za3 (heap_alloc_new _ _)))
 have ks:wp.heap[wa1.heap.size]?=some (strO []):=by rw [<- hwp,<- hwa3,<- hwa2];exact za3 (za3 (heap_alloc_new _ _))
 have ke:wp.heap[wa2.heap.size]?=some (oneO 0 30):=by rw [<- hwp,<- hwa3];exact za3 (heap_alloc_new _ _)
 have Aa:Hid (w.heap.size<wa1.heap.size∧wa1.heap.size<wa2.heap.size∧wa2.heap.size<wa3.heap.size∧wa3.heap.size<wp.heap.size):=⟨by rw [<- hwa1];simp,by rw [<- hwa2];simp,by rw [<- hwa3];simp,by rw [<- hwp];simp⟩;have HP:Hid (PR wp wa3.heap.size [] 0 (.slice none 0 0)∧Below w.heap.size w wp):=⟨by rw [<- hwp];exact PR.made wa3,bp⟩;have HK:=hid2 ks ke;obtain ⟨⟨z0,z1,z2,z3,z4⟩,_⟩:=zax kt;have m1:¬ wa1.heap.size=wa2.heap.size:=by have:=Aa.out;omega
 have m2:¬ wa2.heap.size=wa1.heap.size:=by have:=Aa.out;omega
 clear b1 b2 b3 bp kt ks ke;unfold zcu at Ad ⊢;go_enter_defers Tryz.func20,Tryz.ntmps20
 go_wp2_with fail
 refine (Ad.out wp wa3.heap.size (by have:=Aa.out;omega) HP.out.2 HP.out.1).mono ?_;clear hwa1 hwa2 hwa3 hwp;rintro e w9 ⟨v9,hk,hQ⟩;have hlt:=Aa.out;have hB9:Below w.heap.size w w9:=Kept.to_below HP.out.2 (by omega) HP.out.1 hk;have k1:w9.heap[wa1.heap.size]?=some (strO []):=(hk.block _ (zej HK.out.1) (by omega) (by simp [Value.ownBlock])).trans HK.out.1;have k2:w9.heap[wa2.heap.size]?=some (oneO 0 30):=(hk.block _ (zej HK.out.2) (by omega) (by simp [Value.ownBlock])).trans HK.out.2;have Ab:=hid3 k1 k2 hB9;clear hk hB9 hlt;rcases hQ with ⟨x,hx1,hx2,rfl,hPR⟩|⟨hx1,he⟩
 · subst hx1;have hcv:=conv_text hPR;have Ae:=hid hPR;have c0:=hPR.c0;obtain ⟨s0,f0⟩:=zit k1;obtain ⟨e0,g0⟩:=zbp k2;obtain ⟨o9,c9,hv9⟩:=Lx.own_form hPR.own;subst hv9;clear hPR k1 k2 hx2;go_wp2;have hlt:=Aa.out;have hz1:((w9.setCell ⟨wa1.heap.size,0,none⟩ (.string ⟨x.toArray⟩)).setCell ⟨wa2.heap.size,0,none⟩ (.int .i64 0)).heap[wa1.heap.size]?=some (strO x):=(Below.heap_setCell _ _ _ _ m1).trans (zae Ab.out.1);have hz2:((w9.setCell ⟨wa1.heap.size,0,none⟩ (.string ⟨x.toArray⟩)).setCell ⟨wa2.heap.size,0,none⟩ (.int .i64 0)).heap[wa2.heap.size]?=some (oneO 0 30):=zae ((Below.heap_setCell _ _ _ _ m2).trans Ab.out.2.1);have hbz:Below w.heap.size w ((w9.setCell ⟨wa1.heap.size,0,none⟩ (.string ⟨x.toArray⟩)).setCell ⟨wa2.heap.size,0,none⟩ (.int .i64 0)):=(Ab.out.2.2.setCell (p:=⟨wa1.heap.size,0,none⟩) (by show w.heap.size<=wa1.heap.size;omega) _).setCell (p:=⟨wa2.heap.size,0,none⟩) (by show w.heap.size<=wa2.heap.size;omega) _;generalize ((w9.setCell ⟨wa1.heap.size,0,none⟩ (.string ⟨x.toArray⟩)).setCell ⟨wa2.heap.size,0,none⟩ (.int .i64 0))=wz at hz1 hz2 hbz ⊢;have HZ:=hid3 hz1 hz2 hbz;clear hz1 hz2 hbz hcv c0 s0 f0 e0 g0 hlt;refine leaves_cons (f:=35) (args:=#[.pointer (some ⟨wa1.heap.size,0,none⟩),.pointer (some ⟨wa2.heap.size,0,none⟩)]) (by simp) (by simp [go_sem]) ?_;refine (pcatch_idle wa1.heap.size wa2.heap.size wz).mono ?_;rintro e u' wy ⟨rfl,rfl,hby⟩;have hbw:Below w.heap.size w wy:=HZ.out.2.2.trans (hby.mono HZ.out.2.2.size);have q5:=(zit (zaj hby HZ.out.1)).1;have q6:=(zbp (zaj hby HZ.out.2.1)).1;clear hby hmf;simp [Leaves,settle,results,Tryz.results20,go_sem,q5,q6]
   exact ⟨rfl,hbw⟩
 · subst hx1;unfold zaw at he;subst he;clear k1 k2;go_wp2;refine leaves_cons (f:=35) (args:=#[.pointer (some ⟨wa1.heap.size,0,none⟩),.pointer (some ⟨wa2.heap.size,0,none⟩)]) (by simp) (by simp [go_sem]) ?_;refine (pcatch_fault wa1.heap.size wa2.heap.size 43 0 [] w9 [] 0 Ab.out.1 Ab.out.2.1 m1).mono ?_;rintro e u' wz ⟨rfl,rfl,⟨hz1,hz2⟩,hf,h1,h2,h3,h4⟩;have hlt:=Aa.out;have Ac:=Ab.out.2.2;have hbz:Below w.heap.size w wz:=⟨h1.trans Ac.os,h2.trans Ac.tape,h3.trans Ac.output,Nat.le_trans Ac.size h4,fun b hb=>(hf b (Nat.lt_of_lt_of_le hb Ac.size) (by omega) (by omega)).trans (Ac.block b hb)⟩;have q5:=(zit hz1).1;have q6:=(zbp hz2).1;clear hf h1 h2 h3 h4 hz1 hz2 hmf;simp [Leaves,settle,results,Tryz.results20,go_sem,q5,q6]
   exact ⟨rfl,hbz⟩
theorem zem {B:Nat} {a w:World} (h:Below B a w) (k:Nat):Below B a (w.drewN k):=⟨h.os,h.tape,h.output,h.size,h.block⟩
def ze6 (k k' : Int) (n n' : List UInt8) (m m' : Int) (L L' : Nat):Bool:=k==k'&&(n==n'&&(m==m'&&L==L'))
theorem same_core (k:Int) (n:List UInt8) (m a:Int) (o:Option Addr) (L c:Nat) (k' : Int) (n' : List UInt8) (m' a' : Int) (o' : Option Addr) (L' c' : Nat) (w:World) (hL:L<=maxLen) (sm:Nat->Bool)
 (hkid:∀ j,j<L->L=L'->∃ g g',o=some ⟨g,0,none⟩∧o'=some ⟨g',0,none⟩∧∃ k1 n1 m1 a1 sl1 k2 n2 m2 a2 sl2,∀ w1,Below w.heap.size w w1->KidR w1 g j k1 n1 m1 a1 sl1∧KidR w1 g' j k2 n2 m2 a2 sl2∧Calls Tryz.prog 23 #[zcu k1 n1 m1 a1 sl1,zcu k2 n2 m2 a2 sl2] w1 (fun e w'=>e=.returned (.bool (sm j))∧Below w1.heap.size w1 w')) :
 Calls Tryz.prog 23 #[zcu k n m a (.slice o L c),zcu k' n' m' a' (.slice o' L' c')] w (fun e w'=>e=.returned (.bool (ze6 k k' n n' m m' L L'&&(List.range L).all sm))∧Below w.heap.size w w'):=by
 have Ad:=hid hkid;clear hkid;have Ah:Hid (L<=9223372036854775807):=by unfold maxLen at hL;show L<=_;omega
 clear hL;obtain ⟨R,hR⟩:∃ R,(ze6 k k' n n' m m' L L'&&(List.range L).all sm)=R:=⟨_,rfl⟩;rw [hR];have HR:=hid hR;clear hR;obtain ⟨wa,hwa⟩:∃ x,w.alloc (.cells #[.int .i64 k,.string ⟨n.toArray⟩,.int .i64 m,.int .i64 a,.slice o L c] 29)=x:=⟨_,rfl⟩;obtain ⟨wb,hwb⟩:∃ x,wa.alloc (.cells #[.int .i64 k',.string ⟨n'.toArray⟩,.int .i64 m',.int .i64 a',.slice o' L' c'] 29)=x:=⟨_,rfl⟩;have ba:Below w.heap.size w wa:=by rw [<- hwa];exact zab _ _
 have bb:Below w.heap.size w wb:=by rw [<- hwb];exact ba.alloc ba.size _
 have HB:=hid bb;have kk:wb.heap[w.heap.size]?=some (zhx k n m a (.slice o L c)):=by rw [<- hwb,<- hwa];exact za3 (heap_alloc_new _ _)
 have kk' : wb.heap[wa.heap.size]?=some (zhx k' n' m' a' (.slice o' L' c')):=by rw [<- hwb];exact heap_alloc_new _ _
 have HK:=hid2 kk kk';obtain ⟨⟨z0,z1,z2,z3,z4⟩,_⟩:=zax kk;obtain ⟨⟨y0,y1,y2,y3,y4⟩,_⟩:=zax kk';unfold zcu;clear kk kk' ba bb;obtain ⟨E,hE⟩:∃ E,(n==n')=E:=⟨_,rfl⟩;have HE:=hid hE;have hE' : (n != n')=!E:=by rw [<- hE];rfl
 by_cases h1:k=k'
 · have j1:(k != k')=false:=by simp [h1]
   have H1:=hid h1;clear h1;cases E with
   | true =>
    by_cases h3:m=m'
    · have j3:(m != m')=false:=(by simp [h3]);have H3:=hid h3;clear h3;by_cases h4:L=L'
      · have Ai:=hid h4;subst h4;have HH:Hid (R=(List.range L).all sm):=(by show _=_;rw [<- HR.out];unfold ze6;rw [HE.out];simp [H1.out,H3.out]);have Aj:=hid2 H1.out H3.out;(go_enter Tryz.func23,Tryz.ntmps23);go_wp2;clear hwa hwb j1 j3 hE hE';go_loopw [37] (fun i wr=>∃ (q:Nat),i=.int .i64 q∧q<=L∧Hid (Below wb.heap.size wb wr)∧Hid (∀ j,j<q->sm j=true)) (fun i _=>L - (intOf i).toNat)
        case atStart=>exact ⟨0,rfl,by omega,Below.refl _ _,fun j hj=>absurd hj (by omega)⟩
        case round =>
         obtain ⟨q,rfl,hq,Aa,Af⟩:=hrel;have x4:wr.cell? ⟨w.heap.size,4,none⟩=some (.slice o L c):=(zax (zaj Aa.out HK.out.1)).1.2.2.2.2;have u4:wr.cell? ⟨wa.heap.size,4,none⟩=some (.slice o' L c'):=(zax (zaj Aa.out HK.out.2)).1.2.2.2.2;by_cases hlt:q<L
         · have hlt' : (q:Int)<L:=(by omega);have hq0:(0:Int)<=(q:Int):=(by omega);have hqm:(q:Int)<=9223372036854775806:=(by have:=Ah.out;omega);have Ae:=hid hlt;obtain ⟨g,g',ho,ho',k1,n1,m1,a1,sl1,k2,n2,m2,a2,sl2,hkq⟩:=Ad.out q hlt (by trivial);subst ho;subst ho';have Ab:=hid (HB.out.trans (Aa.out.mono HB.out.size));obtain ⟨r1,r2,r3⟩:=hkq _ Ab.out;clear r3;obtain ⟨a0,b0,c0,d0,e0⟩:=r1;obtain ⟨a9,b9,c9,d9,e9⟩:=r2;have Ag:=hid hkq;clear hkq hlt;obtain ⟨F,hF⟩:∃ F,sm q=F:=⟨_,rfl⟩;have HF:=hid hF;clear hF;(go_wp2_with fail);have s0:(wr.cell? ⟨w.heap.size,4,none⟩=some (.slice (some ⟨g,0,none⟩) L c)∧wr.cell? ⟨wa.heap.size,4,none⟩=some (.slice (some ⟨g',0,none⟩) L c')∧wr.cell? ⟨g,q*5,none⟩=some (.int .i64 k1)∧wr.cell? ⟨g,q*5+1,none⟩=some (.string ⟨n1.toArray⟩)∧wr.cell? ⟨g,q*5+2,none⟩=some (.int .i64 m1)∧wr.cell? ⟨g,q*5+3,none⟩=some (.int .i64 a1)∧wr.cell? ⟨g,q*5+4,none⟩=some sl1∧wr.cell? ⟨g',q*5,none⟩=some (.int .i64 k2)∧wr.cell? ⟨g',q*5+1,none⟩=some (.string ⟨n2.toArray⟩)∧wr.cell? ⟨g',q*5+2,none⟩=some (.int .i64 m2)∧wr.cell? ⟨g',q*5+3,none⟩=some (.int .i64 a2)∧wr.cell? ⟨g',q*5+4,none⟩=some sl2):=⟨x4,u4,a0,b0,c0,d0,e0,a9,b9,c9,d9,e9⟩;have s1:∀ i,((wr.drewN i).cell? ⟨w.heap.size,4,none⟩=some (.slice (some ⟨g,0,none⟩) L c)∧(wr.drewN i).cell? ⟨wa.heap.size,4,none⟩=some (.slice (some ⟨g',0,none⟩) L c')∧(wr.drewN i).cell? ⟨g,q*5,none⟩=some (.int .i64 k1)∧(wr.drewN i).cell? ⟨g,q*5+1,none⟩=some (.string ⟨n1.toArray⟩)∧(wr.drewN i).cell? ⟨g,q*5+2,none⟩=some (.int .i64 m1)∧(wr.drewN i).cell? ⟨g,q*5+3,none⟩=some (.int .i64 a1)∧(wr.drewN i).cell? ⟨g,q*5+4,none⟩=some sl1∧(wr.drewN i).cell? ⟨g',q*5,none⟩=some (.int .i64 k2)∧(wr.drewN i).cell? ⟨g',q*5+1,none⟩=some (.string ⟨n2.toArray⟩)∧(wr.drewN i).cell? ⟨g',q*5+2,none⟩=some (.int .i64 m2)∧(wr.drewN i).cell? ⟨g',q*5+3,none⟩=some (.int .i64 a2)∧(wr.drewN i).cell? ⟨g',q*5+4,none⟩=some sl2):=fun _=>s0
           go_region_held (fun w'=>(w'.cell? ⟨w.heap.size,4,none⟩=some (.slice (some ⟨g,0,none⟩) L c)∧w'.cell? ⟨wa.heap.size,4,none⟩=some (.slice (some ⟨g',0,none⟩) L c')∧w'.cell? ⟨g,q*5,none⟩=some (.int .i64 k1)∧w'.cell? ⟨g,q*5+1,none⟩=some (.string ⟨n1.toArray⟩)∧w'.cell? ⟨g,q*5+2,none⟩=some (.int .i64 m1)∧w'.cell? ⟨g,q*5+3,none⟩=some (.int .i64 a1)∧w'.cell? ⟨g,q*5+4,none⟩=some sl1∧w'.cell? ⟨g',q*5,none⟩=some (.int .i64 k2)∧w'.cell? ⟨g',q*5+1,none⟩=some (.string ⟨n2.toArray⟩)∧w'.cell? ⟨g',q*5+2,none⟩=some (.int .i64 m2)∧w'.cell? ⟨g',q*5+3,none⟩=some (.int .i64 a2)∧w'.cell? ⟨g',q*5+4,none⟩=some sl2)) (first|with_reducible exact s0|with_reducible exact s1 _|with_reducible exact s7|exact s0) (first
            | (go_at_call 23
               refine ((Ag.out _ (zem Ab.out _)).2.2).mono ?_;rintro e w7 ⟨rfl,hB0⟩;have hB:Below wr.heap.size wr w7:=(zem (Below.refl _ _) _).trans hB0;have Ac:=hid (Aa.out.trans (hB.mono Aa.out.size));have s7:(w7.cell? ⟨w.heap.size,4,none⟩=some (.slice (some ⟨g,0,none⟩) L c)∧w7.cell? ⟨wa.heap.size,4,none⟩=some (.slice (some ⟨g',0,none⟩) L c')∧w7.cell? ⟨g,q*5,none⟩=some (.int .i64 k1)∧w7.cell? ⟨g,q*5+1,none⟩=some (.string ⟨n1.toArray⟩)∧w7.cell? ⟨g,q*5+2,none⟩=some (.int .i64 m1)∧w7.cell? ⟨g,q*5+3,none⟩=some (.int .i64 a1)∧w7.cell? ⟨g,q*5+4,none⟩=some sl1∧w7.cell? ⟨g',q*5,none⟩=some (.int .i64 k2)∧w7.cell? ⟨g',q*5+1,none⟩=some (.string ⟨n2.toArray⟩)∧w7.cell? ⟨g',q*5+2,none⟩=some (.int .i64 m2)∧w7.cell? ⟨g',q*5+3,none⟩=some (.int .i64 a2)∧w7.cell? ⟨g',q*5+4,none⟩=some sl2):=by
                have h1:=Ab.out.trans (hB.mono Ab.out.size);obtain ⟨p1,p2,_⟩:=Ag.out _ h1;exact ⟨(zax (zaj Ac.out HK.out.1)).1.2.2.2.2,(zax (zaj Ac.out HK.out.2)).1.2.2.2.2,p1.c0,p1.c1,p1.c2,p1.c3,p1.c4,p2.c0,p2.c1,p2.c2,p2.c3,p2.c4⟩
               clear hB hB0))
           cases F with
           | true =>
            rw [HF.out];go_wp2;go_roundw
            case rel=>exact ⟨q+1,by go_num,Ae.out,Ac,fun j hj=>by rcases Nat.lt_succ_iff_lt_or_eq.1 hj with h|h;exact Af.out j h;rw [h];exact HF.out⟩
            case measure=>have:=Ae.out;simp [intOf];omega
           | false =>
            rw [HF.out];go_wp2;go_ret;refine ⟨?_,HB.out.trans (Ac.out.mono HB.out.size)⟩;rw [HH.out];have:(List.range L).all sm=false:=by
             rw [List.all_eq_false];exact ⟨q,List.mem_range.2 Ae.out,by rw [HF.out];decide⟩
            rw [this];rfl
         · have hqe:q=L:=(by omega);subst hqe;have hlt' : ¬ (q:Int)<q:=(by omega);go_wp2;go_ret;refine ⟨?_,HB.out.trans (Aa.out.mono HB.out.size)⟩;rw [HH.out];have:(List.range q).all sm=true:=by
            rw [List.all_eq_true];intro x hx;exact Af.out x (List.mem_range.1 hx)
           rw [this];rfl
      · have j5:¬ (L:Int)=L':=(by omega);have j4:((L:Int) != L')=true:=(by simp;omega);have HH:Hid (R=false):=(by show _=_;rw [<- HR.out];unfold ze6;simp [h4]);(go_enter Tryz.func23,Tryz.ntmps23);go_wp2;go_ret;rw [HH.out];exact ⟨rfl,HB.out⟩
    · have j3:(m != m')=true:=(by simp [h3]);have HH:Hid (R=false):=(by show _=_;rw [<- HR.out];unfold ze6;simp [h3]);(go_enter Tryz.func23,Tryz.ntmps23);go_wp2;go_ret;rw [HH.out];exact ⟨rfl,HB.out⟩
   | false =>
    have HH:Hid (R=false):=(by show _=_;rw [<- HR.out];unfold ze6;rw [HE.out];simp);(go_enter Tryz.func23,Tryz.ntmps23);go_wp2;go_ret;rw [HH.out];exact ⟨rfl,HB.out⟩
 · have j1:(k != k')=true:=by simp [h1]
   have HH:Hid (R=false):=by show _=_;rw [<- HR.out];unfold ze6;simp [h1]
   go_enter Tryz.func23,Tryz.ntmps23
   go_wp2;go_ret;rw [HH.out];exact ⟨rfl,HB.out⟩
mutual
def sameP:ITree->ITree->Bool
 | .node k n m _ ks,.node k' n' m' _ ks'=>ze6 k k' n n' m m' ks.length ks'.length&&zmt ks ks'
def zmt:List ITree->List ITree->Bool
 | t::ts,us=>(match us with|[]=>true|u::us=>sameP t u&&zmt ts us)
 | [],_=>true
end
theorem zms:(ks ks' : List ITree)->ks.length=ks'.length->(zmt ks ks'=true↔∀ j (h1:j<ks.length) (h2:j<ks'.length),sameP ks[j] ks'[j]=true)
 | [],_,_=>by rw [zmt];simp
 | t::ts,[],h=>by simp at h
 | t::ts,u::us,h=>by
  rw [zmt];simp only [Bool.and_eq_true];rw [zms ts us (by simpa using h)];constructor
  · rintro ⟨h1,h2⟩ j hj hj';cases j with
    | zero=>exact h1
    | succ j=>exact h2 j (by simpa using hj) (by simpa using hj')
  · intro h1;exact ⟨h1 0 (by simp) (by simp),fun j hj hj'=>h1 (j+1) (by simpa using hj) (by simpa using hj')⟩
def smAt (ks ks' : List ITree) (j:Nat):Bool:=match ks[j]?,ks'[j]? with|some a,some b=>sameP a b|_,_=>true
theorem smAt_all (ks ks' : List ITree) (h:ks.length=ks'.length):(List.range ks.length).all (smAt ks ks')=zmt ks ks':=by
 rw [Bool.eq_iff_iff,zms ks ks' h,List.all_eq_true];constructor
 · intro h1 j hj hj';have:=h1 j (List.mem_range.2 hj);unfold smAt at this;rw [List.getElem?_eq_getElem hj,List.getElem?_eq_getElem hj'] at this;exact this
 · intro h1 j hj;have hj:=List.mem_range.1 hj;have hj' : j<ks'.length:=by omega
   unfold smAt;rw [List.getElem?_eq_getElem hj,List.getElem?_eq_getElem hj'];exact h1 j hj hj'
theorem kid_size {k m a:Int} {n:List UInt8} {ks:List ITree} {j:Nat} (h:j<ks.length):SizeOf.sizeOf ks[j]<SizeOf.sizeOf (ITree.node k n m a ks):=by
 have:=List.sizeOf_lt_of_mem (List.getElem_mem h);simp
 omega
theorem zno:(N:Nat)->(t u:ITree)->SizeOf.sizeOf t<=N->∀ (B B' : Nat) (w:World) (v v' : Value),zik B w t v->zik B' w u v'->B<=w.heap.size->B'<=w.heap.size->Calls Tryz.prog 23 #[v,v'] w (fun e w'=>e=.returned (.bool (sameP t u))∧Below w.heap.size w w')
 | 0,.node k n m a ks,_,h=>by simp at h
 | N+1,.node k n m a ks,.node k' n' m' a' ks',hN=>by
  intro B B' w v v' ht hu hB hB';rw [zfm] at ht hu;obtain ⟨o,c,rfl,h2,h3,h4,h5,h6⟩:=ht;obtain ⟨o',c',rfl,i2,i3,i4,i5,i6⟩:=hu;have hsz:∀ j (h:j<ks.length),SizeOf.sizeOf ks[j]<=N:=fun j h=>by
   have:=kid_size (k:=k) (n:=n) (m:=m) (a:=a) h;omega
  refine (same_core k n m a o ks.length c k' n' m' a' o' ks'.length c' w (Nat.le_trans h2 h3) (smAt ks ks') ?_).mono ?_
  · intro j hj hll;have hj' : j<ks'.length:=(by omega);rcases h6 with h6|⟨g,rfl,hg,hr⟩
    · subst h6;simp at hj
    rcases i6 with i6|⟨g',rfl,hg',hr'⟩
    · subst i6;simp at hj'
    refine ⟨g,g',rfl,rfl,?_⟩;obtain ⟨k1,n1,m1,a1,us,he⟩:∃ k1 n1 m1 a1 us,ks[j]=.node k1 n1 m1 a1 us:=(by cases ks[j];exact ⟨_,_,_,_,_,rfl⟩);obtain ⟨k2,n2,m2,a2,us',he'⟩:∃ k1 n1 m1 a1 us,ks'[j]=.node k1 n1 m1 a1 us:=(by cases ks'[j];exact ⟨_,_,_,_,_,rfl⟩);obtain ⟨o1,c1,hk,htr⟩:=zn3 hr j hj k1 m1 a1 n1 us he;obtain ⟨o2,c2,hk',htr'⟩:=zn3 hr' j hj' k2 m2 a2 n2 us' he';refine ⟨k1,n1,m1,a1,_,k2,n2,m2,a2,_,fun w1 hw=>⟨hk.frame (hw.block g (by omega)),hk'.frame (hw.block g' (by omega)),?_⟩⟩;have hs:smAt ks ks' j=sameP (.node k1 n1 m1 a1 us) (.node k2 n2 m2 a2 us'):=by
     unfold smAt;rw [List.getElem?_eq_getElem hj,List.getElem?_eq_getElem hj',he,he']
    rw [hs];exact zno N _ _ (he ▸ hsz j hj) B B' w1 _ _ (htr.frame (Nat.le_refl _) (fun b hb=>hw.block b (by omega))) (htr'.frame (Nat.le_refl _) (fun b hb=>hw.block b (by omega))) (Nat.le_trans hB hw.size) (Nat.le_trans hB' hw.size)
  · rintro e w' ⟨rfl,h⟩;refine ⟨?_,h⟩;rw [sameP];by_cases hll:ks.length=ks'.length
    · rw [smAt_all ks ks' hll]
    · have:ze6 k k' n n' m m' ks.length ks'.length=false:=(by unfold ze6;simp [hll]);rw [this];rfl
end Go.Proofs.YtighggeokiahfaaGreatDoor
namespace Go.Proofs.YtighggeokiahfaaGreatDoor
open Go.RowKit Go.Lib
def zln:Tree:=.node 1 [] 0 0 [.node 2 [65] 0 6 [.node 28 [] 16 10 []]]
def exNum:ITree:=.node 28 [] 16 10 []
def exKid:ITree:=.node 2 [65] 0 6 [exNum]
def exI:ITree:=.node 1 [] 0 0 [exKid]
theorem ex_toI:zln.toI=exI:=by kernel_rfl
theorem parse_ex:zeo [99,111,110,115,116,32,65,32,61,32,48,120,49,48,59]=.ok zln:=by kernel_rfl
theorem parse_ex2:zeo [116,121,112,101,100,101,102,32,118,111,105,100,59]=.err 40 8:=by kernel_rfl
theorem ex_ok:TreeOk zln:=by
 unfold zln;simp [TreeOk,zl5,maxLen]
structure ExAt (w:World) (g c g1 c1:Nat) (o2:Option Addr) (c2:Nat):Prop where
 top:zik w.heap.size w exI (zcu 1 [] 0 0 (.slice (some ⟨g,0,none⟩) 1 c))
 one:zik w.heap.size w exKid (zcu 2 [65] 0 6 (.slice (some ⟨g1,0,none⟩) 1 c1))
 kid:KidR w g 0 2 [65] 0 6 (.slice (some ⟨g1,0,none⟩) 1 c1)
 num:KidR w g1 0 28 [] 16 10 (.slice o2 0 c2)
 lt:g<w.heap.size
 lt1:g1<w.heap.size
theorem ExAt.below {w w' : World} {g c g1 c1:Nat} {o2:Option Addr} {c2:Nat} (h:ExAt w g c g1 c1 o2 c2) (hB:Below w.heap.size w w'):ExAt w' g c g1 c1 o2 c2 :=
 ⟨h.top.frame hB.size hB.block,h.one.frame hB.size hB.block,h.kid.frame (hB.block g h.lt),h.num.frame (hB.block g1 h.lt1),Nat.lt_of_lt_of_le h.lt hB.size,Nat.lt_of_lt_of_le h.lt1 hB.size⟩
theorem ex_at {B:Nat} {w:World} {v:Value} (h:treeIs B zln w v):∃ g c g1 c1 o2 c2,v=zcu 1 [] 0 0 (.slice (some ⟨g,0,none⟩) 1 c)∧ExAt w g c g1 c1 o2 c2:=by
 have ht:=TreeAt.toR zln v ex_ok h;rw [ex_toI] at ht;have ht0:=ht;unfold exI at ht;rw [zfm] at ht;obtain ⟨o,c,rfl,_,_,_,_,h6⟩:=ht;rcases h6 with h6|⟨g,rfl,hg,hr⟩
 · cases h6
 obtain ⟨o1,c1,hk,hk2⟩:=zn3 hr 0 (by simp) 2 0 6 [65] [exNum] rfl;have hk3:=hk2;rw [zfm] at hk2;obtain ⟨o1',c1',he,_,_,_,_,h7⟩:=hk2;unfold zcu at he;have he:=congrArg (fun v=>match v with|Value.agg l=>l.toList|_=>[]) he;simp at he
 obtain ⟨rfl,rfl⟩:=he;rcases h7 with h7|⟨g1,rfl,hg1,hr1⟩
 · cases h7
 obtain ⟨o2,c2,hk4,_⟩:=zn3 hr1 0 (by simp) 28 16 10 [] [] rfl;exact ⟨g,c,g1,c1,o2,c2,rfl,ht0,hk3,hk,hk4,hg,hg1⟩
theorem ex_same {w:World} {g c g1 c1:Nat} {o2:Option Addr} {c2:Nat} (h:ExAt w g c g1 c1 o2 c2):Calls Tryz.prog 23 #[zcu 1 [] 0 0 (.slice (some ⟨g,0,none⟩) 1 c),zcu 1 [] 0 0 (.slice (some ⟨g,0,none⟩) 1 c)] w (fun e w'=>e=.returned (.bool true)∧Below w.heap.size w w') :=
 zno _ exI exI (Nat.le_refl _) _ _ w _ _ h.top h.top (Nat.le_refl _) (Nat.le_refl _)
theorem ex_other {w:World} {g c g1 c1:Nat} {o2:Option Addr} {c2:Nat} (h:ExAt w g c g1 c1 o2 c2):Calls Tryz.prog 23 #[zcu 1 [] 0 0 (.slice (some ⟨g,0,none⟩) 1 c),zcu 2 [65] 0 6 (.slice (some ⟨g1,0,none⟩) 1 c1)] w (fun e w'=>e=.returned (.bool false)∧Below w.heap.size w w') :=
 zno _ exI exKid (Nat.le_refl _) _ _ w _ _ h.top h.one (Nat.le_refl _) (Nat.le_refl _)
theorem itoa16:itoa 16=[49,54]:=by
 rw [show (16:Int)=((16:Nat):Int) from rfl,itoa_nonneg,decDigits_two (by decide) (by decide)];rfl
theorem itoa_small16 (w:World):Calls Tryz.prog 130 #[.int .i64 16] w fun e w'=>e=.returned (.string ⟨(itoa 16).toArray⟩)∧Below w.heap.size w w':=by
 refine (Tryz.strconv_Itoa_small 16 (by decide) w).mono ?_;rintro e w' ⟨rfl,rfl⟩;refine ⟨?_,Below.refl _ _⟩;rw [show (16:Int)=((16:Nat):Int) from rfl,itoa_nonneg]
theorem ex_text:zg2 (fun _=>zh8 [65] 0 1 28 [] 16 0) 1 [] 0 [exKid] []=some [99,111,110,115,116,32,65,61,49,54,59]:=by
 unfold zg2 defsP zh8 zj9;rw [itoa16];kernel_rfl
theorem ex_print {w:World} {g c g1 c1:Nat} {o2:Option Addr} {c2:Nat} (h:ExAt w g c g1 c1 o2 c2):Calls Tryz.prog 20 #[zcu 1 [] 0 0 (.slice (some ⟨g,0,none⟩) 1 c)] w (zl6 (some [99,111,110,115,116,32,65,61,49,54,59]) w):=by
 refine print_any 1 [] 0 0 (some ⟨g,0,none⟩) 1 c _ w (fun w1 p hp hB hP=>?_);have h1:=h.below hB;have hlt:=h.lt;have hlt1:=h.lt1
 have hx:=zk7 p 1 [] 0 0 (some ⟨g,0,none⟩) [exKid] c g [] 0 (.slice none 0 0) w1 hP (by simp) (by simp) (fun _=>zh8 [65] 0 1 28 [] 16 0) (fun j hj=>by
  have hj:j=0:=by simp at hj;omega
  subst hj;refine ⟨rfl,by omega,2,[65],0,6,_,_,_,h1.kid,fun w2 txt v hPv hx hf=>?_⟩
  exact pconst_any p [65] 0 6 (some ⟨g1,0,none⟩) 1 c1 g1 28 [] 16 10 o2 0 c2 txt 0 v w2 hPv hx (by simp [maxLen]) (by decide) (by decide) (fun m=>m=16) rfl (by
   rintro m rfl w3 _
   exact itoa_small16 w3) (fun _=>⟨rfl,by omega,h1.num.frame (hf g1 (by omega))⟩))
 rw [ex_text] at hx;exact hx
theorem none_print (w:World):Calls Tryz.prog 20 #[zcu 99 [] 0 0 (.slice none 0 0)] w (zl6 none w):=by
 refine print_any 99 [] 0 0 none 0 0 _ w (fun w1 p hp hB hP=>?_);exact zk7 p 99 [] 0 0 none [] 0 0 [] 0 (.slice none 0 0) w1 hP (by simp) (by simp) (fun _ _=>none) (fun j hj=>by simp at hj)
end Go.Proofs.YtighggeokiahfaaGreatDoor
namespace Go.Proofs.YtighggeokiahfaaGreatDoor
open Go.RowKit
theorem pair0 (a b:Value) (w:World):(Instr.extract (.tuple #[a,b]) 0).run Tryz.prog w=.ok a w:=rfl
theorem pair1 (a b:Value) (w:World):(Instr.extract (.tuple #[a,b]) 1).run Tryz.prog w=.ok b w:=rfl
theorem bld99 (w:World):(Instr.build 29 #[(0,.int .i64 99)]).run Tryz.prog w=.ok (.agg #[.int .i64 99,.string ⟨#[]⟩,.int .i64 0,.int .i64 0,.slice none 0 0]) w:=by kernel_rfl
theorem awake_any (w:World) (hG:zi6 w):Calls Tryz.prog 10 #[] w (fun e w'=>e=.returned (.bool true)∧Below w.heap.size w w'):=by
 have HG:=hid hG;have Aj:Hid (Calls Tryz.prog 11 #[.string ⟨[99,111,110,115,116,32,65,32,61,32,48,120,49,48,59].toArray⟩] w (ParsePost (.ok zln) w)):=by
  have hp:=zla [99,111,110,115,116,32,65,32,61,32,48,120,49,48,59] w hG;rw [parse_ex] at hp;exact hp
 clear hG;have x0:=ext0;have x1:=ext1;have x2:=ext2;have y0:=pair0;have y1:=pair1;have qb:=bld99;go_enter Tryz.func10,Tryz.ntmps10
 go_wp2_with fail
 refine Aj.out.mono ?_;rintro e w1 ⟨v,rfl,hT,hB1⟩;obtain ⟨g,c,g1,c1,o2,c2,rfl,hex⟩:=ex_at hT;have Al:=hid hB1;obtain ⟨wb,hwb⟩:∃ x,w1.alloc (.cells #[.int .i64 1,.string ⟨#[]⟩,.int .i64 0,.int .i64 0,.slice (some ⟨g,0,none⟩) 1 c] 29)=x:=⟨_,rfl⟩;have hbb:Below w1.heap.size w1 wb:=by rw [<- hwb];exact zab _ _
 have Ab:=hid (hex.below hbb);have Ac:=hid (hB1.trans (hbb.mono hB1.size));have Af:Hid (wb.heap[w1.heap.size]?=some (zhx 1 [] 0 0 (.slice (some ⟨g,0,none⟩) 1 c))):=by show _=_;rw [<- hwb];exact heap_alloc_new _ _
 obtain ⟨⟨z0,z1,z2,z3,z4⟩,_⟩:=zax Af.out;clear hT hB1 hex hbb;unfold zcu;go_wp2_with fail
 refine (ex_print Ab.out).mono ?_;rintro e w2 ⟨rfl,hB2⟩;clear hwb z0 z1 z2 z3 z4;have Ag:=hid hB2;have Ae:=hid (Ac.out.trans (hB2.mono Ac.out.size));have Ak:Hid (Calls Tryz.prog 11 #[.string ⟨[116,121,112,101,100,101,102,32,118,111,105,100,59].toArray⟩] w2 (ParsePost (.err 40 8) w2)):=by
  have hp:=zla [116,121,112,101,100,101,102,32,118,111,105,100,59] w2 (HG.out.below Ae.out);rw [parse_ex2] at hp;exact hp
 clear hB2;go_wp2_with fail
 refine Ak.out.mono ?_;rintro e w3 ⟨rfl,hB3⟩;have Ah:=hid (Ag.out.trans (hB3.mono Ag.out.size));clear hB3;unfold kidV;go_wp2_with fail
 refine (none_print _).mono ?_;rintro e w4 ⟨rfl,hB4⟩;have Aa:Hid (Below wb.heap.size wb w4):=by
  have hb:=Ah.out.alloc Ah.out.size (.cells #[.int .i64 0,.string ⟨#[]⟩,.int .i64 0,.int .i64 0,.slice none 0 0] 29);exact hb.trans (hB4.mono hb.size)
 clear hB4;have HS:Hid (∀ wx,Below wb.heap.size wb wx->(wx.cell? ⟨w1.heap.size,0,none⟩=some (.int .i64 1)∧wx.cell? ⟨w1.heap.size,1,none⟩=some (.string ⟨#[]⟩)∧wx.cell? ⟨w1.heap.size,2,none⟩=some (.int .i64 0)∧wx.cell? ⟨w1.heap.size,3,none⟩=some (.int .i64 0)∧wx.cell? ⟨w1.heap.size,4,none⟩=some (.slice (some ⟨g,0,none⟩) 1 c)∧wx.cell? ⟨g,0,none⟩=some (.int .i64 2)∧wx.cell? ⟨g,1,none⟩=some (.string ⟨#[65]⟩)∧wx.cell? ⟨g,2,none⟩=some (.int .i64 0)∧wx.cell? ⟨g,3,none⟩=some (.int .i64 6)∧wx.cell? ⟨g,4,none⟩=some (.slice (some ⟨g1,0,none⟩) 1 c1))):=by
  show ∀ wx,_;intro wx hb;obtain ⟨⟨z0,z1,z2,z3,z4⟩,_⟩:=zax (zaj hb Af.out);have he:=Ab.out.below hb;exact ⟨z0,z1,z2,z3,z4,he.kid.c0,he.kid.c1,he.kid.c2,he.kid.c3,he.kid.c4⟩
 have s0:=HS.out w4 Aa.out;have s1:∀ i,((w4.drewN i).cell? ⟨w1.heap.size,0,none⟩=some (.int .i64 1)∧(w4.drewN i).cell? ⟨w1.heap.size,1,none⟩=some (.string ⟨#[]⟩)∧(w4.drewN i).cell? ⟨w1.heap.size,2,none⟩=some (.int .i64 0)∧(w4.drewN i).cell? ⟨w1.heap.size,3,none⟩=some (.int .i64 0)∧(w4.drewN i).cell? ⟨w1.heap.size,4,none⟩=some (.slice (some ⟨g,0,none⟩) 1 c)∧(w4.drewN i).cell? ⟨g,0,none⟩=some (.int .i64 2)∧(w4.drewN i).cell? ⟨g,1,none⟩=some (.string ⟨#[65]⟩)∧(w4.drewN i).cell? ⟨g,2,none⟩=some (.int .i64 0)∧(w4.drewN i).cell? ⟨g,3,none⟩=some (.int .i64 6)∧(w4.drewN i).cell? ⟨g,4,none⟩=some (.slice (some ⟨g1,0,none⟩) 1 c1)):=fun _=>s0;obtain ⟨z0,z1,z2,z3,z4,k0,k1,k2,k3,k4⟩:=s0;have n2:w4.cell? ⟨g1,2,none⟩=some (.int .i64 16):=(Ab.out.below Aa.out).num.c2;go_wp2_with fail
 have s0:=HS.out w4 Aa.out;clear z0 z1 z2 z3 z4 k0 k1 k2 k3 k4 n2
 go_region_held (fun w'=>(w'.cell? ⟨w1.heap.size,0,none⟩=some (.int .i64 1)∧w'.cell? ⟨w1.heap.size,1,none⟩=some (.string ⟨#[]⟩)∧w'.cell? ⟨w1.heap.size,2,none⟩=some (.int .i64 0)∧w'.cell? ⟨w1.heap.size,3,none⟩=some (.int .i64 0)∧w'.cell? ⟨w1.heap.size,4,none⟩=some (.slice (some ⟨g,0,none⟩) 1 c)∧w'.cell? ⟨g,0,none⟩=some (.int .i64 2)∧w'.cell? ⟨g,1,none⟩=some (.string ⟨#[65]⟩)∧w'.cell? ⟨g,2,none⟩=some (.int .i64 0)∧w'.cell? ⟨g,3,none⟩=some (.int .i64 6)∧w'.cell? ⟨g,4,none⟩=some (.slice (some ⟨g1,0,none⟩) 1 c1))) (first|with_reducible exact s0|with_reducible exact s1 _|with_reducible exact s5|with_reducible exact s6|with_reducible exact s7|exact s0) (first
  | (go_at_call_of 23 (Value.slice (some (Addr.mk g1 0 none)) 1 c1)
     refine (ex_other (g:=g) (c:=c) (g1:=g1) (c1:=c1) (o2:=o2) (c2:=c2) ?_).mono ?_;exact Ab.out.below Ad.out;rintro e w6 ⟨rfl,hB0⟩;have Ai:=hid (Ad.out.trans (hB0.mono Ad.out.size));have s6:=HS.out w6 Ai.out
     clear hB0)
  | (go_at_call 23
     refine (ex_same (g:=g) (c:=c) (g1:=g1) (c1:=c1) (o2:=o2) (c2:=c2) ?_).mono ?_;exact Ab.out.below (zem Aa.out _);rintro e w5 ⟨rfl,hB0⟩;have Ad:=hid ((zem Aa.out _).trans (hB0.mono (zem Aa.out _).size));have s5:=HS.out w5 Ad.out
     clear hB0))
 go_wp2;go_ret;exact ⟨rfl,Ac.out.trans (Ai.out.mono Ac.out.size)⟩
def addP (n m:Nat):Nat:=if n+m<=2147483647 then n+m else 2147483648
theorem add_le (n m:Nat):addP n m<=2147483648:=by unfold addP;split <;> omega
theorem add_any (n m:Nat) (hn:n<=9223372036854775807) (hm:m<=9223372036854775807) (w:World):Calls Tryz.prog 9 #[.int .i64 n,.int .i64 m] w fun e w'=>e=.returned (.int .i64 (addP n m))∧w'=w:=by
 have h1:(n:Int)<=9223372036854775807:=by omega
 have h2:(m:Int)<=9223372036854775807:=by omega
 by_cases h:n+m<=2147483647
 · have e:addP n m=n+m:=if_pos h;rw [e];have h3:¬ (m:Int) > 2147483647 - (n:Int):=by omega
   have h4:decide ((2147483647 - (n:Int))<(m:Int))=false:=by simp;omega
   have h5:(n:Int)+(m:Int)<=2147483647:=by omega
   go_enter Tryz.func9,Tryz.ntmps9
   go_wp2;go_ret;exact ⟨rfl,rfl⟩
 · have e:addP n m=2147483648:=if_neg h;rw [e];have h4:decide ((2147483647 - (n:Int))<(m:Int))=true:=by simp;omega
   have h3:(2147483647 - (n:Int))<(m:Int):=by omega
   go_enter Tryz.func9,Tryz.ntmps9
   go_wp2;go_ret;exact ⟨rfl,rfl⟩
def zd9 (n:Nat):Nat:=addP n (addP n n)
theorem thrice_le (n:Nat):zd9 n<=2147483648:=add_le _ _
theorem zi9 (n:Nat) (hn:n<=9223372036854775807) (w:World):Calls Tryz.prog 8 #[.int .i64 n] w fun e w'=>e=.returned (.int .i64 (zd9 n))∧w'=w:=by
 have h1:(n:Int)<=9223372036854775807:=by omega
 have H1:Hid (∀ w,Calls Tryz.prog 9 #[.int .i64 n,.int .i64 n] w fun e w'=>e=.returned (.int .i64 (addP n n))∧w'=w):=fun w=>add_any n n hn hn w;have H2:Hid (∀ w,Calls Tryz.prog 9 #[.int .i64 n,.int .i64 (addP n n:Nat)] w fun e w'=>e=.returned (.int .i64 (zd9 n))∧w'=w):=fun w=>add_any n _ hn (by have:=add_le n n;omega) w;generalize addP n n=y at *;go_enter Tryz.func8,Tryz.ntmps8
 go_wp2_with fail
 refine (H1.out _).mono ?_;rintro e w1 ⟨rfl,hw⟩;rw [hw];clear hw;go_wp2_with fail
 refine (H2.out _).mono ?_;rintro e w2 ⟨rfl,hw⟩;rw [hw];clear hw;go_wp2;go_ret;exact ⟨rfl,rfl⟩


end Go.Proofs.YtighggeokiahfaaGreatDoor
