import Derived.Test.YtighggeokiahfaaGreatDoorPrs00
import Derived.Test.YtighggeokiahfaaGreatDoorPrs19
import Derived.Test.YtighggeokiahfaaGreatDoorPrs03
import Derived.Deep.RegionHeld3
import Derived.Test.YtighggeokiahfaaGreatDoorPrs11
set_option maxRecDepth 4000
set_option maxHeartbeats 20000000
namespace Go.Proofs.YtighggeokiahfaaGreatDoor
open Go.RowKit
mutual
def LstT (w:World):Tree->Value->List Value->Prop
 | .node k n m a ks,v,ls=>∃ sl,v=kidV k n m a sl∧∃ xs,w.ownsRow 0 29 5 sl ks.length xs∧∃ r,LstR w ks xs r∧ls=sl::r
def LstR (w:World):List Tree->List Value->List Value->Prop
 | [],xs,ls=>xs=[]∧ls=[]
 | t::ts,xs,ls=>∃ v0 v1 v2 v3 v4 ys,xs=v0::v1::v2::v3::v4::ys∧∃ l1 l2,LstT w t (.agg #[v0,v1,v2,v3,v4]) l1∧LstR w ts ys l2∧ls=l1++l2
end
end Go.Proofs.YtighggeokiahfaaGreatDoor
namespace Go.Proofs.YtighggeokiahfaaGreatDoor.Dm
open Go.RowKit
theorem upto_cons (f:Nat->List Value):(n:Nat)->upto f (n+1)=f 0++upto (fun j=>f (j+1)) n
 | 0=>by simp [upto]
 | n+1=>by rw [upto,upto_cons f n,upto,List.append_assoc]
theorem upto_le (f:Nat->List Value) (j:Nat):(d:Nat)->(upto f j).length<=(upto f (j+d)).length
 | 0=>Nat.le_refl _
 | d+1=>by
  have:=upto_le f j d;rw [<- Nat.add_assoc,upto,List.length_append];omega
theorem lstR_get {w:World}:(ts:List Tree)->(xs ls:List Value)->LstR w ts xs ls->∃ f:Nat->List Value,ls=upto f ts.length∧(∀ j,ts.length<=j->f j=[])∧∀ j (hj:j<ts.length),∃ v0 v1 v2 v3 v4,(xs[j*5]?=some v0∧xs[j*5+1]?=some v1∧xs[j*5+2]?=some v2∧xs[j*5+3]?=some v3∧xs[j*5+4]?=some v4)∧LstT w ts[j] (.agg #[v0,v1,v2,v3,v4]) (f j)
 | [],xs,ls=>fun h=>by
  rw [LstR] at h;exact ⟨fun _=>[],by rw [h.2];rfl,fun _ _=>rfl,fun j hj=>by simp at hj⟩
 | t::ts,xs,ls=>fun h=>by
  rw [LstR] at h;obtain ⟨v0,v1,v2,v3,v4,ys,rfl,l1,l2,h1,h2,rfl⟩:=h;obtain ⟨f,rfl,hz,hf⟩:=lstR_get ts ys l2 h2;refine ⟨fun j=>match j with|0=>l1|j+1=>f j,?_,?_,?_⟩
  · rw [List.length_cons,upto_cons]
  · intro j hj;cases j with
    | zero=>simp at hj
    | succ j=>exact hz j (by simp at hj;omega)
  · intro j hj;cases j with
    | zero=>exact ⟨v0,v1,v2,v3,v4,⟨rfl,rfl,rfl,rfl,rfl⟩,h1⟩
    | succ j =>
     obtain ⟨u0,u1,u2,u3,u4,⟨c0,c1,c2,c3,c4⟩,ht⟩:=hf j (by simp at hj;omega);refine ⟨u0,u1,u2,u3,u4,⟨?_,?_,?_,?_,?_⟩,ht⟩
     · rw [show (j+1)*5=j*5+5 by omega];exact c0
     · rw [show (j+1)*5+1=j*5+1+5 by omega];exact c1
     · rw [show (j+1)*5+2=j*5+2+5 by omega];exact c2
     · rw [show (j+1)*5+3=j*5+3+5 by omega];exact c3
     · rw [show (j+1)*5+4=j*5+4+5 by omega];exact c4
theorem zmz {w:World} {b:Nat} {e:TypeId} {s:Nat} {v:Value} {n:Nat} {xs:List Value} (h:w.ownsRow b e s v n xs):∃ o c,v=.slice o n c:=by
 rcases h.2 with ⟨rfl,h0⟩|⟨g,cap,cur,rfl,_⟩
 · exact ⟨none,0,by rw [h0]⟩
 · exact ⟨_,cap,rfl⟩
mutual
theorem zn2 {w:World}:(t:Tree)->(v:Value)->(ls:List Value)->LstT w t v ls->∀ u∈ls,u.oneCell'=true
 | .node k n m a ks,v,ls=>fun h=>by
  rw [LstT] at h;obtain ⟨sl,_,xs,ho,r,hr,rfl⟩:=h;intro u hu;rcases List.mem_cons.1 hu with rfl|hu
  · obtain ⟨o,c,rfl⟩:=zmz ho;simp [Value.oneCell']
  · exact lstR_one ks xs r hr u hu
theorem lstR_one {w:World}:(ts:List Tree)->(xs ls:List Value)->LstR w ts xs ls->∀ u∈ls,u.oneCell'=true
 | [],xs,ls=>fun h=>by rw [LstR] at h;rw [h.2];simp
 | t::ts,xs,ls=>fun h=>by
  rw [LstR] at h;obtain ⟨v0,v1,v2,v3,v4,ys,_,l1,l2,h1,h2,rfl⟩:=h;intro u hu;rcases List.mem_append.1 hu with hu|hu
  · exact zn2 t _ l1 h1 u hu
  · exact lstR_one ts ys l2 h2 u hu
end
theorem lists_any:(N:Nat)->(t:Tree)->SizeOf.sizeOf t<=N->∀ (w:World) (v:Value) (ls:List Value),LstT w t v ls->ls.length<=1000000000->∀ w1,Below w.heap.size w w1->Calls Tryz.prog 14 #[v] w1 (LsPost w1 ls)
 | 0,.node k n m a ks,h=>by simp at h
 | N+1,.node k n m a ks,hN=>by
  intro w v ls ht hlen w1 hB;rw [LstT] at ht;obtain ⟨sl,rfl,xs,ho,r,hr,rfl⟩:=ht;obtain ⟨o,c,rfl⟩:=zmz ho;obtain ⟨f,rfl,hz,hf⟩:=lstR_get ks xs r hr;have hone:∀ j,∀ u∈f j,u.oneCell'=true:=by
   intro j u hu;by_cases hj:j<ks.length
   · obtain ⟨_,_,_,_,_,_,ht⟩:=hf j hj;exact zn2 _ _ _ ht u hu
   · rw [hz j (by omega)] at hu;simp at hu
  have hmon:∀ j,j<ks.length->(upto f (j+1)).length<=(upto f ks.length).length:=fun j hj=>by
   have:=upto_le f (j+1) (ks.length - (j+1));rwa [show j+1+(ks.length - (j+1))=ks.length by omega] at this
  rw [List.length_cons] at hlen;refine lists_core k n m a o ks.length c w1 ?_ f hone (by omega) ?_ hmon ?_
  · rcases ho.2 with ⟨_,h0⟩|⟨g,cap,cur,_,_,_,h1,h2,_⟩
    · rw [h0];exact Nat.zero_le _
    · exact Nat.le_trans h1 h2
  · intro j hj;obtain ⟨_,_,_,_,_,_,ht⟩:=hf j hj;generalize ks[j]=t at ht;obtain ⟨k1,n1,m1,a1,us⟩:=t;rw [LstT] at ht;obtain ⟨_,_,_,_,_,_,e⟩:=ht;rw [e];simp
  · intro j hj;obtain ⟨g,cap,he,_,hg⟩:=ho.form (by omega);cases he;obtain ⟨v0,v1,v2,v3,v4,⟨c0,c1,c2,c3,c4⟩,ht⟩:=hf j hj;have hsz:SizeOf.sizeOf ks[j]<=N:=by
     have h1:=List.sizeOf_lt_of_mem (List.getElem_mem hj);(simp at hN);omega
    generalize ks[j]=t at ht hsz;obtain ⟨k1,n1,m1,a1,us⟩:=t;have ht2:=ht;rw [LstT] at ht2;obtain ⟨s1,e,_⟩:=ht2;unfold kidV at e;cases e;refine ⟨g,rfl,k1,n1,m1,a1,v4,fun w2 hB2=>⟨?_,?_⟩⟩
    · have hb:w2.heap[g]?=w.heap[g]?:=(hB2.block g (Nat.lt_of_lt_of_le hg hB.size)).trans (hB.block g hg);exact KidR.frame ⟨(ho.cellAt _ (by omega)).trans c0,(ho.cellAt _ (by omega)).trans c1,(ho.cellAt _ (by omega)).trans c2,(ho.cellAt _ (by omega)).trans c3,(ho.cellAt _ (by omega)).trans c4⟩ hb
    · have hle:(f j).length<=(upto f (j+1)).length:=(by rw [upto,List.length_append];omega);have:=hmon j hj;exact lists_any N _ hsz w _ _ ht (by omega) w2 (hB.trans (hB2.mono hB.size))
end Go.Proofs.YtighggeokiahfaaGreatDoor.Dm
namespace Go.Proofs.YtighggeokiahfaaGreatDoor
mutual
def nodes:Tree->Nat
 | .node _ _ _ _ ks=>1+za9 ks
def za9:List Tree->Nat
 | []=>0
 | t::ts=>nodes t+za9 ts
end
theorem zdo:(a b:List Tree)->za9 (a++b)=za9 a+za9 b
 | [],b=>by simp [za9]
 | t::a,b=>by rw [List.cons_append,za9,za9,zdo a b];omega
theorem ze1 (t:Tree):za9 [t]=nodes t:=by simp [za9]
theorem bind_ok {α β:Type} {r:Ans α} {f:α->PS->Ans β} {b:β} {s' : PS} (h:r.bind f=.ok b s'):∃ a s1,r=.ok a s1∧f a s1=.ok b s':=by
 cases r with
 | ok a s=>exact ⟨a,s,rfl,h⟩
 | no e i=>cases h
theorem zja {s:PS} {t:Tok} {s' : PS} (h:s.take=.ok t s'):s'.ts.length<=s.ts.length:=by
 unfold PS.take at h;split at h
 · cases h
 · cases h;simp
theorem take_n {s:PS} {t:Tok} {s' : PS} (h:s.take=.ok t s') (hn:s.ts≠[]):s'.ts.length+1=s.ts.length:=by
 unfold PS.take at h;split at h
 · cases h
 · cases h;cases hs:s.ts with
   | nil=>exact absurd hs hn
   | cons a r=>simp
theorem zgx {s:PS} {w:List UInt8} (h:s.sees w=true) (hw:w≠[]):s.ts≠[]:=by
 intro e;unfold PS.sees PS.hd at h;rw [e] at h;simp at h
 exact hw h
theorem zcz {s:PS} {w:List UInt8} {u:Unit} {s' : PS} (h:s.want w=.ok u s') (hw:w≠[]):s'.ts.length+1=s.ts.length:=by
 unfold PS.want at h;split at h
 · obtain ⟨t,s1,h1,h2⟩:=bind_ok h;cases h2;exact take_n h1 (zgx ‹_› hw)
 · cases h
theorem kind_n {s:PS} {k:Int} {t:Tok} {s' : PS} (h:s.ofKind k=.ok t s') (hk:k≠5):s'.ts.length+1=s.ts.length:=by
 unfold PS.ofKind at h;split at h
 · rename_i hh;refine take_n h (fun e=>?_);unfold PS.hd at hh;rw [e] at hh;exact hk hh.symm
 · cases h
theorem room_n (s:PS) (a b:Nat):(s.room a b).ts=s.ts:=by unfold PS.room;split <;> rfl
theorem zjy {s:PS} {t:Tok} {s' : PS} (h:zcp s=.ok t s'):s'.ts.length+1=s.ts.length:=kind_n h (by decide)
def Use (F:PS->Ans Tree):Prop:=∀ s t s',F s=.ok t s'->nodes t+s'.ts.length<=s.ts.length
def UseL (F:PS->Ans (List Tree)):Prop:=∀ s l s',F s=.ok l s'->za9 l+s'.ts.length<=s.ts.length
theorem zjr {k:Int} {s:PS} {t:Tree} {s' : PS} (h:zcw k s=.ok t s') (hn:s.ts≠[]):nodes t+s'.ts.length<=s.ts.length:=by
 obtain ⟨x,s1,h1,h2⟩:=bind_ok h;cases h2;have:=take_n h1 hn;simp [nodes,za9];omega
theorem use_ref:Use refP:=by
 intro s t s' h;obtain ⟨x,s1,h1,h2⟩:=bind_ok h;cases h2;have:=zjy h1;simp [named,nodes,za9];omega
theorem zi8:Use zeb:=by
 intro s t s' h;obtain ⟨x,s1,h1,h2⟩:=bind_ok h;cases h2;have:=kind_n h1 (by decide);simp [nodes,za9];omega
theorem zio:Use zbz:=by
 intro s t s' h;unfold zbz at h;split at h
 · exact use_ref _ _ _ h
 · exact zi8 _ _ _ h
theorem zkq:Use za5:=by
 intro s t s' h;unfold za5 at h;split at h
 · cases h
 · exact zi8 _ _ _ h
theorem zne:Use zd7:=by
 intro s t s' h;unfold zd7 at h;split at h
 · exact use_ref _ _ _ h
 · obtain ⟨x,s1,h1,h2⟩:=bind_ok h;have hle:s1.ts.length<=s.ts.length:=by
    split at h1
    · obtain ⟨y,s2,h3,h4⟩:=bind_ok h1;cases h4;exact zja h3
    · cases h1;exact Nat.le_refl _
   split at h2
   · rename_i b hb;obtain ⟨y,s2,h3,h4⟩:=bind_ok h2;cases h4;have hp:=List.find?_some hb;have hm:=List.mem_of_find?_eq_some hb;simp only [Bool.and_eq_true] at hp;have hw:b.2.2≠[]:=by
      have:∀ c∈zb0,c.2.2≠[]:=(by decide);exact this b hm
     have:=take_n h3 (zgx hp.2 hw);simp [nodes,za9];omega
   · cases h2
theorem zkh {one:PS->Ans Tree} (ends:List (List UInt8)) (ho:Use one):(f:Nat)->∀ acc s l s',zcl one ends f acc s=.ok l s'->za9 l+s'.ts.length<=za9 acc+s.ts.length
 | 0=>fun acc s l s' h=>by rw [zcl] at h;cases h
 | f+1=>fun acc s l s' h=>by
  rw [zcl] at h;split at h
  · obtain ⟨t,s1,h1,h2⟩:=bind_ok h;have a:=ho _ _ _ h1;have b:=zkh ends ho f _ _ _ _ h2;rw [room_n] at a;rw [zdo,ze1] at b;omega
  · cases h;exact Nat.le_refl _
theorem use_more {one:PS->Ans Tree} (most:Nat) (ho:Use one):(f:Nat)->∀ acc s l s',zha one most f acc s=.ok l s'->za9 l+s'.ts.length<=za9 acc+s.ts.length
 | 0=>fun acc s l s' h=>by rw [zha] at h;cases h
 | f+1=>fun acc s l s' h=>by
  rw [zha] at h;split at h
  · obtain ⟨x,s0,h0,h⟩:=bind_ok h;obtain ⟨t,s1,h1,h2⟩:=bind_ok h;have z:=zja h0;have a:=ho _ _ _ h1;have b:=use_more most ho f _ _ _ _ h2;rw [room_n] at z;rw [zdo,ze1] at b;omega
  · cases h;exact Nat.le_refl _
theorem zmp {one:PS->Ans Tree} (most:Nat) (ho:Use one):UseL (zfd one most):=by
 intro s l s' h;obtain ⟨t,s1,h1,h2⟩:=bind_ok h;have a:=ho _ _ _ h1;have b:=use_more most ho _ _ _ _ _ h2;rw [ze1] at b;omega
theorem use_member:Use zgf:=by
 intro s t s' h;obtain ⟨n,s1,h1,h⟩:=bind_ok h;obtain ⟨_,s2,h2,h⟩:=bind_ok h;obtain ⟨v,s3,h3,h⟩:=bind_ok h;cases h;have a:=zjy h1;have b:=zcz h2 (by decide);have c:=zio _ _ _ h3;simp only [named,nodes,za9];omega
theorem zkp {k:Int} {of:Tree} {s:PS} {t:Tree} {s' : PS} (h:zdq k of s=.ok t s'):nodes t+s'.ts.length<=nodes of+s.ts.length:=by
 obtain ⟨n,s1,h1,h⟩:=bind_ok h;have a:=zjy h1;split at h
 · obtain ⟨_,s2,h2,h⟩:=bind_ok h;obtain ⟨v,s3,h3,h⟩:=bind_ok h;obtain ⟨_,s4,h4,h⟩:=bind_ok h;cases h;have b:=zja h2;have c:=zio _ _ _ h3;have d:=zcz h4 (by decide);simp only [named,nodes,za9];omega
 · split at h
   · obtain ⟨_,s2,h2,h⟩:=bind_ok h;have b:=zcz h2 (by decide);split at h
     · obtain ⟨_,s3,h3,h⟩:=bind_ok h;cases h;have c:=zcz h3 (by decide);simp only [named,nodes,za9];omega
     · obtain ⟨v,s3,h3,h⟩:=bind_ok h;obtain ⟨_,s4,h4,h⟩:=bind_ok h;cases h;have c:=zio _ _ _ h3;have d:=zcz h4 (by decide);simp only [named,nodes,za9];omega
   · split at h
     · cases h
     · cases h;simp only [named,nodes,za9];omega
theorem use_written {B:PS->Ans Tree} (hB:Use B):Use (zc8 B):=by
 intro s t s' h;unfold zc8 at h;split at h
 · exact hB _ _ _ h
 · exact zne _ _ _ h
theorem ziq {B:PS->Ans Tree} (hB:Use B):Use (zb6 B):=by
 intro s t s' h;unfold zb6 at h;split at h
 · obtain ⟨x,s1,h1,h⟩:=bind_ok h;have a:=zjr h1 (zgx ‹_› (by decide));have b:=zkp h;omega
 · split at h
   · obtain ⟨x,s1,h1,h⟩:=bind_ok h;have a:=zjr h1 (zgx ‹_› (by decide));have b:=zkp h;omega
   · obtain ⟨of,s1,h1,h⟩:=bind_ok h;have a:=use_written hB _ _ _ h1;split at h
     · obtain ⟨_,s2,h2,h⟩:=bind_ok h;obtain ⟨n,s3,h3,h⟩:=bind_ok h;cases h;have b:=zja h2;have c:=zjy h3;simp only [named,nodes,za9];omega
     · have b:=zkp h;omega
theorem zhd {B:PS->Ans Tree} (hB:Use B):Use (za1 B):=by
 intro s t s' h;unfold za1 at h;split at h
 · exact zjr h (zgx ‹_› (by decide))
 · exact ziq hB _ _ _ h
theorem zkr {B:PS->Ans Tree} (hB:Use B):Use (za8 B):=by
 intro s t s' h;obtain ⟨x,s1,h1,h⟩:=bind_ok h;obtain ⟨_,s2,h2,h⟩:=bind_ok h;cases h;have a:=zhd hB _ _ _ h1;have b:=zcz h2 (by decide);omega
theorem use_fields {B:PS->Ans Tree} (hB:Use B):∀ s l s',zc1 B s=.ok l s'->za9 l+s'.ts.length+2<=s.ts.length:=by
 intro s t s' h;obtain ⟨n,s1,h1,h⟩:=bind_ok h;obtain ⟨l,s2,h2,h⟩:=bind_ok h;obtain ⟨v,s3,h3,h⟩:=bind_ok h;cases h;have a:=zcz h1 (by decide);have b:=zkh _ (zkr hB) _ _ _ _ _ h2;have c:=zcz h3 (by decide);simp only [za9] at b;omega
theorem use_cases:(f:Nat)->∀ acc s l s',zdl f acc s=.ok l s'->za9 l+s'.ts.length<=za9 acc+s.ts.length∧(acc=[]->za9 l+s'.ts.length+2<=s.ts.length)
 | 0=>fun acc s l s' h=>by rw [zdl] at h;cases h
 | f+1=>fun acc s l s' h=>by
  rw [zdl] at h;split at h
  · obtain ⟨_,s1,h1,h⟩:=bind_ok h;obtain ⟨v,s2,h2,h⟩:=bind_ok h;obtain ⟨_,s3,h3,h⟩:=bind_ok h;have a:=zcz h1 (by decide);have b:=zio _ _ _ h2;have c:=zcz h3 (by decide);obtain ⟨d,_⟩:=use_cases f _ _ _ _ h;rw [room_n] at a;rw [zdo,ze1] at d;exact ⟨by omega,fun e=>by subst e;simp only [za9] at d;omega⟩
  · rename_i hc;cases h;refine ⟨Nat.le_refl _,fun e=>?_⟩;subst e;simp at hc
theorem use_arm {B:PS->Ans Tree} (hB:Use B):Use (armP B):=by
 intro s t s' h;obtain ⟨l,s1,h1,h⟩:=bind_ok h;obtain ⟨x,s2,h2,h⟩:=bind_ok h;cases h;have a:=(use_cases _ _ _ _ _ h1).2 rfl;have b:=zkr hB _ _ _ h2;simp only [nodes,zdo,ze1];omega
theorem use_choice {B:PS->Ans Tree} (hB:Use B):∀ s l s',zcr B s=.ok l s'->za9 l+s'.ts.length+2<=s.ts.length:=by
 intro s l s' h;obtain ⟨_,s1,h1,h⟩:=bind_ok h;obtain ⟨_,s2,h2,h⟩:=bind_ok h;obtain ⟨d,s3,h3,h⟩:=bind_ok h;obtain ⟨_,s4,h4,h⟩:=bind_ok h;obtain ⟨_,s5,h5,h⟩:=bind_ok h;obtain ⟨l1,s6,h6,h⟩:=bind_ok h;have a1:=zcz h1 (by decide);have a2:=zcz h2 (by decide);have a3:=zhd hB _ _ _ h3;have a4:=zcz h4 (by decide);have a5:=zcz h5 (by decide);have a6:=zkh _ (use_arm hB) _ _ _ _ _ h6;simp only [za9] at a6;split at h
 · obtain ⟨e,s7,h7,h⟩:=bind_ok h;obtain ⟨_,s8,h8,h⟩:=bind_ok h;obtain ⟨t,s9,h9,h⟩:=bind_ok h;obtain ⟨_,s10,h10,h⟩:=bind_ok h;have a7:=zjr h7 (zgx ‹_› (by decide));have a8:=zcz h8 (by decide);have a9:=zkr hB _ _ _ h9;have a10:=zcz h10 (by decide);cases e with
   | node k n m i ks =>
    cases h;simp only [nodes] at a7;simp only [List.cons_append,za9,zdo,nodes];omega
 · obtain ⟨_,s7,h7,h⟩:=bind_ok h;cases h;have a7:=zcz h7 (by decide);simp only [za9];omega
theorem use_members2:∀ s l s',zca s=.ok l s'->za9 l+s'.ts.length+2<=s.ts.length:=by
 intro s t s' h;obtain ⟨n,s1,h1,h⟩:=bind_ok h;obtain ⟨l,s2,h2,h⟩:=bind_ok h;obtain ⟨v,s3,h3,h⟩:=bind_ok h;cases h;have a:=zcz h1 (by decide);have b:=zmp 64 use_member _ _ _ h2;have c:=zcz h3 (by decide);omega
theorem zki:(d:Nat)->(b:Bool)->Use (zbe d b)
 | 0,b=>fun s t s' h=>by rw [zbe] at h;cases h
 | d+1,b=>fun s t s' h=>by
  rw [zbe] at h;obtain ⟨w,s1,h1,h⟩:=bind_ok h;obtain ⟨na,s2,h2,h⟩:=bind_ok h;have a1:=zja h1;have a2:s2.ts.length<=s1.ts.length:=by
   split at h2
   · obtain ⟨n,s3,h3,h4⟩:=bind_ok h2;cases h4;have:=zjy h3;omega
   · cases h2;exact Nat.le_refl _
  split at h
  · obtain ⟨l,s3,h3,h⟩:=bind_ok h;cases h;have:=use_members2 _ _ _ h3;simp only [nodes];omega
  · split at h
    · obtain ⟨l,s3,h3,h⟩:=bind_ok h;cases h;have:=use_fields (zki d false) _ _ _ h3;simp only [nodes];omega
    · obtain ⟨l,s3,h3,h⟩:=bind_ok h;cases h;have:=use_choice (zki d false) _ _ _ h3;simp only [nodes];omega
theorem zju {k:Int} {part:PS->Ans Tree} (hp:Use part):Use (zef k part):=by
 intro s t s' h;obtain ⟨_,s1,h1,h⟩:=bind_ok h;obtain ⟨n,s2,h2,h⟩:=bind_ok h;obtain ⟨_,s3,h3,h⟩:=bind_ok h;obtain ⟨l,s4,h4,h⟩:=bind_ok h;obtain ⟨_,s5,h5,h⟩:=bind_ok h;obtain ⟨_,s6,h6,h⟩:=bind_ok h;obtain ⟨v,s7,h7,h⟩:=bind_ok h;cases h;have a1:=zja h1;have a2:=zjy h2;have a3:=zcz h3 (by decide);have a4:=zkh _ hp _ _ _ _ _ h4;have a5:=zcz h5 (by decide);have a6:=zcz h6 (by decide);have a7:=zkq _ _ _ h7;simp only [za9] at a4;simp only [named,nodes,za9];omega
theorem use_result:Use zge:=by
 intro s t s' h;unfold zge at h;split at h
 · exact zjr h (zgx ‹_› (by decide))
 · exact zne _ _ _ h
theorem znf:UseL zbg:=by
 intro s t s' h;unfold zbg at h;split at h
 · obtain ⟨x,s1,h1,h⟩:=bind_ok h;cases h;have:=zjr h1 (zgx ‹_› (by decide));rw [ze1];exact this
 · exact zmp 4 zne _ _ _ h
theorem znd:Use zcg:=by
 intro s t s' h;obtain ⟨r,s1,h1,h⟩:=bind_ok h;obtain ⟨n,s2,h2,h⟩:=bind_ok h;obtain ⟨_,s3,h3,h⟩:=bind_ok h;obtain ⟨l,s4,h4,h⟩:=bind_ok h;obtain ⟨_,s5,h5,h⟩:=bind_ok h;obtain ⟨_,s6,h6,h⟩:=bind_ok h;obtain ⟨v,s7,h7,h⟩:=bind_ok h;obtain ⟨_,s8,h8,h⟩:=bind_ok h;cases h;have a1:=use_result _ _ _ h1;have a2:=zjy h2;have a3:=zcz h3 (by decide);have a4:=znf _ _ _ h4;have a5:=zcz h5 (by decide);have a6:=zcz h6 (by decide);have a7:=zkq _ _ _ h7;have a8:=zcz h8 (by decide);simp only [named,nodes,za9];omega
theorem use_version:Use zdm:=by
 intro s t s' h;unfold zdm at h;split at h
 · obtain ⟨x,s1,h1,h⟩:=bind_ok h;obtain ⟨_,s2,h2,h⟩:=bind_ok h;cases h;have a:=zju znd _ _ _ h1;have b:=zcz h2 (by decide);omega
 · cases h
theorem zl9:Use zbu:=by
 intro s t s' h;unfold zbu at h;split at h
 · obtain ⟨_,s1,h1,h⟩:=bind_ok h;obtain ⟨n,s2,h2,h⟩:=bind_ok h;obtain ⟨_,s3,h3,h⟩:=bind_ok h;obtain ⟨v,s4,h4,h⟩:=bind_ok h;cases h;have a1:=zcz h1 (by decide);have a2:=zjy h2;have a3:=zcz h3 (by decide);have a4:=zi8 _ _ _ h4;simp only [named,nodes,za9];omega
 · split at h
   · obtain ⟨x,s1,h1,h⟩:=bind_ok h;obtain ⟨d,s2,h2,h⟩:=bind_ok h;cases h;have a1:=take_n h1 (zgx ‹_› (by decide));have a2:=ziq (zki 8 false) _ _ _ h2;simp only [nodes,za9];omega
   · split at h
     · exact zki 8 true _ _ _ h
     · split at h
       · exact zju use_version _ _ _ h
       · cases h
theorem zmo:(f:Nat)->∀ acc s l s',zcn f acc s=.ok l s'->za9 l+s'.ts.length<=za9 acc+s.ts.length
 | 0=>fun acc s l s' h=>by rw [zcn] at h;cases h
 | f+1=>fun acc s l s' h=>by
  rw [zcn] at h;split at h
  · cases h;exact Nat.le_refl _
  · obtain ⟨t,s1,h1,h⟩:=bind_ok h;obtain ⟨_,s2,h2,h⟩:=bind_ok h;have a:=zl9 _ _ _ h1;have b:=zcz h2 (by decide);have c:=zmo f _ _ _ _ h;rw [room_n] at a;rw [zdo,ze1] at c;omega
theorem parse_nodes {l:List UInt8} {t:Tree} (h:zeo l=.ok t):∃ ts,ze9 l=.ok ts∧nodes t<=ts.length+1:=by
 unfold zeo at h;split at h
 · cases h
 · rename_i ts hs;refine ⟨ts,hs,?_⟩;split at h
   · rename_i ks s hk;cases h;have:=zmo _ _ _ _ _ hk;simp only [za9] at this;simp only [nodes];omega
   · cases h
mutual
theorem lstT_len {w:World}:(t:Tree)->(v:Value)->(ls:List Value)->LstT w t v ls->ls.length=nodes t
 | .node k n m a ks,v,ls=>fun h=>by
  rw [LstT] at h;obtain ⟨sl,_,xs,_,r,hr,rfl⟩:=h;have:=lstR_len ks xs r hr;rw [nodes,List.length_cons];omega
theorem lstR_len {w:World}:(ts:List Tree)->(xs ls:List Value)->LstR w ts xs ls->ls.length=za9 ts
 | [],xs,ls=>fun h=>by rw [LstR] at h;rw [h.2];rfl
 | t::ts,xs,ls=>fun h=>by
  rw [LstR] at h;obtain ⟨v0,v1,v2,v3,v4,ys,_,l1,l2,h1,h2,rfl⟩:=h;have a:=lstT_len t _ l1 h1;have b:=lstR_len ts ys l2 h2;rw [za9,List.length_append];omega
end
end Go.Proofs.YtighggeokiahfaaGreatDoor
namespace Go.Proofs.YtighggeokiahfaaGreatDoor.Dm
open Go.RowKit
theorem zoe {w:World} (base:Nat) (t ty e:TypeId) (i:TypeInfo) (z:Value) (size bytes:Nat) (ht:Tryz.prog.underlying t=some (.slice e)) (hi:Tryz.prog.info? e=some i) (hz:i.zero=some z)
 (hsize:i.size=size) (hby:i.bytes=bytes) (hzs:z.cells.size=size) (hsz:0<size) (v:Value) (n:Nat) (xs:List Value) (hown:w.ownsRow base e size v n xs)
 (a:Addr) (c:Nat) (news:List Value) (hl:news.length=1*size) (hnews:∀ j u,news[j]?=some u->w.cell? (a.add j)=some u) (h1:∀ u∈news,u.oneCell'=true)
 (h63:n+1<=maxLen) (hbytes:(n+1)*bytes<=140737488355328) (hbase:base<=w.heap.size) :
 ∃ g cap w',(Builtin.append_ #[t,t] ty #[v,.slice (some a) 1 c]).run Tryz.prog w=.ok (.slice (some ⟨g,0,none⟩) (n+1) cap) w'∧w'.ownsRow base e size (.slice (some ⟨g,0,none⟩) (n+1) cap) (n+1) (xs++news)∧
  ((v.ownBlock=some g∧w.grownBy w' (some g))∨(g=w.heap.size∧w.grownBy w' none)):=by
 obtain ⟨g,cap,w',hr,h2,h3,h4,h5⟩:=run_append_lies (P:=Tryz.prog) w t ty base e i z size bytes ht hi hz hsize hby hzs hsz v n xs hown a 1 c news hl hnews h1 (by omega) h63 hbytes hbase w.heap.size rfl;refine ⟨g,cap,w',hr,h2,?_⟩;subst hsize hby
 have hm:n+1<=9223372036854775807:=by unfold maxLen at h63;omega
 rcases hown.2 with ⟨rfl,rfl⟩|⟨g0,cap0,cur,rfl,hb0,hg0,hnc,hcm,hcs,htake⟩
 · have hr2:=run_append_nil (P:=Tryz.prog) w t ty e i z ht hi hz a 1 c news hl hnews (by omega) (by omega) (by omega);simp only [Nat.zero_add] at hr;rw [hr2] at hr;cases hr;exact .inr ⟨rfl,⟨rfl,rfl,rfl,by simp,fun k hk _=>Below.heap_alloc w.drew _ k hk⟩⟩
 · by_cases hroom:n+1<=cap0
   · have hfit:n*i.size+news.length<=cur.size:=by
      rw [hl,hcs,<- Nat.add_mul];exact Nat.mul_le_mul_right _ hroom
     have hr2:=run_append_room (P:=Tryz.prog) w t ty e i ht hi g0 n cap0 cur hg0 a 1 c news hl hnews h1 hroom hfit;rw [hr2] at hr;cases hr;exact .inl ⟨rfl,h3⟩
   · have holds:∀ j u,xs[j]?=some u->w.cell? ((⟨g0,0,none⟩:Addr).add j)=some u:=hown.cells (g:=g0) rfl;have hr2:=run_append_grow (P:=Tryz.prog) w t ty e i z ht hi hz ⟨g0,0,none⟩ n cap0 xs hown.1 holds a 1 c news hl hnews (by omega) (by omega) (growslice_fits (by omega) hbytes);rw [hr2] at hr;cases hr;exact .inr ⟨rfl,⟨rfl,rfl,rfl,by simp,fun k hk _=>Below.heap_alloc w.drew _ k hk⟩⟩
theorem zc9 {w:World} {ops:Array Oper} {rest:List Oper} {o:Oper} {ac:Act} {Q:Exit->Act->World->Prop} (hgd:o.guard=none) (s x:Operand) (t:TypeId)
 (ho:o.op=.call { callee:=.builtin .append,args:=#[s,x],argTypes:=#[t,t] })
 (base:Nat) (e:TypeId) (i:TypeInfo) (z:Value) (size bytes:Nat) (ht:Tryz.prog.underlying t=some (.slice e)) (hi:Tryz.prog.info? e=some i∧i.zero=some z∧i.size=size∧i.bytes=bytes) (hzs:z.cells.size=size) (hsz:0<size) (v:Value) (n:Nat) (xs:List Value) (hs:ac.eval s=v) (hown:w.ownsRow base e size v n xs)
 (a:Addr) (c:Nat) (news:List Value) (hx:ac.eval x=.slice (some a) 1 c) (hl:news.length=1*size) (hnews:∀ j u,news[j]?=some u->w.cell? (a.add j)=some u) (h1:∀ u∈news,u.oneCell'=true)
 (h63:n+1<=maxLen) (hbytes:(n+1)*bytes<=140737488355328) (hbase:base<=w.heap.size)
 (h:∀ g cap w',w'.ownsRow base e size (.slice (some ⟨g,0,none⟩) (n+1) cap) (n+1) (xs++news)->((v.ownBlock=some g∧w.grownBy w' (some g))∨(g=w.heap.size∧w.grownBy w' none))->wpList Tryz.prog ops Q rest (ac.put o.dst (.slice (some ⟨g,0,none⟩) (n+1) cap)) w'):
 wpList Tryz.prog ops Q (o::rest) ac w:=by
 refine wpList_plain hgd fun K hK=>?_;obtain ⟨g,cap,w',hr,h2,h3⟩:=zoe base t o.type e i z size bytes ht hi.1 hi.2.1 hi.2.2.1 hi.2.2.2 hzs hsz v n xs hown a c news hl hnews h1 h63 hbytes hbase;unfold Oper.wp execOp;simp only [ho,resolve,invoke,builtin,Sem.run_bind,Sem.run_pure,Result.andThen_ok,List.map_toArray,List.map_cons,List.map_nil,hs,hx,hr];exact hK _ _ (h g cap w' h2 h3)
theorem info27y:∃ i:TypeInfo,Tryz.prog.info? 27=some i∧i.zero=some (.slice none 0 0)∧i.size=1∧i.bytes=24 :=
 ⟨(Tryz.prog.info? 27).getD default,by kernel_rfl,by kernel_rfl,by kernel_rfl,by kernel_rfl⟩
theorem und26y:Tryz.prog.underlying 26=some (.slice 27):=by kernel_rfl
theorem info3x:∃ i:TypeInfo,Tryz.prog.info? 3=some i∧i.zero=some (.int .i64 0)∧i.size=1∧i.bytes=8 :=
 ⟨(Tryz.prog.info? 3).getD default,by kernel_rfl,by kernel_rfl,by kernel_rfl,by kernel_rfl⟩
theorem und60:Tryz.prog.underlying 60=some (.slice 3):=by kernel_rfl
theorem zih {w w' : World} {b:Nat} (h:w'.heap[b]?=w.heap[b]?) (o:Nat):w'.cell? ⟨b,o,none⟩=w.cell? ⟨b,o,none⟩:=World.cell?_of_block (a:=⟨b,o,none⟩) h
structure Rw (w:World) (B g n c:Nat):Prop where
 low:B<=g
 ex:∃ cur,w.heap[g]?=some (.cells cur 29 (0,0))∧cur.size=c*5
 n:n<=c
 c:c<=maxLen
theorem Rw.of_own {w:World} {B g n c:Nat} {xs:List Value} (h:w.ownsRow B 29 5 (.slice (some ⟨g,0,none⟩) n c) n xs):Rw w B g n c:=by
 rcases h.2 with ⟨h1,_⟩|⟨g2,c2,cur,h1,h2,h3,h4,h5,h6,h7⟩
 · cases h1
 · injection h1 with h1 _ hc
   injection h1 with h1
   injection h1 with h1
   subst h1 hc;exact ⟨h2,⟨cur,h3,h6⟩,h4,h5⟩
theorem Rw.own {w:World} {B g n c:Nat} (h:Rw w B g n c):∃ xs,w.ownsRow B 29 5 (.slice (some ⟨g,0,none⟩) n c) n xs:=by
 obtain ⟨cur,h1,h2⟩:=h.ex;refine ⟨cur.toList.take (n*5),?_,.inr ⟨g,c,cur,rfl,h.low,h1,h.n,h.c,h2,rfl⟩⟩;have:=h.n;simp;omega
theorem Rw.lt {w:World} {B g n c:Nat} (h:Rw w B g n c):g<w.heap.size:=by
 obtain ⟨cur,h1,_⟩:=h.ex;exact (Array.getElem?_eq_some_iff.1 h1).1
theorem Rw.cell {w:World} {B g n c:Nat} (h:Rw w B g n c) (o:Nat) (ho:o<n*5):∃ u,w.cell? ⟨g,o,none⟩=some u:=by
 obtain ⟨cur,h1,h2⟩:=h.ex;have:=h.n;have hlt:o<cur.size:=by omega
 refine ⟨cur[o],?_⟩;unfold World.cell?;rw [h1];simp [hlt]
theorem Rw.frozen {w:World} {B g n c:Nat} (h:Rw w B g n c) (o:Nat):w.frozen? ⟨g,o,none⟩=false:=by
 obtain ⟨cur,h1,h2⟩:=h.ex;unfold World.frozen?;rw [h1];simp
theorem Rw.set {w:World} {B g n c:Nat} (h:Rw w B g n c) (g2 o:Nat) (u:Value):Rw (w.setCell ⟨g2,o,none⟩ u) B g n c:=by
 obtain ⟨cur,h1,h2⟩:=h.ex;by_cases hg:g=g2
 · subst hg;have hh:(w.setCell ⟨g,o,none⟩ u).heap[g]?=some (.cells (cur.setIfInBounds o u) 29 (0,0)):=by
    unfold World.setCell;simp [Array.getElem?_modify,h1]
   exact ⟨h.low,⟨_,hh,by simpa using h2⟩,h.n,h.c⟩
 · exact ⟨h.low,⟨cur,by rw [Below.heap_setCell _ _ _ _ hg];exact h1,h2⟩,h.n,h.c⟩
theorem Rw.kept {w w' : World} {B g n c:Nat} (h:Rw w B g n c) (e:w'.heap[g]?=w.heap[g]?):Rw w' B g n c:=by
 obtain ⟨cur,h1,h2⟩:=h.ex;exact ⟨h.low,⟨cur,e.trans h1,h2⟩,h.n,h.c⟩
def Mk (w:World) (g n k:Nat):Prop:=∀ i,i<n->w.cell? ⟨g,i*5,none⟩=some (.int .i64 (-5))∧w.cell? ⟨g,i*5+2,none⟩=some (.int .i64 (k:Int))
theorem Mk.kept {w w' : World} {g n k:Nat} (h:Mk w g n k) (e:w'.heap[g]?=w.heap[g]?):Mk w' g n k:=fun i hi=>⟨(zih e _).trans (h i hi).1,(zih e _).trans (h i hi).2⟩
abbrev sv (o:Option Nat) (n c:Nat):Value:=.slice (o.map fun g=>⟨g,0,none⟩) n c
theorem sv_block (o:Option Nat) (n c:Nat):(sv o n c).ownBlock=o:=by cases o<;>rfl
structure Ls (w:World) (B gl m lo:Nat) (G:Nat->Option Nat) (N C K:Nat->Nat):Prop where
 cell:∀ i,i<m->w.cell? ⟨gl,i,none⟩=some (sv (G i) (N i) (C i))
 row:∀ i g,lo<=i->i<m->G i=some g->Rw w B g (N i) (C i)∧K g=3+i
 nil:∀ i,i<m->G i=none->N i=0∧C i=0
 gk:K gl=0
 lt:gl<w.heap.size
theorem Ls.kept {w w' : World} {B gl m lo:Nat} {G:Nat->Option Nat} {N C K K' : Nat->Nat} (h:Ls w B gl m lo G N C K) (c:Nat) (h0:c≠0) (hc:∀ i,lo<=i->i<m->3+i≠c) (hK:∀ b,b<w.heap.size->K' b=K b) (hs:w.heap.size<=w'.heap.size) (hk:∀ g,g<w.heap.size->K g≠c->w'.heap[g]?=w.heap[g]?):Ls w' B gl m lo G N C K':=by
 refine ⟨fun i hi=>?_,fun i g h1 h2 h3=>?_,h.nil,(hK gl h.lt).trans h.gk,Nat.lt_of_lt_of_le h.lt hs⟩
 · rw [zih (hk gl h.lt (by rw [h.gk];omega)) i];exact h.cell i hi
 · obtain ⟨r1,r2⟩:=h.row i g h1 h2 h3;exact ⟨r1.kept (hk g r1.lt (by rw [r2];exact hc i h1 h2)),(hK g r1.lt).trans r2⟩
structure Ent (w:World) (K:Nat->Nat) (v:Value) (k:Nat) (o:Option Nat) (n:Nat):Prop where
 v:∃ c,v=sv o n c
 nil:o=none->n=0
 le:n<=maxLen
 mark:∀ g,o=some g->g<w.heap.size∧Mk w g n k∧K g=3+k
structure Tch (W w w' : World) (B c q:Nat) (K K' : Nat->Nat):Prop where
 own:K' q=c
 old:∀ b,b<w.heap.size->K' b=K b
 size:w.heap.size<=w'.heap.size
 kept:∀ g,g<w.heap.size->K g≠c->w'.heap[g]?=w.heap[g]?
 below:Below B W w'
theorem tch {W w w' : World} {B c q:Nat} {K:Nat->Nat} {o:Option Nat} (ho:∀ g,o=some g->K g=c) (hp:(o=some q∧w.grownBy w' (some q))∨(q=w.heap.size∧w.grownBy w' none)) (hb:Below B W w) (hB:B<=w.heap.size) (hq:B<=q):∃ K',Tch W w w' B c q K K':=by
 rcases hp with ⟨e,hg⟩|⟨e,hg⟩
 · exact ⟨K,ho q e,fun _ _=>rfl,hg.size,fun g hl hk=>hg.block g hl (fun e2=>hk (by cases e2;exact ho _ e)),hb.grown hg hB (fun k e2=>by cases e2;exact hq)⟩
 · refine ⟨fun b=>if b=q then c else K b,if_pos rfl,fun b hb2=>if_neg (by omega),hg.size,fun g hl _=>hg.block g hl (by simp),hb.grown hg hB (fun k e2=>by cases e2)⟩
def who (T:Nat):List Value:=(List.range T).map (fun t=>.int .i64 ((t/5:Nat):Int))
theorem who_succ (T:Nat):who (T+1)=who T++[.int .i64 ((T/5:Nat):Int)]:=by simp [who,List.range_succ]
structure P2 (W w:World) (B gl m j:Nat) (G:Nat->Option Nat) (N C K:Nat->Nat) (va vw:Value) (T U:Nat) (EL:List Value) (Eo:Nat->Option Nat) (En:Nat->Nat) (xo:Option Nat) (nx cx:Nat):Prop where
 ls:Ls w B gl m (j+1) G N C K
 mark:∀ i g,j<i->i<m->G i=some g->Mk w g (N i) i
 aown:w.ownsRow B 27 1 va T EL
 aK:∀ g,va.ownBlock=some g->K g=1
 wown:w.ownsRow B 3 1 vw U (who U)
 wK:∀ g,vw.ownBlock=some g->K g=2
 ent:∀ t v,EL[t]?=some v->Ent w K v (t/5) (Eo t) (En t)
 xnil:xo=none->nx=0∧cx=0
 xr:∀ g,xo=some g->Rw w B g nx cx∧Mk w g nx j∧K g=3+j
 xE:∀ t g,t<T->Eo t=some g->xo=some g->En t<=nx
 below:Below B W w
 hB:B<=w.heap.size
variable {W w w' : World} {B gl m j:Nat} {G:Nat->Option Nat} {N C K:Nat->Nat} {va vw:Value} {T U:Nat} {EL:List Value} {Eo:Nat->Option Nat} {En:Nat->Nat} {xo:Option Nat} {nx cx:Nat}
theorem P2.len (h:P2 W w B gl m j G N C K va vw T U EL Eo En xo nx cx):EL.length=T:=by simpa using h.aown.1
theorem Ent.kept {K' : Nat->Nat} {v:Value} {k:Nat} {o:Option Nat} {n c:Nat} (h:Ent w K v k o n) (hc:3+k≠c) (hK:∀ b,b<w.heap.size->K' b=K b) (hs:w.heap.size<=w'.heap.size) (hk:∀ g,g<w.heap.size->K g≠c->w'.heap[g]?=w.heap[g]?):Ent w' K' v k o n:=
 ⟨h.v,h.nil,h.le,fun g e=>by
  obtain ⟨h1,h2,h3⟩:=h.mark g e;exact ⟨Nat.lt_of_lt_of_le h1 hs,h2.kept (hk g h1 (by rw [h3];exact hc)),(hK g h1).trans h3⟩⟩
theorem P2.idle (h:P2 W w B gl m j G N C K va vw T U EL Eo En xo nx cx) (hg:Below w.heap.size w w'):P2 W w' B gl m j G N C K va vw T U EL Eo En xo nx cx:=by
 have hk:∀ g,g<w.heap.size->w'.heap[g]?=w.heap[g]?:=fun g hl=>hg.block g hl;refine ⟨⟨fun i hi=>(zih (hk gl h.ls.lt) i).trans (h.ls.cell i hi),fun i g h1 h2 h3=>?_,h.ls.nil,h.ls.gk,Nat.lt_of_lt_of_le h.ls.lt hg.size⟩,fun i g h1 h2 h3=>(h.mark i g h1 h2 h3).kept (hk g (h.ls.row i g h1 h2 h3).1.lt),zbc h.aown (fun g _ hl=>hk g hl),h.aK,zbc h.wown (fun g _ hl=>hk g hl),h.wK,fun t v hv=>?_,h.xnil,fun g e=>?_,h.xE,h.below.trans (hg.mono h.hB),Nat.le_trans h.hB hg.size⟩
 · obtain ⟨r1,r2⟩:=h.ls.row i g h1 h2 h3;exact ⟨r1.kept (hk g r1.lt),r2⟩
 · exact (h.ent t v hv).kept (c:=3+t/5+1) (by omega) (fun _ _=>rfl) hg.size (fun g hl _=>hk g hl)
 · obtain ⟨r1,r2,r3⟩:=h.xr g e;exact ⟨r1.kept (hk g r1.lt),r2.kept (hk g r1.lt),r3⟩
def setAt {α:Type} (f:Nat->α) (T:Nat) (a:α):Nat->α:=fun t=>if t=T then a else f t
theorem P2.put {q cap:Nat} (h:P2 W w B gl m j G N C K va vw T U EL Eo En xo nx cx) (hT:T/5=j) (hown:w'.ownsRow B 27 1 (.slice (some ⟨q,0,none⟩) (T+1) cap) (T+1) (EL++[sv xo nx cx])) (hp:(va.ownBlock=some q∧w.grownBy w' (some q))∨(q=w.heap.size∧w.grownBy w' none)) :
 ∃ K',P2 W w' B gl m j G N C K' (.slice (some ⟨q,0,none⟩) (T+1) cap) vw (T+1) U (EL++[sv xo nx cx]) (setAt Eo T xo) (setAt En T nx) xo nx cx:=by
 have hlen:=h.len;obtain ⟨K',t1⟩:=tch h.aK hp h.below h.hB (hown.lt q rfl).1;have hX:∀ g,xo=some g->Rw w' B g nx cx∧Mk w' g nx j∧K' g=3+j:=fun g e=>by
  obtain ⟨r1,r2,r3⟩:=h.xr g e;have hk:=t1.kept g r1.lt (by omega);exact ⟨r1.kept hk,r2.kept hk,(t1.old g r1.lt).trans r3⟩
 refine ⟨K',h.ls.kept 1 (by omega) (fun i _ _=>by omega) t1.old t1.size t1.kept,fun i g h1 h2 h3=>?_,hown,fun g e=>?_,zbc h.wown (fun g e hl=>t1.kept g hl (by rw [h.wK g e];omega)),fun g e=>(t1.old g (h.wown.lt g e).2).trans (h.wK g e),?_,h.xnil,hX,?_,t1.below,Nat.le_trans h.hB t1.size⟩
 · obtain ⟨r1,r2⟩:=h.ls.row i g h1 h2 h3;exact (h.mark i g h1 h2 h3).kept (t1.kept g r1.lt (by omega))
 · cases e;exact t1.own
 · intro t v hv;unfold setAt;by_cases ht:t=T
   · rw [if_pos ht,if_pos ht];have e:v=sv xo nx cx:=by
      rw [ht,<- hlen,List.getElem?_append_right (Nat.le_refl _),Nat.sub_self] at hv;simpa using hv.symm
     rw [ht,hT];refine ⟨⟨cx,e⟩,fun e=>(h.xnil e).1,?_,fun g e=>⟨(hX g e).1.lt,(hX g e).2⟩⟩;cases hxo:xo with
     | none=>rw [(h.xnil hxo).1];exact Nat.zero_le _
     | some g=>have r:=(h.xr g hxo).1;exact Nat.le_trans r.n r.c
   · rw [if_neg ht,if_neg ht];have hlt2:t<T:=by
      have:=(List.getElem?_eq_some_iff.1 hv).1;simp at this;omega
     rw [List.getElem?_append_left (by omega)] at hv;exact (h.ent t v hv).kept (c:=1) (by omega) t1.old t1.size t1.kept
 · intro t g ht;unfold setAt;by_cases e:t=T
   · rw [if_pos e,if_pos e];intro _ _;exact Nat.le_refl _
   · rw [if_neg e,if_neg e];exact h.xE t g (by omega)
theorem P2.say {q cap:Nat} (h:P2 W w B gl m j G N C K va vw T U EL Eo En xo nx cx) (hU:U/5=j) (hown:w'.ownsRow B 3 1 (.slice (some ⟨q,0,none⟩) (U+1) cap) (U+1) (who U++[.int .i64 (j:Int)])) (hp:(vw.ownBlock=some q∧w.grownBy w' (some q))∨(q=w.heap.size∧w.grownBy w' none)) :
 ∃ K',P2 W w' B gl m j G N C K' va (.slice (some ⟨q,0,none⟩) (U+1) cap) T (U+1) EL Eo En xo nx cx:=by
 obtain ⟨K',t1⟩:=tch h.wK hp h.below h.hB (hown.lt q rfl).1;refine ⟨K',h.ls.kept 2 (by omega) (fun i _ _=>by omega) t1.old t1.size t1.kept,fun i g h1 h2 h3=>?_,zbc h.aown (fun g e hl=>t1.kept g hl (by rw [h.aK g e];omega)),fun g e=>(t1.old g (h.aown.lt g e).2).trans (h.aK g e),?_,fun g e=>?_,fun t v hv=>(h.ent t v hv).kept (c:=2) (by omega) t1.old t1.size t1.kept,h.xnil,fun g e=>?_,h.xE,t1.below,Nat.le_trans h.hB t1.size⟩
 · obtain ⟨r1,r2⟩:=h.ls.row i g h1 h2 h3;exact (h.mark i g h1 h2 h3).kept (t1.kept g r1.lt (by omega))
 · rw [who_succ,hU];exact hown
 · cases e;exact t1.own
 · obtain ⟨r1,r2,r3⟩:=h.xr g e;have hk:=t1.kept g r1.lt (by omega);exact ⟨r1.kept hk,r2.kept hk,(t1.old g r1.lt).trans r3⟩
theorem P2.grow {g' cap:Nat} {xs:List Value} (h:P2 W w B gl m j G N C K va vw T U EL Eo En xo nx cx) (hx:w.ownsRow B 29 5 (sv xo nx cx) nx xs) (hown:w'.ownsRow B 29 5 (.slice (some ⟨g',0,none⟩) (nx+1) cap) (nx+1) (xs++[.int .i64 (-5),.string ⟨#[]⟩,.int .i64 (j:Int),.int .i64 0,.slice none 0 0]))
 (hp:(xo=some g'∧w.grownBy w' (some g'))∨(g'=w.heap.size∧w.grownBy w' none)) :
 ∃ K',P2 W w' B gl m j G N C K' va vw T U EL Eo En (some g') (nx+1) cap:=by
 have hxl:xs.length=nx*5:=hx.1;obtain ⟨K',t1⟩:=tch (c:=3+j) (fun g e=>(h.xr g e).2.2) hp h.below h.hB (hown.lt g' rfl).1;have hmk:Mk w' g' (nx+1) j:=fun i hi=>by
  rcases Nat.lt_or_ge i nx with h1|h1
  · cases hxo:xo with
    | none=>have:=(h.xnil hxo).1;omega
    | some g =>
     subst hxo;obtain ⟨h2,h3⟩:=(h.xr g rfl).2.1 i h1;have f:∀ o,o<nx*5->w'.cell? ⟨g',o,none⟩=w.cell? ⟨g,o,none⟩:=fun o ho=>by
      rw [hown.cellAt o (by omega),hx.cellAt o (by omega),List.getElem?_append_left (by omega)]
     exact ⟨(f _ (by omega)).trans h2,(f _ (by omega)).trans h3⟩
  · obtain rfl:i=nx:=(by omega);constructor
    · rw [hown.cellAt _ (by omega),List.getElem?_append_right (by omega),hxl,Nat.sub_self];rfl
    · rw [hown.cellAt _ (by omega),List.getElem?_append_right (by omega),hxl,Nat.add_sub_cancel_left];rfl
 have hrw:Rw w' B g' (nx+1) cap:=.of_own hown;refine ⟨K',h.ls.kept (3+j) (by omega) (fun i _ _=>by omega) t1.old t1.size t1.kept,fun i g h1 h2 h3=>?_,zbc h.aown (fun g e hl=>t1.kept g hl (by rw [h.aK g e];omega)),fun g e=>(t1.old g (h.aown.lt g e).2).trans (h.aK g e),zbc h.wown (fun g e hl=>t1.kept g hl (by rw [h.wK g e];omega)),fun g e=>(t1.old g (h.wown.lt g e).2).trans (h.wK g e),?_,(fun e=>by cases e),(fun g e=>by cases e;exact ⟨hrw,hmk,t1.own⟩),?_,t1.below,Nat.le_trans h.hB t1.size⟩
 · obtain ⟨r1,r2⟩:=h.ls.row i g h1 h2 h3;exact (h.mark i g h1 h2 h3).kept (t1.kept g r1.lt (by omega))
 · intro t v hv;have ht:t<T:=by have:=(List.getElem?_eq_some_iff.1 hv).1;have:=h.len;omega
   have he:=h.ent t v hv;refine ⟨he.v,he.nil,he.le,fun g e=>?_⟩;obtain ⟨h1,h2,h3⟩:=he.mark g e;refine ⟨Nat.lt_of_lt_of_le h1 t1.size,?_,(t1.old g h1).trans h3⟩;rcases hp with ⟨e5,_⟩|⟨_,hg2⟩
   · by_cases hgg:g=g'
     · subst hgg;have e4:=h.xE t g ht e e5;have e6:=(h.xr g e5).2.2;have e7:t/5=j:=(by omega);rw [e7];exact fun i hi=>hmk i (by omega)
     · rename_i hg2;exact h2.kept (hg2.block g h1 (by simpa using hgg))
   · exact h2.kept (hg2.block g h1 (by simp))
 · intro t g ht e e2;cases e2;rcases hp with ⟨e5,_⟩|⟨e5,_⟩
   · have:=h.xE t g' ht e e5;omega
   · have hv:=List.getElem?_eq_getElem (l:=EL) (i:=t) (by rw [h.len];exact ht);have:=((h.ent t _ hv).mark g' e).1;omega
structure Q2 (W w:World) (B gl m j:Nat) (G:Nat->Option Nat) (N C K:Nat->Nat) (va vw:Value) (T:Nat) (EL:List Value) (Eo:Nat->Option Nat) (En:Nat->Nat):Prop where
 ls:Ls w B gl m j G N C K
 mark:∀ i g,j<=i->i<m->G i=some g->Mk w g (N i) i
 aown:w.ownsRow B 27 1 va T EL
 aK:∀ g,va.ownBlock=some g->K g=1
 wown:w.ownsRow B 3 1 vw T (who T)
 wK:∀ g,vw.ownBlock=some g->K g=2
 ent:∀ t v,EL[t]?=some v->Ent w K v (t/5) (Eo t) (En t)
 tT:T<=5*j
 below:Below B W w
 hB:B<=w.heap.size
theorem Q2.start (h:Ls w B gl m 0 G N C K) (hm:∀ i g,i<m->G i=some g->Mk w g (N i) i) (hb:Below B W w) (hB:B<=w.heap.size):Q2 W w B gl m 0 G N C K (.slice none 0 0) (.slice none 0 0) 0 [] (fun _=>none) (fun _=>0) :=
 ⟨h,fun i g _ h2 h3=>hm i g h2 h3,World.ownsRow_nil _ _ _ _,fun g e=>by simp [Value.ownBlock] at e,World.ownsRow_nil _ _ _ _,fun g e=>by simp [Value.ownBlock] at e,fun t v hv=>by simp at hv,by omega,hb,hB⟩
theorem Q2.begin (h:Q2 W w B gl m j G N C K va vw T EL Eo En) (hj:j<m):P2 W w B gl m j G N C K va vw T T EL Eo En (G j) (N j) (C j):=by
 refine ⟨⟨h.ls.cell,fun i g h1 h2 h3=>h.ls.row i g (by omega) h2 h3,h.ls.nil,h.ls.gk,h.ls.lt⟩,fun i g h1 h2 h3=>h.mark i g (by omega) h2 h3,h.aown,h.aK,h.wown,h.wK,h.ent,fun e=>h.ls.nil j hj e,fun g e=>?_,fun t g ht e e2=>?_,h.below,h.hB⟩
 · obtain ⟨r1,r2⟩:=h.ls.row j g (Nat.le_refl _) hj e;exact ⟨r1,h.mark j g (Nat.le_refl _) hj e,r2⟩
 · have hl:EL.length=T:=by simpa using h.aown.1
   have hv:=List.getElem?_eq_getElem (l:=EL) (i:=t) (by rw [hl];exact ht);have h3:=((h.ent t _ hv).mark g e).2.2;have h4:=(h.ls.row j g (Nat.le_refl _) hj e2).2;have:=h.tT;omega
theorem P2.done (h:P2 W w B gl m j G N C K va vw T T EL Eo En xo nx cx) (hT:T<=5*(j+1)):Q2 W w B gl m (j+1) G N C K va vw T EL Eo En :=
 ⟨h.ls,fun i g h1 h2 h3=>h.mark i g (by omega) h2 h3,h.aown,h.aK,h.wown,h.wK,h.ent,hT,h.below,h.hB⟩
def markV (i:Int):Value:=.agg #[.int .i64 (-5),.string ⟨#[]⟩,.int .i64 i,.int .i64 0,.slice none 0 0]
theorem bld02 (i:Int) (w:World):(Instr.build 29 #[(0,.int .i64 (-5)),(2,.int .i64 i)]).run Tryz.prog w=.ok (markV i) w:=by kernel_rfl
theorem mark_any (i:Int) (w:World):Calls Tryz.prog 31 #[.int .i64 i] w (fun e w'=>e=.returned (markV i)∧Below w.heap.size w w'):=by
 have qb:=bld02 i;unfold markV at *;go_enter Tryz.func31,Tryz.ntmps31
 go_wp2;exact bodyPost_ret (v:=.agg #[.int .i64 (-5),.string ⟨#[]⟩,.int .i64 i,.int .i64 0,.slice none 0 0]) (by simp [results,Tryz.results31,go_sem]) rfl ⟨rfl,zab _ _⟩
theorem reads_any (o:Option Addr) (L c:Nat) (i:Int) (w:World) (hL:L<=maxLen) (hm:∀ j,j<L->∃ g,o=some ⟨g,0,none⟩∧w.cell? ⟨g,j*5,none⟩=some (.int .i64 (-5))∧w.cell? ⟨g,j*5+2,none⟩=some (.int .i64 i)):
 Calls Tryz.prog 32 #[.slice o L c,.int .i64 i] w (fun e w'=>e=.returned (.bool true)∧Below w.heap.size w w'):=by
 have HM:=hid hm;clear hm;have Ab:Hid (L<=9223372036854775807):=by unfold maxLen at hL;show L<=_;omega
 clear hL;have j1:((-5:Int) != -5)=false:=by simp
 have j2:(i != i)=false:=by simp
 go_enter Tryz.func32,Tryz.ntmps32
 go_wp2;go_loop [5] (fun x=>∃ (q:Nat),x=.int .i64 q∧q<=L) (fun x=>L - (intOf x).toNat)
 case atStart=>exact ⟨0,rfl,by omega⟩
 case round =>
  obtain ⟨q,rfl,hq⟩:=hrel;by_cases hlt:q<L
  · have hlt' : (q:Int)<L:=(by omega);have hq0:(0:Int)<=(q:Int):=(by omega);have hqm:(q:Int)<=9223372036854775806:=(by have:=Ab.out;omega);have Aa:=hid hlt;obtain ⟨g,ho,a0,a2⟩:=HM.out q hlt;subst ho;clear hlt;go_wp2;go_round
    case rel=>exact ⟨q+1,by go_num,Aa.out⟩
    case measure=>have:=Aa.out;simp [intOf];omega
  · have hqe:q=L:=(by omega);subst hqe;have hlt' : ¬ (q:Int)<q:=(by omega);go_wp2;go_ret;exact ⟨rfl,Below.refl _ _⟩
def st5 (w:World) (g k:Nat) (a:Nat):World:=((((w.setCell ⟨g,k*5,none⟩ (.int .i64 (-5))).setCell ⟨g,k*5+1,none⟩ (.string ⟨#[]⟩)).setCell ⟨g,k*5+2,none⟩ (.int .i64 a)).setCell ⟨g,k*5+3,none⟩ (.int .i64 0)).setCell ⟨g,k*5+4,none⟩ (.slice none 0 0)
theorem scO (w:World) (a b:Addr) (v:Value) (h:a≠b):(w.setCell a v).cell? b=w.cell? b:=World.cell?_setCell_other _ _ _ _ h
theorem zkx {w:World} {g k a:Nat} (b:Nat) (h:b≠g):(st5 w g k a).heap[b]?=w.heap[b]?:=by
 unfold st5;rw [Below.heap_setCell _ _ _ _ h,Below.heap_setCell _ _ _ _ h,Below.heap_setCell _ _ _ _ h,Below.heap_setCell _ _ _ _ h,Below.heap_setCell _ _ _ _ h]
theorem st5_less {w:World} {g k a:Nat} (o:Nat) (h:o<k*5):(st5 w g k a).cell? ⟨g,o,none⟩=w.cell? ⟨g,o,none⟩:=by
 have hh:∀ x,k*5<=x->(⟨g,x,none⟩:Addr)≠⟨g,o,none⟩:=fun x hx e=>by injection e with _ e2;omega
 unfold st5;rw [scO _ _ _ _ (hh _ (by omega)),scO _ _ _ _ (hh _ (by omega)),scO _ _ _ _ (hh _ (by omega)),scO _ _ _ _ (hh _ (by omega)),scO _ _ _ _ (hh _ (Nat.le_refl _))]
theorem st5_here {w:World} {B g n c k a:Nat} (h:Rw w B g n c) (hk:k<n):(st5 w g k a).cell? ⟨g,k*5,none⟩=some (.int .i64 (-5))∧(st5 w g k a).cell? ⟨g,k*5+2,none⟩=some (.int .i64 a):=by
 unfold st5;obtain ⟨u,hu⟩:=h.cell (k*5) (by omega);obtain ⟨v,hv⟩:=h.cell (k*5+2) (by omega);constructor
 · rw [scO _ _ _ _ (by simp),scO _ _ _ _ (by simp),scO _ _ _ _ (by simp),scO _ _ _ _ (by simp),World.cell?_setCell_same _ _ _ hu]
 · rw [scO _ _ _ _ (by simp),scO _ _ _ _ (by simp),World.cell?_setCell_same (u:=v) _ _ _ ((scO _ _ _ _ (by simp)).trans ((scO _ _ _ _ (by simp)).trans hv))]
theorem st5_below {W w:World} {B g k a:Nat} (h:Below B W w) (hg:B<=g):Below B W (st5 w g k a) :=
 ((((h.setCell (p:=⟨g,k*5,none⟩) hg _).setCell (p:=⟨g,k*5+1,none⟩) hg _).setCell (p:=⟨g,k*5+2,none⟩) hg _).setCell (p:=⟨g,k*5+3,none⟩) hg _).setCell (p:=⟨g,k*5+4,none⟩) hg _
theorem st5_size {w:World} {g k a:Nat}:(st5 w g k a).heap.size=w.heap.size:=by simp [st5]
theorem Ls.st5 {w:World} {B gl m:Nat} {G:Nat->Option Nat} {N C K:Nat->Nat} (h:Ls w B gl m 0 G N C K) (j g k a:Nat) (hj:j<m) (hg:G j=some g):Ls (st5 w g k a) B gl m 0 G N C K:=by
 have hne:gl≠g:=fun e=>by
  have h1:=(h.row j g (Nat.zero_le _) hj hg).2;have h2:=h.gk;rw [e] at h2;omega
 refine ⟨fun i hi=>?_,fun i g2 h1 h2 h3=>⟨(((((h.row i g2 h1 h2 h3).1.set g _ _).set g _ _).set g _ _).set g _ _).set g _ _,(h.row i g2 h1 h2 h3).2⟩,h.nil,h.gk,by rw [st5_size];exact h.lt⟩;rw [zih (zkx _ hne)];exact h.cell i hi
theorem Ls.idle {w w' : World} {B gl m:Nat} {G:Nat->Option Nat} {N C K:Nat->Nat} (h:Ls w B gl m 0 G N C K) (hb:Below w.heap.size w w'):Ls w' B gl m 0 G N C K :=
 ⟨fun i hi=>(zih (hb.block gl h.lt) i).trans (h.cell i hi),fun i g h1 h2 h3=>⟨(h.row i g h1 h2 h3).1.kept (hb.block g (h.row i g h1 h2 h3).1.lt),(h.row i g h1 h2 h3).2⟩,h.nil,h.gk,Nat.lt_of_lt_of_le h.lt hb.size⟩
theorem Mk.idle {w w' : World} {g n k:Nat} (h:Mk w g n k) (hl:g<w.heap.size) (hb:Below w.heap.size w w'):Mk w' g n k:=h.kept (hb.block g hl)
theorem P2.xown {W w:World} {B gl m j:Nat} {G:Nat->Option Nat} {N C K:Nat->Nat} {va vw:Value} {T U:Nat} {EL:List Value} {Eo:Nat->Option Nat} {En:Nat->Nat} {xo:Option Nat} {nx cx:Nat} (h:P2 W w B gl m j G N C K va vw T U EL Eo En xo nx cx):∃ xs,w.ownsRow B 29 5 (sv xo nx cx) nx xs:=by
 cases hx:xo with
 | none =>
  obtain ⟨rfl,rfl⟩:=h.xnil hx;exact ⟨[],World.ownsRow_nil _ _ _ _⟩
 | some g=>exact (h.xr g hx).1.own
theorem apart_any (W:World) (B gl m cl:Nat) (G:Nat->Option Nat) (N C K:Nat->Nat) (h:Ls W B gl m 0 G N C K) (hN:∀ i,i<m->N i<=3000000000) (hm:m<=3000000000) (hB:B<=W.heap.size):
 Calls Tryz.prog 15 #[.slice (some ⟨gl,0,none⟩) m cl] W (fun e w'=>e=.returned (.bool true)∧Below B W w'):=by
 obtain ⟨inf,hi⟩:=zeg;have HI:=hid hi;obtain ⟨inf2,hi2⟩:=info27y;have Av:=hid hi2;obtain ⟨inf3,hi3⟩:=info3x;have Aw:=hid hi3;have Ak:=hid h;have Al:=hid hN;have Ag:=hid hB;clear h hN hB hi hi2 hi3;go_enter Tryz.func15,Tryz.ntmps15
 go_wp2_with fail
 go_loopw [3] (fun n wr=>∃ j:Nat,n=.int .i64 j∧j<=m∧Hid (Ls wr B gl m 0 G N C K)∧Hid (∀ i g,i<j->G i=some g->Mk wr g (N i) i)∧Hid (Below B W wr)) (fun n _=>m - (intOf n).toNat)
 case atStart=>exact ⟨0,rfl,by omega,Ak.out,fun i g h=>by omega,Below.refl _ _⟩
 case round =>
  obtain ⟨j,rfl,hj,HL,HM,HB⟩:=hrel;by_cases hlt:j<m
  · have hj' : (j:Int)<m:=(by omega);have hj0:(0:Int)<=(j:Int):=(by omega);have hjm:(j:Int)<=9223372036854775806:=(by omega);(go_wp2_with fail);go_loopw [4] (fun i wr2=>∃ k:Nat,i=.int .i64 k∧k<=N j∧Hid (Ls wr2 B gl m 0 G N C K)∧Hid (∀ i g,i<j->G i=some g->Mk wr2 g (N i) i)∧Hid (∀ g,G j=some g->Mk wr2 g k j)∧Hid (Below B W wr2)) (fun i _=>N j - (intOf i).toNat)
    case atStart=>exact ⟨0,rfl,by omega,HL.out,HM.out,fun g _ i hi=>by omega,HB.out⟩
    case round =>
     obtain ⟨k,rfl,hk,Ab,Am,Ac,Ah⟩:=hrel;have hNj:=Al.out j hlt;have hcl:=Ab.out.cell j hlt;by_cases hkn:k<N j
     · obtain ⟨g,hg⟩:∃ g,G j=some g:=by
        cases hg:G j with
        | none=>have:=(Ab.out.nil j hlt hg).1;omega
        | some g=>exact ⟨g,rfl⟩
       rw [hg] at hcl;have hcl2:wr.cell? ⟨gl,j,none⟩=some (.slice (some ⟨g,0,none⟩) (N j) (C j)):=hcl;have HG:=hid hg;have Ai:=hid hkn;have hkn' : (k:Int)<(N j:Int):=(by omega);have hk0:(0:Int)<=(k:Int):=(by omega);clear hcl hg;(go_wp2_with fail);have s1:∀ i,(wr.drewN i).cell? ⟨gl,j,none⟩=some (.slice (some ⟨g,0,none⟩) (N j) (C j)):=fun _=>hcl2;go_region_held3 (fun w'=>w'.cell? ⟨gl,j,none⟩=some (.slice (some ⟨g,0,none⟩) (N j) (C j))) (first|with_reducible exact hcl2|with_reducible exact s1 _|with_reducible exact hcl7|exact s9|exact hcl2) (first
        | (go_at_call 31
           refine (mark_any (j:Int) _).mono ?_;rintro e w7 ⟨rfl,hB0⟩;have hB7:Below wr.heap.size wr w7:=(zad (Below.refl _ _) _).trans hB0;have Ae:=hid (Ab.out.idle hB7);have hrw:=Ae.out.row j g (Nat.zero_le _) hlt HG.out;have hcl7:w7.cell? ⟨gl,j,none⟩=some (.slice (some ⟨g,0,none⟩) (N j) (C j)):=(zih (hB7.block gl Ab.out.lt) j).trans hcl2;obtain ⟨u0,hu0⟩:=hrw.1.cell (k*5) (by omega);obtain ⟨u1,hu1⟩:=hrw.1.cell (k*5+1) (by omega);obtain ⟨u2,hu2⟩:=hrw.1.cell (k*5+2) (by omega);obtain ⟨u3,hu3⟩:=hrw.1.cell (k*5+3) (by omega);obtain ⟨u4,hu4⟩:=hrw.1.cell (k*5+4) (by omega);have hf0:=hrw.1.frozen (k*5);have hf1:=hrw.1.frozen (k*5+1);have hf2:=hrw.1.frozen (k*5+2);have hf3:=hrw.1.frozen (k*5+3);have hf4:=hrw.1.frozen (k*5+4);have Ax:=hid hrw.1;have Ay:=hid (Ae.out.st5 j g k j hlt HG.out);have Aj:Hid (∀ i g2,i<j->G i=some g2->Mk (st5 w7 g k j) g2 (N i) i):=fun i g2 h1 h2=>by
            have r:=Ae.out.row i g2 (Nat.zero_le _) (by omega) h2;(have hne:g2≠g:=fun e=>by have r1:=r.2;have r2:=hrw.2;rw [e] at r1;omega);exact ((Am.out i g2 h1 h2).idle (Ab.out.row i g2 (Nat.zero_le _) (by omega) h2).1.lt hB7).kept (zkx _ hne)
           have Az:Hid (∀ g2,G j=some g2->Mk (st5 w7 g k j) g2 (k+1) j):=fun g2 h2 q hq=>by
            obtain rfl:g=g2:=(by rw [HG.out] at h2;cases h2;rfl);rcases Nat.lt_or_ge q k with h3|h3
            · have r:=((Ac.out g HG.out).idle (Ab.out.row j g (Nat.zero_le _) hlt HG.out).1.lt hB7) q h3;exact ⟨(st5_less _ (by omega)).trans r.1,(st5_less _ (by omega)).trans r.2⟩
            · obtain rfl:q=k:=(by omega);exact st5_here Ax.out Ai.out
           have Ba:Hid (Below B W (st5 w7 g k j)):=st5_below (Ah.out.trans (hB7.mono (Nat.le_trans Ag.out Ah.out.size))) hrw.1.low;(have hne:gl≠g:=fun e=>by have r1:=hrw.2;have r2:=Ae.out.gk;rw [e] at r2;omega);have s9:(st5 w7 g k j).cell? ⟨gl,j,none⟩=some (.slice (some ⟨g,0,none⟩) (N j) (C j)):=(zih (zkx _ hne) j).trans hcl7;clear hrw hB0 hB7;unfold markV;unfold st5 at s9))
       go_wp2;go_roundw
       case rel=>exact ⟨k+1,by go_num,Ai.out,Ay,Aj,Az,Ba⟩
       case measure=>have:=Ai.out;simp [intOf];omega
     · obtain rfl:k=N j:=(by omega);have Aj:Hid (∀ i g,i<j+1->G i=some g->Mk wr g (N i) i):=fun i g h1 h2=>by
        rcases Nat.lt_or_ge i j with h3|h3
        · exact Am.out i g h3 h2
        · obtain rfl:i=j:=(by omega);exact Ac.out g h2
       obtain ⟨X,hX⟩:∃ X,(G j).map (fun g=>(⟨g,0,none⟩:Addr))=X:=⟨_,rfl⟩;have hcl2:wr.cell? ⟨gl,j,none⟩=some (.slice X (N j) (C j)):=(by rw [<- hX];exact hcl);have HJ:=hid hlt;clear hcl hX;go_wp2;go_roundw
       case rel=>exact ⟨j+1,by go_num,HJ.out,Ab,Aj,Ah⟩
       case measure=>have:=HJ.out;simp [intOf];omega
  · obtain rfl:j=m:=(by omega);have HQ:Hid (Q2 W wr B gl j 0 G N C K (.slice none 0 0) (.slice none 0 0) 0 [] (fun _=>none) (fun _=>0)):=Q2.start HL.out HM.out HB.out (Nat.le_trans Ag.out HB.out.size);clear HL HM HB;(go_wp2_with fail);go_loopw [5,6,7] (fun a v n wr=>∃ (q ca cw:Nat) (oa ow:Option Addr) (K:Nat->Nat) (EL:List Value) (Eo:Nat->Option Nat) (En:Nat->Nat),n=.int .i64 q∧a=.slice oa (5*q) ca∧v=.slice ow (5*q) cw∧q<=j∧Hid (Q2 W wr B gl j q G N C K (.slice oa (5*q) ca) (.slice ow (5*q) cw) (5*q) EL Eo En)) (fun _ _ n _=>j - (intOf n).toNat)
    case atStart=>exact ⟨0,0,0,none,none,K,[],_,_,rfl,rfl,rfl,by omega,HQ.out⟩
    case round =>
     obtain ⟨q,ca,cw,oa,ow,K,EL,Eo,En,rfl,rfl,rfl,hq,Aa⟩:=hrel;clear HQ Ak;by_cases hqlt:q<j
     · have hq' : (q:Int)<j:=(by omega);have hq0:(0:Int)<=(q:Int):=(by omega);have hcl:=Aa.out.ls.cell q hqlt;have hNj:=Al.out q hqlt;have HP:=hid (Aa.out.begin hqlt);obtain ⟨X,hX⟩:∃ X,(G q).map (fun g=>(⟨g,0,none⟩:Addr))=X:=⟨_,rfl⟩;have hcl2:wr.cell? ⟨gl,q,none⟩=some (.slice X (N q) (C q)):=(by rw [<- hX];exact hcl);have HX:=hid hX;have HJ:=hid hqlt;clear hcl hX Aa;(go_wp2_with fail);go_loopw [5,6,8,9] (fun a v x n wr=>∃ (i ca cw nx cx:Nat) (oa ow X:Option Addr) (K:Nat->Nat) (EL:List Value) (Eo:Nat->Option Nat) (En:Nat->Nat) (xo:Option Nat),n=.int .i64 i∧a=.slice oa (5*q+i) ca∧v=.slice ow (5*q+i) cw∧x=.slice X nx cx∧i<=5∧nx<=3000000000+i∧Hid (xo.map (fun g=>(⟨g,0,none⟩:Addr))=X)∧Hid (P2 W wr B gl j q G N C K (.slice oa (5*q+i) ca) (.slice ow (5*q+i) cw) (5*q+i) (5*q+i) EL Eo En xo nx cx)) (fun _ _ _ n _=>5 - (intOf n).toNat)
       case atStart=>exact ⟨0,ca,cw,N q,C q,oa,ow,X,K,EL,Eo,En,G q,rfl,rfl,rfl,rfl,by omega,by omega,HX,HP⟩
       case round =>
        obtain ⟨i,ca,cw,nx,cx,oa,ow,X,K,EL,Eo,En,xo,rfl,rfl,rfl,rfl,hi,hnx,Af,Ac⟩:=hrel;clear HP HX hcl2;by_cases hi20:i<5
        · have hi' : (i:Int)<5:=(by omega);have An:=hid hi20;(go_wp2_with (at_builtin;refine Hid.out ?_));refine (show Hid _ from ?_);have HU:=hid (Ac.out.idle (w':=wr.alloc (.cells #[.slice X nx cx] 27)) (zab _ _));refine zc9 rfl _ _ 26 rfl B 27 inf2 (.slice none 0 0) 1 24 und26y Av.out rfl (by decide) (.slice oa (5*q+i) ca) (5*q+i) EL rfl HU.out.aown ⟨wr.heap.size,0,none⟩ 1 [.slice X nx cx] rfl rfl (World.news_of_block (cs:=#[.slice X nx cx]) (t:=27) (fr:=(0,0)) (heap_alloc_new _ _)) (by simp [Value.oneCell']) (by unfold maxLen;omega) (by omega) HU.out.hB ?_;intro g3 cap3 w4 hown hpart;obtain ⟨K4,hP4⟩:=HU.out.put (by omega) (by unfold sv;rw [Af.out];exact hown) hpart;have Ao:=hid hP4;clear hown hpart HU Ac hP4;(go_wp2_with (at_builtin;refine Hid.out ?_));refine (show Hid _ from ?_);have HV:=hid (Ao.out.idle (w':=w4.alloc (.cells #[.int .i64 (q:Int)] 3)) (zab _ _));refine zc9 rfl _ _ 60 rfl B 3 inf3 (.int .i64 0) 1 8 und60 Aw.out rfl (by decide) (.slice ow (5*q+i) cw) (5*q+i) (who (5*q+i)) rfl HV.out.wown ⟨w4.heap.size,0,none⟩ 1 [.int .i64 (q:Int)] rfl rfl (World.news_of_block (cs:=#[.int .i64 (q:Int)]) (t:=3) (fr:=(0,0)) (heap_alloc_new _ _)) (by simp [Value.oneCell']) (by unfold maxLen;omega) (by omega) HV.out.hB ?_;intro g5 cap5 w5 hown hpart;obtain ⟨K5,hP5⟩:=HV.out.say (by omega) hown hpart;have Ap:=hid hP5;clear hown hpart HV Ao hP5;(go_wp2_with fail);refine (mark_any (q:Int) _).mono ?_;rintro e w6 ⟨rfl,hB6⟩;have Aq:=hid (Ap.out.idle hB6);clear hB6;unfold markV;(go_wp2_with (at_builtin;refine Hid.out ?_));refine (show Hid _ from ?_);have HW:=hid (Aq.out.idle (w':=w6.alloc (.cells #[.int .i64 (-5),.string ⟨#[]⟩,.int .i64 (q:Int),.int .i64 0,.slice none 0 0] 29)) (zab _ _));obtain ⟨xs,hx⟩:=HW.out.xown;have hsv:sv xo nx cx=.slice X nx cx:=(by unfold sv;rw [Af.out]);have hblk:(Value.slice X nx cx).ownBlock=xo:=(by rw [<- hsv,sv_block]);refine zc9 rfl _ _ 27 rfl B 29 inf (.agg #[.int .i64 0,.string ⟨#[]⟩,.int .i64 0,.int .i64 0,.slice none 0 0]) 5 64 Tryz.underlying27 HI.out rfl (by decide) (.slice X nx cx) nx xs rfl (by rw [<- hsv];exact hx) ⟨w6.heap.size,0,none⟩ 1 [.int .i64 (-5),.string ⟨#[]⟩,.int .i64 (q:Int),.int .i64 0,.slice none 0 0] rfl rfl (World.news_of_block (cs:=#[.int .i64 (-5),.string ⟨#[]⟩,.int .i64 (q:Int),.int .i64 0,.slice none 0 0]) (t:=29) (fr:=(0,0)) (heap_alloc_new _ _)) (by simp [Value.oneCell']) (by unfold maxLen;omega) (by omega) HW.out.hB ?_;intro g7 cap7 w7 hown hpart;rw [hblk] at hpart;obtain ⟨K7,hP7⟩:=HW.out.grow hx hown hpart;have Bb:=hid hP7;clear hown hpart HW Ap Aq hx hsv hblk Af hP7;go_wp2;go_roundw
          case rel=>exact ⟨i+1,cap3,cap5,nx+1,cap7,some ⟨g3,0,none⟩,some ⟨g5,0,none⟩,some ⟨g7,0,none⟩,K7,_,_,_,some g7,by go_num,rfl,rfl,rfl,An.out,by omega,rfl,Bb⟩
          case measure=>have:=An.out;simp [intOf];omega
        · obtain rfl:i=5:=(by omega);have HD:Hid (Q2 W wr B gl j (q+1) G N C K (.slice oa (5*(q+1)) ca) (.slice ow (5*(q+1)) cw) (5*(q+1)) EL Eo En):=Ac.out.done (by omega);clear Ac Af;go_wp2;go_roundw
          case rel=>exact ⟨q+1,ca,cw,oa,ow,K,EL,Eo,En,by go_num,rfl,rfl,HJ.out,HD⟩
          case measure=>have:=HJ.out;simp [intOf];omega
     · obtain rfl:q=j:=(by omega);have HC:Hid (∀ t,t<5*q->∃ v qa qw,EL[t]?=some v∧oa=some ⟨qa,0,none⟩∧ow=some ⟨qw,0,none⟩∧wr.cell? ⟨qa,t,none⟩=some v∧wr.cell? ⟨qw,t,none⟩=some (.int .i64 ((t/5:Nat):Int))):=fun t ht=>by
        have hl:EL.length=5*q:=(by simpa using Aa.out.aown.1);have hv:=List.getElem?_eq_getElem (l:=EL) (i:=t) (by omega);obtain ⟨qa,c1,e1,_,_⟩:=Aa.out.aown.form (by omega);obtain ⟨qw,c2,e2,_,_⟩:=Aa.out.wown.form (by omega);cases e1;cases e2;refine ⟨_,qa,qw,hv,rfl,rfl,(Aa.out.aown.cellAt t (by omega)).trans hv,(Aa.out.wown.cellAt t (by omega)).trans ?_⟩;simp [who,ht]
       have Bc:=hid Aa.out.ent;have Ar:=hid Aa.out.below;obtain ⟨T,hT⟩:∃ T,5*q=T:=⟨_,rfl⟩;have hTb:T<=15000000000:=(by omega);rw [hT] at HC ⊢;clear Aa hT;obtain ⟨w9,hw9⟩:∃ x,x=wr:=⟨_,rfl⟩;subst hw9;(go_wp2_with fail);go_loopw [10] (fun n wz=>∃ t:Nat,n=.int .i64 t∧t<=T∧Hid (Below w9.heap.size w9 wz)) (fun n _=>T - (intOf n).toNat)
       case atStart=>exact ⟨0,rfl,by omega,Below.refl _ _⟩
       case round =>
        obtain ⟨t,rfl,ht,Ad⟩:=hrel;by_cases htT:t<T
        · have ht' : (t:Int)<T:=(by omega);have ht0:(0:Int)<=(t:Int):=(by omega);have Au:=hid htT;obtain ⟨v,qa,qw,hv,hoa,how,hc1,hc2⟩:=HC.out t htT;subst hoa how;obtain ⟨⟨c,hvv⟩,hnil,hle,hmk⟩:=Bc.out t v hv;obtain ⟨n,hn⟩:∃ n,En t=n:=⟨_,rfl⟩;obtain ⟨X,hX⟩:∃ X,(Eo t).map (fun g=>(⟨g,0,none⟩:Addr))=X:=⟨_,rfl⟩;obtain ⟨z,hz⟩:∃ z:Nat,t/5=z:=⟨_,rfl⟩;rw [hn] at hle hnil hmk hvv;rw [hz] at hc2 hmk;have hvv2:v=.slice X n c:=(by rw [hvv,<- hX]);subst hvv2;have s0:wr.cell? ⟨qa,t,none⟩=some (.slice X n c)∧wr.cell? ⟨qw,t,none⟩=some (.int .i64 (z:Int)):=⟨(Ad.out.cell (World.block_lt_of_cell? _ _ hc1)).trans hc1,(Ad.out.cell (World.block_lt_of_cell? _ _ hc2)).trans hc2⟩;have s1:∀ i,(wr.drewN i).cell? ⟨qa,t,none⟩=some (.slice X n c)∧(wr.drewN i).cell? ⟨qw,t,none⟩=some (.int .i64 (z:Int)):=fun _=>s0;obtain ⟨d1,d2⟩:=s0;have HR:Hid (∀ w1,Below w9.heap.size w9 w1->Calls Tryz.prog 32 #[.slice X n c,.int .i64 (z:Int)] w1 (fun e w'=>e=.returned (.bool true)∧Below w1.heap.size w1 w')):=fun w1 hb=>reads_any X n c z w1 hle (fun i hi=>by
           cases hg:Eo t with
           | none=>have:=hnil hg;omega
           | some g =>
            obtain ⟨h1,h2,_⟩:=hmk g hg;have h3:=h2.kept (hb.block g h1) i hi;exact ⟨g,by rw [<- hX,hg];rfl,h3⟩)
          clear hv hvv hnil hmk hn hX hle hz hc1 hc2;(go_wp2_with fail);go_region_held3 (fun w'=>w'.cell? ⟨qa,t,none⟩=some (.slice X n c)∧w'.cell? ⟨qw,t,none⟩=some (.int .i64 (z:Int))) (first|with_reducible exact ⟨d1,d2⟩|with_reducible exact s1 _|with_reducible exact s7|exact ⟨d1,d2⟩) (first
           | (go_at_call 32
              refine (HR.out _ (zad Ad.out _)).mono ?_;rintro e w7 ⟨rfl,hB0⟩;have hB7:Below w9.heap.size w9 w7:=Ad.out.trans (((zad (Below.refl _ _) _).trans hB0).mono Ad.out.size);have s7:w7.cell? ⟨qa,t,none⟩=some (.slice X n c)∧w7.cell? ⟨qw,t,none⟩=some (.int .i64 (z:Int)):=⟨(hB0.cell (World.block_lt_of_cell? wr _ d1)).trans d1,(hB0.cell (World.block_lt_of_cell? wr _ d2)).trans d2⟩;have Bd:=hid hB7;clear hB0 hB7))
          go_wp2;go_roundw
          case rel=>exact ⟨t+1,by go_num,Au.out,Bd⟩
          case measure=>have:=Au.out;simp [intOf];omega
        · obtain rfl:t=T:=(by omega);go_wp2;go_ret;exact ⟨rfl,Ar.out.trans (Ad.out.mono (Nat.le_trans Ag.out Ar.out.size))⟩
end Go.Proofs.YtighggeokiahfaaGreatDoor.Dm
namespace Go.Proofs.YtighggeokiahfaaGreatDoor
open Go.RowKit
def Apt (A:Nat->Prop) (w:World) (ls:List Value):Prop:=(∀ sl∈ls,(∃ n xs,w.ownsRow 0 29 5 sl n xs)∧∀ g,sl.ownBlock=some g->A g)∧ls.Pairwise (fun a b=>∀ g,a.ownBlock=some g->b.ownBlock≠some g)
mutual
theorem lstT_of {A:Nat->Prop} {w:World}:(t:Tree)->(v:Value)->TreeAt A w t v->∃ ls,LstT w t v ls∧Apt A w ls
 | .node k n m a ks,v=>by
  intro ht;obtain ⟨sl,e,xs,ho,hg,hr⟩:=treeAt_node.1 ht;obtain ⟨r,hl,ha,hp⟩:=lstR_of ks xs hr;refine ⟨sl::r,?_,?_,?_⟩
  · rw [LstT];exact ⟨sl,e,xs,ho,r,hl,rfl⟩
  · intro x hx;rcases List.mem_cons.1 hx with rfl|hx
    · exact ⟨⟨_,_,ho⟩,hg⟩
    · exact ⟨(ha x hx).1,fun g e=>((ha x hx).2 g e).1⟩
  · refine List.pairwise_cons.2 ⟨fun b hb g e1 e2=>((ha b hb).2 g e2).2 e1,hp⟩
theorem lstR_of {A:Nat->Prop} {w:World}:(ts:List Tree)->(xs:List Value)->RowV A w ts xs->∃ ls,LstR w ts xs ls∧Apt A w ls
 | [],xs=>by
  intro h;rw [RowV] at h;exact ⟨[],by rw [LstR];exact ⟨h,rfl⟩,by simp,List.Pairwise.nil⟩
 | t::ts,xs=>by
  intro h;obtain ⟨v0,v1,v2,v3,v4,ys,e,S,ht,hr⟩:=rowV_cons'.1 h;obtain ⟨l1,h1,a1,p1⟩:=lstT_of t _ ht;obtain ⟨l2,h2,a2,p2⟩:=lstR_of ts ys hr;refine ⟨l1++l2,?_,?_,?_⟩
  · rw [LstR];exact ⟨v0,v1,v2,v3,v4,ys,e,l1,l2,h1,h2,rfl⟩
  · intro x hx;rcases List.mem_append.1 hx with hx|hx
    · exact ⟨(a1 x hx).1,fun g e=>((a1 x hx).2 g e).1⟩
    · exact ⟨(a2 x hx).1,fun g e=>((a2 x hx).2 g e).1⟩
  · refine List.pairwise_append.2 ⟨p1,p2,fun a ha b hb g e1 e2=>((a2 b hb).2 g e2).2 ((a1 a ha).2 g e1).2⟩
end
theorem Apt.frame {A A' : Nat->Prop} {w w' : World} {ls:List Value} (hA:∀ b,A b->A' b) (h:∀ b,A b->b<w.heap.size->w'.heap[b]?=w.heap[b]?) (hp:Apt A w ls):Apt A' w' ls :=
 ⟨fun sl hs=>by
  obtain ⟨⟨n,xs,ho⟩,hg⟩:=hp.1 sl hs;exact ⟨⟨n,xs,zbc ho (fun g e hl=>h g (hg g e) hl)⟩,fun g e=>hA g (hg g e)⟩,hp.2⟩
theorem Apt.append {A:Nat->Prop} {w:World} {l1 l2:List Value} (S:Nat->Prop) (h1:Apt (fun b=>A b∧S b) w l1) (h2:Apt (fun b=>A b∧¬S b) w l2):Apt A w (l1++l2) :=
 ⟨fun sl hs=>by
  rcases List.mem_append.1 hs with hs|hs
  · exact ⟨(h1.1 sl hs).1,fun g e=>((h1.1 sl hs).2 g e).1⟩
  · exact ⟨(h2.1 sl hs).1,fun g e=>((h2.1 sl hs).2 g e).1⟩,List.pairwise_append.2 ⟨h1.2,h2.2,fun a ha b hb g e1 e2=>((h2.1 b hb).2 g e2).2 ((h1.1 a ha).2 g e1).2⟩⟩
theorem ziz {g b n c:Nat} (e:(Value.slice (some ⟨g,0,none⟩) n c).ownBlock=some b):g=b:=Option.some.inj e
structure SP (w wr:World) (S q:Nat) (t0:Tree) (vt vb:Value) (TX LB:List Value):Prop where
 bel:Below w.heap.size w wr
 le:w.heap.size<=S∧S<=wr.heap.size
 town:wr.ownsRow w.heap.size 29 5 vt q TX
 bown:wr.ownsRow w.heap.size 27 1 vb LB.length LB
 tb:∀ g,vt.ownBlock=some g->vb.ownBlock≠some g
 apt:Apt (fun b=>(w.heap.size<=b∧vt.ownBlock≠some b∧vb.ownBlock≠some b)∧b<S) wr LB
 fst:0<q->∃ v0 v1 v2 v3 v4 ys,TX=v0::v1::v2::v3::v4::ys∧TreeAt (fun b=>w.heap.size<=b∧b<wr.heap.size∧vt.ownBlock≠some b∧vb.ownBlock≠some b) wr t0 (.agg #[v0,v1,v2,v3,v4])
variable {w wr w' : World} {S E q:Nat} {t t0:Tree} {vt vb:Value} {TX LB ls:List Value}
theorem SP.start (hb:Below w.heap.size w wr):SP w wr w.heap.size 0 t0 (.slice none 0 0) (.slice none 0 0) [] [] :=
 ⟨hb,⟨Nat.le_refl _,hb.size⟩,World.ownsRow_nil _ _ _ _,World.ownsRow_nil _ _ _ _,fun g e=>by simp [Value.ownBlock] at e,⟨fun sl h=>by simp at h,List.Pairwise.nil⟩,fun h=>by omega⟩
theorem SP.keep (h:SP w wr S q t0 vt vb TX LB) (hs:wr.heap.size<=w'.heap.size) (hk:∀ b,b<wr.heap.size->w'.heap[b]?=wr.heap[b]?) (hb:Below w.heap.size w w'):SP w w' S q t0 vt vb TX LB:=by
 refine ⟨hb,⟨h.le.1,Nat.le_trans h.le.2 hs⟩,zbc h.town (fun g _ hl=>hk g hl),zbc h.bown (fun g _ hl=>hk g hl),h.tb,h.apt.frame (fun _ h=>h) (fun b _ hl=>hk b hl),fun hq=>?_⟩;obtain ⟨v0,v1,v2,v3,v4,ys,e,ht⟩:=h.fst hq;exact ⟨v0,v1,v2,v3,v4,ys,e,TreeAt.frame (fun b hb=>⟨hb.1,Nat.lt_of_lt_of_le hb.2.1 hs,hb.2.2⟩) (fun b _ hl=>hk b hl) _ _ ht⟩
theorem SP.idle (h:SP w wr S q t0 vt vb TX LB) (hb:Below wr.heap.size wr w'):SP w w' S q t0 vt vb TX LB :=
 h.keep hb.size hb.block (h.bel.trans (hb.mono h.bel.size))
theorem SP.up (h:SP w wr S q t0 vt vb TX LB) {S' : Nat} (h1:S<=S') (h2:S'<=wr.heap.size):SP w wr S' q t0 vt vb TX LB :=
 ⟨h.bel,⟨Nat.le_trans h.le.1 h1,h2⟩,h.town,h.bown,h.tb,h.apt.frame (fun _ h=>⟨h.1,Nat.lt_of_lt_of_le h.2 h1⟩) (fun _ _ _=>rfl),h.fst⟩
theorem SP.tree {g c:Nat} {v0 v1 v2 v3 v4:Value} (h:SP w wr S q t0 vt vb TX LB) (hvt:∀ g,vt.ownBlock=some g->g<S) (hvb:∀ g,vb.ownBlock=some g->g<S) (hE:E<=wr.heap.size) (hT:q=0->TreeAt (fun b=>S<=b∧b<E) wr t0 (.agg #[v0,v1,v2,v3,v4]))
 (hown:w'.ownsRow w.heap.size 29 5 (.slice (some ⟨g,0,none⟩) (q+1) c) (q+1) (TX++[v0,v1,v2,v3,v4])) (hp:(vt.ownBlock=some g∧wr.grownBy w' (some g))∨(g=wr.heap.size∧wr.grownBy w' none)) :
 SP w w' S (q+1) t0 (.slice (some ⟨g,0,none⟩) (q+1) c) vb (TX++[v0,v1,v2,v3,v4]) LB∧(g<S∨E<=g)∧∀ b,b<wr.heap.size->b≠g->w'.heap[b]?=wr.heap[b]?:=by
 have hgw:=(hown.lt g rfl).1;have hs:wr.heap.size<=w'.heap.size:=by rcases hp with ⟨_,hg⟩|⟨_,hg⟩<;>exact hg.size
 have hk:∀ b,b<wr.heap.size->b≠g->w'.heap[b]?=wr.heap[b]?:=fun b hl hn=>by
  rcases hp with ⟨_,hg⟩|⟨_,hg⟩
  · exact hg.block b hl (by simpa using hn)
  · exact hg.block b hl (by simp)
 have hb:Below w.heap.size w w':=by
  rcases hp with ⟨_,hg⟩|⟨_,hg⟩
  · exact h.bel.grown hg h.bel.size (fun k e=>by cases e;exact hgw)
  · exact h.bel.grown hg h.bel.size (fun k e=>by cases e)
 have hsep:g<S∧vt.ownBlock=some g∨g=wr.heap.size:=by
  rcases hp with ⟨e,_⟩|⟨e,_⟩
  · exact .inl ⟨hvt g e,e⟩
  · exact .inr e
 have hnb:∀ b,b<wr.heap.size->vt.ownBlock≠some b->b≠g:=fun b hl hn e=>by
  rcases hsep with ⟨_,e1⟩|e1
  · exact hn (by rw [e1,e])
  · omega
 have hle:=h.le;refine ⟨⟨hb,⟨hle.1,Nat.le_trans hle.2 hs⟩,hown,zbc h.bown (fun b e hl=>hk b hl (fun e2=>?_)),fun g' e=>?_,h.apt.frame (fun b hb=>⟨⟨hb.1.1,?_,hb.1.2.2⟩,hb.2⟩) (fun b hb hl=>hk b hl (hnb b hl hb.1.2.1)),fun _=>?_⟩,?_,hk⟩
 · rcases hsep with ⟨_,e1⟩|e1
   · exact h.tb g e1 (by rw [e,e2])
   · have:=hvb b e;omega
 · intro e2;rw [<- ziz e] at e2;rcases hsep with ⟨_,e1⟩|e1
   · exact h.tb g e1 e2
   · have:=hvb _ e2;omega
 · intro e;have e9:=ziz e;subst e9;rcases hsep with ⟨_,e1⟩|e1
   · exact hb.1.2.1 e1
   · have:=hb.2;omega
 · by_cases hq:q=0
   · subst hq;have hx:TX=[]:=List.eq_nil_of_length_eq_zero (by have:=h.town.1;omega);subst hx;refine ⟨v0,v1,v2,v3,v4,[],rfl,TreeAt.frame (fun b hb=>⟨by omega,by omega,?_,?_⟩) (fun b hb hl=>hk b hl ?_) _ _ (hT rfl)⟩
     · rcases hsep with ⟨e1,_⟩|e1<;>omega
     · intro e;have e9:=ziz e;rcases hsep with ⟨e1,_⟩|e1<;>omega
     · intro e;have:=hvb b e;omega
   · obtain ⟨u0,u1,u2,u3,u4,ys,e,ht⟩:=h.fst (by omega);refine ⟨u0,u1,u2,u3,u4,ys++[v0,v1,v2,v3,v4],by rw [e];rfl,TreeAt.frame (fun b hb=>⟨hb.1,Nat.lt_of_lt_of_le hb.2.1 hs,?_,hb.2.2.2⟩) (fun b hb hl=>hk b hl (hnb b hl hb.2.2.1)) _ _ ht⟩;intro e2;exact hnb _ hb.2.1 hb.2.2.1 (ziz e2).symm
 · rcases hsep with ⟨e1,_⟩|e1
   · exact .inl e1
   · exact .inr (by omega)
theorem SP.book {g c:Nat} (h:SP w wr S q t0 vt vb TX LB) (hvt:∀ g,vt.ownBlock=some g->g<S∨E<=g) (hvb:∀ g,vb.ownBlock=some g->g<S) (hSE:S<=E) (hE:E<=wr.heap.size) (hL:Apt (fun b=>S<=b∧b<E) wr ls)
 (hown:w'.ownsRow w.heap.size 27 1 (.slice (some ⟨g,0,none⟩) (LB.length+ls.length) c) (LB.length+ls.length) (LB++ls)) (hg:wr.grownBy w' vb.ownBlock) (hat:vb.ownBlock=some g∨g=wr.heap.size) :
 SP w w' E q t0 vt (.slice (some ⟨g,0,none⟩) (LB.length+ls.length) c) TX (LB++ls):=by
 have hle:=h.le;have hk:∀ b,b<wr.heap.size->vb.ownBlock≠some b->w'.heap[b]?=wr.heap[b]?:=fun b hl hn=>hg.block b hl (fun e=>hn e.symm);have hnb:∀ b,b<wr.heap.size->vb.ownBlock≠some b->b≠g:=fun b hl hn e=>by
  rcases hat with e1|e1
  · exact hn (by rw [e1,e])
  · omega
 have hgg:g<S∨E<=g:=by
  rcases hat with e1|e1
  · exact .inl (hvb g e1)
  · exact .inr (by omega)
 refine ⟨h.bel.grown hg h.bel.size (fun k e=>(h.bown.lt k e).1),⟨by omega,Nat.le_trans hE hg.size⟩,zbc h.town (fun b e hl=>hk b hl (h.tb b e)),by rw [List.length_append];exact hown,fun b e e2=>?_,Apt.append (fun b=>b<S) (h.apt.frame (fun b hb=>⟨⟨⟨hb.1.1,hb.1.2.1,fun e=>?_⟩,by omega⟩,hb.2⟩) (fun b hb hl=>hk b hl hb.1.2.2)) (hL.frame (fun b hb=>⟨⟨⟨by omega,fun e=>?_,fun e=>?_⟩,by omega⟩,by omega⟩) (fun b hb hl=>hk b hl (fun e=>by have:=hvb b e;omega))),fun hq=>?_⟩
 · exact hnb _ (h.town.lt _ e).2 (h.tb _ e) (ziz e2).symm
 · have e9:=ziz e;subst e9;rcases hat with e1|e1
   · exact hb.1.2.2 e1
   · have:=hb.2;omega
 · have:=hvt b e;omega
 · have e9:=ziz e;omega
 · obtain ⟨v0,v1,v2,v3,v4,ys,e,ht⟩:=h.fst hq;refine ⟨v0,v1,v2,v3,v4,ys,e,TreeAt.frame (fun b hb=>⟨hb.1,Nat.lt_of_lt_of_le hb.2.1 hg.size,hb.2.2.1,fun e2=>?_⟩) (fun b hb hl=>hk b hl hb.2.2.2) _ _ ht⟩;exact hnb _ hb.2.1 hb.2.2.2 (ziz e2).symm
mutual
theorem lstT_lens {w:World}:(t:Tree)->(v:Value)->(ls:List Value)->LstT w t v ls->∀ sl∈ls,∃ o n c,sl=.slice o n c∧n<=nodes t
 | .node k n m a ks,v,ls=>fun h=>by
  rw [LstT] at h;obtain ⟨sl,_,xs,ho,r,hr,rfl⟩:=h;intro s hs;rw [nodes];rcases List.mem_cons.1 hs with rfl|hs
  · obtain ⟨o,c,e⟩:∃ o c,s=.slice o ks.length c:=by
     rcases ho.2 with ⟨rfl,h0⟩|⟨g,cap,cur,rfl,_⟩
     · exact ⟨none,0,by rw [h0]⟩
     · exact ⟨_,cap,rfl⟩
    exact ⟨o,_,c,e,by have:=len_nodes ks;omega⟩
  · obtain ⟨o,n,c,e,hn⟩:=lstR_lens ks xs r hr s hs;exact ⟨o,n,c,e,by omega⟩
theorem lstR_lens {w:World}:(ts:List Tree)->(xs ls:List Value)->LstR w ts xs ls->∀ sl∈ls,∃ o n c,sl=.slice o n c∧n<=za9 ts
 | [],xs,ls=>fun h=>by rw [LstR] at h;rw [h.2];simp
 | t::ts,xs,ls=>fun h=>by
  rw [LstR] at h;obtain ⟨v0,v1,v2,v3,v4,ys,_,l1,l2,h1,h2,rfl⟩:=h;intro s hs;rw [za9];rcases List.mem_append.1 hs with hs|hs
  · obtain ⟨o,n,c,e,hn⟩:=lstT_lens t _ l1 h1 s hs;exact ⟨o,n,c,e,by omega⟩
  · obtain ⟨o,n,c,e,hn⟩:=lstR_lens ts ys l2 h2 s hs;exact ⟨o,n,c,e,by omega⟩
theorem len_nodes:(ts:List Tree)->ts.length<=za9 ts
 | []=>by simp
 | .node _ _ _ _ ks::ts=>by
  have:=len_nodes ts;rw [za9,nodes,List.length_cons];omega
end
def lenOf:Value->Nat|.slice _ n _=>n|_=>0
def capOf:Value->Nat|.slice _ _ c=>c|_=>0
open Classical in
theorem SP.out {gb cb:Nat} (h:SP w wr S q t0 vt (.slice (some ⟨gb,0,none⟩) LB.length cb) TX LB):
 ∃ G N C K,Dm.Ls wr w.heap.size gb LB.length 0 G N C K∧∀ i,i<LB.length->∃ sl,sl∈LB∧N i=lenOf sl:=by
 let f:Nat->Value:=fun i=>LB.getD i (.slice none 0 0)
 have hf:∀ i (hi:i<LB.length),f i=LB[i]:=fun i hi=>by simp [f,hi]
 have hfm:∀ i,i<LB.length->f i∈LB:=fun i hi=>by rw [hf i hi];exact List.getElem_mem hi
 have hsep:∀ i j g,i<LB.length->j<LB.length->(f i).ownBlock=some g->(f j).ownBlock=some g->i=j:=fun i j g hi hj e1 e2=>by
  have hp:=List.pairwise_iff_getElem.1 h.apt.2;rw [hf i hi] at e1;rw [hf j hj] at e2;rcases Nat.lt_trichotomy i j with h1|h1|h1
  · exact absurd e2 (hp i j hi hj h1 g e1)
  · exact h1
  · exact absurd e1 (hp j i hj hi h1 g e2)
 have hsh:∀ i,i<LB.length->f i=Dm.sv (f i).ownBlock (lenOf (f i)) (capOf (f i))∧((f i).ownBlock=none->lenOf (f i)=0∧capOf (f i)=0)∧∀ g,(f i).ownBlock=some g->Dm.Rw wr w.heap.size g (lenOf (f i)) (capOf (f i))∧g≠gb:=fun i hi=>by
  obtain ⟨⟨n,xs,ho⟩,hg⟩:=h.apt.1 (f i) (hfm i hi);rcases ho.2 with ⟨e,h0⟩|⟨g,cap,cur,e,h1,h2,h3,h4,h5,h6⟩
  · rw [e];exact ⟨rfl,fun _=>⟨rfl,rfl⟩,fun g e=>by simp [Value.ownBlock] at e⟩
  · rw [e] at hg ⊢;refine ⟨rfl,fun e=>by simp [Value.ownBlock] at e,fun g' e2=>?_⟩;cases e2;have hA:=hg g rfl;exact ⟨⟨hA.1.1,⟨cur,h2,h5⟩,h3,h4⟩,fun e3=>hA.1.2.2 (congrArg some (show g=gb from e3).symm)⟩
 refine ⟨fun i=>(f i).ownBlock,fun i=>lenOf (f i),fun i=>capOf (f i),fun b=>if hx:∃ i,i<LB.length∧(f i).ownBlock=some b then 3+hx.choose else 0,⟨fun i hi=>?_,fun i g _ hi e=>⟨((hsh i hi).2.2 g e).1,?_⟩,fun i hi e=>(hsh i hi).2.1 e,?_,(h.bown.lt gb rfl).2⟩,fun i hi=>⟨f i,hfm i hi,rfl⟩⟩
 · rw [h.bown.cellAt i (by omega),List.getElem?_eq_getElem hi,<- hf i hi];exact congrArg some (hsh i hi).1
 · have hx:∃ i,i<LB.length∧(f i).ownBlock=some g:=⟨i,hi,e⟩;rw [dif_pos hx];rw [hsep _ i g hx.choose_spec.1 hi hx.choose_spec.2 e]
 · rw [dif_neg];rintro ⟨i,hi,e⟩;exact ((hsh i hi).2.2 gb e).2 rfl
end Go.Proofs.YtighggeokiahfaaGreatDoor
namespace Go.Proofs.YtighggeokiahfaaGreatDoor.Dm
open Go.RowKit
mutual
theorem weakT {A:Nat->Prop} {w:World}:(t:Tree)->(v:Value)->_root_.Go.Proofs.YtighggeokiahfaaGreatDoor.TreeAt A w t v->TreeAt A w t v
 | .node k n m a ks,v=>by
  intro ht;obtain ⟨sl,e,xs,ho,hg,hr⟩:=_root_.Go.Proofs.YtighggeokiahfaaGreatDoor.treeAt_node.1 ht;exact treeAt_node.2 ⟨sl,e,xs,ho,hg,weakR ks xs hr⟩
theorem weakR {A:Nat->Prop} {w:World}:(ts:List Tree)->(xs:List Value)->_root_.Go.Proofs.YtighggeokiahfaaGreatDoor.RowV A w ts xs->RowV A w ts xs
 | [],xs=>by
  intro h;rw [_root_.Go.Proofs.YtighggeokiahfaaGreatDoor.RowV] at h;subst h;exact zho
 | t::ts,xs=>by
  intro h;obtain ⟨v0,v1,v2,v3,v4,ys,e,ht,hr⟩:=_root_.Go.Proofs.YtighggeokiahfaaGreatDoor.rowV_cons.1 h;exact rowV_cons.2 ⟨v0,v1,v2,v3,v4,ys,e,weakT t _ ht,weakR ts ys hr⟩
end
end Go.Proofs.YtighggeokiahfaaGreatDoor.Dm
