import Derived.Test.YtodfklpmbclgkaaGreatDoorBack18
import Derived.Test.YtodfklpmbclgkaaGreatDoorBack17
import Derived.Test.YtodfklpmbclgkaaGreatDoorBack09
namespace Go.Proofs.YtodfklpmbclgkaaGreatDoor.Pr
open Go.Lib
/-- a token's word as the printer writes it -/
def ct (t:Tok):List UInt8:=if t.kind=3 then itoa t.num else t.text
structure WF (t:Tok):Prop where
 name:t.kind=1->Lx.isNameP t.text=true
 num:t.kind=3->(-2147483648<=t.num∧t.num<=4294967295)∧NumT t.text
theorem zas:(a b:List (List UInt8))->(txt:List UInt8)->layP (a++b) txt=(layP a txt).bind (layP b)
 | [],b,txt=>rfl
 | t::a,b,txt=>by
  rw [List.cons_append,zfx,zfx]
  split
  · exact zas a b _
  · rfl
theorem zai {α β:Type} {r:Ans α} {f:α->PS->Ans β} {b:β} {s:PS} (h:r.bind f=.ok b s):∃ a s1,r=.ok a s1∧f a s1=.ok b s:=by
 cases r with
 | ok a s1=>exact ⟨a,s1,rfl,h⟩
 | no e i=>cases h
theorem zkx {s s' : PS} {t:Tok} (h:s.take=.ok t s'):s.full=false∧t=s.hd∧s'=⟨s.ts.tail,false⟩:=by
 unfold PS.take at h
 split at h
 · cases h
 · next hf =>
   have hf2:s.full=false:=by simpa using hf
   cases h
   exact ⟨hf2,rfl,by rw [hf2]⟩
theorem take_cons {s s' : PS} {t:Tok} (h:s.take=.ok t s') (hk:¬ (s.hd.kind=5∧s.hd.text=[])):s=⟨t::s'.ts,false⟩∧s'=⟨s'.ts,false⟩:=by
 obtain ⟨h1,h2,h3⟩:=zkx h
 obtain ⟨ts,f⟩:=s
 cases ts with
 | nil=>exact absurd ⟨rfl,rfl⟩ hk
 | cons u r =>
  subst h3
  have h2:t=u:=h2
  have h1:f=false:=h1
  subst h2
  subst h1
  exact ⟨rfl,rfl⟩
theorem zbh {s s' : PS} {x:List UInt8} (hne:x≠[]) (hx:Spec x) (hw:∀ u∈s.ts,WF u) (h:s.want x=.ok () s'):∃ u,s=⟨u::s'.ts,false⟩∧s'=⟨s'.ts,false⟩∧ct u=x:=by
 unfold PS.want at h
 split at h
 · next hs =>
   obtain ⟨t,s1,h1,h2⟩:=zai h
   cases h2
   have ht:s.hd.text=x:=by simpa [PS.sees] using hs
   obtain ⟨h3,h4⟩:=take_cons h1 (fun e=>hne (ht ▸ e.2))
   refine ⟨t,h3,h4,?_⟩
   have h5:s.hd=t:=by rw [h3];rfl
   rw [h5] at ht
   have hwt:WF t:=hw t (by rw [h3];simp)
   unfold ct
   split
   · next hk =>
     have:=(hwt.num hk).2
     rw [ht] at this
     exact (zod this hx).elim
   · exact ht
 · cases h
theorem zog {s s' : PS} {t:Tok} {k:Int} (hk:k≠5) (h:s.ofKind k=.ok t s'):s=⟨t::s'.ts,false⟩∧s'=⟨s'.ts,false⟩∧t.kind=k:=by
 unfold PS.ofKind at h
 split at h
 · next hs =>
   obtain ⟨h3,h4⟩:=take_cons h (fun e=>hk (hs ▸ e.1))
   refine ⟨h3,h4,?_⟩
   rw [<- hs,h3]
   rfl
 · cases h
theorem zf7 {s s' : PS} {t:Tok} (hw:∀ u∈s.ts,WF u) (h:zdj s=.ok t s'):s=⟨t::s'.ts,false⟩∧s'=⟨s'.ts,false⟩∧ct t=t.text∧zaw t.text true=true:=by
 obtain ⟨h1,h2,h3⟩:=zog (by decide) h
 have hn:=(hw t (by rw [h1];simp)).name h3
 refine ⟨h1,h2,?_,?_⟩
 · unfold ct;rw [if_neg (by rw [h3];decide)]
 · unfold zaw;rw [hn];rfl
/-- what the parser's part takes is what the printer's part lays down -/
def Eats (F:PS->Ans Tree) (pr:ITree->List UInt8->Option (List UInt8)):Prop:=∀ s t s',(∀ u∈s.ts,WF u)->F s=.ok t s'->∃ us,us≠[]∧s=⟨us++s'.ts,false⟩∧s'=⟨s'.ts,false⟩∧∀ txt,pr t.toI txt=layP (us.map ct) txt
theorem zcp {us ts:List Tok} (h:∀ u∈us++ts,WF u):∀ u∈ts,WF u:=fun u hu=>h u (by simp [hu])
theorem zbr {t:Tok} {ts:List Tok} (h:∀ u∈t::ts,WF u):∀ u∈ts,WF u:=fun u hu=>h u (by simp [hu])
theorem zbg (k:Int) (n:List UInt8) (m:Int) (a:Nat) (ks:List Tree):(Tree.node k n m a ks).toI=.node k n m a (toIs ks):=by rw [Tree.toI]
theorem eats_ref:Eats Go.Proofs.YtodfklpmbclgkaaGreatDoor.refP (fun t=>refP t.name t.num t.kids.length):=by
 intro s t s' hw h
 obtain ⟨n,s1,h1,h2⟩:=zai h
 cases h2
 obtain ⟨h3,h4,h5,h6⟩:=zf7 hw h1
 refine ⟨[n],by simp,h3,h4,fun txt=>?_⟩
 rw [named,zbg]
 show refP n.text 0 (toIs []).length txt=_
 unfold refP
 rw [h6,toIs]
 rw [List.map_cons,List.map_nil,h5]
 rfl
theorem zl4:Eats Go.Proofs.YtodfklpmbclgkaaGreatDoor.numberP (zaz (-2147483648)):=by
 intro s t s' hw h
 obtain ⟨n,s1,h1,h2⟩:=zai h
 cases h2
 obtain ⟨h3,h4,h5⟩:=zog (by decide) h1
 have hn:=((hw n (by rw [h3];simp)).num h5).1
 refine ⟨[n],by simp,h3,h4,fun txt=>?_⟩
 rw [zbg]
 show zgj (-2147483648) 28 [] n.num (toIs []).length txt=_
 unfold zgj ziy zke
 rw [toIs,List.map_cons,List.map_nil,show ct n=itoa n.num from if_pos h5]
 simp [hn.1,hn.2]
theorem zj5:Eats zbv (zaz 0):=by
 intro s t s' hw h
 unfold zbv at h
 split at h
 · cases h
 · next hz =>
   obtain ⟨n,s1,h1,h2⟩:=zai h
   cases h2
   obtain ⟨h3,h4,h5⟩:=zog (by decide) h1
   have hn:=((hw n (by rw [h3];simp)).num h5).1
   have h0:(0:Int)<=n.num:=by
    rw [h3] at hz
    have:¬ n.num<0:=hz
    omega
   refine ⟨[n],by simp,h3,h4,fun txt=>?_⟩
   rw [zbg]
   show zgj 0 28 [] n.num (toIs []).length txt=_
   unfold zgj ziy zke
   rw [toIs,List.map_cons,List.map_nil,show ct n=itoa n.num from if_pos h5]
   simp [hn.2,h0]
theorem kind_ref {s s' : PS} {t:Tree} (h:Go.Proofs.YtodfklpmbclgkaaGreatDoor.refP s=.ok t s'):t.toI.kind=27:=by
 obtain ⟨n,s1,_,h2⟩:=zai h
 cases h2
 rw [named,zbg]
 rfl
theorem kind_number {s s' : PS} {t:Tree} (h:Go.Proofs.YtodfklpmbclgkaaGreatDoor.numberP s=.ok t s'):t.toI.kind=28:=by
 obtain ⟨n,s1,_,h2⟩:=zai h
 cases h2
 rw [zbg]
 rfl
theorem zh0:Eats Go.Proofs.YtodfklpmbclgkaaGreatDoor.valueP zat:=by
 intro s t s' hw h
 unfold Go.Proofs.YtodfklpmbclgkaaGreatDoor.valueP at h
 split at h
 · obtain ⟨us,h1,h2,h3,h4⟩:=eats_ref s t s' hw h
   refine ⟨us,h1,h2,h3,fun txt=>?_⟩
   rw [<- h4]
   unfold zat valueP
   rw [if_pos (kind_ref h)]
 · obtain ⟨us,h1,h2,h3,h4⟩:=zl4 s t s' hw h
   refine ⟨us,h1,h2,h3,fun txt=>?_⟩
   rw [<- h4]
   unfold zat valueP zaz
   rw [if_neg (by rw [kind_number h];decide)]
theorem zgo (k:Int) (w:List UInt8) (hne:w≠[]) (hx:Spec w) (s:PS) (t:Tree) (s' : PS) (hw:∀ u∈s.ts,WF u) (hs:s.sees w=true) (h:Go.Proofs.YtodfklpmbclgkaaGreatDoor.aloneP k s=.ok t s'):∃ u,s=⟨u::s'.ts,false⟩∧s'=⟨s'.ts,false⟩∧ct u=w∧∃ a,t=.node k [] 0 a []:=by
 obtain ⟨u,s1,h1,h2⟩:=zai h
 cases h2
 have hwant:s.want w=.ok () s':=by unfold PS.want;rw [if_pos hs,h1];rfl
 obtain ⟨u',h3,h4,h5⟩:=zbh hne hx hw hwant
 have:u'=u:=by
  obtain ⟨_,h6,_⟩:=zkx h1
  rw [h6,h3]
  rfl
 subst this
 exact ⟨u',h3,h4,h5,_,rfl⟩
theorem zf1 {w:List UInt8} {k:Int} {a:Nat} (txt:List UInt8):zgz w (Tree.node k [] 0 a []).toI txt=layP [w] txt:=by
 rw [zbg]
 show aloneP w [] 0 (toIs []).length txt=_
 unfold aloneP
 rw [toIs]
 rfl
theorem bare_words:∀ b∈zau,∀ txt,zd6 zau b.1 [] 0 0 txt=layP ((if b.2.1=true then [za4] else [])++[b.2.2]) txt:=by
 intro b hb txt
 simp only [zau,List.mem_cons,List.not_mem_nil,or_false] at hb
 rcases hb with rfl|rfl|rfl|rfl|rfl|rfl|rfl
 all_goals first|rfl|(rw [zas];rfl)
theorem bares_not:∀ b∈zau,b.1≠27:=by decide
theorem bares_ok:∀ b∈zau,b.2.2≠[]∧Spec b.2.2:=by unfold Spec;decide
theorem ze6 {s s' : PS} {t:Tok} {w:List UInt8} (hne:w≠[]) (hx:Spec w) (hw:∀ u∈s.ts,WF u) (hs:s.sees w=true) (h:s.take=.ok t s'):s=⟨t::s'.ts,false⟩∧s'=⟨s'.ts,false⟩∧ct t=w:=by
 have hwant:s.want w=.ok () s':=by unfold PS.want;rw [if_pos hs,h];rfl
 obtain ⟨u',h3,h4,h5⟩:=zbh hne hx hw hwant
 have:u'=t:=by
  obtain ⟨_,h6,_⟩:=zkx h
  rw [h6,h3]
  rfl
 subst this
 exact ⟨h3,h4,h5⟩
theorem zgn:Eats Go.Proofs.YtodfklpmbclgkaaGreatDoor.bareP zcg:=by
 intro s t s' hw h
 unfold Go.Proofs.YtodfklpmbclgkaaGreatDoor.bareP at h
 split at h
 · obtain ⟨us,h1,h2,h3,h4⟩:=eats_ref s t s' hw h
   refine ⟨us,h1,h2,h3,fun txt=>?_⟩
   rw [<- h4]
   unfold zcg bareP
   rw [if_pos (kind_ref h)]
 · dsimp only at h
   have last:∀ (u:Bool) (a:Nat) (s1:PS),(∀ u∈s1.ts,WF u)->(match zau.find? fun b=>b.2.1==u&&s1.sees b.2.2 with|some b=>s1.take.bind fun _ s=>(.ok (.node b.1 [] 0 a []) s:Ans Tree)|none=>s1.bad 40)=.ok t s'->∃ x b,s1=⟨x::s'.ts,false⟩∧s'=⟨s'.ts,false⟩∧b∈zau∧b.2.1=u∧ct x=b.2.2∧t=.node b.1 [] 0 a []:=by
    intro u a s1 hw1 h1
    cases hf:zau.find? fun b=>b.2.1==u&&s1.sees b.2.2 with
    | none=>rw [hf] at h1;cases h1
    | some b =>
     rw [hf] at h1
     obtain ⟨x,s2,h2,h3⟩:=zai h1
     cases h3
     have hm:=List.mem_of_find?_eq_some hf
     have hp:=List.find?_some hf
     simp only [Bool.and_eq_true,beq_iff_eq] at hp
     obtain ⟨h4,h5,h6⟩:=ze6 (bares_ok b hm).1 (bares_ok b hm).2 hw1 hp.2 h2
     exact ⟨x,b,h4,h5,hm,hp.1,h6,rfl⟩
   have fin:∀ (b:Int × Bool × List UInt8) (a:Nat) (txt:List UInt8),b∈zau->zcg (Tree.node b.1 [] 0 a []).toI txt=layP ((if b.2.1=true then [za4] else [])++[b.2.2]) txt:=by
    intro b a txt hm
    rw [zbg,<- bare_words b hm]
    show bareP b.1 [] 0 (toIs []).length txt=_
    unfold bareP
    rw [if_neg (bares_not b hm),toIs]
    rfl
   cases hu:s.sees za4 with
   | true =>
    rw [hu,if_pos rfl] at h
    obtain ⟨_,s1,h1,h2⟩:=zai h
    obtain ⟨y,s2,h3,h4⟩:=zai h1
    cases h4
    obtain ⟨h5,h6,h7⟩:=ze6 (by decide) (by unfold Spec;decide) hw hu h3
    obtain ⟨x,b,h8,h9,h10,h11,h12,rfl⟩:=last true _ s1 (by rw [h5] at hw;exact zbr hw) h2
    refine ⟨[y,x],by simp,?_,h9,fun txt=>?_⟩
    · rw [h5,show s1.ts=x::s'.ts by rw [h8]];rfl
    · rw [fin b _ txt h10,h11,if_pos rfl,List.map_cons,List.map_cons,List.map_nil,h7,h12];rfl
   | false =>
    rw [hu] at h
    obtain ⟨_,s1,h1,h2⟩:=zai h
    rw [if_neg (by decide)] at h1
    cases h1
    obtain ⟨x,b,h8,h9,h10,h11,h12,rfl⟩:=last false _ s hw h2
    refine ⟨[x],by simp,h8,h9,fun txt=>?_⟩
    rw [fin b _ txt h10,h11,List.map_cons,List.map_nil,h12];rfl
theorem zlq {s s' : PS} {t:Tree} (h:Go.Proofs.YtodfklpmbclgkaaGreatDoor.bareP s=.ok t s'):t.kind=27∨(18<=t.kind∧t.kind<=24):=by
 unfold Go.Proofs.YtodfklpmbclgkaaGreatDoor.bareP at h
 split at h
 · obtain ⟨n,s1,_,h2⟩:=zai h
   cases h2
   exact Or.inl rfl
 · dsimp only at h
   obtain ⟨_,s1,_,h2⟩:=zai h
   cases hf:zau.find? fun b=>b.2.1==s.sees za4&&s1.sees b.2.2 with
   | none=>rw [hf] at h2;cases h2
   | some b =>
    rw [hf] at h2
    obtain ⟨x,s2,_,h3⟩:=zai h2
    cases h3
    have hm:=List.mem_of_find?_eq_some hf
    have:∀ b∈zau,18<=b.1∧b.1<=24:=by decide
    exact Or.inr (this b hm)
theorem zc5 (t:Tree):t.toI.kind=t.kind:=by
 obtain ⟨k,n,m,a,ks⟩:=t
 rw [zbg]
 rfl
theorem eats_result:Eats Go.Proofs.YtodfklpmbclgkaaGreatDoor.resultP zcl:=by
 intro s t s' hw h
 unfold Go.Proofs.YtodfklpmbclgkaaGreatDoor.resultP at h
 split at h
 · next hs =>
   obtain ⟨u,h1,h2,h3,a,rfl⟩:=zgo 13 zcn (by decide) (by unfold Spec;decide) s t s' hw hs h
   refine ⟨[u],by simp,h1,h2,fun txt=>?_⟩
   rw [List.map_cons,List.map_nil,h3,<- zf1 (k:=13) (a:=a) txt,zbg]
   rfl
 · obtain ⟨us,h1,h2,h3,h4⟩:=zgn s t s' hw h
   refine ⟨us,h1,h2,h3,fun txt=>?_⟩
   rw [<- h4]
   unfold zcl resultP
   have hk:=zlq h
   rw [if_neg (by rw [zc5];omega)]
theorem zkn:(a b:List Tree)->toIs (a++b)=toIs a++toIs b
 | [],b=>by rw [toIs];rfl
 | t::a,b=>by rw [List.cons_append,toIs,toIs,zkn a b];rfl
theorem zgx {s:PS} {a b:Nat} (h:a≠b):s.room a b=s:=by unfold PS.room;rw [if_neg h]
theorem strict_no {F:PS->Ans Tree} (hS:zbx F) {s:PS} {a:Nat} {t:Tree} {s' : PS} (h:F (s.room a a)=.ok t s'):False:=by
 obtain ⟨e,i,h2⟩:=hS (s.room a a) (by unfold PS.room;rw [if_pos rfl])
 rw [h2] at h
 cases h
/-- a row, one behind the other -/
theorem zl2 {F:PS->Ans Tree} {pr:ITree->List UInt8->Option (List UInt8)} (hF:Eats F pr) (hS:zbx F) (ws:List (List UInt8)):(f:Nat)->∀ (acc l:List Tree) (s s' : PS),acc.length<=64->(∀ u∈s.ts,WF u)->zck F ws f acc s=.ok l s' ->
 ∃ l2 us,l=acc++l2∧s.ts=us++s'.ts∧s'.full=s.full∧(∀ txt,rowP pr (toIs l2) txt=layP (us.map ct) txt)∧1<=l.length∧l.length<=64∧(l2≠[]->s.full=false)∧ws.any s'.sees=true
 | 0,acc,l,s,s',_,_,h=>by cases h
 | f+1,acc,l,s,s',ha,hw,h=>by
  unfold zck at h
  split at h
  · obtain ⟨t,s1,h1,h2⟩:=zai h
    by_cases h64:acc.length=64
    · rw [h64] at h1;exact absurd h1 (fun h=>strict_no hS h)
    rw [zgx h64] at h1
    obtain ⟨us,_,hs,hs1,hp⟩:=hF s t s1 hw h1
    have hw1:∀ u∈s1.ts,WF u:=by rw [hs] at hw;exact zcp hw
    obtain ⟨l2,us2,e1,e2,e3,e4,e5,e6,_,e8⟩:=zl2 hF hS ws f (acc++[t]) l s1 s' (by simp;omega) hw1 h2
    refine ⟨t::l2,us++us2,by rw [e1];simp,?_,?_,fun txt=>?_,e5,e6,fun _=>by rw [hs],e8⟩
    · rw [hs,List.append_assoc,<- e2]
    · rw [e3,hs1,hs]
    · rw [toIs,List.map_append,zas,<- hp]
      show (pr t.toI txt).bind (rowP pr (toIs l2))=_
      cases pr t.toI txt with
      | none=>rfl
      | some x=>exact e4 x
  · next hn =>
    cases h
    simp only [Bool.or_eq_true,Bool.not_eq_true',not_or,Bool.not_eq_true,Bool.not_eq_false] at hn
    refine ⟨[],[],by simp,rfl,rfl,fun txt=>rfl,?_,ha,fun h=>absurd rfl h,hn.2⟩
    cases acc with
    | nil=>simp at hn
    | cons _ _=>simp
/-- a row, parted by signs -/
theorem zl5 {F:PS->Ans Tree} {pr:ITree->List UInt8->Option (List UInt8)} (hF:Eats F pr) (most:Nat):(f:Nat)->∀ (acc l:List Tree) (s s' : PS),acc.length<=most->(∀ u∈s.ts,WF u)->s.full=false->zeu F most f acc s=.ok l s' ->
 ∃ l2 us,l=acc++l2∧s.ts=us++s'.ts∧s'.full=false∧(∀ txt,sepP pr true (toIs l2) txt=layP (us.map ct) txt)∧l.length<=most
 | 0,acc,l,s,s',_,_,_,h=>by cases h
 | f+1,acc,l,s,s',ha,hw,hfu,h=>by
  unfold zeu at h
  split at h
  · next hs44 =>
    obtain ⟨y,s0,h0,h00⟩:=zai h
    by_cases hm:acc.length=most
    · have:=(zkx h0).1
      rw [hm] at this
      unfold PS.room at this
      rw [if_pos rfl] at this
      cases this
    rw [zgx hm] at h0
    obtain ⟨g1,g2,g3⟩:=ze6 (by decide) (by unfold Spec;decide) hw hs44 h0
    have hw0:∀ u∈s0.ts,WF u:=by rw [g1] at hw;exact zbr hw
    obtain ⟨t,s1,h1,h2⟩:=zai h00
    obtain ⟨us,_,hs,hs1,hp⟩:=hF s0 t s1 hw0 h1
    have hw1:∀ u∈s1.ts,WF u:=by rw [hs] at hw0;exact zcp hw0
    obtain ⟨l2,us2,e1,e2,e3,e4,e5⟩:=zl5 hF most f (acc++[t]) l s1 s' (by simp;omega) hw1 (by rw [hs1]) h2
    refine ⟨t::l2,y::(us++us2),by rw [e1];simp,?_,e3,fun txt=>?_,e5⟩
    · rw [g1,show s0.ts=us++s1.ts by rw [hs],e2];simp
    · rw [toIs,sep_next,List.map_cons,g3,List.map_append]
      rw [show [44]::(us.map ct++us2.map ct)=[[44]]++(us.map ct++us2.map ct) from rfl,zas]
      cases layP [[44]] txt with
      | none=>rfl
      | some x =>
       show (pr t.toI x).bind (sepP pr true (toIs l2))=layP (us.map ct++us2.map ct) x
       rw [zas,<- hp]
       cases pr t.toI x with
       | none=>rfl
       | some y=>exact e4 y
  · cases h
    exact ⟨[],[],by simp,rfl,hfu,fun txt=>zn4 _ _ _,ha⟩
theorem zl3 {F:PS->Ans Tree} {pr:ITree->List UInt8->Option (List UInt8)} (hF:Eats F pr) (most:Nat) (hm:1<=most) (s:PS) (l:List Tree) (s' : PS) (hw:∀ u∈s.ts,WF u) (h:zd7 F most s=.ok l s') :
 ∃ us,us≠[]∧s=⟨us++s'.ts,false⟩∧s'=⟨s'.ts,false⟩∧(∀ txt,sepP pr false (toIs l) txt=layP (us.map ct) txt)∧1<=l.length∧l.length<=most:=by
 obtain ⟨t,s1,h1,h2⟩:=zai h
 obtain ⟨us,hne,hs,hs1,hp⟩:=hF s t s1 hw h1
 have hw1:∀ u∈s1.ts,WF u:=by rw [hs] at hw;exact zcp hw
 obtain ⟨l2,us2,e1,e2,e3,e4,e5⟩:=zl5 hF most 66 [t] l s1 s' (by simpa using hm) hw1 (by rw [hs1]) h2
 refine ⟨us++us2,by simp [hne],?_,?_,fun txt=>?_,by rw [e1];simp,e5⟩
 · rw [hs,e2];simp
 · obtain ⟨ts,fu⟩:=s';cases e3;rfl
 · rw [e1]
   show sepP pr false (toIs (t::l2)) txt=_
   rw [toIs,ziq,List.map_append,zas,<- hp]
   cases pr t.toI txt with
   | none=>rfl
   | some x=>exact e4 x
theorem zc4 (u:List UInt8) (us:List (List UInt8)) (txt:List UInt8):layP (u::us) txt=(layP [u] txt).bind (layP us):=zas [u] us txt
theorem zc9 (u v:List UInt8) (us:List (List UInt8)) (txt:List UInt8):layP (u::v::us) txt=(layP [u,v] txt).bind (layP us):=zas [u,v] us txt
theorem bind_congr' {x:Option (List UInt8)} {f g:List UInt8->Option (List UInt8)} (h:∀ y,f y=g y):x.bind f=x.bind g:=by
 cases x with
 | none=>rfl
 | some y=>exact h y
theorem eats_member:Eats Go.Proofs.YtodfklpmbclgkaaGreatDoor.memberP memberP:=by
 intro s t s' hw h
 obtain ⟨n,s1,h1,h⟩:=zai h
 obtain ⟨a1,a2,a3,a4⟩:=zf7 hw h1
 have hw1:∀ u∈s1.ts,WF u:=by rw [a1] at hw;exact zbr hw
 obtain ⟨_,s2,h2,h⟩:=zai h
 obtain ⟨e,b1,b2,b3⟩:=zbh (by decide) (by unfold Spec;decide) hw1 h2
 have hw2:∀ u∈s2.ts,WF u:=by rw [b1] at hw1;exact zbr hw1
 obtain ⟨v,s3,h3,h⟩:=zai h
 obtain ⟨us,c0,c1,c2,c3⟩:=zh0 s2 v s3 hw2 h3
 cases h
 refine ⟨n::e::us,by simp,?_,c2,fun txt=>?_⟩
 · rw [a1,show s1.ts=e::s2.ts by rw [b1],show s2.ts=us++s'.ts by rw [c1]];rfl
 · rw [named,zbg,toIs,toIs,List.map_cons,List.map_cons,a3,b3,zc9]
   show (if (5:Int)=5 then (if zaw n.text true&&zan 1 0 1 1 then (layP [n.text,[61]] txt).bind (zat v.toI) else none) else none)=_
   rw [if_pos rfl,a4,if_pos (by decide)]
   exact bind_congr' c3
/-- the same of a list of trees -/
def EatsL (F:PS->Ans (List Tree)) (pr:List ITree->List UInt8->Option (List UInt8)) (least most:Nat):Prop:=∀ s l s',(∀ u∈s.ts,WF u)->F s=.ok l s'->∃ us,us≠[]∧s=⟨us++s'.ts,false⟩∧s'=⟨s'.ts,false⟩∧(∀ txt,pr (toIs l) txt=layP (us.map ct) txt)∧least<=l.length∧l.length<=most
theorem eats_members:EatsL Go.Proofs.YtodfklpmbclgkaaGreatDoor.membersP membersP 1 64:=by
 intro s l s' hw h
 obtain ⟨_,s1,h1,h⟩:=zai h
 obtain ⟨e,a1,a2,a3⟩:=zbh (by decide) (by unfold Spec;decide) hw h1
 have hw1:∀ u∈s1.ts,WF u:=by rw [a1] at hw;exact zbr hw
 obtain ⟨l1,s2,h2,h⟩:=zai h
 obtain ⟨us,b0,b1,b2,b3,b4,b5⟩:=zl3 eats_member 64 (by decide) s1 l1 s2 hw1 h2
 have hw2:∀ u∈s2.ts,WF u:=by rw [b1] at hw1;exact zcp hw1
 obtain ⟨_,s3,h3,h⟩:=zai h
 obtain ⟨f,c1,c2,c3⟩:=zbh (by decide) (by unfold Spec;decide) hw2 h3
 cases h
 refine ⟨e::(us++[f]),by simp,?_,c2,fun txt=>?_,b4,b5⟩
 · rw [a1,show s1.ts=us++s2.ts by rw [b1],show s2.ts=f::s'.ts by rw [c1]];simp
 · rw [List.map_cons,a3,zc4,List.map_append,List.map_cons,List.map_nil,c3]
   unfold membersP
   exact bind_congr' fun x=>by rw [zas,<- b3]
theorem zns {wr:ITree->List UInt8->Option (List UInt8)} (k:Int) (of:Tree) (hk:of.kind=k) (O:List (List UInt8)) (hO:∀ txt,ofP wr of.toI txt=layP O txt) (s:PS) (t:Tree) (s' : PS) (hw:∀ u∈s.ts,WF u) (h:Go.Proofs.YtodfklpmbclgkaaGreatDoor.sizedP k of s=.ok t s') :
 ∃ us,us≠[]∧s=⟨us++s'.ts,false⟩∧s'=⟨s'.ts,false⟩∧(∀ txt,zcs wr t.toI txt=layP (O++us.map ct) txt)∧(t.kind=14∨t.kind=15∨t.kind=16):=by
 obtain ⟨n,s1,h1,h⟩:=zai h
 obtain ⟨a1,a2,a3,a4⟩:=zf7 hw h1
 have hw1:∀ u∈s1.ts,WF u:=by rw [a1] at hw;exact zbr hw
 have hkI:of.toI.kind=k:=by rw [zc5];exact hk
 split at h
 · next hs =>
   simp only [Bool.and_eq_true,bne_iff_ne,ne_eq] at hs
   obtain ⟨e,s2,h2,h⟩:=zai h
   obtain ⟨b1,b2,b3⟩:=ze6 (by decide) (by unfold Spec;decide) hw1 hs.1 h2
   have hw2:∀ u∈s2.ts,WF u:=by rw [b1] at hw1;exact zbr hw1
   obtain ⟨v,s3,h3,h⟩:=zai h
   obtain ⟨us,c0,c1,c2,c3⟩:=zh0 s2 v s3 hw2 h3
   have hw3:∀ u∈s3.ts,WF u:=by rw [c1] at hw2;exact zcp hw2
   obtain ⟨_,s4,h4,h⟩:=zai h
   obtain ⟨f,d1,d2,d3⟩:=zbh (by decide) (by unfold Spec;decide) hw3 h4
   cases h
   refine ⟨n::e::(us++[f]),by simp,?_,d2,fun txt=>?_,Or.inr (Or.inl rfl)⟩
   · rw [a1,show s1.ts=e::s2.ts by rw [b1],show s2.ts=us++s3.ts by rw [c1],show s3.ts=f::s'.ts by rw [d1]];simp
   · rw [named,zbg,toIs,toIs,toIs]
     show fixedP wr (.node 15 n.text 0 n.at_ [of.toI,v.toI]) txt=_
     rw [zkz (L:=2) rfl rfl,a4,if_pos (by decide),if_neg (show ¬ ([of.toI,v.toI].getD 0 zby).kind=26 from fun e=>hs.2 (hkI.symm.trans e))]
     rw [List.map_cons,List.map_cons,List.map_append,List.map_cons,List.map_nil,a3,b3,d3,zas,<- hO]
     show (ofP wr of.toI txt).bind (fun x=>(layP [n.text,[91]] x).bind fun x=>(rowP zat [v.toI] x).bind (layP [[93]]))=_
     refine bind_congr' fun x=>?_
     rw [zc9 n.text [91] (us.map ct++[[93]])]
     refine bind_congr' fun y=>?_
     rw [zas,<- c3]
     show ((zat v.toI y).bind (rowP zat [])).bind (layP [[93]])=_
     cases zat v.toI y <;> rfl
 · split at h
   · obtain ⟨_,s2,h2,h⟩:=zai h
     obtain ⟨e,b1,b2,b3⟩:=zbh (by decide) (by unfold Spec;decide) hw1 h2
     have hw2:∀ u∈s2.ts,WF u:=by rw [b1] at hw1;exact zbr hw1
     split at h
     · obtain ⟨_,s3,h3,h⟩:=zai h
       obtain ⟨f,d1,d2,d3⟩:=zbh (by decide) (by unfold Spec;decide) hw2 h3
       cases h
       refine ⟨[n,e,f],by simp,?_,d2,fun txt=>?_,Or.inr (Or.inr rfl)⟩
       · rw [a1,show s1.ts=e::s2.ts by rw [b1],show s2.ts=f::s'.ts by rw [d1]];rfl
       · rw [named,zbg,toIs,toIs]
         show zjh wr (.node 16 n.text 0 n.at_ [of.toI]) txt=_
         rw [zlo (L:=1) rfl rfl,a4,if_pos (by decide)]
         rw [List.map_cons,List.map_cons,List.map_cons,List.map_nil,a3,b3,d3,zas,<- hO]
         show (ofP wr of.toI txt).bind (fun x=>(layP [n.text,[60]] x).bind fun x=>(rowP zat [] x).bind (layP [[62]]))=_
         refine bind_congr' fun x=>?_
         rw [zc9 n.text [60] [[62]]]
         rfl
     · obtain ⟨v,s3,h3,h⟩:=zai h
       obtain ⟨us,c0,c1,c2,c3⟩:=zh0 s2 v s3 hw2 h3
       have hw3:∀ u∈s3.ts,WF u:=by rw [c1] at hw2;exact zcp hw2
       obtain ⟨_,s4,h4,h⟩:=zai h
       obtain ⟨f,d1,d2,d3⟩:=zbh (by decide) (by unfold Spec;decide) hw3 h4
       cases h
       refine ⟨n::e::(us++[f]),by simp,?_,d2,fun txt=>?_,Or.inr (Or.inr rfl)⟩
       · rw [a1,show s1.ts=e::s2.ts by rw [b1],show s2.ts=us++s3.ts by rw [c1],show s3.ts=f::s'.ts by rw [d1]];simp
       · rw [named,zbg,toIs,toIs,toIs]
         show zjh wr (.node 16 n.text 0 n.at_ [of.toI,v.toI]) txt=_
         rw [zlo (L:=2) rfl rfl,a4,if_pos (by decide)]
         rw [List.map_cons,List.map_cons,List.map_append,List.map_cons,List.map_nil,a3,b3,d3,zas,<- hO]
         show (ofP wr of.toI txt).bind (fun x=>(layP [n.text,[60]] x).bind fun x=>(rowP zat [v.toI] x).bind (layP [[62]]))=_
         refine bind_congr' fun x=>?_
         rw [zc9 n.text [60] (us.map ct++[[62]])]
         refine bind_congr' fun y=>?_
         rw [zas,<- c3]
         show ((zat v.toI y).bind (rowP zat [])).bind (layP [[62]])=_
         cases zat v.toI y <;> rfl
   · split at h
     · cases h
     · next hn =>
       cases h
       simp only [Bool.or_eq_true,beq_iff_eq,not_or] at hn
       refine ⟨[n],by simp,a1,a2,fun txt=>?_,Or.inl rfl⟩
       rw [named,zbg,toIs,toIs]
       show plainP wr (.node 14 n.text 0 n.at_ [of.toI]) txt=_
       rw [zku (L:=1) rfl rfl,a4,if_pos (by decide),List.map_cons,List.map_nil,a3,zas,<- hO]
       unfold ofP
       rw [if_neg (by rw [hkI];exact hn.1),if_neg (by rw [hkI];exact hn.2)]
       rfl
/-- the same of a body without a name -/
def zm3 (B:PS->Ans Tree) (bo:ITree->List UInt8->Option (List UInt8)):Prop:=∀ s t s',(∀ u∈s.ts,WF u)->(s.sees zcj||s.sees za6||s.sees zcm)=true->B s=.ok t s'->(t.kind=4∨t.kind=6∨t.kind=7)∧∃ us,us≠[]∧s=⟨us++s'.ts,false⟩∧s'=⟨s'.ts,false⟩∧∀ txt,bo t.toI txt=layP (us.map ct) txt
theorem eats_written {B:PS->Ans Tree} {bo:ITree->List UInt8->Option (List UInt8)} (hB:zm3 B bo) (s:PS) (t:Tree) (s' : PS) (hw:∀ u∈s.ts,WF u) (h:zce B s=.ok t s'):(t.kind≠25∧t.kind≠26)∧∃ us,us≠[]∧s=⟨us++s'.ts,false⟩∧s'=⟨s'.ts,false⟩∧∀ txt,zaq bo t.toI txt=layP (us.map ct) txt:=by
 unfold zce at h
 split at h
 · next hs =>
   obtain ⟨hk,us,h1,h2,h3,h4⟩:=hB s t s' hw hs h
   refine ⟨by omega,us,h1,h2,h3,fun txt=>?_⟩
   rw [<- h4]
   unfold zaq
   rw [if_pos (by rw [zc5];exact hk)]
 · obtain ⟨us,h1,h2,h3,h4⟩:=zgn s t s' hw h
   have hk:=zlq h
   refine ⟨by omega,us,h1,h2,h3,fun txt=>?_⟩
   rw [<- h4]
   unfold zaq
   rw [if_neg (by rw [zc5];omega)]
theorem zh7 {B:PS->Ans Tree} {bo:ITree->List UInt8->Option (List UInt8)} (hB:zm3 B bo) (s:PS) (t:Tree) (s' : PS) (hw:∀ u∈s.ts,WF u) (h:zbf B s=.ok t s'):t.kind≠13∧∃ us,us≠[]∧s=⟨us++s'.ts,false⟩∧s'=⟨s'.ts,false⟩∧∀ txt,zcs (zaq bo) t.toI txt=layP (us.map ct) txt:=by
 unfold zbf at h
 have go:∀ (w:List UInt8) (k:Int) (hne:w≠[]) (hx:Spec w) (_:s.sees w=true) (hof:∀ a txt,ofP (zaq bo) (Tree.node k [] 0 a []).toI txt=layP [w] txt),((Go.Proofs.YtodfklpmbclgkaaGreatDoor.aloneP k s).bind fun t s=>Go.Proofs.YtodfklpmbclgkaaGreatDoor.sizedP k t s)=.ok t s'->t.kind≠13∧∃ us,us≠[]∧s=⟨us++s'.ts,false⟩∧s'=⟨s'.ts,false⟩∧∀ txt,zcs (zaq bo) t.toI txt=layP (us.map ct) txt:=by
  intro w k hne hx hs hof h
  obtain ⟨of,s1,h1,h2⟩:=zai h
  obtain ⟨u,a1,a2,a3,a,rfl⟩:=zgo k w hne hx s of s1 hw hs h1
  have hw1:∀ u∈s1.ts,WF u:=by rw [a1] at hw;exact zbr hw
  obtain ⟨us,b0,b1,b2,b3,b4⟩:=zns (wr:=zaq bo) k _ rfl [w] (hof a) s1 t s' hw1 h2
  refine ⟨by omega,u::us,by simp,?_,b2,fun txt=>?_⟩
  · rw [a1,show s1.ts=us++s'.ts by rw [b1]];rfl
  · rw [b3,List.map_cons,a3];rfl
 split at h
 · next hs=>exact go zef 25 (by decide) (by unfold Spec;decide) hs (fun a txt=>by rw [<- zf1 (k:=25) (a:=a)];rw [zbg];rfl) h
 · split at h
   · next hs=>exact go zed 26 (by decide) (by unfold Spec;decide) hs (fun a txt=>by rw [<- zf1 (k:=26) (a:=a)];rw [zbg];rfl) h
   · obtain ⟨of,s1,h1,h2⟩:=zai h
     obtain ⟨hk,us,a0,a1,a2,a3⟩:=eats_written hB s of s1 hw h1
     have hw1:∀ u∈s1.ts,WF u:=by rw [a1] at hw;exact zcp hw
     split at h2
     · next hs2 =>
       obtain ⟨e,s2,h3,h2⟩:=zai h2
       obtain ⟨b1,b2,b3⟩:=ze6 (by decide) (by unfold Spec;decide) hw1 hs2 h3
       have hw2:∀ u∈s2.ts,WF u:=by rw [b1] at hw1;exact zbr hw1
       obtain ⟨n,s3,h4,h2⟩:=zai h2
       obtain ⟨c1,c2,c3,c4⟩:=zf7 hw2 h4
       cases h2
       refine ⟨by show (17:Int)≠13;decide,us++[e,n],by simp,?_,c2,fun txt=>?_⟩
       · rw [a1,show s1.ts=e::s2.ts by rw [b1],show s2.ts=n::s'.ts by rw [c1]];simp
       · rw [named,zbg,toIs,toIs]
         show maybeP (zaq bo) (.node 17 n.text 0 n.at_ [of.toI]) txt=_
         rw [zkv (L:=1) rfl rfl,c4,if_pos (by decide),List.map_append,List.map_cons,List.map_cons,List.map_nil,b3,c3,zas,<- a3]
         rfl
     · have hof:∀ txt,ofP (zaq bo) of.toI txt=layP (us.map ct) txt:=fun txt=>by
        unfold ofP
        rw [if_neg (by rw [zc5];exact hk.1),if_neg (by rw [zc5];exact hk.2)]
        exact a3 txt
       obtain ⟨us2,b0,b1,b2,b3,b4⟩:=zns (wr:=zaq bo) of.kind of rfl (us.map ct) hof s1 t s' hw1 h2
       refine ⟨by omega,us++us2,by simp [a0],?_,b2,fun txt=>?_⟩
       · rw [a1,show s1.ts=us2++s'.ts by rw [b1]];simp
       · rw [b3,List.map_append]
theorem zhb {B:PS->Ans Tree} {bo:ITree->List UInt8->Option (List UInt8)} (hB:zm3 B bo):Eats (za3 B) (zcs (zaq bo)):=by
 intro s t s' hw h
 unfold za3 at h
 split at h
 · next hs =>
   obtain ⟨u,h1,h2,h3,a,rfl⟩:=zgo 13 zcn (by decide) (by unfold Spec;decide) s t s' hw hs h
   refine ⟨[u],by simp,h1,h2,fun txt=>?_⟩
   rw [List.map_cons,List.map_nil,h3,<- zf1 (k:=13) (a:=a) txt,zbg]
   rfl
 · exact (zh7 hB s t s' hw h).2
theorem zjn {B:PS->Ans Tree} {bo:ITree->List UInt8->Option (List UInt8)} (hB:zm3 B bo):Eats (zbi B) (zcu (zcs (zaq bo))):=by
 intro s t s' hw h
 obtain ⟨t1,s1,h1,h⟩:=zai h
 obtain ⟨us,a0,a1,a2,a3⟩:=zhb hB s t1 s1 hw h1
 have hw1:∀ u∈s1.ts,WF u:=by rw [a1] at hw;exact zcp hw
 obtain ⟨_,s2,h2,h⟩:=zai h
 obtain ⟨e,b1,b2,b3⟩:=zbh (by decide) (by unfold Spec;decide) hw1 h2
 cases h
 refine ⟨us++[e],by simp,?_,b2,fun txt=>?_⟩
 · rw [a1,show s1.ts=e::s'.ts by rw [b1]];simp
 · unfold zcu
   rw [a3,List.map_append,List.map_cons,List.map_nil,b3,zas]
theorem full_is {s:PS} (h:s.full=false):s=⟨s.ts,false⟩:=by
 obtain ⟨ts,f⟩:=s
 cases h
 rfl
theorem zon {F:PS->Ans Tree} {pr:ITree->List UInt8->Option (List UInt8)} (hF:Eats F pr) (hS:zbx F) (ws:List (List UInt8)) (s:PS) (l:List Tree) (s' : PS) (hw:∀ u∈s.ts,WF u) (h:zck F ws 66 [] s=.ok l s') :
 ∃ us,us≠[]∧s=⟨us++s'.ts,false⟩∧s'=⟨s'.ts,false⟩∧(∀ txt,rowP pr (toIs l) txt=layP (us.map ct) txt)∧1<=l.length∧l.length<=64:=by
 obtain ⟨l2,us,e1,e2,e3,e4,e5,e6,e7,_⟩:=zl2 hF hS ws 66 [] l s s' (by simp) hw h
 have e1:l=l2:=e1
 subst e1
 have hne:l≠[]:=by rintro rfl;simp at e5
 have hf:=e7 hne
 refine ⟨us,?_,?_,full_is (e3.trans hf),e4,e5,e6⟩
 · rintro rfl
   -- the first of the row takes a token at least
   unfold zck at h
   simp only [List.isEmpty_nil,Bool.true_or,if_true] at h
   obtain ⟨t,s1,h1,h2⟩:=zai h
   rw [show ([]:List Tree).length=0 from rfl,zgx (by decide)] at h1
   obtain ⟨vs,hv,hs,hs1,_⟩:=hF s t s1 hw h1
   have hw1:∀ u∈s1.ts,WF u:=by rw [hs] at hw;exact zcp hw
   obtain ⟨_,us2,_,g2,_⟩:=zl2 hF hS ws 65 [t] l s1 s' (by simp) hw1 h2
   have h3:s.ts=vs++(us2++s'.ts):=by rw [<- g2,hs]
   rw [e2] at h3
   have:=congrArg List.length h3
   simp only [List.nil_append,List.length_append] at this
   cases vs with
   | nil=>exact hv rfl
   | cons _ _=>simp at this;omega
 · have:=full_is hf
   rw [e2] at this
   exact this
theorem some_all {F:PS->Ans Tree} {Q:Tree->Prop} (hQ:∀ s t s',F s=.ok t s'->Q t) (ws:List (List UInt8)):(f:Nat)->∀ (acc l:List Tree) (s s' : PS),(∀ t∈acc,Q t)->zck F ws f acc s=.ok l s'->∀ t∈l,Q t
 | 0,acc,l,s,s',_,h=>by cases h
 | f+1,acc,l,s,s',ha,h=>by
  unfold zck at h
  split at h
  · obtain ⟨t,s1,h1,h2⟩:=zai h
    refine some_all hQ ws f (acc++[t]) l s1 s' ?_ h2
    intro u hu
    rcases List.mem_append.1 hu with h3|h3
    · exact ha u h3
    · rw [List.mem_singleton.1 h3];exact hQ _ _ _ h1
  · cases h;exact ha
theorem eats_fields {B:PS->Ans Tree} {bo:ITree->List UInt8->Option (List UInt8)} (hB:zm3 B bo) (hS:zbx B):EatsL (Go.Proofs.YtodfklpmbclgkaaGreatDoor.fieldsP B) (fieldsP (zcu (zcs (zaq bo)))) 1 64:=by
 intro s l s' hw h
 obtain ⟨_,s1,h1,h⟩:=zai h
 obtain ⟨e,a1,a2,a3⟩:=zbh (by decide) (by unfold Spec;decide) hw h1
 have hw1:∀ u∈s1.ts,WF u:=by rw [a1] at hw;exact zbr hw
 obtain ⟨l1,s2,h2,h⟩:=zai h
 obtain ⟨us,b0,b1,b2,b3,b4,b5⟩:=zon (zjn hB) (zhf hS) [[125]] s1 l1 s2 hw1 h2
 have hw2:∀ u∈s2.ts,WF u:=by rw [b1] at hw1;exact zcp hw1
 obtain ⟨_,s3,h3,h⟩:=zai h
 obtain ⟨f,c1,c2,c3⟩:=zbh (by decide) (by unfold Spec;decide) hw2 h3
 cases h
 refine ⟨e::(us++[f]),by simp,?_,c2,fun txt=>?_,b4,b5⟩
 · rw [a1,show s1.ts=us++s2.ts by rw [b1],show s2.ts=f::s'.ts by rw [c1]];simp
 · rw [List.map_cons,a3,zc4,List.map_append,List.map_cons,List.map_nil,c3]
   unfold fieldsP
   exact bind_congr' fun x=>by rw [zas,<- b3]
theorem znt:(f:Nat)->∀ (acc l:List Tree) (s s' : PS),acc.length<=64->(∀ u∈s.ts,WF u)->zcc f acc s=.ok l s' ->
 ∃ l2 us,l=acc++l2∧s.ts=us++s'.ts∧s'.full=s.full∧(∀ txt,rowP zg6 (toIs l2) txt=layP (us.map ct) txt)∧1<=l.length∧l.length<=64∧(l2≠[]->s.full=false)
 | 0,acc,l,s,s',_,_,h=>by cases h
 | f+1,acc,l,s,s',ha,hw,h=>by
  unfold zcc at h
  split at h
  · obtain ⟨_,s1,h1,h⟩:=zai h
    by_cases h64:acc.length=64
    · obtain ⟨e,i,h2⟩:=zeq zc1 (s.room 64 64) (by unfold PS.room;rw [if_pos rfl])
      have h2:(s.room 64 64).want zc1=.no e i:=h2
      rw [h64,h2] at h1
      cases h1
    rw [zgx h64] at h1
    obtain ⟨e,a1,a2,a3⟩:=zbh (by decide) (by unfold Spec;decide) hw h1
    have hw1:∀ u∈s1.ts,WF u:=by rw [a1] at hw;exact zbr hw
    obtain ⟨v,s2,h2,h⟩:=zai h
    obtain ⟨us,b0,b1,b2,b3⟩:=zh0 s1 v s2 hw1 h2
    have hw2:∀ u∈s2.ts,WF u:=by rw [b1] at hw1;exact zcp hw1
    obtain ⟨_,s3,h3,h⟩:=zai h
    obtain ⟨g,c1,c2,c3⟩:=zbh (by decide) (by unfold Spec;decide) hw2 h3
    have hw3:∀ u∈s3.ts,WF u:=by rw [c1] at hw2;exact zbr hw2
    obtain ⟨l2,us2,e1,e2,e3,e4,e5,e6,_⟩:=znt f (acc++[v]) l s3 s' (by simp;omega) hw3 h
    refine ⟨v::l2,e::(us++(g::us2)),by rw [e1];simp,?_,?_,fun txt=>?_,e5,e6,fun _=>by rw [a1]⟩
    · rw [a1,show s1.ts=us++s2.ts by rw [b1],show s2.ts=g::s3.ts by rw [c1],e2];simp
    · rw [e3,c2,a1]
    · rw [toIs,List.map_cons,a3,zc4,List.map_append,List.map_cons,c3]
      show ((layP [[99,97,115,101]] txt).bind fun x=>(zat v.toI x).bind (layP [[58]])).bind (rowP zg6 (toIs l2))=_
      rw [show zc1=[99,97,115,101] from rfl]
      cases layP [[99,97,115,101]] txt with
      | none=>rfl
      | some x =>
       show ((zat v.toI x).bind (layP [[58]])).bind (rowP zg6 (toIs l2))=layP (us.map ct++[58]::us2.map ct) x
       rw [zas,<- b3]
       cases zat v.toI x with
       | none=>rfl
       | some y =>
        show (layP [[58]] y).bind (rowP zg6 (toIs l2))=layP ([58]::us2.map ct) y
        rw [zc4 [58] (us2.map ct)]
        exact bind_congr' e4
  · next hn =>
    cases h
    simp only [Bool.or_eq_true,not_or,Bool.not_eq_true] at hn
    refine ⟨[],[],by simp,rfl,rfl,fun txt=>rfl,?_,ha,fun h=>absurd rfl h⟩
    cases acc with
    | nil=>simp at hn
    | cons _ _=>simp
theorem eats_arm {B:PS->Ans Tree} {bo:ITree->List UInt8->Option (List UInt8)} (hB:zm3 B bo):Eats (Go.Proofs.YtodfklpmbclgkaaGreatDoor.armP B) (armP (zcu (zcs (zaq bo)))):=by
 intro s t s' hw h
 unfold Go.Proofs.YtodfklpmbclgkaaGreatDoor.armP at h
 dsimp only at h
 obtain ⟨l,s1,h1,h⟩:=zai h
 obtain ⟨l2,us,e1,e2,e3,e4,e5,e6,e7⟩:=znt 66 [] l s s1 (by simp) hw h1
 have e1:l=l2:=e1
 subst e1
 have hf:=e7 (by rintro rfl;simp at e5)
 have hw1:∀ u∈s1.ts,WF u:=by rw [e2] at hw;exact zcp hw
 obtain ⟨t1,s2,h2,h⟩:=zai h
 obtain ⟨vs,b0,b1,b2,b3⟩:=zjn hB s1 t1 s2 hw1 h2
 cases h
 refine ⟨us++vs,by simp [b0],?_,b2,fun txt=>?_⟩
 · have:=full_is hf
   rw [e2,show s1.ts=vs++s'.ts by rw [b1]] at this
   simpa using this
 · rw [zbg,zkn,toIs,toIs]
   have hlen:(toIs l++[t1.toI]).length=l.length+1:=by simp [zb9]
   rw [arm_ok hlen rfl]
   have hsz:(zaw [] false&&zan (l.length+1) 0 2 65)=true:=by
    have h1:zaw [] false=true:=rfl
    rw [h1]
    unfold zan
    simp
    omega
   rw [hsz,if_pos rfl,Nat.add_sub_cancel,List.map_append,zas]
   rw [show (toIs l++[t1.toI]).take l.length=toIs l by rw [<- zb9 l,List.take_left]]
   rw [show (toIs l++[t1.toI]).getD l.length zby=t1.toI by rw [<- zb9 l];simp]
   rw [e4]
   exact bind_congr' b3
theorem kind_arm {B:PS->Ans Tree} : ∀ s t s',Go.Proofs.YtodfklpmbclgkaaGreatDoor.armP B s=.ok t s'->t.kind=8:=by
 intro s t s' h
 unfold Go.Proofs.YtodfklpmbclgkaaGreatDoor.armP at h
 dsimp only at h
 obtain ⟨l,s1,_,h⟩:=zai h
 obtain ⟨t1,s2,_,h⟩:=zai h
 cases h
 rfl
theorem eats_choice {B:PS->Ans Tree} {bo:ITree->List UInt8->Option (List UInt8)} (hB:zm3 B bo):EatsL (Go.Proofs.YtodfklpmbclgkaaGreatDoor.choiceP B) (choiceP (zcs (zaq bo)) (armP (zcu (zcs (zaq bo)))) (zcu (zcs (zaq bo)))) 2 66:=by
 intro s l s' hw h
 obtain ⟨_,s1,h1,h⟩:=zai h
 obtain ⟨u1,a1,a2,a3⟩:=zbh (by decide) (by unfold Spec;decide) hw h1
 have hw1:∀ u∈s1.ts,WF u:=by rw [a1] at hw;exact zbr hw
 obtain ⟨_,s2,h2,h⟩:=zai h
 obtain ⟨u2,b1,b2,b3⟩:=zbh (by decide) (by unfold Spec;decide) hw1 h2
 have hw2:∀ u∈s2.ts,WF u:=by rw [b1] at hw1;exact zbr hw1
 obtain ⟨d,s3,h3,h⟩:=zai h
 obtain ⟨us,c0,c1,c2,c3⟩:=zhb hB s2 d s3 hw2 h3
 have hw3:∀ u∈s3.ts,WF u:=by rw [c1] at hw2;exact zcp hw2
 obtain ⟨_,s4,h4,h⟩:=zai h
 obtain ⟨u3,d1,d2,d3⟩:=zbh (by decide) (by unfold Spec;decide) hw3 h4
 have hw4:∀ u∈s4.ts,WF u:=by rw [d1] at hw3;exact zbr hw3
 obtain ⟨_,s5,h5,h⟩:=zai h
 obtain ⟨u4,e1,e2,e3⟩:=zbh (by decide) (by unfold Spec;decide) hw4 h5
 have hw5:∀ u∈s5.ts,WF u:=by rw [e1] at hw4;exact zbr hw4
 obtain ⟨la,s6,h6,h⟩:=zai h
 obtain ⟨vs,f0,f1,f2,f3,f4,f5⟩:=zon (eats_arm hB) (zjb B) [za9,[125]] s5 la s6 hw5 h6
 have hall:=some_all (Q:=fun t=>t.kind=8) kind_arm [za9,[125]] 66 [] la s5 s6 (by simp) h6
 have hw6:∀ u∈s6.ts,WF u:=by rw [f1] at hw5;exact zcp hw5
 have front:∀ (rest:List (List UInt8)) (ts:List ITree) (txt:List UInt8),ts.getD 0 zby=d.toI->(∀ x,zm1 (armP (zcu (zcs (zaq bo)))) (zcu (zcs (zaq bo))) ts x=layP rest x)->choiceP (zcs (zaq bo)) (armP (zcu (zcs (zaq bo)))) (zcu (zcs (zaq bo))) ts txt=layP (ct u1::ct u2::(us.map ct++(ct u3::ct u4::rest))) txt:=by
  intro rest ts txt hd hr
  unfold choiceP
  rw [hd,a3,b3,d3,e3,zc9 zfd [40]]
  refine bind_congr' fun x=>?_
  rw [zas,<- c3]
  refine bind_congr' fun y=>?_
  rw [zc9 [41] [123] rest]
  exact bind_congr' hr
 split at h
 · next hs =>
   obtain ⟨te,s7,h7,h⟩:=zai h
   obtain ⟨u5,g1,g2,g3,ia,rfl⟩:=zgo 9 za9 (by decide) (by unfold Spec;decide) s6 te s7 hw6 hs h7
   have hw7:∀ u∈s7.ts,WF u:=by rw [g1] at hw6;exact zbr hw6
   obtain ⟨_,s8,h8,h⟩:=zai h
   obtain ⟨u6,i1,i2,i3⟩:=zbh (by decide) (by unfold Spec;decide) hw7 h8
   have hw8:∀ u∈s8.ts,WF u:=by rw [i1] at hw7;exact zbr hw7
   obtain ⟨t1,s9,h9,h⟩:=zai h
   obtain ⟨xs,j0,j1,j2,j3⟩:=zjn hB s8 t1 s9 hw8 h9
   have hw9:∀ u∈s9.ts,WF u:=by rw [j1] at hw8;exact zcp hw8
   obtain ⟨_,s10,h10,h⟩:=zai h
   obtain ⟨u7,k1,k2,k3⟩:=zbh (by decide) (by unfold Spec;decide) hw9 h10
   cases h
   refine ⟨u1::u2::(us++(u3::u4::(vs++(u5::u6::(xs++[u7]))))),by simp,?_,k2,fun txt=>?_,by simp only [List.length_append,List.length_cons,List.length_nil];omega,by simp only [List.length_append,List.length_cons,List.length_nil];omega⟩
   · rw [a1,show s1.ts=u2::s2.ts by rw [b1],show s2.ts=us++s3.ts by rw [c1],show s3.ts=u3::s4.ts by rw [d1],show s4.ts=u4::s5.ts by rw [e1],show s5.ts=vs++s6.ts by rw [f1],show s6.ts=u5::s7.ts by rw [g1],show s7.ts=u6::s8.ts by rw [i1],show s8.ts=xs++s9.ts by rw [j1],show s9.ts=u7::s'.ts by rw [k1]]
     simp
   · simp only [List.map_cons,List.map_append,List.map_nil]
     refine front _ _ txt ?_ ?_
     · rw [List.cons_append,toIs];rfl
     · intro x
       have hlen:(toIs (d::la++[.node 9 [] 0 ia [t1]])).length=la.length+2:=by rw [zb9];simp
       have hts:toIs (d::la++[.node 9 [] 0 ia [t1]])=d.toI::(toIs la++[.node 9 [] 0 ia [t1.toI]]):=by
        rw [List.cons_append,toIs,zkn,toIs,toIs,zbg,toIs,toIs]
       unfold zm1
       rw [hlen,show la.length+2 - 1=la.length+1 by omega,show la.length+2 - 2=la.length by omega,hts]
       have hlast:(d.toI::(toIs la++[.node 9 [] 0 ia [t1.toI]])).getD (la.length+1) zby=.node 9 [] 0 ia [t1.toI]:=by
        rw [List.getD_cons_succ,<- zb9 la];simp
       rw [hlast,if_pos (show (ITree.node 9 [] 0 ia [t1.toI]).kind=9 from rfl),if_pos ⟨f4,f5⟩]
       rw [show ((d.toI::(toIs la++[.node 9 [] 0 ia [t1.toI]])).drop 1).take la.length=toIs la by rw [List.drop_one,List.tail_cons,<- zb9 la,List.take_left]]
       rw [zas,<- f3]
       refine bind_congr' fun y=>?_
       rw [zol (l:=1) rfl rfl,show (zaw [] false&&zan 1 0 1 1)=true from rfl,if_pos rfl,g3,i3,k3,zc9 za9 [58]]
       refine bind_congr' fun z=>?_
       rw [zas,<- j3]
       rfl
 · obtain ⟨_,s7,h7,h⟩:=zai h
   obtain ⟨u5,g1,g2,g3⟩:=zbh (by decide) (by unfold Spec;decide) hw6 h7
   cases h
   refine ⟨u1::u2::(us++(u3::u4::(vs++[u5]))),by simp,?_,g2,fun txt=>?_,by simp only [List.length_cons];omega,by simp only [List.length_cons];omega⟩
   · rw [a1,show s1.ts=u2::s2.ts by rw [b1],show s2.ts=us++s3.ts by rw [c1],show s3.ts=u3::s4.ts by rw [d1],show s4.ts=u4::s5.ts by rw [e1],show s5.ts=vs++s6.ts by rw [f1],show s6.ts=u5::s'.ts by rw [g1]]
     simp
   · simp only [List.map_cons,List.map_append,List.map_nil]
     refine front _ _ txt (by rw [toIs];rfl) ?_
     intro x
     have hlen:(toIs (d::la)).length=la.length+1:=by rw [zb9];simp
     unfold zm1
     rw [hlen,show la.length+1 - 1=la.length by omega,toIs]
     have hlast:((d.toI::toIs la).getD la.length zby).kind≠9:=by
      cases hla:la with
      | nil=>rw [hla] at f4;simp at f4
      | cons y ys =>
       have hsn:∃ init z,la=init++[z]:=⟨la.dropLast,la.getLast (by rw [hla];simp),(List.dropLast_concat_getLast _).symm⟩
       obtain ⟨init,z,hz⟩:=hsn
       rw [<- hla,hz,zkn,toIs,toIs]
       have:(d.toI::(toIs init++[z.toI])).getD (init++[z]).length zby=z.toI:=by
        rw [List.length_append,show [z].length=1 from rfl,List.getD_cons_succ,<- zb9 init];simp
       rw [this,zc5,hall z (by rw [hz];simp)]
       decide
     rw [if_neg hlast,if_pos f5,List.drop_one,List.tail_cons,zas,<- f3,g3]
theorem body_step {d:Nat} (ih:zm3 (zbz d false) (zgq d false)) (b:Bool):zm3 (zbz (d+1) b) (zgq (d+1) b):=by
 intro s t s' hw hsee h
 unfold zbz at h
 obtain ⟨word,s1,h1,h⟩:=zai h
 have hword:∃ w,(w=zcj∨w=za6∨w=zcm)∧s.sees w=true:=by
  simp only [Bool.or_eq_true] at hsee
  rcases hsee with (h2|h2)|h2
  · exact ⟨_,Or.inl rfl,h2⟩
  · exact ⟨_,Or.inr (Or.inl rfl),h2⟩
  · exact ⟨_,Or.inr (Or.inr rfl),h2⟩
 obtain ⟨w,hw3,hsw⟩:=hword
 have hwok:w≠[]∧Spec w:=by
  rcases hw3 with rfl|rfl|rfl
  · exact ⟨by decide,by unfold Spec;decide⟩
  · exact ⟨by decide,by unfold Spec;decide⟩
  · exact ⟨by decide,by unfold Spec;decide⟩
 obtain ⟨a1,a2,a3⟩:=ze6 hwok.1 hwok.2 hw hsw h1
 have htext:word.text=w:=by
  have h2:s.hd.text=w:=by simpa [PS.sees] using hsw
  rw [a1] at h2
  exact h2
 have hw1:∀ u∈s1.ts,WF u:=by rw [a1] at hw;exact zbr hw
 obtain ⟨na,s2,h2,h⟩:=zai h
 -- the name, or none
 have hname:∃ vs,s1=⟨vs++s2.ts,false⟩∧s2=⟨s2.ts,false⟩∧zaw na.1 b=true∧∀ txt,(layP [w] txt).bind (fun x=>if b=true then layP [na.1] x else some x)=layP (w::vs.map ct) txt:=by
  cases b with
  | true =>
   rw [if_pos rfl] at h2
   obtain ⟨n,s3,h3,h4⟩:=zai h2
   obtain ⟨c1,c2,c3,c4⟩:=zf7 hw1 h3
   cases h4
   refine ⟨[n],c1,c2,c4,fun txt=>?_⟩
   rw [List.map_cons,List.map_nil,c3,zc4 w [n.text]]
   rfl
  | false =>
   rw [if_neg (by decide)] at h2
   cases h2
   refine ⟨[],a2,a2,rfl,fun txt=>?_⟩
   show (layP [w] txt).bind (fun x=>some x)=layP [w] txt
   cases layP [w] txt <;> rfl
 obtain ⟨vs,b1,b2,b3,b4⟩:=hname
 have hw2:∀ u∈s2.ts,WF u:=by rw [b1] at hw1;exact zcp hw1
 have fin:∀ (k:Int) (least most:Nat) (us:List Tok) (l:List Tree) (pr:List ITree->List UInt8->Option (List UInt8)),us≠[]->s2=⟨us++s'.ts,false⟩->(∀ txt,pr (toIs l) txt=layP (us.map ct) txt)->least<=l.length->l.length<=most ->
  (∀ txt,zgq (d+1) b (.node k na.1 0 na.2 (toIs l)) txt=(zfy w b least most na.1 0 (toIs l).length txt).bind (pr (toIs l))) ->
  ∃ us,us≠[]∧s=⟨us++s'.ts,false⟩∧∀ txt,zgq (d+1) b (Tree.node k na.1 0 na.2 l).toI txt=layP (us.map ct) txt:=by
  intro k least most us l pr h0 h1 h2 h3 h4 h5
  refine ⟨word::(vs++us),by simp,?_,fun txt=>?_⟩
  · rw [a1,show s1.ts=vs++s2.ts by rw [b1],show s2.ts=us++s'.ts by rw [h1]];simp
  · rw [zbg,h5]
    unfold zfy
    have hsz:(zaw na.1 b&&zan (toIs l).length 0 least most)=true:=by
     rw [b3,zb9]
     unfold zan
     simp
     omega
    rw [hsz,if_pos rfl,b4,List.map_cons,a3,List.map_append,<- List.cons_append,zas]
    exact bind_congr' h2
 rw [htext] at h
 split at h
 · next he =>
   obtain ⟨l,s3,h3,h⟩:=zai h
   obtain ⟨us,c0,c1,c2,c3,c4,c5⟩:=eats_members s2 l s3 hw2 h3
   cases h
   subst he
   obtain ⟨xs,f0,f1,f2⟩:=fin 4 1 64 us l membersP c0 c1 c3 c4 c5 (fun txt=>by rw [zgq];rfl)
   exact ⟨Or.inl rfl,xs,f0,f1,c2,f2⟩
 · next he1 =>
   split at h
   · next he =>
     obtain ⟨l,s3,h3,h⟩:=zai h
     obtain ⟨us,c0,c1,c2,c3,c4,c5⟩:=eats_fields ih (zgt d false) s2 l s3 hw2 h3
     cases h
     subst he
     obtain ⟨xs,f0,f1,f2⟩:=fin 6 1 64 us l _ c0 c1 c3 c4 c5 (fun txt=>by rw [zgq];rfl)
     exact ⟨Or.inr (Or.inl rfl),xs,f0,f1,c2,f2⟩
   · next he2 =>
     obtain ⟨l,s3,h3,h⟩:=zai h
     obtain ⟨us,c0,c1,c2,c3,c4,c5⟩:=eats_choice ih s2 l s3 hw2 h3
     cases h
     have he:w=zcm:=by
      rcases hw3 with h|h|h
      · exact absurd h he1
      · exact absurd h he2
      · exact h
     subst he
     obtain ⟨xs,f0,f1,f2⟩:=fin 7 2 66 us l _ c0 c1 c3 c4 c5 (fun txt=>by rw [zgq];rfl)
     exact ⟨Or.inr (Or.inr rfl),xs,f0,f1,c2,f2⟩
theorem zl7:(n:Nat)->(b:Bool)->zm3 (zbz n b) (zgq n b)
 | 0,_=>fun s t s' _ _ h=>by cases h
 | n+1,b=>body_step (zl7 n false) b
theorem zmx:EatsL Go.Proofs.YtodfklpmbclgkaaGreatDoor.argumentsP zh5 1 4:=by
 intro s l s' hw h
 unfold Go.Proofs.YtodfklpmbclgkaaGreatDoor.argumentsP at h
 split at h
 · next hs =>
   obtain ⟨t,s1,h1,h⟩:=zai h
   obtain ⟨u,a1,a2,a3,a,rfl⟩:=zgo 13 zcn (by decide) (by unfold Spec;decide) s t s1 hw hs h1
   cases h
   refine ⟨[u],by simp,a1,a2,fun txt=>?_,by simp,by simp⟩
   rw [List.map_cons,List.map_nil,a3,<- zf1 (k:=13) (a:=a) txt,toIs,toIs,zbg]
   rfl
 · obtain ⟨us,b0,b1,b2,b3,b4,b5⟩:=zl3 zgn 4 (by decide) s l s' hw h
   refine ⟨us,b0,b1,b2,fun txt=>?_,b4,b5⟩
   unfold zh5
   split
   · next h1 =>
     rw [<- b3]
     rw [zb9] at h1
     match l,h1 with
     | [t],_ =>
      obtain ⟨t',s1,h2,h3⟩:=zai h
      have hk:=zlq h2
      have ht:t'=t:=by
       have hw1:∀ u∈s1.ts,WF u:=by
        obtain ⟨vs,_,hs,_,_⟩:=zgn s t' s1 hw h2
        rw [hs] at hw;exact zcp hw
       have hf1:s1.full=false:=by
        obtain ⟨vs,_,_,hs1,_⟩:=zgn s t' s1 hw h2
        rw [hs1]
       obtain ⟨l2,_,e1,_⟩:=zl5 zgn 4 66 [t'] [t] s1 s' (by simp) hw1 hf1 h3
       cases l2 with
       | nil=>simp at e1;exact e1.symm
       | cons _ _=>simp at e1
      subst ht
      rw [toIs,toIs,ziq]
      show zcl t'.toI txt=(zcg t'.toI txt).bind (sepP zcg true [])
      unfold zcl resultP
      rw [if_neg (by rw [zc5];omega)]
      cases zcg t'.toI txt <;> rfl
   · exact b3 txt
theorem zmw:Eats zcf zkd:=by
 intro s t s' hw h
 obtain ⟨r,s1,h1,h⟩:=zai h
 obtain ⟨us,a0,a1,a2,a3⟩:=eats_result s r s1 hw h1
 have hw1:∀ u∈s1.ts,WF u:=by rw [a1] at hw;exact zcp hw
 obtain ⟨n,s2,h2,h⟩:=zai h
 obtain ⟨b1,b2,b3,b4⟩:=zf7 hw1 h2
 have hw2:∀ u∈s2.ts,WF u:=by rw [b1] at hw1;exact zbr hw1
 obtain ⟨_,s3,h3,h⟩:=zai h
 obtain ⟨u1,c1,c2,c3⟩:=zbh (by decide) (by unfold Spec;decide) hw2 h3
 have hw3:∀ u∈s3.ts,WF u:=by rw [c1] at hw2;exact zbr hw2
 obtain ⟨l,s4,h4,h⟩:=zai h
 obtain ⟨vs,d0,d1,d2,d3,d4,d5⟩:=zmx s3 l s4 hw3 h4
 have hw4:∀ u∈s4.ts,WF u:=by rw [d1] at hw3;exact zcp hw3
 obtain ⟨_,s5,h5,h⟩:=zai h
 obtain ⟨u2,e1,e2,e3⟩:=zbh (by decide) (by unfold Spec;decide) hw4 h5
 have hw5:∀ u∈s5.ts,WF u:=by rw [e1] at hw4;exact zbr hw4
 obtain ⟨_,s6,h6,h⟩:=zai h
 obtain ⟨u3,f1,f2,f3⟩:=zbh (by decide) (by unfold Spec;decide) hw5 h6
 have hw6:∀ u∈s6.ts,WF u:=by rw [f1] at hw5;exact zbr hw5
 obtain ⟨v,s7,h7,h⟩:=zai h
 obtain ⟨xs,g0,g1,g2,g3⟩:=zj5 s6 v s7 hw6 h7
 have hw7:∀ u∈s7.ts,WF u:=by rw [g1] at hw6;exact zcp hw6
 obtain ⟨_,s8,h8,h⟩:=zai h
 obtain ⟨u4,i1,i2,i3⟩:=zbh (by decide) (by unfold Spec;decide) hw7 h8
 cases h
 refine ⟨us++(n::u1::(vs++(u2::u3::(xs++[u4])))),by simp,?_,i2,fun txt=>?_⟩
 · rw [a1,show s1.ts=n::s2.ts by rw [b1],show s2.ts=u1::s3.ts by rw [c1],show s3.ts=vs++s4.ts by rw [d1],show s4.ts=u2::s5.ts by rw [e1],show s5.ts=u3::s6.ts by rw [f1],show s6.ts=xs++s7.ts by rw [g1],show s7.ts=u4::s'.ts by rw [i1]]
   simp
 · rw [named,zbg,toIs,toIs]
   have hlen:(v.toI::r.toI::toIs l).length=l.length+2:=by simp [zb9]
   have hsz:(zaw n.text true&&zan (l.length+2) 0 3 6)=true:=by
    rw [b4]
    unfold zan
    simp
    omega
   rw [proc_ok hlen rfl,hsz,if_pos rfl]
   simp only [List.map_cons,List.map_append,List.map_nil]
   rw [b3,c3,e3,f3,i3,zas,<- a3]
   show (zcl r.toI txt).bind (fun x=>(layP [n.text,[40]] x).bind fun x=>(zh5 (toIs l) x).bind fun x=>(layP [[41],[61]] x).bind fun x=>(zaz 0 v.toI x).bind (layP [[59]]))=_
   refine bind_congr' fun x=>?_
   rw [zc9 n.text [40] (vs.map ct++[41]::[61]::(xs.map ct++[[59]]))]
   refine bind_congr' fun y=>?_
   rw [zas,<- d3]
   refine bind_congr' fun z=>?_
   rw [zc9 [41] [61] (xs.map ct++[[59]])]
   refine bind_congr' fun z2=>?_
   rw [zas,<- g3]
theorem zi3 (k:Int) (w:List UInt8) (hne:w≠[]) (hx:Spec w) {F:PS->Ans Tree} {pr:ITree->List UInt8->Option (List UInt8)} (hF:Eats F pr) (hS:zbx F) (s:PS) (t:Tree) (s' : PS) (hw:∀ u∈s.ts,WF u) (hs:s.sees w=true) (h:Go.Proofs.YtodfklpmbclgkaaGreatDoor.numberedP k F s=.ok t s') :
 t.kind=k∧∃ us,us≠[]∧s=⟨us++s'.ts,false⟩∧s'=⟨s'.ts,false⟩∧∀ txt,numberedP w pr t.toI txt=layP (us.map ct) txt:=by
 obtain ⟨u0,s1,h1,h⟩:=zai h
 obtain ⟨a1,a2,a3⟩:=ze6 hne hx hw hs h1
 have hw1:∀ u∈s1.ts,WF u:=by rw [a1] at hw;exact zbr hw
 obtain ⟨n,s2,h2,h⟩:=zai h
 obtain ⟨b1,b2,b3,b4⟩:=zf7 hw1 h2
 have hw2:∀ u∈s2.ts,WF u:=by rw [b1] at hw1;exact zbr hw1
 obtain ⟨_,s3,h3,h⟩:=zai h
 obtain ⟨u1,c1,c2,c3⟩:=zbh (by decide) (by unfold Spec;decide) hw2 h3
 have hw3:∀ u∈s3.ts,WF u:=by rw [c1] at hw2;exact zbr hw2
 obtain ⟨l,s4,h4,h⟩:=zai h
 obtain ⟨vs,d0,d1,d2,d3,d4,d5⟩:=zon hF hS [[125]] s3 l s4 hw3 h4
 have hw4:∀ u∈s4.ts,WF u:=by rw [d1] at hw3;exact zcp hw3
 obtain ⟨_,s5,h5,h⟩:=zai h
 obtain ⟨u2,e1,e2,e3⟩:=zbh (by decide) (by unfold Spec;decide) hw4 h5
 have hw5:∀ u∈s5.ts,WF u:=by rw [e1] at hw4;exact zbr hw4
 obtain ⟨_,s6,h6,h⟩:=zai h
 obtain ⟨u3,f1,f2,f3⟩:=zbh (by decide) (by unfold Spec;decide) hw5 h6
 have hw6:∀ u∈s6.ts,WF u:=by rw [f1] at hw5;exact zbr hw5
 obtain ⟨v,s7,h7,h⟩:=zai h
 obtain ⟨xs,g0,g1,g2,g3⟩:=zj5 s6 v s7 hw6 h7
 cases h
 refine ⟨rfl,u0::n::u1::(vs++(u2::u3::xs)),by simp,?_,g2,fun txt=>?_⟩
 · rw [a1,show s1.ts=n::s2.ts by rw [b1],show s2.ts=u1::s3.ts by rw [c1],show s3.ts=vs++s4.ts by rw [d1],show s4.ts=u2::s5.ts by rw [e1],show s5.ts=u3::s6.ts by rw [f1],show s6.ts=xs++s'.ts by rw [g1]]
   simp
 · rw [named,zbg,toIs]
   have hlen:(v.toI::toIs l).length=l.length+1:=by simp [zb9]
   have hsz:(zaw n.text true&&zan (l.length+1) 0 2 65)=true:=by
    rw [b4]
    unfold zan
    simp
    omega
   rw [zfu hlen rfl,hsz,if_pos rfl]
   simp only [List.map_cons,List.map_append]
   rw [a3,b3,c3,e3,f3]
   show (layP [w,n.text,[123]] txt).bind (fun x=>(rowP pr (toIs l) x).bind fun x=>(layP [[125],[61]] x).bind (zaz 0 v.toI))=_
   rw [show w::n.text::[123]::(vs.map ct++[125]::[61]::xs.map ct)=[w,n.text,[123]]++(vs.map ct++[125]::[61]::xs.map ct) from rfl,zas]
   refine bind_congr' fun x=>?_
   rw [zas,<- d3]
   refine bind_congr' fun y=>?_
   rw [zc9 [125] [61] (xs.map ct)]
   exact bind_congr' g3
theorem eats_version:Eats Go.Proofs.YtodfklpmbclgkaaGreatDoor.versionP versionP:=by
 intro s t s' hw h
 unfold Go.Proofs.YtodfklpmbclgkaaGreatDoor.versionP at h
 split at h
 · next hs =>
   obtain ⟨t1,s1,h1,h⟩:=zai h
   obtain ⟨hk,us,a0,a1,a2,a3⟩:=zi3 11 zd4 (by decide) (by unfold Spec;decide) zmw zfe s t1 s1 hw hs h1
   have hw1:∀ u∈s1.ts,WF u:=by rw [a1] at hw;exact zcp hw
   obtain ⟨_,s2,h2,h⟩:=zai h
   obtain ⟨u,b1,b2,b3⟩:=zbh (by decide) (by unfold Spec;decide) hw1 h2
   cases h
   refine ⟨us++[u],by simp,?_,b2,fun txt=>?_⟩
   · rw [a1,show s1.ts=u::s'.ts by rw [b1]];simp
   · unfold versionP
     rw [if_pos (by rw [zc5];exact hk),List.map_append,List.map_cons,List.map_nil,b3,zas,<- a3]
     rfl
 · cases h
theorem zl6:Eats zbn defT:=by
 intro s t s' hw h
 unfold zbn at h
 split at h
 · obtain ⟨_,s1,h1,h⟩:=zai h
   obtain ⟨u0,a1,a2,a3⟩:=zbh (by decide) (by unfold Spec;decide) hw h1
   have hw1:∀ u∈s1.ts,WF u:=by rw [a1] at hw;exact zbr hw
   obtain ⟨n,s2,h2,h⟩:=zai h
   obtain ⟨b1,b2,b3,b4⟩:=zf7 hw1 h2
   have hw2:∀ u∈s2.ts,WF u:=by rw [b1] at hw1;exact zbr hw1
   obtain ⟨_,s3,h3,h⟩:=zai h
   obtain ⟨u1,c1,c2,c3⟩:=zbh (by decide) (by unfold Spec;decide) hw2 h3
   have hw3:∀ u∈s3.ts,WF u:=by rw [c1] at hw2;exact zbr hw2
   obtain ⟨v,s4,h4,h⟩:=zai h
   obtain ⟨xs,d0,d1,d2,d3⟩:=zl4 s3 v s4 hw3 h4
   cases h
   refine ⟨u0::n::u1::xs,by simp,?_,d2,fun txt=>?_⟩
   · rw [a1,show s1.ts=n::s2.ts by rw [b1],show s2.ts=u1::s3.ts by rw [c1],show s3.ts=xs++s'.ts by rw [d1]];rfl
   · rw [named,zbg,toIs,toIs]
     show zmd (.node 2 n.text 0 n.at_ [v.toI]) txt=_
     rw [zk1 (L:=1) rfl rfl,b4,if_pos (by decide)]
     simp only [List.map_cons]
     rw [a3,b3,c3,show zdz::n.text::[61]::xs.map ct=[zdz,n.text,[61]]++xs.map ct from rfl,zas]
     exact bind_congr' d3
 · split at h
   · next hs =>
     obtain ⟨u0,s1,h1,h⟩:=zai h
     obtain ⟨a1,a2,a3⟩:=ze6 (by decide) (by unfold Spec;decide) hw hs h1
     have hw1:∀ u∈s1.ts,WF u:=by rw [a1] at hw;exact zbr hw
     obtain ⟨d,s2,h2,h⟩:=zai h
     obtain ⟨hk,us,b0,b1,b2,b3⟩:=zh7 (zl7 8 false) s1 d s2 hw1 h2
     cases h
     refine ⟨u0::us,by simp,?_,b2,fun txt=>?_⟩
     · rw [a1,show s1.ts=us++s'.ts by rw [b1]];rfl
     · rw [zbg,toIs,toIs]
       show zkm (declT 8) (.node 3 [] 0 u0.at_ [d.toI]) txt=_
       rw [zhr (L:=1) rfl rfl,show (zaw [] false&&zan 1 0 1 1)=true from rfl,if_pos rfl,if_neg (show ¬ ([d.toI].getD 0 zby).kind=13 from fun e=>hk ((zc5 d).symm.trans e)),List.map_cons,a3,zc4 zd5 (us.map ct)]
       exact bind_congr' b3
   · split at h
     · next hs =>
       obtain ⟨hk,us,b0,b1,b2,b3⟩:=zl7 8 true s t s' hw hs h
       refine ⟨us,b0,b1,b2,fun txt=>?_⟩
       rw [<- b3]
       unfold defT defP
       rw [if_neg (by rw [zc5];omega),if_neg (by rw [zc5];omega),if_neg (by rw [zc5];omega)]
     · split at h
       · next hs =>
         obtain ⟨hk,us,b0,b1,b2,b3⟩:=zi3 10 zee (by decide) (by unfold Spec;decide) eats_version zga s t s' hw hs h
         refine ⟨us,b0,b1,b2,fun txt=>?_⟩
         rw [<- b3]
         unfold defT defP
         rw [if_neg (by rw [zc5];omega),if_neg (by rw [zc5];omega),if_pos (by rw [zc5];exact hk)]
         rfl
       · cases h
theorem zl1:(f:Nat)->∀ (acc l:List Tree) (s s' : PS),acc.length<=100->(∀ u∈s.ts,WF u)->zbb f acc s=.ok l s' ->
 ∃ l2 us,l=acc++l2∧s.ts=us++s'.ts∧(∀ txt,zg5 defT (toIs l2) txt=layP (us.map ct) txt)∧l.length<=100∧s'.hd.kind=5
 | 0,acc,l,s,s',_,_,h=>by cases h
 | f+1,acc,l,s,s',ha,hw,h=>by
  unfold zbb at h
  split at h
  · next hk =>
    cases h
    exact ⟨[],[],by simp,rfl,fun txt=>rfl,ha,hk⟩
  · obtain ⟨t,s1,h1,h⟩:=zai h
    by_cases h100:acc.length=100
    · rw [h100] at h1;exact absurd h1 (fun h=>strict_no zer h)
    rw [zgx h100] at h1
    obtain ⟨us,a0,a1,a2,a3⟩:=zl6 s t s1 hw h1
    have hw1:∀ u∈s1.ts,WF u:=by rw [a1] at hw;exact zcp hw
    obtain ⟨_,s2,h2,h⟩:=zai h
    obtain ⟨u,b1,b2,b3⟩:=zbh (by decide) (by unfold Spec;decide) hw1 h2
    have hw2:∀ u∈s2.ts,WF u:=by rw [b1] at hw1;exact zbr hw1
    obtain ⟨l2,us2,e1,e2,e3,e4,e5⟩:=zl1 f (acc++[t]) l s2 s' (by simp;omega) hw2 h
    refine ⟨t::l2,us++(u::us2),by rw [e1];simp,?_,fun txt=>?_,e4,e5⟩
    · rw [a1,show s1.ts=u::s2.ts by rw [b1],e2];simp
    · rw [toIs,List.map_append,List.map_cons,b3,zas,<- a3]
      show ((defT t.toI txt).bind (layP [[59]])).bind (zg5 defT (toIs l2))=_
      cases defT t.toI txt with
      | none=>rfl
      | some x =>
       show (layP [[59]] x).bind (zg5 defT (toIs l2))=layP ([59]::us2.map ct) x
       rw [zc4 [59] (us2.map ct)]
       exact bind_congr' e3
inductive NT:Tok->Prop
 | word {w:List UInt8} : zcb w=true->NT ⟨2,w,0,0⟩
 | name {n:List UInt8} : Lx.isNameP n=true->NT ⟨1,n,0,0⟩
 | num {m:Int} : -2147483648<=m->m<=4294967295->NT ⟨3,itoa m,m,0⟩
 | sign {c:UInt8} : zgu c=true->NT ⟨4,[c],0,0⟩
def kw (w:List UInt8):Tok:=⟨2,w,0,0⟩
def nm (n:List UInt8):Tok:=⟨1,n,0,0⟩
def nu (m:Int):Tok:=⟨3,itoa m,m,0⟩
def sg (c:UInt8):Tok:=⟨4,[c],0,0⟩
theorem ct_kw (w:List UInt8):ct (kw w)=w:=rfl
theorem ct_nm (n:List UInt8):ct (nm n)=n:=rfl
theorem ct_sg (c:UInt8):ct (sg c)=[c]:=rfl
/-- the same tree, and one that may be -/
def MT (t' : Tree) (t:ITree):Prop:=zdw t'.toI t=true∧zdv t'
def ML (l' : List Tree) (l:List ITree):Prop:=l'.length=l.length∧zct (toIs l') l=true∧zd0 l'
theorem zj1:ML [] []:=⟨rfl,by rw [toIs,zct],by rw [zd0];trivial⟩
theorem name_len {n:List UInt8} (h:Lx.isNameP n=true):n.length<=64:=by
 unfold Lx.isNameP at h
 simp only [Bool.and_eq_true,decide_eq_true_eq] at h
 omega
theorem zel {t' : Tree} {t:ITree} {l' : List Tree} {l:List ITree} (h:MT t' t) (k:ML l' l):ML (t'::l') (t::l) :=
 ⟨by simp [k.1],by rw [toIs,zct];show (zdw t'.toI t&&zct (toIs l') l)=true;rw [h.1,k.2.1];rfl,by rw [zd0];exact ⟨h.2,k.2.2⟩⟩
theorem zds {k:Int} {n:List UInt8} {m:Int} {a:Nat} {b:Int} {l' : List Tree} {l:List ITree} (h:ML l' l) (hn:n.length<=64:=by first|decide|exact name_len (by assumption)) (hm:-9223372036854775808<=m∧m<=9223372036854775807:=by first|decide|omega):MT (.node k n m a l') (.node k n m b l):=by
 refine ⟨?_,by rw [zdv];exact ⟨Nat.le_trans hn (by decide),hm,h.2.2⟩⟩
 rw [zbg,zdw,h.2.1,zb9,h.1]
 simp [zbo]
theorem ml_app {l' : List Tree} {l:List ITree} {m' : List Tree} {m:List ITree} (h:ML l' l) (k:ML m' m):ML (l'++m') (l++m):=by
 induction l' generalizing l with
 | nil =>
  cases l with
  | nil=>exact k
  | cons _ _=>have:=h.1;simp at this
 | cons t' l' ih =>
  cases l with
  | nil=>have:=h.1;simp at this
  | cons t l =>
   have h2:=h.2.1
   rw [toIs,zct,Bool.and_eq_true] at h2
   have h3:=h.2.2
   rw [zd0] at h3
   have h1:=h.1
   simp at h1
   exact zel ⟨h2.1,h3.1⟩ (ih ⟨h1,h2.2,h3.2⟩)
theorem zg9 {t' : Tree} {t:ITree} (h:MT t' t):ML [t'] [t]:=zel h zj1
/-- begins with a letter -/
def Lets (us:List Tok):Prop:=∃ u r,us=u::r∧letB (u.text.getD 0 0)=true∧(u.kind=1∨u.kind=2)
theorem zcr (u:Tok) (r:List Tok) (x:List UInt8):(⟨u::r,false⟩:PS).sees x=(u.text==x):=rfl
theorem lets_sees {us:List Tok} (h:Lets us) (rest:List Tok) {x:List UInt8} (hx:letB (x.getD 0 0)=false):(⟨us++rest,false⟩:PS).sees x=false:=by
 obtain ⟨u,r,rfl,hu,_⟩:=h
 rw [List.cons_append,zcr,beq_eq_false_iff_ne]
 rintro rfl
 rw [hu] at hx
 cases hx
theorem word_let:∀ w∈zii,letB (w.getD 0 0)=true:=by decide +kernel
theorem zea {n:List UInt8} (h:Lx.isNameP n=true):letB (n.getD 0 0)=true∧zcb n=false:=by
 unfold Lx.isNameP at h
 simp only [Bool.and_eq_true,Bool.not_eq_true'] at h
 exact ⟨h.2.2.1,h.2.2.2.2⟩
theorem zd2 {n:List UInt8} (h:zaw n true=true):Lx.isNameP n=true:=by
 unfold zaw at h
 simp at h
 exact h
theorem zgl {n:List UInt8} (h:zaw n false=true):n=[]:=by
 unfold zaw at h
 simp at h
 exact h.2
theorem take_ok (u:Tok) (r:List Tok):(⟨u::r,false⟩:PS).take=.ok u ⟨r,false⟩:=rfl
theorem want_ok {u:Tok} {x:List UInt8} (h:u.text=x) (r:List Tok):(⟨u::r,false⟩:PS).want x=.ok () ⟨r,false⟩:=by
 unfold PS.want
 rw [zcr,h]
 simp
 rfl
theorem zcq {L:Nat} {m:Int} {a b:Nat} (h:zan L m a b=true):a<=L∧L<=b∧m=0:=by
 unfold zan at h
 simp only [Bool.and_eq_true,decide_eq_true_eq,beq_iff_eq] at h
 exact ⟨h.1.1,h.1.2,h.2⟩
theorem zdk {u:Tok} (h:NT u):∀ v∈[u],NT v:=fun v hv=>by rw [List.mem_singleton.1 hv];exact h
theorem zdd {a b:List Tok} (h:∀ u∈a,NT u) (k:∀ u∈b,NT u):∀ u∈a++b,NT u:=fun u hu=>by
 rcases List.mem_append.1 hu with h1|h1
 · exact h u h1
 · exact k u h1
theorem zbq {a:Tok} {b:List Tok} (h:NT a) (k:∀ u∈b,NT u):∀ u∈a::b,NT u:=fun u hu=>by
 rcases List.mem_cons.1 hu with rfl|h1
 · exact h
 · exact k u h1
/-- what is laid down is taken -/
def Says (F:PS->Ans Tree) (pr:ITree->List UInt8->Option (List UInt8)) (C:List Tok->Prop) (D:List Tok->Prop):Prop:=∀ t txt x,pr t txt=some x->∃ us t',layP (us.map ct) txt=some x∧(∀ u∈us,NT u)∧D us∧MT t' t∧∀ rest,C rest->F ⟨us++rest,false⟩=.ok t' ⟨rest,false⟩
def Any (_:List Tok):Prop:=True
theorem zn5 {t:ITree} {txt x:List UInt8} (hk:t.kind=27) (h:refP t.name t.num t.kids.length txt=some x):∃ n t',layP [n] txt=some x∧Lx.isNameP n=true∧MT t' t∧∀ rest,Go.Proofs.YtodfklpmbclgkaaGreatDoor.refP ⟨nm n::rest,false⟩=.ok t' ⟨rest,false⟩:=by
 obtain ⟨k,n,m,a,ks⟩:=t
 have hk:k=27:=hk
 subst hk
 unfold refP at h
 split at h
 · next hc =>
   rw [Bool.and_eq_true] at hc
   obtain ⟨_,h0,h1⟩:=zcq hc.2
   have hks:ks=[]:=List.length_eq_zero_iff.1 (Nat.le_zero.1 h0)
   have hm:m=0:=h1
   subst hks
   subst hm
   have hn:=zd2 hc.1
   exact ⟨n,.node 27 n 0 0 [],h,hn,zds zj1,fun rest=>rfl⟩
 · cases h
theorem zgv (least:Int) (hl:least=0∨least=-2147483648) {t:ITree} {txt x:List UInt8} (h:zaz least t txt=some x):∃ m t',layP [itoa m] txt=some x∧(least<=m∧-2147483648<=m∧m<=4294967295)∧MT t' t∧t.kind=28∧∀ rest,Go.Proofs.YtodfklpmbclgkaaGreatDoor.numberP ⟨nu m::rest,false⟩=.ok t' ⟨rest,false⟩:=by
 obtain ⟨k,n,m,a,ks⟩:=t
 unfold zaz zgj at h
 split at h
 · next hc =>
   rw [Bool.and_eq_true] at hc
   obtain ⟨h1,h2⟩:=hc
   unfold ziy at h1
   unfold zke at h2
   simp only [Bool.and_eq_true,beq_iff_eq,decide_eq_true_eq] at h1 h2
   obtain ⟨⟨hk,hn⟩,hL⟩:=h1
   have hk:k=28:=hk
   have hn:n=[]:=hn
   have hks:ks=[]:=List.length_eq_zero_iff.1 hL
   subst hk
   subst hn
   subst hks
   have h2a:least<=m:=h2.1
   have h2b:m<=4294967295:=h2.2
   exact ⟨m,.node 28 [] m 0 [],h,⟨h2a,by omega,h2b⟩,zds zj1,rfl,fun rest=>rfl⟩
 · cases h
theorem zm6:Says Go.Proofs.YtodfklpmbclgkaaGreatDoor.valueP zat Any (fun us=>us≠[]):=by
 intro t txt x h
 unfold zat valueP at h
 split at h
 · next hk =>
   obtain ⟨n,t',h1,h2,h3,h4⟩:=zn5 hk h
   exact ⟨[nm n],t',h1,zdk (NT.name h2),by simp,h3,fun rest _=>h4 rest⟩
 · obtain ⟨m,t',h1,h2,h3,_,h4⟩:=zgv (-2147483648) (Or.inr rfl) (t:=t) h
   exact ⟨[nu m],t',h1,zdk (NT.num h2.2.1 h2.2.2),by simp,h3,fun rest _=>h4 rest⟩
theorem zjw:Says zbv (zaz 0) Any (fun us=>us≠[]):=by
 intro t txt x h
 obtain ⟨m,t',h1,h2,h3,_,h4⟩:=zgv 0 (Or.inl rfl) (t:=t) h
 refine ⟨[nu m],t',h1,zdk (NT.num h2.2.1 h2.2.2),by simp,h3,fun rest _=>?_⟩
 unfold zbv
 rw [if_neg (show ¬ (⟨[nu m]++rest,false⟩:PS).hd.num<0 from by show ¬ m<0;omega)]
 exact h4 rest
theorem zet {t:ITree} {w txt x:List UInt8} (h:zgz w t txt=some x):layP [w] txt=some x∧MT (.node t.kind [] 0 0 []) t:=by
 obtain ⟨k,n,m,a,ks⟩:=t
 unfold zgz aloneP at h
 split at h
 · next hc =>
   rw [Bool.and_eq_true] at hc
   have hn:n=[]:=zgl hc.1
   obtain ⟨_,h0,h1⟩:=zcq hc.2
   have hks:ks=[]:=List.length_eq_zero_iff.1 (Nat.le_zero.1 h0)
   have hm:m=0:=h1
   subst hn
   subst hks
   subst hm
   exact ⟨h,zds zj1⟩
 · cases h
/-- first words that no declaration is told by -/
def Bare (us:List Tok):Prop:=Lets us∧∃ u r,us=u::r∧u.text≠zcn∧u.text≠zef∧u.text≠zed∧u.text≠zcj∧u.text≠za6∧u.text≠zcm
theorem zi9 {n w:List UInt8} (h:Lx.isNameP n=true) (hw:zcb w=true):n≠w:=by
 rintro rfl
 rw [(zea h).2] at hw
 cases hw
theorem zlb:Says Go.Proofs.YtodfklpmbclgkaaGreatDoor.bareP zcg Any Bare:=by
 intro t txt x h
 unfold zcg bareP at h
 split at h
 · next hk =>
   obtain ⟨n,t',h1,h2,h3,h4⟩:=zn5 hk h
   refine ⟨[nm n],t',h1,zdk (NT.name h2),⟨⟨nm n,[],rfl,(zea h2).1,Or.inl rfl⟩,nm n,[],rfl,zi9 h2 (by decide),zi9 h2 (by decide),zi9 h2 (by decide),zi9 h2 (by decide),zi9 h2 (by decide),zi9 h2 (by decide)⟩,h3,fun rest _=>?_⟩
   exact h4 rest
 · have key:∀ b∈zau,b.1=t.kind->((if b.2.1=true then (layP [za4] txt).bind (aloneP b.2.2 t.name t.num t.kids.length) else aloneP b.2.2 t.name t.num t.kids.length txt)=some x)->∃ us t',layP (us.map ct) txt=some x∧(∀ u∈us,NT u)∧Bare us∧MT t' t∧∀ rest,Any rest->Go.Proofs.YtodfklpmbclgkaaGreatDoor.bareP ⟨us++rest,false⟩=.ok t' ⟨rest,false⟩:=by
    intro b hb hk h
    by_cases hu:b.2.1=true
    · rw [if_pos hu] at h
      obtain ⟨y,hy1,hy2⟩:=Option.bind_eq_some_iff.1 h
      obtain ⟨h1,h2⟩:=zet (t:=t) (w:=b.2.2) hy2
      refine ⟨[kw za4,kw b.2.2],.node t.kind [] 0 0 [],?_,?_,?_,h2,fun rest _=>?_⟩
      · show layP [za4,b.2.2] txt=some x
        rw [zc4,hy1];exact h1
      · have:∀ b∈zau,zcb b.2.2=true:=by decide
        intro u hu2
        simp only [List.mem_cons,List.not_mem_nil,or_false] at hu2
        rcases hu2 with rfl|rfl
        · exact NT.word (by decide)
        · exact NT.word (this b hb)
      · exact ⟨⟨kw za4,_,rfl,by decide,Or.inr rfl⟩,kw za4,_,rfl,by decide,by decide,by decide,by decide,by decide,by decide⟩
      · rw [<- hk]
        simp only [zau,List.mem_cons,List.not_mem_nil,or_false] at hb
        rcases hb with rfl|rfl|rfl|rfl|rfl|rfl|rfl <;> first|rfl|cases hu
    · rw [if_neg hu] at h
      obtain ⟨h1,h2⟩:=zet (t:=t) (w:=b.2.2) h
      refine ⟨[kw b.2.2],.node t.kind [] 0 0 [],h1,?_,?_,h2,fun rest _=>?_⟩
      · have:∀ b∈zau,zcb b.2.2=true:=by decide
        intro u hu2
        rw [List.mem_singleton.1 hu2]
        exact NT.word (this b hb)
      · have:∀ b∈zau,letB (b.2.2.getD 0 0)=true∧b.2.2≠zcn∧b.2.2≠zef∧b.2.2≠zed∧b.2.2≠zcj∧b.2.2≠za6∧b.2.2≠zcm:=by decide
        obtain ⟨g1,g2,g3,g4,g5,g6,g7⟩:=this b hb
        exact ⟨⟨kw b.2.2,[],rfl,g1,Or.inr rfl⟩,kw b.2.2,[],rfl,g2,g3,g4,g5,g6,g7⟩
      · rw [<- hk]
        simp only [zau,List.mem_cons,List.not_mem_nil,or_false] at hb
        rcases hb with rfl|rfl|rfl|rfl|rfl|rfl|rfl <;> first|rfl|exact absurd rfl hu
   have loop:∀ l:List (Int × Bool × List UInt8),(∀ b∈l,b∈zau)->zd6 l t.kind t.name t.num t.kids.length txt=some x->∃ b∈zau,b.1=t.kind∧((if b.2.1=true then (layP [za4] txt).bind (aloneP b.2.2 t.name t.num t.kids.length) else aloneP b.2.2 t.name t.num t.kids.length txt)=some x):=by
    intro l
    induction l with
    | nil=>intro _ h;cases h
    | cons b l ih =>
     intro hl h
     rw [zd6] at h
     split at h
     · next hk=>exact ⟨b,hl b (by simp),hk,h⟩
     · exact ih (fun c hc=>hl c (by simp [hc])) h
   obtain ⟨b,hb,hk,hh⟩:=loop zau (fun _ h=>h) h
   exact key b hb hk hh
theorem dc_ofNat:∀ d:_root_.Fin 10,dc d.val=UInt8.ofNat (48+d.val):=by decide
theorem zjq (n:Nat):decDigits n=zb5 10 n:=by
 induction n using Nat.strongRecOn with
 | _ n ih =>
  by_cases h:n<10
  · rw [decDigits,dif_pos h,zi4 h]
    exact congrArg (fun x=>[x]) (dc_ofNat ⟨n,h⟩).symm
  · rw [decDigits,dif_neg h,zi5 (by decide) h,ih (n / 10) (by omega)]
    exact congrArg (fun x=>_++[x]) (dc_ofNat ⟨n % 10,by omega⟩).symm
theorem zjj (m:Int):NumT (itoa m):=by
 refine Or.inr ?_
 unfold itoa
 split
 · rfl
 · rw [zjq]
   obtain ⟨d,hd,he,_⟩:=(zde (base:=10) (by decide) (by decide) m.toNat m.toNat).2.2.1
   unfold zoe
   rw [he,dc_dig hd]
   rfl
/-- a value's first sign is none of a list's -/
def Val (us:List Tok):Prop:=∃ u r,us=u::r∧u.text≠[62]
theorem zk6:Says Go.Proofs.YtodfklpmbclgkaaGreatDoor.valueP zat Any Val:=by
 intro t txt x h
 unfold zat valueP at h
 split at h
 · next hk =>
   obtain ⟨n,t',h1,h2,h3,h4⟩:=zn5 hk h
   refine ⟨[nm n],t',h1,zdk (NT.name h2),⟨nm n,[],rfl,?_⟩,h3,fun rest _=>h4 rest⟩
   show n≠[62]
   rintro rfl
   have:=(zea h2).1
   exact absurd this (by decide)
 · obtain ⟨m,t',h1,h2,h3,_,h4⟩:=zgv (-2147483648) (Or.inr rfl) (t:=t) h
   refine ⟨[nu m],t',h1,zdk (NT.num h2.2.1 h2.2.2),⟨nu m,[],rfl,?_⟩,h3,fun rest _=>h4 rest⟩
   show itoa m≠[62]
   intro e
   have:=zjj m
   rw [e] at this
   exact absurd this (by unfold NumT;decide)
theorem zd1 {us:List Tok} {u:Tok} {r:List Tok} (h:us=u::r) (rest:List Tok) {x:List UInt8} (hx:u.text≠x):(⟨us++rest,false⟩:PS).sees x=false:=by
 subst h
 rw [List.cons_append,zcr,beq_eq_false_iff_ne]
 exact hx
theorem says_result:Says Go.Proofs.YtodfklpmbclgkaaGreatDoor.resultP zcl Any Lets:=by
 intro t txt x h
 unfold zcl resultP at h
 split at h
 · next hk =>
   obtain ⟨h1,h2⟩:=zet (t:=t) (w:=zcn) h
   rw [hk] at h2
   exact ⟨[kw zcn],_,h1,zdk (NT.word (by decide)),⟨kw zcn,[],rfl,by decide,Or.inr rfl⟩,h2,fun rest _=>rfl⟩
 · obtain ⟨us,t',h1,h2,⟨h3,u,r,h4,h5,_⟩,h6,h7⟩:=zlb t txt x h
   refine ⟨us,t',h1,h2,h3,h6,fun rest _=>?_⟩
   unfold Go.Proofs.YtodfklpmbclgkaaGreatDoor.resultP
   rw [zd1 h4 rest h5]
   exact h7 rest trivial
theorem mt_kind {t' : Tree} {t:ITree} (h:MT t' t):t'.kind=t.kind:=by
 obtain ⟨k,n,m,a,ks⟩:=t'
 obtain ⟨k',n',m',a',ks'⟩:=t
 have h:=h.1
 rw [zbg,zdw,Bool.and_eq_true] at h
 have:=h.1
 unfold zbo at this
 simp only [Bool.and_eq_true,beq_iff_eq] at this
 exact this.1
/-- a row parted by signs, behind its first -/
theorem says_more {F:PS->Ans Tree} {pr:ITree->List UInt8->Option (List UInt8)} {D:List Tok->Prop} (hF:Says F pr Any D) (most:Nat):(l:List ITree)->∀ (txt x:List UInt8),sepP pr true l txt=some x ->
 ∃ us l',layP (us.map ct) txt=some x∧(∀ u∈us,NT u)∧ML l' l∧∀ rest,(⟨rest,false⟩:PS).sees [44]=false->∀ (f:Nat) (acc:List Tree),l.length<f->acc.length+l.length<=most->zeu F most f acc ⟨us++rest,false⟩=.ok (acc++l') ⟨rest,false⟩
 | [],txt,x,h=>by
  rw [zn4] at h
  refine ⟨[],[],h,by simp,zj1,fun rest hr f acc hf _=>?_⟩
  cases f with
  | zero=>exact absurd hf (Nat.not_lt_zero _)
  | succ f =>
   unfold zeu
   rw [List.nil_append,hr]
   simp
 | t::l,txt,x,h=>by
  rw [sep_next] at h
  obtain ⟨y,h1,h2⟩:=Option.bind_eq_some_iff.1 h
  obtain ⟨z,h3,h4⟩:=Option.bind_eq_some_iff.1 h1
  obtain ⟨us,t',a1,a2,_,a4,a5⟩:=hF t z y h4
  obtain ⟨us2,l',b1,b2,b3,b4⟩:=says_more hF most l y x h2
  refine ⟨sg 44::(us++us2),t'::l',?_,zbq (NT.sign (by decide)) (zdd a2 b2),zel a4 b3,fun rest hr f acc hf hm=>?_⟩
  · rw [List.map_cons,ct_sg,zc4,h3,List.map_append]
    show layP (us.map ct++us2.map ct) z=_
    rw [zas,a1]
    exact b1
  · cases f with
    | zero=>exact absurd hf (Nat.not_lt_zero _)
    | succ f =>
     unfold zeu
     rw [List.cons_append,zcr,if_pos (by rfl),zgx (by simp at hm;omega),take_ok]
     show (F ⟨us++us2++rest,false⟩).bind (fun t s=>zeu F most f (acc++[t]) s)=_
     rw [List.append_assoc,a5 _ trivial]
     show zeu F most f (acc++[t']) ⟨us2++rest,false⟩=_
     rw [b4 rest hr f (acc++[t']) (by simp at hf;omega) (by simp at hm ⊢;omega)]
     simp
theorem zk8 {F:PS->Ans Tree} {pr:ITree->List UInt8->Option (List UInt8)} {D:List Tok->Prop} (hF:Says F pr Any D) (most:Nat) (l:List ITree) (h0:1<=l.length) (hm:l.length<=most) (hm2:most<=64) (txt x:List UInt8) (h:sepP pr false l txt=some x) :
 ∃ us l',layP (us.map ct) txt=some x∧(∀ u∈us,NT u)∧ML l' l∧(∃ us1 us2,us=us1++us2∧D us1)∧∀ rest,(⟨rest,false⟩:PS).sees [44]=false->zd7 F most ⟨us++rest,false⟩=.ok l' ⟨rest,false⟩:=by
 match l,h0 with
 | t::l,_ =>
  rw [ziq] at h
  obtain ⟨y,h1,h2⟩:=Option.bind_eq_some_iff.1 h
  obtain ⟨us,t',a1,a2,a3,a4,a5⟩:=hF t txt y h1
  obtain ⟨us2,l',b1,b2,b3,b4⟩:=says_more hF most l y x h2
  refine ⟨us++us2,t'::l',?_,zdd a2 b2,zel a4 b3,⟨us,us2,rfl,a3⟩,fun rest hr=>?_⟩
  · rw [List.map_append,zas,a1];exact b1
  · unfold zd7
    rw [List.append_assoc,a5 _ trivial]
    show zeu F most 66 [t'] ⟨us2++rest,false⟩=_
    rw [b4 rest hr 66 [t'] (by simp at hm;omega) (by simp at hm ⊢;omega)]
    rfl
/-- a row, one behind the other -/
theorem zir {F:PS->Ans Tree} {pr:ITree->List UInt8->Option (List UInt8)} {D:List Tok->Prop} (hF:Says F pr Any D) (ws:List (List UInt8)) (hD:∀ us rest,D us->ws.any (fun w=>(⟨us++rest,false⟩:PS).sees w)=false):(l:List ITree)->∀ (txt x:List UInt8),rowP pr l txt=some x ->
 ∃ us l',layP (us.map ct) txt=some x∧(∀ u∈us,NT u)∧ML l' l∧∀ rest,ws.any (fun w=>(⟨rest,false⟩:PS).sees w)=true->∀ (f:Nat) (acc:List Tree),l.length<f->acc.length+l.length<=64->1<=acc.length+l.length->zck F ws f acc ⟨us++rest,false⟩=.ok (acc++l') ⟨rest,false⟩
 | [],txt,x,h=>by
  refine ⟨[],[],h,by simp,zj1,fun rest hr f acc hf _ h1=>?_⟩
  cases f with
  | zero=>exact absurd hf (Nat.not_lt_zero _)
  | succ f =>
   have hacc:acc.isEmpty=false:=by
    cases acc with
    | nil=>simp at h1
    | cons _ _=>rfl
   unfold zck
   rw [List.nil_append,hacc,show ws.any (⟨rest,false⟩:PS).sees=true from hr]
   simp
 | t::l,txt,x,h=>by
  obtain ⟨y,h1,h2⟩:=Option.bind_eq_some_iff.1 (show (pr t txt).bind (rowP pr l)=some x from h)
  obtain ⟨us,t',a1,a2,a3,a4,a5⟩:=hF t txt y h1
  obtain ⟨us2,l',b1,b2,b3,b4⟩:=zir hF ws hD l y x h2
  refine ⟨us++us2,t'::l',?_,zdd a2 b2,zel a4 b3,fun rest hr f acc hf hm _=>?_⟩
  · rw [List.map_append,zas,a1];exact b1
  · cases f with
    | zero=>exact absurd hf (Nat.not_lt_zero _)
    | succ f =>
     unfold zck
     rw [List.append_assoc,show ws.any (⟨us++(us2++rest),false⟩:PS).sees=false from hD us _ a3]
     rw [if_pos (by simp),zgx (by simp at hm;omega),a5 _ trivial]
     show zck F ws f (acc++[t']) ⟨us2++rest,false⟩=_
     rw [b4 rest hr f (acc++[t']) (by simp at hf;omega) (by simp at hm ⊢;omega) (by simp;omega)]
     simp
theorem says_member:Says Go.Proofs.YtodfklpmbclgkaaGreatDoor.memberP memberP Any (fun us=>us≠[]):=by
 intro t txt x h
 obtain ⟨k,n,m,a,ks⟩:=t
 unfold memberP at h
 split at h
 · next hk =>
   have hk:k=5:=hk
   subst hk
   split at h
   · next hc =>
     rw [Bool.and_eq_true] at hc
     obtain ⟨h0,h1,h2⟩:=zcq hc.2
     have hm:m=0:=h2
     subst hm
     have hl:ks.length=1:=Nat.le_antisymm h1 h0
     match ks,hl with
     | [v],_ =>
      have hn:=zd2 hc.1
      obtain ⟨y,g1,g2⟩:=Option.bind_eq_some_iff.1 h
      obtain ⟨us,v',a1,a2,_,a4,a5⟩:=zm6 v y x g2
      refine ⟨nm n::sg 61::us,.node 5 n 0 0 [v'],?_,zbq (NT.name hn) (zbq (NT.sign (by decide)) a2),by simp,zds (zg9 a4),fun rest _=>?_⟩
      · rw [List.map_cons,List.map_cons,ct_nm,ct_sg,zc9 n [61],show layP [n,[61]] txt=some y from g1]
        exact a1
      · show (Go.Proofs.YtodfklpmbclgkaaGreatDoor.valueP ⟨us++rest,false⟩).bind (fun v s=>.ok (named 5 (nm n) [v]) s)=_
        rw [a5 rest trivial]
        rfl
   · cases h
 · cases h
theorem says_members (l:List ITree) (h0:1<=l.length) (hm:l.length<=64) (txt x:List UInt8) (h:membersP l txt=some x):∃ us l',layP (us.map ct) txt=some x∧(∀ u∈us,NT u)∧ML l' l∧∀ rest,Go.Proofs.YtodfklpmbclgkaaGreatDoor.membersP ⟨us++rest,false⟩=.ok l' ⟨rest,false⟩:=by
 unfold membersP at h
 obtain ⟨y,h1,h2⟩:=Option.bind_eq_some_iff.1 h
 obtain ⟨z,h3,h4⟩:=Option.bind_eq_some_iff.1 h2
 obtain ⟨us,l',a1,a2,a3,_,a5⟩:=zk8 says_member 64 l h0 hm (Nat.le_refl _) y z h3
 refine ⟨sg 123::(us++[sg 125]),l',?_,zbq (NT.sign (by decide)) (zdd a2 (zdk (NT.sign (by decide)))),a3,fun rest=>?_⟩
 · rw [List.map_cons,ct_sg,zc4,h1,List.map_append]
   show layP (us.map ct++[[125]]) y=_
   rw [zas,a1]
   exact h4
 · show (zd7 Go.Proofs.YtodfklpmbclgkaaGreatDoor.memberP 64 ⟨us++[sg 125]++rest,false⟩).bind (fun l s=>(s.want [125]).bind fun _ s=>.ok l s)=_
   rw [List.append_assoc,a5 _ rfl]
   rfl
end Go.Proofs.YtodfklpmbclgkaaGreatDoor.Pr
