import Derived.Test.YtodfklpmbclgkaaGreatDoorBack19
import Derived.Test.YtodfklpmbclgkaaGreatDoorBack18
namespace Go.Proofs.YtodfklpmbclgkaaGreatDoor.Pr
open Go.Lib
/-- what may stand behind a declaration -/
def Open (rest:List Tok):Prop:=(⟨rest,false⟩:PS).sees [91]=false∧(⟨rest,false⟩:PS).sees [60]=false
/-- the first word of a type -/
def Typed (us:List Tok):Prop:=Lets us∧∃ u r,us=u::r∧u.text≠zcn∧u.text≠zef∧u.text≠zed
def Body (us:List Tok):Prop:=∃ u r,us=u::r∧(u.text=zcj∨u.text=za6∨u.text=zcm)
theorem znz {us:List Tok} (h:Body us) (hN:∀ u∈us,NT u):Typed us:=by
 obtain ⟨u,r,rfl,hu⟩:=h
 have hk:u.kind=2:=by
  have:=hN u (by simp)
  cases this with
  | word _=>rfl
  | name hn =>
   have hn2:=(zea hn).2
   rcases hu with h|h|h <;> · have h:_=_:=h;simp only at h;subst h;exact absurd hn2 (by decide)
  | num _ _ =>
   rename_i m _ _
   have:=zjj m
   unfold NumT at this
   rcases hu with h|h|h <;> · have h:itoa m=_:=h;rw [h] at this;exact absurd this (by decide)
  | sign _=>rcases hu with h|h|h <;> · have h2:=congrArg List.length h;simp [zcj,za6,zcm] at h2
 rcases hu with h|h|h
 · exact ⟨⟨u,r,rfl,by rw [h];decide,Or.inr hk⟩,u,r,rfl,by rw [h];decide,by rw [h];decide,by rw [h];decide⟩
 · exact ⟨⟨u,r,rfl,by rw [h];decide,Or.inr hk⟩,u,r,rfl,by rw [h];decide,by rw [h];decide,by rw [h];decide⟩
 · exact ⟨⟨u,r,rfl,by rw [h];decide,Or.inr hk⟩,u,r,rfl,by rw [h];decide,by rw [h];decide,by rw [h];decide⟩
theorem bare_kind {t:ITree} {txt x:List UInt8} (h:zcg t txt=some x):t.kind≠25∧t.kind≠26:=by
 unfold zcg bareP at h
 split at h
 · next hk=>rw [hk];decide
 · have loop:∀ l:List (Int × Bool × List UInt8),(∀ b∈l,b.1≠25∧b.1≠26)->zd6 l t.kind t.name t.num t.kids.length txt=some x->t.kind≠25∧t.kind≠26:=by
    intro l
    induction l with
    | nil=>intro _ h;cases h
    | cons b l ih =>
     intro hl h
     rw [zd6] at h
     split at h
     · next hk=>rw [<- hk];exact hl b (by simp)
     · exact ih (fun c hc=>hl c (by simp [hc])) h
   exact loop zau (by decide) h
theorem zjv {B:PS->Ans Tree} {bo:ITree->List UInt8->Option (List UInt8)} (hB:Says B bo Any Body):Says (zce B) (zaq bo) Any Typed:=by
 intro t txt x h
 unfold zaq at h
 split at h
 · obtain ⟨us,t',a1,a2,a3,a4,a5⟩:=hB t txt x h
   refine ⟨us,t',a1,a2,znz a3 a2,a4,fun rest _=>?_⟩
   obtain ⟨u,r,rfl,hu⟩:=a3
   unfold zce
   rw [if_pos]
   · exact a5 rest trivial
   · rw [List.cons_append,zcr,zcr,zcr]
     rcases hu with h|h|h <;> · rw [h];decide
 · obtain ⟨us,t',a1,a2,⟨b1,u,r,b2,b3,b4,b5,b6,b7,b8⟩,a4,a5⟩:=zlb t txt x h
   refine ⟨us,t',a1,a2,⟨b1,u,r,b2,b3,b4,b5⟩,a4,fun rest _=>?_⟩
   unfold zce
   rw [zd1 b2 rest b6,zd1 b2 rest b7,zd1 b2 rest b8]
   exact a5 rest trivial
theorem written_kind {bo:ITree->List UInt8->Option (List UInt8)} {t:ITree} {txt x:List UInt8} (h:zaq bo t txt=some x):t.kind≠25∧t.kind≠26:=by
 unfold zaq at h
 split at h
 · omega
 · exact bare_kind h
/-- the beginning of a declaration that has a size: what it is of -/
theorem zn6 {B:PS->Ans Tree} {bo:ITree->List UInt8->Option (List UInt8)} (hB:Says B bo Any Body) {t:ITree} {txt x:List UInt8} (h:ofP (zaq bo) t txt=some x) :
 ∃ us t',layP (us.map ct) txt=some x∧(∀ u∈us,NT u)∧Lets us∧MT t' t∧∀ n rest,Lx.isNameP n=true->zbf B ⟨us++(nm n::rest),false⟩=Go.Proofs.YtodfklpmbclgkaaGreatDoor.sizedP t.kind t' ⟨nm n::rest,false⟩:=by
 unfold ofP at h
 split at h
 · next hk =>
   obtain ⟨h1,h2⟩:=zet (t:=t) (w:=zef) h
   rw [hk] at h2 ⊢
   exact ⟨[kw zef],_,h1,zdk (NT.word (by decide)),⟨kw zef,[],rfl,by decide,Or.inr rfl⟩,h2,fun n rest _=>rfl⟩
 · split at h
   · next hk =>
     obtain ⟨h1,h2⟩:=zet (t:=t) (w:=zed) h
     rw [hk] at h2 ⊢
     exact ⟨[kw zed],_,h1,zdk (NT.word (by decide)),⟨kw zed,[],rfl,by decide,Or.inr rfl⟩,h2,fun n rest _=>rfl⟩
   · obtain ⟨us,t',a1,a2,⟨b1,u,r,b2,b3,b4,b5⟩,a4,a5⟩:=zjv hB t txt x h
     refine ⟨us,t',a1,a2,b1,a4,fun n rest hn=>?_⟩
     unfold zbf
     rw [zd1 b2 _ b4,zd1 b2 _ b5,if_neg (by decide),if_neg (by decide),a5 _ trivial]
     show (if (⟨nm n::rest,false⟩:PS).sees [42]=true then _ else Go.Proofs.YtodfklpmbclgkaaGreatDoor.sizedP t'.kind t' ⟨nm n::rest,false⟩)=_
     rw [show (⟨nm n::rest,false⟩:PS).sees [42]=false from by
      rw [zcr,beq_eq_false_iff_ne]
      show n≠[42]
      rintro rfl
      exact absurd (zea hn).1 (by decide),if_neg (by decide),mt_kind a4]
theorem says_decl {B:PS->Ans Tree} {bo:ITree->List UInt8->Option (List UInt8)} (hB:Says B bo Any Body) {t:ITree} {txt x:List UInt8} (hk13:t.kind≠13) (h:zcs (zaq bo) t txt=some x) :
 ∃ us t',layP (us.map ct) txt=some x∧(∀ u∈us,NT u)∧Lets us∧MT t' t∧∀ rest,Open rest->zbf B ⟨us++rest,false⟩=.ok t' ⟨rest,false⟩:=by
 obtain ⟨k,n,m,a,ks⟩:=t
 unfold zcs at h
 rw [if_neg hk13] at h
 have notsign:∀ (c:UInt8) (rest:List Tok),Lx.isNameP n=true->letB c=false->(⟨nm n::rest,false⟩:PS).sees [c]=false:=by
  intro c rest hn hc
  rw [zcr,beq_eq_false_iff_ne]
  show n≠[c]
  rintro rfl
  have:=(zea hn).1
  rw [show ([c]:List UInt8).getD 0 0=c from rfl,hc] at this
  cases this
 split at h
 · next hk =>
   have hk:k=14:=hk
   subst hk
   rw [zku rfl rfl] at h
   split at h
   · next hc =>
     rw [Bool.and_eq_true] at hc
     obtain ⟨h0,h1,h2⟩:=zcq hc.2
     subst h2
     have hl:ks.length=1:=Nat.le_antisymm h1 h0
     match ks,hl with
     | [v],_ =>
      have hn:=zd2 hc.1
      obtain ⟨y,g1,g2⟩:=Option.bind_eq_some_iff.1 h
      have hvk:=written_kind (t:=v) g1
      have hof:ofP (zaq bo) v txt=some y:=by unfold ofP;rw [if_neg hvk.1,if_neg hvk.2];exact g1
      obtain ⟨us,v',a1,a2,a3,a4,a5⟩:=zn6 hB hof
      refine ⟨us++[nm n],.node 14 n 0 0 [v'],?_,zdd a2 (zdk (NT.name hn)),?_,zds (zg9 a4),fun rest hr=>?_⟩
      · rw [List.map_append,zas,a1];exact g2
      · obtain ⟨u,r,rfl,b1,b2⟩:=a3;exact ⟨u,r++[nm n],rfl,b1,b2⟩
      · rw [List.append_assoc]
        show zbf B ⟨us++(nm n::rest),false⟩=_
        rw [a5 n rest hn]
        show (if ((⟨rest,false⟩:PS).sees [91]&&v.kind != 26)=true then _ else if (⟨rest,false⟩:PS).sees [60]=true then _ else if (v.kind==25||v.kind==26)=true then _ else (.ok (named 14 (nm n) [v']) ⟨rest,false⟩:Ans Tree))=_
        rw [hr.1,hr.2,if_neg (by simp),if_neg (by decide),if_neg (by simp [hvk.1,hvk.2])]
        rfl
   · cases h
 · split at h
   · next hk =>
     have hk:k=17:=hk
     subst hk
     rw [zkv rfl rfl] at h
     split at h
     · next hc =>
       rw [Bool.and_eq_true] at hc
       obtain ⟨h0,h1,h2⟩:=zcq hc.2
       subst h2
       have hl:ks.length=1:=Nat.le_antisymm h1 h0
       match ks,hl with
       | [v],_ =>
        have hn:=zd2 hc.1
        obtain ⟨y,g1,g2⟩:=Option.bind_eq_some_iff.1 h
        obtain ⟨us,v',a1,a2,⟨b1,u,r,b2,b3,b4,b5⟩,a4,a5⟩:=zjv hB v txt y g1
        refine ⟨us++[sg 42,nm n],.node 17 n 0 0 [v'],?_,zdd a2 (zbq (NT.sign (by decide)) (zdk (NT.name hn))),?_,zds (zg9 a4),fun rest hr=>?_⟩
        · rw [List.map_append,zas,a1];exact g2
        · obtain ⟨u,r,rfl,b1,b2⟩:=b1;exact ⟨u,r++[sg 42,nm n],rfl,b1,b2⟩
        · rw [List.append_assoc]
          unfold zbf
          rw [zd1 b2 _ b4,zd1 b2 _ b5,if_neg (by decide),if_neg (by decide),a5 _ trivial]
          rfl
     · cases h
   · split at h
     · next hk =>
       have hk:k=15:=hk
       subst hk
       rw [zkz rfl rfl] at h
       split at h
       · next hc =>
         rw [Bool.and_eq_true] at hc
         obtain ⟨h0,h1,h2⟩:=zcq hc.2
         subst h2
         have hl:ks.length=2:=Nat.le_antisymm h1 h0
         match ks,hl with
         | [v,z],_ =>
          have hn:=zd2 hc.1
          split at h
          · cases h
          · next h26 =>
            have h26:v.kind≠26:=h26
            obtain ⟨y,g1,h⟩:=Option.bind_eq_some_iff.1 h
            obtain ⟨y2,g2,h⟩:=Option.bind_eq_some_iff.1 h
            obtain ⟨y3,g3,g4⟩:=Option.bind_eq_some_iff.1 h
            obtain ⟨y4,g5,g6⟩:=Option.bind_eq_some_iff.1 (show (zat z y2).bind (rowP zat [])=some y3 from g3)
            cases g6
            obtain ⟨us,v',a1,a2,a3,a4,a5⟩:=zn6 hB g1
            obtain ⟨vs,z',b1,b2,_,b4,b5⟩:=zk6 z y2 y3 g5
            refine ⟨us++(nm n::sg 91::(vs++[sg 93])),.node 15 n 0 0 [v',z'],?_,zdd a2 (zbq (NT.name hn) (zbq (NT.sign (by decide)) (zdd b2 (zdk (NT.sign (by decide)))))),?_,zds (zel a4 (zg9 b4)),fun rest hr=>?_⟩
            · rw [List.map_append,zas,a1,List.map_cons,List.map_cons,ct_nm,ct_sg,List.map_append]
              show layP (n::[91]::(vs.map ct++[[93]])) y=_
              rw [zc9 n [91],show layP [n,[91]] y=some y2 from g2]
              show layP (vs.map ct++[[93]]) y2=_
              rw [zas,b1]
              exact g4
            · obtain ⟨u,r,rfl,c1,c2⟩:=a3;exact ⟨u,_,rfl,c1,c2⟩
            · rw [List.append_assoc]
              show zbf B ⟨us++(nm n::(sg 91::(vs++[sg 93])++rest)),false⟩=_
              rw [a5 n _ hn]
              show (if (true&&v.kind != 26)=true then ((Go.Proofs.YtodfklpmbclgkaaGreatDoor.valueP ⟨vs++[sg 93]++rest,false⟩).bind fun v s=>(s.want [93]).bind fun _ s=>.ok (named 15 (nm n) [v',v]) s) else _)=_
              rw [if_pos (by simp [h26]),List.append_assoc,b5 _ trivial]
              rfl
       · cases h
     · split at h
       · next hk =>
         have hk:k=16:=hk
         subst hk
         rw [zlo rfl rfl] at h
         split at h
         · next hc =>
           rw [Bool.and_eq_true] at hc
           obtain ⟨h0,h1,h2⟩:=zcq hc.2
           subst h2
           have hn:=zd2 hc.1
           match ks,h0,h1 with
           | [v],_,_ =>
            obtain ⟨y,g1,h⟩:=Option.bind_eq_some_iff.1 h
            obtain ⟨y2,g2,h⟩:=Option.bind_eq_some_iff.1 h
            obtain ⟨y3,g3,g4⟩:=Option.bind_eq_some_iff.1 h
            cases g3
            obtain ⟨us,v',a1,a2,a3,a4,a5⟩:=zn6 hB g1
            refine ⟨us++[nm n,sg 60,sg 62],.node 16 n 0 0 [v'],?_,zdd a2 (zbq (NT.name hn) (zbq (NT.sign (by decide)) (zdk (NT.sign (by decide))))),?_,zds (zg9 a4),fun rest hr=>?_⟩
            · rw [List.map_append,zas,a1]
              show layP (n::[60]::[[62]]) y=_
              rw [zc9 n [60] [[62]],show layP [n,[60]] y=some y2 from g2]
              exact g4
            · obtain ⟨u,r,rfl,c1,c2⟩:=a3;exact ⟨u,_,rfl,c1,c2⟩
            · rw [List.append_assoc]
              show zbf B ⟨us++(nm n::(sg 60::sg 62::rest)),false⟩=_
              rw [a5 n _ hn]
              rfl
           | [v,z],_,_ =>
            obtain ⟨y,g1,h⟩:=Option.bind_eq_some_iff.1 h
            obtain ⟨y2,g2,h⟩:=Option.bind_eq_some_iff.1 h
            obtain ⟨y3,g3,g4⟩:=Option.bind_eq_some_iff.1 h
            obtain ⟨y4,g5,g6⟩:=Option.bind_eq_some_iff.1 (show (zat z y2).bind (rowP zat [])=some y3 from g3)
            cases g6
            obtain ⟨us,v',a1,a2,a3,a4,a5⟩:=zn6 hB g1
            obtain ⟨vs,z',b1,b2,⟨vu,vr,b3,b3'⟩,b4,b5⟩:=zk6 z y2 y3 g5
            refine ⟨us++(nm n::sg 60::(vs++[sg 62])),.node 16 n 0 0 [v',z'],?_,zdd a2 (zbq (NT.name hn) (zbq (NT.sign (by decide)) (zdd b2 (zdk (NT.sign (by decide)))))),?_,zds (zel a4 (zg9 b4)),fun rest hr=>?_⟩
            · rw [List.map_append,zas,a1,List.map_cons,List.map_cons,ct_nm,ct_sg,List.map_append]
              show layP (n::[60]::(vs.map ct++[[62]])) y=_
              rw [zc9 n [60],show layP [n,[60]] y=some y2 from g2]
              show layP (vs.map ct++[[62]]) y2=_
              rw [zas,b1]
              exact g4
            · obtain ⟨u,r,rfl,c1,c2⟩:=a3;exact ⟨u,_,rfl,c1,c2⟩
            · rw [List.append_assoc]
              show zbf B ⟨us++(nm n::(sg 60::(vs++[sg 62])++rest)),false⟩=_
              rw [a5 n _ hn]
              show (if (⟨vs++[sg 62]++rest,false⟩:PS).sees [62]=true then _ else ((Go.Proofs.YtodfklpmbclgkaaGreatDoor.valueP ⟨vs++[sg 62]++rest,false⟩).bind fun v s=>(s.want [62]).bind fun _ s=>.ok (named 16 (nm n) [v',v]) s))=_
              rw [List.append_assoc,zd1 b3 _ b3',if_neg (by decide),b5 _ trivial]
              rfl
         · cases h
       · cases h
theorem zg8 {B:PS->Ans Tree} {bo:ITree->List UInt8->Option (List UInt8)} (hB:Says B bo Any Body):Says (za3 B) (zcs (zaq bo)) Open Lets:=by
 intro t txt x h
 by_cases hk:t.kind=13
 · unfold zcs at h
   rw [if_pos hk] at h
   obtain ⟨h1,h2⟩:=zet (t:=t) (w:=zcn) h
   rw [hk] at h2
   exact ⟨[kw zcn],_,h1,zdk (NT.word (by decide)),⟨kw zcn,[],rfl,by decide,Or.inr rfl⟩,h2,fun rest _=>rfl⟩
 · obtain ⟨us,t',a1,a2,a3,a4,a5⟩:=says_decl hB hk h
   refine ⟨us,t',a1,a2,a3,a4,fun rest hr=>?_⟩
   have hs:(⟨us++rest,false⟩:PS).sees zcn=false:=by
    cases hs:(⟨us++rest,false⟩:PS).sees zcn with
    | false=>rfl
    | true =>
     exfalso
     have h5:=a5 rest hr
     unfold zbf at h5
     have hd:(⟨us++rest,false⟩:PS).hd.text=zcn:=by simpa [PS.sees] using hs
     have hno:∀ w,w≠zcn->(⟨us++rest,false⟩:PS).sees w=false:=fun w hw=>by
      show ((⟨us++rest,false⟩:PS).hd.text==w)=false
      rw [hd,beq_eq_false_iff_ne]
      exact fun e=>hw e.symm
     rw [hno zef (by decide),hno zed (by decide),if_neg (by decide),if_neg (by decide)] at h5
     obtain ⟨of,s1,h6,_⟩:=zai h5
     unfold zce at h6
     rw [hno zcj (by decide),hno za6 (by decide),hno zcm (by decide),if_neg (by decide)] at h6
     unfold Go.Proofs.YtodfklpmbclgkaaGreatDoor.bareP at h6
     have hkind:(⟨us++rest,false⟩:PS).hd.kind≠1:=by
      obtain ⟨u,r,rfl,_,_⟩:=a3
      have hnt:=a2 u (by simp)
      have hd:u.text=zcn:=hd
      show u.kind≠1
      intro e
      cases hnt with
      | name hn =>
       have hd:_=zcn:=hd
       simp only at hd
       subst hd
       exact absurd (zea hn).2 (by decide)
      | word _=>exact absurd (show (2:Int)=1 from e) (by decide)
      | num _ _=>exact absurd (show (3:Int)=1 from e) (by decide)
      | sign _=>exact absurd (show (4:Int)=1 from e) (by decide)
     rw [if_neg hkind] at h6
     dsimp only at h6
     rw [hno za4 (by decide),if_neg (by decide)] at h6
     obtain ⟨_,s2,h7,h8⟩:=zai h6
     cases h7
     have hf:(zau.find? fun b=>b.2.1==false&&(⟨us++rest,false⟩:PS).sees b.2.2)=none:=by
      rw [List.find?_eq_none]
      intro b hb
      have:∀ b∈zau,b.2.2≠zcn:=by decide
      rw [hno b.2.2 (this b hb)]
      simp
     rw [hf] at h8
     cases h8
   unfold za3
   rw [hs,if_neg (by decide)]
   exact a5 rest hr
theorem zjc {B:PS->Ans Tree} {bo:ITree->List UInt8->Option (List UInt8)} (hB:Says B bo Any Body):Says (zbi B) (zcu (zcs (zaq bo))) Any Lets:=by
 intro t txt x h
 unfold zcu at h
 obtain ⟨y,h1,h2⟩:=Option.bind_eq_some_iff.1 h
 obtain ⟨us,t',a1,a2,a3,a4,a5⟩:=zg8 hB t txt y h1
 refine ⟨us++[sg 59],t',?_,zdd a2 (zdk (NT.sign (by decide))),?_,a4,fun rest _=>?_⟩
 · rw [List.map_append,zas,a1];exact h2
 · obtain ⟨u,r,rfl,c1,c2⟩:=a3;exact ⟨u,_,rfl,c1,c2⟩
 · unfold zbi
   rw [List.append_assoc,a5 _ ⟨rfl,rfl⟩]
   rfl
theorem znp {us:List Tok} (h:Lets us) (rest:List Tok):([[125]]:List (List UInt8)).any (fun w=>(⟨us++rest,false⟩:PS).sees w)=false:=by
 rw [List.any_cons,List.any_nil,lets_sees h rest (by decide)]
 rfl
theorem says_fields {B:PS->Ans Tree} {bo:ITree->List UInt8->Option (List UInt8)} (hB:Says B bo Any Body) (l:List ITree) (h0:1<=l.length) (hm:l.length<=64) (txt x:List UInt8) (h:fieldsP (zcu (zcs (zaq bo))) l txt=some x):∃ us l',layP (us.map ct) txt=some x∧(∀ u∈us,NT u)∧ML l' l∧∀ rest,Go.Proofs.YtodfklpmbclgkaaGreatDoor.fieldsP B ⟨us++rest,false⟩=.ok l' ⟨rest,false⟩:=by
 unfold fieldsP at h
 obtain ⟨y,h1,h2⟩:=Option.bind_eq_some_iff.1 h
 obtain ⟨z,h3,h4⟩:=Option.bind_eq_some_iff.1 h2
 obtain ⟨us,l',a1,a2,a3,a4⟩:=zir (zjc hB) [[125]] (fun us rest hD=>znp hD rest) l y z h3
 refine ⟨sg 123::(us++[sg 125]),l',?_,zbq (NT.sign (by decide)) (zdd a2 (zdk (NT.sign (by decide)))),a3,fun rest=>?_⟩
 · rw [List.map_cons,ct_sg,zc4,h1,List.map_append]
   show layP (us.map ct++[[125]]) y=_
   rw [zas,a1]
   exact h4
 · show (zck (zbi B) [[125]] 66 [] ⟨us++[sg 125]++rest,false⟩).bind (fun l s=>(s.want [125]).bind fun _ s=>.ok l s)=_
   rw [List.append_assoc,a4 _ rfl 66 [] (by omega) (by simp;omega) (by simp;omega)]
   rfl
theorem zm7:(l:List ITree)->∀ (txt x:List UInt8),rowP zg6 l txt=some x ->
 ∃ us l',layP (us.map ct) txt=some x∧(∀ u∈us,NT u)∧ML l' l∧(l≠[]->∃ r,us=kw zc1::r)∧∀ rest,(⟨rest,false⟩:PS).sees zc1=false->∀ (f:Nat) (acc:List Tree),l.length<f->acc.length+l.length<=64->1<=acc.length+l.length->zcc f acc ⟨us++rest,false⟩=.ok (acc++l') ⟨rest,false⟩
 | [],txt,x,h=>by
  refine ⟨[],[],h,by simp,zj1,fun h=>absurd rfl h,fun rest hr f acc hf _ h1=>?_⟩
  cases f with
  | zero=>exact absurd hf (Nat.not_lt_zero _)
  | succ f =>
   have hacc:acc.isEmpty=false:=by
    cases acc with
    | nil=>simp at h1
    | cons _ _=>rfl
   unfold zcc
   rw [List.nil_append,hacc,hr]
   simp
 | t::l,txt,x,h=>by
  obtain ⟨y,h1,h2⟩:=Option.bind_eq_some_iff.1 (show (zg6 t txt).bind (rowP zg6 l)=some x from h)
  unfold zg6 at h1
  obtain ⟨z,h3,h4⟩:=Option.bind_eq_some_iff.1 h1
  obtain ⟨z2,h5,h6⟩:=Option.bind_eq_some_iff.1 h4
  obtain ⟨us,t',a1,a2,_,a4,a5⟩:=zm6 t z z2 h5
  obtain ⟨us2,l',b1,b2,b3,_,b5⟩:=zm7 l y x h2
  refine ⟨kw zc1::(us++(sg 58::us2)),t'::l',?_,zbq (NT.word (by decide)) (zdd a2 (zbq (NT.sign (by decide)) b2)),zel a4 b3,fun _=>⟨_,rfl⟩,fun rest hr f acc hf hm _=>?_⟩
  · rw [List.map_cons,ct_kw,zc4,show layP [zc1] txt=some z from h3,List.map_append]
    show layP (us.map ct++(sg 58::us2).map ct) z=_
    rw [zas,a1]
    show layP ([58]::us2.map ct) z2=_
    rw [zc4,h6]
    exact b1
  · cases f with
    | zero=>exact absurd hf (Nat.not_lt_zero _)
    | succ f =>
     unfold zcc
     rw [List.cons_append,zcr,if_pos (by simp [kw]),zgx (by simp at hm;omega),want_ok (show (kw zc1).text=zc1 from rfl)]
     show (Go.Proofs.YtodfklpmbclgkaaGreatDoor.valueP ⟨us++(sg 58::us2)++rest,false⟩).bind (fun v s=>(s.want [58]).bind fun _ s=>zcc f (acc++[v]) s)=_
     rw [List.append_assoc,a5 _ trivial]
     show zcc f (acc++[t']) ⟨us2++rest,false⟩=_
     rw [b5 rest hr f (acc++[t']) (by simp at hf;omega) (by simp at hm ⊢;omega) (by simp;omega)]
     simp
/-- an arm's first word -/
def Case (us:List Tok):Prop:=∃ r,us=kw zc1::r
theorem says_arm {B:PS->Ans Tree} {bo:ITree->List UInt8->Option (List UInt8)} (hB:Says B bo Any Body):Says (Go.Proofs.YtodfklpmbclgkaaGreatDoor.armP B) (armP (zcu (zcs (zaq bo)))) Any Case:=by
 intro t txt x h
 obtain ⟨k,n,m,a,ks⟩:=t
 unfold armP at h
 split at h
 · next hk =>
   have hk:k=8:=hk
   subst hk
   split at h
   · next hc =>
     rw [Bool.and_eq_true] at hc
     obtain ⟨h0,h1,h2⟩:=zcq hc.2
     have hn:n=[]:=zgl hc.1
     have h2:m=0:=h2
     subst h2
     subst hn
     have h0:2<=ks.length:=h0
     have h1:ks.length<=65:=h1
     obtain ⟨l,z,hz⟩:∃ l z,ks=l++[z]:=⟨ks.dropLast,ks.getLast (by rintro rfl;simp at h0),(List.dropLast_concat_getLast _).symm⟩
     subst hz
     have hlen:(l++[z]).length - 1=l.length:=by simp
     have h:(rowP zg6 ((l++[z]).take ((l++[z]).length - 1)) txt).bind (zcu (zcs (zaq bo)) ((l++[z]).getD ((l++[z]).length - 1) zby))=some x:=h
     rw [hlen,List.take_left,show (l++[z]).getD l.length zby=z by simp] at h
     obtain ⟨y,g1,g2⟩:=Option.bind_eq_some_iff.1 h
     have hl1:1<=l.length:=by simp at h0;omega
     have hl2:l.length<=64:=by simp at h1;omega
     obtain ⟨us,l',a1,a2,a3,a4,a5⟩:=zm7 l txt y g1
     obtain ⟨vs,z',b1,b2,b3,b4,b5⟩:=zjc hB z y x g2
     obtain ⟨r,hr⟩:=a4 (by rintro rfl;simp at hl1)
     refine ⟨us++vs,.node 8 [] 0 0 (l'++[z']),?_,zdd a2 b2,⟨r++vs,by rw [hr];rfl⟩,zds (ml_app a3 (zg9 b4)),fun rest _=>?_⟩
     · rw [List.map_append,zas,a1];exact b1
     · have hcase:(⟨vs++rest,false⟩:PS).sees zc1=false:=by
        cases hs:(⟨vs++rest,false⟩:PS).sees zc1 with
        | false=>rfl
        | true =>
         exfalso
         have h5:=b5 rest trivial
         obtain ⟨d,s1,h6,_⟩:=zai h5
         have hd:(⟨vs++rest,false⟩:PS).hd.text=zc1:=by simpa [PS.sees] using hs
         have hno:∀ w,w≠zc1->(⟨vs++rest,false⟩:PS).sees w=false:=fun w hw=>by
          show ((⟨vs++rest,false⟩:PS).hd.text==w)=false
          rw [hd,beq_eq_false_iff_ne]
          exact fun e=>hw e.symm
         unfold za3 at h6
         rw [hno zcn (by decide),if_neg (by decide)] at h6
         unfold zbf at h6
         rw [hno zef (by decide),hno zed (by decide),if_neg (by decide),if_neg (by decide)] at h6
         obtain ⟨of,s2,h7,_⟩:=zai h6
         unfold zce at h7
         rw [hno zcj (by decide),hno za6 (by decide),hno zcm (by decide),if_neg (by decide)] at h7
         unfold Go.Proofs.YtodfklpmbclgkaaGreatDoor.bareP at h7
         have hkind:(⟨vs++rest,false⟩:PS).hd.kind≠1:=by
          obtain ⟨u,r,rfl,_,_⟩:=b3
          have hnt:=b2 u (by simp)
          have hd:u.text=zc1:=hd
          show u.kind≠1
          intro e
          cases hnt with
          | name hn =>
           have hd:_=zc1:=hd
           simp only at hd
           subst hd
           exact absurd (zea hn).2 (by decide)
          | word _=>exact absurd (show (2:Int)=1 from e) (by decide)
          | num _ _=>exact absurd (show (3:Int)=1 from e) (by decide)
          | sign _=>exact absurd (show (4:Int)=1 from e) (by decide)
         rw [if_neg hkind] at h7
         dsimp only at h7
         rw [hno za4 (by decide),if_neg (by decide)] at h7
         obtain ⟨_,s3,h8,h9⟩:=zai h7
         cases h8
         have hf:(zau.find? fun b=>b.2.1==false&&(⟨vs++rest,false⟩:PS).sees b.2.2)=none:=by
          rw [List.find?_eq_none]
          intro b hb
          have:∀ b∈zau,b.2.2≠zc1:=by decide
          rw [hno b.2.2 (this b hb)]
          simp
         rw [hf] at h9
         cases h9
       unfold Go.Proofs.YtodfklpmbclgkaaGreatDoor.armP
       dsimp only
       rw [List.append_assoc,a5 _ hcase 66 [] (by omega) (by simp;omega) (by simp;omega)]
       show (zbi B ⟨vs++rest,false⟩).bind (fun t s=>(.ok (Tree.node 8 [] 0 (⟨us++(vs++rest),false⟩:PS).hd.at_ ([]++l'++[t])) s:Ans Tree))=_
       rw [b5 rest trivial,hr]
       rfl
   · cases h
 · cases h
theorem says_choice {B:PS->Ans Tree} {bo:ITree->List UInt8->Option (List UInt8)} (hB:Says B bo Any Body) (l:List ITree) (h0:2<=l.length) (hm:l.length<=66) (txt x:List UInt8) (h:choiceP (zcs (zaq bo)) (armP (zcu (zcs (zaq bo)))) (zcu (zcs (zaq bo))) l txt=some x):∃ us l',layP (us.map ct) txt=some x∧(∀ u∈us,NT u)∧ML l' l∧∀ rest,Go.Proofs.YtodfklpmbclgkaaGreatDoor.choiceP B ⟨us++rest,false⟩=.ok l' ⟨rest,false⟩:=by
 match l,h0 with
 | d::l,h0 =>
  unfold choiceP at h
  obtain ⟨y1,g1,h⟩:=Option.bind_eq_some_iff.1 h
  obtain ⟨y2,g2,h⟩:=Option.bind_eq_some_iff.1 h
  obtain ⟨y3,g3,h⟩:=Option.bind_eq_some_iff.1 h
  have g2:zcs (zaq bo) d y1=some y2:=g2
  obtain ⟨us,d',a1,a2,_,a4,a5⟩:=zg8 hB d y1 y2 g2
  have hends:∀ us rest,Case us->([za9,[125]]:List (List UInt8)).any (fun w=>(⟨us++rest,false⟩:PS).sees w)=false:=by
   rintro us rest ⟨r,rfl⟩
   rfl
  have front:∀ (rs:List Tok) (l' : List Tree),layP (rs.map ct) y3=some x->(∀ u∈rs,NT u)->ML l' (d::l) ->
   (∀ rest,(zck (Go.Proofs.YtodfklpmbclgkaaGreatDoor.armP B) [za9,[125]] 66 [] ⟨rs++rest,false⟩).bind (fun l s=>if s.sees za9 then (Go.Proofs.YtodfklpmbclgkaaGreatDoor.aloneP 9 s).bind fun e s=>(s.want [58]).bind fun _ s=>(zbi B s).bind fun t s=>(s.want [125]).bind fun _ s=>match e with|.node k n m i _=>(.ok (d'::l++[.node k n m i [t]]) s:Ans (List Tree)) else (s.want [125]).bind fun _ s=>.ok (d'::l) s)=.ok l' ⟨rest,false⟩) ->
   ∃ us l',layP (us.map ct) txt=some x∧(∀ u∈us,NT u)∧ML l' (d::l)∧∀ rest,Go.Proofs.YtodfklpmbclgkaaGreatDoor.choiceP B ⟨us++rest,false⟩=.ok l' ⟨rest,false⟩:=by
   intro rs l' h1 h2 h3 h4
   refine ⟨kw zfd::sg 40::(us++(sg 41::sg 123::rs)),l',?_,zbq (NT.word (by decide)) (zbq (NT.sign (by decide)) (zdd a2 (zbq (NT.sign (by decide)) (zbq (NT.sign (by decide)) h2)))),h3,fun rest=>?_⟩
   · rw [List.map_cons,List.map_cons,ct_kw,ct_sg,List.map_append,zc9 zfd [40],show layP [zfd,[40]] txt=some y1 from g1]
     show layP (us.map ct++(sg 41::sg 123::rs).map ct) y1=_
     rw [zas,a1]
     show layP ([41]::[123]::rs.map ct) y2=_
     rw [zc9 [41] [123],g3]
     exact h1
   · show (za3 B ⟨us++(sg 41::sg 123::rs)++rest,false⟩).bind _=_
     rw [List.append_assoc,a5 _ ⟨rfl,rfl⟩]
     exact h4 rest
  unfold zm1 at h
  have hl1:1<=l.length:=by simp at h0;omega
  have hlen:(d::l).length - 1=l.length:=by simp
  have hlen2:(d::l).length - 2=l.length - 1:=by simp
  rw [hlen,hlen2] at h
  obtain ⟨li,z,hz⟩:∃ li z,l=li++[z]:=⟨l.dropLast,l.getLast (by rintro rfl;simp at hl1),(List.dropLast_concat_getLast _).symm⟩
  subst hz
  have hzl:(d::(li++[z])).getD (li++[z]).length zby=z:=by
   rw [List.length_append,show [z].length=1 from rfl,List.getD_cons_succ];simp
  rw [hzl] at h
  split at h
  · next hk9 =>
    split at h
    · next hcnt =>
      have hli:(li++[z]).length - 1=li.length:=by simp
      rw [hli] at h hcnt
      rw [show ((d::(li++[z])).drop 1).take li.length=li by rw [List.drop_one,List.tail_cons,List.take_left]] at h
      obtain ⟨y4,k1,k2⟩:=Option.bind_eq_some_iff.1 h
      obtain ⟨vs,li',b1,b2,b3,b4⟩:=zir (says_arm hB) [za9,[125]] hends li y3 y4 k1
      obtain ⟨kz,nz,mz,az,kz2⟩:=z
      have hk9:kz=9:=hk9
      subst hk9
      rw [zol rfl rfl] at k2
      split at k2
      · next hc =>
        rw [Bool.and_eq_true] at hc
        obtain ⟨e0,e1,e2⟩:=zcq hc.2
        have hnz:=zgl hc.1
        subst hnz
        subst e2
        have hkl:kz2.length=1:=Nat.le_antisymm e1 e0
        obtain ⟨v,rfl⟩:∃ v,kz2=[v]:=List.length_eq_one_iff.1 hkl
        obtain ⟨y5,m1,k2⟩:=Option.bind_eq_some_iff.1 k2
        obtain ⟨y6,m2,m3⟩:=Option.bind_eq_some_iff.1 k2
        obtain ⟨ws,v',c1,c2,_,c4,c5⟩:=zjc hB v y5 y6 m2
        refine front (vs++(kw za9::sg 58::(ws++[sg 125]))) (d'::li'++[.node 9 [] 0 0 [v']]) ?_ ?_ ?_ ?_
        · rw [List.map_append,zas,b1]
          show layP (za9::[58]::((ws++[sg 125]).map ct)) y4=_
          rw [zc9 za9 [58],show layP [za9,[58]] y4=some y5 from m1,List.map_append]
          show layP (ws.map ct++[[125]]) y5=_
          rw [zas,c1]
          exact m3
        · exact zdd b2 (zbq (NT.word (by decide)) (zbq (NT.sign (by decide)) (zdd c2 (zdk (NT.sign (by decide))))))
        · exact zel a4 (ml_app b3 (zg9 (zds (zg9 c4))))
        · intro rest
          rw [List.append_assoc,b4 _ rfl 66 [] (by omega) (by simp;omega) (by simp;omega)]
          show (zbi B ⟨ws++[sg 125]++rest,false⟩).bind _=_
          rw [List.append_assoc,c5 _ trivial]
          rfl
      · cases k2
    · cases h
  · split at h
    · next hcnt =>
      rw [List.drop_one,List.tail_cons] at h
      obtain ⟨y4,k1,k2⟩:=Option.bind_eq_some_iff.1 h
      obtain ⟨vs,l',b1,b2,b3,b4⟩:=zir (says_arm hB) [za9,[125]] hends (li++[z]) y3 y4 k1
      refine front (vs++[sg 125]) (d'::l') ?_ (zdd b2 (zdk (NT.sign (by decide)))) (zel a4 b3) ?_
      · rw [List.map_append,zas,b1];exact k2
      · intro rest
        rw [List.append_assoc,b4 _ rfl 66 [] (by omega) (by simp at hcnt ⊢;omega) (by simp)]
        rfl
    · cases h
theorem body_says {d:Nat} (ih:Says (zbz d false) (zgq d false) Any Body) (b:Bool):Says (zbz (d+1) b) (zgq (d+1) b) Any Body:=by
 intro t txt x h
 obtain ⟨k,n,m,a,ks⟩:=t
 rw [zgq] at h
 have front:∀ (w:List UInt8) (hw:w=zcj∨w=za6∨w=zcm) (least most:Nat) (z:List UInt8),zfy w b least most n m ks.length txt=some z->m=0∧least<=ks.length∧ks.length<=most∧∃ hs:List Tok,(∀ u∈hs,NT u)∧layP ((kw w::hs).map ct) txt=some z∧((b=true∧hs=[nm n])∨(b=false∧hs=[]∧n=[])):=by
  intro w hw least most z hz
  unfold zfy at hz
  split at hz
  · next hc =>
    rw [Bool.and_eq_true] at hc
    obtain ⟨h0,h1,h2⟩:=zcq hc.2
    refine ⟨h2,h0,h1,?_⟩
    obtain ⟨y,g1,g2⟩:=Option.bind_eq_some_iff.1 hz
    cases b with
    | true =>
     rw [if_pos rfl] at g2
     refine ⟨[nm n],zdk (NT.name (zd2 hc.1)),?_,Or.inl ⟨rfl,rfl⟩⟩
     show layP [w,n] txt=some z
     rw [zc4,g1];exact g2
    | false =>
     rw [if_neg (by decide)] at g2
     cases g2
     exact ⟨[],by simp,g1,Or.inr ⟨rfl,rfl,zgl hc.1⟩⟩
  · cases hz
 have fin:∀ (w:List UInt8) (hw:w=zcj∨w=za6∨w=zcm) (hs us:List Tok) (z:List UInt8) (l' : List Tree) (k' : Int),k=k'->m=0->(∀ u∈hs,NT u)->layP ((kw w::hs).map ct) txt=some z->((b=true∧hs=[nm n])∨(b=false∧hs=[]∧n=[]))->layP (us.map ct) z=some x->(∀ u∈us,NT u)->ML l' ks ->
  (∀ rest (na:List UInt8 × Nat),(if w=zcj then (Go.Proofs.YtodfklpmbclgkaaGreatDoor.membersP ⟨us++rest,false⟩).bind fun l s=>.ok (.node 4 na.1 0 na.2 l) s else if w=za6 then (Go.Proofs.YtodfklpmbclgkaaGreatDoor.fieldsP (zbz d false) ⟨us++rest,false⟩).bind fun l s=>.ok (.node 6 na.1 0 na.2 l) s else (Go.Proofs.YtodfklpmbclgkaaGreatDoor.choiceP (zbz d false) ⟨us++rest,false⟩).bind fun l s=>(.ok (.node 7 na.1 0 na.2 l) s:Ans Tree))=.ok (.node k' na.1 0 na.2 l') ⟨rest,false⟩) ->
  ∃ us t',layP (us.map ct) txt=some x∧(∀ u∈us,NT u)∧Body us∧MT t' (.node k n m a ks)∧∀ rest,Any rest->zbz (d+1) b ⟨us++rest,false⟩=.ok t' ⟨rest,false⟩:=by
  intro w hw hs us z l' k' hk hm h1 h2 h3 h4 h5 h6 h7
  subst hk
  subst hm
  have hn64:n.length<=64:=by
   rcases h3 with ⟨_,h3⟩|⟨_,_,h3⟩
   · have:=h1 (nm n) (by rw [h3];simp)
     generalize hu:nm n=u at this
     cases this with
     | name hn=>cases hu;exact name_len hn
     | word _=>cases hu
     | num _ _=>cases hu
     | sign _=>cases hu
   · rw [h3];decide
  refine ⟨kw w::(hs++us),.node k n 0 0 l',?_,zbq (NT.word (by rcases hw with rfl|rfl|rfl <;> decide)) (zdd h1 h5),⟨kw w,_,rfl,hw⟩,zds h6 hn64,fun rest _=>?_⟩
  · rw [show kw w::(hs++us)=(kw w::hs)++us from rfl,List.map_append,zas,h2];exact h4
  · unfold zbz
    rw [List.cons_append,take_ok]
    rcases h3 with ⟨rfl,rfl⟩|⟨rfl,rfl,rfl⟩
    · have:=h7 rest (n,0)
      exact this
    · have:=h7 rest ([],0)
      exact this
 unfold zfg at h
 split at h
 · next hk =>
   obtain ⟨z,g1,g2⟩:=Option.bind_eq_some_iff.1 h
   obtain ⟨hm,h0,h1,hs,e1,e2,e3⟩:=front zcj (Or.inl rfl) 1 64 z g1
   obtain ⟨us,l',a1,a2,a3,a4⟩:=says_members ks h0 h1 z x g2
   exact fin zcj (Or.inl rfl) hs us z l' 4 hk hm e1 e2 e3 a1 a2 a3 (fun rest na=>by rw [if_pos rfl,a4];rfl)
 · split at h
   · next hk =>
     obtain ⟨z,g1,g2⟩:=Option.bind_eq_some_iff.1 h
     obtain ⟨hm,h0,h1,hs,e1,e2,e3⟩:=front za6 (Or.inr (Or.inl rfl)) 1 64 z g1
     obtain ⟨us,l',a1,a2,a3,a4⟩:=says_fields ih ks h0 h1 z x g2
     exact fin za6 (Or.inr (Or.inl rfl)) hs us z l' 6 hk hm e1 e2 e3 a1 a2 a3 (fun rest na=>by rw [if_neg (by decide),if_pos rfl,a4];rfl)
   · split at h
     · next hk =>
       obtain ⟨z,g1,g2⟩:=Option.bind_eq_some_iff.1 h
       obtain ⟨hm,h0,h1,hs,e1,e2,e3⟩:=front zcm (Or.inr (Or.inr rfl)) 2 66 z g1
       obtain ⟨us,l',a1,a2,a3,a4⟩:=says_choice ih ks h0 h1 z x g2
       exact fin zcm (Or.inr (Or.inr rfl)) hs us z l' 7 hk hm e1 e2 e3 a1 a2 a3 (fun rest na=>by rw [if_neg (by decide),if_neg (by decide),a4];rfl)
     · cases h
theorem zla:(n:Nat)->(b:Bool)->Says (zbz n b) (zgq n b) Any Body
 | 0,_=>fun t txt x h=>by cases h
 | n+1,b=>body_says (zla n false) b
theorem zmq (l:List ITree) (h0:1<=l.length) (hm:l.length<=4) (txt x:List UInt8) (h:zh5 l txt=some x):∃ us l',layP (us.map ct) txt=some x∧(∀ u∈us,NT u)∧ML l' l∧∀ rest,(⟨rest,false⟩:PS).sees [44]=false->Go.Proofs.YtodfklpmbclgkaaGreatDoor.argumentsP ⟨us++rest,false⟩=.ok l' ⟨rest,false⟩:=by
 have viaSep:sepP zcg false l txt=some x->∃ us l',layP (us.map ct) txt=some x∧(∀ u∈us,NT u)∧ML l' l∧∀ rest,(⟨rest,false⟩:PS).sees [44]=false->Go.Proofs.YtodfklpmbclgkaaGreatDoor.argumentsP ⟨us++rest,false⟩=.ok l' ⟨rest,false⟩:=by
  intro h
  obtain ⟨us,l',a1,a2,a3,⟨us1,us2,e1,_,u,r,e2,e3,_⟩,a5⟩:=zk8 zlb 4 l h0 hm (by decide) txt x h
  refine ⟨us,l',a1,a2,a3,fun rest hr=>?_⟩
  unfold Go.Proofs.YtodfklpmbclgkaaGreatDoor.argumentsP
  rw [zd1 (show us=u::(r++us2) by rw [e1,e2];rfl) rest e3]
  exact a5 rest hr
 unfold zh5 at h
 split at h
 · next h1 =>
   obtain ⟨t,rfl⟩:∃ t,l=[t]:=List.length_eq_one_iff.1 h1
   have h:zcl t txt=some x:=h
   by_cases hk:t.kind=13
   · unfold zcl resultP at h
     rw [if_pos hk] at h
     obtain ⟨g1,g2⟩:=zet (t:=t) (w:=zcn) h
     rw [hk] at g2
     exact ⟨[kw zcn],[.node 13 [] 0 0 []],g1,zdk (NT.word (by decide)),zg9 g2,fun rest _=>rfl⟩
   · unfold zcl resultP at h
     rw [if_neg hk] at h
     refine viaSep ?_
     rw [ziq,h]
     rfl
 · exact viaSep h
theorem zmp:Says zcf zkd Any Lets:=by
 intro t txt x h
 obtain ⟨k,n,m,a,ks⟩:=t
 unfold zkd at h
 split at h
 · next hk =>
   have hk:k=12:=hk
   subst hk
   split at h
   · next hc =>
     rw [Bool.and_eq_true] at hc
     obtain ⟨h0,h1,h2⟩:=zcq hc.2
     have hn:=zd2 hc.1
     have h2:m=0:=h2
     subst h2
     match ks,h0,h1 with
     | v::r::l,h0,h1 =>
      have hl0:1<=l.length:=by have h0:3<=(v::r::l).length:=h0;simp at h0;omega
      have hl1:l.length<=4:=by have h1:(v::r::l).length<=6:=h1;simp at h1;omega
      obtain ⟨y1,g1,h⟩:=Option.bind_eq_some_iff.1 h
      obtain ⟨y2,g2,h⟩:=Option.bind_eq_some_iff.1 h
      obtain ⟨y3,g3,h⟩:=Option.bind_eq_some_iff.1 h
      obtain ⟨y4,g4,h⟩:=Option.bind_eq_some_iff.1 h
      obtain ⟨y5,g5,g6⟩:=Option.bind_eq_some_iff.1 h
      obtain ⟨us,r',a1,a2,a3,a4,a5⟩:=says_result r txt y1 g1
      obtain ⟨vs,l',b1,b2,b3,b4⟩:=zmq l hl0 hl1 y2 y3 g3
      obtain ⟨ws,v',c1,c2,_,c4,c5⟩:=zjw v y4 y5 g5
      refine ⟨us++(nm n::sg 40::(vs++(sg 41::sg 61::(ws++[sg 59])))),.node 12 n 0 0 (v'::r'::l'),?_,zdd a2 (zbq (NT.name hn) (zbq (NT.sign (by decide)) (zdd b2 (zbq (NT.sign (by decide)) (zbq (NT.sign (by decide)) (zdd c2 (zdk (NT.sign (by decide))))))))),?_,zds (zel c4 (zel a4 b3)),fun rest _=>?_⟩
      · rw [List.map_append,zas,a1]
        show layP (n::[40]::((vs++(sg 41::sg 61::(ws++[sg 59]))).map ct)) y1=_
        rw [zc9 n [40],show layP [n,[40]] y1=some y2 from g2,List.map_append]
        show layP (vs.map ct++([41]::[61]::(ws++[sg 59]).map ct)) y2=_
        rw [zas,b1]
        show layP ([41]::[61]::(ws++[sg 59]).map ct) y3=_
        rw [zc9 [41] [61],g4,List.map_append]
        show layP (ws.map ct++[[59]]) y4=_
        rw [zas,c1]
        exact g6
      · obtain ⟨u,q,rfl,c1,c2⟩:=a3;exact ⟨u,_,rfl,c1,c2⟩
      · unfold zcf
        rw [List.append_assoc,a5 _ trivial]
        show (Go.Proofs.YtodfklpmbclgkaaGreatDoor.argumentsP ⟨vs++(sg 41::sg 61::(ws++[sg 59]))++rest,false⟩).bind _=_
        rw [List.append_assoc,b4 _ rfl]
        show (zbv ⟨ws++[sg 59]++rest,false⟩).bind _=_
        rw [List.append_assoc,c5 _ trivial]
        rfl
     | [v],h0,_=>exact absurd (show 3<=1 from h0) (by decide)
     | [],h0,_=>exact absurd (show 3<=0 from h0) (by decide)
   · cases h
 · cases h
theorem zis (k:Int) (w:List UInt8) (hw:zcb w=true) {F:PS->Ans Tree} {pr:ITree->List UInt8->Option (List UInt8)} (hF:Says F pr Any Lets) {t:ITree} {txt x:List UInt8} (hk:t.kind=k) (h:numberedP w pr t txt=some x) :
 ∃ us t',layP (us.map ct) txt=some x∧(∀ u∈us,NT u)∧(∃ r,us=kw w::r)∧MT t' t∧∀ rest,Go.Proofs.YtodfklpmbclgkaaGreatDoor.numberedP k F ⟨us++rest,false⟩=.ok t' ⟨rest,false⟩:=by
 obtain ⟨k',n,m,a,ks⟩:=t
 have hk:k'=k:=hk
 subst hk
 unfold numberedP at h
 split at h
 · next hc =>
   rw [Bool.and_eq_true] at hc
   obtain ⟨h0,h1,h2⟩:=zcq hc.2
   have hn:=zd2 hc.1
   have h2:m=0:=h2
   subst h2
   match ks,h0,h1 with
   | v::l,h0,h1 =>
    have hl0:1<=l.length:=by have h0:2<=(v::l).length:=h0;simp at h0;omega
    have hl1:l.length<=64:=by have h1:(v::l).length<=65:=h1;simp at h1;omega
    obtain ⟨y1,g1,h⟩:=Option.bind_eq_some_iff.1 h
    obtain ⟨y2,g2,h⟩:=Option.bind_eq_some_iff.1 h
    obtain ⟨y3,g3,g4⟩:=Option.bind_eq_some_iff.1 h
    obtain ⟨vs,l',b1,b2,b3,b4⟩:=zir hF [[125]] (fun us rest hD=>znp hD rest) l y1 y2 g2
    obtain ⟨ws,v',c1,c2,_,c4,c5⟩:=zjw v y3 x g4
    refine ⟨kw w::nm n::sg 123::(vs++(sg 125::sg 61::ws)),.node k' n 0 0 (v'::l'),?_,zbq (NT.word hw) (zbq (NT.name hn) (zbq (NT.sign (by decide)) (zdd b2 (zbq (NT.sign (by decide)) (zbq (NT.sign (by decide)) c2))))),⟨_,rfl⟩,zds (zel c4 b3),fun rest=>?_⟩
    · show layP ([w,n,[123]]++((vs++(sg 125::sg 61::ws)).map ct)) txt=_
      rw [zas,show layP [w,n,[123]] txt=some y1 from g1,List.map_append]
      show layP (vs.map ct++([125]::[61]::ws.map ct)) y1=_
      rw [zas,b1]
      show layP ([125]::[61]::ws.map ct) y2=_
      rw [zc9 [125] [61],g3]
      exact c1
    · show (zck F [[125]] 66 [] ⟨vs++(sg 125::sg 61::ws)++rest,false⟩).bind _=_
      rw [List.append_assoc,b4 _ rfl 66 [] (by omega) (by simp;omega) (by simp;omega)]
      show (zbv ⟨ws++rest,false⟩).bind _=_
      rw [c5 _ trivial]
      rfl
   | [],h0,_=>exact absurd (show 2<=0 from h0) (by decide)
 · cases h
theorem says_version:Says Go.Proofs.YtodfklpmbclgkaaGreatDoor.versionP versionP Any Lets:=by
 intro t txt x h
 unfold versionP at h
 split at h
 · next hk =>
   obtain ⟨y,g1,g2⟩:=Option.bind_eq_some_iff.1 h
   obtain ⟨us,t',a1,a2,⟨r,hr⟩,a4,a5⟩:=zis 11 zd4 (by decide) zmp hk g1
   subst hr
   refine ⟨kw zd4::r++[sg 59],t',?_,zdd a2 (zdk (NT.sign (by decide))),⟨kw zd4,_,rfl,by decide,Or.inr rfl⟩,a4,fun rest _=>?_⟩
   · rw [List.map_append,zas,a1];exact g2
   · unfold Go.Proofs.YtodfklpmbclgkaaGreatDoor.versionP
     rw [if_pos (by rfl),List.append_assoc,a5]
     rfl
 · cases h
theorem zk9:Says zbn defT Open Lets:=by
 intro t txt x h
 obtain ⟨k,n,m,a,ks⟩:=t
 unfold defT defP at h
 split at h
 · next hk =>
   have hk:k=2:=hk
   subst hk
   rw [zk1 rfl rfl] at h
   split at h
   · next hc =>
     rw [Bool.and_eq_true] at hc
     obtain ⟨h0,h1,h2⟩:=zcq hc.2
     have hn:=zd2 hc.1
     subst h2
     obtain ⟨v,rfl⟩:∃ v,ks=[v]:=List.length_eq_one_iff.1 (Nat.le_antisymm h1 h0)
     obtain ⟨y,g1,g2⟩:=Option.bind_eq_some_iff.1 h
     obtain ⟨mm,v',b1,b2,b3,_,b4⟩:=zgv (-2147483648) (Or.inr rfl) (t:=v) g2
     refine ⟨[kw zdz,nm n,sg 61,nu mm],.node 2 n 0 0 [v'],?_,zbq (NT.word (by decide)) (zbq (NT.name hn) (zbq (NT.sign (by decide)) (zdk (NT.num b2.2.1 b2.2.2)))),⟨kw zdz,_,rfl,by decide,Or.inr rfl⟩,zds (zg9 b3),fun rest _=>?_⟩
     · show layP ([zdz,n,[61]]++[itoa mm]) txt=_
       rw [zas,show layP [zdz,n,[61]] txt=some y from g1]
       exact b1
     · unfold zbn
       rw [if_pos (show (⟨[kw zdz,nm n,sg 61,nu mm]++rest,false⟩:PS).sees zdz=true from rfl)]
       show (Go.Proofs.YtodfklpmbclgkaaGreatDoor.numberP ⟨nu mm::rest,false⟩).bind (fun v s=>(.ok (named 2 (nm n) [v]) s:Ans Tree))=_
       rw [b4]
       rfl
   · cases h
 · split at h
   · next hk =>
     have hk:k=3:=hk
     subst hk
     rw [zhr rfl rfl] at h
     split at h
     · next hc =>
       rw [Bool.and_eq_true] at hc
       obtain ⟨h0,h1,h2⟩:=zcq hc.2
       have hn:=zgl hc.1
       subst h2
       subst hn
       obtain ⟨v,rfl⟩:∃ v,ks=[v]:=List.length_eq_one_iff.1 (Nat.le_antisymm h1 h0)
       split at h
       · cases h
       · next h13 =>
         have h13:v.kind≠13:=h13
         obtain ⟨y,g1,g2⟩:=Option.bind_eq_some_iff.1 h
         obtain ⟨us,v',b1,b2,b3,b4,b5⟩:=says_decl (zla 8 false) h13 (show zcs (zaq (zgq 8 false)) v y=some x from g2)
         refine ⟨kw zd5::us,.node 3 [] 0 0 [v'],?_,zbq (NT.word (by decide)) b2,⟨kw zd5,_,rfl,by decide,Or.inr rfl⟩,zds (zg9 b4),fun rest hr=>?_⟩
         · rw [List.map_cons,ct_kw,zc4,show layP [zd5] txt=some y from g1];exact b1
         · show (zbf (zbz 8 false) ⟨us++rest,false⟩).bind _=_
           rw [b5 rest hr]
           rfl
     · cases h
   · split at h
     · next hk =>
       obtain ⟨us,t',a1,a2,⟨r,hr⟩,a4,a5⟩:=zis 10 zee (by decide) says_version (t:=.node k n m a ks) hk h
       subst hr
       exact ⟨kw zee::r,t',a1,a2,⟨kw zee,_,rfl,by decide,Or.inr rfl⟩,a4,fun rest _=>a5 rest⟩
     · obtain ⟨us,t',a1,a2,a3,a4,a5⟩:=zla 8 true _ txt x h
       have ht:=(znz a3 a2).1
       refine ⟨us,t',a1,a2,ht,a4,fun rest _=>?_⟩
       obtain ⟨u,r,rfl,hu⟩:=a3
       unfold zbn
       have e1:(⟨u::r++rest,false⟩:PS).sees zdz=false:=by rw [List.cons_append,zcr];rcases hu with h|h|h <;> · rw [h];decide
       have e2:(⟨u::r++rest,false⟩:PS).sees zd5=false:=by rw [List.cons_append,zcr];rcases hu with h|h|h <;> · rw [h];decide
       have e3:((⟨u::r++rest,false⟩:PS).sees zcj||(⟨u::r++rest,false⟩:PS).sees za6||(⟨u::r++rest,false⟩:PS).sees zcm)=true:=by rw [List.cons_append,zcr,zcr,zcr];rcases hu with h|h|h <;> · rw [h];decide
       rw [e1,e2,e3,if_neg (by decide),if_neg (by decide),if_pos rfl]
       exact a5 rest trivial
theorem zk7 (E:Tok) (hE:E.kind=5):(l:List ITree)->∀ (txt x:List UInt8),zg5 defT l txt=some x ->
 ∃ us l',layP (us.map ct) txt=some x∧(∀ u∈us,NT u)∧ML l' l∧∀ (f:Nat) (acc:List Tree),l.length<f->acc.length+l.length<=100->zbb f acc ⟨us++[E],false⟩=.ok (acc++l') ⟨[E],false⟩
 | [],txt,x,h=>by
  refine ⟨[],[],h,by simp,zj1,fun f acc hf _=>?_⟩
  cases f with
  | zero=>exact absurd hf (Nat.not_lt_zero _)
  | succ f =>
   unfold zbb
   rw [List.nil_append,if_pos (show (⟨[E],false⟩:PS).hd.kind=5 from hE)]
   simp
 | t::l,txt,x,h=>by
  obtain ⟨y,h1,h2⟩:=Option.bind_eq_some_iff.1 (show ((defT t txt).bind (layP [[59]])).bind (zg5 defT l)=some x from h)
  obtain ⟨z,h3,h4⟩:=Option.bind_eq_some_iff.1 h1
  obtain ⟨us,t',a1,a2,⟨u,r,hu,_,hk⟩,a4,a5⟩:=zk9 t txt z h3
  obtain ⟨us2,l',b1,b2,b3,b4⟩:=zk7 E hE l y x h2
  refine ⟨us++(sg 59::us2),t'::l',?_,zdd a2 (zbq (NT.sign (by decide)) b2),zel a4 b3,fun f acc hf hm=>?_⟩
  · rw [List.map_append,zas,a1]
    show layP ([59]::us2.map ct) z=_
    rw [zc4,h4]
    exact b1
  · cases f with
    | zero=>exact absurd hf (Nat.not_lt_zero _)
    | succ f =>
     unfold zbb
     have hkind:¬ (⟨us++(sg 59::us2)++[E],false⟩:PS).hd.kind=5:=by
      rw [hu]
      show ¬ u.kind=5
      omega
     rw [if_neg hkind,zgx (by simp at hm;omega),List.append_assoc,a5 _ ⟨rfl,rfl⟩]
     show zbb f (acc++[t']) ⟨us2++[E],false⟩=_
     rw [b4 f (acc++[t']) (by simp at hf;omega) (by simp at hm ⊢;omega)]
     simp
theorem words_len2:∀ w∈zii,w.length<=32∧0<w.length∧w.all runB=true:=by decide +kernel
theorem zof {w:List UInt8} (h:w≠[]):w.getLastD 0∈w:=by
 rw [List.getLastD_eq_getLast?,List.getLast?_eq_some_getLast h]
 exact List.getLast_mem h
/-- the token that is made of a word -/
def lexT (u:Tok) (i:Nat):Tok:=if u.kind=3 then ⟨3,[],u.num,i⟩ else ⟨u.kind,u.text,0,i⟩
theorem lexT_rel {u:Tok} (hu:NT u) (i:Nat):RelT (lexT u i) u:=by
 cases hu with
 | word _=>exact ⟨rfl,rfl,fun _=>rfl,fun h=>absurd (show (2:Int)=3 from h) (by decide)⟩
 | name _=>exact ⟨rfl,rfl,fun _=>rfl,fun h=>absurd (show (1:Int)=3 from h) (by decide)⟩
 | num _ _=>exact ⟨rfl,rfl,fun h=>absurd rfl h,fun _=>⟨Or.inl rfl,zjj _⟩⟩
 | sign _=>exact ⟨rfl,rfl,fun _=>rfl,fun h=>absurd (show (4:Int)=3 from h) (by decide)⟩
/-- one token -/
theorem tok_step {u:Tok} (hu:NT u) (a r:List UInt8) (hr:runB ((ct u).getLastD 0)=true->runB (r.getD 0 0)=false):ct u≠[]∧zcd (a++(ct u++r)) a.length=.go (some (lexT u a.length)) (a.length+(ct u).length):=by
 cases hu with
 | word hw =>
  rename_i w
  have hm:w∈zii:=by unfold zcb at hw;simpa using hw
  obtain ⟨h1,h2,h3⟩:=words_len2 w hm
  have hne:w≠[]:=by rintro rfl;simp at h2
  rw [List.all_eq_true] at h3
  have hs:=step_name (a:=a) (word_let w hm) h3 h1 h2 (hr (h3 _ (zof hne)))
  rw [hw] at hs
  exact ⟨hne,hs⟩
 | name hn =>
  rename_i n
  have h:=hn
  unfold Lx.isNameP at h
  simp only [Bool.and_eq_true,decide_eq_true_eq,List.all_eq_true,Bool.not_eq_true'] at h
  obtain ⟨h1,h2,h3,h4,h5⟩:=h
  have hne:n≠[]:=by rintro rfl;simp at h1
  have hs:=step_name (a:=a) h3 h4 h2 h1 (hr (h4 _ (zof hne)))
  rw [h5] at hs
  exact ⟨hne,hs⟩
 | num hm0 hm1 =>
  rename_i m
  have hct:ct ⟨3,itoa m,m,0⟩=itoa m:=rfl
  have hlx:lexT ⟨3,itoa m,m,0⟩ a.length=⟨3,[],m,a.length⟩:=rfl
  rw [hlx]
  rw [hct] at hr ⊢
  refine ⟨zls m,?_⟩
  by_cases hneg:m<0
  · have he:itoa m=45::zb5 10 m.natAbs:=by unfold itoa;rw [if_pos hneg,zjq]
    rw [he] at hr ⊢
    obtain ⟨f1,f2,⟨d,f3,f4,f5⟩,f6⟩:=zde (base:=10) (by decide) (by decide) 2147483648 m.natAbs
    have hrun:=znw (base:=10) (n:=m.natAbs) (by decide) (by decide)
    have hlast:runB ((45::zb5 10 m.natAbs).getLastD 0)=true:=by
     have hne:zb5 10 m.natAbs≠[]:=by intro e;rw [e] at f6;simp at f6
     rw [List.getLastD_cons,List.getLastD_eq_getLast?,List.getLast?_eq_some_getLast hne]
     obtain ⟨d,h1,h2⟩:=f2 _ (List.getLast_mem hne)
     show runB ((zb5 10 m.natAbs).getLast hne)=true
     rw [h2];exact dc_run (by omega)
    have hn:=numP_minus (n:=m.natAbs) (by omega) (by omega)
    rw [show (-((m.natAbs:Nat):Int))=m by omega] at hn
    have h45:(45::zb5 10 m.natAbs).getD 0 0=45:=rfl
    refine step_num hn ⟨by rw [h45];decide,by rw [h45];decide,by rw [h45];decide⟩ 1 (by simp;omega) (by rfl) ?_ ?_ (hr hlast)
    · show digB ((zb5 10 m.natAbs).getD 0 0)=true
      rw [f4];exact dc_dig f3
    · intro j hj1 hj2
      obtain ⟨i,rfl⟩:∃ i,j=i+1:=⟨j - 1,by omega⟩
      exact hrun i (by simpa using hj2)
  · have he:itoa m=zb5 10 m.toNat:=by unfold itoa;rw [if_neg hneg,zjq]
    rw [he] at hr ⊢
    obtain ⟨f1,f2,⟨d,f3,f4,f5⟩,f6⟩:=zde (base:=10) (by decide) (by decide) 4294967295 m.toNat
    have hrun:=znw (base:=10) (n:=m.toNat) (by decide) (by decide)
    have hlast:runB ((zb5 10 m.toNat).getLastD 0)=true:=by
     have hne:zb5 10 m.toNat≠[]:=by intro e;rw [e] at f6;simp at f6
     obtain ⟨d,h1,h2⟩:=f2 _ (zof hne)
     rw [h2];exact dc_run (by omega)
    have hn:=numP_10 (n:=m.toNat) (by omega)
    rw [show ((m.toNat:Nat):Int)=m by omega] at hn
    exact step_dig hn f6 (by rw [f4];exact dc_dig f3) hrun (hr hlast)
 | sign hc =>
  rename_i c
  exact ⟨by show [c]≠[];simp,step_sign hc⟩
theorem rell_snoc {l l' : List Tok} {t t' : Tok} (h:RelL l l') (k:RelT t t'):RelL (l++[t]) (l'++[t']):=by
 induction h with
 | nil=>exact RelL.cons k RelL.nil
 | cons h1 _ ih=>exact RelL.cons h1 ih
/-- what may stand behind a text -/
def Stop (txt r:List UInt8):Prop:=txt≠[]->runB (txt.getLastD 0)=true->runB (r.getD 0 0)=false
theorem last_app (a:List UInt8) {w:List UInt8} (h:w≠[]):(a++w).getLastD 0=w.getLastD 0:=by
 rw [List.getLastD_eq_getLast?,List.getLastD_eq_getLast?,List.getLast?_append,List.getLast?_eq_some_getLast h]
 rfl
theorem lex_laid:(us:List Tok)->∀ (txt x:List UInt8) (ts vs:List Tok),(∀ u∈us,NT u)->(∀ r,Stop txt r->Reach (txt++r) 0 [] txt.length ts)->RelL ts vs->layP (us.map ct) txt=some x ->
 ∃ ts',(∀ r,Stop x r->Reach (x++r) 0 [] x.length ts')∧RelL ts' (vs++us)
 | [],txt,x,ts,vs,_,hI,hv,h=>by
  cases h
  exact ⟨ts,hI,by rw [List.append_nil];exact hv⟩
 | u::us,txt,x,ts,vs,hN,hI,hv,h=>by
  rw [List.map_cons,zfx] at h
  split at h
  · have hu:NT u:=hN u (by simp)
    have hne:ct u≠[]:=(tok_step hu [] [] (fun _=>rfl)).1
    have hlt:0<(ct u).length:=List.length_pos_iff.2 hne
    have ht0:∀ (a r:List UInt8),Stop (a++ct u) r->zcd (a++(ct u++r)) a.length=.go (some (lexT u a.length)) (a.length+(ct u).length):=fun a r hs=>(tok_step hu a r (fun hl=>hs (by simp [hne]) (by rw [last_app a hne];exact hl))).2
    have key:∃ i,∀ r,Stop (oneP txt (ct u)) r->Reach (oneP txt (ct u)++r) 0 [] (oneP txt (ct u)).length (ts++[lexT u i]):=by
     unfold oneP
     by_cases hb:zfh txt (ct u)=true
     · rw [if_pos hb]
       refine ⟨(txt++[32]).length,fun r hr=>?_⟩
       have hs2:=ht0 (txt++[32]) r hr
       have hI2:=hI ([32]++(ct u++r)) (fun _ _=>rfl)
       have e:txt++[32]++ct u++r=txt++([32]++(ct u++r)):=by simp
       have e2:txt++([32]++(ct u++r))=(txt++[32])++(ct u++r):=by simp
       have el:txt.length+1=(txt++[32]).length:=by simp
       have hsb:zcd (txt++([32]++(ct u++r))) txt.length=.go none (txt.length+1):=zm5 (c:=32) (by decide)
       rw [el] at hsb
       rw [<- e2] at hs2
       rw [e]
       have hend:(txt++[32]++ct u).length=(txt++[32]).length+(ct u).length:=List.length_append
       rw [hend]
       have h1:Reach (txt++([32]++(ct u++r))) (txt++[32]).length ts ((txt++[32]).length+(ct u).length) (ts++[lexT u (txt++[32]).length]):=Reach.step (by simp;omega) hs2 Reach.refl
       have h2:Reach (txt++([32]++(ct u++r))) txt.length ts ((txt++[32]).length+(ct u).length) (ts++[lexT u (txt++[32]).length]):=by
        refine Reach.step (by simp) hsb ?_
        rw [Option.toList_none,List.append_nil]
        exact h1
       exact hI2.trans h2
     · rw [if_neg hb]
       refine ⟨txt.length,fun r hr=>?_⟩
       have hs2:=ht0 txt r hr
       have hfirst:(ct u++r).getD 0 0=(ct u).getD 0 0:=zi2 hlt
       have hI2:=hI (ct u++r) (fun h1 h2=>by
        rw [hfirst]
        cases hh:runB ((ct u).getD 0 0) with
        | false=>rfl
        | true =>
         exfalso
         apply hb
         unfold zfh
         rw [h2,hh]
         simp
         exact List.length_pos_iff.2 h1)
       rw [List.append_assoc]
       have hend:(txt++ct u).length=txt.length+(ct u).length:=by simp
       rw [hend]
       have h1:Reach (txt++(ct u++r)) txt.length ts (txt.length+(ct u).length) (ts++[lexT u txt.length]):=Reach.step (by simp;omega) hs2 Reach.refl
       exact hI2.trans h1
    obtain ⟨i,hreach⟩:=key
    obtain ⟨ts',h1,h2⟩:=lex_laid us (oneP txt (ct u)) x (ts++[lexT u i]) (vs++[u]) (fun v hv=>hN v (by simp [hv])) hreach (rell_snoc hv (lexT_rel hu i)) h
    exact ⟨ts',h1,by rw [List.append_assoc] at h2;exact h2⟩
  · cases h
/-- a text that was laid down, taken apart -/
theorem lex_text {us:List Tok} {x:List UInt8} (hN:∀ u∈us,NT u) (h:layP (us.map ct) []=some x):∃ ts,zc7 x=.ok (ts++[⟨5,[],0,x.length⟩])∧RelL ts us:=by
 obtain ⟨ts,h1,h2⟩:=lex_laid us [] x [] [] hN (fun r _=>Reach.refl) RelL.nil h
 have hl:x.length<=16000:=zkw _ _ _ (by simp) h
 have h3:=h1 [] (fun _ _=>rfl)
 rw [List.append_nil] at h3
 have h4:Scans x 0 [] (.ok (ts++[⟨5,[],0,x.length⟩])):=h3.scans (Scans.done (Nat.le_refl _))
 exact ⟨ts,(zc2 hl).det h4,h2⟩
theorem znj (base most:Nat):∀ (l:List UInt8) (n m:Nat),n<=most->zdh base most n l=some m->m<=most
 | [],n,m,hn,h=>by rw [zdh] at h;cases h;exact hn
 | c::l,n,m,_,h=>by
  rw [zdh] at h
  split at h
  · cases h
  · split at h
    · cases h
    · exact znj base most l _ m (by omega) h
theorem zjg {ds:List UInt8} {base most m:Nat} (h:zeo ds base most=some m):m<=most:=by
 unfold zeo at h
 split at h
 · cases h
 · exact znj base most ds 0 m (by omega) h
theorem numP_range {w:List UInt8} {n:Int} (h:numP w=some n):-2147483648<=n∧n<=4294967295:=by
 unfold numP at h
 split at h
 · obtain ⟨m,h1,h2⟩:=Option.map_eq_some_iff.1 h
   have:=zjg h1
   subst h2
   omega
 · split at h
   · cases h
   · obtain ⟨m,h1,h2⟩:=Option.map_eq_some_iff.1 h
     have:=zjg h1
     subst h2
     omega
theorem step_wf {l:List UInt8} {i j:Nat} {t:Tok} (hi:i<l.length) (hs:zcd l i=.go (some t) j):WF t:=by
 unfold zcd at hs
 split at hs
 · cases hs
 · split at hs
   · split at hs <;> cases hs
   · split at hs
     · next hl =>
       split at hs
       · cases hs
       · next h32 =>
         cases hs
         refine ⟨fun hk=>?_,fun hk=>?_⟩
         · have hle:=zeh (l:=l) (i:=i) (Nat.le_of_lt hi)
           have hgo:i<zbd l i:=by
            rw [zei (zg0 hl).2.2.2.2.2]
            have:=(zeh (l:=l) (i:=i+1) (by omega)).1
            omega
           have hlen:(sub l i (zbd l i)).length=zbd l i - i:=zfo hle.1 hle.2
           have hw:zcb (sub l i (zbd l i))=false:=by
            cases hw:zcb (sub l i (zbd l i)) with
            | false=>rfl
            | true=>rw [hw] at hk;exact absurd (show (2:Int)=1 from hk) (by decide)
           have hfirst:(sub l i (zbd l i)).getD 0 0=l.getD i 0:=by
            unfold sub
            rw [List.getD_eq_getElem?_getD,List.getD_eq_getElem?_getD,List.getElem?_take,if_pos (by omega),List.getElem?_drop,Nat.add_zero]
           have hall:(sub l i (zbd l i)).all runB=true:=by
            rw [List.all_eq_true]
            intro c hc
            unfold sub at hc
            obtain ⟨k,hk1,hk2⟩:=List.getElem_of_mem hc
            have hk3:k<zbd l i - i:=by rw [List.length_take,List.length_drop] at hk1;omega
            have:=znc (l:=l) (i:=i) (j:=i+k) (by omega) (by omega)
            rw [<- hk2,List.getElem_take,List.getElem_drop]
            rw [getD_lt (by omega)] at this
            exact this
           unfold Lx.isNameP
           rw [hlen,hfirst,hl,hall,hw]
           simp
           omega
         · exfalso
           have hk:(if zcb (sub l i (zbd l i))=true then (2:Int) else 1)=3:=hk
           split at hk <;> exact absurd hk (by decide)
     · split at hs
       · split at hs
         · cases hs
         · next n hn =>
           cases hs
           exact ⟨fun hk=>absurd (show (3:Int)=1 from hk) (by decide),fun _=>⟨numP_range hn,Or.inl rfl⟩⟩
       · split at hs
         · cases hs
           exact ⟨fun hk=>absurd (show (4:Int)=1 from hk) (by decide),fun hk=>absurd (show (4:Int)=3 from hk) (by decide)⟩
         · cases hs
theorem scans_wf {l:List UInt8} {i:Nat} {ts:List Tok} {R:Res} (h:Scans l i ts R):∀ vs,R=.ok vs->(∀ t∈ts,WF t)->∀ t∈vs,WF t:=by
 induction h with
 | done h =>
  intro vs hv ht t hm
  cases hv
  rcases List.mem_append.1 hm with h1|h1
  · exact ht t h1
  · rw [List.mem_singleton.1 h1]
    exact ⟨fun hk=>absurd (show (5:Int)=1 from hk) (by decide),fun hk=>absurd (show (5:Int)=3 from hk) (by decide)⟩
 | err h hs=>intro vs hv;cases hv
 | go h hs _ ih =>
  intro vs hv ht
  refine ih vs hv ?_
  intro t hm
  rcases List.mem_append.1 hm with h1|h1
  · exact ht t h1
  · rename_i t0 _ _ _
    cases t0 with
    | none=>simp at h1
    | some t1 =>
     simp at h1
     subst h1
     exact step_wf h hs
theorem scan_wf {l:List UInt8} {ts:List Tok} (h:zc7 l=.ok ts):∀ t∈ts,WF t:=by
 have hl:l.length<=16000:=by
  unfold zc7 at h
  split at h
  · cases h
  · omega
 have hs:=zc2 hl
 rw [h] at hs
 exact scans_wf hs ts rfl (by simp)
mutual
theorem zhh:(t:Tree)->(u:ITree)->zdw t.toI u=zdw t.zero.toI u
 | .node k n m a ks,.node k' n' m' a' ks'=>by
  rw [ze3,zbg,zbg,zdw,zdw,zb9,zb9,List.length_map,<- zih,zm8 ks ks']
theorem zm8:(l:List Tree)->(us:List ITree)->zct (toIs l) us=zct (toIs (zeros l)) us
 | [],us=>by rw [zeros]
 | t::l,[]=>by rw [zeros,toIs,toIs,zct,zct]
 | t::l,u::us=>by rw [zeros,toIs,toIs,zct,zct,zhh t u,zm8 l us]
end
mutual
theorem zlm:(t:Tree)->zdv t↔zdv t.zero
 | .node k n m a ks=>by rw [ze3,zdv,zdv,<- zih,oks_zero ks]
theorem oks_zero:(l:List Tree)->zd0 l↔zd0 (zeros l)
 | []=>by rw [zeros]
 | t::l=>by rw [zeros,zd0,zd0,zlm t,oks_zero l]
end
theorem mt_zero {t t' : Tree} {u:ITree} (h:MT t u) (hz:ZT t t'):MT t' u:=by
 unfold ZT at hz
 refine ⟨?_,?_⟩
 · rw [zhh,<- hz,<- zhh];exact h.1
 · rw [zlm,<- hz,<- zlm];exact h.2
theorem rell_end {ts us:List Tok} (h:RelL ts us) (i j:Nat):RelL (ts++[⟨5,[],0,i⟩]) (us++[⟨5,[],0,j⟩]):=rell_snoc h ⟨rfl,rfl,fun _=>rfl,fun h=>absurd (show (5:Int)=3 from h) (by decide)⟩
/-- sources with the same tokens are the same trees -/
theorem znl {l:List UInt8} {ts us:List Tok} {s' : PS} {ks:List Tree} (hs:zc7 l=.ok ts) (h:RelL us ts) (hk:zbb 102 [] ⟨us,false⟩=.ok ks s'):∃ ks',zch l=.ok (.node 1 [] 0 0 ks')∧ZL ks ks':=by
 have hr:=zne 102 [] [] zd9 ⟨us,false⟩ ⟨ts,false⟩ ⟨rfl,h⟩
 rw [hk] at hr
 cases hp:zbb 102 [] ⟨ts,false⟩ with
 | no e i=>rw [hp] at hr;cases hr
 | ok ks' s2 =>
  rw [hp] at hr
  cases hr with
  | ok h1 _ =>
   refine ⟨ks',?_,h1⟩
   unfold zch
   rw [hs]
   show (match zbb 102 [] ⟨ts,false⟩ with|.ok ks _=>PRes.ok (.node 1 [] 0 0 ks)|.no e i=>.err e i)=_
   rw [hp]
theorem rell_symm {a b:List Tok} (h:RelL a b):RelL b a:=by
 induction h with
 | nil=>exact RelL.nil
 | cons h _ ih=>exact RelL.cons ⟨h.kind.symm,h.num.symm,fun hk=>(h.text (by rw [h.kind];exact hk)).symm,fun hk=>(h.nums (by rw [h.kind];exact hk)).symm⟩ ih
/-- what is printed is taken as its tree -/
theorem back_one {t:ITree} {p:List UInt8} (h:zeg t=some p):∃ x,zch p=.ok x∧MT x t∧∃ ts us,zc7 p=.ok (ts++[⟨5,[],0,p.length⟩])∧RelL ts us∧layP (us.map ct) []=some p:=by
 obtain ⟨k,n,m,a,ks⟩:=t
 unfold zeg zdi at h
 split at h
 · next hc =>
   simp only [Bool.and_eq_true,beq_iff_eq] at hc
   obtain ⟨hk0,hn0,hz⟩:=hc
   have hk1:k=1:=hk0
   have hn1:n=[]:=zgl hn0
   obtain ⟨_,h1000,hm0⟩:=zcq hz
   have hm1:m=0:=hm0
   have h100:ks.length<=100:=h1000
   clear hk0 hn0 hz h1000 hm0
   subst hk1
   subst hn1
   subst hm1
   obtain ⟨us,l',a1,a2,a3,a4⟩:=zk7 ⟨5,[],0,0⟩ rfl ks [] p h
   obtain ⟨ts,b1,b2⟩:=lex_text a2 a1
   have hsrc:=a4 102 [] (by omega) (by simpa using h100)
   obtain ⟨ks',c1,c2⟩:=znl b1 (rell_end (rell_symm b2) 0 p.length) hsrc
   refine ⟨_,c1,?_,ts,us,b1,b2,a1⟩
   have hmt:MT (.node 1 [] 0 0 l') (.node 1 [] 0 a ks):=zds a3
   exact mt_zero hmt (zfc rfl rfl c2)
 · cases h
theorem reckP_lt (base most:Nat) (hb:1<=base):∀ (l:List UInt8) (n m:Nat),zdh base most n l=some m->m<(n+1)*base ^ l.length
 | [],n,m,h=>by rw [zdh] at h;cases h;simp
 | c::l,n,m,h=>by
  rw [zdh] at h
  split at h
  · cases h
  · next hd =>
    split at h
    · cases h
    · have:=reckP_lt base most hb l _ m h
      have h2:n*base+digV c+1<=(n+1)*base:=by rw [Nat.add_mul,Nat.one_mul];omega
      have h3:(n*base+digV c+1)*base ^ l.length<=(n+1)*base*base ^ l.length:=Nat.mul_le_mul_right _ h2
      rw [List.length_cons,Nat.pow_succ,Nat.mul_comm (base ^ l.length) base,<- Nat.mul_assoc]
      omega
theorem zkt {ds:List UInt8} {base most m:Nat} (hb:1<=base) (h:zeo ds base most=some m):m<base ^ ds.length∧ds≠[]:=by
 unfold zeo at h
 split at h
 · cases h
 · next hd =>
   have:=reckP_lt base most hb ds 0 m h
   simp only [Nat.zero_add,Nat.one_mul] at this
   exact ⟨this,hd⟩
theorem zno:(k m:Nat)->m<10 ^ (k+1)->nDigits m<=k+1
 | 0,m,h=>by rw [nDigits_small (by simpa using h)];omega
 | k+1,m,h=>by
  by_cases hm:m<10
  · rw [nDigits_small hm];omega
  · rw [nDigits_big hm]
    have:=zno k (m / 10) (by rw [Nat.pow_succ] at h;omega)
    omega
theorem zoo {m k:Nat} (hk:1<=k) (h:m<10 ^ k):(decDigits m).length<=k:=by
 rw [decDigits_length]
 obtain ⟨j,rfl⟩:∃ j,k=j+1:=⟨k - 1,by omega⟩
 exact zno j m h
/-- a number is written no longer than it was -/
theorem num_len {t:List UInt8} {n:Int} (h:numP t=some n):(itoa n).length<=t.length∧(t.getD 0 0=45->(itoa n).getD 0 0=45):=by
 unfold numP at h
 split at h
 · next h45 =>
   refine ⟨?_,fun e=>absurd e h45⟩
   obtain ⟨m,h1,h2⟩:=Option.map_eq_some_iff.1 h
   have h2:(m:Int)=n:=h2
   subst h2
   have he:itoa (m:Int)=decDigits m:=by unfold itoa;rw [if_neg (by omega)];simp
   rw [he]
   have hmost:=zjg h1
   unfold zdc at h1
   split at h1
   · obtain ⟨g1,g2⟩:=zkt (show 1<=10 by decide) h1
     exact zoo (List.length_pos_iff.2 g2) g1
   · split at h1
     · next hx =>
       obtain ⟨g1,g2⟩:=zkt (show 1<=16 by decide) h1
       have g1:m<16 ^ (t.drop 2).length:=g1
       rw [List.length_drop] at g1
       have hl:0<(t.drop 2).length:=List.length_pos_iff.2 g2
       rw [List.length_drop] at hl
       obtain ⟨k,hk⟩:∃ k,t.length=k+2:=⟨t.length - 2,by omega⟩
       rw [hk] at g1 ⊢
       rw [Nat.add_sub_cancel] at g1
       refine zoo (by omega) ?_
       by_cases hk8:8<=k
       · have h10:(10:Nat) ^ 10<=10 ^ (k+2):=Nat.pow_le_pow_right (by decide) (by omega)
         have:(4294967295:Nat)<10 ^ 10:=by decide
         omega
       · have:16 ^ k<=10 ^ (k+2):=by
          rcases (show k=0∨k=1∨k=2∨k=3∨k=4∨k=5∨k=6∨k=7 by omega) with rfl|rfl|rfl|rfl|rfl|rfl|rfl|rfl <;> decide
         omega
     · obtain ⟨g1,g2⟩:=zkt (show 1<=8 by decide) h1
       have g1:m<8 ^ t.length:=g1
       have:(8:Nat) ^ t.length<=10 ^ t.length:=Nat.pow_le_pow_left (by decide) _
       exact zoo (List.length_pos_iff.2 g2) (by omega)
 · next h45 =>
   split at h
   · cases h
   · next hf =>
     obtain ⟨m,h1,h2⟩:=Option.map_eq_some_iff.1 h
     have h2:(-(m:Int))=n:=h2
     subst h2
     have h45:t.getD 0 0=45:=by simpa using h45
     have hform:zdc (t.drop 1)=(t.drop 1,10):=by
      unfold zdc at hf ⊢
      split
      · rfl
      · next h48 =>
        rw [if_neg h48] at hf
        split at hf
        · exact absurd (show (16:Nat)≠10 by decide) hf
        · exact absurd (show (8:Nat)≠10 by decide) hf
     have hfirst:(t.drop 1).getD 0 0≠48:=by
      intro e
      unfold zdc at hf
      rw [if_neg (fun h=>h e)] at hf
      split at hf
      · exact absurd (show (16:Nat)≠10 by decide) hf
      · exact absurd (show (8:Nat)≠10 by decide) hf
     rw [hform] at h1
     obtain ⟨g1,g2⟩:=zkt (by decide) h1
     have hpos:0<m:=by
      rcases Nat.eq_zero_or_pos m with h0|h0
      · exfalso
        subst h0
        unfold zeo at h1
        rw [if_neg g2] at h1
        match hd:t.drop 1,g2 with
        | c::r,_ =>
         rw [hd] at h1 hfirst
         have h1:zdh 10 2147483648 0 (c::r)=some 0:=h1
         rw [zdh] at h1
         split at h1
         · cases h1
         · next hdv =>
           split at h1
           · cases h1
           · have hge:=reckP_ge 10 2147483648 (by decide) r _ 0 h1
             have hz:digV c=0:=by omega
             have hc:∀ c:UInt8,digV c=0->c=48:=fun c=>by
              have:=zdu (fun c=>decide (digV c=0->c=48)) (by decide +kernel) c
              exact of_decide_eq_true this
             exact hfirst (hc c hz)
      · exact h0
     have he:itoa (-(m:Int))=45::decDigits m:=by unfold itoa;rw [if_pos (by omega)];simp
     rw [he]
     refine ⟨?_,fun _=>rfl⟩
     have hlen:0<t.length:=by
      rcases Nat.eq_zero_or_pos t.length with h0|h0
      · rw [List.length_eq_zero_iff.1 h0] at h45;exact absurd h45 (by decide)
      · exact h0
     have:=zoo (k:=(t.drop 1).length) (List.length_pos_iff.2 g2) g1
     rw [List.length_drop] at this
     rw [List.length_cons]
     omega
structure StepOk (l:List UInt8) (i j:Nat) (t:Tok):Prop where
 len:(ct t).length<=j - i
 some:ct t≠[]
 first:runB ((ct t).getD 0 0)=true->runB (l.getD i 0)=true
 last:runB ((ct t).getLastD 0)=true->runB (l.getD j 0)=false
 kind:t.kind≠5
theorem step_ok {l:List UInt8} {i j:Nat} {t:Tok} (hi:i<l.length) (hs:zcd l i=.go (some t) j):StepOk l i j t:=by
 unfold zcd at hs
 split at hs
 · cases hs
 · split at hs
   · split at hs <;> cases hs
   · split at hs
     · next hl =>
       split at hs
       · cases hs
       · cases hs
         have hle:=zeh (l:=l) (i:=i) (Nat.le_of_lt hi)
         have hgo:i<zbd l i:=by
          rw [zei (zg0 hl).2.2.2.2.2]
          have:=(zeh (l:=l) (i:=i+1) (by omega)).1
          omega
         have hlen:(sub l i (zbd l i)).length=zbd l i - i:=zfo hle.1 hle.2
         have hct:ct ⟨if zcb (sub l i (zbd l i))=true then 2 else 1,sub l i (zbd l i),0,i⟩=sub l i (zbd l i):=by
          unfold ct
          rw [if_neg]
          show ¬ (if zcb (sub l i (zbd l i))=true then (2:Int) else 1)=3
          split <;> decide
         refine ⟨?_,?_,fun _=>(zg0 hl).2.2.2.2.2,fun _=>zfp (Nat.le_of_lt hi),?_⟩
         · rw [hct,hlen];exact Nat.le_refl _
         · rw [hct];intro e;rw [e] at hlen;simp at hlen;omega
         · show ¬ (if zcb (sub l i (zbd l i))=true then (2:Int) else 1)=5
           split <;> decide
     · split at hs
       · next hdig =>
         split at hs
         · cases hs
         · next n hn =>
           cases hs
           have hnum:zbj l i<=l.length:=by unfold zbj;split <;> omega
           have hni:i<=zbj l i:=by unfold zbj;split <;> omega
           have hle:=zeh (l:=l) (i:=zbj l i) hnum
           have hlen:(sub l i (zbd l (zbj l i))).length=zbd l (zbj l i) - i:=zfo (by omega) hle.2
           obtain ⟨h1,h2⟩:=num_len hn
           have hct:ct ⟨3,[],n,i⟩=itoa n:=rfl
           refine ⟨by rw [hct,<- hlen];exact h1,by rw [hct];exact zls n,?_,fun _=>zfp hnum,show (3:Int)≠5 by decide⟩
           rw [hct]
           intro hrun
           by_cases h45:l.getD i 0=45
           · exfalso
             have hfirst:(sub l i (zbd l (zbj l i))).getD 0 0=l.getD i 0:=by
              have hlt:0<zbd l (zbj l i) - i:=by
               have:zbj l i=i+1:=by unfold zbj;rw [if_pos h45]
               omega
              unfold sub
              rw [List.getD_eq_getElem?_getD,List.getD_eq_getElem?_getD,List.getElem?_take,if_pos hlt,List.getElem?_drop,Nat.add_zero]
             rw [h2 (hfirst.trans h45)] at hrun
             exact absurd hrun (by decide)
           · have:zbj l i=i:=by unfold zbj;rw [if_neg h45]
             rw [this] at hdig
             exact (zfz hdig).2.2.2.2.2
       · split at hs
         · next hsg =>
           cases hs
           have hsub:sub l i (i+1)=[l.getD i 0]:=by
            unfold sub
            rw [zem hi,Nat.add_sub_cancel_left]
            rfl
           have hct:ct ⟨4,sub l i (i+1),0,i⟩=[l.getD i 0]:=hsub
           refine ⟨by rw [hct];simp,by rw [hct];simp,fun h=>by rw [hct] at h;exact h,fun h=>?_,show (4:Int)≠5 by decide⟩
           rw [hct] at h
           have h:runB (l.getD i 0)=true:=h
           rw [(zio hsg).2.2.2.2.2] at h
           cases h
         · cases hs
theorem zk5 {l:List UInt8} (h16:l.length<=16000) {i:Nat} {ts:List Tok} {R:Res} (h:Scans l i ts R):∀ vs x,R=.ok vs->layP (ts.map ct) []=some x->x.length<=i->i<=l.length->(x≠[]->runB (x.getLastD 0)=true->x.length=i->runB (l.getD i 0)=false)->(∀ t∈ts,t.kind≠5)->ts.length<=i->(∀ t∈ts,t.at_<=i)->ts.Pairwise (fun a b=>a.at_<=b.at_) ->
 ∃ pre q,vs=pre++[⟨5,[],0,l.length⟩]∧layP (pre.map ct) []=some q∧q.length<=l.length∧(∀ t∈pre,t.kind≠5)∧pre.length<=l.length∧(∀ t∈pre,t.at_<=l.length)∧pre.Pairwise (fun a b=>a.at_<=b.at_):=by
 induction h with
 | done h =>
  intro vs x hv hx hxi hil _ hk hn ha hp
  cases hv
  exact ⟨_,x,rfl,hx,by omega,hk,by omega,fun t ht=>by have:=ha t ht;omega,hp⟩
 | err h hs=>intro vs x hv;cases hv
 | go h hs _ ih =>
  rename_i i ts t0 j R _
  intro vs x hv hx hxi hil hrun hk hn ha hp
  obtain ⟨hlt,hjl⟩:=zgb h hs
  cases t0 with
  | none =>
   rw [show ts++(none:Option Tok).toList=ts by simp] at ih
   exact ih vs x hv hx (by omega) hjl (fun _ _ e=>by omega) hk (by omega) (fun t ht=>by have:=ha t ht;omega) hp
  | some t =>
   have so:=step_ok h hs
   have hat:=step_at hs
   have hl2:(oneP x (ct t)).length<=j:=by
    unfold oneP
    have hlen:=so.len
    by_cases hb:zfh x (ct t)=true
    · rw [if_pos hb]
      unfold zfh at hb
      simp only [Bool.and_eq_true,decide_eq_true_eq] at hb
      have hne:x≠[]:=by rintro rfl;simp at hb
      have hne2:x.length≠i:=by
       intro e
       have h1:=hrun hne hb.1.2 e
       rw [so.first hb.2] at h1
       cases h1
      simp only [List.length_append,List.length_cons,List.length_nil]
      omega
    · rw [if_neg hb,List.length_append]
      omega
   have hlast:(oneP x (ct t)).getLastD 0=(ct t).getLastD 0:=by unfold oneP;exact last_app _ so.some
   have hx2:layP ((ts++[t]).map ct) []=some (oneP x (ct t)):=by
    rw [List.map_append,zas,hx]
    show layP [ct t] x=_
    rw [zfx,if_pos (by omega)]
    rfl
   refine ih vs (oneP x (ct t)) hv hx2 hl2 hjl (fun _ hr _=>so.last (by rw [<- hlast];exact hr)) ?_ ?_ ?_ ?_
   · intro u hu
     rcases List.mem_append.1 hu with h1|h1
     · exact hk u h1
     · rw [show u=t by simpa using h1];exact so.kind
   · simp;omega
   · intro u hu
     rcases List.mem_append.1 hu with h1|h1
     · have:=ha u h1;omega
     · rw [show u=t by simpa using h1,hat];omega
   · rw [List.pairwise_append]
     refine ⟨hp,by simp,fun u hu v hv=>?_⟩
     rw [show v=t by simpa using hv,hat]
     exact ha u hu
theorem zko {l:List UInt8} {vs:List Tok} (h:zc7 l=.ok vs):l.length<=16000∧∃ pre q,vs=pre++[⟨5,[],0,l.length⟩]∧layP (pre.map ct) []=some q∧q.length<=l.length∧(∀ t∈pre,t.kind≠5)∧pre.length<=l.length∧(∀ t∈pre,t.at_<=l.length)∧pre.Pairwise (fun a b=>a.at_<=b.at_):=by
 have hl:l.length<=16000:=by
  unfold zc7 at h
  split at h
  · cases h
  · omega
 have hs:=zc2 hl
 rw [h] at hs
 exact ⟨hl,zk5 hl hs vs [] rfl rfl (by simp) (by omega) (fun h=>absurd rfl h) (by simp) (by simp) (by simp) List.Pairwise.nil⟩
theorem lay_end {a:List (List UInt8)} {q:List UInt8} (h:layP a []=some q):layP (a++[[]]) []=some q:=by
 have hq:=zkw a [] q (by simp) h
 rw [zas,h]
 show layP [[]] q=some q
 rw [zfx]
 have:oneP q []=q:=by
  unfold oneP
  have hb:zfh q []=false:=by unfold zfh;simp;intro _ _;decide
  rw [hb]
  simp
 rw [this,if_pos hq]
 rfl
/-- what the parser took of a source's tokens: all but the end -/
theorem took_all {pre us:List Tok} {e:Tok} {s' : PS} (he:ct e=[]) (hk:∀ t∈pre,t.kind≠5) (h:pre++[e]=us++s'.ts) (h5:s'.hd.kind=5) {q:List UInt8} (hq:layP (pre.map ct) []=some q):layP (us.map ct) []=some q:=by
 obtain ⟨ts,f⟩:=s'
 cases ts with
 | nil =>
  have h:pre++[e]=us++[]:=h
  rw [List.append_nil] at h
  rw [<- h,List.map_append,List.map_cons,List.map_nil,he]
  exact lay_end hq
 | cons t r =>
  have ht:t.kind=5:=h5
  have h:pre++[e]=us++t::r:=h
  rcases List.append_eq_append_iff.1 h with ⟨c,h1,h2⟩|⟨c,h1,h2⟩
  · -- us = pre ++ c, [e] = c ++ t :: r
    cases c with
    | nil=>rw [h1,List.append_nil];exact hq
    | cons y ys =>
     have:=congrArg List.length h2
     simp at this
  · -- pre = us ++ c, t :: r = c ++ [e]
    cases c with
    | nil=>rw [List.append_nil] at h1;rw [<- h1];exact hq
    | cons y ys =>
     have h3:t=y:=by have:=congrArg List.head? h2;simpa using this
     exact absurd ht (by rw [h3];exact hk y (by rw [h1];simp))
theorem parse_inv {l:List UInt8} {a:Tree} (h:zch l=.ok a):∃ vs ks s',zc7 l=.ok vs∧zbb 102 [] ⟨vs,false⟩=.ok ks s'∧a=.node 1 [] 0 0 ks:=by
 unfold zch at h
 cases hs:zc7 l with
 | err e i=>rw [hs] at h;cases h
 | ok vs =>
  rw [hs] at h
  have h:(match zbb 102 [] ⟨vs,false⟩ with|.ok ks _=>PRes.ok (.node 1 [] 0 0 ks)|.no e i=>.err e i)=.ok a:=h
  cases hp:zbb 102 [] ⟨vs,false⟩ with
  | no e i=>rw [hp] at h;cases h
  | ok ks s'=>rw [hp] at h;cases h;exact ⟨vs,ks,s',rfl,hp,rfl⟩
/-- what is printed of what a source says: its tokens -/
theorem zjz {l:List UInt8} {a:Tree} (h:zch l=.ok a):∃ vs pre q,zc7 l=.ok vs∧vs=pre++[⟨5,[],0,l.length⟩]∧layP (pre.map ct) []=some q∧zeg a.toI=some q∧q.length<=l.length:=by
 obtain ⟨vs,ks,s',h1,h2,rfl⟩:=parse_inv h
 obtain ⟨_,pre,q,e1,e2,e3,e4,_⟩:=zko h1
 obtain ⟨l2,us,f1,f2,f3,f4,f5⟩:=zl1 102 [] ks ⟨vs,false⟩ s' (by simp) (scan_wf h1) h2
 have f1:ks=l2:=f1
 subst f1
 have hq:=took_all (e:=⟨5,[],0,l.length⟩) rfl e4 (e1.symm.trans f2) f5 e2
 refine ⟨vs,pre,q,h1,e1,e2,?_,e3⟩
 rw [zbg]
 unfold zeg zdi
 have hsz:((1:Int)==1&&(zaw [] false&&zan (toIs ks).length 0 0 100))=true:=by
  have:zaw [] false=true:=rfl
  rw [this,zb9]
  unfold zan
  simp
  simpa using f4
 show (if ((1:Int)==1&&(zaw [] false&&zan (toIs ks).length 0 0 100))=true then zg5 defT (toIs ks) [] else none)=_
 rw [hsz,if_pos rfl,f3]
 exact hq
theorem ct_rel {t u:Tok} (h:RelT t u):ct t=ct u:=by
 unfold ct
 rw [h.kind,h.num]
 split
 · rfl
 · next hk=>exact h.text (by rw [h.kind];exact hk)
theorem cts_rel {a b:List Tok} (h:RelL a b):a.map ct=b.map ct:=by
 induction h with
 | nil=>rfl
 | cons h _ ih=>rw [List.map_cons,List.map_cons,ct_rel h,ih]
mutual
theorem zlc:(t u:ITree)->zdw t u=zdw u t
 | .node k n m a ks,.node k' n' m' a' ks'=>by
  rw [zdw,zdw]
  have hh:zbo k k' n n' m m' ks.length ks'.length=zbo k' k n' n m' m ks'.length ks.length:=by
   unfold zbo
   rw [Bool.eq_iff_iff]
   simp only [Bool.and_eq_true,beq_iff_eq]
   exact ⟨fun h=>⟨h.1.symm,h.2.1.symm,h.2.2.1.symm,h.2.2.2.symm⟩,fun h=>⟨h.1.symm,h.2.1.symm,h.2.2.1.symm,h.2.2.2.symm⟩⟩
  by_cases hl:ks.length=ks'.length
  · rw [hh,zm9 ks ks' hl]
  · have e1:zbo k k' n n' m m' ks.length ks'.length=false:=by unfold zbo;simp [hl]
    have e2:zbo k' k n' n m' m ks'.length ks.length=false:=by rw [<- hh];exact e1
    rw [e1,e2]
    rfl
theorem zm9:(l us:List ITree)->l.length=us.length->zct l us=zct us l
 | [],[],_=>rfl
 | [],u::us,h=>by simp at h
 | t::l,[],h=>by simp at h
 | t::l,u::us,h=>by
  rw [zct,zct]
  show (zdw t u&&zct l us)=(zdw u t&&zct us l)
  rw [zlc t u,zm9 l us (by simpa using h)]
end
mutual
theorem ok_same:(t u:Tree)->zdw t.toI u.toI=true->zdv t->zdv u
 | .node k n m a ks,.node k' n' m' a' ks',h,ho=>by
  rw [zbg,zbg,zdw,Bool.and_eq_true] at h
  have h1:=h.1
  unfold zbo at h1
  simp only [Bool.and_eq_true,beq_iff_eq] at h1
  obtain ⟨_,hn,hm,hl⟩:=h1
  rw [zb9,zb9] at hl
  subst hn
  subst hm
  rw [zdv] at ho ⊢
  exact ⟨ho.1,ho.2.1,oks_same ks ks' hl h.2 ho.2.2⟩
theorem oks_same:(l us:List Tree)->l.length=us.length->zct (toIs l) (toIs us)=true->zd0 l->zd0 us
 | [],[],_,_,h=>h
 | [],u::us,h,_,_=>by simp at h
 | t::l,[],h,_,_=>by simp at h
 | t::l,u::us,h,hs,ho=>by
  rw [toIs,toIs,zct] at hs
  have hs:(zdw t.toI u.toI&&zct (toIs l) (toIs us))=true:=hs
  rw [Bool.and_eq_true] at hs
  rw [zd0] at ho ⊢
  exact ⟨ok_same t u hs.1 ho.1,oks_same l us (by simpa using h) hs.2 ho.2⟩
end
theorem back_more {t:ITree} {p:List UInt8} (h:zeg t=some p):∃ x,zch p=.ok x∧MT x t∧zeg x.toI=some p:=by
 obtain ⟨x,g1,g2,ts,us,g3,g4,g5⟩:=back_one h
 obtain ⟨vs2,pre2,q2,k1,k2,k3,k4,_⟩:=zjz g1
 refine ⟨x,g1,g2,?_⟩
 rw [g3] at k1
 cases k1
 have hpre:ts=pre2:=List.append_inj_left' k2 rfl
 rw [<- hpre,cts_rel g4,g5] at k3
 cases k3
 exact k4
theorem back_two {l:List UInt8} {a:Tree} (h:zch l=.ok a):zdv a∧∃ q,zeg a.toI=some q∧q.length<=l.length∧∃ b,zch q=.ok b∧zdv b∧zeg b.toI=some q∧zdw a.toI b.toI=true:=by
 obtain ⟨vs,pre,q,h1,h2,h3,h4,h5⟩:=zjz h
 obtain ⟨b,g1,g2,g3⟩:=back_more h4
 exact ⟨ok_same b a g2.1 g2.2,q,h4,h5,b,g1,g2.2,g3,by rw [zlc];exact g2.1⟩
theorem back_ats {l:List UInt8} {vs:List Tok} (h:zc7 l=.ok vs):vs.length<=16001∧l.length<=16000∧∀ i (h:i+1<vs.length),(vs[i]).at_<=(vs[i+1]).at_∧(vs[i+1]).at_<=l.length:=by
 obtain ⟨hl,pre,q,e1,_,_,_,e5,e6,e7⟩:=zko h
 subst e1
 refine ⟨by simp;omega,hl,fun i hi=>?_⟩
 have hp:(pre++[(⟨5,[],0,l.length⟩:Tok)]).Pairwise (fun a b=>a.at_<=b.at_):=by
  rw [List.pairwise_append]
  refine ⟨e7,by simp,fun u hu v hv=>?_⟩
  rw [show v=⟨5,[],0,l.length⟩ by simpa using hv]
  exact e6 u hu
 refine ⟨List.pairwise_iff_getElem.1 hp i (i+1) (by omega) hi (by omega),?_⟩
 have hm:=List.getElem_mem hi
 rcases List.mem_append.1 hm with h1|h1
 · exact e6 _ h1
 · rw [List.mem_singleton.1 h1];exact Nat.le_refl _
end Go.Proofs.YtodfklpmbclgkaaGreatDoor.Pr
