import Derived.Test.YtodfklpmbclgkaaGreatDoorBack20
namespace Go.Proofs.YtodfklpmbclgkaaGreatDoor.Pr
open Go.Lib
def sh (n:Nat) (t:Tok):Tok:=⟨t.kind,t.text,t.num,n+t.at_⟩
def shS (n:Nat):Stp->Stp
 | .go t j=>.go (t.map (sh n)) (n+j)
 | .err e=>.err e
theorem drop_up (A r:List UInt8) (p:Nat):(A++r).drop (A.length+p)=r.drop p:=by
 simp [List.drop_append]
theorem get_up (A r:List UInt8) (p:Nat):(A++r).getD (A.length+p) 0=r.getD p 0:=by
 rw [zew (by omega),Nat.add_sub_cancel_left]
theorem run_up (A r:List UInt8) (p:Nat):zbd (A++r) (A.length+p)=A.length+zbd r p:=by
 unfold zbd
 rw [drop_up]
 omega
theorem sub_up (A r:List UInt8) (p q:Nat):sub (A++r) (A.length+p) (A.length+q)=sub r p q:=by
 unfold sub
 rw [drop_up,show A.length+q - (A.length+p)=q - p by omega]
theorem cend_up (A r:List UInt8) (p:Nat):cend (A++r) (A.length+p)=(cend r p).map (A.length+·):=by
 unfold cend
 rw [drop_up]
 cases cendL (r.drop p) with
 | none=>rfl
 | some k =>
  show some (A.length+p+k)=some (A.length+(p+k))
  rw [Nat.add_assoc]
theorem numAt_up (A r:List UInt8) (p:Nat):zbj (A++r) (A.length+p)=A.length+zbj r p:=by
 unfold zbj
 rw [get_up]
 split
 · omega
 · rfl
theorem step_up (A r:List UInt8) (p:Nat):zcd (A++r) (A.length+p)=shS A.length (zcd r p):=by
 unfold zcd
 rw [get_up,show A.length+p+1=A.length+(p+1) by omega,get_up,show A.length+p+2=A.length+(p+2) by omega,cend_up,run_up,numAt_up,get_up,run_up,sub_up,sub_up,sub_up]
 split
 · rfl
 · split
   · cases cend r (p+2) <;> rfl
   · split
     · rw [show A.length+zbd r p - (A.length+p)=zbd r p - p by omega]
       split <;> rfl
     · split
       · cases numP (sub r p (zbd r (zbj r p))) <;> rfl
       · split <;> rfl
theorem reach_up (A r:List UInt8) {p q:Nat} {ts us:List Tok} (h:Reach r p ts q us):∃ new,us=ts++new∧∀ ts0,Reach (A++r) (A.length+p) ts0 (A.length+q) (ts0++new.map (sh A.length)):=by
 induction h with
 | refl=>exact ⟨[],by simp,fun ts0=>by simp;exact Reach.refl⟩
 | step h hs _ ih =>
  rename_i i ts t j k us _
  obtain ⟨new,h1,h2⟩:=ih
  refine ⟨t.toList++new,by rw [h1];simp,fun ts0=>?_⟩
  have hs2:zcd (A++r) (A.length+i)=.go (t.map (sh A.length)) (A.length+j):=by rw [step_up,hs];rfl
  refine Reach.step (by simp;omega) hs2 ?_
  have h3:=h2 (ts0++(t.map (sh A.length)).toList)
  have e:ts0++(t.map (sh A.length)).toList++new.map (sh A.length)=ts0++(t.toList++new).map (sh A.length):=by
   cases t <;> simp
  rw [e] at h3
  exact h3
theorem reach_down {l:List UInt8} {i k:Nat} {ts us:List Tok} (h:Reach l i ts k us):∀ (A r:List UInt8) (p:Nat),l=A++r->i=A.length+p->∃ q new,k=A.length+q∧us=ts++new.map (sh A.length)∧∀ ts0,Reach r p ts0 q (ts0++new):=by
 induction h with
 | refl =>
  intro A r p _ hi
  exact ⟨p,[],hi,by simp,fun ts0=>by rw [List.append_nil];exact Reach.refl⟩
 | step h hs _ ih =>
  rename_i i ts t j k us _
  intro A r p hl hi
  subst hl
  subst hi
  rw [step_up] at hs
  cases hr:zcd r p with
  | err e=>rw [hr] at hs;cases hs
  | go t0 j0 =>
   rw [hr] at hs
   have hs:Stp.go (t0.map (sh A.length)) (A.length+j0)=.go t j:=hs
   cases hs
   obtain ⟨q,new,h1,h2,h3⟩:=ih A r j0 rfl rfl
   refine ⟨q,t0.toList++new,h1,?_,fun ts0=>?_⟩
   · rw [h2];cases t0 <;> simp
   · refine Reach.step (by simp at h;omega) hr ?_
     have:=h3 (ts0++t0.toList)
     rw [List.append_assoc] at this
     exact this
/-- one token and what stands behind it, at another place -/
theorem piece {l:List UInt8} {a b:Nat} {us:List Tok} {t:Tok} (ht:WF t) (hab:a<=b) (hb:b<=l.length) (h:Reach l a us b (us++[t])) (A rest:List UInt8) (ts0:List Tok) :
 ∃ t',RelT t' t∧Reach (A++(sub l a b++([32]++rest))) A.length ts0 (A.length+(sub l a b++[32]).length) (ts0++[t']):=by
 have hla:(l.take a).length=a:=by rw [List.length_take];omega
 obtain ⟨q,new,h1,h2,h3⟩:=reach_down h (l.take a) (l.drop a) 0 (List.take_append_drop a l).symm (by omega)
 rw [hla] at h1 h2
 have hq:q=b - a:=by omega
 have hnew:∃ t0,new=[t0]∧sh a t0=t:=by
  have h4:=List.append_cancel_left h2
  match new,h4 with
  | [t0],h4=>simp at h4;exact ⟨t0,rfl,h4.symm⟩
  | [],h4=>simp at h4
  | _::_::_,h4=>simp at h4
 obtain ⟨t0,rfl,ht0⟩:=hnew
 have hr0:Reach (l.drop a) 0 [] q [t0]:=h3 []
 have hlen:(sub l a b).length=b - a:=zfo hab hb
 have hsame:Reach (sub l a b++([32]++rest)) 0 [] q [t0]:=by
  refine hr0.same2 ?_ ?_ ?_
  · intro k hk
    rw [zi2 (by omega)]
    unfold sub
    rw [List.getD_eq_getElem?_getD,List.getD_eq_getElem?_getD,List.getElem?_take,if_pos (by omega)]
  · rw [List.length_append];omega
  · intro _
    rw [zew (by omega),hlen,hq,Nat.sub_self]
    rfl
 have hblank:Reach (sub l a b++([32]++rest)) q [t0] (q+1) [t0]:=by
  refine Reach.step (by rw [List.length_append,List.length_append];simp;omega) (t:=none) (j:=q+1) ?_ ?_
  · have:=zm5 (a:=sub l a b) (r:=rest) (c:=32) (by decide)
    rw [hlen,<- hq] at this
    exact this
  · rw [show ([t0]++(none:Option Tok).toList)=[t0] by simp];exact Reach.refl
 obtain ⟨new,g1,g2⟩:=reach_up A _ (hsame.trans hblank)
 have g1:[t0]=new:=g1
 subst g1
 have g3:=g2 ts0
 rw [Nat.add_zero] at g3
 have e:A.length+(sub l a b++[32]).length=A.length+(q+1):=by rw [List.length_append,hlen,hq];rfl
 rw [e]
 refine ⟨sh A.length t0,?_,g3⟩
 have hk:t0.kind=t.kind:=by rw [<- ht0];rfl
 have hx:t0.text=t.text:=by rw [<- ht0];rfl
 have hnn:t0.num=t.num:=by rw [<- ht0];rfl
 exact ⟨hk,hnn,fun _=>hx,fun h3=>by
  have:t.kind=3:=by rw [<- hk];exact h3
  exact ⟨by show NumT t0.text;rw [hx];exact (ht.num this).2,(ht.num this).2⟩⟩
/-- tokens in a row, each reached from the one ahead -/
def Pairs (l:List UInt8):List Tok->Prop
 | t::v::w=>WF t∧t.at_<=v.at_∧v.at_<=l.length∧(∃ us,Reach l t.at_ us v.at_ (us++[t]))∧Pairs l (v::w)
 | _=>True
theorem zjt {l:List UInt8} : (T:List Tok)->Pairs l T->∀ (A:List UInt8) (ts0:List Tok),∃ new,Reach (A++zbt l T) A.length ts0 (A++zbt l T).length (ts0++new)∧RelL new T.dropLast
 | [],_,A,ts0=>⟨[],by rw [show zbt l []=[] by simp [zbt],List.append_nil,List.append_nil];exact Reach.refl,RelL.nil⟩
 | [e],_,A,ts0=>⟨[],by rw [show zbt l [e]=[] by simp [zbt],List.append_nil,List.append_nil];exact Reach.refl,RelL.nil⟩
 | t::v::w,h,A,ts0=>by
  obtain ⟨h1,h2,h3,⟨us,h4⟩,h5⟩:=h
  obtain ⟨t',g1,g2⟩:=piece h1 h2 h3 h4 A (zbt l (v::w)) ts0
  obtain ⟨new,k1,k2⟩:=zjt (v::w) h5 (A++(sub l t.at_ v.at_++[32])) (ts0++[t'])
  refine ⟨t'::new,?_,RelL.cons g1 k2⟩
  have e:A++(sub l t.at_ v.at_++[32])++zbt l (v::w)=A++zbt l (t::v::w):=by rw [zbt];simp
  rw [e,List.append_assoc] at k1
  have e2:A++(sub l t.at_ v.at_++([32]++zbt l (v::w)))=A++zbt l (t::v::w):=by rw [zbt]
  rw [e2] at g2
  have e3:(A++(sub l t.at_ v.at_++[32])).length=A.length+(sub l t.at_ v.at_++[32]).length:=List.length_append
  rw [e3] at k1
  exact g2.trans k1
theorem pairs_of {l:List UInt8} {vs:List Tok} (h:zc7 l=.ok vs):(done T:List Tok)->vs=done++T->Pairs l T
 | _,[],_=>by unfold Pairs;trivial
 | _,[e],_=>by unfold Pairs;trivial
 | done,t::v::w,hv=>by
  obtain ⟨hl,_⟩:=zko h
  have hs:=zc2 hl
  rw [h] at hs
  have hi:done.length+1<vs.length:=by rw [hv];simp
  have e1:vs[done.length]'(by omega)=t:=by simp [hv]
  have e2:vs[done.length+1]=v:=by simp [hv]
  obtain ⟨_,_,hats⟩:=back_ats h
  have ha:=hats done.length hi
  rw [e1,e2] at ha
  have r1:Reach l 0 [] t.at_ done:=zes hs done (v::w) t rfl (by omega) hv (by simp)
  have hs2:Scans l t.at_ done (.ok vs):=r1.forth hs
  have r2:Reach l t.at_ done v.at_ (done++[t]):=zes hs2 (done++[t]) w v rfl (Nat.le_trans ha.1 ha.2) (by rw [hv];simp) (by simp)
  refine ⟨scan_wf h t (by rw [hv];simp),ha.1,ha.2,⟨done,r2⟩,pairs_of h (done++[t]) (v::w) (by rw [hv];simp)⟩
mutual
theorem same_refl:(t:ITree)->zdw t t=true
 | .node k n m a ks=>by
  rw [zdw,zna ks]
  simp [zbo]
theorem zna:(l:List ITree)->zct l l=true
 | []=>by rw [zct]
 | t::l=>by
  rw [zct]
  show (zdw t t&&zct l l)=true
  rw [same_refl t,zna l]
  rfl
end
theorem back_three {l:List UInt8} {a:Tree} {vs:List Tok} (h:zch l=.ok a) (hs:zc7 l=.ok vs) (h16:(zbt l vs).length<=16000):∃ c,zch (zbt l vs)=.ok c∧zdv c∧zdw a.toI c.toI=true:=by
 obtain ⟨vs2,ks,s',h1,h2,rfl⟩:=parse_inv h
 rw [hs] at h1
 cases h1
 obtain ⟨new,k1,k2⟩:=zjt vs (pairs_of hs [] vs rfl) [] []
 have k1:Reach (zbt l vs) 0 [] (zbt l vs).length new:=k1
 have hsc:zc7 (zbt l vs)=.ok (new++[⟨5,[],0,(zbt l vs).length⟩]):=(zc2 h16).det (k1.scans (Scans.done (Nat.le_refl _)))
 obtain ⟨_,pre,q,e1,_⟩:=zko hs
 have hdl:vs.dropLast=pre:=by rw [e1];simp
 rw [hdl] at k2
 have hrel:RelL vs (new++[⟨5,[],0,(zbt l vs).length⟩]):=by
  have:=rell_end (rell_symm k2) l.length (zbt l vs).length
  rw [<- e1] at this
  exact this
 obtain ⟨ks',c1,c2⟩:=znl hsc hrel h2
 have hz:ZT (.node 1 [] 0 0 ks) (.node 1 [] 0 0 ks'):=zfc rfl rfl c2
 have hok:=(back_two h).1
 refine ⟨_,c1,?_,?_⟩
 · rw [zlm];unfold ZT at hz;rw [<- hz,<- zlm];exact hok
 · rw [zlc,zhh];unfold ZT at hz;rw [<- hz,<- zhh];exact same_refl _
theorem back_all (t:ITree) (l:List UInt8):Back t l where
 one:=fun p h=>by
  obtain ⟨x,h1,h2,_⟩:=back_one h
  exact ⟨x,h1,h2.2,h2.1⟩
 two:=fun a h=>back_two h
 ats:=fun ts h=>back_ats h
 three:=fun a ts h hs h16=>back_three h hs h16
end Go.Proofs.YtodfklpmbclgkaaGreatDoor.Pr
