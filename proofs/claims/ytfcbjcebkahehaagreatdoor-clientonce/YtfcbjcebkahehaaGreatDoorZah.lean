/- Credentials, plain mathematics: a sys and a mark laid down and read. Marks, plain mathematics; what is printed, what is read, who is let in. Calls, plain mathematics: laid down and read. Replies, plain mathematics: laid down and read. -/
import Derived.Test.YtfcbjcebkahehaaGreatDoorZae
namespace Go.Proofs.YtfcbjcebkahehaaGreatDoor
/-- a number of 32 bits -/
def isW (n:Int):Prop:=0≤n∧n≤4294967295
instance (n:Int):Decidable (isW n):=inferInstanceAs (Decidable (_∧_))
structure SysP where
 stamp:Int
 machine:List UInt8
 user:Int
 group:Int
 groups:List Int
def SysP.may (s:SysP):Prop:=isW s.stamp∧isW s.user∧isW s.group∧s.machine.length≤255∧s.groups.length≤16∧∀ g∈s.groups,isW g
instance (s:SysP):Decidable s.may:=inferInstanceAs (Decidable (_∧_))
def layGs:List Int→List UInt8
 | []=>[]
 | g::gs=>nbL 4 g.toNat++layGs gs
def SysP.body (s:SysP):List UInt8:=nbL 4 s.stamp.toNat++((nbL 4 s.machine.length++(s.machine++padB s.machine.length))++(nbL 4 s.user.toNat++(nbL 4 s.group.toNat++(nbL 4 s.groups.length++layGs s.groups))))
def rdGs:Nat→Rs→List Int×Rs
 | 0,st=>([],st)
 | n+1,st=>(((st.go 0 rdWord).1:Int)::(rdGs n (st.go 0 rdWord).2).1,(rdGs n (st.go 0 rdWord).2).2)
/-- five readings, then as many as were told -/
structure SysR where
 a:Nat×Rs
 b:List UInt8×Rs
 c:Nat×Rs
 d:Nat×Rs
 n:Nat×Rs
 g:List Int×Rs
def rdSysR (st:Rs):SysR:=
 let a:=st.go 0 rdWord
 let b:=a.2.go [] (rdOpaque 255)
 let c:=b.2.go 0 rdWord
 let d:=c.2.go 0 rdWord
 let n:=d.2.go 0 (rdCount 16)
 ⟨a,b,c,d,n,rdGs n.1 n.2⟩
def rdSys (st:Rs):SysP×Rs:=(⟨(rdSysR st).a.1,(rdSysR st).b.1,(rdSysR st).c.1,(rdSysR st).d.1,(rdSysR st).g.1⟩,(rdSysR st).g.2)
theorem go_good {α:Type} {f:List UInt8→Rd α} {b:List UInt8} {v:α} (h:Good f b v) (d:α) (r:List UInt8):(⟨b++r,0⟩:Rs).go d f=(v,⟨r,0⟩):=by
 unfold Rs.go
 rw [if_neg (by simp),h.full,if_neg (by simp)]
 simp
theorem go_stay {α:Type} {f:List UInt8→Rd α} {d:α} {st:Rs} (h:st.e≠0):st.go d f=(d,st):=by unfold Rs.go;rw [if_pos h]
/-- a reading without a fault: what it told was laid down ahead -/
theorem go_one {α:Type} {f:List UInt8→Rd α} {lay:α→List UInt8} {P:α→Prop} (h:One f lay P) (d:α) (st:Rs) (he:(st.go d f).2.e=0):st.e=0∧P (st.go d f).1∧st.l=lay (st.go d f).1++(st.go d f).2.l:=by
 by_cases h0:st.e≠0
 · rw [go_stay h0] at he;exact absurd he h0
 · have h1:st.e=0:=Decidable.not_not.1 h0
   unfold Rs.go at he ⊢
   rw [if_neg h0] at he ⊢
   by_cases hw:(f st.l).wrong≠0
   · rw [if_pos hw] at he;exact absurd he hw
   · rw [if_neg hw] at he ⊢
     obtain ⟨_,h3,h4⟩:=h st.l (Decidable.not_not.1 hw)
     refine ⟨h1,h4,?_⟩
     show st.l=lay (f st.l).val++st.l.drop (f st.l).size
     rw [h3,List.take_append_drop]
theorem rdGs_stay:(n:Nat)→(st:Rs)→st.e≠0→(rdGs n st).2=st
 | 0,_,_=>rfl
 | n+1,st,h=>by rw [rdGs];show (rdGs n (st.go 0 rdWord).2).2=st;rw [go_stay h];exact rdGs_stay n st h
theorem toNat_w {g:Int} (h:isW g):g.toNat<4294967296∧((g.toNat:Nat):Int)=g:=by
 unfold isW at h
 exact ⟨by omega,by omega⟩
theorem gs_there:(gs:List Int)→(∀ g∈gs,isW g)→∀ r,rdGs gs.length ⟨layGs gs++r,0⟩=(gs,⟨r,0⟩)
 | [],_,r=>rfl
 | g::gs,h,r=>by
  obtain ⟨h1,h2⟩:=toNat_w (h g (List.mem_cons_self ..))
  rw [List.length_cons,rdGs,layGs,List.append_assoc,go_good (good_word g.toNat h1),gs_there gs (fun x hx=>h x (List.mem_cons_of_mem _ hx)) r]
  simp only [h2]
theorem gs_back:(n:Nat)→(st:Rs)→(rdGs n st).2.e=0→st.e=0∧(rdGs n st).1.length=n∧(∀ g∈(rdGs n st).1,isW g)∧st.l=layGs (rdGs n st).1++(rdGs n st).2.l
 | 0,st,h=>⟨h,rfl,fun g hg=>by simp [rdGs] at hg,by simp [rdGs,layGs]⟩
 | n+1,st,h=>by
  rw [rdGs] at h ⊢
  obtain ⟨h1,h2,h3,h4⟩:=gs_back n (st.go 0 rdWord).2 h
  obtain ⟨g1,g2,g3⟩:=go_one one_word 0 st h1
  refine ⟨g1,by simp [h2],fun g hg=>?_,?_⟩
  · rcases List.mem_cons.1 hg with rfl|hg
    · unfold isW;omega
    · exact h3 g hg
  · show st.l=nbL 4 (((st.go 0 rdWord).1:Int)).toNat++layGs _++_
    rw [List.append_assoc,← h4]
    exact g3
/-- what was laid down is read as it was -/
theorem sys_there (s:SysP) (h:s.may) (r:List UInt8):rdSys ⟨s.body++r,0⟩=(s,⟨r,0⟩):=by
 obtain ⟨h1,h2,h3,h4,h5,h6⟩:=h
 obtain ⟨a1,a2⟩:=toNat_w h1
 obtain ⟨c1,c2⟩:=toNat_w h2
 obtain ⟨d1,d2⟩:=toNat_w h3
 obtain ⟨x1,x2,x3,x4,x5,e⟩:∃ x1 x2 x3 x4 x5,rdSysR ⟨s.body++r,0⟩=⟨(s.stamp.toNat,x1),(s.machine,x2),(s.user.toNat,x3),(s.group.toNat,x4),(s.groups.length,x5),(s.groups,⟨r,0⟩)⟩:=by
  unfold rdSysR SysP.body
  simp only [List.append_assoc]
  rw [go_good (good_word _ a1)]
  simp only []
  rw [show nbL 4 s.machine.length++(s.machine++(padB s.machine.length++(nbL 4 s.user.toNat++(nbL 4 s.group.toNat++(nbL 4 s.groups.length++(layGs s.groups++r))))))=(nbL 4 s.machine.length++(s.machine++padB s.machine.length))++(nbL 4 s.user.toNat++(nbL 4 s.group.toNat++(nbL 4 s.groups.length++(layGs s.groups++r)))) by simp only [List.append_assoc]]
  rw [go_good (good_opaque 255 s.machine (by omega) (by decide))]
  simp only []
  rw [go_good (good_word _ c1)]
  simp only []
  rw [go_good (good_word _ d1)]
  simp only []
  rw [go_good (good_count 16 s.groups.length (by omega) (by decide))]
  simp only []
  rw [gs_there s.groups h6 r]
  exact ⟨_,_,_,_,_,rfl⟩
 unfold rdSys
 rw [e]
 simp only [a2,c2,d2]
/-- what is read without a fault may be, and was laid down so -/
theorem sys_back (st:Rs) (h:(rdSys st).2.e=0):st.e=0∧(rdSys st).1.may∧st.l=(rdSys st).1.body++(rdSys st).2.l:=by
 have h0:(rdGs (rdSysR st).n.1 (rdSysR st).n.2).2.e=0:=h
 obtain ⟨g1,g2,g3,g4⟩:=gs_back _ _ h0
 obtain ⟨n1,n2,n3⟩:=go_one (one_count 16) 0 (rdSysR st).d.2 g1
 obtain ⟨d1,d2,d3⟩:=go_one one_word 0 (rdSysR st).c.2 n1
 obtain ⟨c1,c2,c3⟩:=go_one one_word 0 (rdSysR st).b.2 d1
 obtain ⟨b1,b2,b3⟩:=go_one (one_opaque 255) [] (rdSysR st).a.2 c1
 obtain ⟨a1,a2,a3⟩:=go_one one_word 0 st b1
 have w:∀ n:Nat,n<4294967296→isW (n:Int):=fun n hn=>by unfold isW;omega
 have hg2:(rdSysR st).g.1.length=(rdSysR st).n.1:=g2
 refine ⟨a1,⟨w _ a2,w _ c2,w _ d2,?_,?_,g3⟩,?_⟩
 · have:=b2.2.2
   show (rdSysR st).b.1.length≤255
   exact Int.ofNat_le.1 this
 · show (rdSysR st).g.1.length≤16
   rw [hg2]
   exact Int.ofNat_le.1 n2.2.2
 · have ea:(st.go 0 rdWord)=(rdSysR st).a:=rfl
   have eb:((rdSysR st).a.2.go [] (rdOpaque 255))=(rdSysR st).b:=rfl
   have ec:((rdSysR st).b.2.go 0 rdWord)=(rdSysR st).c:=rfl
   have ed:((rdSysR st).c.2.go 0 rdWord)=(rdSysR st).d:=rfl
   have en:((rdSysR st).d.2.go 0 (rdCount 16))=(rdSysR st).n:=rfl
   have eg:rdGs (rdSysR st).n.1 (rdSysR st).n.2=(rdSysR st).g:=rfl
   rw [ea] at a3
   rw [eb] at b3
   rw [ec] at c3
   rw [ed] at d3
   rw [en] at n3
   rw [eg] at g4
   rw [a3,b3,c3,d3,n3,g4]
   show _=SysP.body ⟨_,_,_,_,_⟩++_
   unfold SysP.body
   simp only [Int.toNat_natCast,List.append_assoc,hg2]
   rfl
theorem layGs_len:(gs:List Int)→(layGs gs).length=4*gs.length
 | []=>rfl
 | g::gs=>by rw [layGs,List.length_append,nbL_len,layGs_len gs,List.length_cons];omega
theorem body_len (s:SysP) (h:s.may):s.body.length≤340∧s.body.length%4=0:=by
 obtain ⟨_,_,_,h4,h5,_⟩:=h
 unfold SysP.body
 simp only [List.length_append,nbL_len,layGs_len,padB_len]
 unfold pads
 omega
end Go.Proofs.YtfcbjcebkahehaaGreatDoor
namespace Go.Proofs.YtfcbjcebkahehaaGreatDoor
structure MarkP where
 inst:Int
 seq:Int
 water:Int
 sys:SysP
def MarkP.may (m:MarkP):Prop:=(1≤m.inst∧m.inst≤4611686018427387904)∧(1≤m.seq∧m.seq≤4294967295)∧(1≤m.water∧m.water≤4294967295)∧m.sys.may
instance (m:MarkP):Decidable m.may:=inferInstanceAs (Decidable (_∧_))
def MarkP.body (m:MarkP):List UInt8:=nbL 8 m.inst.toNat++(nbL 8 m.seq.toNat++(nbL 8 m.water.toNat++m.sys.body))
/-- 64 bits as a number with a sign -/
def sg64 (n:Nat):Int:=if n<9223372036854775808 then n else (n:Int)-18446744073709551616
structure MarkR where
 a:Nat×Rs
 b:Nat×Rs
 c:Nat×Rs
 s:SysP×Rs
def rdMarkR (st:Rs):MarkR:=
 let a:=st.go 0 rdHyper
 let b:=a.2.go 0 rdHyper
 let c:=b.2.go 0 rdHyper
 ⟨a,b,c,rdSys c.2⟩
def rdMark (st:Rs):MarkP×Rs:=(⟨sg64 (rdMarkR st).a.1,sg64 (rdMarkR st).b.1,sg64 (rdMarkR st).c.1,(rdMarkR st).s.1⟩,(rdMarkR st).s.2)
theorem sg_small {n:Int} (h0:0≤n) (h1:n<9223372036854775808):n.toNat<18446744073709551616∧sg64 n.toNat=n:=by
 unfold sg64
 refine ⟨by omega,?_⟩
 rw [if_pos (by omega)]
 omega
theorem sg_back {n:Nat} (h:0≤sg64 n) (hn:n<18446744073709551616):(sg64 n).toNat=n:=by
 unfold sg64 at h ⊢
 split at h
 · rename_i h1;rw [if_pos h1];simp
 · omega
theorem mark_there (m:MarkP) (h:m.may) (r:List UInt8):rdMark ⟨m.body++r,0⟩=(m,⟨r,0⟩):=by
 obtain ⟨h1,h2,h3,h4⟩:=h
 obtain ⟨a1,a2⟩:=sg_small (n:=m.inst) (by omega) (by omega)
 obtain ⟨b1,b2⟩:=sg_small (n:=m.seq) (by omega) (by omega)
 obtain ⟨c1,c2⟩:=sg_small (n:=m.water) (by omega) (by omega)
 obtain ⟨x1,x2,x3,e⟩:∃ x1 x2 x3,rdMarkR ⟨m.body++r,0⟩=⟨(m.inst.toNat,x1),(m.seq.toNat,x2),(m.water.toNat,x3),(m.sys,⟨r,0⟩)⟩:=by
  unfold rdMarkR MarkP.body
  simp only [List.append_assoc]
  rw [go_good (good_hyper _ a1)]
  simp only []
  rw [go_good (good_hyper _ b1)]
  simp only []
  rw [go_good (good_hyper _ c1)]
  simp only []
  rw [sys_there m.sys h4 r]
  exact ⟨_,_,_,rfl⟩
 unfold rdMark
 rw [e]
 simp only [a2,b2,c2]
theorem mark_back (st:Rs) (h:(rdMark st).2.e=0):st.e=0∧(rdMark st).1.sys.may∧((rdMark st).1.may→st.l=(rdMark st).1.body++(rdMark st).2.l):=by
 have h0:(rdSys (rdMarkR st).c.2).2.e=0:=h
 obtain ⟨s1,s2,s3⟩:=sys_back _ h0
 obtain ⟨c1,c2,c3⟩:=go_one one_hyper 0 (rdMarkR st).b.2 s1
 obtain ⟨b1,b2,b3⟩:=go_one one_hyper 0 (rdMarkR st).a.2 c1
 obtain ⟨a1,a2,a3⟩:=go_one one_hyper 0 st b1
 refine ⟨a1,s2,fun hm=>?_⟩
 have ea:(st.go 0 rdHyper)=(rdMarkR st).a:=rfl
 have eb:((rdMarkR st).a.2.go 0 rdHyper)=(rdMarkR st).b:=rfl
 have ec:((rdMarkR st).b.2.go 0 rdHyper)=(rdMarkR st).c:=rfl
 have es:rdSys (rdMarkR st).c.2=(rdMarkR st).s:=rfl
 rw [ea] at a2 a3
 rw [eb] at b2 b3
 rw [ec] at c2 c3
 rw [es] at s3
 have m1:1≤sg64 (rdMarkR st).a.1:=hm.1.1
 have m2:1≤sg64 (rdMarkR st).b.1:=hm.2.1.1
 have m3:1≤sg64 (rdMarkR st).c.1:=hm.2.2.1.1
 show _=MarkP.body ⟨_,_,_,_⟩++_
 unfold MarkP.body
 rw [a3,b3,c3,s3]
 simp only [List.append_assoc,sg_back (by omega) a2,sg_back (by omega) b2,sg_back (by omega) c2]
 rfl
theorem mbody_len (m:MarkP) (h:m.may):m.body.length≤364∧m.body.length%4=0∧m.body.drop 24=m.sys.body:=by
 obtain ⟨h1,h2⟩:=body_len m.sys h.2.2.2
 unfold MarkP.body
 refine ⟨by simp only [List.length_append,nbL_len];omega,by simp only [List.length_append,nbL_len];omega,?_⟩
 rw [← List.append_assoc,← List.append_assoc,List.drop_left' (by simp only [List.length_append,nbL_len])]
def nulS:SysP:=⟨0,[],0,0,[]⟩
def nulM:MarkP:=⟨0,0,0,nulS⟩
/-- what is printed: the body, or a fault -/
def printS (s:SysP):Option (List UInt8):=if s.may then some s.body else none
def printM (m:MarkP):Option (List UInt8):=if m.may then some m.body else none
/-- what is read of a body -/
def readS (b:List UInt8):Option SysP:=if (rdSys ⟨b,0⟩).2.e=0∧(rdSys ⟨b,0⟩).2.l=[] then some (rdSys ⟨b,0⟩).1 else none
def readM (b:List UInt8):Option MarkP:=if ((rdMark ⟨b,0⟩).2.e=0∧(rdMark ⟨b,0⟩).2.l=[])∧(rdMark ⟨b,0⟩).1.may then some (rdMark ⟨b,0⟩).1 else none
theorem readS_iff (b:List UInt8) (s:SysP):readS b=some s↔s.may∧b=s.body:=by
 unfold readS
 constructor
 · intro h
   split at h
   · rename_i hc
     cases h
     obtain ⟨_,h2,h3⟩:=sys_back ⟨b,0⟩ hc.1
     rw [hc.2,List.append_nil] at h3
     exact ⟨h2,h3⟩
   · cases h
 · rintro ⟨h1,rfl⟩
   have e:=sys_there s h1 []
   rw [List.append_nil] at e
   rw [e,if_pos ⟨rfl,rfl⟩]
theorem readM_iff (b:List UInt8) (m:MarkP):readM b=some m↔m.may∧b=m.body:=by
 unfold readM
 constructor
 · intro h
   split at h
   · rename_i hc
     cases h
     obtain ⟨_,_,h3⟩:=mark_back ⟨b,0⟩ hc.1.1
     have h4:=h3 hc.2
     rw [hc.1.2,List.append_nil] at h4
     exact ⟨hc.2,h4⟩
   · cases h
 · rintro ⟨h1,rfl⟩
   have e:=mark_there m h1 []
   rw [List.append_nil] at e
   rw [e,if_pos ⟨⟨rfl,rfl⟩,h1⟩]
end Go.Proofs.YtfcbjcebkahehaaGreatDoor
namespace Go.Proofs.YtfcbjcebkahehaaGreatDoor
theorem nat_w {n:Nat} (h:n<4294967296):isW (n:Int):=by unfold isW;omega
structure AuthP where
 flavor:Int
 body:List UInt8
def AuthP.may (a:AuthP):Prop:=isW a.flavor∧a.body.length≤400
instance AuthP.dec (a:AuthP):Decidable a.may:=inferInstanceAs (Decidable (_∧_))
def AuthP.lay (a:AuthP):List UInt8:=nbL 4 a.flavor.toNat++(nbL 4 a.body.length++(a.body++padB a.body.length))
def rdAuth (st:Rs):AuthP×Rs:=(⟨(st.go 0 rdWord).1,((st.go 0 rdWord).2.go [] (rdOpaque 400)).1⟩,((st.go 0 rdWord).2.go [] (rdOpaque 400)).2)
theorem auth_there (a:AuthP) (h:a.may) (r:List UInt8):rdAuth ⟨a.lay++r,0⟩=(a,⟨r,0⟩):=by
 obtain ⟨h1,h2⟩:=toNat_w h.1
 unfold rdAuth AuthP.lay
 rw [List.append_assoc,go_good (good_word _ h1)]
 simp only []
 rw [go_good (good_opaque 400 a.body (by have:=h.2;omega) (by decide))]
 simp only [h2]
theorem auth_back (st:Rs) (h:(rdAuth st).2.e=0):st.e=0∧(rdAuth st).1.may∧st.l=(rdAuth st).1.lay++(rdAuth st).2.l:=by
 obtain ⟨b1,b2,b3⟩:=go_one (one_opaque 400) [] (st.go 0 rdWord).2 h
 obtain ⟨a1,a2,a3⟩:=go_one one_word 0 st b1
 refine ⟨a1,⟨show isW ((st.go 0 rdWord).1:Int) from nat_w a2,Int.ofNat_le.1 b2.2.2⟩,?_⟩
 show st.l=AuthP.lay ⟨_,_⟩++_
 unfold AuthP.lay
 rw [a3,b3]
 simp only [Int.toNat_natCast,List.append_assoc]
 rfl
theorem auth_len (a:AuthP) (h:a.may):a.lay.length≤408∧a.lay.length%4=0:=by
 have:=h.2
 unfold AuthP.lay
 simp only [List.length_append,nbL_len,padB_len]
 unfold pads
 omega
structure CallP where
 xid:Int
 rpc:Int
 prog:Int
 vers:Int
 proc:Int
 cred:AuthP
 verf:AuthP
 args:List UInt8
/-- arguments, results -/
def plainB (s:List UInt8):Prop:=s.length≤1000∧s.length%4=0
instance plainB.dec (s:List UInt8):Decidable (plainB s):=inferInstanceAs (Decidable (_∧_))
def CallP.may (c:CallP):Prop:=isW c.xid∧c.rpc=2∧isW c.prog∧isW c.vers∧isW c.proc∧c.cred.may∧c.verf.may∧plainB c.args
instance CallP.dec (c:CallP):Decidable c.may:=inferInstanceAs (Decidable (_∧_))
def CallP.lay (c:CallP):List UInt8:=nbL 4 c.xid.toNat++(nbL 4 0++(nbL 4 c.rpc.toNat++(nbL 4 c.prog.toNat++(nbL 4 c.vers.toNat++(nbL 4 c.proc.toNat++(c.cred.lay++(c.verf.lay++c.args)))))))
/-- eight readings; what is left are the arguments -/
structure CallR where
 x:Nat×Rs
 k:Nat×Rs
 r:Nat×Rs
 p:Nat×Rs
 v:Nat×Rs
 q:Nat×Rs
 c:AuthP×Rs
 f:AuthP×Rs
def rdCallR (st:Rs):CallR:=
 let x:=st.go 0 rdWord
 let k:=x.2.go 0 rdWord
 let r:=k.2.go 0 rdWord
 let p:=r.2.go 0 rdWord
 let v:=p.2.go 0 rdWord
 let q:=v.2.go 0 rdWord
 let c:=rdAuth q.2
 ⟨x,k,r,p,v,q,c,rdAuth c.2⟩
def CallR.call (r:CallR):CallP:=⟨r.x.1,r.r.1,r.p.1,r.v.1,r.q.1,r.c.1,r.f.1,r.f.2.l⟩
theorem call_there (c:CallP) (h:c.may):∃ x k r p v q s,rdCallR ⟨c.lay,0⟩=⟨(c.xid.toNat,x),(0,k),(2,r),(c.prog.toNat,p),(c.vers.toNat,v),(c.proc.toNat,q),(c.cred,s),(c.verf,⟨c.args,0⟩)⟩∧(rdCallR ⟨c.lay,0⟩).call=c:=by
 obtain ⟨h1,h2,h3,h4,h5,h6,h7,h8⟩:=h
 obtain ⟨a1,a2⟩:=toNat_w h1
 obtain ⟨p1,p2⟩:=toNat_w h3
 obtain ⟨v1,v2⟩:=toNat_w h4
 obtain ⟨q1,q2⟩:=toNat_w h5
 obtain ⟨x,k,r,p,v,q,s,e⟩:∃ x k r p v q s,rdCallR ⟨c.lay,0⟩=⟨(c.xid.toNat,x),(0,k),(2,r),(c.prog.toNat,p),(c.vers.toNat,v),(c.proc.toNat,q),(c.cred,s),(c.verf,⟨c.args,0⟩)⟩:=by
  unfold rdCallR CallP.lay
  rw [h2,show ((2:Int).toNat)=2 from rfl,go_good (good_word _ a1)]
  simp only []
  rw [go_good (good_word 0 (by decide))]
  simp only []
  rw [go_good (good_word 2 (by decide))]
  simp only []
  rw [go_good (good_word _ p1)]
  simp only []
  rw [go_good (good_word _ v1)]
  simp only []
  rw [go_good (good_word _ q1)]
  simp only []
  rw [auth_there _ h6]
  simp only []
  rw [auth_there _ h7]
  exact ⟨_,_,_,_,_,_,_,rfl⟩
 refine ⟨x,k,r,p,v,q,s,e,?_⟩
 rw [e]
 unfold CallR.call
 obtain ⟨cx,cr,cp,cv,cq,cc,cf,ca⟩:=c
 have h2:cr=2:=h2
 subst h2
 simp only [a2,p2,v2,q2]
 rfl
theorem call_back (st:Rs) (h:(rdCallR st).f.2.e=0):st.e=0∧isW (rdCallR st).call.xid∧isW (rdCallR st).call.prog∧isW (rdCallR st).call.vers∧isW (rdCallR st).call.proc∧(rdCallR st).call.cred.may∧(rdCallR st).call.verf.may∧((rdCallR st).k.1=0→st.l=(rdCallR st).call.lay):=by
 obtain ⟨f1,f2,f3⟩:=auth_back (rdCallR st).c.2 h
 obtain ⟨c1,c2,c3⟩:=auth_back (rdCallR st).q.2 f1
 obtain ⟨q1,q2,q3⟩:=go_one one_word 0 (rdCallR st).v.2 c1
 obtain ⟨v1,v2,v3⟩:=go_one one_word 0 (rdCallR st).p.2 q1
 obtain ⟨p1,p2,p3⟩:=go_one one_word 0 (rdCallR st).r.2 v1
 obtain ⟨r1,r2,r3⟩:=go_one one_word 0 (rdCallR st).k.2 p1
 obtain ⟨k1,k2,k3⟩:=go_one one_word 0 (rdCallR st).x.2 r1
 obtain ⟨x1,x2,x3⟩:=go_one one_word 0 st k1
 refine ⟨x1,nat_w x2,nat_w p2,nat_w v2,nat_w q2,c2,f2,fun hk=>?_⟩
 have e1:(st.go 0 rdWord)=(rdCallR st).x:=rfl
 have e2:((rdCallR st).x.2.go 0 rdWord)=(rdCallR st).k:=rfl
 have e3:((rdCallR st).k.2.go 0 rdWord)=(rdCallR st).r:=rfl
 have e4:((rdCallR st).r.2.go 0 rdWord)=(rdCallR st).p:=rfl
 have e5:((rdCallR st).p.2.go 0 rdWord)=(rdCallR st).v:=rfl
 have e6:((rdCallR st).v.2.go 0 rdWord)=(rdCallR st).q:=rfl
 have e7:rdAuth (rdCallR st).q.2=(rdCallR st).c:=rfl
 have e8:rdAuth (rdCallR st).c.2=(rdCallR st).f:=rfl
 rw [e1] at x3
 rw [e2,hk] at k3
 rw [e3] at r3
 rw [e4] at p3
 rw [e5] at v3
 rw [e6] at q3
 rw [e7] at c3
 rw [e8] at f3
 rw [x3,k3,r3,p3,v3,q3,c3,f3]
 unfold CallR.call CallP.lay
 simp only [Int.toNat_natCast]
end Go.Proofs.YtfcbjcebkahehaaGreatDoor
namespace Go.Proofs.YtfcbjcebkahehaaGreatDoor
structure ReplyP where
 xid:Int
 denied:Bool
 verf:AuthP
 accept:Int
 low:Int
 high:Int
 results:List UInt8
 reject:Int
 why:Int
def nulA:AuthP:=⟨0,[]⟩
/-- may a reply be? -/
def ReplyP.may (r:ReplyP):Prop:=isW r.xid∧(if r.denied then r.verf=nulA∧r.accept=0∧r.results=[]∧((r.reject=0∧isW r.low∧isW r.high∧r.why=0)∨(r.reject=1∧r.low=0∧r.high=0∧0≤r.why∧r.why≤14))
 else r.verf.may∧r.reject=0∧r.why=0∧0≤r.accept∧r.accept≤5∧((r.accept=0∧plainB r.results∧r.low=0∧r.high=0)∨(r.accept=2∧isW r.low∧isW r.high∧r.results=[])∨(r.accept≠0∧r.accept≠2∧r.low=0∧r.high=0∧r.results=[])))
def ReplyP.lay (r:ReplyP):List UInt8:=nbL 4 r.xid.toNat++(nbL 4 1++(if r.denied then nbL 4 1++(nbL 4 r.reject.toNat++(if r.reject=1 then nbL 4 r.why.toNat else nbL 4 r.low.toNat++nbL 4 r.high.toNat)) else nbL 4 0++(r.verf.lay++(nbL 4 r.accept.toNat++((if r.accept=2 then nbL 4 r.low.toNat++nbL 4 r.high.toNat else [])++r.results)))))
/-- a reply, off the front: a denied one -/
def rdDen (x:Nat) (st:Rs):ReplyP×Rs:=
 let j:=st.go 0 rdWord
 if j.1=1 then (⟨x,true,nulA,0,0,0,[],1,(j.2.go 0 rdWord).1⟩,(j.2.go 0 rdWord).2)
 else (⟨x,true,nulA,0,(j.2.go 0 rdWord).1,((j.2.go 0 rdWord).2.go 0 rdWord).1,[],j.1,0⟩,((j.2.go 0 rdWord).2.go 0 rdWord).2)
/-- another one -/
def rdAcc (x:Nat) (st:Rs):ReplyP:=
 let a:=(rdAuth st).2.go 0 rdWord
 if a.1=2 then ⟨x,false,(rdAuth st).1,2,(a.2.go 0 rdWord).1,((a.2.go 0 rdWord).2.go 0 rdWord).1,((a.2.go 0 rdWord).2.go 0 rdWord).2.l,0,0⟩
 else ⟨x,false,(rdAuth st).1,a.1,0,0,a.2.l,0,0⟩
theorem one_nat {n:Int} (h:n=1):n.toNat=1:=by rw [h];rfl
theorem go_word {n:Int} (h:isW n) (r:List UInt8):(⟨nbL 4 n.toNat++r,0⟩:Rs).go 0 rdWord=(n.toNat,⟨r,0⟩):=go_good (good_word _ (toNat_w h).1) 0 r
theorem den_there (r:ReplyP) (h:r.may) (hd:r.denied=true) (x:Nat) (hx:(x:Int)=r.xid):(rdDen x ⟨nbL 4 r.reject.toNat++(if r.reject=1 then nbL 4 r.why.toNat else nbL 4 r.low.toNat++nbL 4 r.high.toNat),0⟩)=(r,⟨[],0⟩):=by
 obtain ⟨rx,rd,rv,ra,rl,rh,rr,rj,rw_⟩:=r
 obtain ⟨_,h2⟩:=h
 simp only at hd h2 hx ⊢
 subst hd
 rw [if_pos rfl] at h2
 obtain ⟨rfl,rfl,rfl,h3⟩:=h2
 rcases h3 with ⟨rfl,h4,h5,rfl⟩|⟨rfl,rfl,rfl,h4,h5⟩
 · unfold rdDen
   simp only [show ¬ (0:Int)=1 by decide,if_false]
   rw [go_word (n:=0) (by decide)]
   simp only [show ¬ ((0:Int).toNat)=1 by decide,if_false]
   rw [go_word h4]
   simp only []
   have e:=go_word h5 []
   rw [List.append_nil] at e
   rw [e]
   simp only [(toNat_w h4).2,(toNat_w h5).2,hx]
   rfl
 · unfold rdDen
   simp only [if_true]
   rw [go_word (n:=1) (by decide)]
   simp only [show ((1:Int).toNat)=1 from rfl,if_true]
   have hw:isW rw_:=by unfold isW;omega
   have e:=go_word hw []
   rw [List.append_nil] at e
   rw [e]
   simp only [(toNat_w hw).2,hx]
theorem acc_there (r:ReplyP) (h:r.may) (hd:r.denied=false) (x:Nat) (hx:(x:Int)=r.xid):rdAcc x ⟨r.verf.lay++(nbL 4 r.accept.toNat++((if r.accept=2 then nbL 4 r.low.toNat++nbL 4 r.high.toNat else [])++r.results)),0⟩=r:=by
 obtain ⟨rx,rd,rv,ra,rl,rh,rr,rj,rw_⟩:=r
 obtain ⟨_,h2⟩:=h
 simp only at hd h2 hx ⊢
 subst hd
 rw [if_neg (by decide)] at h2
 obtain ⟨h3,rfl,rfl,h4,h5,h6⟩:=h2
 have hw:isW ra:=by unfold isW;omega
 unfold rdAcc
 rw [auth_there _ h3]
 simp only []
 rw [go_word hw]
 simp only []
 rcases h6 with ⟨rfl,_,rfl,rfl⟩|⟨rfl,h7,h8,rfl⟩|⟨h7,h8,rfl,rfl,rfl⟩
 · rw [if_neg (by decide),if_neg (by decide)]
   simp only [hx,List.nil_append]
   rfl
 · rw [if_pos (by decide),if_pos (by decide),List.append_assoc,go_word h7]
   simp only []
   rw [go_word h8]
   simp only [(toNat_w h7).2,(toNat_w h8).2,hx]
 · rw [if_neg (by omega),if_neg (by omega)]
   simp only [hx,List.nil_append,(toNat_w hw).2]
end Go.Proofs.YtfcbjcebkahehaaGreatDoor
