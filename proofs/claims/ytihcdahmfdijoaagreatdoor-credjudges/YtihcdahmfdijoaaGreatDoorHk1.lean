/- Credentials, plain mathematics: a sys and a mark laid down and read. Marks, plain mathematics; what is printed, what is read, who is let in. -/
import Derived.Test.YtihcdahmfdijoaaGreatDoorHr1
namespace Go.Proofs.YtihcdahmfdijoaaGreatDoor
/-- a number of 32 bits -/
def isW (n:Int):Prop:=0≤n∧n≤4294967295
instance (n:Int):Decidable (isW n):=inferInstanceAs (Decidable (_∧_))
structure SysP where
 stamp:Int
 machine:List UInt8
 user:Int
 group:Int
 groups:List Int
def SysP.may (s:SysP):Prop:=isW s.stamp∧isW s.user∧isW s.group∧s.machine.length≤255∧s.groups.length≤16∧∀ g∈s.groups,isW g
instance (s:SysP):Decidable s.may:=inferInstanceAs (Decidable (_∧_))
def layGs:List Int→List UInt8
 | []=>[]
 | g::gs=>nbL 4 g.toNat++layGs gs
def SysP.body (s:SysP):List UInt8:=nbL 4 s.stamp.toNat++((nbL 4 s.machine.length++(s.machine++padB s.machine.length))++(nbL 4 s.user.toNat++(nbL 4 s.group.toNat++(nbL 4 s.groups.length++layGs s.groups))))
def rdGs:Nat→Rs→List Int×Rs
 | 0,st=>([],st)
 | n+1,st=>(((st.go 0 rdWord).1:Int)::(rdGs n (st.go 0 rdWord).2).1,(rdGs n (st.go 0 rdWord).2).2)
/-- five readings, then as many as were told -/
structure SysR where
 a:Nat×Rs
 b:List UInt8×Rs
 c:Nat×Rs
 d:Nat×Rs
 n:Nat×Rs
 g:List Int×Rs
def rdSysR (st:Rs):SysR:=
 let a:=st.go 0 rdWord
 let b:=a.2.go [] (rdOpaque 255)
 let c:=b.2.go 0 rdWord
 let d:=c.2.go 0 rdWord
 let n:=d.2.go 0 (rdCount 16)
 ⟨a,b,c,d,n,rdGs n.1 n.2⟩
def rdSys (st:Rs):SysP×Rs:=(⟨(rdSysR st).a.1,(rdSysR st).b.1,(rdSysR st).c.1,(rdSysR st).d.1,(rdSysR st).g.1⟩,(rdSysR st).g.2)
theorem go_good {α:Type} {f:List UInt8→Rd α} {b:List UInt8} {v:α} (h:Good f b v) (d:α) (r:List UInt8):(⟨b++r,0⟩:Rs).go d f=(v,⟨r,0⟩):=by
 unfold Rs.go
 rw [if_neg (by simp),h.full,if_neg (by simp)]
 simp
theorem go_stay {α:Type} {f:List UInt8→Rd α} {d:α} {st:Rs} (h:st.e≠0):st.go d f=(d,st):=by unfold Rs.go;rw [if_pos h]
/-- a reading without a fault: what it told was laid down ahead -/
theorem go_one {α:Type} {f:List UInt8→Rd α} {lay:α→List UInt8} {P:α→Prop} (h:One f lay P) (d:α) (st:Rs) (he:(st.go d f).2.e=0):st.e=0∧P (st.go d f).1∧st.l=lay (st.go d f).1++(st.go d f).2.l:=by
 by_cases h0:st.e≠0
 · rw [go_stay h0] at he;exact absurd he h0
 · have h1:st.e=0:=Decidable.not_not.1 h0
   unfold Rs.go at he ⊢
   rw [if_neg h0] at he ⊢
   by_cases hw:(f st.l).wrong≠0
   · rw [if_pos hw] at he;exact absurd he hw
   · rw [if_neg hw] at he ⊢
     obtain ⟨_,h3,h4⟩:=h st.l (Decidable.not_not.1 hw)
     refine ⟨h1,h4,?_⟩
     show st.l=lay (f st.l).val++st.l.drop (f st.l).size
     rw [h3,List.take_append_drop]
theorem rdGs_stay:(n:Nat)→(st:Rs)→st.e≠0→(rdGs n st).2=st
 | 0,_,_=>rfl
 | n+1,st,h=>by rw [rdGs];show (rdGs n (st.go 0 rdWord).2).2=st;rw [go_stay h];exact rdGs_stay n st h
theorem toNat_w {g:Int} (h:isW g):g.toNat<4294967296∧((g.toNat:Nat):Int)=g:=by
 unfold isW at h
 exact ⟨by omega,by omega⟩
theorem gs_there:(gs:List Int)→(∀ g∈gs,isW g)→∀ r,rdGs gs.length ⟨layGs gs++r,0⟩=(gs,⟨r,0⟩)
 | [],_,r=>rfl
 | g::gs,h,r=>by
  obtain ⟨h1,h2⟩:=toNat_w (h g (List.mem_cons_self ..))
  rw [List.length_cons,rdGs,layGs,List.append_assoc,go_good (good_word g.toNat h1),gs_there gs (fun x hx=>h x (List.mem_cons_of_mem _ hx)) r]
  simp only [h2]
theorem gs_back:(n:Nat)→(st:Rs)→(rdGs n st).2.e=0→st.e=0∧(rdGs n st).1.length=n∧(∀ g∈(rdGs n st).1,isW g)∧st.l=layGs (rdGs n st).1++(rdGs n st).2.l
 | 0,st,h=>⟨h,rfl,fun g hg=>by simp [rdGs] at hg,by simp [rdGs,layGs]⟩
 | n+1,st,h=>by
  rw [rdGs] at h ⊢
  obtain ⟨h1,h2,h3,h4⟩:=gs_back n (st.go 0 rdWord).2 h
  obtain ⟨g1,g2,g3⟩:=go_one one_word 0 st h1
  refine ⟨g1,by simp [h2],fun g hg=>?_,?_⟩
  · rcases List.mem_cons.1 hg with rfl|hg
    · unfold isW;omega
    · exact h3 g hg
  · show st.l=nbL 4 (((st.go 0 rdWord).1:Int)).toNat++layGs _++_
    rw [List.append_assoc,← h4]
    exact g3
/-- what was laid down is read as it was -/
theorem sys_there (s:SysP) (h:s.may) (r:List UInt8):rdSys ⟨s.body++r,0⟩=(s,⟨r,0⟩):=by
 obtain ⟨h1,h2,h3,h4,h5,h6⟩:=h
 obtain ⟨a1,a2⟩:=toNat_w h1
 obtain ⟨c1,c2⟩:=toNat_w h2
 obtain ⟨d1,d2⟩:=toNat_w h3
 obtain ⟨x1,x2,x3,x4,x5,e⟩:∃ x1 x2 x3 x4 x5,rdSysR ⟨s.body++r,0⟩=⟨(s.stamp.toNat,x1),(s.machine,x2),(s.user.toNat,x3),(s.group.toNat,x4),(s.groups.length,x5),(s.groups,⟨r,0⟩)⟩:=by
  unfold rdSysR SysP.body
  simp only [List.append_assoc]
  rw [go_good (good_word _ a1)]
  simp only []
  rw [show nbL 4 s.machine.length++(s.machine++(padB s.machine.length++(nbL 4 s.user.toNat++(nbL 4 s.group.toNat++(nbL 4 s.groups.length++(layGs s.groups++r))))))=(nbL 4 s.machine.length++(s.machine++padB s.machine.length))++(nbL 4 s.user.toNat++(nbL 4 s.group.toNat++(nbL 4 s.groups.length++(layGs s.groups++r)))) by simp only [List.append_assoc]]
  rw [go_good (good_opaque 255 s.machine (by omega) (by decide))]
  simp only []
  rw [go_good (good_word _ c1)]
  simp only []
  rw [go_good (good_word _ d1)]
  simp only []
  rw [go_good (good_count 16 s.groups.length (by omega) (by decide))]
  simp only []
  rw [gs_there s.groups h6 r]
  exact ⟨_,_,_,_,_,rfl⟩
 unfold rdSys
 rw [e]
 simp only [a2,c2,d2]
/-- what is read without a fault may be, and was laid down so -/
theorem sys_back (st:Rs) (h:(rdSys st).2.e=0):st.e=0∧(rdSys st).1.may∧st.l=(rdSys st).1.body++(rdSys st).2.l:=by
 have h0:(rdGs (rdSysR st).n.1 (rdSysR st).n.2).2.e=0:=h
 obtain ⟨g1,g2,g3,g4⟩:=gs_back _ _ h0
 obtain ⟨n1,n2,n3⟩:=go_one (one_count 16) 0 (rdSysR st).d.2 g1
 obtain ⟨d1,d2,d3⟩:=go_one one_word 0 (rdSysR st).c.2 n1
 obtain ⟨c1,c2,c3⟩:=go_one one_word 0 (rdSysR st).b.2 d1
 obtain ⟨b1,b2,b3⟩:=go_one (one_opaque 255) [] (rdSysR st).a.2 c1
 obtain ⟨a1,a2,a3⟩:=go_one one_word 0 st b1
 have w:∀ n:Nat,n<4294967296→isW (n:Int):=fun n hn=>by unfold isW;omega
 have hg2:(rdSysR st).g.1.length=(rdSysR st).n.1:=g2
 refine ⟨a1,⟨w _ a2,w _ c2,w _ d2,?_,?_,g3⟩,?_⟩
 · have:=b2.2.2
   show (rdSysR st).b.1.length≤255
   exact Int.ofNat_le.1 this
 · show (rdSysR st).g.1.length≤16
   rw [hg2]
   exact Int.ofNat_le.1 n2.2.2
 · have ea:(st.go 0 rdWord)=(rdSysR st).a:=rfl
   have eb:((rdSysR st).a.2.go [] (rdOpaque 255))=(rdSysR st).b:=rfl
   have ec:((rdSysR st).b.2.go 0 rdWord)=(rdSysR st).c:=rfl
   have ed:((rdSysR st).c.2.go 0 rdWord)=(rdSysR st).d:=rfl
   have en:((rdSysR st).d.2.go 0 (rdCount 16))=(rdSysR st).n:=rfl
   have eg:rdGs (rdSysR st).n.1 (rdSysR st).n.2=(rdSysR st).g:=rfl
   rw [ea] at a3
   rw [eb] at b3
   rw [ec] at c3
   rw [ed] at d3
   rw [en] at n3
   rw [eg] at g4
   rw [a3,b3,c3,d3,n3,g4]
   show _=SysP.body ⟨_,_,_,_,_⟩++_
   unfold SysP.body
   simp only [Int.toNat_natCast,List.append_assoc,hg2]
   rfl
theorem layGs_len:(gs:List Int)→(layGs gs).length=4*gs.length
 | []=>rfl
 | g::gs=>by rw [layGs,List.length_append,nbL_len,layGs_len gs,List.length_cons];omega
theorem body_len (s:SysP) (h:s.may):s.body.length≤340∧s.body.length%4=0:=by
 obtain ⟨_,_,_,h4,h5,_⟩:=h
 unfold SysP.body
 simp only [List.length_append,nbL_len,layGs_len,padB_len]
 unfold pads
 omega
end Go.Proofs.YtihcdahmfdijoaaGreatDoor
namespace Go.Proofs.YtihcdahmfdijoaaGreatDoor
structure MarkP where
 inst:Int
 seq:Int
 water:Int
 sys:SysP
def MarkP.may (m:MarkP):Prop:=(1≤m.inst∧m.inst≤4611686018427387904)∧(1≤m.seq∧m.seq≤4294967295)∧(1≤m.water∧m.water≤4294967295)∧m.sys.may
instance (m:MarkP):Decidable m.may:=inferInstanceAs (Decidable (_∧_))
def MarkP.body (m:MarkP):List UInt8:=nbL 8 m.inst.toNat++(nbL 8 m.seq.toNat++(nbL 8 m.water.toNat++m.sys.body))
/-- 64 bits as a number with a sign -/
def sg64 (n:Nat):Int:=if n<9223372036854775808 then n else (n:Int)-18446744073709551616
structure MarkR where
 a:Nat×Rs
 b:Nat×Rs
 c:Nat×Rs
 s:SysP×Rs
def rdMarkR (st:Rs):MarkR:=
 let a:=st.go 0 rdHyper
 let b:=a.2.go 0 rdHyper
 let c:=b.2.go 0 rdHyper
 ⟨a,b,c,rdSys c.2⟩
def rdMark (st:Rs):MarkP×Rs:=(⟨sg64 (rdMarkR st).a.1,sg64 (rdMarkR st).b.1,sg64 (rdMarkR st).c.1,(rdMarkR st).s.1⟩,(rdMarkR st).s.2)
theorem sg_small {n:Int} (h0:0≤n) (h1:n<9223372036854775808):n.toNat<18446744073709551616∧sg64 n.toNat=n:=by
 unfold sg64
 refine ⟨by omega,?_⟩
 rw [if_pos (by omega)]
 omega
theorem sg_back {n:Nat} (h:0≤sg64 n) (hn:n<18446744073709551616):(sg64 n).toNat=n:=by
 unfold sg64 at h ⊢
 split at h
 · rename_i h1;rw [if_pos h1];simp
 · omega
theorem mark_there (m:MarkP) (h:m.may) (r:List UInt8):rdMark ⟨m.body++r,0⟩=(m,⟨r,0⟩):=by
 obtain ⟨h1,h2,h3,h4⟩:=h
 obtain ⟨a1,a2⟩:=sg_small (n:=m.inst) (by omega) (by omega)
 obtain ⟨b1,b2⟩:=sg_small (n:=m.seq) (by omega) (by omega)
 obtain ⟨c1,c2⟩:=sg_small (n:=m.water) (by omega) (by omega)
 obtain ⟨x1,x2,x3,e⟩:∃ x1 x2 x3,rdMarkR ⟨m.body++r,0⟩=⟨(m.inst.toNat,x1),(m.seq.toNat,x2),(m.water.toNat,x3),(m.sys,⟨r,0⟩)⟩:=by
  unfold rdMarkR MarkP.body
  simp only [List.append_assoc]
  rw [go_good (good_hyper _ a1)]
  simp only []
  rw [go_good (good_hyper _ b1)]
  simp only []
  rw [go_good (good_hyper _ c1)]
  simp only []
  rw [sys_there m.sys h4 r]
  exact ⟨_,_,_,rfl⟩
 unfold rdMark
 rw [e]
 simp only [a2,b2,c2]
theorem mark_back (st:Rs) (h:(rdMark st).2.e=0):st.e=0∧(rdMark st).1.sys.may∧((rdMark st).1.may→st.l=(rdMark st).1.body++(rdMark st).2.l):=by
 have h0:(rdSys (rdMarkR st).c.2).2.e=0:=h
 obtain ⟨s1,s2,s3⟩:=sys_back _ h0
 obtain ⟨c1,c2,c3⟩:=go_one one_hyper 0 (rdMarkR st).b.2 s1
 obtain ⟨b1,b2,b3⟩:=go_one one_hyper 0 (rdMarkR st).a.2 c1
 obtain ⟨a1,a2,a3⟩:=go_one one_hyper 0 st b1
 refine ⟨a1,s2,fun hm=>?_⟩
 have ea:(st.go 0 rdHyper)=(rdMarkR st).a:=rfl
 have eb:((rdMarkR st).a.2.go 0 rdHyper)=(rdMarkR st).b:=rfl
 have ec:((rdMarkR st).b.2.go 0 rdHyper)=(rdMarkR st).c:=rfl
 have es:rdSys (rdMarkR st).c.2=(rdMarkR st).s:=rfl
 rw [ea] at a2 a3
 rw [eb] at b2 b3
 rw [ec] at c2 c3
 rw [es] at s3
 have m1:1≤sg64 (rdMarkR st).a.1:=hm.1.1
 have m2:1≤sg64 (rdMarkR st).b.1:=hm.2.1.1
 have m3:1≤sg64 (rdMarkR st).c.1:=hm.2.2.1.1
 show _=MarkP.body ⟨_,_,_,_⟩++_
 unfold MarkP.body
 rw [a3,b3,c3,s3]
 simp only [List.append_assoc,sg_back (by omega) a2,sg_back (by omega) b2,sg_back (by omega) c2]
 rfl
theorem mbody_len (m:MarkP) (h:m.may):m.body.length≤364∧m.body.length%4=0∧m.body.drop 24=m.sys.body:=by
 obtain ⟨h1,h2⟩:=body_len m.sys h.2.2.2
 unfold MarkP.body
 refine ⟨by simp only [List.length_append,nbL_len];omega,by simp only [List.length_append,nbL_len];omega,?_⟩
 rw [← List.append_assoc,← List.append_assoc,List.drop_left' (by simp only [List.length_append,nbL_len])]
def nulS:SysP:=⟨0,[],0,0,[]⟩
def nulM:MarkP:=⟨0,0,0,nulS⟩
/-- what is printed: the body, or a fault -/
def printS (s:SysP):Option (List UInt8):=if s.may then some s.body else none
def printM (m:MarkP):Option (List UInt8):=if m.may then some m.body else none
/-- what is read of a body -/
def readS (b:List UInt8):Option SysP:=if (rdSys ⟨b,0⟩).2.e=0∧(rdSys ⟨b,0⟩).2.l=[] then some (rdSys ⟨b,0⟩).1 else none
def readM (b:List UInt8):Option MarkP:=if ((rdMark ⟨b,0⟩).2.e=0∧(rdMark ⟨b,0⟩).2.l=[])∧(rdMark ⟨b,0⟩).1.may then some (rdMark ⟨b,0⟩).1 else none
theorem readS_iff (b:List UInt8) (s:SysP):readS b=some s↔s.may∧b=s.body:=by
 unfold readS
 constructor
 · intro h
   split at h
   · rename_i hc
     cases h
     obtain ⟨_,h2,h3⟩:=sys_back ⟨b,0⟩ hc.1
     rw [hc.2,List.append_nil] at h3
     exact ⟨h2,h3⟩
   · cases h
 · rintro ⟨h1,rfl⟩
   have e:=sys_there s h1 []
   rw [List.append_nil] at e
   rw [e,if_pos ⟨rfl,rfl⟩]
theorem readM_iff (b:List UInt8) (m:MarkP):readM b=some m↔m.may∧b=m.body:=by
 unfold readM
 constructor
 · intro h
   split at h
   · rename_i hc
     cases h
     obtain ⟨_,_,h3⟩:=mark_back ⟨b,0⟩ hc.1.1
     have h4:=h3 hc.2
     rw [hc.1.2,List.append_nil] at h4
     exact ⟨hc.2,h4⟩
   · cases h
 · rintro ⟨h1,rfl⟩
   have e:=mark_there m h1 []
   rw [List.append_nil] at e
   rw [e,if_pos ⟨⟨rfl,rfl⟩,h1⟩]
end Go.Proofs.YtihcdahmfdijoaaGreatDoor
