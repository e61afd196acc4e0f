import Derived.Below
import Derived.Test.YtighggeokiahfaaGreatDoorRows
import Derived.WalkKit
import Derived.WalkSpells
import Derived.WalkLawsBesides
import Derived.Deep.QuietTactic
import Derived.BigQuiet
import Derived.Deep.RegionWith
import Derived.BigRegion
import Derived.Deep.AppendLies
import Derived.Laws.OwnMore
set_option maxRecDepth 4000
set_option maxHeartbeats 20000000
namespace Go.Proofs.YtighggeokiahfaaGreatDoor
open Go.RowKit
theorem hid {p:Prop} (h:p):Hid p:=h
theorem hid2 {p q:Prop} (h:p) (i:q):Hid (p∧q):=⟨h,i⟩
theorem hid3 {p q r:Prop} (h:p) (i:q) (j:r):Hid (p∧q∧r):=⟨h,i,j⟩
theorem hid4 {p q r s:Prop} (h:p) (i:q) (j:r) (k:s):Hid (p∧q∧r∧s):=⟨h,i,j,k⟩
end Go.Proofs.YtighggeokiahfaaGreatDoor
namespace Go.Proofs.YtighggeokiahfaaGreatDoor
def ze2 (c:Int):Bool:=(decide (97<=c)&&decide (c<=122))||(decide (65<=c)&&decide (c<=90))
def zg7 (c:Int):Bool:=decide (48<=c)&&decide (c<=57)
def runP (c:Int):Bool:=ze2 c||zg7 c||c==95
def runB (c:UInt8):Bool:=runP (c.toNat:Int)
def letB (c:UInt8):Bool:=ze2 (c.toNat:Int)
def digB (c:UInt8):Bool:=zg7 (c.toNat:Int)
def zdt (c:UInt8):Bool:=c==32||c==9||c==10||c==13
def zj8:List UInt8:=[123,125,40,41,91,93,60,62,61,59,58,44,42]
def zeu (c:UInt8):Bool:=zj8.contains c
def zhz:List (List UInt8):=[[98,111,111,108],[99,97,115,101],[99,111,110,115,116],[100,101,102,97,117,108,116],[100,111,117,98,108,101],[101,110,117,109],[102,108,111,97,116],[104,121,112,101,114],[105,110,116],[111,112,97,113,117,101],[112,114,111,103,114,97,109],[113,117,97,100,114,117,112,108,101],[115,116,114,105,110,103],[115,116,114,117,99,116],[115,119,105,116,99,104],[116,121,112,101,100,101,102],[117,110,105,111,110],[117,110,115,105,103,110,101,100],[118,101,114,115,105,111,110],[118,111,105,100]]
def za6 (l:List UInt8):Bool:=zhz.contains l
structure Tok where
 kind:Int
 text:List UInt8
 num:Int
 at_:Nat
deriving DecidableEq
inductive Res where
 | ok (l:List Tok)
 | err (e:Int) (i:Nat)
deriving DecidableEq
def digV (c:UInt8):Nat :=
 if digB c then c.toNat - 48 else if 97<=c.toNat∧c.toNat<=102 then c.toNat - 97+10 else if 65<=c.toNat∧c.toNat<=70 then c.toNat - 65+10 else 16
def zcm (base most:Nat):Nat->List UInt8->Option Nat
 | n,[]=>some n
 | n,c::r=>if base<=digV c then none else if most<n*base+digV c then none else zcm base most (n*base+digV c) r
def zb1 (ds:List UInt8) (base most:Nat):Option Nat:=if ds=[] then none else zcm base most 0 ds
def zds (r:List UInt8):List UInt8 × Nat :=
 if r.getD 0 0≠48 then (r,10) else if 1<r.length∧r.getD 1 0=120 then (r.drop 2,16) else (r,8)
def numP (t:List UInt8):Option Int :=
 if t.getD 0 0≠45 then (zb1 (zds t).1 (zds t).2 4294967295).map (fun (n:Nat)=>(n:Int))
 else if (zds (t.drop 1)).2≠10 then none
 else (zb1 (zds (t.drop 1)).1 10 2147483648).map (fun (n:Nat)=>-(n:Int))
def zdg (c:UInt8):Nat :=
 if zdt c then 0 else if letB c then 6 else if digB c then 5 else if zeu c then 7 else if c==45 then 4 else if c==47 then 1 else 8
def zc0 (st:Nat) (c:UInt8):Nat × Bool :=
 if st=1 then (2,c==42)
 else if st=2∨st=3 then (if c==42 then 3 else if c==47&&st==3 then 0 else 2,true)
 else if st=4 then (5,digB c)
 else if st=5∨st=6 then (st,runB c)
 else (st,false)
def sub (l:List UInt8) (i j:Nat):List UInt8:=(l.drop i).take (j - i)
def endP (l:List UInt8) (st frm at_:Nat):Int × Option Tok :=
 if st=8∨st=1∨st=4 then (30,none)
 else if st=2∨st=3 then (33,none)
 else if st=5 then (match numP (sub l frm at_) with|some n=>(0,some ⟨3,[],n,frm⟩)|none=>(31,none))
 else if st=6 then (if 32<(sub l frm at_).length then (32,none) else (0,some ⟨if za6 (sub l frm at_) then 2 else 1,sub l frm at_,0,frm⟩))
 else if st=7 then (0,some ⟨4,sub l frm at_,0,frm⟩)
 else (0,none)
def zia (l:List UInt8):List UInt8->Nat->Nat->Nat->List Tok->Res
 | [],at_,st,frm,ts=>if (endP l st frm at_).1=0 then .ok (ts++(endP l st frm at_).2.toList++[⟨5,[],0,l.length⟩]) else .err (endP l st frm at_).1 frm
 | c::r,at_,st,frm,ts =>
  if (zc0 st c).2 then zia l r (at_+1) (zc0 st c).1 frm ts
  else if (endP l st frm at_).1=0 then zia l r (at_+1) (zdg c) at_ (ts++(endP l st frm at_).2.toList)
  else .err (endP l st frm at_).1 frm
def ze9 (l:List UInt8):Res:=if 16000<l.length then .err 34 16000 else zia l l 0 0 0 []
/- from token to token -/
def zas (l:List UInt8) (i:Nat):Nat:=i+((l.drop i).takeWhile runB).length
def cendL:List UInt8->Option Nat
 | []=>none
 | [_]=>none
 | a::b::r=>if a=42∧b=47 then some 2 else (cendL (b::r)).map (·+1)
def cend (l:List UInt8) (i:Nat):Option Nat:=(cendL (l.drop i)).map (i+·)
inductive Stp where
 | err (e:Int)
 | go (t:Option Tok) (j:Nat)
def zbb (l:List UInt8) (i:Nat):Nat:=if l.getD i 0=45 then i+1 else i
def zdd (l:List UInt8) (i:Nat):Stp :=
 if zdt (l.getD i 0) then .go none (i+1)
 else if l.getD i 0=47∧l.getD (i+1) 0=42 then (match cend l (i+2) with|none=>.err 33|some j=>.go none j)
 else if letB (l.getD i 0) then
  (if 32<zas l i - i then .err 32 else .go (some ⟨if za6 (sub l i (zas l i)) then 2 else 1,sub l i (zas l i),0,i⟩) (zas l i))
 else if digB (l.getD (zbb l i) 0) then
  (match numP (sub l i (zas l (zbb l i))) with|none=>.err 31|some n=>.go (some ⟨3,[],n,i⟩) (zas l (zbb l i)))
 else if zeu (l.getD i 0) then .go (some ⟨4,sub l i (i+1),0,i⟩) (i+1)
 else .err 30
inductive Scans (l:List UInt8):Nat->List Tok->Res->Prop
 | done {i ts} (h:l.length<=i):Scans l i ts (.ok (ts++[⟨5,[],0,l.length⟩]))
 | err {i ts e} (h:i<l.length) (hs:zdd l i=.err e):Scans l i ts (.err e i)
 | go {i ts t j R} (h:i<l.length) (hs:zdd l i=.go t j) (hr:Scans l j (ts++t.toList) R):Scans l i ts R
theorem Scans.det {l:List UInt8} {i:Nat} {ts:List Tok} {R R' : Res} (h:Scans l i ts R) (h' : Scans l i ts R'):R=R':=by
 induction h with
 | done h=>cases h' with
  | done _=>rfl
  | err h2 _=>omega
  | go h2 _ _=>omega
 | err h hs=>cases h' with
  | done h2=>omega
  | err h2 hs2=>rw [hs] at hs2;cases hs2;rfl
  | go h2 hs2 _=>rw [hs] at hs2;cases hs2
 | go h hs hr ih=>cases h' with
  | done h2=>omega
  | err h2 hs2=>rw [hs] at hs2;cases hs2
  | go h2 hs2 hr2=>rw [hs] at hs2;cases hs2;exact ih hr2
theorem getD_lt {l:List UInt8} {i:Nat} (h:i<l.length):l.getD i 0=l[i]:=by simp [List.getD,h]
theorem zfw {l:List UInt8} {i:Nat} (h:l.length<=i):l.getD i 0=0:=by simp [List.getD,h]
theorem zeh {l:List UInt8} {i:Nat} (h:i<l.length):l.drop i=l.getD i 0::l.drop (i+1):=by
 rw [getD_lt h];exact List.drop_eq_getElem_cons h
theorem runB_zero:runB 0=false:=by decide
theorem zfr {l:List UInt8} {i:Nat} (h:runB (l.getD i 0)=false):zas l i=i:=by
 unfold zas;by_cases hl:i<l.length
 · rw [zeh hl,List.takeWhile_cons_of_neg (by rw [h];decide)];rfl
 · rw [List.drop_eq_nil_of_le (by omega)];rfl
theorem zfs {l:List UInt8} {i:Nat} (h:runB (l.getD i 0)=true):zas l i=zas l (i+1):=by
 unfold zas;by_cases hl:i<l.length
 · rw [zeh hl,List.takeWhile_cons_of_pos h,List.length_cons];omega
 · rw [zfw (by omega)] at h;simp [runB_zero] at h
theorem zk6 {l:List UInt8} {i k:Nat} (hik:i<=k) (h:∀ j,i<=j->j<k->runB (l.getD j 0)=true):zas l i=zas l k:=by
 obtain ⟨d,rfl⟩:∃ d,k=i+d:=⟨k - i,by omega⟩;clear hik;induction d generalizing i with
 | zero=>rfl
 | succ d ih =>
  rw [zfs (h i (by omega) (by omega)),ih fun j h1 h2=>h j (by omega) (by omega)];congr 1;omega
theorem zgl {l:List UInt8} {i:Nat} (h:i<=l.length):i<=zas l i∧zas l i<=l.length:=by
 unfold zas;have:=(List.takeWhile_sublist (p:=runB) (l:=l.drop i)).length_le;simp at this
 omega
theorem zeq {l:List UInt8} {i:Nat} (h:l.length<=i+1):cend l i=none:=by
 unfold cend;have:(l.drop i).length<=1:=by simp;omega
 match hd:l.drop i with
 | []=>rfl
 | [_]=>rfl
 | a::b::r=>rw [hd] at this;simp at this
theorem zlt {l:List UInt8} {i:Nat} (h1:l.getD i 0=42) (h2:l.getD (i+1) 0=47):cend l i=some (i+2):=by
 have hl:i+1<l.length:=by
  rcases Nat.lt_or_ge (i+1) l.length with h|h
  · exact h
  · rw [zfw h] at h2;cases h2
 unfold cend;rw [zeh (by omega),zeh hl,h1,h2];rfl
theorem zfx {l:List UInt8} {i:Nat} (h:¬ (l.getD i 0=42∧l.getD (i+1) 0=47)):cend l i=cend l (i+1):=by
 rcases Nat.lt_or_ge (i+1) l.length with hl|hl
 · unfold cend;rw [zeh (i:=i) (by omega),zeh hl];rw [cendL,if_neg h];cases cendL (l.getD (i+1) 0::l.drop (i+1+1)) with
   | none=>rfl
   | some k=>simp;omega
 · rw [zeq hl,zeq (by omega)]
def Fits (l:List UInt8) (at_ st frm:Nat):Prop :=
 match st with
 | 0=>True
 | 1=>frm+1=at_∧l.getD frm 0=47
 | 2=>frm+2<=at_∧l.getD frm 0=47∧l.getD (frm+1) 0=42∧cend l (frm+2)=cend l at_
 | 3=>frm+3<=at_∧l.getD frm 0=47∧l.getD (frm+1) 0=42∧cend l (frm+2)=cend l (at_ - 1)∧l.getD (at_ - 1) 0=42
 | 4=>frm+1=at_∧l.getD frm 0=45
 | 5=>frm<at_∧zbb l frm<at_∧digB (l.getD (zbb l frm) 0)=true∧(∀ j,zbb l frm<=j->j<at_->runB (l.getD j 0)=true)
 | 6=>frm<at_∧letB (l.getD frm 0)=true∧(∀ j,frm<=j->j<at_->runB (l.getD j 0)=true)
 | 7=>frm+1=at_∧zeu (l.getD frm 0)=true
 | 8=>frm+1=at_∧zdg (l.getD frm 0)=8
 | _=>False
def zk8 (at_ st frm:Nat):Nat:=if st=0 then at_ else frm
theorem zek (p:UInt8->Bool) (h:(List.range 256).all (fun n=>p (UInt8.ofNat n))=true) (c:UInt8):p c=true:=by
 have hc:c.toNat<256:=c.toNat_lt;have:=List.all_eq_true.1 h c.toNat (List.mem_range.2 hc);rwa [show UInt8.ofNat c.toNat=c by simp] at this
theorem zjk {c:UInt8} (h:letB c=true):zdt c=false∧c≠47∧digB c=false∧c≠45∧zeu c=false∧runB c=true:=by
 have:=zek (fun c=>decide (letB c=true->zdt c=false∧c≠47∧digB c=false∧c≠45∧zeu c=false∧runB c=true)) (by decide +kernel) c;exact of_decide_eq_true this h
theorem zhj {c:UInt8} (h:digB c=true):zdt c=false∧c≠47∧letB c=false∧c≠45∧zeu c=false∧runB c=true:=by
 have:=zek (fun c=>decide (digB c=true->zdt c=false∧c≠47∧letB c=false∧c≠45∧zeu c=false∧runB c=true)) (by decide +kernel) c;exact of_decide_eq_true this h
theorem sign_not {c:UInt8} (h:zeu c=true):zdt c=false∧c≠47∧letB c=false∧c≠45∧digB c=false∧runB c=false:=by
 have:=zek (fun c=>decide (zeu c=true->zdt c=false∧c≠47∧letB c=false∧c≠45∧digB c=false∧runB c=false)) (by decide +kernel) c;exact of_decide_eq_true this h
theorem begin_8 {c:UInt8} (h:zdg c=8):zdt c=false∧letB c=false∧digB c=false∧zeu c=false∧c≠45∧c≠47:=by
 have:=zek (fun c=>decide (zdg c=8->zdt c=false∧letB c=false∧digB c=false∧zeu c=false∧c≠45∧c≠47)) (by decide +kernel) c;exact of_decide_eq_true this h
theorem zlz (c:UInt8):(zdg c=0∧zdt c=true)∨(zdg c=6∧letB c=true)∨(zdg c=5∧digB c=true)∨(zdg c=7∧zeu c=true)∨(zdg c=4∧c=45)∨(zdg c=1∧c=47)∨zdg c=8:=by
 have:=zek (fun c=>decide ((zdg c=0∧zdt c=true)∨(zdg c=6∧letB c=true)∨(zdg c=5∧digB c=true)∨(zdg c=7∧zeu c=true)∨(zdg c=4∧c=45)∨(zdg c=1∧c=47)∨zdg c=8)) (by decide +kernel) c;exact of_decide_eq_true this
theorem zgj {l:List UInt8} {i j:Nat} (hi:i<=j) (hj:j<=l.length):(sub l i j).length=j - i:=by
 unfold sub;simp;omega
theorem Fits.first {l:List UInt8} {i:Nat} : Fits l (i+1) (zdg (l.getD i 0)) i:=by
 rcases zlz (l.getD i 0) with ⟨h,_⟩|⟨h,hc⟩|⟨h,hc⟩|⟨h,hc⟩|⟨h,hc⟩|⟨h,hc⟩|h
 · rw [h];trivial
 · rw [h];exact ⟨by omega,hc,fun j h1 h2=>by rw [show j=i by omega];exact (zjk hc).2.2.2.2.2⟩
 · rw [h];have hn:zbb l i=i:=by unfold zbb;rw [if_neg (zhj hc).2.2.2.1]
   exact ⟨by omega,by rw [hn];omega,by rw [hn];exact hc,fun j h1 h2=>by rw [hn] at h1;rw [show j=i by omega];exact (zhj hc).2.2.2.2.2⟩
 · rw [h];exact ⟨rfl,hc⟩
 · rw [h];exact ⟨rfl,hc⟩
 · rw [h];exact ⟨rfl,hc⟩
 · rw [h];exact ⟨rfl,h⟩
theorem Fits.on {l:List UInt8} {at_ st frm:Nat} (h:Fits l at_ st frm) (hg:(zc0 st (l.getD at_ 0)).2=true) :
 ((zc0 st (l.getD at_ 0)).1=0∧st=3∧zdd l frm=.go none (at_+1))∨(st≠0∧(zc0 st (l.getD at_ 0)).1≠0∧Fits l (at_+1) (zc0 st (l.getD at_ 0)).1 frm):=by
 match st,h with
 | 0,_=>simp [zc0] at hg
 | 1,⟨h1,h2⟩ =>
  subst h1;have hc:l.getD (frm+1) 0=42:=by simpa [zc0] using hg
  refine .inr ⟨by decide,by simp [zc0],?_⟩;show Fits l (frm+1+1) 2 frm;exact ⟨by omega,h2,hc,rfl⟩
 | 2,⟨h1,h2,h3,h4⟩ =>
  refine .inr ⟨by decide,?_⟩;by_cases hc:l.getD at_ 0=42
  · have e:(zc0 2 (l.getD at_ 0)).1=3:=(by simp only [zc0,hc];rfl);rw [e];exact ⟨by decide,by omega,h2,h3,h4,hc⟩
  · have e:(zc0 2 (l.getD at_ 0)).1=2:=by
     unfold zc0;simp only [beq_eq_false_iff_ne.2 hc];simp
    rw [e];exact ⟨by decide,by omega,h2,h3,by rw [h4];exact zfx fun h=>hc h.1⟩
 | 3,⟨h1,h2,h3,h4,h5⟩ =>
  by_cases hc:l.getD at_ 0=42
  · have e:(zc0 3 (l.getD at_ 0)).1=3:=(by simp only [zc0,hc];rfl);rw [e];refine .inr ⟨by decide,by decide,by omega,h2,h3,?_,hc⟩;rw [h4,show at_+1 - 1=at_ - 1+1 by omega];refine zfx fun h=>?_;rw [show at_ - 1+1=at_ by omega,hc] at h;exact absurd h.2 (by decide)
  · by_cases hs:l.getD at_ 0=47
    · have e:(zc0 3 (l.getD at_ 0)).1=0:=(by simp only [zc0,hs];rfl);refine .inl ⟨e,rfl,?_⟩;unfold zdd;rw [if_neg (by rw [h2];decide),if_pos ⟨h2,h3⟩,h4,zlt h5 (by rw [show at_ - 1+1=at_ by omega];exact hs)];simp only;rw [show at_ - 1+2=at_+1 by omega]
    · have e:(zc0 3 (l.getD at_ 0)).1=2:=by
       unfold zc0;simp only [beq_eq_false_iff_ne.2 hc,beq_eq_false_iff_ne.2 hs];simp
      rw [e];refine .inr ⟨by decide,by decide,by omega,h2,h3,?_⟩;rw [h4];have e1:cend l (at_ - 1)=cend l (at_ - 1+1):=zfx fun h=>hs (by rw [<- h.2];congr 1;omega);rw [e1,show at_ - 1+1=at_ by omega];exact zfx fun h=>hc h.1
 | 4,⟨h1,h2⟩ =>
  subst h1;have hc:digB (l.getD (frm+1) 0)=true:=by simpa [zc0] using hg
  have hn:zbb l frm=frm+1:=by unfold zbb;rw [if_pos h2]
  refine .inr ⟨by decide,by simp [zc0],?_⟩;show Fits l (frm+1+1) 5 frm;exact ⟨by omega,by omega,by rw [hn];exact hc,fun j h3 h4=>by rw [show j=frm+1 by omega];exact (zhj hc).2.2.2.2.2⟩
 | 5,⟨h1,h2,h3,h4⟩ =>
  have hc:runB (l.getD at_ 0)=true:=by simpa [zc0] using hg
  refine .inr ⟨by decide,by simp [zc0],?_⟩;show Fits l (at_+1) 5 frm;exact ⟨by omega,by omega,h3,fun j h5 h6=>by
   rcases Nat.lt_or_ge j at_ with h7|h7
   · exact h4 j h5 h7
   · rw [show j=at_ by omega];exact hc⟩
 | 6,⟨h1,h3,h4⟩ =>
  have hc:runB (l.getD at_ 0)=true:=by simpa [zc0] using hg
  refine .inr ⟨by decide,by simp [zc0],?_⟩;show Fits l (at_+1) 6 frm;exact ⟨by omega,h3,fun j h5 h6=>by
   rcases Nat.lt_or_ge j at_ with h7|h7
   · exact h4 j h5 h7
   · rw [show j=at_ by omega];exact hc⟩
 | 7,_=>simp [zc0] at hg
 | 8,_=>simp [zc0] at hg
 | n+9,h=>exact h.elim
theorem Fits.stop {l:List UInt8} {at_ st frm:Nat} (h:Fits l at_ st frm) (h0:st≠0) (hl:at_<=l.length) (hg:(zc0 st (l.getD at_ 0)).2=false∨at_=l.length) :
 frm<l.length∧zdd l frm=if (endP l st frm at_).1=0 then .go (endP l st frm at_).2 at_ else .err (endP l st frm at_).1:=by
 match st,h with
 | 0,_=>exact absurd rfl h0
 | 1,⟨h1,h2⟩ =>
  subst h1;have hc:l.getD (frm+1) 0≠42:=by
   rcases hg with hg|hg
   · simpa [zc0] using hg
   · rw [hg,zfw (Nat.le_refl _)];decide
  refine ⟨by omega,?_⟩;have hn:zbb l frm=frm:=by unfold zbb;rw [if_neg (by rw [h2];decide)]
  unfold zdd;rw [hn,h2,if_neg (by decide),if_neg (fun h=>hc h.2),if_neg (by decide),if_neg (by decide),if_neg (by decide)];rfl
 | 2,⟨h1,h2,h3,h4⟩ =>
  have hg:at_=l.length:=by
   rcases hg with hg|hg
   · simp [zc0] at hg
   · exact hg
  refine ⟨by omega,?_⟩;unfold zdd;rw [if_neg (by rw [h2];decide),if_pos ⟨h2,h3⟩,h4,zeq (by omega)];rfl
 | 3,⟨h1,h2,h3,h4,h5⟩ =>
  have hg:at_=l.length:=by
   rcases hg with hg|hg
   · simp [zc0] at hg
   · exact hg
  refine ⟨by omega,?_⟩;unfold zdd;rw [if_neg (by rw [h2];decide),if_pos ⟨h2,h3⟩,h4,zeq (by omega)];rfl
 | 4,⟨h1,h2⟩ =>
  subst h1;have hc:digB (l.getD (frm+1) 0)=false:=by
   rcases hg with hg|hg
   · simpa [zc0] using hg
   · rw [hg,zfw (Nat.le_refl _)];decide
  refine ⟨by omega,?_⟩;have hn:zbb l frm=frm+1:=by unfold zbb;rw [if_pos h2]
  unfold zdd;rw [hn,h2,if_neg (by decide),if_neg (fun h=>absurd h.1 (by decide)),if_neg (by decide),if_neg (by rw [hc];decide),if_neg (by decide)];rfl
 | 5,⟨h1,h2,h3,h4⟩ =>
  have hc:runB (l.getD at_ 0)=false:=by
   rcases hg with hg|hg
   · simpa [zc0] using hg
   · rw [hg,zfw (Nat.le_refl _)];decide
  have he:zas l (zbb l frm)=at_:=by rw [zk6 (by omega) h4,zfr hc]
  have hb:zdt (l.getD frm 0)=false∧l.getD frm 0≠47∧letB (l.getD frm 0)=false:=by
   by_cases h45:l.getD frm 0=45
   · rw [h45];decide
   · have hn:zbb l frm=frm:=(by unfold zbb;rw [if_neg h45]);rw [hn] at h3;exact ⟨(zhj h3).1,(zhj h3).2.1,(zhj h3).2.2.1⟩
  refine ⟨by omega,?_⟩;unfold zdd;rw [if_neg (by rw [hb.1];decide),if_neg (fun h=>hb.2.1 h.1),if_neg (by rw [hb.2.2];decide),if_pos h3,he];cases hn:numP (sub l frm at_) with
  | none=>simp [endP,hn]
  | some n=>simp [endP,hn]
 | 6,⟨h1,h3,h4⟩ =>
  have hc:runB (l.getD at_ 0)=false:=by
   rcases hg with hg|hg
   · simpa [zc0] using hg
   · rw [hg,zfw (Nat.le_refl _)];decide
  have he:zas l frm=at_:=by rw [zk6 (by omega) h4,zfr hc]
  have hb:=zjk h3;refine ⟨by omega,?_⟩;unfold zdd;rw [if_neg (by rw [hb.1];decide),if_neg (fun h=>hb.2.1 h.1),if_pos h3,he];have hs:=zgj (l:=l) (i:=frm) (j:=at_) (by omega) hl;by_cases h32:32<at_ - frm
  · rw [if_pos h32];have:endP l 6 frm at_=(32,none):=(by simp [endP,hs,h32]);rw [this];rfl
  · rw [if_neg h32];have:endP l 6 frm at_=(0,some ⟨if za6 (sub l frm at_) then 2 else 1,sub l frm at_,0,frm⟩):=(by simp [endP,hs,h32]);rw [this];rfl
 | 7,⟨h1,h3⟩ =>
  subst h1;have hb:=sign_not h3;have hn:zbb l frm=frm:=by unfold zbb;rw [if_neg hb.2.2.2.1]
  refine ⟨by omega,?_⟩;unfold zdd;rw [hn,if_neg (by rw [hb.1];decide),if_neg (fun h=>hb.2.1 h.1),if_neg (by rw [hb.2.2.1];decide),if_neg (by rw [hb.2.2.2.2.1];decide),if_pos h3];rfl
 | 8,⟨h1,h3⟩ =>
  subst h1;have hb:=begin_8 h3;have hn:zbb l frm=frm:=by unfold zbb;rw [if_neg hb.2.2.2.2.1]
  refine ⟨by omega,?_⟩;unfold zdd;rw [hn,if_neg (by rw [hb.1];decide),if_neg (fun h=>hb.2.2.2.2.2 h.1),if_neg (by rw [hb.2.1];decide),if_neg (by rw [hb.2.2.1];decide),if_neg (by rw [hb.2.2.2.1];decide)];rfl
 | n+9,h=>exact h.elim
theorem zhq {l:List UInt8} : ∀ (r:List UInt8) (at_ st frm:Nat) (ts:List Tok),l.drop at_=r->at_<=l.length->Fits l at_ st frm->Scans l (zk8 at_ st frm) ts (zia l r at_ st frm ts)
 | [],at_,st,frm,ts,hr,hl,hf=>by
  have he:at_=l.length:=by have:=List.drop_eq_nil_iff.1 hr;omega
  by_cases h0:st=0
  · subst h0;have:zia l [] at_ 0 frm ts=.ok (ts++[⟨5,[],0,l.length⟩]):=(by simp [zia,endP]);rw [this];exact .done (by unfold zk8;simp;omega)
  · obtain ⟨h1,h2⟩:=hf.stop h0 hl (.inr he);unfold zk8;rw [if_neg h0];unfold zia;split
    · rename_i h3;rw [if_pos h3] at h2;exact .go h1 h2 (.done (by omega))
    · rename_i h3;rw [if_neg h3] at h2;exact .err h1 h2
 | c::r,at_,st,frm,ts,hr,hl,hf=>by
  have hlt:at_<l.length:=by
   rcases Nat.lt_or_ge at_ l.length with h|h
   · exact h
   · rw [List.drop_eq_nil_of_le h] at hr;cases hr
  rw [zeh hlt] at hr;obtain ⟨hc,hr⟩:=List.cons.inj hr;rw [zia];by_cases hg:(zc0 st c).2=true
  · rw [if_pos hg];rw [<- hc] at hg ⊢;have h1:=hf.on hg;rcases h1 with ⟨h1,h2,h3⟩|⟨h0,h1,h2⟩
    · have ih:=zhq r (at_+1) (zc0 st (l.getD at_ 0)).1 frm ts hr (by omega) (by rw [h1];trivial);rw [h1] at ih ⊢;subst h2;have hf' : frm+3<=at_:=hf.1;refine .go (by unfold zk8;simp;omega) (by unfold zk8;simp;exact h3) ?_;simpa [zk8] using ih
    · have ih:=zhq r (at_+1) (zc0 st (l.getD at_ 0)).1 frm ts hr (by omega) h2;unfold zk8 at ih ⊢;rw [if_neg h1] at ih;rw [if_neg h0];exact ih
  · rw [if_neg hg];have hg' : (zc0 st (l.getD at_ 0)).2=false:=(by rw [hc];simpa using hg);have ih:=fun ts=>zhq r (at_+1) (zdg (l.getD at_ 0)) at_ ts hr (by omega) Fits.first;have step:∀ ts,Scans l at_ ts (zia l r (at_+1) (zdg (l.getD at_ 0)) at_ ts):=fun ts=>by
     by_cases hb:zdg (l.getD at_ 0)=0
     · have i1:=ih ts;rw [hb] at i1 ⊢;have hbl:zdt (l.getD at_ 0)=true:=by
        rcases zlz (l.getD at_ 0) with ⟨h,h'⟩|⟨h,_⟩|⟨h,_⟩|⟨h,_⟩|⟨h,_⟩|⟨h,_⟩|h
        · exact h'
        all_goals (rw [hb] at h;cases h)
       refine .go hlt (by unfold zdd;rw [if_pos hbl]) ?_;simpa [zk8] using i1
     · have i1:=ih ts;unfold zk8 at i1;rwa [if_neg hb] at i1
    rw [hc] at step;by_cases h0:st=0
    · subst h0;have e:endP l 0 frm at_=(0,none):=(by simp [endP]);rw [e];simp only [if_pos];have:=step (ts++(none:Option Tok).toList);simpa [zk8] using this
    · obtain ⟨h1,h2⟩:=hf.stop h0 (by omega) (.inl hg');unfold zk8;rw [if_neg h0];split
      · rename_i h3;rw [if_pos h3] at h2;exact .go h1 h2 (step _)
      · rename_i h3;rw [if_neg h3] at h2;exact .err h1 h2
theorem zgy {l:List UInt8} (h:l.length<=16000):Scans l 0 [] (ze9 l):=by
 unfold ze9;rw [if_neg (by omega)];exact zhq l 0 0 0 [] rfl (Nat.zero_le _) trivial
inductive Tree where
 | node (kind:Int) (name:List UInt8) (num:Int) (at_:Nat) (kids:List Tree)
structure PS where
 ts:List Tok
 full:Bool
inductive Ans (α:Type) where
 | ok (a:α) (s:PS)
 | no (why:Int) (at_:Nat)
def Ans.bind {α β:Type} (r:Ans α) (f:α->PS->Ans β):Ans β :=
 match r with
 | .ok a s=>f a s
 | .no e i=>.no e i
def PS.hd (s:PS):Tok:=s.ts.headD ⟨5,[],0,0⟩
def PS.bad {α:Type} (s:PS) (e:Int):Ans α:=.no e s.hd.at_
def PS.sees (s:PS) (t:List UInt8):Bool:=s.hd.text==t
def PS.take (s:PS):Ans Tok:=if s.full then s.bad 42 else .ok s.hd ⟨s.ts.tail,s.full⟩
def PS.room (s:PS) (have_ most:Nat):PS:=if have_=most then ⟨s.ts,true⟩ else s
def PS.want (s:PS) (t:List UInt8):Ans Unit:=if s.sees t then s.take.bind fun _ s=>.ok () s else s.bad 40
def PS.ofKind (s:PS) (k:Int):Ans Tok:=if s.hd.kind=k then s.take else s.bad 40
def zdv:List UInt8:=[99,111,110,115,116]
def zc3:List UInt8:=[116,121,112,101,100,101,102]
def zd4:List UInt8:=[101,110,117,109]
def zbk:List UInt8:=[115,116,114,117,99,116]
def zes:List UInt8:=[117,110,105,111,110]
def zda:List UInt8:=[112,114,111,103,114,97,109]
def zd3:List UInt8:=[118,101,114,115,105,111,110]
def zgu:List UInt8:=[115,119,105,116,99,104]
def zb3:List UInt8:=[99,97,115,101]
def za2:List UInt8:=[100,101,102,97,117,108,116]
def zdc:List UInt8:=[118,111,105,100]
def ze0:List UInt8:=[111,112,97,113,117,101]
def zez:List UInt8:=[115,116,114,105,110,103]
def zbh:List UInt8:=[117,110,115,105,103,110,101,100]
def wInt:List UInt8:=[105,110,116]
def ze8:List UInt8:=[104,121,112,101,114]
def zml:List UInt8:=[102,108,111,97,116]
def zi7:List UInt8:=[100,111,117,98,108,101]
def wBool:List UInt8:=[98,111,111,108]
def zb0:List (Int × Bool × List UInt8):=[(18,false,wInt),(19,true,wInt),(20,false,ze8),(21,true,ze8),(22,false,zml),(23,false,zi7),(24,false,wBool)]
def named (k:Int) (t:Tok) (kids:List Tree):Tree:=.node k t.text 0 t.at_ kids
def zcw (k:Int) (s:PS):Ans Tree:=s.take.bind fun t s=>.ok (.node k [] 0 t.at_ []) s
def zcp (s:PS):Ans Tok:=s.ofKind 1
def refP (s:PS):Ans Tree:=(zcp s).bind fun t s=>.ok (named 27 t []) s
def zeb (s:PS):Ans Tree:=(s.ofKind 3).bind fun t s=>.ok (.node 28 [] t.num t.at_ []) s
def zbz (s:PS):Ans Tree:=if s.hd.kind=1 then refP s else zeb s
def za5 (s:PS):Ans Tree:=if s.hd.num<0 then s.bad 40 else zeb s
def zd7 (s:PS):Ans Tree :=
 if s.hd.kind=1 then refP s else
  let at_:=s.hd.at_
  let uns:=s.sees zbh
  (if uns then s.take.bind fun _ s=>.ok () s else .ok () s).bind fun _ s =>
    match zb0.find? fun b=>b.2.1==uns&&s.sees b.2.2 with
    | some b=>s.take.bind fun _ s=>.ok (.node b.1 [] 0 at_ []) s
    | none=>s.bad 40
def zcl (one:PS->Ans Tree) (ends:List (List UInt8)):Nat->List Tree->PS->Ans (List Tree)
 | 0,_,s=>s.bad 0
 | f+1,acc,s =>
  if acc.isEmpty||!(ends.any s.sees) then (one (s.room acc.length 64)).bind fun t s=>zcl one ends f (acc++[t]) s
  else .ok acc s
def zha (one:PS->Ans Tree) (most:Nat):Nat->List Tree->PS->Ans (List Tree)
 | 0,_,s=>s.bad 0
 | f+1,acc,s =>
  if s.sees [44] then (s.room acc.length most).take.bind fun _ s=>(one s).bind fun t s=>zha one most f (acc++[t]) s
  else .ok acc s
def zfd (one:PS->Ans Tree) (most:Nat) (s:PS):Ans (List Tree):=(one s).bind fun t s=>zha one most 66 [t] s
def zgf (s:PS):Ans Tree:=(zcp s).bind fun n s=>(s.want [61]).bind fun _ s=>(zbz s).bind fun v s=>.ok (named 5 n [v]) s
def zca (s:PS):Ans (List Tree):=(s.want [123]).bind fun _ s=>(zfd zgf 64 s).bind fun l s=>(s.want [125]).bind fun _ s=>.ok l s
def zdq (k:Int) (of:Tree) (s:PS):Ans Tree :=
 (zcp s).bind fun n s =>
   if s.sees [91]&&k != 26 then s.take.bind fun _ s=>(zbz s).bind fun v s=>(s.want [93]).bind fun _ s=>.ok (named 15 n [of,v]) s
   else if s.sees [60] then
    (s.want [60]).bind fun _ s =>
      if s.sees [62] then (s.want [62]).bind fun _ s=>.ok (named 16 n [of]) s
      else (zbz s).bind fun v s=>(s.want [62]).bind fun _ s=>.ok (named 16 n [of,v]) s
   else if k==25||k==26 then s.bad 40
   else .ok (named 14 n [of]) s
def Tree.kind:Tree->Int
 | .node k _ _ _ _=>k
def zc8 (B:PS->Ans Tree) (s:PS):Ans Tree:=if s.sees zd4||s.sees zbk||s.sees zes then B s else zd7 s
def zb6 (B:PS->Ans Tree) (s:PS):Ans Tree :=
 if s.sees ze0 then (zcw 25 s).bind fun t s=>zdq 25 t s
 else if s.sees zez then (zcw 26 s).bind fun t s=>zdq 26 t s
 else (zc8 B s).bind fun of s =>
  if s.sees [42] then s.take.bind fun _ s=>(zcp s).bind fun n s=>.ok (named 17 n [of]) s
  else zdq of.kind of s
def za1 (B:PS->Ans Tree) (s:PS):Ans Tree:=if s.sees zdc then zcw 13 s else zb6 B s
def za8 (B:PS->Ans Tree) (s:PS):Ans Tree:=(za1 B s).bind fun t s=>(s.want [59]).bind fun _ s=>.ok t s
def zc1 (B:PS->Ans Tree) (s:PS):Ans (List Tree):=(s.want [123]).bind fun _ s=>(zcl (za8 B) [[125]] 66 [] s).bind fun l s=>(s.want [125]).bind fun _ s=>.ok l s
def zdl:Nat->List Tree->PS->Ans (List Tree)
 | 0,_,s=>s.bad 0
 | f+1,acc,s =>
  if acc.isEmpty||s.sees zb3 then ((s.room acc.length 64).want zb3).bind fun _ s=>(zbz s).bind fun v s=>(s.want [58]).bind fun _ s=>zdl f (acc++[v]) s
  else .ok acc s
def armP (B:PS->Ans Tree) (s:PS):Ans Tree :=
 let at_:=s.hd.at_
 (zdl 66 [] s).bind fun l s=>(za8 B s).bind fun t s=>.ok (.node 8 [] 0 at_ (l++[t])) s
def zcr (B:PS->Ans Tree) (s:PS):Ans (List Tree) :=
 (s.want zgu).bind fun _ s=>(s.want [40]).bind fun _ s=>(za1 B s).bind fun d s=>(s.want [41]).bind fun _ s=>(s.want [123]).bind fun _ s =>
   (zcl (armP B) [za2,[125]] 66 [] s).bind fun l s =>
     if s.sees za2 then
      (zcw 9 s).bind fun e s=>(s.want [58]).bind fun _ s=>(za8 B s).bind fun t s=>(s.want [125]).bind fun _ s =>
        match e with
        | .node k n m i _=>.ok (d::l++[.node k n m i [t]]) s
     else (s.want [125]).bind fun _ s=>.ok (d::l) s
def zbe:Nat->Bool->PS->Ans Tree
 | 0,_,s=>s.bad 41
 | d+1,hasName,s =>
  s.take.bind fun word s =>
   (if hasName then (zcp s).bind fun n s=>.ok (n.text,n.at_) s else .ok ([],word.at_) s).bind fun na s =>
     if word.text=zd4 then (zca s).bind fun l s=>.ok (.node 4 na.1 0 na.2 l) s
     else if word.text=zbk then (zc1 (zbe d false) s).bind fun l s=>.ok (.node 6 na.1 0 na.2 l) s
     else (zcr (zbe d false) s).bind fun l s=>.ok (.node 7 na.1 0 na.2 l) s
def zef (k:Int) (part:PS->Ans Tree) (s:PS):Ans Tree :=
 s.take.bind fun _ s=>(zcp s).bind fun n s=>(s.want [123]).bind fun _ s=>(zcl part [[125]] 66 [] s).bind fun l s =>
  (s.want [125]).bind fun _ s=>(s.want [61]).bind fun _ s=>(za5 s).bind fun v s=>.ok (named k n (v::l)) s
def zge (s:PS):Ans Tree:=if s.sees zdc then zcw 13 s else zd7 s
def zbg (s:PS):Ans (List Tree):=if s.sees zdc then (zcw 13 s).bind fun t s=>.ok [t] s else zfd zd7 4 s
def zcg (s:PS):Ans Tree :=
 (zge s).bind fun r s=>(zcp s).bind fun n s=>(s.want [40]).bind fun _ s=>(zbg s).bind fun l s=>(s.want [41]).bind fun _ s=>(s.want [61]).bind fun _ s =>
   (za5 s).bind fun v s=>(s.want [59]).bind fun _ s=>.ok (named 12 n (v::r::l)) s
def zdm (s:PS):Ans Tree:=if s.sees zd3 then (zef 11 zcg s).bind fun t s=>(s.want [59]).bind fun _ s=>.ok t s else s.bad 40
def zbu (s:PS):Ans Tree :=
 if s.sees zdv then (s.want zdv).bind fun _ s=>(zcp s).bind fun n s=>(s.want [61]).bind fun _ s=>(zeb s).bind fun v s=>.ok (named 2 n [v]) s
 else if s.sees zc3 then s.take.bind fun t s=>(zb6 (zbe 8 false) s).bind fun d s=>.ok (.node 3 [] 0 t.at_ [d]) s
 else if s.sees zd4||s.sees zbk||s.sees zes then zbe 8 true s
 else if s.sees zda then zef 10 zdm s
 else s.bad 40
def zcn:Nat->List Tree->PS->Ans (List Tree)
 | 0,_,s=>s.bad 0
 | f+1,acc,s =>
  if s.hd.kind=5 then .ok acc s
  else (zbu (s.room acc.length 100)).bind fun t s=>(s.want [59]).bind fun _ s=>zcn f (acc++[t]) s
inductive PRes where
 | ok (t:Tree)
 | err (e:Int) (at_:Nat)
def zeo (l:List UInt8):PRes :=
 match ze9 l with
 | .err e i=>.err e i
 | .ok ts =>
  match zcn 102 [] ⟨ts,false⟩ with
  | .ok ks _=>.ok (.node 1 [] 0 0 ks)
  | .no e i=>.err e i
end Go.Proofs.YtighggeokiahfaaGreatDoor
namespace Go.Proofs.YtighggeokiahfaaGreatDoor
open Go.RowKit
def tokV (t:Tok):Value:=.agg #[.int .i64 t.kind,.string ⟨t.text.toArray⟩,.int .i64 t.num,.int .i64 t.at_]
def faultV (e:Int) (i:Nat):Value:=.iface 50 (.agg #[.int .i64 e,.int .i64 i])
structure PP (w:World) (p g cap:Nat) (ts:List Tok) (i:Nat) (d:Int) (full:Bool):Prop where
 c0:w.cell? ⟨p,0,none⟩=some (.slice (some ⟨g,0,none⟩) ts.length cap)
 c1:w.cell? ⟨p,1,none⟩=some (.int .i64 i)
 c2:w.cell? ⟨p,2,none⟩=some (.int .i64 d)
 c3:w.cell? ⟨p,3,none⟩=some (.bool full)
 f1:w.frozen? ⟨p,1,none⟩=false
 f2:w.frozen? ⟨p,2,none⟩=false
 f3:w.frozen? ⟨p,3,none⟩=false
 t0:∀ j (h:j<ts.length),w.cell? ⟨g,j*4,none⟩=some (.int .i64 ts[j].kind)
 t1:∀ j (h:j<ts.length),w.cell? ⟨g,j*4+1,none⟩=some (.string ⟨ts[j].text.toArray⟩)
 t2:∀ j (h:j<ts.length),w.cell? ⟨g,j*4+2,none⟩=some (.int .i64 ts[j].num)
 t3:∀ j (h:j<ts.length),w.cell? ⟨g,j*4+3,none⟩=some (.int .i64 ts[j].at_)
 il:i<ts.length
 ln:ts.length<=16001
 gp:g≠p
theorem zad {B:Nat} {a w:World} (h:Below B a w) (k:Nat):Below B a (w.drewN k):=⟨h.os,h.tape,h.output,h.size,h.block⟩
theorem token_core (p g cap n i:Nat) (k m:Int) (s:ByteArray) (a:Nat) (w:World) (hp:p<w.heap.size) (hg:g<w.heap.size) (c0' : w.cell? ⟨p,0,none⟩=some (.slice (some ⟨g,0,none⟩) n cap)) (c1' : w.cell? ⟨p,1,none⟩=some (.int .i64 i)) (hi:(i:Int)<n)
 (t0' : w.cell? ⟨g,i*4,none⟩=some (.int .i64 k)) (t1' : w.cell? ⟨g,i*4+1,none⟩=some (.string s)) (t2' : w.cell? ⟨g,i*4+2,none⟩=some (.int .i64 m)) (t3' : w.cell? ⟨g,i*4+3,none⟩=some (.int .i64 a)) :
 Calls Tryz.prog 38 #[.pointer (some ⟨p,0,none⟩)] w fun e w'=>e=.returned (.agg #[.int .i64 k,.string s,.int .i64 m,.int .i64 a])∧Below w.heap.size w w':=by
 obtain ⟨wa,hwa⟩:∃ wa,w.alloc (.cells #[.int .i64 0,.string ⟨#[]⟩,.int .i64 0,.int .i64 0] 41)=wa:=⟨_,rfl⟩;have c0:wa.cell? ⟨p,0,none⟩=some (.slice (some ⟨g,0,none⟩) n cap):=by rw [<- hwa,World.cell?_alloc_lt _ _ _ hp];exact c0'
 have c1:wa.cell? ⟨p,1,none⟩=some (.int .i64 i):=by rw [<- hwa,World.cell?_alloc_lt _ _ _ hp];exact c1'
 have t0:wa.cell? ⟨g,i*4,none⟩=some (.int .i64 k):=by rw [<- hwa,World.cell?_alloc_lt _ _ _ hg];exact t0'
 have t1:wa.cell? ⟨g,i*4+1,none⟩=some (.string s):=by rw [<- hwa,World.cell?_alloc_lt _ _ _ hg];exact t1'
 have t2:wa.cell? ⟨g,i*4+2,none⟩=some (.int .i64 m):=by rw [<- hwa,World.cell?_alloc_lt _ _ _ hg];exact t2'
 have t3:wa.cell? ⟨g,i*4+3,none⟩=some (.int .i64 a):=by rw [<- hwa,World.cell?_alloc_lt _ _ _ hg];exact t3'
 have z0:wa.cell? ⟨w.heap.size,0,none⟩=some (.int .i64 0):=by rw [<- hwa];simp
 have z1:wa.cell? ⟨w.heap.size,1,none⟩=some (.string ⟨#[]⟩):=by rw [<- hwa];simp
 have z2:wa.cell? ⟨w.heap.size,2,none⟩=some (.int .i64 0):=by rw [<- hwa];simp
 have z3:wa.cell? ⟨w.heap.size,3,none⟩=some (.int .i64 0):=by rw [<- hwa];simp
 have y0:wa.frozen? ⟨w.heap.size,0,none⟩=false:=by rw [<- hwa];simp
 have y1:wa.frozen? ⟨w.heap.size,1,none⟩=false:=by rw [<- hwa];simp
 have y2:wa.frozen? ⟨w.heap.size,2,none⟩=false:=by rw [<- hwa];simp
 have y3:wa.frozen? ⟨w.heap.size,3,none⟩=false:=by rw [<- hwa];simp
 have Aa:=hid hwa;have HB:Hid (∀ k v0 v1 v2 v3,Below w.heap.size w (((((wa.drewN k).setCell ⟨w.heap.size,0,none⟩ v0).setCell ⟨w.heap.size,1,none⟩ v1).setCell ⟨w.heap.size,2,none⟩ v2).setCell ⟨w.heap.size,3,none⟩ v3)):=fun k v0 v1 v2 v3=>by
  rw [<- hwa];exact ((((zad ((Below.refl _ _).alloc (Nat.le_refl _) _) k).setCell (Nat.le_refl _) _).setCell (Nat.le_refl _) _).setCell (Nat.le_refl _) _).setCell (Nat.le_refl _) _
 clear c0' c1' t0' t1' t2' t3' hp hg;go_enter Tryz.func38,Tryz.ntmps38
 go_wp2_with fail
 clear hwa;go_region;all_goals (
  go_wp2;obtain ⟨wz,hwz⟩:∃ wz,(((wa.setCell ⟨w.heap.size,0,none⟩ (.int .i64 k)).setCell ⟨w.heap.size,1,none⟩ (.string s)).setCell ⟨w.heap.size,2,none⟩ (.int .i64 m)).setCell ⟨w.heap.size,3,none⟩ (.int .i64 a)=wz:=⟨_,rfl⟩;have q0:wz.cell? ⟨w.heap.size,0,none⟩=some (.int .i64 k):=by rw [<- hwz];simp [World.cell?_setCell_other,World.cell?_setCell_same _ _ _ z0]
  have q1:wz.cell? ⟨w.heap.size,1,none⟩=some (.string s):=by rw [<- hwz,World.cell?_setCell_other _ _ _ _ (by simp),World.cell?_setCell_other _ _ _ _ (by simp)];exact World.cell?_setCell_same _ _ _ (by rw [World.cell?_setCell_other _ _ _ _ (by simp)];exact z1)
  have q2:wz.cell? ⟨w.heap.size,2,none⟩=some (.int .i64 m):=by rw [<- hwz,World.cell?_setCell_other _ _ _ _ (by simp)];exact World.cell?_setCell_same _ _ _ (by rw [World.cell?_setCell_other _ _ _ _ (by simp),World.cell?_setCell_other _ _ _ _ (by simp)];exact z2)
  have q3:wz.cell? ⟨w.heap.size,3,none⟩=some (.int .i64 a):=by rw [<- hwz];exact World.cell?_setCell_same _ _ _ (by rw [World.cell?_setCell_other _ _ _ _ (by simp),World.cell?_setCell_other _ _ _ _ (by simp),World.cell?_setCell_other _ _ _ _ (by simp)];exact z3)
  have hBz:Below w.heap.size w wz.drew:=by
   rw [<- hwz];exact zad (HB.out 0 _ _ _ _) 1
  rw [hwz];refine bodyPost_ret (v:=.agg #[.int .i64 k,.string s,.int .i64 m,.int .i64 a]) (by simp [results,Tryz.results38,go_sem,q0,q1,q2,q3]) rfl ⟨rfl,hBz⟩)
theorem zif {w:World} {p o:Nat} {v:Value} (h:w.cell? ⟨p,o,none⟩=some v):p<w.heap.size:=by
 rcases Nat.lt_or_ge p w.heap.size with h1|h1
 · exact h1
 · simp [World.cell?,Array.getElem?_eq_none h1] at h
theorem zcc (p g cap:Nat) (ts:List Tok) (i:Nat) (d:Int) (full:Bool) (w:World) (h:PP w p g cap ts i d full) :
 Calls Tryz.prog 38 #[.pointer (some ⟨p,0,none⟩)] w fun e w'=>e=.returned (tokV (ts[i]'h.il))∧Below w.heap.size w w' :=
 token_core p g cap ts.length i _ _ _ _ w (zif h.c0) (zif (h.t0 i h.il)) h.c0 h.c1 (by have:=h.il;omega) (h.t0 i h.il) (h.t1 i h.il) (h.t2 i h.il) (h.t3 i h.il)
theorem zac {w w' : World} {b:Nat} (h:w'.heap[b]?=w.heap[b]?) (o:Nat):w'.cell? ⟨b,o,none⟩=w.cell? ⟨b,o,none⟩∧w'.frozen? ⟨b,o,none⟩=w.frozen? ⟨b,o,none⟩:=by
 constructor
 · simp only [World.cell?,h]
 · simp only [World.frozen?,h]
theorem res4 (u:World) (r:Nat) (v0 v1 v2 v3:Value) {x0 x1 x2 x3:Value} (h0:u.cell? ⟨r,0,none⟩=some x0) (h1:u.cell? ⟨r,1,none⟩=some x1) (h2:u.cell? ⟨r,2,none⟩=some x2) (h3:u.cell? ⟨r,3,none⟩=some x3) :
 ((((u.setCell ⟨r,0,none⟩ v0).setCell ⟨r,1,none⟩ v1).setCell ⟨r,2,none⟩ v2).setCell ⟨r,3,none⟩ v3).cell? ⟨r,0,none⟩=some v0 ∧
 ((((u.setCell ⟨r,0,none⟩ v0).setCell ⟨r,1,none⟩ v1).setCell ⟨r,2,none⟩ v2).setCell ⟨r,3,none⟩ v3).cell? ⟨r,1,none⟩=some v1 ∧
 ((((u.setCell ⟨r,0,none⟩ v0).setCell ⟨r,1,none⟩ v1).setCell ⟨r,2,none⟩ v2).setCell ⟨r,3,none⟩ v3).cell? ⟨r,2,none⟩=some v2 ∧
 ((((u.setCell ⟨r,0,none⟩ v0).setCell ⟨r,1,none⟩ v1).setCell ⟨r,2,none⟩ v2).setCell ⟨r,3,none⟩ v3).cell? ⟨r,3,none⟩=some v3:=by
 refine ⟨?_,?_,?_,?_⟩
 · rw [World.cell?_setCell_other _ _ _ _ (by simp),World.cell?_setCell_other _ _ _ _ (by simp),World.cell?_setCell_other _ _ _ _ (by simp)];exact World.cell?_setCell_same _ _ _ h0
 · rw [World.cell?_setCell_other _ _ _ _ (by simp),World.cell?_setCell_other _ _ _ _ (by simp)];exact World.cell?_setCell_same _ _ _ (by rw [World.cell?_setCell_other _ _ _ _ (by simp)];exact h1)
 · rw [World.cell?_setCell_other _ _ _ _ (by simp)];exact World.cell?_setCell_same _ _ _ (by rw [World.cell?_setCell_other _ _ _ _ (by simp),World.cell?_setCell_other _ _ _ _ (by simp)];exact h2)
 · exact World.cell?_setCell_same _ _ _ (by rw [World.cell?_setCell_other _ _ _ _ (by simp),World.cell?_setCell_other _ _ _ _ (by simp),World.cell?_setCell_other _ _ _ _ (by simp)];exact h3)
theorem zhv (u:World) (B r:Nat) (v0 v1 v2 v3:Value) (h:B<=r):Below B u ((((u.setCell ⟨r,0,none⟩ v0).setCell ⟨r,1,none⟩ v1).setCell ⟨r,2,none⟩ v2).setCell ⟨r,3,none⟩ v3) :=
 Below.setCell (p:=⟨r,3,none⟩) (Below.setCell (p:=⟨r,2,none⟩) (Below.setCell (p:=⟨r,1,none⟩) (Below.setCell (p:=⟨r,0,none⟩) (Below.refl _ _) h _) h _) h _) h _
theorem fld0 (k m a:Int) (s:ByteArray) (w:World):(Instr.field 41 (.agg #[.int .i64 k,.string s,.int .i64 m,.int .i64 a]) 0).run Tryz.prog w=.ok (.int .i64 k) w:=by kernel_rfl
theorem fld1 (k m a:Int) (s:ByteArray) (w:World):(Instr.field 41 (.agg #[.int .i64 k,.string s,.int .i64 m,.int .i64 a]) 1).run Tryz.prog w=.ok (.string s) w:=by kernel_rfl
theorem fld2 (k m a:Int) (s:ByteArray) (w:World):(Instr.field 41 (.agg #[.int .i64 k,.string s,.int .i64 m,.int .i64 a]) 2).run Tryz.prog w=.ok (.int .i64 m) w:=by kernel_rfl
theorem fld3 (k m a:Int) (s:ByteArray) (w:World):(Instr.field 41 (.agg #[.int .i64 k,.string s,.int .i64 m,.int .i64 a]) 3).run Tryz.prog w=.ok (.int .i64 a) w:=by kernel_rfl
theorem sees_core (p:Nat) (k m:Int) (s t:ByteArray) (a:Nat) (w:World) (H0:Hid (Calls Tryz.prog 38 #[.pointer (some ⟨p,0,none⟩)] w fun e w'=>e=.returned (.agg #[.int .i64 k,.string s,.int .i64 m,.int .i64 a])∧Below w.heap.size w w')) :
 Calls Tryz.prog 75 #[.pointer (some ⟨p,0,none⟩),.string t] w fun e w'=>e=.returned (.bool (s.toList==t.toList))∧Below w.heap.size w w':=by
 have q1:=fld1 k m a s;go_enter Tryz.func75,Tryz.ntmps75
 go_wp2_with fail
 refine H0.out.mono ?_;rintro e w1 ⟨rfl,hB⟩;have HB:=hid hB;clear hB;go_wp2;go_ret;exact ⟨rfl,HB.out⟩
theorem zg0 (p:Nat) (a b:Int) (w:World) (h:(a==b)=false):Calls Tryz.prog 39 #[.pointer (some ⟨p,0,none⟩),.int .i64 a,.int .i64 b] w fun e w'=>e=.returned (.tuple #[])∧w'=w:=by
 go_enter Tryz.func39,Tryz.ntmps39
 go_wp2;first|go_end0|refine bodyPost_ret (results_none rfl _ _ _) rfl ?_
 exact ⟨rfl,rfl⟩
theorem zix (p:Nat) (a:Int) (v:Value) (w:World) (h3:w.cell? ⟨p,3,none⟩=some v) (f3:w.frozen? ⟨p,3,none⟩=false):Calls Tryz.prog 39 #[.pointer (some ⟨p,0,none⟩),.int .i64 a,.int .i64 a] w fun e w'=>e=.returned (.tuple #[])∧w'=w.setCell ⟨p,3,none⟩ (.bool true):=by
 go_enter Tryz.func39,Tryz.ntmps39
 go_wp2;first|go_end0|refine bodyPost_ret (results_none rfl _ _ _) rfl ?_
 exact ⟨rfl,rfl⟩
theorem wrong_core (p:Nat) (why k m:Int) (s:ByteArray) (a:Nat) (w:World)
 (H0:Hid (∀ w1,Below w.heap.size w w1->Calls Tryz.prog 38 #[.pointer (some ⟨p,0,none⟩)] w1 fun e w'=>e=.returned (.agg #[.int .i64 k,.string s,.int .i64 m,.int .i64 a])∧Below w1.heap.size w1 w')) :
 Calls Tryz.prog 74 #[.pointer (some ⟨p,0,none⟩),.int .i64 why] w fun e w'=>e=.returned (.agg #[.int .i64 why,.int .i64 a])∧Below w.heap.size w w':=by
 have q3:=fld3 k m a s;go_enter Tryz.func74,Tryz.ntmps74
 go_wp2_with fail
 refine (H0.out _ ((Below.refl _ _).alloc (Nat.le_refl _) _)).mono ?_;rintro e w1 ⟨rfl,hB⟩;have HB:=hid hB;have z0:w1.cell? ⟨w.heap.size,0,none⟩=some (.int .i64 0):=by rw [hB.cell (p:=⟨w.heap.size,0,none⟩) (by simp)];simp
 have z1:w1.cell? ⟨w.heap.size,1,none⟩=some (.int .i64 0):=by rw [hB.cell (p:=⟨w.heap.size,1,none⟩) (by simp)];simp
 have y0:w1.frozen? ⟨w.heap.size,0,none⟩=false:=by rw [(zac (hB.block w.heap.size (by simp)) 0).2];simp
 have y1:w1.frozen? ⟨w.heap.size,1,none⟩=false:=by rw [(zac (hB.block w.heap.size (by simp)) 1).2];simp
 have HE:Hid (∀ v0 v1,Below w.heap.size w ((w1.setCell ⟨w.heap.size,0,none⟩ v0).setCell ⟨w.heap.size,1,none⟩ v1)):=fun v0 v1 =>
  ((((Below.refl _ _).alloc (Nat.le_refl _) _).trans (hB.mono (by simp))).setCell (Nat.le_refl _) _).setCell (Nat.le_refl _) _
 clear hB;go_wp2;obtain ⟨wz,hwz⟩:∃ wz,(w1.setCell ⟨w.heap.size,0,none⟩ (.int .i64 why)).setCell ⟨w.heap.size,1,none⟩ (.int .i64 a)=wz:=⟨_,rfl⟩;have q0:wz.cell? ⟨w.heap.size,0,none⟩=some (.int .i64 why):=by rw [<- hwz,World.cell?_setCell_other _ _ _ _ (by simp)];exact World.cell?_setCell_same _ _ _ z0
 have q1:wz.cell? ⟨w.heap.size,1,none⟩=some (.int .i64 a):=by rw [<- hwz];exact World.cell?_setCell_same _ _ _ (by rw [World.cell?_setCell_other _ _ _ _ (by simp)];exact z1)
 have hBz:Below w.heap.size w wz:=by rw [<- hwz];exact HE.out _ _
 rw [hwz];exact bodyPost_ret (v:=.agg #[.int .i64 why,.int .i64 a]) (by simp [results,Tryz.results74,go_sem,q0,q1]) rfl ⟨rfl,hBz⟩
theorem zfp (p:Nat) (a:Int) (w:World) (h3' : w.cell? ⟨p,3,none⟩=some (.bool true)) (HW:Hid (∀ w1,Below w.heap.size w w1->Calls Tryz.prog 74 #[.pointer (some ⟨p,0,none⟩),.int .i64 42] w1 fun e w'=>e=.returned (.agg #[.int .i64 42,.int .i64 a])∧Below w1.heap.size w1 w')) :
 Calls Tryz.prog 69 #[.pointer (some ⟨p,0,none⟩)] w fun e w'=>e=.panicked [{ v:=.iface 50 (.agg #[.int .i64 42,.int .i64 a]),recovered:=false }]∧Below w.heap.size w w':=by
 have hp:=zif h3';have h3:∀ x,(w.alloc x).cell? ⟨p,3,none⟩=some (.bool true):=fun x=>by rw [World.cell?_alloc_lt _ _ _ hp];exact h3'
 have h4:∀ x y,((w.alloc x).alloc y).cell? ⟨p,3,none⟩=some (.bool true):=fun x y=>by rw [World.cell?_alloc_lt _ _ _ (by simp;omega)];exact h3 x
 clear h3' hp;go_enter Tryz.func69,Tryz.ntmps69
 go_wp2_with fail
 refine (HW.out _ ((Below.refl _ _).alloc (Nat.le_refl _) _)).mono ?_;rintro e w1 ⟨rfl,hB⟩;have HB:=hid (((Below.refl _ _).alloc (Nat.le_refl _) _).trans (hB.mono (by simp)));clear hB;go_wp2;exact ⟨rfl,rfl,HB.out⟩
theorem take_one (p i:Nat) (k m:Int) (s:ByteArray) (a:Nat) (w:World) (h3' : w.cell? ⟨p,3,none⟩=some (.bool false)) (h1' : w.cell? ⟨p,1,none⟩=some (.int .i64 i)) (f1' : w.frozen? ⟨p,1,none⟩=false) (hi:(i:Int)<=16001)
 (H0:Hid (∀ w1,Below w.heap.size w w1->Calls Tryz.prog 38 #[.pointer (some ⟨p,0,none⟩)] w1 fun e w'=>e=.returned (.agg #[.int .i64 k,.string s,.int .i64 m,.int .i64 a])∧Below w1.heap.size w1 w')) :
 Calls Tryz.prog 69 #[.pointer (some ⟨p,0,none⟩)] w fun e w'=>e=.returned (.agg #[.int .i64 k,.string s,.int .i64 m,.int .i64 a])∧∃ w1,Below w.heap.size w w1∧Below w.heap.size (w1.setCell ⟨p,1,none⟩ (.int .i64 ((i:Int)+1))) w':=by
 have hp:=zif h3';have h3:∀ x,(w.alloc x).cell? ⟨p,3,none⟩=some (.bool false):=fun x=>by rw [World.cell?_alloc_lt _ _ _ hp];exact h3'
 have HC:Hid (∀ w1,Below w.heap.size w w1->w1.cell? ⟨p,1,none⟩=some (.int .i64 i)∧w1.frozen? ⟨p,1,none⟩=false):=fun w1 hB=>⟨(zac (hB.block p hp) 1).1.trans h1',(zac (hB.block p hp) 1).2.trans f1'⟩;have Aa:=hid hp;clear h3' h1' f1' hp;go_enter Tryz.func69,Tryz.ntmps69
 go_wp2_with fail
 refine (H0.out _ ((Below.refl _ _).alloc (Nat.le_refl _) _)).mono ?_;rintro e w1 ⟨rfl,hB⟩;have hB1:Below w.heap.size w w1:=((Below.refl _ _).alloc (Nat.le_refl _) _).trans (hB.mono (by simp));obtain ⟨hc1,hf1⟩:=HC.out w1 hB1;have HB:=hid hB1;have z0' : w1.cell? ⟨w.heap.size,0,none⟩=some (.int .i64 0):=by rw [hB.cell (p:=⟨w.heap.size,0,none⟩) (by simp)];simp
 have y0' : w1.frozen? ⟨w.heap.size,0,none⟩=false:=by rw [(zac (hB.block w.heap.size (by simp)) 0).2];simp
 have z1' : w1.cell? ⟨w.heap.size,1,none⟩=some (.string ⟨#[]⟩):=by rw [hB.cell (p:=⟨w.heap.size,1,none⟩) (by simp)];simp
 have y1' : w1.frozen? ⟨w.heap.size,1,none⟩=false:=by rw [(zac (hB.block w.heap.size (by simp)) 1).2];simp
 have z2' : w1.cell? ⟨w.heap.size,2,none⟩=some (.int .i64 0):=by rw [hB.cell (p:=⟨w.heap.size,2,none⟩) (by simp)];simp
 have y2' : w1.frozen? ⟨w.heap.size,2,none⟩=false:=by rw [(zac (hB.block w.heap.size (by simp)) 2).2];simp
 have z3' : w1.cell? ⟨w.heap.size,3,none⟩=some (.int .i64 0):=by rw [hB.cell (p:=⟨w.heap.size,3,none⟩) (by simp)];simp
 have y3' : w1.frozen? ⟨w.heap.size,3,none⟩=false:=by rw [(zac (hB.block w.heap.size (by simp)) 3).2];simp
 have hlt1:w.heap.size<w1.heap.size:=by have:=hB.size;simp at this;omega
 have hpl:=Aa.out;obtain ⟨w2,hw2⟩:∃ w2,w1.alloc (.cells #[.int .i64 k,.string s,.int .i64 m,.int .i64 a] 41)=w2:=⟨_,rfl⟩;have e1:w2.cell? ⟨p,1,none⟩=some (.int .i64 i):=by rw [<- hw2,World.cell?_alloc_lt _ _ _ (show p<w1.heap.size by omega)];exact hc1
 have g1:w2.frozen? ⟨p,1,none⟩=false:=by rw [<- hw2,World.frozen?_alloc_old _ _ _ (show p≠w1.heap.size by omega)];exact hf1
 have l0:w2.cell? ⟨w1.heap.size,0,none⟩=some (.int .i64 k):=by rw [<- hw2];simp
 have l1:w2.cell? ⟨w1.heap.size,1,none⟩=some (.string s):=by rw [<- hw2];simp
 have l2:w2.cell? ⟨w1.heap.size,2,none⟩=some (.int .i64 m):=by rw [<- hw2];simp
 have l3:w2.cell? ⟨w1.heap.size,3,none⟩=some (.int .i64 a):=by rw [<- hw2];simp
 have z0:w2.cell? ⟨w.heap.size,0,none⟩=some (.int .i64 0):=by rw [<- hw2,World.cell?_alloc_lt _ _ _ hlt1];exact z0'
 have y0:w2.frozen? ⟨w.heap.size,0,none⟩=false:=by rw [<- hw2,World.frozen?_alloc_old _ _ _ (Nat.ne_of_lt hlt1)];exact y0'
 have z1:w2.cell? ⟨w.heap.size,1,none⟩=some (.string ⟨#[]⟩):=by rw [<- hw2,World.cell?_alloc_lt _ _ _ hlt1];exact z1'
 have y1:w2.frozen? ⟨w.heap.size,1,none⟩=false:=by rw [<- hw2,World.frozen?_alloc_old _ _ _ (Nat.ne_of_lt hlt1)];exact y1'
 have z2:w2.cell? ⟨w.heap.size,2,none⟩=some (.int .i64 0):=by rw [<- hw2,World.cell?_alloc_lt _ _ _ hlt1];exact z2'
 have y2:w2.frozen? ⟨w.heap.size,2,none⟩=false:=by rw [<- hw2,World.frozen?_alloc_old _ _ _ (Nat.ne_of_lt hlt1)];exact y2'
 have z3:w2.cell? ⟨w.heap.size,3,none⟩=some (.int .i64 0):=by rw [<- hw2,World.cell?_alloc_lt _ _ _ hlt1];exact z3'
 have y3:w2.frozen? ⟨w.heap.size,3,none⟩=false:=by rw [<- hw2,World.frozen?_alloc_old _ _ _ (Nat.ne_of_lt hlt1)];exact y3'
 have hne:¬ p=w.heap.size:=by omega
 have hne2:¬ w.heap.size=p:=by omega
 have hne3:¬ w1.heap.size=p:=by omega
 have hne4:¬ w1.heap.size=w.heap.size:=by omega
 have Ab:Hid (Below w.heap.size w w2):=by
  show Below w.heap.size w w2;rw [<- hw2];exact HB.out.alloc (by omega) _
 clear z0' z1' z2' z3' y0' y1' y2' y3' hc1 hf1 hB hB1 hlt1 hpl;go_wp2;have q:=res4 (w2.setCell ⟨p,1,none⟩ (.int .i64 ((i:Int)+1))) w.heap.size (.int .i64 k) (.string s) (.int .i64 m) (.int .i64 a) (by rw [World.cell?_setCell_other _ _ _ _ (by simp <;> omega)];exact z0) (by rw [World.cell?_setCell_other _ _ _ _ (by simp <;> omega)];exact z1) (by rw [World.cell?_setCell_other _ _ _ _ (by simp <;> omega)];exact z2) (by rw [World.cell?_setCell_other _ _ _ _ (by simp <;> omega)];exact z3);have hBz:Below w.heap.size (w2.setCell ⟨p,1,none⟩ (.int .i64 ((i:Int)+1))) (((((w2.setCell ⟨p,1,none⟩ (.int .i64 ((i:Int)+1))).setCell ⟨w.heap.size,0,none⟩ (.int .i64 k)).setCell ⟨w.heap.size,1,none⟩ (.string s)).setCell ⟨w.heap.size,2,none⟩ (.int .i64 m)).setCell ⟨w.heap.size,3,none⟩ (.int .i64 a)) :=
  zhv _ _ _ _ _ _ _ (Nat.le_refl _)
 generalize ((((w2.setCell ⟨p,1,none⟩ (.int .i64 ((i:Int)+1))).setCell ⟨w.heap.size,0,none⟩ (.int .i64 k)).setCell ⟨w.heap.size,1,none⟩ (.string s)).setCell ⟨w.heap.size,2,none⟩ (.int .i64 m)).setCell ⟨w.heap.size,3,none⟩ (.int .i64 a)=wz at q hBz ⊢;obtain ⟨q0,q1,q2,q3⟩:=q;exact bodyPost_ret (v:=.agg #[.int .i64 k,.string s,.int .i64 m,.int .i64 a]) (by simp [results,Tryz.results69,go_sem,q0,q1,q2,q3]) rfl ⟨rfl,w2,Ab.out,hBz⟩
structure Sole (p:Nat) (w w' : World):Prop where
 os:w'.os=w.os
 tape:w'.tape=w.tape
 output:w'.output=w.output
 size:w.heap.size<=w'.heap.size
 block:∀ b,b<w.heap.size->b≠p->w'.heap[b]?=w.heap[b]?
theorem Sole.refl (p:Nat) (w:World):Sole p w w:=⟨rfl,rfl,rfl,Nat.le_refl _,fun _ _ _=>rfl⟩
theorem Sole.trans {p:Nat} {a b c:World} (h:Sole p a b) (k:Sole p b c):Sole p a c :=
 ⟨k.os.trans h.os,k.tape.trans h.tape,k.output.trans h.output,Nat.le_trans h.size k.size,fun i hi hp=>(k.block i (Nat.lt_of_lt_of_le hi h.size) hp).trans (h.block i hi hp)⟩
theorem Sole.of_below {p:Nat} {a b:World} (h:Below a.heap.size a b):Sole p a b:=⟨h.os,h.tape,h.output,h.size,fun i hi _=>h.block i hi⟩
theorem Sole.setCell {p:Nat} (w:World) (o:Nat) (v:Value):Sole p w (w.setCell ⟨p,o,none⟩ v) :=
 ⟨rfl,rfl,rfl,by simp [World.setCell],fun b _ hb=>Below.heap_setCell _ _ _ _ hb⟩
theorem PP.of_blocks {w w' : World} {p g cap:Nat} {ts:List Tok} {i:Nat} {d:Int} {full:Bool} (h:PP w p g cap ts i d full) (hp:w'.heap[p]?=w.heap[p]?) (hg:w'.heap[g]?=w.heap[g]?):PP w' p g cap ts i d full :=
 ⟨(zac hp 0).1.trans h.c0,(zac hp 1).1.trans h.c1,(zac hp 2).1.trans h.c2,(zac hp 3).1.trans h.c3,(zac hp 1).2.trans h.f1,(zac hp 2).2.trans h.f2,(zac hp 3).2.trans h.f3,
  fun j hj=>(zac hg _).1.trans (h.t0 j hj),fun j hj=>(zac hg _).1.trans (h.t1 j hj),fun j hj=>(zac hg _).1.trans (h.t2 j hj),fun j hj=>(zac hg _).1.trans (h.t3 j hj),h.il,h.ln,h.gp⟩
theorem PP.plt {w:World} {p g cap:Nat} {ts:List Tok} {i:Nat} {d:Int} {full:Bool} (h:PP w p g cap ts i d full):p<w.heap.size:=zif h.c0
theorem PP.glt {w:World} {p g cap:Nat} {ts:List Tok} {i:Nat} {d:Int} {full:Bool} (h:PP w p g cap ts i d full):g<w.heap.size:=zif (h.t0 i h.il)
theorem PP.below {w w' : World} {p g cap:Nat} {ts:List Tok} {i:Nat} {d:Int} {full:Bool} (h:PP w p g cap ts i d full) (hB:Below w.heap.size w w'):PP w' p g cap ts i d full:=h.of_blocks (hB.block p h.plt) (hB.block g h.glt)
theorem PP.next {w:World} {p g cap:Nat} {ts:List Tok} {i:Nat} {d:Int} {full:Bool} (h:PP w p g cap ts i d full) (j:Nat) (hj:j<ts.length):PP (w.setCell ⟨p,1,none⟩ (.int .i64 j)) p g cap ts j d full:=by
 have ho:∀ o,(w.setCell ⟨p,1,none⟩ (.int .i64 j)).cell? ⟨g,o,none⟩=w.cell? ⟨g,o,none⟩:=fun o=>World.cell?_setCell_other _ _ _ _ (by simp;intro e;exact absurd e.symm h.gp);refine ⟨?_,World.cell?_setCell_same _ _ _ h.c1,?_,?_,?_,?_,?_,fun k hk=>(ho _).trans (h.t0 k hk),fun k hk=>(ho _).trans (h.t1 k hk),fun k hk=>(ho _).trans (h.t2 k hk),fun k hk=>(ho _).trans (h.t3 k hk),hj,h.ln,h.gp⟩
 · rw [World.cell?_setCell_other _ _ _ _ (by simp)];exact h.c0
 · rw [World.cell?_setCell_other _ _ _ _ (by simp)];exact h.c2
 · rw [World.cell?_setCell_other _ _ _ _ (by simp)];exact h.c3
 · rw [World.frozen?_setCell];exact h.f1
 · rw [World.frozen?_setCell];exact h.f2
 · rw [World.frozen?_setCell];exact h.f3
def PSof (ts:List Tok) (i:Nat) (full:Bool):PS:=⟨ts.drop i,full⟩
theorem zb7 (ts:List Tok) (i:Nat) (full:Bool) (h:i<ts.length):(PSof ts i full).hd=ts[i]:=by
 unfold PSof PS.hd;rw [List.drop_eq_getElem_cons h];rfl
def zai {α:Type} (p g cap:Nat) (ts:List Tok) (d:Int) (val:α->World->Value->Prop) (r:Ans α) (w:World) (e:Ending) (w' : World):Prop :=
 match r with
 | .ok a s=>∃ v i full,e=.returned v∧val a w' v∧s=PSof ts i full∧PP w' p g cap ts i d full∧Sole p w w'
 | .no why at_=>e=.panicked [{ v:=faultV why at_,recovered:=false }]∧Sole p w w'
def zfh (t:Tok) (_:World) (v:Value):Prop:=v=tokV t
theorem zdb (p g cap:Nat) (ts:List Tok) (i:Nat) (d why:Int) (full:Bool) (w:World) (h:PP w p g cap ts i d full) :
 Calls Tryz.prog 74 #[.pointer (some ⟨p,0,none⟩),.int .i64 why] w fun e w'=>e=.returned (.agg #[.int .i64 why,.int .i64 ((ts[i]'h.il).at_:Nat)])∧Below w.heap.size w w' :=
 wrong_core p why (ts[i]'h.il).kind (ts[i]'h.il).num ⟨(ts[i]'h.il).text.toArray⟩ (ts[i]'h.il).at_ w (fun w1 hB=>zcc p g cap ts i d full w1 (h.below hB))
theorem zdn (p g cap:Nat) (ts:List Tok) (i:Nat) (d:Int) (full:Bool) (w:World) (h:PP w p g cap ts i d full) (hi:i+1<ts.length) :
 Calls Tryz.prog 69 #[.pointer (some ⟨p,0,none⟩)] w (zai p g cap ts d zfh (PSof ts i full).take w):=by
 have hd:=zb7 ts i full h.il;cases full
 · have e1:(PSof ts i false).take=.ok (ts[i]'h.il) (PSof ts (i+1) false):=by
    unfold PS.take;rw [hd];show (if false=true then _ else Ans.ok (ts[i]'h.il) ⟨(ts.drop i).tail,false⟩)=_;rw [if_neg (by simp),List.tail_drop];rfl
   rw [e1];refine (take_one p i (ts[i]'h.il).kind (ts[i]'h.il).num ⟨(ts[i]'h.il).text.toArray⟩ (ts[i]'h.il).at_ w h.c3 h.c1 h.f1 (by have:=h.ln;omega) (fun w1 hB=>zcc p g cap ts i d false w1 (h.below hB))).mono ?_;rintro e w' ⟨rfl,w1,hB1,hB2⟩;have h2:=(h.below hB1).next (i+1) hi;have hp:=h.plt;have hg:=h.glt;refine ⟨_,i+1,false,rfl,rfl,rfl,h2.of_blocks (hB2.block p hp) (hB2.block g hg),?_⟩;have hS:Sole p w (w1.setCell ⟨p,1,none⟩ (.int .i64 ((i:Int)+1))):=(Sole.of_below hB1).trans (Sole.setCell w1 1 _);exact ⟨hB2.os.trans hS.os,hB2.tape.trans hS.tape,hB2.output.trans hS.output,Nat.le_trans hS.size hB2.size,fun b hb hbp=>(hB2.block b hb).trans (hS.block b hb hbp)⟩
 · have e1:(PSof ts i true).take=.no 42 (ts[i]'h.il).at_:=by
    unfold PS.take PS.bad;rw [hd];rfl
   rw [e1];refine (zfp p ((ts[i]'h.il).at_:Nat) w h.c3 (fun w1 hB=>zdb p g cap ts i d 42 true w1 (h.below hB))).mono ?_;rintro e w' ⟨rfl,hB⟩;exact ⟨rfl,Sole.of_below hB⟩
theorem Sole.below_after {p:Nat} {a b c:World} (h:Sole p a b) (k:Below a.heap.size b c):Sole p a c :=
 ⟨k.os.trans h.os,k.tape.trans h.tape,k.output.trans h.output,Nat.le_trans h.size k.size,fun i hi hp=>(k.block i hi).trans (h.block i hi hp)⟩
theorem ofKind_no (p:Nat) (kind k m:Int) (s:ByteArray) (a:Nat) (w:World) (hk:(k==kind)=false)
 (H0:Hid (∀ w1,Below w.heap.size w w1->Calls Tryz.prog 38 #[.pointer (some ⟨p,0,none⟩)] w1 fun e w'=>e=.returned (.agg #[.int .i64 k,.string s,.int .i64 m,.int .i64 a])∧Below w1.heap.size w1 w'))
 (HW:Hid (∀ w1,Below w.heap.size w w1->Calls Tryz.prog 74 #[.pointer (some ⟨p,0,none⟩),.int .i64 40] w1 fun e w'=>e=.returned (.agg #[.int .i64 40,.int .i64 a])∧Below w1.heap.size w1 w')) :
 Calls Tryz.prog 139 #[.pointer (some ⟨p,0,none⟩),.int .i64 kind] w fun e w'=>e=.panicked [{ v:=.iface 50 (.agg #[.int .i64 40,.int .i64 a]),recovered:=false }]∧Below w.heap.size w w':=by
 have q0:=fld0 k m a s;go_enter Tryz.func139,Tryz.ntmps139
 go_wp2_with fail
 refine (H0.out _ ((Below.refl _ _).alloc (Nat.le_refl _) _)).mono ?_;rintro e w1 ⟨rfl,hB⟩;have HB:=hid (((Below.refl _ _).alloc (Nat.le_refl _) _).trans (hB.mono (by simp)));clear hB;go_wp2_with fail
 refine (HW.out _ HB.out).mono ?_;rintro e w2 ⟨rfl,hB⟩;have Aa:=hid (HB.out.trans (hB.mono HB.out.size));clear hB;go_wp2;exact ⟨rfl,rfl,Aa.out⟩
theorem ofKind_yes (p g cap:Nat) (ts:List Tok) (d:Int) (k m:Int) (s:ByteArray) (a:Nat) (w:World) (hp:p<w.heap.size) (hg:g<w.heap.size) (r:Ans Tok)
 (H0:Hid (∀ w1,Below w.heap.size w w1->Calls Tryz.prog 38 #[.pointer (some ⟨p,0,none⟩)] w1 fun e w'=>e=.returned (.agg #[.int .i64 k,.string s,.int .i64 m,.int .i64 a])∧Below w1.heap.size w1 w'))
 (HT:Hid (∀ w1,Below w.heap.size w w1->Calls Tryz.prog 69 #[.pointer (some ⟨p,0,none⟩)] w1 (zai p g cap ts d zfh r w1))) :
 Calls Tryz.prog 139 #[.pointer (some ⟨p,0,none⟩),.int .i64 k] w (zai p g cap ts d zfh r w):=by
 have q0:=fld0 k m a s;have HP:=hid2 hp hg;clear hp hg;go_enter Tryz.func139,Tryz.ntmps139
 go_wp2_with fail
 refine (H0.out _ ((Below.refl _ _).alloc (Nat.le_refl _) _)).mono ?_;rintro e w1 ⟨rfl,hB⟩;have HB:=hid (((Below.refl _ _).alloc (Nat.le_refl _) _).trans (hB.mono (by simp)));have HZ:Hid (w1.heap[w.heap.size]?=(w.alloc (.cells #[.int .i64 0,.string ⟨#[]⟩,.int .i64 0,.int .i64 0] 41)).heap[w.heap.size]?∧w.heap.size<w1.heap.size):=⟨hB.block _ (by simp),by have:=hB.size;simp at this;omega⟩;clear hB;go_wp2_with fail
 refine (HT.out _ HB.out).mono ?_;cases r with
 | no why at_ =>
  rintro e w2 ⟨rfl,hS⟩;have HS:=hid ((Sole.of_below HB.out).trans hS);clear hS;go_wp2;exact ⟨rfl,rfl,HS.out⟩
 | ok t st =>
  rintro e w2 ⟨v,i,full,rfl,rfl,rfl,hP,hS⟩;have Aa:=hid hP;have HS:=hid hS;have hz:=(hS.block w.heap.size HZ.out.2 (Nat.ne_of_gt HP.out.1)).trans HZ.out.1;have z0:w2.cell? ⟨w.heap.size,0,none⟩=some (.int .i64 0):=by rw [(zac hz 0).1];simp
  have y0:w2.frozen? ⟨w.heap.size,0,none⟩=false:=by rw [(zac hz 0).2];simp
  have z1:w2.cell? ⟨w.heap.size,1,none⟩=some (.string ⟨#[]⟩):=by rw [(zac hz 1).1];simp
  have y1:w2.frozen? ⟨w.heap.size,1,none⟩=false:=by rw [(zac hz 1).2];simp
  have z2:w2.cell? ⟨w.heap.size,2,none⟩=some (.int .i64 0):=by rw [(zac hz 2).1];simp
  have y2:w2.frozen? ⟨w.heap.size,2,none⟩=false:=by rw [(zac hz 2).2];simp
  have z3:w2.cell? ⟨w.heap.size,3,none⟩=some (.int .i64 0):=by rw [(zac hz 3).1];simp
  have y3:w2.frozen? ⟨w.heap.size,3,none⟩=false:=by rw [(zac hz 3).2];simp
  clear hz hP hS;unfold tokV;go_wp2;have q:=res4 w2 w.heap.size (.int .i64 t.kind) (.string ⟨t.text.toArray⟩) (.int .i64 t.num) (.int .i64 t.at_) z0 z1 z2 z3;have hBz:=zhv w2 w.heap.size w.heap.size (.int .i64 t.kind) (.string ⟨t.text.toArray⟩) (.int .i64 t.num) (.int .i64 t.at_) (Nat.le_refl _);generalize (((w2.setCell ⟨w.heap.size,0,none⟩ (.int .i64 t.kind)).setCell ⟨w.heap.size,1,none⟩ (.string ⟨t.text.toArray⟩)).setCell ⟨w.heap.size,2,none⟩ (.int .i64 t.num)).setCell ⟨w.heap.size,3,none⟩ (.int .i64 t.at_)=wz at q hBz ⊢;obtain ⟨q0,q1,q2,q3⟩:=q;exact bodyPost_ret (v:=.agg #[.int .i64 t.kind,.string ⟨t.text.toArray⟩,.int .i64 t.num,.int .i64 t.at_]) (by simp [results,Tryz.results139,go_sem,q0,q1,q2,q3]) rfl
   ⟨_,i,full,rfl,rfl,rfl,Aa.out.of_blocks (hBz.block p HP.out.1) (hBz.block g HP.out.2),((Sole.of_below HB.out).trans HS.out).below_after hBz⟩
def Ends (ts:List Tok):Prop:=∀ j (h:j<ts.length),ts.length<=j+1->ts[j].kind=5∧ts[j].text=[]
theorem Ends.kind {ts:List Tok} (h:Ends ts) {i:Nat} (hi:i<ts.length) (hk:ts[i].kind≠5):i+1<ts.length:=by
 rcases Nat.lt_or_ge (i+1) ts.length with h1|h1
 · exact h1
 · exact absurd (h i hi h1).1 hk
theorem Ends.text {ts:List Tok} (h:Ends ts) {i:Nat} (hi:i<ts.length) (hk:ts[i].text≠[]):i+1<ts.length:=by
 rcases Nat.lt_or_ge (i+1) ts.length with h1|h1
 · exact h1
 · exact absurd (h i hi h1).2 hk
theorem zm1 (p g cap:Nat) (ts:List Tok) (hE:Ends ts) (i:Nat) (d k:Int) (hk:k≠5) (full:Bool) (w:World) (h:PP w p g cap ts i d full) :
 Calls Tryz.prog 139 #[.pointer (some ⟨p,0,none⟩),.int .i64 k] w (zai p g cap ts d zfh ((PSof ts i full).ofKind k) w):=by
 have hd:=zb7 ts i full h.il;unfold PS.ofKind PS.bad;rw [hd];by_cases e:(ts[i]'h.il).kind=k
 · rw [if_pos e,<- e];exact ofKind_yes p g cap ts d _ (ts[i]'h.il).num ⟨(ts[i]'h.il).text.toArray⟩ (ts[i]'h.il).at_ w h.plt h.glt _ (fun w1 hB=>zcc p g cap ts i d full w1 (h.below hB))
    (fun w1 hB=>zdn p g cap ts i d full w1 (h.below hB) (hE.kind h.il (by rw [e];exact hk)))
 · rw [if_neg e];refine (ofKind_no p k (ts[i]'h.il).kind (ts[i]'h.il).num ⟨(ts[i]'h.il).text.toArray⟩ (ts[i]'h.il).at_ w (by simp [e]) (fun w1 hB=>zcc p g cap ts i d full w1 (h.below hB)) (fun w1 hB=>zdb p g cap ts i d 40 full w1 (h.below hB))).mono ?_;rintro e' w' ⟨rfl,hB⟩;exact ⟨rfl,Sole.of_below hB⟩
theorem ze5 (p g cap:Nat) (ts:List Tok) (i:Nat) (d:Int) (full:Bool) (t:ByteArray) (w:World) (h:PP w p g cap ts i d full) :
 Calls Tryz.prog 75 #[.pointer (some ⟨p,0,none⟩),.string t] w fun e w'=>e=.returned (.bool ((PSof ts i full).sees t.toList))∧Below w.heap.size w w':=by
 unfold PS.sees;rw [zb7 ts i full h.il];have hx:=sees_core p (ts[i]'h.il).kind (ts[i]'h.il).num ⟨(ts[i]'h.il).text.toArray⟩ t (ts[i]'h.il).at_ w (zcc p g cap ts i d full w h);rw [ByteArray.toList_mk] at hx;exact hx
theorem name_core (p g cap:Nat) (ts:List Tok) (d:Int) (w:World) (hp:p<w.heap.size) (hg:g<w.heap.size) (r:Ans Tok)
 (HT:Hid (∀ w1,Below w.heap.size w w1->Calls Tryz.prog 139 #[.pointer (some ⟨p,0,none⟩),.int .i64 1] w1 (zai p g cap ts d zfh r w1))) :
 Calls Tryz.prog 108 #[.pointer (some ⟨p,0,none⟩)] w (zai p g cap ts d zfh r w):=by
 have HP:=hid2 hp hg;clear hp hg;go_enter Tryz.func108,Tryz.ntmps108
 go_wp2_with fail
 have HB:Hid (Below w.heap.size w (w.alloc (.cells #[.int .i64 0,.string ⟨#[]⟩,.int .i64 0,.int .i64 0] 41))):=(Below.refl _ _).alloc (Nat.le_refl _) _;refine (HT.out _ HB.out).mono ?_;cases r with
 | no why at_ =>
  rintro e w2 ⟨rfl,hS⟩;have HS:=hid ((Sole.of_below HB.out).trans hS);clear hS;go_wp2;exact ⟨rfl,rfl,HS.out⟩
 | ok t st =>
  rintro e w2 ⟨v,i,full,rfl,rfl,rfl,hP,hS⟩;have Aa:=hid hP;have HS:=hid ((Sole.of_below HB.out).trans hS);have hz:=hS.block w.heap.size (by simp) (Nat.ne_of_gt HP.out.1);have z0:w2.cell? ⟨w.heap.size,0,none⟩=some (.int .i64 0):=by rw [(zac hz 0).1];simp
  have y0:w2.frozen? ⟨w.heap.size,0,none⟩=false:=by rw [(zac hz 0).2];simp
  have z1:w2.cell? ⟨w.heap.size,1,none⟩=some (.string ⟨#[]⟩):=by rw [(zac hz 1).1];simp
  have y1:w2.frozen? ⟨w.heap.size,1,none⟩=false:=by rw [(zac hz 1).2];simp
  have z2:w2.cell? ⟨w.heap.size,2,none⟩=some (.int .i64 0):=by rw [(zac hz 2).1];simp
  have y2:w2.frozen? ⟨w.heap.size,2,none⟩=false:=by rw [(zac hz 2).2];simp
  have z3:w2.cell? ⟨w.heap.size,3,none⟩=some (.int .i64 0):=by rw [(zac hz 3).1];simp
  have y3:w2.frozen? ⟨w.heap.size,3,none⟩=false:=by rw [(zac hz 3).2];simp
  clear hz hP hS;unfold tokV;go_wp2;have q:=res4 w2 w.heap.size (.int .i64 t.kind) (.string ⟨t.text.toArray⟩) (.int .i64 t.num) (.int .i64 t.at_) z0 z1 z2 z3;have hBz:=zhv w2 w.heap.size w.heap.size (.int .i64 t.kind) (.string ⟨t.text.toArray⟩) (.int .i64 t.num) (.int .i64 t.at_) (Nat.le_refl _);generalize (((w2.setCell ⟨w.heap.size,0,none⟩ (.int .i64 t.kind)).setCell ⟨w.heap.size,1,none⟩ (.string ⟨t.text.toArray⟩)).setCell ⟨w.heap.size,2,none⟩ (.int .i64 t.num)).setCell ⟨w.heap.size,3,none⟩ (.int .i64 t.at_)=wz at q hBz ⊢;obtain ⟨q0,q1,q2,q3⟩:=q;exact bodyPost_ret (v:=.agg #[.int .i64 t.kind,.string ⟨t.text.toArray⟩,.int .i64 t.num,.int .i64 t.at_]) (by simp [results,Tryz.results108,go_sem,q0,q1,q2,q3]) rfl
   ⟨_,i,full,rfl,rfl,rfl,Aa.out.of_blocks (hBz.block p HP.out.1) (hBz.block g HP.out.2),HS.out.below_after hBz⟩
theorem zco (p g cap:Nat) (ts:List Tok) (hE:Ends ts) (i:Nat) (d:Int) (full:Bool) (w:World) (h:PP w p g cap ts i d full) :
 Calls Tryz.prog 108 #[.pointer (some ⟨p,0,none⟩)] w (zai p g cap ts d zfh (zcp (PSof ts i full)) w) :=
 name_core p g cap ts d w h.plt h.glt _ (fun w1 hB=>zm1 p g cap ts hE i d 1 (by decide) full w1 (h.below hB))
def kidV (k:Int) (n:List UInt8) (m:Int) (a:Nat) (sl:Value):Value:=.agg #[.int .i64 k,.string ⟨n.toArray⟩,.int .i64 m,.int .i64 a,sl]
mutual
def TreeAt (A:Nat->Prop) (w:World):Tree->Value->Prop
 | .node k n m a ks,v=>∃ sl,v=kidV k n m a sl∧∃ xs,w.ownsRow 0 29 5 sl ks.length xs∧(∀ g,sl.ownBlock=some g->A g)∧RowV (fun b=>A b∧sl.ownBlock≠some b) w ks xs
def RowV (A:Nat->Prop) (w:World):List Tree->List Value->Prop
 | [],xs=>xs=[]
 | t::ts,xs=>∃ v0 v1 v2 v3 v4 ys,xs=v0::v1::v2::v3::v4::ys∧∃ S:Nat->Prop,TreeAt (fun b=>A b∧S b) w t (.agg #[v0,v1,v2,v3,v4])∧RowV (fun b=>A b∧¬S b) w ts ys
end
def ListAt (A:Nat->Prop) (w:World) (ks:List Tree) (sl:Value):Prop :=
 ∃ xs,w.ownsRow 0 29 5 sl ks.length xs∧(∀ g,sl.ownBlock=some g->A g)∧RowV (fun b=>A b∧sl.ownBlock≠some b) w ks xs
theorem treeAt_node {A:Nat->Prop} {w:World} {k:Int} {n:List UInt8} {m:Int} {a:Nat} {ks:List Tree} {v:Value} : TreeAt A w (.node k n m a ks) v↔∃ sl,v=kidV k n m a sl∧ListAt A w ks sl:=by
 rw [TreeAt];rfl
theorem zho {A:Nat->Prop} {w:World} : RowV A w [] []:=by rw [RowV]
theorem rowV_cons' {A:Nat->Prop} {w:World} {t:Tree} {ts:List Tree} {xs:List Value} : RowV A w (t::ts) xs↔∃ v0 v1 v2 v3 v4 ys,xs=v0::v1::v2::v3::v4::ys∧∃ S:Nat->Prop,TreeAt (fun b=>A b∧S b) w t (.agg #[v0,v1,v2,v3,v4])∧RowV (fun b=>A b∧¬S b) w ts ys:=by rw [RowV]
theorem listAt_nil {A:Nat->Prop} {w:World} : ListAt A w [] (.slice none 0 0):=⟨[],World.ownsRow_nil w 0 29 5,(fun g hg=>by simp [Value.ownBlock] at hg),zho⟩
theorem zbc {w w' : World} {base:Nat} {e:TypeId} {size:Nat} {v:Value} {n:Nat} {xs:List Value} (h:w.ownsRow base e size v n xs) (hb:∀ g,v.ownBlock=some g->g<w.heap.size->w'.heap[g]?=w.heap[g]?):w'.ownsRow base e size v n xs:=by
 refine ⟨h.1,?_⟩;rcases h.2 with h0|⟨g,cap,cur,rfl,hbs,hg,rest⟩
 · exact Or.inl h0
 · exact Or.inr ⟨g,cap,cur,rfl,hbs,(hb g rfl (Array.getElem?_eq_some_iff.1 hg).1).trans hg,rest⟩
mutual
theorem TreeAt.frame {A A' : Nat->Prop} {w w' : World} (hA:∀ b,A b->A' b) (h:∀ b,A b->b<w.heap.size->w'.heap[b]?=w.heap[b]?):(t:Tree)->(v:Value)->TreeAt A w t v->TreeAt A' w' t v
 | .node k n m a ks,v=>by
  intro ht;rw [treeAt_node] at ht ⊢;obtain ⟨sl,e,xs,ho,hg,hr⟩:=ht;exact ⟨sl,e,xs,zbc ho (fun g e hl=>h g (hg g e) hl),fun g e=>hA g (hg g e),RowV.frame (fun b hb=>⟨hA b hb.1,hb.2⟩) (fun b hb=>h b hb.1) ks xs hr⟩
theorem RowV.frame {A A' : Nat->Prop} {w w' : World} (hA:∀ b,A b->A' b) (h:∀ b,A b->b<w.heap.size->w'.heap[b]?=w.heap[b]?):(ts:List Tree)->(xs:List Value)->RowV A w ts xs->RowV A' w' ts xs
 | [],xs=>fun hr=>by rw [RowV] at hr ⊢;exact hr
 | t::ts,xs=>by
  intro hr;rw [rowV_cons'] at hr ⊢;obtain ⟨v0,v1,v2,v3,v4,ys,e,S,ht,hr⟩:=hr;exact ⟨v0,v1,v2,v3,v4,ys,e,S,TreeAt.frame (fun b hb=>⟨hA b hb.1,hb.2⟩) (fun b hb=>h b hb.1) t _ ht,RowV.frame (fun b hb=>⟨hA b hb.1,hb.2⟩) (fun b hb=>h b hb.1) ts ys hr⟩
end
theorem rowV_cons {A:Nat->Prop} {w:World} {t:Tree} {ts:List Tree} {xs:List Value} : (RowV A w (t::ts) xs->∃ v0 v1 v2 v3 v4 ys,xs=v0::v1::v2::v3::v4::ys∧TreeAt A w t (.agg #[v0,v1,v2,v3,v4])∧RowV A w ts ys)∧True:=by
 refine ⟨fun hr=>?_,trivial⟩;rw [rowV_cons'] at hr;obtain ⟨v0,v1,v2,v3,v4,ys,e,S,ht,hr⟩:=hr;exact ⟨v0,v1,v2,v3,v4,ys,e,TreeAt.frame (fun b hb=>hb.1) (fun _ _ _=>rfl) t _ ht,RowV.frame (fun b hb=>hb.1) (fun _ _ _=>rfl) ts ys hr⟩
theorem ListAt.frame {A A' : Nat->Prop} {w w' : World} (hA:∀ b,A b->A' b) (h:∀ b,A b->b<w.heap.size->w'.heap[b]?=w.heap[b]?) {ks:List Tree} {sl:Value} (hl:ListAt A w ks sl):ListAt A' w' ks sl:=by
 obtain ⟨xs,ho,hg,hr⟩:=hl;exact ⟨xs,zbc ho (fun g e hl=>h g (hg g e) hl),fun g e=>hA g (hg g e),RowV.frame (fun b hb=>⟨hA b hb.1,hb.2⟩) (fun b hb=>h b hb.1) ks xs hr⟩
mutual
theorem TreeAt.there {A:Nat->Prop} {w:World} : (t:Tree)->(v:Value)->TreeAt A w t v->TreeAt (fun b=>A b∧b<w.heap.size) w t v
 | .node k n m a ks,v=>by
  intro ht;rw [treeAt_node] at ht ⊢;obtain ⟨sl,e,xs,ho,hg,hr⟩:=ht;exact ⟨sl,e,xs,ho,fun g e=>⟨hg g e,(ho.lt g e).2⟩,RowV.frame (fun b hb=>⟨⟨hb.1.1,hb.2⟩,hb.1.2⟩) (fun _ _ _=>rfl) ks xs (RowV.there ks xs hr)⟩
theorem RowV.there {A:Nat->Prop} {w:World} : (ts:List Tree)->(xs:List Value)->RowV A w ts xs->RowV (fun b=>A b∧b<w.heap.size) w ts xs
 | [],xs=>fun hr=>by rw [RowV] at hr ⊢;exact hr
 | t::ts,xs=>by
  intro hr;rw [rowV_cons'] at hr ⊢;obtain ⟨v0,v1,v2,v3,v4,ys,e,S,ht,hr⟩:=hr;exact ⟨v0,v1,v2,v3,v4,ys,e,S,TreeAt.frame (fun b hb=>⟨⟨hb.1.1,hb.2⟩,hb.1.2⟩) (fun _ _ _=>rfl) t _ (TreeAt.there t _ ht),RowV.frame (fun b hb=>⟨⟨hb.1.1,hb.2⟩,hb.1.2⟩) (fun _ _ _=>rfl) ts ys (RowV.there ts ys hr)⟩
end
theorem RowV.append {w:World} (S:Nat->Prop):{A:Nat->Prop}->(ts us:List Tree)->(xs ys:List Value)->RowV (fun b=>A b∧S b) w ts xs->RowV (fun b=>A b∧¬S b) w us ys->RowV A w (ts++us) (xs++ys)
 | A,[],us,xs,ys=>fun h k=>by rw [RowV] at h;subst h;exact RowV.frame (fun b hb=>hb.1) (fun _ _ _=>rfl) us ys k
 | A,t::ts,us,xs,ys=>fun h k=>by
  rw [rowV_cons'] at h;obtain ⟨v0,v1,v2,v3,v4,zs,rfl,S1,ht,hr⟩:=h;rw [List.cons_append,rowV_cons'];exact ⟨v0,v1,v2,v3,v4,zs++ys,rfl,fun b=>S b∧S1 b,TreeAt.frame (fun b hb=>⟨hb.1.1,hb.1.2,hb.2⟩) (fun _ _ _=>rfl) t _ ht,RowV.append S (A:=fun b=>A b∧¬(S b∧S1 b)) ts us zs ys (RowV.frame (fun b hb=>⟨⟨hb.1.1,fun q=>hb.2 q.2⟩,hb.1.2⟩) (fun _ _ _=>rfl) ts zs hr) (RowV.frame (fun b hb=>⟨⟨hb.1,fun q=>hb.2 q.1⟩,hb.2⟩) (fun _ _ _=>rfl) us ys k)⟩
theorem ListAt.len {A:Nat->Prop} {w:World} {ks:List Tree} {sl:Value} (h:ListAt A w ks sl):∃ o c,sl=.slice o ks.length c:=by
 obtain ⟨xs,ho,_,_⟩:=h;rcases ho.2 with ⟨rfl,h0⟩|⟨g,cap,cur,rfl,_⟩
 · exact ⟨none,0,by rw [h0]⟩
 · exact ⟨_,cap,rfl⟩
theorem ListAt.shape {A:Nat->Prop} {w:World} {ks:List Tree} {sl:Value} (h:ListAt A w ks sl):∃ o n c,sl=.slice o n c:=by
 obtain ⟨o,c,e⟩:=h.len;exact ⟨o,_,c,e⟩
theorem za7 {A:Nat->Prop} {w:World} {ks:List Tree} {sl:Value} (h:ListAt A w ks sl):ListAt (fun b=>A b∧b<w.heap.size) w ks sl:=by
 obtain ⟨xs,ho,hg,hr⟩:=h;exact ⟨xs,ho,fun g e=>⟨hg g e,(ho.lt g e).2⟩,RowV.frame (fun b hb=>⟨⟨hb.1.1,hb.2⟩,hb.1.2⟩) (fun _ _ _=>rfl) ks xs (RowV.there ks xs hr)⟩
def zaf (B:Nat):Nat->Prop:=fun b=>B<=b
def treeIs (B:Nat) (t:Tree) (w:World) (v:Value):Prop:=TreeAt (zaf B) w t v
def zbq (B:Nat) (ks:List Tree) (w:World) (v:Value):Prop:=ListAt (zaf B) w ks v
theorem treeIs.below {B B' C:Nat} {w w' : World} {t:Tree} {v:Value} (h:treeIs B t w v) (hB:B'<=B) (hw:Below C w w') (hC:w.heap.size<=C):treeIs B' t w' v :=
 TreeAt.frame (fun _ hb=>Nat.le_trans hB hb) (fun b _ hl=>hw.block b (Nat.lt_of_lt_of_le hl hC)) t v h
theorem treeIs.sole {B B' p:Nat} {w w' : World} {t:Tree} {v:Value} (h:treeIs B t w v) (hB:B'<=B) (hp:p<B) (hw:Sole p w w'):treeIs B' t w' v :=
 TreeAt.frame (fun _ hb=>Nat.le_trans hB hb) (fun b hb hl=>hw.block b hl (by have:B<=b:=hb;omega)) t v h
theorem treeIs.but {B B' r:Nat} {w w' : World} {t:Tree} {v:Value} (h:treeIs B t w v) (hB:B'<=B) (hr:r<B) (hw:∀ b,b<w.heap.size->b≠r->w'.heap[b]?=w.heap[b]?):treeIs B' t w' v :=
 TreeAt.frame (fun _ hb=>Nat.le_trans hB hb) (fun b hb hl=>hw b hl (by have:B<=b:=hb;omega)) t v h
theorem zbq.sole {B B' p:Nat} {w w' : World} {t:List Tree} {v:Value} (h:zbq B t w v) (hB:B'<=B) (hp:p<B) (hw:Sole p w w'):zbq B' t w' v :=
 ListAt.frame (fun _ hb=>Nat.le_trans hB hb) (fun b hb hl=>hw.block b hl (by have:B<=b:=hb;omega)) h
def zdr (xs:List Value):Obj:=.cells xs.toArray 29 (0,0)
theorem zf7 {w:World} {q n:Nat} {xs:List Value} (h:w.heap[q]?=some (zdr xs)) (hx:xs.length=n*5) (hn:n<=1000):w.ownsRow 0 29 5 (.slice (some ⟨q,0,none⟩) n n) n xs :=
 ⟨hx,Or.inr ⟨q,n,xs.toArray,rfl,Nat.zero_le _,h,Nat.le_refl _,(by unfold maxLen;omega),by simp [hx],by rw [<- hx];simp⟩⟩
theorem zgz {A:Nat->Prop} {w:World} : (ts:List Tree)->(xs:List Value)->RowV A w ts xs->xs.length=ts.length*5
 | [],xs=>fun h=>by rw [RowV] at h;subst h;rfl
 | t::ts,xs=>fun h=>by
  replace h:=rowV_cons.1 h;obtain ⟨v0,v1,v2,v3,v4,ys,rfl,_,hr⟩:=h;have:=zgz ts ys hr;simp only [List.length_cons];omega
theorem zay {A:Nat->Prop} {w:World} {k m:Int} {n:List UInt8} {a:Nat} {ks:List Tree} {sl:Value} (h:TreeAt A w (.node k n m a ks) (kidV k n m a sl)):RowV A w [.node k n m a ks] [.int .i64 k,.string ⟨n.toArray⟩,.int .i64 m,.int .i64 a,sl] :=
 rowV_cons'.2 ⟨_,_,_,_,_,[],rfl,fun _=>True,TreeAt.frame (fun _ hb=>⟨hb,trivial⟩) (fun _ _ _=>rfl) _ _ h,zho⟩
theorem zen {A:Nat->Prop} {w:World} : (ts:List Tree)->(xs:List Value)->RowV A w ts xs->∀ u∈xs,u.oneCell'=true
 | [],xs=>fun h=>by rw [RowV] at h;subst h;simp
 | t::ts,xs=>fun h=>by
  replace h:=rowV_cons.1 h;obtain ⟨v0,v1,v2,v3,v4,ys,rfl,ht,hr⟩:=h;obtain ⟨k,n,m,a,ks⟩:=t;obtain ⟨sl,e,hl⟩:=treeAt_node.1 ht;obtain ⟨o,c,rfl⟩:=hl.len;unfold kidV at e;simp only [Value.agg.injEq,Array.mk.injEq,List.cons.injEq] at e;obtain ⟨rfl,rfl,rfl,rfl,rfl,_⟩:=e;intro u hu;simp only [List.mem_cons] at hu;rcases hu with rfl|rfl|rfl|rfl|rfl|hu
  · simp [Value.oneCell']
  · simp [Value.oneCell']
  · simp [Value.oneCell']
  · simp [Value.oneCell']
  · simp [Value.oneCell']
  · exact zen ts ys hr u hu
theorem res5 (u:World) (r:Nat) (v0 v1 v2 v3 v4:Value) {x0 x1 x2 x3 x4:Value} (h0:u.cell? ⟨r,0,none⟩=some x0) (h1:u.cell? ⟨r,1,none⟩=some x1) (h2:u.cell? ⟨r,2,none⟩=some x2) (h3:u.cell? ⟨r,3,none⟩=some x3) (h4:u.cell? ⟨r,4,none⟩=some x4) :
 (((((u.setCell ⟨r,0,none⟩ v0).setCell ⟨r,1,none⟩ v1).setCell ⟨r,2,none⟩ v2).setCell ⟨r,3,none⟩ v3).setCell ⟨r,4,none⟩ v4).cell? ⟨r,0,none⟩=some v0 ∧
 (((((u.setCell ⟨r,0,none⟩ v0).setCell ⟨r,1,none⟩ v1).setCell ⟨r,2,none⟩ v2).setCell ⟨r,3,none⟩ v3).setCell ⟨r,4,none⟩ v4).cell? ⟨r,1,none⟩=some v1 ∧
 (((((u.setCell ⟨r,0,none⟩ v0).setCell ⟨r,1,none⟩ v1).setCell ⟨r,2,none⟩ v2).setCell ⟨r,3,none⟩ v3).setCell ⟨r,4,none⟩ v4).cell? ⟨r,2,none⟩=some v2 ∧
 (((((u.setCell ⟨r,0,none⟩ v0).setCell ⟨r,1,none⟩ v1).setCell ⟨r,2,none⟩ v2).setCell ⟨r,3,none⟩ v3).setCell ⟨r,4,none⟩ v4).cell? ⟨r,3,none⟩=some v3 ∧
 (((((u.setCell ⟨r,0,none⟩ v0).setCell ⟨r,1,none⟩ v1).setCell ⟨r,2,none⟩ v2).setCell ⟨r,3,none⟩ v3).setCell ⟨r,4,none⟩ v4).cell? ⟨r,4,none⟩=some v4:=by
 obtain ⟨a0,a1,a2,a3⟩:=res4 u r v0 v1 v2 v3 h0 h1 h2 h3;have a4:((((u.setCell ⟨r,0,none⟩ v0).setCell ⟨r,1,none⟩ v1).setCell ⟨r,2,none⟩ v2).setCell ⟨r,3,none⟩ v3).cell? ⟨r,4,none⟩=some x4:=by
  rw [World.cell?_setCell_other _ _ _ _ (by simp),World.cell?_setCell_other _ _ _ _ (by simp),World.cell?_setCell_other _ _ _ _ (by simp),World.cell?_setCell_other _ _ _ _ (by simp)];exact h4
 exact ⟨(World.cell?_setCell_other _ _ _ _ (by simp)).trans a0,(World.cell?_setCell_other _ _ _ _ (by simp)).trans a1,(World.cell?_setCell_other _ _ _ _ (by simp)).trans a2,(World.cell?_setCell_other _ _ _ _ (by simp)).trans a3,World.cell?_setCell_same _ _ _ a4⟩
theorem zan (u:World) (B r:Nat) (v0 v1 v2 v3 v4:Value) (h:B<=r):Below B u (((((u.setCell ⟨r,0,none⟩ v0).setCell ⟨r,1,none⟩ v1).setCell ⟨r,2,none⟩ v2).setCell ⟨r,3,none⟩ v3).setCell ⟨r,4,none⟩ v4) :=
 Below.setCell (p:=⟨r,4,none⟩) (zhv u B r v0 v1 v2 v3 h) h _
structure Tre (w:World) (r:Nat):Prop where
 z0:w.cell? ⟨r,0,none⟩=some (.int .i64 0)
 z1:w.cell? ⟨r,1,none⟩=some (.string ⟨#[]⟩)
 z2:w.cell? ⟨r,2,none⟩=some (.int .i64 0)
 z3:w.cell? ⟨r,3,none⟩=some (.int .i64 0)
 z4:w.cell? ⟨r,4,none⟩=some (.slice none 0 0)
 y0:w.frozen? ⟨r,0,none⟩=false
 y1:w.frozen? ⟨r,1,none⟩=false
 y2:w.frozen? ⟨r,2,none⟩=false
 y3:w.frozen? ⟨r,3,none⟩=false
 y4:w.frozen? ⟨r,4,none⟩=false
theorem Tre.made (w:World) (t:TypeId):Tre (w.alloc (.cells #[.int .i64 0,.string ⟨#[]⟩,.int .i64 0,.int .i64 0,.slice none 0 0] t)) w.heap.size:=by
 constructor <;> simp
theorem Tre.block {w w' : World} {r:Nat} (h:Tre w r) (e:w'.heap[r]?=w.heap[r]?):Tre w' r :=
 ⟨(zac e 0).1.trans h.z0,(zac e 1).1.trans h.z1,(zac e 2).1.trans h.z2,(zac e 3).1.trans h.z3,(zac e 4).1.trans h.z4,
  (zac e 0).2.trans h.y0,(zac e 1).2.trans h.y1,(zac e 2).2.trans h.y2,(zac e 3).2.trans h.y3,(zac e 4).2.trans h.y4⟩
theorem bld03 (k a:Int) (w:World):(Instr.build 29 #[(0,.int .i64 k),(3,.int .i64 a)]).run Tryz.prog w=.ok (.agg #[.int .i64 k,.string ⟨#[]⟩,.int .i64 0,.int .i64 a,.slice none 0 0]) w:=by kernel_rfl
theorem bld023 (k m a:Int) (w:World):(Instr.build 29 #[(0,.int .i64 k),(2,.int .i64 m),(3,.int .i64 a)]).run Tryz.prog w=.ok (.agg #[.int .i64 k,.string ⟨#[]⟩,.int .i64 m,.int .i64 a,.slice none 0 0]) w:=by kernel_rfl
theorem bld0134 (k a:Int) (s:ByteArray) (o:Option Addr) (n c:Nat) (w:World):(Instr.build 29 #[(0,.int .i64 k),(1,.string s),(3,.int .i64 a),(4,.slice o n c)]).run Tryz.prog w=.ok (.agg #[.int .i64 k,.string s,.int .i64 0,.int .i64 a,.slice o n c]) w:=by kernel_rfl
theorem alone_core (p g cap:Nat) (ts:List Tok) (d k:Int) (w:World) (hp:p<w.heap.size) (hg:g<w.heap.size) (r:Ans Tok)
 (HT:Hid (∀ w1,Below w.heap.size w w1->Calls Tryz.prog 69 #[.pointer (some ⟨p,0,none⟩)] w1 (zai p g cap ts d zfh r w1))) :
 Calls Tryz.prog 112 #[.pointer (some ⟨p,0,none⟩),.int .i64 k] w (zai p g cap ts d (treeIs w.heap.size) (r.bind fun t s=>.ok (.node k [] 0 t.at_ []) s) w):=by
 have HP:=hid2 hp hg;clear hp hg;go_enter Tryz.func112,Tryz.ntmps112
 go_wp2_with fail
 have HB:Hid (Below w.heap.size w (w.alloc (.cells #[.int .i64 0,.string ⟨#[]⟩,.int .i64 0,.int .i64 0,.slice none 0 0] 29))):=(Below.refl _ _).alloc (Nat.le_refl _) _;refine (HT.out _ HB.out).mono ?_;cases r with
 | no why at_ =>
  rintro e w2 ⟨rfl,hS⟩;have HS:=hid ((Sole.of_below HB.out).trans hS);clear hS;go_wp2;exact ⟨rfl,rfl,HS.out⟩
 | ok t st =>
  rintro e w2 ⟨v,i,full,rfl,rfl,rfl,hP,hS⟩;have Aa:=hid hP;have HS:=hid ((Sole.of_below HB.out).trans hS);obtain ⟨z0,z1,z2,z3,z4,y0,y1,y2,y3,y4⟩:=(Tre.made w 29).block (hS.block w.heap.size (by simp) (Nat.ne_of_gt HP.out.1));clear hP hS;unfold tokV;have q3:=fld3 t.kind t.num t.at_ ⟨t.text.toArray⟩;have qb:=bld03 k t.at_;go_wp2;have q:=res5 w2 w.heap.size (.int .i64 k) (.string ⟨#[]⟩) (.int .i64 0) (.int .i64 t.at_) (.slice none 0 0) z0 z1 z2 z3 z4;have hBz:=zan w2 w.heap.size w.heap.size (.int .i64 k) (.string ⟨#[]⟩) (.int .i64 0) (.int .i64 t.at_) (.slice none 0 0) (Nat.le_refl _);generalize ((((w2.setCell ⟨w.heap.size,0,none⟩ (.int .i64 k)).setCell ⟨w.heap.size,1,none⟩ (.string ⟨#[]⟩)).setCell ⟨w.heap.size,2,none⟩ (.int .i64 0)).setCell ⟨w.heap.size,3,none⟩ (.int .i64 t.at_)).setCell ⟨w.heap.size,4,none⟩ (.slice none 0 0)=wz at q hBz ⊢;obtain ⟨q0,q1,q2,q3,q4⟩:=q;exact bodyPost_ret (v:=.agg #[.int .i64 k,.string ⟨#[]⟩,.int .i64 0,.int .i64 t.at_,.slice none 0 0]) (by simp [results,Tryz.results112,go_sem,q0,q1,q2,q3,q4]) rfl
   ⟨_,i,full,rfl,treeAt_node.2 ⟨_,rfl,listAt_nil⟩,rfl,Aa.out.of_blocks (hBz.block p HP.out.1) (hBz.block g HP.out.2),HS.out.below_after hBz⟩
end Go.Proofs.YtighggeokiahfaaGreatDoor
