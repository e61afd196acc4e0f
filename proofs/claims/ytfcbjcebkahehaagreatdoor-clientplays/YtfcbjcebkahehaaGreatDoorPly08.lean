import Derived.Test.YtfcbjcebkahehaaGreatDoorPly07
import Derived.Test.YtfcbjcebkahehaaGreatDoorPly05
import Derived.Test.YtfcbjcebkahehaaGreatDoorPly03
set_option maxRecDepth 8000
set_option maxHeartbeats 20000000
set_option linter.unusedSimpArgs false
namespace Go.Proofs.YtfcbjcebkahehaaGreatDoor
namespace Fl
open Ieee
theorem half_mono (n n' d:Nat) (h:n<=n'):half n d<=half n' d:=by
 have hp:=Nat.two_pow_pos d;have h1:=Nat.div_add_mod n (2 ^ d);have h2:=Nat.div_add_mod n' (2 ^ d);have h3:=Nat.mod_lt n hp;have h4:=Nat.mod_lt n' hp;have hq:n / 2 ^ d<=n' / 2 ^ d:=Nat.div_le_div_right h;unfold half;generalize n / 2 ^ d=q at *;generalize n' / 2 ^ d=q' at *;generalize n % 2 ^ d=r at *;generalize n' % 2 ^ d=r' at *;generalize 2 ^ d=U at *;rcases Nat.lt_or_ge q q' with hlt|hge
 · split <;> split <;> omega
 · obtain rfl:q=q':=by omega
   have hr:r<=r':=by omega
   by_cases hc:U<2*r∨(U=2*r∧q % 2=1)
   · rw [if_pos hc,if_pos (by omega)];omega
   · rw [if_neg hc];omega
def RG (b s N:Nat):Nat:=(N.log2 - (b+s))*2 ^ b+half N (N.log2 - (b+s)+s)
theorem log2_mono (n m:Nat) (h:n<=m):n.log2<=m.log2:=by
 by_cases h0:n=0
 · subst h0;simp
 · have hm:m≠0:=by omega
   rcases Nat.lt_or_ge m.log2 n.log2 with hl|hl
   · (have:=(Nat.log2_lt hm).1 hl);have h2:=Nat.log2_self_le h0;omega
   · exact hl
theorem half_zero (d:Nat):half 0 d=0:=by
 have hp:=Nat.two_pow_pos d;unfold half;rw [Nat.zero_div,Nat.zero_mod];generalize 2 ^ d=z at *;rw [if_neg (by omega)]
theorem zd4 (b s:Nat):RG b s 0=0:=by
 have e1:(0:Nat).log2=0:=by simp
 unfold RG;rw [e1,Nat.zero_sub,Nat.zero_mul,half_zero]
theorem RG_mono (b s N N' : Nat) (h:N<=N'):RG b s N<=RG b s N':=by
 unfold RG;have hl:=log2_mono N N' h;by_cases h0:N=0
 · subst h0;have e1:(0:Nat).log2=0:=by simp
   rw [e1,Nat.zero_sub,Nat.zero_mul];rw [half_zero];omega
 have h0' : N'≠0:=by omega
 have hlo':=Nat.log2_self_le h0';have hhi:=@Nat.lt_log2_self N;by_cases he:N.log2 - (b+s)=N'.log2 - (b+s)
 · rw [he];exact Nat.add_le_add_left (half_mono N N' _ h) _
 · have he2:N.log2 - (b+s)+1<=N'.log2 - (b+s):=by omega
   have hge:2 ^ b<=half N' (N'.log2 - (b+s)+s):=by
    (apply half_ge);rw [<- Nat.pow_add];exact Nat.le_trans (Nat.pow_le_pow_right (by omega) (by omega)) hlo'
   have hle:half N (N.log2 - (b+s)+s)<=2*2 ^ b:=by
    (apply half_lt);rw [<- Nat.pow_succ',<- Nat.pow_add];exact Nat.lt_of_lt_of_le hhi (Nat.pow_le_pow_right (by omega) (by omega))
   have hm:(N.log2 - (b+s)+1)*2 ^ b<=(N'.log2 - (b+s))*2 ^ b:=Nat.mul_le_mul_right _ he2;rw [Nat.add_mul,Nat.one_mul] at hm;omega
def sv (neg:Bool) (n:Nat):Int:=if neg then -(n:Int) else n
theorem zft (f:Format) (s:Bool) (r:Nat) (base:Int) (h1:f.leastPlace<=base) (h2:base<=placeOf f r) :
 signed s (zbg f r) (placeOf f r - base).toNat*((2 ^ (base - f.leastPlace).toNat:Nat):Int)=sv s (sizeOf f r):=by
 have e:zbg f r <<< (placeOf f r - base).toNat*2 ^ (base - f.leastPlace).toNat=sizeOf f r:=by
  rw [zbe,Nat.shiftLeft_eq,Nat.mul_assoc,<- Nat.pow_add];congr 2;omega
 unfold signed sv;cases s
 · simp only [Bool.false_eq_true,if_false];rw [<- Int.natCast_mul,e]
 · simp only [if_true];rw [Int.neg_mul,<- Int.natCast_mul,e]
end Fl
end Go.Proofs.YtfcbjcebkahehaaGreatDoor
namespace Go.Proofs.YtfcbjcebkahehaaGreatDoor
namespace Fl
open Ieee
theorem near32s (neg:Bool) (N s:Nat):single.nearest neg N (-149 - (s:Int))=single.word neg (min (RG 23 s N) 2139095040):=by
 by_cases h0:N=0
 · subst h0;rw [zaq];rw [zd4];rfl
 · unfold Format.nearest RG;rw [if_neg h0];have hl:max (-149 - (s:Int)+(N.log2:Int) - (single.fractionBits:Int)) single.leastPlace=-149+((N.log2 - (23+s):Nat):Int):=by
    rw [fb32,lp32];omega
   dsimp only
   rw [hl];have e1:(-149 - (s:Int) - (-149+((N.log2 - (23+s):Nat):Int))).toNat=0:=by omega
   have e2:(-149+((N.log2 - (23+s):Nat):Int) - (-149 - (s:Int))).toNat=N.log2 - (23+s)+s:=by omega
   have e3:(-149+((N.log2 - (23+s):Nat):Int) - single.leastPlace).toNat=N.log2 - (23+s):=by rw [lp32];omega
   rw [e1,e2,e3,Nat.shiftLeft_zero,zh8,bi32,inf32]
theorem zhy (neg:Bool) (N:Nat):single.nearest neg N (-149)=single.word neg (min (RG 23 0 N) 2139095040):=near32s neg N 0
theorem zd1 (f:Format) (neg:Bool) (r:Nat) (k:Int):f.nearest neg (zbg single r) (placeOf single r+k)=f.nearest neg (sizeOf single r) (-149+k):=by
 by_cases h0:r=0
 · have e1:=(zc0 single r).2 h0;rw [zbe,e1,Nat.zero_mul,zaq,zaq]
 · have hm:zbg single r≠0:=fun e=>h0 ((zc0 single r).1 e);have hp:=zb4 single r;rw [lp32] at hp;rw [zbe,za9 f neg _ _ _ hm,lp32];congr 1
   omega
theorem zgk (r:Nat) (h:r<2139095040):RG 23 0 (sizeOf single r)=r:=by
 have h1:=zhx single false r (by rw [inf32];exact h);have h2:=zd1 single false r 0;rw [Int.add_zero,Int.add_zero,zhy] at h2;rw [h2] at h1;have:=word_inj _ _ _ _ h1
 rcases Nat.le_total (RG 23 0 (sizeOf single r)) 2139095040 with hq|hq
 · rw [Nat.min_eq_left hq] at this;exact this
 · rw [Nat.min_eq_right hq] at this;omega
theorem RG_scale (b s N:Nat):RG b s (N*2 ^ s)=RG b 0 N:=by
 by_cases h0:N=0
 · subst h0;rw [Nat.zero_mul,zd4,zd4]
 · unfold RG;rw [zce N s h0,show N.log2+s - (b+s)=N.log2 - (b+0) by omega,<- zh8 false,cut_mul false N _ s h0,zh8,Nat.add_zero,Nat.add_zero]
theorem RG_sizes (r s:Nat) (h:r<2139095040):RG 23 s (sizeOf single r*2 ^ s)=r:=by rw [RG_scale,zgk r h]
theorem RG_le {N r s:Nat} (h:N<=sizeOf single r*2 ^ s) (hr:r<2139095040):RG 23 s N<=r:=by
 have:=RG_mono 23 s _ _ h
 rwa [RG_sizes r s hr] at this
theorem RG_ge {N r s:Nat} (h:sizeOf single r*2 ^ s<=N) (hr:r<2139095040):r<=RG 23 s N:=by
 have:=RG_mono 23 s _ _ h
 rwa [RG_sizes r s hr] at this
theorem size_le {r r' : Nat} (h:r<=r'):sizeOf single r<=sizeOf single r':=by
 rcases Nat.lt_or_ge r r' with h1|h1
 · exact Nat.le_of_lt (zcb single h1)
 · have:r=r':=by omega
   rw [this];exact Nat.le_refl _
theorem size_le' {r r' : Nat} (h:sizeOf single r<=sizeOf single r'):r<=r':=by
 rcases Nat.lt_or_ge r' r with h1|h1
 · have:=zcb single h1;omega
 · exact h1
theorem size0:sizeOf single 0=0:=by unfold sizeOf;rw [bi32];rfl
theorem size1:sizeOf single 1=1:=by unfold sizeOf;rw [bi32];rfl
theorem add_fin (s t:Bool) (a b:Nat) (ha:a<2139095040) (hb:b<2139095040):∃ neg,single.add (single.word s a) (single.word t b)=some (single.word neg (min (RG 23 0 (sv s (sizeOf single a)+sv t (sizeOf single b)).natAbs) 2139095040)) ∧
 (sv s (sizeOf single a)+sv t (sizeOf single b)≠0->neg=decide (sv s (sizeOf single a)+sv t (sizeOf single b)<0))∧(sv s (sizeOf single a)+sv t (sizeOf single b)=0->neg=(s&&t)):=by
 unfold Format.add;rw [zax single s a (by rw [inf32];exact ha),zax single t b (by rw [inf32];exact hb)];have g1:=zb4 single a;have g2:=zb4 single b;have e1:=zft single s a (min (placeOf single a) (placeOf single b)) (by omega) (by omega);have e2:=zft single t b (min (placeOf single a) (placeOf single b)) (by omega) (by omega);simp only [Datum.sum,Option.map_some,Format.write];rw [lp32] at g1 g2 e1 e2;generalize signed s (zbg single a) (placeOf single a - min (placeOf single a) (placeOf single b)).toNat=S at *;generalize signed t (zbg single b) (placeOf single b - min (placeOf single a) (placeOf single b)).toNat=T at *;rw [<- e1,<- e2];have hk:=Nat.two_pow_pos (min (placeOf single a) (placeOf single b) - -149).toNat
 have hmul:S*((2 ^ (min (placeOf single a) (placeOf single b) - -149).toNat:Nat):Int)+T*((2 ^ (min (placeOf single a) (placeOf single b) - -149).toNat:Nat):Int)=(S+T)*((2 ^ (min (placeOf single a) (placeOf single b) - -149).toNat:Nat):Int):=by
  rw [<- Int.add_mul]
 rw [hmul];generalize hD:S+T=D;refine ⟨if D=0 then s&&t else decide (D<0),?_,?_,?_⟩
 · congr 1
   rw [Int.natAbs_mul,Int.natAbs_natCast,<- zhy];by_cases h0:D.natAbs=0
   · rw [h0,Nat.zero_mul,zaq,zaq]
   · rw [za9 single _ _ _ _ h0];congr 1
     omega
 · intro hne;have hD0:D≠0:=by
    intro e;rw [e,Int.zero_mul] at hne;exact hne rfl
   rw [if_neg hD0,decide_eq_decide];have hk' : (0:Int)<((2 ^ (min (placeOf single a) (placeOf single b) - -149).toNat:Nat):Int):=by omega
   constructor
   · intro h;exact Int.mul_neg_of_neg_of_pos h hk'
   · intro h;rcases Int.lt_trichotomy D 0 with h1|h1|h1
     · exact h1
     · exact absurd h1 hD0
     · exact absurd (Int.mul_pos h1 hk') (by omega)
 · intro he;have hk' : ((2 ^ (min (placeOf single a) (placeOf single b) - -149).toNat:Nat):Int)≠0:=by omega
   rcases Int.mul_eq_zero.1 he with h1|h1
   · rw [if_pos h1]
   · exact absurd h1 hk'
theorem sub_add (x:Nat) (t:Bool) (b:Nat) (hb:b<2139095040):single.sub x (single.word t b)=single.add x (single.word (!t) b):=by
 unfold Format.sub Format.add;rw [zax single t b (by rw [inf32];exact hb),zax single (!t) b (by rw [inf32];exact hb)];rfl
theorem sub_pos (x a:Nat) (hx:x<2139095040) (ha:a<2139095040) :
 (a<=x->single.sub x a=some (single.word false (RG 23 0 (sizeOf single x - sizeOf single a))))∧(x<a->single.sub x a=some (single.word true (RG 23 0 (sizeOf single a - sizeOf single x)))):=by
 have h1:=sub_add x false a ha;obtain ⟨neg,h2,h3,h4⟩:=add_fin false true x a hx ha;have hw:single.word false a=a:=rfl;have hw2:single.word false x=x:=rfl;rw [hw] at h1;rw [hw2] at h2;rw [h1,show (!false)=true from rfl,h2];have e1:sv false (sizeOf single x)=(sizeOf single x:Int):=rfl;have e2:sv true (sizeOf single a)=-(sizeOf single a:Int):=rfl;rw [e1,e2] at h3 h4 ⊢;constructor
 · intro h;have hs:=size_le h;have hn:((sizeOf single x:Int)+-(sizeOf single a:Int)).natAbs=sizeOf single x - sizeOf single a:=by omega
   have hr:RG 23 0 (sizeOf single x - sizeOf single a)<=x:=RG_le (by omega) hx;rw [hn,Nat.min_eq_left (by omega)];by_cases h0:(sizeOf single x:Int)+-(sizeOf single a:Int)=0
   · rw [h4 h0];rfl
   · rw [h3 h0];have:decide ((sizeOf single x:Int)+-(sizeOf single a:Int)<0)=false:=by simp;omega
     rw [this]
 · intro h;have hs:=zcb single h;have hn:((sizeOf single x:Int)+-(sizeOf single a:Int)).natAbs=sizeOf single a - sizeOf single x:=by omega
   have hr:RG 23 0 (sizeOf single a - sizeOf single x)<=a:=RG_le (by omega) ha;rw [hn,Nat.min_eq_left (by omega),h3 (by omega)];have:decide ((sizeOf single x:Int)+-(sizeOf single a:Int)<0)=true:=by simp;omega
   rw [this]
theorem add_pos (a p:Nat) (ha:a<2139095040) (hp:p<2139095040) (h:RG 23 0 (sizeOf single a+sizeOf single p)<2139095040):single.add a (single.word false p)=some (RG 23 0 (sizeOf single a+sizeOf single p)):=by
 obtain ⟨neg,h2,h3,h4⟩:=add_fin false false a p ha hp;have hw2:single.word false a=a:=rfl;rw [hw2] at h2;have e1:∀ n,sv false n=(n:Int):=fun _=>rfl;rw [e1,e1] at h2 h3 h4;have hn:((sizeOf single a:Int)+(sizeOf single p:Int)).natAbs=sizeOf single a+sizeOf single p:=by omega
 rw [h2,hn,Nat.min_eq_left (by omega)];by_cases h0:(sizeOf single a:Int)+(sizeOf single p:Int)=0
 · rw [h4 h0];rfl
 · rw [h3 h0];have:decide ((sizeOf single a:Int)+(sizeOf single p:Int)<0)=false:=by simp;omega
   rw [this];rfl
theorem add_neg (a p:Nat) (ha:a<2139095040) (hp:p<=a):single.add a (single.word true p)=some (RG 23 0 (sizeOf single a - sizeOf single p)):=by
 have h1:=sub_add a false p (by omega);rw [show (!false)=true from rfl] at h1;rw [<- h1];have hw:single.word false p=p:=rfl;rw [hw,(sub_pos a p ha (by omega)).1 hp];rfl
theorem div_pow (c k:Nat) (hc:single.read c=.number false 8388608 ((k:Int) - 23)) (s:Bool) (a:Nat) (ha:a<2139095040):single.div (single.word s a) c=some (single.word s (min (RG 23 k (sizeOf single a)) 2139095040)):=by
 have hm:=zfm single a;have hl:=zd2 single _ hm;have hr:=zax single s a (by rw [inf32];exact ha);have hns:=zd1 single s a (-(k:Int));rw [show -149+-(k:Int)=-149 - (k:Int) by omega,near32s] at hns;rw [<- hns];unfold Format.div;rw [hr,hc];rw [fb32] at hl;have hbl:(8388608:Nat).log2=23:=by decide
 simp only [Datum.quotient,if_neg (by decide:¬ (8388608:Nat)=0),Option.map_some,Format.write,Bool.xor_false,hbl,fb32];generalize hmore:23+2+23 - (zbg single a).log2=more;generalize hmm:zbg single a=m at *;have e:m <<< more=m*2 ^ (more - 23)*8388608:=by
  rw [Nat.shiftLeft_eq,Nat.mul_assoc,show (8388608:Nat)=2 ^ 23 from by decide,<- Nat.pow_add];congr 2;omega
 rw [e,Nat.mul_div_cancel _ (by decide),Nat.mul_mod_left];by_cases h0:m=0
 · subst h0;simp [zaq]
 · have e2:2*(m*2 ^ (more - 23))+(0 != 0).toNat=m*2 ^ (more - 23+1):=by
    rw [Nat.pow_succ,Nat.mul_comm 2,Nat.mul_assoc];simp
   rw [e2,za9 single s m _ _ h0];congr 2;omega
end Fl
end Go.Proofs.YtfcbjcebkahehaaGreatDoor
namespace Go.Proofs.YtfcbjcebkahehaaGreatDoor
namespace Fl
open Ieee
theorem mul_four (a:Nat) (ha:a<2139095040):single.mul 1082130432 a=some (min (RG 23 0 (4*sizeOf single a)) 2139095040):=by
 have hr:=zax single false a (by rw [inf32];exact ha);have h4:single.read 1082130432=.number false 8388608 (-21):=by decide
 have hw:single.word false a=a:=rfl;rw [hw] at hr;have hns:=zd1 single false a 2;have hsh:single.nearest false (4*sizeOf single a) (-149)=single.nearest false (sizeOf single a) (-149+2):=by
  by_cases h0:sizeOf single a=0
  · rw [h0,zaq,zaq]
  · (have:=za9 single false (sizeOf single a) 2 (-149) h0);rw [show sizeOf single a*2 ^ 2=4*sizeOf single a by omega] at this;exact this
 rw [zhy] at hsh;have hw2:single.word false (min (RG 23 0 (4*sizeOf single a)) 2139095040)=min (RG 23 0 (4*sizeOf single a)) 2139095040:=word_false _ _;rw [<- hw2,hsh,<- hns];unfold Format.mul;rw [hr,h4];show some (single.nearest (false ^^ false) (8388608*zbg single a) (-21+placeOf single a))=_;have e3:(8388608:Nat)=2 ^ 23:=by decide
 have e2:(8388608*zbg single a)=zbg single a*2 ^ 23:=by rw [e3,Nat.mul_comm]
 by_cases h0:zbg single a=0
 · rw [h0];simp [zaq]
 · rw [e2,za9 single _ _ _ _ h0];congr 2;omega
end Fl
end Go.Proofs.YtfcbjcebkahehaaGreatDoor
namespace Go.Proofs.YtfcbjcebkahehaaGreatDoor
namespace Fl
open Ieee
theorem pow_rung (j:Nat) (hj:j<=250):∃ r,r<2139095040∧sizeOf single r=2 ^ j:=by
 by_cases h:j<23
 · refine ⟨2 ^ j,?_,?_⟩
   · (have:=Nat.pow_lt_pow_right (a:=2) (by omega) h);have e:(2:Nat) ^ 23=8388608:=(by decide);omega
   · unfold sizeOf;rw [if_pos];unfold Format.binade;rw [fb32];exact Nat.pow_lt_pow_right (by omega) h
 · refine ⟨(j - 22)*8388608,by omega,?_⟩;unfold sizeOf;rw [bi32,if_neg (by omega),Nat.mul_mod_left,Nat.mul_div_cancel _ (by omega),Nat.add_zero,show (8388608:Nat)=2 ^ 23 from by decide,<- Nat.pow_add];congr 1
   omega
theorem zgx (N k:Nat) (hk:1<=k) (hN:N<=2 ^ 200):RG 23 0 N<2139095040∧RG 23 k (sizeOf single (RG 23 0 N))<2139095040∧sizeOf single (RG 23 k (sizeOf single (RG 23 0 N)))<=N:=by
 by_cases h0:N=0
 · subst h0;rw [zd4,size0,zd4,size0];omega
 · have hl:N.log2<=200:=by
    (have:=log2_mono N _ hN);rwa [Nat.log2_two_pow] at this
   have h1:=Nat.log2_self_le h0;have h2:=@Nat.lt_log2_self N;obtain ⟨q,hq,hqs⟩:=pow_rung N.log2 (by omega);obtain ⟨q',hq',hqs'⟩:=pow_rung (N.log2+1) (by omega);have hr:RG 23 0 N<=q':=RG_le (by rw [hqs',Nat.pow_zero,Nat.mul_one];omega) hq';have hs:=size_le hr;rw [hqs'] at hs;have hk2:2 ^ (N.log2+1)<=2 ^ N.log2*2 ^ k:=by rw [<- Nat.pow_add];exact Nat.pow_le_pow_right (by omega) (by omega)
   have hp:RG 23 k (sizeOf single (RG 23 0 N))<=q:=RG_le (by rw [hqs];omega) hq;have hs2:=size_le hp;rw [hqs] at hs2;exact ⟨by omega,by omega,by omega⟩
structure Went (x a c lo hi:Nat) (neg:Bool) (r p a' : Nat):Prop where
 sub:single.sub x a=some (single.word neg r)
 div:single.div (single.word neg r) c=some (single.word neg p)
 add:single.add a (single.word neg p)=some a'
 lo:lo<=a'
 hi:a'<=hi
 pos:neg=true->0<r
 is_:r=RG 23 0 ((sizeOf single x - sizeOf single a)+(sizeOf single a - sizeOf single x))
 fin:r<2139095040
theorem goes (k c:Nat) (hk:1<=k) (hc:single.read c=.number false 8388608 ((k:Int) - 23)) (a x lo hi:Nat) (h1:lo<=a) (h2:a<=hi) (h3:lo<=x) (h4:x<=hi) (h5:hi<2139095040) (hB:sizeOf single hi<=2 ^ 200) :
 ∃ neg r p a',Went x a c lo hi neg r p a':=by
 obtain ⟨s1,s2⟩:=sub_pos x a (by omega) (by omega);have m1:=size_le h2;have m2:=size_le h4;rcases Nat.lt_or_ge x a with hlt|hge
 · have hs:=zcb single hlt;obtain ⟨t1,t2,t3⟩:=zgx (sizeOf single a - sizeOf single x) k hk (by omega);have hpa:RG 23 k (sizeOf single (RG 23 0 (sizeOf single a - sizeOf single x)))<=a:=size_le' (by omega);have hd:=div_pow c k hc true (RG 23 0 (sizeOf single a - sizeOf single x)) t1;rw [Nat.min_eq_left (by omega)] at hd;refine ⟨true,_,_,_,s2 hlt,hd,add_neg a _ (by omega) hpa,?_,?_,?_,?_,t1⟩
   · refine Nat.le_trans h3 (RG_ge (by rw [Nat.pow_zero,Nat.mul_one];omega) (by omega))
   · refine Nat.le_trans (RG_le (r:=a) (by rw [Nat.pow_zero,Nat.mul_one];omega) (by omega)) h2
   · intro _;exact RG_ge (r:=1) (by rw [size1];omega) (by omega)
   · congr 1;omega
 · have hs:=size_le hge;obtain ⟨t1,t2,t3⟩:=zgx (sizeOf single x - sizeOf single a) k hk (by omega);have hd:=div_pow c k hc false (RG 23 0 (sizeOf single x - sizeOf single a)) t1;rw [Nat.min_eq_left (by omega)] at hd;have hx:RG 23 0 (sizeOf single a+sizeOf single (RG 23 k (sizeOf single (RG 23 0 (sizeOf single x - sizeOf single a)))))<=x:=RG_le (by rw [Nat.pow_zero,Nat.mul_one];omega) (by omega);refine ⟨false,_,_,_,s1 hge,hd,add_pos a _ (by omega) t2 (by omega),?_,?_,?_,?_,t1⟩
   · exact Nat.le_trans h1 (RG_ge (by rw [Nat.pow_zero,Nat.mul_one];omega) (by omega))
   · exact Nat.le_trans hx h4
   · intro h;cases h
   · congr 1;omega
def fI (n:Nat):Nat:=RG 23 0 (n*2 ^ 149)
theorem hsum (L:Int) (h1:L<=0) (h2:-149<=L):(0 - L).toNat+(L - -149).toNat=149:=by omega
theorem int_rung (n:Nat) (h:n<16777216):∃ r,r<2139095040∧sizeOf single r=n*2 ^ 149:=by
 by_cases h0:n=0
 · subst h0;exact ⟨0,by omega,by rw [size0,Nat.zero_mul]⟩
 · have h24:n<2 ^ (single.fractionBits+1):=by rw [fb32];exact h
   have hp:single.leastPlace<=(0:Int):=by rw [lp32];omega
   have hll:=zd2 single n h24;have hr:zcc single n 0<single.infRung:=by
    (have:=zfv single n 0 h0 h24 hp 250 (by rw [fb32,lp32];rw [fb32] at hll;omega) (by omega));rw [bi32] at this;rw [inf32];omega
   have hla:=zcp single n 0 h24 hp;have hlb:-149<=lastOf single n 0:=by unfold lastOf;rw [lp32];omega
   obtain ⟨q1,q2⟩:=zcv single n 0 h0 h24 hp;refine ⟨zcc single n 0,by rw [inf32] at hr;exact hr,?_⟩;rw [zbe,q1,q2,lp32,Nat.mul_assoc,<- Nat.pow_add,hsum _ hla hlb]
theorem zh5 (n:Nat) (h:n<16777216):sizeOf single (fI n)=n*2 ^ 149:=by
 obtain ⟨r,h1,h2⟩:=int_rung n h;unfold fI;rw [<- h2,zgk r h1]
theorem fI_lt (n:Nat) (h:n<16777216):fI n<2139095040:=by
 obtain ⟨r,h1,h2⟩:=int_rung n h;unfold fI;rw [<- h2,zgk r h1];exact h1
theorem fI_mono {n m:Nat} (h:n<=m):fI n<=fI m:=RG_mono 23 0 _ _ (Nat.mul_le_mul_right _ h)
theorem ofI (n:Nat) (h:n<16777216):floatOfInt .f32 (n:Int)=fI n:=by
 rw [ofInt32];have e:single.nearest false n 0=single.nearest false (n*2 ^ 149) (-149):=by
  by_cases h0:n=0
  · subst h0;rw [Nat.zero_mul,zaq,zaq]
  · have e9:(-149:Int)+((149:Nat):Int)=0:=(by decide);rw [za9 single false n 149 _ h0,e9]
 have h2:=fI_lt n h;rw [e,zhy,word_false];exact Nat.min_eq_left (Nat.le_of_lt h2)
theorem fI20:fI 1048576=1233125376:=by decide +kernel
theorem eight32:single.read 1090519040=.number false 8388608 (((3:Nat):Int) - 23):=by decide
theorem fourth32:single.read 1082130432=.number false 8388608 (((2:Nat):Int) - 23):=by decide
theorem twice32:single.read 1073741824=.number false 8388608 (((1:Nat):Int) - 23):=by decide
theorem zfg:sizeOf single 1233125376=1048576*2 ^ 149:=by rw [<- fI20];exact zh5 _ (by omega)
theorem top_200 {r:Nat} (h:r<=1233125376):sizeOf single r<=2 ^ 200:=by
 have h1:=size_le h;rw [zfg] at h1;have:(1048576:Nat)*2 ^ 149<=2 ^ 200:=by decide +kernel
 omega
theorem half_fin (x:Nat) (h:x<=1233125376):∃ y,single.div x 1073741824=some y∧y<=x:=by
 have h1:=div_pow 1073741824 1 twice32 false x (by omega);have h2:RG 23 1 (sizeOf single x)<=x:=RG_le (by rw [Nat.pow_one];omega) (by omega);rw [word_false,word_false,Nat.min_eq_left (by omega)] at h1;exact ⟨_,h1,h2⟩
end Fl
end Go.Proofs.YtfcbjcebkahehaaGreatDoor
namespace Go.Proofs.YtfcbjcebkahehaaGreatDoor
namespace Fl
open Ieee
def cdiv (n D:Nat):Nat:=n / D+(if n % D=0 then 0 else 1)
theorem cut_up (n d:Nat):Toward.up.cut false n d=cdiv n (2 ^ d):=by
 have key:∀ g,(n / g+(!false&&n % g != 0).toNat)=cdiv n g:=by
  intro g;unfold cdiv;by_cases h:n % g=0
  · rw [if_pos h,h];rfl
  · rw [if_neg h];have:(n % g != 0)=true:=(by simp [h]);rw [this];rfl
 show n / (1 <<< min d (n.log2+2))+_=_;by_cases hd:d<=n.log2+2
 · rw [Nat.min_eq_left hd,Nat.one_shiftLeft];exact key (2 ^ d)
 · rw [Nat.min_eq_right (by omega),Nat.one_shiftLeft];refine (key _).trans ?_;have h1:n<2 ^ (n.log2+1):=Nat.lt_log2_self;have h2:2 ^ (n.log2+2)=2*2 ^ (n.log2+1):=by rw [<- Nat.pow_succ']
   have h3:2 ^ (n.log2+2)<=2 ^ d:=Nat.pow_le_pow_right (by omega) (by omega);unfold cdiv;generalize 2 ^ (n.log2+1)=a at *;generalize 2 ^ (n.log2+2)=b at *;generalize 2 ^ d=c at *;rw [Nat.div_eq_of_lt (by omega:n<b),Nat.div_eq_of_lt (by omega:n<c),Nat.mod_eq_of_lt (by omega:n<b),Nat.mod_eq_of_lt (by omega:n<c)]
theorem cut_zr (n d:Nat):Toward.zero.cut false n d=n / 2 ^ d:=by
 show n / (1 <<< min d (n.log2+2))+0=_;by_cases hd:d<=n.log2+2
 · rw [Nat.min_eq_left hd,Nat.one_shiftLeft,Nat.add_zero]
 · rw [Nat.min_eq_right (by omega),Nat.one_shiftLeft,Nat.add_zero];have h1:n<2 ^ (n.log2+1):=Nat.lt_log2_self;have h2:2 ^ (n.log2+2)=2*2 ^ (n.log2+1):=by rw [<- Nat.pow_succ']
   have h3:2 ^ (n.log2+2)<=2 ^ d:=Nat.pow_le_pow_right (by omega) (by omega);generalize 2 ^ (n.log2+1)=a at *;generalize 2 ^ (n.log2+2)=b at *;generalize 2 ^ d=c at *;rw [Nat.div_eq_of_lt (by omega:n<b),Nat.div_eq_of_lt (by omega:n<c)]
theorem cdiv_mul (n D k:Nat) (hk:0<k):cdiv (n*k) (D*k)=cdiv n D:=by
 unfold cdiv;rw [Nat.mul_div_mul_right _ _ hk,Nat.mul_mod_mul_right];by_cases h:n % D=0
 · rw [h,Nat.zero_mul,if_pos rfl]
 · rw [if_neg h,if_neg (Nat.mul_ne_zero h (by omega))]
theorem cdiv_ratio {n D n' E:Nat} (h:n*E=n' * D) (hD:0<D) (hE:0<E):cdiv n D=cdiv n' E:=by
 rw [<- cdiv_mul n D E hE,<- cdiv_mul n' E D hD,h,Nat.mul_comm D E]
theorem div_ratio {n D n' E:Nat} (h:n*E=n' * D) (hD:0<D) (hE:0<E):n / D=n' / E:=by
 rw [<- Nat.mul_div_mul_right n D hE,<- Nat.mul_div_mul_right n' E hD,h,Nat.mul_comm D E]
theorem pw1 (i:Int) (h:-149<=i):i.toNat+149=(i - -149).toNat+(-i).toNat:=by omega
theorem pw2 (i L:Int) (h:-149<=i) (hL:L<=i):(i - L).toNat+L.toNat+149=(i - -149).toNat+(-L).toNat:=by omega
def wholes (g:Nat):Nat:=sizeOf single g / 2 ^ 149
def ups (g:Nat):Nat:=cdiv (sizeOf single g) (2 ^ 149)
theorem trunc32 (g:Nat) (hg:g<2139095040):(single.read g).toInt .zero=some ((wholes g:Nat):Int):=by
 have hr:=zax single false g (by rw [inf32];exact hg);rw [word_false] at hr;have hp:=zb4 single g;rw [lp32] at hp;have hs:=zbe single g;rw [lp32] at hs;rw [hr];unfold Datum.toInt Datum.integral;dsimp only
 rw [cut_zr];have e:zbg single g <<< (placeOf single g).toNat / 2 ^ (-placeOf single g).toNat=wholes g:=by
  unfold wholes;refine div_ratio ?_ (Nat.two_pow_pos _) (Nat.two_pow_pos _);rw [hs,Nat.shiftLeft_eq,Nat.mul_assoc,Nat.mul_assoc,<- Nat.pow_add,<- Nat.pow_add,pw1 _ hp]
 rw [e];simp [signed]
theorem toInt32 (g:Nat) (hg:g<2139095040) (h:wholes g<=1000000000000):floatToIntVal .f32 g .i64=some ((wholes g:Nat):Int):=by
 unfold floatToIntVal FloatKind.decode;show (match ((single.read g).toInt .zero) with|some n=>if IntKind.i64.min<=n∧n<=IntKind.i64.max then some n else none|none=>none)=_;rw [trunc32 g hg];have:(-9223372036854775808:Int)<=(wholes g:Int)∧(wholes g:Int)<=9223372036854775807:=by omega
 show (if (-9223372036854775808:Int)<=(wholes g:Int)∧(wholes g:Int)<=9223372036854775807 then _ else _)=_;rw [if_pos this]
theorem toInt64 (n:Nat) (h:n<2 ^ 53):floatToIntVal .f64 (double.nearest false n 0) .i64=some (n:Int):=by
 unfold floatToIntVal FloatKind.decode;show (match ((double.read (double.nearest false n 0)).toInt .zero) with|some n=>if IntKind.i64.min<=n∧n<=IntKind.i64.max then some n else none|none=>none)=_;have hv:(double.read (double.nearest false n 0)).toInt .zero=some (n:Int):=by
  by_cases h0:n=0
  · subst h0;decide
  · have hp:double.leastPlace<=(0:Int):=(by rw [lp64];omega);have hr:zcc double n 0<double.infRung:=by
     have hl:=zd2 double n h;rw [fb64] at hl;(have:=zfv double n 0 h0 h hp 2000 (by rw [fb64,lp64];omega) (by omega));rw [bi64] at this;rw [inf64];omega
    have hl:=zcp double n 0 h hp;rw [zdi double false n 0 h0 h hp hr];unfold Datum.toInt Datum.integral;have e1:(lastOf double n 0).toNat=0:=(by omega);have e2:(-lastOf double n 0).toNat=(0 - lastOf double n 0).toNat:=(by omega);dsimp only
    rw [e1,e2,Nat.shiftLeft_zero,cutz n _ h0];simp [signed]
 rw [hv];have:(-9223372036854775808:Int)<=(n:Int)∧(n:Int)<=9223372036854775807:=by
  have:(2:Nat) ^ 53=9007199254740992:=by decide
  omega
 show (if (-9223372036854775808:Int)<=(n:Int)∧(n:Int)<=9223372036854775807 then _ else _)=_;rw [if_pos this]
theorem wide (g:Nat) (hg:g<2139095040):∃ W m L,floatToFloatBits .f32 g .f64=some W∧double.read W=.number false m L∧(Datum.number false m L).integral .up=.number false (ups g) 0:=by
 have hr:=zax single false g (by rw [inf32];exact hg);rw [word_false] at hr;have hp:=zb4 single g;rw [lp32] at hp;have hs:=zbe single g;rw [lp32] at hs;have hm:=zfm single g;rw [fb32] at hm;have key:∃ m L,double.read (double.nearest false (zbg single g) (placeOf single g))=.number false m L∧(Datum.number false m L).integral .up=.number false (ups g) 0:=by
  by_cases h0:zbg single g=0
  · refine ⟨0,-1074,?_,?_⟩
    · rw [h0,zaq];decide
    · unfold Datum.integral ups;dsimp only
      rw [hs,h0,Nat.zero_mul,cut_up];(have z:∀ D,cdiv 0 D=0:=fun D=>by unfold cdiv;rw [Nat.zero_div,Nat.zero_mod,if_pos rfl]);rw [z,show (0:Nat) <<< ((-1074:Int)).toNat=0 from by rw [Nat.zero_shiftLeft],z]
  · have hm2:zbg single g<2 ^ (double.fractionBits+1):=by
     rw [fb64];exact Nat.lt_trans hm (by decide)
    have hp2:double.leastPlace<=placeOf single g:=(by rw [lp64];omega);have hl2:=zd2 double _ hm2;rw [fb64] at hl2;have hpu:placeOf single g<=200:=by
     unfold placeOf;split
     · rw [lp32];omega
     · rw [lp32,bi32];omega
    have hri:zcc double (zbg single g) (placeOf single g)<double.infRung:=by
     (have:=zfv double _ _ h0 hm2 hp2 1400 (by rw [fb64,lp64];omega) (by omega));rw [bi64] at this;rw [inf64];omega
    have hL:=zcp double _ _ hm2 hp2;refine ⟨_,_,zdi double false _ _ h0 hm2 hp2 hri,?_⟩;unfold Datum.integral ups;dsimp only
    rw [cut_up];congr 1
    refine cdiv_ratio ?_ (Nat.two_pow_pos _) (Nat.two_pow_pos _);rw [hs,Nat.shiftLeft_eq,Nat.mul_assoc,Nat.mul_assoc,Nat.mul_assoc,<- Nat.pow_add,<- Nat.pow_add,<- Nat.pow_add,<- Nat.add_assoc,pw2 _ _ hp hL]
 obtain ⟨m,L,h1,h2⟩:=key;refine ⟨double.nearest false (zbg single g) (placeOf single g),m,L,?_,h1,h2⟩;unfold floatToFloatBits FloatKind.decode;rw [if_neg (by decide)];show (match single.read g with|.nan _ _=>none|.infinity s=>some (FloatKind.f64.encode (.infinity s))|.number s m e=>if (double.read (double.nearest s m e)).isInfinity then none else some (double.nearest s m e))=_;rw [hr];dsimp only
 rw [h1];rfl
end Fl
end Go.Proofs.YtfcbjcebkahehaaGreatDoor
namespace Go.Proofs.YtfcbjcebkahehaaGreatDoor.Cl
open Go.RowKit Ieee
theorem zgv (k:FloatKind) (b:Nat):Op.unary .neg (.float k b)=pure (.float k (Op.negFloat k b)):=rfl
theorem zdh {P:Program} {w:World} {a:Addr} {m:Mode} (k:FloatKind) (b:Nat):(store a (.float k b) m).run P w=stored P w a (.float k b) m:=run_store P w a _ m rfl
attribute [local go_sem] zgv zdh
theorem ari (op:BinOp) (t:TypeId) (k:FloatKind) (x y r:Nat) (h:floatBits op k x y=some r):∀ w,(binOp op t (.float k x) (.float k y)).run Tryz.prog w=.ok (.float k r) w :=
 fun w=>run_float_arith w op t k x y r h
theorem fsub {x y r:Nat} (h:single.sub x y=some r):∀ w,(binOp .sub 118 (.float .f32 x) (.float .f32 y)).run Tryz.prog w=.ok (.float .f32 r) w:=ari .sub 118 .f32 x y r h
theorem fadd {x y r:Nat} (h:single.add x y=some r):∀ w,(binOp .add 118 (.float .f32 x) (.float .f32 y)).run Tryz.prog w=.ok (.float .f32 r) w:=ari .add 118 .f32 x y r h
theorem fmul {x y r:Nat} (h:single.mul x y=some r):∀ w,(binOp .mul 118 (.float .f32 x) (.float .f32 y)).run Tryz.prog w=.ok (.float .f32 r) w:=ari .mul 118 .f32 x y r h
theorem fdiv {x y r:Nat} (h:single.div x y=some r):∀ w,(binOp .quo 118 (.float .f32 x) (.float .f32 y)).run Tryz.prog w=.ok (.float .f32 r) w:=ari .quo 118 .f32 x y r h
theorem neg_true (r:Nat) (h:r<2139095040):Op.negFloat .f32 (single.word true r)=r:=by
 show (2 ^ 31+r) ^^^ 2 ^ 31=r;exact Fl.xor_top' 31 r (by omega)
theorem zg4 (w:World) {f e c p a' : Nat} (h1:single.div e c=some p) (h2:single.add f p=some a'):Calls Tryz.prog 132 #[.float .f32 f,.float .f32 e,.float .f32 c] w fun r w'=>r=.returned (.float .f32 a')∧w'=w:=by
 have q1:=fdiv h1;have q2:=fadd h2;go_enter Tryz.func132,Tryz.ntmps132
 go_wp2;go_ret;exact ⟨rfl,rfl⟩
theorem size_any (w:World) (neg:Bool) (r:Nat) (hr:r<2139095040) (hp:neg=true->0<r):Calls Tryz.prog 133 #[.float .f32 (single.word neg r)] w fun e w'=>e=.returned (.float .f32 r)∧w'=w:=by
 cases neg
 · have ho:(FloatKind.f32.format.order r 0==some .lt)=false:=by
    show (single.order r 0==some .lt)=false;rw [Fl.ordPos single r 0 (by rw [Fl.inf32];omega) (by rw [Fl.inf32];omega) Fl.bi_le32];rcases Nat.eq_zero_or_pos r with h|h
    · rw [h];rfl
    · rw [Nat.compare_eq_gt.2 h];rfl
   rw [Fl.word_false];go_enter Tryz.func133,Tryz.ntmps133
   go_wp2;go_ret;exact ⟨rfl,rfl⟩
 · have ho:(FloatKind.f32.format.order (single.word true r) 0==some .lt)=true:=by
    show (single.order (single.word true r) 0==some .lt)=true;rw [Fl.ordNeg single r (by rw [Fl.inf32];omega) (hp rfl) Fl.bi_le32];rfl
   have hn:=neg_true r hr;generalize single.word true r=x at *;go_enter Tryz.func133,Tryz.ntmps133
   go_wp2;go_ret;exact ⟨rfl,rfl⟩
structure Mt (w:World) (t A:Nat) (h:Bool) (a b:Nat):Prop where
 at_:w.heap[A]?=some (.cells #[.bool h,.float .f32 a,.float .f32 b] t)
section
variable {w w' : World} {t A:Nat} {h:Bool} {a b:Nat}
theorem Mt.c0 (m:Mt w t A h a b):w.cell? ⟨A,0,none⟩=some (.bool h):=by unfold World.cell?;rw [m.at_];rfl
theorem Mt.c1 (m:Mt w t A h a b):w.cell? ⟨A,1,none⟩=some (.float .f32 a):=by unfold World.cell?;rw [m.at_];rfl
theorem Mt.c2 (m:Mt w t A h a b):w.cell? ⟨A,2,none⟩=some (.float .f32 b):=by unfold World.cell?;rw [m.at_];rfl
theorem Mt.f (m:Mt w t A h a b) (n:Nat):w.frozen? ⟨A,n,none⟩=false:=by unfold World.frozen?;rw [m.at_];rfl
theorem Mt.s0 (m:Mt w t A h a b) (v:Bool):Mt (w.setCell ⟨A,0,none⟩ (.bool v)) t A v a b:=⟨by unfold World.setCell;simp [Array.getElem?_modify,m.at_]⟩
theorem Mt.s1 (m:Mt w t A h a b) (v:Nat):Mt (w.setCell ⟨A,1,none⟩ (.float .f32 v)) t A h v b:=⟨by unfold World.setCell;simp [Array.getElem?_modify,m.at_]⟩
theorem Mt.s2 (m:Mt w t A h a b) (v:Nat):Mt (w.setCell ⟨A,2,none⟩ (.float .f32 v)) t A h a v:=⟨by unfold World.setCell;simp [Array.getElem?_modify,m.at_]⟩
end
def zcg (n:Int):Nat:=(min (max n 0) 1048576).toNat
theorem zeq (n:Int):zcg n<=1048576:=by unfold zcg;omega
structure Own (A:Nat) (w w' : World):Prop where
 os:w'.os=w.os
 tape:w'.tape=w.tape
 output:w'.output=w.output
 size:w.heap.size<=w'.heap.size
 kept:∀ b,b<w.heap.size->b≠A->w'.heap[b]?=w.heap[b]?
theorem Own.refl (A:Nat) (w:World):Own A w w:=⟨rfl,rfl,rfl,Nat.le_refl _,fun _ _ _=>rfl⟩
theorem Own.set {A:Nat} {w w' : World} (o:Own A w w') (n:Nat) (v:Value):Own A w (w'.setCell ⟨A,n,none⟩ v) :=
 ⟨o.os,o.tape,o.output,by simpa [World.setCell] using o.size,fun b hb hne=>(Below.heap_setCell _ _ _ _ hne).trans (o.kept b hb hne)⟩
theorem hear_first {w:World} {A:Nat} {a b:Nat} (m:Mt w 136 A false a b) (n:Int) {y:Nat} (hy:single.div (Fl.fI (zcg n)) 1073741824=some y) :
 Calls Tryz.prog 86 #[ptr A,iI n] w fun e w'=>e=.returned (.tuple #[])∧Mt w' 136 A true (Fl.fI (zcg n)) y∧Own A w w':=by
 have c0:=m.c0;have c1:=m.c1;have c2:=m.c2;have hx:=Fl.ofI (zcg n) (by have:=zeq n;omega);obtain ⟨M,hM⟩:∃ M:Int,max n 0=M:=⟨_,rfl⟩;obtain ⟨X,hX⟩:∃ X:Int,min M 1048576=X:=⟨_,rfl⟩;have hcl:((zcg n:Nat):Int)=X:=by unfold zcg;omega
 rw [hcl] at hx;generalize Fl.fI (zcg n)=fx at *;have q:=fdiv hy;obtain ⟨w1,hw1⟩:∃ w1,w.setCell ⟨A,0,none⟩ (.bool true)=w1:=⟨_,rfl⟩;obtain ⟨w2,hw2⟩:∃ w2,w1.setCell ⟨A,1,none⟩ (.float .f32 fx)=w2:=⟨_,rfl⟩;obtain ⟨w3,hw3⟩:∃ w3,w2.setCell ⟨A,2,none⟩ (.float .f32 y)=w3:=⟨_,rfl⟩;have m1:=m.s0 true;rw [hw1] at m1;have m2:=m1.s1 fx;rw [hw2] at m2;have m3:=m2.s2 y;rw [hw3] at m3;have HE:Hid (Mt w3 136 A true fx y∧Own A w w3):=⟨m3,by rw [<- hw3,<- hw2,<- hw1];exact (((Own.refl A w).set 0 _).set 1 _).set 2 _⟩;have f0:=m.f;have f1:=m1.f;have f2:=m2.f;have d1:=m1.c1;have d2:=m2.c2;clear hcl m m1 m2 m3;go_enter Tryz.func86,Tryz.ntmps86
 go_wp2
 ((try simp only [Exit.inBlock,Exit.then]);refine bodyPost_ret (results_none rfl _ _ _) rfl ?_)
 exact ⟨rfl,HE.out⟩
theorem hear_next {w:World} {A:Nat} {a b:Nat} (m:Mt w 136 A true a b) (n:Int) {lo hi lo' hi' : Nat} {neg neg2:Bool} {r p a' r2 p2 b' : Nat} (h1:Fl.Went (Fl.fI (zcg n)) a 1090519040 lo hi neg r p a') (h2:Fl.Went r b 1082130432 lo' hi' neg2 r2 p2 b') :
 Calls Tryz.prog 86 #[ptr A,iI n] w fun e w'=>e=.returned (.tuple #[])∧Mt w' 136 A true a' b'∧Own A w w':=by
 have c0:=m.c0;have c1:=m.c1;have c2:=m.c2;have hx:=Fl.ofI (zcg n) (by have:=zeq n;omega);obtain ⟨M,hM⟩:∃ M:Int,max n 0=M:=⟨_,rfl⟩;obtain ⟨X,hX⟩:∃ X:Int,min M 1048576=X:=⟨_,rfl⟩;have hcl:((zcg n:Nat):Int)=X:=by unfold zcg;omega
 rw [hcl] at hx;generalize Fl.fI (zcg n)=fx at *;have q1:=fsub h1.sub;have q2:=fsub h2.sub;have Ad:=hid (fun w=>size_any w neg r h1.fin h1.pos);have Ab:=hid (fun w=>zg4 w h1.div h1.add);have Ae:=hid (fun w=>zg4 w h2.div h2.add);generalize single.word neg r=ew at *;generalize single.word neg2 r2=ew2 at *;obtain ⟨w1,hw1⟩:∃ w1,w.setCell ⟨A,1,none⟩ (.float .f32 a')=w1:=⟨_,rfl⟩;have m1:=m.s1 a';rw [hw1] at m1;have f0:=m.f;have Aa:=hid m1;have Ac:Hid (Own A w w1):=by rw [<- hw1];exact (Own.refl A w).set 1 _
 have HE:Hid (Mt ((w1.setCell ⟨A,2,none⟩ (.float .f32 b')).drew) 136 A true a' b'∧Own A w ((w1.setCell ⟨A,2,none⟩ (.float .f32 b')).drew)):=by
  have m2:=Aa.out.s2 b';have o2:=Ac.out.set 2 (.float .f32 b');exact ⟨⟨m2.at_⟩,⟨o2.os,o2.tape,o2.output,o2.size,o2.kept⟩⟩
 clear hcl m m1 h1 h2;go_enter Tryz.func86,Tryz.ntmps86
 go_wp2_with fail
 refine (Ab.out _).mono ?_;rintro _ w' ⟨rfl,hw'⟩;subst hw';have d0:=Aa.out.c0;have d1:=Aa.out.c1;have d2:=Aa.out.c2;have f1:=Aa.out.f;clear Ab Aa Ac;go_wp2_with fail
 go_region_with (first
  | (go_at_call 133
     refine (Ad.out _).mono ?_;rintro _ w5 ⟨rfl,hw5⟩
     subst hw5)
  | (go_at_call 132
     refine (Ae.out _).mono ?_;rintro _ w5 ⟨rfl,hw5⟩
     subst hw5))
 all_goals (
  go_end0
  exact ⟨rfl,HE.out⟩)
theorem fI_top {n:Nat} (h:n<=1048576):Fl.fI n<=1233125376:=by
 have:=Fl.fI_mono h
 rwa [Fl.fI20] at this
theorem diff_top {x a hi:Nat} (hx:x<=hi) (ha:a<=hi) (hh:hi<2139095040):Fl.RG 23 0 ((Fl.sizeOf single x - Fl.sizeOf single a)+(Fl.sizeOf single a - Fl.sizeOf single x))<=hi:=by
 have h1:=Fl.size_le hx;have h2:=Fl.size_le ha;exact Fl.RG_le (by rw [Nat.pow_zero,Nat.mul_one];omega) hh
attribute [local go_sem] zgv zdh
theorem dhear_first {w:World} {A:Nat} {a b:Nat} (m:Mt w 120 A false a b) (n:Int) {y:Nat} (hy:single.div (Fl.fI (zcg n)) 1073741824=some y) :
 Calls Tryz.prog 109 #[ptr A,iI n] w fun e w'=>e=.returned (.tuple #[])∧Mt w' 120 A true (Fl.fI (zcg n)) y∧Own A w w':=by
 have c0:=m.c0;have c1:=m.c1;have c2:=m.c2;have hx:=Fl.ofI (zcg n) (by have:=zeq n;omega);obtain ⟨M,hM⟩:∃ M:Int,max n 0=M:=⟨_,rfl⟩;obtain ⟨X,hX⟩:∃ X:Int,min M 1048576=X:=⟨_,rfl⟩;have hcl:((zcg n:Nat):Int)=X:=by unfold zcg;omega
 rw [hcl] at hx;generalize Fl.fI (zcg n)=fx at *;have q:=fdiv hy;obtain ⟨w1,hw1⟩:∃ w1,w.setCell ⟨A,0,none⟩ (.bool true)=w1:=⟨_,rfl⟩;obtain ⟨w2,hw2⟩:∃ w2,w1.setCell ⟨A,1,none⟩ (.float .f32 fx)=w2:=⟨_,rfl⟩;obtain ⟨w3,hw3⟩:∃ w3,w2.setCell ⟨A,2,none⟩ (.float .f32 y)=w3:=⟨_,rfl⟩;have m1:=m.s0 true;rw [hw1] at m1;have m2:=m1.s1 fx;rw [hw2] at m2;have m3:=m2.s2 y;rw [hw3] at m3;have HE:Hid (Mt w3 120 A true fx y∧Own A w w3):=⟨m3,by rw [<- hw3,<- hw2,<- hw1];exact (((Own.refl A w).set 0 _).set 1 _).set 2 _⟩;have f0:=m.f;have f1:=m1.f;have f2:=m2.f;have d1:=m1.c1;have d2:=m2.c2;clear hcl m m1 m2 m3;go_enter Tryz.func109,Tryz.ntmps109
 go_wp2
 ((try simp only [Exit.inBlock,Exit.then]);refine bodyPost_ret (results_none rfl _ _ _) rfl ?_)
 exact ⟨rfl,HE.out⟩
theorem dhear_next {w:World} {A:Nat} {a b:Nat} (m:Mt w 120 A true a b) (n:Int) {lo hi lo' hi' : Nat} {neg neg2:Bool} {r p a' r2 p2 b' : Nat} (h1:Fl.Went (Fl.fI (zcg n)) a 1090519040 lo hi neg r p a') (h2:Fl.Went r b 1082130432 lo' hi' neg2 r2 p2 b') :
 Calls Tryz.prog 109 #[ptr A,iI n] w fun e w'=>e=.returned (.tuple #[])∧Mt w' 120 A true a' b'∧Own A w w':=by
 have c0:=m.c0;have c1:=m.c1;have c2:=m.c2;have hx:=Fl.ofI (zcg n) (by have:=zeq n;omega);obtain ⟨M,hM⟩:∃ M:Int,max n 0=M:=⟨_,rfl⟩;obtain ⟨X,hX⟩:∃ X:Int,min M 1048576=X:=⟨_,rfl⟩;have hcl:((zcg n:Nat):Int)=X:=by unfold zcg;omega
 rw [hcl] at hx;generalize Fl.fI (zcg n)=fx at *;have q1:=fsub h1.sub;have q2:=fdiv h1.div;have q3:=fadd h1.add;have q4:=fsub h2.sub;have q5:=fdiv h2.div;have q6:=fadd h2.add;have hfin:=h1.fin;have hpos:=h1.pos;obtain ⟨w1,hw1⟩:∃ w1,w.setCell ⟨A,1,none⟩ (.float .f32 a')=w1:=⟨_,rfl⟩;obtain ⟨w2,hw2⟩:∃ w2,w1.setCell ⟨A,2,none⟩ (.float .f32 b')=w2:=⟨_,rfl⟩;have m1:=m.s1 a';rw [hw1] at m1;have m2:=m1.s2 b';rw [hw2] at m2;have HE:Hid (Mt w2 120 A true a' b'∧Own A w w2):=⟨m2,by rw [<- hw2,<- hw1];exact ((Own.refl A w).set 1 _).set 2 _⟩;have f0:=m.f;have f1:=m1.f;have d1:=m1.c1;have d2:=m1.c2;generalize single.word neg p=pw at *;generalize single.word neg2 r2=ew2 at *;generalize single.word neg2 p2=pw2 at *;clear hcl m m1 m2 h1 h2;cases neg
 · have ho:(FloatKind.f32.format.order r 0==some .lt)=false:=by
    show (single.order r 0==some .lt)=false;rw [Fl.ordPos single r 0 (by rw [Fl.inf32];omega) (by rw [Fl.inf32];omega) Fl.bi_le32];rcases Nat.eq_zero_or_pos r with h|h
    · rw [h];rfl
    · rw [Nat.compare_eq_gt.2 h];rfl
   rw [Fl.word_false] at q1 q2;go_enter Tryz.func109,Tryz.ntmps109
   go_wp2;go_end0
   exact ⟨rfl,HE.out⟩
 · have ho:(FloatKind.f32.format.order (single.word true r) 0==some .lt)=true:=by
    show (single.order (single.word true r) 0==some .lt)=true;rw [Fl.ordNeg single r (by rw [Fl.inf32];omega) (hpos rfl) Fl.bi_le32];rfl
   have hn:=neg_true r hfin;generalize single.word true r=ew at *;go_enter Tryz.func109,Tryz.ntmps109
   go_wp2;go_end0
   exact ⟨rfl,HE.out⟩
theorem hear_both {h:Bool} {a b:Nat} (ok:MOk h a b) (n:Int):∃ a' b',(∀ w A,Mt w 136 A h a b->Calls Tryz.prog 86 #[ptr A,iI n] w fun e w'=>e=.returned (.tuple #[])∧Mt w' 136 A true a' b'∧Own A w w') ∧
 (∀ w A,Mt w 120 A h a b->Calls Tryz.prog 109 #[ptr A,iI n] w fun e w'=>e=.returned (.tuple #[])∧Mt w' 120 A true a' b'∧Own A w w')∧MOk true a' b':=by
 have hx:=fI_top (zeq n);cases h
 · obtain ⟨y,hy,hyx⟩:=Fl.half_fin _ hx;exact ⟨_,y,fun w A m=>hear_first m n hy,fun w A m=>dhear_first m n hy,hx,by omega,fun h=>by cases h⟩
 · obtain ⟨neg,r,p,a',g1⟩:=Fl.goes 3 1090519040 (by omega) Fl.eight32 a (Fl.fI (zcg n)) 0 1233125376 (Nat.zero_le _) ok.ma (Nat.zero_le _) hx (by omega) (Fl.top_200 (Nat.le_refl _));have hr:r<=1233125376:=by rw [g1.is_];exact diff_top hx ok.ma (by omega)
   obtain ⟨neg2,r2,p2,b',g2⟩:=Fl.goes 2 1082130432 (by omega) Fl.fourth32 b r 0 1233125376 (Nat.zero_le _) ok.mb (Nat.zero_le _) hr (by omega) (Fl.top_200 (Nat.le_refl _));exact ⟨a',b',fun w A m=>hear_next m n g1 g2,fun w A m=>dhear_next m n g1 g2,g1.hi,g2.hi,fun h=>by cases h⟩
end Go.Proofs.YtfcbjcebkahehaaGreatDoor.Cl
namespace Go.Proofs.YtfcbjcebkahehaaGreatDoor
open Go.RowKit Ieee
namespace Fl
theorem cdiv_le {n D k:Nat} (hD:0<D) (h:n<=k*D):cdiv n D<=k:=by
 unfold cdiv;have h1:=Nat.div_add_mod n D;have h2:=Nat.mod_lt n hD;by_cases hm:n % D=0
 · rw [if_pos hm,Nat.add_zero];exact Nat.div_le_of_le_mul (by rw [Nat.mul_comm];exact h)
 · rw [if_neg hm]
   have:n / D<k:=Nat.div_lt_of_lt_mul (by
    rcases Nat.lt_or_ge n (D*k) with hl|hl
    · exact hl
    · exfalso
      rw [Nat.mul_comm] at h;have he:n=D*k:=(by omega);rw [he,Nat.mul_mod_right] at hm
      exact hm rfl)
   omega
theorem cdiv_ge {n D k:Nat} (hD:0<D) (h:k*D<=n):k<=cdiv n D:=by
 unfold cdiv;have:=(Nat.le_div_iff_mul_le hD).2 h
 omega
theorem pow149:0<2 ^ 149:=Nat.two_pow_pos _
def reach (a b:Nat):Nat:=RG 23 0 (sizeOf single a+sizeOf single (RG 23 0 (4*sizeOf single b)))
theorem reach_is {a b:Nat} (ha:a<=1233125376) (hb:b<=1233125376) :
 single.mul 1082130432 b=some (RG 23 0 (4*sizeOf single b))∧single.add a (RG 23 0 (4*sizeOf single b))=some (reach a b)∧a<=reach a b∧reach a b<2139095040∧ups (reach a b)<=8388608∧wholes (reach a b)<=8388608:=by
 have sa:=size_le ha;have sb:=size_le hb;rw [zfg] at sa sb;have g4:=zh5 4194304 (by omega);have g8:=zh5 8388608 (by omega);have l4:=fI_lt 4194304 (by omega);have l8:=fI_lt 8388608 (by omega);have h1:RG 23 0 (4*sizeOf single b)<=fI 4194304:=RG_le (by rw [g4,Nat.pow_zero,Nat.mul_one];omega) l4;have s1:=size_le h1;rw [g4] at s1;have h2:reach a b<=fI 8388608:=RG_le (by rw [g8,Nat.pow_zero,Nat.mul_one];omega) l8;have s2:=size_le h2;rw [g8] at s2;have m1:=mul_four b (by omega);rw [Nat.min_eq_left (by omega)] at m1;have a1:=add_pos a (RG 23 0 (4*sizeOf single b)) (by omega) (by omega) (show reach a b<2139095040 by omega);rw [word_false] at a1;refine ⟨m1,a1,RG_ge (by rw [Nat.pow_zero,Nat.mul_one];omega) (by omega),by omega,cdiv_le pow149 s2,?_⟩;exact Nat.div_le_of_le_mul (by rw [Nat.mul_comm];exact s2)
theorem ups_top {g:Nat} (h:1233125376<=g):1048576<=ups g:=by
 have:=size_le h
 rw [zfg] at this;exact cdiv_ge pow149 this
theorem ups_low {g:Nat} (h:g<1233125376):ups g<=1048576∧wholes g<1048576∧(fI (wholes g)<g->ups g=wholes g+1)∧(¬ fI (wholes g)<g->ups g=wholes g):=by
 have h1:=zcb single h;rw [zfg] at h1;have hw:wholes g<1048576:=Nat.div_lt_of_lt_mul (by rw [Nat.mul_comm];exact h1);have hs:=zh5 (wholes g) (by omega);have hd:=Nat.div_add_mod (sizeOf single g) (2 ^ 149);have hd' : 2 ^ 149*wholes g+sizeOf single g % 2 ^ 149=sizeOf single g:=hd;rw [Nat.mul_comm] at hd';refine ⟨cdiv_le pow149 (by omega),hw,fun hl=>?_,fun hl=>?_⟩
 · have:=zcb single hl
   rw [hs] at this;show wholes g+_=_;rw [if_neg (by omega)]
 · have:=size_le (Nat.le_of_not_lt hl)
   rw [hs] at this;show wholes g+_=_;rw [if_pos (by omega),Nat.add_zero]
theorem ups_zero:ups (reach 0 0)=0:=by
 unfold reach;rw [size0,Nat.mul_zero,zd4,size0,zd4];unfold ups cdiv;rw [size0,Nat.zero_div,Nat.zero_mod,if_pos rfl]
end Fl
namespace Cl
theorem ord32 (r r' : Nat) (h:r<=2139095040) (h' : r'<=2139095040):FloatKind.f32.format.order r r'=some (compare r r'):=Fl.ordPos single r r' (by rw [Fl.inf32];exact h) (by rw [Fl.inf32];exact h') Fl.bi_le32
theorem lt32 {r r' : Nat} (h:r<=2139095040) (h' : r'<=2139095040):(FloatKind.f32.format.order r r'==some .lt)=decide (r<r'):=by
 rw [ord32 r r' h h'];rcases Nat.lt_trichotomy r r' with q|q|q
 · rw [Nat.compare_eq_lt.2 q];simp [q]
 · rw [Nat.compare_eq_eq.2 q];simp [q]
 · rw [Nat.compare_eq_gt.2 q];simp;omega
theorem ge32 {r r' : Nat} (h:r<=2139095040) (h' : r'<=2139095040):(FloatKind.f32.format.order r r'==some .gt||FloatKind.f32.format.order r r'==some .eq)=decide (r'<=r):=by
 rw [ord32 r r' h h'];rcases Nat.lt_trichotomy r r' with q|q|q
 · rw [Nat.compare_eq_lt.2 q];simp;omega
 · rw [Nat.compare_eq_eq.2 q];simp [q]
 · rw [Nat.compare_eq_gt.2 q];simp;omega
theorem arch_ceil {W m:Nat} {L:Int} {N:Nat} (h1:double.read W=.number false m L) (h2:(Datum.number false m L).integral .up=.number false N 0) (w:World):(callFunc 151 #[.float .f64 W]).run Tryz.prog w=.ok (.value (.float .f64 (double.nearest false N 0))) w:=by
 have h:=@run_callFunc_extern Tryz.prog 151 _ (Extern.MathFloor.toIntegral "math.archCeil" .up) Tryz.func151 (by kernel_rfl) (by kernel_rfl) (by kernel_rfl) (by kernel_rfl)
 have h3:FloatKind.f64.decode W=.number false m L:=h1
 have h4:Extern.MathFloor.toIntegral "math.archCeil" .up #[.float .f64 W]=pure (.float .f64 (FloatKind.f64.encode ((Datum.number false m L).integral .up))):=by
  show (Extern.MathFloor.toIntegral.match_1 (fun _=>Sem Value) (FloatKind.f64.decode W) ?_ ?_:Sem Value)=_;rw [h3]
 rw [h,h4,h2];rfl
theorem ceil_any (w:World) {W m:Nat} {L:Int} {N:Nat} (h1:double.read W=.number false m L) (h2:(Datum.number false m L).integral .up=.number false N 0):Calls Tryz.prog 111 #[.float .f64 W] w fun e w'=>e=.returned (.float .f64 (double.nearest false N 0))∧w'=w:=by
 have h:=arch_ceil h1 h2;generalize double.nearest false N 0=y at *;go_enter Tryz.func111,Tryz.ntmps111
 go_wp2;go_ret;exact ⟨rfl,rfl⟩
def gsP (a b:Nat):Int:=min (Fl.ups (Fl.reach a b):Int) 1048576
theorem mguess_any {w:World} {A:Nat} {h:Bool} {a b:Nat} (m:Mt w 136 A h a b) (ha:a<=1233125376) (hb:b<=1233125376):Calls Tryz.prog 69 #[ptr A] w fun e w'=>e=.returned (iI (gsP a b))∧w'=w:=by
 obtain ⟨r1,r2,r3,r4,r5,r6⟩:=Fl.reach_is ha hb;obtain ⟨W,mm,L,k1,k2,k3⟩:=Fl.wide _ r4;have q1:=fmul r1;have q2:=fadd r2;have q3:∀ w,(convert 118 168 (.float .f32 (Fl.reach a b))).run Tryz.prog w=.ok (.float .f64 W) w:=fun w=>run_convert_float_float w 118 168 .f32 .f64 _ W (by kernel_rfl) (by kernel_rfl) k1;have HC:=hid (fun w=>ceil_any w k2 k3);have q4:∀ w,(convert 168 3 (.float .f64 (double.nearest false (Fl.ups (Fl.reach a b)) 0))).run Tryz.prog w=.ok (iI (Fl.ups (Fl.reach a b):Nat)) w:=fun w=>run_convert_float_int w 168 3 .f64 .i64 _ _ (by kernel_rfl) (by kernel_rfl) (Fl.toInt64 _ (Nat.lt_of_le_of_lt r5 (by decide)));unfold gsP;obtain ⟨U,hU⟩:∃ U:Int,((Fl.ups (Fl.reach a b):Nat):Int)=U:=⟨_,rfl⟩;rw [hU] at q4 ⊢;generalize double.nearest false (Fl.ups (Fl.reach a b)) 0=y at *;generalize Fl.reach a b=g at *;generalize Fl.RG 23 0 (4*Fl.sizeOf single b)=f at *;have c1:=m.c1;have c2:=m.c2;have hg:=Pc.min_go U 1048576;clear hU k1 k2 k3 r1 r2 r3 r4 r5 r6 m ha hb;go_enter Tryz.func69,Tryz.ntmps69
 go_wp2_with fail
 refine (HC.out _).mono ?_;rintro _ w' ⟨rfl,hw'⟩;subst hw';go_wp2;go_ret;exact ⟨rfl,rfl⟩
theorem dguess_no {w:World} {A:Nat} {a b:Nat} (m:Mt w 120 A false a b):Calls Tryz.prog 70 #[ptr A] w fun e w'=>e=.returned (iI 0)∧w'=w:=by
 have c0:=m.c0;clear m;go_enter Tryz.func70,Tryz.ntmps70
 go_wp2;go_ret;exact ⟨rfl,rfl⟩
theorem dguess_any {w:World} {A:Nat} {a b:Nat} (m:Mt w 120 A true a b) (ha:a<=1233125376) (hb:b<=1233125376):Calls Tryz.prog 70 #[ptr A] w fun e w'=>e=.returned (iI (gsP a b))∧w'=w:=by
 obtain ⟨r1,r2,r3,r4,r5,r6⟩:=Fl.reach_is ha hb;have q1:=fmul r1;have q2:=fadd r2;unfold gsP;generalize Fl.reach a b=g at *;generalize Fl.RG 23 0 (4*Fl.sizeOf single b)=f at *;have c0:=m.c0;have c1:=m.c1;have c2:=m.c2;have o1:=ge32 (r:=g) (r':=1233125376) (by omega) (by omega);by_cases hg:1233125376<=g
 · have e:(min (Fl.ups g:Int) 1048576)=1048576:=by have:=Fl.ups_top hg;omega
   rw [e];have o2:decide (1233125376<=g)=true:=by simpa using hg
   rw [o2] at o1;clear m ha hb r1 r2 r3 r4 r5 r6 hg o2;go_enter Tryz.func70,Tryz.ntmps70
   go_wp2;go_ret;exact ⟨rfl,rfl⟩
 · obtain ⟨u1,u2,u3,u4⟩:=Fl.ups_low (Nat.lt_of_not_le hg);have o2:decide (1233125376<=g)=false:=by simpa using hg
   rw [o2] at o1;have q3:∀ w,(convert 118 3 (.float .f32 g)).run Tryz.prog w=.ok (iI (Fl.wholes g:Nat)) w:=fun w=>run_convert_float_int w 118 3 .f32 .i64 _ _ (by kernel_rfl) (by kernel_rfl) (Fl.toInt32 g r4 (by omega));have q4:=Fl.ofI (Fl.wholes g) (by omega);have o3:=lt32 (r:=Fl.fI (Fl.wholes g)) (r':=g) (by have:=Fl.fI_lt (Fl.wholes g) (by omega);omega) (by omega);obtain ⟨N,hN⟩:∃ N:Int,((Fl.wholes g:Nat):Int)=N:=⟨_,rfl⟩;rw [hN] at q3 q4;have w1:wrap64 (N+1)=N+1:=by unfold wrap64;omega
   by_cases hl:Fl.fI (Fl.wholes g)<g
   · have e:(min (Fl.ups g:Int) 1048576)=N+1:=(by have:=u3 hl;omega);rw [e];have o4:decide (Fl.fI (Fl.wholes g)<g)=true:=(by simpa using hl);rw [o4] at o3;generalize Fl.fI (Fl.wholes g)=z at *;clear m ha hb r1 r2 r3 r4 r5 r6 hg o2 u1 u2 u3 u4 hN o4 hl e;(go_enter Tryz.func70,Tryz.ntmps70);go_wp2;go_ret;exact ⟨by first|rfl|(rw [w1];rfl),rfl⟩
   · have e:(min (Fl.ups g:Int) 1048576)=N:=(by have:=u4 hl;omega);rw [e];have o4:decide (Fl.fI (Fl.wholes g)<g)=false:=(by simpa using hl);rw [o4] at o3;generalize Fl.fI (Fl.wholes g)=z at *;clear m ha hb r1 r2 r3 r4 r5 r6 hg o2 u1 u2 u3 u4 hN o4 hl e;(go_enter Tryz.func70,Tryz.ntmps70);go_wp2;go_ret;exact ⟨rfl,rfl⟩
theorem dguess_u {w:World} {A:Nat} {h:Bool} {a b:Nat} (m:Mt w 120 A h a b) (ok:MOk h a b):Calls Tryz.prog 70 #[ptr A] w fun e w'=>e=.returned (iI (gsP a b))∧w'=w:=by
 cases h
 · obtain ⟨rfl,rfl⟩:=ok.z rfl;rw [show gsP 0 0=0 by unfold gsP;rw [Fl.ups_zero];rfl];exact dguess_no m
 · exact dguess_any m ok.ma ok.mb
end Cl
end Go.Proofs.YtfcbjcebkahehaaGreatDoor
namespace Go.Proofs.YtfcbjcebkahehaaGreatDoor.Cl
open Go.RowKit
structure Dw where
 seq:Int
 prog:Int
 vers:Int
 proc:Int
 args:List UInt8
 dst:Int
 iss:Int
 don:Int
 giv:Int
 last:Int
def dwC (x:Dw):List Value:=[iI x.seq,iI 2,iI x.prog,iI x.vers,iI x.proc,iI 0,.string ⟨#[]⟩,iI 0,.string ⟨#[]⟩,.string ⟨x.args.toArray⟩,iI x.dst,iI x.iss,iI x.don,iI x.giv,iI x.last]
theorem dwL (x:Dw):(dwC x).length=15:=rfl
theorem dwO (x:Dw):∀ u∈dwC x,u.oneCell'=true:=by
 intro u hu;simp only [dwC,List.mem_cons,List.not_mem_nil,or_false] at hu;rcases hu with rfl|rfl|rfl|rfl|rfl|rfl|rfl|rfl|rfl|rfl|rfl|rfl|rfl|rfl|rfl <;> rfl
abbrev dmO (q:Mq):Obj:=.cells #[.bool q.h,.float .f32 q.m,.float .f32 q.s] 120
structure DMB (K:Nat->Nat) (w:World) (t:Nat) (q:Mq):Prop where
 tb:TB K w t q.blk (dmO q)
 ok:MOk q.h q.m q.s
theorem DMB.mv {T:Nat->Prop} {K K' : Nat->Nat} {w w' : World} {t:Nat} {q:Mq} (h:DMB K w t q) (m:Mv T w w' K K') (ht:¬ T t):DMB K' w' t q:=⟨h.tb.mv m ht,h.ok⟩
structure DC (K:Nat->Nat) (w:World) (B t p:Nat) (c:Cf) (oa:Option Addr) (cap:Nat) (next now:Int) (L:List Dw) (D:List Oc) (vw vd:Value) (q:Mq):Prop where
 cl:TB K w t p (dcB c oa cap now next vw vd q)
 wr:RW 126 15 dwC K w B (t+1) vw L
 dn:RW 80 9 ocC K w B (t+2) vd D
 me:DMB K w (t+5) q
 gs:GsT K w (t+6) oa c.sys.groups
 gl:c.sys.groups.length<=cap
 ok:okC c=true
 hB:B<=w.heap.size
 h0:∀ b,b<B->K b<t
def zbl (next:Int):List Dw->Int
 | []=>next
 | x::_=>x.seq
section
variable {K K' : Nat->Nat} {w w' : World} {B t p:Nat} {c:Cf} {oa:Option Addr} {cap:Nat} {next now:Int} {L:List Dw} {D:List Oc} {vw vd:Value} {q:Mq}
theorem DC.to {T:Nat->Prop} (h:DC K w B t p c oa cap next now L D vw vd q) (m:Mv T w w' K K') (ht:∀ t',T t'->t'<t∨t+6<t'):DC K' w' B t p c oa cap next now L D vw vd q:=by
 have n:∀ k,k<=6->¬ T (t+k):=fun k hk e=>by have:=ht _ e;omega
 exact ⟨h.cl.mv m (n 0 (by omega)),h.wr.mv m (n 1 (by omega)),h.dn.mv m (n 2 (by omega)),h.me.mv m (n 5 (by omega)),h.gs.mv m (n 6 (by omega)),h.gl,h.ok,Nat.le_trans h.hB m.size,fun b hb=>by rw [m.old b (Nat.lt_of_lt_of_le hb h.hB)];exact h.h0 b hb⟩
theorem DC.below (h:DC K w B t p c oa cap next now L D vw vd q) (hb:Below w.heap.size w w') (N:Nat->Nat):DC (ext w K N) w' B t p c oa cap next now L D vw vd q:=h.to (Mv.of_below hb K N) (fun _ e=>e.elim)
theorem DC.ce (h:DC K w B t p c oa cap next now L D vw vd q) {k:Nat} {v:Value} (hk:(#[iI c.ad,iI c.inst,iI c.first,iI c.win,iI c.pb,iI c.pc,iI c.pt,iI c.sys.stamp,.string ⟨c.sys.machine.toArray⟩,iI c.sys.user,iI c.sys.group,.slice oa c.sys.groups.length cap,iI now,iI next,vw,vd,ptr q]:Array Value)[k]?=some v):w.cell? ⟨p,k,none⟩=some v:=zaa h.cl.at_ hk
theorem DC.fz (h:DC K w B t p c oa cap next now L D vw vd q) (k:Nat):w.frozen? ⟨p,k,none⟩=false:=zab h.cl.at_ k
theorem DC.now_any (h:DC K w B t p c oa cap next now L D vw vd q):Calls Tryz.prog 40 #[ptr p] w fun e w'=>e=.returned (iI now)∧w'=w:=by
 have c12:=h.ce (k:=12) rfl;clear h;go_enter Tryz.func40,Tryz.ntmps40
 go_wp2;go_ret;exact ⟨rfl,rfl⟩
theorem DC.water_any (h:DC K w B t p c oa cap next now L D vw vd q):Calls Tryz.prog 39 #[ptr p] w fun e w'=>e=.returned (iI (zbl next L))∧w'=w:=by
 have c14:=h.ce (k:=14) rfl;obtain ⟨o,cp,e,_,hg⟩:=h.wr.form;subst e;cases L with
 | nil =>
  have c13:=h.ce (k:=13) rfl;clear h hg;go_enter Tryz.func39,Tryz.ntmps39
  go_wp2;go_ret;exact ⟨rfl,rfl⟩
 | cons x L =>
  obtain ⟨g,rfl⟩:=hg (by simp);have c0:w.cell? ⟨g,0,none⟩=some (iI x.seq):=by
   have:=h.wr.cell dwL rfl (j:=0) (x:=x) rfl 0 (by omega)
   simpa [dwC] using this
  obtain ⟨n,hn⟩:∃ n,(x::L).length=n:=⟨_,rfl⟩;have hn0:(0:Int)<(n:Int):=by rw [<- hn];simp
  rw [hn] at c14;show Calls _ _ _ _ fun e w'=>e=.returned (iI x.seq)∧w'=w;clear h hg hn;go_enter Tryz.func39,Tryz.ntmps39
  go_wp2;go_ret;exact ⟨rfl,rfl⟩
theorem DC.guess_any (h:DC K w B t p c oa cap next now L D vw vd q):Calls Tryz.prog 42 #[ptr p] w fun e w'=>e=.returned (iI (gsP q.m q.s))∧w'=w:=by
 have c16:=h.ce (k:=16) rfl;have HG:=hid (dguess_u (w:=w) (A:=q.blk) ⟨h.me.tb.at_⟩ h.me.ok);obtain ⟨g,hg⟩:∃ g,gsP q.m q.s=g:=⟨_,rfl⟩;rw [hg] at HG ⊢;clear h hg;go_enter Tryz.func42,Tryz.ntmps42
 go_wp2_with fail
 refine HG.out.mono ?_;rintro _ w' ⟨rfl,hw'⟩;subst hw';go_wp2;go_ret;exact ⟨rfl,rfl⟩
theorem PC.guess_any {L:List Wt} (h:PC K w B t p c oa cap next now L D vw vd q):Calls Tryz.prog 41 #[ptr p] w fun e w'=>e=.returned (iI (gsP q.m q.s))∧w'=w:=by
 have c16:=h.ce (k:=16) rfl;have HG:=hid (mguess_any (w:=w) (A:=q.blk) (h:=q.h) ⟨h.me.tb.at_⟩ h.me.ok.ma h.me.ok.mb);obtain ⟨g,hg⟩:∃ g,gsP q.m q.s=g:=⟨_,rfl⟩;rw [hg] at HG ⊢;clear h hg;go_enter Tryz.func41,Tryz.ntmps41
 go_wp2_with fail
 refine HG.out.mono ?_;rintro _ w' ⟨rfl,hw'⟩;subst hw';go_wp2;go_ret;exact ⟨rfl,rfl⟩
theorem DC.cell_ (h:DC K w B t p c oa cap next now L D vw vd q) {g n cp:Nat} (e:vw=.slice (some ⟨g,0,none⟩) n cp) (hn:L.length=n) {j:Nat} {x:Dw} (hx:L[j]?=some x) (k:Nat) (hk:k<15):w.cell? ⟨g,j*15+k,none⟩=(dwC x)[k]?:=by
 have:=h.wr
 rw [e] at this;exact this.cell dwL hn hx k hk
theorem DC.put (h:DC K w B t p c oa cap next now L D vw vd q) {next' now' : Int} {L' : List Dw} {D' : List Oc} {vw' vd' : Value} (k:Nat) (v:Value) (hb:(w.setCell ⟨p,k,none⟩ v).heap[p]?=some (dcB c oa cap now' next' vw' vd' q)) (hw:RW 126 15 dwC K (w.setCell ⟨p,k,none⟩ v) B (t+1) vw' L') (hd:RW 80 9 ocC K (w.setCell ⟨p,k,none⟩ v) B (t+2) vd' D'):DC K (w.setCell ⟨p,k,none⟩ v) B t p c oa cap next' now' L' D' vw' vd' q∧Mv (fun x=>x=t) w (w.setCell ⟨p,k,none⟩ v) K K:=by
 have m:=Mv.of_set w K ⟨p,k,none⟩ v h.cl.k;exact ⟨⟨⟨hb,h.cl.k⟩,hw,hd,h.me.mv m (by omega),h.gs.mv m (by omega),h.gl,h.ok,Nat.le_trans h.hB m.size,fun b hb=>h.h0 b hb⟩,m⟩
theorem DC.now_ (h:DC K w B t p c oa cap next now L D vw vd q) (n:Int):DC K (w.setCell ⟨p,12,none⟩ (iI n)) B t p c oa cap next n L D vw vd q∧Mv (fun x=>x=t) w (w.setCell ⟨p,12,none⟩ (iI n)) K K :=
 h.put 12 _ (zae h.cl.at_ 12 _) (h.wr.mv (Mv.of_set w K ⟨p,12,none⟩ _ h.cl.k) (by omega)) (h.dn.mv (Mv.of_set w K ⟨p,12,none⟩ _ h.cl.k) (by omega))
theorem DC.next_ (h:DC K w B t p c oa cap next now L D vw vd q) (n:Int):DC K (w.setCell ⟨p,13,none⟩ (iI n)) B t p c oa cap n now L D vw vd q∧Mv (fun x=>x=t) w (w.setCell ⟨p,13,none⟩ (iI n)) K K :=
 h.put 13 _ (zae h.cl.at_ 13 _) (h.wr.mv (Mv.of_set w K ⟨p,13,none⟩ _ h.cl.k) (by omega)) (h.dn.mv (Mv.of_set w K ⟨p,13,none⟩ _ h.cl.k) (by omega))
theorem DC.nodone (h:DC K w B t p c oa cap next now L D vw vd q):DC K (w.setCell ⟨p,15,none⟩ (.slice none 0 0)) B t p c oa cap next now L [] vw (.slice none 0 0) q∧Mv (fun x=>x=t) w (w.setCell ⟨p,15,none⟩ (.slice none 0 0)) K K :=
 h.put 15 _ (zae h.cl.at_ 15 _) (h.wr.mv (Mv.of_set w K ⟨p,15,none⟩ _ h.cl.k) (by omega)) (RW.nil _ _ _ _ _ _ _)
theorem DC.done_any (h:DC K w B t p c oa cap next now L D vw vd q):Calls Tryz.prog 34 #[ptr p] w fun e w'=>e=.returned vd∧DC K w' B t p c oa cap next now L [] vw (.slice none 0 0) q∧RW 80 9 ocC K w' B (t+2) vd D∧Mv (fun x=>x=t) w w' K K:=by
 obtain ⟨o,cp,e,_,_⟩:=h.dn.form;subst e;have c15:=h.ce (k:=15) rfl;have f15:=h.fz 15;obtain ⟨w1,hw1⟩:∃ w1,w.setCell ⟨p,15,none⟩ (.slice none 0 0)=w1:=⟨_,rfl⟩;have h1:=h.nodone;have h2:=h.dn.mv h1.2 (by omega);rw [hw1] at h1 h2;have HE:=hid (And.intro h1.1 (And.intro h2 h1.2));clear h h1 h2;go_enter Tryz.func34,Tryz.ntmps34
 go_wp2;go_ret;exact ⟨rfl,HE.out⟩
theorem DC.waiting_any (h:DC K w B t p c oa cap next now L D vw vd q) (tp:Nat) (htp:t+8<tp) (hL:L.length<=100000000) :
 Calls Tryz.prog 37 #[ptr p] w fun e w'=>∃ v,e=.returned v∧Hid (∃ K',RW 3 1 intC K' w' B tp v (L.map Dw.seq)∧Mv (fun u=>u=tp) w w' K K'):=by
 have c14:=h.ce (k:=14) rfl;obtain ⟨o14,c14',ew,_,hg⟩:=h.wr.form;subst ew;obtain ⟨n,hn⟩:∃ n,L.length=n:=⟨_,rfl⟩;rw [hn] at c14;have HH:=hid h;have HG:=hid hg;have HN:=hid hn;have HB:=hid hL;clear h hg hn hL;go_enter Tryz.func37,Tryz.ntmps37
 go_wp2_with fail
 go_loopw [4,3] (fun u4 u3 wr=>∃ (j:Nat) (o:Option Addr) (cp:Nat),u4=iI (j:Int)∧u3=.slice o j cp∧j<=n∧Hid (∃ K',RW 3 1 intC K' wr B tp (.slice o j cp) ((L.take j).map Dw.seq)∧Mv (fun u=>u=tp) w wr K K')) (fun u4 _ _=>n - (intOf u4).toNat)
 case atStart=>exact ⟨0,none,0,rfl,rfl,by omega,K,RW.nil _ _ _ _ _ _ _,Mv.refl _ _ _⟩
 case round =>
  obtain ⟨j,o,cp,rfl,rfl,hjn,HR⟩:=hrel;clear c14;obtain ⟨wo,hwo⟩:∃ yy,yy=wr:=⟨_,rfl⟩;subst hwo;have HP:Hid (∃ K',DC K' wo B t p c oa cap next now L D (.slice o14 L.length c14') vd q):=by
   obtain ⟨K1,R1,m1⟩:=HR.out;exact ⟨K1,HH.out.to m1 (fun t' e=>by omega)⟩
  have c14:wo.cell? ⟨p,14,none⟩=some (.slice o14 n c14'):=by
   obtain ⟨K1,P1⟩:=HP.out;rw [HN.out] at P1;exact P1.ce (k:=14) rfl
  by_cases hj:j<n
  · have hji:(j:Int)<(n:Int):=(by omega);obtain ⟨g,rfl⟩:=HG.out (by have:=HN.out;omega);obtain ⟨K1,R1,m1⟩:=HR.out;have P1:=HH.out.to m1 (fun t' e=>by omega);obtain ⟨x,hx⟩:∃ x,L[j]?=some x:=⟨_,List.getElem?_eq_getElem (by have:=HN.out;omega)⟩;have xg:wo.cell? ⟨g,j*15,none⟩=some (iI x.seq):=P1.cell_ rfl rfl hx 0 (by omega);obtain ⟨N,hN⟩:∃ y,wo.heap.size=y:=⟨_,rfl⟩;obtain ⟨wn,hwn⟩:∃ y,wo.alloc (.cells #[iI x.seq] 3)=y:=⟨_,rfl⟩;have htk:((L.take j).map Dw.seq).length=j:=(by rw [List.length_map,List.length_take,HN.out];omega);obtain ⟨o2,cp2,w2,K2,hr,R2,m2⟩:=app24n R1 P1.hB x.seq (by rw [htk];have:=HB.out;rw [HN.out] at this;omega);rw [htk,hN,hwn] at hr;rw [htk] at R2;have Aa:=hid hr;have HF:Hid (∃ K',RW 3 1 intC K' w2 B tp (.slice o2 (j+1) cp2) ((L.take (j+1)).map Dw.seq)∧Mv (fun u=>u=tp) w w2 K K'):=by
     refine ⟨K2,?_,m1.trans m2⟩;rw [List.take_add_one,hx];simpa using R2
    have hb:=fun n w=>bls24n n w;have hj1:wrap64 ((j:Int)+1)=(j:Int)+1:=zb0 (by have:=HB.out;rw [HN.out] at this;omega);clear P1 R1 m1 hx htk hr R2 m2 HR HP;(go_wp2_with (at_builtin;refine Hid.out ?_));refine (show Hid _ from ?_);refine za5 rfl _ _ 24 rfl _ _ _ _ rfl rfl (Aa.out _) ?_;go_wp2;go_roundw
    case rel=>exact ⟨j+1,o2,cp2,by rw [hj1];simp,by simp,by omega,HF.out⟩
    case measure=>exact meas hj1 hji
  · obtain rfl:j=n:=(by omega);have HF:Hid (∃ K',RW 3 1 intC K' wo B tp (.slice o j cp) (L.map Dw.seq)∧Mv (fun u=>u=tp) w wo K K'):=by
     (have:=HR.out);rwa [List.take_of_length_le (by rw [HN.out];omega)] at this
    clear HR HP;go_wp2;go_ret;exact ⟨_,rfl,HF.out⟩
end
end Go.Proofs.YtfcbjcebkahehaaGreatDoor.Cl
namespace Go.Proofs.YtfcbjcebkahehaaGreatDoor
open Go.RowKit
noncomputable instance ReplyP.dec (r:ReplyP):Decidable r.may:=Classical.propDecidable _
def zam (r:ReplyP):List Value:=[iI r.xid,.bool r.denied,iI r.verf.flavor,.string ⟨r.verf.body.toArray⟩,iI r.accept,iI r.reject,iI r.why,iI r.low,iI r.high,.string ⟨r.results.toArray⟩]
noncomputable def prP (r:ReplyP):List UInt8 × Int:=prM r.may r.lay
def rtsH (r:ReplyP):List (Prop × List UInt8):=[(isW r.xid,nbL 4 r.xid.toNat),(True,nbL 4 (1:Int).toNat),(True,nbL 4 (if r.denied then 1 else 0))]
def rtsD (r:ReplyP):List (Prop × List UInt8):=[(0<=r.reject∧r.reject<=1,nbL 4 r.reject.toNat),(r.verf.flavor=0,[]),(r.verf.body=[],[]),(r.accept=0,[])]
def rtsA (r:ReplyP):List (Prop × List UInt8):=[(r.reject=0,[]),(isW r.verf.flavor,nbL 4 r.verf.flavor.toNat),(((r.verf.body.length:Nat):Int)<=400,nbL 4 r.verf.body.length++(r.verf.body++padB r.verf.body.length)),(0<=r.accept∧r.accept<=5,nbL 4 r.accept.toNat)]
def rtsB (r:ReplyP):List (Prop × List UInt8):=if r.denied then rtsD r else rtsA r
def opt (s:Bool) (a b:Prop × List UInt8):Prop × List UInt8:=if s then a else b
def rtsE (m a s:Bool) (r:ReplyP):List (Prop × List UInt8) :=
 [opt m (isW r.low,nbL 4 r.low.toNat) (r.low=0,[]),opt m (isW r.high,nbL 4 r.high.toNat) (r.high=0,[]),opt a (0<=r.why∧r.why<=14,nbL 4 r.why.toNat) (r.why=0,[]),opt s (za8 r.results,r.results) (r.results=[],[])]
def endM (r:ReplyP):Bool:=if r.denied then r.reject==0 else r.accept==2
def endA (r:ReplyP):Bool:=if r.denied then r.reject==1 else false
def endS (r:ReplyP):Bool:=if r.denied then false else r.accept==0
theorem zed (a b:Prop × List UInt8):opt false a b=b:=rfl
theorem auth_nul (a:AuthP):a=nulA↔(a.flavor=0∧a.body=[]):=by
 obtain ⟨f,b⟩:=a;unfold nulA;simp
theorem reply_may (r:ReplyP):r.may↔(((True∧allA (rtsH r))∧allA (rtsB r))∧allA (rtsE (endM r) (endA r) (endS r) r)):=by
 obtain ⟨rx,rd,rv,ra,rl,rh,rr,rj,rw_⟩:=r;unfold ReplyP.may rtsH rtsB rtsE endM endA endS;cases rd
 · simp only [rtsA,allA,zed,Bool.false_eq_true,if_false];constructor
   · rintro ⟨h1,h2,h3,h4,h5,h6,h7⟩;refine ⟨⟨⟨trivial,h1,trivial,trivial,trivial⟩,h3,h2.1,by have:=h2.2;omega,⟨h5,h6⟩,trivial⟩,?_⟩;rcases h7 with ⟨rfl,a1,a2,a3⟩|⟨rfl,a1,a2,a3⟩|⟨a0,a1,a2,a3,a4⟩
     · exact ⟨a2,a3,h4,a1,trivial⟩
     · exact ⟨a1,a2,h4,a3,trivial⟩
     · rw [show (ra==0)=false from beq_eq_false_iff_ne.2 a0,show (ra==2)=false from beq_eq_false_iff_ne.2 a1];exact ⟨a2,a3,h4,a4,trivial⟩
   · rintro ⟨⟨⟨_,h1,_⟩,h3,h2,h2',⟨h5,h6⟩,_⟩,b1,b2,b3,b4,_⟩;refine ⟨h1,⟨h2,by omega⟩,h3,b3,h5,h6,?_⟩;by_cases e0:ra=0
     · subst e0;exact .inl ⟨rfl,b4,b1,b2⟩
     · by_cases e2:ra=2
       · subst e2;exact .inr (.inl ⟨rfl,b1,b2,b4⟩)
       · rw [show (ra==2)=false from beq_eq_false_iff_ne.2 e2] at b1 b2;rw [show (ra==0)=false from beq_eq_false_iff_ne.2 e0] at b4;exact .inr (.inr ⟨e0,e2,b1,b2,b4⟩)
 · simp only [rtsD,allA,zed,if_true,auth_nul];constructor
   · rintro ⟨h1,⟨h2,h2'⟩,h3,h4,h5⟩;rcases h5 with ⟨rfl,a1,a2,a3⟩|⟨rfl,a1,a2,a3,a4⟩
     · exact ⟨⟨⟨trivial,h1,trivial,trivial,trivial⟩,by decide,h2,h2',h3,trivial⟩,a1,a2,a3,h4,trivial⟩
     · exact ⟨⟨⟨trivial,h1,trivial,trivial,trivial⟩,by decide,h2,h2',h3,trivial⟩,a1,a2,⟨a3,a4⟩,h4,trivial⟩
   · rintro ⟨⟨⟨_,h1,_⟩,h3,h2,h2',h5,_⟩,b1,b2,b3,b4,_⟩;refine ⟨h1,⟨h2,h2'⟩,h5,b4,?_⟩;by_cases e0:rj=0
     · subst e0;exact .inl ⟨rfl,b1,b2,b3⟩
     · obtain rfl:rj=1:=(by omega);exact .inr ⟨rfl,b1,b2,b3.1,b3.2⟩
theorem reply_lay_eq (r:ReplyP) (h:r.may):(([]++allL (rtsH r))++allL (rtsB r))++allL (rtsE (endM r) (endA r) (endS r) r)=r.lay:=by
 obtain ⟨rx,rd,rv,ra,rl,rh,rr,rj,rw_⟩:=r;unfold ReplyP.may at h;unfold ReplyP.lay AuthP.lay rtsH rtsB rtsE endM endA endS;cases rd
 · simp only [Bool.false_eq_true,if_false] at h;simp only [rtsA,allL,zed,Bool.false_eq_true,if_false,List.nil_append,List.append_nil,List.append_assoc];obtain ⟨_,_,_,_,_,_,h7⟩:=h;rcases h7 with ⟨rfl,a1,rfl,rfl⟩|⟨rfl,a1,a2,rfl⟩|⟨a0,a1,rfl,rfl,rfl⟩
   · rfl
   · simp [opt]
   · rw [show (ra==0)=false from beq_eq_false_iff_ne.2 a0,show (ra==2)=false from beq_eq_false_iff_ne.2 a1];simp [opt,a1]
 · simp only [if_true] at h;simp only [rtsD,allL,zed,if_true,List.nil_append,List.append_nil,List.append_assoc];obtain ⟨_,_,_,_,h5⟩:=h;rcases h5 with ⟨rfl,a1,a2,rfl⟩|⟨rfl,rfl,rfl,a3,a4⟩
   · simp [opt]
   · simp [opt]
theorem replyEnd_any (b:Nat) (r:ReplyP) (w:World) (h:Bk w b (zam r) 46):Calls Tryz.prog 80 #[.pointer (some ⟨b,0,none⟩)] w (zdf b (endR (endM r) (endA r) (endS r)) w):=by
 have h1:w.cell? ⟨b,1,none⟩=some (.bool r.denied):=h.cell 1 rfl;have h4:w.cell? ⟨b,4,none⟩=some (iI r.accept):=h.cell 4 rfl;have h5:w.cell? ⟨b,5,none⟩=some (iI r.reject):=h.cell 5 rfl;unfold endM endA endS;generalize r.denied=d at *;cases d
 · exact replyEnd_acc b r.accept w h1 h4
 · exact replyEnd_den b r.reject w h1 h5
theorem Bk.set10 {w:World} {b:Nat} {x0 x1 x2 x3 x4 x5 x6 x7 x8 x9:Value} {t:TypeId} (h:Bk w b [x0,x1,x2,x3,x4,x5,x6,x7,x8,x9] t) (v0 v1 v2 v3 v4 v5 v6 v7 v8 v9:Value) :
 Bk ((((((((((w.setCell ⟨b,0,none⟩ v0).setCell ⟨b,1,none⟩ v1).setCell ⟨b,2,none⟩ v2).setCell ⟨b,3,none⟩ v3).setCell ⟨b,4,none⟩ v4).setCell ⟨b,5,none⟩ v5).setCell ⟨b,6,none⟩ v6).setCell ⟨b,7,none⟩ v7).setCell ⟨b,8,none⟩ v8).setCell ⟨b,9,none⟩ v9) b [v0,v1,v2,v3,v4,v5,v6,v7,v8,v9] t :=
 (((((((((h.set 0 v0).set 1 v1).set 2 v2).set 3 v3).set 4 v4).set 5 v5).set 6 v6).set 7 v7).set 8 v8).set 9 v9
theorem zas {w0 w:World} {b B:Nat} (h:Below B w0 w) (hb:B<=b) (v0 v1 v2 v3 v4 v5 v6 v7 v8 v9:Value):Below B w0 ((((((((((w.setCell ⟨b,0,none⟩ v0).setCell ⟨b,1,none⟩ v1).setCell ⟨b,2,none⟩ v2).setCell ⟨b,3,none⟩ v3).setCell ⟨b,4,none⟩ v4).setCell ⟨b,5,none⟩ v5).setCell ⟨b,6,none⟩ v6).setCell ⟨b,7,none⟩ v7).setCell ⟨b,8,none⟩ v8).setCell ⟨b,9,none⟩ v9) :=
 (((((((((h.setCell hb v0).setCell hb v1).setCell hb v2).setCell hb v3).setCell hb v4).setCell hb v5).setCell hb v6).setCell hb v7).setCell hb v8).setCell hb v9
def nulC:CallP:=⟨0,0,0,0,0,nulA,nulA,[]⟩
def nulR:ReplyP:=⟨0,false,nulA,0,0,0,[],0,0⟩
def zde (n:Int) (st:Rs):Nat × Rs:=((st.go 0 zad).1,if (((st.go 0 zad).2.go 0 zad).1:Int)=n then ((st.go 0 zad).2.go 0 zad).2 else ((st.go 0 zad).2.go 0 zad).2.fail 121)
def zdd (st:Rs):List UInt8 × Rs:=(if za8 st.l then st else st.fail 121).go [] zbv
structure RS (w0 w:World) (b p:Nat) (x:Rs × List Value) (t:TypeId):Prop where
 r:RR w p x.1.l x.1.e
 k:Bk w b x.2 t
 low:Below b w0 w
 bp:b<p
theorem RS.reads {w0 w w1:World} {b p:Nat} {x:Rs × List Value} {t:TypeId} {tab:List (Bool × Fd)} (h:RS w0 w b p x t) (hq:Bk w1 w.heap.size (zhl b tab) 185) (hB:Below w.heap.size w w1) (hz:w1.heap.size=w.heap.size+1)
 (hn:tab.length<=100) (hfit:∀ r∈tab,r.2.fits x.2.length) (hl:x.1.l.length<=281474976710656) :
 Calls Tryz.prog 89 #[.pointer (some ⟨p,0,none⟩),.slice (some ⟨w.heap.size,0,none⟩) tab.length tab.length] w1 fun e w'=>e=.returned (.tuple #[])∧RS w0 w' b p (rdT tab x) t:=by
 have hp:=h.r.lt;have hbl:=h.k.lt;have hbp:=h.bp;refine (readRows_any (fun k=>k<b∨k=w.heap.size) b p w.heap.size tab x t _ w1 (h.r.below hB) (h.k.below hB hbl) (fun k hk=>hk.elim (fun e=>⟨by omega,by omega,by omega⟩) fun e=>⟨by omega,by omega,by omega⟩) (by omega) hq (.inr rfl) hn hfit hl).mono fun e w' hp=>⟨hp.1,hp.2.r,hp.2.k,?_,hbp⟩;exact (h.low.trans (hB.mono (by omega))).trans (hp.2.f.below fun k hk=>.inl hk)
theorem RS.below {w0 w w1:World} {b p:Nat} {x:Rs × List Value} {t:TypeId} (h:RS w0 w b p x t) (hB:Below w.heap.size w w1):RS w0 w1 b p x t:=by
 have:=h.k.lt
 exact ⟨h.r.below hB,h.k.below hB h.k.lt,h.low.trans (hB.mono (by omega)),h.bp⟩
theorem fitC (tab:List (Bool × Fd)) (n:Nat) (h:tab.all (fun r=>match r.2 with|.word i=>decide (i<n)|.flag i=>decide (i<n)|.small i _=>decide (i<n)|.body i _=>decide (i<n)|.sign _=>true|.tail i=>decide (i<n))=true):∀ r∈tab,r.2.fits n:=fun r hr=>by
 have:=List.all_eq_true.1 h r hr
 obtain ⟨s,f⟩:=r;cases f <;> first|trivial|(show _<n;exact of_decide_eq_true this)
theorem three_start (cs:List Value) (s:List UInt8) (t:TypeId) (w wa wb wc:World) (ha:w.alloc (.cells cs.toArray t)=wa) (hb:wa.alloc (.cells cs.toArray t)=wb) (hc:wc=wb.alloc (.cells #[.string ⟨s.toArray⟩,.nilIface] 225)) :
 RS wc wc (w.heap.size+1) (w.heap.size+1+1) (⟨s,0⟩,cs) t∧Bk wc w.heap.size cs t∧Below w.heap.size w wc∧wa.heap.size=w.heap.size+1∧wb.heap.size=w.heap.size+1+1:=by
 obtain ⟨k1,B1,z1⟩:=boxed w wa cs t ha;obtain ⟨k2,B2,z2⟩:=boxed wa wb cs t hb;have B3:Below wb.heap.size wb wc:=by rw [hc];exact zav _ _
 have h3:=RR.new s wb;rw [<- hc] at h3;rw [z1] at k2 z2 B2;rw [z2] at h3 B3;exact ⟨⟨h3,k2.below B3 (by omega),Below.refl _ _,by omega⟩,(k1.below B2 (by omega)).below B3 (by omega),(B1.trans (B2.mono (by omega))).trans (B3.mono (by omega)),z1,z2⟩
end Go.Proofs.YtfcbjcebkahehaaGreatDoor
