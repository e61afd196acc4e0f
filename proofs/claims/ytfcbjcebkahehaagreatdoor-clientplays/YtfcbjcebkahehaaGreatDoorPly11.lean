import Derived.Test.YtfcbjcebkahehaaGreatDoorPly01
import Derived.Below
import Derived.Sort.Row
import Derived.Lib.ItoaMem
import Derived.BigQuiet
import Derived.Deep.QuietTactic
import Derived.Deep.RegionWith
import Derived.LaidEql
import Derived.Laws.BitsAllLaws
import Derived.Laws.FloatArith
import Derived.Lib.AppendStr
import Derived.RowKitTokens
import Derived.Stop.Asserts
import Derived.WalkKit
import Derived.WalkLawsBesides
import Derived.WalkSpells
import Derived.Test.YtfcbjcebkahehaaGreatDoorPly10
import Derived.Deep.RegionHeld
import Derived.Test.YtfcbjcebkahehaaGreatDoorPly09
import Derived.Laws.StructEq
import Derived.Deep.CutBlock
import Derived.Deep.DeepCutAuto
set_option maxRecDepth 8000
set_option maxHeartbeats 20000000
set_option linter.unusedSimpArgs false
namespace Go.Proofs.YtfcbjcebkahehaaGreatDoor
open Go.RowKit
def encB (b:UInt8):Value:=.int .u8 (b.toNat:Int)
theorem holds_store {w:World} {blk:Nat} {d:Array UInt8} {i:Nat} {c:UInt8} (h:Go.Sort.Holds encB w blk 0 d) (hi:i<d.size) :
 Go.Sort.Holds encB (w.setCell ⟨blk,i,none⟩ (.int .u8 (c.toNat:Int))) blk 0 (d.setIfInBounds i c):=by
 intro j hj;rw [Array.size_setIfInBounds] at hj;obtain ⟨h1,h2⟩:=h j hj;refine ⟨?_,by rw [World.frozen?_setCell];exact h2⟩;by_cases e:i=j
 · subst e;rw [Nat.zero_add] at h1 ⊢;rw [World.cell?_setCell_same _ _ _ h1];simp [encB,hi]
 · rw [World.cell?_setCell_other _ _ _ _ (fun hh=>e (by simpa using congrArg Addr.off hh)),h1];simp [e,hj]
theorem zg8 (n:Int):bits .and .i64 n 255=n % 256:=i64_mask n 8 (by omega)
theorem by_digit (S t:Nat) (n:Int) (ht:t<S):(n % ((256 ^ S:Nat):Int)).toNat / 256 ^ t % 256=(n / ((256 ^ t:Nat):Int) % 256).toNat:=by
 have hS:(0:Int)<((256 ^ S:Nat):Int):=by have:=Nat.pow_pos (n:=S) (show 0<256 by omega);omega
 have hT:0<256 ^ t:=Nat.pow_pos (by omega);have h0:=Int.emod_nonneg n (show ((256 ^ S:Nat):Int)≠0 by omega);obtain ⟨j,rfl⟩:∃ j,S=t+1+j:=⟨S - (t+1),by omega⟩;have e:((256 ^ (t+1+j):Nat):Int)=((256 ^ t:Nat):Int)*(256*((256 ^ j:Nat):Int)):=by
  rw [Nat.add_assoc,Nat.pow_add,Nat.pow_add,Int.natCast_mul,Int.natCast_mul];rfl
 have h1:(n % ((256 ^ (t+1+j):Nat):Int)) / ((256 ^ t:Nat):Int) % 256=n / ((256 ^ t:Nat):Int) % 256:=by
  rw [e];have hT' : (0:Int)<((256 ^ t:Nat):Int):=by omega
  generalize ((256 ^ t:Nat):Int)=T at *;generalize ((256 ^ j:Nat):Int)=J at *;have e1:n % (T*(256*J))=n+T*(256*(-(J*(n / (T*(256*J)))))):=by
   rw [Int.emod_def,Int.mul_neg,Int.mul_neg,<- Int.sub_eq_add_neg,Int.mul_assoc,Int.mul_assoc]
  rw [e1,Int.add_mul_ediv_left _ _ (by omega),Int.add_mul_emod_self_left]
 have h2:(((n % ((256 ^ (t+1+j):Nat):Int)).toNat / 256 ^ t % 256:Nat):Int)=n / ((256 ^ t:Nat):Int) % 256:=by
  rw [Int.natCast_emod,Int.natCast_ediv,Int.toNat_of_nonneg h0];exact h1
 omega
theorem div_step (n:Int) (k:Nat):n / ((256 ^ k:Nat):Int) / 256=n / ((256 ^ (k+1):Nat):Int):=by
 have hT:0<256 ^ k:=Nat.pow_pos (by omega);rw [Nat.pow_succ,Int.natCast_mul,Int.ediv_ediv_of_nonneg (by omega)];rfl
theorem By_any (S:Nat) (Z:Array Value) (n:Int) (w:World) (hS0:1<=S) (hS:S<=8) (hn0:-9223372036854775808<=n) (hn1:n<=9223372036854775807)
 (hmk:∀ w,(Instr.makeSlice 174 (iI (S:Int)) (iI (S:Int))).run Tryz.prog w=.ok (.slice (some ⟨w.heap.size,0,none⟩) S S) (w.alloc (.cells Z 5)))
 (hst:∀ w:World,Go.Sort.Holds encB (w.alloc (.cells Z 5)) w.heap.size 0 (Array.replicate S (0:UInt8))) :
 Calls Tryz.prog 139 #[iI n,iI (S:Int)] w fun e w'=>e=.returned (B (byL S n))∧Below w.heap.size w w':=by
 have Ab:Hid (Go.Sort.Holds encB (w.alloc (.cells Z 5)) w.heap.size 0 (Array.replicate S (0:UInt8))):=hst w;have HN:Hid (-9223372036854775808<=n∧n<=9223372036854775807):=⟨hn0,hn1⟩;clear hst hn0 hn1;unfold B;go_enter Tryz.func139,Tryz.ntmps139
 go_wp2;go_loopw [0,6] (fun vn vi wr=>∃ (k:Nat) (N i:Int) (d:Array UInt8),vn=iI N∧vi=iI i∧Hid (i=(S:Int) - 1 - k)∧i<(S:Int)∧-1<=i∧k<=S∧-9223372036854775808<=N∧N<=9223372036854775807∧Hid (N=n / ((256 ^ k:Nat):Int))∧Hid (d.size=S)∧Hid (Go.Sort.Holds encB wr w.heap.size 0 d)∧Hid (Below w.heap.size w wr)∧Hid (∀ t,t<k->d[S - 1 - t]! = UInt8.ofNat (n / ((256 ^ t:Nat):Int) % 256).toNat)) (fun _ vi _=>(intOf vi+2).toNat)
 case atStart =>
  exact ⟨0,n,(S:Int) - 1,Array.replicate S 0,rfl,rfl,(show (S:Int) - 1=(S:Int) - 1 - ((0:Nat):Int) from by omega),by omega,by omega,by omega,HN.out.1,HN.out.2,(show n=n / ((256 ^ 0:Nat):Int) from by simp),(show (Array.replicate S (0:UInt8)).size=S from by simp),Ab.out,(Below.refl _ _).alloc (Nat.le_refl _) _,fun t ht=>by omega⟩
 case round =>
  obtain ⟨k,N,i,d,rfl,rfl,HI,hiS,hi1,hk,hN0,hN1,Aa,HS,HH,HB,HD⟩:=hrel;have HK:Hid (k<=S):=hk;clear hk;by_cases hi0:0<=i
  · obtain ⟨zn,hzn⟩:∃ zn:Nat,i=(zn:Int):=⟨i.toNat,by omega⟩;subst hzn;have hzs:zn<d.size:=(by rw [HS.out];omega);obtain ⟨hcell,hfro⟩:=HH.out zn hzs;rw [Nat.zero_add] at hcell hfro;obtain ⟨v,hv⟩:∃ v:Int,N % 256=v:=⟨_,rfl⟩;have hand:bits .and .i64 N 255=v:=(by rw [zg8,hv]);have hv0:0<=v:=(by omega);have hv1:v<256:=(by omega);clear hv hmk;have hcn:v=((UInt8.ofNat v.toNat).toNat:Int):=(by rw [UInt8.toNat_ofNat_of_lt' (show v.toNat<256 by omega)];omega);have Ac:Hid (Go.Sort.Holds encB (wr.setCell ⟨w.heap.size,zn,none⟩ (.int .u8 v)) w.heap.size 0 (d.setIfInBounds zn (UInt8.ofNat v.toNat))):=by
     show Go.Sort.Holds encB (wr.setCell ⟨w.heap.size,zn,none⟩ (.int .u8 v)) w.heap.size 0 (d.setIfInBounds zn (UInt8.ofNat v.toNat));(have:=holds_store (c:=UInt8.ofNat v.toNat) HH.out hzs);rw [<- hcn] at this;exact this
    have HV:Hid (v=N % 256):=(by show v=N % 256;rw [<- hand,zg8]);clear hcn;go_wp2;go_roundw
    case rel =>
     have hI:=HI.out;have hk:=HK.out;refine ⟨k+1,N / 256,(zn:Int) - 1,d.setIfInBounds zn (UInt8.ofNat v.toNat),by first|rfl|go_num,by first|rfl|go_num,(show (zn:Int) - 1=(S:Int) - 1 - ((k+1:Nat):Int) from by omega),by omega,by omega,by omega,by omega,by omega,?_,?_,Ac.out,HB.out.setCell (Nat.le_refl _) _,?_⟩
     · show N / 256=_;rw [Aa.out,div_step]
     · show (d.setIfInBounds zn (UInt8.ofNat v.toNat)).size=S;rw [Array.size_setIfInBounds];exact HS.out
     · intro t ht;have hSz:=HS.out;have hI:=HI.out;have hk:=HK.out;by_cases htk:t=k
       · subst htk;have e:S - 1 - t=zn:=(by omega);rw [e,Go.Sort.getElem!_set_same _ _ _ hzs,HV.out,Aa.out]
       · rw [Go.Sort.getElem!_set_other _ _ _ _ (by omega)];exact HD.out t (by omega)
    case measure=>simp [intOf];omega
  · have hk2:k=S:=(by have:=HI.out;have:=HK.out;omega);have hcv:(convert 174 9 (.slice (some ⟨w.heap.size,0,none⟩) S S)).run Tryz.prog wr=.ok (.string ⟨(byL S n).toArray⟩) wr:=by
     have h:=run_convert_bytes_back (P:=Tryz.prog) wr 174 9 5 ⟨w.heap.size,0,none⟩ S (byL S n) Tryz.underlying174 Tryz.underlying5 Tryz.underlying9 (fun t ht=>by
      have ht2:t<S:=(by unfold byL at ht;rw [zb2] at ht;exact ht);have hc:=(HH.out t (by rw [HS.out];exact ht2)).1;have ea:(Addr.add ⟨w.heap.size,0,none⟩ t)=⟨w.heap.size,0+t,none⟩:=Lib.add_plain _ _ _;rw [ea,hc];have hd:=HD.out (S - 1 - t) (by omega);rw [show S - 1 - (S - 1 - t)=t from by omega] at hd;rw [hd];show some (Value.int .u8 ((UInt8.ofNat (n / ((256 ^ (S - 1 - t):Nat):Int) % 256).toNat).toNat:Int))=_;have hgt:(byL S n)[t]'ht=UInt8.ofNat ((n % ((256 ^ S:Nat):Int)).toNat / 256 ^ (S - 1 - t) % 256):=ze1 S _ t ht2
      rw [hgt,by_digit S (S - 1 - t) n (by omega)])
     unfold byL at h;rw [zb2] at h;exact h
    clear hmk;go_wp2;go_ret;exact ⟨rfl,HB.out⟩
def zeroB (k:Nat):Array Value:=Array.replicate k (.int .u8 0)
theorem holds_zero (k:Nat) (w:World):Go.Sort.Holds encB (w.alloc (.cells (zeroB k) 5)) w.heap.size 0 (Array.replicate k (0:UInt8)):=by
 intro j hj;rw [Array.size_replicate] at hj;refine ⟨?_,World.frozen?_alloc_new _ _ _ _⟩;rw [World.cell?_alloc_new,Nat.zero_add];simp [encB,zeroB,hj]
theorem By4 (n:Int) (w:World) (h0:-9223372036854775808<=n) (h1:n<=9223372036854775807):Calls Tryz.prog 139 #[iI n,iI 4] w fun e w'=>e=.returned (B (byL 4 n))∧Below w.heap.size w w' :=
 By_any 4 (zeroB 4) n w (by omega) (by omega) h0 h1 (fun w=>by kernel_rfl) (holds_zero 4)
theorem By8 (n:Int) (w:World) (h0:-9223372036854775808<=n) (h1:n<=9223372036854775807):Calls Tryz.prog 139 #[iI n,iI 8] w fun e w'=>e=.returned (B (byL 8 n))∧Below w.heap.size w w' :=
 By_any 8 (zeroB 8) n w (by omega) (by omega) h0 h1 (fun w=>by kernel_rfl) (holds_zero 8)
theorem mk_small (k:Nat) (h:k<=3) (w:World):(Instr.makeSlice 174 (iI (k:Int)) (iI (k:Int))).run Tryz.prog w=.ok (.slice (some ⟨w.heap.size,0,none⟩) k k) (w.alloc (.cells (zeroB k) 5)):=by
 rcases (by omega:k=0∨k=1∨k=2∨k=3) with rfl|rfl|rfl|rfl <;> kernel_rfl
theorem back_small (k:Nat) (w:World):(convert 174 9 (.slice (some ⟨w.heap.size,0,none⟩) k k)).run Tryz.prog (w.alloc (.cells (zeroB k) 5))=.ok (.string ⟨(List.replicate k (0:UInt8)).toArray⟩) (w.alloc (.cells (zeroB k) 5)):=by
 have h:=run_convert_bytes_back (P:=Tryz.prog) (w.alloc (.cells (zeroB k) 5)) 174 9 5 ⟨w.heap.size,0,none⟩ k (List.replicate k (0:UInt8)) Tryz.underlying174 Tryz.underlying5 Tryz.underlying9 (fun t ht=>by
  have ht2:t<k:=by rw [List.length_replicate] at ht;exact ht
  have ea:(Addr.add ⟨w.heap.size,0,none⟩ t)=⟨w.heap.size,0+t,none⟩:=Lib.add_plain _ _ _;rw [ea,(holds_zero k w t (by rw [Array.size_replicate];exact ht2)).1]
  simp [encB,ht2])
 rw [List.length_replicate] at h;exact h
theorem Padding_core (n m z:Int) (w w1:World) (v:Value) (t:ByteArray) (_hz0:0<=z) (_hz1:z<=3) (hm0:0<=m) (hm1:m<=3) (hm:n.tmod 4=m) (hz:(4 - m).tmod 4=z)
 (hmk:(Instr.makeSlice 174 (iI z) (iI z)).run Tryz.prog w=.ok v w1) (hcv:(convert 174 9 v).run Tryz.prog w1=.ok (.string t) w1) :
 Calls Tryz.prog 169 #[iI n] w fun e w'=>e=.returned (.string t)∧w'=w1:=by
 go_enter Tryz.func169,Tryz.ntmps169
 go_wp2;go_ret;exact ⟨rfl,rfl⟩
theorem zgl (n:Nat) (w:World):Calls Tryz.prog 169 #[iI n] w fun e w'=>e=.returned (B (padL n))∧Below w.heap.size w w':=by
 have hp:padN n<=3:=by unfold padN;omega
 have h1:(n:Int).tmod 4=((n % 4:Nat):Int):=by rw [Int.tmod_eq_emod_of_nonneg (by omega)];omega
 have h2:(4 - ((n % 4:Nat):Int)).tmod 4=((padN n:Nat):Int):=by
  rw [Int.tmod_eq_emod_of_nonneg (by omega)];unfold padN;omega
 refine (Padding_core (n:Int) _ _ w _ _ _ (by omega) (by omega) (by omega) (by omega) h1 h2 (mk_small _ hp w) (back_small _ w)).mono fun e w' ⟨a,b⟩=>⟨a,?_⟩;rw [b];exact (Below.refl _ _).alloc (Nat.le_refl _) _
theorem RW.setS {w:World} {p:Nat} {S:ByteArray} {M E:Int} (h:RW w p S M E) (T:ByteArray):RW (w.setCell ⟨p,0,none⟩ (.string T)) p T M E :=
 ⟨World.cell?_setCell_same _ _ _ h.s,by rw [World.cell?_setCell_other _ _ _ _ (by simp)];exact h.m,by rw [World.cell?_setCell_other _ _ _ _ (by simp)];exact h.e,
  by rw [World.frozen?_setCell];exact h.f0,by rw [World.frozen?_setCell];exact h.f1,by rw [World.frozen?_setCell];exact h.f2⟩
theorem lays_wrong (p:Nat) (s S:ByteArray) (M E:Int) (w:World) (h:RW w p S M E) (hE:(E==0)=false) :
 Calls Tryz.prog 138 #[.pointer (some ⟨p,0,none⟩),.string s] w fun e w'=>e=.returned (.tuple #[])∧w'=w:=by
 have h2:=h.e;clear h;go_enter Tryz.func138,Tryz.ntmps138
 go_wp2;first|go_end0|refine bodyPost_ret (results_none rfl _ _ _) rfl ?_
 exact ⟨rfl,rfl⟩
theorem lays_long (p:Nat) (s S:ByteArray) (M:Int) (w:World) (h:RW w p S M 0) (hl:M<(S.size:Int)+(s.size:Int)) (hs:(S.size:Int)+(s.size:Int)<=9223372036854775807) :
 Calls Tryz.prog 138 #[.pointer (some ⟨p,0,none⟩),.string s] w fun e w'=>e=.returned (.tuple #[])∧∃ k,w'=(w.drewN k).setCell ⟨p,2,none⟩ (iI 23):=by
 have h0:=h.s;have h1:=h.m;have h2:=h.e;have h5:=h.f2;have hw:IntKind.i64.wrap ((S.size:Int)+(s.size:Int))=(S.size:Int)+(s.size:Int):=by rw [IntKind.wrap_i64];omega
 clear h;go_enter Tryz.func138,Tryz.ntmps138
 go_wp2_with fail
 go_quiet (fail)
 go_wp2;first|go_end0|refine bodyPost_ret (results_none rfl _ _ _) rfl ?_
 exact ⟨rfl,_,rfl⟩
theorem lays_fits (p:Nat) (s S:ByteArray) (M:Int) (w:World) (h:RW w p S M 0) (hl:(S.size:Int)+(s.size:Int)<=M) (hs:(S.size:Int)+(s.size:Int)<=9223372036854775807) :
 Calls Tryz.prog 138 #[.pointer (some ⟨p,0,none⟩),.string s] w fun e w'=>e=.returned (.tuple #[])∧∃ k,w'=(w.drewN k).setCell ⟨p,0,none⟩ (.string (S++s)):=by
 have h0:=h.s;have h1:=h.m;have h2:=h.e;have h5:=h.f0;have hw:IntKind.i64.wrap ((S.size:Int)+(s.size:Int))=(S.size:Int)+(s.size:Int):=by rw [IntKind.wrap_i64];omega
 have hln:(9223372036854775807<S.size+s.size)=False:=by apply eq_false;omega
 clear h hs;go_enter Tryz.func138,Tryz.ntmps138
 go_wp2_with fail
 go_quiet (fail)
 go_wp2;first|go_end0|refine bodyPost_ret (results_none rfl _ _ _) rfl ?_
 exact ⟨rfl,_,rfl⟩
theorem lays_any (p:Nat) (s S:ByteArray) (M E:Int) (w:World) (h:RW w p S M E) (hs:(S.size:Int)+(s.size:Int)<=9223372036854775807) :
 Calls Tryz.prog 138 #[.pointer (some ⟨p,0,none⟩),.string s] w fun e w'=>e=.returned (.tuple #[])∧RW w' p (rlay M S E s).1 M (rlay M S E s).2∧Only p w w':=by
 unfold rlay;by_cases hE:E=0
 · subst hE;rw [if_neg (by simp)];by_cases hl:M<(S.size:Int)+(s.size:Int)
   · rw [if_pos hl];refine (lays_long p s S M w h hl hs).mono ?_;rintro e w' ⟨rfl,k,rfl⟩;exact ⟨rfl,(h.drewN k).setE 23,(Only.drewN p w k).trans (Only.setCell _ _ _)⟩
   · rw [if_neg hl];refine (lays_fits p s S M w h (by omega) hs).mono ?_;rintro e w' ⟨rfl,k,rfl⟩;exact ⟨rfl,(h.drewN k).setS (S++s),(Only.drewN p w k).trans (Only.setCell _ _ _)⟩
 · rw [if_pos hE];refine (lays_wrong p s S M E w h (beq_eq_false_iff_ne.2 hE)).mono ?_;rintro e w' ⟨rfl,rfl⟩;exact ⟨rfl,h,Only.refl _ _⟩
def Wrote (p:Nat) (M:Int) (r:ByteArray × Int) (w:World) (e:Ending) (w' : World):Prop:=e=.returned (.tuple #[])∧RW w' p r.1 M r.2∧Only p w w'
theorem by_lays (p:Nat) (l:List UInt8) (S:ByteArray) (M E:Int) (w w1:World) (h:RW w p S M E) (hs:(S.size:Int)+(l.length:Int)<=9223372036854775807) (hB:Below w.heap.size w w1) :
 Calls Tryz.prog 138 #[.pointer (some ⟨p,0,none⟩),.string ⟨l.toArray⟩] w1 fun e w'=>Wrote p M (rlay M S E ⟨l.toArray⟩) w e w':=by
 refine (lays_any p ⟨l.toArray⟩ S M E w1 (h.below hB) (by rw [bL_size];exact hs)).mono ?_;rintro e w' ⟨h1,h2,h3⟩;exact ⟨h1,h2,(Only.of_below hB).trans h3⟩
theorem zc5 (n:Int) (w:World):Calls Tryz.prog 145 #[iI n] w fun e w'=>e=.returned (.bool (decide (0<=n)&&decide (n<=4294967295)))∧w'=w:=by
 by_cases h0:0<=n
 · by_cases h1:n<=4294967295
   · rw [decide_eq_true h0,decide_eq_true h1];(go_enter Tryz.func145,Tryz.ntmps145);go_wp2;go_ret;exact ⟨rfl,rfl⟩
   · rw [decide_eq_true h0,decide_eq_false h1];have h2:decide (n<=4294967295)=false:=decide_eq_false h1;(go_enter Tryz.func145,Tryz.ntmps145);go_wp2;go_ret;exact ⟨rfl,rfl⟩
 · rw [decide_eq_false h0];have h2:decide (0<=n)=false:=decide_eq_false h0;go_enter Tryz.func145,Tryz.ntmps145
   go_wp2;go_ret;exact ⟨rfl,rfl⟩
theorem ruint_ok (p:Nat) (n:Int) (S:ByteArray) (M E:Int) (w:World) (h:RW w p S M E) (hs:(S.size:Int)+4<=9223372036854775807) (h0:0<=n) (h1:n<=4294967295) :
 Calls Tryz.prog 104 #[.pointer (some ⟨p,0,none⟩),iI n] w fun e w'=>Wrote p M (rlay M S E ⟨(byL 4 n).toArray⟩) w e w':=by
 have H1:Hid (∀ w,Calls Tryz.prog 139 #[iI n,iI 4] w fun e w'=>e=.returned (B (byL 4 n))∧Below w.heap.size w w'):=fun w=>By4 n w (by omega) (by omega);have Aa:Hid (∀ w,Calls Tryz.prog 145 #[iI n] w fun e w'=>e=.returned (.bool true)∧w'=w):=fun w=>by
  have:=zc5 n w;rw [decide_eq_true h0,decide_eq_true h1] at this;exact this
 have H2:Hid (∀ w1,Below w.heap.size w w1->Calls Tryz.prog 138 #[.pointer (some ⟨p,0,none⟩),.string ⟨(byL 4 n).toArray⟩] w1 fun e w'=>Wrote p M (rlay M S E ⟨(byL 4 n).toArray⟩) w e w'):=fun w1 hB=>by_lays p _ S M E w w1 h (by rw [zbo];exact hs) hB;clear h hs;unfold B at H1;go_enter Tryz.func104,Tryz.ntmps104
 go_wp2_with fail
 refine (Aa.out _).mono ?_;rintro e w9 ⟨rfl,hw⟩;rw [hw];clear hw;go_wp2_with fail
 refine (H1.out _).mono ?_;rintro e w1 ⟨rfl,hB⟩;have HB:Hid (Below w.heap.size w w1):=hB;clear hB;go_wp2_with fail
 refine (H2.out _ HB.out).mono ?_;rintro e w2 ⟨rfl,h3,h4⟩;have HW:Hid (RW w2 p (rlay M S E ⟨(byL 4 n).toArray⟩).1 M (rlay M S E ⟨(byL 4 n).toArray⟩).2∧Only p w w2):=⟨h3,h4⟩;clear h3 h4;go_wp2;first|go_end0|refine bodyPost_ret (results_none rfl _ _ _) rfl ?_
 exact ⟨rfl,HW.out.1,HW.out.2⟩
theorem rhyper (p:Nat) (n:Int) (S:ByteArray) (M E:Int) (w:World) (h:RW w p S M E) (hs:(S.size:Int)+8<=9223372036854775807) (hn0:-9223372036854775808<=n) (hn1:n<=9223372036854775807) :
 Calls Tryz.prog 101 #[.pointer (some ⟨p,0,none⟩),iI n] w fun e w'=>Wrote p M (rlay M S E ⟨(byL 8 n).toArray⟩) w e w':=by
 have H1:Hid (∀ w,Calls Tryz.prog 139 #[iI n,iI 8] w fun e w'=>e=.returned (B (byL 8 n))∧Below w.heap.size w w'):=fun w=>By8 n w hn0 hn1;have H2:Hid (∀ w1,Below w.heap.size w w1->Calls Tryz.prog 138 #[.pointer (some ⟨p,0,none⟩),.string ⟨(byL 8 n).toArray⟩] w1 fun e w'=>Wrote p M (rlay M S E ⟨(byL 8 n).toArray⟩) w e w'):=fun w1 hB=>by_lays p _ S M E w w1 h (by rw [zbo];exact hs) hB;clear h hs;unfold B at H1;go_enter Tryz.func101,Tryz.ntmps101
 go_wp2_with fail
 refine (H1.out _).mono ?_;rintro e w1 ⟨rfl,hB⟩;have HB:Hid (Below w.heap.size w w1):=hB;clear hB;go_wp2_with fail
 refine (H2.out _ HB.out).mono ?_;rintro e w2 ⟨rfl,h3,h4⟩;have HW:Hid (RW w2 p (rlay M S E ⟨(byL 8 n).toArray⟩).1 M (rlay M S E ⟨(byL 8 n).toArray⟩).2∧Only p w w2):=⟨h3,h4⟩;clear h3 h4;go_wp2;first|go_end0|refine bodyPost_ret (results_none rfl _ _ _) rfl ?_
 exact ⟨rfl,HW.out.1,HW.out.2⟩
theorem zg5 (p:Nat) (s S:ByteArray) (M E:Int) (w0 w:World) (h:RW w p S M E) (hO:Only p w0 w) (hs:(S.size:Int)+(s.size:Int)<=9223372036854775807) :
 Calls Tryz.prog 138 #[.pointer (some ⟨p,0,none⟩),.string s] w fun e w'=>Wrote p M (rlay M S E s) w0 e w':=by
 refine (lays_any p s S M E w h hs).mono ?_;rintro e w' ⟨h1,h2,h3⟩;exact ⟨h1,h2,hO.trans h3⟩
theorem zev {p:Nat} {S:ByteArray} {M E:Int} {w w1 w2:World} (h:RW w1 p S M E∧Only p w w1) (hB:Below w1.heap.size w1 w2):RW w2 p S M E∧Only p w w2 :=
 ⟨h.1.below hB,h.2.trans (Only.of_below hB)⟩
theorem rcount_ok (p:Nat) (m n:Int) (S:ByteArray) (M E:Int) (w:World) (h:RW w p S M E) (hs:(S.size:Int)+4<=9223372036854775807) (hw:(decide (0<=m)&&decide (m<=4294967295))=true) (hn0:-9223372036854775808<=n) (hn1:n<=9223372036854775807) (hb:0<=n) (hl:n<=m) :
 Calls Tryz.prog 141 #[.pointer (some ⟨p,0,none⟩),iI m,iI n] w fun e w'=>Wrote p M (rlay M S E ⟨(byL 4 n).toArray⟩) w e w':=by
 have Aa:Hid (∀ w,Calls Tryz.prog 145 #[iI m] w fun e w'=>e=.returned (.bool true)∧w'=w):=fun w=>by
  have:=zc5 m w;rw [hw] at this;exact this
 have H1:Hid (∀ w,Calls Tryz.prog 139 #[iI n,iI 4] w fun e w'=>e=.returned (.string ⟨(byL 4 n).toArray⟩)∧Below w.heap.size w w'):=fun w=>By4 n w hn0 hn1;have H2:Hid (∀ w1,RW w1 p S M E∧Only p w w1->Calls Tryz.prog 138 #[.pointer (some ⟨p,0,none⟩),.string ⟨(byL 4 n).toArray⟩] w1 fun e w'=>Wrote p M (rlay M S E ⟨(byL 4 n).toArray⟩) w e w'):=fun w1 hR=>zg5 p _ S M _ w w1 hR.1 hR.2 (by rw [bL_size (byL 4 n),zbo];exact hs);have HI:Hid (RW w p S M E∧Only p w w):=⟨h,Only.refl _ _⟩;clear h hs hw;go_enter Tryz.func141,Tryz.ntmps141
 go_wp2_with fail
 refine (Aa.out _).mono ?_;rintro e w9 ⟨rfl,hw9⟩;rw [hw9];clear hw9;go_wp2_with fail
 refine (H1.out _).mono ?_;rintro e wb0 ⟨rfl,hB⟩;have Ab:Hid (RW wb0 p S M E∧Only p w wb0):=zev HI.out hB;clear hB;go_wp2_with fail
 refine (H2.out _ Ab.out).mono ?_;rintro e w8 ⟨rfl,h3,h5⟩;have HW:Hid (RW w8 p (rlay M S E ⟨(byL 4 n).toArray⟩).1 M (rlay M S E ⟨(byL 4 n).toArray⟩).2∧Only p w w8):=⟨h3,h5⟩;clear h3 h5;go_wp2;first|go_end0|refine bodyPost_ret (results_none rfl _ _ _) rfl ?_
 exact ⟨rfl,HW.out.1,HW.out.2⟩
theorem ropaque_ok (p:Nat) (m:Int) (s:ByteArray) (S:ByteArray) (M E:Int) (w:World) (h:RW w p S M E) (hs:(S.size:Int)+((s.size:Int)+7)<=9223372036854775807) (hw:(decide (0<=m)&&decide (m<=4294967295))=true) (hln1:(9223372036854775807<(byL 4 (s.size:Int)).length+s.size)=False) (hln:(9223372036854775807<(byL 4 (s.size:Int)).length+s.size+(padL s.size).length)=False) (hsz:(s.size:Int)<=9223372036854775807) (hb:(s.size:Int)<=m) :
 Calls Tryz.prog 140 #[.pointer (some ⟨p,0,none⟩),iI m,.string s] w fun e w'=>Wrote p M (rlay M S E (⟨(byL 4 (s.size:Int)).toArray⟩++s++⟨(padL s.size).toArray⟩)) w e w':=by
 have Aa:Hid (∀ w,Calls Tryz.prog 145 #[iI m] w fun e w'=>e=.returned (.bool true)∧w'=w):=fun w=>by
  have:=zc5 m w;rw [hw] at this;exact this
 have H3:Hid (∀ w,Calls Tryz.prog 139 #[iI (s.size:Int),iI 4] w fun e w'=>e=.returned (.string ⟨(byL 4 (s.size:Int)).toArray⟩)∧Below w.heap.size w w'):=fun w=>By4 (s.size:Int) w (by omega) hsz;have H1:Hid (∀ w,Calls Tryz.prog 169 #[iI (s.size:Int)] w fun e w'=>e=.returned (.string ⟨(padL s.size).toArray⟩)∧Below w.heap.size w w'):=fun w=>zgl s.size w;have H2:Hid (∀ w1,RW w1 p S M E∧Only p w w1->Calls Tryz.prog 138 #[.pointer (some ⟨p,0,none⟩),.string (⟨(byL 4 (s.size:Int)).toArray⟩++s++⟨(padL s.size).toArray⟩)] w1 fun e w'=>Wrote p M (rlay M S E (⟨(byL 4 (s.size:Int)).toArray⟩++s++⟨(padL s.size).toArray⟩)) w e w'):=fun w1 hR=>zg5 p _ S M _ w w1 hR.1 hR.2 (by rw [ByteArray.size_append,ByteArray.size_append,zb3 (padL s.size),zb3 (byL 4 (s.size:Int)),zbo];have:=zhv s.size;omega);have HI:Hid (RW w p S M E∧Only p w w):=⟨h,Only.refl _ _⟩;clear h hs hw hsz;go_enter Tryz.func140,Tryz.ntmps140
 go_wp2_with fail
 refine (Aa.out _).mono ?_;rintro e w9 ⟨rfl,hw9⟩;rw [hw9];clear hw9;go_wp2_with fail
 refine (H3.out _).mono ?_;rintro e wa ⟨rfl,hB⟩;have HA:Hid (RW wa p S M E∧Only p w wa):=zev HI.out hB;clear hB;go_wp2_with fail
 refine (H1.out _).mono ?_;rintro e wb0 ⟨rfl,hB⟩;have Ab:Hid (RW wb0 p S M E∧Only p w wb0):=zev HA.out hB;clear hB;go_wp2_with fail
 refine (H2.out _ Ab.out).mono ?_;rintro e w8 ⟨rfl,h3,h5⟩;have HW:Hid (RW w8 p (rlay M S E (⟨(byL 4 (s.size:Int)).toArray⟩++s++⟨(padL s.size).toArray⟩)).1 M (rlay M S E (⟨(byL 4 (s.size:Int)).toArray⟩++s++⟨(padL s.size).toArray⟩)).2∧Only p w w8):=⟨h3,h5⟩;clear h3 h5;go_wp2;first|go_end0|refine bodyPost_ret (results_none rfl _ _ _) rfl ?_
 exact ⟨rfl,HW.out.1,HW.out.2⟩
theorem rnew (m:Int) (w:World):Calls Tryz.prog 100 #[iI m] w fun e w'=>e=.returned (.pointer (some ⟨w.heap.size,0,none⟩))∧w'=w.alloc (.cells #[.string ⟨#[]⟩,iI (max m 0),iI 0] 163):=by
 go_enter Tryz.func100,Tryz.ntmps100
 go_wp2;go_ret;exact ⟨rfl,rfl⟩
theorem RW.new (m:Int) (w:World):RW (w.alloc (.cells #[.string ⟨#[]⟩,iI (max m 0),iI 0] 163)) w.heap.size ⟨#[]⟩ (max m 0) 0 :=
 ⟨by simp,by simp,by simp,by simp,by simp,by simp⟩
theorem i64_or_byte (x b:Nat) (hx:x<72057594037927936) (hb:b<256):bits .or .i64 (IntKind.i64.wrap ((x:Int)*256)) (b:Int)=IntKind.i64.wrap ((x*256+b:Nat):Int):=by
 unfold bits;have p8:(2:Nat) ^ 8=256:=by decide
 have e:(BitVec.ofInt IntKind.i64.bits (IntKind.i64.wrap ((x:Int)*256)) ||| BitVec.ofInt IntKind.i64.bits (b:Int)).toNat=x*256+b:=by
  rw [BitVec.toNat_or];show (BitVec.ofInt 64 (IntKind.i64.wrap ((x:Int)*256))).toNat ||| (BitVec.ofInt 64 (b:Int)).toNat=_
  rw [BitVec.toNat_ofInt,BitVec.toNat_ofInt,IntKind.wrap_i64];have h64:((2 ^ 64:Nat):Int)=18446744073709551616:=by decide
  rw [h64];have h1:(((x:Int)*256+9223372036854775808) % 18446744073709551616 - 9223372036854775808) % 18446744073709551616=((x*256:Nat):Int):=by omega
  have h2:(b:Int) % 18446744073709551616=(b:Int):=by omega
  rw [h1,h2,Int.toNat_natCast,Int.toNat_natCast,nat_join 8 _ _ (by rw [p8];omega) (by rw [p8];omega)]
 show IntKind.i64.wrap (((BitVec.ofInt IntKind.i64.bits (IntKind.i64.wrap ((x:Int)*256)) ||| BitVec.ofInt IntKind.i64.bits (b:Int)).toNat:Nat):Int)=_;rw [e]
theorem w64_eq (z:Int):wrap64 z=IntKind.i64.wrap z:=by unfold wrap64;rw [IntKind.wrap_i64]
theorem beN_take (l:List UInt8) (i:Nat) (h:i<l.length):beN (l.take (i+1))=beN (l.take i)*256+l[i].toNat:=by
 rw [List.take_succ_eq_append_getElem h,zfo]
theorem number_rd (l:List UInt8) (w:World) (hl:l.length<=8):Calls Tryz.prog 172 #[.string ⟨l.toArray⟩] w fun e w'=>e=.returned (iI (IntKind.i64.wrap (beN l:Int)))∧Below w.heap.size w w':=by
 have HL:Hid (l.length<=8):=hl;have hl' : (l.length:Int)<=8:=by omega
 clear hl;go_enter Tryz.func172,Tryz.ntmps172
 go_wp2_with fail
 go_loopw [3,4] (fun n i wr=>∃ k:Nat,i=iI k∧k<=l.length∧n=iI (IntKind.i64.wrap (beN (l.take k):Int))∧Hid (Below w.heap.size w wr)) (fun _ i _=>l.length - (intOf i).toNat)
 case atStart=>exact ⟨0,rfl,by omega,by rfl,Below.refl _ _⟩
 case round =>
  obtain ⟨k,rfl,hk,rfl,HB⟩:=hrel;by_cases hlt:k<l.length
  · have hx:beN (l.take k)<72057594037927936:=by
     have h1:=beN_lt k (l.take k) (by rw [List.length_take];omega);have h2:(256:Nat) ^ k<=256 ^ 7:=Nat.pow_le_pow_right (by decide) (by have:=HL.out;omega);have h3:(256:Nat) ^ 7=72057594037927936:=(by decide);omega
    have hs:=beN_take l k hlt;have hb:=l[k].toNat_lt;obtain ⟨x,hxe⟩:∃ x,beN (l.take k)=x:=⟨_,rfl⟩;rw [hxe] at hx hs;have hw:IntKind.i64.wrap (beN (l.take k):Int)=(x:Int):=(by rw [hxe,IntKind.wrap_i64];omega);have Aa:Hid (bits .or .i64 (wrap64 ((x:Int)*256)) (wrap64 ((l[k].toNat:Nat):Int))=IntKind.i64.wrap (beN (l.take (k+1)):Int)):=by
     show _=_;rw [hs,w64_eq,show wrap64 ((l[k].toNat:Nat):Int)=((l[k].toNat:Nat):Int) by unfold wrap64;omega];exact i64_or_byte x _ hx hb
    rw [hw];have hx0:0<=(x:Int):=(by omega);have hx1:(x:Int)<72057594037927936:=(by omega);clear hs hb hxe hw;go_wp2;go_roundw
    case rel=>exact ⟨k+1,by go_num,by omega,congrArg (Value.int .i64) Aa.out,HB⟩
    case measure=>simp [intOf];omega
  · obtain rfl:k=l.length:=(by omega);go_wp2;go_ret;refine ⟨?_,HB.out⟩;show Ending.returned (iI (IntKind.i64.wrap (beN (l.take l.length):Int)))=_;rw [List.take_length]
theorem number4 (l:List UInt8) (w:World) (hl:l.length=4):Calls Tryz.prog 172 #[.string ⟨l.toArray⟩] w fun e w'=>e=.returned (iI (beN l:Int))∧Below w.heap.size w w':=by
 have h:=number_rd l w (by omega);have h1:=beN_lt 4 l hl;have h2:(256:Nat) ^ 4=4294967296:=by decide
 rwa [show IntKind.i64.wrap (beN l:Int)=(beN l:Int) by rw [IntKind.wrap_i64];omega] at h
theorem zfh (p:Nat) (n:Int) (l:List UInt8) (E F:Int) (w:World) (h:DR w p l E) (hF:(if E=0 then (if (l.length:Int)<n then 20 else 0) else E)=F) (hF0:F≠0) :
 Calls Tryz.prog 170 #[.pointer (some ⟨p,0,none⟩),iI n] w fun e w'=>e=.returned (.bool false)∧DR w' p l F∧Sole p w w':=by
 by_cases hE:E=0
 · subst hE;rw [if_pos rfl] at hF;by_cases hn:(l.length:Int)<n
   · rw [if_pos hn] at hF;subst hF;refine (there_short p n _ w h.l h.e h.f1 (by rw [za4];exact hn)).mono ?_;rintro e w' ⟨rfl,rfl⟩;exact ⟨rfl,h.setE 20,Sole.setCell w 1 _⟩
   · rw [if_neg hn] at hF;exact absurd hF.symm hF0
 · rw [if_neg hE] at hF;subst hF;refine (there_bad p n E w h.e (beq_eq_false_iff_ne.2 hE)).mono ?_;rintro e w' ⟨rfl,rfl⟩;exact ⟨rfl,h,Sole.refl _ _⟩
theorem zdg (p:Nat) (n:Int) (l:List UInt8) (w:World) (h:DR w p l 0) (hn:¬ (l.length:Int)<n) :
 Calls Tryz.prog 170 #[.pointer (some ⟨p,0,none⟩),iI n] w fun e w'=>e=.returned (.bool true)∧w'=w :=
 there_ok p n _ w h.l h.e (by rw [za4];exact hn)
theorem zdq.bad {α:Type} {p:Nat} {l:List UInt8} {E F:Int} {d:α} {f:List UInt8->Rd α} {v:α->Value} {w:World} {e:Ending} {w' : World} (hF:(if E=0 then (f l).wrong else E)=F) (hF0:F≠0)
 (h:e=.returned (v d)∧DR w' p l F∧Sole p w w'):zdq p l E d f v w e w':=by
 unfold zdq Rs.go;by_cases hE:E=0
 · rw [if_pos hE] at hF;subst hE;rw [if_neg (by simp),if_pos (by rw [hF];exact hF0),hF];exact h
 · rw [if_neg hE] at hF;rw [if_pos hE,hF];exact h
theorem zdq.good {α:Type} {p k:Nat} {l:List UInt8} {d x:α} {f:List UInt8->Rd α} {v:α->Value} {w:World} {e:Ending} {w' : World} (hf:f l=⟨0,k,x⟩)
 (h:e=.returned (v x)∧DR w' p (l.drop k) 0∧Sole p w w'):zdq p l 0 d f v w e w':=by
 unfold zdq Rs.go;rw [if_neg (by simp),hf,if_neg (by simp)];exact h
theorem duint_A {Q:World->Prop} (p:Nat) (w:World) (HT:Hid (Calls Tryz.prog 170 #[.pointer (some ⟨p,0,none⟩),iI 4] w fun e w'=>e=.returned (.bool false)∧Q w')) :
 Calls Tryz.prog 148 #[.pointer (some ⟨p,0,none⟩)] w fun e w'=>e=.returned (iI 0)∧Q w':=by
 go_enter Tryz.func148,Tryz.ntmps148
 go_wp2_with fail
 refine HT.out.mono ?_;rintro e w1 ⟨rfl,hQ⟩;have HQ:Hid (Q w1):=hQ;clear hQ;go_wp2;go_ret;exact ⟨rfl,HQ.out⟩
theorem duint_B {R Q:World->Prop} (p:Nat) (a:ByteArray) (z:Int) (w:World) (HT:Hid (Calls Tryz.prog 170 #[.pointer (some ⟨p,0,none⟩),iI 4] w fun e w'=>e=.returned (.bool true)∧w'=w))
 (HK:Hid (Calls Tryz.prog 171 #[.pointer (some ⟨p,0,none⟩),iI 4] w fun e w'=>e=.returned (.string a)∧R w')) (HN:Hid (∀ w1,R w1->Calls Tryz.prog 172 #[.string a] w1 fun e w'=>e=.returned (iI z)∧Q w')) :
 Calls Tryz.prog 148 #[.pointer (some ⟨p,0,none⟩)] w fun e w'=>e=.returned (iI z)∧Q w':=by
 go_enter Tryz.func148,Tryz.ntmps148
 go_wp2_with fail
 refine HT.out.mono ?_;rintro e w0 ⟨rfl,hw⟩;have hw1:=hw.symm;clear hw;subst hw1;go_wp2_with fail
 refine HK.out.mono ?_;rintro e w2 ⟨rfl,hR⟩;have Aa:Hid (R w2):=hR;clear hR;go_wp2_with fail
 refine (HN.out _ Aa.out).mono ?_;rintro e w3 ⟨rfl,hQ⟩;have HQ:Hid (Q w3):=hQ;clear hQ;go_wp2;go_ret;exact ⟨rfl,HQ.out⟩
theorem short_of (l:List UInt8) (E F:Int) (k:Nat) (f:Int) (hf:f=if l.length<k then 20 else 0) (h:(if E=0 then f else E)=F):(if E=0 then (if (l.length:Int)<(k:Int) then 20 else 0) else E)=F:=by
 rw [<- h,hf];split
 · by_cases hl:l.length<k
   · rw [if_pos (by omega),if_pos hl]
   · rw [if_neg (by omega),if_neg hl]
 · rfl
theorem duint_any (p:Nat) (l:List UInt8) (E:Int) (w:World) (h:DR w p l E):Calls Tryz.prog 148 #[.pointer (some ⟨p,0,none⟩)] w (zdq p l E 0 zad (fun n=>iI (n:Int)) w):=by
 obtain ⟨F,hF⟩:∃ F,(if E=0 then (zad l).wrong else E)=F:=⟨_,rfl⟩;have hwr:(zad l).wrong=if l.length<4 then 20 else 0:=by unfold zad;split <;> rfl
 by_cases hF0:F=0
 · have hE:E=0:=by
    by_cases hE:E=0
    · exact hE
    · rw [if_neg hE] at hF;omega
   subst hE;rw [if_pos rfl,hwr] at hF;have hl:¬ l.length<4:=by intro c;rw [if_pos c] at hF;omega
   have ht:(l.take 4).length=4:=by rw [List.length_take];omega
   refine (duint_B (R:=fun w'=>DR w' p (l.drop 4) 0∧Sole p w w') (Q:=fun w'=>DR w' p (l.drop 4) 0∧Sole p w w') p _ _ w (zdg p 4 l w h (by omega)) (zfr p 4 l 0 w h (by omega)) (fun w1 h1=>(number4 _ w1 ht).mono fun e w' hp=>⟨hp.1,h1.1.below hp.2,h1.2.below_after hp.2⟩)).mono ?_;exact fun e w' hp=>zdq.good (k:=4) (x:=beN (l.take 4)) (by unfold zad;rw [if_neg hl]) hp
 · refine (duint_A p w (zfh p 4 l E F w h (short_of l E F 4 _ hwr hF) hF0)).mono ?_;exact fun e w' hp=>zdq.bad hF hF0 hp
theorem ext_take (l:List UInt8) (n:Nat):(⟨l.toArray⟩:ByteArray).extract 0 n=⟨(l.take n).toArray⟩:=by rw [zbu];simp
theorem below_dr {B:Nat} {a w:World} (h:Below B a w):Below B a w.drew:=zan h 1
theorem op_A {Q:World->Prop} (p:Nat) (a n z:Int) (P:ByteArray) (w:World) (ha0:0<=a) (ha1:a<=4) (hn0:0<=n) (hn1:n<=4294967295) (hP:(P.size:Int)<=3) (hz:a+n+(P.size:Int)=z)
 (HP:Hid (∀ w,Calls Tryz.prog 169 #[iI n] w fun e w'=>e=.returned (.string P)∧Below w.heap.size w w'))
 (HT:Hid (∀ w1,Below w.heap.size w w1->Calls Tryz.prog 170 #[.pointer (some ⟨p,0,none⟩),iI z] w1 fun e w'=>e=.returned (.bool false)∧Q w')) :
 Calls Tryz.prog 185 #[.pointer (some ⟨p,0,none⟩),iI a,iI n] w fun e w'=>e=.returned (.string ⟨#[]⟩)∧Q w':=by
 go_enter Tryz.func185,Tryz.ntmps185
 go_wp2_with fail
 refine (HP.out _).mono ?_;rintro e w1 ⟨rfl,hB⟩;have HB:Hid (Below w.heap.size w w1):=hB;clear hB;go_wp2_with fail
 refine (HT.out _ HB.out).mono ?_;rintro e w2 ⟨rfl,hQ⟩;have HQ:Hid (Q w2):=hQ;clear hQ;go_wp2;go_ret;exact ⟨rfl,HQ.out⟩
theorem op_B (p:Nat) (a n z:Int) (P s X:ByteArray) (w:World) (ha0:0<=a) (ha1:a<=4) (hn0:0<=n) (hn1:n<=4294967295) (hP:(P.size:Int)<=3) (hz:a+n+(P.size:Int)=z) (hzs:z<=(s.size:Int))
 (hX:s.extract (a+n).toNat z.toNat=X) (hne:(X.toList==P.toList)=false)
 (HP:Hid (∀ w,Calls Tryz.prog 169 #[iI n] w fun e w'=>e=.returned (.string P)∧Below w.heap.size w w'))
 (HC:Hid (∀ w1,Below w.heap.size w w1->w1.cell? ⟨p,0,none⟩=some (.string s)∧w1.cell? ⟨p,1,none⟩=some (iI 0)∧w1.frozen? ⟨p,1,none⟩=false))
 (HT:Hid (∀ w1,Below w.heap.size w w1->Calls Tryz.prog 170 #[.pointer (some ⟨p,0,none⟩),iI z] w1 fun e w'=>e=.returned (.bool true)∧w'=w1)) :
 Calls Tryz.prog 185 #[.pointer (some ⟨p,0,none⟩),iI a,iI n] w fun e w'=>e=.returned (.string ⟨#[]⟩)∧∃ w1,Below w.heap.size w w1∧w'=w1.setCell ⟨p,1,none⟩ (iI 24):=by
 have hsl:∀ w,(Instr.slice 9 (.string s) (some (iI (IntKind.i64.wrap (a+n)))) (some (iI (IntKind.i64.wrap (IntKind.i64.wrap (a+n)+(P.size:Int))))) none).run Tryz.prog w=.ok (.string X) w:=fun w=>by
  have e1:IntKind.i64.wrap (a+n)=a+n:=by rw [IntKind.wrap_i64];omega
  rw [e1,hz,show IntKind.i64.wrap z=z by rw [IntKind.wrap_i64];omega,zd8 w s (a+n) z (by omega) (by omega) hzs,hX]
 clear hX hzs;go_enter Tryz.func185,Tryz.ntmps185
 go_wp2_with fail
 refine (HP.out _).mono ?_;rintro e w1 ⟨rfl,hB⟩;obtain ⟨hc0,hc1,hf1⟩:=HC.out w1 hB;have HB:Hid (Below w.heap.size w w1):=hB;clear hB;go_wp2_with fail
 refine (HT.out _ HB.out).mono ?_;rintro e w2 ⟨rfl,hw⟩;have hw1:=hw.symm;clear hw;subst hw1;go_wp2_with fail
 have hd0:w1.drew.cell? ⟨p,0,none⟩=some (.string s):=hc0;have Aa:Hid (Below w.heap.size w w1.drew):=below_dr HB.out;go_region_held (fun w'=>w'.cell? ⟨p,0,none⟩=some (.string s)) (first|exact hc3|exact hd0) (first|(go_at_call 169;refine (HP.out _).mono ?_;rintro e w3 ⟨rfl,hB3⟩;have hB4:Below w.heap.size w w3:=Aa.out.trans (hB3.mono Aa.out.size);obtain ⟨hc3,hc4,hf4⟩:=HC.out w3 hB4;have Ab:Hid (Below w.heap.size w w3):=hB4;clear hB3 hB4))
 all_goals (
  go_wp2;go_ret
  exact ⟨rfl,_,Ab.out,rfl⟩)
theorem op_C {Q:World->Prop} (p:Nat) (a n z:Int) (P s t u:ByteArray) (w:World) (ha0:0<=a) (ha1:a<=4) (hn0:0<=n) (hn1:n<=4294967295) (hP:(P.size:Int)<=3) (hz:a+n+(P.size:Int)=z) (hzs:z<=(s.size:Int))
 (hX:s.extract (a+n).toNat z.toNat=P) (ht:(t.size:Int)=z) (hu:t.extract a.toNat (a+n).toNat=u)
 (HP:Hid (∀ w,Calls Tryz.prog 169 #[iI n] w fun e w'=>e=.returned (.string P)∧Below w.heap.size w w'))
 (HC:Hid (∀ w1,Below w.heap.size w w1->w1.cell? ⟨p,0,none⟩=some (.string s)∧w1.cell? ⟨p,1,none⟩=some (iI 0)∧w1.frozen? ⟨p,1,none⟩=false))
 (HT:Hid (∀ w1,Below w.heap.size w w1->Calls Tryz.prog 170 #[.pointer (some ⟨p,0,none⟩),iI z] w1 fun e w'=>e=.returned (.bool true)∧w'=w1))
 (HK:Hid (∀ w1,Below w.heap.size w w1->Calls Tryz.prog 171 #[.pointer (some ⟨p,0,none⟩),iI z] w1 fun e w'=>e=.returned (.string t)∧Q w')) :
 Calls Tryz.prog 185 #[.pointer (some ⟨p,0,none⟩),iI a,iI n] w fun e w'=>e=.returned (.string u)∧Q w':=by
 have hsl:∀ w,(Instr.slice 9 (.string s) (some (iI (IntKind.i64.wrap (a+n)))) (some (iI (IntKind.i64.wrap (IntKind.i64.wrap (a+n)+(P.size:Int))))) none).run Tryz.prog w=.ok (.string P) w:=fun w=>by
  have e1:IntKind.i64.wrap (a+n)=a+n:=by rw [IntKind.wrap_i64];omega
  rw [e1,hz,show IntKind.i64.wrap z=z by rw [IntKind.wrap_i64];omega,zd8 w s (a+n) z (by omega) (by omega) hzs,hX]
 have hs2:∀ w,(Instr.slice 9 (.string t) (some (iI a)) (some (iI (a+n))) none).run Tryz.prog w=.ok (.string u) w:=fun w=>by
  rw [zd8 w t a (a+n) ha0 (by omega) (by omega),hu]
 clear hX hzs ht hu;go_enter Tryz.func185,Tryz.ntmps185
 go_wp2_with fail
 refine (HP.out _).mono ?_;rintro e w1 ⟨rfl,hB⟩;obtain ⟨hc0,hc1,hf1⟩:=HC.out w1 hB;have HB:Hid (Below w.heap.size w w1):=hB;clear hB;go_wp2_with fail
 refine (HT.out _ HB.out).mono ?_;rintro e w2 ⟨rfl,hw⟩;have hw1:=hw.symm;clear hw;subst hw1;go_wp2_with fail
 have hd0:w1.drew.cell? ⟨p,0,none⟩=some (.string s):=hc0;have Aa:Hid (Below w.heap.size w w1.drew):=below_dr HB.out;go_region_held (fun w'=>w'.cell? ⟨p,0,none⟩=some (.string s)) (first|exact hc3|exact hd0) (first|(go_at_call 169;refine (HP.out _).mono ?_;rintro e w3 ⟨rfl,hB3⟩;have hB4:Below w.heap.size w w3:=Aa.out.trans (hB3.mono Aa.out.size);obtain ⟨hc3,hc4,hf4⟩:=HC.out w3 hB4;have Ab:Hid (Below w.heap.size w w3):=hB4;clear hB3 hB4))
 all_goals (
  go_wp2_with fail
  refine (HK.out _ Ab.out).mono ?_;rintro e w5 ⟨rfl,hQ⟩;have HQ:Hid (Q w5):=hQ;clear hQ;go_wp2;go_ret
  exact ⟨rfl,HQ.out⟩)
theorem ze2 (n:Nat) (w:World):Calls Tryz.prog 169 #[iI n] w fun e w'=>e=.returned (.string ⟨(padB n).toArray⟩)∧Below w.heap.size w w':=zgl n w
theorem opaque_short (p a n:Nat) (l:List UInt8) (w:World) (h:DR w p l 0) (ha:a<=4) (hn:n<=4294967295) (hs:l.length<a+n+pads n) :
 Calls Tryz.prog 185 #[.pointer (some ⟨p,0,none⟩),iI a,iI n] w fun e w'=>e=.returned (.string ⟨#[]⟩)∧(DR w' p l 20∧Sole p w w'):=by
 have hp3:pads n<=3:=by unfold pads;omega
 refine op_A p a n ((a+n+pads n:Nat):Int) _ w (by omega) (by omega) (by omega) (by omega) (by rw [za4,zau];omega) (by rw [za4,zau];omega) (ze2 n) (fun w1 hB=>?_);exact (zfh p _ l 0 20 w1 (h.below hB) (by rw [if_pos rfl,if_pos (by omega)]) (by decide)).mono fun e w' hp=>⟨hp.1,hp.2.1,(Sole.of_below hB).trans hp.2.2⟩
theorem opaque_pad (p a n:Nat) (l:List UInt8) (w:World) (h:DR w p l 0) (ha:a<=4) (hn:n<=4294967295) (hs:a+n+pads n<=l.length) (hne:((l.drop a).drop n).take (pads n)≠padB n) :
 Calls Tryz.prog 185 #[.pointer (some ⟨p,0,none⟩),iI a,iI n] w fun e w'=>e=.returned (.string ⟨#[]⟩)∧(DR w' p l 24∧Sole p w w'):=by
 have hp3:pads n<=3:=by unfold pads;omega
 have hX:(⟨l.toArray⟩:ByteArray).extract ((a:Int)+(n:Int)).toNat (((a+n+pads n:Nat):Int)).toNat=⟨(((l.drop a).drop n).take (pads n)).toArray⟩:=by
  rw [zbu,List.drop_drop,show ((a:Int)+(n:Int)).toNat=a+n by omega,Int.toNat_natCast,show a+n+pads n - (a+n)=pads n by omega]
 refine (op_B p a n ((a+n+pads n:Nat):Int) _ _ _ w (by omega) (by omega) (by omega) (by omega) (by rw [za4,zau];omega) (by rw [za4,zau];omega) (by rw [za4];omega) hX (by rw [ByteArray.toList_eq,ByteArray.toList_eq];exact beq_eq_false_iff_ne.2 (by simpa using hne)) (ze2 n)
  (fun w1 hB=>⟨(h.below hB).l,(h.below hB).e,(h.below hB).f1⟩) (fun w1 hB=>zdg p _ l w1 (h.below hB) (by omega))).mono ?_
 rintro e w' ⟨rfl,w1,hB,rfl⟩;exact ⟨rfl,(h.below hB).setE 24,(Sole.of_below hB).trans (Sole.setCell w1 1 _)⟩
theorem opaque_good (p a n:Nat) (l:List UInt8) (w:World) (h:DR w p l 0) (ha:a<=4) (hn:n<=4294967295) (hs:a+n+pads n<=l.length) (hpe:((l.drop a).drop n).take (pads n)=padB n) :
 Calls Tryz.prog 185 #[.pointer (some ⟨p,0,none⟩),iI a,iI n] w fun e w'=>e=.returned (.string ⟨((l.drop a).take n).toArray⟩)∧(DR w' p (l.drop (a+(n+pads n))) 0∧Sole p w w'):=by
 have hp3:pads n<=3:=by unfold pads;omega
 have hX:(⟨l.toArray⟩:ByteArray).extract ((a:Int)+(n:Int)).toNat (((a+n+pads n:Nat):Int)).toNat=⟨(padB n).toArray⟩:=by
  rw [zbu,show ((a:Int)+(n:Int)).toNat=a+n by omega,Int.toNat_natCast,show a+n+pads n - (a+n)=pads n by omega,<- hpe,List.drop_drop]
 have hu:(⟨(l.take (a+n+pads n)).toArray⟩:ByteArray).extract (a:Int).toNat ((a:Int)+(n:Int)).toNat=⟨((l.drop a).take n).toArray⟩:=by
  rw [zbu,show ((a:Int)+(n:Int)).toNat=a+n by omega,Int.toNat_natCast,show a+n - a=n by omega,List.drop_take,List.take_take,Nat.min_eq_left (by omega)]
 refine (op_C (Q:=fun w'=>DR w' p (l.drop (a+n+pads n)) 0∧Sole p w w') p a n ((a+n+pads n:Nat):Int) _ _ _ _ w (by omega) (by omega) (by omega) (by omega) (by rw [za4,zau];omega) (by rw [za4,zau];omega) (by rw [za4];omega) hX (by rw [za4,List.length_take];omega) hu (ze2 n)
  (fun w1 hB=>⟨(h.below hB).l,(h.below hB).e,(h.below hB).f1⟩) (fun w1 hB=>zdg p _ l w1 (h.below hB) (by omega)) (fun w1 hB=>(zfr p _ l 0 w1 (h.below hB) hs).mono fun e w' hp=>⟨hp.1,hp.2.1,(Sole.of_below hB).trans hp.2.2⟩)).mono ?_
 rw [Nat.add_assoc];exact fun e w' hp=>hp
theorem opaque_bad (p a n:Nat) (l:List UInt8) (w:World) (h:DR w p l 0) (ha:a<=4) (hal:a<=l.length) (hn:n<=4294967295) (hw:(zaw n (l.drop a)).wrong≠0) :
 Calls Tryz.prog 185 #[.pointer (some ⟨p,0,none⟩),iI a,iI n] w fun e w'=>e=.returned (.string ⟨#[]⟩)∧(DR w' p l (zaw n (l.drop a)).wrong∧Sole p w w'):=by
 unfold zaw at hw ⊢;by_cases h1:(l.drop a).length<n+pads n
 · rw [if_pos h1];rw [List.length_drop] at h1;exact opaque_short p a n l w h ha hn (by omega)
 · rw [if_neg h1] at hw ⊢;rw [List.length_drop] at h1;by_cases h2:((l.drop a).drop n).take (pads n)≠padB n
   · rw [if_pos h2];exact opaque_pad p a n l w h ha hn (by omega) h2
   · rw [if_neg h2] at hw;exact absurd rfl hw
theorem opaque_ok (p a n:Nat) (l:List UInt8) (w:World) (h:DR w p l 0) (ha:a<=4) (hal:a<=l.length) (hn:n<=4294967295) (hw:(zaw n (l.drop a)).wrong=0) :
 Calls Tryz.prog 185 #[.pointer (some ⟨p,0,none⟩),iI a,iI n] w fun e w'=>e=.returned (.string ⟨(zaw n (l.drop a)).val.toArray⟩)∧(DR w' p (l.drop (a+(n+pads n))) 0∧Sole p w w'):=by
 unfold zaw at hw ⊢;by_cases h1:(l.drop a).length<n+pads n
 · rw [if_pos h1] at hw;cases hw
 · rw [if_neg h1] at hw ⊢;rw [List.length_drop] at h1;by_cases h2:((l.drop a).drop n).take (pads n)≠padB n
   · rw [if_pos h2] at hw;cases hw
   · rw [if_neg h2];exact opaque_good p a n l w h ha hn (by omega) (Decidable.not_not.1 h2)
theorem cnt_A {R Q:World->Prop} (p:Nat) (m:Int) (w:World) (HW:Hid (∀ w,Calls Tryz.prog 145 #[iI m] w fun e w'=>e=.returned (.bool false)∧w'=w))
 (HF:Hid (Calls Tryz.prog 193 #[.pointer (some ⟨p,0,none⟩),iI 22] w fun e w'=>e=.returned (.tuple #[])∧R w')) (HT:Hid (∀ w1,R w1->Calls Tryz.prog 170 #[.pointer (some ⟨p,0,none⟩),iI 4] w1 fun e w'=>e=.returned (.bool false)∧Q w')) :
 Calls Tryz.prog 184 #[.pointer (some ⟨p,0,none⟩),iI m] w fun e w'=>e=.returned (.tuple #[iI 0,.bool false])∧Q w':=by
 go_enter Tryz.func184,Tryz.ntmps184
 go_wp2_with fail
 refine (HW.out _).mono ?_;rintro e w0 ⟨rfl,hw⟩;have hw1:=hw.symm;clear hw;subst hw1;go_wp2_with fail
 refine HF.out.mono ?_;rintro e w2 ⟨rfl,hR⟩;have HR:Hid (R w2):=hR;clear hR;go_wp2_with fail
 refine (HT.out _ HR.out).mono ?_;rintro e w9 ⟨rfl,hQ⟩;have HQ:Hid (Q w9):=hQ;clear hQ;go_wp2;go_ret2
 exact ⟨rfl,HQ.out⟩
theorem cnt_B {Q:World->Prop} (p:Nat) (m:Int) (w:World) (HW:Hid (∀ w,Calls Tryz.prog 145 #[iI m] w fun e w'=>e=.returned (.bool true)∧w'=w))
 (HT:Hid (Calls Tryz.prog 170 #[.pointer (some ⟨p,0,none⟩),iI 4] w fun e w'=>e=.returned (.bool false)∧Q w')) :
 Calls Tryz.prog 184 #[.pointer (some ⟨p,0,none⟩),iI m] w fun e w'=>e=.returned (.tuple #[iI 0,.bool false])∧Q w':=by
 go_enter Tryz.func184,Tryz.ntmps184
 go_wp2_with fail
 refine (HW.out _).mono ?_;rintro e w0 ⟨rfl,hw⟩;have hw1:=hw.symm;clear hw;subst hw1;go_wp2_with fail
 refine HT.out.mono ?_;rintro e w9 ⟨rfl,hQ⟩;have HQ:Hid (Q w9):=hQ;clear hQ;go_wp2;go_ret2
 exact ⟨rfl,HQ.out⟩
theorem cnt_C {R:World->Prop} (p:Nat) (m n:Int) (s a:ByteArray) (w:World) (h0:w.cell? ⟨p,0,none⟩=some (.string s)) (h4:(4:Int)<=(s.size:Int)) (ha:s.extract 0 4=a) (hn:m<n) (HW:Hid (∀ w,Calls Tryz.prog 145 #[iI m] w fun e w'=>e=.returned (.bool true)∧w'=w))
 (HT:Hid (Calls Tryz.prog 170 #[.pointer (some ⟨p,0,none⟩),iI 4] w fun e w'=>e=.returned (.bool true)∧w'=w)) (HN:Hid (Calls Tryz.prog 172 #[.string a] w fun e w'=>e=.returned (iI n)∧R w')) (HC:Hid (∀ w1,R w1->w1.cell? ⟨p,1,none⟩=some (iI 0)∧w1.frozen? ⟨p,1,none⟩=false)) :
 Calls Tryz.prog 184 #[.pointer (some ⟨p,0,none⟩),iI m] w fun e w'=>e=.returned (.tuple #[iI 0,.bool false])∧∃ w1,R w1∧w'=w1.setCell ⟨p,1,none⟩ (iI 23):=by
 go_enter Tryz.func184,Tryz.ntmps184
 go_wp2_with fail
 refine (HW.out _).mono ?_;rintro e w0 ⟨rfl,hw⟩;have hw1:=hw.symm;clear hw;subst hw1;go_wp2_with fail
 refine HT.out.mono ?_;rintro e w0 ⟨rfl,hw⟩;have hw1:=hw.symm;clear hw;subst hw1;go_wp2_with fail
 refine HN.out.mono ?_;rintro e w2 ⟨rfl,hR⟩;obtain ⟨hc,hf⟩:=HC.out w2 hR;have HR:Hid (R w2):=hR;clear hR;go_wp2;go_ret2
 exact ⟨rfl,w2,HR.out,rfl⟩
theorem cnt_D {R:World->Prop} (p:Nat) (m n:Int) (s a:ByteArray) (w:World) (h0:w.cell? ⟨p,0,none⟩=some (.string s)) (h4:(4:Int)<=(s.size:Int)) (ha:s.extract 0 4=a) (hn:¬ m<n) (HW:Hid (∀ w,Calls Tryz.prog 145 #[iI m] w fun e w'=>e=.returned (.bool true)∧w'=w))
 (HT:Hid (Calls Tryz.prog 170 #[.pointer (some ⟨p,0,none⟩),iI 4] w fun e w'=>e=.returned (.bool true)∧w'=w)) (HN:Hid (Calls Tryz.prog 172 #[.string a] w fun e w'=>e=.returned (iI n)∧R w')) :
 Calls Tryz.prog 184 #[.pointer (some ⟨p,0,none⟩),iI m] w fun e w'=>e=.returned (.tuple #[iI n,.bool true])∧R w':=by
 go_enter Tryz.func184,Tryz.ntmps184
 go_wp2_with fail
 refine (HW.out _).mono ?_;rintro e w0 ⟨rfl,hw⟩;have hw1:=hw.symm;clear hw;subst hw1;go_wp2_with fail
 refine HT.out.mono ?_;rintro e w0 ⟨rfl,hw⟩;have hw1:=hw.symm;clear hw;subst hw1;go_wp2_with fail
 refine HN.out.mono ?_;rintro e w2 ⟨rfl,hR⟩;have HR:Hid (R w2):=hR;clear hR;go_wp2;go_ret2
 exact ⟨rfl,HR.out⟩
theorem counted_bad (p:Nat) (m:Int) (l:List UInt8) (E F:Int) (w:World) (h:DR w p l E) (hF:(if E=0 then (zai m l).wrong else E)=F) (hF0:F≠0) :
 Calls Tryz.prog 184 #[.pointer (some ⟨p,0,none⟩),iI m] w fun e w'=>e=.returned (.tuple #[iI 0,.bool false])∧(DR w' p l F∧Sole p w w'):=by
 have hW:=dword_any m;by_cases hw:m<0∨4294967295<m
 · have hr:(zai m l).wrong=22:=by unfold zai;rw [if_pos hw]
   rw [hr] at hF;refine cnt_A (R:=fun w'=>DR w' p l F∧Sole p w w') p m w (fun w=>by have:=hW w;rwa [show (decide (0<=m)&&decide (m<=4294967295))=false by rcases hw with h|h <;> simp <;> omega] at this) (by have:=dfail_any p l E 22 w h;rwa [hF] at this) (fun w1 h1=>?_);exact (zfh p 4 l F F w1 h1.1 (by rw [if_neg hF0]) hF0).mono fun e w' hp=>⟨hp.1,hp.2.1,h1.2.trans hp.2.2⟩
 · have hWt:∀ w,Calls Tryz.prog 145 #[iI m] w fun e w'=>e=.returned (.bool true)∧w'=w:=fun w=>by have:=hW w;rwa [show (decide (0<=m)&&decide (m<=4294967295))=true by simp;omega] at this
   by_cases hs:E=0∧¬ l.length<4
   · obtain ⟨rfl,hl⟩:=hs;rw [if_pos rfl] at hF;have ht:(l.take 4).length=4:=(by rw [List.length_take];omega);have hlong:m<(beN (l.take 4):Int)∧F=23:=by
      unfold zai at hF;rw [if_neg hw,if_neg hl] at hF;by_cases hc:m<(beN (l.take 4):Int)
      · rw [if_pos hc] at hF;exact ⟨hc,hF.symm⟩
      · rw [if_neg hc] at hF;exact absurd hF.symm hF0
     obtain ⟨hc,rfl⟩:=hlong;refine (cnt_C (R:=fun w'=>DR w' p l 0∧Below w.heap.size w w') p m _ _ _ w h.l (by rw [za4];omega) (ext_take l 4) hc hWt (zdg p 4 l w h (by omega)) ((number4 _ w ht).mono fun e w' hp=>⟨hp.1,h.below hp.2,hp.2⟩) (fun w1 h1=>⟨h1.1.e,h1.1.f1⟩)).mono ?_;rintro e w' ⟨rfl,w1,⟨hd,hB⟩,rfl⟩;exact ⟨rfl,hd.setE 23,(Sole.of_below hB).trans (Sole.setCell w1 1 _)⟩
   · refine cnt_B p m w hWt (zfh p 4 l E F w h ?_ hF0);rw [<- hF];by_cases hE:E=0
     · rw [if_pos hE,if_pos hE];have hl:l.length<4:=Decidable.not_not.1 fun c=>hs ⟨hE,c⟩;rw [if_pos (by omega)];unfold zai;rw [if_neg hw,if_pos hl]
     · rw [if_neg hE,if_neg hE]
theorem counted_ok (p:Nat) (m:Int) (l:List UInt8) (w:World) (h:DR w p l 0) (hw0:(zai m l).wrong=0) :
 Calls Tryz.prog 184 #[.pointer (some ⟨p,0,none⟩),iI m] w fun e w'=>e=.returned (.tuple #[iI ((zai m l).val:Int),.bool true])∧(DR w' p l 0∧Below w.heap.size w w'):=by
 have hW:=dword_any m;unfold zai at hw0 ⊢;by_cases hw:m<0∨4294967295<m
 · rw [if_pos hw] at hw0;cases hw0
 · rw [if_neg hw] at hw0 ⊢;by_cases hl:l.length<4
   · rw [if_pos hl] at hw0;cases hw0
   · rw [if_neg hl] at hw0 ⊢;by_cases hc:m<(beN (l.take 4):Int)
     · rw [if_pos hc] at hw0;cases hw0
     · rw [if_neg hc];have ht:(l.take 4).length=4:=(by rw [List.length_take];omega);exact cnt_D (R:=fun w'=>DR w' p l 0∧Below w.heap.size w w') p m _ _ _ w h.l (by rw [za4];omega) (ext_take l 4) hc (fun w=>by have:=hW w;rwa [show (decide (0<=m)&&decide (m<=4294967295))=true by simp;omega] at this) (zdg p 4 l w h (by omega)) ((number4 _ w ht).mono fun e w' hp=>⟨hp.1,h.below hp.2,hp.2⟩)
theorem dopaque_A {Q:World->Prop} (p:Nat) (m:Int) (w:World) (HC:Hid (Calls Tryz.prog 184 #[.pointer (some ⟨p,0,none⟩),iI m] w fun e w'=>e=.returned (.tuple #[iI 0,.bool false])∧Q w')) :
 Calls Tryz.prog 173 #[.pointer (some ⟨p,0,none⟩),iI m] w fun e w'=>e=.returned (.string ⟨#[]⟩)∧Q w':=by
 go_enter Tryz.func173,Tryz.ntmps173
 go_wp2_with fail
 refine HC.out.mono ?_;rintro e w9 ⟨rfl,hQ⟩;have HQ:Hid (Q w9):=hQ;clear hQ;go_wp2;go_ret;exact ⟨rfl,HQ.out⟩
theorem dopaque_B {R Q:World->Prop} (p:Nat) (m n:Int) (t:ByteArray) (w:World) (HC:Hid (Calls Tryz.prog 184 #[.pointer (some ⟨p,0,none⟩),iI m] w fun e w'=>e=.returned (.tuple #[iI n,.bool true])∧R w')) (HK:Hid (∀ w1,R w1->Calls Tryz.prog 185 #[.pointer (some ⟨p,0,none⟩),iI 4,iI n] w1 fun e w'=>e=.returned (.string t)∧Q w')) :
 Calls Tryz.prog 173 #[.pointer (some ⟨p,0,none⟩),iI m] w fun e w'=>e=.returned (.string t)∧Q w':=by
 go_enter Tryz.func173,Tryz.ntmps173
 go_wp2_with fail
 refine HC.out.mono ?_;rintro e w2 ⟨rfl,hR⟩;have HR:Hid (R w2):=hR;clear hR;go_wp2_with fail
 refine (HK.out _ HR.out).mono ?_;rintro e w9 ⟨rfl,hQ⟩;have HQ:Hid (Q w9):=hQ;clear hQ;go_wp2;go_ret;exact ⟨rfl,HQ.out⟩
theorem dopaque_any (p:Nat) (m:Int) (l:List UInt8) (E:Int) (w:World) (h:DR w p l E):Calls Tryz.prog 173 #[.pointer (some ⟨p,0,none⟩),iI m] w (zdq p l E [] (zao m) (fun s=>Bs s) w):=by
 by_cases hc:E=0∧(zai m l).wrong=0
 · obtain ⟨rfl,hw⟩:=hc;obtain ⟨_,h4,hlt⟩:=zdk m l;have h4:=h4 hw;generalize hk:(zai m l).val=k at *;have hop:zao m l=⟨(zaw k (l.drop 4)).wrong,4+(k+pads k),(zaw k (l.drop 4)).val⟩:=by
    unfold zao;rw [if_neg (by simp [hw]),hk,zd0]
   have hC:=counted_ok p m l w h hw;rw [hk] at hC;by_cases hw2:(zaw k (l.drop 4)).wrong=0
   · refine (dopaque_B (R:=fun w'=>DR w' p l 0∧Below w.heap.size w w') (Q:=fun w'=>DR w' p (l.drop (4+(k+pads k))) 0∧Sole p w w') p m _ _ w hC (fun w1 h1=>(opaque_ok p 4 k l w1 h1.1 (by omega) h4 (by omega) hw2).mono fun e w' hp=>⟨hp.1,hp.2.1,(Sole.of_below h1.2).trans hp.2.2⟩)).mono ?_;exact fun e w' hp=>zdq.good (k:=4+(k+pads k)) (x:=(zaw k (l.drop 4)).val) (by rw [hop,hw2]) hp
   · refine (dopaque_B (R:=fun w'=>DR w' p l 0∧Below w.heap.size w w') (Q:=fun w'=>DR w' p l (zaw k (l.drop 4)).wrong∧Sole p w w') p m _ _ w hC (fun w1 h1=>(opaque_bad p 4 k l w1 h1.1 (by omega) h4 (by omega) hw2).mono fun e w' hp=>⟨hp.1,hp.2.1,(Sole.of_below h1.2).trans hp.2.2⟩)).mono ?_;exact fun e w' hp=>zdq.bad (F:=(zaw k (l.drop 4)).wrong) (by rw [if_pos rfl,hop]) hw2 hp
 · obtain ⟨F,hF⟩:∃ F,(if E=0 then (zai m l).wrong else E)=F:=⟨_,rfl⟩;have hF0:F≠0:=by
    intro c;rw [c] at hF;(apply hc);by_cases hE:E=0
    · rw [if_pos hE] at hF;exact ⟨hE,hF⟩
    · rw [if_neg hE] at hF;exact absurd hF hE
   refine (dopaque_A p m w (counted_bad p m l E F w h hF hF0)).mono ?_;refine fun e w' hp=>zdq.bad (F:=F) ?_ hF0 hp;rw [<- hF];by_cases hE:E=0
   · rw [if_pos hE,if_pos hE];unfold zao;rw [if_pos (fun c=>hc ⟨hE,c⟩)]
   · rw [if_neg hE,if_neg hE]
theorem fieldsA:Tryz.prog.underlying 44=some (.struct (Tryz.prog.fieldsOf 44)):=by kernel_rfl
theorem fieldsOfA:(Tryz.prog.fieldsOf 44).toList=[⟨"Flavor",3,0,false,"","",0⟩,⟨"Body",9,1,false,"","",8⟩]:=by unfold Program.fieldsOf;rw [Tryz.underlying44]
theorem stoodA:Tryz.prog.stoodInHeld 44=false:=by kernel_rfl
theorem zfb (w:World) (xs:Array Value) (o:Nat) (v:Value) (h:xs[o]?=some v):(part 3 xs o).run Tryz.prog w=.ok v w:=by
 unfold part isAgg;simp [run_underlying Tryz.underlying3,h]
theorem partS (w:World) (xs:Array Value) (o:Nat) (v:Value) (h:xs[o]?=some v):(part 9 xs o).run Tryz.prog w=.ok v w:=by
 unfold part isAgg;simp [run_underlying Tryz.underlying9,h]
theorem ekI (w:World) (d:Nat) (x:Int):(Op.equalIn (d+1) 3 (iI x) (iI x)).run Tryz.prog w=.ok true w:=by
 rw [run_equalIn_int (P:=Tryz.prog) w d 3 .i64 .i64 x x Tryz.underlying3,beq_self_eq_true]
theorem ekS (w:World) (d:Nat) (x:ByteArray):(Op.equalIn (d+1) 9 (.string x) (.string x)).run Tryz.prog w=.ok true w:=by
 rw [run_equalIn_string (P:=Tryz.prog) w d 9 x x Tryz.underlying9,beq_self_eq_true]
end Go.Proofs.YtfcbjcebkahehaaGreatDoor
namespace Go.Proofs.YtfcbjcebkahehaaGreatDoor
theorem good_bool (t:Bool):Good rdBool (nbL 4 (if t then 1 else 0)) t:=by
 refine (zf7 (if t then 1 else 0) (by cases t <;> decide)).map rdBool t ?_ ?_
 · intro l h;unfold rdBool;rw [h,zaf];cases t <;> rfl
 · intro l h;unfold rdBool;rw [if_pos (by rw [h];decide),h]
theorem one_bool:One rdBool (fun b=>nbL 4 (if b then 1 else 0)) (fun _=>True):=by
 intro l h;unfold rdBool at h ⊢;by_cases hw:(zad l).wrong≠0
 · rw [if_pos hw] at h;exact absurd h hw
 · rw [if_neg hw] at h ⊢;by_cases h1:1<(zad l).val
   · rw [if_pos h1] at h;exact absurd h (by decide)
   · rw [if_neg h1];obtain ⟨a1,a2,_⟩:=zc8 l (Decidable.not_not.1 hw);have hs:(zad l).size=4:=(zdz l).1;rw [hs] at a1 a2;refine ⟨a1,?_,trivial⟩;show nbL 4 (if ((zad l).val==1)=true then 1 else 0)=l.take 4;rw [<- a2];have:(zad l).val=0∨(zad l).val=1:=(by omega);rcases this with e|e <;> rw [e] <;> rfl
theorem go_cnt {n m:Int} (h0:0<=n) (h1:n<=m) (hm:m<=4294967295) (r:List UInt8):(⟨nbL 4 n.toNat++r,0⟩:Rs).go 0 (zai m)=(n.toNat,⟨r,0⟩):=zf8 (zg9 m _ (by omega) hm) 0 r
theorem go_flag (t:Bool) (r:List UInt8):(⟨nbL 4 (if t then 1 else 0)++r,0⟩:Rs).go false rdBool=(t,⟨r,0⟩):=zf8 (good_bool t) false r
theorem fail_ne (st:Rs):(st.fail 121).e≠0:=by
 unfold Rs.fail;by_cases h:st.e=0
 · simp [h]
 · simp [h]
theorem tail_there (s:List UInt8) (h:za8 s):zdd ⟨s,0⟩=(s,⟨[],0⟩):=by
 unfold zdd;rw [if_pos h];unfold Rs.go zbv;simp
theorem tail_back (st:Rs) (h:(zdd st).2.e=0):st.e=0∧za8 st.l∧(zdd st).1=st.l∧(zdd st).2.l=[]:=by
 unfold zdd at h ⊢;by_cases hp:za8 st.l
 · rw [if_pos hp] at h ⊢;by_cases h0:st.e≠0
   · rw [go_stay h0] at h;exact absurd h h0
   · unfold Rs.go zbv;rw [if_neg h0];simp only [ne_eq,not_true,if_false];exact ⟨Decidable.not_not.1 h0,hp,by first|rfl|trivial,by simp⟩
 · rw [if_neg hp,go_stay (fail_ne st)] at h;exact absurd h (fail_ne st)
theorem head_there {n x:Int} (hn:isW n) (hx:isW x) (r:List UInt8):zde n ⟨nbL 4 x.toNat++(nbL 4 n.toNat++r),0⟩=(x.toNat,⟨r,0⟩):=by
 unfold zde;rw [zbi hx];simp only [];rw [zbi hn];simp only [];rw [if_pos (zbf hn).2]
theorem head_back (n:Int) (st:Rs) (h:(zde n st).2.e=0):st.e=0∧(zde n st).1<4294967296∧(((st.go 0 zad).2.go 0 zad).1:Int)=n∧st.l=nbL 4 (zde n st).1++(nbL 4 n.toNat++(zde n st).2.l):=by
 unfold zde at h ⊢;by_cases hk:(((st.go 0 zad).2.go 0 zad).1:Int)=n
 · simp only [if_pos hk] at h ⊢;obtain ⟨k1,k2,k3⟩:=zei zc8 0 (st.go 0 zad).2 h;obtain ⟨x1,x2,x3⟩:=zei zc8 0 st k1;refine ⟨x1,x2,hk,?_⟩;have e:((st.go 0 zad).2.go 0 zad).1=n.toNat:=by omega
   rw [e] at k3;rw [<- k3];exact x3
 · simp only [if_neg hk] at h;exact absurd h (fail_ne _)
theorem done_zero {l:List UInt8} {e:Int} (h:zfz l e=0):e=0∧l=[]:=by
 unfold zfz at h;by_cases h1:e=0∧l≠[]
 · rw [if_pos h1] at h;exact absurd h (by decide)
 · rw [if_neg h1] at h;exact ⟨h,Decidable.not_not.1 fun q=>h1 ⟨h,q⟩⟩
theorem zfk {α:Type} (d:α) (f:Rs->α × Rs) (st:Rs):rdO true d f st=f st:=rfl
theorem zdj {α:Type} (d:α) (f:Rs->α × Rs) (st:Rs):rdO false d f st=(d,st):=rfl
theorem zgt (s:Bool) (st:Rs) (n:Nat × Rs) (hn:rdO s 0 (fun x=>x.go 0 zad) st=n) (he:n.2.e=0):st.e=0∧(opt s (isW (n.1:Int),nbL 4 (n.1:Int).toNat) ((n.1:Int)=0,[])).1∧st.l=(opt s (isW (n.1:Int),nbL 4 (n.1:Int).toNat) ((n.1:Int)=0,[])).2++n.2.l:=by
 subst hn;cases s
 · exact ⟨he,rfl,rfl⟩
 · obtain ⟨a1,a2,a3⟩:=zei zc8 0 st he;exact ⟨a1,nat_w a2,a3⟩
theorem cntO_back (s:Bool) (m:Int) (st:Rs) (n:Nat × Rs) (hn:rdO s 0 (fun x=>x.go 0 (zai m)) st=n) (he:n.2.e=0):st.e=0∧(opt s (0<=(n.1:Int)∧(n.1:Int)<=m,nbL 4 (n.1:Int).toNat) ((n.1:Int)=0,[])).1∧st.l=(opt s (0<=(n.1:Int)∧(n.1:Int)<=m,nbL 4 (n.1:Int).toNat) ((n.1:Int)=0,[])).2++n.2.l:=by
 subst hn;cases s
 · exact ⟨he,rfl,rfl⟩
 · obtain ⟨a1,a2,a3⟩:=zei (zcz m) 0 st he;exact ⟨a1,⟨Int.natCast_nonneg _,a2.2.2⟩,a3⟩
theorem tailO_back (s:Bool) (st:Rs) (n:List UInt8 × Rs) (hn:rdO s [] zdd st=n) (he:n.2.e=0):st.e=0∧(opt s (za8 n.1,n.1) (n.1=[],[])).1∧st.l=(opt s (za8 n.1,n.1) (n.1=[],[])).2++n.2.l:=by
 subst hn;cases s
 · exact ⟨he,rfl,rfl⟩
 · obtain ⟨a1,a2,a3,a4⟩:=tail_back st he;refine ⟨a1,?_,?_⟩
   · show za8 (zdd st).1;rw [a3];exact a2
   · show st.l=(zdd st).1++(zdd st).2.l;rw [a3,a4,List.append_nil]
theorem end_back (b:ReplyP × Rs) (he:(rdE b).2.e=0):b.2.e=0∧allA (rtsE (endM b.1) (endA b.1) (endS b.1) (rdE b).1)∧b.2.l=allL (rtsE (endM b.1) (endA b.1) (endS b.1) (rdE b).1)++(rdE b).2.l:=by
 obtain ⟨t1,t2,t3⟩:=tailO_back (endS b.1) (rdEQ (endM b.1) (endA b.1) (endS b.1) b.2).y.2 (rdEQ (endM b.1) (endA b.1) (endS b.1) b.2).t rfl he;obtain ⟨y1,y2,y3⟩:=cntO_back (endA b.1) 14 (rdEQ (endM b.1) (endA b.1) (endS b.1) b.2).h.2 (rdEQ (endM b.1) (endA b.1) (endS b.1) b.2).y rfl t1;obtain ⟨h1,h2,h3⟩:=zgt (endM b.1) (rdEQ (endM b.1) (endA b.1) (endS b.1) b.2).l.2 (rdEQ (endM b.1) (endA b.1) (endS b.1) b.2).h rfl y1;obtain ⟨l1,l2,l3⟩:=zgt (endM b.1) b.2 (rdEQ (endM b.1) (endA b.1) (endS b.1) b.2).l rfl h1;refine ⟨l1,⟨l2,h2,y2,t2,trivial⟩,?_⟩;rw [l3,h3,y3,t3];simp only [rtsE,allL,List.append_assoc,List.append_nil];rfl
theorem body_back (x:Nat) (d:Bool × Rs) (he:(rdB x d).2.e=0):d.2.e=0∧allA (rtsB (rdB x d).1)∧d.2.l=allL (rtsB (rdB x d).1)++(rdB x d).2.l:=by
 obtain ⟨d,st⟩:=d;cases d
 · have e:rdB x (false,st)=(⟨x,false,(za7 st).1,((za7 st).2.go 0 (zai 5)).1,0,0,[],0,0⟩,((za7 st).2.go 0 (zai 5)).2):=rfl;rw [e] at he ⊢;obtain ⟨a1,a2,a3⟩:=zei (zcz 5) 0 (za7 st).2 he;obtain ⟨b1,b2,b3⟩:=auth_back st a1;refine ⟨b1,⟨rfl,b2.1,?_,⟨Int.natCast_nonneg _,a2.2.2⟩,trivial⟩,?_⟩
   · (have:=b2.2);show (((za7 st).1.body.length:Nat):Int)<=400;omega
   · show st.l=_;rw [b3,a3];simp only [rtsB,rtsA,allL,AuthP.lay,Bool.false_eq_true,if_false,List.append_assoc,List.append_nil,List.nil_append,Int.toNat_natCast]
 · have e:rdB x (true,st)=(⟨x,true,nulA,0,0,0,[],(st.go 0 (zai 1)).1,0⟩,(st.go 0 (zai 1)).2):=rfl;rw [e] at he ⊢;obtain ⟨a1,a2,a3⟩:=zei (zcz 1) 0 st he;refine ⟨a1,⟨⟨Int.natCast_nonneg _,a2.2.2⟩,rfl,rfl,rfl,trivial⟩,?_⟩;show st.l=_;rw [a3];simp only [rtsB,rtsD,allL,if_true,List.append_nil,Int.toNat_natCast]
theorem rdB_keeps (x:Nat) (d:Bool × Rs):(rdB x d).1.xid=x∧(rdB x d).1.denied=d.1:=by
 obtain ⟨d,st⟩:=d;cases d <;> exact ⟨rfl,rfl⟩
theorem parseR_form (s:List UInt8):((za0 s).2=0∧(((⟨s,0⟩:Rs).go 0 zad).2.go 0 zad).1=1∧(za0 s).1.may∧s=(za0 s).1.lay)∨za0 s=(nulR,121):=by
 unfold za0;by_cases hd:zfz (zcf ⟨s,0⟩).2.l (zcf ⟨s,0⟩).2.e=0
 · rw [if_pos hd];obtain ⟨he,hl⟩:=done_zero hd;obtain ⟨x,d,hx⟩:∃ x d,rdHD ⟨s,0⟩=(x,d):=⟨_,_,rfl⟩;obtain ⟨b,hb⟩:∃ b,rdB x d=b:=⟨_,rfl⟩;have hr:zcf ⟨s,0⟩=rdE b:=by unfold zcf;rw [hx,hb]
   rw [hr] at he hl ⊢;obtain ⟨e1,e2,e3⟩:=end_back b he;obtain ⟨b1,b2,b3⟩:=body_back x d (by rw [hb];exact e1);have hk:=rdB_keeps x d;rw [hb] at b2 b3 hk;have hx1:(zde 1 ⟨s,0⟩).1=x:=congrArg Prod.fst hx;have hx2:(zde 1 ⟨s,0⟩).2.go false rdBool=d:=congrArg Prod.snd hx;obtain ⟨d1,_,d3⟩:=zei one_bool false (zde 1 ⟨s,0⟩).2 (by rw [hx2];exact b1);rw [hx2] at d3;obtain ⟨h1,h2,h3,h4⟩:=head_back 1 ⟨s,0⟩ d1;rw [hx1] at h2 h4;have hm:(rdE b).1.may:=(reply_may _).2 ⟨⟨⟨trivial,by show isW b.1.xid;rw [hk.1];exact nat_w h2,trivial,trivial,trivial⟩,b2⟩,e2⟩;refine .inl ⟨rfl,by omega,hm,?_⟩;show s=_;have h5:s=_:=h4;refine h5.trans ?_;rw [<- reply_lay_eq _ hm,d3,b3,e3,hl];have k1:(rdE b).1.xid=(x:Int):=hk.1;have k2:(rdE b).1.denied=d.1:=hk.2;have k3:rtsB (rdE b).1=rtsB b.1:=rfl;have k4:endM (rdE b).1=endM b.1:=rfl;have k5:endA (rdE b).1=endA b.1:=rfl;have k6:endS (rdE b).1=endS b.1:=rfl;rw [k3,k4,k5,k6];unfold rtsH;rw [k1,k2];simp only [allL,List.append_assoc,List.append_nil,List.nil_append,Int.toNat_natCast];first|rfl|done
 · rw [if_neg hd];exact .inr rfl
theorem parseR_there (r:ReplyP) (h:r.may):za0 r.lay=(r,0):=by
 obtain ⟨rx,rd,rv,ra,rl,rh,rr,rj,rw_⟩:=r;obtain ⟨h1,h2⟩:=h;have key:∀ (st:Rs) (z:ReplyP),zcf st=(z,⟨[],0⟩)->st.e=0->za0 st.l=(z,0):=fun st z e e0=>by
  obtain ⟨l,E⟩:=st;have e0:E=0:=e0;subst e0;unfold za0;rw [e];rfl
 have hd:∀ t:List UInt8,rdHD ⟨nbL 4 rx.toNat++(nbL 4 1++(nbL 4 (if rd then 1 else 0)++t)),0⟩=(rx.toNat,(rd,⟨t,0⟩)):=fun t=>by
  unfold rdHD;rw [show nbL 4 1=nbL 4 (1:Int).toNat from rfl,head_there (n:=1) (by decide) h1];simp only [];rw [go_flag]
 cases rd
 · simp only [Bool.false_eq_true,if_false] at h2;obtain ⟨hv,rfl,rfl,ha0,ha5,h7⟩:=h2;have hlay:ReplyP.lay ⟨rx,false,rv,ra,rl,rh,rr,0,0⟩=nbL 4 rx.toNat++(nbL 4 1++(nbL 4 (if false then 1 else 0)++(rv.lay++(nbL 4 ra.toNat++((if ra=2 then nbL 4 rl.toNat++nbL 4 rh.toNat else [])++rr))))):=rfl;refine hlay ▸ key ⟨_,0⟩ _ ?_ rfl;unfold zcf;rw [hd];have hb:rdB rx.toNat (false,⟨rv.lay++(nbL 4 ra.toNat++((if ra=2 then nbL 4 rl.toNat++nbL 4 rh.toNat else [])++rr)),0⟩)=(⟨rx,false,rv,ra,0,0,[],0,0⟩,⟨(if ra=2 then nbL 4 rl.toNat++nbL 4 rh.toNat else [])++rr,0⟩):=by
    unfold rdB;simp only [Bool.false_eq_true,if_false];rw [zhd _ hv];simp only [];rw [go_cnt ha0 ha5 (by decide)];simp only [(zbf h1).2,(zbf (show isW ra from ⟨ha0,by omega⟩)).2]
   rw [hb];rcases h7 with ⟨rfl,a1,rfl,rfl⟩|⟨rfl,a1,a2,rfl⟩|⟨a0,a1,rfl,rfl,rfl⟩
   · unfold rdE rdEQ endM endA endS;simp only [Bool.false_eq_true,if_false,show ((0:Int)==2)=false from rfl,show ((0:Int)==0)=true from rfl,zdj,zfk,show ¬ (0:Int)=2 by decide,List.nil_append];rw [tail_there _ a1];rfl
   · unfold rdE rdEQ endM endA endS;simp only [Bool.false_eq_true,if_false,show ((2:Int)==2)=true from rfl,show ((2:Int)==0)=false from rfl,zdj,zfk,if_true,List.append_nil];rw [zbi a1];simp only [];have e:=zbi a2 [];rw [List.append_nil] at e;rw [e];simp only [(zbf a1).2,(zbf a2).2];rfl
   · unfold rdE rdEQ endM endA endS;simp only [Bool.false_eq_true,if_false,show (ra==2)=false from beq_eq_false_iff_ne.2 a1,show (ra==0)=false from beq_eq_false_iff_ne.2 a0,zdj,a1,List.append_nil];rfl
 · simp only [if_true] at h2;obtain ⟨rfl,rfl,rfl,h5⟩:=h2;have hlay:ReplyP.lay ⟨rx,true,nulA,0,rl,rh,[],rj,rw_⟩=nbL 4 rx.toNat++(nbL 4 1++(nbL 4 (if true then 1 else 0)++(nbL 4 rj.toNat++(if rj=1 then nbL 4 rw_.toNat else nbL 4 rl.toNat++nbL 4 rh.toNat)))):=rfl;refine hlay ▸ key ⟨_,0⟩ _ ?_ rfl;unfold zcf;rw [hd];have hj:0<=rj∧rj<=1:=by rcases h5 with ⟨rfl,_⟩|⟨rfl,_⟩ <;> decide
   have hb:rdB rx.toNat (true,⟨nbL 4 rj.toNat++(if rj=1 then nbL 4 rw_.toNat else nbL 4 rl.toNat++nbL 4 rh.toNat),0⟩)=(⟨rx,true,nulA,0,0,0,[],rj,0⟩,⟨(if rj=1 then nbL 4 rw_.toNat else nbL 4 rl.toNat++nbL 4 rh.toNat),0⟩):=by
    unfold rdB;simp only [if_true];rw [go_cnt hj.1 hj.2 (by decide)];simp only [(zbf h1).2,(zbf (show isW rj from ⟨hj.1,by omega⟩)).2]
   rw [hb];rcases h5 with ⟨rfl,a1,a2,rfl⟩|⟨rfl,rfl,rfl,a3,a4⟩
   · unfold rdE rdEQ endM endA endS;simp only [if_true,show ((0:Int)==0)=true from rfl,show ((0:Int)==1)=false from rfl,zdj,zfk,show ¬ (0:Int)=1 by decide,if_false];rw [zbi a1];simp only [];have e:=zbi a2 [];rw [List.append_nil] at e;rw [e];simp only [(zbf a1).2,(zbf a2).2];rfl
   · unfold rdE rdEQ endM endA endS;simp only [if_true,show ((1:Int)==0)=false from rfl,show ((1:Int)==1)=true from rfl,zdj,zfk];have e:=go_cnt a3 a4 (by decide) [];rw [List.append_nil] at e;rw [e];simp only [(zbf (show isW rw_ from ⟨a3,by omega⟩)).2];rfl
end Go.Proofs.YtfcbjcebkahehaaGreatDoor
namespace Go.Proofs.YtfcbjcebkahehaaGreatDoor
open Go.RowKit
def RL (w:World) (p:Nat) (M:Int) (l:List UInt8):Prop:=RW w p ⟨l.toArray⟩ M 0
def zbt (p:Nat) (M:Int) (l:List UInt8) (w:World) (e:Ending) (w' : World):Prop:=e=.returned (.tuple #[])∧RL w' p M l∧Only p w w'
theorem rlay_ok {M:Int} {l t:List UInt8} {s:ByteArray} (hs:s=⟨t.toArray⟩) (h:(l.length:Int)+t.length<=M):rlay M ⟨l.toArray⟩ 0 s=(⟨(l++t).toArray⟩,0):=by
 subst hs;unfold rlay;rw [if_neg (by simp),if_neg (by rw [zar,zar];omega),bapp]
theorem lpost {p:Nat} {M:Int} {l t:List UInt8} {s:ByteArray} {w w' : World} {e:Ending} (hs:s=⟨t.toArray⟩) (h:(l.length:Int)+t.length<=M) (hw:Wrote p M (rlay M ⟨l.toArray⟩ 0 s) w e w'):zbt p M (l++t) w e w':=by
 rw [rlay_ok hs h] at hw;exact hw
theorem zbb (p:Nat) (n M:Int) (l:List UInt8) (w:World) (h:RL w p M l) (hn:isW n) (hM:M<=2147483647) (hr:(l.length:Int)+4<=M) :
 Calls Tryz.prog 104 #[.pointer (some ⟨p,0,none⟩),iI n] w (zbt p M (l++nbL 4 n.toNat) w):=by
 refine (ruint_ok p n _ M 0 w h (by rw [zar];omega) hn.1 hn.2).mono fun e w' hp=>?_;exact lpost (by rw [zb1 4 n hn.1 (by have:=hn.2;simp;omega)]) (by rw [zaf];exact hr) hp
theorem l_opaque (p:Nat) (m M:Int) (s l:List UInt8) (w:World) (h:RL w p M l) (hm1:m<=4294967295) (hn:(s.length:Int)<=m) (hM:M<=2147483647) (hr:(l.length:Int)+(4+(s.length+pads s.length:Nat))<=M) :
 Calls Tryz.prog 140 #[.pointer (some ⟨p,0,none⟩),iI m,.string ⟨s.toArray⟩] w (zbt p M (l++(nbL 4 s.length++(s++padB s.length))) w):=by
 have hb:=zar s;have hp3:=zhv (⟨s.toArray⟩:ByteArray).size;refine (ropaque_ok p m ⟨s.toArray⟩ _ M 0 w h (by have:=zar l;omega) (by rw [decide_eq_true (by omega),decide_eq_true hm1];rfl) (eq_false (by rw [zbo];omega)) (eq_false (by rw [zbo];omega)) (by omega) (by omega)).mono fun e w' hp=>?_;have e4:=zb1 4 (s.length:Int) (by omega) (by simp;omega);rw [Int.toNat_natCast] at e4;refine lpost ?_ ?_ hp
 · rw [zar,e4,zf5,bapp,bapp,List.append_assoc]
 · rw [List.length_append,List.length_append,zaf,zau];omega
theorem Bk.only {w w' : World} {p b:Nat} {cs:List Value} {t:TypeId} (h:Bk w b cs t) (hS:Only p w w') (hb:b≠p):Bk w' b cs t:=(hS.block b h.lt hb).trans h
theorem RL.below {w w' : World} {p:Nat} {M:Int} {l:List UInt8} (h:RL w p M l) (hB:Below w.heap.size w w'):RL w' p M l:=RW.below h hB
theorem RL.lt {w:World} {p:Nat} {M:Int} {l:List UInt8} (h:RL w p M l):p<w.heap.size:=by
 rcases Nat.lt_or_ge p w.heap.size with h1|h1
 · exact h1
 · have:=h.s
   simp [World.cell?,Array.getElem?_eq_none h1] at this
theorem l_done (p:Nat) (M:Int) (l:List UInt8) (w:World) (h:RL w p M l):Calls Tryz.prog 106 #[.pointer (some ⟨p,0,none⟩)] w fun e w'=>e=.returned (.tuple #[.string ⟨l.toArray⟩,iI 0])∧w'=w:=by
 have h0:=h.s;have h2:=h.e;clear h;generalize (⟨l.toArray⟩:ByteArray)=S at *;go_enter Tryz.func106,Tryz.ntmps106
 go_wp2;refine bodyPost_ret (v:=.tuple #[.string S,iI 0]) (by simp [results,Tryz.results106,go_sem]) rfl ⟨rfl,rfl⟩
theorem l_new (w:World):Calls Tryz.prog 100 #[iI 4096] w fun e w'=>e=.returned (.pointer (some ⟨w.heap.size,0,none⟩))∧(RL w' w.heap.size 4096 []∧Below w.heap.size w w'∧w'.heap.size=w.heap.size+1) :=
 (rnew 4096 w).mono fun e w' hp=>⟨hp.1,by
   have h1:=RW.new 4096 w;rw [<- hp.2] at h1
   exact h1,by rw [hp.2];exact zav _ _,by rw [hp.2];simp⟩
theorem za3 (n:Int) (w:World):Calls Tryz.prog 142 #[iI n] w fun e w'=>e=.returned (.bool (decide (isW n)))∧w'=w:=by
 rw [<- zew];by_cases h0:0<=n
 · by_cases h1:n<=4294967295
   · rw [decide_eq_true h0,decide_eq_true h1];(go_enter Tryz.func142,Tryz.ntmps142);go_wp2;go_ret;exact ⟨rfl,rfl⟩
   · rw [decide_eq_true h0,decide_eq_false h1];(go_enter Tryz.func142,Tryz.ntmps142);go_wp2;go_ret;exact ⟨rfl,rfl⟩
 · rw [decide_eq_false h0];go_enter Tryz.func142,Tryz.ntmps142
   go_wp2;go_ret;exact ⟨rfl,rfl⟩
theorem zha (s:List UInt8) (w:World) (hl:s.length<=140737488355328):Calls Tryz.prog 144 #[.string ⟨s.toArray⟩] w fun e w'=>e=.returned (.bool (decide (za8 s)))∧w'=w:=by
 rw [<- zf0];have hs:=zar s;generalize (⟨s.toArray⟩:ByteArray)=S at *;have hl2:S.size<=140737488355328:=by omega
 clear hs;by_cases h0:(S.size:Int)<=1000
 · by_cases h1:(S.size:Int) % 4=0
   · have h2:((S.size:Int) % 4==0)=true:=beq_iff_eq.2 h1;rw [decide_eq_true ⟨h0,h1⟩];(go_enter Tryz.func144,Tryz.ntmps144);go_wp2;go_ret;exact ⟨rfl,rfl⟩
   · have h2:((S.size:Int) % 4==0)=false:=beq_eq_false_iff_ne.2 h1;rw [decide_eq_false (fun q=>h1 q.2)];(go_enter Tryz.func144,Tryz.ntmps144);go_wp2;go_ret;exact ⟨rfl,rfl⟩
 · rw [decide_eq_false (fun q=>h0 q.1)];go_enter Tryz.func144,Tryz.ntmps144
   go_wp2;go_ret;exact ⟨rfl,rfl⟩
theorem zdp (a:AuthP) (w:World):Calls Tryz.prog 143 #[.agg #[iI a.flavor,.string ⟨a.body.toArray⟩]] w fun e w'=>e=.returned (.bool (decide a.may))∧Below w.heap.size w w':=by
 obtain ⟨f,s⟩:=a;have hm:decide (AuthP.may ⟨f,s⟩)=(decide (isW f)&&decide (((⟨s.toArray⟩:ByteArray).size:Int)<=400)):=by
  rw [zar,<- Bool.decide_and];apply decide_eq_decide.2
  exact ⟨fun h=>⟨h.1,Int.ofNat_le.2 h.2⟩,fun h=>⟨h.1,Int.ofNat_le.1 h.2⟩⟩
 rw [hm];have HW:=hid (za3 f);generalize (⟨s.toArray⟩:ByteArray)=S at *;generalize decide (isW f)=b at *;obtain ⟨wa,hwa⟩:∃ x,w.alloc (.cells #[iI f,.string S] 44)=x:=⟨_,rfl⟩;obtain ⟨hk,hB,hz⟩:=boxed w wa _ _ hwa;have a0:=hk.cell 0 rfl;have a1:=hk.cell 1 rfl;have HB:=hid hB;clear hk hB hz hm;cases b;all_goals (
  go_enter Tryz.func143,Tryz.ntmps143
  go_wp2_with fail
  refine (HW.out _).mono ?_;rintro e w0 ⟨rfl,hw0⟩;have hw1:=hw0.symm;clear hw0;subst hw1;go_wp2;go_ret
  exact ⟨rfl,HB.out⟩)
theorem zen (p:Nat) (a:AuthP) (M:Int) (l:List UInt8) (w:World) (h:RL w p M l) (hm:a.may) (hM:M<=2147483647) (hr:(l.length:Int)+408<=M) :
 Calls Tryz.prog 105 #[.pointer (some ⟨p,0,none⟩),.agg #[iI a.flavor,.string ⟨a.body.toArray⟩]] w (zbt p M (l++a.lay) w):=by
 obtain ⟨wa,hwa⟩:∃ x,w.alloc (.cells #[iI a.flavor,.string ⟨a.body.toArray⟩] 44)=x:=⟨_,rfl⟩;obtain ⟨hk,hB,hz⟩:=boxed w wa _ _ hwa;have hp:=h.lt;have H1:=hid (zbb p a.flavor M l wa (h.below hB) hm.1 hM (by omega));have H2:Hid (∀ w1,RL w1 p M (l++nbL 4 a.flavor.toNat)->Calls Tryz.prog 140 #[.pointer (some ⟨p,0,none⟩),iI 400,.string ⟨a.body.toArray⟩] w1 (zbt p M (l++nbL 4 a.flavor.toNat++(nbL 4 a.body.length++(a.body++padB a.body.length))) w1)):=fun w1 h1 =>
  l_opaque p 400 M a.body _ w1 h1 (by decide) (by have:=hm.2;omega) hM (by have:=hm.2;rw [List.length_append,zaf];unfold pads;omega)
 have HK:Hid (Bk wa w.heap.size [iI a.flavor,.string ⟨a.body.toArray⟩] 44∧w.heap.size≠p∧Only p w wa):=⟨hk,by omega,Only.of_below hB⟩;have a0:=hk.cell 0 rfl;have HY:Hid (l++nbL 4 a.flavor.toNat++(nbL 4 a.body.length++(a.body++padB a.body.length))=l++a.lay):=by
  show _=_;unfold AuthP.lay;rw [List.append_assoc]
 clear hk hB hz hp h hm hM hr;go_enter Tryz.func105,Tryz.ntmps105
 go_wp2_with fail
 refine H1.out.mono ?_;rintro e w1 ⟨rfl,h1,hO1⟩;have a1:=(HK.out.1.only hO1 HK.out.2.1).cell 1 rfl;have Aa:=hid hO1;have H3:=hid (H2.out w1 h1);clear h1 hO1 H1 H2;go_wp2_with fail
 refine H3.out.mono ?_;rintro e w2 ⟨rfl,h2,hO2⟩;rw [HY.out] at h2;have HF:Hid (RL w2 p M (l++a.lay)∧Only p w w2):=⟨h2,(HK.out.2.2.trans Aa.out).trans hO2⟩;clear h2 hO2;go_wp2;first|go_end0|refine bodyPost_ret (results_none rfl _ _ _) rfl ?_
 exact ⟨rfl,HF.out⟩
theorem callMay_dec (c:CallP):decide c.may=(decide (isW c.xid)&&decide (isW c.prog)&&decide (isW c.vers)&&decide (isW c.proc)&&decide c.cred.may&&decide c.verf.may&&decide (za8 c.args)&&(c.rpc==2)):=by
 rw [Bool.eq_iff_iff];simp only [decide_eq_true_eq,Bool.and_eq_true,beq_iff_eq];unfold CallP.may;constructor
 · rintro ⟨h1,h2,h3,h4,h5,h6,h7,h8⟩;exact ⟨⟨⟨⟨⟨⟨⟨h1,h3⟩,h4⟩,h5⟩,h6⟩,h7⟩,h8⟩,h2⟩
 · rintro ⟨⟨⟨⟨⟨⟨⟨h1,h3⟩,h4⟩,h5⟩,h6⟩,h7⟩,h8⟩,h2⟩;exact ⟨h1,h2,h3,h4,h5,h6,h7,h8⟩
theorem ze6 (c:CallP) (w:World) (hl:c.args.length<=140737488355328) :
 Calls Tryz.prog 103 #[.agg (zdc c).toArray] w fun e w'=>e=.returned (.bool (decide c.may))∧Below w.heap.size w w':=by
 rw [callMay_dec];simp only [zdc];obtain ⟨wa,hwa⟩:∃ x,w.alloc (.cells #[iI c.xid,iI c.rpc,iI c.prog,iI c.vers,iI c.proc,iI c.cred.flavor,.string ⟨c.cred.body.toArray⟩,iI c.verf.flavor,.string ⟨c.verf.body.toArray⟩,.string ⟨c.args.toArray⟩] 108)=x:=⟨_,rfl⟩;obtain ⟨hk,hB,hz⟩:=boxed w wa _ _ hwa;have HK:Hid (Bk wa w.heap.size [iI c.xid,iI c.rpc,iI c.prog,iI c.vers,iI c.proc,iI c.cred.flavor,.string ⟨c.cred.body.toArray⟩,iI c.verf.flavor,.string ⟨c.verf.body.toArray⟩,.string ⟨c.args.toArray⟩] 108):=hk;have HB:=hid hB;have H1:=hid (za3 c.xid);have H2:=hid (za3 c.prog);have H3:=hid (za3 c.vers);have H4:=hid (za3 c.proc);have H5:=hid (zdp c.cred);have H6:=hid (zdp c.verf);have H7:=hid (fun w=>zha c.args w hl);generalize decide (isW c.xid)=b1 at *;generalize decide (isW c.prog)=b2 at *;generalize decide (isW c.vers)=b3 at *;generalize decide (isW c.proc)=b4 at *;generalize decide c.cred.may=b5 at *;generalize decide c.verf.may=b6 at *;generalize decide (za8 c.args)=b7 at *;have a0:=hk.cell 0 rfl;have a1:=hk.cell 1 rfl;have a2:=hk.cell 2 rfl;have a3:=hk.cell 3 rfl;have a4:=hk.cell 4 rfl;have a5:=hk.cell 5 rfl;have a6:=hk.cell 6 rfl;have a7:=hk.cell 7 rfl;have a8:=hk.cell 8 rfl;have a9:=hk.cell 9 rfl;clear hk hB hz hl;go_enter Tryz.func103,Tryz.ntmps103
 go_wp2_with fail
 refine (H1.out _).mono ?_;rintro e w0 ⟨rfl,hw0⟩;have hw1:=hw0.symm;clear hw0;subst hw1;go_wp2_with fail
 refine (H2.out _).mono ?_;rintro e w0 ⟨rfl,hw0⟩;have hw1:=hw0.symm;clear hw0;subst hw1;go_wp2_with fail
 refine (H3.out _).mono ?_;rintro e w0 ⟨rfl,hw0⟩;have hw1:=hw0.symm;clear hw0;subst hw1;go_wp2_with fail
 refine (H4.out _).mono ?_;rintro e w0 ⟨rfl,hw0⟩;have hw1:=hw0.symm;clear hw0;subst hw1;go_wp2_with fail
 refine (H5.out _).mono ?_;rintro e u1 ⟨rfl,hBn⟩;have Aa:Hid (Bk u1 w.heap.size [iI c.xid,iI c.rpc,iI c.prog,iI c.vers,iI c.proc,iI c.cred.flavor,.string ⟨c.cred.body.toArray⟩,iI c.verf.flavor,.string ⟨c.verf.body.toArray⟩,.string ⟨c.args.toArray⟩] 108):=HK.out.below hBn HK.out.lt;have Ad:Hid (Below w.heap.size w u1):=HB.out.trans (hBn.mono HB.out.size);clear hBn a0 a1 a2 a3 a4 a5 a6 a7 a8 a9;have a0:=Aa.out.cell 0 rfl;have a1:=Aa.out.cell 1 rfl;have a2:=Aa.out.cell 2 rfl;have a3:=Aa.out.cell 3 rfl;have a4:=Aa.out.cell 4 rfl;have a5:=Aa.out.cell 5 rfl;have a6:=Aa.out.cell 6 rfl;have a7:=Aa.out.cell 7 rfl;have a8:=Aa.out.cell 8 rfl;have a9:=Aa.out.cell 9 rfl;go_wp2_with fail
 refine (H6.out _).mono ?_;rintro e u2 ⟨rfl,hBn⟩;have Ab:Hid (Bk u2 w.heap.size [iI c.xid,iI c.rpc,iI c.prog,iI c.vers,iI c.proc,iI c.cred.flavor,.string ⟨c.cred.body.toArray⟩,iI c.verf.flavor,.string ⟨c.verf.body.toArray⟩,.string ⟨c.args.toArray⟩] 108):=Aa.out.below hBn Aa.out.lt;have Ac:Hid (Below w.heap.size w u2):=Ad.out.trans (hBn.mono Ad.out.size);clear hBn a0 a1 a2 a3 a4 a5 a6 a7 a8 a9;have a0:=Ab.out.cell 0 rfl;have a1:=Ab.out.cell 1 rfl;have a2:=Ab.out.cell 2 rfl;have a3:=Ab.out.cell 3 rfl;have a4:=Ab.out.cell 4 rfl;have a5:=Ab.out.cell 5 rfl;have a6:=Ab.out.cell 6 rfl;have a7:=Ab.out.cell 7 rfl;have a8:=Ab.out.cell 8 rfl;have a9:=Ab.out.cell 9 rfl;go_wp2_with fail
 refine (H7.out _).mono ?_;rintro e w0 ⟨rfl,hw0⟩;have hw1:=hw0.symm;clear hw0;subst hw1;cases b1
 · skip
   go_wp2;go_ret;exact ⟨rfl,Ac.out⟩
 cases b2
 · skip
   go_wp2;go_ret;exact ⟨rfl,Ac.out⟩
 cases b3
 · skip
   go_wp2;go_ret;exact ⟨rfl,Ac.out⟩
 cases b4
 · skip
   go_wp2;go_ret;exact ⟨rfl,Ac.out⟩
 cases b5
 · skip
   go_wp2;go_ret;exact ⟨rfl,Ac.out⟩
 cases b6
 · skip
   go_wp2;go_ret;exact ⟨rfl,Ac.out⟩
 cases b7
 · skip
   go_wp2;go_ret;exact ⟨rfl,Ac.out⟩
 go_wp2;go_ret;exact ⟨rfl,Ac.out⟩
end Go.Proofs.YtfcbjcebkahehaaGreatDoor
