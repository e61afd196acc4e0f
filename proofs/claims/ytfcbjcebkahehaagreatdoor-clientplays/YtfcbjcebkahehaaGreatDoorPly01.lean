import Derived.Test.YtfcbjcebkahehaaGreatDoorPly00
import Derived.Shelf.Strconv.Clone
import Derived.WalkKit
import Derived.Below
import Derived.Deep.QuietTactic
import Derived.BigQuiet
import Derived.Laws.BitsAllLaws
set_option maxRecDepth 8000
set_option maxHeartbeats 20000000
set_option linter.unusedSimpArgs false
namespace Go.Proofs.YtfcbjcebkahehaaGreatDoor
open Go.Shelf
def clone_ren:Go.Shelf.Ren:=⟨fun|316=>75|n=>n,fun|0=>0|3=>3|4=>4|5=>5|9=>9|37=>174|127=>175|n=>n,fun|n=>n⟩
theorem clone_lays:Go.Proofs.LaysM.n316 Tryz.prog clone_ren:={
 mixed:=by kernel_rfl
 f316:=Tryz.func75.trans (congrArg some (by kernel_rfl))
 t0:=Tryz.underlying0
 a0:=Tryz.isAgg0
 z0:=Tryz.sizeOf0
 v0:=Tryz.zeroValue0
 t3:=Tryz.underlying3
 a3:=Tryz.isAgg3
 z3:=Tryz.sizeOf3
 v3:=Tryz.zeroValue3
 t4:=Tryz.underlying4
 a4:=Tryz.isAgg4
 z4:=Tryz.sizeOf4
 v4:=Tryz.zeroValue4
 t9:=Tryz.underlying9
 a9:=Tryz.isAgg9
 z9:=Tryz.sizeOf9
 v9:=Tryz.zeroValue9
 t37:=Tryz.underlying174
 a37:=Tryz.isAgg174
 z37:=Tryz.sizeOf174
 v37:=Tryz.zeroValue174
 t127:=Tryz.underlying175
 a127:=Tryz.isAgg175
 z127:=Tryz.sizeOf175
 v127:=Tryz.zeroValue175
 t5:=Tryz.underlying5
 a5:=Tryz.isAgg5
 z5:=Tryz.sizeOf5
 v5:=Tryz.zeroValue5
 i0:=by kernel_rfl
 i3:=by kernel_rfl
 i4:=by kernel_rfl
 i5:=by kernel_rfl
 i9:=by kernel_rfl
 i37:=by kernel_rfl
 i127:=by kernel_rfl }
theorem clone_inner (s:ByteArray) (w:World) (hlim:s.size<=281474976710656) :
 Calls Tryz.prog 75 #[.string s] w fun e w'=>e=.returned (.string s)∧Go.RowKit.Below w.heap.size w w':=Any.stringslite_Clone clone_lays s w hlim
open Go.RowKit in
theorem zgf (s:ByteArray) (w:World) (hlim:s.size<=281474976710656) :
 Calls Tryz.prog 45 #[.string s] w fun e w'=>e=.returned (.string s)∧Below w.heap.size w w':=by
 have H:Hid (Calls Tryz.prog 75 #[.string s] w fun e w'=>e=.returned (.string s)∧Below w.heap.size w w'):=clone_inner s w hlim;clear hlim;go_enter Tryz.func45,Tryz.ntmps45
 go_wp2_with fail
 refine H.out.mono ?_;rintro e w' ⟨rfl,hB⟩;have HB:Hid (Below w.heap.size w w'):=hB;clear hB;go_wp2;go_ret;exact ⟨rfl,HB.out⟩
end Go.Proofs.YtfcbjcebkahehaaGreatDoor
namespace Go.Proofs.YtfcbjcebkahehaaGreatDoor
open Go.RowKit
end Go.Proofs.YtfcbjcebkahehaaGreatDoor
namespace Go.Proofs.YtfcbjcebkahehaaGreatDoor
def nbL (k n:Nat):List UInt8:=(List.range k).map fun t=>UInt8.ofNat (n / 256 ^ (k - 1 - t) % 256)
def beN (l:List UInt8):Nat:=l.foldl (fun n b=>n*256+b.toNat) 0
theorem zfo (l:List UInt8) (b:UInt8):beN (l++[b])=beN l*256+b.toNat:=by simp [beN,List.foldl_append]
theorem zaf (k n:Nat):(nbL k n).length=k:=by simp [nbL]
theorem nbL_succ (k n:Nat):nbL (k+1) n=nbL k (n / 256)++[UInt8.ofNat (n % 256)]:=by
 unfold nbL;rw [List.range_succ,List.map_append];congr 1
 · apply List.map_congr_left
   intro t ht;have h:=List.mem_range.1 ht;rw [show k+1 - 1 - t=(k - 1 - t)+1 by omega,Nat.pow_succ,Nat.mul_comm,<- Nat.div_div_eq_div_mul]
 · simp
theorem byte_val (n:Nat):(UInt8.ofNat (n % 256)).toNat=n % 256:=by
 rw [UInt8.toNat_ofNat'];omega
theorem beN_nbL (k n:Nat):beN (nbL k n)=n % 256 ^ k:=by
 induction k generalizing n with
 | zero=>simp [nbL,beN,Nat.mod_one]
 | succ k ih =>
  rw [nbL_succ,zfo,ih,byte_val,Nat.pow_succ,Nat.mul_comm (256 ^ k) 256,Nat.mod_mul];omega
theorem zgy (l:List UInt8) (h:l≠[]):∃ (m:List UInt8) (b:UInt8),l=m++[b]:=⟨l.dropLast,l.getLast h,(List.dropLast_concat_getLast h).symm⟩
theorem beN_lt (k:Nat) (l:List UInt8) (h:l.length=k):beN l<256 ^ k:=by
 induction k generalizing l with
 | zero=>rw [List.length_eq_zero_iff.1 h];simp [beN]
 | succ k ih =>
  obtain ⟨m,b,rfl⟩:=zgy l (by intro e;rw [e] at h;simp at h);have h1:=ih m (by simpa using h);have h2:=b.toNat_lt;rw [zfo,Nat.pow_succ];omega
theorem nbL_beN (k:Nat) (l:List UInt8) (h:l.length=k):nbL k (beN l)=l:=by
 induction k generalizing l with
 | zero=>rw [List.length_eq_zero_iff.1 h];rfl
 | succ k ih =>
  obtain ⟨m,b,rfl⟩:=zgy l (by intro e;rw [e] at h;simp at h);have h1:=ih m (by simpa using h);have h2:b.toNat<256:=b.toNat_lt;rw [zfo,nbL_succ,show (beN m*256+b.toNat) / 256=beN m by omega,h1,show (beN m*256+b.toNat) % 256=b.toNat by omega];simp
structure Rs where
 l:List UInt8
 e:Int
structure Rd (α:Type) where
 wrong:Int
 size:Nat
 val:α
def Rs.go {α:Type} (st:Rs) (d:α) (f:List UInt8->Rd α):α × Rs :=
 if st.e≠0 then (d,st) else if (f st.l).wrong≠0 then (d,⟨st.l,(f st.l).wrong⟩) else ((f st.l).val,⟨st.l.drop (f st.l).size,0⟩)
def pads (n:Nat):Nat:=(4 - n % 4) % 4
def padB (n:Nat):List UInt8:=List.replicate (pads n) 0
theorem zau (n:Nat):(padB n).length=pads n:=by simp [padB]
def zad (l:List UInt8):Rd Nat:=if l.length<4 then ⟨20,4,0⟩ else ⟨0,4,beN (l.take 4)⟩
def zai (most:Int) (l:List UInt8):Rd Nat :=
 if most<0∨4294967295<most then ⟨22,4,0⟩ else if l.length<4 then ⟨20,4,0⟩ else if most<(beN (l.take 4):Int) then ⟨23,4,0⟩ else ⟨0,4,beN (l.take 4)⟩
def zaw (n:Nat) (l:List UInt8):Rd (List UInt8) :=
 if l.length<n+pads n then ⟨20,n+pads n,[]⟩ else if (l.drop n).take (pads n)≠padB n then ⟨24,n+pads n,[]⟩ else ⟨0,n+pads n,l.take n⟩
def zfy (n:Int) (l:List UInt8):Rd (List UInt8):=if n<0∨4294967295<n then ⟨22,0,[]⟩ else zaw n.toNat l
def zao (most:Int) (l:List UInt8):Rd (List UInt8) :=
 if (zai most l).wrong≠0 then ⟨(zai most l).wrong,4,[]⟩ else ⟨(zaw (zai most l).val (l.drop 4)).wrong,4+(zaw (zai most l).val (l.drop 4)).size,(zaw (zai most l).val (l.drop 4)).val⟩
structure Good {α:Type} (f:List UInt8->Rd α) (b:List UInt8) (v:α):Prop where
 full:∀ r,f (b++r)=⟨0,b.length,v⟩
 fours:b.length % 4=0
 short:b≠[]->(f (b.take (b.length - 4))).wrong=20
theorem zf7 (n:Nat) (h:n<4294967296):Good zad (nbL 4 n) n:=by
 refine ⟨fun r=>?_,by rw [zaf],fun _=>by simp [zad,zaf]⟩;have h4:(nbL 4 n++r).take 4=nbL 4 n:=by rw [List.take_append_of_le_length (by rw [zaf];omega),List.take_of_length_le (by rw [zaf];omega)]
 unfold zad;rw [if_neg (by rw [List.length_append,zaf];omega),h4,beN_nbL,zaf,Nat.mod_eq_of_lt (by simpa using h)]
theorem zg9 (most:Int) (n:Nat) (h0:(n:Int)<=most) (h1:most<=4294967295):Good (zai most) (nbL 4 n) n:=by
 have hn:n<4294967296:=by omega
 refine ⟨fun r=>?_,by rw [zaf],fun _=>?_⟩
 · have h4:(nbL 4 n++r).take 4=nbL 4 n:=by rw [List.take_append_of_le_length (by rw [zaf];omega),List.take_of_length_le (by rw [zaf];omega)]
   unfold zai;rw [if_neg (by omega),if_neg (by rw [List.length_append,zaf];omega),h4,beN_nbL,zaf,Nat.mod_eq_of_lt (by simpa using hn),if_neg (by omega)]
 · unfold zai;rw [if_neg (by omega),if_pos (by simp [zaf])]
theorem good_text (s:List UInt8):Good (zaw s.length) (s++padB s.length) s:=by
 refine ⟨fun r=>?_,?_,fun h=>?_⟩
 · unfold zaw;rw [if_neg (by simp only [List.length_append,zau];omega),if_neg,List.append_assoc,List.take_left' rfl,List.length_append,zau];rw [List.append_assoc,List.drop_left' rfl,List.take_left' (zau _)];simp
 · rw [List.length_append,zau];unfold pads;omega
 · have hp:4<=(s++padB s.length).length:=by
    have:0<(s++padB s.length).length:=List.length_pos_iff.2 h
    have h4:(s++padB s.length).length % 4=0:=(by rw [List.length_append,zau];unfold pads;omega);omega
   unfold zaw;rw [if_pos (by rw [List.length_take];rw [List.length_append,zau] at hp ⊢;omega)]
theorem good_opaque (most:Int) (s:List UInt8) (h0:(s.length:Int)<=most) (h1:most<=4294967295):Good (zao most) (nbL 4 s.length++(s++padB s.length)) s:=by
 have hc:=zg9 most s.length h0 h1;have ht:=good_text s;refine ⟨fun r=>?_,?_,fun _=>?_⟩
 · unfold zao;rw [List.append_assoc,hc.full,if_neg (by simp),List.drop_left' (zaf _ _),ht.full];simp [zaf]
 · rw [List.length_append,zaf];have:=ht.fours;omega
 · by_cases he:s++padB s.length=[]
   · rw [he,List.append_nil];unfold zao;rw [if_pos (by rw [hc.short (by intro e;have:=zaf 4 s.length;rw [e] at this;cases this)];decide)];exact hc.short (by intro e;have:=zaf 4 s.length;rw [e] at this;cases this)
   · have hp:4<=(s++padB s.length).length:=by
      have:0<(s++padB s.length).length:=List.length_pos_iff.2 he
      have:=ht.fours;omega
     have e2:(nbL 4 s.length++(s++padB s.length)).take ((nbL 4 s.length++(s++padB s.length)).length - 4)=nbL 4 s.length++(s++padB s.length).take ((s++padB s.length).length - 4):=by
      rw [List.take_append];congr 1
      · apply List.take_of_length_le;rw [List.length_append,zaf];omega
     rw [e2];unfold zao;rw [hc.full,if_neg (by simp),List.drop_left' (zaf _ _)];exact ht.short he
theorem Good.map {α β:Type} {f:List UInt8->Rd α} {b:List UInt8} {v:α} (h:Good f b v) (g:List UInt8->Rd β) (u:β) (hok:∀ l,f l=⟨0,b.length,v⟩->g l=⟨0,b.length,u⟩) (hsh:∀ l,(f l).wrong=20->(g l).wrong=20):Good g b u :=
 ⟨fun r=>hok _ (h.full r),h.fours,fun hb=>hsh _ (h.short hb)⟩
structure Call where
 α:Type
 d:α
 f:List UInt8->Rd α
 b:List UInt8
 v:α
 good:Good f b v
def Rs.after (st:Rs) (c:Call):Rs:=(st.go c.d c.f).2
def laid:List Call->List UInt8
 | []=>[]
 | c::cs=>c.b++laid cs
theorem stays (cs:List Call) (st:Rs) (h:st.e≠0):cs.foldl Rs.after st=st:=by
 induction cs with
 | nil=>rfl
 | cons c cs ih =>
  have:st.after c=st:=by unfold Rs.after Rs.go;rw [if_pos h]
  rw [List.foldl_cons,this];exact ih
def One {α:Type} (f:List UInt8->Rd α) (lay:α->List UInt8) (P:α->Prop):Prop :=
 ∀ l,(f l).wrong=0->(f l).size<=l.length∧lay (f l).val=l.take (f l).size∧P (f l).val
theorem zc8:One zad (nbL 4) (fun n=>n<4294967296):=by
 intro l h;unfold zad at h ⊢;split at h
 · cases h
 · rename_i hl;rw [if_neg hl];have h4:(l.take 4).length=4:=by rw [List.length_take];omega
   exact ⟨by show 4<=_;omega,nbL_beN 4 _ h4,by simpa using beN_lt 4 _ h4⟩
theorem zcz (most:Int):One (zai most) (nbL 4) (fun n=>0<=most∧most<=4294967295∧(n:Int)<=most):=by
 intro l h;unfold zai at h ⊢;split at h
 · cases h
 · rename_i hm;rw [if_neg hm];split at h
   · cases h
   · rename_i hl;rw [if_neg hl];split at h
     · cases h
     · rename_i hn;rw [if_neg hn];have h4:(l.take 4).length=4:=(by rw [List.length_take];omega);exact ⟨by show 4<=_;omega,nbL_beN 4 _ h4,by show 0<=most∧most<=_∧((beN (l.take 4):Nat):Int)<=most;omega⟩
theorem one_text (n:Nat):One (zaw n) (fun s=>s++padB n) (fun s=>s.length=n):=by
 intro l h;unfold zaw at h ⊢;split at h
 · cases h
 · rename_i hl;rw [if_neg hl];split at h
   · cases h
   · rename_i hp;rw [if_neg hp];have hp2:(l.drop n).take (pads n)=padB n:=Decidable.not_not.1 hp;refine ⟨by show n+pads n<=_;omega,?_,by show (l.take n).length=n;rw [List.length_take];omega⟩;show l.take n++padB n=l.take (n+pads n);rw [<- hp2,<- List.take_add]
theorem one_opaque (most:Int):One (zao most) (fun s=>nbL 4 s.length++(s++padB s.length)) (fun s=>0<=most∧most<=4294967295∧(s.length:Int)<=most):=by
 intro l h;unfold zao at h ⊢;split at h
 · rename_i hc;exact absurd h hc
 · rename_i hc;rw [if_neg hc];have hc0:(zai most l).wrong=0:=Decidable.not_not.1 hc;obtain ⟨h1,h2,h3⟩:=zcz most l hc0;obtain ⟨t1,t2,t3⟩:=one_text _ _ h;have hs:(zai most l).size=4:=by
    unfold zai;split
    · rfl
    · split
      · rfl
      · split <;> rfl
   rw [hs] at h1 h2;rw [List.length_drop] at t1;have t2' : (zaw (zai most l).val (l.drop 4)).val++padB (zai most l).val=(l.drop 4).take (zaw (zai most l).val (l.drop 4)).size:=t2;refine ⟨by show 4+_<=_;omega,?_,?_⟩
   · show nbL 4 (zaw (zai most l).val (l.drop 4)).val.length++((zaw (zai most l).val (l.drop 4)).val++padB (zaw (zai most l).val (l.drop 4)).val.length)=l.take (4+(zaw (zai most l).val (l.drop 4)).size);rw [t3,h2,t2',<- List.take_add]
   · show 0<=most∧most<=4294967295∧((zaw (zai most l).val (l.drop 4)).val.length:Int)<=most;rw [t3];exact h3
end Go.Proofs.YtfcbjcebkahehaaGreatDoor
namespace Go.Proofs.YtfcbjcebkahehaaGreatDoor
open Go.RowKit
def Bs (l:List UInt8):Value:=.string ⟨l.toArray⟩
def trW (e:Int):Value:=if e=0 then .nilIface else .iface 244 (.agg #[iI e])
theorem zdm (l:List UInt8) (w:World) (h:l.length<4):Calls Tryz.prog 158 #[Bs l] w fun e w'=>e=.returned (.tuple #[.int .u32 0,.iface 244 (.agg #[iI 20])])∧w'=w:=by
 have hs:(⟨l.toArray⟩:ByteArray).size=l.length:=by simp [ByteArray.size]
 have h' : (l.length:Int)<4:=by omega
 unfold Bs;go_enter Tryz.func158,Tryz.ntmps158
 go_wp2;go_ret2
 exact ⟨rfl,rfl⟩
theorem word_bits (a b c d:Nat) (ha:a<256) (hb:b<256) (hc:c<256) (hd:d<256) :
 bits .or .u32 (bits .or .u32 (bits .or .u32 ((a:Int) % 4294967296*16777216 % 4294967296) ((b:Int) % 4294967296*65536 % 4294967296)) ((c:Int) % 4294967296*256 % 4294967296)) ((d:Int) % 4294967296)=(((((a*256+b)*256+c)*256+d:Nat)):Int):=by
 rw [show (a:Int) % 4294967296*16777216 % 4294967296=((a*16777216:Nat):Int) by omega,show (b:Int) % 4294967296*65536 % 4294967296=((b*65536:Nat):Int) by omega,show (c:Int) % 4294967296*256 % 4294967296=((c*256:Nat):Int) by omega,show (d:Int) % 4294967296=((d:Nat):Int) by omega];have p24:(2:Nat) ^ 24=16777216:=by decide
 have p16:(2:Nat) ^ 16=65536:=by decide
 have p8:(2:Nat) ^ 8=256:=by decide
 rw [u32_or_nat _ _ (by omega) (by omega),nat_join 24 _ _ (by rw [p24];omega) (by rw [p24];omega)];rw [u32_or_nat _ _ (by omega) (by omega),nat_join 16 _ _ (by rw [p16];omega) (by rw [p16];omega)];rw [u32_or_nat _ _ (by omega) (by omega),nat_join 8 _ _ (by rw [p8];omega) (by rw [p8];omega)];omega
theorem take_four (l:List UInt8) (h:4<=l.length):beN (l.take 4)=((l[0].toNat*256+l[1].toNat)*256+l[2].toNat)*256+l[3].toNat:=by
 match l,h with
 | a::b::c::d::r,_=>simp [beN]
theorem zan {B:Nat} {a w:World} (h:Below B a w) (k:Nat):Below B a (w.drewN k):=⟨h.os,h.tape,h.output,h.size,h.block⟩
theorem ze5 (l:List UInt8) (w:World) (h:4<=l.length):Calls Tryz.prog 158 #[Bs l] w fun e w'=>e=.returned (.tuple #[.int .u32 (beN (l.take 4)),.nilIface])∧Below w.heap.size w w':=by
 have h' : ¬ (l.length:Int)<4:=by omega
 have h0:0<l.length:=by omega
 have h1:1<l.length:=by omega
 have h2:2<l.length:=by omega
 have h3:3<l.length:=by omega
 have i0:(0:Int)<l.length:=by omega
 have i1:(1:Int)<l.length:=by omega
 have i2:(2:Int)<l.length:=by omega
 have i3:(3:Int)<l.length:=by omega
 have g0:({ data:=l.toArray } : ByteArray)[0]=l[0]:=rfl;have g1:({ data:=l.toArray } : ByteArray)[1]=l[1]:=rfl;have g2:({ data:=l.toArray } : ByteArray)[2]=l[2]:=rfl;have g3:({ data:=l.toArray } : ByteArray)[3]=l[3]:=rfl;unfold Bs;go_enter Tryz.func158,Tryz.ntmps158
 go_wp2;go_quiet (fail)
 go_wp2;go_ret2
 refine ⟨?_,zan (Below.refl _ _) _⟩;rw [take_four l h];show Ending.returned (.tuple #[.int .u32 (bits .or .u32 (bits .or .u32 (bits .or .u32 ((l[0].toNat:Int) % 4294967296*16777216 % 4294967296) ((l[1].toNat:Int) % 4294967296*65536 % 4294967296)) ((l[2].toNat:Int) % 4294967296*256 % 4294967296)) ((l[3].toNat:Int) % 4294967296)),.nilIface])=_;rw [word_bits _ _ _ _ l[0].toNat_lt l[1].toNat_lt l[2].toNat_lt l[3].toNat_lt]
theorem zej (l:List UInt8) (w:World):Calls Tryz.prog 158 #[Bs l] w fun e w'=>e=.returned (.tuple #[.int .u32 (zad l).val,trW (zad l).wrong])∧Below w.heap.size w w':=by
 unfold zad;by_cases h:l.length<4
 · rw [if_pos h];refine (zdm l w h).mono ?_;rintro e w' ⟨rfl,rfl⟩;exact ⟨rfl,Below.refl _ _⟩
 · rw [if_neg h];exact ze5 l w (by omega)
theorem zcq (n:Int) (w:World):Calls Tryz.prog 155 #[iI n] w fun e w'=>e=.returned (.bool (decide (0<=n)&&decide (n<=4294967295)))∧w'=w:=by
 by_cases h0:0<=n
 · by_cases h1:n<=4294967295
   · rw [decide_eq_true h0,decide_eq_true h1];(go_enter Tryz.func155,Tryz.ntmps155);go_wp2;go_ret;exact ⟨rfl,rfl⟩
   · rw [decide_eq_true h0,decide_eq_false h1];have h2:decide (n<=4294967295)=false:=decide_eq_false h1;(go_enter Tryz.func155,Tryz.ntmps155);go_wp2;go_ret;exact ⟨rfl,rfl⟩
 · rw [decide_eq_false h0];have h2:decide (0<=n)=false:=decide_eq_false h0;go_enter Tryz.func155,Tryz.ntmps155
   go_wp2;go_ret;exact ⟨rfl,rfl⟩
theorem neq91 (v:Value) (w:World):(binOp .neq 177 (.iface 244 v) .nilIface).run Tryz.prog w=.ok (.bool true) w:=by kernel_rfl
theorem zfd (most:Int) (l:List UInt8) (w:World) (h:most<0∨4294967295<most):Calls Tryz.prog 160 #[Bs l,iI most] w fun e w'=>e=.returned (.tuple #[iI 0,trW 22])∧Below w.heap.size w w':=by
 have H1:Hid (∀ w,Calls Tryz.prog 155 #[iI most] w fun e w'=>e=.returned (.bool false)∧w'=w):=fun w=>by
  have:=zcq most w
  rwa [show (decide (0<=most)&&decide (most<=4294967295))=false by rcases h with h|h <;> simp <;> omega] at this
 clear h;unfold Bs;go_enter Tryz.func160,Tryz.ntmps160
 go_wp2_with fail
 refine (H1.out _).mono ?_;rintro e w1 ⟨rfl,hw⟩;have hw1:=hw.symm;clear hw;subst hw1;go_wp2;go_ret2
 exact ⟨rfl,Below.refl _ _⟩
theorem zfc (most:Int) (l:List UInt8) (w:World) (h0:0<=most) (h1:most<=4294967295) (hl:l.length<4):Calls Tryz.prog 160 #[Bs l,iI most] w fun e w'=>e=.returned (.tuple #[iI 0,trW 20])∧Below w.heap.size w w':=by
 have H1:Hid (∀ w,Calls Tryz.prog 155 #[iI most] w fun e w'=>e=.returned (.bool true)∧w'=w):=fun w=>by
  have:=zcq most w
  rwa [decide_eq_true h0,decide_eq_true h1] at this
 have H2:Hid (∀ w,Calls Tryz.prog 158 #[Bs l] w fun e w'=>e=.returned (.tuple #[.int .u32 0,.iface 244 (.agg #[iI 20])])∧w'=w):=fun w=>zdm l w hl;clear hl;go_enter Tryz.func160,Tryz.ntmps160
 go_wp2_with fail
 refine (H1.out _).mono ?_;rintro e w1 ⟨rfl,hw⟩;have hw1:=hw.symm;clear hw;subst hw1;go_wp2_with fail
 refine (H2.out _).mono ?_;rintro e w1 ⟨rfl,hw⟩;have hw1:=hw.symm;clear hw;subst hw1;have hn:=fun w=>neq91 (.agg #[iI 20]) w;go_wp2;go_ret2
 exact ⟨rfl,Below.refl _ _⟩
theorem zdn (most:Int) (l:List UInt8) (w:World) (h0:0<=most) (h1:most<=4294967295) (hl:4<=l.length) (b:Bool) (hb:decide (most<(beN (l.take 4):Int))=b) :
 Calls Tryz.prog 160 #[Bs l,iI most] w fun e w'=>e=.returned (.tuple #[iI (if b then 0 else (beN (l.take 4):Int)),trW (if b then 23 else 0)])∧Below w.heap.size w w':=by
 have H1:Hid (∀ w,Calls Tryz.prog 155 #[iI most] w fun e w'=>e=.returned (.bool true)∧w'=w):=fun w=>by
  have:=zcq most w
  rwa [decide_eq_true h0,decide_eq_true h1] at this
 have H2:Hid (∀ w,Calls Tryz.prog 158 #[Bs l] w fun e w'=>e=.returned (.tuple #[.int .u32 (beN (l.take 4)),.nilIface])∧Below w.heap.size w w'):=fun w=>ze5 l w hl;have hlt:beN (l.take 4)<4294967296:=by
  have:=beN_lt 4 (l.take 4) (by rw [List.length_take];omega)
  simpa using this
 generalize beN (l.take 4)=n at *;have hn0:0<=(n:Int):=by omega
 have hn1:(n:Int)<4294967296:=by omega
 generalize (n:Int)=N at *;clear hl;cases b
 · have hm:¬ most<N:=of_decide_eq_false hb;go_enter Tryz.func160,Tryz.ntmps160
   go_wp2_with fail
   refine (H1.out _).mono ?_;rintro e w1 ⟨rfl,hw⟩;have hw1:=hw.symm;clear hw;subst hw1;go_wp2_with fail
   refine (H2.out _).mono ?_;rintro e w2 ⟨rfl,hB⟩;have HB:Hid (Below w.heap.size w w2):=hB;clear hB;go_wp2;go_ret2
   exact ⟨rfl,HB.out⟩
 · have hm:most<N:=of_decide_eq_true hb;go_enter Tryz.func160,Tryz.ntmps160
   go_wp2_with fail
   refine (H1.out _).mono ?_;rintro e w1 ⟨rfl,hw⟩;have hw1:=hw.symm;clear hw;subst hw1;go_wp2_with fail
   refine (H2.out _).mono ?_;rintro e w2 ⟨rfl,hB⟩;have HB:Hid (Below w.heap.size w w2):=hB;clear hB;go_wp2;go_ret2
   exact ⟨rfl,HB.out⟩
theorem zdy (most:Int) (l:List UInt8) (w:World):Calls Tryz.prog 160 #[Bs l,iI most] w fun e w'=>e=.returned (.tuple #[iI (zai most l).val,trW (zai most l).wrong])∧Below w.heap.size w w':=by
 unfold zai;by_cases hm:most<0∨4294967295<most
 · rw [if_pos hm];exact zfd most l w hm
 · rw [if_neg hm];by_cases hl:l.length<4
   · rw [if_pos hl];exact zfc most l w (by omega) (by omega) hl
   · rw [if_neg hl];by_cases hn:most<(beN (l.take 4):Int)
     · rw [if_pos hn];exact zdn most l w (by omega) (by omega) (by omega) true (decide_eq_true hn)
     · rw [if_neg hn];exact zdn most l w (by omega) (by omega) (by omega) false (decide_eq_false hn)
theorem zbu (l:List UInt8) (i j:Nat):(⟨l.toArray⟩:ByteArray).extract i j=⟨((l.drop i).take (j - i)).toArray⟩:=by
 apply ByteArray.ext;simp
theorem Bs_from (l:List UInt8) (i:Nat):(⟨l.toArray⟩:ByteArray).extract i l.length=⟨(l.drop i).toArray⟩:=by
 rw [zbu,List.take_of_length_le (by simp)]
theorem i64_mask_rd (n:Int) (k:Nat) (hk:k<63):bits .and .i64 n ((2 ^ k - 1:Nat):Int)=n % ((2 ^ k:Nat):Int):=by
 have hp:2 ^ k<=2 ^ 62:=Nat.pow_le_pow_right (by omega) (by omega);have e62:(2:Nat) ^ 62=4611686018427387904:=by decide
 have hpos:=Nat.two_pow_pos k;have hm0:=Int.emod_nonneg n (show ((2 ^ k:Nat):Int)≠0 by omega);have hm1:=Int.emod_lt_of_pos n (show (0:Int)<((2 ^ k:Nat):Int) by omega);unfold bits;have e:(BitVec.ofInt IntKind.i64.bits n &&& BitVec.ofInt IntKind.i64.bits ((2 ^ k - 1:Nat):Int)).toNat=(n % ((2 ^ k:Nat):Int)).toNat:=by
  rw [BitVec.toNat_and];show (BitVec.ofInt 64 n).toNat &&& (BitVec.ofInt 64 ((2 ^ k - 1:Nat):Int)).toNat=_;rw [BitVec.toNat_ofInt,BitVec.toNat_ofInt];have h1:(((2 ^ k - 1:Nat):Int) % ((2 ^ 64:Nat):Int)).toNat=2 ^ k - 1:=by
   rw [Int.emod_eq_of_lt (by omega) (by rw [show (2:Nat) ^ 64=18446744073709551616 from by decide];omega)];omega
  rw [h1,Nat.and_two_pow_sub_one_eq_mod];have h2:((n % ((2 ^ 64:Nat):Int)).toNat:Int)=n % ((2 ^ 64:Nat):Int):=Int.toNat_of_nonneg (Int.emod_nonneg _ (by decide));have h3:(2 ^ k:Nat)∣2 ^ 64:=Nat.pow_dvd_pow 2 (by omega);have h4:n % ((2 ^ 64:Nat):Int) % ((2 ^ k:Nat):Int)=n % ((2 ^ k:Nat):Int):=Int.emod_emod_of_dvd n (Int.natCast_dvd_natCast.2 h3);have h5:(((n % ((2 ^ 64:Nat):Int)).toNat % 2 ^ k:Nat):Int)=n % ((2 ^ k:Nat):Int):=by
   rw [Int.natCast_emod,h2,h4]
  omega
 show IntKind.i64.wrap (((BitVec.ofInt IntKind.i64.bits n &&& BitVec.ofInt IntKind.i64.bits ((2 ^ k - 1:Nat):Int)).toNat:Nat):Int)=_;rw [e,Int.toNat_of_nonneg hm0,IntKind.wrap_i64];rw [e62] at hp;have hlt:n % ((2 ^ k:Nat):Int)<4611686018427387904:=by omega
 generalize n % ((2 ^ k:Nat):Int)=z at *;omega
theorem i64_and3_rd (n:Int):bits .and .i64 n 3=n % 4:=i64_mask_rd n 2 (by omega)
theorem noughts3_rd (k:Nat) (h:k<=3):(⟨#[0,0,0]⟩:ByteArray).extract 0 k=⟨(List.replicate k (0:UInt8)).toArray⟩:=by
 have:∀ k:Fin 4,(⟨#[0,0,0]⟩:ByteArray).extract 0 k.val=⟨(List.replicate k.val (0:UInt8)).toArray⟩:=by decide
 exact this ⟨k,by omega⟩
theorem zf4 (n z:Int) (w:World) (h0:-9223372036854775807<=n) (h1:n<=9223372036854775807) (hz:bits .and .i64 (-n) 3=z) (hz0:0<=z) (hz1:z<=3) :
 Calls Tryz.prog 161 #[iI n] w fun e w'=>e=.returned (.string ((⟨#[0,0,0]⟩:ByteArray).extract 0 z.toNat))∧w'=w:=by
 go_enter Tryz.func161,Tryz.ntmps161
 go_wp2;go_ret;exact ⟨rfl,rfl⟩
theorem zck (n:Nat) (w:World) (h:(n:Int)<=9223372036854775807):Calls Tryz.prog 161 #[iI n] w fun e w'=>e=.returned (Bs (padB n))∧w'=w:=by
 have hz:bits .and .i64 (-(n:Int)) 3=((pads n:Nat):Int):=by
  rw [i64_and3_rd];unfold pads;omega
 have hp:pads n<=3:=by unfold pads;omega
 have r:=zf4 (n:Int) _ w (by omega) h hz (by omega) (by omega);rw [Int.toNat_natCast,noughts3_rd _ hp] at r;exact r
theorem zga (n:Int) (l:List UInt8) (w:World) (h:n<0∨4294967295<n):Calls Tryz.prog 162 #[Bs l,iI n] w fun e w'=>e=.returned (.tuple #[Bs [],trW 22])∧Below w.heap.size w w':=by
 have H1:Hid (∀ w,Calls Tryz.prog 155 #[iI n] w fun e w'=>e=.returned (.bool false)∧w'=w):=fun w=>by
  have:=zcq n w
  rwa [show (decide (0<=n)&&decide (n<=4294967295))=false by rcases h with h|h <;> simp <;> omega] at this
 clear h;unfold Bs;go_enter Tryz.func162,Tryz.ntmps162
 go_wp2_with fail
 refine (H1.out _).mono ?_;rintro e w1 ⟨rfl,hw⟩;have hw1:=hw.symm;clear hw;subst hw1;go_wp2;go_ret2
 exact ⟨rfl,Below.refl _ _⟩
theorem zf9 (n:Nat) (l:List UInt8) (w:World) (h:(n:Int)<=4294967295) (hl:l.length<n+pads n):Calls Tryz.prog 162 #[Bs l,iI n] w fun e w'=>e=.returned (.tuple #[Bs [],trW 20])∧Below w.heap.size w w':=by
 have H1:Hid (∀ w,Calls Tryz.prog 155 #[iI n] w fun e w'=>e=.returned (.bool true)∧w'=w):=fun w=>by
  have:=zcq n w
  rwa [decide_eq_true (by omega),decide_eq_true h] at this
 have H2:Hid (∀ w,Calls Tryz.prog 161 #[iI n] w fun e w'=>e=.returned (.string ⟨(padB n).toArray⟩)∧w'=w):=fun w=>zck n w (by omega);have hp:=zau n;have hp3:pads n<=3:=by unfold pads;omega
 generalize padB n=P at *;generalize pads n=z at *;have hl' : (l.length:Int)<(n:Int)+(P.length:Int):=by omega
 have hP:(P.length:Int)<=3:=by omega
 clear hl hp hp3;unfold Bs;go_enter Tryz.func162,Tryz.ntmps162
 go_wp2_with fail
 refine (H1.out _).mono ?_;rintro e w1 ⟨rfl,hw⟩;have hw1:=hw.symm;clear hw;subst hw1;go_wp2_with fail
 refine (H2.out _).mono ?_;rintro e w1 ⟨rfl,hw⟩;have hw1:=hw.symm;clear hw;subst hw1;go_wp2;go_ret2
 exact ⟨rfl,Below.refl _ _⟩
theorem zd8 (w:World) (s:ByteArray) (l h:Int) (h0:0<=l) (h1:l<=h) (h2:h<=(s.size:Int)) :
 (Instr.slice 9 (.string s) (some (iI l)) (some (iI h)) none).run Tryz.prog w=.ok (.string (s.extract l.toNat h.toNat)) w:=by
 have hu:=Tryz.underlying9;simp [go_sem,h0,h1,h2]
theorem zgo (n:Nat) (l:List UInt8) (w:World) (h:(n:Int)<=4294967295) (hl:n+pads n<=l.length) (hpad:(l.drop n).take (pads n)=padB n):Calls Tryz.prog 162 #[Bs l,iI n] w fun e w'=>e=.returned (.tuple #[Bs (l.take n),trW 0])∧Below w.heap.size w w':=by
 have H1:Hid (∀ w,Calls Tryz.prog 155 #[iI n] w fun e w'=>e=.returned (.bool true)∧w'=w):=fun w=>by
  have:=zcq n w
  rwa [decide_eq_true (by omega),decide_eq_true h] at this
 have H2:Hid (∀ w,Calls Tryz.prog 161 #[iI n] w fun e w'=>e=.returned (.string ⟨(padB n).toArray⟩)∧w'=w):=fun w=>zck n w (by omega);have hp:=zau n;have hp3:pads n<=3:=by unfold pads;omega
 have hsl:∀ w,(Instr.slice 9 (.string ⟨l.toArray⟩) (some (iI (n:Int))) (some (iI ((n:Int)+((padB n).length:Int)))) none).run Tryz.prog w=.ok (.string ⟨(padB n).toArray⟩) w:=fun w=>by
  have e:=zd8 w (⟨l.toArray⟩:ByteArray) (n:Int) ((n:Int)+((padB n).length:Int)) (by omega) (by omega) (by rw [hp];show (n:Int)+(pads n:Int)<=((l.length:Nat):Int);omega);rw [zbu,show ((n:Int)+((padB n).length:Int)).toNat=n+pads n by rw [hp];omega,Int.toNat_natCast,show n+pads n - n=pads n by omega,hpad] at e;exact e
 have HT:Hid ((⟨l.toArray⟩:ByteArray).extract 0 n=⟨(l.take n).toArray⟩):=by
  show (_:ByteArray)=_;rw [zbu];simp
 clear hpad;rw [<- hp] at hl;generalize padB n=P at *;generalize pads n=z at *;have hl' : (n:Int)+(P.length:Int)<=(l.length:Int):=by omega
 have hl2:decide ((l.length:Int)<(n:Int)+(P.length:Int))=false:=decide_eq_false (by omega);have hn' : (n:Int)<=(l.length:Int):=by omega
 have hP:(P.length:Int)<=3:=by omega
 clear hl hp hp3;unfold Bs;go_enter Tryz.func162,Tryz.ntmps162
 go_wp2_with fail
 refine (H1.out _).mono ?_;rintro e w1 ⟨rfl,hw⟩;have hw1:=hw.symm;clear hw;subst hw1;go_wp2_with fail
 refine (H2.out _).mono ?_;rintro e w1 ⟨rfl,hw⟩;have hw1:=hw.symm;clear hw;subst hw1;go_wp2;go_quiet ((go_at_call 161;exact Calls.quiet_of_same (H2.out _)))
 go_wp2;go_ret2
 refine ⟨?_,zan (Below.refl _ _) _⟩;rw [<- HT.out];rfl
theorem zh2 (n:Nat) (l:List UInt8) (w:World) (h:(n:Int)<=4294967295) (hl:n+pads n<=l.length) (hpad:(l.drop n).take (pads n)≠padB n):Calls Tryz.prog 162 #[Bs l,iI n] w fun e w'=>e=.returned (.tuple #[Bs [],trW 24])∧Below w.heap.size w w':=by
 have H1:Hid (∀ w,Calls Tryz.prog 155 #[iI n] w fun e w'=>e=.returned (.bool true)∧w'=w):=fun w=>by
  have:=zcq n w
  rwa [decide_eq_true (by omega),decide_eq_true h] at this
 have H2:Hid (∀ w,Calls Tryz.prog 161 #[iI n] w fun e w'=>e=.returned (.string ⟨(padB n).toArray⟩)∧w'=w):=fun w=>zck n w (by omega);have hp:=zau n;have hp3:pads n<=3:=by unfold pads;omega
 have hsl:∀ w,(Instr.slice 9 (.string ⟨l.toArray⟩) (some (iI (n:Int))) (some (iI ((n:Int)+((padB n).length:Int)))) none).run Tryz.prog w=.ok (.string ⟨((l.drop n).take (pads n)).toArray⟩) w:=fun w=>by
  have e:=zd8 w (⟨l.toArray⟩:ByteArray) (n:Int) ((n:Int)+((padB n).length:Int)) (by omega) (by omega) (by rw [hp];show (n:Int)+(pads n:Int)<=((l.length:Nat):Int);omega);rw [zbu,show ((n:Int)+((padB n).length:Int)).toNat=n+pads n by rw [hp];omega,Int.toNat_natCast,show n+pads n - n=pads n by omega] at e;exact e
 rw [<- hp] at hl;generalize (l.drop n).take (pads n)=Q at *;generalize padB n=P at *;generalize pads n=z at *;obtain ⟨X,hX⟩:∃ X,(⟨Q.toArray⟩:ByteArray)=X:=⟨_,rfl⟩;have hne2:(X.toList==P)=false:=by
  rw [<- hX,ByteArray.toList_eq];exact beq_eq_false_iff_ne.2 (by simpa using hpad)
 rw [hX] at hsl;clear hX hpad;have hl' : (n:Int)+(P.length:Int)<=(l.length:Int):=by omega
 have hl2:decide ((l.length:Int)<(n:Int)+(P.length:Int))=false:=decide_eq_false (by omega);have hn' : (n:Int)<=(l.length:Int):=by omega
 have hP:(P.length:Int)<=3:=by omega
 clear hl hp hp3;unfold Bs;go_enter Tryz.func162,Tryz.ntmps162
 go_wp2_with fail
 refine (H1.out _).mono ?_;rintro e w1 ⟨rfl,hw⟩;have hw1:=hw.symm;clear hw;subst hw1;go_wp2_with fail
 refine (H2.out _).mono ?_;rintro e w1 ⟨rfl,hw⟩;have hw1:=hw.symm;clear hw;subst hw1;go_wp2;go_quiet ((go_at_call 161;exact Calls.quiet_of_same (H2.out _)))
 go_wp2;go_ret2
 exact ⟨rfl,zan (Below.refl _ _) _⟩
theorem zh3 (n:Int) (l:List UInt8) (w:World):Calls Tryz.prog 162 #[Bs l,iI n] w fun e w'=>e=.returned (.tuple #[Bs (zfy n l).val,trW (zfy n l).wrong])∧Below w.heap.size w w':=by
 unfold zfy;by_cases hn:n<0∨4294967295<n
 · rw [if_pos hn];exact zga n l w hn
 · rw [if_neg hn];obtain ⟨m,rfl⟩:∃ m:Nat,n=m:=⟨n.toNat,by omega⟩;rw [Int.toNat_natCast];unfold zaw;by_cases hl:l.length<m+pads m
   · rw [if_pos hl];exact zf9 m l w (by omega) hl
   · rw [if_neg hl];by_cases hp:(l.drop m).take (pads m)≠padB m
     · rw [if_pos hp];exact zh2 m l w (by omega) (by omega) hp
     · rw [if_neg hp];exact zgo m l w (by omega) (by omega) (Decidable.not_not.1 hp)
theorem zdo (v:Value) (w:World):(binOp .eql 177 (.iface 244 v) .nilIface).run Tryz.prog w=.ok (.bool false) w:=by kernel_rfl
theorem neq_iface_rd (v:Value) (w:World):(binOp .neq 177 (.iface 244 v) .nilIface).run Tryz.prog w=.ok (.bool true) w:=by kernel_rfl
theorem zf6 (tp:Addr) (w:World) (hc:w.cell? tp=some .nilIface) (hf:w.frozen? tp=false) :
 Calls Tryz.prog 153 #[.pointer (some tp),.nilIface] w fun r w'=>r=.returned (.tuple #[])∧w'=w.setCell tp .nilIface:=by
 go_enter Tryz.func153,Tryz.ntmps153
 go_wp2;first|go_end0|refine bodyPost_ret (results_none rfl _ _ _) rfl ?_
 exact ⟨rfl,rfl⟩
theorem zhw (tp:Addr) (x:Int) (w:World) (hc:w.cell? tp=some .nilIface) (hf:w.frozen? tp=false) :
 Calls Tryz.prog 153 #[.pointer (some tp),.iface 244 (.agg #[iI x])] w fun r w'=>r=.returned (.tuple #[])∧w'=w.setCell tp (.iface 244 (.agg #[iI x])):=by
 go_enter Tryz.func153,Tryz.ntmps153
 go_wp2;first|go_end0|refine bodyPost_ret (results_none rfl _ _ _) rfl ?_
 exact ⟨rfl,rfl⟩
theorem zef (tp:Addr) (e:Int) (w:World) (hc:w.cell? tp=some (trW 0)) (hf:w.frozen? tp=false) :
 Calls Tryz.prog 153 #[.pointer (some tp),trW e] w fun r w'=>r=.returned (.tuple #[])∧w'=w.setCell tp (trW e):=by
 have hc2:w.cell? tp=some .nilIface:=hc;unfold trW;by_cases h:e=0
 · rw [if_pos h];exact zf6 tp w hc2 hf
 · rw [if_neg h];exact zhw tp e w hc2 hf
theorem zee (tp:Addr) (v x:Value) (w:World) (hc:w.cell? tp=some (.iface 244 x)) :
 Calls Tryz.prog 153 #[.pointer (some tp),v] w fun r w'=>r=.returned (.tuple #[])∧w'=w:=by
 have q:=zdo x;go_enter Tryz.func153,Tryz.ntmps153
 go_wp2;first|go_end0|refine bodyPost_ret (results_none rfl _ _ _) rfl ?_
 exact ⟨rfl,rfl⟩
theorem any_no_rd (tp:Addr) (w:World) (hc:w.cell? tp=some .nilIface):Calls Tryz.prog 134 #[.pointer (some tp)] w fun r w'=>r=.returned (.bool false)∧w'=w:=by
 go_enter Tryz.func134,Tryz.ntmps134
 go_wp2;go_ret;exact ⟨rfl,rfl⟩
theorem zhf (tp:Addr) (x:Value) (w:World) (hc:w.cell? tp=some (.iface 244 x)):Calls Tryz.prog 134 #[.pointer (some tp)] w fun r w'=>r=.returned (.bool true)∧w'=w:=by
 have q:=neq_iface_rd x;go_enter Tryz.func134,Tryz.ntmps134
 go_wp2;go_ret;exact ⟨rfl,rfl⟩
theorem zhg (tp:Addr) (e:Int) (w:World) (hc:w.cell? tp=some (trW e)):Calls Tryz.prog 134 #[.pointer (some tp)] w fun r w'=>r=.returned (.bool (e != 0))∧w'=w:=by
 unfold trW at hc;by_cases h:e=0
 · rw [if_pos h] at hc;subst h;exact any_no_rd tp w hc
 · rw [if_neg h] at hc;have:(e != 0)=true:=by rw [bne_iff_ne];exact h
   rw [this];exact zhf tp _ w hc
structure Sole (p:Nat) (w w' : World):Prop where
 os:w'.os=w.os
 tape:w'.tape=w.tape
 output:w'.output=w.output
 size:w.heap.size<=w'.heap.size
 block:∀ b,b<w.heap.size->b≠p->w'.heap[b]?=w.heap[b]?
theorem Sole.refl (p:Nat) (w:World):Sole p w w:=⟨rfl,rfl,rfl,Nat.le_refl _,fun _ _ _=>rfl⟩
theorem Sole.trans {p:Nat} {a b c:World} (h:Sole p a b) (k:Sole p b c):Sole p a c :=
 ⟨k.os.trans h.os,k.tape.trans h.tape,k.output.trans h.output,Nat.le_trans h.size k.size,fun i hi hp=>(k.block i (Nat.lt_of_lt_of_le hi h.size) hp).trans (h.block i hi hp)⟩
theorem Sole.of_below {p:Nat} {a b:World} (h:Below a.heap.size a b):Sole p a b:=⟨h.os,h.tape,h.output,h.size,fun i hi _=>h.block i hi⟩
theorem Sole.drewN (p:Nat) (w:World) (k:Nat):Sole p w (w.drewN k):=Sole.of_below (zan (Below.refl _ _) k)
theorem Sole.setCell {p:Nat} (w:World) (o:Nat) (v:Value):Sole p w (w.setCell ⟨p,o,none⟩ v) :=
 ⟨rfl,rfl,rfl,by simp [World.setCell],fun b _ hb=>Below.heap_setCell _ _ _ _ hb⟩
structure RR (w:World) (p:Nat) (l:List UInt8) (E:Int):Prop where
 l:w.cell? ⟨p,0,none⟩=some (Bs l)
 e:w.cell? ⟨p,1,none⟩=some (trW E)
 f0:w.frozen? ⟨p,0,none⟩=false
 f1:w.frozen? ⟨p,1,none⟩=false
theorem RR.setE {w:World} {p:Nat} {l:List UInt8} {E:Int} (h:RR w p l E) (F:Int):RR (w.setCell ⟨p,1,none⟩ (trW F)) p l F :=
 ⟨by rw [World.cell?_setCell_other _ _ _ _ (by simp)];exact h.l,World.cell?_setCell_same _ _ _ h.e,by rw [World.frozen?_setCell];exact h.f0,by rw [World.frozen?_setCell];exact h.f1⟩
theorem RR.setL {w:World} {p:Nat} {l:List UInt8} {E:Int} (h:RR w p l E) (m:List UInt8):RR (w.setCell ⟨p,0,none⟩ (Bs m)) p m E :=
 ⟨World.cell?_setCell_same _ _ _ h.l,by rw [World.cell?_setCell_other _ _ _ _ (by simp)];exact h.e,by rw [World.frozen?_setCell];exact h.f0,by rw [World.frozen?_setCell];exact h.f1⟩
theorem trW_ne {e:Int} (h:e≠0):trW e=.iface 244 (.agg #[iI e]):=by unfold trW;rw [if_neg h]
theorem take_was (p:Nat) (n E:Int) (l:List UInt8) (v:Value) (w:World) (h:RR w p l E) (hE:E≠0) :
 Calls Tryz.prog 159 #[.pointer (some ⟨p,0,none⟩),iI n,v] w fun e w'=>e=.returned (.bool false)∧w'=w:=by
 have he:=h.e;rw [trW_ne hE] at he;have H1:Hid (Calls Tryz.prog 153 #[.pointer (some ⟨p,1,none⟩),v] w fun r w'=>r=.returned (.tuple #[])∧w'=w):=zee ⟨p,1,none⟩ v _ w he;have H2:Hid (Calls Tryz.prog 134 #[.pointer (some ⟨p,1,none⟩)] w fun r w'=>r=.returned (.bool true)∧w'=w):=zhf ⟨p,1,none⟩ _ w he;clear h he hE;go_enter Tryz.func159,Tryz.ntmps159
 go_wp2_with fail
 refine H1.out.mono ?_;rintro e w1 ⟨rfl,hw⟩;have hw1:=hw.symm;clear hw;subst hw1;go_wp2_with fail
 refine H2.out.mono ?_;rintro e w1 ⟨rfl,hw⟩;have hw1:=hw.symm;clear hw;subst hw1;go_wp2;go_ret;exact ⟨rfl,rfl⟩
theorem take_wrong (p:Nat) (n F:Int) (l:List UInt8) (w:World) (h:RR w p l 0) (hF:F≠0) :
 Calls Tryz.prog 159 #[.pointer (some ⟨p,0,none⟩),iI n,trW F] w fun e w'=>e=.returned (.bool false)∧w'=w.setCell ⟨p,1,none⟩ (trW F):=by
 have H1:Hid (Calls Tryz.prog 153 #[.pointer (some ⟨p,1,none⟩),trW F] w fun r w'=>r=.returned (.tuple #[])∧w'=w.setCell ⟨p,1,none⟩ (trW F)):=zef ⟨p,1,none⟩ F w h.e h.f1;have H2:Hid (Calls Tryz.prog 134 #[.pointer (some ⟨p,1,none⟩)] (w.setCell ⟨p,1,none⟩ (trW F)) fun r w'=>r=.returned (.bool true)∧w'=w.setCell ⟨p,1,none⟩ (trW F)):=by
  have he:=(h.setE F).e;have:=zhg ⟨p,1,none⟩ F _ he
  rwa [show (F != 0)=true from bne_iff_ne.2 hF] at this
 obtain ⟨V,hV⟩:∃ V,trW F=V:=⟨_,rfl⟩;rw [hV] at H1 H2 ⊢;clear h hF hV;go_enter Tryz.func159,Tryz.ntmps159
 go_wp2_with fail
 refine H1.out.mono ?_;rintro e w1 ⟨rfl,hw⟩;subst hw;go_wp2_with fail
 refine H2.out.mono ?_;rintro e w1 ⟨rfl,hw⟩;subst hw;go_wp2;go_ret;exact ⟨rfl,rfl⟩
theorem take_ok (p n:Nat) (l:List UInt8) (w:World) (h:RR w p l 0) (hn:n<=l.length) :
 Calls Tryz.prog 159 #[.pointer (some ⟨p,0,none⟩),iI n,.nilIface] w fun e w'=>e=.returned (.bool true)∧RR w' p (l.drop n) 0∧Sole p w w':=by
 have h1:w.cell? ⟨p,1,none⟩=some .nilIface:=h.e;have H1:Hid (Calls Tryz.prog 153 #[.pointer (some ⟨p,1,none⟩),.nilIface] w fun r w'=>r=.returned (.tuple #[])∧w'=w.setCell ⟨p,1,none⟩ .nilIface):=zf6 ⟨p,1,none⟩ w h1 h.f1;have H2:Hid (Calls Tryz.prog 134 #[.pointer (some ⟨p,1,none⟩)] (w.setCell ⟨p,1,none⟩ .nilIface) fun r w'=>r=.returned (.bool false)∧w'=w.setCell ⟨p,1,none⟩ .nilIface):=any_no_rd ⟨p,1,none⟩ _ (World.cell?_setCell_same _ _ _ h1);have HS:RR (w.setCell ⟨p,1,none⟩ .nilIface) p l 0:=h.setE 0;have HP:Hid (RR ((w.setCell ⟨p,1,none⟩ .nilIface).setCell ⟨p,0,none⟩ (.string ((⟨l.toArray⟩:ByteArray).extract n l.length))) p (l.drop n) 0):=by
  show RR _ _ _ _;rw [Bs_from];exact HS.setL _
 have h0:w.cell? ⟨p,0,none⟩=some (.string ⟨l.toArray⟩):=h.l;have h2:=h.f0;have hn' : (n:Int)<=l.length:=by omega
 clear h HS;go_enter Tryz.func159,Tryz.ntmps159
 go_wp2_with fail
 refine H1.out.mono ?_;rintro e w1 ⟨rfl,hw⟩;subst hw;go_wp2_with fail
 refine H2.out.mono ?_;rintro e w1 ⟨rfl,hw⟩;subst hw;go_wp2;go_ret;exact ⟨rfl,HP.out,(Sole.setCell w 1 _).trans (Sole.setCell _ 0 _)⟩
theorem RR.lt {w:World} {p:Nat} {l:List UInt8} {E:Int} (h:RR w p l E):p<w.heap.size:=by
 rcases Nat.lt_or_ge p w.heap.size with h1|h1
 · exact h1
 · have:=h.l
   simp [World.cell?,Array.getElem?_eq_none h1] at this
theorem zaj {w w' : World} {b:Nat} (h:w'.heap[b]?=w.heap[b]?) (o:Nat):w'.cell? ⟨b,o,none⟩=w.cell? ⟨b,o,none⟩∧w'.frozen? ⟨b,o,none⟩=w.frozen? ⟨b,o,none⟩:=by
 constructor
 · simp only [World.cell?,h]
 · simp only [World.frozen?,h]
theorem RR.below {w w' : World} {p:Nat} {l:List UInt8} {E:Int} (h:RR w p l E) (hB:Below w.heap.size w w'):RR w' p l E:=by
 have hb:=hB.block p h.lt;exact ⟨(zaj hb 0).1.trans h.l,(zaj hb 1).1.trans h.e,(zaj hb 0).2.trans h.f0,(zaj hb 1).2.trans h.f1⟩
theorem zfi (p:Nat) (n E F:Int) (l:List UInt8) (w:World) (b:Bool) (h:RR w p l E) (hb:decide (E=0∧F=0)=b) (hn:b=true->0<=n∧n<=l.length) :
 Calls Tryz.prog 159 #[.pointer (some ⟨p,0,none⟩),iI n,trW F] w fun e w'=>e=.returned (.bool b)∧RR w' p (if b then l.drop n.toNat else l) (if E=0 then F else E)∧Sole p w w':=by
 cases b with
 | true =>
  obtain ⟨rfl,rfl⟩:=of_decide_eq_true hb;obtain ⟨h0,h1⟩:=hn rfl;obtain ⟨m,rfl⟩:∃ m:Nat,n=m:=⟨n.toNat,by omega⟩;rw [Int.toNat_natCast];exact take_ok p m l w h (by omega)
 | false =>
  have hb2:=of_decide_eq_false hb;by_cases hE:E=0
  · subst hE;have hF:F≠0:=fun e=>hb2 ⟨rfl,e⟩;refine (take_wrong p n F l w h hF).mono ?_;rintro e w' ⟨rfl,rfl⟩;exact ⟨rfl,h.setE F,Sole.setCell w 1 _⟩
  · rw [if_neg hE];refine (take_was p n E l _ w h hE).mono ?_;rintro e w' ⟨rfl,rfl⟩;exact ⟨rfl,h,Sole.refl _ _⟩
def zc3 {α:Type} (p:Nat) (l:List UInt8) (E:Int) (d:α) (f:List UInt8->Rd α) (v:α->Value) (w:World) (e:Ending) (w' : World):Prop :=
 e=.returned (v ((⟨l,E⟩:Rs).go d f).1)∧RR w' p ((⟨l,E⟩:Rs).go d f).2.l ((⟨l,E⟩:Rs).go d f).2.e∧Sole p w w'
theorem zh1 {α:Type} (l:List UInt8) (E:Int) (d:α) (f:List UInt8->Rd α):(⟨l,E⟩:Rs).go d f=if decide (E=0∧(f l).wrong=0)=true then ((f l).val,⟨l.drop (f l).size,if E=0 then (f l).wrong else E⟩) else (d,⟨l,if E=0 then (f l).wrong else E⟩):=by
 unfold Rs.go;by_cases hE:E=0
 · subst hE;by_cases hF:(f l).wrong=0
   · simp [hF]
   · simp [hF]
 · simp [hE]
theorem zdz (l:List UInt8):(zad l).size=4∧((zad l).wrong=0->4<=l.length)∧(zad l).val<4294967296:=by
 refine ⟨by unfold zad;split <;> rfl,fun h=>?_,?_⟩
 · have:=(zc8 l h).1
   rwa [show (zad l).size=4 by unfold zad;split <;> rfl] at this
 · by_cases h:(zad l).wrong=0
   · exact (zc8 l h).2.2
   · unfold zad at h ⊢;split at h
     · rename_i h2;rw [if_pos h2];decide
     · exact absurd rfl h
theorem zfw (p:Nat) (l:List UInt8) (E:Int) (w:World) (h:RR w p l E):Calls Tryz.prog 117 #[.pointer (some ⟨p,0,none⟩)] w (zc3 p l E 0 zad (fun n=>iI (n:Int)) w):=by
 unfold zc3;rw [zh1];obtain ⟨hs,hle,hlt⟩:=zdz l;obtain ⟨b,hb⟩:∃ b,decide (E=0∧(zad l).wrong=0)=b:=⟨_,rfl⟩;have H1:Hid (Calls Tryz.prog 158 #[.string ⟨l.toArray⟩] w fun e w'=>e=.returned (.tuple #[.int .u32 (zad l).val,trW (zad l).wrong])∧Below w.heap.size w w'):=zej l w;have H2:Hid (∀ w1,Below w.heap.size w w1->Calls Tryz.prog 159 #[.pointer (some ⟨p,0,none⟩),iI 4,trW (zad l).wrong] w1 fun e w'=>e=.returned (.bool b)∧RR w' p (if b then l.drop 4 else l) (if E=0 then (zad l).wrong else E)∧Sole p w w'):=fun w1 hB =>
  (zfi p 4 E _ l w1 b (h.below hB) hb (fun e=>by
    subst e;have:=hle (of_decide_eq_true hb).2
    omega)).mono fun e w' hp=>⟨hp.1,hp.2.1,(Sole.of_below hB).trans hp.2.2⟩
 rw [hb,hs];have h0:w.cell? ⟨p,0,none⟩=some (.string ⟨l.toArray⟩):=h.l;obtain ⟨V,hV⟩:∃ V,trW (zad l).wrong=V:=⟨_,rfl⟩;rw [hV] at H1 H2;generalize (if E=0 then (zad l).wrong else E)=E2 at *;generalize (zad l).val=n at *;have hn0:0<=(n:Int):=by omega
 have hn1:(n:Int)<4294967296:=by omega
 clear h hs hle hlt hb hV;cases b
 · obtain ⟨L,hL⟩:∃ L,l=L:=⟨_,rfl⟩;have H3:Hid (∀ w1,Below w.heap.size w w1->Calls Tryz.prog 159 #[.pointer (some ⟨p,0,none⟩),iI 4,V] w1 fun e w'=>e=.returned (.bool false)∧RR w' p L E2∧Sole p w w'):=by rw [<- hL];exact H2.out
   show Calls Tryz.prog 117 _ w fun e w'=>e=.returned (iI 0)∧RR w' p l E2∧Sole p w w';have HL:Hid (l=L):=hL;suffices hh:Calls Tryz.prog 117 #[.pointer (some ⟨p,0,none⟩)] w fun e w'=>e=.returned (iI 0)∧RR w' p L E2∧Sole p w w' by rw [<- HL.out] at hh;exact hh
   clear H2 hL HL;go_enter Tryz.func117,Tryz.ntmps117
   go_wp2_with fail
   refine H1.out.mono ?_;rintro e w1 ⟨rfl,hB⟩;have HB:Hid (Below w.heap.size w w1):=hB;clear hB;go_wp2_with fail
   refine (H3.out _ HB.out).mono ?_;rintro e w2 ⟨rfl,hR,hS⟩;have HR:Hid (RR w2 p L E2∧Sole p w w2):=⟨hR,hS⟩;clear hR hS;go_wp2;go_ret;exact ⟨rfl,HR.out.1,HR.out.2⟩
 · obtain ⟨L,hL⟩:∃ L,l.drop 4=L:=⟨_,rfl⟩;have H3:Hid (∀ w1,Below w.heap.size w w1->Calls Tryz.prog 159 #[.pointer (some ⟨p,0,none⟩),iI 4,V] w1 fun e w'=>e=.returned (.bool true)∧RR w' p L E2∧Sole p w w'):=by rw [<- hL];exact H2.out
   show Calls Tryz.prog 117 _ w fun e w'=>e=.returned (iI (n:Int))∧RR w' p (l.drop 4) E2∧Sole p w w';rw [hL];clear H2 hL;go_enter Tryz.func117,Tryz.ntmps117
   go_wp2_with fail
   refine H1.out.mono ?_;rintro e w1 ⟨rfl,hB⟩;have HB:Hid (Below w.heap.size w w1):=hB;clear hB;go_wp2_with fail
   refine (H3.out _ HB.out).mono ?_;rintro e w2 ⟨rfl,hR,hS⟩;have HR:Hid (RR w2 p L E2∧Sole p w w2):=⟨hR,hS⟩;clear hR hS;go_wp2;go_ret;exact ⟨rfl,HR.out.1,HR.out.2⟩
theorem zdk (most:Int) (l:List UInt8):(zai most l).size=4∧((zai most l).wrong=0->4<=l.length)∧(zai most l).val<4294967296:=by
 have hs:(zai most l).size=4:=by
  unfold zai;split
  · rfl
  · split
    · rfl
    · split <;> rfl
 refine ⟨hs,fun h=>?_,?_⟩
 · have:=(zcz most l h).1
   rwa [hs] at this
 · by_cases h:(zai most l).wrong=0
   · have:=(zcz most l h).2.2;omega
   · unfold zai at h ⊢;split
     · decide
     · rename_i h1;rw [if_neg h1] at h;split
       · decide
       · rename_i h2;rw [if_neg h2] at h;split
         · decide
         · rename_i h3;rw [if_neg h3] at h;exact absurd rfl h
theorem rcount_any (p:Nat) (most:Int) (l:List UInt8) (E:Int) (w:World) (h:RR w p l E):Calls Tryz.prog 121 #[.pointer (some ⟨p,0,none⟩),iI most] w (zc3 p l E 0 (zai most) (fun n=>iI (n:Int)) w):=by
 unfold zc3;rw [zh1];obtain ⟨hs,hle,hlt⟩:=zdk most l;obtain ⟨b,hb⟩:∃ b,decide (E=0∧(zai most l).wrong=0)=b:=⟨_,rfl⟩;have H1:Hid (Calls Tryz.prog 160 #[.string ⟨l.toArray⟩,iI most] w fun e w'=>e=.returned (.tuple #[iI (zai most l).val,trW (zai most l).wrong])∧Below w.heap.size w w'):=zdy most l w;have H2:Hid (∀ w1,Below w.heap.size w w1->Calls Tryz.prog 159 #[.pointer (some ⟨p,0,none⟩),iI 4,trW (zai most l).wrong] w1 fun e w'=>e=.returned (.bool b)∧RR w' p (if b then l.drop 4 else l) (if E=0 then (zai most l).wrong else E)∧Sole p w w'):=fun w1 hB =>
  (zfi p 4 E _ l w1 b (h.below hB) hb (fun e=>by
    subst e;have:=hle (of_decide_eq_true hb).2
    omega)).mono fun e w' hp=>⟨hp.1,hp.2.1,(Sole.of_below hB).trans hp.2.2⟩
 rw [hb,hs];have h0:w.cell? ⟨p,0,none⟩=some (.string ⟨l.toArray⟩):=h.l;obtain ⟨V,hV⟩:∃ V,trW (zai most l).wrong=V:=⟨_,rfl⟩;rw [hV] at H1 H2;generalize (if E=0 then (zai most l).wrong else E)=E2 at *;generalize (zai most l).val=n at *;have hn0:0<=(n:Int):=by omega
 have hn1:(n:Int)<4294967296:=by omega
 clear h hs hle hlt hb hV;cases b
 · obtain ⟨L,hL⟩:∃ L,l=L:=⟨_,rfl⟩;have H3:Hid (∀ w1,Below w.heap.size w w1->Calls Tryz.prog 159 #[.pointer (some ⟨p,0,none⟩),iI 4,V] w1 fun e w'=>e=.returned (.bool false)∧RR w' p L E2∧Sole p w w'):=by rw [<- hL];exact H2.out
   show Calls Tryz.prog 121 _ w fun e w'=>e=.returned (iI 0)∧RR w' p l E2∧Sole p w w';have HL:Hid (l=L):=hL;suffices hh:Calls Tryz.prog 121 #[.pointer (some ⟨p,0,none⟩),iI most] w fun e w'=>e=.returned (iI 0)∧RR w' p L E2∧Sole p w w' by rw [<- HL.out] at hh;exact hh
   clear H2 hL HL;go_enter Tryz.func121,Tryz.ntmps121
   go_wp2_with fail
   refine H1.out.mono ?_;rintro e w1 ⟨rfl,hB⟩;have HB:Hid (Below w.heap.size w w1):=hB;clear hB;go_wp2_with fail
   refine (H3.out _ HB.out).mono ?_;rintro e w2 ⟨rfl,hR,hS⟩;have HR:Hid (RR w2 p L E2∧Sole p w w2):=⟨hR,hS⟩;clear hR hS;go_wp2;go_ret;exact ⟨rfl,HR.out.1,HR.out.2⟩
 · obtain ⟨L,hL⟩:∃ L,l.drop 4=L:=⟨_,rfl⟩;have H3:Hid (∀ w1,Below w.heap.size w w1->Calls Tryz.prog 159 #[.pointer (some ⟨p,0,none⟩),iI 4,V] w1 fun e w'=>e=.returned (.bool true)∧RR w' p L E2∧Sole p w w'):=by rw [<- hL];exact H2.out
   show Calls Tryz.prog 121 _ w fun e w'=>e=.returned (iI (n:Int))∧RR w' p (l.drop 4) E2∧Sole p w w';rw [hL];clear H2 hL;go_enter Tryz.func121,Tryz.ntmps121
   go_wp2_with fail
   refine H1.out.mono ?_;rintro e w1 ⟨rfl,hB⟩;have HB:Hid (Below w.heap.size w w1):=hB;clear hB;go_wp2_with fail
   refine (H3.out _ HB.out).mono ?_;rintro e w2 ⟨rfl,hR,hS⟩;have HR:Hid (RR w2 p L E2∧Sole p w w2):=⟨hR,hS⟩;clear hR hS;go_wp2;go_ret;exact ⟨rfl,HR.out.1,HR.out.2⟩

theorem tk_bad (p:Nat) (E F:Int) (l:List UInt8) (w:World) (h:RR w p l E) (hF:F≠0):∀ (n:Int) (w1:World),Below w.heap.size w w1 ->
 Calls Tryz.prog 159 #[.pointer (some ⟨p,0,none⟩),iI n,trW F] w1 fun e w'=>e=.returned (.bool false)∧RR w' p l (if E=0 then F else E)∧Sole p w w':=fun n w1 hB =>
 (zfi p n E F l w1 false (h.below hB) (decide_eq_false fun c=>hF c.2) (fun c=>by cases c)).mono fun e w' hp=>⟨hp.1,hp.2.1,(Sole.of_below hB).trans hp.2.2⟩
theorem tk_good (p n:Nat) (E:Int) (l:List UInt8) (b:Bool) (w:World) (h:RR w p l E) (hb:decide (E=0)=b) (hn:n<=l.length):∀ (w1:World),Below w.heap.size w w1 ->
 Calls Tryz.prog 159 #[.pointer (some ⟨p,0,none⟩),iI n,.nilIface] w1 fun e w'=>e=.returned (.bool b)∧RR w' p (if b then l.drop n else l) E∧Sole p w w':=fun w1 hB=>by
 have h1:=zfi p n E 0 l w1 b (h.below hB) (by rw [<- hb];simp) (fun _=>by omega);rw [Int.toNat_natCast,show (if E=0 then (0:Int) else E)=E by split <;> omega] at h1;exact h1.mono fun e w' hp=>⟨hp.1,hp.2.1,(Sole.of_below hB).trans hp.2.2⟩
theorem zc3.bad {α:Type} {p:Nat} {l:List UInt8} {E F:Int} {d:α} {f:List UInt8->Rd α} {v:α->Value} {w:World} {e:Ending} {w' : World} (hF:(f l).wrong=F) (hF0:F≠0)
 (h:e=.returned (v d)∧RR w' p l (if E=0 then F else E)∧Sole p w w'):zc3 p l E d f v w e w':=by
 unfold zc3;rw [zh1,hF,if_neg (by rw [decide_eq_true_eq];exact fun c=>hF0 c.2)];exact h
theorem zc3.good {α:Type} {p k:Nat} {l:List UInt8} {E:Int} {d x:α} {f:List UInt8->Rd α} {v:α->Value} {w:World} {e:Ending} {w' : World} (b:Bool) (hb:decide (E=0)=b) (hf:f l=⟨0,k,x⟩)
 (h:e=.returned (v (if b then x else d))∧RR w' p (if b then l.drop k else l) E∧Sole p w w'):zc3 p l E d f v w e w':=by
 unfold zc3;rw [zh1,hf];subst hb;by_cases hE:E=0
 · subst hE;simpa using h
 · simpa [hE] using h
theorem Sole.below_after {p:Nat} {a b c:World} (h:Sole p a b) (k:Below b.heap.size b c):Sole p a c:=h.trans (Sole.of_below k)
theorem RR.sole_below {p:Nat} {l:List UInt8} {E:Int} {w:World} : ∀ a c:World,(RR a p l E∧Sole p w a)->Below a.heap.size a c->(RR c p l E∧Sole p w c) :=
 fun _ _ h k=>⟨h.1.below k,h.2.below_after k⟩
theorem za4 (l:List UInt8):(⟨l.toArray⟩:ByteArray).size=l.length:=by simp [ByteArray.size]
theorem zd0 (n:Nat) (l:List UInt8):(zaw n l).size=n+pads n:=by
 unfold zaw;split
 · rfl
 · split <;> rfl
theorem clone_rd (l:List UInt8) (hl:l.length<=281474976710656) (w:World):Calls Tryz.prog 45 #[.string ⟨l.toArray⟩] w fun e w'=>e=.returned (.string ⟨l.toArray⟩)∧Below w.heap.size w w':=zgf _ w (by rw [za4];exact hl)
theorem ropaque_A {Q:World->Prop} (p:Nat) (m n:Int) (x:Value) (s P:ByteArray) (w:World) (h0:w.cell? ⟨p,0,none⟩=some (.string s))
 (H1:Hid (Calls Tryz.prog 160 #[.string s,iI m] w fun e w'=>e=.returned (.tuple #[iI n,.iface 244 x])∧Below w.heap.size w w'))
 (H2:Hid (∀ w,Calls Tryz.prog 161 #[iI n] w fun e w'=>e=.returned (.string P)∧w'=w))
 (H3:Hid (∀ z w1,Below w.heap.size w w1->Calls Tryz.prog 159 #[.pointer (some ⟨p,0,none⟩),iI z,.iface 244 x] w1 fun e w'=>e=.returned (.bool false)∧Q w')) :
 Calls Tryz.prog 123 #[.pointer (some ⟨p,0,none⟩),iI m] w fun e w'=>e=.returned (.string ⟨#[]⟩)∧Q w':=by
 have q:=zdo x;go_enter Tryz.func123,Tryz.ntmps123
 go_wp2_with fail
 refine H1.out.mono ?_;rintro e w1 ⟨rfl,hB⟩;have HB:Hid (Below w.heap.size w w1):=hB;clear hB;go_wp2_with fail
 refine (H2.out _).mono ?_;rintro e w2 ⟨rfl,hw⟩;have hw1:=hw.symm;clear hw;subst hw1;go_wp2_with fail
 refine (H3.out _ _ HB.out).mono ?_;rintro e w2 ⟨rfl,hQ⟩;have HQ:Hid (Q w2):=hQ;clear hQ;go_wp2;go_ret;exact ⟨rfl,HQ.out⟩
theorem ropaque_B {Q:World->Prop} (p:Nat) (m n:Int) (V:Value) (s t r P:ByteArray) (w:World) (h0:w.cell? ⟨p,0,none⟩=some (.string s))
 (hs:(4:Int)<=(s.size:Int)) (hr:s.extract 4 s.size=r)
 (H1:Hid (Calls Tryz.prog 160 #[.string s,iI m] w fun e w'=>e=.returned (.tuple #[iI n,.nilIface])∧Below w.heap.size w w'))
 (H5:Hid (∀ w,Calls Tryz.prog 162 #[.string r,iI n] w fun e w'=>e=.returned (.tuple #[.string t,V])∧Below w.heap.size w w'))
 (HC:Hid (∀ w1,Below w.heap.size w w1->w1.cell? ⟨p,0,none⟩=some (.string s)))
 (H2:Hid (∀ w,Calls Tryz.prog 161 #[iI n] w fun e w'=>e=.returned (.string P)∧w'=w))
 (H3:Hid (∀ z w1,Below w.heap.size w w1->Calls Tryz.prog 159 #[.pointer (some ⟨p,0,none⟩),iI z,V] w1 fun e w'=>e=.returned (.bool false)∧Q w')) :
 Calls Tryz.prog 123 #[.pointer (some ⟨p,0,none⟩),iI m] w fun e w'=>e=.returned (.string ⟨#[]⟩)∧Q w':=by
 go_enter Tryz.func123,Tryz.ntmps123
 go_wp2_with fail
 refine H1.out.mono ?_;rintro e w1 ⟨rfl,hB⟩;have hc1:=HC.out _ hB;have HB:Hid (Below w.heap.size w w1):=hB;clear hB;go_wp2_with fail
 refine (H5.out _).mono ?_;rintro e w2 ⟨rfl,hB⟩;have Aa:Hid (Below w.heap.size w w2):=HB.out.trans (hB.mono HB.out.size);clear hB;go_wp2_with fail
 refine (H2.out _).mono ?_;rintro e w3 ⟨rfl,hw⟩;have hw1:=hw.symm;clear hw;subst hw1;go_wp2_with fail
 refine (H3.out _ _ Aa.out).mono ?_;rintro e w4 ⟨rfl,hQ⟩;have HQ:Hid (Q w4):=hQ;clear hQ;go_wp2;go_ret;exact ⟨rfl,HQ.out⟩
theorem ropaque_C {Q:World->Prop} (p:Nat) (m n z:Int) (b:Bool) (s t r P:ByteArray) (w:World) (h0:w.cell? ⟨p,0,none⟩=some (.string s))
 (hs:(4:Int)<=(s.size:Int)) (hr:s.extract 4 s.size=r)
 (hn0:0<=n) (hn1:n<=4294967295) (hP:(P.size:Int)<=3) (hz:4+n+(P.size:Int)=z)
 (H1:Hid (Calls Tryz.prog 160 #[.string s,iI m] w fun e w'=>e=.returned (.tuple #[iI n,.nilIface])∧Below w.heap.size w w'))
 (H5:Hid (∀ w,Calls Tryz.prog 162 #[.string r,iI n] w fun e w'=>e=.returned (.tuple #[.string t,.nilIface])∧Below w.heap.size w w'))
 (HC:Hid (∀ w1,Below w.heap.size w w1->w1.cell? ⟨p,0,none⟩=some (.string s)))
 (H2:Hid (∀ w,Calls Tryz.prog 161 #[iI n] w fun e w'=>e=.returned (.string P)∧w'=w))
 (H3:Hid (∀ w1,Below w.heap.size w w1->Calls Tryz.prog 159 #[.pointer (some ⟨p,0,none⟩),iI z,.nilIface] w1 fun e w'=>e=.returned (.bool b)∧Q w'))
 (H4:Hid (∀ w,Calls Tryz.prog 45 #[.string t] w fun e w'=>e=.returned (.string t)∧Below w.heap.size w w'))
 (Ab:Hid (∀ a c,Q a->Below a.heap.size a c->Q c)) :
 Calls Tryz.prog 123 #[.pointer (some ⟨p,0,none⟩),iI m] w fun e w'=>e=.returned (.string (if b then t else ⟨#[]⟩))∧Q w':=by
 cases b
 · go_enter Tryz.func123,Tryz.ntmps123
   go_wp2_with fail
   refine H1.out.mono ?_;rintro e w1 ⟨rfl,hB⟩;have hc1:=HC.out _ hB;have HB:Hid (Below w.heap.size w w1):=hB;clear hB;go_wp2_with fail
   refine (H5.out _).mono ?_;rintro e w2 ⟨rfl,hB⟩;have Aa:Hid (Below w.heap.size w w2):=HB.out.trans (hB.mono HB.out.size);clear hB;go_wp2_with fail
   refine (H2.out _).mono ?_;rintro e w3 ⟨rfl,hw⟩;have hw1:=hw.symm;clear hw;subst hw1;go_wp2_with fail
   refine (H3.out _ Aa.out).mono ?_;rintro e w4 ⟨rfl,hQ⟩;have HQ:Hid (Q w4):=hQ;clear hQ;go_wp2;go_ret;exact ⟨rfl,HQ.out⟩
 · go_enter Tryz.func123,Tryz.ntmps123
   go_wp2_with fail
   refine H1.out.mono ?_;rintro e w1 ⟨rfl,hB⟩;have hc1:=HC.out _ hB;have HB:Hid (Below w.heap.size w w1):=hB;clear hB;go_wp2_with fail
   refine (H5.out _).mono ?_;rintro e w2 ⟨rfl,hB⟩;have Aa:Hid (Below w.heap.size w w2):=HB.out.trans (hB.mono HB.out.size);clear hB;go_wp2_with fail
   refine (H2.out _).mono ?_;rintro e w3 ⟨rfl,hw⟩;have hw1:=hw.symm;clear hw;subst hw1;go_wp2_with fail
   refine (H3.out _ Aa.out).mono ?_;rintro e w4 ⟨rfl,hQ⟩;have HQ:Hid (Q w4):=hQ;clear hQ;go_wp2_with fail
   refine (H4.out _).mono ?_;rintro e w5 ⟨rfl,hB3⟩;have Ac:Hid (Q w5):=Ab.out _ _ HQ.out hB3;clear hB3;go_wp2;go_ret;exact ⟨rfl,Ac.out⟩
theorem ropaque_any (p:Nat) (m:Int) (l:List UInt8) (E:Int) (w:World) (h:RR w p l E) (hl:l.length<=281474976710656) :
 Calls Tryz.prog 123 #[.pointer (some ⟨p,0,none⟩),iI m] w (zc3 p l E [] (zao m) (fun s=>Bs s) w):=by
 have hf:=zdy m l w;obtain ⟨_,hc4,hclt⟩:=zdk m l;by_cases hw:(zai m l).wrong=0
 · rw [hw] at hf;have h4:=hc4 hw;generalize hk:(zai m l).val=k at *;have hr:(⟨l.toArray⟩:ByteArray).extract 4 (⟨l.toArray⟩:ByteArray).size=⟨(l.drop 4).toArray⟩:=by rw [za4,Bs_from]
   have e1:zfy (k:Int) (l.drop 4)=zaw k (l.drop 4):=by
    unfold zfy;rw [if_neg (by omega),Int.toNat_natCast]
   have ht:∀ w,Calls Tryz.prog 162 #[Bs (l.drop 4),iI k] w fun e w'=>e=.returned (.tuple #[Bs (zaw k (l.drop 4)).val,trW (zaw k (l.drop 4)).wrong])∧Below w.heap.size w w':=fun w=>by
    (have:=zh3 k (l.drop 4) w);rwa [e1] at this
   have hop:zao m l=⟨(zaw k (l.drop 4)).wrong,4+(k+pads k),(zaw k (l.drop 4)).val⟩:=by
    unfold zao;rw [if_neg (by simp [hw]),hk,zd0]
   have hC:∀ w1,Below w.heap.size w w1->w1.cell? ⟨p,0,none⟩=some (.string ⟨l.toArray⟩):=fun w1 hB=>(h.below hB).l;by_cases hw2:(zaw k (l.drop 4)).wrong=0
   · have ho:=one_text k (l.drop 4) hw2;have hle:=ho.1;rw [zd0,List.length_drop] at hle;have hvl:(zaw k (l.drop 4)).val.length<=281474976710656:=(by have:=ho.2.2;omega);rw [hw2] at ht hop;obtain ⟨b,hb⟩:∃ b,decide (E=0)=b:=⟨_,rfl⟩;have hp:=zau k;have hp3:pads k<=3:=by unfold pads;omega
     refine (ropaque_C (Q:=fun w'=>RR w' p (if b then l.drop (4+(k+pads k)) else l) E∧Sole p w w') p m k ((4+(k+pads k):Nat):Int) b _ _ _ ⟨(padB k).toArray⟩ w h.l (by rw [za4];omega) hr (by omega) (by omega) (by rw [za4];omega) (by rw [za4];omega) hf
      ht hC (fun w=>zck k w (by omega)) (fun w1 hB=>tk_good p (4+(k+pads k)) E l b w h hb (by omega) w1 hB) (clone_rd _ hvl) RR.sole_below).mono ?_
     intro e w' hp;refine zc3.good (k:=4+(k+pads k)) (x:=(zaw k (l.drop 4)).val) b hb hop ?_;refine ⟨?_,hp.2⟩;rw [hp.1];cases b <;> rfl
   · refine (ropaque_B (Q:=fun w'=>RR w' p l (if E=0 then (zaw k (l.drop 4)).wrong else E)∧Sole p w w') p m k _ _ _ _ _ w h.l (by rw [za4];omega) hr hf ht hC (fun w=>zck k w (by omega)) (tk_bad p E _ l w h hw2)).mono ?_;exact fun e w' hp=>zc3.bad (by rw [hop]) hw2 hp
 · have hop:(zao m l).wrong=(zai m l).wrong:=by unfold zao;rw [if_pos hw]
   rw [trW_ne hw] at hf;have ht:=tk_bad p E _ l w h hw;rw [trW_ne hw] at ht;refine (ropaque_A (Q:=fun w'=>RR w' p l (if E=0 then (zai m l).wrong else E)∧Sole p w w') p m _ _ _ _ w h.l hf (fun w=>zck _ w (by omega)) ht).mono ?_;exact fun e w' hp=>zc3.bad hop hw hp
def zfz (l:List UInt8) (E:Int):Int:=if E=0∧l≠[] then 21 else E
theorem rdone_bad (p:Nat) (E:Int) (w:World) (H0:Hid (Calls Tryz.prog 134 #[.pointer (some ⟨p,1,none⟩)] w fun r w'=>r=.returned (.bool true)∧w'=w))
 (H1:Hid (Calls Tryz.prog 135 #[.pointer (some ⟨p,1,none⟩)] w fun r w'=>r=.returned (iI E)∧Below w.heap.size w w')) :
 Calls Tryz.prog 90 #[.pointer (some ⟨p,0,none⟩)] w fun e w'=>e=.returned (iI E)∧Below w.heap.size w w':=by
 go_enter Tryz.func90,Tryz.ntmps90
 go_wp2_with fail
 refine H0.out.mono ?_;rintro e w1 ⟨rfl,hw⟩;have hw1:=hw.symm;clear hw;subst hw1;go_wp2_with fail
 refine H1.out.mono ?_;rintro e w1 ⟨rfl,hB⟩;have HB:Hid (Below w.heap.size w w1):=hB;clear hB;go_wp2;go_ret;exact ⟨rfl,HB.out⟩
theorem rdone_end (p:Nat) (E:Int) (w:World) (h0:w.cell? ⟨p,0,none⟩=some (.string ⟨#[]⟩)) (H0:Hid (Calls Tryz.prog 134 #[.pointer (some ⟨p,1,none⟩)] w fun r w'=>r=.returned (.bool false)∧w'=w))
 (H1:Hid (Calls Tryz.prog 135 #[.pointer (some ⟨p,1,none⟩)] w fun r w'=>r=.returned (iI E)∧Below w.heap.size w w')) :
 Calls Tryz.prog 90 #[.pointer (some ⟨p,0,none⟩)] w fun e w'=>e=.returned (iI E)∧Below w.heap.size w w':=by
 go_enter Tryz.func90,Tryz.ntmps90
 go_wp2_with fail
 refine H0.out.mono ?_;rintro e w1 ⟨rfl,hw⟩;have hw1:=hw.symm;clear hw;subst hw1;go_wp2_with fail
 refine H1.out.mono ?_;rintro e w1 ⟨rfl,hB⟩;have HB:Hid (Below w.heap.size w w1):=hB;clear hB;go_wp2;go_ret;exact ⟨rfl,HB.out⟩
theorem rdone_more (p:Nat) (s:ByteArray) (w:World) (h0:w.cell? ⟨p,0,none⟩=some (.string s)) (hs:(s.toList==[])=false) (H0:Hid (Calls Tryz.prog 134 #[.pointer (some ⟨p,1,none⟩)] w fun r w'=>r=.returned (.bool false)∧w'=w)) :
 Calls Tryz.prog 90 #[.pointer (some ⟨p,0,none⟩)] w fun e w'=>e=.returned (iI 21)∧Below w.heap.size w w':=by
 go_enter Tryz.func90,Tryz.ntmps90
 go_wp2_with fail
 refine H0.out.mono ?_;rintro e w1 ⟨rfl,hw⟩;have hw1:=hw.symm;clear hw;subst hw1;go_wp2;go_ret;exact ⟨rfl,Below.refl _ _⟩
theorem rdone_rd (p:Nat) (l:List UInt8) (E:Int) (w:World) (h:RR w p l E) (hE:ErrT w):Calls Tryz.prog 90 #[.pointer (some ⟨p,0,none⟩)] w fun e w'=>e=.returned (iI (zfz l E))∧Below w.heap.size w w':=by
 have H0:=zhg ⟨p,1,none⟩ E w h.e;have H1:=zg3 ⟨p,1,none⟩ E w hE h.e;unfold zfz;by_cases he:E=0
 · subst he;by_cases hl:l=[]
   · subst hl;rw [if_neg (by simp)];exact rdone_end p 0 w h.l H0 H1
   · rw [if_pos ⟨rfl,hl⟩];refine rdone_more p _ w h.l ?_ H0;rw [ByteArray.toList_eq];exact beq_eq_false_iff_ne.2 (by simpa using hl)
 · rw [if_neg (fun c=>he c.1)];rw [show (E != 0)=true from bne_iff_ne.2 he] at H0;exact rdone_bad p E w H0 H1
theorem rnew_rd (l:List UInt8) (w:World):Calls Tryz.prog 88 #[.string ⟨l.toArray⟩] w fun e w'=>e=.returned (.pointer (some ⟨w.heap.size,0,none⟩))∧w'=w.alloc (.cells #[.string ⟨l.toArray⟩,.nilIface] 225):=by
 go_enter Tryz.func88,Tryz.ntmps88
 go_wp2;go_ret;exact ⟨rfl,rfl⟩
theorem RR.new (l:List UInt8) (w:World):RR (w.alloc (.cells #[.string ⟨l.toArray⟩,.nilIface] 225)) w.heap.size l 0:=by
 refine ⟨?_,?_,?_,?_⟩ <;> simp [Bs,trW]
end Go.Proofs.YtfcbjcebkahehaaGreatDoor
namespace Go.Proofs.YtfcbjcebkahehaaGreatDoor
def isW (n:Int):Prop:=0<=n∧n<=4294967295
instance (n:Int):Decidable (isW n):=inferInstanceAs (Decidable (_∧_))
structure SysP where
 stamp:Int
 machine:List UInt8
 user:Int
 group:Int
 groups:List Int
def SysP.may (s:SysP):Prop:=isW s.stamp∧isW s.user∧isW s.group∧s.machine.length<=255∧s.groups.length<=16∧∀ g∈s.groups,isW g
instance (s:SysP):Decidable s.may:=inferInstanceAs (Decidable (_∧_))
def zbr:List Int->List UInt8
 | []=>[]
 | g::gs=>nbL 4 g.toNat++zbr gs
def SysP.body (s:SysP):List UInt8:=nbL 4 s.stamp.toNat++((nbL 4 s.machine.length++(s.machine++padB s.machine.length))++(nbL 4 s.user.toNat++(nbL 4 s.group.toNat++(nbL 4 s.groups.length++zbr s.groups))))
theorem zf8 {α:Type} {f:List UInt8->Rd α} {b:List UInt8} {v:α} (h:Good f b v) (d:α) (r:List UInt8):(⟨b++r,0⟩:Rs).go d f=(v,⟨r,0⟩):=by
 unfold Rs.go;rw [if_neg (by simp),h.full,if_neg (by simp)];simp
theorem go_stay {α:Type} {f:List UInt8->Rd α} {d:α} {st:Rs} (h:st.e≠0):st.go d f=(d,st):=by unfold Rs.go;rw [if_pos h]
theorem zei {α:Type} {f:List UInt8->Rd α} {lay:α->List UInt8} {P:α->Prop} (h:One f lay P) (d:α) (st:Rs) (he:(st.go d f).2.e=0):st.e=0∧P (st.go d f).1∧st.l=lay (st.go d f).1++(st.go d f).2.l:=by
 by_cases h0:st.e≠0
 · rw [go_stay h0] at he;exact absurd he h0
 · have h1:st.e=0:=Decidable.not_not.1 h0;unfold Rs.go at he ⊢;rw [if_neg h0] at he ⊢;by_cases hw:(f st.l).wrong≠0
   · rw [if_pos hw] at he;exact absurd he hw
   · rw [if_neg hw] at he ⊢;obtain ⟨_,h3,h4⟩:=h st.l (Decidable.not_not.1 hw);refine ⟨h1,h4,?_⟩;show st.l=lay (f st.l).val++st.l.drop (f st.l).size;rw [h3,List.take_append_drop]
theorem zbf {g:Int} (h:isW g):g.toNat<4294967296∧((g.toNat:Nat):Int)=g:=by
 unfold isW at h;exact ⟨by omega,by omega⟩
theorem zdl:(gs:List Int)->(zbr gs).length=4*gs.length
 | []=>rfl
 | g::gs=>by rw [zbr,List.length_append,zaf,zdl gs,List.length_cons];omega
structure MarkP where
 inst:Int
 seq:Int
 water:Int
 sys:SysP
def MarkP.may (m:MarkP):Prop:=(1<=m.inst∧m.inst<=4611686018427387904)∧(1<=m.seq∧m.seq<=4294967295)∧(1<=m.water∧m.water<=4294967295)∧m.sys.may
instance (m:MarkP):Decidable m.may:=inferInstanceAs (Decidable (_∧_))
def MarkP.body (m:MarkP):List UInt8:=nbL 8 m.inst.toNat++(nbL 8 m.seq.toNat++(nbL 8 m.water.toNat++m.sys.body))
def printS (s:SysP):Option (List UInt8):=if s.may then some s.body else none
def zea (m:MarkP):Option (List UInt8):=if m.may then some m.body else none
end Go.Proofs.YtfcbjcebkahehaaGreatDoor
namespace Go.Proofs.YtfcbjcebkahehaaGreatDoor
open Go.RowKit
theorem hid {T:Prop} (h:T):Hid T:=h
def WrP (w:World) (p:Nat) (M:Int) (P:Prop) (l:List UInt8):Prop :=
 ∃ v S E,PW w p v M (Lib.strCells S) E∧(S.size:Int)<=M∧(E=0↔P)∧(P->S=⟨l.toArray⟩)
def zb5 (p:Nat) (M:Int) (P:Prop) (l:List UInt8) (w:World) (e:Ending) (w' : World):Prop :=
 e=.returned (.tuple #[])∧WrP w' p M P l∧Below p w w'
theorem Kept.below_p {w w' : World} {p:Nat} {v v' : Value} {M E:Int} {xs:List Value} (h:PW w p v M xs E) (k:Kept p v v' w w'):Below p w w' :=
 ⟨k.os,k.tape,k.output,k.size,fun b hb=>k.block b (by have:=h.lt;omega) (by omega) (fun e=>by have:=(h.own.lt b e.symm).1;omega)⟩
theorem WrP.iff {w:World} {p:Nat} {M:Int} {P Q:Prop} {l m:List UInt8} (h:WrP w p M P l) (hq:Q↔P) (hl:P->l=m):WrP w p M Q m:=by
 obtain ⟨v,S,E,h1,h2,h3,h4⟩:=h;exact ⟨v,S,E,h1,h2,h3.trans hq.symm,fun q=>by rw [<- hl (hq.1 q)];exact h4 (hq.1 q)⟩
theorem WrP.below {w w' : World} {p:Nat} {M:Int} {P:Prop} {l:List UInt8} (h:WrP w p M P l) (hB:Below w.heap.size w w'):WrP w' p M P l:=by
 obtain ⟨v,S,E,h1,h2⟩:=h;exact ⟨v,S,E,h1.below hB,h2⟩
theorem WrP.new (m:Int) (w:World) (hm:0<=m):WrP (w.alloc (.cells #[iI m,.slice none 0 0,.nilIface] 181)) w.heap.size m True []:=by
 have h:=PW.new m w;rw [show max m 0=m by omega] at h;exact ⟨_,_,_,h,hm,by simp,fun _=>rfl⟩
theorem zar (l:List UInt8):(⟨l.toArray⟩:ByteArray).size=l.length:=by simp [ByteArray.size]
theorem zds {p:Nat} {M:Int} {P:Prop} {l t:List UInt8} {v:Value} {S s:ByteArray} {E:Int} {w w' : World} {e:Ending} (h:PW w p v M (Lib.strCells S) E) (hz:(S.size:Int)<=M) (hP:E=0↔P) (hS:P->S=⟨l.toArray⟩)
 (hs:s=⟨t.toArray⟩) (hr:P->(l.length:Int)+t.length<=M) (hw:zay p v M (rlay M S E s) w e w'):zb5 p M P (l++t) w e w':=by
 obtain ⟨h1,v',h2,h3⟩:=hw;refine ⟨h1,?_,h3.below_p h⟩;subst hs;by_cases hp:P
 · have e0:=hP.2 hp;have eS:=hS hp;subst eS e0;have hfit:=hr hp;have er:rlay M ⟨l.toArray⟩ 0 ⟨t.toArray⟩=(⟨(l++t).toArray⟩,0):=by
    unfold rlay;rw [if_neg (by simp),if_neg (by rw [zar,zar];omega),bapp]
   rw [er] at h2;exact ⟨v',_,_,h2,by show (((⟨(l++t).toArray⟩:ByteArray).size:Nat):Int)<=M;rw [zar,List.length_append];omega,by simp [hp],fun _=>rfl⟩
 · have e0:E≠0:=fun x=>hp (hP.1 x);have er:rlay M S E ⟨t.toArray⟩=(S,E):=by unfold rlay;rw [if_pos e0]
   rw [er] at h2;exact ⟨v',_,_,h2,hz,hP,fun q=>absurd q hp⟩
theorem zdt {p:Nat} {M:Int} {P Q:Prop} {l:List UInt8} {v:Value} {S:ByteArray} {E F:Int} {w w' : World} {e:Ending} (h:PW w p v M (Lib.strCells S) E) (hz:(S.size:Int)<=M) (hF:F≠0) (hQ:¬ Q)
 (hw:zay p v M (S,zbc E F) w e w'):zb5 p M (P∧Q) l w e w':=by
 obtain ⟨h1,v',h2,h3⟩:=hw;refine ⟨h1,⟨v',_,_,h2,hz,?_,fun q=>absurd q.2 hQ⟩,h3.below_p h⟩;constructor
 · intro x;have x' : zbc E F=0:=x;unfold zbc at x';split at x'
   · exact absurd x' hF
   · rename_i h0;exact absurd x' h0
 · exact fun q=>absurd q.2 hQ
theorem zb5.more {p:Nat} {M:Int} {P Q:Prop} {l:List UInt8} {w w' : World} {e:Ending} (hq:Q) (h:zb5 p M P l w e w'):zb5 p M (P∧Q) l w e w' :=
 ⟨h.1,h.2.1.iff ⟨fun x=>x.1,fun x=>⟨x,hq⟩⟩ fun _=>rfl,h.2.2⟩
theorem zb1 (k:Nat) (n:Int) (h0:0<=n) (h1:n<((256 ^ k:Nat):Int)):byL k n=nbL k n.toNat:=by
 unfold byL;rw [Int.emod_eq_of_lt h0 h1];rfl
theorem zf5 (n:Nat):padL n=padB n:=by
 unfold padL padB;rw [show padN n=pads n by unfold padN pads;omega]
theorem zew (n:Int):(decide (0<=n)&&decide (n<=4294967295))=decide (isW n):=by
 unfold isW;by_cases h0:0<=n <;> by_cases h1:n<=4294967295 <;> simp [h0,h1]
theorem w_uint (p:Nat) (n M:Int) (P:Prop) (l:List UInt8) (w:World) (h:WrP w p M P l) (hM0:0<=M) (hM1:M<=2147483647) (hr:P->(l.length:Int)+4<=M) :
 Calls Tryz.prog 116 #[.pointer (some ⟨p,0,none⟩),iI n] w (zb5 p M (P∧isW n) (l++nbL 4 n.toNat) w):=by
 obtain ⟨v,S,E,h1,h2,h3,h4⟩:=h;by_cases hn:isW n
 · refine (zfl p v n M E S w h1 hM0 (by omega) (by omega) (by rw [zew];exact decide_eq_true hn)).mono fun e w' hp=>?_;have e4:=zb1 4 n hn.1 (by have:=hn.2;simp;omega);exact (zds (t:=nbL 4 n.toNat) h1 h2 h3 h4 (by rw [e4]) (by rw [zaf];exact hr) hp).more hn
 · refine (puint_bad p v n M E S w h1 (by rw [zew];exact decide_eq_false hn)).mono fun e w' hp=>?_;exact zdt h1 h2 (by decide) hn hp
theorem zeu (p:Nat) (n M:Int) (P:Prop) (l:List UInt8) (w:World) (h:WrP w p M P l) (hM0:0<=M) (hM1:M<=2147483647) (hr:P->(l.length:Int)+8<=M) :
 Calls Tryz.prog 168 #[.pointer (some ⟨p,0,none⟩),iI n] w (zb5 p M P (l++byL 8 n) w):=by
 obtain ⟨v,S,E,h1,h2,h3,h4⟩:=h;refine (phyper p v n M E S w h1 hM0 (by omega) (by omega)).mono fun e w' hp=>?_;exact zds (t:=byL 8 n) h1 h2 h3 h4 rfl (by rw [zbo];exact hr) hp
theorem w_opaque (p:Nat) (m M:Int) (s:List UInt8) (P:Prop) (l:List UInt8) (w:World) (h:WrP w p M P l) (hM0:0<=M) (hM1:M<=2147483647) (hm0:0<=m) (hm1:m<=4294967295) (hr:P->(s.length:Int)<=m->(l.length:Int)+(4+(s.length+pads s.length:Nat))<=M) :
 Calls Tryz.prog 122 #[.pointer (some ⟨p,0,none⟩),iI m,.string ⟨s.toArray⟩] w (zb5 p M (P∧(s.length:Int)<=m) (l++(nbL 4 s.length++(s++padB s.length))) w):=by
 obtain ⟨v,S,E,h1,h2,h3,h4⟩:=h;have hmw:(decide (0<=m)&&decide (m<=4294967295))=true:=by rw [decide_eq_true hm0,decide_eq_true hm1];rfl
 by_cases hn:(s.length:Int)<=m
 · refine (zg0 p v m M E S ⟨s.toArray⟩ w h1 hM0 (by omega) (by have:=zar s;omega) hmw (by have:=zar s;omega)).mono fun e w' hp=>?_;have e4:byL 4 (s.length:Int)=nbL 4 s.length:=by
    (have:=zb1 4 (s.length:Int) (by omega) (by simp;omega));rwa [Int.toNat_natCast] at this
   refine (zds (P:=P) (t:=nbL 4 s.length++(s++padB s.length)) h1 h2 h3 h4 ?_ ?_ hp).more hn
   · rw [zar,e4,zf5,bapp,bapp,List.append_assoc]
   · intro q;(have:=hr q hn);rw [List.length_append,List.length_append,zaf,zau];omega
 · refine (ze3 p v m M E S ⟨s.toArray⟩ w h1 hmw (by have:=zar s;omega)).mono fun e w' hp=>?_;exact zdt h1 h2 (by decide) hn hp
theorem w_count (p:Nat) (m M:Int) (n:Nat) (P:Prop) (l:List UInt8) (w:World) (h:WrP w p M P l) (hM0:0<=M) (hM1:M<=2147483647) (hm0:0<=m) (hm1:m<=4294967295) (hr:P->(l.length:Int)+4<=M) :
 Calls Tryz.prog 120 #[.pointer (some ⟨p,0,none⟩),iI m,iI n] w (zb5 p M (P∧(n:Int)<=m) (l++nbL 4 n) w):=by
 obtain ⟨v,S,E,h1,h2,h3,h4⟩:=h;have hmw:(decide (0<=m)&&decide (m<=4294967295))=true:=by rw [decide_eq_true hm0,decide_eq_true hm1];rfl
 by_cases hn:(n:Int)<=m
 · refine (pcount_ok p v m n M E S w h1 hM0 (by omega) (by omega) hmw (by omega) hn).mono fun e w' hp=>?_;have e4:byL 4 (n:Int)=nbL 4 n:=by
    (have:=zb1 4 (n:Int) (by omega) (by simp;omega));rwa [Int.toNat_natCast] at this
   exact (zds (t:=nbL 4 n) h1 h2 h3 h4 (by rw [e4]) (by rw [zaf];exact hr) hp).more hn
 · refine (zf3 p v m n M E S w h1 hmw (by omega) (by omega)).mono fun e w' hp=>?_;exact zdt h1 h2 (by decide) hn hp
theorem w_fail (p:Nat) (M F:Int) (P:Prop) (l:List UInt8) (w:World) (h:WrP w p M P l) (hF:F≠0) :
 Calls Tryz.prog 115 #[.pointer (some ⟨p,0,none⟩),iI F] w (zb5 p M (P∧False) l w):=by
 obtain ⟨v,S,E,h1,h2,h3,h4⟩:=h;exact (zco p v M E F S w h1).mono fun e w' hp=>zdt h1 h2 hF id hp
theorem w_done_ok (p:Nat) (M:Int) (P:Prop) (l:List UInt8) (w:World) (h:WrP w p M P l) (hT:ErrT w) (hP:P) :
 Calls Tryz.prog 126 #[.pointer (some ⟨p,0,none⟩)] w fun e w'=>e=.returned (.tuple #[.string ⟨l.toArray⟩,iI 0])∧Below w.heap.size w w':=by
 obtain ⟨v,S,E,h1,h2,h3,h4⟩:=h;obtain rfl:=h3.2 hP;obtain rfl:=h4 hP;exact pdone_any p v M 0 _ w h1 hT
theorem zgu (p:Nat) (M:Int) (P:Prop) (l:List UInt8) (w:World) (h:WrP w p M P l) (hT:ErrT w) (hP:¬ P) :
 Calls Tryz.prog 126 #[.pointer (some ⟨p,0,none⟩)] w fun e w'=>(∃ E,E≠0∧e=.returned (.tuple #[.string ⟨#[]⟩,iI E]))∧Below w.heap.size w w':=by
 obtain ⟨v,S,E,h1,h2,h3,h4⟩:=h;have hE:E≠0:=fun x=>hP (h3.1 x);refine (pdone_any p v M E _ w h1 hT).mono fun e w' hp=>⟨⟨E,hE,?_⟩,hp.2⟩;rw [hp.1,if_neg hE]
theorem w_new (m:Int) (w:World) (hm:0<=m):Calls Tryz.prog 76 #[iI m] w fun e w'=>e=.returned (.pointer (some ⟨w.heap.size,0,none⟩))∧w'=w.alloc (.cells #[iI m,.slice none 0 0,.nilIface] 181):=by
 have h:=pnew m w;rwa [show max m 0=m by omega] at h
end Go.Proofs.YtfcbjcebkahehaaGreatDoor
