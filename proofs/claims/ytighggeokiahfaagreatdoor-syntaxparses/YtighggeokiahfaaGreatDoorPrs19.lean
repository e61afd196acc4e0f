import Derived.Test.YtighggeokiahfaaGreatDoorPrs18
import Derived.Test.YtighggeokiahfaaGreatDoorPrs17
import Derived.Test.YtighggeokiahfaaGreatDoorPrs09
import Derived.Test.YtighggeokiahfaaGreatDoorPrs10
set_option maxRecDepth 4000
set_option maxHeartbeats 20000000
namespace Go.Proofs.YtighggeokiahfaaGreatDoor.Lx
open Go.RowKit
def zil (s:Stp) (w:World) (e:Ending) (w' : World):Prop :=
 Below w.heap.size w w'∧match s with
 | .go (some t) j=>e=.returned (.tuple #[.agg #[.int .i64 t.kind,S t.text,.int .i64 t.num,.int .i64 t.at_],.int .i64 j,.int .i64 0])
 | .go none _=>False
 | .err r=>e=.returned (.tuple #[.agg #[.int .i64 0,S [],.int .i64 0,.int .i64 0],.int .i64 0,.int .i64 r])
theorem zk0 (w:World) (l:List UInt8) (i j:Nat) (x y:Int) (hx:x=i) (hy:y=j) (h1:i<=j) (h2:j<=l.length) :
 (Instr.slice 9 (S l) (some (.int .i64 x)) (some (.int .i64 y)) none).run Tryz.prog w=.ok (S (sub l i j)) w:=by
 subst hx hy;have e:=slice_str w (⟨l.toArray⟩:ByteArray) (i:Int) (j:Int) (by omega) (by omega) (by show (j:Int)<=((l.length:Nat):Int);omega);rw [e,Int.toNat_natCast,Int.toNat_natCast,zhk];rfl
theorem one_letter (l:List UInt8) (i:Nat) (w:World) (hi:i<l.length) (hl:l.length<=16000) (hb:zdt (l.getD i 0)=false) (hlet:letB (l.getD i 0)=true):Calls Tryz.prog 43 #[S l,.int .i64 i] w (zil (zdd l i) w):=by
 have hln:=zjk hlet;have hE:=zgl (l:=l) (i:=i+1) (by omega);rw [<- zfs hln.2.2.2.2.2] at hE;have hst:zdd l i=if 32<zas l i - i then .err 32 else .go (some ⟨if za6 (sub l i (zas l i)) then 2 else 1,sub l i (zas l i),0,i⟩) (zas l i):=by
  conv=>lhs;unfold zdd
  rw [if_neg (by rw [hb];decide),if_neg (fun h=>hln.2.1 h.1),if_pos hlet]
 have H1:Hid (∀ w,Calls Tryz.prog 76 #[.int .u8 ((l.getD i 0).toNat:Int)] w fun e w'=>e=.returned (.bool true)∧w'=w):=fun w=>by
  have:=zg1 ((l.getD i 0).toNat:Int) w;rwa [show ze2 ((l.getD i 0).toNat:Int)=true from hlet] at this
 have H2:Hid (∀ w,Calls Tryz.prog 77 #[S l,.int .i64 i] w fun e w'=>e=.returned (.int .i64 (zas l i:Nat))∧w'=w):=fun w=>znp l i w (by omega) (by omega);have hsl:=fun w=>zk0 w l i (zas l i) i (zas l i) rfl rfl (by omega) hE.2;have H3:Hid (∀ w,Calls Tryz.prog 78 #[S (sub l i (zas l i))] w fun e w'=>e=.returned (.bool (za6 (sub l i (zas l i))))∧w'=w):=fun w=>rIsWord_any _ w (by rw [zgj (by omega) hE.2];omega);have hTl:=zgj (l:=l) (i:=i) (j:=zas l i) (by omega) hE.2;have hi' : (i:Int)<l.length:=by omega
 have hcs:({ data:=l.toArray } : ByteArray)[i]'hi=l.getD i 0:=(getD_lt hi).symm;rw [hst];clear hst hln hlet hb;generalize zas l i=E at *;generalize sub l i E=T at *;generalize l.getD i 0=c at *;have hlen:(T.length:Int)<=16000:=by omega
 rw [<- hTl];clear hTl;by_cases h32:32<T.length
 · rw [if_pos h32];have h32' : (32:Int)<T.length:=by omega
   have h32'' : decide ((32:Int)<T.length)=true:=decide_eq_true (by omega);generalize za6 T=b at *;cases b;all_goals (
    (go_enter Tryz.func43,Tryz.ntmps43);(go_wp2_with fail);refine (H1.out _).mono ?_;rintro e w1 ⟨rfl,rfl⟩;(go_wp2_with fail);refine (H2.out _).mono ?_;rintro e w1 ⟨rfl,rfl⟩;(go_wp2_with fail);refine (H3.out _).mono ?_;rintro e w1 ⟨rfl,rfl⟩;go_wp2;exact bodyPost_ret (v:=.tuple #[.agg #[.int .i64 0,S [],.int .i64 0,.int .i64 0],.int .i64 0,.int .i64 32]) (by simp [results,Tryz.results43,go_sem]) rfl ⟨((Below.refl _ _).alloc (Nat.le_refl _) _).alloc (by simp) _,rfl⟩)
 · rw [if_neg h32];have h32'' : decide ((32:Int)<T.length)=false:=decide_eq_false (by omega);cases hw:za6 T
   · rw [hw] at H3;show Calls Tryz.prog 43 #[S l,.int .i64 i] w (zil (.go (some ⟨1,T,0,i⟩) E) w);clear hw;(go_enter Tryz.func43,Tryz.ntmps43);(go_wp2_with fail);refine (H1.out _).mono ?_;rintro e w1 ⟨rfl,rfl⟩;(go_wp2_with fail);refine (H2.out _).mono ?_;rintro e w1 ⟨rfl,rfl⟩;(go_wp2_with fail);refine (H3.out _).mono ?_;rintro e w1 ⟨rfl,rfl⟩;go_wp2;exact bodyPost_ret (v:=.tuple #[.agg #[.int .i64 1,S T,.int .i64 0,.int .i64 i],.int .i64 E,.int .i64 0]) (by simp [results,Tryz.results43,go_sem]) rfl ⟨((Below.refl _ _).alloc (Nat.le_refl _) _).alloc (by simp) _,rfl⟩
   · rw [hw] at H3;show Calls Tryz.prog 43 #[S l,.int .i64 i] w (zil (.go (some ⟨2,T,0,i⟩) E) w);clear hw;(go_enter Tryz.func43,Tryz.ntmps43);(go_wp2_with fail);refine (H1.out _).mono ?_;rintro e w1 ⟨rfl,rfl⟩;(go_wp2_with fail);refine (H2.out _).mono ?_;rintro e w1 ⟨rfl,rfl⟩;(go_wp2_with fail);refine (H3.out _).mono ?_;rintro e w1 ⟨rfl,rfl⟩;go_wp2;exact bodyPost_ret (v:=.tuple #[.agg #[.int .i64 2,S T,.int .i64 0,.int .i64 i],.int .i64 E,.int .i64 0]) (by simp [results,Tryz.results43,go_sem]) rfl ⟨((Below.refl _ _).alloc (Nat.le_refl _) _).alloc (by simp) _,rfl⟩
theorem sub_cons {l:List UInt8} {i j:Nat} (h:i<j) (hj:j<=l.length):sub l i j=l.getD i 0::sub l (i+1) j:=by
 unfold sub;rw [zeh (by omega),show j - i=(j - (i+1))+1 by omega,List.take_succ_cons]
theorem one_number (l:List UInt8) (i:Nat) (w:World) (hi:i<l.length) (hl:l.length<=16000) (hb:zdt (l.getD i 0)=false) (hcm:¬ (l.getD i 0=47∧l.getD (i+1) 0=42)) (hlet:letB (l.getD i 0)=false) (hdg:digB (l.getD (zbb l i) 0)=true):Calls Tryz.prog 43 #[S l,.int .i64 i] w (zil (zdd l i) w):=by
 have hnl:zbb l i<l.length:=by
  rcases Nat.lt_or_ge (zbb l i) l.length with h|h
  · exact h
  · rw [zfw h] at hdg;cases hdg
 have hE:=zgl (l:=l) (i:=zbb l i+1) (by omega);rw [<- zfs (zhj hdg).2.2.2.2.2] at hE;have hst:zdd l i=match numP (sub l i (zas l (zbb l i))) with|none=>.err 31|some n=>.go (some ⟨3,[],n,i⟩) (zas l (zbb l i)):=by
  conv=>lhs;unfold zdd
  rw [if_neg (by rw [hb];decide),if_neg hcm,if_neg (by rw [hlet];decide),if_pos hdg];cases numP (sub l i (zas l (zbb l i))) <;> rfl
 have H1:Hid (∀ w,Calls Tryz.prog 76 #[.int .u8 ((l.getD i 0).toNat:Int)] w fun e w'=>e=.returned (.bool false)∧w'=w):=fun w=>by
  have:=zg1 ((l.getD i 0).toNat:Int) w;rwa [show ze2 ((l.getD i 0).toNat:Int)=false from hlet] at this
 have H4:Hid (∀ w,Calls Tryz.prog 79 #[.int .u8 ((l.getD (zbb l i) 0).toNat:Int)] w fun e w'=>e=.returned (.bool true)∧w'=w):=fun w=>by
  have:=zjh ((l.getD (zbb l i) 0).toNat:Int) w;rwa [show zg7 ((l.getD (zbb l i) 0).toNat:Int)=true from hdg] at this
 have H2:Hid (∀ w,Calls Tryz.prog 77 #[S l,.int .i64 (zbb l i:Nat)] w fun e w'=>e=.returned (.int .i64 (zas l (zbb l i):Nat))∧w'=w):=fun w=>znp l _ w (by omega) (by omega);have hsl:=fun w=>zk0 w l (zbb l i) (zas l (zbb l i)) (zbb l i) (zas l (zbb l i)) rfl rfl (by omega) hE.2;have hTl:=zgj (l:=l) (i:=zbb l i) (j:=zas l (zbb l i)) (by omega) hE.2;have hi' : (i:Int)<l.length:=by omega
 have hcs:({ data:=l.toArray } : ByteArray)[i]'hi=l.getD i 0:=(getD_lt hi).symm;have hcs2:({ data:=l.toArray } : ByteArray)[zbb l i]'hnl=l.getD (zbb l i) 0:=(getD_lt hnl).symm;have hbe:=zel (l.getD i 0) 45;have hnl' : (zbb l i:Int)<l.length:=by omega
 have hT0:(sub l (zbb l i) (zas l (zbb l i))).getD 0 0=l.getD (zbb l i) 0:=sub_getD0 (by omega);rw [hst];clear hst hb hcm hlet;by_cases h45:l.getD i 0=45
 · have hna:zbb l i=i+1:=by unfold zbb;rw [if_pos h45]
   have hNP:numP (sub l i (zas l (zbb l i)))=numR (sub l (zbb l i) (zas l (zbb l i))) true:=by
    rw [numR_minus,sub_cons (by omega) hE.2,h45,hna]
   rw [hNP];have H5:Hid (∀ w,Calls Tryz.prog 80 #[S (sub l (zbb l i) (zas l (zbb l i))),.bool true] w (zhl (numR (sub l (zbb l i) (zas l (zbb l i))) true) w)):=fun w=>znr _ (by omega) (by omega) w;rw [h45] at hcs H1;rw [show ((zbb l i:Nat):Int)=(i:Int)+1 by omega] at H2 hsl hnl';simp only [hna] at *;clear hbe h45 hT0 hTl hNP;generalize numR (sub l (i+1) (zas l (i+1))) true=o at *;generalize sub l (i+1) (zas l (i+1))=T at *;generalize zas l (i+1)=E at *;generalize l.getD (i+1) 0=d at *;cases o with
   | none =>
    (go_enter Tryz.func43,Tryz.ntmps43);(go_wp2_with fail);refine (H1.out _).mono ?_;rintro e w1 ⟨rfl,rfl⟩;(go_wp2_with fail);refine (H4.out _).mono ?_;rintro e w1 ⟨rfl,rfl⟩;(go_wp2_with fail);refine (H2.out _).mono ?_;rintro e w1 ⟨rfl,rfl⟩;(go_wp2_with fail);refine (H5.out _).mono ?_;rintro e w1 ⟨rfl,m,rfl⟩;go_wp2;exact bodyPost_ret (v:=.tuple #[.agg #[.int .i64 0,S [],.int .i64 0,.int .i64 0],.int .i64 0,.int .i64 31]) (by simp [results,Tryz.results43,go_sem]) rfl ⟨(Below.refl _ _).alloc (Nat.le_refl _) _,rfl⟩
   | some n =>
    (go_enter Tryz.func43,Tryz.ntmps43);(go_wp2_with fail);refine (H1.out _).mono ?_;rintro e w1 ⟨rfl,rfl⟩;(go_wp2_with fail);refine (H4.out _).mono ?_;rintro e w1 ⟨rfl,rfl⟩;(go_wp2_with fail);refine (H2.out _).mono ?_;rintro e w1 ⟨rfl,rfl⟩;(go_wp2_with fail);refine (H5.out _).mono ?_;rintro e w1 ⟨rfl,he⟩;simp only at he;subst he;go_wp2;exact bodyPost_ret (v:=.tuple #[.agg #[.int .i64 3,S [],.int .i64 n,.int .i64 i],.int .i64 E,.int .i64 0]) (by simp [results,Tryz.results43,go_sem]) rfl ⟨(Below.refl _ _).alloc (Nat.le_refl _) _,rfl⟩
 · have hna:zbb l i=i:=by unfold zbb;rw [if_neg h45]
   have hd45:(((l.getD i 0).toNat:Int)==45)=false:=hbe.trans (by simpa using h45);simp only [hna] at *;have hNP:numP (sub l i (zas l i))=numR (sub l i (zas l i)) false:=by
    rw [numR_plain (by rw [hT0];exact h45) (fun h=>by rw [h] at hTl;simp at hTl;omega)]
   rw [hNP];have H5:Hid (∀ w,Calls Tryz.prog 80 #[S (sub l i (zas l i)),.bool false] w (zhl (numR (sub l i (zas l i)) false) w)):=fun w=>znq _ (by omega) (by omega) w;clear hbe h45 hT0 hTl hNP hcs2;generalize numR (sub l i (zas l i)) false=o at *;generalize sub l i (zas l i)=T at *;generalize zas l i=E at *;generalize l.getD i 0=d at *;cases o with
   | none =>
    (go_enter Tryz.func43,Tryz.ntmps43);(go_wp2_with fail);refine (H1.out _).mono ?_;rintro e w1 ⟨rfl,rfl⟩;(go_wp2_with fail);refine (H4.out _).mono ?_;rintro e w1 ⟨rfl,rfl⟩;(go_wp2_with fail);refine (H2.out _).mono ?_;rintro e w1 ⟨rfl,rfl⟩;(go_wp2_with fail);refine (H5.out _).mono ?_;rintro e w1 ⟨rfl,m,rfl⟩;go_wp2;exact bodyPost_ret (v:=.tuple #[.agg #[.int .i64 0,S [],.int .i64 0,.int .i64 0],.int .i64 0,.int .i64 31]) (by simp [results,Tryz.results43,go_sem]) rfl ⟨(Below.refl _ _).alloc (Nat.le_refl _) _,rfl⟩
   | some n =>
    (go_enter Tryz.func43,Tryz.ntmps43);(go_wp2_with fail);refine (H1.out _).mono ?_;rintro e w1 ⟨rfl,rfl⟩;(go_wp2_with fail);refine (H4.out _).mono ?_;rintro e w1 ⟨rfl,rfl⟩;(go_wp2_with fail);refine (H2.out _).mono ?_;rintro e w1 ⟨rfl,rfl⟩;(go_wp2_with fail);refine (H5.out _).mono ?_;rintro e w1 ⟨rfl,he⟩;simp only at he;subst he;go_wp2;exact bodyPost_ret (v:=.tuple #[.agg #[.int .i64 3,S [],.int .i64 n,.int .i64 i],.int .i64 E,.int .i64 0]) (by simp [results,Tryz.results43,go_sem]) rfl ⟨(Below.refl _ _).alloc (Nat.le_refl _) _,rfl⟩
theorem one_sign (l:List UInt8) (i:Nat) (w:World) (hi:i<l.length) (hl:l.length<=16000) (hb:zdt (l.getD i 0)=false) (hcm:¬ (l.getD i 0=47∧l.getD (i+1) 0=42)) (hlet:letB (l.getD i 0)=false) (hdg:digB (l.getD (zbb l i) 0)=false):Calls Tryz.prog 43 #[S l,.int .i64 i] w (zil (zdd l i) w):=by
 have hst:zdd l i=if zeu (l.getD i 0) then .go (some ⟨4,sub l i (i+1),0,i⟩) (i+1) else .err 30:=by
  conv=>lhs;unfold zdd
  rw [if_neg (by rw [hb];decide),if_neg hcm,if_neg (by rw [hlet];decide),if_neg (by rw [hdg];decide)]
 have H1:Hid (∀ w,Calls Tryz.prog 76 #[.int .u8 ((l.getD i 0).toNat:Int)] w fun e w'=>e=.returned (.bool false)∧w'=w):=fun w=>by
  have:=zg1 ((l.getD i 0).toNat:Int) w;rwa [show ze2 ((l.getD i 0).toNat:Int)=false from hlet] at this
 have H4:Hid (∀ w,Calls Tryz.prog 79 #[.int .u8 ((l.getD (zbb l i) 0).toNat:Int)] w fun e w'=>e=.returned (.bool false)∧w'=w):=fun w=>by
  have:=zjh ((l.getD (zbb l i) 0).toNat:Int) w;rwa [show zg7 ((l.getD (zbb l i) 0).toNat:Int)=false from hdg] at this
 have H6:Hid (∀ w,Calls Tryz.prog 81 #[.int .u8 ((l.getD i 0).toNat:Int)] w fun e w'=>e=.returned (.bool (zeu (l.getD i 0)))∧w'=w):=fun w=>rsign_any _ w;have hsl:=fun w=>zk0 w l i (i+1) i ((i:Int)+1) rfl (by omega) (by omega) (by omega);have hi' : (i:Int)<l.length:=by omega
 have hcs:({ data:=l.toArray } : ByteArray)[i]'hi=l.getD i 0:=(getD_lt hi).symm;have hbe:=zel (l.getD i 0) 45;have hi2:(i:Int)<=16000:=by omega
 rw [hst];clear hst hb hcm hlet;generalize sub l i (i+1)=T at *;by_cases h45:l.getD i 0=45
 · have hna:zbb l i=i+1:=by unfold zbb;rw [if_pos h45]
   have hsg:zeu (l.getD i 0)=false:=by rw [h45];decide
   rw [if_neg (by rw [hsg];decide)];rw [hsg] at H6;rw [h45] at hcs H1 H6;simp only [hna] at *;clear hbe h45 hsg;by_cases hlt:i+1<l.length
   · have hlt' : (i:Int)+1<l.length:=(by omega);have hcs2:({ data:=l.toArray } : ByteArray)[i+1]'hlt=l.getD (i+1) 0:=(getD_lt hlt).symm;generalize l.getD (i+1) 0=d at *;(go_enter Tryz.func43,Tryz.ntmps43);(go_wp2_with fail);refine (H1.out _).mono ?_;rintro e w1 ⟨rfl,rfl⟩;(go_wp2_with fail);refine (H4.out _).mono ?_;rintro e w1 ⟨rfl,rfl⟩;(go_wp2_with fail);refine (H6.out _).mono ?_;rintro e w1 ⟨rfl,rfl⟩;go_wp2;exact bodyPost_ret (v:=.tuple #[.agg #[.int .i64 0,S [],.int .i64 0,.int .i64 0],.int .i64 0,.int .i64 30]) (by simp [results,Tryz.results43,go_sem]) rfl ⟨(Below.refl _ _).alloc (Nat.le_refl _) _,rfl⟩
   · have hlt' : decide ((i:Int)+1<l.length)=false:=decide_eq_false (by omega);have hlt3:decide (i+1<l.length)=false:=decide_eq_false (by omega);clear H4;(go_enter Tryz.func43,Tryz.ntmps43);(go_wp2_with fail);refine (H1.out _).mono ?_;rintro e w1 ⟨rfl,rfl⟩;(go_wp2_with fail);refine (H6.out _).mono ?_;rintro e w1 ⟨rfl,rfl⟩;go_wp2;exact bodyPost_ret (v:=.tuple #[.agg #[.int .i64 0,S [],.int .i64 0,.int .i64 0],.int .i64 0,.int .i64 30]) (by simp [results,Tryz.results43,go_sem]) rfl ⟨(Below.refl _ _).alloc (Nat.le_refl _) _,rfl⟩
 · have hna:zbb l i=i:=by unfold zbb;rw [if_neg h45]
   have hd45:(((l.getD i 0).toNat:Int)==45)=false:=hbe.trans (by simpa using h45);simp only [hna] at *;clear hbe h45;generalize zeu (l.getD i 0)=sb at *;generalize l.getD i 0=d at *;cases sb
   · rw [if_neg (by decide)];(go_enter Tryz.func43,Tryz.ntmps43);(go_wp2_with fail);refine (H1.out _).mono ?_;rintro e w1 ⟨rfl,rfl⟩;(go_wp2_with fail);refine (H4.out _).mono ?_;rintro e w1 ⟨rfl,rfl⟩;(go_wp2_with fail);refine (H6.out _).mono ?_;rintro e w1 ⟨rfl,rfl⟩;go_wp2;exact bodyPost_ret (v:=.tuple #[.agg #[.int .i64 0,S [],.int .i64 0,.int .i64 0],.int .i64 0,.int .i64 30]) (by simp [results,Tryz.results43,go_sem]) rfl ⟨(Below.refl _ _).alloc (Nat.le_refl _) _,rfl⟩
   · rw [if_pos rfl];(go_enter Tryz.func43,Tryz.ntmps43);(go_wp2_with fail);refine (H1.out _).mono ?_;rintro e w1 ⟨rfl,rfl⟩;(go_wp2_with fail);refine (H4.out _).mono ?_;rintro e w1 ⟨rfl,rfl⟩;(go_wp2_with fail);refine (H6.out _).mono ?_;rintro e w1 ⟨rfl,rfl⟩;go_wp2;exact bodyPost_ret (v:=.tuple #[.agg #[.int .i64 4,S T,.int .i64 0,.int .i64 i],.int .i64 ((i:Int)+1),.int .i64 0]) (by simp [results,Tryz.results43,go_sem]) rfl ⟨(Below.refl _ _).alloc (Nat.le_refl _) _,rfl⟩
theorem one_any (l:List UInt8) (i:Nat) (w:World) (hi:i<l.length) (hl:l.length<=16000) (hb:zdt (l.getD i 0)=false) (hcm:¬ (l.getD i 0=47∧l.getD (i+1) 0=42)):Calls Tryz.prog 43 #[S l,.int .i64 i] w (zil (zdd l i) w):=by
 cases hlet:letB (l.getD i 0)
 · cases hdg:digB (l.getD (zbb l i) 0)
   · exact one_sign l i w hi hl hb hcm hlet hdg
   · exact one_number l i w hi hl hb hcm hlet hdg
 · exact one_letter l i w hi hl hb hlet
theorem own_later {W wr u:World} {v:Value} {k:Nat} {xs:List Value} (h:wr.ownsRow W.heap.size 41 4 v k xs) (hB:Below wr.heap.size wr u):u.ownsRow W.heap.size 41 4 v k xs :=
 h.kept (row:=none) ⟨hB.os,hB.tape,hB.output,hB.size,fun i hi _=>hB.block i hi⟩ (by cases hq:v.ownBlock with|none=>exact .inl rfl|some g=>exact .inr (by simp))
theorem part_step {W wr w2 w4:World} {v:Value} {k:Nat} {xs:List Value} {A:Array Value} {x:Value} (h:wr.ownsRow W.heap.size 41 4 v k xs) (hB:Below W.heap.size W wr) (hB2:Below wr.heap.size wr w2) (hx:A[0]?=some x) (hg:((w2.alloc (.cells A 41)).alloc (.cells A 41)).grownBy w4 v.ownBlock) :
 w4.cell? ⟨w2.heap.size,0,none⟩=some x∧Below W.heap.size W w4:=by
 have hv:∀ q,v.ownBlock=some q->W.heap.size<=q∧q<wr.heap.size:=fun q hq=>h.lt q hq;have hs2:=hB2.size;have hs1:=hB.size;constructor
 · have e:w4.heap[w2.heap.size]?=((w2.alloc (.cells A 41)).alloc (.cells A 41)).heap[w2.heap.size]?:=hg.block _ (by simp;omega) (fun e=>by have:=hv _ e.symm;omega);rw [(cells_of_block e 0).1];have e2:((w2.alloc (.cells A 41)).alloc (.cells A 41)).heap[w2.heap.size]?=(w2.alloc (.cells A 41)).heap[w2.heap.size]?:=Below.heap_alloc _ _ _ (by simp);rw [(cells_of_block e2 0).1];unfold World.cell?;rw [show (w2.alloc (.cells A 41)).heap[w2.heap.size]?=some (.cells A 41 (0,0)) from heap_alloc_new _ _];exact hx
 · have b2:Below W.heap.size W w2:=hB.trans (hB2.mono hs1);exact ((b2.alloc (by omega) _).alloc (by simp;omega) _).grown hg (by simp;omega) (fun q hq=>(hv q hq).1)
theorem heap_new2 (w:World) (a b:Obj):((w.alloc a).alloc b).heap[w.heap.size+1]?=some b:=by
 have:=heap_alloc_new (w.alloc a) b;rwa [World.size_alloc] at this
theorem rscan_long (l:List UInt8) (w:World) (h:16000<l.length):Calls Tryz.prog 27 #[S l] w (zfl (ze9 l) w):=by
 unfold ze9;rw [if_pos h];have h' : (16000:Int)<l.length:=by omega
 go_enter Tryz.func27,Tryz.ntmps27
 go_wp2;go_ret3
 exact ⟨rfl,Below.refl _ _⟩
theorem zly {c:UInt8} : zdt c=(((c.toNat:Int)==32)||((c.toNat:Int)==9)||((c.toNat:Int)==10)||((c.toNat:Int)==13)):=(zm8 c).symm
theorem step_some {l:List UInt8} {i j:Nat} (hb:zdt (l.getD i 0)=false) (hcm:¬ (l.getD i 0=47∧l.getD (i+1) 0=42)) (h:zdd l i=.go none j):False:=by
 unfold zdd at h;rw [if_neg (by rw [hb];decide),if_neg hcm] at h;repeat' split at h
 all_goals cases h
theorem rscan_short (l:List UInt8) (W:World) (hl:l.length<=16000):Calls Tryz.prog 27 #[S l] W (zfl (ze9 l) W):=by
 have HS:Hid (∀ R,Scans l 0 [] R->R=ze9 l):=fun R h=>h.det (zgy hl);obtain ⟨R0,hR0⟩:∃ R0,ze9 l=R0:=⟨_,rfl⟩;rw [hR0] at HS ⊢;clear hR0;have h' : (l.length:Int)<=16000:=by omega
 have hd:decide ((16000:Int)<l.length)=false:=decide_eq_false (by omega);obtain ⟨inf,hi1,hi2,hi3,hi4⟩:=zlj;have HI:Hid (Tryz.prog.info? 41=some inf∧inf.zero=some (.agg #[.int .i64 0,.string ⟨#[]⟩,.int .i64 0,.int .i64 0])∧inf.size=4∧inf.bytes=40):=⟨hi1,hi2,hi3,hi4⟩;clear hi1 hi2 hi3 hi4;go_enter Tryz.func27,Tryz.ntmps27
 go_wp2_with fail
 clear hd;go_loopw [5,6] (fun o i wr=>∃ (k n co:Nat) (oo:Option Addr) (ts:List Tok),i=.int .i64 k∧o=.slice oo n co∧k<=l.length∧n<=k∧Hid (ts.length=n)∧Hid (wr.ownsRow W.heap.size 41 4 (.slice oo n co) n (tokCells ts))∧Hid (Below W.heap.size W wr)∧Hid (∀ R,Scans l k ts R->R=R0)) (fun _ i _=>l.length - (intOf i).toNat)
 case atStart=>exact ⟨0,0,0,none,[],rfl,rfl,by omega,by omega,rfl,World.ownsRow_nil _ _ _ _,Below.refl _ _,HS.out⟩
 case round =>
  obtain ⟨k,n,co,oo,ts,rfl,rfl,hk,hnk,HN,HO,HB,HR⟩:=hrel;by_cases hlt:k<l.length
  · have hk' : (k:Int)<l.length:=(by omega);have hcs:({ data:=l.toArray } : ByteArray)[k]'hlt=l.getD k 0:=(getD_lt hlt).symm;cases hbl:zdt (l.getD k 0);rotate_left
    · have Ac:Hid (∀ R,Scans l (k+1) ts R->R=R0):=fun R h=>HR.out R (.go (t:=none) hlt (by unfold zdd;rw [if_pos hbl]) (by simpa using h));rw [zly] at hbl;clear HR;generalize l.getD k 0=d at *;have hq:((d.toNat:Int)==32)=true∨(((d.toNat:Int)==32)=false∧((d.toNat:Int)==9)=true)∨(((d.toNat:Int)==32)=false∧((d.toNat:Int)==9)=false∧((d.toNat:Int)==10)=true)∨(((d.toNat:Int)==32)=false∧((d.toNat:Int)==9)=false∧((d.toNat:Int)==10)=false∧((d.toNat:Int)==13)=true):=by
       revert hbl
       cases ((d.toNat:Int)==32) <;> cases ((d.toNat:Int)==9) <;> cases ((d.toNat:Int)==10) <;> cases ((d.toNat:Int)==13) <;> simp
      clear hbl;rcases hq with h1|⟨h1,h2⟩|⟨h1,h2,h3⟩|⟨h1,h2,h3,h4⟩;all_goals (
       go_wp2;go_roundw
       case rel=>exact ⟨k+1,n,co,oo,ts,by go_num,rfl,by omega,by omega,HN.out,HO.out,HB.out,Ac.out⟩
       case measure=>simp [intOf];omega)
    · have hq:((l.getD k 0).toNat:Int)≠32∧((l.getD k 0).toNat:Int)≠9∧((l.getD k 0).toNat:Int)≠10∧((l.getD k 0).toNat:Int)≠13:=by
       refine ⟨fun h=>?_,fun h=>?_,fun h=>?_,fun h=>?_⟩ <;> (rw [zly,h] at hbl;simp at hbl)
      have q1:(((l.getD k 0).toNat:Int)==32)=false:=beq_eq_false_iff_ne.2 hq.1;have q2:(((l.getD k 0).toNat:Int)==9)=false:=beq_eq_false_iff_ne.2 hq.2.1;have q3:(((l.getD k 0).toNat:Int)==10)=false:=beq_eq_false_iff_ne.2 hq.2.2.1;have q4:(((l.getD k 0).toNat:Int)==13)=false:=beq_eq_false_iff_ne.2 hq.2.2.2;by_cases hcm:l.getD k 0=47∧l.getD (k+1) 0=42
      · have hk1:k+1<l.length:=by
         rcases Nat.lt_or_ge (k+1) l.length with h|h
         · exact h
         · have:=hcm.2;rw [zfw h] at this;cases this
        have hk1' : (k:Int)+1<l.length:=(by omega);have hcs2:({ data:=l.toArray } : ByteArray)[k+1]'hk1=42:=(by rw [<- hcm.2];exact (getD_lt hk1).symm);have hst:zdd l k=match cend l (k+2) with|none=>.err 33|some j=>.go none j:=by
         (conv=>lhs;unfold zdd);rw [if_neg (by rw [hbl];decide),if_pos hcm];cases cend l (k+2) <;> rfl
        have H1:Hid (∀ w,Calls Tryz.prog 42 #[S l,.int .i64 k] w fun e w'=>e=.returned (.int .i64 (cendV l k:Nat))∧w'=w):=fun w=>rcomment_any l k (by omega) (by omega) w;rw [hcm.1] at hcs;cases hce:cend l (k+2) with
        | none =>
         have HF:Hid (Res.err 33 k=R0):=HR.out _ (.err hlt (by rw [hst,hce]));have hv:cendV l k=0:=(by unfold cendV;rw [hce];rfl);rw [hv] at H1;clear hv hce hst hcm hq hbl q1 q2 q3 q4 HR;(go_wp2_with fail);refine (H1.out _).mono ?_;rintro e w2 ⟨rfl,hw⟩;have hw1:=hw.symm;clear hw;subst hw1;go_wp2;go_ret3
         rw [<- HF.out];exact ⟨rfl,HB.out⟩
        | some j =>
         obtain ⟨hj1,hj2,_⟩:=cend_some hce;have Ac:Hid (∀ R,Scans l j ts R->R=R0):=fun R h=>HR.out R (.go (t:=none) hlt (by rw [hst,hce]) (by simpa using h));have hv:cendV l k=j:=(by unfold cendV;rw [hce];rfl);rw [hv] at H1;have hj0:((j:Int)==0)=false:=beq_eq_false_iff_ne.2 (by omega);clear hv hce hst hcm hq hbl q1 q2 q3 q4 HR;(go_wp2_with fail);refine (H1.out _).mono ?_;rintro e w2 ⟨rfl,hw⟩;have hw1:=hw.symm;clear hw;subst hw1;go_wp2;go_roundw
         case rel=>exact ⟨j,n,co,oo,ts,rfl,rfl,by omega,by omega,HN.out,HO.out,HB.out,Ac.out⟩
         case measure=>simp [intOf];omega
      · have H1:Hid (Calls Tryz.prog 43 #[S l,.int .i64 k] wr (zil (zdd l k) wr)):=one_any l k wr hlt hl hbl hcm;have hcq:(((l.getD k 0).toNat:Int)==47)=false∨((((l.getD k 0).toNat:Int)==47)=true∧decide (k+1<l.length)=false∧decide ((k:Int)+1<l.length)=false)∨((((l.getD k 0).toNat:Int)==47)=true∧k+1<l.length∧(((l.getD (k+1) 0).toNat:Int)==42)=false):=by
         by_cases h47:l.getD k 0=47
         · by_cases hk1:k+1<l.length
           · exact .inr (.inr ⟨by rw [h47];rfl,hk1,(zel _ 42).trans (by simpa using fun h=>hcm ⟨h47,h⟩)⟩)
           · exact .inr (.inl ⟨by rw [h47];rfl,decide_eq_false hk1,decide_eq_false (by omega)⟩)
         · exact .inl ((zel _ 47).trans (by simpa using h47))
        have Af:Hid (W.heap.size<=wr.heap.size):=HB.out.size;have hslt:=fun t j (h:zdd l k=.go t j)=>step_lt hlt h;cases hst:zdd l k with
        | err r =>
         have HF:Hid (Res.err r k=R0):=HR.out _ (.err hlt hst);have hrk:=zll hst;have hr0:(r==0)=false:=beq_eq_false_iff_ne.2 (by omega);rw [hst] at H1;clear hst hcm hq hbl HR hslt hrk;have hcs3:∀ h:k+1<l.length,({ data:=l.toArray } : ByteArray)[k+1]'h=l.getD (k+1) 0:=fun h=>(getD_lt h).symm;generalize l.getD (k+1) 0=d2 at *;generalize l.getD k 0=d at *;rcases hcq with hc1|⟨hc1,hc2,hc3⟩|⟨hc1,hc2,hc3⟩;rotate_left 2
         · have hc4:(k:Int)+1<l.length:=(by omega);have hcs4:=hcs3 hc2;clear hcs3;(go_wp2_with fail);refine H1.out.mono ?_;rintro e w2 ⟨hB2,rfl⟩;have Ag:Hid (Below W.heap.size W w2):=HB.out.trans (hB2.mono Af.out);have Ab:Hid (wr.heap.size<=w2.heap.size):=hB2.size;clear hB2;go_wp2;go_ret3
           rw [<- HF.out];exact ⟨rfl,Ag.out.alloc (Nat.le_trans Af.out Ab.out) _⟩
         all_goals (
          clear hcs3;(go_wp2_with fail);refine H1.out.mono ?_;rintro e w2 ⟨hB2,rfl⟩;have Ag:Hid (Below W.heap.size W w2):=HB.out.trans (hB2.mono Af.out);have Ab:Hid (wr.heap.size<=w2.heap.size):=hB2.size;clear hB2;go_wp2;go_ret3
          rw [<- HF.out];exact ⟨rfl,Ag.out.alloc (Nat.le_trans Af.out Ab.out) _⟩)
        | go t j =>
         cases t with
         | none=>exact (step_some hbl hcm hst).elim
         | some t =>
          obtain ⟨hj1,hj2⟩:=hslt _ _ hst;have Ac:Hid (∀ R,Scans l j (ts++[t]) R->R=R0):=fun R h=>HR.out R (.go hlt hst h);rw [hst] at H1;clear hst hcm hq hbl HR hslt;have hcs3:∀ h:k+1<l.length,({ data:=l.toArray } : ByteArray)[k+1]'h=l.getD (k+1) 0:=fun h=>(getD_lt h).symm;generalize l.getD (k+1) 0=d2 at *;generalize l.getD k 0=d at *;rcases hcq with hc1|⟨hc1,hc2,hc3⟩|⟨hc1,hc2,hc3⟩;rotate_left 2
          · have hc4:(k:Int)+1<l.length:=(by omega);have hcs4:=hcs3 hc2;clear hcs3;(go_wp2_with fail);refine H1.out.mono ?_;rintro e w2 ⟨hB2,rfl⟩;have Aa:Hid (Below wr.heap.size wr w2):=hB2;clear hB2;(go_wp2_with (at_builtin;refine Hid.out ?_));refine (show Hid _ from ?_);refine wpList_append_lies _ rfl _ _ 37 rfl W.heap.size 41 inf (.agg #[.int .i64 0,.string ⟨#[]⟩,.int .i64 0,.int .i64 0]) 4 40 Tryz.underlying37 HI.out.1 HI.out.2.1 HI.out.2.2.1 HI.out.2.2.2 rfl (by decide) (.slice oo n co) n (tokCells ts) rfl (own_later HO.out ((Aa.out.alloc Aa.out.size _).alloc (by have:=Aa.out.size;simp;omega) _)) ⟨w2.heap.size+1,0,none⟩ 1 1 (tokC t) rfl rfl (World.news_of_block (cs:=#[.int .i64 t.kind,S t.text,.int .i64 t.num,.int .i64 t.at_]) (t:=41) (fr:=(0,0)) (heap_new2 _ _ _)) (by simp [tokC,Value.oneCell']) (by omega) (by unfold maxLen;omega) (by omega) (by have h1:=HB.out.size;have h2:=Aa.out.size;simp;omega) _ rfl ?_;intro g3 cap3 w4 hown hgrow hat hlt3;have hps:=part_step HO.out HB.out Aa.out rfl hgrow;have Ad:Hid (Below W.heap.size W w4):=hps.2;have Ae:Hid (w4.ownsRow W.heap.size 41 4 (.slice (some ⟨g3,0,none⟩) (n+1) cap3) (n+1) (tokCells (ts++[t]))):=by
             show World.ownsRow _ _ _ _ _ _ _;rw [zet];exact hown
            clear hown hgrow hat hlt3 hps;go_wp2;go_roundw
            case rel=>exact ⟨j,n+1,cap3,some ⟨g3,0,none⟩,ts++[t],rfl,rfl,by omega,by omega,by show _=_;rw [List.length_append,HN.out];rfl,Ae.out,Ad.out,Ac.out⟩
            case measure=>simp [intOf];omega
          all_goals (
           clear hcs3;(go_wp2_with fail);refine H1.out.mono ?_;rintro e w2 ⟨hB2,rfl⟩;have Aa:Hid (Below wr.heap.size wr w2):=hB2;clear hB2;(go_wp2_with (at_builtin;refine Hid.out ?_));refine (show Hid _ from ?_);refine wpList_append_lies _ rfl _ _ 37 rfl W.heap.size 41 inf (.agg #[.int .i64 0,.string ⟨#[]⟩,.int .i64 0,.int .i64 0]) 4 40 Tryz.underlying37 HI.out.1 HI.out.2.1 HI.out.2.2.1 HI.out.2.2.2 rfl (by decide) (.slice oo n co) n (tokCells ts) rfl (own_later HO.out ((Aa.out.alloc Aa.out.size _).alloc (by have:=Aa.out.size;simp;omega) _)) ⟨w2.heap.size+1,0,none⟩ 1 1 (tokC t) rfl rfl (World.news_of_block (cs:=#[.int .i64 t.kind,S t.text,.int .i64 t.num,.int .i64 t.at_]) (t:=41) (fr:=(0,0)) (heap_new2 _ _ _)) (by simp [tokC,Value.oneCell']) (by omega) (by unfold maxLen;omega) (by omega) (by have h1:=HB.out.size;have h2:=Aa.out.size;simp;omega) _ rfl ?_;intro g3 cap3 w4 hown hgrow hat hlt3;have hps:=part_step HO.out HB.out Aa.out rfl hgrow;have Ad:Hid (Below W.heap.size W w4):=hps.2;have Ae:Hid (w4.ownsRow W.heap.size 41 4 (.slice (some ⟨g3,0,none⟩) (n+1) cap3) (n+1) (tokCells (ts++[t]))):=by
            show World.ownsRow _ _ _ _ _ _ _;rw [zet];exact hown
           clear hown hgrow hat hlt3 hps;go_wp2;go_roundw
           case rel=>exact ⟨j,n+1,cap3,some ⟨g3,0,none⟩,ts++[t],rfl,rfl,by omega,by omega,by show _=_;rw [List.length_append,HN.out];rfl,Ae.out,Ad.out,Ac.out⟩
           case measure=>simp [intOf];omega)
  · obtain rfl:k=l.length:=(by omega);have HF:Hid (Res.ok (ts++[⟨5,[],0,l.length⟩])=R0):=HR.out _ (.done (Nat.le_refl _));clear HR;(go_wp2_with (at_builtin;refine Hid.out ?_));refine (show Hid _ from ?_);refine wpList_append_lies _ rfl _ _ 37 rfl W.heap.size 41 inf (.agg #[.int .i64 0,.string ⟨#[]⟩,.int .i64 0,.int .i64 0]) 4 40 Tryz.underlying37 HI.out.1 HI.out.2.1 HI.out.2.2.1 HI.out.2.2.2 rfl (by decide) (.slice oo n co) n (tokCells ts) rfl (HO.out.alloc _) ⟨wr.heap.size,0,none⟩ 1 1 (tokC ⟨5,[],0,l.length⟩) rfl rfl (World.news_of_block (cs:=#[.int .i64 5,S [],.int .i64 0,.int .i64 l.length]) (t:=41) (fr:=(0,0)) (heap_alloc_new _ _)) (by simp [tokC,Value.oneCell']) (by omega) (by unfold maxLen;omega) (by omega) (by have h1:=HB.out.size;simp;omega) _ rfl ?_;intro g3 cap3 w4 hown hgrow hat hlt3;have Ad:Hid (Below W.heap.size W w4):=(HB.out.alloc HB.out.size _).grown hgrow (by have h1:=HB.out.size;simp;omega) (fun q hq=>(HO.out.lt q hq).1);have Ae:Hid (w4.ownsRow W.heap.size 41 4 (.slice (some ⟨g3,0,none⟩) (n+1) cap3) (n+1) (tokCells (ts++[⟨5,[],0,l.length⟩]))):=by
     show World.ownsRow _ _ _ _ _ _ _;rw [zet];exact hown
    have Ah:Hid ((ts++[(⟨5,[],0,l.length⟩:Tok)]).length=n+1):=(by show _=_;rw [List.length_append,HN.out];rfl);clear hown hgrow hat hlt3;go_wp2;go_ret3
    rw [<- HF.out];refine ⟨g3,cap3,?_,?_,Ad.out⟩
    · rw [Ah.out];rfl
    · rw [Ah.out];exact Ae.out
theorem rscan_any (l:List UInt8) (w:World):Calls Tryz.prog 27 #[S l] w (zfl (ze9 l) w):=by
 rcases Nat.lt_or_ge 16000 l.length with h|h
 · exact rscan_long l w h
 · exact rscan_short l w h
end Go.Proofs.YtighggeokiahfaaGreatDoor.Lx
namespace Go.Proofs.YtighggeokiahfaaGreatDoor.Dm
open Go.RowKit
def ParsePost (R:PRes) (w:World) (e:Ending) (w' : World):Prop :=
 match R with
 | .ok t=>∃ v,e=.returned (.tuple #[v,.int .i64 0,.int .i64 0])∧treeIs w.heap.size t w' v∧Below w.heap.size w w'
 | .err r i=>e=.returned (.tuple #[kidV 0 [] 0 0 (.slice none 0 0),.int .i64 r,.int .i64 i])∧Below w.heap.size w w'
open Lx (zfl tokCells)
theorem bld57 (o:Option Addr) (n c:Nat) (w:World):(Instr.build 57 #[(0,.slice o n c)]).run Tryz.prog w=.ok (.agg #[.slice o n c,.int .i64 0,.int .i64 0,.int .i64 0,.int .i64 0]) w:=by kernel_rfl
theorem DS.made {w:World} {base g cap:Nat} {ts:List Tok} (ho:w.ownsRow base 41 4 (.slice (some ⟨g,0,none⟩) ts.length cap) ts.length (tokCells ts)) (h1:ts.length<=16001) (h0:0<ts.length):
 DS (w.alloc (.cells #[.slice (some ⟨g,0,none⟩) ts.length cap,.int .i64 0,.int .i64 0,.int .i64 0,.int .i64 0] 57)) w.heap.size g cap ts 0 ⟨ts,0,0⟩:=by
 have hg:g<w.heap.size:=(ho.lt g rfl).2;have hc:∀ o,(w.alloc (.cells #[.slice (some ⟨g,0,none⟩) ts.length cap,.int .i64 0,.int .i64 0,.int .i64 0,.int .i64 0] 57)).cell? ⟨g,o,none⟩=w.cell? ⟨g,o,none⟩:=fun o=>World.cell?_alloc_lt _ _ _ hg;refine ⟨0,rfl,heap_alloc_new _ _,⟨?_,?_,?_,?_⟩,h0,h1,Nat.ne_of_lt hg,by simp;omega⟩
 · intro j h;rw [hc,ho.cellAt _ (by omega)];exact (zdi ts j h).1
 · intro j h;rw [hc,ho.cellAt _ (by omega)];exact (zdi ts j h).2.1
 · intro j h;rw [hc,ho.cellAt _ (by omega)];exact (zdi ts j h).2.2.1
 · intro j h;rw [hc,ho.cellAt _ (by omega)];exact (zdi ts j h).2.2.2
theorem def_top (p g cap:Nat) (ts:List Tok) (hE:Ends ts):zgc p g cap ts 0 30 zat:=
 zgg p g cap ts hE 0 (zht p g cap ts hE) (decl_top p g cap ts hE) (program_any p g cap ts hE 0 (zh3 p g cap ts hE 0 (proc_any p g cap ts hE 0)))
theorem defines_any (p g cap:Nat) (ts:List Tok) (d:Int) (s:RS) (w:World) (h:DS w p g cap ts d s):Calls Tryz.prog 28 #[.pointer (some ⟨p,0,none⟩)] w fun e w'=>e=.returned (.bool s.defines)∧Below w.heap.size w w':=by
 have Aq:Hid (p<w.heap.size∧g<w.heap.size):=⟨h.plt,h.glt⟩;have HD:=hid h;have HS:Hid (Sole p w w):=Sole.refl _ _;have Aj:Hid (Below w.heap.size w w):=Below.refl _ _;have Ae:Hid (s.defines=(s.bodied != 0||(s.is [99,111,110,115,116]||(s.is [116,121,112,101,100,101,102]||s.is [112,114,111,103,114,97,109])))):=rfl;clear h;go_enter Tryz.func28,Tryz.ntmps28
 go_wp2_with fail
 refine (zer p g cap ts d s _ HD.out).mono ?_;rintro e w1 ⟨rfl,hB⟩;have Af:=hid hB;have Ak:=hid (HD.out.below Af.out);have An:=hid (HS.out.trans (Sole.of_below Af.out));clear hB;have Aa:=hid (Aj.out.trans (Af.out.mono (Below.size Aj.out)));go_wp2_with fail
 refine (zd8 p g cap ts d [99,111,110,115,116] s _ Ak.out).mono ?_;rintro e w2 ⟨rfl,hB⟩;have Ag:=hid hB;have Al:=hid (Ak.out.below Ag.out);have Ao:=hid (An.out.trans (Sole.of_below Ag.out));clear hB;have Ab:=hid (Aa.out.trans (Ag.out.mono (Below.size Aa.out)));go_wp2_with fail
 refine (zd8 p g cap ts d [116,121,112,101,100,101,102] s _ Al.out).mono ?_;rintro e w3 ⟨rfl,hB⟩;have Ah:=hid hB;have Am:=hid (Al.out.below Ah.out);have Ap:=hid (Ao.out.trans (Sole.of_below Ah.out));clear hB;have Ac:=hid (Ab.out.trans (Ah.out.mono (Below.size Ab.out)));go_wp2_with fail
 refine (zd8 p g cap ts d [112,114,111,103,114,97,109] s _ Am.out).mono ?_;rintro e w4 ⟨rfl,hB⟩;have Ai:=hid hB;have Ar:=hid (Am.out.below Ai.out);have Au:=hid (Ap.out.trans (Sole.of_below Ai.out));clear hB;have Ad:=hid (Ac.out.trans (Ai.out.mono (Below.size Ac.out)));obtain ⟨BK,hBK⟩:∃ x,s.bodied=x:=⟨_,rfl⟩;obtain ⟨b1,hb1⟩:∃ x,s.is [99,111,110,115,116]=x:=⟨_,rfl⟩;obtain ⟨b2,hb2⟩:∃ x,s.is [116,121,112,101,100,101,102]=x:=⟨_,rfl⟩;obtain ⟨b3,hb3⟩:∃ x,s.is [112,114,111,103,114,97,109]=x:=⟨_,rfl⟩;rw [hBK,hb1,hb2,hb3] at Ae;rw [hBK,hb1,hb2,hb3];clear hBK hb1 hb2 hb3;by_cases hk:BK=0
 · subst hk;cases b1 <;> cases b2 <;> cases b3 <;> (go_wp2;go_ret;rw [Ae.out];exact ⟨rfl,Ad.out⟩)
 · have hk2:(BK != 0)=true:=by simp [hk]
   go_wp2;go_ret;rw [Ae.out,hk2];exact ⟨rfl,Ad.out⟩
theorem rparse_lex (l:List UInt8) (r:Int) (i:Nat) (hr:r≠0) (u:World) (Ac:Hid (∀ w1,Calls Tryz.prog 27 #[.string ⟨l.toArray⟩] w1 (zfl (.err r i) w1))):
 Calls Tryz.prog 12 #[.string ⟨l.toArray⟩] u (ParsePost (.err r i) u):=by
 obtain ⟨wa,hwa⟩:∃ x,u.alloc (.cells #[.int .i64 0,.string ⟨#[]⟩,.int .i64 0,.int .i64 0,.slice none 0 0] 29)=x:=⟨_,rfl⟩;have Aa:Hid (Below u.heap.size u wa):=hidB hwa;have Ad:Hid (Kep u wa u.heap.size (kidO 0 [] 0 0 (.slice none 0 0))):=by show Kep _ _ _ _;rw [<- hwa];exact Kep.new (Nat.le_refl _) _
 have qd:=bld_;have hrn:(r != 0)=true:=by simp [hr]
 clear hr;go_enter Tryz.func12,Tryz.ntmps12
 go_wp2_with fail
 clear hwa;refine (Ac.out wa).mono ?_;rintro e ws ⟨rfl,hB⟩;have Ae:=hid hB;have Ab:=hid (Ad.out.below hB);obtain ⟨⟨z0,z1,z2,z3,z4⟩,⟨q0,q1,q2,q3,q4⟩⟩:=zaa Ab.out.1;clear hB;go_wp2;obtain ⟨uz,huz⟩:∃ x,((((ws.setCell ⟨u.heap.size,0,none⟩ (.int .i64 0)).setCell ⟨u.heap.size,1,none⟩ (.string ⟨#[]⟩)).setCell ⟨u.heap.size,2,none⟩ (.int .i64 0)).setCell ⟨u.heap.size,3,none⟩ (.int .i64 0)).setCell ⟨u.heap.size,4,none⟩ (.slice none 0 0)=x:=⟨_,rfl⟩;have hut:uz.heap[u.heap.size]?=some (kidO 0 [] 0 0 (.slice none 0 0)):=by rw [<- huz];exact zc5 (n:=[]) (a:=0) Ab.out.1
 have hbu:Below u.heap.size u uz:=by rw [<- huz];exact (Aa.out.trans (Ae.out.mono Aa.out.size)).trans (zan ws u.heap.size u.heap.size _ _ _ _ _ (Nat.le_refl _))
 rw [huz];obtain ⟨⟨s0,s1,s2,s3,s4⟩,_⟩:=zaa hut;refine bodyPost_ret (v:=.tuple #[.agg #[.int .i64 0,.string ⟨#[]⟩,.int .i64 0,.int .i64 0,.slice none 0 0],.int .i64 r,.int .i64 i]) (by simp [results,Tryz.results12,go_sem,s0,s1,s2,s3,s4]) rfl ?_;exact ⟨rfl,hbu⟩
theorem rparse_toks (l:List UInt8) (ts:List Tok) (h1:ts.length<=16001) (hE:Ends ts) (h0:0<ts.length) (u:World) (Cp:Hid (∀ w1,Calls Tryz.prog 27 #[.string ⟨l.toArray⟩] w1 (zfl (.ok ts) w1))):
 Calls Tryz.prog 12 #[.string ⟨l.toArray⟩] u (ParsePost (if (zc6 (ts.length+1) [] ⟨ts,0,0⟩).2.e==0 then .ok (.node 1 [] 0 0 (zc6 (ts.length+1) [] ⟨ts,0,0⟩).1) else .err (zc6 (ts.length+1) [] ⟨ts,0,0⟩).2.e (zc6 (ts.length+1) [] ⟨ts,0,0⟩).2.pl) u):=by
 obtain ⟨R,hR⟩:∃ R,zc6 (ts.length+1) [] ⟨ts,0,0⟩=R:=⟨_,rfl⟩;rw [hR];have Cl:Hid (R=zc6 (ts.length+1) [] ⟨ts,0,0⟩):=hR.symm;clear hR;obtain ⟨Q,hQ⟩:∃ Q,(if R.2.e==0 then PRes.ok (.node 1 [] 0 0 R.1) else .err R.2.e R.2.pl)=Q:=⟨_,rfl⟩;rw [hQ];have HQ:Hid (Q=(if R.2.e==0 then PRes.ok (.node 1 [] 0 0 R.1) else .err R.2.e R.2.pl)):=hQ.symm;clear hQ;have H1:Hid (ts.length<=16001∧0<ts.length):=⟨h1,h0⟩;obtain ⟨wa,hwa⟩:∃ x,u.alloc (.cells #[.int .i64 0,.string ⟨#[]⟩,.int .i64 0,.int .i64 0,.slice none 0 0] 29)=x:=⟨_,rfl⟩;have Bg:Hid (Below u.heap.size u wa):=hidB hwa;have Bn:Hid (Kep u wa u.heap.size (kidO 0 [] 0 0 (.slice none 0 0))):=by show Kep _ _ _ _;rw [<- hwa];exact Kep.new (Nat.le_refl _) _
 have qb:=bld57;have qc:=bld0;have qd:=bld_;clear h1 h0;go_enter Tryz.func12,Tryz.ntmps12
 go_wp2_with fail
 clear hwa;refine (Cp.out wa).mono ?_;rintro e ws ⟨g,cap,rfl,ho,hB⟩;have HO:=hid ho;have Ba:=hid hB;clear ho hB;go_wp2_with fail
 obtain ⟨w,hw⟩:∃ x,ws.alloc (.cells #[.slice (some ⟨g,0,none⟩) ts.length cap,.int .i64 0,.int .i64 0,.int .i64 0,.int .i64 0] 57)=x:=⟨_,rfl⟩;obtain ⟨wx,hwx⟩:∃ x,w.alloc (.cells #[.int .i64 1,.string ⟨#[]⟩,.int .i64 0,.int .i64 0,.slice none 0 0] 29)=x:=⟨_,rfl⟩;rw [hw,hwx];have Bb:Hid (DS w ws.heap.size g cap ts 0 ⟨ts,0,0⟩):=by show DS _ _ _ _ _ _ _;rw [<- hw];exact DS.made HO.out H1.out.1 H1.out.2
 have Am:Hid (w.heap.size=ws.heap.size+1):=by show _=_;rw [<- hw];simp
 have Bo:Hid (Below w.heap.size w wx):=hidB hwx;have Ax:Hid (Kep w wx (ws.heap.size+1) (kidO 1 [] 0 0 (.slice none 0 0))):=by show Kep _ _ _ _;rw [<- Am.out,<- hwx];exact Kep.new (Nat.le_refl _) _
 have Ae:Hid (u.heap.size<ws.heap.size∧w.heap[u.heap.size]?=some (kidO 0 [] 0 0 (.slice none 0 0))∧Below u.heap.size u w):=⟨Nat.lt_of_lt_of_le Bn.out.lt Ba.out.size,by rw [<- hw];exact za3 (Bn.out.below Ba.out).1,by rw [<- hw];exact (Bg.out.trans (Ba.out.mono Bg.out.size)).alloc (Nat.le_trans Bg.out.size Ba.out.size) _⟩;obtain ⟨p,hp⟩:∃ x,ws.heap.size=x:=⟨_,rfl⟩;rw [hp] at Bb Am Ax Ae;rw [hp];clear hp hw hwx HO Ba Bn Bg;have Ai:Hid (p<w.heap.size∧g<w.heap.size):=⟨Bb.out.plt,Bb.out.glt⟩;have HD:=hid (Bb.out.below Bo.out);have HS:Hid (Sole p w wx):=Sole.of_below Bo.out;have Cm:=hid (def_top p g cap ts hE);clear Bb Bo;go_loopw [] (fun wr=>∃ (acc:List Tree) (N:Nat) (oq:Option Addr) (cq:Nat) (st:RS) (f:Nat),Hid (DS wr p g cap ts 0 st)∧Hid (Sole p w wr)∧Hid (Kep w wr (p+1) (kidO 1 [] 0 0 (.slice oq N cq)))∧Hid (ListAt (zaf (p+2)) wr acc (.slice oq N cq))∧Hid (R=zc6 f acc st)∧Hid (N+f=ts.length+1∧(st.e=0->st.n<f))) (fun wr=>mu p ts.length wr)
 case atStart => exact ⟨[],0,none,0,⟨ts,0,0⟩,ts.length+1,HD,HS,Ax,listAt_nil,Cl,⟨by omega,fun _=>Nat.lt_succ_self _⟩⟩
 case round =>
  clear HD HS Ax Cl;obtain ⟨acc,N,oq,cq,st,f,Bc,Bh,Bi,Bp,Bq,Bj⟩:=hrel;have Cn:Hid (mu p ts.length wr=muS st):=zd5 Bc.out;have Co:Hid (N<=20000):=by show _<=_;have:=Bj.out.1;have:=H1.out.1;omega
  obtain ⟨⟨x0,x1,x2,x3,x4⟩,⟨y0,y1,y2,y3,y4⟩⟩:=zaa Bi.out.1;have Br:Hid (wr.heap[u.heap.size]?=some (kidO 0 [] 0 0 (.slice none 0 0))):=by show _=_;rw [Bh.out.block _ (by have h1:=Ae.out.1;have h2:=Am.out;omega) (by have h1:=Ae.out.1;omega)];exact Ae.out.2.1
  obtain ⟨i,hi,h1,hh,hs⟩:=Bc.out.at_;have Cu:Hid (DP wr p g cap ts i 0 st.e st.pl∧st.hd=ts[i]∧st.ts=ts.drop i):=⟨h1,hh,hs⟩;have Cq:Hid ((i:Int)<=16001):=by show _<=_;have:=h1.ln;omega
  have hl:=h1.look hi;obtain ⟨E0,hE0⟩:∃ x,st.e=x:=⟨_,rfl⟩;obtain ⟨K,hK⟩:∃ x,ts[i].kind=x:=⟨_,rfl⟩;obtain ⟨M,hM⟩:∃ x,ts[i].num=x:=⟨_,rfl⟩;obtain ⟨A,hA⟩:∃ x,ts[i].at_=x:=⟨_,rfl⟩;obtain ⟨S,hS⟩:∃ x,ts[i].text=x:=⟨_,rfl⟩;rw [hE0,hK,hM,hA,hS] at hl;have HF:Hid (st.e=E0∧st.hd.kind=K∧st.hd.num=M∧st.hd.at_=A∧st.hd.text=S):=⟨hE0,by rw [hh];exact hK,by rw [hh];exact hM,by rw [hh];exact hA,by rw [hh];exact hS⟩;clear hE0 hK hM hA hS hh hs h1;obtain ⟨hp,hg,hi',c0,c1,c3,t0,t1,t2,t3,f1⟩:=hl;have c1x:∀ x,(wr.alloc x).cell? ⟨p,1,none⟩=some (.int .i64 i):=fun x=>by rw [World.cell?_alloc_lt _ _ _ hp];exact c1
  have c3x:∀ x,(wr.alloc x).cell? ⟨p,3,none⟩=some (.int .i64 E0):=fun x=>by rw [World.cell?_alloc_lt _ _ _ hp];exact c3
  have f1x:∀ x,(wr.alloc x).frozen? ⟨p,1,none⟩=false:=fun x=>by rw [World.frozen?_alloc_old _ _ _ (Nat.ne_of_lt hp)];exact f1
  have Cv:Hid (∀ x k,Below wr.heap.size wr ((wr.alloc x).drewN k)):=fun x k=>zad (zab wr x) k;have hne:¬ p=wr.heap.size:=by omega
  have hne2:¬ wr.heap.size=p:=by omega
  have him:=Cq.out;by_cases he:E0=0
  case neg =>
   have he2:(E0==0)=false:=by simp [he]
   have Bs:Hid (R=(acc,st)):=Bq.out.trans (zf5 (by rw [HF.out.1];exact he) f acc);go_wp2_with fail
   go_region;all_goals (
    clear c0 c1 c3 t0 t1 t2 t3 f1 c1x c3x f1x hne hne2 him hp hg hi' x0 x1 x2 x3 x4 y0 y1 y2 y3 y4;have An:=hid (Bc.out.below (zah _));have Ao:=hid (Bh.out.trans (Sole.of_below (zah _)));have Ar:=hid (Bi.out.below (zah _));have Au:=hid (ListAt.below Bp.out (zah _));have Aj:Hid (wr.drew.heap[u.heap.size]?=some (kidO 0 [] 0 0 (.slice none 0 0))):=Br.out;obtain ⟨wv,hwv⟩:∃ x,wr.drew=x:=⟨_,rfl⟩;(try rw [hwv]);rw [hwv] at An Ao Ar Au Aj;clear hwv;obtain ⟨EX,hEX⟩:∃ x,st.e=x:=⟨_,rfl⟩;obtain ⟨PX,hPX⟩:∃ x,st.pl=x:=⟨_,rfl⟩;have Av:Hid (R=(acc,⟨st.ts,EX,PX⟩)):=(by show _=_;rw [Bs.out,<- hEX,<- hPX]);obtain ⟨ix,hi0,hdp⟩:=An.out;obtain ⟨⟨b0,b1,b2,b3,b4⟩,_⟩:=zb4 hdp.blk;rw [hEX] at b3;rw [hPX] at b4;clear hEX hPX hi0 hdp;obtain ⟨⟨x0,x1,x2,x3,x4⟩,_⟩:=zaa Ar.out.1;obtain ⟨⟨z0,z1,z2,z3,z4⟩,⟨q0,q1,q2,q3,q4⟩⟩:=zaa Aj.out;have hn5:¬ u.heap.size=p:=(by have:=Ae.out.1;omega);have hn6:¬ p=u.heap.size:=(by omega);have hn7:¬ u.heap.size=p+1:=(by have:=Ae.out.1;omega);have hn8:¬ p+1=u.heap.size:=(by omega);have Aw:Hid (Below u.heap.size u wv):=Sole.to_below Ae.out.2.2 (by have:=Ae.out.1;omega) Ao.out;by_cases hex:EX=0
    case neg =>
     have hex2:(EX != 0)=true:=(by simp [hex]);have Ak:Hid (Q=.err EX PX):=(by show _=_;rw [HQ.out,Av.out];show (if (EX==0)=true then _ else _)=_;rw [show (EX==0)=false by simp [hex]];rfl);(go_wp2_with fail);go_region;all_goals (
      go_wp2;obtain ⟨uz,huz⟩:∃ x,((((wv.setCell ⟨u.heap.size,0,none⟩ (.int .i64 0)).setCell ⟨u.heap.size,1,none⟩ (.string ⟨#[]⟩)).setCell ⟨u.heap.size,2,none⟩ (.int .i64 0)).setCell ⟨u.heap.size,3,none⟩ (.int .i64 0)).setCell ⟨u.heap.size,4,none⟩ (.slice none 0 0)=x:=⟨_,rfl⟩;have hut:uz.heap[u.heap.size]?=some (kidO 0 [] 0 0 (.slice none 0 0)):=(by rw [<- huz];exact zc5 (n:=[]) (a:=0) Aj.out);have hbu:Below u.heap.size u uz:=(by rw [<- huz];exact Aw.out.trans (zan wv u.heap.size u.heap.size _ _ _ _ _ (Nat.le_refl _)));rw [huz];obtain ⟨⟨s0,s1,s2,s3,s4⟩,_⟩:=zaa hut;refine bodyPost_ret (v:=.tuple #[.agg #[.int .i64 0,.string ⟨#[]⟩,.int .i64 0,.int .i64 0,.slice none 0 0],.int .i64 EX,.int .i64 PX]) (by simp [results,Tryz.results12,go_sem,s0,s1,s2,s3,s4]) rfl ?_;rw [Ak.out]
      exact ⟨rfl,hbu.drew⟩)
    obtain rfl:EX=0:=hex;have Ak:Hid (Q=.ok (.node 1 [] 0 0 acc)):=(by show _=_;rw [HQ.out,Av.out];rfl);go_wp2;obtain ⟨uz,huz⟩:∃ x,((((wv.setCell ⟨u.heap.size,0,none⟩ (.int .i64 1)).setCell ⟨u.heap.size,1,none⟩ (.string ⟨#[]⟩)).setCell ⟨u.heap.size,2,none⟩ (.int .i64 0)).setCell ⟨u.heap.size,3,none⟩ (.int .i64 0)).setCell ⟨u.heap.size,4,none⟩ (.slice oq N cq)=x:=⟨_,rfl⟩;have hut:uz.heap[u.heap.size]?=some (kidO 1 [] 0 0 (.slice oq N cq)):=(by rw [<- huz];exact zc5 (n:=[]) (a:=0) Aj.out);have hub:∀ b,b≠u.heap.size->uz.heap[b]?=wv.heap[b]?:=(by rw [<- huz];exact zbf wv u.heap.size _ _ _ _ _);have hbu:Below u.heap.size u uz:=(by rw [<- huz];exact Aw.out.trans (zan wv u.heap.size u.heap.size _ _ _ _ _ (Nat.le_refl _)));rw [huz];obtain ⟨⟨s0,s1,s2,s3,s4⟩,_⟩:=zaa hut;refine bodyPost_ret (v:=.tuple #[.agg #[.int .i64 1,.string ⟨#[]⟩,.int .i64 0,.int .i64 0,.slice oq N cq],.int .i64 0,.int .i64 0]) (by simp [results,Tryz.results12,go_sem,s0,s1,s2,s3,s4]) rfl ?_;rw [Ak.out]
    exact ⟨_,rfl,zaz Au.out (fun b hb=>by have h1:p+2<=b:=hb;have h2:=Ae.out.1;omega) (fun b hb=>by have h1:p+2<=b:=hb;have h2:=Ae.out.1;omega) hub,hbu⟩)
  subst he;by_cases hk5:K=5
  case pos =>
   subst hk5;have Bs:Hid (R=(acc,st)):=by
    show _=_;rw [Bq.out];cases f with
    | zero=>rfl
    | succ f=>rw [zc6,HF.out.1,HF.out.2.1];rfl
   go_wp2_with fail
   go_region;all_goals (
    clear c0 c1 c3 t0 t1 t2 t3 f1 c1x c3x f1x hne hne2 him hp hg hi' x0 x1 x2 x3 x4 y0 y1 y2 y3 y4;have An:=hid (Bc.out.below (zah _));have Ao:=hid (Bh.out.trans (Sole.of_below (zah _)));have Ar:=hid (Bi.out.below (zah _));have Au:=hid (ListAt.below Bp.out (zah _));have Aj:Hid (wr.drew.heap[u.heap.size]?=some (kidO 0 [] 0 0 (.slice none 0 0))):=Br.out;obtain ⟨wv,hwv⟩:∃ x,wr.drew=x:=⟨_,rfl⟩;(try rw [hwv]);rw [hwv] at An Ao Ar Au Aj;clear hwv;obtain ⟨EX,hEX⟩:∃ x,st.e=x:=⟨_,rfl⟩;obtain ⟨PX,hPX⟩:∃ x,st.pl=x:=⟨_,rfl⟩;have Av:Hid (R=(acc,⟨st.ts,EX,PX⟩)):=(by show _=_;rw [Bs.out,<- hEX,<- hPX]);obtain ⟨ix,hi0,hdp⟩:=An.out;obtain ⟨⟨b0,b1,b2,b3,b4⟩,_⟩:=zb4 hdp.blk;rw [hEX] at b3;rw [hPX] at b4;clear hEX hPX hi0 hdp;obtain ⟨⟨x0,x1,x2,x3,x4⟩,_⟩:=zaa Ar.out.1;obtain ⟨⟨z0,z1,z2,z3,z4⟩,⟨q0,q1,q2,q3,q4⟩⟩:=zaa Aj.out;have hn5:¬ u.heap.size=p:=(by have:=Ae.out.1;omega);have hn6:¬ p=u.heap.size:=(by omega);have hn7:¬ u.heap.size=p+1:=(by have:=Ae.out.1;omega);have hn8:¬ p+1=u.heap.size:=(by omega);have Aw:Hid (Below u.heap.size u wv):=Sole.to_below Ae.out.2.2 (by have:=Ae.out.1;omega) Ao.out;by_cases hex:EX=0
    case neg =>
     have hex2:(EX != 0)=true:=(by simp [hex]);have Ak:Hid (Q=.err EX PX):=(by show _=_;rw [HQ.out,Av.out];show (if (EX==0)=true then _ else _)=_;rw [show (EX==0)=false by simp [hex]];rfl);(go_wp2_with fail);go_region;all_goals (
      go_wp2;obtain ⟨uz,huz⟩:∃ x,((((wv.setCell ⟨u.heap.size,0,none⟩ (.int .i64 0)).setCell ⟨u.heap.size,1,none⟩ (.string ⟨#[]⟩)).setCell ⟨u.heap.size,2,none⟩ (.int .i64 0)).setCell ⟨u.heap.size,3,none⟩ (.int .i64 0)).setCell ⟨u.heap.size,4,none⟩ (.slice none 0 0)=x:=⟨_,rfl⟩;have hut:uz.heap[u.heap.size]?=some (kidO 0 [] 0 0 (.slice none 0 0)):=(by rw [<- huz];exact zc5 (n:=[]) (a:=0) Aj.out);have hbu:Below u.heap.size u uz:=(by rw [<- huz];exact Aw.out.trans (zan wv u.heap.size u.heap.size _ _ _ _ _ (Nat.le_refl _)));rw [huz];obtain ⟨⟨s0,s1,s2,s3,s4⟩,_⟩:=zaa hut;refine bodyPost_ret (v:=.tuple #[.agg #[.int .i64 0,.string ⟨#[]⟩,.int .i64 0,.int .i64 0,.slice none 0 0],.int .i64 EX,.int .i64 PX]) (by simp [results,Tryz.results12,go_sem,s0,s1,s2,s3,s4]) rfl ?_;rw [Ak.out]
      exact ⟨rfl,hbu.drew⟩)
    obtain rfl:EX=0:=hex;have Ak:Hid (Q=.ok (.node 1 [] 0 0 acc)):=(by show _=_;rw [HQ.out,Av.out];rfl);go_wp2;obtain ⟨uz,huz⟩:∃ x,((((wv.setCell ⟨u.heap.size,0,none⟩ (.int .i64 1)).setCell ⟨u.heap.size,1,none⟩ (.string ⟨#[]⟩)).setCell ⟨u.heap.size,2,none⟩ (.int .i64 0)).setCell ⟨u.heap.size,3,none⟩ (.int .i64 0)).setCell ⟨u.heap.size,4,none⟩ (.slice oq N cq)=x:=⟨_,rfl⟩;have hut:uz.heap[u.heap.size]?=some (kidO 1 [] 0 0 (.slice oq N cq)):=(by rw [<- huz];exact zc5 (n:=[]) (a:=0) Aj.out);have hub:∀ b,b≠u.heap.size->uz.heap[b]?=wv.heap[b]?:=(by rw [<- huz];exact zbf wv u.heap.size _ _ _ _ _);have hbu:Below u.heap.size u uz:=(by rw [<- huz];exact Aw.out.trans (zan wv u.heap.size u.heap.size _ _ _ _ _ (Nat.le_refl _)));rw [huz];obtain ⟨⟨s0,s1,s2,s3,s4⟩,_⟩:=zaa hut;refine bodyPost_ret (v:=.tuple #[.agg #[.int .i64 1,.string ⟨#[]⟩,.int .i64 0,.int .i64 0,.slice oq N cq],.int .i64 0,.int .i64 0]) (by simp [results,Tryz.results12,go_sem,s0,s1,s2,s3,s4]) rfl ?_;rw [Ak.out]
    exact ⟨_,rfl,zaz Au.out (fun b hb=>by have h1:p+2<=b:=hb;have h2:=Ae.out.1;omega) (fun b hb=>by have h1:p+2<=b:=hb;have h2:=Ae.out.1;omega) hub,hbu⟩)
  have hk6:(K != 5)=true:=by simp [hk5]
  obtain ⟨f,rfl⟩:∃ f' : Nat,f=f'+1:=⟨f-1,by have:=Bj.out.2 HF.out.1;omega⟩;have Bl:Hid (R=if st.defines&&acc.length==100 then (acc,st.fail 42) else zc6 f (acc++[(zat st).1]) (zat st).2):=by
   show _=_;rw [Bq.out,zc6,HF.out.1,HF.out.2.1,hk6];rfl
  go_wp2_with fail
  go_region;all_goals (
   clear c0 c1 c3 t0 t1 t2 t3 f1 c1x c3x f1x hne hne2 him hp hg hi' x0 x1 x2 x3 x4 y0 y1 y2 y3 y4;have An:=hid (Bc.out.below (zah _));have Ao:=hid (Bh.out.trans (Sole.of_below (zah _)));have Ar:=hid (Bi.out.below (zah _));have Au:=hid (ListAt.below Bp.out (zah _));have Aj:Hid (wr.drew.heap[u.heap.size]?=some (kidO 0 [] 0 0 (.slice none 0 0))):=Br.out;obtain ⟨wv,hwv⟩:∃ x,wr.drew=x:=⟨_,rfl⟩;try rw [hwv]
   rw [hwv] at An Ao Ar Au Aj;clear hwv;go_wp2_with fail
   refine (defines_any p g cap ts 0 st _ An.out).mono ?_;rintro e w11 ⟨rfl,hB⟩;have Al:=hid hB;have Ay:=hid (An.out.below Al.out);have Ap:=hid (Ao.out.trans (Sole.of_below Al.out));have Aa:=hid (Ar.out.below Al.out);have Ac:=hid (ListAt.below Au.out Al.out);clear hB;have Cr:Hid (w11.heap[u.heap.size]?=some (kidO 0 [] 0 0 (.slice none 0 0))):=by show _=_;rw [Al.out.block _ (by have h1:=Ae.out.1;have h2:=Aa.out.2;have h3:=Am.out;have h4:=Ao.out.size;omega)];exact Aj.out
   have Cs:Hid (acc.length=N):=zf9 Ac.out;rw [Cs.out] at Bl;obtain ⟨⟨x0,x1,x2,x3,x4⟩,⟨y0,y1,y2,y3,y4⟩⟩:=zaa Aa.out.1;have Bm:Hid (2*(zat st).2.n+(if (zat st).2.e=0 then 1 else 0)<2*st.n+(if st.e=0 then 1 else 0)):=zcs (by simp) (def_le st) HF.out.1;cases hdf:st.defines with
   | false =>
    have Az:Hid (R=zc6 f (acc++[(zat st).1]) (zat st).2):=(by show _=_;rw [Bl.out];rw [hdf];rfl);have Bt:Hid (∀ m,Calls Tryz.prog 30 #[.pointer (some ⟨p,0,none⟩)] (w11.drewN m) (zdh p g cap ts 0 (treeIs w11.heap.size) (zat st) w11)):=fun m=>by
     have hB:Below w11.heap.size w11 (w11.drewN m):=zad (Below.refl _ _) m;exact (Cm.out st _ (Ay.out.below hB)).mono fun e w' hp=>zdh.of_below hB hp
    (have Bu:Hid (∀ b,(zaf (p+2)) b->b≠p):=fun b hb=>by have h1:p+2<=b:=hb;omega);(have Bv:Hid (∀ q,(Value.slice oq N cq).ownBlock=some q->w.heap.size<=q):=fun q e=>by have h1:p+2<=q:=(zb2 Ac.out e).1;have h2:=Am.out;omega);have Bd:Hid (p+1<w11.heap.size):=Aa.out.lt;go_wp2_with fail
    go_region_law (first
     | (refine zbw rfl 30 #[.pointer (some ⟨p,0,none⟩)] (by go_simp) _ (Bt.out _) ?_
        rintro e w5 ⟨v,rfl,hv,hD,hS⟩;refine ⟨_,rfl,?_⟩;obtain ⟨k8,n8,m8,a8,ks8,o8,l8,c8,he8,rfl⟩:=zam hv;obtain ⟨wb,hwb⟩:∃ x,w5.alloc (.cells #[.int .i64 k8,.string ⟨n8.toArray⟩,.int .i64 m8,.int .i64 a8,.slice o8 l8 c8] 29)=x:=⟨_,rfl⟩;have Ct:=hid hwb;have hBb:Below w5.heap.size w5 wb:=(by rw [<- hwb];exact zab _ _);have Bw:=hid (hD.below hBb);have Bx:=hid ((Ap.out.trans hS).trans (Sole.of_below hBb));have Ad:=hid ((Aa.out.sole Ai.out.1 hS).below hBb);have Bz:Hid (ListAt (zaf (p+2)) wb acc (.slice oq N cq)):=ListAt.below (ListAt.sole Ac.out Bu.out hS) hBb;have Ca:Hid (wb.heap[w5.heap.size]?=some (kidO k8 n8 m8 a8 (.slice o8 l8 c8))):=(by show _=_;rw [<- hwb];exact heap_alloc_new _ _);have Cb:Hid (w11.heap.size<=w5.heap.size∧wb.heap.size=w5.heap.size+1):=⟨hS.size,by rw [<- hwb];simp⟩;have Be:Hid (∀ q,(Value.slice oq N cq).ownBlock=some q->(zaf (p+2)) q∧q<w11.heap.size):=fun q e=>zb2 Ac.out e;have Cc:=hid he8;have Cd:Hid (TreeAt (fun b=>(zaf (p+2)) b∧(Value.slice oq N cq).ownBlock≠some b) wb (.node k8 n8 m8 a8 ks8) (kidV k8 n8 m8 a8 (.slice o8 l8 c8))):=by
         rw [he8] at hv;refine (TreeAt.below hv hBb).weaken (fun b hb=>?_);have hb1:w11.heap.size<=b:=hb;have hz4:=Bd.out;exact ⟨(by show p+2<=b;omega),fun e=>by have:=(Be.out b e).2;omega⟩
        have Ce:Hid ((zaf (p+2)) wb.heap.size):=by
         have hb1:w11.heap.size<=wb.heap.size:=(by have:=Cb.out;omega);have hz4:=Bd.out;exact (by show p+2<=wb.heap.size;omega)
        have u4:=(zaa (Aa.out.sole Ai.out.1 hS).1).1.2.2.2.2;have x4:=(zaa Ad.out.1).1.2.2.2.2;clear hv hD hS hBb he8
        unfold kidV)
     | (refine zfi _ rfl _ _ rfl (zaf (p+2)) acc oq N cq Bz.out rfl Co.out w5.heap.size k8 m8 n8 a8 ks8 o8 l8 c8 rfl Ca.out Cd.out Ce.out ?_
        intro gq cq2 w6 hA;have Bf:=hid (hA.ds Bw.out Bx.out Bv.out Ai.out.1 Ai.out.2);have Cf:=hid Bf.out.1;have Cg:=hid Bf.out.2;have Ab:=hid (za0 Ad.out hA.grow (fun e=>by have h1:=(Be.out _ e).1;exact (by have h2:p+2<=p+1:=h1;omega)));have Ch:Hid (ListAt (zaf (p+2)) w6 (acc++[.node k8 n8 m8 a8 ks8]) (.slice (some ⟨gq,0,none⟩) (N+1) cq2)):=hA.list;obtain ⟨⟨j0,j1,j2,j3,j4⟩,⟨g0,g1,g2,g3,g4⟩⟩:=zaa Ab.out.1
        clear hA))
    all_goals (
     have Af:Hid (DS (w6.setCell ⟨p+1,4,none⟩ (.slice (some ⟨gq,0,none⟩) (N+1) cq2)) p g cap ts 0 (zat st).2∧Sole p w (w6.setCell ⟨p+1,4,none⟩ (.slice (some ⟨gq,0,none⟩) (N+1) cq2))∧Kep w (w6.setCell ⟨p+1,4,none⟩ (.slice (some ⟨gq,0,none⟩) (N+1) cq2)) (p+1) (kidO 1 [] 0 0 (.slice (some ⟨gq,0,none⟩) (N+1) cq2))∧ListAt (zaf (p+2)) (w6.setCell ⟨p+1,4,none⟩ (.slice (some ⟨gq,0,none⟩) (N+1) cq2)) (acc++[.node k8 n8 m8 a8 ks8]) (.slice (some ⟨gq,0,none⟩) (N+1) cq2)):=by
      have h1:=Am.out;have h2:=Ai.out;exact ⟨Cf.out.set (by omega) (by omega) _ _,Sole.set Cg.out (by omega) _ _,⟨zae Ab.out.1,Ab.out.2⟩,ListAt.but (r:=p+1) Ch.out (fun b hb=>by have h3:p+2<=b:=hb;omega) (fun b hb=>Below.heap_setCell _ _ _ _ hb)⟩
     go_wp2;generalize w6.setCell ⟨p+1,4,none⟩ (.slice (some ⟨gq,0,none⟩) (N+1) cq2)=w7 at Af ⊢;rw [Cc.out] at Az;go_roundw
     case rel =>
      refine ⟨_,N+1,some ⟨gq,0,none⟩,cq2,(zat st).2,f,Af.out.1,Af.out.2.1,Af.out.2.2.1,Af.out.2.2.2,Az,?_⟩;have h1:=Bj.out;have h5:=Bm.out;rw [if_pos HF.out.1] at h5;refine ⟨by omega,fun h0=>?_⟩;have h3:=h1.2 HF.out.1;rw [if_pos h0] at h5;omega
     case measure =>
      rw [zd5 Af.out.1,Cn.out,zcd,zcd]
      exact Bm.out)
   | true =>
    by_cases h64:N=100
    case pos =>
     have j64:((N:Int)==100)=true:=(by simp;omega);have Az:Hid (R=(acc,st.fail 42)):=(by show _=_;rw [Bl.out,hdf,h64];rfl);clear h64;(go_wp2_with fail);refine (zbs p g cap ts 0 42 st _ Ay.out).mono ?_;rintro e w12 ⟨rfl,hD,hS⟩;have Aq:=hid hS;have Ci:=hid hD;have Cj:=hid (Ap.out.trans Aq.out);have Ag:=hid (Aa.out.sole Ai.out.1 Aq.out);have Ah:=hid (ListAt.sole Ac.out (by intro b hb;have hpg:=Ai.out.1;have hb2:=hb;first | (unfold zaf at hb2;omega) | exact (by have h1:p+2<=b:=hb;omega)) Aq.out);clear hD hS;have Ck:Hid (w12.heap[u.heap.size]?=some (kidO 0 [] 0 0 (.slice none 0 0))):=(by show _=_;rw [Aq.out.block _ (by have h1:=Ae.out.1;have h2:=Am.out;have h3:=Ap.out.size;omega) (by have h1:=Ae.out.1;omega)];exact Cr.out);obtain ⟨EX,hEX⟩:∃ x,(st.fail 42).e=x:=⟨_,rfl⟩;obtain ⟨PX,hPX⟩:∃ x,(st.fail 42).pl=x:=⟨_,rfl⟩;have Av:Hid (R=(acc,⟨(st.fail 42).ts,EX,PX⟩)):=(by show _=_;rw [Az.out,<- hEX,<- hPX]);obtain ⟨ix,hi0,hdp⟩:=Ci.out;obtain ⟨⟨b0,b1,b2,b3,b4⟩,_⟩:=zb4 hdp.blk;rw [hEX] at b3;rw [hPX] at b4;clear hEX hPX hi0 hdp;obtain ⟨⟨x0,x1,x2,x3,x4⟩,_⟩:=zaa Ag.out.1;obtain ⟨⟨z0,z1,z2,z3,z4⟩,⟨q0,q1,q2,q3,q4⟩⟩:=zaa Ck.out;have hn5:¬ u.heap.size=p:=(by have:=Ae.out.1;omega);have hn6:¬ p=u.heap.size:=(by omega);have hn7:¬ u.heap.size=p+1:=(by have:=Ae.out.1;omega);have hn8:¬ p+1=u.heap.size:=(by omega);have Aw:Hid (Below u.heap.size u w12):=Sole.to_below Ae.out.2.2 (by have:=Ae.out.1;omega) Cj.out;by_cases hex:EX=0
     case neg =>
      have hex2:(EX != 0)=true:=(by simp [hex]);have Ak:Hid (Q=.err EX PX):=(by show _=_;rw [HQ.out,Av.out];show (if (EX==0)=true then _ else _)=_;rw [show (EX==0)=false by simp [hex]];rfl);(go_wp2_with fail);go_region;all_goals (
       go_wp2;obtain ⟨uz,huz⟩:∃ x,((((w12.setCell ⟨u.heap.size,0,none⟩ (.int .i64 0)).setCell ⟨u.heap.size,1,none⟩ (.string ⟨#[]⟩)).setCell ⟨u.heap.size,2,none⟩ (.int .i64 0)).setCell ⟨u.heap.size,3,none⟩ (.int .i64 0)).setCell ⟨u.heap.size,4,none⟩ (.slice none 0 0)=x:=⟨_,rfl⟩;have hut:uz.heap[u.heap.size]?=some (kidO 0 [] 0 0 (.slice none 0 0)):=(by rw [<- huz];exact zc5 (n:=[]) (a:=0) Ck.out);have hbu:Below u.heap.size u uz:=(by rw [<- huz];exact Aw.out.trans (zan w12 u.heap.size u.heap.size _ _ _ _ _ (Nat.le_refl _)));rw [huz];obtain ⟨⟨s0,s1,s2,s3,s4⟩,_⟩:=zaa hut;refine bodyPost_ret (v:=.tuple #[.agg #[.int .i64 0,.string ⟨#[]⟩,.int .i64 0,.int .i64 0,.slice none 0 0],.int .i64 EX,.int .i64 PX]) (by simp [results,Tryz.results12,go_sem,s0,s1,s2,s3,s4]) rfl ?_;rw [Ak.out]
       exact ⟨rfl,hbu.drew⟩)
     obtain rfl:EX=0:=hex;have Ak:Hid (Q=.ok (.node 1 [] 0 0 acc)):=(by show _=_;rw [HQ.out,Av.out];rfl);go_wp2;obtain ⟨uz,huz⟩:∃ x,((((w12.setCell ⟨u.heap.size,0,none⟩ (.int .i64 1)).setCell ⟨u.heap.size,1,none⟩ (.string ⟨#[]⟩)).setCell ⟨u.heap.size,2,none⟩ (.int .i64 0)).setCell ⟨u.heap.size,3,none⟩ (.int .i64 0)).setCell ⟨u.heap.size,4,none⟩ (.slice oq N cq)=x:=⟨_,rfl⟩;have hut:uz.heap[u.heap.size]?=some (kidO 1 [] 0 0 (.slice oq N cq)):=(by rw [<- huz];exact zc5 (n:=[]) (a:=0) Ck.out);have hub:∀ b,b≠u.heap.size->uz.heap[b]?=w12.heap[b]?:=(by rw [<- huz];exact zbf w12 u.heap.size _ _ _ _ _);have hbu:Below u.heap.size u uz:=(by rw [<- huz];exact Aw.out.trans (zan w12 u.heap.size u.heap.size _ _ _ _ _ (Nat.le_refl _)));rw [huz];obtain ⟨⟨s0,s1,s2,s3,s4⟩,_⟩:=zaa hut;refine bodyPost_ret (v:=.tuple #[.agg #[.int .i64 1,.string ⟨#[]⟩,.int .i64 0,.int .i64 0,.slice oq N cq],.int .i64 0,.int .i64 0]) (by simp [results,Tryz.results12,go_sem,s0,s1,s2,s3,s4]) rfl ?_;rw [Ak.out];exact ⟨_,rfl,zaz Ah.out (fun b hb=>by have h1:p+2<=b:=hb;have h2:=Ae.out.1;omega) (fun b hb=>by have h1:p+2<=b:=hb;have h2:=Ae.out.1;omega) hub,hbu⟩
    have j64:((N:Int)==100)=false:=(by simp;omega);have hq:(N==100)=false:=(by simp;omega);have Az:Hid (R=zc6 f (acc++[(zat st).1]) (zat st).2):=(by show _=_;rw [Bl.out];rw [hdf,hq];rfl);have Bt:Hid (∀ m,Calls Tryz.prog 30 #[.pointer (some ⟨p,0,none⟩)] (w11.drewN m) (zdh p g cap ts 0 (treeIs w11.heap.size) (zat st) w11)):=fun m=>by
     have hB:Below w11.heap.size w11 (w11.drewN m):=zad (Below.refl _ _) m;exact (Cm.out st _ (Ay.out.below hB)).mono fun e w' hp=>zdh.of_below hB hp
    (have Bu:Hid (∀ b,(zaf (p+2)) b->b≠p):=fun b hb=>by have h1:p+2<=b:=hb;omega);(have Bv:Hid (∀ q,(Value.slice oq N cq).ownBlock=some q->w.heap.size<=q):=fun q e=>by have h1:p+2<=q:=(zb2 Ac.out e).1;have h2:=Am.out;omega);have Bd:Hid (p+1<w11.heap.size):=Aa.out.lt;go_wp2_with fail
    go_region_law (first
     | (refine zbw rfl 30 #[.pointer (some ⟨p,0,none⟩)] (by go_simp) _ (Bt.out _) ?_
        rintro e w5 ⟨v,rfl,hv,hD,hS⟩;refine ⟨_,rfl,?_⟩;obtain ⟨k8,n8,m8,a8,ks8,o8,l8,c8,he8,rfl⟩:=zam hv;obtain ⟨wb,hwb⟩:∃ x,w5.alloc (.cells #[.int .i64 k8,.string ⟨n8.toArray⟩,.int .i64 m8,.int .i64 a8,.slice o8 l8 c8] 29)=x:=⟨_,rfl⟩;have Ct:=hid hwb;have hBb:Below w5.heap.size w5 wb:=(by rw [<- hwb];exact zab _ _);have Bw:=hid (hD.below hBb);have Bx:=hid ((Ap.out.trans hS).trans (Sole.of_below hBb));have Ad:=hid ((Aa.out.sole Ai.out.1 hS).below hBb);have Bz:Hid (ListAt (zaf (p+2)) wb acc (.slice oq N cq)):=ListAt.below (ListAt.sole Ac.out Bu.out hS) hBb;have Ca:Hid (wb.heap[w5.heap.size]?=some (kidO k8 n8 m8 a8 (.slice o8 l8 c8))):=(by show _=_;rw [<- hwb];exact heap_alloc_new _ _);have Cb:Hid (w11.heap.size<=w5.heap.size∧wb.heap.size=w5.heap.size+1):=⟨hS.size,by rw [<- hwb];simp⟩;have Be:Hid (∀ q,(Value.slice oq N cq).ownBlock=some q->(zaf (p+2)) q∧q<w11.heap.size):=fun q e=>zb2 Ac.out e;have Cc:=hid he8;have Cd:Hid (TreeAt (fun b=>(zaf (p+2)) b∧(Value.slice oq N cq).ownBlock≠some b) wb (.node k8 n8 m8 a8 ks8) (kidV k8 n8 m8 a8 (.slice o8 l8 c8))):=by
         rw [he8] at hv;refine (TreeAt.below hv hBb).weaken (fun b hb=>?_);have hb1:w11.heap.size<=b:=hb;have hz4:=Bd.out;exact ⟨(by show p+2<=b;omega),fun e=>by have:=(Be.out b e).2;omega⟩
        have Ce:Hid ((zaf (p+2)) wb.heap.size):=by
         have hb1:w11.heap.size<=wb.heap.size:=(by have:=Cb.out;omega);have hz4:=Bd.out;exact (by show p+2<=wb.heap.size;omega)
        have u4:=(zaa (Aa.out.sole Ai.out.1 hS).1).1.2.2.2.2;have x4:=(zaa Ad.out.1).1.2.2.2.2;clear hv hD hS hBb he8
        unfold kidV)
     | (refine zfi _ rfl _ _ rfl (zaf (p+2)) acc oq N cq Bz.out rfl Co.out w5.heap.size k8 m8 n8 a8 ks8 o8 l8 c8 rfl Ca.out Cd.out Ce.out ?_
        intro gq cq2 w6 hA;have Bf:=hid (hA.ds Bw.out Bx.out Bv.out Ai.out.1 Ai.out.2);have Cf:=hid Bf.out.1;have Cg:=hid Bf.out.2;have Ab:=hid (za0 Ad.out hA.grow (fun e=>by have h1:=(Be.out _ e).1;exact (by have h2:p+2<=p+1:=h1;omega)));have Ch:Hid (ListAt (zaf (p+2)) w6 (acc++[.node k8 n8 m8 a8 ks8]) (.slice (some ⟨gq,0,none⟩) (N+1) cq2)):=hA.list;obtain ⟨⟨j0,j1,j2,j3,j4⟩,⟨g0,g1,g2,g3,g4⟩⟩:=zaa Ab.out.1
        clear hA))
    all_goals (
     have Af:Hid (DS (w6.setCell ⟨p+1,4,none⟩ (.slice (some ⟨gq,0,none⟩) (N+1) cq2)) p g cap ts 0 (zat st).2∧Sole p w (w6.setCell ⟨p+1,4,none⟩ (.slice (some ⟨gq,0,none⟩) (N+1) cq2))∧Kep w (w6.setCell ⟨p+1,4,none⟩ (.slice (some ⟨gq,0,none⟩) (N+1) cq2)) (p+1) (kidO 1 [] 0 0 (.slice (some ⟨gq,0,none⟩) (N+1) cq2))∧ListAt (zaf (p+2)) (w6.setCell ⟨p+1,4,none⟩ (.slice (some ⟨gq,0,none⟩) (N+1) cq2)) (acc++[.node k8 n8 m8 a8 ks8]) (.slice (some ⟨gq,0,none⟩) (N+1) cq2)):=by
      have h1:=Am.out;have h2:=Ai.out;exact ⟨Cf.out.set (by omega) (by omega) _ _,Sole.set Cg.out (by omega) _ _,⟨zae Ab.out.1,Ab.out.2⟩,ListAt.but (r:=p+1) Ch.out (fun b hb=>by have h3:p+2<=b:=hb;omega) (fun b hb=>Below.heap_setCell _ _ _ _ hb)⟩
     go_wp2;generalize w6.setCell ⟨p+1,4,none⟩ (.slice (some ⟨gq,0,none⟩) (N+1) cq2)=w7 at Af ⊢;rw [Cc.out] at Az;go_roundw
     case rel =>
      refine ⟨_,N+1,some ⟨gq,0,none⟩,cq2,(zat st).2,f,Af.out.1,Af.out.2.1,Af.out.2.2.1,Af.out.2.2.2,Az,?_⟩;have h1:=Bj.out;have h5:=Bm.out;rw [if_pos HF.out.1] at h5;refine ⟨by omega,fun h0=>?_⟩;have h3:=h1.2 HF.out.1;rw [if_pos h0] at h5;omega
     case measure =>
      rw [zd5 Af.out.1,Cn.out,zcd,zcd]
      exact Bm.out))
theorem zmu (l:List UInt8) (w:World):Calls Tryz.prog 12 #[.string ⟨l.toArray⟩] w (ParsePost (zeo l) w):=by
 rw [<- parse_same];unfold parseD;cases h:ze9 l with
 | err r i=>
  exact rparse_lex l r i (zi1 h) w (fun w1=>by
   have hx:=Lx.rscan_any l w1;rw [h] at hx
   exact hx)
 | ok ts=>
  obtain ⟨_,h1,hE,h0⟩:=scan_ok h
  exact rparse_toks l ts h1 hE h0 w (fun w1=>by
   have hx:=Lx.rscan_any l w1;rw [h] at hx
   exact hx)
end Go.Proofs.YtighggeokiahfaaGreatDoor.Dm
namespace Go.Proofs.YtighggeokiahfaaGreatDoor.Dm
open Go.RowKit
theorem rowV_get {A:Nat->Prop} {w:World}:(ts:List Tree)->(xs:List Value)->(i:Nat)->(hi:i<ts.length)->RowV A w ts xs->∃ v0 v1 v2 v3 v4,(xs[i*5]?=some v0∧xs[i*5+1]?=some v1∧xs[i*5+2]?=some v2∧xs[i*5+3]?=some v3∧xs[i*5+4]?=some v4)∧TreeAt A w ts[i] (.agg #[v0,v1,v2,v3,v4])
 | [],_,_,hi,_=>by simp at hi
 | t::ts,xs,0,_,h=>by
  obtain ⟨v0,v1,v2,v3,v4,ys,rfl,ht,_⟩:=rowV_cons.1 h;exact ⟨v0,v1,v2,v3,v4,⟨rfl,rfl,rfl,rfl,rfl⟩,ht⟩
 | t::ts,xs,i+1,hi,h=>by
  obtain ⟨v0,v1,v2,v3,v4,ys,rfl,_,hr⟩:=rowV_cons.1 h;obtain ⟨u0,u1,u2,u3,u4,⟨c0,c1,c2,c3,c4⟩,ht⟩:=rowV_get ts ys i (by simp at hi;omega) hr;refine ⟨u0,u1,u2,u3,u4,⟨?_,?_,?_,?_,?_⟩,ht⟩
  · rw [show (i+1)*5=i*5+5 by omega];exact c0
  · rw [show (i+1)*5+1=i*5+1+5 by omega];exact c1
  · rw [show (i+1)*5+2=i*5+2+5 by omega];exact c2
  · rw [show (i+1)*5+3=i*5+3+5 by omega];exact c3
  · rw [show (i+1)*5+4=i*5+4+5 by omega];exact c4
theorem kid_at {A:Nat->Prop} {w:World} {ks:List Tree} {o:Option Addr} {N c:Nat} (h:ListAt A w ks (.slice o N c)) (j:Nat) (hj:j<ks.length):
 ∃ g k n m a us o1 l1 c1,o=some ⟨g,0,none⟩∧ks[j]=.node k n m a us∧g<w.heap.size∧KidR w g j k n m (a:Nat) (.slice o1 l1 c1)∧TreeAt A w (.node k n m a us) (kidV k n m a (.slice o1 l1 c1)):=by
 have hN:=zf9 h;obtain ⟨xs,ho,_,hr⟩:=h;rw [hN] at ho hj;obtain ⟨g,cap,he,_,hg⟩:=ho.form (by omega);cases he;obtain ⟨v0,v1,v2,v3,v4,⟨c0,c1,c2,c3,c4⟩,ht⟩:=rowV_get ks xs j (by omega) hr;obtain ⟨k,n,m,a,us,hk⟩:∃ k n m a us,ks[j]=.node k n m a us:=by cases ks[j];exact ⟨_,_,_,_,_,rfl⟩
 rw [hk] at ht;obtain ⟨sl,hv,hl⟩:=treeAt_node.1 ht;obtain ⟨o1,l1,c9,rfl⟩:=ListAt.shape hl;unfold kidV at hv;cases hv;exact ⟨g,k,n,m,a,us,o1,l1,c9,rfl,hk,hg,⟨(ho.cellAt _ (by omega)).trans c0,(ho.cellAt _ (by omega)).trans c1,(ho.cellAt _ (by omega)).trans c2,(ho.cellAt _ (by omega)).trans c3,(ho.cellAt _ (by omega)).trans c4⟩,ht.weaken (fun b hb=>hb.1)⟩
theorem alike_core (k:Int) (n:List UInt8) (m a:Int) (o:Option Addr) (L c:Nat) (o' : Option Addr) (c' : Nat) (w:World) (hL:L<=maxLen)
 (hkid:∀ j,j<L->∃ g g',o=some ⟨g,0,none⟩∧o'=some ⟨g',0,none⟩∧∃ k1 n1 m1 a1 sl1 sl2,∀ w1,Below w.heap.size w w1->KidR w1 g j k1 n1 m1 a1 sl1∧KidR w1 g' j k1 n1 m1 a1 sl2∧Calls Tryz.prog 13 #[zcu k1 n1 m1 a1 sl1,zcu k1 n1 m1 a1 sl2] w1 (fun e w'=>e=.returned (.bool true)∧Below w1.heap.size w1 w')):
 Calls Tryz.prog 13 #[zcu k n m a (.slice o L c),zcu k n m a (.slice o' L c')] w (fun e w'=>e=.returned (.bool true)∧Below w.heap.size w w'):=by
 have Ac:=hid hkid;clear hkid;have Ag:Hid (L<=9223372036854775807):=by unfold maxLen at hL;show L<=_;omega
 clear hL;obtain ⟨wa,hwa⟩:∃ x,w.alloc (.cells #[.int .i64 k,.string ⟨n.toArray⟩,.int .i64 m,.int .i64 a,.slice o L c] 29)=x:=⟨_,rfl⟩;obtain ⟨wb,hwb⟩:∃ x,wa.alloc (.cells #[.int .i64 k,.string ⟨n.toArray⟩,.int .i64 m,.int .i64 a,.slice o' L c'] 29)=x:=⟨_,rfl⟩;have ba:Below w.heap.size w wa:=by rw [<- hwa];exact zab _ _
 have bb:Below w.heap.size w wb:=by rw [<- hwb];exact ba.alloc ba.size _
 have HB:=hid bb;have kk:wb.heap[w.heap.size]?=some (zhx k n m a (.slice o L c)):=by rw [<- hwb,<- hwa];exact za3 (heap_alloc_new _ _)
 have kk' : wb.heap[wa.heap.size]?=some (zhx k n m a (.slice o' L c')):=by rw [<- hwb];exact heap_alloc_new _ _
 have HK:=hid2 kk kk';obtain ⟨⟨z0,z1,z2,z3,z4⟩,_⟩:=zax kk;obtain ⟨⟨y0,y1,y2,y3,y4⟩,_⟩:=zax kk';unfold zcu;clear kk kk' ba bb;have j1:(k != k)=false:=by simp
 have j2:(n != n)=false:=by simp
 have j3:(m != m)=false:=by simp
 have j4:(a != a)=false:=by simp
 go_enter Tryz.func13,Tryz.ntmps13
 go_wp2;clear hwa hwb;go_loopw [5] (fun i wr=>∃ (q:Nat),i=.int .i64 q∧q<=L∧Hid (Below wb.heap.size wb wr)) (fun i _=>L - (intOf i).toNat)
 case atStart=>exact ⟨0,rfl,by omega,Below.refl _ _⟩
 case round =>
  obtain ⟨q,rfl,hq,Aa⟩:=hrel;have x4:wr.cell? ⟨w.heap.size,4,none⟩=some (.slice o L c):=(zax (zaj Aa.out HK.out.1)).1.2.2.2.2;have u4:wr.cell? ⟨wa.heap.size,4,none⟩=some (.slice o' L c'):=(zax (zaj Aa.out HK.out.2)).1.2.2.2.2;by_cases hlt:q<L
  · have hlt' : (q:Int)<L:=(by omega);have hq0:(0:Int)<=(q:Int):=(by omega);have hqm:(q:Int)<=9223372036854775806:=(by have:=Ag.out;omega);have Ae:=hid hlt;obtain ⟨g,g',ho,ho',k1,n1,m1,a1,sl1,sl2,hkq⟩:=Ac.out q hlt;subst ho;subst ho';have Ab:=hid (HB.out.trans (Aa.out.mono HB.out.size));obtain ⟨r1,r2,r3⟩:=hkq _ Ab.out;clear r3;obtain ⟨a0,b0,c0,d0,e0⟩:=r1;obtain ⟨a9,b9,c9,d9,e9⟩:=r2;have Af:=hid hkq;clear hkq hlt;(go_wp2_with fail);have s0:(wr.cell? ⟨w.heap.size,4,none⟩=some (.slice (some ⟨g,0,none⟩) L c)∧wr.cell? ⟨wa.heap.size,4,none⟩=some (.slice (some ⟨g',0,none⟩) L c')∧wr.cell? ⟨g,q*5,none⟩=some (.int .i64 k1)∧wr.cell? ⟨g,q*5+1,none⟩=some (.string ⟨n1.toArray⟩)∧wr.cell? ⟨g,q*5+2,none⟩=some (.int .i64 m1)∧wr.cell? ⟨g,q*5+3,none⟩=some (.int .i64 a1)∧wr.cell? ⟨g,q*5+4,none⟩=some sl1∧wr.cell? ⟨g',q*5,none⟩=some (.int .i64 k1)∧wr.cell? ⟨g',q*5+1,none⟩=some (.string ⟨n1.toArray⟩)∧wr.cell? ⟨g',q*5+2,none⟩=some (.int .i64 m1)∧wr.cell? ⟨g',q*5+3,none⟩=some (.int .i64 a1)∧wr.cell? ⟨g',q*5+4,none⟩=some sl2):=⟨x4,u4,a0,b0,c0,d0,e0,a9,b9,c9,d9,e9⟩;have s1:∀ i,((wr.drewN i).cell? ⟨w.heap.size,4,none⟩=some (.slice (some ⟨g,0,none⟩) L c)∧(wr.drewN i).cell? ⟨wa.heap.size,4,none⟩=some (.slice (some ⟨g',0,none⟩) L c')∧(wr.drewN i).cell? ⟨g,q*5,none⟩=some (.int .i64 k1)∧(wr.drewN i).cell? ⟨g,q*5+1,none⟩=some (.string ⟨n1.toArray⟩)∧(wr.drewN i).cell? ⟨g,q*5+2,none⟩=some (.int .i64 m1)∧(wr.drewN i).cell? ⟨g,q*5+3,none⟩=some (.int .i64 a1)∧(wr.drewN i).cell? ⟨g,q*5+4,none⟩=some sl1∧(wr.drewN i).cell? ⟨g',q*5,none⟩=some (.int .i64 k1)∧(wr.drewN i).cell? ⟨g',q*5+1,none⟩=some (.string ⟨n1.toArray⟩)∧(wr.drewN i).cell? ⟨g',q*5+2,none⟩=some (.int .i64 m1)∧(wr.drewN i).cell? ⟨g',q*5+3,none⟩=some (.int .i64 a1)∧(wr.drewN i).cell? ⟨g',q*5+4,none⟩=some sl2):=fun _=>s0
    go_region_held (fun w'=>(w'.cell? ⟨w.heap.size,4,none⟩=some (.slice (some ⟨g,0,none⟩) L c)∧w'.cell? ⟨wa.heap.size,4,none⟩=some (.slice (some ⟨g',0,none⟩) L c')∧w'.cell? ⟨g,q*5,none⟩=some (.int .i64 k1)∧w'.cell? ⟨g,q*5+1,none⟩=some (.string ⟨n1.toArray⟩)∧w'.cell? ⟨g,q*5+2,none⟩=some (.int .i64 m1)∧w'.cell? ⟨g,q*5+3,none⟩=some (.int .i64 a1)∧w'.cell? ⟨g,q*5+4,none⟩=some sl1∧w'.cell? ⟨g',q*5,none⟩=some (.int .i64 k1)∧w'.cell? ⟨g',q*5+1,none⟩=some (.string ⟨n1.toArray⟩)∧w'.cell? ⟨g',q*5+2,none⟩=some (.int .i64 m1)∧w'.cell? ⟨g',q*5+3,none⟩=some (.int .i64 a1)∧w'.cell? ⟨g',q*5+4,none⟩=some sl2)) (first|with_reducible exact s0|with_reducible exact s1 _|with_reducible exact s7|exact s0) (first
     | (go_at_call 13
        refine ((Af.out _ (zem Ab.out _)).2.2).mono ?_;rintro e w7 ⟨rfl,hB0⟩;have hB:Below wr.heap.size wr w7:=(zem (Below.refl _ _) _).trans hB0;have Ad:=hid (Aa.out.trans (hB.mono Aa.out.size));have s7:(w7.cell? ⟨w.heap.size,4,none⟩=some (.slice (some ⟨g,0,none⟩) L c)∧w7.cell? ⟨wa.heap.size,4,none⟩=some (.slice (some ⟨g',0,none⟩) L c')∧w7.cell? ⟨g,q*5,none⟩=some (.int .i64 k1)∧w7.cell? ⟨g,q*5+1,none⟩=some (.string ⟨n1.toArray⟩)∧w7.cell? ⟨g,q*5+2,none⟩=some (.int .i64 m1)∧w7.cell? ⟨g,q*5+3,none⟩=some (.int .i64 a1)∧w7.cell? ⟨g,q*5+4,none⟩=some sl1∧w7.cell? ⟨g',q*5,none⟩=some (.int .i64 k1)∧w7.cell? ⟨g',q*5+1,none⟩=some (.string ⟨n1.toArray⟩)∧w7.cell? ⟨g',q*5+2,none⟩=some (.int .i64 m1)∧w7.cell? ⟨g',q*5+3,none⟩=some (.int .i64 a1)∧w7.cell? ⟨g',q*5+4,none⟩=some sl2):=by
         have h1:=Ab.out.trans (hB.mono Ab.out.size);obtain ⟨p1,p2,_⟩:=Af.out _ h1;exact ⟨(zax (zaj Ad.out HK.out.1)).1.2.2.2.2,(zax (zaj Ad.out HK.out.2)).1.2.2.2.2,p1.c0,p1.c1,p1.c2,p1.c3,p1.c4,p2.c0,p2.c1,p2.c2,p2.c3,p2.c4⟩
        clear hB hB0))
    go_wp2;go_roundw
    case rel=>exact ⟨q+1,by go_num,Ae.out,Ad⟩
    case measure=>have:=Ae.out;simp [intOf];omega
  · have hqe:q=L:=(by omega);subst hqe;have hlt' : ¬ (q:Int)<q:=(by omega);go_wp2;go_ret;exact ⟨rfl,HB.out.trans (Aa.out.mono HB.out.size)⟩
theorem zl4:(N:Nat)->(t:Tree)->SizeOf.sizeOf t<=N->∀ (A A' : Nat->Prop) (w:World) (v v' : Value),TreeAt A w t v->TreeAt A' w t v'->Calls Tryz.prog 13 #[v,v'] w (fun e w'=>e=.returned (.bool true)∧Below w.heap.size w w')
 | 0,.node k n m a ks,h=>by simp at h
 | N+1,.node k n m a ks,hN=>by
  intro A A' w v v' ht hu;obtain ⟨sl,rfl,hl⟩:=treeAt_node.1 ht;obtain ⟨sl',rfl,hl'⟩:=treeAt_node.1 hu;obtain ⟨o,c,he⟩:=hl.len;obtain ⟨o',c',he'⟩:=hl'.len;subst he;subst he';refine alike_core k n m a o ks.length c o' c' w ?_ ?_
  · obtain ⟨xs,ho,_⟩:=hl;rcases ho.2 with ⟨_,h0⟩|⟨g,cap,cur,_,_,_,h1,h2,_⟩
    · rw [h0];exact Nat.zero_le _
    · exact Nat.le_trans h1 h2
  · intro j hj;obtain ⟨g,k1,n1,m1,a1,us,o1,l1,c1,rfl,hk1,hg,hkr,htr⟩:=kid_at hl j hj;obtain ⟨g',k2,n2,m2,a2,us2,o2,l2,c2,rfl,hk2,hg',hkr',htr'⟩:=kid_at hl' j hj;rw [hk1] at hk2;cases hk2;have hs:SizeOf.sizeOf (Tree.node k1 n1 m1 a1 us)<=N:=by
     have h1:=List.sizeOf_lt_of_mem (List.getElem_mem hj);rw [hk1] at h1;(simp at hN);omega
    exact ⟨g,g',rfl,rfl,k1,n1,m1,(a1:Nat),_,_,fun w1 hw=>⟨hkr.frame (hw.block g hg),hkr'.frame (hw.block g' hg'),zl4 N _ hs A A' w1 _ _ (TreeAt.below htr hw) (TreeAt.below htr' hw)⟩⟩
def zjz (l m : List UInt8) : Nat := zd9 (addP (zd9 l.length) (zd9 m.length))
structure Grd (l m : List UInt8) : Prop where
  a : ∀ w, Calls Tryz.prog 8 #[.int .i64 l.length] w fun e w' => e = .returned (.int .i64 (zd9 l.length)) ∧ w' = w
  b : ∀ w, Calls Tryz.prog 8 #[.int .i64 m.length] w fun e w' => e = .returned (.int .i64 (zd9 m.length)) ∧ w' = w
  c : ∀ w, Calls Tryz.prog 9 #[.int .i64 (zd9 l.length : Nat), .int .i64 (zd9 m.length : Nat)] w fun e w' => e = .returned (.int .i64 (addP (zd9 l.length) (zd9 m.length))) ∧ w' = w
  d : ∀ w, Calls Tryz.prog 8 #[.int .i64 (addP (zd9 l.length) (zd9 m.length) : Nat)] w fun e w' => e = .returned (.int .i64 (zjz l m)) ∧ w' = w
theorem grd {l m : List UInt8} (hl : l.length <= 9223372036854775807) (hm : m.length <= 9223372036854775807) : Grd l m :=
  ⟨zi9 _ hl, zi9 _ hm, add_any _ _ (by have := thrice_le l.length; omega) (by have := thrice_le m.length; omega), zi9 _ (by have := add_le (zd9 l.length) (zd9 m.length); omega)⟩
theorem info27x:∃ i:TypeInfo,Tryz.prog.info? 27=some i∧i.zero=some (.slice none 0 0)∧i.size=1∧i.bytes=24 :=
 ⟨(Tryz.prog.info? 27).getD default,by kernel_rfl,by kernel_rfl,by kernel_rfl,by kernel_rfl⟩
theorem und26:Tryz.prog.underlying 26=some (.slice 27):=by kernel_rfl
def upto (f:Nat->List Value):Nat->List Value
 | 0=>[]
 | q+1=>upto f q++f q
def LsPost (w:World) (ls:List Value):Ending->World->Prop:=fun e w'=>∃ g cap,e=.returned (.slice (some ⟨g,0,none⟩) ls.length cap)∧w'.ownsRow 0 27 1 (.slice (some ⟨g,0,none⟩) ls.length cap) ls.length ls∧w.heap.size<=g∧Below w.heap.size w w'
theorem grown_below {w cur nxt:World} (h:Below w.heap.size w cur) {g:Nat} (hg:cur.grownBy nxt (some g)) (hB:w.heap.size<=g):Below w.heap.size w nxt:=
 ⟨hg.os.trans h.os,hg.tape.trans h.tape,hg.output.trans h.output,Nat.le_trans h.size hg.size,fun b hb=>(hg.block b (Nat.lt_of_lt_of_le hb h.size) (fun e=>by have:=Option.some.inj e;omega)).trans (h.block b hb)⟩
theorem zm0 {w:World} {g n c:Nat} {ls:List Value} (h:w.ownsRow 0 27 1 (.slice (some ⟨g,0,none⟩) n c) n ls):∀ j u,ls[j]?=some u->w.cell? ((⟨g,0,none⟩:Addr).add j)=some u:=by
 intro j u hu;have hj:=(List.getElem?_eq_some_iff.1 hu).1;have hl:=h.1;rw [show (⟨g,0,none⟩:Addr).add j=⟨g,j,none⟩ by simp [Addr.add];omega];exact (h.cellAt j (by omega)).trans hu
theorem lists_core (k:Int) (n:List UInt8) (m a:Int) (o:Option Addr) (L c:Nat) (w:World) (hL:L<=maxLen) (Ls:Nat->List Value) (hone:∀ j,∀ u∈Ls j,u.oneCell'=true) (hbig:(upto Ls L).length<=1000000000) (hpos:∀ j,j<L->0<(Ls j).length) (hmon:∀ j,j<L->(upto Ls (j+1)).length<=(upto Ls L).length)
 (hkid:∀ j,j<L->∃ g,o=some ⟨g,0,none⟩∧∃ k1 n1 m1 a1 sl1,∀ w1,Below w.heap.size w w1->KidR w1 g j k1 n1 m1 a1 sl1∧Calls Tryz.prog 14 #[zcu k1 n1 m1 a1 sl1] w1 (LsPost w1 (Ls j))):
 Calls Tryz.prog 14 #[zcu k n m a (.slice o L c)] w (LsPost w (.slice o L c::upto Ls L)):=by
 obtain ⟨inf,hi1,hi2,hi3,hi4⟩:=info27x;have HI:=hid4 hi1 hi2 hi3 hi4;clear hi1 hi2 hi3 hi4;have Af:=hid hkid;have Ab:=hid4 hone hbig hpos hmon;clear hkid hone hbig hpos hmon;have Al:Hid (L<=9223372036854775807):=by unfold maxLen at hL;show L<=_;omega
 clear hL;obtain ⟨wa,hwa⟩:∃ x,w.alloc (.cells #[.int .i64 k,.string ⟨n.toArray⟩,.int .i64 m,.int .i64 a,.slice o L c] 29)=x:=⟨_,rfl⟩;obtain ⟨wb,hwb⟩:∃ x,wa.alloc (.cells #[.slice o L c] 27)=x:=⟨_,rfl⟩;have ba:Below w.heap.size w wa:=by rw [<- hwa];exact zab _ _
 have bb:Below w.heap.size w wb:=by rw [<- hwb];exact ba.alloc ba.size _
 have HB:=hid bb;have kk:wb.heap[w.heap.size]?=some (zhx k n m a (.slice o L c)):=by rw [<- hwb,<- hwa];exact za3 (heap_alloc_new _ _)
 have HK:=hid kk;have ka:wa.heap[w.heap.size]?=some (zhx k n m a (.slice o L c)):=by rw [<- hwa];exact heap_alloc_new _ _
 obtain ⟨⟨_,_,_,_,y4⟩,_⟩:=zax ka;have hsa:wa.heap.size=w.heap.size+1:=by rw [<- hwa];simp
 have Am:=hid hsa;have An:Hid (wb.ownsRow 0 27 1 (.slice (some ⟨wa.heap.size,0,none⟩) 1 1) 1 [.slice o L c]):=by
  show World.ownsRow _ _ _ _ _ _ _;rw [<- hwb];exact World.ownsRow_lit wa #[.slice o L c] 1 (Nat.zero_le _) (by unfold maxLen;omega) rfl
 obtain ⟨⟨z0,z1,z2,z3,z4⟩,_⟩:=zax kk;unfold zcu;clear kk ka ba bb hsa;go_enter Tryz.func14,Tryz.ntmps14
 go_wp2;clear hwa hwb y4;go_loopw [3,4] (fun s i wr=>∃ (q g cap:Nat) (ls:List Value),s=.slice (some ⟨g,0,none⟩) ls.length cap∧i=.int .i64 q∧q<=L∧Hid (ls=.slice o L c::upto Ls q)∧Hid (wr.ownsRow 0 27 1 (.slice (some ⟨g,0,none⟩) ls.length cap) ls.length ls)∧Hid (w.heap.size<g)∧Hid (Below w.heap.size w wr)∧Hid (wr.heap[w.heap.size]?=some (zhx k n m a (.slice o L c)))) (fun _ i _=>L - (intOf i).toNat)
 case atStart=>exact ⟨0,wa.heap.size,1,[.slice o L c],rfl,rfl,by omega,rfl,An,by show _<_;have:=Am.out;omega,HB,HK⟩
 case round =>
  obtain ⟨q,g1,cap,ls,rfl,rfl,hq,Ag,Ac,Ad,Aa,Ai⟩:=hrel;obtain ⟨⟨_,_,_,_,x4⟩,_⟩:=zax Ai.out;by_cases hlt:q<L
  · have hlt' : (q:Int)<L:=(by omega);have hq0:(0:Int)<=(q:Int):=(by omega);have hqm:(q:Int)<=9223372036854775806:=(by have:=Al.out;omega);have Ae:=hid hlt;obtain ⟨g,ho,k1,n1,m1,a1,sl1,hkq⟩:=Af.out q hlt;subst ho;obtain ⟨r1,r3⟩:=hkq _ Aa.out;have HC:=hid r3;obtain ⟨a0,b0,c0,d0,e0⟩:=r1;clear hkq hlt r3;(go_wp2_with fail);refine HC.out.mono ?_;rintro e w3 ⟨g2,cap2,rfl,ho2,hg2,hB⟩;have hgl:g1<wr.heap.size:=(Ac.out.lt g1 rfl).2;have Ah:Hid (w3.ownsRow 0 27 1 (.slice (some ⟨g1,0,none⟩) ls.length cap) ls.length ls):=zbc Ac.out (fun x e hx=>hB.block x hx);have Ao:=hid ho2;have Ap:Hid (Below w.heap.size w w3):=Aa.out.trans (hB.mono Aa.out.size);have Aj:=hid (zaj hB Ai.out);have Aq:Hid (wr.heap.size<=w3.heap.size):=hB.size;have HW:=hid Aa.out.size;have Ak:Hid (ls.length+(Ls q).length<=1000000001):=by
     show _<=_;have h1:=Ab.out.2.2.2 q Ae.out;have h2:=Ab.out.2.1;rw [Ag.out,List.length_cons];rw [upto,List.length_append] at h1;omega
    have Ar:=hid (Ab.out.2.2.1 q Ae.out);clear ho2 hg2 hB hgl;(go_wp2_with (at_builtin;refine wpList_append_lies _ rfl _ _ 26 rfl 0 27 inf (.slice none 0 0) 1 24 und26 HI.out.1 HI.out.2.1 HI.out.2.2.1 HI.out.2.2.2 rfl (by decide) (.slice (some ⟨g1,0,none⟩) ls.length cap) ls.length ls rfl Ah.out ⟨g2,0,none⟩ (Ls q).length cap2 (Ls q) rfl (Nat.mul_one _).symm (zm0 Ao.out) (Ab.out.1 q) Ar.out (by have:=Ak.out;unfold maxLen;omega) (by have:=Ak.out;omega) (Nat.zero_le _) _ rfl ?_;intro gq cq2 w4 hown hgrow hat hlt;have HG:Hid (w3.grownBy w4 (some g1)∧w4.ownsRow 0 27 1 (.slice (some ⟨gq,0,none⟩) (ls.length+(Ls q).length) cq2) (ls.length+(Ls q).length) (ls++Ls q)∧(some g1=some gq∨gq=w3.heap.size)):=⟨hgrow,hown,hat⟩;clear hown hgrow hat hlt));go_roundw
    case rel =>
     refine ⟨q+1,gq,cq2,ls++Ls q,by rw [List.length_append],by go_num,Ae.out,?_,?_,?_,?_,?_⟩
     · show _=_;rw [Ag.out,upto];rfl
     · show World.ownsRow _ _ _ _ _ _ _;rw [List.length_append];exact HG.out.2.1
     · show _<_;have h1:=Ad.out;have h2:=Aq.out;have h3:=HW.out;have h4:=(Ac.out.lt g1 rfl).2;rcases HG.out.2.2 with e|e
       · have:=Option.some.inj e;omega
       · omega
     · exact grown_below Ap.out HG.out.1 (Nat.le_of_lt Ad.out)
     · exact (HG.out.1.block _ (zej Aj.out) (fun e=>by have:=Option.some.inj e;have:=Ad.out;omega)).trans Aj.out
    case measure=>have:=Ae.out;simp [intOf];omega
  · have hqe:q=L:=(by omega);subst hqe;have hlt' : ¬ (q:Int)<q:=(by omega);go_wp2;go_ret;have h1:=Ag.out;subst h1;exact ⟨g1,cap,rfl,Ac.out,Nat.le_of_lt Ad.out,Aa.out⟩
end Go.Proofs.YtighggeokiahfaaGreatDoor.Dm
