import Derived.Test.YtighggeokiahfaaGreatDoorNear12
import Derived.Test.YtighggeokiahfaaGreatDoorNear21
import Derived.BigRegion
namespace Go.Proofs.YtighggeokiahfaaGreatDoor.Dm
open Go.RowKit
def zfz (l m : List UInt8) : Nat := zdf (addP (zdf l.length) (zdf m.length))
theorem ziz {n m : Nat} (h : addP n m <= 2147483647) : n + m <= 2147483647 := by
  unfold addP at h
  split at h <;> omega
theorem zh7 {l m : List UInt8} (h : zfz l m <= 2147483647) : l.length <= 2147483647 ∧ m.length <= 2147483647 := by
  have h1 := ziz h
  have h2 := ziz (show addP (zdf l.length) (zdf m.length) <= 2147483647 by omega)
  have h3 := ziz (show addP l.length (addP l.length l.length) <= 2147483647 by unfold zdf at h2; omega)
  have h4 := ziz (show addP m.length (addP m.length m.length) <= 2147483647 by unfold zdf at h2; omega)
  omega
structure Grd (l m : List UInt8) : Prop where
  a : ∀ w, Calls Tryz.prog 8 #[.int .i64 l.length] w fun e w' => e = .returned (.int .i64 (zdf l.length)) ∧ w' = w
  b : ∀ w, Calls Tryz.prog 8 #[.int .i64 m.length] w fun e w' => e = .returned (.int .i64 (zdf m.length)) ∧ w' = w
  c : ∀ w, Calls Tryz.prog 9 #[.int .i64 (zdf l.length : Nat), .int .i64 (zdf m.length : Nat)] w fun e w' => e = .returned (.int .i64 (addP (zdf l.length) (zdf m.length))) ∧ w' = w
  d : ∀ w, Calls Tryz.prog 8 #[.int .i64 (addP (zdf l.length) (zdf m.length) : Nat)] w fun e w' => e = .returned (.int .i64 (zfz l m)) ∧ w' = w
theorem grd {l m : List UInt8} (hl : l.length <= 9223372036854775807) (hm : m.length <= 9223372036854775807) : Grd l m :=
  ⟨zi1 _ hl, zi1 _ hm, add_any _ _ (by have := thrice_le l.length; omega) (by have := thrice_le m.length; omega), zi1 _ (by have := add_le (zdf l.length) (zdf m.length); omega)⟩
theorem zev {a b:Int} (h:a=b):Ending.returned (.int .i64 a)=.returned (.int .i64 b):=by rw [h]
def pickP (c n : Int) : Int := if c < 0 then (-(c + 1)) % n else c % n

theorem zkw {c n : Int} (h : 0 < n) : 0 <= pickP c n ∧ pickP c n < n := by
  unfold pickP
  split
  · exact ⟨Int.emod_nonneg _ (by omega), Int.emod_lt_of_pos _ h⟩
  · exact ⟨Int.emod_nonneg _ (by omega), Int.emod_lt_of_pos _ h⟩

theorem pick_any (c n : Int) (w : World) (hn : 0 < n) (hn2 : n <= 4294967296) (h1 : -9223372036854775808 <= c) (h2 : c <= 9223372036854775807) : Calls Tryz.prog 17 #[.int .i64 c, .int .i64 n] w fun e w' => e = .returned (.int .i64 (pickP c n)) ∧ w' = w := by
  have hz : (n == 0) = false := beq_eq_false_iff_ne.2 (by omega)
  obtain ⟨R, hR⟩ : ∃ R, pickP c n = R := ⟨_, rfl⟩
  rw [hR]
  unfold pickP at hR
  by_cases h : c < 0
  · rw [if_pos h] at hR
    have HR : Hid ((-(c + 1)) % n = R) := hR
    clear hR
    go_enter Tryz.func17, Tryz.ntmps17
    go_wp2
    go_ret
    exact ⟨zev (by rw [<- Int.neg_tmod, Int.tmod_eq_emod_of_nonneg (by omega)]; exact HR.out), rfl⟩
  · rw [if_neg h] at hR
    have HR : Hid (c % n = R) := hR
    have h0 : 0 <= c := by omega
    clear hR h
    go_enter Tryz.func17, Tryz.ntmps17
    go_wp2
    go_ret
    exact ⟨zev HR.out, rfl⟩

theorem stepAt {l:List UInt8} {i j:Nat} {t:Tok} (hs:zct l i=.go (some t) j):t.at_=i:=by
 unfold zct at hs
 repeat' split at hs
 all_goals first | (cases hs;rfl) | cases hs
theorem scans_ats {l:List UInt8} {i:Nat} {ts:List Tok} {R:Res} (h:Scans l i ts R):∀ us,R=.ok us->(∀ t∈ts,t.at_<=l.length)->∀ t∈us,t.at_<=l.length:=by
 induction h with
 | done h=>
  intro us e ok
  cases e
  intro t ht
  rcases List.mem_append.1 ht with h1|h1
  · exact ok t h1
  · rw [List.mem_singleton] at h1
    subst h1
    exact Nat.le_refl _
 | err h hs=>intro us e;cases e
 | go h hs hr ih=>
  intro us e ok
  refine ih us e (fun t ht=>?_)
  rcases List.mem_append.1 ht with h1|h1
  · exact ok t h1
  · rename_i o _ _
    cases o with
    | none=>cases h1
    | some x=>
     rw [show t=x by simpa using h1,stepAt hs]
     omega
theorem scan_ats {l:List UInt8} {ts:List Tok} (h:zeq l=.ok ts):∀ t∈ts,t.at_<=l.length:=by
 have hs:=zfu (zi8 h).1
 rw [h] at hs
 exact scans_ats hs ts rfl (fun t ht=>by cases ht)
theorem S_front3 (l:List UInt8) (p:Nat):(⟨l.toArray⟩:ByteArray).extract 0 p=⟨(l.take p).toArray⟩:=by
 rw [Lx.S_extract];simp
theorem S_back3 (l:List UInt8) (p:Nat):(⟨l.toArray⟩:ByteArray).extract p l.length=⟨(l.drop p).toArray⟩:=by
 rw [Lx.S_extract,List.take_of_length_le (by rw [List.length_drop];omega)]
theorem S_app3 (a b:List UInt8):(⟨a.toArray⟩:ByteArray)++⟨b.toArray⟩=⟨(a++b).toArray⟩:=by
 apply ByteArray.ext;simp
set_option maxRecDepth 4000 in
set_option maxHeartbeats 4000000 in
theorem near_more (l m:List UInt8) (c:Int) (w:World) (hl:l.length<=9223372036854775807) (hm:m.length<=9223372036854775807) (h:¬ zfz l m<=2147483647):Calls Tryz.prog 4 #[.string ⟨l.toArray⟩,.int .i64 c,.string ⟨m.toArray⟩] w fun e w'=>e=.returned (.bool true)∧Below w.heap.size w w':=by
 have Aa:=hid (grd hl hm)
 have h1:(2147483647:Int)<(zfz l m:Nat):=by omega
 have h2:decide ((2147483647:Int)<(zfz l m:Nat))=true:=by simp;omega
 clear h hl hm
 go_enter Tryz.func4,Tryz.ntmps4
 go_wp2_with (first|(go_at_call_of 8 (Value.int .i64 (l.length:Int));refine (Aa.out.a _).mono ?_;rintro e wi ⟨rfl,hwi⟩;rw [hwi];clear hwi wi)|(go_at_call_of 8 (Value.int .i64 (m.length:Int));refine (Aa.out.b _).mono ?_;rintro e wi ⟨rfl,hwi⟩;rw [hwi];clear hwi wi)|(go_at_call 9;refine (Aa.out.c _).mono ?_;rintro e wi ⟨rfl,hwi⟩;rw [hwi];clear hwi wi)|(go_at_call 8;refine (Aa.out.d _).mono ?_;rintro e wi ⟨rfl,hwi⟩;rw [hwi];clear hwi wi))
 go_ret
 exact ⟨rfl,Below.refl _ _⟩
set_option maxRecDepth 4000 in
set_option maxHeartbeats 4000000 in
theorem near_lex (l m:List UInt8) (c:Int) (w:World) (hG:zhj w) (hl:l.length<=9223372036854775807) (hm:m.length<=9223372036854775807) (h:zfz l m<=2147483647) (r:Int) (i:Nat) (hs:zeq l=.err r i):Calls Tryz.prog 4 #[.string ⟨l.toArray⟩,.int .i64 c,.string ⟨m.toArray⟩] w fun e w'=>e=.returned (.bool true)∧Below w.heap.size w w':=by
 have Aa:=hid (grd hl hm)
 have h1:¬ (2147483647:Int)<(zfz l m:Nat):=by omega
 have h2:decide ((2147483647:Int)<(zfz l m:Nat))=false:=by simp;omega
 have HA:Hid (Calls Tryz.prog 10 #[] w (fun e w'=>e=.returned (.bool true)∧Below w.heap.size w w')):=zlq w hG
 have hsm:=zh7 h
 have x0:=ext0
 have x1:=ext1
 have x2:=ext2
 have Ac:Hid (∀ w,Calls Tryz.prog 16 #[.string ⟨l.toArray⟩] w (Lx.ScanPost (.err r i) w)):=fun w=>by
  have hx:=Lx.scan_any l w
  rw [hs] at hx
  exact hx
 have r1:(r != 0)=true:=by simp [zg4 hs]
 clear h hl hm hG hs hsm
 go_enter Tryz.func4,Tryz.ntmps4
 go_wp2_with (first|(go_at_call_of 8 (Value.int .i64 (l.length:Int));refine (Aa.out.a _).mono ?_;rintro e wi ⟨rfl,hwi⟩;rw [hwi];clear hwi wi)|(go_at_call_of 8 (Value.int .i64 (m.length:Int));refine (Aa.out.b _).mono ?_;rintro e wi ⟨rfl,hwi⟩;rw [hwi];clear hwi wi)|(go_at_call 9;refine (Aa.out.c _).mono ?_;rintro e wi ⟨rfl,hwi⟩;rw [hwi];clear hwi wi)|(go_at_call 8;refine (Aa.out.d _).mono ?_;rintro e wi ⟨rfl,hwi⟩;rw [hwi];clear hwi wi))
 clear h1 h2
 refine HA.out.mono ?_
 rintro e w1 ⟨rfl,hB⟩
 have Ab:=hid hB
 clear hB
 go_wp2_with fail
 refine (Ac.out _).mono ?_
 rintro e w2 ⟨rfl,hB⟩
 have Ad:=hid (Ab.out.trans (hB.mono Ab.out.size))
 clear hB
 go_wp2
 go_ret
 exact ⟨rfl,Ad.out⟩
set_option maxRecDepth 4000 in
set_option maxHeartbeats 4000000 in
theorem near_one (l m:List UInt8) (c:Int) (w:World) (hG:zhj w) (hl:l.length<=9223372036854775807) (hm:m.length<=9223372036854775807) (h:zfz l m<=2147483647) (ts:List Tok) (hs:zeq l=.ok ts) (h1t:ts.length=1):Calls Tryz.prog 4 #[.string ⟨l.toArray⟩,.int .i64 c,.string ⟨m.toArray⟩] w fun e w'=>e=.returned (.bool true)∧Below w.heap.size w w':=by
 have Aa:=hid (grd hl hm)
 have h1:¬ (2147483647:Int)<(zfz l m:Nat):=by omega
 have h2:decide ((2147483647:Int)<(zfz l m:Nat))=false:=by simp;omega
 have HA:Hid (Calls Tryz.prog 10 #[] w (fun e w'=>e=.returned (.bool true)∧Below w.heap.size w w')):=zlq w hG
 have hsm:=zh7 h
 have x0:=ext0
 have x1:=ext1
 have x2:=ext2
 have Ac:Hid (∀ w,Calls Tryz.prog 16 #[.string ⟨l.toArray⟩] w (Lx.ScanPost (.ok ts) w)):=fun w=>by
  have hx:=Lx.scan_any l w
  rw [hs] at hx
  exact hx
 clear h hl hm hG hs hsm
 go_enter Tryz.func4,Tryz.ntmps4
 go_wp2_with (first|(go_at_call_of 8 (Value.int .i64 (l.length:Int));refine (Aa.out.a _).mono ?_;rintro e wi ⟨rfl,hwi⟩;rw [hwi];clear hwi wi)|(go_at_call_of 8 (Value.int .i64 (m.length:Int));refine (Aa.out.b _).mono ?_;rintro e wi ⟨rfl,hwi⟩;rw [hwi];clear hwi wi)|(go_at_call 9;refine (Aa.out.c _).mono ?_;rintro e wi ⟨rfl,hwi⟩;rw [hwi];clear hwi wi)|(go_at_call 8;refine (Aa.out.d _).mono ?_;rintro e wi ⟨rfl,hwi⟩;rw [hwi];clear hwi wi))
 clear h1 h2
 refine HA.out.mono ?_
 rintro e w1 ⟨rfl,hB⟩
 have Ab:=hid hB
 clear hB
 go_wp2_with fail
 refine (Ac.out _).mono ?_
 rintro e w2 ⟨g,cap,rfl,ho,hB⟩
 have Ad:=hid (Ab.out.trans (hB.mono Ab.out.size))
 clear hB ho
 rw [h1t]
 go_wp2
 go_ret
 exact ⟨rfl,Ad.out⟩
theorem slice_to (w:World) (l:List UInt8) (j:Nat) (h:j<=l.length):(Instr.slice 9 (.string ⟨l.toArray⟩) none (some (.int .i64 (j:Int))) none).run Tryz.prog w=.ok (.string ⟨(l.take j).toArray⟩) w:=by
 rw [<- S_front3]
 have hu:=Tryz.underlying9
 simp [go_sem]
 intro hx
 omega
theorem zmc (w:World) (l:List UInt8) (j:Nat) (h:j<=l.length):(Instr.slice 9 (.string ⟨l.toArray⟩) (some (.int .i64 (j:Int))) none none).run Tryz.prog w=.ok (.string ⟨(l.drop j).toArray⟩) w:=by
 rw [<- S_back3]
 have hu:=Tryz.underlying9
 simp [go_sem]
 intro hx
 omega
/-- the six sources -/
def nearS (L1 L2 L3 L4 m:List UInt8):Nat->List UInt8
 | 0=>L1++L4
 | 1=>L2++[32]++L3
 | 2=>L1++m++[32]++L4
 | 3=>L1
 | 4=>L2
 | _=>L2++[32]++m
theorem near_cells (w:World) (L1 L2 L3 L4 m:List UInt8) (q:Nat) (hq:q<6):(w.alloc (.cells #[.string (⟨L1.toArray⟩++⟨L4.toArray⟩),.string (⟨L2.toArray⟩++⟨#[32]⟩++⟨L3.toArray⟩),.string (⟨L1.toArray⟩++⟨m.toArray⟩++⟨#[32]⟩++⟨L4.toArray⟩),.string ⟨L1.toArray⟩,.string ⟨L2.toArray⟩,.string (⟨L2.toArray⟩++⟨#[32]⟩++⟨m.toArray⟩)] 9)).drew.cell? ⟨w.heap.size,q,none⟩=some (.string ⟨(nearS L1 L2 L3 L4 m q).toArray⟩):=by
 have h32:(⟨#[32]⟩:ByteArray)=⟨([32]:List UInt8).toArray⟩:=rfl
 rw [h32]
 simp only [S_app3]
 have hc:∀ j,((w.alloc (.cells #[.string ⟨(L1++L4).toArray⟩,.string ⟨(L2++[32]++L3).toArray⟩,.string ⟨(L1++m++[32]++L4).toArray⟩,.string ⟨L1.toArray⟩,.string ⟨L2.toArray⟩,.string ⟨(L2++[32]++m).toArray⟩] 9)).drew).cell? ⟨w.heap.size,j,none⟩=(#[.string ⟨(L1++L4).toArray⟩,.string ⟨(L2++[32]++L3).toArray⟩,.string ⟨(L1++m++[32]++L4).toArray⟩,.string ⟨L1.toArray⟩,.string ⟨L2.toArray⟩,.string ⟨(L2++[32]++m).toArray⟩]:Array Value)[j]?:=fun j=>cell_of_row _ _ _ _ _ _ (heap_alloc_new _ _)
 rw [hc]
 match q,hq with
 | 0,_=>rfl
 | 1,_=>rfl
 | 2,_=>rfl
 | 3,_=>rfl
 | 4,_=>rfl
 | 5,_=>rfl
def treeOf:PRes->Tree|.ok t=>t|.err _ _=>zjc
def errOf:PRes->Int|.ok _=>0|.err e _=>e
def placeOf:PRes->Nat|.ok _=>0|.err _ i=>i
theorem parse_u {R:PRes} {w:World} {e:Ending} {w' : World} (h:zdq R w e w') {k m:Int} {n:List UInt8} {a:Nat} {ks:List Tree} (ht:treeOf R=.node k n m a ks):
 ∃ o l c,e=.returned (.tuple #[kidV k n m a (.slice o l c),.int .i64 (errOf R),.int .i64 (placeOf R:Nat)])∧zah w.heap.size (.node k n m a ks) w' (kidV k n m a (.slice o l c))∧Below w.heap.size w w':=by
 cases R with
 | ok t=>
  obtain ⟨v,rfl,hv,hB⟩:=h
  have ht:t=.node k n m a ks:=ht
  subst ht
  obtain ⟨sl,rfl,hl⟩:=zaf.1 hv
  obtain ⟨o,l,c,rfl⟩:=zab.shape hl
  exact ⟨o,l,c,rfl,hv,hB⟩
 | err r i=>
  obtain ⟨rfl,hB⟩:=h
  cases ht
  exact ⟨none,0,0,rfl,zfi,hB⟩
set_option maxRecDepth 4000 in
set_option maxHeartbeats 4000000 in
theorem near_main (l m:List UInt8) (c:Int) (w:World) (hG:zhj w) (hc:-9223372036854775808<=c∧c<=9223372036854775807) (hl:l.length<=9223372036854775807) (hm:m.length<=9223372036854775807) (h:zfz l m<=2147483647) (ts:List Tok) (hs:zeq l=.ok ts) (h1t:1<ts.length):Calls Tryz.prog 4 #[.string ⟨l.toArray⟩,.int .i64 c,.string ⟨m.toArray⟩] w fun e w'=>e=.returned (.bool true)∧Below w.heap.size w w':=by
 have Ac:=hid (grd hl hm)
 have h1:¬ (2147483647:Int)<(zfz l m:Nat):=by omega
 have h2:decide ((2147483647:Int)<(zfz l m:Nat))=false:=by simp;omega
 have HA:Hid (Calls Tryz.prog 10 #[] w (fun e w'=>e=.returned (.bool true)∧Below w.heap.size w w')):=zlq w hG
 have hsm:=zh7 h
 have x0:=ext0
 have x1:=ext1
 have x2:=ext2
 have Ar:Hid (∀ w,Calls Tryz.prog 16 #[.string ⟨l.toArray⟩] w (Lx.ScanPost (.ok ts) w)):=fun w=>by
  have hx:=Lx.scan_any l w
  rw [hs] at hx
  exact hx
 have Ad:Hid (ts.length<=16001∧1<ts.length):=⟨(zi8 hs).2.1,h1t⟩
 obtain ⟨K,hK⟩:∃ K:Nat,(K:Int)=pickP c ((ts.length:Int)-1):=⟨(pickP c ((ts.length:Int)-1)).toNat,by have:=(zkw (c:=c) (n:=(ts.length:Int)-1) (by omega)).1;omega⟩
 have HK:Hid (K+1<ts.length):=by show _<_;have:=(zkw (c:=c) (n:=(ts.length:Int)-1) (by omega)).2;omega
 have Ak:Hid (∀ w,Calls Tryz.prog 17 #[.int .i64 c,.int .i64 ((ts.length:Int)-1)] w fun e w'=>e=.returned (.int .i64 K)∧w'=w):=fun w=>by
  rw [hK]
  exact pick_any c _ w (by omega) (by have:=(zi8 hs).2.1;omega) hc.1 hc.2
 obtain ⟨F,hF⟩:∃ x,(ts[K]'(by have:=HK.out;omega)).at_=x:=⟨_,rfl⟩
 obtain ⟨T,hT⟩:∃ x,(ts[K+1]'HK.out).at_=x:=⟨_,rfl⟩
 have hFl:(F:Int)<=l.length:=by have:=scan_ats hs _ (List.getElem_mem (show K<ts.length by have:=HK.out;omega));rw [hF] at this;omega
 have hTl:(T:Int)<=l.length:=by have:=scan_ats hs _ (List.getElem_mem HK.out);rw [hT] at this;omega
 have Al:Hid (∀ (h0:K<ts.length) (h1:K+1<ts.length),(ts[K]'h0).at_=F∧(ts[K+1]'h1).at_=T):=fun _ _=>⟨hF,hT⟩
 have HG:=hid hG
 obtain ⟨LN,hLN⟩:∃ x,ts.length=x:=⟨_,rfl⟩
 have Bd:=hid hLN
 have k1:((LN:Int)==1)=false:=by rw [<- hLN];simp;omega
 have k2:(LN:Int)<=16001:=by rw [<- hLN];have:=Ad.out.1;omega
 have k3:(K:Int)+1<LN:=by rw [<- hLN];have:=HK.out;omega
 have k4:(0:Int)<=(K:Int):=by omega
 have k5:(1:Int)<LN:=by omega
 have f0:(0:Int)<=(F:Int):=by omega
 have t0:(0:Int)<=(T:Int):=by omega
 have hll:(l.length:Int)<=2147483647:=by have:=hsm.1;omega
 have hml:(m.length:Int)<=2147483647:=by have:=hsm.2;omega
 have s1:=fun w=>slice_to w l F (by omega)
 have s2:=fun w=>slice_to w l T (by omega)
 have s3:=fun w=>zmc w l F (by omega)
 have s4:=fun w=>zmc w l T (by omega)
 have a1:((l.take F).length:Int)<=2147483647:=by rw [List.length_take];omega
 have a2:((l.take T).length:Int)<=2147483647:=by rw [List.length_take];omega
 have a3:((l.drop F).length:Int)<=2147483647:=by rw [List.length_drop];omega
 have a4:((l.drop T).length:Int)<=2147483647:=by rw [List.length_drop];omega
 obtain ⟨L1,hL1⟩:∃ x,l.take F=x:=⟨_,rfl⟩
 obtain ⟨L2,hL2⟩:∃ x,l.take T=x:=⟨_,rfl⟩
 obtain ⟨L3,hL3⟩:∃ x,l.drop F=x:=⟨_,rfl⟩
 obtain ⟨L4,hL4⟩:∃ x,l.drop T=x:=⟨_,rfl⟩
 rw [hL1] at s1 a1
 rw [hL2] at s2 a2
 rw [hL3] at s3 a3
 rw [hL4] at s4 a4
 clear hL1 hL2 hL3 hL4
 rw [hLN] at Ak
 clear h hl hm hG hs hsm hc hK hF hT h1t
 go_enter Tryz.func4,Tryz.ntmps4
 go_wp2_with (first|(go_at_call_of 8 (Value.int .i64 (l.length:Int));refine (Ac.out.a _).mono ?_;rintro e wi ⟨rfl,hwi⟩;rw [hwi];clear hwi wi)|(go_at_call_of 8 (Value.int .i64 (m.length:Int));refine (Ac.out.b _).mono ?_;rintro e wi ⟨rfl,hwi⟩;rw [hwi];clear hwi wi)|(go_at_call 9;refine (Ac.out.c _).mono ?_;rintro e wi ⟨rfl,hwi⟩;rw [hwi];clear hwi wi)|(go_at_call 8;refine (Ac.out.d _).mono ?_;rintro e wi ⟨rfl,hwi⟩;rw [hwi];clear hwi wi))
 clear h1 h2
 refine HA.out.mono ?_
 rintro e w1 ⟨rfl,hB⟩
 have Am:=hid hB
 clear hB
 go_wp2_with fail
 refine (Ar.out _).mono ?_
 rintro e w2 ⟨g,cap,rfl,ho,hB⟩
 have An:=hid (Am.out.trans (hB.mono Am.out.size))
 have q0:w2.cell? ⟨g,K*4+3,none⟩=some (.int .i64 F):=by rw [tok_place ho K (by have:=HK.out;omega),(Al.out (by have:=HK.out;omega) HK.out).1]
 have q1:w2.cell? ⟨g,(K+1)*4+3,none⟩=some (.int .i64 T):=by rw [tok_place ho (K+1) HK.out,(Al.out (by have:=HK.out;omega) HK.out).2]
 clear hB ho
 rw [hLN]
 clear hLN
 go_wp2_with fail
 refine (Ak.out _).mono ?_
 rintro e wi ⟨rfl,hwi⟩
 rw [hwi]
 clear hwi wi
 go_wp2_with fail
 clear q0 q1
 go_region
 have Ao:Hid (Below w.heap.size w (w2.alloc (.cells #[.string (⟨L1.toArray⟩++⟨L4.toArray⟩),.string (⟨L2.toArray⟩++⟨#[32]⟩++⟨L3.toArray⟩),.string (⟨L1.toArray⟩++⟨m.toArray⟩++⟨#[32]⟩++⟨L4.toArray⟩),.string ⟨L1.toArray⟩,.string ⟨L2.toArray⟩,.string (⟨L2.toArray⟩++⟨#[32]⟩++⟨m.toArray⟩)] 9)).drew):=(An.out.alloc An.out.size _).drew
 have Ae:=hid (near_cells w2 L1 L2 L3 L4 m)
 have Ag:Hid (w2.heap.size<((w2.alloc (.cells #[.string (⟨L1.toArray⟩++⟨L4.toArray⟩),.string (⟨L2.toArray⟩++⟨#[32]⟩++⟨L3.toArray⟩),.string (⟨L1.toArray⟩++⟨m.toArray⟩++⟨#[32]⟩++⟨L4.toArray⟩),.string ⟨L1.toArray⟩,.string ⟨L2.toArray⟩,.string (⟨L2.toArray⟩++⟨#[32]⟩++⟨m.toArray⟩)] 9)).drew).heap.size):=by show _<(w2.alloc _).heap.size;simp
 generalize (w2.alloc (.cells #[.string (⟨L1.toArray⟩++⟨L4.toArray⟩),.string (⟨L2.toArray⟩++⟨#[32]⟩++⟨L3.toArray⟩),.string (⟨L1.toArray⟩++⟨m.toArray⟩++⟨#[32]⟩++⟨L4.toArray⟩),.string ⟨L1.toArray⟩,.string ⟨L2.toArray⟩,.string (⟨L2.toArray⟩++⟨#[32]⟩++⟨m.toArray⟩)] 9)).drew=w3 at Ao Ae Ag ⊢
 obtain ⟨NB,hNB⟩:∃ x,w2.heap.size=x:=⟨_,rfl⟩
 rw [hNB] at Ae Ag
 rw [hNB]
 obtain ⟨src,hsrc⟩:∃ x,nearS L1 L2 L3 L4 m=x:=⟨_,rfl⟩
 rw [hsrc] at Ae
 clear hNB hsrc s1 s2 s3 s4 a1 a2 a3 a4 hFl hTl f0 t0 hll hml k1 k2 k3 k4 k5 An Ak Ar Al HK Ad Ac HA Am
 go_wp2_with fail
 go_loopw [15] (fun i wr=>∃ q:Nat,i=.int .i64 q∧q<=6∧Hid (Below w3.heap.size w3 wr)) (fun i _=>6 - (intOf i).toNat)
 case atStart => exact ⟨0,rfl,by omega,Below.refl _ _⟩
 case round =>
  obtain ⟨q,rfl,hq,Aa⟩:=hrel
  have Au:=hid (Ao.out.trans (Aa.out.mono Ao.out.size))
  by_cases hlt:q<6
  case neg =>
   have hlt2:¬ (q:Int)<6:=by omega
   go_wp2
   go_ret
   exact ⟨rfl,Au.out⟩
  have hlt2:(q:Int)<6:=by omega
  have hq0:(0:Int)<=(q:Int):=by omega
  have Ap:=hid hlt
  have y0:wr.cell? ⟨NB,q,none⟩=some (.string ⟨(src q).toArray⟩):=(zad (Aa.out.block NB Ag.out) _).1.trans (Ae.out q hlt)
  obtain ⟨x,hx⟩:∃ x,src q=x:=⟨_,rfl⟩
  rw [hx] at y0
  have HY:Hid (∀ u,Below wr.heap.size wr u->u.cell? ⟨NB,q,none⟩=some (.string ⟨x.toArray⟩)):=fun u hu=>by
   rw [<- hx]
   exact (zad ((Aa.out.trans (hu.mono Aa.out.size)).block NB Ag.out) _).1.trans (Ae.out q Ap.out)
  obtain ⟨R,hR⟩:∃ R,zjn x=R:=⟨_,rfl⟩
  have Ax:Hid (Calls Tryz.prog 11 #[.string ⟨x.toArray⟩] wr (zdq R wr)):=by
   have h1:=zky x wr (HG.out.below Au.out)
   rw [hR] at h1
   exact h1
  have Ay:Hid (∀ u,Calls Tryz.prog 12 #[.string ⟨x.toArray⟩] u (zdq R u)):=fun u=>by
   have h1:=rparse_any x u
   rw [hR] at h1
   exact h1
  obtain ⟨k,n,mm,a,ks,hT⟩:∃ k n mm a ks,treeOf R=.node k n mm a ks:=by cases treeOf R;exact ⟨_,_,_,_,_,rfl⟩
  have HT:=hid hT
  obtain ⟨E,hE⟩:∃ E,errOf R=E:=⟨_,rfl⟩
  obtain ⟨P,hP⟩:∃ P,placeOf R=P:=⟨_,rfl⟩
  have Ah:Hid (errOf R=E∧placeOf R=P):=⟨hE,hP⟩
  clear hx hR hT hE hP hlt
  go_wp2_with fail
  refine Ax.out.mono ?_
  intro e w4 hpp
  obtain ⟨o1,l1,c1,rfl,hv,hB⟩:=parse_u hpp HT.out
  rw [Ah.out.1,Ah.out.2]
  have Az:=hid hv
  have Af:=hid hB
  clear hpp hv hB y0
  unfold kidV
  have y1:w4.cell? ⟨NB,q,none⟩=some (.string ⟨x.toArray⟩):=HY.out w4 Af.out
  have y1x:∀ z,(w4.alloc z).cell? ⟨NB,q,none⟩=some (.string ⟨x.toArray⟩):=fun z=>HY.out _ (Af.out.alloc Af.out.size z)
  go_wp2_with fail
  obtain ⟨w5,hw5⟩:∃ z,w4.alloc (.cells #[.int .i64 k,.string ⟨n.toArray⟩,.int .i64 mm,.int .i64 a,.slice o1 l1 c1] 29)=z:=⟨_,rfl⟩
  rw [hw5]
  have Ai:Hid (Below wr.heap.size wr w5):=by show Below _ _ _;rw [<- hw5];exact Af.out.alloc Af.out.size _
  have Av:Hid (w5.heap[w4.heap.size]?=some (kidO k n mm a (.slice o1 l1 c1))∧w4.heap.size<w5.heap.size):=⟨by rw [<- hw5];exact heap_alloc_new _ _,by rw [<- hw5];simp⟩
  have Ba:Hid (zah wr.heap.size (.node k n mm a ks) w5 (kidV k n mm a (.slice o1 l1 c1))):=by show zae _ _ _ _;rw [<- hw5];exact zae.below Az.out (zac _ _)
  clear hw5 y1 y1x
  refine (Ay.out w5).mono ?_
  intro e w6 hpp
  obtain ⟨o2,l2,c2,rfl,hv,hB⟩:=parse_u hpp HT.out
  rw [Ah.out.1,Ah.out.2]
  have Bb:=hid hv
  have Aj:=hid hB
  clear hpp hv hB
  unfold kidV
  have Ab:Hid (w6.heap[w4.heap.size]?=some (kidO k n mm a (.slice o1 l1 c1))∧w4.heap.size<w6.heap.size):=⟨zao Aj.out Av.out.1,Nat.lt_of_lt_of_le Av.out.2 Aj.out.size⟩
  obtain ⟨⟨z0,z1,z2,z3,z4⟩,_⟩:=zaa Ab.out.1
  have z0x:∀ z,(w6.alloc z).cell? ⟨w4.heap.size,0,none⟩=_:=fun z=>(World.cell?_alloc_lt _ _ _ Ab.out.2).trans z0
  have z1x:∀ z,(w6.alloc z).cell? ⟨w4.heap.size,1,none⟩=_:=fun z=>(World.cell?_alloc_lt _ _ _ Ab.out.2).trans z1
  have z2x:∀ z,(w6.alloc z).cell? ⟨w4.heap.size,2,none⟩=_:=fun z=>(World.cell?_alloc_lt _ _ _ Ab.out.2).trans z2
  have z3x:∀ z,(w6.alloc z).cell? ⟨w4.heap.size,3,none⟩=_:=fun z=>(World.cell?_alloc_lt _ _ _ Ab.out.2).trans z3
  have z4x:∀ z,(w6.alloc z).cell? ⟨w4.heap.size,4,none⟩=_:=fun z=>(World.cell?_alloc_lt _ _ _ Ab.out.2).trans z4
  go_wp2_with fail
  obtain ⟨w7,hw7⟩:∃ z,w6.alloc (.cells #[.int .i64 k,.string ⟨n.toArray⟩,.int .i64 mm,.int .i64 a,.slice o2 l2 c2] 29)=z:=⟨_,rfl⟩
  rw [hw7]
  have Aq:Hid (Below w5.heap.size w5 w7):=by show Below _ _ _;rw [<- hw7];exact Aj.out.alloc Aj.out.size _
  have Aw:Hid (Calls Tryz.prog 13 #[kidV k n mm a (.slice o1 l1 c1),kidV k n mm a (.slice o2 l2 c2)] w7 (fun e w'=>e=.returned (.bool true)∧Below w7.heap.size w7 w')):=alike_any _ (.node k n mm a ks) (Nat.le_refl _) _ _ w7 _ _ (zae.below Ba.out Aq.out) (by rw [<- hw7];exact zae.below Bb.out (zac _ _))
  unfold kidV at Aw
  clear hw7 z0 z1 z2 z3 z4 z0x z1x z2x z3x z4x
  refine Aw.out.mono ?_
  rintro e w8 ⟨rfl,hB⟩
  have Bc:Hid (Below w3.heap.size w3 w8):=((Aa.out.trans (Ai.out.mono Aa.out.size)).trans (Aq.out.mono (Aa.out.trans (Ai.out.mono Aa.out.size)).size)).trans (hB.mono ((Aa.out.trans (Ai.out.mono Aa.out.size)).trans (Aq.out.mono (Aa.out.trans (Ai.out.mono Aa.out.size)).size)).size)
  clear hB
  have e1:(E != E)=false:=by simp
  have e2:((P:Int) != (P:Int))=false:=by simp
  go_wp2
  go_roundw
  case rel => exact ⟨q+1,by go_num,Ap.out,Bc⟩
  case measure => have:=Ap.out;simp [intOf];omega
theorem near_any (l m:List UInt8) (c:Int) (w:World) (hG:zhj w) (hc:-9223372036854775808<=c∧c<=9223372036854775807) (hl:l.length<=9223372036854775807) (hm:m.length<=9223372036854775807):Calls Tryz.prog 4 #[.string ⟨l.toArray⟩,.int .i64 c,.string ⟨m.toArray⟩] w fun e w'=>e=.returned (.bool true)∧Below w.heap.size w w':=by
 by_cases h:zfz l m<=2147483647
 · cases hs:zeq l with
   | err r i=>exact near_lex l m c w hG hl hm h r i hs
   | ok ts=>
    by_cases h1:ts.length=1
    · exact near_one l m c w hG hl hm h ts hs h1
    · exact near_main l m c w hG hc hl hm h ts hs (by have:=(zi8 hs).2.2.2;omega)
 · exact near_more l m c w hl hm h
end Go.Proofs.YtighggeokiahfaaGreatDoor.Dm
