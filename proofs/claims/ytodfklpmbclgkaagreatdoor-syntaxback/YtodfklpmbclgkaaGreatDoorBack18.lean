import Derived.Test.YtodfklpmbclgkaaGreatDoorBack17
import Derived.Test.YtodfklpmbclgkaaGreatDoorTie
import Derived.Test.YtodfklpmbclgkaaGreatDoorCards
import Derived.ProofKit
import Derived.OpenShut
import Derived.LaidMore
import Derived.Lay
import Derived.SevenTiedAt
import Derived.Stop.Joined
import Derived.Lib.LaidTab
import Derived.Lib.LaidU8
import Derived.ChangeMaps5
import Derived.Carry
import Derived.Deep.Slices
import Derived.Test.YtodfklpmbclgkaaGreatDoorBack00
namespace Go.Proofs.YtodfklpmbclgkaaGreatDoor.Pr
open Go.RowKit Go.Lib
theorem parsed {B:Nat} {w:World} {v:Value} {t:Tree} (h:zal B t w v) (ho:zdv t):∃ k n m a us o c,t.toI=.node k n m a us∧v=zaj k n m a (.slice o us.length c)∧TreeR w.heap.size w (.node k n m a us) (zaj k n m a (.slice o us.length c)):=by
 have hr:=toR t v ho h
 cases ht:t.toI with
 | node k n m a us =>
  rw [ht] at hr
  have hr2:=hr
  rw [treeR_node] at hr2
  obtain ⟨o,c,hv,_⟩:=hr2
  subst hv
  exact ⟨k,n,m,a,us,o,c,rfl,rfl,hr⟩
theorem parsed0 {B:Nat} {w:World} {v:Value} {t:Tree} (h:zal B t w v):∃ k n m a o L c,v=zaj k n m a (.slice o L c):=by
 cases t with
 | node k n m a ks =>
  unfold zal at h
  rw [zam] at h
  obtain ⟨sl,rfl,xs,hown,_⟩:=h
  rcases hown with ⟨_,⟨rfl,_⟩|⟨g,cap,cur,rfl,_⟩⟩
  · exact ⟨k,n,m,a,none,0,0,rfl⟩
  · exact ⟨k,n,m,a,some ⟨g,0,none⟩,_,cap,rfl⟩
/-- the source with a blank more behind each token -/
def zbt (l:List UInt8):List Tok->List UInt8
 | t::u::r=>sub l t.at_ u.at_++([32]++zbt l (u::r))
 | _=>[]
/-- what is plainly so of a tree and of a source -/
structure Back (t:ITree) (l:List UInt8):Prop where
 one:∀ p,zeg t=some p->∃ x,zch p=.ok x∧zdv x∧zdw x.toI t=true
 two:∀ a,zch l=.ok a->zdv a∧∃ q,zeg a.toI=some q∧q.length<=l.length∧∃ b,zch q=.ok b∧zdv b∧zeg b.toI=some q∧zdw a.toI b.toI=true
 ats:∀ ts,zc7 l=.ok ts->ts.length<=16001∧l.length<=16000∧∀ i (h:i+1<ts.length),(ts[i]).at_<=(ts[i+1]).at_∧(ts[i+1]).at_<=l.length
 three:∀ a ts,zch l=.ok a->zc7 l=.ok ts->(zbt l ts).length<=16000->∃ c,zch (zbt l ts)=.ok c∧zdv c∧zdw a.toI c.toI=true
theorem parse_empty:zch []=.ok (.node 1 [] 0 0 []):=by kernel_rfl
theorem zlk {l:List UInt8} {r:Int} {i:Nat} (h:zch l=.err r i):r≠0:=by
 unfold zch at h
 cases hs:zc7 l with
 | err e j =>
  rw [hs] at h
  cases h
  have:=fault_range hs
  omega
 | ok ts =>
  rw [hs] at h
  dsimp only at h
  cases hp:zbb 102 [] ⟨ts,false⟩ with
  | ok ks st=>rw [hp] at h;cases h
  | no e n =>
   rw [hp] at h
   cases h
   obtain ⟨us,v,vs,_,_,_,h3,_⟩:=places hs hp
   rcases h3 with rfl|rfl|rfl <;> decide
theorem znm {l:List UInt8} (h:¬ l.length<=16000):zch l=.err 34 16000:=by
 unfold zch zc7
 rw [if_pos (by omega)]
theorem zex {s:ByteArray} {l:List UInt8} (h:s.data.toList=l):s=⟨l.toArray⟩:=by
 cases s with
 | mk a=>cases a;cases h;rfl
theorem zf3 {l:List UInt8} {x y:Nat} (X:ByteArray):(X++(⟨l.toArray⟩:ByteArray).extract x y++⟨#[32]⟩).data.toList=X.data.toList++(sub l x y++[32]):=by
 simp [sub,ByteArray.data_append,ByteArray.data_extract]
set_option maxHeartbeats 2000000 in
set_option maxRecDepth 4000 in
theorem sb_any (k:Int) (n:List UInt8) (m a:Int) (ks:List ITree) (o:Option Addr) (c:Nat) (l:List UInt8) (w:World) (ht:TreeR w.heap.size w (.node k n m a ks) (zaj k n m a (.slice o ks.length c))) (hG:Base w) (hl:l.length<=9223372036854775807) (hback:Back (.node k n m a ks) l) :
 Calls Tryz.prog 6 #[zaj k n m a (.slice o ks.length c),.string ⟨l.toArray⟩] w fun e w'=>e=.returned (.bool true)∧Below w.heap.size w w':=by
 have HTR:=hid ht
 have HG:=hid hG
 have HBACK:=hid hback
 have HLL:=hid hl
 obtain ⟨wa,hwa⟩:∃ x,w.alloc (.cells #[.int .i64 k,.string ⟨n.toArray⟩,.int .i64 m,.int .i64 a,.slice o ks.length c] 29)=x:=⟨_,rfl⟩
 have HB:=hidB hwa
 have HK:Hid (wa.heap[w.heap.size]?=some (za2 k n m a (.slice o ks.length c))):=by show _=_;rw [<- hwa];exact heap_alloc_new _ _
 obtain ⟨⟨z0,z1,z2,z3,z4⟩,_⟩:=zab HK.out
 have HSZ:=hid (size_any 65536 0 (by omega) w.heap.size wa k n m a ks o c (TreeR.frame (Nat.le_refl _) (fun b hb=>HB.out.block b hb) _ _ HTR.out) HB.out.size)
 obtain ⟨Z,hZ⟩:∃ Z,zin 65536 (.node k n m a ks)=Z:=⟨_,rfl⟩
 have HZ:Hid (Z<=9223372036854775807):=by show _<=_;rw [<- hZ];exact Nat.le_trans (size_le _ _) (by omega)
 rw [hZ] at HSZ
 clear hZ ht hG hback
 have HT1:Hid (∀ w,Calls Tryz.prog 8 #[.int .i64 (l.length:Nat)] w fun e w'=>e=.returned (.int .i64 (zh9 l.length))∧w'=w):=fun w=>zm4 l.length HLL.out w
 obtain ⟨Y,hY⟩:∃ Y,zh9 l.length=Y:=⟨_,rfl⟩
 have HY:Hid (Y<=9223372036854775807):=by show _<=_;rw [<- hY];exact Nat.le_trans (thrice_le _) (by omega)
 rw [hY] at HT1
 have HT2:Hid (∀ w,Calls Tryz.prog 9 #[.int .i64 (Z:Nat),.int .i64 (Y:Nat)] w fun e w'=>e=.returned (.int .i64 (addP Z Y))∧w'=w):=fun w=>zmk Z Y HZ.out HY.out w
 obtain ⟨X,hX⟩:∃ X,addP Z Y=X:=⟨_,rfl⟩
 have HX:Hid (X<=9223372036854775807):=by show _<=_;rw [<- hX];exact Nat.le_trans (zmj _ _) (by omega)
 rw [hX] at HT2
 have HT3:Hid (∀ w,Calls Tryz.prog 8 #[.int .i64 (X:Nat)] w fun e w'=>e=.returned (.int .i64 (zh9 X))∧w'=w):=fun w=>zm4 X HX.out w
 obtain ⟨G,hGG⟩:∃ G,zh9 X=G:=⟨_,rfl⟩
 rw [hGG] at HT3
 clear hY hX hGG hl
 unfold zaj at HSZ ⊢
 have x0:=ext0
 have x1:=ext1
 have x2:=ext2
 have y0:=pair0
 have y1:=pair1
 by_cases hg:G<=2147483647
 case neg =>
  have h1:(G:Int) > 2147483647:=by omega
  have h2:decide ((2147483647:Int)<(G:Int))=true:=by simp;omega
  go_enter Tryz.func6,Tryz.ntmps6
  go_wp2_with fail
  refine HSZ.out.mono ?_
  rintro e w1 ⟨rfl,hB⟩
  have HB1:=hid (HB.out.trans (hB.mono HB.out.size))
  clear hB hwa z0 z1 z2 z3 z4
  go_wp2_with (first|(go_at_call_of 8 (Value.int .i64 (l.length:Int));refine (HT1.out _).mono ?_;rintro e wi ⟨rfl,hwi⟩;rw [hwi];clear hwi wi)|(go_at_call 9;refine (HT2.out _).mono ?_;rintro e wi ⟨rfl,hwi⟩;rw [hwi];clear hwi wi)|(go_at_call_of 8 (Value.int .i64 (X:Int));refine (HT3.out _).mono ?_;rintro e wi ⟨rfl,hwi⟩;rw [hwi];clear hwi wi))
  go_ret
  exact ⟨rfl,HB1.out⟩
 have h1:¬ (G:Int) > 2147483647:=by omega
 have h2:decide ((2147483647:Int)<(G:Int))=false:=by simp;omega
 go_enter Tryz.func6,Tryz.ntmps6
 go_wp2_with fail
 refine HSZ.out.mono ?_
 rintro e w1 ⟨rfl,hB⟩
 have HB1:=hid2 (HB.out.trans (hB.mono HB.out.size)) hB
 clear hB hwa z0 z1 z2 z3 z4
 go_wp2_with (first|(go_at_call_of 8 (Value.int .i64 (l.length:Int));refine (HT1.out _).mono ?_;rintro e wi ⟨rfl,hwi⟩;rw [hwi];clear hwi wi)|(go_at_call 9;refine (HT2.out _).mono ?_;rintro e wi ⟨rfl,hwi⟩;rw [hwi];clear hwi wi)|(go_at_call_of 8 (Value.int .i64 (X:Int));refine (HT3.out _).mono ?_;rintro e wi ⟨rfl,hwi⟩;rw [hwi];clear hwi wi))
 clear h1 h2 hg
 refine (awake_any w1 (HG.out.after rfl HB1.out.1).1).mono ?_
 rintro e w2 ⟨rfl,hB⟩
 have HB2:=hid2 (HB1.out.1.trans (hB.mono HB1.out.1.size)) (HB1.out.2.trans (hB.mono HB1.out.2.size))
 clear hB
 obtain ⟨⟨z0,z1,z2,z3,z4⟩,_⟩:=zab (za8 HB2.out.2 HK.out)
 have HT4:=hid (TreeR.frame (Nat.le_refl _) (fun b hb=>HB2.out.1.block b hb) _ _ HTR.out)
 have HPR:=hid (zgi k n m a ks o c w2 w.heap.size HB2.out.1.size HT4.out (HG.out.after rfl HB2.out.1))
 unfold zaj at HPR
 go_wp2_with fail
 refine HPR.out.mono ?_
 cases hsrc:zeg (.node k n m a ks) with
 | none =>
  rintro e w3 ⟨he,hB⟩
  subst he
  have HB3:=hid (HB2.out.1.trans (hB.mono HB2.out.1.size))
  clear hB z0 z1 z2 z3 z4 hsrc HPR
  have HPE:Hid (Calls Tryz.prog 11 #[.string ⟨#[]⟩] w3 (zb7 (.ok (.node 1 [] 0 0 [])) w3)):=by
   have hp:=zcx [] w3 (HG.out.after rfl HB3.out).1
   rw [parse_empty] at hp
   exact hp
  go_wp2_with fail
  refine HPE.out.mono ?_
  rintro e w4 ⟨vx,rfl,hT,hB⟩
  obtain ⟨k0,n0,m0,a0,o0,L0,c0,rfl⟩:=parsed0 hT
  obtain ⟨wx,hwx⟩:∃ y,w4.alloc (.cells #[.int .i64 k0,.string ⟨n0.toArray⟩,.int .i64 m0,.int .i64 a0,.slice o0 L0 c0] 29)=y:=⟨_,rfl⟩
  have HBWN:Hid (Below w.heap.size w wx):=by show Below _ _ _;rw [<- hwx];exact (HB3.out.trans (hB.mono HB3.out.size)).alloc (HB3.out.trans (hB.mono HB3.out.size)).size _
  clear hT hB HPE
  unfold zaj
  have HBZ:=hid HBWN.out
  clear HBWN
  cases hpl:zch l with
  | err r i =>
   have hr0:=zlk hpl
   have r1:(r != 0)=true:=by simp [hr0]
   have HPL:Hid (Calls Tryz.prog 11 #[.string ⟨l.toArray⟩] wx (zb7 (.err r i) wx)):=by
    have hp:=zcx l wx (HG.out.after rfl HBZ.out).1
    rw [hpl] at hp
    exact hp
   clear hpl hr0
   go_wp2_with fail
   refine HPL.out.mono ?_
   rintro e w5 ⟨rfl,hB⟩
   have HB5:Hid (Below w.heap.size w (w5.alloc (.cells #[.int .i64 0,.string ⟨#[]⟩,.int .i64 0,.int .i64 0,.slice none 0 0] 29))):=(HBZ.out.trans (hB.mono HBZ.out.size)).alloc (HBZ.out.trans (hB.mono HBZ.out.size)).size _
   clear hB
   unfold kidV
   go_wp2
   go_ret
   exact ⟨rfl,HB5.out⟩
  | ok ta =>
   have HPL:Hid (Calls Tryz.prog 11 #[.string ⟨l.toArray⟩] wx (zb7 (.ok ta) wx)):=by
    have hp:=zcx l wx (HG.out.after rfl HBZ.out).1
    rw [hpl] at hp
    exact hp
   have HPOK:=hid hpl
   obtain ⟨hta,q,hq1,hq2,tb,hb1,hb2,hb3,hb4⟩:=HBACK.out.two ta hpl
   have HTA:=hid2 hta hb2
   have HQ:=hid4 hq1 hb3 hb4 hb1
   have hql:¬ (q.length:Int) > (l.length:Int):=by omega
   obtain ⟨ts,hsc⟩:∃ ts,zc7 l=.ok ts:=by
    cases hs:zc7 l with
    | ok ts=>exact ⟨ts,rfl⟩
    | err e j=>unfold zch at hpl;rw [hs] at hpl;cases hpl
   have HSC:=hid hsc
   clear hpl hta hq1 hq2 hb1 hb2 hb3 hb4 hsc
   go_wp2_with fail
   refine HPL.out.mono ?_
   rintro e w5 ⟨va,rfl,hT,hB⟩
   obtain ⟨kA,nA,mA,aA,usA,oA,cA,htaI,rfl,htr⟩:=parsed hT HTA.out.1
   have HB5:=hid (HBZ.out.trans (hB.mono HBZ.out.size))
   have HRA:=hid htr
   rw [htaI] at HQ
   have HTI:=hid htaI
   clear hT hB htr htaI HPL
   obtain ⟨wxA,hwxA⟩:∃ y,w5.alloc (.cells #[.int .i64 kA,.string ⟨nA.toArray⟩,.int .i64 mA,.int .i64 aA,.slice oA usA.length cA] 29)=y:=⟨_,rfl⟩
   have HBXA:Hid (Below w5.heap.size w5 wxA):=by show Below _ _ _;rw [<- hwxA];exact zad _ _
   have HKXA:Hid (wxA.heap[w5.heap.size]?=some (za2 kA nA mA aA (.slice oA usA.length cA))):=by show _=_;rw [<- hwxA];exact heap_alloc_new _ _
   obtain ⟨⟨xA0,xA1,xA2,xA3,xA4⟩,_⟩:=zab HKXA.out
   have HB6:=hid (HB5.out.trans (HBXA.out.mono HB5.out.size))
   have HRX:=hid (TreeR.frame (Nat.le_refl _) (fun b hb=>HBXA.out.block b hb) _ _ HRA.out)
   have HPRA:Hid (Calls Tryz.prog 20 #[zaj kA nA mA aA (.slice oA usA.length cA)] wxA (zen (some q) wxA)):=by
    have hp:=zgi kA nA mA aA usA oA cA wxA w5.heap.size HBXA.out.size HRX.out (HG.out.after rfl HB6.out)
    rw [HQ.out.1] at hp
    exact hp
   unfold zaj at HPRA
   unfold zaj
   go_wp2_with fail
   refine HPRA.out.mono ?_
   rintro e w6 ⟨he,hB⟩
   subst he
   have HB7:=hid2 (HB6.out.trans (hB.mono HB6.out.size)) hB
   clear hB hwxA xA0 xA1 xA2 xA3 xA4
   have HPQ:Hid (Calls Tryz.prog 11 #[.string ⟨q.toArray⟩] w6 (zb7 (.ok tb) w6)):=by
    have hp:=zcx q w6 (HG.out.after rfl HB7.out.1).1
    rw [HQ.out.2.2.2] at hp
    exact hp
   go_wp2_with fail
   refine HPQ.out.mono ?_
   rintro e w7 ⟨vb,rfl,hT,hB⟩
   obtain ⟨kB,nB,mB,aB,usB,oB,cB,htbI,rfl,htr⟩:=parsed hT HTA.out.2
   have HB8:=hid2 (HB7.out.1.trans (hB.mono HB7.out.1.size)) (HB7.out.2.trans (hB.mono HB7.out.2.size))
   have HRB:=hid htr
   rw [htbI] at HQ
   clear hT hB htr htbI HPQ HPRA
   obtain ⟨wxB,hwxB⟩:∃ y,w7.alloc (.cells #[.int .i64 kB,.string ⟨nB.toArray⟩,.int .i64 mB,.int .i64 aB,.slice oB usB.length cB] 29)=y:=⟨_,rfl⟩
   have HBXB:Hid (Below w7.heap.size w7 wxB):=by show Below _ _ _;rw [<- hwxB];exact zad _ _
   have HKXB:Hid (wxB.heap[w7.heap.size]?=some (za2 kB nB mB aB (.slice oB usB.length cB))):=by show _=_;rw [<- hwxB];exact heap_alloc_new _ _
   obtain ⟨⟨xB0,xB1,xB2,xB3,xB4⟩,_⟩:=zab HKXB.out
   have HB9:=hid2 (HB8.out.1.trans (HBXB.out.mono HB8.out.1.size)) (HB8.out.2.trans (HBXB.out.mono HB8.out.2.size))
   have HRY:=hid (TreeR.frame (Nat.le_refl _) (fun b hb=>HBXB.out.block b hb) _ _ HRB.out)
   have HPRB:Hid (Calls Tryz.prog 20 #[zaj kB nB mB aB (.slice oB usB.length cB)] wxB (zen (some q) wxB)):=by
    have hp:=zgi kB nB mB aB usB oB cB wxB w7.heap.size HBXB.out.size HRY.out (HG.out.after rfl HB9.out.1)
    rw [HQ.out.2.1] at hp
    exact hp
   unfold zaj at HPRB
   unfold zaj
   go_wp2_with fail
   refine HPRB.out.mono ?_
   rintro e w8 ⟨he,hB⟩
   subst he
   have HB10:=hid3 (HB9.out.1.trans (hB.mono HB9.out.1.size)) (HB9.out.2.trans (hB.mono HB9.out.2.size)) hB
   clear hB hwxB xB0 xB1 xB2 xB3 xB4 HPRB
   obtain ⟨⟨p0,p1,p2,p3,p4⟩,_⟩:=zab (za8 HB10.out.2.1 HKXA.out)
   obtain ⟨⟨q0,q1,q2,q3,q4⟩,_⟩:=zab (za8 HB10.out.2.2 HKXB.out)
   have HSM:Hid (Calls Tryz.prog 23 #[zaj kA nA mA aA (.slice oA usA.length cA),zaj kB nB mB aB (.slice oB usB.length cB)] w8 (fun e w'=>e=.returned (.bool true)∧Below w8.heap.size w8 w')):=by
    have hs:=ze1 _ _ _ (Nat.le_refl _) w5.heap.size w7.heap.size w8 _ _ (TreeR.frame (Nat.le_refl _) (fun b hb=>HB10.out.2.1.block b (Nat.lt_of_lt_of_le hb HBXA.out.size)) _ _ HRX.out) (TreeR.frame (Nat.le_refl _) (fun b hb=>HB10.out.2.2.block b (Nat.lt_of_lt_of_le hb HBXB.out.size)) _ _ HRY.out) (Nat.le_trans HBXA.out.size HB10.out.2.1.size) (Nat.le_trans HBXB.out.size HB10.out.2.2.size)
    rw [HQ.out.2.2.1] at hs
    exact hs
   unfold zaj at HSM
   go_wp2_with fail
   refine HSM.out.mono ?_
   rintro e w9 ⟨rfl,hB⟩
   have HB11:=hid2 (HB10.out.1.trans (hB.mono HB10.out.1.size)) (HB10.out.2.1.trans (hB.mono HB10.out.2.1.size))
   clear hB p0 p1 p2 p3 p4 q0 q1 q2 q3 q4 HSM hql
   have HSCN:Hid (Calls Tryz.prog 16 #[.string ⟨l.toArray⟩] w9 (Lx.ScanPost (.ok ts) w9)):=by
    have hp:=Lx.scan_any l w9
    rw [HSC.out] at hp
    exact hp
   go_wp2_with fail
   refine HSCN.out.mono ?_
   rintro e w10 ⟨g,cap,rfl,ho,hB⟩
   have HB12:=hid2 (HB11.out.1.trans (hB.mono HB11.out.1.size)) (HB11.out.2.trans (hB.mono HB11.out.2.size))
   have HTP:Hid (∀ j (hj:j<ts.length),w10.cell? ⟨g,j*4+3,none⟩=some (.int .i64 (ts[j]).at_)):=fun j hj=>tok_place ho j hj
   have HGL:=hid ((ho.lt g rfl).2)
   obtain ⟨hts,hll,hats⟩:=HBACK.out.ats ts HSC.out
   have HATS:=hid hats
   obtain ⟨T,hT⟩:∃ T,ts.length=T:=⟨_,rfl⟩
   have HTL:Hid (ts.length=T∧T<=16001∧l.length<=16000):=⟨hT,by omega,hll⟩
   obtain ⟨S,hS⟩:∃ S,zbt l ts=S:=⟨_,rfl⟩
   have HSP:=hid hS
   rw [hT]
   clear hB ho hts hll hats hT hS HSCN
   go_wp2_with fail
   go_loopw [24,25] (fun s i wr=>∃ (q:Nat) (X:ByteArray),s=.string X∧i=.int .i64 q∧q<=T∧X.size<=q*16001∧Hid (X.data.toList++zbt l (ts.drop q)=S)∧Hid (Below w10.heap.size w10 wr)) (fun _ i _=>T - (RowKit.intOf i).toNat)
   case atStart=>exact ⟨0,⟨#[]⟩,rfl,rfl,by omega,by decide,HSP,Below.refl _ _⟩
   case round =>
    obtain ⟨q,X,rfl,rfl,hq,hxs,HXS,HBR⟩:=hrel
    have hqm:(q:Int)<=16001:=by have:=HTL.out;omega
    have hq0:(0:Int)<=(q:Int):=by omega
    by_cases hlt:q+1<T
    · have hlt' : (q:Int)+1<(T:Int):=by omega
      have hlt2:(q:Int)<(T:Int):=by omega
      have hq1:(0:Int)<=(q:Int)+1:=by omega
      have HQL:=hid hlt
      have hj1:q<ts.length:=by have:=HTL.out;omega
      have hj2:q+1<ts.length:=by have:=HTL.out;omega
      have hc1:wr.cell? ⟨g,q*4+3,none⟩=some (.int .i64 (ts[q]).at_):=by
       rw [(zae (HBR.out.block g HGL.out) _).1]
       exact HTP.out q hj1
      have hc2:wr.cell? ⟨g,(q+1)*4+3,none⟩=some (.int .i64 (ts[q+1]).at_):=by
       rw [(zae (HBR.out.block g HGL.out) _).1]
       exact HTP.out (q+1) hj2
      obtain ⟨hz1,hz2⟩:=HATS.out q hj2
      have HNX:Hid ((X++(⟨l.toArray⟩:ByteArray).extract (ts[q]).at_ (ts[q+1]).at_++⟨#[32]⟩).data.toList++zbt l (ts.drop (q+1))=S):=by
       show _=_
       rw [<- HXS.out,zf3,List.drop_eq_getElem_cons hj1,List.drop_eq_getElem_cons hj2,zbt]
       simp
      have HNS:Hid ((X++(⟨l.toArray⟩:ByteArray).extract (ts[q]).at_ (ts[q+1]).at_++⟨#[32]⟩).size<=(q+1)*16001):=by
       show _<=_
       have h1:(X++(⟨l.toArray⟩:ByteArray).extract (ts[q]).at_ (ts[q+1]).at_++⟨#[32]⟩).size=(X++(⟨l.toArray⟩:ByteArray).extract (ts[q]).at_ (ts[q+1]).at_++⟨#[32]⟩).data.toList.length:=rfl
       have h2:X.size=X.data.toList.length:=rfl
       rw [h1,zf3]
       have h3:(sub l (ts[q]).at_ (ts[q+1]).at_).length<=l.length:=by unfold sub;simp;omega
       have:=HTL.out
       simp only [List.length_append,List.length_cons,List.length_nil]
       omega
      generalize (ts[q]).at_=x at *
      generalize (ts[q+1]).at_=y at *
      have hy1:(x:Int)<=(y:Int):=by omega
      have hy2:(y:Int)<=(l.length:Int):=by omega
      have hy0:(0:Int)<=(x:Int):=by omega
      have hy3:(0:Int)<=(y:Int):=by omega
      have hyz:(y:Int)<=16000:=by have:=HTL.out;omega
      clear hlt hj1 hj2 hz1 hz2 HXS
      go_wp2_with fail
      go_region
      all_goals (
       go_wp2
       go_roundw
       case rel=>exact ⟨q+1,_,rfl,by go_num,by have:=HQL.out;omega,HNS.out,HNX,HBR.out.drew⟩
       case measure=>have:=HQL.out;simp [RowKit.intOf];omega)
    · have hlt' : ¬ (q:Int)+1<(T:Int):=by omega
      have HXE:Hid (X=⟨S.toArray⟩):=by
       show _=_
       have h1:zbt l (ts.drop q)=[]:=by
        have:(ts.drop q).length<=1:=by rw [List.length_drop];have:=HTL.out;omega
        match hm:ts.drop q,this with
        | [],_=>rfl
        | [_],_=>rfl
       have h2:=HXS.out
       rw [h1,List.append_nil] at h2
       exact zex h2
      have HSL:Hid (S.length<=9223372036854775807):=by
       show _<=_
       have h2:X.size=X.data.toList.length:=rfl
       have h3:X.data.toList=S:=by rw [HXE.out]
       rw [<- h3,<- h2]
       have:=HTL.out
       omega
      have HBQ:=hid2 (HB12.out.1.trans (HBR.out.mono HB12.out.1.size)) (HB12.out.2.trans (HBR.out.mono HB12.out.2.size))
      have hxe:=HXE.out
      subst hxe
      have hss:(⟨S.toArray⟩:ByteArray).size=S.length:=rfl
      clear hlt HXS hxs
      by_cases hbig:S.length<=16000
      · have hb1:¬ (S.length:Int) > 16000:=by omega
        obtain ⟨tc,hc1,hc2,hc3⟩:=HBACK.out.three ta ts HPOK.out HSC.out (by rw [HSP.out];exact hbig)
        rw [HSP.out] at hc1
        have HPC:Hid (Calls Tryz.prog 11 #[.string ⟨S.toArray⟩] wr (zb7 (.ok tc) wr)):=by
         have hp:=zcx S wr (HG.out.after rfl HBQ.out.1).1
         rw [hc1] at hp
         exact hp
        have HTC:=hid2 hc2 hc3
        clear hc1 hc2 hc3 hbig
        go_wp2_with fail
        refine HPC.out.mono ?_
        rintro e w11 ⟨vc,rfl,hT,hB⟩
        obtain ⟨kC,nC,mC,aC,usC,oC,cC,htcI,rfl,htr⟩:=parsed hT HTC.out.1
        have HB13:=hid2 (HBQ.out.1.trans (hB.mono HBQ.out.1.size)) (HBQ.out.2.trans (hB.mono HBQ.out.2.size))
        have HRC:=hid htr
        rw [htcI,HTI.out] at HTC
        clear hT hB htr htcI HPC
        obtain ⟨wxC,hwxC⟩:∃ y,w11.alloc (.cells #[.int .i64 kC,.string ⟨nC.toArray⟩,.int .i64 mC,.int .i64 aC,.slice oC usC.length cC] 29)=y:=⟨_,rfl⟩
        have HBXC:Hid (Below w11.heap.size w11 wxC):=by show Below _ _ _;rw [<- hwxC];exact zad _ _
        have HKXC:Hid (wxC.heap[w11.heap.size]?=some (za2 kC nC mC aC (.slice oC usC.length cC))):=by show _=_;rw [<- hwxC];exact heap_alloc_new _ _
        obtain ⟨⟨xC0,xC1,xC2,xC3,xC4⟩,_⟩:=zab HKXC.out
        have HB14:=hid2 (HB13.out.1.trans (HBXC.out.mono HB13.out.1.size)) (HB13.out.2.trans (HBXC.out.mono HB13.out.2.size))
        obtain ⟨⟨p0,p1,p2,p3,p4⟩,_⟩:=zab (za8 HB14.out.2 HKXA.out)
        have HSM:Hid (Calls Tryz.prog 23 #[zaj kA nA mA aA (.slice oA usA.length cA),zaj kC nC mC aC (.slice oC usC.length cC)] wxC (fun e w'=>e=.returned (.bool true)∧Below wxC.heap.size wxC w')):=by
         have hs:=ze1 _ _ _ (Nat.le_refl _) w5.heap.size w11.heap.size wxC _ _ (TreeR.frame (Nat.le_refl _) (fun b hb=>HB14.out.2.block b (Nat.lt_of_lt_of_le hb HBXA.out.size)) _ _ HRX.out) (TreeR.frame (Nat.le_refl _) (fun b hb=>HBXC.out.block b hb) _ _ HRC.out) (Nat.le_trans HBXA.out.size HB14.out.2.size) HBXC.out.size
         rw [HTC.out.2] at hs
         exact hs
        unfold zaj at HSM
        unfold zaj
        go_wp2_with fail
        refine HSM.out.mono ?_
        rintro e w12 ⟨rfl,hB⟩
        have HB15:=hid (HB14.out.1.trans (hB.mono HB14.out.1.size))
        clear hB
        go_wp2
        go_ret
        exact ⟨rfl,HB15.out⟩
      · have hb1:(S.length:Int) > 16000:=by omega
        have HPC:Hid (Calls Tryz.prog 11 #[.string ⟨S.toArray⟩] wr (zb7 (.err 34 16000) wr)):=by
         have hp:=zcx S wr (HG.out.after rfl HBQ.out.1).1
         rw [znm hbig] at hp
         exact hp
        clear hbig
        go_wp2_with fail
        refine HPC.out.mono ?_
        rintro e w11 ⟨rfl,hB⟩
        have HB13:Hid (Below w.heap.size w (w11.alloc (.cells #[.int .i64 0,.string ⟨#[]⟩,.int .i64 0,.int .i64 0,.slice none 0 0] 29))):=(HBQ.out.1.trans (hB.mono HBQ.out.1.size)).alloc (HBQ.out.1.trans (hB.mono HBQ.out.1.size)).size _
        clear hB
        unfold kidV
        go_wp2
        go_ret
        exact ⟨rfl,HB13.out⟩
 | some pp =>
  rintro e w3 ⟨he,hB⟩
  subst he
  have HB3:=hid2 (HB2.out.1.trans (hB.mono HB2.out.1.size)) (HB2.out.2.trans (hB.mono HB2.out.2.size))
  obtain ⟨tp,hp1,hp2,hp3⟩:=HBACK.out.one pp hsrc
  have HPE:Hid (Calls Tryz.prog 11 #[.string ⟨pp.toArray⟩] w3 (zb7 (.ok tp) w3)):=by
   have hp:=zcx pp w3 (HG.out.after rfl HB3.out.1).1
   rw [hp1] at hp
   exact hp
  have HTP0:=hid2 hp2 hp3
  clear hB z0 z1 z2 z3 z4 hsrc HPR hp1 hp2 hp3
  go_wp2_with fail
  refine HPE.out.mono ?_
  rintro e w4 ⟨vx,rfl,hT,hB⟩
  obtain ⟨kP,nP,mP,aP,usP,oP,cP,htI,rfl,htr⟩:=parsed hT HTP0.out.1
  have HB4:=hid2 (HB3.out.1.trans (hB.mono HB3.out.1.size)) (HB3.out.2.trans (hB.mono HB3.out.2.size))
  have HRP:=hid htr
  rw [htI] at HTP0
  clear hT hB htr htI HPE
  obtain ⟨wxP,hwxP⟩:∃ y,w4.alloc (.cells #[.int .i64 kP,.string ⟨nP.toArray⟩,.int .i64 mP,.int .i64 aP,.slice oP usP.length cP] 29)=y:=⟨_,rfl⟩
  have HBXP:Hid (Below w4.heap.size w4 wxP):=by show Below _ _ _;rw [<- hwxP];exact zad _ _
  have HKXP:Hid (wxP.heap[w4.heap.size]?=some (za2 kP nP mP aP (.slice oP usP.length cP))):=by show _=_;rw [<- hwxP];exact heap_alloc_new _ _
  obtain ⟨⟨xP0,xP1,xP2,xP3,xP4⟩,_⟩:=zab HKXP.out
  have HB5:=hid2 (HB4.out.1.trans (HBXP.out.mono HB4.out.1.size)) (HB4.out.2.trans (HBXP.out.mono HB4.out.2.size))
  obtain ⟨⟨z0,z1,z2,z3,z4⟩,_⟩:=zab (za8 HB5.out.2 HK.out)
  have HSM0:Hid (Calls Tryz.prog 23 #[zaj kP nP mP aP (.slice oP usP.length cP),zaj k n m a (.slice o ks.length c)] wxP (fun e w'=>e=.returned (.bool true)∧Below wxP.heap.size wxP w')):=by
   have hs:=ze1 _ _ _ (Nat.le_refl _) w4.heap.size w.heap.size wxP _ _ (TreeR.frame (Nat.le_refl _) (fun b hb=>HBXP.out.block b hb) _ _ HRP.out) (TreeR.frame (Nat.le_refl _) (fun b hb=>HB5.out.1.block b hb) _ _ HTR.out) HBXP.out.size HB5.out.1.size
   rw [HTP0.out.2] at hs
   exact hs
  unfold zaj at HSM0
  unfold zaj
  go_wp2_with fail
  refine HSM0.out.mono ?_
  rintro e wx ⟨rfl,hB⟩
  have HBWN:=hid (HB5.out.1.trans (hB.mono HB5.out.1.size))
  clear hB z0 z1 z2 z3 z4 HSM0 hwxP xP0 xP1 xP2 xP3 xP4 HB5 HB4
  have HBZ:=hid HBWN.out
  clear HBWN
  cases hpl:zch l with
  | err r i =>
   have hr0:=zlk hpl
   have r1:(r != 0)=true:=by simp [hr0]
   have HPL:Hid (Calls Tryz.prog 11 #[.string ⟨l.toArray⟩] wx (zb7 (.err r i) wx)):=by
    have hp:=zcx l wx (HG.out.after rfl HBZ.out).1
    rw [hpl] at hp
    exact hp
   clear hpl hr0
   go_wp2_with fail
   refine HPL.out.mono ?_
   rintro e w5 ⟨rfl,hB⟩
   have HB5:Hid (Below w.heap.size w (w5.alloc (.cells #[.int .i64 0,.string ⟨#[]⟩,.int .i64 0,.int .i64 0,.slice none 0 0] 29))):=(HBZ.out.trans (hB.mono HBZ.out.size)).alloc (HBZ.out.trans (hB.mono HBZ.out.size)).size _
   clear hB
   unfold kidV
   go_wp2
   go_ret
   exact ⟨rfl,HB5.out⟩
  | ok ta =>
   have HPL:Hid (Calls Tryz.prog 11 #[.string ⟨l.toArray⟩] wx (zb7 (.ok ta) wx)):=by
    have hp:=zcx l wx (HG.out.after rfl HBZ.out).1
    rw [hpl] at hp
    exact hp
   have HPOK:=hid hpl
   obtain ⟨hta,q,hq1,hq2,tb,hb1,hb2,hb3,hb4⟩:=HBACK.out.two ta hpl
   have HTA:=hid2 hta hb2
   have HQ:=hid4 hq1 hb3 hb4 hb1
   have hql:¬ (q.length:Int) > (l.length:Int):=by omega
   obtain ⟨ts,hsc⟩:∃ ts,zc7 l=.ok ts:=by
    cases hs:zc7 l with
    | ok ts=>exact ⟨ts,rfl⟩
    | err e j=>unfold zch at hpl;rw [hs] at hpl;cases hpl
   have HSC:=hid hsc
   clear hpl hta hq1 hq2 hb1 hb2 hb3 hb4 hsc
   go_wp2_with fail
   refine HPL.out.mono ?_
   rintro e w5 ⟨va,rfl,hT,hB⟩
   obtain ⟨kA,nA,mA,aA,usA,oA,cA,htaI,rfl,htr⟩:=parsed hT HTA.out.1
   have HB5:=hid (HBZ.out.trans (hB.mono HBZ.out.size))
   have HRA:=hid htr
   rw [htaI] at HQ
   have HTI:=hid htaI
   clear hT hB htr htaI HPL
   obtain ⟨wxA,hwxA⟩:∃ y,w5.alloc (.cells #[.int .i64 kA,.string ⟨nA.toArray⟩,.int .i64 mA,.int .i64 aA,.slice oA usA.length cA] 29)=y:=⟨_,rfl⟩
   have HBXA:Hid (Below w5.heap.size w5 wxA):=by show Below _ _ _;rw [<- hwxA];exact zad _ _
   have HKXA:Hid (wxA.heap[w5.heap.size]?=some (za2 kA nA mA aA (.slice oA usA.length cA))):=by show _=_;rw [<- hwxA];exact heap_alloc_new _ _
   obtain ⟨⟨xA0,xA1,xA2,xA3,xA4⟩,_⟩:=zab HKXA.out
   have HB6:=hid (HB5.out.trans (HBXA.out.mono HB5.out.size))
   have HRX:=hid (TreeR.frame (Nat.le_refl _) (fun b hb=>HBXA.out.block b hb) _ _ HRA.out)
   have HPRA:Hid (Calls Tryz.prog 20 #[zaj kA nA mA aA (.slice oA usA.length cA)] wxA (zen (some q) wxA)):=by
    have hp:=zgi kA nA mA aA usA oA cA wxA w5.heap.size HBXA.out.size HRX.out (HG.out.after rfl HB6.out)
    rw [HQ.out.1] at hp
    exact hp
   unfold zaj at HPRA
   unfold zaj
   go_wp2_with fail
   refine HPRA.out.mono ?_
   rintro e w6 ⟨he,hB⟩
   subst he
   have HB7:=hid2 (HB6.out.trans (hB.mono HB6.out.size)) hB
   clear hB hwxA xA0 xA1 xA2 xA3 xA4
   have HPQ:Hid (Calls Tryz.prog 11 #[.string ⟨q.toArray⟩] w6 (zb7 (.ok tb) w6)):=by
    have hp:=zcx q w6 (HG.out.after rfl HB7.out.1).1
    rw [HQ.out.2.2.2] at hp
    exact hp
   go_wp2_with fail
   refine HPQ.out.mono ?_
   rintro e w7 ⟨vb,rfl,hT,hB⟩
   obtain ⟨kB,nB,mB,aB,usB,oB,cB,htbI,rfl,htr⟩:=parsed hT HTA.out.2
   have HB8:=hid2 (HB7.out.1.trans (hB.mono HB7.out.1.size)) (HB7.out.2.trans (hB.mono HB7.out.2.size))
   have HRB:=hid htr
   rw [htbI] at HQ
   clear hT hB htr htbI HPQ HPRA
   obtain ⟨wxB,hwxB⟩:∃ y,w7.alloc (.cells #[.int .i64 kB,.string ⟨nB.toArray⟩,.int .i64 mB,.int .i64 aB,.slice oB usB.length cB] 29)=y:=⟨_,rfl⟩
   have HBXB:Hid (Below w7.heap.size w7 wxB):=by show Below _ _ _;rw [<- hwxB];exact zad _ _
   have HKXB:Hid (wxB.heap[w7.heap.size]?=some (za2 kB nB mB aB (.slice oB usB.length cB))):=by show _=_;rw [<- hwxB];exact heap_alloc_new _ _
   obtain ⟨⟨xB0,xB1,xB2,xB3,xB4⟩,_⟩:=zab HKXB.out
   have HB9:=hid2 (HB8.out.1.trans (HBXB.out.mono HB8.out.1.size)) (HB8.out.2.trans (HBXB.out.mono HB8.out.2.size))
   have HRY:=hid (TreeR.frame (Nat.le_refl _) (fun b hb=>HBXB.out.block b hb) _ _ HRB.out)
   have HPRB:Hid (Calls Tryz.prog 20 #[zaj kB nB mB aB (.slice oB usB.length cB)] wxB (zen (some q) wxB)):=by
    have hp:=zgi kB nB mB aB usB oB cB wxB w7.heap.size HBXB.out.size HRY.out (HG.out.after rfl HB9.out.1)
    rw [HQ.out.2.1] at hp
    exact hp
   unfold zaj at HPRB
   unfold zaj
   go_wp2_with fail
   refine HPRB.out.mono ?_
   rintro e w8 ⟨he,hB⟩
   subst he
   have HB10:=hid3 (HB9.out.1.trans (hB.mono HB9.out.1.size)) (HB9.out.2.trans (hB.mono HB9.out.2.size)) hB
   clear hB hwxB xB0 xB1 xB2 xB3 xB4 HPRB
   obtain ⟨⟨p0,p1,p2,p3,p4⟩,_⟩:=zab (za8 HB10.out.2.1 HKXA.out)
   obtain ⟨⟨q0,q1,q2,q3,q4⟩,_⟩:=zab (za8 HB10.out.2.2 HKXB.out)
   have HSM:Hid (Calls Tryz.prog 23 #[zaj kA nA mA aA (.slice oA usA.length cA),zaj kB nB mB aB (.slice oB usB.length cB)] w8 (fun e w'=>e=.returned (.bool true)∧Below w8.heap.size w8 w')):=by
    have hs:=ze1 _ _ _ (Nat.le_refl _) w5.heap.size w7.heap.size w8 _ _ (TreeR.frame (Nat.le_refl _) (fun b hb=>HB10.out.2.1.block b (Nat.lt_of_lt_of_le hb HBXA.out.size)) _ _ HRX.out) (TreeR.frame (Nat.le_refl _) (fun b hb=>HB10.out.2.2.block b (Nat.lt_of_lt_of_le hb HBXB.out.size)) _ _ HRY.out) (Nat.le_trans HBXA.out.size HB10.out.2.1.size) (Nat.le_trans HBXB.out.size HB10.out.2.2.size)
    rw [HQ.out.2.2.1] at hs
    exact hs
   unfold zaj at HSM
   go_wp2_with fail
   refine HSM.out.mono ?_
   rintro e w9 ⟨rfl,hB⟩
   have HB11:=hid2 (HB10.out.1.trans (hB.mono HB10.out.1.size)) (HB10.out.2.1.trans (hB.mono HB10.out.2.1.size))
   clear hB p0 p1 p2 p3 p4 q0 q1 q2 q3 q4 HSM hql
   have HSCN:Hid (Calls Tryz.prog 16 #[.string ⟨l.toArray⟩] w9 (Lx.ScanPost (.ok ts) w9)):=by
    have hp:=Lx.scan_any l w9
    rw [HSC.out] at hp
    exact hp
   go_wp2_with fail
   refine HSCN.out.mono ?_
   rintro e w10 ⟨g,cap,rfl,ho,hB⟩
   have HB12:=hid2 (HB11.out.1.trans (hB.mono HB11.out.1.size)) (HB11.out.2.trans (hB.mono HB11.out.2.size))
   have HTP:Hid (∀ j (hj:j<ts.length),w10.cell? ⟨g,j*4+3,none⟩=some (.int .i64 (ts[j]).at_)):=fun j hj=>tok_place ho j hj
   have HGL:=hid ((ho.lt g rfl).2)
   obtain ⟨hts,hll,hats⟩:=HBACK.out.ats ts HSC.out
   have HATS:=hid hats
   obtain ⟨T,hT⟩:∃ T,ts.length=T:=⟨_,rfl⟩
   have HTL:Hid (ts.length=T∧T<=16001∧l.length<=16000):=⟨hT,by omega,hll⟩
   obtain ⟨S,hS⟩:∃ S,zbt l ts=S:=⟨_,rfl⟩
   have HSP:=hid hS
   rw [hT]
   clear hB ho hts hll hats hT hS HSCN
   go_wp2_with fail
   go_loopw [24,25] (fun s i wr=>∃ (q:Nat) (X:ByteArray),s=.string X∧i=.int .i64 q∧q<=T∧X.size<=q*16001∧Hid (X.data.toList++zbt l (ts.drop q)=S)∧Hid (Below w10.heap.size w10 wr)) (fun _ i _=>T - (RowKit.intOf i).toNat)
   case atStart=>exact ⟨0,⟨#[]⟩,rfl,rfl,by omega,by decide,HSP,Below.refl _ _⟩
   case round =>
    obtain ⟨q,X,rfl,rfl,hq,hxs,HXS,HBR⟩:=hrel
    have hqm:(q:Int)<=16001:=by have:=HTL.out;omega
    have hq0:(0:Int)<=(q:Int):=by omega
    by_cases hlt:q+1<T
    · have hlt' : (q:Int)+1<(T:Int):=by omega
      have hlt2:(q:Int)<(T:Int):=by omega
      have hq1:(0:Int)<=(q:Int)+1:=by omega
      have HQL:=hid hlt
      have hj1:q<ts.length:=by have:=HTL.out;omega
      have hj2:q+1<ts.length:=by have:=HTL.out;omega
      have hc1:wr.cell? ⟨g,q*4+3,none⟩=some (.int .i64 (ts[q]).at_):=by
       rw [(zae (HBR.out.block g HGL.out) _).1]
       exact HTP.out q hj1
      have hc2:wr.cell? ⟨g,(q+1)*4+3,none⟩=some (.int .i64 (ts[q+1]).at_):=by
       rw [(zae (HBR.out.block g HGL.out) _).1]
       exact HTP.out (q+1) hj2
      obtain ⟨hz1,hz2⟩:=HATS.out q hj2
      have HNX:Hid ((X++(⟨l.toArray⟩:ByteArray).extract (ts[q]).at_ (ts[q+1]).at_++⟨#[32]⟩).data.toList++zbt l (ts.drop (q+1))=S):=by
       show _=_
       rw [<- HXS.out,zf3,List.drop_eq_getElem_cons hj1,List.drop_eq_getElem_cons hj2,zbt]
       simp
      have HNS:Hid ((X++(⟨l.toArray⟩:ByteArray).extract (ts[q]).at_ (ts[q+1]).at_++⟨#[32]⟩).size<=(q+1)*16001):=by
       show _<=_
       have h1:(X++(⟨l.toArray⟩:ByteArray).extract (ts[q]).at_ (ts[q+1]).at_++⟨#[32]⟩).size=(X++(⟨l.toArray⟩:ByteArray).extract (ts[q]).at_ (ts[q+1]).at_++⟨#[32]⟩).data.toList.length:=rfl
       have h2:X.size=X.data.toList.length:=rfl
       rw [h1,zf3]
       have h3:(sub l (ts[q]).at_ (ts[q+1]).at_).length<=l.length:=by unfold sub;simp;omega
       have:=HTL.out
       simp only [List.length_append,List.length_cons,List.length_nil]
       omega
      generalize (ts[q]).at_=x at *
      generalize (ts[q+1]).at_=y at *
      have hy1:(x:Int)<=(y:Int):=by omega
      have hy2:(y:Int)<=(l.length:Int):=by omega
      have hy0:(0:Int)<=(x:Int):=by omega
      have hy3:(0:Int)<=(y:Int):=by omega
      have hyz:(y:Int)<=16000:=by have:=HTL.out;omega
      clear hlt hj1 hj2 hz1 hz2 HXS
      go_wp2_with fail
      go_region
      all_goals (
       go_wp2
       go_roundw
       case rel=>exact ⟨q+1,_,rfl,by go_num,by have:=HQL.out;omega,HNS.out,HNX,HBR.out.drew⟩
       case measure=>have:=HQL.out;simp [RowKit.intOf];omega)
    · have hlt' : ¬ (q:Int)+1<(T:Int):=by omega
      have HXE:Hid (X=⟨S.toArray⟩):=by
       show _=_
       have h1:zbt l (ts.drop q)=[]:=by
        have:(ts.drop q).length<=1:=by rw [List.length_drop];have:=HTL.out;omega
        match hm:ts.drop q,this with
        | [],_=>rfl
        | [_],_=>rfl
       have h2:=HXS.out
       rw [h1,List.append_nil] at h2
       exact zex h2
      have HSL:Hid (S.length<=9223372036854775807):=by
       show _<=_
       have h2:X.size=X.data.toList.length:=rfl
       have h3:X.data.toList=S:=by rw [HXE.out]
       rw [<- h3,<- h2]
       have:=HTL.out
       omega
      have HBQ:=hid2 (HB12.out.1.trans (HBR.out.mono HB12.out.1.size)) (HB12.out.2.trans (HBR.out.mono HB12.out.2.size))
      have hxe:=HXE.out
      subst hxe
      have hss:(⟨S.toArray⟩:ByteArray).size=S.length:=rfl
      clear hlt HXS hxs
      by_cases hbig:S.length<=16000
      · have hb1:¬ (S.length:Int) > 16000:=by omega
        obtain ⟨tc,hc1,hc2,hc3⟩:=HBACK.out.three ta ts HPOK.out HSC.out (by rw [HSP.out];exact hbig)
        rw [HSP.out] at hc1
        have HPC:Hid (Calls Tryz.prog 11 #[.string ⟨S.toArray⟩] wr (zb7 (.ok tc) wr)):=by
         have hp:=zcx S wr (HG.out.after rfl HBQ.out.1).1
         rw [hc1] at hp
         exact hp
        have HTC:=hid2 hc2 hc3
        clear hc1 hc2 hc3 hbig
        go_wp2_with fail
        refine HPC.out.mono ?_
        rintro e w11 ⟨vc,rfl,hT,hB⟩
        obtain ⟨kC,nC,mC,aC,usC,oC,cC,htcI,rfl,htr⟩:=parsed hT HTC.out.1
        have HB13:=hid2 (HBQ.out.1.trans (hB.mono HBQ.out.1.size)) (HBQ.out.2.trans (hB.mono HBQ.out.2.size))
        have HRC:=hid htr
        rw [htcI,HTI.out] at HTC
        clear hT hB htr htcI HPC
        obtain ⟨wxC,hwxC⟩:∃ y,w11.alloc (.cells #[.int .i64 kC,.string ⟨nC.toArray⟩,.int .i64 mC,.int .i64 aC,.slice oC usC.length cC] 29)=y:=⟨_,rfl⟩
        have HBXC:Hid (Below w11.heap.size w11 wxC):=by show Below _ _ _;rw [<- hwxC];exact zad _ _
        have HKXC:Hid (wxC.heap[w11.heap.size]?=some (za2 kC nC mC aC (.slice oC usC.length cC))):=by show _=_;rw [<- hwxC];exact heap_alloc_new _ _
        obtain ⟨⟨xC0,xC1,xC2,xC3,xC4⟩,_⟩:=zab HKXC.out
        have HB14:=hid2 (HB13.out.1.trans (HBXC.out.mono HB13.out.1.size)) (HB13.out.2.trans (HBXC.out.mono HB13.out.2.size))
        obtain ⟨⟨p0,p1,p2,p3,p4⟩,_⟩:=zab (za8 HB14.out.2 HKXA.out)
        have HSM:Hid (Calls Tryz.prog 23 #[zaj kA nA mA aA (.slice oA usA.length cA),zaj kC nC mC aC (.slice oC usC.length cC)] wxC (fun e w'=>e=.returned (.bool true)∧Below wxC.heap.size wxC w')):=by
         have hs:=ze1 _ _ _ (Nat.le_refl _) w5.heap.size w11.heap.size wxC _ _ (TreeR.frame (Nat.le_refl _) (fun b hb=>HB14.out.2.block b (Nat.lt_of_lt_of_le hb HBXA.out.size)) _ _ HRX.out) (TreeR.frame (Nat.le_refl _) (fun b hb=>HBXC.out.block b hb) _ _ HRC.out) (Nat.le_trans HBXA.out.size HB14.out.2.size) HBXC.out.size
         rw [HTC.out.2] at hs
         exact hs
        unfold zaj at HSM
        unfold zaj
        go_wp2_with fail
        refine HSM.out.mono ?_
        rintro e w12 ⟨rfl,hB⟩
        have HB15:=hid (HB14.out.1.trans (hB.mono HB14.out.1.size))
        clear hB
        go_wp2
        go_ret
        exact ⟨rfl,HB15.out⟩
      · have hb1:(S.length:Int) > 16000:=by omega
        have HPC:Hid (Calls Tryz.prog 11 #[.string ⟨S.toArray⟩] wr (zb7 (.err 34 16000) wr)):=by
         have hp:=zcx S wr (HG.out.after rfl HBQ.out.1).1
         rw [znm hbig] at hp
         exact hp
        clear hbig
        go_wp2_with fail
        refine HPC.out.mono ?_
        rintro e w11 ⟨rfl,hB⟩
        have HB13:Hid (Below w.heap.size w (w11.alloc (.cells #[.int .i64 0,.string ⟨#[]⟩,.int .i64 0,.int .i64 0,.slice none 0 0] 29))):=(HBQ.out.1.trans (hB.mono HBQ.out.1.size)).alloc (HBQ.out.1.trans (hB.mono HBQ.out.1.size)).size _
        clear hB
        unfold kidV
        go_wp2
        go_ret
        exact ⟨rfl,HB13.out⟩
end Go.Proofs.YtodfklpmbclgkaaGreatDoor.Pr
namespace Go.Proofs.YtodfklpmbclgkaaGreatDoor
open Go.ChangeShapes Go.WideShapes Go.ChangeAt Go.RowKit
theorem own:ownKnob Tryz.prog.godebug=none:=by kernel_rfl
theorem globB:Tryz.prog.globalNamed "callbox/syntax.bares" = some 0:=by kernel_rfl
theorem typeB:(Tryz.prog.globals[0]?).map (·.type)=some 125:=by kernel_rfl
theorem cells124:Tryz.prog.cellsOf 124=3:=by kernel_rfl
theorem cells125:Tryz.prog.cellsOf 125=21:=by kernel_rfl
theorem cells3:Tryz.prog.cellsOf 3=1:=by kernel_rfl
theorem cells4:Tryz.prog.cellsOf 4=1:=by kernel_rfl
theorem cells9:Tryz.prog.cellsOf 9=1:=by kernel_rfl
theorem zex {s:ByteArray} {l:List UInt8} (h:s.data.toList=l):s=⟨l.toArray⟩:=by
 cases s with
 | mk a=>cases a;cases h;rfl
theorem row_of_trod {w:World} {fuel:Nat} {cs:List Value} {a:Int} {b:Bool} {l:List UInt8} {p:List MemPlace} (hl:cs.length=3)
 (h:DataW.trod (fun _=>()) Tryz.prog w 0 (fun _=>true) false fuel 124 cs=some (.agg [.lit (.int .i64 a),.lit (.bool b),.lit (.string l)],p)) :
 cs=[.int .i64 a,.bool b,.string ⟨l.toArray⟩]:=by
 match cs,hl with
 | [c0,c1,c2],_ =>
  obtain ⟨xs,n,rfl,hx,_,hlen,hall⟩:=DataW.trod_struct Tryz.underlying124 h
  have e0:=hall 0 { name := "kind",type:=3,offset:=0,embedded:=false,tag := "",pkgPath := "callbox/syntax",byteOffset:=0 } rfl
  have e1:=hall 1 { name := "unsigned",type:=4,offset:=1,embedded:=false,tag := "",pkgPath := "callbox/syntax",byteOffset:=8 } rfl
  have e2:=hall 2 { name := "word",type:=9,offset:=2,embedded:=false,tag := "",pkgPath := "callbox/syntax",byteOffset:=16 } rfl
  dsimp only at e0 e1 e2
  rw [cells3] at e0
  rw [cells4] at e1
  rw [cells9] at e2
  match xs,hlen with
  | [y0,y1,y2],_ =>
   obtain ⟨z0,hz0,hy0,_⟩:=DataW.trod_int Tryz.underlying3 (cs:=[c0]) (x:=y0) e0
   obtain ⟨z1,hz1,hy1⟩:=DataW.trod_bool Tryz.underlying4 (cs:=[c1]) (x:=y1) e1
   obtain ⟨z2,hz2,hy2,_⟩:=DataW.trod_string Tryz.underlying9 (cs:=[c2]) (x:=y2) e2
   subst hy0 hy1 hy2
   simp only [List.map_cons,List.map_nil,Prod.mk.injEq,DataW.agg.injEq,List.cons.injEq,DataW.lit.injEq,Lit.int.injEq,Lit.bool.injEq,Lit.string.injEq,true_and,and_true] at hx
   obtain ⟨⟨rfl,rfl,h2⟩,_⟩:=hx
   rw [List.cons.injEq] at hz0 hz1 hz2
   rw [hz0.1,hz1.1,hz2.1,zex h2.symm]
theorem bares_of {w:World} {fuel:Nat} {cs:Array Value} {p:List MemPlace}
 (h:DataW.trod (fun _=>()) Tryz.prog w 0 (fun _=>true) false fuel 125 cs.toList=some (Rows.laid_callbox_syntax_bares,p)):cs=zh8:=by
 obtain ⟨xs,m,rfl,hx,hl,hlen,hall⟩:=DataW.trod_array Tryz.underlying125 h
 rw [cells125] at hl
 rw [cells124] at hall
 have hx1:=congrArg Prod.fst hx
 match xs,hlen with
 | [y0,y1,y2,y3,y4,y5,y6],_ =>
  simp only [Rows.laid_callbox_syntax_bares,List.map_cons,List.map_nil,DataW.agg.injEq,List.cons.injEq,and_true] at hx1
  obtain ⟨g0,g1,g2,g3,g4,g5,g6⟩:=hx1
  have len3:∀ i,i<7->((cs.toList.drop (i*3)).take 3).length=3:=by
   intro i hi
   rw [List.length_take,List.length_drop,hl]
   omega
  have f:∀ (i:Nat) (y:DataW Unit × List MemPlace) (a:Int) (b:Bool) (l:List UInt8),i<7->[y0,y1,y2,y3,y4,y5,y6][i]?=some y->.agg [.lit (.int .i64 a),.lit (.bool b),.lit (.string l)]=y.1->(cs.toList.drop (i*3)).take 3=[.int .i64 a,.bool b,.string ⟨l.toArray⟩]:=by
   intro i y a b l hi hy hg
   obtain ⟨y1,y2⟩:=y
   cases hg
   exact row_of_trod (len3 i hi) ((hall i hi).trans hy)
  have r0:=f 0 _ _ _ _ (by omega) rfl g0
  have r1:=f 1 _ _ _ _ (by omega) rfl g1
  have r2:=f 2 _ _ _ _ (by omega) rfl g2
  have r3:=f 3 _ _ _ _ (by omega) rfl g3
  have r4:=f 4 _ _ _ _ (by omega) rfl g4
  have r5:=f 5 _ _ _ _ (by omega) rfl g5
  have r6:=f 6 _ _ _ _ (by omega) rfl g6
  have hc:cs.toList=(cs.toList.drop (0*3)).take 3++((cs.toList.drop (1*3)).take 3++((cs.toList.drop (2*3)).take 3++((cs.toList.drop (3*3)).take 3++((cs.toList.drop (4*3)).take 3++((cs.toList.drop (5*3)).take 3++(cs.toList.drop (6*3)).take 3))))):=by
   have step:∀ k,(cs.toList.drop k)=(cs.toList.drop k).take 3++cs.toList.drop (k+3):=by
    intro k
    rw [<- List.drop_drop,List.take_append_drop]
   have e6:(cs.toList.drop 18).take 3=cs.toList.drop 18:=List.take_of_length_le (by rw [List.length_drop,hl];decide)
   have s0:=step 0
   have s1:=step 3
   have s2:=step 6
   have s3:=step 9
   have s4:=step 12
   have s5:=step 15
   rw [<- e6] at s5
   rw [s5] at s4
   rw [s4] at s3
   rw [s3] at s2
   rw [s2] at s1
   rw [s1] at s0
   exact s0
  rw [r0,r1,r2,r3,r4,r5,r6] at hc
  have:cs=cs.toList.toArray:=rfl
  rw [this,hc]
  rfl
theorem glob_of {W:World} (hL:laidMetH Tryz.prog Rows.syntaxPlacesRow.laid W):zd3 W:=by
 rw [MakeChecks.laidMetH_plain _ _ _ (by kernel_rfl)] at hL
 obtain ⟨g,t,cs,fuel,p,hg,ht,hvar,hd⟩:=Lib.laidMet.reads hL (n := "callbox/syntax.bares") (d:=Rows.laid_callbox_syntax_bares) (.tail _ (.tail _ (.tail _ (.head _))))
 obtain rfl:=Option.some.inj (globB.symm.trans hg)
 obtain rfl:=Option.some.inj (typeB.symm.trans ht)
 have hcs:=bares_of hd
 subst hcs
 unfold World.var? at hvar
 rw [globB] at hvar
 simp only [Option.bind_some] at hvar
 cases hb:W.heap[0]? with
 | none=>rw [hb] at hvar;cases hvar
 | some b =>
  rw [hb] at hvar
  cases b with
  | cells c t fr=>obtain rfl:=Option.some.inj hvar;exact ⟨t,fr,hb⟩
  | _=>cases hvar
end Go.Proofs.YtodfklpmbclgkaaGreatDoor
namespace Go.Proofs.YtodfklpmbclgkaaGreatDoor.Pr
open Go.ChangeMaps Go.ChangeShapes Go.WideShapes Go.ChangeAt Go.RowKit
theorem cells29:Tryz.prog.cellsOf 29=5:=by kernel_rfl
theorem cells27:Tryz.prog.cellsOf 27=1:=by kernel_rfl
theorem wf_i64 {n:Int} (h:(Lit.int .i64 n).wf=true):-9223372036854775808<=n∧n<=9223372036854775807:=by
 have hmin:IntKind.i64.min=-9223372036854775808:=rfl
 have hmax:IntKind.i64.max=9223372036854775807:=rfl
 simp only [Lit.wf,Bool.and_eq_true,decide_eq_true_eq] at h
 omega
theorem list5 {α:Type} (l:List α) (h:l.length=5):∃ a b c d e,l=[a,b,c,d,e]:=by
 match l,h with
 | [a,b,c,d,e],_=>exact ⟨a,b,c,d,e,rfl⟩
theorem row_of {w:World} {B g:Nat} : (m f:Nat)->(∀ i,i<m->∃ t v0 v1 v2 v3 v4,(w.cell? ⟨g,f+i*5,none⟩=some v0∧w.cell? ⟨g,f+i*5+1,none⟩=some v1∧w.cell? ⟨g,f+i*5+2,none⟩=some v2∧w.cell? ⟨g,f+i*5+3,none⟩=some v3∧w.cell? ⟨g,f+i*5+4,none⟩=some v4)∧TreeR B w t (.agg #[v0,v1,v2,v3,v4]))->∃ ks:List ITree,ks.length=m∧RowR B w g f ks
 | 0,f,_=>⟨[],rfl,by rw [RowR];trivial⟩
 | m+1,f,h=>by
  obtain ⟨t,v0,v1,v2,v3,v4,hc,ht⟩:=h 0 (by omega)
  simp only [Nat.zero_mul,Nat.add_zero] at hc
  obtain ⟨ks,h1,h2⟩:=row_of m (f+5) (fun i hi=>by
   obtain ⟨t,v0,v1,v2,v3,v4,hc,ht⟩:=h (i+1) (by omega)
   rw [show f+(i+1)*5=f+5+i*5 by omega] at hc
   exact ⟨t,v0,v1,v2,v3,v4,hc,ht⟩)
  exact ⟨t::ks,by simp [h1],by rw [rowR_cons];exact ⟨⟨v0,v1,v2,v3,v4,hc,ht⟩,h2⟩⟩
set_option maxRecDepth 4000 in
theorem tree_up {H:Type} {enc:TypeId × Value->H} {w:World} {sp:Nat->Bool} {held:Bool} : (N:Nat)->∀ {fuel:Nat} {cs:List Value} {x:DataW H × List MemPlace},fuel<=N->DataW.trod enc Tryz.prog w 0 sp held fuel 29 cs=some x->∃ (t:ITree) (v0 v1 v2 v3 v4:Value),cs=[v0,v1,v2,v3,v4]∧TreeR w.heap.size w t (.agg #[v0,v1,v2,v3,v4])
 | 0,fuel,cs,x,hN,h=>by
  obtain ⟨_,n,hf,_⟩:=DataW.trod_struct Tryz.underlying29 h
  subst hf
  exact absurd hN (Nat.not_succ_le_zero n)
 | N+1,fuel,cs,x,hN,h=>by
  obtain ⟨xs,n,hf,_,hl,hlen,hall⟩:=DataW.trod_struct Tryz.underlying29 h
  subst hf
  rw [cells29] at hl
  obtain ⟨v0,v1,v2,v3,v4,rfl⟩:=list5 cs hl
  obtain ⟨y0,y1,y2,y3,y4,rfl⟩:=list5 xs hlen
  have e0:=hall 0 { name := "Kind",type:=3,offset:=0,embedded:=false,tag := "",pkgPath := "",byteOffset:=0 } rfl
  have e1:=hall 1 { name := "Name",type:=9,offset:=1,embedded:=false,tag := "",pkgPath := "",byteOffset:=8 } rfl
  have e2:=hall 2 { name := "Number",type:=3,offset:=2,embedded:=false,tag := "",pkgPath := "",byteOffset:=24 } rfl
  have e3:=hall 3 { name := "At",type:=3,offset:=3,embedded:=false,tag := "",pkgPath := "",byteOffset:=32 } rfl
  have e4:=hall 4 { name := "Kids",type:=27,offset:=4,embedded:=false,tag := "",pkgPath := "",byteOffset:=40 } rfl
  dsimp only at e0 e1 e2 e3 e4
  rw [cells3] at e0 e2 e3
  rw [cells9] at e1
  rw [cells27] at e4
  obtain ⟨z0,hz0,_,_⟩:=DataW.trod_int Tryz.underlying3 (cs:=[v0]) (x:=y0) e0
  obtain ⟨z1,hz1,_,w1⟩:=DataW.trod_string Tryz.underlying9 (cs:=[v1]) (x:=y1) e1
  obtain ⟨z2,hz2,_,w2⟩:=DataW.trod_int Tryz.underlying3 (cs:=[v2]) (x:=y2) e2
  obtain ⟨z3,hz3,_,_⟩:=DataW.trod_int Tryz.underlying3 (cs:=[v3]) (x:=y3) e3
  have h4:=DataW.trod_slice Tryz.underlying27 (cs:=[v4]) (x:=y4) e4
  rw [List.cons.injEq] at hz0 hz1 hz2 hz3
  have hs:z1.data.toList.length<=maxLen:=w1
  refine (fun (hh:∃ ks o c,v4=.slice o ks.length c∧ks.length<=c∧c<=maxLen∧(ks=[]∨∃ g f,o=some ⟨g,f,none⟩∧g<w.heap.size∧RowR w.heap.size w g f ks))=>?_) ?_
  · obtain ⟨ks,o,c,h5,h6,h7,h8⟩:=hh
    refine ⟨.node z0 z1.data.toList z2 z3 ks,v0,v1,v2,v3,v4,rfl,?_⟩
    rw [treeR_node]
    refine ⟨o,c,?_,h6,h7,hs,wf_i64 w2,h8⟩
    rw [hz0.1,hz1.1,hz2.1,hz3.1,h5]
    unfold zaj
    rw [<- zex (s:=z1) rfl]
  · rcases h4 with ⟨h5,_⟩|⟨a,len,cap,elems,rest,n',hn,h5,_,_,hlc,hcm,hel,hrow,_⟩
    · rw [List.cons.injEq] at h5
      exact ⟨[],none,0,h5.1,by simp,by unfold maxLen;omega,Or.inl rfl⟩
    · rw [List.cons.injEq] at h5
      rw [cells29] at hrow
      cases len with
      | zero=>exact ⟨[],some a,cap,h5.1,by simp,hcm,Or.inl rfl⟩
      | succ len =>
       have hone:∀ i,i<len+1->∃ (t:ITree) (u0 u1 u2 u3 u4:Value),(w.cell? (a.add (i*5))=some u0∧w.cell? ((a.add (i*5)).add 1)=some u1∧w.cell? ((a.add (i*5)).add 2)=some u2∧w.cell? ((a.add (i*5)).add 3)=some u3∧w.cell? ((a.add (i*5)).add 4)=some u4)∧TreeR w.heap.size w t (.agg #[u0,u1,u2,u3,u4]):=by
        intro i hi
        have hr:=hrow i hi
        obtain ⟨y,hy⟩:∃ y,elems[i]?=some y:=⟨elems[i]'(by omega),List.getElem?_eq_getElem (by omega)⟩
        rw [hy,Option.bind_eq_some_iff] at hr
        obtain ⟨ds,hd1,hd2⟩:=hr
        obtain ⟨_,hdl,hdc⟩:=World.cells?_some hd1
        obtain ⟨t,u0,u1,u2,u3,u4,rfl,ht⟩:=tree_up N (by omega) hd2
        have g0:=hdc 0 (by omega)
        rw [Addr.add_zero'] at g0
        exact ⟨t,u0,u1,u2,u3,u4,⟨g0,hdc 1 (by omega),hdc 2 (by omega),hdc 3 (by omega),hdc 4 (by omega)⟩,ht⟩
       obtain ⟨g,f,spot⟩:=a
       obtain ⟨t,u0,u1,u2,u3,u4,hc0,_⟩:=hone 0 (by omega)
       have hc:=hc0.1
       rw [Nat.zero_mul,Addr.add_zero'] at hc
       have hspot:spot=none:=World.cell?_spot hc
       subst hspot
       have hgl:g<w.heap.size:=zhp hc
       obtain ⟨ks,hk1,hk2⟩:=row_of (w:=w) (B:=w.heap.size) (g:=g) (len+1) f (fun i hi=>by
        obtain ⟨t,u0,u1,u2,u3,u4,hc,ht⟩:=hone i hi
        simp only [add_plain] at hc
        exact ⟨t,u0,u1,u2,u3,u4,hc,ht⟩)
       exact ⟨ks,some ⟨g,f,none⟩,cap,by rw [hk1];exact h5.1,by omega,hcm,Or.inr ⟨g,f,rfl,hgl,hk2⟩⟩
theorem tree_of {H:Type} {enc:TypeId × Value->H} {w:World} {sp:Nat->Bool} {held:Bool} {fuel:Nat} {cs:List Value} {x:DataW H × List MemPlace} (h:DataW.trod enc Tryz.prog w 0 sp held fuel 29 cs=some x):∃ (t:ITree) (v0 v1 v2 v3 v4:Value),cs=[v0,v1,v2,v3,v4]∧TreeR w.heap.size w t (.agg #[v0,v1,v2,v3,v4]):=tree_up fuel (Nat.le_refl _) h
end Go.Proofs.YtodfklpmbclgkaaGreatDoor.Pr
namespace Go.Proofs.YtodfklpmbclgkaaGreatDoor
open Go.ChangeMaps Go.ChangeShapes Go.WideShapes Go.ChangeAt Go.RowKit
set_option maxRecDepth 100000 in
/-- The row's step, with the world's shape kept for the contract. -/
theorem lift_law {H:Type} {enc:TypeId × Value->H} {os:Os} {f:FuncId} {fn:Func} {s:ChangeSpec} {X:World->Array Value->Prop}
 (hX:∀ (w w' : World) (args:Array Value),w.heap=w'.heap->X w args->X w' args) (started:os.Started) (noInit:Tryz.checked.prog.inits.idxOf? f=none) (hfn:Tryz.checked.prog.funcs[f]?=some fn)
 (witness:∃ (w:World) (tape:Tape) (i:Input),w.os=os∧(w.forCall tape i).Shaped Tryz.checked.prog∧i.vars=[]∧Input.okWide Tryz.checked.prog (w.forCall tape i) .any w.heap.size f i ∧
   ((s.pre enc Tryz.checked.prog fn [] false (w.forCall tape i).memory i.args∧X (w.forCall tape i).memory i.args)∧sizedMet enc Tryz.checked.prog fn (OpenSpec.ofChange s) false (w.forCall tape i).memory i.args)∧({} : Assume).holds Tryz.checked.prog (lone (Frame.enter Tryz.checked.prog f i.args .normal) [] (w.forCall tape i)))
 (contract:∀ (W:World) (base:Nat) (args:Array Value) (ds gs:List (DataW H)) (before:List MemPlace),
   (∀ (j:Nat) t v,fn.params[j]?=some t->args[j]?=some v->Value.okWide Tryz.checked.prog W .any base t v) ->
   DataW.Whole enc Tryz.checked.prog fn.params.toList s.vars false W args.toList ds gs before ->
   (DataW.weightsEach Tryz.checked.prog (fn.params.toList++s.plain.varTypes Tryz.checked.prog) (ds++gs)).all (·<=reachBytes)=true->X W args->W.ShapedOpen Tryz.checked.prog ->
   Calls Tryz.checked.prog f args W fun e W'=>∃ v,e=.returned v∧s.post enc Tryz.checked.prog fn false true false false W args v W') :
 ReturnsInHanded {} Tryz.checked os f .any (fun w args=>(s.pre enc Tryz.checked.prog fn [] false w args∧X w args)∧sizedMet enc Tryz.checked.prog fn (OpenSpec.ofChange s) false w args) (s.post enc Tryz.checked.prog fn false true false false):=by
 refine returnsInHanded_of_calls own started noInit witness ?_
 intro w tape i _ hsh _ hok hpre _
 obtain ⟨_,_,_,fn',hfn',_,_,_,_,hval⟩:=hok
 obtain rfl:fn'=fn:=Option.some.inj (hfn'.symm.trans hfn)
 obtain ⟨⟨⟨ds,gs,before,hw,_⟩,hx⟩,hz⟩:=hpre
 refine (contract (w.forCall tape i) w.heap.size i.args ds gs before hval (DataW.Whole.of_heap (w':=w.forCall tape i) (by rfl) hw) (hz.weights hw) (hX _ _ _ (by rfl) hx) hsh).mono ?_
 rintro e W' ⟨v,rfl,hp⟩
 exact ChangeSpec.post_blind hp
theorem len_small {s:ByteArray} (h:s.size<=maxLen):s.data.toList.length<=9223372036854775807:=by
 have h1:s.data.toList.length=s.size:=rfl
 have h2:maxLen<=9223372036854775807:=by decide
 omega
end Go.Proofs.YtodfklpmbclgkaaGreatDoor
namespace Go.Proofs.YtodfklpmbclgkaaGreatDoor.Pr
open Go.ChangeMaps Go.ChangeShapes Go.WideShapes Go.ChangeAt Go.RowKit
theorem tab10:Rows.laid_internal_strconv_uint64pow10 (H:=Unit)=Lib.tabData .u64 Lib.pow10Tab:=by kernel_rfl
theorem zmm {W:World} {name:String} {k:IntKind} {zs:List Int} {g:Nat} {t e:TypeId} {n:Nat}
 (hg:Tryz.prog.globalNamed name=some g) (hty:(Tryz.prog.globals[g]?).map (·.type)=some t) (ht:Tryz.prog.underlying t=some (.array n e)) (he:Tryz.prog.underlying e=some (.int k)) (hce:Tryz.prog.cellsOf e=1) (hct:Tryz.prog.cellsOf t=n)
 (h:Lib.VarReads Tryz.prog W name (Lib.tabData k zs)):Lib.TabIs Tryz.prog W name k zs:=by
 obtain ⟨g',t',cs,fuel,p,hg',ht',hvar,hd⟩:=h
 obtain rfl:=Option.some.inj (hg.symm.trans hg')
 obtain rfl:=Option.some.inj (hty.symm.trans ht')
 unfold Lib.TabIs
 rw [hvar,<- Lib.cells_of_tab ht he hce hct hd]
theorem base_of {W:World} (hL:laidMetH Tryz.prog Rows.syntaxPlacesRow.laid W):Base W:=by
 refine ⟨glob_of hL,?_⟩
 rw [MakeChecks.laidMetH_plain _ _ _ (by kernel_rfl)] at hL
 have h2:=Lib.laidMet.reads hL (n := "internal/strconv.uint64pow10") (d:=Rows.laid_internal_strconv_uint64pow10) (.tail _ (.tail _ (.head _)))
 rw [tab10] at h2
 exact zmm globT (t:=134) (n:=20) (e:=128) (by kernel_rfl) Tryz.underlying134 Tryz.underlying128 (by kernel_rfl) (by kernel_rfl) h2
set_option maxRecDepth 100000 in
theorem zja (hplain:∀ t l,Back t l) (os:Os) (started:os.Started) (H:Type) (enc:TypeId × Value->H) :
 ReturnsInHanded {} Tryz.checked os 6 .any (fun w args=>(Rows.syntaxBackSpec.pre enc Tryz.prog Tryz.f6 [] false w args∧laidMetH Tryz.prog Rows.syntaxBackRow.laid w)∧sizedMet enc Tryz.prog Tryz.f6 (OpenSpec.ofChange Rows.syntaxBackSpec) false w args)
  (Rows.syntaxBackSpec.post enc Tryz.prog Tryz.f6 false true false false):=by
 refine lift_law (X:=fun w _=>laidMetH Tryz.prog Rows.syntaxBackRow.laid w) (fun _ _ _ hh h=>h.of_heap hh) started (by kernel_rfl) Tryz.func6
  (ChangeSpec.witness_shaped (enc:=enc) (C:=Tryz.checked) (os:=os) (X:=fun w _=>laidMetH Tryz.prog Rows.syntaxBackRow.laid w) false (World.laidAll Tryz.prog os Rows.syntaxBackRow.laid) #[.agg #[.int .i64 0,.string ⟨#[]⟩,.int .i64 0,.int .i64 0,.slice none 0 0],.string ⟨#[]⟩] 8 (World.laidAll_os _ _ _)
    (World.shaped_of_ZipB (by kernel_rfl) (by kernel_rfl)) (by kernel_rfl) (by kernel_rfl) (by kernel_rfl)
    (by rw [MakeChecks.laidMetH_plain _ _ _ (by kernel_rfl)];exact laidMet_laidAll _ (by kernel_rfl) (by kernel_rfl))) ?_
 intro W base args ds gs before hval0 hW _ hL _
 have hval:∀ (j:Nat) t v,Tryz.f6.params[j]?=some t->args[j]?=some v->Value.okWide Tryz.prog W .any base t v:=hval0
 have hW':=hW
 obtain ⟨p,q,hA0,hV,rfl,_,_⟩:=hW
 have hA:DataW.TrodAll enc Tryz.prog W 0 (fun _=>true) true Tryz.f6.params.toList args.toList ds p:=hA0
 have hlt:=hA.lt
 rw [Tryz.params6] at hA hval
 obtain ⟨v0,v1,d0,d1,p0,p1,rfl,rfl,rfl,h0,h1⟩:=trodAll_two hA
 obtain ⟨rfl,rfl⟩:=trodVars_none hV
 obtain ⟨s,rfl,rfl,rfl,hs⟩:=open_string Tryz.underlying9 (hval 1 9 v1 rfl rfl) h1
 obtain ⟨cs,rfl,_⟩:=okWide_struct Tryz.underlying29 (hval 0 29 v0 rfl rfl)
 have htree:∃ (t:ITree) (v0 v1 v2 v3 v4:Value),cs=#[v0,v1,v2,v3,v4]∧TreeR W.heap.size W t (.agg #[v0,v1,v2,v3,v4]):=by
  obtain ⟨fuel,hf⟩:=h0
  obtain ⟨t,u0,u1,u2,u3,u4,hc,ht⟩:=tree_of hf
  refine ⟨t,u0,u1,u2,u3,u4,?_,ht⟩
  have hc2:cs.toList=[u0,u1,u2,u3,u4]:=hc
  cases cs
  simp_all
 obtain ⟨t,u0,u1,u2,u3,u4,rfl,ht⟩:=htree
 obtain ⟨k,n,m,a,ks⟩:=t
 have ht2:=ht
 rw [treeR_node] at ht2
 obtain ⟨o,c,hv,_⟩:=ht2
 rw [hv] at ht
 have h00:=h0
 rw [hv] at h0 ⊢
 clear hA0 hval0
 simp only [List.append_nil] at hW'
 have hc:=sb_any k n m a ks o c s.data.toList W ht (base_of hL) (len_small hs) (hplain _ _)
 rw [<- zex (s:=s) rfl] at hc
 refine hc.mono fun e W' ⟨he,hg⟩=>?_
 subst he
 have hs0:=Below.trod (by kernel_rfl) (by kernel_rfl) (of_decide_eq_true (by kernel_rfl)) h0 hg (fun x hx=>hlt x (by simp [hx]))
 rw [hv] at hW'
 exact ⟨_,rfl,_,_,_,[],_,[],hW',trodAll_mk1 (shut_bool Tryz.underlying4 _),trodAll_mk2 hs0 (shut_string Tryz.underlying9 hs),rfl,hg.frame _,fun h=>by cases h⟩
theorem zj9 (hplain:∀ t l,Back t l):Rows.SyntaxBackSaid :=
 OpenClaim.holds_of_wide 6 Tryz.f6 rfl rfl rfl rfl rfl rfl rfl ⟨rfl,rfl,rfl,rfl,rfl⟩ rfl rfl rfl rfl rfl (by kernel_rfl) Tryz.func6 (by kernel_rfl)
  (of_decide_eq_true (by kernel_rfl)) (by unfold Func.isWrapper;first|(rw [if_pos (by decide +kernel)];kernel_rfl)|(rw [if_neg (by decide +kernel)];exact ⟨rfl,rfl⟩))
  (fun os started H enc _=>zja hplain os started H enc)
theorem syntaxBack_of (hplain:∀ t l,Back t l):Rows.SyntaxBackCardSaid :=
 Claim7.holds_tied_plain_at .later [] [.data,.data,.data,.data] true (true,"eb81a5a3fc7a7597bfd8f8a7ece7cb985c6b37bf5a89686e3044b84a63fb3fa3") true (zj9 hplain) (fun _ h=>by cases h) (by kernel_rfl) (fun _ h=>by cases h) syntaxBack_row_tie rfl ⟨rfl,rfl⟩ (by kernel_rfl) rfl
  (fun f fn hf hfn=>by
    obtain rfl:f=6:=Option.some.inj ((show Tryz.prog.funcNamed "callbox/callboxlaw04.SyntaxBack" = some 6 by kernel_rfl).symm.trans hf) |>.symm
    obtain rfl:fn=Tryz.f6:=(Option.some.inj (Tryz.func6.symm.trans hfn)).symm
    exact ⟨by kernel_rfl,fun j t ht=>by
     rw [Tryz.params6] at ht
     have hm:t∈[29,9]:=by simpa using Array.mem_of_getElem? ht
     have hall:([29,9].all fun u=>!Tryz.prog.wantsStandIn u)=true:=by kernel_rfl
     exact (show Tryz.prog.wantsStandIn t=false by simpa using List.all_eq_true.1 hall t hm)⟩)
  (by kernel_rfl)
end Go.Proofs.YtodfklpmbclgkaaGreatDoor.Pr
namespace Go.Proofs.YtodfklpmbclgkaaGreatDoor
mutual
/-- a tree without its places -/
def Tree.zero:Tree->Tree
 | .node k n m _ ks=>.node k n m 0 (zeros ks)
def zeros:List Tree->List Tree
 | []=>[]
 | t::ts=>t.zero::zeros ts
end
theorem zih:(l:List Tree)->zeros l=l.map Tree.zero
 | []=>by rw [zeros];rfl
 | t::ts=>by rw [zeros,zih ts];rfl
theorem ze3 (k:Int) (n:List UInt8) (m:Int) (a:Nat) (ks:List Tree):(Tree.node k n m a ks).zero=.node k n m 0 (ks.map Tree.zero):=by rw [Tree.zero,zih]
def zoe (c:UInt8):Bool:=digB c||c==45
def NumT (w:List UInt8):Prop:=w=[]∨zoe (w.getD 0 0)=true
def Spec (x:List UInt8):Prop:=zoe (x.getD 0 0)=false∧x≠[]
theorem zod {w:List UInt8} (h:NumT w) (k:Spec w):False:=by
 rcases h with h|h
 · exact k.2 h
 · rw [k.1] at h;cases h
structure RelT (t t' : Tok):Prop where
 kind:t.kind=t'.kind
 num:t.num=t'.num
 text:t.kind≠3->t.text=t'.text
 nums:t.kind=3->NumT t.text∧NumT t'.text
inductive RelL:List Tok->List Tok->Prop
 | nil:RelL [] []
 | cons {t t' : Tok} {l l' : List Tok} : RelT t t'->RelL l l'->RelL (t::l) (t'::l')
structure RelS (s s' : PS):Prop where
 full:s.full=s'.full
 ts:RelL s.ts s'.ts
inductive RelA {α:Type} (R:α->α->Prop):Ans α->Ans α->Prop
 | ok {a a' : α} {s s' : PS} : R a a'->RelS s s'->RelA R (.ok a s) (.ok a' s')
 | no (e:Int) (i i' : Nat):RelA R (.no e i) (.no e i')
def RelF {α:Type} (R:α->α->Prop) (F G:PS->Ans α):Prop:=∀ s s',RelS s s'->RelA R (F s) (G s')
def ZT (t t' : Tree):Prop:=t.zero=t'.zero
def ZL (l l' : List Tree):Prop:=l.map Tree.zero=l'.map Tree.zero
theorem RelT.refl0:RelT ⟨5,[],0,0⟩ ⟨5,[],0,0⟩:=⟨rfl,rfl,fun _=>rfl,fun h=>by cases h⟩
theorem RelS.hd {s s' : PS} (h:RelS s s'):RelT s.hd s'.hd:=by
 obtain ⟨ts,f⟩:=s
 obtain ⟨ts',f'⟩:=s'
 cases h.ts with
 | nil=>exact RelT.refl0
 | cons h1 _=>exact h1
theorem RelS.tail {s s' : PS} (h:RelS s s'):RelS ⟨s.ts.tail,s.full⟩ ⟨s'.ts.tail,s'.full⟩:=by
 obtain ⟨ts,f⟩:=s
 obtain ⟨ts',f'⟩:=s'
 refine ⟨h.full,?_⟩
 cases h.ts with
 | nil=>exact RelL.nil
 | cons _ h2=>exact h2
theorem RelT.is {t t' : Tok} (h:RelT t t') {x:List UInt8} (hx:Spec x):(t.text==x)=(t'.text==x):=by
 by_cases hk:t.kind=3
 · obtain ⟨h1,h2⟩:=h.nums hk
   have e1:(t.text==x)=false:=by
    rw [beq_eq_false_iff_ne]
    rintro rfl
    exact zod h1 hx
   have e2:(t'.text==x)=false:=by
    rw [beq_eq_false_iff_ne]
    rintro rfl
    exact zod h2 hx
   rw [e1,e2]
 · rw [h.text hk]
theorem RelS.sees {s s' : PS} (h:RelS s s') {x:List UInt8} (hx:Spec x):s.sees x=s'.sees x:=h.hd.is hx
theorem RelF.bind {α β:Type} {R:α->α->Prop} {Q:β->β->Prop} {F G:PS->Ans α} {f g:α->PS->Ans β} (h:RelF R F G) (k:∀ a a',R a a'->RelF Q (f a) (g a')):RelF Q (fun s=>(F s).bind f) (fun s=>(G s).bind g):=by
 intro s s' hs
 have h1:=h s s' hs
 show RelA Q ((F s).bind f) ((G s').bind g)
 cases hF:F s with
 | ok a u =>
  cases hG:G s' with
  | ok a' u' =>
   rw [hF,hG] at h1
   cases h1 with
   | ok h2 h3=>exact k _ _ h2 _ _ h3
  | no e i=>rw [hF,hG] at h1;cases h1
 | no e i =>
  cases hG:G s' with
  | ok a' u'=>rw [hF,hG] at h1;cases h1
  | no e' i' =>
   rw [hF,hG] at h1
   cases h1
   exact RelA.no _ _ _
theorem zbl {α:Type} {R:α->α->Prop} {a a' : α} (h:R a a'):RelF R (fun s=>.ok a s) (fun s=>.ok a' s):=fun _ _ hs=>RelA.ok h hs
theorem zlh {α:Type} {R:α->α->Prop} (e:Int):RelF R (fun s=>(s.bad e:Ans α)) (fun s=>s.bad e):=fun _ _ _=>RelA.no _ _ _
theorem zgy {α:Type} {R:α->α->Prop} {F G F' G' : PS->Ans α} (c c' : PS->Prop) [∀ s,Decidable (c s)] [∀ s,Decidable (c' s)] (hc:∀ s s',RelS s s'->(c s↔c' s')) (hF:RelF R F F') (hG:RelF R G G'):RelF R (fun s=>if c s then F s else G s) (fun s=>if c' s then F' s else G' s):=by
 intro s s' hs
 show RelA R (if c s then F s else G s) (if c' s' then F' s' else G' s')
 by_cases h:c s
 · rw [if_pos h,if_pos ((hc s s' hs).1 h)];exact hF s s' hs
 · rw [if_neg h,if_neg (fun h2=>h ((hc s s' hs).2 h2))];exact hG s s' hs
theorem zdo {α:Type} {R:α->α->Prop} {F G F' G' : PS->Ans α} (x:List UInt8) (hx:Spec x) (hF:RelF R F F') (hG:RelF R G G'):RelF R (fun s=>if s.sees x=true then F s else G s) (fun s=>if s.sees x=true then F' s else G' s) :=
 zgy (fun s=>s.sees x=true) (fun s=>s.sees x=true) (fun s s' hs=>by rw [hs.sees hx]) hF hG
theorem ze2:RelF RelT PS.take PS.take:=by
 intro s s' hs
 unfold PS.take
 by_cases h:s.full=true
 · rw [if_pos h,if_pos (by rw [<- hs.full];exact h)];exact RelA.no _ _ _
 · rw [if_neg h,if_neg (by rw [<- hs.full];exact h)];exact RelA.ok hs.hd hs.tail
theorem zbk (x:List UInt8) (hx:Spec x):RelF (fun _ _=>True) (fun s=>s.want x) (fun s=>s.want x):=zdo x hx (ze2.bind fun _ _ _=>zbl trivial) (zlh 40)
theorem zng (k:Int):RelF (fun t t'=>RelT t t'∧t.kind=k) (fun s=>s.ofKind k) (fun s=>s.ofKind k):=by
 intro s s' hs
 show RelA _ (if s.hd.kind=k then s.take else s.bad 40) (if s'.hd.kind=k then s'.take else s'.bad 40)
 by_cases h:s.hd.kind=k
 · rw [if_pos h,if_pos (by rw [<- hs.hd.kind];exact h)]
   unfold PS.take
   by_cases h2:s.full=true
   · rw [if_pos h2,if_pos (by rw [<- hs.full];exact h2)];exact RelA.no _ _ _
   · rw [if_neg h2,if_neg (by rw [<- hs.full];exact h2)];exact RelA.ok ⟨hs.hd,h⟩ hs.tail
 · rw [if_neg h,if_neg (by rw [<- hs.hd.kind];exact h)];exact RelA.no _ _ _
theorem zkr {α:Type} {R:α->α->Prop} {F G:PS->Ans α} (h:RelF R F G) (a b:Nat):RelF R (fun s=>F (s.room a b)) (fun s=>G (s.room a b)):=by
 intro s s' hs
 refine h _ _ ?_
 unfold PS.room
 by_cases he:a=b
 · rw [if_pos he,if_pos he];exact ⟨rfl,hs.ts⟩
 · rw [if_neg he,if_neg he];exact hs
theorem zi8 {l l' : List Tree} {t t' : Tree} (h:ZL l l') (k:ZT t t'):ZL (l++[t]) (l'++[t']):=by
 unfold ZL at *
 rw [List.map_append,List.map_append,h]
 exact congrArg _ (congrArg (fun x=>[x]) k)
theorem zdn {l l' : List Tree} {t t' : Tree} (h:ZL l l') (k:ZT t t'):ZL (t::l) (t'::l'):=by
 unfold ZL at *
 rw [List.map_cons,List.map_cons,h]
 exact congrArg (fun x=>x::_) k
theorem zl_len {l l' : List Tree} (h:ZL l l'):l.length=l'.length:=by
 have:=congrArg List.length h
 simpa using this
theorem zd9:ZL [] []:=rfl
theorem zfc {k:Int} {n n' : List UInt8} {m m' : Int} {a a' : Nat} {l l' : List Tree} (hn:n=n') (hm:m=m') (h:ZL l l'):ZT (.node k n m a l) (.node k n' m' a' l'):=by
 unfold ZT
 rw [ze3,ze3,hn,hm]
 exact congrArg _ h
theorem zt_kind {t t' : Tree} (h:ZT t t'):t.kind=t'.kind:=by
 obtain ⟨k,n,m,a,ks⟩:=t
 obtain ⟨k',n',m',a',ks'⟩:=t'
 unfold ZT at h
 rw [ze3,ze3] at h
 injection h
def NM (t t' : Tok):Prop:=t.text=t'.text
theorem RelA.mono {α:Type} {R Q:α->α->Prop} {x y:Ans α} (h:RelA R x y) (k:∀ a a',R a a'->Q a a'):RelA Q x y:=by
 cases h with
 | ok h1 h2=>exact RelA.ok (k _ _ h1) h2
 | no e i i'=>exact RelA.no _ _ _
theorem zf5:RelF NM zdj zdj:=fun s s' hs=>(zng 1 s s' hs).mono fun _ _ h=>h.1.text (by rw [h.2];decide)
theorem zez {k:Int} {t t' : Tok} {l l' : List Tree} (h:NM t t') (hl:ZL l l'):ZT (named k t l) (named k t' l'):=zfc h rfl hl
theorem zgh (k:Int):RelF ZT (aloneP k) (aloneP k):=ze2.bind fun _ _ _=>zbl (zfc rfl rfl zd9)
theorem rel_ref:RelF ZT refP refP:=zf5.bind fun _ _ h=>zbl (zez h zd9)
theorem zjf:RelF ZT numberP numberP:=(zng 3).bind fun _ _ h=>zbl (zfc rfl h.1.num zd9)
theorem ziw:RelF ZT valueP valueP:=zgy (fun s=>s.hd.kind=1) (fun s=>s.hd.kind=1) (fun s s' hs=>by rw [hs.hd.kind]) rel_ref zjf
theorem zlf:RelF ZT zbv zbv:=zgy (fun s=>s.hd.num<0) (fun s=>s.hd.num<0) (fun s s' hs=>by rw [hs.hd.num]) (zlh 40) zjf
theorem find_same {s s' : PS} (h:RelS s s') (u:Bool):∀ l:List (Int × Bool × List UInt8),(∀ b∈l,Spec b.2.2)->(l.find? fun b=>b.2.1==u&&s.sees b.2.2)=l.find? fun b=>b.2.1==u&&s'.sees b.2.2
 | [],_=>rfl
 | b::l,hl=>by
  have e:(b.2.1==u&&s.sees b.2.2)=(b.2.1==u&&s'.sees b.2.2):=by rw [h.sees (hl b (by simp))]
  rw [List.find?_cons,List.find?_cons,e,find_same h u l (fun c hc=>hl c (by simp [hc]))]
theorem bares_spec:∀ b∈zau,Spec b.2.2:=by unfold Spec;decide
theorem zn8:RelF ZT bareP bareP:=by
 intro s s' hs
 unfold bareP
 by_cases hk:s.hd.kind=1
 · rw [if_pos hk,if_pos (by rw [<- hs.hd.kind];exact hk)];exact rel_ref s s' hs
 · rw [if_neg hk,if_neg (by rw [<- hs.hd.kind];exact hk)]
   have hu:s.sees za4=s'.sees za4:=hs.sees (by unfold Spec;decide)
   rw [<- hu]
   generalize s.sees za4=u
   have hlast:∀ a a' : Nat,RelF ZT (fun s=>match zau.find? fun b=>b.2.1==u&&s.sees b.2.2 with|some b=>s.take.bind fun _ s=>.ok (.node b.1 [] 0 a []) s|none=>s.bad 40) (fun s=>match zau.find? fun b=>b.2.1==u&&s.sees b.2.2 with|some b=>s.take.bind fun _ s=>.ok (.node b.1 [] 0 a' []) s|none=>s.bad 40):=by
    intro a a' s s' hs
    show RelA ZT (match zau.find? fun b=>b.2.1==u&&s.sees b.2.2 with|some b=>s.take.bind fun _ s=>.ok (.node b.1 [] 0 a []) s|none=>s.bad 40) (match zau.find? fun b=>b.2.1==u&&s'.sees b.2.2 with|some b=>s'.take.bind fun _ s=>.ok (.node b.1 [] 0 a' []) s|none=>s'.bad 40)
    rw [find_same hs u zau bares_spec]
    cases zau.find? fun b=>b.2.1==u&&s'.sees b.2.2 with
    | none=>exact RelA.no _ _ _
    | some b=>exact (ze2.bind fun _ _ _=>zbl (zfc rfl rfl zd9)) s s' hs
   have hfirst:RelF (fun _ _=>True) (fun s=>if u=true then s.take.bind fun _ s=>.ok () s else .ok () s) (fun s=>if u=true then s.take.bind fun _ s=>.ok () s else .ok () s):=by
    cases u with
    | true=>exact ze2.bind fun _ _ _=>zbl trivial
    | false=>exact zbl trivial
   exact (hfirst.bind fun _ _ _=>hlast s.hd.at_ s'.hd.at_) s s' hs
theorem any_same {s s' : PS} (h:RelS s s'):∀ ws:List (List UInt8),(∀ x∈ws,Spec x)->ws.any s.sees=ws.any s'.sees
 | [],_=>rfl
 | x::ws,hw=>by rw [List.any_cons,List.any_cons,h.sees (hw x (by simp)),any_same h ws (fun y hy=>hw y (by simp [hy]))]
theorem zj2 {l l' : List Tree} (h:ZL l l'):l.isEmpty=l'.isEmpty:=by
 have:=zl_len h
 cases l <;> cases l' <;> simp_all
theorem zkq {F:PS->Ans Tree} (hF:RelF ZT F F) (ws:List (List UInt8)) (hw:∀ x∈ws,Spec x):∀ (f:Nat) (acc acc' : List Tree),ZL acc acc'->RelF ZL (zck F ws f acc) (zck F ws f acc')
 | 0,_,_,_=>fun _ _ _=>RelA.no _ _ _
 | f+1,acc,acc',h=>by
  intro s s' hs
  unfold zck
  rw [<- any_same hs ws hw,<- zj2 h,<- zl_len h]
  split
  · exact ((zkr hF acc.length 64).bind fun t t' ht=>zkq hF ws hw f _ _ (zi8 h ht)) s s' hs
  · exact RelA.ok h hs
theorem rel_more {F:PS->Ans Tree} (hF:RelF ZT F F) (most:Nat):∀ (f:Nat) (acc acc' : List Tree),ZL acc acc'->RelF ZL (zeu F most f acc) (zeu F most f acc')
 | 0,_,_,_=>fun _ _ _=>RelA.no _ _ _
 | f+1,acc,acc',h=>by
  intro s s' hs
  unfold zeu
  rw [<- hs.sees (x:=[44]) (by unfold Spec;decide),<- zl_len h]
  split
  · exact ((zkr ze2 acc.length most).bind fun _ _ _=>hF.bind fun t t' ht=>rel_more hF most f _ _ (zi8 h ht)) s s' hs
  · exact RelA.ok h hs
theorem znf {F:PS->Ans Tree} (hF:RelF ZT F F) (most:Nat):RelF ZL (zd7 F most) (zd7 F most):=hF.bind fun _ _ h=>rel_more hF most 66 _ _ (zdn zd9 h)
theorem rel_member:RelF ZT memberP memberP:=zf5.bind fun _ _ hn=>(zbk [61] (by unfold Spec;decide)).bind fun _ _ _=>ziw.bind fun _ _ hv=>zbl (zez hn (zdn zd9 hv))
theorem rel_members:RelF ZL membersP membersP:=(zbk [123] (by unfold Spec;decide)).bind fun _ _ _=>(znf rel_member 64).bind fun _ _ hl=>(zbk [125] (by unfold Spec;decide)).bind fun _ _ _=>zbl hl
theorem zle (k:Int) {of of' : Tree} (ho:ZT of of'):RelF ZT (sizedP k of) (sizedP k of'):=zf5.bind fun _ _ hn =>
 zgy (fun s=>(s.sees [91]&&k != 26)=true) (fun s=>(s.sees [91]&&k != 26)=true) (fun s s' hs=>by rw [hs.sees (x:=[91]) (by unfold Spec;decide)])
  (ze2.bind fun _ _ _=>ziw.bind fun _ _ hv=>(zbk [93] (by unfold Spec;decide)).bind fun _ _ _=>zbl (zez hn (zdn (zdn zd9 hv) ho)))
  (zdo [60] (by unfold Spec;decide)
    ((zbk [60] (by unfold Spec;decide)).bind fun _ _ _=>zdo [62] (by unfold Spec;decide)
      ((zbk [62] (by unfold Spec;decide)).bind fun _ _ _=>zbl (zez hn (zdn zd9 ho)))
      (ziw.bind fun _ _ hv=>(zbk [62] (by unfold Spec;decide)).bind fun _ _ _=>zbl (zez hn (zdn (zdn zd9 hv) ho))))
    (zgy (fun _=>(k==25||k==26)=true) (fun _=>(k==25||k==26)=true) (fun _ _ _=>Iff.rfl) (zlh 40) (zbl (zez hn (zdn zd9 ho)))))
theorem rel_written {B:PS->Ans Tree} (hB:RelF ZT B B):RelF ZT (zce B) (zce B) :=
 zgy (fun s=>(s.sees zcj||s.sees za6||s.sees zcm)=true) (fun s=>(s.sees zcj||s.sees za6||s.sees zcm)=true) (fun s s' hs=>by rw [hs.sees (x:=zcj) (by unfold Spec;decide),hs.sees (x:=za6) (by unfold Spec;decide),hs.sees (x:=zcm) (by unfold Spec;decide)]) hB zn8
theorem zix {B:PS->Ans Tree} (hB:RelF ZT B B):RelF ZT (zbf B) (zbf B) :=
 zdo zef (by unfold Spec;decide) ((zgh 25).bind fun _ _ h=>zle 25 h)
  (zdo zed (by unfold Spec;decide) ((zgh 26).bind fun _ _ h=>zle 26 h)
    ((rel_written hB).bind fun of of' ho=>zdo [42] (by unfold Spec;decide)
      (ze2.bind fun _ _ _=>zf5.bind fun _ _ hn=>zbl (zez hn (zdn zd9 ho)))
      (by rw [<- zt_kind ho];exact zle of.kind ho)))
theorem zhj {B:PS->Ans Tree} (hB:RelF ZT B B):RelF ZT (za3 B) (za3 B):=zdo zcn (by unfold Spec;decide) (zgh 13) (zix hB)
theorem zlg {B:PS->Ans Tree} (hB:RelF ZT B B):RelF ZT (zbi B) (zbi B):=(zhj hB).bind fun _ _ h=>(zbk [59] (by unfold Spec;decide)).bind fun _ _ _=>zbl h
theorem rel_fields {B:PS->Ans Tree} (hB:RelF ZT B B):RelF ZL (fieldsP B) (fieldsP B):=(zbk [123] (by unfold Spec;decide)).bind fun _ _ _=>(zkq (zlg hB) [[125]] (by unfold Spec;decide) 66 [] [] zd9).bind fun _ _ h=>(zbk [125] (by unfold Spec;decide)).bind fun _ _ _=>zbl h
theorem rel_cases:∀ (f:Nat) (acc acc' : List Tree),ZL acc acc'->RelF ZL (zcc f acc) (zcc f acc')
 | 0,_,_,_=>fun _ _ _=>RelA.no _ _ _
 | f+1,acc,acc',h=>by
  intro s s' hs
  unfold zcc
  rw [<- hs.sees (x:=zc1) (by unfold Spec;decide),<- zj2 h,<- zl_len h]
  split
  · exact ((zkr (zbk zc1 (by unfold Spec;decide)) acc.length 64).bind fun _ _ _=>ziw.bind fun v v' hv=>(zbk [58] (by unfold Spec;decide)).bind fun _ _ _=>rel_cases f _ _ (zi8 h hv)) s s' hs
  · exact RelA.ok h hs
theorem rel_arm {B:PS->Ans Tree} (hB:RelF ZT B B):RelF ZT (armP B) (armP B):=fun s s' hs =>
 ((rel_cases 66 [] [] zd9).bind fun _ _ hl=>(zlg hB).bind fun _ _ ht=>zbl (R:=ZT) (a:=.node 8 [] 0 s.hd.at_ _) (a':=.node 8 [] 0 s'.hd.at_ _) (zfc rfl rfl (zi8 hl ht))) s s' hs
theorem rel_choice {B:PS->Ans Tree} (hB:RelF ZT B B):RelF ZL (choiceP B) (choiceP B) :=
 (zbk zfd (by unfold Spec;decide)).bind fun _ _ _=>(zbk [40] (by unfold Spec;decide)).bind fun _ _ _=>(zhj hB).bind fun _ _ hd=>(zbk [41] (by unfold Spec;decide)).bind fun _ _ _=>(zbk [123] (by unfold Spec;decide)).bind fun _ _ _ =>
   (zkq (rel_arm hB) [za9,[125]] (by unfold Spec;decide) 66 [] [] zd9).bind fun _ _ hl =>
     zdo za9 (by unfold Spec;decide)
      ((zgh 9).bind fun e e' he=>(zbk [58] (by unfold Spec;decide)).bind fun _ _ _=>(zlg hB).bind fun _ _ ht=>(zbk [125] (by unfold Spec;decide)).bind fun _ _ _=>by
        obtain ⟨k,n,m,i,ks⟩:=e
        obtain ⟨k',n',m',i',ks'⟩:=e'
        have h2:(Tree.node k n m i ks).zero=(Tree.node k' n' m' i' ks').zero:=he
        rw [ze3,ze3] at h2
        injection h2 with h3 h4 h5 h6 h7
        subst h3
        exact zbl (zi8 (zdn hl hd) (zfc h4 h5 (zdn zd9 ht))))
      ((zbk [125] (by unfold Spec;decide)).bind fun _ _ _=>zbl (zdn hl hd))
theorem zks:∀ (n:Nat) (b:Bool),RelF ZT (zbz n b) (zbz n b)
 | 0,_=>fun _ _ _=>RelA.no _ _ _
 | n+1,b=>ze2.bind fun t t' ht=>by
  have hfirst:RelF (fun (x y:List UInt8 × Nat)=>x.1=y.1) (fun s=>if b=true then (zdj s).bind fun n s=>.ok (n.text,n.at_) s else .ok ([],t.at_) s) (fun s=>if b=true then (zdj s).bind fun n s=>.ok (n.text,n.at_) s else .ok ([],t'.at_) s):=by
   cases b with
   | true=>exact zf5.bind fun _ _ h=>zbl h
   | false=>exact zbl rfl
  have e1:(t.text=zcj)↔(t'.text=zcj):=by have:=ht.is (x:=zcj) (by unfold Spec;decide);rw [Bool.eq_iff_iff] at this;simpa using this
  have e2:(t.text=za6)↔(t'.text=za6):=by have:=ht.is (x:=za6) (by unfold Spec;decide);rw [Bool.eq_iff_iff] at this;simpa using this
  exact hfirst.bind fun x y hxy=>zgy (fun _=>t.text=zcj) (fun _=>t'.text=zcj) (fun _ _ _=>e1)
   (rel_members.bind fun _ _ hl=>zbl (zfc hxy rfl hl))
   (zgy (fun _=>t.text=za6) (fun _=>t'.text=za6) (fun _ _ _=>e2)
     ((rel_fields (zks n false)).bind fun _ _ hl=>zbl (zfc hxy rfl hl))
     ((rel_choice (zks n false)).bind fun _ _ hl=>zbl (zfc hxy rfl hl)))
theorem zjx (k:Int) {F:PS->Ans Tree} (hF:RelF ZT F F):RelF ZT (numberedP k F) (numberedP k F) :=
 ze2.bind fun _ _ _=>zf5.bind fun _ _ hn=>(zbk [123] (by unfold Spec;decide)).bind fun _ _ _=>(zkq hF [[125]] (by unfold Spec;decide) 66 [] [] zd9).bind fun _ _ hl=>(zbk [125] (by unfold Spec;decide)).bind fun _ _ _=>(zbk [61] (by unfold Spec;decide)).bind fun _ _ _=>zlf.bind fun _ _ hv=>zbl (zez hn (zdn hl hv))
theorem rel_result:RelF ZT resultP resultP:=zdo zcn (by unfold Spec;decide) (zgh 13) zn8
theorem zn9:RelF ZL argumentsP argumentsP:=zdo zcn (by unfold Spec;decide) ((zgh 13).bind fun _ _ h=>zbl (zdn zd9 h)) (znf zn8 4)
theorem zn7:RelF ZT zcf zcf:=rel_result.bind fun _ _ hr=>zf5.bind fun _ _ hn=>(zbk [40] (by unfold Spec;decide)).bind fun _ _ _=>zn9.bind fun _ _ hl=>(zbk [41] (by unfold Spec;decide)).bind fun _ _ _=>(zbk [61] (by unfold Spec;decide)).bind fun _ _ _=>zlf.bind fun _ _ hv=>(zbk [59] (by unfold Spec;decide)).bind fun _ _ _=>zbl (zez hn (zdn (zdn hl hr) hv))
theorem rel_version:RelF ZT versionP versionP:=zdo zd4 (by unfold Spec;decide) ((zjx 11 zn7).bind fun _ _ h=>(zbk [59] (by unfold Spec;decide)).bind fun _ _ _=>zbl h) (zlh 40)
theorem zmr:RelF ZT zbn zbn :=
 zdo zdz (by unfold Spec;decide) ((zbk zdz (by unfold Spec;decide)).bind fun _ _ _=>zf5.bind fun _ _ hn=>(zbk [61] (by unfold Spec;decide)).bind fun _ _ _=>zjf.bind fun _ _ hv=>zbl (zez hn (zdn zd9 hv)))
  (zdo zd5 (by unfold Spec;decide) (ze2.bind fun _ _ _=>(zix (zks 8 false)).bind fun _ _ hd=>zbl (zfc rfl rfl (zdn zd9 hd)))
    (zgy (fun s=>(s.sees zcj||s.sees za6||s.sees zcm)=true) (fun s=>(s.sees zcj||s.sees za6||s.sees zcm)=true) (fun s s' hs=>by rw [hs.sees (x:=zcj) (by unfold Spec;decide),hs.sees (x:=za6) (by unfold Spec;decide),hs.sees (x:=zcm) (by unfold Spec;decide)]) (zks 8 true)
      (zdo zee (by unfold Spec;decide) (zjx 10 rel_version) (zlh 40))))
theorem zne:∀ (f:Nat) (acc acc' : List Tree),ZL acc acc'->RelF ZL (zbb f acc) (zbb f acc')
 | 0,_,_,_=>fun _ _ _=>RelA.no _ _ _
 | f+1,acc,acc',h=>by
  intro s s' hs
  unfold zbb
  rw [<- hs.hd.kind,<- zl_len h]
  split
  · exact RelA.ok h hs
  · exact ((zkr zmr acc.length 100).bind fun t t' ht=>(zbk [59] (by unfold Spec;decide)).bind fun _ _ _=>zne f _ _ (zi8 h ht)) s s' hs
end Go.Proofs.YtodfklpmbclgkaaGreatDoor
