import Derived.Test.YtighggeokiahfaaGreatDoorPrs08
import Derived.Defers
import Derived.Recover
import Derived.Laws.Pointers
import Derived.Laws.StructEq
import Derived.Lib.AppendStr
set_option maxRecDepth 4000
set_option maxHeartbeats 20000000
namespace Go.Proofs.YtighggeokiahfaaGreatDoor.Lx
open Go.RowKit
theorem mach_take {l:List UInt8} {k st frm:Nat} {ts:List Tok} (h:k<l.length):zia l (l.drop k) k st frm ts=if (zgi l (l.getD k 0) st frm k ts).1=0 then zia l (l.drop (k+1)) (k+1) (zgi l (l.getD k 0) st frm k ts).2.1 (zgi l (l.getD k 0) st frm k ts).2.2.1 (zgi l (l.getD k 0) st frm k ts).2.2.2 else .err (zgi l (l.getD k 0) st frm k ts).1 frm:=by
 rw [zeh h,zia];unfold zgi;split
 · rfl
 split
 · rfl
 · rfl
theorem fits_take {l:List UInt8} {k st frm:Nat} {ts:List Tok} (hf:Fits l k st frm) (hle:frm<=k) (h0:(zgi l (l.getD k 0) st frm k ts).1=0) :
 Fits l (k+1) (zgi l (l.getD k 0) st frm k ts).2.1 (zgi l (l.getD k 0) st frm k ts).2.2.1∧(zgi l (l.getD k 0) st frm k ts).2.2.1<=k+1:=by
 unfold zgi at h0 ⊢;split
 · rename_i hg;refine ⟨?_,by simp only;omega⟩;rcases hf.on hg with ⟨h1,_,_⟩|⟨_,_,h2⟩
   · simp only;rw [h1];trivial
   · exact h2
 · rename_i hg;rw [if_neg hg] at h0;split
   · exact ⟨Fits.first,by simp only;omega⟩
   · rename_i h1;rw [if_neg h1] at h0;exact absurd h0 h1
theorem _root_.Go.Proofs.YtighggeokiahfaaGreatDoor.Fits.le8 {l:List UInt8} {k st frm:Nat} (h:Fits l k st frm):st<=8:=by
 match st,h with
 | 0,_=>omega
 | 1,_=>omega
 | 2,_=>omega
 | 3,_=>omega
 | 4,_=>omega
 | 5,_=>omega
 | 6,_=>omega
 | 7,_=>omega
 | 8,_=>omega
 | n+9,h=>exact h.elim
theorem take_more {l:List UInt8} {k st frm:Nat} {ts:List Tok} {c:UInt8} : (zgi l c st frm k ts).2.2.2.length<=ts.length+1:=by
 have hO:∀ o:Option Tok,o.toList.length<=1:=fun o=>by cases o <;> simp
 have:=hO (endP l st frm k).2;unfold zgi;repeat' split
 · simp
 · simp only [List.length_append];omega
 · simp only [List.length_append];omega
theorem sub_getD0 {l:List UInt8} {i j:Nat} (h:i<j):(sub l i j).getD 0 0=l.getD i 0:=by
 unfold sub;rw [List.getD_eq_getElem?_getD,List.getD_eq_getElem?_getD,List.getElem?_take,if_pos (by omega),List.getElem?_drop,Nat.add_zero]
theorem _root_.Go.Proofs.YtighggeokiahfaaGreatDoor.Fits.num {l:List UInt8} {k st frm:Nat} (h:Fits l k st frm) (hk:k<=l.length):st=5->0<(sub l frm k).length∧((sub l frm k).getD 0 0=45->1<(sub l frm k).length):=by
 rintro rfl;obtain ⟨h1,h2,h3,h4⟩:=h;rw [zgj (by omega) hk];refine ⟨by omega,fun h45=>?_⟩;rw [sub_getD0 h1] at h45;have:zbb l frm=frm+1:=by unfold zbb;rw [if_pos h45]
 omega
theorem Kept.below {B p:Nat} {v v' : Value} {w w1 w2:World} (hB:Below B w w1) (hK:Kept p v v' w1 w2) (hw:B<=w1.heap.size) (hp:B<=p) (hv:∀ g,v.ownBlock=some g->B<=g):Below B w w2 :=
 ⟨hK.os.trans hB.os,hK.tape.trans hB.tape,hK.output.trans hB.output,Nat.le_trans hB.size hK.size,fun b hb=>(hK.block b (by omega) (by omega) (fun e=>by have:=hv b e.symm;omega)).trans (hB.block b hb)⟩
theorem below_drewN {B:Nat} {a w:World} (h:Below B a w) (k:Nat):Below B a (w.drewN k):=⟨h.os,h.tape,h.output,h.size,h.block⟩
def zfl (R:Res) (w:World) (e:Ending) (w' : World):Prop :=
 match R with
 | .ok ts=>∃ g cap,e=.returned (.tuple #[.slice (some ⟨g,0,none⟩) ts.length cap,.int .i64 0,.int .i64 0])∧w'.ownsRow w.heap.size 41 4 (.slice (some ⟨g,0,none⟩) ts.length cap) ts.length (tokCells ts)∧Below w.heap.size w w'
 | .err r i=>e=.returned (.tuple #[.slice none 0 0,.int .i64 r,.int .i64 i])∧Below w.heap.size w w'
theorem own_base {w:World} {base base' n:Nat} {e:TypeId} {size:Nat} {v:Value} {xs:List Value} (h:w.ownsRow base e size v n xs) (hb:base'<=base):w.ownsRow base' e size v n xs:=by
 refine ⟨h.1,?_⟩;rcases h.2 with h2|⟨g,cap,cur,h3,h4,h5⟩
 · exact .inl h2
 · exact .inr ⟨g,cap,cur,h3,Nat.le_trans hb h4,h5⟩
theorem SC.made (l:List UInt8) (w:World):SC (w.alloc (.cells #[S l,.int .i64 0,.int .i64 0,.slice none 0 0] 64)) w.heap.size l 0 0 (.slice none 0 0) []:=by
 have hb:(w.alloc (.cells #[S l,.int .i64 0,.int .i64 0,.slice none 0 0] 64)).heap[w.heap.size]?=some (.cells #[S l,.int .i64 0,.int .i64 0,.slice none 0 0] 64 (0,0)):=heap_alloc_new _ _;refine ⟨?_,?_,?_,?_,?_,?_,?_,World.ownsRow_nil _ _ _ _⟩
 · unfold World.cell?;rw [hb];rfl
 · unfold World.cell?;rw [hb];rfl
 · unfold World.cell?;rw [hb];rfl
 · unfold World.cell?;rw [hb];rfl
 · unfold World.frozen?;rw [hb];rfl
 · unfold World.frozen?;rw [hb];rfl
 · unfold World.frozen?;rw [hb];rfl
theorem scan_long (l:List UInt8) (w:World) (h:16000<l.length):Calls Tryz.prog 16 #[S l] w (zfl (ze9 l) w):=by
 unfold ze9;rw [if_pos h];have h' : (16000:Int)<l.length:=by omega
 go_enter Tryz.func16,Tryz.ntmps16
 go_wp2;go_ret3
 exact ⟨rfl,Below.refl _ _⟩
theorem scan_short (l:List UInt8) (w:World) (h:l.length<=16000):Calls Tryz.prog 16 #[S l] w (zfl (ze9 l) w):=by
 obtain ⟨R,hR⟩:∃ R,zia l l 0 0 0 []=R:=⟨_,rfl⟩;unfold ze9;rw [if_neg (by omega),hR];have HR:=hid hR;clear hR;have h' : (l.length:Int)<=16000:=by omega
 have hd:decide ((16000:Int)<l.length)=false:=decide_eq_false (by omega);obtain ⟨inf,hi1,hi2,hi3,hi4⟩:=zlj;have HI:=hid4 hi1 hi2 hi3 hi4;clear hi1 hi2 hi3 hi4;go_enter Tryz.func16,Tryz.ntmps16
 go_wp2_with fail
 clear hd;go_loopw [16] (fun i wr=>∃ (k st frm:Nat) (v:Value) (ts:List Tok),i=.int .i64 k∧k<=l.length∧frm<=k∧ts.length<=k∧Hid (SC wr w.heap.size l st frm v ts)∧Hid (Below w.heap.size w wr)∧Hid (Fits l k st frm)∧Hid (zia l (l.drop k) k st frm ts=R)) (fun i _=>l.length - (intOf i).toNat)
 case atStart=>exact ⟨0,0,0,.slice none 0 0,[],rfl,by omega,by omega,by simp,SC.made l w,(Below.refl _ _).alloc (Nat.le_refl _) _,trivial,HR.out⟩
 case round =>
  obtain ⟨k,st,frm,v,ts,rfl,hk,hfk,htk,HS,HB,HF,HM⟩:=hrel;have hvb:∀ g,v.ownBlock=some g->w.heap.size<=g:=fun g hg=>by have:=(HS.out.own.lt g hg).1;omega
  have Ad:=hid hvb;have Ae:=hid HB.out.size;clear hvb;by_cases hlt:k<l.length
  · have hk' : (k:Int)<l.length:=(by omega);have HT:=hid (zdn w.heap.size l st frm k v ts wr HS.out (by omega) HF.out.le8 hfk hlt (by omega) (HF.out.num (by omega)));have hm0:=HM.out;rw [mach_take hlt] at hm0;have hft0:=fun h0=>fits_take (ts:=ts) HF.out hfk h0;have hmo:(zgi l (l.getD k 0) st frm k ts).2.2.2.length<=ts.length+1:=take_more;have hfe:(zgi l (l.getD k 0) st frm k ts).1≠0->(zgi l (l.getD k 0) st frm k ts).2.2.1=frm:=fun h0=>by
     unfold zgi at h0 ⊢;split
     · rfl
     split
     · rename_i h1 h2;rw [if_neg h1,if_pos h2] at h0;exact absurd rfl h0
     · rfl
    generalize zgi l (l.getD k 0) st frm k ts=r at *;obtain ⟨r1,st2,frm2,ts2⟩:=r;simp only at hm0 hft0 hmo hfe;clear HF HM HS;by_cases hr:r1=0
    · subst hr;rw [if_pos rfl] at hm0;have Aa:=hid hm0;have Ag:=hid ((hft0 rfl).1);have hf2:=(hft0 rfl).2;clear hm0 hft0 hfe;(go_wp2_with fail);refine HT.out.mono ?_;rintro e w2 ⟨rfl,v',h1,h2⟩;have Ah:=hid h1;have Ab:=hid (h2.below HB.out Ae.out (Nat.le_refl _) Ad.out);clear h1 h2;go_wp2;go_roundw
      case rel=>exact ⟨k+1,st2,frm2,v',ts2,by go_num,by omega,hf2,by omega,Ah.out,Ab.out,Ag.out,Aa.out⟩
      case measure=>simp [intOf];omega
    · rw [if_neg hr] at hm0;have Aa:=hid hm0;have hr1:(r1==0)=false:=(by simpa using hr);obtain rfl:=hfe hr;clear hm0 hft0 hr hfe;(go_wp2_with fail);refine HT.out.mono ?_;rintro e w2 ⟨rfl,v',h1,h2⟩;have hc2:=h1.f;have Ab:=hid (h2.below HB.out Ae.out (Nat.le_refl _) Ad.out);clear h1 h2;(go_wp2_with fail);go_quiet (fail)
      go_wp2;go_ret3
      rw [<- Aa.out];exact ⟨rfl,below_drewN Ab.out _⟩
  · obtain rfl:k=l.length:=(by omega);have HT:=hid (end_any w.heap.size l st frm l.length v ts wr HS.out (by omega) HF.out.le8 hfk (Nat.le_refl _) (by omega) (HF.out.num (Nat.le_refl _)));have hm0:=HM.out;rw [List.drop_length,zia] at hm0;have hol:(endP l st frm l.length).2.toList.length<=1:=(by cases (endP l st frm l.length).2 <;> simp);generalize endP l st frm l.length=r at *;obtain ⟨r1,r2⟩:=r;simp only at hm0 hol;clear HF HM HS;by_cases hr:r1=0
    · subst hr;rw [if_pos rfl] at hm0;have Aa:=hid hm0;clear hm0;(go_wp2_with fail);refine HT.out.mono ?_;rintro e w2 ⟨rfl,v',h1,h2⟩;have Ab:=hid (h2.below HB.out Ae.out (Nat.le_refl _) Ad.out);have hc3:=h1.t;obtain ⟨oa,cap0,hv⟩:=own_form h1.own;obtain ⟨us,hus⟩:∃ us,ts++r2.toList=us:=⟨_,rfl⟩;have hul:us.length<=16001:=(by rw [<- hus,List.length_append];omega);rw [hus] at Aa h1 hv;have HO:=hid h1;obtain ⟨N,hN⟩:∃ N,us.length=N:=⟨_,rfl⟩;rw [hN] at hv hul;have HN:=hid hN;have HV:=hid hv;have Ai:Hid (∀ w3:World,(∀ b,b<w2.heap.size->w3.heap[b]?=w2.heap[b]?)->w3.ownsRow (w.heap.size+1) 41 4 v' N (tokCells us)):=fun w3 h3=>by
       have ho:=h1.own;rw [hN] at ho;refine ⟨ho.1,?_⟩;rcases ho.2 with hn|⟨g,cap,cur,rfl,hb,hgg,rest⟩
       · exact .inl hn
       · exact .inr ⟨g,cap,cur,rfl,hb,by rw [h3 g (Array.getElem?_eq_some_iff.1 hgg).1];exact hgg,rest⟩
      have Ac:=hid h1.lt;(have Af:Hid (∀ g,v'.ownBlock=some g->w.heap.size<=g):=fun g hg=>by have:=(h1.own.lt g hg).1;omega);rw [hv] at hc3;clear h1 h2 hv hN hus hol;(go_wp2_with (at_builtin;refine Hid.out ?_));refine (show Hid _ from ?_);refine wpList_append_lies _ rfl _ _ 37 rfl (w.heap.size+1) 41 inf (.agg #[.int .i64 0,.string ⟨#[]⟩,.int .i64 0,.int .i64 0]) 4 40 Tryz.underlying37 HI.out.1 HI.out.2.1 HI.out.2.2.1 HI.out.2.2.2 rfl (by decide) v' N (tokCells us) (by rw [HV.out];rfl) (Ai.out _ (fun b hb=>Below.heap_alloc _ _ b hb)) ⟨w2.heap.size,0,none⟩ 1 1 (tokC ⟨5,[],0,l.length⟩) rfl rfl (World.news_of_block (cs:=#[.int .i64 5,S [],.int .i64 0,.int .i64 l.length]) (t:=41) (fr:=(0,0)) (heap_alloc_new _ _)) (by simp [tokC,Value.oneCell']) (by omega) (by unfold maxLen;omega) (by omega) (by have:=Ac.out;simp;omega) _ rfl ?_;intro g cap w3 hown hgrow hat hlt3;have Aj:Hid (w3.ownsRow w.heap.size 41 4 (.slice (some ⟨g,0,none⟩) (N+1) cap) (N+1) (tokCells us++tokC ⟨5,[],0,l.length⟩)):=own_base hown (by omega);have Ak:Hid (Below w.heap.size w w3):=(Ab.out.alloc (by have:=Ac.out;omega) _).grown hgrow (by have:=Ac.out;simp;omega) Af.out;clear hown hgrow hat hlt3;go_wp2;go_ret3
      rw [<- Aa.out];refine ⟨g,cap,?_,?_,Ak.out⟩
      · rw [show (us++[(⟨5,[],0,l.length⟩:Tok)]).length=N+1 by rw [List.length_append,HN.out];rfl];rfl
      · rw [show (us++[(⟨5,[],0,l.length⟩:Tok)]).length=N+1 by rw [List.length_append,HN.out];rfl,zet];exact Aj.out
    · rw [if_neg hr] at hm0;have Aa:=hid hm0;have hr1:(r1==0)=false:=(by simpa using hr);clear hm0 hr;(go_wp2_with fail);refine HT.out.mono ?_;rintro e w2 ⟨rfl,v',h1,h2⟩;have hc2:=h1.f;have Ab:=hid (h2.below HB.out Ae.out (Nat.le_refl _) Ad.out);clear h1 h2;(go_wp2_with fail);go_quiet (fail)
      go_wp2;go_ret3
      rw [<- Aa.out];exact ⟨rfl,below_drewN Ab.out _⟩
theorem scan_any (l:List UInt8) (w:World):Calls Tryz.prog 16 #[S l] w (zfl (ze9 l) w):=by
 rcases Nat.lt_or_ge 16000 l.length with h|h
 · exact scan_long l w h
 · exact scan_short l w h
end Go.Proofs.YtighggeokiahfaaGreatDoor.Lx
namespace Go.Proofs.YtighggeokiahfaaGreatDoor
open Go.RowKit
open Lx (S tokC tokCells tokCells_len)
theorem scans_len {l:List UInt8} {i:Nat} {ts vs:List Tok} {R:Res} (h:Scans l i ts R) (hR:R=.ok vs):vs.length<=ts.length+(l.length - i)+1:=by
 induction h with
 | done h=>cases hR;simp
 | err h hs=>cases hR
 | go h hs hr ih =>
  have h1:=ih hR;have h2:=step_lt h hs;rename_i t j _;have h3:t.toList.length<=1:=by cases t <;> simp
  simp only [List.length_append] at h1;omega
theorem scan_ok {l:List UInt8} {ts:List Tok} (h:ze9 l=.ok ts):l.length<=16000∧ts.length<=16001∧Ends ts∧0<ts.length:=by
 have hl:l.length<=16000:=by
  rcases Nat.lt_or_ge 16000 l.length with h1|h1
  · unfold ze9 at h;rw [if_pos h1] at h;cases h
  · exact h1
 have hs:=zgy hl;rw [h] at hs;have h1:=scans_len hs rfl;obtain ⟨us,rfl⟩:=ok_last hs rfl;simp only [List.length_nil] at h1;refine ⟨hl,by omega,?_,by simp⟩;intro j hj hl2;have hj2:j=us.length:=by simp at hj hl2;omega
 subst hj2;simp
theorem zdi (ts:List Tok):∀ (j:Nat) (h:j<ts.length),(tokCells ts)[j*4]?=some (.int .i64 ts[j].kind)∧(tokCells ts)[j*4+1]?=some (S ts[j].text)∧(tokCells ts)[j*4+2]?=some (.int .i64 ts[j].num)∧(tokCells ts)[j*4+3]?=some (.int .i64 ts[j].at_):=by
 induction ts with
 | nil=>intro j h;simp at h
 | cons t ts ih =>
  intro j h;cases j with
  | zero=>simp [tokCells,tokC]
  | succ j =>
   have hx:=ih j (by simp at h;omega);have e:tokCells (t::ts)=tokC t++tokCells ts:=by simp [tokCells]
   have hl:(tokC t).length=4:=rfl;rw [e];refine ⟨?_,?_,?_,?_⟩
   · rw [List.getElem?_append_right (by rw [hl];omega),hl,show (j+1)*4 - 4=j*4 by omega];exact hx.1
   · rw [List.getElem?_append_right (by rw [hl];omega),hl,show (j+1)*4+1 - 4=j*4+1 by omega];exact hx.2.1
   · rw [List.getElem?_append_right (by rw [hl];omega),hl,show (j+1)*4+2 - 4=j*4+2 by omega];exact hx.2.2.1
   · rw [List.getElem?_append_right (by rw [hl];omega),hl,show (j+1)*4+3 - 4=j*4+3 by omega];exact hx.2.2.2
theorem PP.made {w:World} {base g cap:Nat} {ts:List Tok} (ho:w.ownsRow base 41 4 (.slice (some ⟨g,0,none⟩) ts.length cap) ts.length (tokCells ts)) (h1:ts.length<=16001) (h0:0<ts.length) :
 PP (w.alloc (.cells #[.slice (some ⟨g,0,none⟩) ts.length cap,.int .i64 0,.int .i64 0,.bool false] 53)) w.heap.size g cap ts 0 0 false:=by
 have hg:g<w.heap.size:=(ho.lt g rfl).2;have hc:∀ o,(w.alloc (.cells #[.slice (some ⟨g,0,none⟩) ts.length cap,.int .i64 0,.int .i64 0,.bool false] 53)).cell? ⟨g,o,none⟩=w.cell? ⟨g,o,none⟩:=fun o=>World.cell?_alloc_lt _ _ _ hg;refine ⟨by simp,by simp,by simp,by simp,by simp,by simp,by simp,?_,?_,?_,?_,h0,h1,Nat.ne_of_lt hg⟩
 · intro j h;rw [hc,ho.cellAt _ (by omega)];exact (zdi ts j h).1
 · intro j h;rw [hc,ho.cellAt _ (by omega)];exact (zdi ts j h).2.1
 · intro j h;rw [hc,ho.cellAt _ (by omega)];exact (zdi ts j h).2.2.1
 · intro j h;rw [hc,ho.cellAt _ (by omega)];exact (zdi ts j h).2.2.2
end Go.Proofs.YtighggeokiahfaaGreatDoor
namespace Go.Proofs.YtighggeokiahfaaGreatDoor
open Go.RowKit
theorem zj3 (a b:Int) (w:World):(Instr.typeAssert (.iface 50 (.agg #[.int .i64 a,.int .i64 b])) 20 50 true).run Tryz.prog w=.ok (.tuple #[.agg #[.int .i64 a,.int .i64 b],.bool true]) w:=by kernel_rfl
theorem zl2 (w:World):(Instr.typeAssert .nilIface 20 50 true).run Tryz.prog w=.ok (.tuple #[.agg #[.int .i64 0,.int .i64 0],.bool false]) w:=by kernel_rfl
theorem bldz (w:World):(Instr.build 29 #[]).run Tryz.prog w=.ok (.agg #[.int .i64 0,.string ⟨#[]⟩,.int .i64 0,.int .i64 0,.slice none 0 0]) w:=by kernel_rfl
def oneO (x:Int) (t:TypeId):Obj:=.cells #[.int .i64 x] t (0,0)
theorem zbp {w:World} {b:Nat} {x:Int} {t:TypeId} (h:w.heap[b]?=some (oneO x t)):w.cell? ⟨b,0,none⟩=some (.int .i64 x)∧w.frozen? ⟨b,0,none⟩=false:=by
 unfold oneO at h;simp [World.cell?,World.frozen?,h]
theorem catch_fault (tb eb ab:Nat) (why:Int) (at_:Nat) (older:List PanicEntry) (w:World) (k9:Int) (n9:List UInt8) (m9:Int) (a9:Nat) (sl:Value) (x y:Int) (ht:w.heap[tb]?=some (kidO k9 n9 m9 a9 sl)) (he:w.heap[eb]?=some (oneO x 30)) (ha:w.heap[ab]?=some (oneO y 3)) (h1:tb≠eb) (h2:tb≠ab) (h3:eb≠ab) :
 CallsD Tryz.prog 25 #[.pointer (some ⟨tb,0,none⟩),.pointer (some ⟨eb,0,none⟩),.pointer (some ⟨ab,0,none⟩)] (.panicking ({ v:=.iface 50 (.agg #[.int .i64 why,.int .i64 at_]),recovered:=false }::older)) w fun e u' w' =>
  e=.returned (.tuple #[])∧u'=.panicking ({ v:=.iface 50 (.agg #[.int .i64 why,.int .i64 at_]),recovered:=true }::older) ∧
  (w'.heap[tb]?=some (kidO 0 [] 0 0 (.slice none 0 0))∧w'.heap[eb]?=some (oneO why 30)∧w'.heap[ab]?=some (oneO at_ 3))∧(∀ b,b<w.heap.size->b≠tb->b≠eb->b≠ab->w'.heap[b]?=w.heap[b]?)∧w'.os=w.os∧w'.tape=w.tape∧w'.output=w.output∧w.heap.size<=w'.heap.size:=by
 have qa:=zj3 why at_;have HW:=hid3 ht he ha;refine callsD_of_wpS Tryz.func25 rfl fun c₀ cs hu=>?_;clear ht he ha;apply wpS_seq
 apply wpS_region
 simp [wpOpsS,go_sem,recoverD,hu,Tryz.ntmps25,Exit.thenS,Array.replicate,qa]
 obtain ⟨wa,hwa⟩:∃ x,w.alloc (.cells #[.int .i64 why,.int .i64 at_] 50)=x:=⟨_,rfl⟩;rw [hwa];have kt:wa.heap[tb]?=some (kidO k9 n9 m9 a9 sl):=by rw [<- hwa];exact za3 HW.out.1
 have ke:wa.heap[eb]?=some (oneO x 30):=by rw [<- hwa];exact za3 HW.out.2.1
 have ka:wa.heap[ab]?=some (oneO y 3):=by rw [<- hwa];exact za3 HW.out.2.2
 have HK:=hid3 kt ke ka;have HA:Hid (Below w.heap.size w wa):=by show Below w.heap.size w wa;rw [<- hwa];exact zab _ _
 have f0:wa.cell? ⟨w.heap.size,0,none⟩=some (.int .i64 why):=by rw [<- hwa];simp
 have f1:wa.cell? ⟨w.heap.size,1,none⟩=some (.int .i64 at_):=by rw [<- hwa];simp
 obtain ⟨⟨z0,z1,z2,z3,z4⟩,⟨y0,y1,y2,y3,y4⟩⟩:=zaa kt;obtain ⟨e0,g0⟩:=zbp ke;obtain ⟨a0,b0⟩:=zbp ka;have n1:¬ w.heap.size=tb:=by have:=zej HW.out.1;omega
 have n2:¬ w.heap.size=eb:=by have:=zej HW.out.2.1;omega
 have n3:¬ w.heap.size=ab:=by have:=zej HW.out.2.2;omega
 have m1:¬ tb=eb:=h1;have m2:¬ tb=ab:=h2;have m3:¬ eb=ab:=h3;have m4:¬ eb=tb:=fun e=>h1 e.symm;have m5:¬ ab=tb:=fun e=>h2 e.symm;have m6:¬ ab=eb:=fun e=>h3 e.symm;have qb:=bldz;clear kt ke ka h1 h2 h3 hwa qa;refine wpS_of_wp ?_;go_wp2;go_region;all_goals (
  go_wp2;obtain ⟨u,hu5⟩:∃ u,((((wa.setCell ⟨tb,0,none⟩ (.int .i64 0)).setCell ⟨tb,1,none⟩ (.string ⟨#[]⟩)).setCell ⟨tb,2,none⟩ (.int .i64 0)).setCell ⟨tb,3,none⟩ (.int .i64 0)).setCell ⟨tb,4,none⟩ (.slice none 0 0)=u:=⟨_,rfl⟩;have hut:u.heap[tb]?=some (kidO 0 [] 0 0 (.slice none 0 0)):=by rw [<- hu5];exact zc5 (n:=[]) (a:=0) HK.out.1
  have hub:∀ b,b≠tb->u.heap[b]?=wa.heap[b]?:=by rw [<- hu5];exact zbf wa tb _ _ _ _ _
  have hus:u.heap.size=wa.heap.size∧u.os=wa.os∧u.tape=wa.tape∧u.output=wa.output:=by rw [<- hu5];exact ⟨by simp,rfl,rfl,rfl⟩
  have hz:(((u.setCell ⟨eb,0,none⟩ (.int .i64 why)).setCell ⟨ab,0,none⟩ (.int .i64 at_)).drew.heap[tb]?=some (kidO 0 [] 0 0 (.slice none 0 0))∧((u.setCell ⟨eb,0,none⟩ (.int .i64 why)).setCell ⟨ab,0,none⟩ (.int .i64 at_)).drew.heap[eb]?=some (oneO why 30)∧((u.setCell ⟨eb,0,none⟩ (.int .i64 why)).setCell ⟨ab,0,none⟩ (.int .i64 at_)).drew.heap[ab]?=some (oneO at_ 3))∧(∀ b,b<w.heap.size->b≠tb->b≠eb->b≠ab->((u.setCell ⟨eb,0,none⟩ (.int .i64 why)).setCell ⟨ab,0,none⟩ (.int .i64 at_)).drew.heap[b]?=w.heap[b]?)∧((u.setCell ⟨eb,0,none⟩ (.int .i64 why)).setCell ⟨ab,0,none⟩ (.int .i64 at_)).drew.os=w.os∧((u.setCell ⟨eb,0,none⟩ (.int .i64 why)).setCell ⟨ab,0,none⟩ (.int .i64 at_)).drew.tape=w.tape∧((u.setCell ⟨eb,0,none⟩ (.int .i64 why)).setCell ⟨ab,0,none⟩ (.int .i64 at_)).drew.output=w.output∧w.heap.size<=((u.setCell ⟨eb,0,none⟩ (.int .i64 why)).setCell ⟨ab,0,none⟩ (.int .i64 at_)).drew.heap.size:=by
   have hA:=HA.out;refine ⟨⟨?_,?_,?_⟩,?_,hus.2.1.trans hA.os,hus.2.2.1.trans hA.tape,hus.2.2.2.trans hA.output,?_⟩
   · exact (Below.heap_setCell _ _ _ _ m2).trans ((Below.heap_setCell _ _ _ _ m1).trans hut)
   · exact (Below.heap_setCell _ _ _ _ m3).trans (zae ((hub eb m4).trans HK.out.2.1))
   · exact zae ((Below.heap_setCell _ _ _ _ m6).trans ((hub ab m5).trans HK.out.2.2))
   · intro b hb q1 q2 q3;exact (Below.heap_setCell _ _ _ _ q3).trans ((Below.heap_setCell _ _ _ _ q2).trans ((hub b q1).trans (hA.block b hb)))
   · show w.heap.size<=((u.setCell ⟨eb,0,none⟩ (.int .i64 why)).setCell ⟨ab,0,none⟩ (.int .i64 at_)).heap.size;have:=hA.size;(simp);omega
  rw [hu5];generalize ((u.setCell ⟨eb,0,none⟩ (.int .i64 why)).setCell ⟨ab,0,none⟩ (.int .i64 at_)).drew=wz at hz ⊢;clear z0 z1 z2 z3 z4 y0 y1 y2 y3 y4 e0 g0 a0 b0 f0 f1 hut hub hus hu5 qb HW HK HA;cases c₀
  simp_all [bodyPostS,results,Tryz.results25])
theorem catch_idle (tb eb ab:Nat) (w:World) :
 CallsD Tryz.prog 25 #[.pointer (some ⟨tb,0,none⟩),.pointer (some ⟨eb,0,none⟩),.pointer (some ⟨ab,0,none⟩)] .returning w fun e u' w'=>e=.returned (.tuple #[])∧u'=.returning∧Below w.heap.size w w':=by
 have qa:=zl2;refine callsD_of_wpS Tryz.func25 rfl fun c₀ cs hu=>?_;apply wpS_seq
 apply wpS_region
 simp [wpOpsS,go_sem,recoverD,hu,Tryz.ntmps25,Exit.thenS,Array.replicate,qa]
 refine wpS_of_wp ?_;go_wp2;have hb:Below w.heap.size w (w.alloc (.cells #[.int .i64 0,.int .i64 0] 50)):=zab _ _;generalize w.alloc (.cells #[.int .i64 0,.int .i64 0] 50)=wz at hb ⊢;cases c₀;simp_all [bodyPostS,results,Tryz.results25]
def zi6 (w:World):Prop:=∃ t fr,w.heap[0]?=some (.cells zj2 t fr)
theorem zi6.below {w w' : World} (h:zi6 w) (hB:Below w.heap.size w w'):zi6 w':=by
 obtain ⟨t,fr,h⟩:=h;exact ⟨t,fr,(hB.block 0 (zej h)).trans h⟩
def ParsePost (R:PRes) (w:World) (e:Ending) (w' : World):Prop :=
 match R with
 | .ok t=>∃ v,e=.returned (.tuple #[v,.int .i64 0,.int .i64 0])∧treeIs w.heap.size t w' v∧Below w.heap.size w w'
 | .err r i=>e=.returned (.tuple #[kidV 0 [] 0 0 (.slice none 0 0),.int .i64 r,.int .i64 i])∧Below w.heap.size w w'
theorem Sole.to_below {p:Nat} {w wp w' : World} (hB:Below w.heap.size w wp) (hp:w.heap.size<=p) (hS:Sole p wp w'):Below w.heap.size w w' :=
 ⟨hS.os.trans hB.os,hS.tape.trans hB.tape,hS.output.trans hB.output,Nat.le_trans hB.size hS.size,fun b hb=>(hS.block b (Nat.lt_of_lt_of_le hb hB.size) (by omega)).trans (hB.block b hb)⟩
theorem bld53 (o:Option Addr) (n c:Nat) (w:World):(Instr.build 53 #[(0,.slice o n c)]).run Tryz.prog w=.ok (.agg #[.slice o n c,.int .i64 0,.int .i64 0,.bool false]) w:=by kernel_rfl
theorem ext0 (a b c:Value) (w:World):(Instr.extract (.tuple #[a,b,c]) 0).run Tryz.prog w=.ok a w:=rfl
theorem ext1 (a b c:Value) (w:World):(Instr.extract (.tuple #[a,b,c]) 1).run Tryz.prog w=.ok b w:=rfl
theorem ext2 (a b c:Value) (w:World):(Instr.extract (.tuple #[a,b,c]) 2).run Tryz.prog w=.ok c w:=rfl
theorem parse_lex (l:List UInt8) (r:Int) (i:Nat) (hr:r≠0) (w:World) (HS:Hid (∀ w1,Calls Tryz.prog 16 #[.string ⟨l.toArray⟩] w1 fun e w'=>e=.returned (.tuple #[.slice none 0 0,.int .i64 r,.int .i64 i])∧Below w1.heap.size w1 w')) :
 Calls Tryz.prog 11 #[.string ⟨l.toArray⟩] w (ParsePost (.err r i) w):=by
 have hmf:∀ (fn:Fn) (first cap:Array Value) (w:World),(Instr.makeFunc fn first cap).run Tryz.prog w=.ok (.func fn first cap) w:=fun _ _ _ _=>rfl;obtain ⟨wa1,hwa1⟩:∃ x,w.alloc (.cells #[.int .i64 0,.string ⟨#[]⟩,.int .i64 0,.int .i64 0,.slice none 0 0] 29)=x:=⟨_,rfl⟩;obtain ⟨wa2,hwa2⟩:∃ x,wa1.alloc (.cells #[.int .i64 0] 30)=x:=⟨_,rfl⟩;obtain ⟨wa3,hwa3⟩:∃ x,wa2.alloc (.cells #[.int .i64 0] 3)=x:=⟨_,rfl⟩;have b1:Below w.heap.size w wa1:=by rw [<- hwa1];exact zab _ _
 have b2:Below w.heap.size w wa2:=by rw [<- hwa2];exact b1.alloc b1.size _
 have b3:Below w.heap.size w wa3:=by rw [<- hwa3];exact b2.alloc b2.size _
 have kt:Kep w wa3 w.heap.size (kidO 0 [] 0 0 (.slice none 0 0)):=by rw [<- hwa3,<- hwa2,<- hwa1];exact ((Kep.new (Nat.le_refl _) _).alloc _).alloc _
 have ke:Kep w wa3 wa1.heap.size (oneO 0 30):=by rw [<- hwa3,<- hwa2];exact (Kep.new b1.size _).alloc _
 have ka:Kep w wa3 wa2.heap.size (oneO 0 3):=by rw [<- hwa3];exact Kep.new b2.size _
 have Ab:Hid (w.heap.size<wa1.heap.size∧wa1.heap.size<wa2.heap.size):=⟨by rw [<- hwa1];simp,by rw [<- hwa2];simp⟩;have Ae:=hid b3;have Ac:=hid3 kt ke ka;clear b1 b2 b3 kt ke ka;have hrn:(r != 0)=true:=by simp [hr]
 clear hr;go_enter_defers Tryz.func11,Tryz.ntmps11
 go_wp2_with fail
 clear hwa1 hwa2 hwa3;refine (HS.out wa3).mono ?_;rintro e ws ⟨rfl,hB⟩;have hlt:=Ab.out;have k0:Kep w ws w.heap.size (kidO 0 [] 0 0 (.slice none 0 0)):=Ac.out.1.below hB;have k1:Kep w ws wa1.heap.size (oneO 0 30):=Ac.out.2.1.below hB;have k2:Kep w ws wa2.heap.size (oneO 0 3):=Ac.out.2.2.below hB;have Aa:=hid4 k0 k1 k2 (Ae.out.trans (hB.mono Ae.out.size));obtain ⟨⟨z0,z1,z2,z3,z4⟩,⟨y0,y1,y2,y3,y4⟩⟩:=zaa k0.1;obtain ⟨e0,g0⟩:=zbp k1.1;obtain ⟨a0,b0⟩:=zbp k2.1;have m1:¬ w.heap.size=wa1.heap.size:=by omega
 have m2:¬ w.heap.size=wa2.heap.size:=by omega
 have m3:¬ wa1.heap.size=wa2.heap.size:=by omega
 have m4:¬ wa1.heap.size=w.heap.size:=by omega
 have m5:¬ wa2.heap.size=w.heap.size:=by omega
 have m6:¬ wa2.heap.size=wa1.heap.size:=by omega
 have qb:=bldz;have x0:=ext0;have x1:=ext1;have x2:=ext2;clear k0 k1 k2 hB hlt;go_wp2;have hz1:∀ b,b≠wa1.heap.size->b≠wa2.heap.size->((ws.setCell ⟨wa1.heap.size,0,none⟩ (.int .i64 r)).setCell ⟨wa2.heap.size,0,none⟩ (.int .i64 i)).heap[b]?=ws.heap[b]?:=fun b h1 h2=>(Below.heap_setCell _ _ _ _ h2).trans (Below.heap_setCell _ _ _ _ h1);have k0:((ws.setCell ⟨wa1.heap.size,0,none⟩ (.int .i64 r)).setCell ⟨wa2.heap.size,0,none⟩ (.int .i64 i)).heap[w.heap.size]?=some (kidO 0 [] 0 0 (.slice none 0 0)):=(hz1 _ m1 m2).trans Aa.out.1.1;have k1:((ws.setCell ⟨wa1.heap.size,0,none⟩ (.int .i64 r)).setCell ⟨wa2.heap.size,0,none⟩ (.int .i64 i)).heap[wa1.heap.size]?=some (oneO r 30):=(Below.heap_setCell _ _ _ _ m3).trans (zae Aa.out.2.1.1);have k2:((ws.setCell ⟨wa1.heap.size,0,none⟩ (.int .i64 r)).setCell ⟨wa2.heap.size,0,none⟩ (.int .i64 i)).heap[wa2.heap.size]?=some (oneO i 3):=zae ((Below.heap_setCell _ _ _ _ m6).trans Aa.out.2.2.1.1);have hlt:=Ab.out;have Af:Hid (Below w.heap.size w ((ws.setCell ⟨wa1.heap.size,0,none⟩ (.int .i64 r)).setCell ⟨wa2.heap.size,0,none⟩ (.int .i64 i))):=(Aa.out.2.2.2.setCell (p:=⟨wa1.heap.size,0,none⟩) (Nat.le_of_lt hlt.1) _).setCell (p:=⟨wa2.heap.size,0,none⟩) (by show w.heap.size<=wa2.heap.size;omega) _;clear z0 z1 z2 z3 z4 y0 y1 y2 y3 y4 e0 g0 a0 b0 hz1;generalize ((ws.setCell ⟨wa1.heap.size,0,none⟩ (.int .i64 r)).setCell ⟨wa2.heap.size,0,none⟩ (.int .i64 i))=wx at k0 k1 k2 Af ⊢;have Ad:=hid3 k0 k1 k2;obtain ⟨⟨z0,z1,z2,z3,z4⟩,⟨y0,y1,y2,y3,y4⟩⟩:=zaa k0;obtain ⟨e0,g0⟩:=zbp k1;obtain ⟨a0,b0⟩:=zbp k2;clear k0 k1 k2 hlt;go_region;all_goals (
  go_wp2;obtain ⟨u,hu5⟩:∃ u,((((wx.setCell ⟨w.heap.size,0,none⟩ (.int .i64 0)).setCell ⟨w.heap.size,1,none⟩ (.string ⟨#[]⟩)).setCell ⟨w.heap.size,2,none⟩ (.int .i64 0)).setCell ⟨w.heap.size,3,none⟩ (.int .i64 0)).setCell ⟨w.heap.size,4,none⟩ (.slice none 0 0)=u:=⟨_,rfl⟩;have hut:u.heap[w.heap.size]?=some (kidO 0 [] 0 0 (.slice none 0 0)):=by rw [<- hu5];exact zc5 (n:=[]) (a:=0) Ad.out.1
  have hub:∀ b,b≠w.heap.size->u.heap[b]?=wx.heap[b]?:=by rw [<- hu5];exact zbf wx w.heap.size _ _ _ _ _
  have hbu:Below w.heap.size w u:=by rw [<- hu5];exact Af.out.trans (zan wx w.heap.size w.heap.size _ _ _ _ _ (Nat.le_refl _))
  rw [hu5];have hlt:=Ab.out;have hz0:((u.setCell ⟨wa1.heap.size,0,none⟩ (.int .i64 r)).setCell ⟨wa2.heap.size,0,none⟩ (.int .i64 i)).drew.heap[w.heap.size]?=some (kidO 0 [] 0 0 (.slice none 0 0)):=(Below.heap_setCell _ _ _ _ m2).trans ((Below.heap_setCell _ _ _ _ m1).trans hut);have hz1:((u.setCell ⟨wa1.heap.size,0,none⟩ (.int .i64 r)).setCell ⟨wa2.heap.size,0,none⟩ (.int .i64 i)).drew.heap[wa1.heap.size]?=some (oneO r 30):=(Below.heap_setCell _ _ _ _ m3).trans (zae ((hub _ m4).trans Ad.out.2.1));have hz2:((u.setCell ⟨wa1.heap.size,0,none⟩ (.int .i64 r)).setCell ⟨wa2.heap.size,0,none⟩ (.int .i64 i)).drew.heap[wa2.heap.size]?=some (oneO i 3):=zae ((Below.heap_setCell _ _ _ _ m6).trans ((hub _ m5).trans Ad.out.2.2));have hbz:Below w.heap.size w ((u.setCell ⟨wa1.heap.size,0,none⟩ (.int .i64 r)).setCell ⟨wa2.heap.size,0,none⟩ (.int .i64 i)).drew:=((hbu.setCell (p:=⟨wa1.heap.size,0,none⟩) (Nat.le_of_lt hlt.1) _).setCell (p:=⟨wa2.heap.size,0,none⟩) (by show w.heap.size<=wa2.heap.size;omega) _).drew;generalize ((u.setCell ⟨wa1.heap.size,0,none⟩ (.int .i64 r)).setCell ⟨wa2.heap.size,0,none⟩ (.int .i64 i)).drew=wz at hz0 hz1 hz2 hbz ⊢;have q:=(zaa hz0).1;have q5:=(zbp hz1).1;have q6:=(zbp hz2).1;obtain ⟨q0,q1,q2,q3,q4⟩:=q;clear hut hub hbu hz0 hz1 hz2 hu5 z0 z1 z2 z3 z4 y0 y1 y2 y3 y4 e0 g0 a0 b0 qb x0 x1 x2 hmf;simp [bodyPostD,Leaves,results,Tryz.results11,go_sem,q0,q1,q2,q3,q4,q5,q6]
  exact ⟨rfl,hbz⟩)
def treeR (r:Ans Tree):PRes :=
 match r with
 | .ok t _=>.ok t
 | .no e i=>.err e i
theorem parse_toks (l:List UInt8) (ts:List Tok) (h1:ts.length<=16001) (hE:Ends ts) (h0:0<ts.length) (w:World) (hG:zi6 w) (HS:Hid (∀ w1,Calls Tryz.prog 16 #[.string ⟨l.toArray⟩] w1 fun e w'=>∃ g cap,e=.returned (.tuple #[.slice (some ⟨g,0,none⟩) ts.length cap,.int .i64 0,.int .i64 0])∧w'.ownsRow w1.heap.size 41 4 (.slice (some ⟨g,0,none⟩) ts.length cap) ts.length (Lx.tokCells ts)∧Below w1.heap.size w1 w')) :
 Calls Tryz.prog 11 #[.string ⟨l.toArray⟩] w (ParsePost (treeR ((zcn 102 [] ⟨ts,false⟩).bind fun ks s=>Ans.ok (Tree.node 1 [] 0 0 ks) s)) w):=by
 have hmf:∀ (fn:Fn) (first cap:Array Value) (w:World),(Instr.makeFunc fn first cap).run Tryz.prog w=.ok (.func fn first cap) w:=fun _ _ _ _=>rfl;obtain ⟨wa1,hwa1⟩:∃ x,w.alloc (.cells #[.int .i64 0,.string ⟨#[]⟩,.int .i64 0,.int .i64 0,.slice none 0 0] 29)=x:=⟨_,rfl⟩;obtain ⟨wa2,hwa2⟩:∃ x,wa1.alloc (.cells #[.int .i64 0] 30)=x:=⟨_,rfl⟩;obtain ⟨wa3,hwa3⟩:∃ x,wa2.alloc (.cells #[.int .i64 0] 3)=x:=⟨_,rfl⟩;have b1:Below w.heap.size w wa1:=by rw [<- hwa1];exact zab _ _
 have b2:Below w.heap.size w wa2:=by rw [<- hwa2];exact b1.alloc b1.size _
 have b3:Below w.heap.size w wa3:=by rw [<- hwa3];exact b2.alloc b2.size _
 have kt:Kep w wa3 w.heap.size (kidO 0 [] 0 0 (.slice none 0 0)):=by rw [<- hwa3,<- hwa2,<- hwa1];exact ((Kep.new (Nat.le_refl _) _).alloc _).alloc _
 have ke:Kep w wa3 wa1.heap.size (oneO 0 30):=by rw [<- hwa3,<- hwa2];exact (Kep.new b1.size _).alloc _
 have ka:Kep w wa3 wa2.heap.size (oneO 0 3):=by rw [<- hwa3];exact Kep.new b2.size _
 have Ab:Hid (w.heap.size<wa1.heap.size∧wa1.heap.size<wa2.heap.size):=⟨by rw [<- hwa1];simp,by rw [<- hwa2];simp⟩;have Ai:=hid b3;have Af:=hid3 kt ke ka;clear b1 b2 b3 kt ke ka;have Ag:=hid3 h1 hE h0;have HG:=hid hG;obtain ⟨R,hR⟩:∃ R,((zcn 102 [] ⟨ts,false⟩).bind fun ks s=>Ans.ok (Tree.node 1 [] 0 0 ks) s)=R:=⟨_,rfl⟩;rw [hR];have HR:=hid hR;clear h1 hE h0 hR hG;go_enter_defers Tryz.func11,Tryz.ntmps11
 go_wp2_with fail
 clear hwa1 hwa2 hwa3;refine (HS.out wa3).mono ?_;rintro e ws ⟨g,cap,rfl,ho,hB⟩;have hlt:=Ab.out;have k0:Kep w ws w.heap.size (kidO 0 [] 0 0 (.slice none 0 0)):=Af.out.1.below hB;have k1:Kep w ws wa1.heap.size (oneO 0 30):=Af.out.2.1.below hB;have k2:Kep w ws wa2.heap.size (oneO 0 3):=Af.out.2.2.below hB;have Ad:=hid4 k0 k1 k2 (Ai.out.trans (hB.mono Ai.out.size));have Ae:=hid2 ho Af.out.2.2.lt;obtain ⟨e0,g0⟩:=zbp k1.1;obtain ⟨a0,b0⟩:=zbp k2.1;have m1:¬ w.heap.size=wa1.heap.size:=by omega
 have m2:¬ w.heap.size=wa2.heap.size:=by omega
 have m3:¬ wa1.heap.size=wa2.heap.size:=by omega
 have m4:¬ wa1.heap.size=w.heap.size:=by omega
 have m5:¬ wa2.heap.size=w.heap.size:=by omega
 have m6:¬ wa2.heap.size=wa1.heap.size:=by omega
 have qb:=bld53 (some ⟨g,0,none⟩) ts.length cap;have x0:=ext0;have x1:=ext1;have x2:=ext2;clear k0 k1 k2 hB hlt ho;go_wp2_with fail
 have hlt:=Ab.out;have hz1:∀ b,b≠wa1.heap.size->b≠wa2.heap.size->((ws.setCell ⟨wa1.heap.size,0,none⟩ (.int .i64 0)).setCell ⟨wa2.heap.size,0,none⟩ (.int .i64 0)).heap[b]?=ws.heap[b]?:=fun b h1 h2=>(Below.heap_setCell _ _ _ _ h2).trans (Below.heap_setCell _ _ _ _ h1);have k0:Kep w ((ws.setCell ⟨wa1.heap.size,0,none⟩ (.int .i64 0)).setCell ⟨wa2.heap.size,0,none⟩ (.int .i64 0)) w.heap.size (kidO 0 [] 0 0 (.slice none 0 0)):=⟨(hz1 _ m1 m2).trans Ad.out.1.1,Nat.le_refl _⟩;have k1:Kep w ((ws.setCell ⟨wa1.heap.size,0,none⟩ (.int .i64 0)).setCell ⟨wa2.heap.size,0,none⟩ (.int .i64 0)) wa1.heap.size (oneO 0 30):=⟨(Below.heap_setCell _ _ _ _ m3).trans (zae Ad.out.2.1.1),Ad.out.2.1.2⟩;have k2:Kep w ((ws.setCell ⟨wa1.heap.size,0,none⟩ (.int .i64 0)).setCell ⟨wa2.heap.size,0,none⟩ (.int .i64 0)) wa2.heap.size (oneO 0 3):=⟨zae ((Below.heap_setCell _ _ _ _ m6).trans Ad.out.2.2.1.1),Ad.out.2.2.1.2⟩;have hbx:Below w.heap.size w ((ws.setCell ⟨wa1.heap.size,0,none⟩ (.int .i64 0)).setCell ⟨wa2.heap.size,0,none⟩ (.int .i64 0)):=(Ad.out.2.2.2.setCell (p:=⟨wa1.heap.size,0,none⟩) (Nat.le_of_lt hlt.1) _).setCell (p:=⟨wa2.heap.size,0,none⟩) (by show w.heap.size<=wa2.heap.size;omega) _;have hox:(((ws.setCell ⟨wa1.heap.size,0,none⟩ (.int .i64 0)).setCell ⟨wa2.heap.size,0,none⟩ (.int .i64 0))).ownsRow wa3.heap.size 41 4 (.slice (some ⟨g,0,none⟩) ts.length cap) ts.length (Lx.tokCells ts):=zbc Ae.out.1 (fun q e hl=>hz1 q (by have h1:=(Ae.out.1.lt q e).1;have h2:=Ae.out.2;omega) (by have h1:=(Ae.out.1.lt q e).1;have h2:=Ae.out.2;omega));have hsz:(((ws.setCell ⟨wa1.heap.size,0,none⟩ (.int .i64 0)).setCell ⟨wa2.heap.size,0,none⟩ (.int .i64 0))).heap.size=ws.heap.size:=by simp
 clear hz1 e0 g0 a0 b0;generalize ((ws.setCell ⟨wa1.heap.size,0,none⟩ (.int .i64 0)).setCell ⟨wa2.heap.size,0,none⟩ (.int .i64 0))=wx at k0 k1 k2 hbx hox hsz ⊢;have hp:w.heap.size<=wx.heap.size:=hbx.size;have hpp:=PP.made hox Ag.out.1 Ag.out.2.2;have hbp:Below w.heap.size w (wx.alloc (.cells #[.slice (some ⟨g,0,none⟩) ts.length cap,.int .i64 0,.int .i64 0,.bool false] 53)):=hbx.alloc hbx.size _;have hba:zbv wx.heap.size (wx.alloc (.cells #[.slice (some ⟨g,0,none⟩) ts.length cap,.int .i64 0,.int .i64 0,.bool false] 53)):=by
  obtain ⟨t,fr,hg⟩:=HG.out.below hbp;have h0:0<w.heap.size:=by obtain ⟨t,fr,hg⟩:=HG.out;exact zej hg
  exact ⟨by omega,t,fr,hg⟩
 have Ah:Hid (Calls Tryz.prog 26 #[.pointer (some ⟨wx.heap.size,0,none⟩)] (wx.alloc (.cells #[.slice (some ⟨g,0,none⟩) ts.length cap,.int .i64 0,.int .i64 0,.bool false] 53)) (zai wx.heap.size g cap ts 0 (treeIs (wx.alloc (.cells #[.slice (some ⟨g,0,none⟩) ts.length cap,.int .i64 0,.int .i64 0,.bool false] 53)).heap.size) R (wx.alloc (.cells #[.slice (some ⟨g,0,none⟩) ts.length cap,.int .i64 0,.int .i64 0,.bool false] 53)))):=by
  have hx:=source_any wx.heap.size g cap ts Ag.out.2.1 0 rfl 0 false (wx.alloc (.cells #[.slice (some ⟨g,0,none⟩) ts.length cap,.int .i64 0,.int .i64 0,.bool false] 53)) hpp hba;rw [<- HR.out];exact hx
 rw [hsz] at Ah;obtain ⟨wp,hwp⟩:∃ x,wx.alloc (.cells #[.slice (some ⟨g,0,none⟩) ts.length cap,.int .i64 0,.int .i64 0,.bool false] 53)=x:=⟨_,rfl⟩;rw [hwp] at Ah ⊢;have Aj:Hid (Kep w wp w.heap.size (kidO 0 [] 0 0 (.slice none 0 0))∧Kep w wp wa1.heap.size (oneO 0 30)∧Kep w wp wa2.heap.size (oneO 0 3)∧Below w.heap.size w wp∧wa2.heap.size<ws.heap.size∧w.heap.size<wp.heap.size):=by
  rw [<- hwp];exact ⟨k0.alloc _,k1.alloc _,k2.alloc _,hbp,hsz ▸ k2.lt,by have:=k0.lt;simp;omega⟩
 clear k0 k1 k2 hbx hox hsz hp hpp hbp hba hwp hlt qb;refine Ah.out.mono ?_;cases R with
 | no why at_ =>
  rintro e w9 ⟨rfl,hS⟩;have hkp:=Aj.out;have hlt:=Ab.out;have k0:w9.heap[w.heap.size]?=some (kidO 0 [] 0 0 (.slice none 0 0)):=hS.blk hkp.1.1 (by omega);have k1:w9.heap[wa1.heap.size]?=some (oneO 0 30):=hS.blk hkp.2.1.1 (by omega);have k2:w9.heap[wa2.heap.size]?=some (oneO 0 3):=hS.blk hkp.2.2.1.1 (by omega);have Aa:=hid (Sole.to_below hkp.2.2.2.1 (by omega) hS);have Ac:=hid3 k0 k1 k2;clear hS k0 k1 k2 hkp hlt;go_wp2;refine leaves_cons (f:=25) (args:=#[.pointer (some ⟨w.heap.size,0,none⟩),.pointer (some ⟨wa1.heap.size,0,none⟩),.pointer (some ⟨wa2.heap.size,0,none⟩)]) (by simp) (by simp [go_sem]) ?_;refine (catch_fault w.heap.size wa1.heap.size wa2.heap.size why at_ [] w9 0 [] 0 0 (.slice none 0 0) 0 0 Ac.out.1 Ac.out.2.1 Ac.out.2.2 m1 m2 m3).mono ?_;rintro e u' wz ⟨rfl,rfl,⟨hz0,hz1,hz2⟩,hf,h1,h2,h3,h4⟩;have hlt:=Ab.out;have hbz:Below w.heap.size w wz:=⟨h1.trans Aa.out.os,h2.trans Aa.out.tape,h3.trans Aa.out.output,Nat.le_trans Aa.out.size h4,fun b hb=>(hf b (Nat.lt_of_lt_of_le hb Aa.out.size) (by omega) (by omega) (by omega)).trans (Aa.out.block b hb)⟩;obtain ⟨q0,q1,q2,q3,q4⟩:=(zaa hz0).1;have q5:=(zbp hz1).1;have q6:=(zbp hz2).1;clear hf h1 h2 h3 h4 hz0 hz1 hz2 x0 x1 x2 hmf;simp [Leaves,settle,results,Tryz.results11,go_sem,q0,q1,q2,q3,q4,q5,q6]
  exact ⟨rfl,hbz⟩
 | ok t st =>
  rintro e w9 ⟨v,i,full,rfl,hT,rfl,hP,hS⟩;obtain ⟨k8,n8,m8,a8,ks8⟩:=t;obtain ⟨sl,rfl,hL⟩:=treeAt_node.1 hT;obtain ⟨o8,l8,c8,rfl⟩:=hL.shape;have hkp:=Aj.out;have hlt:=Ab.out;have k0:Kep w w9 w.heap.size (kidO 0 [] 0 0 (.slice none 0 0)):=⟨hS.blk hkp.1.1 (by omega),Nat.le_refl _⟩;have k1:w9.heap[wa1.heap.size]?=some (oneO 0 30):=hS.blk hkp.2.1.1 (by omega);have k2:w9.heap[wa2.heap.size]?=some (oneO 0 3):=hS.blk hkp.2.2.1.1 (by omega);have Aa:=hid (Sole.to_below hkp.2.2.2.1 (by omega) hS);have Ac:=hid3 k0.1 k1 k2;have Ak:Hid (ListAt (fun b=>wa2.heap.size<b) w9 ks8 (.slice o8 l8 c8)):=hL.weaken (fun b h=>by have h1:wp.heap.size<=b:=h;have h2:=hkp.2.2.1.lt;omega);obtain ⟨⟨z0,z1,z2,z3,z4⟩,⟨y0,y1,y2,y3,y4⟩⟩:=zaa k0.1;obtain ⟨e0,g0⟩:=zbp k1;obtain ⟨a0,b0⟩:=zbp k2;clear hS hP hT hL k0 k1 k2 hkp hlt;unfold kidV;go_wp2;obtain ⟨u,hu5⟩:∃ u,((((w9.setCell ⟨w.heap.size,0,none⟩ (.int .i64 k8)).setCell ⟨w.heap.size,1,none⟩ (.string ⟨n8.toArray⟩)).setCell ⟨w.heap.size,2,none⟩ (.int .i64 m8)).setCell ⟨w.heap.size,3,none⟩ (.int .i64 a8)).setCell ⟨w.heap.size,4,none⟩ (.slice o8 l8 c8)=u:=⟨_,rfl⟩;have hut:u.heap[w.heap.size]?=some (kidO k8 n8 m8 a8 (.slice o8 l8 c8)):=by rw [<- hu5];exact zc5 Ac.out.1
  have hub:∀ b,b≠w.heap.size->u.heap[b]?=w9.heap[b]?:=by rw [<- hu5];exact zbf w9 w.heap.size _ _ _ _ _
  have hbu:Below w.heap.size w u:=by rw [<- hu5];exact Aa.out.trans (zan w9 w.heap.size w.heap.size _ _ _ _ _ (Nat.le_refl _))
  rw [hu5];have hlt:=Ab.out;have hz0:((u.setCell ⟨wa1.heap.size,0,none⟩ (.int .i64 0)).setCell ⟨wa2.heap.size,0,none⟩ (.int .i64 0)).heap[w.heap.size]?=some (kidO k8 n8 m8 a8 (.slice o8 l8 c8)):=(Below.heap_setCell _ _ _ _ m2).trans ((Below.heap_setCell _ _ _ _ m1).trans hut);have hz1:((u.setCell ⟨wa1.heap.size,0,none⟩ (.int .i64 0)).setCell ⟨wa2.heap.size,0,none⟩ (.int .i64 0)).heap[wa1.heap.size]?=some (oneO 0 30):=(Below.heap_setCell _ _ _ _ m3).trans (zae ((hub _ m4).trans Ac.out.2.1));have hz2:((u.setCell ⟨wa1.heap.size,0,none⟩ (.int .i64 0)).setCell ⟨wa2.heap.size,0,none⟩ (.int .i64 0)).heap[wa2.heap.size]?=some (oneO 0 3):=zae ((Below.heap_setCell _ _ _ _ m6).trans ((hub _ m5).trans Ac.out.2.2));have hbz:Below w.heap.size w ((u.setCell ⟨wa1.heap.size,0,none⟩ (.int .i64 0)).setCell ⟨wa2.heap.size,0,none⟩ (.int .i64 0)):=(hbu.setCell (p:=⟨wa1.heap.size,0,none⟩) (Nat.le_of_lt hlt.1) _).setCell (p:=⟨wa2.heap.size,0,none⟩) (by show w.heap.size<=wa2.heap.size;omega) _;have hLz:ListAt (fun b=>wa2.heap.size<b) ((u.setCell ⟨wa1.heap.size,0,none⟩ (.int .i64 0)).setCell ⟨wa2.heap.size,0,none⟩ (.int .i64 0)) ks8 (.slice o8 l8 c8):=ListAt.frame (fun _ h=>h) (fun b h _=>(Below.heap_setCell _ _ _ _ (show b≠wa2.heap.size by omega)).trans ((Below.heap_setCell _ _ _ _ (show b≠wa1.heap.size by omega)).trans (hub b (by omega)))) Ak.out;generalize ((u.setCell ⟨wa1.heap.size,0,none⟩ (.int .i64 0)).setCell ⟨wa2.heap.size,0,none⟩ (.int .i64 0))=wz at hz0 hz1 hz2 hbz hLz ⊢;have HZ:Hid (wz.heap[w.heap.size]?=some (kidO k8 n8 m8 a8 (.slice o8 l8 c8))∧wz.heap[wa1.heap.size]?=some (oneO 0 30)∧wz.heap[wa2.heap.size]?=some (oneO 0 3)∧Below w.heap.size w wz∧ListAt (fun b=>wa2.heap.size<b) wz ks8 (.slice o8 l8 c8)):=⟨hz0,hz1,hz2,hbz,hLz⟩;clear hut hub hbu hz0 hz1 hz2 hbz hLz hu5 z0 z1 z2 z3 z4 y0 y1 y2 y3 y4 e0 g0 a0 b0 hlt;refine leaves_cons (f:=25) (args:=#[.pointer (some ⟨w.heap.size,0,none⟩),.pointer (some ⟨wa1.heap.size,0,none⟩),.pointer (some ⟨wa2.heap.size,0,none⟩)]) (by simp) (by simp [go_sem]) ?_;refine (catch_idle w.heap.size wa1.heap.size wa2.heap.size wz).mono ?_;rintro e u' wy ⟨rfl,rfl,hby⟩;have hlt:=Ab.out;have hbw:Below w.heap.size w wy:=HZ.out.2.2.2.1.trans (hby.mono HZ.out.2.2.2.1.size);obtain ⟨q0,q1,q2,q3,q4⟩:=(zaa (zaj hby HZ.out.1)).1;have q5:=(zbp (zaj hby HZ.out.2.1)).1;have q6:=(zbp (zaj hby HZ.out.2.2.1)).1;have hty:treeIs w.heap.size (.node k8 n8 m8 a8 ks8) wy (kidV k8 n8 m8 a8 (.slice o8 l8 c8)):=treeAt_node.2 ⟨_,rfl,(HZ.out.2.2.2.2.below hby).weaken (fun b h=>by show w.heap.size<=b;omega)⟩;clear hby x0 x1 x2 hmf;simp [Leaves,settle,results,Tryz.results11,go_sem,q0,q1,q2,q3,q4,q5,q6]
  exact ⟨_,rfl,hty,hbw⟩
theorem zi1 {l:List UInt8} {e:Int} {i:Nat} (h:ze9 l=.err e i):e≠0:=by
 rcases Nat.lt_or_ge 16000 l.length with h1|h1
 · unfold ze9 at h;rw [if_pos h1] at h;cases h;decide
 · obtain ⟨us,_,_,hs⟩:=fault_reach h h1;rcases zll hs with rfl|rfl|rfl|rfl <;> decide
theorem zla (l:List UInt8) (w:World) (hG:zi6 w):Calls Tryz.prog 11 #[.string ⟨l.toArray⟩] w (ParsePost (zeo l) w):=by
 unfold zeo;cases h:ze9 l with
 | err r i =>
  refine parse_lex l r i (zi1 h) w (fun w1=>?_);have hx:=Lx.scan_any l w1;rw [h] at hx;exact hx
 | ok ts =>
  obtain ⟨_,h1,hE,h0⟩:=scan_ok h
  have hx:=parse_toks l ts h1 hE h0 w hG (fun w1=>by
   have hx:=Lx.scan_any l w1;rw [h] at hx
   exact hx)
  show Calls _ _ _ _ (ParsePost (match zcn 102 [] ⟨ts,false⟩ with|.ok ks _=>.ok (.node 1 [] 0 0 ks)|.no e i=>.err e i) w);cases hs:zcn 102 [] ⟨ts,false⟩ with
  | ok ks st=>rw [hs] at hx;exact hx
  | no e i=>rw [hs] at hx;exact hx
end Go.Proofs.YtighggeokiahfaaGreatDoor
namespace Go.Proofs.YtighggeokiahfaaGreatDoor


end Go.Proofs.YtighggeokiahfaaGreatDoor
namespace Go.Proofs.YtighggeokiahfaaGreatDoor.Lx
open Go.RowKit
structure TokAt (w:World) (g off:Nat) (ts:List Tok):Prop where
 c0:∀ i t,ts[i]?=some t->w.cell? ⟨g,off+i*4,none⟩=some (.int .i64 t.kind)
 c1:∀ i t,ts[i]?=some t->w.cell? ⟨g,off+i*4+1,none⟩=some (S t.text)
 c2:∀ i t,ts[i]?=some t->w.cell? ⟨g,off+i*4+2,none⟩=some (.int .i64 t.num)
 c3:∀ i t,ts[i]?=some t->w.cell? ⟨g,off+i*4+3,none⟩=some (.int .i64 t.at_)
def isNameP (l:List UInt8):Bool:=decide (0<l.length)&&(decide (l.length<=32)&&(letB (l.getD 0 0)&&(l.all runB&&!za6 l)))
theorem isName_any (l:List UInt8) (w:World) (hl:(l.length:Int)<=9223372036854775807):Calls Tryz.prog 96 #[S l] w fun e w'=>e=.returned (.bool (isNameP l))∧w'=w:=by
 obtain ⟨R,hR⟩:∃ R,isNameP l=R:=⟨_,rfl⟩;rw [hR];unfold isNameP at hR;by_cases h0:l.length=0
 · rw [show decide (0<l.length)=false from decide_eq_false (by omega),Bool.false_and] at hR;subst hR;obtain rfl:l=[]:=List.length_eq_zero_iff.1 h0;clear h0;go_enter Tryz.func96,Tryz.ntmps96
   go_wp2;go_ret;exact ⟨rfl,rfl⟩
 · have hn0:((l.length:Int)==0)=false:=beq_eq_false_iff_ne.2 (by omega);have hlt0:0<l.length:=by omega
   have h0' : (0:Int)<l.length:=by omega
   rw [decide_eq_true hlt0,Bool.true_and] at hR;by_cases h32:l.length<=32
   · rw [decide_eq_true h32,Bool.true_and] at hR;have h32' : decide ((32:Int)<l.length)=false:=decide_eq_false (by omega);have hc0:({ data:=l.toArray } : ByteArray)[0]'hlt0=l.getD 0 0:=(getD_lt hlt0).symm;have H1:Hid (∀ w,Calls Tryz.prog 92 #[.int .u8 ((l.getD 0 0).toNat:Int)] w fun e w'=>e=.returned (.bool (letB (l.getD 0 0)))∧w'=w):=fun w=>zhg _ w;have HW:Hid (∀ w,Calls Tryz.prog 95 #[S l] w fun e w'=>e=.returned (.bool (za6 l))∧w'=w):=fun w=>zm4 l w;generalize letB (l.getD 0 0)=b at *;generalize l.getD 0 0=c at *;cases b
     · rw [Bool.false_and] at hR;subst hR;(go_enter Tryz.func96,Tryz.ntmps96);(go_wp2_with (go_at_call 92;refine (H1.out _).mono ?_;rintro e w' ⟨rfl,rfl⟩));go_ret;exact ⟨rfl,rfl⟩
     · rw [Bool.true_and] at hR;have HR:=hid hR;clear hR h0;(go_enter Tryz.func96,Tryz.ntmps96);(go_wp2_with (go_at_call 92;refine (H1.out _).mono ?_;rintro e w' ⟨rfl,rfl⟩));go_loop [20] (fun i=>∃ k:Nat,i=.int .i64 k∧k<=l.length∧Hid (∀ j,j<k->runB (l.getD j 0)=true)) (fun i=>l.length - (intOf i).toNat)
       case atStart=>exact ⟨0,rfl,Nat.zero_le _,fun j h2=>by omega⟩
       case round =>
        obtain ⟨k,rfl,hk,HJ⟩:=hrel;by_cases hlt:k<l.length
        · have hk' : (k:Int)<l.length:=(by omega);have hcs:({ data:=l.toArray } : ByteArray)[k]'hlt=l.getD k 0:=(getD_lt hlt).symm;have HC:Hid (∀ w,Calls Tryz.prog 90 #[.int .u8 ((l.getD k 0).toNat:Int)] w fun e w'=>e=.returned (.bool (runB (l.getD k 0)))∧w'=w):=fun w=>isRun_any _ w;have HV:Hid (runB (l.getD k 0)=runB (l.getD k 0)):=rfl;cases hv:runB (l.getD k 0)
          · have HF:Hid (R=false):=by
             show _=_;rw [<- HR.out];cases ha:l.all runB
             · rfl
             · have:=List.all_eq_true.1 ha _ (getD_mem hlt);rw [hv] at this;cases this
            rw [hv] at HC;clear hv HV;generalize l.getD k 0=d at *;(go_wp2_with (go_at_call 90;refine (HC.out _).mono ?_;rintro e w' ⟨rfl,rfl⟩));go_ret;exact ⟨by rw [HF.out];rfl,rfl⟩
          · have Aa:Hid (∀ j,j<k+1->runB (l.getD j 0)=true):=fun j h2=>by
             rcases Nat.lt_or_ge j k with h3|h3
             · exact HJ.out j h3
             · obtain rfl:j=k:=(by omega);exact hv
            rw [hv] at HC;clear hv HV;generalize l.getD k 0=d at *;(go_wp2_with (go_at_call 90;refine (HC.out _).mono ?_;rintro e w' ⟨rfl,rfl⟩));go_round
            case rel=>exact ⟨k+1,by go_num,by omega,Aa.out⟩
            case measure=>simp [intOf];omega
        · obtain rfl:k=l.length:=(by omega);have HF:Hid (R=!za6 l):=by
           show _=_;rw [<- HR.out,List.all_eq_true.2 fun c hc=>?_]
           · rfl
           · obtain ⟨j,hj,rfl⟩:=List.getElem_of_mem hc;rw [<- getD_lt hj];exact HJ.out j hj
          generalize za6 l=b at *;(go_wp2_with (go_at_call 95;refine (HW.out _).mono ?_;rintro e w' ⟨rfl,rfl⟩));go_ret;exact ⟨by rw [HF.out];rfl,rfl⟩
   · rw [show decide (l.length<=32)=false from decide_eq_false h32,Bool.false_and] at hR;subst hR;have h32' : decide ((32:Int)<l.length)=true:=decide_eq_true (by omega);(go_enter Tryz.func96,Tryz.ntmps96);go_wp2;go_ret;exact ⟨rfl,rfl⟩
end Go.Proofs.YtighggeokiahfaaGreatDoor.Lx
namespace Go.Proofs.YtighggeokiahfaaGreatDoor
open Go.RowKit Go.Lib
theorem info5_ex:∃ i:TypeInfo,Tryz.prog.info? 5=some i∧i.zero=some (.int .u8 0)∧i.size=1∧i.bytes=1 :=
 ⟨(Tryz.prog.info? 5).getD default,by kernel_rfl,by kernel_rfl,by kernel_rfl,by kernel_rfl⟩
theorem append_at (base:Nat) (v:Value) (n:Nat) (xs:List Value) (s:ByteArray) (w:World) (ty:TypeId) (hown:w.ownsRow base 5 1 v n xs) (hb:n+s.size<=140737488355328) (hbase:base<=w.heap.size) :
 ∃ v' w',(Builtin.append_ #[66,9] ty #[v,.string s]).run Tryz.prog w=.ok v' w'∧w'.ownsRow base 5 1 v' (n+s.size) (xs++strCells s)∧w.grownBy w' v.ownBlock∧(v'.ownBlock=v.ownBlock∨v'.ownBlock=some w.heap.size):=by
 have h63:n+s.size<=maxLen:=Nat.le_trans hb (by decide);obtain ⟨info5,info5_is,info5_zero,info5_size,info5_bytes⟩:=info5_ex;obtain ⟨v',w',hr,h1,h2,h3⟩:=run_append_own_string (P:=Tryz.prog) w base 66 9 ty 5 info5 Tryz.underlying66 Tryz.underlying9 info5_is info5_zero info5_size info5_bytes v n xs hown s h63 hb hbase;refine ⟨v',w',hr,h1,h2,?_⟩;have hxl:xs.length=n:=by simpa using hown.1
 rcases hown.2 with ⟨rfl,rfl⟩|⟨g,cap,cur,rfl,hbg,hg,hnc,hcm,hcs,htake⟩
 · by_cases hm:s.size=0
   · (left);rw [h3.2 ⟨rfl,hm⟩]
   · (right);have hr2:=run_append_nil_string (P:=Tryz.prog) w 66 9 ty 5 info5 (.int .u8 0) Tryz.underlying66 Tryz.underlying9 info5_is info5_zero s (by omega) (by omega) (by rw [info5_bytes];omega);rw [hr2] at hr;cases hr;rfl
 · by_cases hroom:n+s.size<=cap
   · (left);have hr2:=run_append_room_string (P:=Tryz.prog) w 66 9 ty 5 info5 Tryz.underlying66 Tryz.underlying9 info5_is info5_size g n cap cur hg s hroom (by simp at hcs;omega);rw [hr2] at hr;cases hr;rfl
   · (right);have holds:∀ j u,xs[j]?=some u->w.cell? ((⟨g,0,none⟩:Addr).add j)=some u:=hown.cells (g:=g) rfl;have hr2:=run_append_grow_string (P:=Tryz.prog) w 66 9 ty 5 info5 (.int .u8 0) Tryz.underlying66 Tryz.underlying9 info5_is info5_zero ⟨g,0,none⟩ n cap xs (by rw [info5_size];simpa using hxl) holds s (by omega) (by omega) (by rw [info5_bytes];exact growslice_fits (by omega) (by omega));rw [hr2] at hr;cases hr;rfl
theorem zby {ops:Array Oper} {rest:List Oper} {o:Oper} {a:Act} {Q:Exit->Act->World->Prop} {w:World} (hgd:o.guard=none) (sl x:Operand)
 (ho:o.op=.call { callee:=.builtin .append,args:=#[sl,x],argTypes:=#[66,9] })
 (base:Nat) (v:Value) (n:Nat) (xs:List Value) (hs:a.eval sl=v) (hown:w.ownsRow base 5 1 v n xs) (s:ByteArray) (hx:a.eval x=.string s)
 (hb:n+s.size<=140737488355328) (hbase:base<=w.heap.size)
 (h:∀ v' w',w'.ownsRow base 5 1 v' (n+s.size) (xs++strCells s)->w.grownBy w' v.ownBlock->(v'.ownBlock=v.ownBlock∨v'.ownBlock=some w.heap.size)->wpList Tryz.prog ops Q rest (a.put o.dst v') w'):wpList Tryz.prog ops Q (o::rest) a w:=by
 refine wpList_plain hgd fun K hK=>?_;obtain ⟨v',w',hr,h2,h3,h4⟩:=append_at base v n xs s w o.type hown hb hbase;unfold Oper.wp execOp;simp only [ho,resolve,invoke,builtin,Sem.run_bind,Sem.run_pure,Result.andThen_ok,List.map_toArray,List.map_cons,List.map_nil,hs,hx,hr];exact hK _ _ (h v' w' h2 h3 h4)
theorem bld50 (w:World):(Instr.build 50 #[(0,.int .i64 43)]).run Tryz.prog w=.ok (.agg #[.int .i64 43,.int .i64 0]) w:=by kernel_rfl
def zaw:Ending:=.panicked [{ v:=.iface 50 (.agg #[.int .i64 43,.int .i64 0]),recovered:=false }]
theorem zbl (w:World):Calls Tryz.prog 58 #[.bool true] w fun e w'=>e=.returned (.tuple #[])∧w'=w:=by
 go_enter Tryz.func58,Tryz.ntmps58
 go_wp2;first|go_end0|refine bodyPost_ret (results_none rfl _ _ _) rfl ?_
 exact ⟨rfl,rfl⟩
theorem zba (w:World):Calls Tryz.prog 58 #[.bool false] w fun e w'=>e=zaw∧w'=w:=by
 have q:=bld50;go_enter Tryz.func58,Tryz.ntmps58
 go_wp2;exact ⟨rfl,rfl,rfl⟩
theorem ze3 (c:Int) (w:World):Calls Tryz.prog 102 #[.int .u8 c] w fun e w'=>e=.returned (.bool (runP c))∧w'=w:=by
 obtain ⟨R,hR⟩:∃ R,runP c=R:=⟨_,rfl⟩;rw [hR];have HR:=hid hR;clear hR;rcases (show c<48∨(48<=c∧c<=57)∨(57<c∧c<65)∨(65<=c∧c<=90)∨(90<c∧c<95)∨c=95∨c=96∨(97<=c∧c<=122)∨122<c by omega) with h|⟨h,h'⟩|⟨h,h'⟩|⟨h,h'⟩|⟨h,h'⟩|h|h|⟨h,h'⟩|h;all_goals (
  go_enter Tryz.func102,Tryz.ntmps102
  go_wp2;go_ret;rw [<- HR.out];unfold runP ze2 zg7;refine ⟨congrArg Ending.returned (congrArg Value.bool ?_),rfl⟩;rw [Bool.eq_iff_iff];simp
  omega)
structure PR (w:World) (p:Nat) (txt:List UInt8) (d:Int) (v:Value):Prop where
 c0:w.cell? ⟨p,0,none⟩=some v
 c1:w.cell? ⟨p,1,none⟩=some (.int .i64 d)
 f0:w.frozen? ⟨p,0,none⟩=false
 f1:w.frozen? ⟨p,1,none⟩=false
 own:w.ownsRow (p+1) 5 1 v txt.length (txt.map fun b=>Value.int .u8 b.toNat)
theorem PR.lt {w:World} {p:Nat} {txt:List UInt8} {d:Int} {v:Value} (h:PR w p txt d v):p<w.heap.size:=zif h.c0
theorem PR.below {w w' : World} {p:Nat} {txt:List UInt8} {d:Int} {v:Value} (h:PR w p txt d v) (hB:Below w.heap.size w w'):PR w' p txt d v :=
 ⟨(zac (hB.block p h.lt) 0).1.trans h.c0,(zac (hB.block p h.lt) 1).1.trans h.c1,(zac (hB.block p h.lt) 0).2.trans h.f0,(zac (hB.block p h.lt) 1).2.trans h.f1,zbc h.own (fun g _ hl=>hB.block g hl)⟩
def layP:List (List UInt8)->List UInt8->Option (List UInt8)
 | [],txt=>some txt
 | t::ts,txt =>
  if ((if (decide (0<txt.length)&&runB (txt.getLastD 0)&&runB (t.getD 0 0)) then txt++[32] else txt)++t).length<=16000 then layP ts ((if (decide (0<txt.length)&&runB (txt.getLastD 0)&&runB (t.getD 0 0)) then txt++[32] else txt)++t) else none
def bts (l:List UInt8):List Value:=l.map fun b=>Value.int .u8 b.toNat
theorem zfy (a b:List UInt8):bts (a++b)=bts a++bts b:=by simp [bts]
theorem PR.laid {w u w2:World} {p:Nat} {txt more:List UInt8} {d:Int} {v v2:Value} (h:PR w p txt d v) (hB:Below w.heap.size w u) (hg:u.grownBy w2 v.ownBlock) (ho:w2.ownsRow (p+1) 5 1 v2 (txt++more).length (bts (txt++more))) (hat:v2.ownBlock=v.ownBlock∨v2.ownBlock=some u.heap.size) :
 (w2.cell? ⟨p,0,none⟩=some v∧w2.frozen? ⟨p,0,none⟩=false)∧PR (w2.setCell ⟨p,0,none⟩ v2) p (txt++more) d v2∧Lx.Kept p v v2 w (w2.setCell ⟨p,0,none⟩ v2):=by
 have hu:=h.below hB;have hne:some p≠v.ownBlock:=fun e=>by have:=(hu.own.lt p e.symm).1;omega
 have hne2:v2.ownBlock≠some p:=fun e=>by have:=(ho.lt p e).1;omega
 have hb:w2.heap[p]?=u.heap[p]?:=hg.block p hu.lt hne;have hsc:∀ (k:Nat),k≠p->(w2.setCell ⟨p,0,none⟩ v2).heap[k]?=w2.heap[k]?:=fun k hk=>Below.heap_setCell _ _ _ k hk;have hgs:w2.grownBy (w2.setCell ⟨p,0,none⟩ v2) (some p):=⟨rfl,rfl,rfl,by simp,fun k _ hk=>hsc k (fun e=>hk (by rw [e]))⟩;refine ⟨⟨(zac hb 0).1.trans hu.c0,(zac hb 0).2.trans hu.f0⟩,⟨?_,?_,?_,?_,?_⟩,⟨?_,?_,?_,?_,?_,?_⟩⟩
 · exact World.cell?_setCell_same _ _ _ (by rw [(zac hb 0).1];exact hu.c0)
 · rw [World.cell?_setCell_other _ _ _ _ (by simp),(zac hb 1).1];exact hu.c1
 · rw [World.frozen?_setCell,(zac hb 0).2];exact hu.f0
 · rw [World.frozen?_setCell,(zac hb 1).2];exact hu.f1
 · exact ho.kept hgs (.inr hne2)
 · exact hg.os.trans hB.os
 · exact hg.tape.trans hB.tape
 · exact hg.output.trans hB.output
 · exact Nat.le_trans hB.size (Nat.le_trans hg.size hgs.size)
 · intro b hb1 hb2 hb3;rw [hsc b hb2,hg.block b (Nat.lt_of_lt_of_le hb1 hB.size) hb3];exact hB.block b hb1
 · rcases hat with e|e
   · exact .inl e
   · exact .inr ⟨_,hB.size,e⟩
theorem idx0 (t:List UInt8) (h:t≠[]) (w:World):(Instr.index 9 (.string ⟨t.toArray⟩) (.int .i64 0)).run Tryz.prog w=.ok (.int .u8 (t.getD 0 0).toNat) w:=by
 cases t with
 | nil=>exact absurd rfl h
 | cons x r=>kernel_rfl
def zh2 (txt t:List UInt8):Bool:=decide (0<txt.length)&&runB (txt.getLastD 0)&&runB (t.getD 0 0)
def oneP (txt t:List UInt8):List UInt8:=(if zh2 txt t then txt++[32] else txt)++t
theorem layP_cons (t:List UInt8) (ts:List (List UInt8)) (txt:List UInt8):layP (t::ts) txt=if (oneP txt t).length<=16000 then layP ts (oneP txt t) else none:=by rw [layP];rfl
theorem zlh (p b c:Nat) (ts:List (List UInt8)) (hts:∀ t∈ts,t≠[]∧t.length<=64) (hn:ts.length<=3) (txt0:List UInt8) (d:Int) (v0:Value) (w:World) (h:PR w p txt0 d v0) (hx:txt0.length<=16000) (hb:b≠p) (hbl:b<w.heap.size) (hbv:some b≠v0.ownBlock)
 (hw:∀ j (hj:j<ts.length),w.cell? ⟨b,j,none⟩=some (.string ⟨(ts[j]).toArray⟩)) :
 Calls Tryz.prog 61 #[.pointer (some ⟨p,0,none⟩),.slice (some ⟨b,0,none⟩) ts.length c] w fun e w'=>∃ v',Lx.Kept p v0 v' w w'∧((∃ x,layP ts txt0=some x∧e=.returned (.tuple #[])∧PR w' p x d v')∨(layP ts txt0=none∧e=zaw)):=by
 obtain ⟨R,hR⟩:∃ R,layP ts txt0=R:=⟨_,rfl⟩;rw [hR];have HR:=hid hR;have Aw:=hid hts;have H:=hid2 h hx;have HB:=hid3 hb hbl hbv;have HW:=hid hw;obtain ⟨TN,hTN⟩:∃ x,ts.length=x:=⟨_,rfl⟩;have Aq:Hid (ts.length=TN∧TN<=3):=⟨hTN,by omega⟩;rw [hTN];clear hR hts h hx hb hbl hbv hw hn hTN;go_enter Tryz.func61,Tryz.ntmps61
 go_wp2;go_loopw [9] (fun i wr=>∃ (k:Nat) (txt:List UInt8) (v:Value),i=.int .i64 k∧k<=TN∧Hid (PR wr p txt d v∧txt.length<=16000)∧Hid (Lx.Kept p v0 v w wr)∧Hid (layP (ts.drop k) txt=R)) (fun i _=>TN - (RowKit.intOf i).toNat)
 case atStart=>exact ⟨0,txt0,v0,rfl,by omega,H,Lx.Kept.refl p v0 w,HR⟩
 case round =>
  obtain ⟨k,txt,v,rfl,hk,Ao,HK,HL⟩:=hrel;by_cases hlt:k<TN
  · have hlt' : (k:Int)<TN:=(by omega);have hk3:(k:Int)<=3:=(by have:=Aq.out;omega);have hkl:k<ts.length:=(by have:=Aq.out;omega);obtain ⟨t,ht⟩:∃ t,ts[k]=t:=⟨_,rfl⟩;have hc:wr.cell? ⟨b,k,none⟩=some (.string ⟨t.toArray⟩):=by
     rw [(zac (HK.out.block b HB.out.2.1 HB.out.1 HB.out.2.2) k).1,HW.out k hkl,ht]
    have Aj:Hid (t≠[]∧t.length<=64):=(by show _∧_;rw [<- ht];exact Aw.out _ (List.getElem_mem hkl));have HD:Hid (ts.drop k=t::ts.drop (k+1)):=(by show _=_;rw [List.drop_eq_getElem_cons hkl,ht]);have Al:Hid (R=if (oneP txt t).length<=16000 then layP (ts.drop (k+1)) (oneP txt t) else none):=by
     show _=_;rw [<- HL.out,HD.out,layP_cons]
    have Ap:=hid hlt;clear ht hkl;obtain ⟨ov,cv,hvs⟩:=Lx.own_form Ao.out.1.own;obtain ⟨n,hn⟩:∃ n,txt.length=n:=⟨_,rfl⟩;rw [hn] at hvs;subst hvs;have hn16:n<=16000:=hn ▸ Ao.out.2;have Ac:=hid Ao.out.1;have c0:=Ac.out.c0;have f0:=Ac.out.f0;have Ad:Hid (wr.ownsRow (p+1) 5 1 (.slice ov n cv) n (bts txt)):=by
     have:=Ac.out.own;rw [hn] at this;exact this
    have Ab:Hid (txt.length=n∧n<=16001):=⟨hn,by omega⟩;clear hn;by_cases hn0:n=0
    · have Ae:Hid (oneP txt t=txt++t):=by
       show _=_;unfold oneP zh2;rw [if_neg];have:=Ab.out.1;(simp);intro h;omega
      have hgt:¬ (0:Int)<n:=(by omega);have hgd:decide ((0:Int)<n)=false:=(by simp;omega);clear hn0;by_cases hfit:n+t.length<=16000
      · have Aa:=hid hfit;have hsz:(⟨t.toArray⟩:ByteArray).size=t.length:=rfl;have hfi:(n:Int)+(t.length:Int)<=16000:=(by omega);have hfd:decide ((n:Int)+(t.length:Int)<=16000)=true:=(by simp;omega);clear hfit;(go_wp2_with (first|(at_builtin;refine zby rfl _ _ rfl (p+1) (.slice ov n cv) n (bts txt) rfl Ad.out ⟨t.toArray⟩ rfl (by have h1:=Aj.out.2;have h2:=Ab.out.2;have e:(⟨t.toArray⟩:ByteArray).size=t.length:=rfl;omega) (by have:=Ac.out.lt;omega) ?_;intro v2 w2 ho hg hat;obtain ⟨o2,c2,rfl⟩:=Lx.own_form ho;have hlaid:=PR.laid (more:=t) Ac.out (Below.refl _ _) hg (by rw [zfy,List.length_append,Ab.out.1];exact ho) hat;have q2:=hlaid.1.1;have f2:=hlaid.1.2;have Ag:Hid (PR (w2.setCell ⟨p,0,none⟩ (.slice o2 (n+(⟨t.toArray⟩:ByteArray).size) c2)) p (txt++t) d (.slice o2 (n+(⟨t.toArray⟩:ByteArray).size) c2)∧Lx.Kept p (.slice ov n cv) (.slice o2 (n+(⟨t.toArray⟩:ByteArray).size) c2) wr (w2.setCell ⟨p,0,none⟩ (.slice o2 (n+(⟨t.toArray⟩:ByteArray).size) c2))):=hlaid.2;clear ho hg hat hlaid)));refine (zbl _).mono ?_;rintro e w8 ⟨rfl,rfl⟩;have Ah:Hid (layP (ts.drop (k+1)) (txt++t)=R):=by
         show _=_;rw [Al.out,Ae.out,if_pos (by rw [List.length_append,Ab.out.1];exact Aa.out)]
        have An:Hid (PR (w2.setCell ⟨p,0,none⟩ (.slice o2 (n+t.length) c2)) p (txt++t) d (.slice o2 (n+t.length) c2)∧(txt++t).length<=16000):=⟨Ag.out.1,by rw [List.length_append,Ab.out.1];exact Aa.out⟩;have Ai:=hid (HK.out.trans Ag.out.2);go_wp2;go_roundw
        case rel=>exact ⟨k+1,txt++t,(.slice o2 (n+t.length) c2),by go_num,Ap.out,An,Ai,Ah⟩
        case measure=>simp [RowKit.intOf];omega
      · have Aa:=hid hfit;have hsz:(⟨t.toArray⟩:ByteArray).size=t.length:=rfl;have hfi:¬ (n:Int)+(t.length:Int)<=16000:=(by omega);have hfd:decide ((n:Int)+(t.length:Int)<=16000)=false:=(by simp;omega);clear hfit;(go_wp2_with (first|(at_builtin;refine zby rfl _ _ rfl (p+1) (.slice ov n cv) n (bts txt) rfl Ad.out ⟨t.toArray⟩ rfl (by have h1:=Aj.out.2;have h2:=Ab.out.2;have e:(⟨t.toArray⟩:ByteArray).size=t.length:=rfl;omega) (by have:=Ac.out.lt;omega) ?_;intro v2 w2 ho hg hat;obtain ⟨o2,c2,rfl⟩:=Lx.own_form ho;have hlaid:=PR.laid (more:=t) Ac.out (Below.refl _ _) hg (by rw [zfy,List.length_append,Ab.out.1];exact ho) hat;have q2:=hlaid.1.1;have f2:=hlaid.1.2;have Ag:Hid (PR (w2.setCell ⟨p,0,none⟩ (.slice o2 (n+(⟨t.toArray⟩:ByteArray).size) c2)) p (txt++t) d (.slice o2 (n+(⟨t.toArray⟩:ByteArray).size) c2)∧Lx.Kept p (.slice ov n cv) (.slice o2 (n+(⟨t.toArray⟩:ByteArray).size) c2) wr (w2.setCell ⟨p,0,none⟩ (.slice o2 (n+(⟨t.toArray⟩:ByteArray).size) c2))):=hlaid.2;clear ho hg hat hlaid)));refine (zba _).mono ?_;rintro e w8 ⟨he,rfl⟩;unfold zaw at he;subst he;have Ah:Hid (R=none):=by
         show _=_;rw [Al.out,Ae.out,if_neg (by rw [List.length_append,Ab.out.1];exact Aa.out)]
        have Ai:=hid (HK.out.trans Ag.out.2);go_wp2;exact ⟨rfl,(.slice o2 (n+t.length) c2),Ai.out,Or.inr ⟨Ah.out,rfl⟩⟩
    · obtain ⟨tx,lst,hcat⟩:∃ tx lst,txt=tx++[lst]:=by
       rcases List.eq_nil_or_concat txt with h|⟨a,b',h⟩
       · have:=Ab.out.1;rw [h] at this;(simp at this);omega
       · exact ⟨a,b',by rw [h,List.concat_eq_append]⟩
      obtain ⟨m,hm⟩:∃ m,tx.length=m:=⟨_,rfl⟩;have hnm:n=m+1:=(by rw [<- Ab.out.1,hcat,List.length_append,hm];rfl);subst hnm;obtain ⟨g,cap',hsl,_,_⟩:=Ad.out.form (by omega);cases hsl;have hl:wr.cell? ⟨g,m,none⟩=some (.int .u8 lst.toNat):=by
       rw [Ad.out.cellAt m (by omega),hcat,zfy];unfold bts;rw [List.getElem?_append_right (by simp [hm]),List.length_map,hm,Nat.sub_self];rfl
      have Au:Hid (txt.getLastD 0=lst):=(by show _=_;rw [hcat];simp);obtain ⟨ct,hct⟩:∃ x,t.getD 0 0=x:=⟨_,rfl⟩;have Av:=hid hct;(have hix:∀ w,(Instr.index 9 (.string ⟨t.toArray⟩) (.int .i64 0)).run Tryz.prog w=.ok (.int .u8 ct.toNat) w:=fun w=>by rw [<- hct];exact idx0 t Aj.out.1 w);clear hct;have hgt:(0:Int)<((m+1:Nat):Int):=(by omega);have hmb:(m:Int)<=16000:=(by omega);clear hn0 hm hcat
      cases hlr:runB lst
      · have hrl:runP (lst.toNat:Int)=false:=hlr;have Ae:Hid (oneP txt t=txt++t):=by
         show _=_;unfold oneP zh2;rw [Au.out,hlr,if_neg (by simp)]
        clear hlr;by_cases hfit:(m+1)+t.length<=16000
        · have Aa:=hid hfit;have hsz:(⟨t.toArray⟩:ByteArray).size=t.length:=rfl;have hfi:((m:Int)+1)+(t.length:Int)<=16000:=(by omega);have hfd:decide (((m:Int)+1)+(t.length:Int)<=16000)=true:=(by simp;omega);clear hfit;(go_wp2_with (first|(at_builtin;refine zby rfl _ _ rfl (p+1) (.slice (some ⟨g,0,none⟩) (m+1) cv) (m+1) (bts txt) rfl Ad.out ⟨t.toArray⟩ rfl (by have h1:=Aj.out.2;have h2:=Ab.out.2;have e:(⟨t.toArray⟩:ByteArray).size=t.length:=rfl;omega) (by have:=Ac.out.lt;omega) ?_;intro v2 w2 ho hg hat;obtain ⟨o2,c2,rfl⟩:=Lx.own_form ho;have hlaid:=PR.laid (more:=t) Ac.out (Below.refl _ _) hg (by rw [zfy,List.length_append,Ab.out.1];exact ho) hat;have q2:=hlaid.1.1;have f2:=hlaid.1.2;have Ag:Hid (PR (w2.setCell ⟨p,0,none⟩ (.slice o2 ((m+1)+(⟨t.toArray⟩:ByteArray).size) c2)) p (txt++t) d (.slice o2 ((m+1)+(⟨t.toArray⟩:ByteArray).size) c2)∧Lx.Kept p (.slice (some ⟨g,0,none⟩) (m+1) cv) (.slice o2 ((m+1)+(⟨t.toArray⟩:ByteArray).size) c2) wr (w2.setCell ⟨p,0,none⟩ (.slice o2 ((m+1)+(⟨t.toArray⟩:ByteArray).size) c2))):=hlaid.2;clear ho hg hat hlaid)| (go_at_call 102;refine (ze3 _ _).mono ?_;rintro e wi ⟨rfl,hwi⟩;rw [hwi];clear hwi wi)));refine (zbl _).mono ?_;rintro e w8 ⟨rfl,rfl⟩;have Ah:Hid (layP (ts.drop (k+1)) (txt++t)=R):=by
           show _=_;rw [Al.out,Ae.out,if_pos (by rw [List.length_append,Ab.out.1];exact Aa.out)]
          have An:Hid (PR (w2.setCell ⟨p,0,none⟩ (.slice o2 ((m+1)+t.length) c2)) p (txt++t) d (.slice o2 ((m+1)+t.length) c2)∧(txt++t).length<=16000):=⟨Ag.out.1,by rw [List.length_append,Ab.out.1];exact Aa.out⟩;have Ai:=hid (HK.out.trans Ag.out.2);go_wp2;go_roundw
          case rel=>exact ⟨k+1,txt++t,(.slice o2 ((m+1)+t.length) c2),by go_num,Ap.out,An,Ai,Ah⟩
          case measure=>simp [RowKit.intOf];omega
        · have Aa:=hid hfit;have hsz:(⟨t.toArray⟩:ByteArray).size=t.length:=rfl;have hfi:¬ ((m:Int)+1)+(t.length:Int)<=16000:=(by omega);have hfd:decide (((m:Int)+1)+(t.length:Int)<=16000)=false:=(by simp;omega);clear hfit;(go_wp2_with (first|(at_builtin;refine zby rfl _ _ rfl (p+1) (.slice (some ⟨g,0,none⟩) (m+1) cv) (m+1) (bts txt) rfl Ad.out ⟨t.toArray⟩ rfl (by have h1:=Aj.out.2;have h2:=Ab.out.2;have e:(⟨t.toArray⟩:ByteArray).size=t.length:=rfl;omega) (by have:=Ac.out.lt;omega) ?_;intro v2 w2 ho hg hat;obtain ⟨o2,c2,rfl⟩:=Lx.own_form ho;have hlaid:=PR.laid (more:=t) Ac.out (Below.refl _ _) hg (by rw [zfy,List.length_append,Ab.out.1];exact ho) hat;have q2:=hlaid.1.1;have f2:=hlaid.1.2;have Ag:Hid (PR (w2.setCell ⟨p,0,none⟩ (.slice o2 ((m+1)+(⟨t.toArray⟩:ByteArray).size) c2)) p (txt++t) d (.slice o2 ((m+1)+(⟨t.toArray⟩:ByteArray).size) c2)∧Lx.Kept p (.slice (some ⟨g,0,none⟩) (m+1) cv) (.slice o2 ((m+1)+(⟨t.toArray⟩:ByteArray).size) c2) wr (w2.setCell ⟨p,0,none⟩ (.slice o2 ((m+1)+(⟨t.toArray⟩:ByteArray).size) c2))):=hlaid.2;clear ho hg hat hlaid)| (go_at_call 102;refine (ze3 _ _).mono ?_;rintro e wi ⟨rfl,hwi⟩;rw [hwi];clear hwi wi)));refine (zba _).mono ?_;rintro e w8 ⟨he,rfl⟩;unfold zaw at he;subst he;have Ah:Hid (R=none):=by
           show _=_;rw [Al.out,Ae.out,if_neg (by rw [List.length_append,Ab.out.1];exact Aa.out)]
          have Ai:=hid (HK.out.trans Ag.out.2);go_wp2;exact ⟨rfl,(.slice o2 ((m+1)+t.length) c2),Ai.out,Or.inr ⟨Ah.out,rfl⟩⟩
      · have hrl:runP (lst.toNat:Int)=true:=hlr;cases htr:runB ct
        · have hrt:runP (ct.toNat:Int)=false:=htr;have Ae:Hid (oneP txt t=txt++t):=by
           show _=_;unfold oneP zh2;rw [Av.out,htr,if_neg (by simp)]
          clear hlr htr;by_cases hfit:(m+1)+t.length<=16000
          · have Aa:=hid hfit;have hsz:(⟨t.toArray⟩:ByteArray).size=t.length:=rfl;have hfi:((m:Int)+1)+(t.length:Int)<=16000:=(by omega);have hfd:decide (((m:Int)+1)+(t.length:Int)<=16000)=true:=(by simp;omega);clear hfit;(go_wp2_with (first|(at_builtin;refine zby rfl _ _ rfl (p+1) (.slice (some ⟨g,0,none⟩) (m+1) cv) (m+1) (bts txt) rfl Ad.out ⟨t.toArray⟩ rfl (by have h1:=Aj.out.2;have h2:=Ab.out.2;have e:(⟨t.toArray⟩:ByteArray).size=t.length:=rfl;omega) (by have:=Ac.out.lt;omega) ?_;intro v2 w2 ho hg hat;obtain ⟨o2,c2,rfl⟩:=Lx.own_form ho;have hlaid:=PR.laid (more:=t) Ac.out (Below.refl _ _) hg (by rw [zfy,List.length_append,Ab.out.1];exact ho) hat;have q2:=hlaid.1.1;have f2:=hlaid.1.2;have Ag:Hid (PR (w2.setCell ⟨p,0,none⟩ (.slice o2 ((m+1)+(⟨t.toArray⟩:ByteArray).size) c2)) p (txt++t) d (.slice o2 ((m+1)+(⟨t.toArray⟩:ByteArray).size) c2)∧Lx.Kept p (.slice (some ⟨g,0,none⟩) (m+1) cv) (.slice o2 ((m+1)+(⟨t.toArray⟩:ByteArray).size) c2) wr (w2.setCell ⟨p,0,none⟩ (.slice o2 ((m+1)+(⟨t.toArray⟩:ByteArray).size) c2))):=hlaid.2;clear ho hg hat hlaid)| (go_at_call 102;refine (ze3 _ _).mono ?_;rintro e wi ⟨rfl,hwi⟩;rw [hwi];clear hwi wi)));refine (zbl _).mono ?_;rintro e w8 ⟨rfl,rfl⟩;have Ah:Hid (layP (ts.drop (k+1)) (txt++t)=R):=by
             show _=_;rw [Al.out,Ae.out,if_pos (by rw [List.length_append,Ab.out.1];exact Aa.out)]
            have An:Hid (PR (w2.setCell ⟨p,0,none⟩ (.slice o2 ((m+1)+t.length) c2)) p (txt++t) d (.slice o2 ((m+1)+t.length) c2)∧(txt++t).length<=16000):=⟨Ag.out.1,by rw [List.length_append,Ab.out.1];exact Aa.out⟩;have Ai:=hid (HK.out.trans Ag.out.2);go_wp2;go_roundw
            case rel=>exact ⟨k+1,txt++t,(.slice o2 ((m+1)+t.length) c2),by go_num,Ap.out,An,Ai,Ah⟩
            case measure=>simp [RowKit.intOf];omega
          · have Aa:=hid hfit;have hsz:(⟨t.toArray⟩:ByteArray).size=t.length:=rfl;have hfi:¬ ((m:Int)+1)+(t.length:Int)<=16000:=(by omega);have hfd:decide (((m:Int)+1)+(t.length:Int)<=16000)=false:=(by simp;omega);clear hfit;(go_wp2_with (first|(at_builtin;refine zby rfl _ _ rfl (p+1) (.slice (some ⟨g,0,none⟩) (m+1) cv) (m+1) (bts txt) rfl Ad.out ⟨t.toArray⟩ rfl (by have h1:=Aj.out.2;have h2:=Ab.out.2;have e:(⟨t.toArray⟩:ByteArray).size=t.length:=rfl;omega) (by have:=Ac.out.lt;omega) ?_;intro v2 w2 ho hg hat;obtain ⟨o2,c2,rfl⟩:=Lx.own_form ho;have hlaid:=PR.laid (more:=t) Ac.out (Below.refl _ _) hg (by rw [zfy,List.length_append,Ab.out.1];exact ho) hat;have q2:=hlaid.1.1;have f2:=hlaid.1.2;have Ag:Hid (PR (w2.setCell ⟨p,0,none⟩ (.slice o2 ((m+1)+(⟨t.toArray⟩:ByteArray).size) c2)) p (txt++t) d (.slice o2 ((m+1)+(⟨t.toArray⟩:ByteArray).size) c2)∧Lx.Kept p (.slice (some ⟨g,0,none⟩) (m+1) cv) (.slice o2 ((m+1)+(⟨t.toArray⟩:ByteArray).size) c2) wr (w2.setCell ⟨p,0,none⟩ (.slice o2 ((m+1)+(⟨t.toArray⟩:ByteArray).size) c2))):=hlaid.2;clear ho hg hat hlaid)| (go_at_call 102;refine (ze3 _ _).mono ?_;rintro e wi ⟨rfl,hwi⟩;rw [hwi];clear hwi wi)));refine (zba _).mono ?_;rintro e w8 ⟨he,rfl⟩;unfold zaw at he;subst he;have Ah:Hid (R=none):=by
             show _=_;rw [Al.out,Ae.out,if_neg (by rw [List.length_append,Ab.out.1];exact Aa.out)]
            have Ai:=hid (HK.out.trans Ag.out.2);go_wp2;exact ⟨rfl,(.slice o2 ((m+1)+t.length) c2),Ai.out,Or.inr ⟨Ah.out,rfl⟩⟩
        · have hrt:runP (ct.toNat:Int)=true:=htr;have Ae:Hid (oneP txt t=(txt++[32])++t):=by
           show _=_;unfold oneP zh2;rw [Au.out,Av.out,hlr,htr,if_pos];have:=Ab.out.1;(simp);omega
          obtain ⟨inf,hi1,hi2,hi3,hi4⟩:=info5_ex;have HI:=hid4 hi1 hi2 hi3 hi4;have Ak:=hid Ac;have Am:=hid Ad;have Af:=hid2 Ab.out.1 hn16;clear hlr htr Ac Ad Ab hi1 hi2 hi3 hi4;by_cases hfit:(m+1+1)+t.length<=16000
          · have Aa:=hid hfit;have hsz:(⟨t.toArray⟩:ByteArray).size=t.length:=rfl;have hfi:((m:Int)+1+1)+(t.length:Int)<=16000:=(by omega);have hfd:decide (((m:Int)+1+1)+(t.length:Int)<=16000)=true:=(by simp;omega);clear hfit;(go_wp2_with (first|(at_builtin;refine zby rfl _ _ rfl (p+1) (.slice (some ⟨gq,0,none⟩) (m+1+1) cq) (m+1+1) (bts (txt++[32])) rfl Ad.out ⟨t.toArray⟩ rfl (by have h1:=Aj.out.2;have h2:=Ab.out.2;have e:(⟨t.toArray⟩:ByteArray).size=t.length:=rfl;omega) (by have:=Ac.out.lt;omega) ?_;intro v2 w2 ho hg hat;obtain ⟨o2,c2,rfl⟩:=Lx.own_form ho;have hlaid:=PR.laid (more:=t) Ac.out (Below.refl _ _) hg (by rw [zfy,List.length_append,Ab.out.1];exact ho) hat;have q2:=hlaid.1.1;have f2:=hlaid.1.2;have Ag:Hid (PR (w2.setCell ⟨p,0,none⟩ (.slice o2 ((m+1+1)+(⟨t.toArray⟩:ByteArray).size) c2)) p ((txt++[32])++t) d (.slice o2 ((m+1+1)+(⟨t.toArray⟩:ByteArray).size) c2)∧Lx.Kept p (.slice (some ⟨gq,0,none⟩) (m+1+1) cq) (.slice o2 ((m+1+1)+(⟨t.toArray⟩:ByteArray).size) c2) wg (w2.setCell ⟨p,0,none⟩ (.slice o2 ((m+1+1)+(⟨t.toArray⟩:ByteArray).size) c2))):=hlaid.2;clear ho hg hat hlaid)| (go_at_call 102;refine (ze3 _ _).mono ?_;rintro e wi ⟨rfl,hwi⟩;rw [hwi];clear hwi wi)| (at_builtin;refine wpList_append_lies _ rfl _ _ 66 rfl (p+1) 5 inf (.int .u8 0) 1 1 Tryz.underlying66 HI.out.1 HI.out.2.1 HI.out.2.2.1 HI.out.2.2.2 rfl (by decide) (.slice (some ⟨g,0,none⟩) (m+1) cv) (m+1) (bts txt) rfl (zbc Am.out (fun q _ hl=>Below.heap_alloc _ _ q hl)) ⟨wr.heap.size,0,none⟩ 1 1 [.int .u8 32] rfl rfl (World.news_of_block (cs:=#[.int .u8 32]) (t:=5) (fr:=(0,0)) (heap_alloc_new _ _)) (by simp [Value.oneCell']) (by decide) (by have:=Af.out;unfold maxLen;omega) (by have:=Af.out;omega) (by have:=Ak.out.lt;simp;omega) _ rfl ?_;intro gq cq w1 hown hgrow hat hlt;have hlaid:=PR.laid (more:=[32]) Ak.out (zab wr (.cells #[.int .u8 32] 5)) hgrow (by rw [zfy,List.length_append,Af.out.1];exact hown) (by rcases hat with e|e;exact Or.inl e.symm;exact Or.inr (by rw [e];rfl));have q1:=hlaid.1.1;have f1:=hlaid.1.2;obtain ⟨wg,hwg⟩:∃ x,w1.setCell ⟨p,0,none⟩ (.slice (some ⟨gq,0,none⟩) (m+1+1) cq)=x:=⟨_,rfl⟩;have hl2:=hlaid.2;rw [hwg] at hl2;have Ac:Hid (PR wg p (txt++[32]) d (.slice (some ⟨gq,0,none⟩) (m+1+1) cq)):=hl2.1;have Ar:Hid (Lx.Kept p v0 (.slice (some ⟨gq,0,none⟩) (m+1+1) cq) w wg):=HK.out.trans hl2.2;have gc0:=Ac.out.c0;have gf0:=Ac.out.f0;have Ab:Hid ((txt++[32]).length=m+1+1∧m+1+1<=16001):=⟨by rw [List.length_append,Af.out.1];rfl,by have:=Af.out;omega⟩;have Ad:Hid (wg.ownsRow (p+1) 5 1 (.slice (some ⟨gq,0,none⟩) (m+1+1) cq) (m+1+1) (bts (txt++[32]))):=(by have h9:=Ac.out.own;rw [Ab.out.1] at h9;exact h9);clear hown hgrow hat hlt hlaid hl2)));refine (zbl _).mono ?_;rintro e w8 ⟨rfl,rfl⟩;have Ah:Hid (layP (ts.drop (k+1)) ((txt++[32])++t)=R):=by
             show _=_;rw [Al.out,Ae.out,if_pos (by rw [List.length_append,Ab.out.1];exact Aa.out)]
            have An:Hid (PR (w2.setCell ⟨p,0,none⟩ (.slice o2 ((m+1+1)+t.length) c2)) p ((txt++[32])++t) d (.slice o2 ((m+1+1)+t.length) c2)∧((txt++[32])++t).length<=16000):=⟨Ag.out.1,by rw [List.length_append,Ab.out.1];exact Aa.out⟩;have Ai:=hid (Ar.out.trans Ag.out.2);go_wp2;go_roundw
            case rel=>exact ⟨k+1,(txt++[32])++t,(.slice o2 ((m+1+1)+t.length) c2),by go_num,Ap.out,An,Ai,Ah⟩
            case measure=>simp [RowKit.intOf];omega
          · have Aa:=hid hfit;have hsz:(⟨t.toArray⟩:ByteArray).size=t.length:=rfl;have hfi:¬ ((m:Int)+1+1)+(t.length:Int)<=16000:=(by omega);have hfd:decide (((m:Int)+1+1)+(t.length:Int)<=16000)=false:=(by simp;omega);clear hfit;(go_wp2_with (first|(at_builtin;refine zby rfl _ _ rfl (p+1) (.slice (some ⟨gq,0,none⟩) (m+1+1) cq) (m+1+1) (bts (txt++[32])) rfl Ad.out ⟨t.toArray⟩ rfl (by have h1:=Aj.out.2;have h2:=Ab.out.2;have e:(⟨t.toArray⟩:ByteArray).size=t.length:=rfl;omega) (by have:=Ac.out.lt;omega) ?_;intro v2 w2 ho hg hat;obtain ⟨o2,c2,rfl⟩:=Lx.own_form ho;have hlaid:=PR.laid (more:=t) Ac.out (Below.refl _ _) hg (by rw [zfy,List.length_append,Ab.out.1];exact ho) hat;have q2:=hlaid.1.1;have f2:=hlaid.1.2;have Ag:Hid (PR (w2.setCell ⟨p,0,none⟩ (.slice o2 ((m+1+1)+(⟨t.toArray⟩:ByteArray).size) c2)) p ((txt++[32])++t) d (.slice o2 ((m+1+1)+(⟨t.toArray⟩:ByteArray).size) c2)∧Lx.Kept p (.slice (some ⟨gq,0,none⟩) (m+1+1) cq) (.slice o2 ((m+1+1)+(⟨t.toArray⟩:ByteArray).size) c2) wg (w2.setCell ⟨p,0,none⟩ (.slice o2 ((m+1+1)+(⟨t.toArray⟩:ByteArray).size) c2))):=hlaid.2;clear ho hg hat hlaid)| (go_at_call 102;refine (ze3 _ _).mono ?_;rintro e wi ⟨rfl,hwi⟩;rw [hwi];clear hwi wi)| (at_builtin;refine wpList_append_lies _ rfl _ _ 66 rfl (p+1) 5 inf (.int .u8 0) 1 1 Tryz.underlying66 HI.out.1 HI.out.2.1 HI.out.2.2.1 HI.out.2.2.2 rfl (by decide) (.slice (some ⟨g,0,none⟩) (m+1) cv) (m+1) (bts txt) rfl (zbc Am.out (fun q _ hl=>Below.heap_alloc _ _ q hl)) ⟨wr.heap.size,0,none⟩ 1 1 [.int .u8 32] rfl rfl (World.news_of_block (cs:=#[.int .u8 32]) (t:=5) (fr:=(0,0)) (heap_alloc_new _ _)) (by simp [Value.oneCell']) (by decide) (by have:=Af.out;unfold maxLen;omega) (by have:=Af.out;omega) (by have:=Ak.out.lt;simp;omega) _ rfl ?_;intro gq cq w1 hown hgrow hat hlt;have hlaid:=PR.laid (more:=[32]) Ak.out (zab wr (.cells #[.int .u8 32] 5)) hgrow (by rw [zfy,List.length_append,Af.out.1];exact hown) (by rcases hat with e|e;exact Or.inl e.symm;exact Or.inr (by rw [e];rfl));have q1:=hlaid.1.1;have f1:=hlaid.1.2;obtain ⟨wg,hwg⟩:∃ x,w1.setCell ⟨p,0,none⟩ (.slice (some ⟨gq,0,none⟩) (m+1+1) cq)=x:=⟨_,rfl⟩;have hl2:=hlaid.2;rw [hwg] at hl2;have Ac:Hid (PR wg p (txt++[32]) d (.slice (some ⟨gq,0,none⟩) (m+1+1) cq)):=hl2.1;have Ar:Hid (Lx.Kept p v0 (.slice (some ⟨gq,0,none⟩) (m+1+1) cq) w wg):=HK.out.trans hl2.2;have gc0:=Ac.out.c0;have gf0:=Ac.out.f0;have Ab:Hid ((txt++[32]).length=m+1+1∧m+1+1<=16001):=⟨by rw [List.length_append,Af.out.1];rfl,by have:=Af.out;omega⟩;have Ad:Hid (wg.ownsRow (p+1) 5 1 (.slice (some ⟨gq,0,none⟩) (m+1+1) cq) (m+1+1) (bts (txt++[32]))):=(by have h9:=Ac.out.own;rw [Ab.out.1] at h9;exact h9);clear hown hgrow hat hlt hlaid hl2)));refine (zba _).mono ?_;rintro e w8 ⟨he,rfl⟩;unfold zaw at he;subst he;have Ah:Hid (R=none):=by
             show _=_;rw [Al.out,Ae.out,if_neg (by rw [List.length_append,Ab.out.1];exact Aa.out)]
            have Ai:=hid (Ar.out.trans Ag.out.2);go_wp2;exact ⟨rfl,(.slice o2 ((m+1+1)+t.length) c2),Ai.out,Or.inr ⟨Ah.out,rfl⟩⟩
  · have hke:k=TN:=(by omega);subst hke;have hk' : ¬ (k:Int)<k:=(by omega);have Ax:Hid (R=some txt):=by
     show _=_;rw [<- HL.out,List.drop_of_length_le (by have:=Aq.out;omega)];rfl
    go_wp2;(first|go_end0|refine bodyPost_ret (results_none rfl _ _ _) rfl ?_);rw [Ax.out];exact ⟨v,HK.out,Or.inl ⟨txt,rfl,rfl,Ao.out.1⟩⟩
end Go.Proofs.YtighggeokiahfaaGreatDoor
