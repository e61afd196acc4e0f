import Derived.Test.YtighggeokiahfaaGreatDoorNear09
import Derived.Defers
import Derived.Recover
import Derived.Laws.Pointers
import Derived.Laws.StructEq
import Derived.Lib.AppendStr
namespace Go.Proofs.YtighggeokiahfaaGreatDoor.Lx
open Go.RowKit
/-- The scanner's block with another state, or place. -/
theorem SC.setI {w:World} {p:Nat} {l:List UInt8} {st frm:Nat} {v:Value} {ts:List Tok} (h:SC w p l st frm v ts) (st' : Nat):SC (w.setCell ⟨p,1,none⟩ (.int .i64 st')) p l st' frm v ts:=by
 have hgs:w.grownBy (w.setCell ⟨p,1,none⟩ (.int .i64 st')) (some p):=⟨rfl,rfl,rfl,by simp,fun k _ hk=>Below.heap_setCell _ _ _ k (fun e=>hk (by rw [e]))⟩
 refine ⟨?_,World.cell?_setCell_same _ _ _ h.i,?_,?_,?_,?_,?_,h.own.kept hgs (.inr fun e=>by have:=(h.own.lt p e).1;omega)⟩
 · rw [World.cell?_setCell_other _ _ _ _ (by simp)];exact h.s
 · rw [World.cell?_setCell_other _ _ _ _ (by simp)];exact h.f
 · rw [World.cell?_setCell_other _ _ _ _ (by simp)];exact h.t
 · rw [World.frozen?_setCell];exact h.f1
 · rw [World.frozen?_setCell];exact h.f2
 · rw [World.frozen?_setCell];exact h.f3
theorem SC.setF {w:World} {p:Nat} {l:List UInt8} {st frm:Nat} {v:Value} {ts:List Tok} (h:SC w p l st frm v ts) (frm' : Nat):SC (w.setCell ⟨p,2,none⟩ (.int .i64 frm')) p l st frm' v ts:=by
 have hgs:w.grownBy (w.setCell ⟨p,2,none⟩ (.int .i64 frm')) (some p):=⟨rfl,rfl,rfl,by simp,fun k _ hk=>Below.heap_setCell _ _ _ k (fun e=>hk (by rw [e]))⟩
 refine ⟨?_,?_,World.cell?_setCell_same _ _ _ h.f,?_,?_,?_,?_,h.own.kept hgs (.inr fun e=>by have:=(h.own.lt p e).1;omega)⟩
 · rw [World.cell?_setCell_other _ _ _ _ (by simp)];exact h.s
 · rw [World.cell?_setCell_other _ _ _ _ (by simp)];exact h.i
 · rw [World.cell?_setCell_other _ _ _ _ (by simp)];exact h.t
 · rw [World.frozen?_setCell];exact h.f1
 · rw [World.frozen?_setCell];exact h.f2
 · rw [World.frozen?_setCell];exact h.f3
theorem Kept.set (p:Nat) (v:Value) (w:World) (o:Nat) (u:Value):Kept p v v w (w.setCell ⟨p,o,none⟩ u) :=
 ⟨rfl,rfl,rfl,by simp,fun b _ hb _=>Below.heap_setCell _ _ _ b hb,.inl rfl⟩
/-- What one byte does: what is wrong, the state, the place, the tokens. -/
def zgi (l:List UInt8) (c:UInt8) (st frm at_:Nat) (ts:List Tok):Int × Nat × Nat × List Tok :=
 if (zc1 st c).2 then (0,(zc1 st c).1,frm,ts)
 else if (endP l st frm at_).1=0 then (0,zdi c,at_,ts++(endP l st frm at_).2.toList)
 else ((endP l st frm at_).1,st,frm,ts++(endP l st frm at_).2.toList)
def TakePost (p:Nat) (l:List UInt8) (v:Value) (r:Int × Nat × Nat × List Tok) (w:World) (e:Ending) (w' : World):Prop :=
 e=.returned (.int .i64 r.1)∧∃ v',SC w' p l r.2.1 r.2.2.1 v' r.2.2.2∧Kept p v v' w w'
set_option maxHeartbeats 4000000 in
theorem zdm (p:Nat) (l:List UInt8) (st frm at_:Nat) (v:Value) (ts:List Tok) (w:World) (h:SC w p l st frm v ts) (hn:ts.length<=100000) (hst:st<=8) (hf:frm<=at_) (ha:at_<l.length) (hl:(l.length:Int)<=9223372036854775807)
 (h5:st=5->0<(sub l frm at_).length∧((sub l frm at_).getD 0 0=45->1<(sub l frm at_).length)) :
 Calls Tryz.prog 33 #[.pointer (some ⟨p,0,none⟩),.int .i64 at_] w (TakePost p l v (zgi l (l.getD at_ 0) st frm at_ ts) w):=by
 have H1:Hid (∀ w,Calls Tryz.prog 53 #[.int .i64 st,.int .u8 ((l.getD at_ 0).toNat:Int)] w fun e w'=>e=.returned (.tuple #[.int .i64 ((zc1 st (l.getD at_ 0)).1:Nat),.bool (zc1 st (l.getD at_ 0)).2])∧w'=w):=fun w=>goOn_any st _ w hst
 have H2:=hid (end_any p l st frm at_ v ts w h hn hst hf (by omega) hl h5)
 have H3:Hid (∀ w,Calls Tryz.prog 54 #[.int .u8 ((l.getD at_ 0).toNat:Int)] w fun e w'=>e=.returned (.int .i64 (zdi (l.getD at_ 0):Nat))∧w'=w):=fun w=>begin_any _ w
 have hcs:({ data:=l.toArray } : ByteArray)[at_]'ha=l.getD at_ 0:=(getD_lt ha).symm
 have ha' : (at_:Int)<l.length:=by omega
 have hc0:=h.s
 have hc1:=h.i
 have hf1:=h.f1
 have HS:=hid h
 unfold zgi
 clear h5 h
 generalize l.getD at_ 0=c at *
 generalize zc1 st c=g at *
 generalize endP l st frm at_=r at *
 generalize zdi c=b at *
 obtain ⟨g1,g2⟩:=g
 cases g2
 · rw [if_neg (by simp)]
   by_cases hr:r.1=0
   · rw [if_pos hr]
     obtain ⟨r1,r2⟩:=r
     have hr1:r1=0:=hr
     subst hr1
     clear hr
     go_enter Tryz.func33,Tryz.ntmps33
     go_wp2_with fail
     refine (H1.out _).mono ?_
     rintro e w1 ⟨rfl,hw⟩
     have hw1:=hw.symm
     clear hw
     subst hw1
     go_wp2_with fail
     refine H2.out.mono ?_
     rintro e w2 ⟨rfl,v',h1,h2⟩
     have hk0:=h1.i
     have hk1:=h1.f
     have hk2:=h1.f1
     have hk3:=h1.f2
     have HP:=hid h1
     have HQ:=hid h2
     clear h1 h2 hc0 hc1 hf1
     go_wp2_with fail
     refine (H3.out _).mono ?_
     rintro e w3 ⟨rfl,hw⟩
     have hw1:=hw.symm
     clear hw
     subst hw1
     go_wp2
     go_ret
     exact ⟨rfl,v',(HP.out.setI b).setF at_,(HQ.out.trans (Kept.set p v' _ 1 _)).trans (Kept.set p v' _ 2 _)⟩
   · rw [if_neg hr]
     obtain ⟨r1,r2⟩:=r
     have hr1:(r1==0)=false:=by simpa using hr
     clear hr
     go_enter Tryz.func33,Tryz.ntmps33
     go_wp2_with fail
     refine (H1.out _).mono ?_
     rintro e w1 ⟨rfl,hw⟩
     have hw1:=hw.symm
     clear hw
     subst hw1
     go_wp2_with fail
     refine H2.out.mono ?_
     rintro e w2 ⟨rfl,v',h1,h2⟩
     have HP:=hid h1
     have HQ:=hid h2
     clear h1 h2 hc0 hc1 hf1
     go_wp2
     go_ret
     exact ⟨rfl,v',HP.out,HQ.out⟩
 · rw [if_pos rfl]
   go_enter Tryz.func33,Tryz.ntmps33
   go_wp2_with fail
   refine (H1.out _).mono ?_
   rintro e w1 ⟨rfl,hw⟩
   have hw1:=hw.symm
   clear hw
   subst hw1
   go_wp2
   go_ret
   exact ⟨rfl,v,HS.out.setI g1,Kept.set p v w 1 _⟩
theorem mach_take {l:List UInt8} {k st frm:Nat} {ts:List Tok} (h:k<l.length):zh5 l (l.drop k) k st frm ts=if (zgi l (l.getD k 0) st frm k ts).1=0 then zh5 l (l.drop (k+1)) (k+1) (zgi l (l.getD k 0) st frm k ts).2.1 (zgi l (l.getD k 0) st frm k ts).2.2.1 (zgi l (l.getD k 0) st frm k ts).2.2.2 else .err (zgi l (l.getD k 0) st frm k ts).1 frm:=by
 rw [zeg h,zh5]
 unfold zgi
 split
 · rfl
 split
 · rfl
 · rfl
theorem fits_take {l:List UInt8} {k st frm:Nat} {ts:List Tok} (hf:Fits l k st frm) (hle:frm<=k) (h0:(zgi l (l.getD k 0) st frm k ts).1=0) :
 Fits l (k+1) (zgi l (l.getD k 0) st frm k ts).2.1 (zgi l (l.getD k 0) st frm k ts).2.2.1∧(zgi l (l.getD k 0) st frm k ts).2.2.1<=k+1:=by
 unfold zgi at h0 ⊢
 split
 · rename_i hg
   refine ⟨?_,by simp only;omega⟩
   rcases hf.on hg with ⟨h1,_,_⟩|⟨_,_,h2⟩
   · simp only;rw [h1];trivial
   · exact h2
 · rename_i hg
   rw [if_neg hg] at h0
   split
   · exact ⟨Fits.first,by simp only;omega⟩
   · rename_i h1
     rw [if_neg h1] at h0
     exact absurd h0 h1
theorem _root_.Go.Proofs.YtighggeokiahfaaGreatDoor.Fits.le8 {l:List UInt8} {k st frm:Nat} (h:Fits l k st frm):st<=8:=by
 match st,h with
 | 0,_=>omega
 | 1,_=>omega
 | 2,_=>omega
 | 3,_=>omega
 | 4,_=>omega
 | 5,_=>omega
 | 6,_=>omega
 | 7,_=>omega
 | 8,_=>omega
 | n+9,h=>exact h.elim
theorem take_more {l:List UInt8} {k st frm:Nat} {ts:List Tok} {c:UInt8} : (zgi l c st frm k ts).2.2.2.length<=ts.length+1:=by
 have hO:∀ o:Option Tok,o.toList.length<=1:=fun o=>by cases o <;> simp
 have:=hO (endP l st frm k).2
 unfold zgi
 repeat' split
 · simp
 · simp only [List.length_append];omega
 · simp only [List.length_append];omega
theorem sub_getD0 {l:List UInt8} {i j:Nat} (h:i<j):(sub l i j).getD 0 0=l.getD i 0:=by
 unfold sub
 rw [List.getD_eq_getElem?_getD,List.getD_eq_getElem?_getD,List.getElem?_take,if_pos (by omega),List.getElem?_drop,Nat.add_zero]
theorem _root_.Go.Proofs.YtighggeokiahfaaGreatDoor.Fits.num {l:List UInt8} {k st frm:Nat} (h:Fits l k st frm) (hk:k<=l.length):st=5->0<(sub l frm k).length∧((sub l frm k).getD 0 0=45->1<(sub l frm k).length):=by
 rintro rfl
 obtain ⟨h1,h2,h3,h4⟩:=h
 rw [zgj (by omega) hk]
 refine ⟨by omega,fun h45=>?_⟩
 rw [sub_getD0 h1] at h45
 have:za8 l frm=frm+1:=by unfold za8;rw [if_pos h45]
 omega
theorem Kept.below {B p:Nat} {v v' : Value} {w w1 w2:World} (hB:Below B w w1) (hK:Kept p v v' w1 w2) (hw:B<=w1.heap.size) (hp:B<=p) (hv:∀ g,v.ownBlock=some g->B<=g):Below B w w2 :=
 ⟨hK.os.trans hB.os,hK.tape.trans hB.tape,hK.output.trans hB.output,Nat.le_trans hB.size hK.size,fun b hb=>(hK.block b (by omega) (by omega) (fun e=>by have:=hv b e.symm;omega)).trans (hB.block b hb)⟩
theorem below_drewN {B:Nat} {a w:World} (h:Below B a w) (k:Nat):Below B a (w.drewN k):=⟨h.os,h.tape,h.output,h.size,h.block⟩
def ScanPost (R:Res) (w:World) (e:Ending) (w' : World):Prop :=
 match R with
 | .ok ts=>∃ g cap,e=.returned (.tuple #[.slice (some ⟨g,0,none⟩) ts.length cap,.int .i64 0,.int .i64 0])∧w'.ownsRow w.heap.size 41 4 (.slice (some ⟨g,0,none⟩) ts.length cap) ts.length (tokCells ts)∧Below w.heap.size w w'
 | .err r i=>e=.returned (.tuple #[.slice none 0 0,.int .i64 r,.int .i64 i])∧Below w.heap.size w w'
theorem own_base {w:World} {base base' n:Nat} {e:TypeId} {size:Nat} {v:Value} {xs:List Value} (h:w.ownsRow base e size v n xs) (hb:base'<=base):w.ownsRow base' e size v n xs:=by
 refine ⟨h.1,?_⟩
 rcases h.2 with h2|⟨g,cap,cur,h3,h4,h5⟩
 · exact .inl h2
 · exact .inr ⟨g,cap,cur,h3,Nat.le_trans hb h4,h5⟩
theorem SC.made (l:List UInt8) (w:World):SC (w.alloc (.cells #[S l,.int .i64 0,.int .i64 0,.slice none 0 0] 64)) w.heap.size l 0 0 (.slice none 0 0) []:=by
 have hb:(w.alloc (.cells #[S l,.int .i64 0,.int .i64 0,.slice none 0 0] 64)).heap[w.heap.size]?=some (.cells #[S l,.int .i64 0,.int .i64 0,.slice none 0 0] 64 (0,0)):=heap_alloc_new _ _
 refine ⟨?_,?_,?_,?_,?_,?_,?_,World.ownsRow_nil _ _ _ _⟩
 · unfold World.cell?;rw [hb];rfl
 · unfold World.cell?;rw [hb];rfl
 · unfold World.cell?;rw [hb];rfl
 · unfold World.cell?;rw [hb];rfl
 · unfold World.frozen?;rw [hb];rfl
 · unfold World.frozen?;rw [hb];rfl
 · unfold World.frozen?;rw [hb];rfl
theorem scan_long (l:List UInt8) (w:World) (h:16000<l.length):Calls Tryz.prog 16 #[S l] w (ScanPost (zeq l) w):=by
 unfold zeq
 rw [if_pos h]
 have h' : (16000:Int)<l.length:=by omega
 go_enter Tryz.func16,Tryz.ntmps16
 go_wp2
 go_ret3
 exact ⟨rfl,Below.refl _ _⟩
set_option maxHeartbeats 4000000 in
theorem scan_short (l:List UInt8) (w:World) (h:l.length<=16000):Calls Tryz.prog 16 #[S l] w (ScanPost (zeq l) w):=by
 obtain ⟨R,hR⟩:∃ R,zh5 l l 0 0 0 []=R:=⟨_,rfl⟩
 unfold zeq
 rw [if_neg (by omega),hR]
 have HR:=hid hR
 clear hR
 have h' : (l.length:Int)<=16000:=by omega
 have hd:decide ((16000:Int)<l.length)=false:=decide_eq_false (by omega)
 obtain ⟨inf,hi1,hi2,hi3,hi4⟩:=zk7
 have HI:=hid4 hi1 hi2 hi3 hi4
 clear hi1 hi2 hi3 hi4
 go_enter Tryz.func16,Tryz.ntmps16
 go_wp2_with fail
 clear hd
 go_loopw [16] (fun i wr=>∃ (k st frm:Nat) (v:Value) (ts:List Tok),i=.int .i64 k∧k<=l.length∧frm<=k∧ts.length<=k∧Hid (SC wr w.heap.size l st frm v ts)∧Hid (Below w.heap.size w wr)∧Hid (Fits l k st frm)∧Hid (zh5 l (l.drop k) k st frm ts=R)) (fun i _=>l.length - (intOf i).toNat)
 case atStart=>exact ⟨0,0,0,.slice none 0 0,[],rfl,by omega,by omega,by simp,SC.made l w,(Below.refl _ _).alloc (Nat.le_refl _) _,trivial,HR.out⟩
 case round =>
  obtain ⟨k,st,frm,v,ts,rfl,hk,hfk,htk,HS,HB,HF,HM⟩:=hrel
  have hvb:∀ g,v.ownBlock=some g->w.heap.size<=g:=fun g hg=>by have:=(HS.out.own.lt g hg).1;omega
  have Ad:=hid hvb
  have Ae:=hid HB.out.size
  clear hvb
  by_cases hlt:k<l.length
  · have hk' : (k:Int)<l.length:=by omega
    have HT:=hid (zdm w.heap.size l st frm k v ts wr HS.out (by omega) HF.out.le8 hfk hlt (by omega) (HF.out.num (by omega)))
    have hm0:=HM.out
    rw [mach_take hlt] at hm0
    have hft0:=fun h0=>fits_take (ts:=ts) HF.out hfk h0
    have hmo:(zgi l (l.getD k 0) st frm k ts).2.2.2.length<=ts.length+1:=take_more
    have hfe:(zgi l (l.getD k 0) st frm k ts).1≠0->(zgi l (l.getD k 0) st frm k ts).2.2.1=frm:=fun h0=>by
     unfold zgi at h0 ⊢
     split
     · rfl
     split
     · rename_i h1 h2;rw [if_neg h1,if_pos h2] at h0;exact absurd rfl h0
     · rfl
    generalize zgi l (l.getD k 0) st frm k ts=r at *
    obtain ⟨r1,st2,frm2,ts2⟩:=r
    simp only at hm0 hft0 hmo hfe
    clear HF HM HS
    by_cases hr:r1=0
    · subst hr
      rw [if_pos rfl] at hm0
      have Aa:=hid hm0
      have Ag:=hid ((hft0 rfl).1)
      have hf2:=(hft0 rfl).2
      clear hm0 hft0 hfe
      go_wp2_with fail
      refine HT.out.mono ?_
      rintro e w2 ⟨rfl,v',h1,h2⟩
      have Ah:=hid h1
      have Ab:=hid (h2.below HB.out Ae.out (Nat.le_refl _) Ad.out)
      clear h1 h2
      go_wp2
      go_roundw
      case rel=>exact ⟨k+1,st2,frm2,v',ts2,by go_num,by omega,hf2,by omega,Ah.out,Ab.out,Ag.out,Aa.out⟩
      case measure=>simp [intOf];omega
    · rw [if_neg hr] at hm0
      have Aa:=hid hm0
      have hr1:(r1==0)=false:=by simpa using hr
      obtain rfl:=hfe hr
      clear hm0 hft0 hr hfe
      go_wp2_with fail
      refine HT.out.mono ?_
      rintro e w2 ⟨rfl,v',h1,h2⟩
      have hc2:=h1.f
      have Ab:=hid (h2.below HB.out Ae.out (Nat.le_refl _) Ad.out)
      clear h1 h2
      go_wp2_with fail
      go_quiet (fail)
      go_wp2
      go_ret3
      rw [<- Aa.out]
      exact ⟨rfl,below_drewN Ab.out _⟩
  · obtain rfl:k=l.length:=by omega
    have HT:=hid (end_any w.heap.size l st frm l.length v ts wr HS.out (by omega) HF.out.le8 hfk (Nat.le_refl _) (by omega) (HF.out.num (Nat.le_refl _)))
    have hm0:=HM.out
    rw [List.drop_length,zh5] at hm0
    have hol:(endP l st frm l.length).2.toList.length<=1:=by cases (endP l st frm l.length).2 <;> simp
    generalize endP l st frm l.length=r at *
    obtain ⟨r1,r2⟩:=r
    simp only at hm0 hol
    clear HF HM HS
    by_cases hr:r1=0
    · subst hr
      rw [if_pos rfl] at hm0
      have Aa:=hid hm0
      clear hm0
      go_wp2_with fail
      refine HT.out.mono ?_
      rintro e w2 ⟨rfl,v',h1,h2⟩
      have Ab:=hid (h2.below HB.out Ae.out (Nat.le_refl _) Ad.out)
      have hc3:=h1.t
      obtain ⟨oa,cap0,hv⟩:=own_form h1.own
      obtain ⟨us,hus⟩:∃ us,ts++r2.toList=us:=⟨_,rfl⟩
      have hul:us.length<=16001:=by rw [<- hus,List.length_append];omega
      rw [hus] at Aa h1 hv
      have HO:=hid h1
      obtain ⟨N,hN⟩:∃ N,us.length=N:=⟨_,rfl⟩
      rw [hN] at hv hul
      have HN:=hid hN
      have HV:=hid hv
      have Ai:Hid (∀ w3:World,(∀ b,b<w2.heap.size->w3.heap[b]?=w2.heap[b]?)->w3.ownsRow (w.heap.size+1) 41 4 v' N (tokCells us)):=fun w3 h3=>by
       have ho:=h1.own
       rw [hN] at ho
       refine ⟨ho.1,?_⟩
       rcases ho.2 with hn|⟨g,cap,cur,rfl,hb,hgg,rest⟩
       · exact .inl hn
       · exact .inr ⟨g,cap,cur,rfl,hb,by rw [h3 g (Array.getElem?_eq_some_iff.1 hgg).1];exact hgg,rest⟩
      have Ac:=hid h1.lt
      have Af:Hid (∀ g,v'.ownBlock=some g->w.heap.size<=g):=fun g hg=>by have:=(h1.own.lt g hg).1;omega
      rw [hv] at hc3
      clear h1 h2 hv hN hus hol
      go_wp2_with (at_builtin;refine Hid.out ?_)
      refine (show Hid _ from ?_)
      refine wpList_append_lies _ rfl _ _ 37 rfl (w.heap.size+1) 41 inf (.agg #[.int .i64 0,.string ⟨#[]⟩,.int .i64 0,.int .i64 0]) 4 40 Tryz.underlying37 HI.out.1 HI.out.2.1 HI.out.2.2.1 HI.out.2.2.2 rfl (by decide) v' N (tokCells us) (by rw [HV.out];rfl) (Ai.out _ (fun b hb=>Below.heap_alloc _ _ b hb)) ⟨w2.heap.size,0,none⟩ 1 1 (tokC ⟨5,[],0,l.length⟩) rfl rfl (World.news_of_block (cs:=#[.int .i64 5,S [],.int .i64 0,.int .i64 l.length]) (t:=41) (fr:=(0,0)) (heap_alloc_new _ _)) (by simp [tokC,Value.oneCell']) (by omega) (by unfold maxLen;omega) (by omega) (by have:=Ac.out;simp;omega) _ rfl ?_
      intro g cap w3 hown hgrow hat hlt3
      have Aj:Hid (w3.ownsRow w.heap.size 41 4 (.slice (some ⟨g,0,none⟩) (N+1) cap) (N+1) (tokCells us++tokC ⟨5,[],0,l.length⟩)):=own_base hown (by omega)
      have Ak:Hid (Below w.heap.size w w3):=(Ab.out.alloc (by have:=Ac.out;omega) _).grown hgrow (by have:=Ac.out;simp;omega) Af.out
      clear hown hgrow hat hlt3
      go_wp2
      go_ret3
      rw [<- Aa.out]
      refine ⟨g,cap,?_,?_,Ak.out⟩
      · rw [show (us++[(⟨5,[],0,l.length⟩:Tok)]).length=N+1 by rw [List.length_append,HN.out];rfl];rfl
      · rw [show (us++[(⟨5,[],0,l.length⟩:Tok)]).length=N+1 by rw [List.length_append,HN.out];rfl,zes];exact Aj.out
    · rw [if_neg hr] at hm0
      have Aa:=hid hm0
      have hr1:(r1==0)=false:=by simpa using hr
      clear hm0 hr
      go_wp2_with fail
      refine HT.out.mono ?_
      rintro e w2 ⟨rfl,v',h1,h2⟩
      have hc2:=h1.f
      have Ab:=hid (h2.below HB.out Ae.out (Nat.le_refl _) Ad.out)
      clear h1 h2
      go_wp2_with fail
      go_quiet (fail)
      go_wp2
      go_ret3
      rw [<- Aa.out]
      exact ⟨rfl,below_drewN Ab.out _⟩
theorem scan_any (l:List UInt8) (w:World):Calls Tryz.prog 16 #[S l] w (ScanPost (zeq l) w):=by
 rcases Nat.lt_or_ge 16000 l.length with h|h
 · exact scan_long l w h
 · exact scan_short l w h
end Go.Proofs.YtighggeokiahfaaGreatDoor.Lx
namespace Go.Proofs.YtighggeokiahfaaGreatDoor
open Go.RowKit
open Lx (S tokC tokCells tokCells_len)
theorem scans_len {l:List UInt8} {i:Nat} {ts vs:List Tok} {R:Res} (h:Scans l i ts R) (hR:R=.ok vs):vs.length<=ts.length+(l.length - i)+1:=by
 induction h with
 | done h=>cases hR;simp
 | err h hs=>cases hR
 | go h hs hr ih =>
  have h1:=ih hR
  have h2:=zkk h hs
  rename_i t j _
  have h3:t.toList.length<=1:=by cases t <;> simp
  simp only [List.length_append] at h1
  omega
theorem zi8 {l:List UInt8} {ts:List Tok} (h:zeq l=.ok ts):l.length<=16000∧ts.length<=16001∧Ends ts∧0<ts.length:=by
 have hl:l.length<=16000:=by
  rcases Nat.lt_or_ge 16000 l.length with h1|h1
  · unfold zeq at h;rw [if_pos h1] at h;cases h
  · exact h1
 have hs:=zfu hl
 rw [h] at hs
 have h1:=scans_len hs rfl
 obtain ⟨us,rfl⟩:=ok_last hs rfl
 simp only [List.length_nil] at h1
 refine ⟨hl,by omega,?_,by simp⟩
 intro j hj hl2
 have hj2:j=us.length:=by simp at hj hl2;omega
 subst hj2
 simp
theorem zc5 (ts:List Tok):∀ (j:Nat) (h:j<ts.length),(tokCells ts)[j*4]?=some (.int .i64 ts[j].kind)∧(tokCells ts)[j*4+1]?=some (S ts[j].text)∧(tokCells ts)[j*4+2]?=some (.int .i64 ts[j].num)∧(tokCells ts)[j*4+3]?=some (.int .i64 ts[j].at_):=by
 induction ts with
 | nil=>intro j h;simp at h
 | cons t ts ih =>
  intro j h
  cases j with
  | zero=>simp [tokCells,tokC]
  | succ j =>
   have hx:=ih j (by simp at h;omega)
   have e:tokCells (t::ts)=tokC t++tokCells ts:=by simp [tokCells]
   have hl:(tokC t).length=4:=rfl
   rw [e]
   refine ⟨?_,?_,?_,?_⟩
   · rw [List.getElem?_append_right (by rw [hl];omega),hl,show (j+1)*4 - 4=j*4 by omega];exact hx.1
   · rw [List.getElem?_append_right (by rw [hl];omega),hl,show (j+1)*4+1 - 4=j*4+1 by omega];exact hx.2.1
   · rw [List.getElem?_append_right (by rw [hl];omega),hl,show (j+1)*4+2 - 4=j*4+2 by omega];exact hx.2.2.1
   · rw [List.getElem?_append_right (by rw [hl];omega),hl,show (j+1)*4+3 - 4=j*4+3 by omega];exact hx.2.2.2
theorem PP.made {w:World} {base g cap:Nat} {ts:List Tok} (ho:w.ownsRow base 41 4 (.slice (some ⟨g,0,none⟩) ts.length cap) ts.length (tokCells ts)) (h1:ts.length<=16001) (h0:0<ts.length) :
 PP (w.alloc (.cells #[.slice (some ⟨g,0,none⟩) ts.length cap,.int .i64 0,.int .i64 0,.bool false] 53)) w.heap.size g cap ts 0 0 false:=by
 have hg:g<w.heap.size:=(ho.lt g rfl).2
 have hc:∀ o,(w.alloc (.cells #[.slice (some ⟨g,0,none⟩) ts.length cap,.int .i64 0,.int .i64 0,.bool false] 53)).cell? ⟨g,o,none⟩=w.cell? ⟨g,o,none⟩:=fun o=>World.cell?_alloc_lt _ _ _ hg
 refine ⟨by simp,by simp,by simp,by simp,by simp,by simp,by simp,?_,?_,?_,?_,h0,h1,Nat.ne_of_lt hg⟩
 · intro j h;rw [hc,ho.cellAt _ (by omega)];exact (zc5 ts j h).1
 · intro j h;rw [hc,ho.cellAt _ (by omega)];exact (zc5 ts j h).2.1
 · intro j h;rw [hc,ho.cellAt _ (by omega)];exact (zc5 ts j h).2.2.1
 · intro j h;rw [hc,ho.cellAt _ (by omega)];exact (zc5 ts j h).2.2.2
end Go.Proofs.YtighggeokiahfaaGreatDoor
namespace Go.Proofs.YtighggeokiahfaaGreatDoor
open Go.RowKit
theorem zjt (a b:Int) (w:World):(Instr.typeAssert (.iface 50 (.agg #[.int .i64 a,.int .i64 b])) 20 50 true).run Tryz.prog w=.ok (.tuple #[.agg #[.int .i64 a,.int .i64 b],.bool true]) w:=by kernel_rfl
theorem zlr (w:World):(Instr.typeAssert .nilIface 20 50 true).run Tryz.prog w=.ok (.tuple #[.agg #[.int .i64 0,.int .i64 0],.bool false]) w:=by kernel_rfl
theorem bldz (w:World):(Instr.build 29 #[]).run Tryz.prog w=.ok (.agg #[.int .i64 0,.string ⟨#[]⟩,.int .i64 0,.int .i64 0,.slice none 0 0]) w:=by kernel_rfl
/-- a variable of one number -/
def oneO (x:Int) (t:TypeId):Obj:=.cells #[.int .i64 x] t (0,0)
theorem zbr {w:World} {b:Nat} {x:Int} {t:TypeId} (h:w.heap[b]?=some (oneO x t)):w.cell? ⟨b,0,none⟩=some (.int .i64 x)∧w.frozen? ⟨b,0,none⟩=false:=by
 unfold oneO at h
 simp [World.cell?,World.frozen?,h]
set_option maxHeartbeats 2000000 in
set_option maxRecDepth 4000 in
theorem catch_fault (tb eb ab:Nat) (why:Int) (at_:Nat) (older:List PanicEntry) (w:World) (k9:Int) (n9:List UInt8) (m9:Int) (a9:Nat) (sl:Value) (x y:Int) (ht:w.heap[tb]?=some (kidO k9 n9 m9 a9 sl)) (he:w.heap[eb]?=some (oneO x 30)) (ha:w.heap[ab]?=some (oneO y 3)) (h1:tb≠eb) (h2:tb≠ab) (h3:eb≠ab) :
 CallsD Tryz.prog 25 #[.pointer (some ⟨tb,0,none⟩),.pointer (some ⟨eb,0,none⟩),.pointer (some ⟨ab,0,none⟩)] (.panicking ({ v:=.iface 50 (.agg #[.int .i64 why,.int .i64 at_]),recovered:=false }::older)) w fun e u' w' =>
  e=.returned (.tuple #[])∧u'=.panicking ({ v:=.iface 50 (.agg #[.int .i64 why,.int .i64 at_]),recovered:=true }::older) ∧
  (w'.heap[tb]?=some (kidO 0 [] 0 0 (.slice none 0 0))∧w'.heap[eb]?=some (oneO why 30)∧w'.heap[ab]?=some (oneO at_ 3))∧(∀ b,b<w.heap.size->b≠tb->b≠eb->b≠ab->w'.heap[b]?=w.heap[b]?)∧w'.os=w.os∧w'.tape=w.tape∧w'.output=w.output∧w.heap.size<=w'.heap.size:=by
 have qa:=zjt why at_
 have HW:=hid3 ht he ha
 refine callsD_of_wpS Tryz.func25 rfl fun c₀ cs hu=>?_
 clear ht he ha
 apply wpS_seq
 apply wpS_region
 simp [wpOpsS,go_sem,recoverD,hu,Tryz.ntmps25,Exit.thenS,Array.replicate,qa]
 obtain ⟨wa,hwa⟩:∃ x,w.alloc (.cells #[.int .i64 why,.int .i64 at_] 50)=x:=⟨_,rfl⟩
 rw [hwa]
 have kt:wa.heap[tb]?=some (kidO k9 n9 m9 a9 sl):=by rw [<- hwa];exact za9 HW.out.1
 have ke:wa.heap[eb]?=some (oneO x 30):=by rw [<- hwa];exact za9 HW.out.2.1
 have ka:wa.heap[ab]?=some (oneO y 3):=by rw [<- hwa];exact za9 HW.out.2.2
 have HK:=hid3 kt ke ka
 have HA:Hid (Below w.heap.size w wa):=by show Below w.heap.size w wa;rw [<- hwa];exact zac _ _
 have f0:wa.cell? ⟨w.heap.size,0,none⟩=some (.int .i64 why):=by rw [<- hwa];simp
 have f1:wa.cell? ⟨w.heap.size,1,none⟩=some (.int .i64 at_):=by rw [<- hwa];simp
 obtain ⟨⟨z0,z1,z2,z3,z4⟩,⟨y0,y1,y2,y3,y4⟩⟩:=zaa kt
 obtain ⟨e0,g0⟩:=zbr ke
 obtain ⟨a0,b0⟩:=zbr ka
 have n1:¬ w.heap.size=tb:=by have:=ze0 HW.out.1;omega
 have n2:¬ w.heap.size=eb:=by have:=ze0 HW.out.2.1;omega
 have n3:¬ w.heap.size=ab:=by have:=ze0 HW.out.2.2;omega
 have m1:¬ tb=eb:=h1
 have m2:¬ tb=ab:=h2
 have m3:¬ eb=ab:=h3
 have m4:¬ eb=tb:=fun e=>h1 e.symm
 have m5:¬ ab=tb:=fun e=>h2 e.symm
 have m6:¬ ab=eb:=fun e=>h3 e.symm
 have qb:=bldz
 clear kt ke ka h1 h2 h3 hwa qa
 refine wpS_of_wp ?_
 go_wp2
 go_region
 all_goals (
  go_wp2
  obtain ⟨u,hu5⟩:∃ u,((((wa.setCell ⟨tb,0,none⟩ (.int .i64 0)).setCell ⟨tb,1,none⟩ (.string ⟨#[]⟩)).setCell ⟨tb,2,none⟩ (.int .i64 0)).setCell ⟨tb,3,none⟩ (.int .i64 0)).setCell ⟨tb,4,none⟩ (.slice none 0 0)=u:=⟨_,rfl⟩
  have hut:u.heap[tb]?=some (kidO 0 [] 0 0 (.slice none 0 0)):=by rw [<- hu5];exact zc6 (n:=[]) (a:=0) HK.out.1
  have hub:∀ b,b≠tb->u.heap[b]?=wa.heap[b]?:=by rw [<- hu5];exact zbf wa tb _ _ _ _ _
  have hus:u.heap.size=wa.heap.size∧u.os=wa.os∧u.tape=wa.tape∧u.output=wa.output:=by rw [<- hu5];exact ⟨by simp,rfl,rfl,rfl⟩
  have hz:(((u.setCell ⟨eb,0,none⟩ (.int .i64 why)).setCell ⟨ab,0,none⟩ (.int .i64 at_)).drew.heap[tb]?=some (kidO 0 [] 0 0 (.slice none 0 0))∧((u.setCell ⟨eb,0,none⟩ (.int .i64 why)).setCell ⟨ab,0,none⟩ (.int .i64 at_)).drew.heap[eb]?=some (oneO why 30)∧((u.setCell ⟨eb,0,none⟩ (.int .i64 why)).setCell ⟨ab,0,none⟩ (.int .i64 at_)).drew.heap[ab]?=some (oneO at_ 3))∧(∀ b,b<w.heap.size->b≠tb->b≠eb->b≠ab->((u.setCell ⟨eb,0,none⟩ (.int .i64 why)).setCell ⟨ab,0,none⟩ (.int .i64 at_)).drew.heap[b]?=w.heap[b]?)∧((u.setCell ⟨eb,0,none⟩ (.int .i64 why)).setCell ⟨ab,0,none⟩ (.int .i64 at_)).drew.os=w.os∧((u.setCell ⟨eb,0,none⟩ (.int .i64 why)).setCell ⟨ab,0,none⟩ (.int .i64 at_)).drew.tape=w.tape∧((u.setCell ⟨eb,0,none⟩ (.int .i64 why)).setCell ⟨ab,0,none⟩ (.int .i64 at_)).drew.output=w.output∧w.heap.size<=((u.setCell ⟨eb,0,none⟩ (.int .i64 why)).setCell ⟨ab,0,none⟩ (.int .i64 at_)).drew.heap.size:=by
   have hA:=HA.out
   refine ⟨⟨?_,?_,?_⟩,?_,hus.2.1.trans hA.os,hus.2.2.1.trans hA.tape,hus.2.2.2.trans hA.output,?_⟩
   · exact (Below.heap_setCell _ _ _ _ m2).trans ((Below.heap_setCell _ _ _ _ m1).trans hut)
   · exact (Below.heap_setCell _ _ _ _ m3).trans (zai ((hub eb m4).trans HK.out.2.1))
   · exact zai ((Below.heap_setCell _ _ _ _ m6).trans ((hub ab m5).trans HK.out.2.2))
   · intro b hb q1 q2 q3
     exact (Below.heap_setCell _ _ _ _ q3).trans ((Below.heap_setCell _ _ _ _ q2).trans ((hub b q1).trans (hA.block b hb)))
   · show w.heap.size<=((u.setCell ⟨eb,0,none⟩ (.int .i64 why)).setCell ⟨ab,0,none⟩ (.int .i64 at_)).heap.size
     have:=hA.size
     simp
     omega
  rw [hu5]
  generalize ((u.setCell ⟨eb,0,none⟩ (.int .i64 why)).setCell ⟨ab,0,none⟩ (.int .i64 at_)).drew=wz at hz ⊢
  clear z0 z1 z2 z3 z4 y0 y1 y2 y3 y4 e0 g0 a0 b0 f0 f1 hut hub hus hu5 qb HW HK HA
  cases c₀
  simp_all [bodyPostS,results,Tryz.results25])
set_option maxHeartbeats 2000000 in
set_option maxRecDepth 4000 in
theorem catch_idle (tb eb ab:Nat) (w:World) :
 CallsD Tryz.prog 25 #[.pointer (some ⟨tb,0,none⟩),.pointer (some ⟨eb,0,none⟩),.pointer (some ⟨ab,0,none⟩)] .returning w fun e u' w'=>e=.returned (.tuple #[])∧u'=.returning∧Below w.heap.size w w':=by
 have qa:=zlr
 refine callsD_of_wpS Tryz.func25 rfl fun c₀ cs hu=>?_
 apply wpS_seq
 apply wpS_region
 simp [wpOpsS,go_sem,recoverD,hu,Tryz.ntmps25,Exit.thenS,Array.replicate,qa]
 refine wpS_of_wp ?_
 go_wp2
 have hb:Below w.heap.size w (w.alloc (.cells #[.int .i64 0,.int .i64 0] 50)):=zac _ _
 generalize w.alloc (.cells #[.int .i64 0,.int .i64 0] 50)=wz at hb ⊢
 cases c₀
 simp_all [bodyPostS,results,Tryz.results25]
/-- the program's variables, as they lie in memory -/
def zhj (w:World):Prop:=∃ t fr,w.heap[0]?=some (.cells zjs t fr)
theorem zhj.below {w w' : World} (h:zhj w) (hB:Below w.heap.size w w'):zhj w':=by
 obtain ⟨t,fr,h⟩:=h
 exact ⟨t,fr,(hB.block 0 (ze0 h)).trans h⟩
def zdq (R:PRes) (w:World) (e:Ending) (w' : World):Prop :=
 match R with
 | .ok t=>∃ v,e=.returned (.tuple #[v,.int .i64 0,.int .i64 0])∧zah w.heap.size t w' v∧Below w.heap.size w w'
 | .err r i=>e=.returned (.tuple #[kidV 0 [] 0 0 (.slice none 0 0),.int .i64 r,.int .i64 i])∧Below w.heap.size w w'
theorem Sole.to_below {p:Nat} {w wp w' : World} (hB:Below w.heap.size w wp) (hp:w.heap.size<=p) (hS:Sole p wp w'):Below w.heap.size w w' :=
 ⟨hS.os.trans hB.os,hS.tape.trans hB.tape,hS.output.trans hB.output,Nat.le_trans hB.size hS.size,fun b hb=>(hS.block b (Nat.lt_of_lt_of_le hb hB.size) (by omega)).trans (hB.block b hb)⟩
theorem bld53 (o:Option Addr) (n c:Nat) (w:World):(Instr.build 53 #[(0,.slice o n c)]).run Tryz.prog w=.ok (.agg #[.slice o n c,.int .i64 0,.int .i64 0,.bool false]) w:=by kernel_rfl
theorem ext0 (a b c:Value) (w:World):(Instr.extract (.tuple #[a,b,c]) 0).run Tryz.prog w=.ok a w:=rfl
theorem ext1 (a b c:Value) (w:World):(Instr.extract (.tuple #[a,b,c]) 1).run Tryz.prog w=.ok b w:=rfl
theorem ext2 (a b c:Value) (w:World):(Instr.extract (.tuple #[a,b,c]) 2).run Tryz.prog w=.ok c w:=rfl
set_option maxHeartbeats 2000000 in
set_option maxRecDepth 4000 in
theorem parse_lex (l:List UInt8) (r:Int) (i:Nat) (hr:r≠0) (w:World) (HS:Hid (∀ w1,Calls Tryz.prog 16 #[.string ⟨l.toArray⟩] w1 fun e w'=>e=.returned (.tuple #[.slice none 0 0,.int .i64 r,.int .i64 i])∧Below w1.heap.size w1 w')) :
 Calls Tryz.prog 11 #[.string ⟨l.toArray⟩] w (zdq (.err r i) w):=by
 have hmf:∀ (fn:Fn) (first cap:Array Value) (w:World),(Instr.makeFunc fn first cap).run Tryz.prog w=.ok (.func fn first cap) w:=fun _ _ _ _=>rfl
 obtain ⟨wa1,hwa1⟩:∃ x,w.alloc (.cells #[.int .i64 0,.string ⟨#[]⟩,.int .i64 0,.int .i64 0,.slice none 0 0] 29)=x:=⟨_,rfl⟩
 obtain ⟨wa2,hwa2⟩:∃ x,wa1.alloc (.cells #[.int .i64 0] 30)=x:=⟨_,rfl⟩
 obtain ⟨wa3,hwa3⟩:∃ x,wa2.alloc (.cells #[.int .i64 0] 3)=x:=⟨_,rfl⟩
 have b1:Below w.heap.size w wa1:=by rw [<- hwa1];exact zac _ _
 have b2:Below w.heap.size w wa2:=by rw [<- hwa2];exact b1.alloc b1.size _
 have b3:Below w.heap.size w wa3:=by rw [<- hwa3];exact b2.alloc b2.size _
 have kt:Kep w wa3 w.heap.size (kidO 0 [] 0 0 (.slice none 0 0)):=by rw [<- hwa3,<- hwa2,<- hwa1];exact ((Kep.new (Nat.le_refl _) _).alloc _).alloc _
 have ke:Kep w wa3 wa1.heap.size (oneO 0 30):=by rw [<- hwa3,<- hwa2];exact (Kep.new b1.size _).alloc _
 have ka:Kep w wa3 wa2.heap.size (oneO 0 3):=by rw [<- hwa3];exact Kep.new b2.size _
 have Ab:Hid (w.heap.size<wa1.heap.size∧wa1.heap.size<wa2.heap.size):=⟨by rw [<- hwa1];simp,by rw [<- hwa2];simp⟩
 have Ae:=hid b3
 have Ac:=hid3 kt ke ka
 clear b1 b2 b3 kt ke ka
 have hrn:(r != 0)=true:=by simp [hr]
 clear hr
 go_enter_defers Tryz.func11,Tryz.ntmps11
 go_wp2_with fail
 clear hwa1 hwa2 hwa3
 refine (HS.out wa3).mono ?_
 rintro e ws ⟨rfl,hB⟩
 have hlt:=Ab.out
 have k0:Kep w ws w.heap.size (kidO 0 [] 0 0 (.slice none 0 0)):=Ac.out.1.below hB
 have k1:Kep w ws wa1.heap.size (oneO 0 30):=Ac.out.2.1.below hB
 have k2:Kep w ws wa2.heap.size (oneO 0 3):=Ac.out.2.2.below hB
 have Aa:=hid4 k0 k1 k2 (Ae.out.trans (hB.mono Ae.out.size))
 obtain ⟨⟨z0,z1,z2,z3,z4⟩,⟨y0,y1,y2,y3,y4⟩⟩:=zaa k0.1
 obtain ⟨e0,g0⟩:=zbr k1.1
 obtain ⟨a0,b0⟩:=zbr k2.1
 have m1:¬ w.heap.size=wa1.heap.size:=by omega
 have m2:¬ w.heap.size=wa2.heap.size:=by omega
 have m3:¬ wa1.heap.size=wa2.heap.size:=by omega
 have m4:¬ wa1.heap.size=w.heap.size:=by omega
 have m5:¬ wa2.heap.size=w.heap.size:=by omega
 have m6:¬ wa2.heap.size=wa1.heap.size:=by omega
 have qb:=bldz
 have x0:=ext0
 have x1:=ext1
 have x2:=ext2
 clear k0 k1 k2 hB hlt
 go_wp2
 have hz1:∀ b,b≠wa1.heap.size->b≠wa2.heap.size->((ws.setCell ⟨wa1.heap.size,0,none⟩ (.int .i64 r)).setCell ⟨wa2.heap.size,0,none⟩ (.int .i64 i)).heap[b]?=ws.heap[b]?:=fun b h1 h2=>(Below.heap_setCell _ _ _ _ h2).trans (Below.heap_setCell _ _ _ _ h1)
 have k0:((ws.setCell ⟨wa1.heap.size,0,none⟩ (.int .i64 r)).setCell ⟨wa2.heap.size,0,none⟩ (.int .i64 i)).heap[w.heap.size]?=some (kidO 0 [] 0 0 (.slice none 0 0)):=(hz1 _ m1 m2).trans Aa.out.1.1
 have k1:((ws.setCell ⟨wa1.heap.size,0,none⟩ (.int .i64 r)).setCell ⟨wa2.heap.size,0,none⟩ (.int .i64 i)).heap[wa1.heap.size]?=some (oneO r 30):=(Below.heap_setCell _ _ _ _ m3).trans (zai Aa.out.2.1.1)
 have k2:((ws.setCell ⟨wa1.heap.size,0,none⟩ (.int .i64 r)).setCell ⟨wa2.heap.size,0,none⟩ (.int .i64 i)).heap[wa2.heap.size]?=some (oneO i 3):=zai ((Below.heap_setCell _ _ _ _ m6).trans Aa.out.2.2.1.1)
 have hlt:=Ab.out
 have Af:Hid (Below w.heap.size w ((ws.setCell ⟨wa1.heap.size,0,none⟩ (.int .i64 r)).setCell ⟨wa2.heap.size,0,none⟩ (.int .i64 i))):=(Aa.out.2.2.2.setCell (p:=⟨wa1.heap.size,0,none⟩) (Nat.le_of_lt hlt.1) _).setCell (p:=⟨wa2.heap.size,0,none⟩) (by show w.heap.size<=wa2.heap.size;omega) _
 clear z0 z1 z2 z3 z4 y0 y1 y2 y3 y4 e0 g0 a0 b0 hz1
 generalize ((ws.setCell ⟨wa1.heap.size,0,none⟩ (.int .i64 r)).setCell ⟨wa2.heap.size,0,none⟩ (.int .i64 i))=wx at k0 k1 k2 Af ⊢
 have Ad:=hid3 k0 k1 k2
 obtain ⟨⟨z0,z1,z2,z3,z4⟩,⟨y0,y1,y2,y3,y4⟩⟩:=zaa k0
 obtain ⟨e0,g0⟩:=zbr k1
 obtain ⟨a0,b0⟩:=zbr k2
 clear k0 k1 k2 hlt
 go_region
 all_goals (
  go_wp2
  obtain ⟨u,hu5⟩:∃ u,((((wx.setCell ⟨w.heap.size,0,none⟩ (.int .i64 0)).setCell ⟨w.heap.size,1,none⟩ (.string ⟨#[]⟩)).setCell ⟨w.heap.size,2,none⟩ (.int .i64 0)).setCell ⟨w.heap.size,3,none⟩ (.int .i64 0)).setCell ⟨w.heap.size,4,none⟩ (.slice none 0 0)=u:=⟨_,rfl⟩
  have hut:u.heap[w.heap.size]?=some (kidO 0 [] 0 0 (.slice none 0 0)):=by rw [<- hu5];exact zc6 (n:=[]) (a:=0) Ad.out.1
  have hub:∀ b,b≠w.heap.size->u.heap[b]?=wx.heap[b]?:=by rw [<- hu5];exact zbf wx w.heap.size _ _ _ _ _
  have hbu:Below w.heap.size w u:=by rw [<- hu5];exact Af.out.trans (zas wx w.heap.size w.heap.size _ _ _ _ _ (Nat.le_refl _))
  rw [hu5]
  have hlt:=Ab.out
  have hz0:((u.setCell ⟨wa1.heap.size,0,none⟩ (.int .i64 r)).setCell ⟨wa2.heap.size,0,none⟩ (.int .i64 i)).drew.heap[w.heap.size]?=some (kidO 0 [] 0 0 (.slice none 0 0)):=(Below.heap_setCell _ _ _ _ m2).trans ((Below.heap_setCell _ _ _ _ m1).trans hut)
  have hz1:((u.setCell ⟨wa1.heap.size,0,none⟩ (.int .i64 r)).setCell ⟨wa2.heap.size,0,none⟩ (.int .i64 i)).drew.heap[wa1.heap.size]?=some (oneO r 30):=(Below.heap_setCell _ _ _ _ m3).trans (zai ((hub _ m4).trans Ad.out.2.1))
  have hz2:((u.setCell ⟨wa1.heap.size,0,none⟩ (.int .i64 r)).setCell ⟨wa2.heap.size,0,none⟩ (.int .i64 i)).drew.heap[wa2.heap.size]?=some (oneO i 3):=zai ((Below.heap_setCell _ _ _ _ m6).trans ((hub _ m5).trans Ad.out.2.2))
  have hbz:Below w.heap.size w ((u.setCell ⟨wa1.heap.size,0,none⟩ (.int .i64 r)).setCell ⟨wa2.heap.size,0,none⟩ (.int .i64 i)).drew:=((hbu.setCell (p:=⟨wa1.heap.size,0,none⟩) (Nat.le_of_lt hlt.1) _).setCell (p:=⟨wa2.heap.size,0,none⟩) (by show w.heap.size<=wa2.heap.size;omega) _).drew
  generalize ((u.setCell ⟨wa1.heap.size,0,none⟩ (.int .i64 r)).setCell ⟨wa2.heap.size,0,none⟩ (.int .i64 i)).drew=wz at hz0 hz1 hz2 hbz ⊢
  have q:=(zaa hz0).1
  have q5:=(zbr hz1).1
  have q6:=(zbr hz2).1
  obtain ⟨q0,q1,q2,q3,q4⟩:=q
  clear hut hub hbu hz0 hz1 hz2 hu5 z0 z1 z2 z3 z4 y0 y1 y2 y3 y4 e0 g0 a0 b0 qb x0 x1 x2 hmf
  simp [bodyPostD,Leaves,results,Tryz.results11,go_sem,q0,q1,q2,q3,q4,q5,q6]
  exact ⟨rfl,hbz⟩)
/-- what Parse answers of its tokens -/
def treeR (r:Ans Tree):PRes :=
 match r with
 | .ok t _=>.ok t
 | .no e i=>.err e i
set_option maxHeartbeats 2000000 in
set_option maxRecDepth 4000 in
theorem parse_toks (l:List UInt8) (ts:List Tok) (h1:ts.length<=16001) (hE:Ends ts) (h0:0<ts.length) (w:World) (hG:zhj w) (HS:Hid (∀ w1,Calls Tryz.prog 16 #[.string ⟨l.toArray⟩] w1 fun e w'=>∃ g cap,e=.returned (.tuple #[.slice (some ⟨g,0,none⟩) ts.length cap,.int .i64 0,.int .i64 0])∧w'.ownsRow w1.heap.size 41 4 (.slice (some ⟨g,0,none⟩) ts.length cap) ts.length (Lx.tokCells ts)∧Below w1.heap.size w1 w')) :
 Calls Tryz.prog 11 #[.string ⟨l.toArray⟩] w (zdq (treeR ((zc8 102 [] ⟨ts,false⟩).bind fun ks s=>Ans.ok (Tree.node 1 [] 0 0 ks) s)) w):=by
 have hmf:∀ (fn:Fn) (first cap:Array Value) (w:World),(Instr.makeFunc fn first cap).run Tryz.prog w=.ok (.func fn first cap) w:=fun _ _ _ _=>rfl
 obtain ⟨wa1,hwa1⟩:∃ x,w.alloc (.cells #[.int .i64 0,.string ⟨#[]⟩,.int .i64 0,.int .i64 0,.slice none 0 0] 29)=x:=⟨_,rfl⟩
 obtain ⟨wa2,hwa2⟩:∃ x,wa1.alloc (.cells #[.int .i64 0] 30)=x:=⟨_,rfl⟩
 obtain ⟨wa3,hwa3⟩:∃ x,wa2.alloc (.cells #[.int .i64 0] 3)=x:=⟨_,rfl⟩
 have b1:Below w.heap.size w wa1:=by rw [<- hwa1];exact zac _ _
 have b2:Below w.heap.size w wa2:=by rw [<- hwa2];exact b1.alloc b1.size _
 have b3:Below w.heap.size w wa3:=by rw [<- hwa3];exact b2.alloc b2.size _
 have kt:Kep w wa3 w.heap.size (kidO 0 [] 0 0 (.slice none 0 0)):=by rw [<- hwa3,<- hwa2,<- hwa1];exact ((Kep.new (Nat.le_refl _) _).alloc _).alloc _
 have ke:Kep w wa3 wa1.heap.size (oneO 0 30):=by rw [<- hwa3,<- hwa2];exact (Kep.new b1.size _).alloc _
 have ka:Kep w wa3 wa2.heap.size (oneO 0 3):=by rw [<- hwa3];exact Kep.new b2.size _
 have Ab:Hid (w.heap.size<wa1.heap.size∧wa1.heap.size<wa2.heap.size):=⟨by rw [<- hwa1];simp,by rw [<- hwa2];simp⟩
 have Ai:=hid b3
 have Af:=hid3 kt ke ka
 clear b1 b2 b3 kt ke ka
 have Ag:=hid3 h1 hE h0
 have HG:=hid hG
 obtain ⟨R,hR⟩:∃ R,((zc8 102 [] ⟨ts,false⟩).bind fun ks s=>Ans.ok (Tree.node 1 [] 0 0 ks) s)=R:=⟨_,rfl⟩
 rw [hR]
 have HR:=hid hR
 clear h1 hE h0 hR hG
 go_enter_defers Tryz.func11,Tryz.ntmps11
 go_wp2_with fail
 clear hwa1 hwa2 hwa3
 refine (HS.out wa3).mono ?_
 rintro e ws ⟨g,cap,rfl,ho,hB⟩
 have hlt:=Ab.out
 have k0:Kep w ws w.heap.size (kidO 0 [] 0 0 (.slice none 0 0)):=Af.out.1.below hB
 have k1:Kep w ws wa1.heap.size (oneO 0 30):=Af.out.2.1.below hB
 have k2:Kep w ws wa2.heap.size (oneO 0 3):=Af.out.2.2.below hB
 have Ad:=hid4 k0 k1 k2 (Ai.out.trans (hB.mono Ai.out.size))
 have Ae:=hid2 ho Af.out.2.2.lt
 obtain ⟨e0,g0⟩:=zbr k1.1
 obtain ⟨a0,b0⟩:=zbr k2.1
 have m1:¬ w.heap.size=wa1.heap.size:=by omega
 have m2:¬ w.heap.size=wa2.heap.size:=by omega
 have m3:¬ wa1.heap.size=wa2.heap.size:=by omega
 have m4:¬ wa1.heap.size=w.heap.size:=by omega
 have m5:¬ wa2.heap.size=w.heap.size:=by omega
 have m6:¬ wa2.heap.size=wa1.heap.size:=by omega
 have qb:=bld53 (some ⟨g,0,none⟩) ts.length cap
 have x0:=ext0
 have x1:=ext1
 have x2:=ext2
 clear k0 k1 k2 hB hlt ho
 go_wp2_with fail
 have hlt:=Ab.out
 have hz1:∀ b,b≠wa1.heap.size->b≠wa2.heap.size->((ws.setCell ⟨wa1.heap.size,0,none⟩ (.int .i64 0)).setCell ⟨wa2.heap.size,0,none⟩ (.int .i64 0)).heap[b]?=ws.heap[b]?:=fun b h1 h2=>(Below.heap_setCell _ _ _ _ h2).trans (Below.heap_setCell _ _ _ _ h1)
 have k0:Kep w ((ws.setCell ⟨wa1.heap.size,0,none⟩ (.int .i64 0)).setCell ⟨wa2.heap.size,0,none⟩ (.int .i64 0)) w.heap.size (kidO 0 [] 0 0 (.slice none 0 0)):=⟨(hz1 _ m1 m2).trans Ad.out.1.1,Nat.le_refl _⟩
 have k1:Kep w ((ws.setCell ⟨wa1.heap.size,0,none⟩ (.int .i64 0)).setCell ⟨wa2.heap.size,0,none⟩ (.int .i64 0)) wa1.heap.size (oneO 0 30):=⟨(Below.heap_setCell _ _ _ _ m3).trans (zai Ad.out.2.1.1),Ad.out.2.1.2⟩
 have k2:Kep w ((ws.setCell ⟨wa1.heap.size,0,none⟩ (.int .i64 0)).setCell ⟨wa2.heap.size,0,none⟩ (.int .i64 0)) wa2.heap.size (oneO 0 3):=⟨zai ((Below.heap_setCell _ _ _ _ m6).trans Ad.out.2.2.1.1),Ad.out.2.2.1.2⟩
 have hbx:Below w.heap.size w ((ws.setCell ⟨wa1.heap.size,0,none⟩ (.int .i64 0)).setCell ⟨wa2.heap.size,0,none⟩ (.int .i64 0)):=(Ad.out.2.2.2.setCell (p:=⟨wa1.heap.size,0,none⟩) (Nat.le_of_lt hlt.1) _).setCell (p:=⟨wa2.heap.size,0,none⟩) (by show w.heap.size<=wa2.heap.size;omega) _
 have hox:(((ws.setCell ⟨wa1.heap.size,0,none⟩ (.int .i64 0)).setCell ⟨wa2.heap.size,0,none⟩ (.int .i64 0))).ownsRow wa3.heap.size 41 4 (.slice (some ⟨g,0,none⟩) ts.length cap) ts.length (Lx.tokCells ts):=zfq Ae.out.1 (fun q e hl=>hz1 q (by have h1:=(Ae.out.1.lt q e).1;have h2:=Ae.out.2;omega) (by have h1:=(Ae.out.1.lt q e).1;have h2:=Ae.out.2;omega))
 have hsz:(((ws.setCell ⟨wa1.heap.size,0,none⟩ (.int .i64 0)).setCell ⟨wa2.heap.size,0,none⟩ (.int .i64 0))).heap.size=ws.heap.size:=by simp
 clear hz1 e0 g0 a0 b0
 generalize ((ws.setCell ⟨wa1.heap.size,0,none⟩ (.int .i64 0)).setCell ⟨wa2.heap.size,0,none⟩ (.int .i64 0))=wx at k0 k1 k2 hbx hox hsz ⊢
 have hp:w.heap.size<=wx.heap.size:=hbx.size
 have hpp:=PP.made hox Ag.out.1 Ag.out.2.2
 have hbp:Below w.heap.size w (wx.alloc (.cells #[.slice (some ⟨g,0,none⟩) ts.length cap,.int .i64 0,.int .i64 0,.bool false] 53)):=hbx.alloc hbx.size _
 have hba:zbo wx.heap.size (wx.alloc (.cells #[.slice (some ⟨g,0,none⟩) ts.length cap,.int .i64 0,.int .i64 0,.bool false] 53)):=by
  obtain ⟨t,fr,hg⟩:=HG.out.below hbp
  have h0:0<w.heap.size:=by obtain ⟨t,fr,hg⟩:=HG.out;exact ze0 hg
  exact ⟨by omega,t,fr,hg⟩
 have Ah:Hid (Calls Tryz.prog 26 #[.pointer (some ⟨wx.heap.size,0,none⟩)] (wx.alloc (.cells #[.slice (some ⟨g,0,none⟩) ts.length cap,.int .i64 0,.int .i64 0,.bool false] 53)) (zam wx.heap.size g cap ts 0 (zah (wx.alloc (.cells #[.slice (some ⟨g,0,none⟩) ts.length cap,.int .i64 0,.int .i64 0,.bool false] 53)).heap.size) R (wx.alloc (.cells #[.slice (some ⟨g,0,none⟩) ts.length cap,.int .i64 0,.int .i64 0,.bool false] 53)))):=by
  have hx:=source_any wx.heap.size g cap ts Ag.out.2.1 0 rfl 0 false (wx.alloc (.cells #[.slice (some ⟨g,0,none⟩) ts.length cap,.int .i64 0,.int .i64 0,.bool false] 53)) hpp hba
  rw [<- HR.out]
  exact hx
 rw [hsz] at Ah
 obtain ⟨wp,hwp⟩:∃ x,wx.alloc (.cells #[.slice (some ⟨g,0,none⟩) ts.length cap,.int .i64 0,.int .i64 0,.bool false] 53)=x:=⟨_,rfl⟩
 rw [hwp] at Ah ⊢
 have Aj:Hid (Kep w wp w.heap.size (kidO 0 [] 0 0 (.slice none 0 0))∧Kep w wp wa1.heap.size (oneO 0 30)∧Kep w wp wa2.heap.size (oneO 0 3)∧Below w.heap.size w wp∧wa2.heap.size<ws.heap.size∧w.heap.size<wp.heap.size):=by
  rw [<- hwp]
  exact ⟨k0.alloc _,k1.alloc _,k2.alloc _,hbp,hsz ▸ k2.lt,by have:=k0.lt;simp;omega⟩
 clear k0 k1 k2 hbx hox hsz hp hpp hbp hba hwp hlt qb
 refine Ah.out.mono ?_
 cases R with
 | no why at_ =>
  rintro e w9 ⟨rfl,hS⟩
  have hkp:=Aj.out
  have hlt:=Ab.out
  have k0:w9.heap[w.heap.size]?=some (kidO 0 [] 0 0 (.slice none 0 0)):=hS.blk hkp.1.1 (by omega)
  have k1:w9.heap[wa1.heap.size]?=some (oneO 0 30):=hS.blk hkp.2.1.1 (by omega)
  have k2:w9.heap[wa2.heap.size]?=some (oneO 0 3):=hS.blk hkp.2.2.1.1 (by omega)
  have Aa:=hid (Sole.to_below hkp.2.2.2.1 (by omega) hS)
  have Ac:=hid3 k0 k1 k2
  clear hS k0 k1 k2 hkp hlt
  go_wp2
  refine leaves_cons (f:=25) (args:=#[.pointer (some ⟨w.heap.size,0,none⟩),.pointer (some ⟨wa1.heap.size,0,none⟩),.pointer (some ⟨wa2.heap.size,0,none⟩)]) (by simp) (by simp [go_sem]) ?_
  refine (catch_fault w.heap.size wa1.heap.size wa2.heap.size why at_ [] w9 0 [] 0 0 (.slice none 0 0) 0 0 Ac.out.1 Ac.out.2.1 Ac.out.2.2 m1 m2 m3).mono ?_
  rintro e u' wz ⟨rfl,rfl,⟨hz0,hz1,hz2⟩,hf,h1,h2,h3,h4⟩
  have hlt:=Ab.out
  have hbz:Below w.heap.size w wz:=⟨h1.trans Aa.out.os,h2.trans Aa.out.tape,h3.trans Aa.out.output,Nat.le_trans Aa.out.size h4,fun b hb=>(hf b (Nat.lt_of_lt_of_le hb Aa.out.size) (by omega) (by omega) (by omega)).trans (Aa.out.block b hb)⟩
  obtain ⟨q0,q1,q2,q3,q4⟩:=(zaa hz0).1
  have q5:=(zbr hz1).1
  have q6:=(zbr hz2).1
  clear hf h1 h2 h3 h4 hz0 hz1 hz2 x0 x1 x2 hmf
  simp [Leaves,settle,results,Tryz.results11,go_sem,q0,q1,q2,q3,q4,q5,q6]
  exact ⟨rfl,hbz⟩
 | ok t st =>
  rintro e w9 ⟨v,i,full,rfl,hT,rfl,hP,hS⟩
  obtain ⟨k8,n8,m8,a8,ks8⟩:=t
  obtain ⟨sl,rfl,hL⟩:=zaf.1 hT
  obtain ⟨o8,l8,c8,rfl⟩:=hL.shape
  have hkp:=Aj.out
  have hlt:=Ab.out
  have k0:Kep w w9 w.heap.size (kidO 0 [] 0 0 (.slice none 0 0)):=⟨hS.blk hkp.1.1 (by omega),Nat.le_refl _⟩
  have k1:w9.heap[wa1.heap.size]?=some (oneO 0 30):=hS.blk hkp.2.1.1 (by omega)
  have k2:w9.heap[wa2.heap.size]?=some (oneO 0 3):=hS.blk hkp.2.2.1.1 (by omega)
  have Aa:=hid (Sole.to_below hkp.2.2.2.1 (by omega) hS)
  have Ac:=hid3 k0.1 k1 k2
  have Ak:Hid (zab (fun b=>wa2.heap.size<b) w9 ks8 (.slice o8 l8 c8)):=hL.weaken (fun b h=>by have h1:wp.heap.size<=b:=h;have h2:=hkp.2.2.1.lt;omega)
  obtain ⟨⟨z0,z1,z2,z3,z4⟩,⟨y0,y1,y2,y3,y4⟩⟩:=zaa k0.1
  obtain ⟨e0,g0⟩:=zbr k1
  obtain ⟨a0,b0⟩:=zbr k2
  clear hS hP hT hL k0 k1 k2 hkp hlt
  unfold kidV
  go_wp2
  obtain ⟨u,hu5⟩:∃ u,((((w9.setCell ⟨w.heap.size,0,none⟩ (.int .i64 k8)).setCell ⟨w.heap.size,1,none⟩ (.string ⟨n8.toArray⟩)).setCell ⟨w.heap.size,2,none⟩ (.int .i64 m8)).setCell ⟨w.heap.size,3,none⟩ (.int .i64 a8)).setCell ⟨w.heap.size,4,none⟩ (.slice o8 l8 c8)=u:=⟨_,rfl⟩
  have hut:u.heap[w.heap.size]?=some (kidO k8 n8 m8 a8 (.slice o8 l8 c8)):=by rw [<- hu5];exact zc6 Ac.out.1
  have hub:∀ b,b≠w.heap.size->u.heap[b]?=w9.heap[b]?:=by rw [<- hu5];exact zbf w9 w.heap.size _ _ _ _ _
  have hbu:Below w.heap.size w u:=by rw [<- hu5];exact Aa.out.trans (zas w9 w.heap.size w.heap.size _ _ _ _ _ (Nat.le_refl _))
  rw [hu5]
  have hlt:=Ab.out
  have hz0:((u.setCell ⟨wa1.heap.size,0,none⟩ (.int .i64 0)).setCell ⟨wa2.heap.size,0,none⟩ (.int .i64 0)).heap[w.heap.size]?=some (kidO k8 n8 m8 a8 (.slice o8 l8 c8)):=(Below.heap_setCell _ _ _ _ m2).trans ((Below.heap_setCell _ _ _ _ m1).trans hut)
  have hz1:((u.setCell ⟨wa1.heap.size,0,none⟩ (.int .i64 0)).setCell ⟨wa2.heap.size,0,none⟩ (.int .i64 0)).heap[wa1.heap.size]?=some (oneO 0 30):=(Below.heap_setCell _ _ _ _ m3).trans (zai ((hub _ m4).trans Ac.out.2.1))
  have hz2:((u.setCell ⟨wa1.heap.size,0,none⟩ (.int .i64 0)).setCell ⟨wa2.heap.size,0,none⟩ (.int .i64 0)).heap[wa2.heap.size]?=some (oneO 0 3):=zai ((Below.heap_setCell _ _ _ _ m6).trans ((hub _ m5).trans Ac.out.2.2))
  have hbz:Below w.heap.size w ((u.setCell ⟨wa1.heap.size,0,none⟩ (.int .i64 0)).setCell ⟨wa2.heap.size,0,none⟩ (.int .i64 0)):=(hbu.setCell (p:=⟨wa1.heap.size,0,none⟩) (Nat.le_of_lt hlt.1) _).setCell (p:=⟨wa2.heap.size,0,none⟩) (by show w.heap.size<=wa2.heap.size;omega) _
  have hLz:zab (fun b=>wa2.heap.size<b) ((u.setCell ⟨wa1.heap.size,0,none⟩ (.int .i64 0)).setCell ⟨wa2.heap.size,0,none⟩ (.int .i64 0)) ks8 (.slice o8 l8 c8):=zab.frame (fun _ h=>h) (fun b h _=>(Below.heap_setCell _ _ _ _ (show b≠wa2.heap.size by omega)).trans ((Below.heap_setCell _ _ _ _ (show b≠wa1.heap.size by omega)).trans (hub b (by omega)))) Ak.out
  generalize ((u.setCell ⟨wa1.heap.size,0,none⟩ (.int .i64 0)).setCell ⟨wa2.heap.size,0,none⟩ (.int .i64 0))=wz at hz0 hz1 hz2 hbz hLz ⊢
  have HZ:Hid (wz.heap[w.heap.size]?=some (kidO k8 n8 m8 a8 (.slice o8 l8 c8))∧wz.heap[wa1.heap.size]?=some (oneO 0 30)∧wz.heap[wa2.heap.size]?=some (oneO 0 3)∧Below w.heap.size w wz∧zab (fun b=>wa2.heap.size<b) wz ks8 (.slice o8 l8 c8)):=⟨hz0,hz1,hz2,hbz,hLz⟩
  clear hut hub hbu hz0 hz1 hz2 hbz hLz hu5 z0 z1 z2 z3 z4 y0 y1 y2 y3 y4 e0 g0 a0 b0 hlt
  refine leaves_cons (f:=25) (args:=#[.pointer (some ⟨w.heap.size,0,none⟩),.pointer (some ⟨wa1.heap.size,0,none⟩),.pointer (some ⟨wa2.heap.size,0,none⟩)]) (by simp) (by simp [go_sem]) ?_
  refine (catch_idle w.heap.size wa1.heap.size wa2.heap.size wz).mono ?_
  rintro e u' wy ⟨rfl,rfl,hby⟩
  have hlt:=Ab.out
  have hbw:Below w.heap.size w wy:=HZ.out.2.2.2.1.trans (hby.mono HZ.out.2.2.2.1.size)
  obtain ⟨q0,q1,q2,q3,q4⟩:=(zaa (zao hby HZ.out.1)).1
  have q5:=(zbr (zao hby HZ.out.2.1)).1
  have q6:=(zbr (zao hby HZ.out.2.2.1)).1
  have hty:zah w.heap.size (.node k8 n8 m8 a8 ks8) wy (kidV k8 n8 m8 a8 (.slice o8 l8 c8)):=zaf.2 ⟨_,rfl,(HZ.out.2.2.2.2.below hby).weaken (fun b h=>by show w.heap.size<=b;omega)⟩
  clear hby x0 x1 x2 hmf
  simp [Leaves,settle,results,Tryz.results11,go_sem,q0,q1,q2,q3,q4,q5,q6]
  exact ⟨_,rfl,hty,hbw⟩
theorem zg4 {l:List UInt8} {e:Int} {i:Nat} (h:zeq l=.err e i):e≠0:=by
 rcases Nat.lt_or_ge 16000 l.length with h1|h1
 · unfold zeq at h;rw [if_pos h1] at h;cases h;decide
 · obtain ⟨us,_,_,hs⟩:=fault_reach h h1
   rcases zk9 hs with rfl|rfl|rfl|rfl <;> decide
theorem zky (l:List UInt8) (w:World) (hG:zhj w):Calls Tryz.prog 11 #[.string ⟨l.toArray⟩] w (zdq (zjn l) w):=by
 unfold zjn
 cases h:zeq l with
 | err r i =>
  refine parse_lex l r i (zg4 h) w (fun w1=>?_)
  have hx:=Lx.scan_any l w1
  rw [h] at hx
  exact hx
 | ok ts =>
  obtain ⟨_,h1,hE,h0⟩:=zi8 h
  have hx:=parse_toks l ts h1 hE h0 w hG (fun w1=>by
   have hx:=Lx.scan_any l w1
   rw [h] at hx
   exact hx)
  show Calls _ _ _ _ (zdq (match zc8 102 [] ⟨ts,false⟩ with|.ok ks _=>.ok (.node 1 [] 0 0 ks)|.no e i=>.err e i) w)
  cases hs:zc8 102 [] ⟨ts,false⟩ with
  | ok ks st=>rw [hs] at hx;exact hx
  | no e i=>rw [hs] at hx;exact hx
end Go.Proofs.YtighggeokiahfaaGreatDoor
namespace Go.Proofs.YtighggeokiahfaaGreatDoor
def ats (l:List Tok):List Nat:=l.map (fun t=>t.at_)
def Suf (a b:List Tok):Prop:=∃ c,b=c++a
def endT (n:Nat):Tok:=⟨5,[],0,n⟩
/-- it ends in the end -/
def EndL (l:List Tok):Prop:=∃ c n,l=c++[endT n]
def code (e:Int):Prop:=e=40∨e=41∨e=42
theorem EndL.cons {t:Tok} {l:List Tok} (h:EndL l):EndL (t::l):=by
 obtain ⟨c,n,rfl⟩:=h
 exact ⟨t::c,n,rfl⟩
theorem EndL.tail {t:Tok} {l:List Tok} (h:EndL (t::l)) (ht:¬ (t.kind=5∧t.text=[])):EndL l:=by
 obtain ⟨c,n,h⟩:=h
 cases c with
 | nil =>
  simp at h
  rw [h.1] at ht
  exact absurd ⟨rfl,rfl⟩ ht
 | cons x c =>
  simp at h
  exact ⟨c,n,h.2⟩
theorem EndL.ne {l:List Tok} (h:EndL l):l≠[]:=by
 obtain ⟨c,n,rfl⟩:=h
 simp
theorem Suf.refl (a:List Tok):Suf a a:=⟨[],rfl⟩
theorem Suf.trans {a b c:List Tok} (h:Suf a b) (k:Suf b c):Suf a c:=by
 obtain ⟨x,rfl⟩:=h
 obtain ⟨y,rfl⟩:=k
 exact ⟨y++x,by simp⟩
theorem Suf.cons {a b:List Tok} (t:Tok) (h:Suf a b):Suf a (t::b):=by
 obtain ⟨x,rfl⟩:=h
 exact ⟨t::x,rfl⟩
theorem Suf.ats {a b:List Tok} (h:Suf a b) {n:Nat} (hn:n∈ats a):n∈ats b:=by
 obtain ⟨x,rfl⟩:=h
 simp [Go.Proofs.YtighggeokiahfaaGreatDoor.ats] at hn ⊢
 exact Or.inr hn
/-- it told something of what stands in vs -/
def Beyond {α:Type} (r:Ans α) (vs:List Tok):Prop:=(∃ e a,r=.no e a∧a∈ats vs)∨(∃ x ws f,r=.ok x ⟨ws,f⟩∧Suf ws vs∧EndL ws)
structure GoodOn {α:Type} (c:Tok->Prop) (F:PS->Ans α):Prop where
 stay:∀ t L full,c t->EndL (t::L)->(∃ e a,F ⟨t::L,full⟩=.no e a∧a∈ats (t::L)∧code e)∨(∃ x ws f,F ⟨t::L,full⟩=.ok x ⟨ws,f⟩∧Suf ws (t::L)∧EndL ws)
 here:∀ v vs vs' full,c v->EndL vs->EndL vs'->(∃ e,F ⟨v::vs,full⟩=.no e v.at_∧F ⟨v::vs',full⟩=.no e v.at_)∨(∃ x f,F ⟨v::vs,full⟩=.ok x ⟨v::vs,f⟩∧F ⟨v::vs',full⟩=.ok x ⟨v::vs',f⟩)∨(Beyond (F ⟨v::vs,full⟩) vs∧Beyond (F ⟨v::vs',full⟩) vs')
 same:∀ u us v vs vs' full,c u->EndL vs->EndL vs'->(∃ e a,a∈ats (u::us++[v])∧F ⟨u::us++v::vs,full⟩=.no e a∧F ⟨u::us++v::vs',full⟩=.no e a)∨(∃ x us' f,Suf us' (u::us)∧F ⟨u::us++v::vs,full⟩=.ok x ⟨us'++v::vs,f⟩∧F ⟨u::us++v::vs',full⟩=.ok x ⟨us'++v::vs',f⟩)∨(Beyond (F ⟨u::us++v::vs,full⟩) vs∧Beyond (F ⟨u::us++v::vs',full⟩) vs')
 cut:∀ u us v vs n full,c u->EndL (v::vs)->(∃ e a,a∈ats (u::us)∧F ⟨u::us++v::vs,full⟩=.no e a∧F ⟨u::us++[endT n],full⟩=.no e a)∨(∃ x us' f,us'≠[]∧Suf us' (u::us)∧F ⟨u::us++v::vs,full⟩=.ok x ⟨us'++v::vs,f⟩∧F ⟨u::us++[endT n],full⟩=.ok x ⟨us'++[endT n],f⟩)∨(F ⟨u::us++[endT n],full⟩=.no 40 n∨∃ x f,F ⟨u::us++[endT n],full⟩=.ok x ⟨[endT n],f⟩)
/-- at the end it gives up there, or stays there -/
def Fin {α:Type} (F:PS->Ans α):Prop:=∀ n full,F ⟨[endT n],full⟩=.no 40 n∨∃ x f,F ⟨[endT n],full⟩=.ok x ⟨[endT n],f⟩
structure Good {α:Type} (F:PS->Ans α):Prop where
 on:GoodOn (fun _=>True) F
 fin:Fin F
theorem EndL.shape {l:List Tok} (h:EndL l):∃ t r,l=t::r:=by
 cases l with
 | nil=>exact absurd rfl h.ne
 | cons t r=>exact ⟨t,r,rfl⟩
theorem Good.stays {α:Type} {F:PS->Ans α} (h:Good F) (L:List Tok) (full:Bool) (hL:EndL L):(∃ e a,F ⟨L,full⟩=.no e a∧a∈ats L∧code e)∨(∃ x ws f,F ⟨L,full⟩=.ok x ⟨ws,f⟩∧Suf ws L∧EndL ws):=by
 obtain ⟨t,r,rfl⟩:=hL.shape
 exact h.on.stay t r full trivial hL
theorem Good.beyond {α β:Type} {r:Ans α} {G:α->PS->Ans β} {vs:List Tok} (h:Beyond r vs) (hG:∀ x,Good (G x)):Beyond (r.bind G) vs:=by
 rcases h with ⟨e,a,rfl,ha⟩|⟨x,ws,f,rfl,hs,hw⟩
 · exact Or.inl ⟨e,a,rfl,ha⟩
 · rcases (hG x).stays ws f hw with ⟨e,a,h1,h2,_⟩|⟨y,ws',f',h1,h2,h3⟩
   · exact Or.inl ⟨e,a,h1,hs.ats h2⟩
   · exact Or.inr ⟨y,ws',f',h1,h2.trans hs,h3⟩
theorem GoodOn.bind {α β:Type} {c:Tok->Prop} {F:PS->Ans α} {G:α->PS->Ans β} (hF:GoodOn c F) (hG:∀ x,Good (G x)):GoodOn c (fun s=>(F s).bind G):=by
 constructor
 · intro t L full hc hL
   rcases hF.stay t L full hc hL with ⟨e,a,h1,h2,h3⟩|⟨x,ws,f,h1,h2,h3⟩
   · exact Or.inl ⟨e,a,by show (F _).bind G=_;rw [h1];rfl,h2,h3⟩
   · rcases (hG x).stays ws f h3 with ⟨e,a,k1,k2,k3⟩|⟨y,ws',f',k1,k2,k3⟩
     · exact Or.inl ⟨e,a,by show (F _).bind G=_;rw [h1];exact k1,h2.ats k2,k3⟩
     · exact Or.inr ⟨y,ws',f',by show (F _).bind G=_;rw [h1];exact k1,k2.trans h2,k3⟩
 · intro v vs vs' full hc hv hv'
   rcases hF.here v vs vs' full hc hv hv' with ⟨e,h1,h2⟩|⟨x,f,h1,h2⟩|⟨h1,h2⟩
   · exact Or.inl ⟨e,by show (F _).bind G=_;rw [h1];rfl,by show (F _).bind G=_;rw [h2];rfl⟩
   · rcases (hG x).on.here v vs vs' f trivial hv hv' with ⟨e,k1,k2⟩|⟨y,f',k1,k2⟩|⟨k1,k2⟩
     · exact Or.inl ⟨e,by show (F _).bind G=_;rw [h1];exact k1,by show (F _).bind G=_;rw [h2];exact k2⟩
     · exact Or.inr (Or.inl ⟨y,f',by show (F _).bind G=_;rw [h1];exact k1,by show (F _).bind G=_;rw [h2];exact k2⟩)
     · refine Or.inr (Or.inr ⟨?_,?_⟩)
       · show Beyond ((F _).bind G) vs;rw [h1];exact k1
       · show Beyond ((F _).bind G) vs';rw [h2];exact k2
   · exact Or.inr (Or.inr ⟨Good.beyond h1 hG,Good.beyond h2 hG⟩)
 · intro u us v vs vs' full hc hv hv'
   rcases hF.same u us v vs vs' full hc hv hv' with ⟨e,a,h0,h1,h2⟩|⟨x,us',f,h0,h1,h2⟩|⟨h1,h2⟩
   · exact Or.inl ⟨e,a,h0,by show (F _).bind G=_;rw [h1];rfl,by show (F _).bind G=_;rw [h2];rfl⟩
   · have hav:∀ n,n∈ats (us'++[v])->n∈ats (u::us++[v]):=fun n hn=>by
      obtain ⟨y,hy⟩:=h0
      rw [hy]
      simp [ats] at hn ⊢
      rcases hn with h|h
      · exact Or.inr (Or.inl h)
      · exact Or.inr (Or.inr h)
     cases us' with
     | nil =>
      rcases (hG x).on.here v vs vs' f trivial hv hv' with ⟨e,k1,k2⟩|⟨y,f',k1,k2⟩|⟨k1,k2⟩
      · exact Or.inl ⟨e,v.at_,by simp [ats],by show (F _).bind G=_;rw [h1];exact k1,by show (F _).bind G=_;rw [h2];exact k2⟩
      · exact Or.inr (Or.inl ⟨y,[],f',h0,by show (F _).bind G=_;rw [h1];exact k1,by show (F _).bind G=_;rw [h2];exact k2⟩)
      · refine Or.inr (Or.inr ⟨?_,?_⟩)
        · show Beyond ((F _).bind G) vs;rw [h1];exact k1
        · show Beyond ((F _).bind G) vs';rw [h2];exact k2
     | cons u' us' =>
      rcases (hG x).on.same u' us' v vs vs' f trivial hv hv' with ⟨e,a,k0,k1,k2⟩|⟨y,us'',f',k0,k1,k2⟩|⟨k1,k2⟩
      · exact Or.inl ⟨e,a,hav a k0,by show (F _).bind G=_;rw [h1];exact k1,by show (F _).bind G=_;rw [h2];exact k2⟩
      · exact Or.inr (Or.inl ⟨y,us'',f',k0.trans h0,by show (F _).bind G=_;rw [h1];exact k1,by show (F _).bind G=_;rw [h2];exact k2⟩)
      · refine Or.inr (Or.inr ⟨?_,?_⟩)
        · show Beyond ((F _).bind G) vs;rw [h1];exact k1
        · show Beyond ((F _).bind G) vs';rw [h2];exact k2
   · exact Or.inr (Or.inr ⟨Good.beyond h1 hG,Good.beyond h2 hG⟩)
 · intro u us v vs n full hc hv
   have hfin:∀ x f,(G x ⟨[endT n],f⟩=.no 40 n∨∃ y f',G x ⟨[endT n],f⟩=.ok y ⟨[endT n],f'⟩):=fun x f=>(hG x).fin n f
   rcases hF.cut u us v vs n full hc hv with ⟨e,a,h0,h1,h2⟩|⟨x,us',f,h00,h0,h1,h2⟩|h1|⟨x,f,h1⟩
   · exact Or.inl ⟨e,a,h0,by show (F _).bind G=_;rw [h1];rfl,by show (F _).bind G=_;rw [h2];rfl⟩
   · cases us' with
     | nil=>exact absurd rfl h00
     | cons u' us' =>
      rcases (hG x).on.cut u' us' v vs n f trivial hv with ⟨e,a,k0,k1,k2⟩|⟨y,us'',f',k00,k0,k1,k2⟩|k1|⟨y,f',k1⟩
      · exact Or.inl ⟨e,a,h0.ats k0,by show (F _).bind G=_;rw [h1];exact k1,by show (F _).bind G=_;rw [h2];exact k2⟩
      · exact Or.inr (Or.inl ⟨y,us'',f',k00,k0.trans h0,by show (F _).bind G=_;rw [h1];exact k1,by show (F _).bind G=_;rw [h2];exact k2⟩)
      · exact Or.inr (Or.inr (Or.inl (by show (F _).bind G=_;rw [h2];exact k1)))
      · exact Or.inr (Or.inr (Or.inr ⟨y,f',by show (F _).bind G=_;rw [h2];exact k1⟩))
   · exact Or.inr (Or.inr (Or.inl (by show (F _).bind G=_;rw [h1];rfl)))
   · rcases hfin x f with k1|⟨y,f',k1⟩
     · exact Or.inr (Or.inr (Or.inl (by show (F _).bind G=_;rw [h1];exact k1)))
     · exact Or.inr (Or.inr (Or.inr ⟨y,f',by show (F _).bind G=_;rw [h1];exact k1⟩))
theorem Fin.bind {α β:Type} {F:PS->Ans α} {G:α->PS->Ans β} (hF:Fin F) (hG:∀ x,Good (G x)):Fin (fun s=>(F s).bind G):=by
 intro n full
 rcases hF n full with h1|⟨x,f,h1⟩
 · exact Or.inl (by show (F _).bind G=_;rw [h1];rfl)
 · rcases (hG x).fin n f with k1|⟨y,f',k1⟩
   · exact Or.inl (by show (F _).bind G=_;rw [h1];exact k1)
   · exact Or.inr ⟨y,f',by show (F _).bind G=_;rw [h1];exact k1⟩
theorem Good.bind {α β:Type} {F:PS->Ans α} {G:α->PS->Ans β} (hF:Good F) (hG:∀ x,Good (G x)):Good (fun s=>(F s).bind G):=⟨hF.on.bind hG,hF.fin.bind hG⟩
theorem GoodOn.mono {α:Type} {c d:Tok->Prop} {F:PS->Ans α} (h:GoodOn c F) (hd:∀ t,d t->c t):GoodOn d F :=
 ⟨fun t L full hc=>h.stay t L full (hd t hc),fun v vs vs' full hc=>h.here v vs vs' full (hd v hc),fun u us v vs vs' full hc=>h.same u us v vs vs' full (hd u hc),fun u us v vs n full hc=>h.cut u us v vs n full (hd u hc)⟩
/-- what comes decides -/
theorem GoodOn.head {α:Type} {d:Tok->Prop} {F:Tok->PS->Ans α} (h:∀ t,d t->GoodOn (fun x=>x=t) (F t)):GoodOn d (fun s=>F s.hd s) :=
 ⟨fun t L full hc=>(h t hc).stay t L full rfl,fun v vs vs' full hc=>(h v hc).here v vs vs' full rfl,fun u us v vs vs' full hc=>(h u hc).same u us v vs vs' full rfl,fun u us v vs n full hc=>(h u hc).cut u us v vs n full rfl⟩
theorem GoodOn.ite {α:Type} {d:Tok->Prop} {F G:PS->Ans α} (c:Tok->Prop) [∀ t,Decidable (c t)] (hF:GoodOn (fun t=>d t∧c t) F) (hG:GoodOn (fun t=>d t∧¬ c t) G):GoodOn d (fun s=>if c s.hd then F s else G s):=by
 refine GoodOn.head (F:=fun t s=>if c t then F s else G s) fun t hd=>?_
 by_cases h:c t
 · have e:(fun s=>if c t then F s else G s)=F:=funext fun s=>if_pos h
   show GoodOn _ (fun s=>if c t then F s else G s)
   rw [e]
   exact hF.mono (fun x hx=>by rw [hx];exact ⟨hd,h⟩)
 · have e:(fun s=>if c t then F s else G s)=G:=funext fun s=>if_neg h
   show GoodOn _ (fun s=>if c t then F s else G s)
   rw [e]
   exact hG.mono (fun x hx=>by rw [hx];exact ⟨hd,h⟩)


end Go.Proofs.YtighggeokiahfaaGreatDoor
namespace Go.Proofs.YtighggeokiahfaaGreatDoor.Lx
open Go.RowKit
/-- tokens that lie in memory -/
structure TokAt (w:World) (g off:Nat) (ts:List Tok):Prop where
 c0:∀ i t,ts[i]?=some t->w.cell? ⟨g,off+i*4,none⟩=some (.int .i64 t.kind)
 c1:∀ i t,ts[i]?=some t->w.cell? ⟨g,off+i*4+1,none⟩=some (S t.text)
 c2:∀ i t,ts[i]?=some t->w.cell? ⟨g,off+i*4+2,none⟩=some (.int .i64 t.num)
 c3:∀ i t,ts[i]?=some t->w.cell? ⟨g,off+i*4+3,none⟩=some (.int .i64 t.at_)
def TokRow (w:World) (v:Value) (ts:List Tok):Prop:=∃ oa cap g off,v=.slice oa ts.length cap∧(0<ts.length->oa=some ⟨g,off,none⟩)∧TokAt w g off ts
theorem TokRow.nil (w:World):TokRow w (.slice none 0 0) []:=⟨none,0,0,0,rfl,fun h=>by simp at h,fun i t h=>by simp at h,fun i t h=>by simp at h,fun i t h=>by simp at h,fun i t h=>by simp at h⟩
def isNameP (l:List UInt8):Bool:=decide (0<l.length)&&(decide (l.length<=32)&&(letB (l.getD 0 0)&&(l.all runB&&!zba l)))
set_option maxHeartbeats 1000000 in
theorem isName_any (l:List UInt8) (w:World) (hl:(l.length:Int)<=9223372036854775807):Calls Tryz.prog 96 #[S l] w fun e w'=>e=.returned (.bool (isNameP l))∧w'=w:=by
 obtain ⟨R,hR⟩:∃ R,isNameP l=R:=⟨_,rfl⟩
 rw [hR]
 unfold isNameP at hR
 by_cases h0:l.length=0
 · rw [show decide (0<l.length)=false from decide_eq_false (by omega),Bool.false_and] at hR
   subst hR
   obtain rfl:l=[]:=List.length_eq_zero_iff.1 h0
   clear h0
   go_enter Tryz.func96,Tryz.ntmps96
   go_wp2
   go_ret
   exact ⟨rfl,rfl⟩
 · have hn0:((l.length:Int)==0)=false:=beq_eq_false_iff_ne.2 (by omega)
   have hlt0:0<l.length:=by omega
   have h0' : (0:Int)<l.length:=by omega
   rw [decide_eq_true hlt0,Bool.true_and] at hR
   by_cases h32:l.length<=32
   · rw [decide_eq_true h32,Bool.true_and] at hR
     have h32' : decide ((32:Int)<l.length)=false:=decide_eq_false (by omega)
     have hc0:({ data:=l.toArray } : ByteArray)[0]'hlt0=l.getD 0 0:=(getD_lt hlt0).symm
     have H1:Hid (∀ w,Calls Tryz.prog 92 #[.int .u8 ((l.getD 0 0).toNat:Int)] w fun e w'=>e=.returned (.bool (letB (l.getD 0 0)))∧w'=w):=fun w=>zhf _ w
     have HW:Hid (∀ w,Calls Tryz.prog 95 #[S l] w fun e w'=>e=.returned (.bool (zba l))∧w'=w):=fun w=>zmp l w
     generalize letB (l.getD 0 0)=b at *
     generalize l.getD 0 0=c at *
     cases b
     · rw [Bool.false_and] at hR
       subst hR
       go_enter Tryz.func96,Tryz.ntmps96
       go_wp2_with (go_at_call 92;refine (H1.out _).mono ?_;rintro e w' ⟨rfl,rfl⟩)
       go_ret
       exact ⟨rfl,rfl⟩
     · rw [Bool.true_and] at hR
       have HR:=hid hR
       clear hR h0
       go_enter Tryz.func96,Tryz.ntmps96
       go_wp2_with (go_at_call 92;refine (H1.out _).mono ?_;rintro e w' ⟨rfl,rfl⟩)
       go_loop [20] (fun i=>∃ k:Nat,i=.int .i64 k∧k<=l.length∧Hid (∀ j,j<k->runB (l.getD j 0)=true)) (fun i=>l.length - (intOf i).toNat)
       case atStart=>exact ⟨0,rfl,Nat.zero_le _,fun j h2=>by omega⟩
       case round =>
        obtain ⟨k,rfl,hk,HJ⟩:=hrel
        by_cases hlt:k<l.length
        · have hk' : (k:Int)<l.length:=by omega
          have hcs:({ data:=l.toArray } : ByteArray)[k]'hlt=l.getD k 0:=(getD_lt hlt).symm
          have HC:Hid (∀ w,Calls Tryz.prog 90 #[.int .u8 ((l.getD k 0).toNat:Int)] w fun e w'=>e=.returned (.bool (runB (l.getD k 0)))∧w'=w):=fun w=>isRun_any _ w
          have HV:Hid (runB (l.getD k 0)=runB (l.getD k 0)):=rfl
          cases hv:runB (l.getD k 0)
          · have HF:Hid (R=false):=by
             show _=_
             rw [<- HR.out]
             cases ha:l.all runB
             · rfl
             · have:=List.all_eq_true.1 ha _ (getD_mem hlt)
               rw [hv] at this;cases this
            rw [hv] at HC
            clear hv HV
            generalize l.getD k 0=d at *
            go_wp2_with (go_at_call 90;refine (HC.out _).mono ?_;rintro e w' ⟨rfl,rfl⟩)
            go_ret
            exact ⟨by rw [HF.out];rfl,rfl⟩
          · have Aa:Hid (∀ j,j<k+1->runB (l.getD j 0)=true):=fun j h2=>by
             rcases Nat.lt_or_ge j k with h3|h3
             · exact HJ.out j h3
             · obtain rfl:j=k:=by omega
               exact hv
            rw [hv] at HC
            clear hv HV
            generalize l.getD k 0=d at *
            go_wp2_with (go_at_call 90;refine (HC.out _).mono ?_;rintro e w' ⟨rfl,rfl⟩)
            go_round
            case rel=>exact ⟨k+1,by go_num,by omega,Aa.out⟩
            case measure=>simp [intOf];omega
        · obtain rfl:k=l.length:=by omega
          have HF:Hid (R=!zba l):=by
           show _=_
           rw [<- HR.out,List.all_eq_true.2 fun c hc=>?_]
           · rfl
           · obtain ⟨j,hj,rfl⟩:=List.getElem_of_mem hc
             rw [<- getD_lt hj];exact HJ.out j hj
          generalize zba l=b at *
          go_wp2_with (go_at_call 95;refine (HW.out _).mono ?_;rintro e w' ⟨rfl,rfl⟩)
          go_ret
          exact ⟨by rw [HF.out];rfl,rfl⟩
   · rw [show decide (l.length<=32)=false from decide_eq_false h32,Bool.false_and] at hR
     subst hR
     have h32' : decide ((32:Int)<l.length)=true:=decide_eq_true (by omega)
     go_enter Tryz.func96,Tryz.ntmps96
     go_wp2
     go_ret
     exact ⟨rfl,rfl⟩
end Go.Proofs.YtighggeokiahfaaGreatDoor.Lx
namespace Go.Proofs.YtighggeokiahfaaGreatDoor
open Go.RowKit Go.Lib
theorem info5_ex:∃ i:TypeInfo,Tryz.prog.info? 5=some i∧i.zero=some (.int .u8 0)∧i.size=1∧i.bytes=1 :=
 ⟨(Tryz.prog.info? 5).getD default,by kernel_rfl,by kernel_rfl,by kernel_rfl,by kernel_rfl⟩
theorem append_at (base:Nat) (v:Value) (n:Nat) (xs:List Value) (s:ByteArray) (w:World) (ty:TypeId) (hown:w.ownsRow base 5 1 v n xs) (hb:n+s.size<=140737488355328) (hbase:base<=w.heap.size) :
 ∃ v' w',(Builtin.append_ #[66,9] ty #[v,.string s]).run Tryz.prog w=.ok v' w'∧w'.ownsRow base 5 1 v' (n+s.size) (xs++strCells s)∧w.grownBy w' v.ownBlock∧(v'.ownBlock=v.ownBlock∨v'.ownBlock=some w.heap.size):=by
 have h63:n+s.size<=maxLen:=Nat.le_trans hb (by decide)
 obtain ⟨info5,info5_is,info5_zero,info5_size,info5_bytes⟩:=info5_ex
 obtain ⟨v',w',hr,h1,h2,h3⟩:=run_append_own_string (P:=Tryz.prog) w base 66 9 ty 5 info5 Tryz.underlying66 Tryz.underlying9 info5_is info5_zero info5_size info5_bytes v n xs hown s h63 hb hbase
 refine ⟨v',w',hr,h1,h2,?_⟩
 have hxl:xs.length=n:=by simpa using hown.1
 rcases hown.2 with ⟨rfl,rfl⟩|⟨g,cap,cur,rfl,hbg,hg,hnc,hcm,hcs,htake⟩
 · by_cases hm:s.size=0
   · left
     rw [h3.2 ⟨rfl,hm⟩]
   · right
     have hr2:=run_append_nil_string (P:=Tryz.prog) w 66 9 ty 5 info5 (.int .u8 0) Tryz.underlying66 Tryz.underlying9 info5_is info5_zero s (by omega) (by omega) (by rw [info5_bytes];omega)
     rw [hr2] at hr
     cases hr
     rfl
 · by_cases hroom:n+s.size<=cap
   · left
     have hr2:=run_append_room_string (P:=Tryz.prog) w 66 9 ty 5 info5 Tryz.underlying66 Tryz.underlying9 info5_is info5_size g n cap cur hg s hroom (by simp at hcs;omega)
     rw [hr2] at hr
     cases hr
     rfl
   · right
     have holds:∀ j u,xs[j]?=some u->w.cell? ((⟨g,0,none⟩:Addr).add j)=some u:=hown.cells (g:=g) rfl
     have hr2:=run_append_grow_string (P:=Tryz.prog) w 66 9 ty 5 info5 (.int .u8 0) Tryz.underlying66 Tryz.underlying9 info5_is info5_zero ⟨g,0,none⟩ n cap xs (by rw [info5_size];simpa using hxl) holds s (by omega) (by omega) (by rw [info5_bytes];exact growslice_fits (by omega) (by omega))
     rw [hr2] at hr
     cases hr
     rfl
/-- The operation, for a walk. -/
theorem zby {ops:Array Oper} {rest:List Oper} {o:Oper} {a:Act} {Q:Exit->Act->World->Prop} {w:World} (hgd:o.guard=none) (sl x:Operand)
 (ho:o.op=.call { callee:=.builtin .append,args:=#[sl,x],argTypes:=#[66,9] })
 (base:Nat) (v:Value) (n:Nat) (xs:List Value) (hs:a.eval sl=v) (hown:w.ownsRow base 5 1 v n xs) (s:ByteArray) (hx:a.eval x=.string s)
 (hb:n+s.size<=140737488355328) (hbase:base<=w.heap.size)
 (h:∀ v' w',w'.ownsRow base 5 1 v' (n+s.size) (xs++strCells s)->w.grownBy w' v.ownBlock->(v'.ownBlock=v.ownBlock∨v'.ownBlock=some w.heap.size)->wpList Tryz.prog ops Q rest (a.put o.dst v') w'):wpList Tryz.prog ops Q (o::rest) a w:=by
 refine wpList_plain hgd fun K hK=>?_
 obtain ⟨v',w',hr,h2,h3,h4⟩:=append_at base v n xs s w o.type hown hb hbase
 unfold Oper.wp execOp
 simp only [ho,resolve,invoke,builtin,Sem.run_bind,Sem.run_pure,Result.andThen_ok,List.map_toArray,List.map_cons,List.map_nil,hs,hx,hr]
 exact hK _ _ (h v' w' h2 h3 h4)
theorem bld50 (w:World):(Instr.build 50 #[(0,.int .i64 43)]).run Tryz.prog w=.ok (.agg #[.int .i64 43,.int .i64 0]) w:=by kernel_rfl
def za0:Ending:=.panicked [{ v:=.iface 50 (.agg #[.int .i64 43,.int .i64 0]),recovered:=false }]
theorem zbn (w:World):Calls Tryz.prog 58 #[.bool true] w fun e w'=>e=.returned (.tuple #[])∧w'=w:=by
 go_enter Tryz.func58,Tryz.ntmps58
 go_wp2
 first|go_end0|refine bodyPost_ret (results_none rfl _ _ _) rfl ?_
 exact ⟨rfl,rfl⟩
theorem zbd (w:World):Calls Tryz.prog 58 #[.bool false] w fun e w'=>e=za0∧w'=w:=by
 have q:=bld50
 go_enter Tryz.func58,Tryz.ntmps58
 go_wp2
 exact ⟨rfl,rfl,rfl⟩
theorem ze6 (c:Int) (w:World):Calls Tryz.prog 102 #[.int .u8 c] w fun e w'=>e=.returned (.bool (runP c))∧w'=w:=by
 obtain ⟨R,hR⟩:∃ R,runP c=R:=⟨_,rfl⟩
 rw [hR]
 have HR:=hid hR
 clear hR
 rcases (show c<48∨(48<=c∧c<=57)∨(57<c∧c<65)∨(65<=c∧c<=90)∨(90<c∧c<95)∨c=95∨c=96∨(97<=c∧c<=122)∨122<c by omega) with h|⟨h,h'⟩|⟨h,h'⟩|⟨h,h'⟩|⟨h,h'⟩|h|h|⟨h,h'⟩|h
 all_goals (
  go_enter Tryz.func102,Tryz.ntmps102
  go_wp2
  go_ret
  rw [<- HR.out]
  unfold runP ze5 zg7
  refine ⟨congrArg Ending.returned (congrArg Value.bool ?_),rfl⟩
  rw [Bool.eq_iff_iff]
  simp
  omega)
/-- the printer: what it has laid down, how many bodies are open -/
structure PR (w:World) (p:Nat) (txt:List UInt8) (d:Int) (v:Value):Prop where
 c0:w.cell? ⟨p,0,none⟩=some v
 c1:w.cell? ⟨p,1,none⟩=some (.int .i64 d)
 f0:w.frozen? ⟨p,0,none⟩=false
 f1:w.frozen? ⟨p,1,none⟩=false
 own:w.ownsRow (p+1) 5 1 v txt.length (txt.map fun b=>Value.int .u8 b.toNat)
theorem PR.lt {w:World} {p:Nat} {txt:List UInt8} {d:Int} {v:Value} (h:PR w p txt d v):p<w.heap.size:=zic h.c0
theorem PR.below {w w' : World} {p:Nat} {txt:List UInt8} {d:Int} {v:Value} (h:PR w p txt d v) (hB:Below w.heap.size w w'):PR w' p txt d v :=
 ⟨(zad (hB.block p h.lt) 0).1.trans h.c0,(zad (hB.block p h.lt) 1).1.trans h.c1,(zad (hB.block p h.lt) 0).2.trans h.f0,(zad (hB.block p h.lt) 1).2.trans h.f1,zfq h.own (fun g _ hl=>hB.block g hl)⟩
/-- what is laid down by tokens, or that it is too long -/
def layP:List (List UInt8)->List UInt8->Option (List UInt8)
 | [],txt=>some txt
 | t::ts,txt =>
  if ((if (decide (0<txt.length)&&runB (txt.getLastD 0)&&runB (t.getD 0 0)) then txt++[32] else txt)++t).length<=16000 then layP ts ((if (decide (0<txt.length)&&runB (txt.getLastD 0)&&runB (t.getD 0 0)) then txt++[32] else txt)++t) else none
end Go.Proofs.YtighggeokiahfaaGreatDoor
