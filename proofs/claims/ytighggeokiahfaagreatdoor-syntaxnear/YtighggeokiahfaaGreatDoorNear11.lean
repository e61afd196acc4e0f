import Derived.Test.YtighggeokiahfaaGreatDoorNear10
import Derived.Shelf.Strconv.Itoa0
import Derived.Shelf.Strconv.Itoa1
import Derived.Shelf.LaysM
import Derived.Shelf.Strconv.Itoa2
import Derived.Shelf.Strconv.Itoa3
import Derived.Test.YtighggeokiahfaaGreatDoorProg
import Derived.Lib.ItoaLen
import Derived.Laws.BytesArg
namespace Go.Proofs.YtighggeokiahfaaGreatDoor
open Go.RowKit Go.Lib
def bts (l:List UInt8):List Value:=l.map fun b=>Value.int .u8 b.toNat
theorem zf0 (a b:List UInt8):bts (a++b)=bts a++bts b:=by simp [bts]
/-- behind an append to the printer's text, stored -/
theorem PR.laid {w u w2:World} {p:Nat} {txt more:List UInt8} {d:Int} {v v2:Value} (h:PR w p txt d v) (hB:Below w.heap.size w u) (hg:u.grownBy w2 v.ownBlock) (ho:w2.ownsRow (p+1) 5 1 v2 (txt++more).length (bts (txt++more))) (hat:v2.ownBlock=v.ownBlock∨v2.ownBlock=some u.heap.size) :
 (w2.cell? ⟨p,0,none⟩=some v∧w2.frozen? ⟨p,0,none⟩=false)∧PR (w2.setCell ⟨p,0,none⟩ v2) p (txt++more) d v2∧Lx.Kept p v v2 w (w2.setCell ⟨p,0,none⟩ v2):=by
 have hu:=h.below hB
 have hne:some p≠v.ownBlock:=fun e=>by have:=(hu.own.lt p e.symm).1;omega
 have hne2:v2.ownBlock≠some p:=fun e=>by have:=(ho.lt p e).1;omega
 have hb:w2.heap[p]?=u.heap[p]?:=hg.block p hu.lt hne
 have hsc:∀ (k:Nat),k≠p->(w2.setCell ⟨p,0,none⟩ v2).heap[k]?=w2.heap[k]?:=fun k hk=>Below.heap_setCell _ _ _ k hk
 have hgs:w2.grownBy (w2.setCell ⟨p,0,none⟩ v2) (some p):=⟨rfl,rfl,rfl,by simp,fun k _ hk=>hsc k (fun e=>hk (by rw [e]))⟩
 refine ⟨⟨(zad hb 0).1.trans hu.c0,(zad hb 0).2.trans hu.f0⟩,⟨?_,?_,?_,?_,?_⟩,⟨?_,?_,?_,?_,?_,?_⟩⟩
 · exact World.cell?_setCell_same _ _ _ (by rw [(zad hb 0).1];exact hu.c0)
 · rw [World.cell?_setCell_other _ _ _ _ (by simp),(zad hb 1).1];exact hu.c1
 · rw [World.frozen?_setCell,(zad hb 0).2];exact hu.f0
 · rw [World.frozen?_setCell,(zad hb 1).2];exact hu.f1
 · exact ho.kept hgs (.inr hne2)
 · exact hg.os.trans hB.os
 · exact hg.tape.trans hB.tape
 · exact hg.output.trans hB.output
 · exact Nat.le_trans hB.size (Nat.le_trans hg.size hgs.size)
 · intro b hb1 hb2 hb3
   rw [hsc b hb2,hg.block b (Nat.lt_of_lt_of_le hb1 hB.size) hb3]
   exact hB.block b hb1
 · rcases hat with e|e
   · exact .inl e
   · exact .inr ⟨_,hB.size,e⟩
theorem idx0 (t:List UInt8) (h:t≠[]) (w:World):(Instr.index 9 (.string ⟨t.toArray⟩) (.int .i64 0)).run Tryz.prog w=.ok (.int .u8 (t.getD 0 0).toNat) w:=by
 cases t with
 | nil=>exact absurd rfl h
 | cons x r=>kernel_rfl
def zhy (txt t:List UInt8):Bool:=decide (0<txt.length)&&runB (txt.getLastD 0)&&runB (t.getD 0 0)
def oneP (txt t:List UInt8):List UInt8:=(if zhy txt t then txt++[32] else txt)++t
theorem layP_cons (t:List UInt8) (ts:List (List UInt8)) (txt:List UInt8):layP (t::ts) txt=if (oneP txt t).length<=16000 then layP ts (oneP txt t) else none:=by rw [layP];rfl
set_option maxHeartbeats 4000000 in
set_option maxRecDepth 4000 in
theorem zk5 (p b c:Nat) (ts:List (List UInt8)) (hts:∀ t∈ts,t≠[]∧t.length<=64) (hn:ts.length<=3) (txt0:List UInt8) (d:Int) (v0:Value) (w:World) (h:PR w p txt0 d v0) (hx:txt0.length<=16000) (hb:b≠p) (hbl:b<w.heap.size) (hbv:some b≠v0.ownBlock)
 (hw:∀ j (hj:j<ts.length),w.cell? ⟨b,j,none⟩=some (.string ⟨(ts[j]).toArray⟩)) :
 Calls Tryz.prog 61 #[.pointer (some ⟨p,0,none⟩),.slice (some ⟨b,0,none⟩) ts.length c] w fun e w'=>∃ v',Lx.Kept p v0 v' w w'∧((∃ x,layP ts txt0=some x∧e=.returned (.tuple #[])∧PR w' p x d v')∨(layP ts txt0=none∧e=za0)):=by
 obtain ⟨R,hR⟩:∃ R,layP ts txt0=R:=⟨_,rfl⟩
 rw [hR]
 have HR:=hid hR
 have Aw:=hid hts
 have H:=hid2 h hx
 have HB:=hid3 hb hbl hbv
 have HW:=hid hw
 obtain ⟨TN,hTN⟩:∃ x,ts.length=x:=⟨_,rfl⟩
 have Aq:Hid (ts.length=TN∧TN<=3):=⟨hTN,by omega⟩
 rw [hTN]
 clear hR hts h hx hb hbl hbv hw hn hTN
 go_enter Tryz.func61,Tryz.ntmps61
 go_wp2
 go_loopw [9] (fun i wr=>∃ (k:Nat) (txt:List UInt8) (v:Value),i=.int .i64 k∧k<=TN∧Hid (PR wr p txt d v∧txt.length<=16000)∧Hid (Lx.Kept p v0 v w wr)∧Hid (layP (ts.drop k) txt=R)) (fun i _=>TN - (RowKit.intOf i).toNat)
 case atStart=>exact ⟨0,txt0,v0,rfl,by omega,H,Lx.Kept.refl p v0 w,HR⟩
 case round =>
  obtain ⟨k,txt,v,rfl,hk,Ao,HK,HL⟩:=hrel
  by_cases hlt:k<TN
  · have hlt' : (k:Int)<TN:=by omega
    have hk3:(k:Int)<=3:=by have:=Aq.out;omega
    have hkl:k<ts.length:=by have:=Aq.out;omega
    obtain ⟨t,ht⟩:∃ t,ts[k]=t:=⟨_,rfl⟩
    have hc:wr.cell? ⟨b,k,none⟩=some (.string ⟨t.toArray⟩):=by
     rw [(zad (HK.out.block b HB.out.2.1 HB.out.1 HB.out.2.2) k).1,HW.out k hkl,ht]
    have Aj:Hid (t≠[]∧t.length<=64):=by show _∧_;rw [<- ht];exact Aw.out _ (List.getElem_mem hkl)
    have HD:Hid (ts.drop k=t::ts.drop (k+1)):=by show _=_;rw [List.drop_eq_getElem_cons hkl,ht]
    have Al:Hid (R=if (oneP txt t).length<=16000 then layP (ts.drop (k+1)) (oneP txt t) else none):=by
     show _=_
     rw [<- HL.out,HD.out,layP_cons]
    have Ap:=hid hlt
    clear ht hkl
    obtain ⟨ov,cv,hvs⟩:=Lx.own_form Ao.out.1.own
    obtain ⟨n,hn⟩:∃ n,txt.length=n:=⟨_,rfl⟩
    rw [hn] at hvs
    subst hvs
    have hn16:n<=16000:=hn ▸ Ao.out.2
    have Ac:=hid Ao.out.1
    have c0:=Ac.out.c0
    have f0:=Ac.out.f0
    have Ad:Hid (wr.ownsRow (p+1) 5 1 (.slice ov n cv) n (bts txt)):=by
     have:=Ac.out.own
     rw [hn] at this
     exact this
    have Ab:Hid (txt.length=n∧n<=16001):=⟨hn,by omega⟩
    clear hn
    by_cases hn0:n=0
    · have Ae:Hid (oneP txt t=txt++t):=by
       show _=_
       unfold oneP zhy
       rw [if_neg]
       have:=Ab.out.1
       simp
       intro h
       omega
      have hgt:¬ (0:Int)<n:=by omega
      have hgd:decide ((0:Int)<n)=false:=by simp;omega
      clear hn0
      by_cases hfit:n+t.length<=16000
      · have Aa:=hid hfit
        have hsz:(⟨t.toArray⟩:ByteArray).size=t.length:=rfl
        have hfi:(n:Int)+(t.length:Int)<=16000:=by omega
        have hfd:decide ((n:Int)+(t.length:Int)<=16000)=true:=by simp;omega
        clear hfit
        go_wp2_with (first|(at_builtin;refine zby rfl _ _ rfl (p+1) (.slice ov n cv) n (bts txt) rfl Ad.out ⟨t.toArray⟩ rfl (by have h1:=Aj.out.2;have h2:=Ab.out.2;have e:(⟨t.toArray⟩:ByteArray).size=t.length:=rfl;omega) (by have:=Ac.out.lt;omega) ?_;intro v2 w2 ho hg hat;obtain ⟨o2,c2,rfl⟩:=Lx.own_form ho;have hlaid:=PR.laid (more:=t) Ac.out (Below.refl _ _) hg (by rw [zf0,List.length_append,Ab.out.1];exact ho) hat;have q2:=hlaid.1.1;have f2:=hlaid.1.2;have Ag:Hid (PR (w2.setCell ⟨p,0,none⟩ (.slice o2 (n+(⟨t.toArray⟩:ByteArray).size) c2)) p (txt++t) d (.slice o2 (n+(⟨t.toArray⟩:ByteArray).size) c2)∧Lx.Kept p (.slice ov n cv) (.slice o2 (n+(⟨t.toArray⟩:ByteArray).size) c2) wr (w2.setCell ⟨p,0,none⟩ (.slice o2 (n+(⟨t.toArray⟩:ByteArray).size) c2))):=hlaid.2;clear ho hg hat hlaid))
        refine (zbn _).mono ?_
        rintro e w8 ⟨rfl,rfl⟩
        have Ah:Hid (layP (ts.drop (k+1)) (txt++t)=R):=by
         show _=_
         rw [Al.out,Ae.out,if_pos (by rw [List.length_append,Ab.out.1];exact Aa.out)]
        have An:Hid (PR (w2.setCell ⟨p,0,none⟩ (.slice o2 (n+t.length) c2)) p (txt++t) d (.slice o2 (n+t.length) c2)∧(txt++t).length<=16000):=⟨Ag.out.1,by rw [List.length_append,Ab.out.1];exact Aa.out⟩
        have Ai:=hid (HK.out.trans Ag.out.2)
        go_wp2
        go_roundw
        case rel=>exact ⟨k+1,txt++t,(.slice o2 (n+t.length) c2),by go_num,Ap.out,An,Ai,Ah⟩
        case measure=>simp [RowKit.intOf];omega
      · have Aa:=hid hfit
        have hsz:(⟨t.toArray⟩:ByteArray).size=t.length:=rfl
        have hfi:¬ (n:Int)+(t.length:Int)<=16000:=by omega
        have hfd:decide ((n:Int)+(t.length:Int)<=16000)=false:=by simp;omega
        clear hfit
        go_wp2_with (first|(at_builtin;refine zby rfl _ _ rfl (p+1) (.slice ov n cv) n (bts txt) rfl Ad.out ⟨t.toArray⟩ rfl (by have h1:=Aj.out.2;have h2:=Ab.out.2;have e:(⟨t.toArray⟩:ByteArray).size=t.length:=rfl;omega) (by have:=Ac.out.lt;omega) ?_;intro v2 w2 ho hg hat;obtain ⟨o2,c2,rfl⟩:=Lx.own_form ho;have hlaid:=PR.laid (more:=t) Ac.out (Below.refl _ _) hg (by rw [zf0,List.length_append,Ab.out.1];exact ho) hat;have q2:=hlaid.1.1;have f2:=hlaid.1.2;have Ag:Hid (PR (w2.setCell ⟨p,0,none⟩ (.slice o2 (n+(⟨t.toArray⟩:ByteArray).size) c2)) p (txt++t) d (.slice o2 (n+(⟨t.toArray⟩:ByteArray).size) c2)∧Lx.Kept p (.slice ov n cv) (.slice o2 (n+(⟨t.toArray⟩:ByteArray).size) c2) wr (w2.setCell ⟨p,0,none⟩ (.slice o2 (n+(⟨t.toArray⟩:ByteArray).size) c2))):=hlaid.2;clear ho hg hat hlaid))
        refine (zbd _).mono ?_
        rintro e w8 ⟨he,rfl⟩
        unfold za0 at he
        subst he
        have Ah:Hid (R=none):=by
         show _=_
         rw [Al.out,Ae.out,if_neg (by rw [List.length_append,Ab.out.1];exact Aa.out)]
        have Ai:=hid (HK.out.trans Ag.out.2)
        go_wp2
        exact ⟨rfl,(.slice o2 (n+t.length) c2),Ai.out,Or.inr ⟨Ah.out,rfl⟩⟩
    · obtain ⟨tx,lst,hcat⟩:∃ tx lst,txt=tx++[lst]:=by
       rcases List.eq_nil_or_concat txt with h|⟨a,b',h⟩
       · have:=Ab.out.1
         rw [h] at this
         simp at this
         omega
       · exact ⟨a,b',by rw [h,List.concat_eq_append]⟩
      obtain ⟨m,hm⟩:∃ m,tx.length=m:=⟨_,rfl⟩
      have hnm:n=m+1:=by rw [<- Ab.out.1,hcat,List.length_append,hm];rfl
      subst hnm
      obtain ⟨g,cap',hsl,_,_⟩:=Ad.out.form (by omega)
      cases hsl
      have hl:wr.cell? ⟨g,m,none⟩=some (.int .u8 lst.toNat):=by
       rw [Ad.out.cellAt m (by omega),hcat,zf0]
       unfold bts
       rw [List.getElem?_append_right (by simp [hm]),List.length_map,hm,Nat.sub_self]
       rfl
      have Au:Hid (txt.getLastD 0=lst):=by show _=_;rw [hcat];simp
      obtain ⟨ct,hct⟩:∃ x,t.getD 0 0=x:=⟨_,rfl⟩
      have Av:=hid hct
      have hix:∀ w,(Instr.index 9 (.string ⟨t.toArray⟩) (.int .i64 0)).run Tryz.prog w=.ok (.int .u8 ct.toNat) w:=fun w=>by rw [<- hct];exact idx0 t Aj.out.1 w
      clear hct
      have hgt:(0:Int)<((m+1:Nat):Int):=by omega
      have hmb:(m:Int)<=16000:=by omega
      clear hn0 hm hcat
      cases hlr:runB lst
      · have hrl:runP (lst.toNat:Int)=false:=hlr
        have Ae:Hid (oneP txt t=txt++t):=by
         show _=_
         unfold oneP zhy
         rw [Au.out,hlr,if_neg (by simp)]
        clear hlr
        by_cases hfit:(m+1)+t.length<=16000
        · have Aa:=hid hfit
          have hsz:(⟨t.toArray⟩:ByteArray).size=t.length:=rfl
          have hfi:((m:Int)+1)+(t.length:Int)<=16000:=by omega
          have hfd:decide (((m:Int)+1)+(t.length:Int)<=16000)=true:=by simp;omega
          clear hfit
          go_wp2_with (first|(at_builtin;refine zby rfl _ _ rfl (p+1) (.slice (some ⟨g,0,none⟩) (m+1) cv) (m+1) (bts txt) rfl Ad.out ⟨t.toArray⟩ rfl (by have h1:=Aj.out.2;have h2:=Ab.out.2;have e:(⟨t.toArray⟩:ByteArray).size=t.length:=rfl;omega) (by have:=Ac.out.lt;omega) ?_;intro v2 w2 ho hg hat;obtain ⟨o2,c2,rfl⟩:=Lx.own_form ho;have hlaid:=PR.laid (more:=t) Ac.out (Below.refl _ _) hg (by rw [zf0,List.length_append,Ab.out.1];exact ho) hat;have q2:=hlaid.1.1;have f2:=hlaid.1.2;have Ag:Hid (PR (w2.setCell ⟨p,0,none⟩ (.slice o2 ((m+1)+(⟨t.toArray⟩:ByteArray).size) c2)) p (txt++t) d (.slice o2 ((m+1)+(⟨t.toArray⟩:ByteArray).size) c2)∧Lx.Kept p (.slice (some ⟨g,0,none⟩) (m+1) cv) (.slice o2 ((m+1)+(⟨t.toArray⟩:ByteArray).size) c2) wr (w2.setCell ⟨p,0,none⟩ (.slice o2 ((m+1)+(⟨t.toArray⟩:ByteArray).size) c2))):=hlaid.2;clear ho hg hat hlaid)| (go_at_call 102;refine (ze6 _ _).mono ?_;rintro e wi ⟨rfl,hwi⟩;rw [hwi];clear hwi wi))
          refine (zbn _).mono ?_
          rintro e w8 ⟨rfl,rfl⟩
          have Ah:Hid (layP (ts.drop (k+1)) (txt++t)=R):=by
           show _=_
           rw [Al.out,Ae.out,if_pos (by rw [List.length_append,Ab.out.1];exact Aa.out)]
          have An:Hid (PR (w2.setCell ⟨p,0,none⟩ (.slice o2 ((m+1)+t.length) c2)) p (txt++t) d (.slice o2 ((m+1)+t.length) c2)∧(txt++t).length<=16000):=⟨Ag.out.1,by rw [List.length_append,Ab.out.1];exact Aa.out⟩
          have Ai:=hid (HK.out.trans Ag.out.2)
          go_wp2
          go_roundw
          case rel=>exact ⟨k+1,txt++t,(.slice o2 ((m+1)+t.length) c2),by go_num,Ap.out,An,Ai,Ah⟩
          case measure=>simp [RowKit.intOf];omega
        · have Aa:=hid hfit
          have hsz:(⟨t.toArray⟩:ByteArray).size=t.length:=rfl
          have hfi:¬ ((m:Int)+1)+(t.length:Int)<=16000:=by omega
          have hfd:decide (((m:Int)+1)+(t.length:Int)<=16000)=false:=by simp;omega
          clear hfit
          go_wp2_with (first|(at_builtin;refine zby rfl _ _ rfl (p+1) (.slice (some ⟨g,0,none⟩) (m+1) cv) (m+1) (bts txt) rfl Ad.out ⟨t.toArray⟩ rfl (by have h1:=Aj.out.2;have h2:=Ab.out.2;have e:(⟨t.toArray⟩:ByteArray).size=t.length:=rfl;omega) (by have:=Ac.out.lt;omega) ?_;intro v2 w2 ho hg hat;obtain ⟨o2,c2,rfl⟩:=Lx.own_form ho;have hlaid:=PR.laid (more:=t) Ac.out (Below.refl _ _) hg (by rw [zf0,List.length_append,Ab.out.1];exact ho) hat;have q2:=hlaid.1.1;have f2:=hlaid.1.2;have Ag:Hid (PR (w2.setCell ⟨p,0,none⟩ (.slice o2 ((m+1)+(⟨t.toArray⟩:ByteArray).size) c2)) p (txt++t) d (.slice o2 ((m+1)+(⟨t.toArray⟩:ByteArray).size) c2)∧Lx.Kept p (.slice (some ⟨g,0,none⟩) (m+1) cv) (.slice o2 ((m+1)+(⟨t.toArray⟩:ByteArray).size) c2) wr (w2.setCell ⟨p,0,none⟩ (.slice o2 ((m+1)+(⟨t.toArray⟩:ByteArray).size) c2))):=hlaid.2;clear ho hg hat hlaid)| (go_at_call 102;refine (ze6 _ _).mono ?_;rintro e wi ⟨rfl,hwi⟩;rw [hwi];clear hwi wi))
          refine (zbd _).mono ?_
          rintro e w8 ⟨he,rfl⟩
          unfold za0 at he
          subst he
          have Ah:Hid (R=none):=by
           show _=_
           rw [Al.out,Ae.out,if_neg (by rw [List.length_append,Ab.out.1];exact Aa.out)]
          have Ai:=hid (HK.out.trans Ag.out.2)
          go_wp2
          exact ⟨rfl,(.slice o2 ((m+1)+t.length) c2),Ai.out,Or.inr ⟨Ah.out,rfl⟩⟩
      · have hrl:runP (lst.toNat:Int)=true:=hlr
        cases htr:runB ct
        · have hrt:runP (ct.toNat:Int)=false:=htr
          have Ae:Hid (oneP txt t=txt++t):=by
           show _=_
           unfold oneP zhy
           rw [Av.out,htr,if_neg (by simp)]
          clear hlr htr
          by_cases hfit:(m+1)+t.length<=16000
          · have Aa:=hid hfit
            have hsz:(⟨t.toArray⟩:ByteArray).size=t.length:=rfl
            have hfi:((m:Int)+1)+(t.length:Int)<=16000:=by omega
            have hfd:decide (((m:Int)+1)+(t.length:Int)<=16000)=true:=by simp;omega
            clear hfit
            go_wp2_with (first|(at_builtin;refine zby rfl _ _ rfl (p+1) (.slice (some ⟨g,0,none⟩) (m+1) cv) (m+1) (bts txt) rfl Ad.out ⟨t.toArray⟩ rfl (by have h1:=Aj.out.2;have h2:=Ab.out.2;have e:(⟨t.toArray⟩:ByteArray).size=t.length:=rfl;omega) (by have:=Ac.out.lt;omega) ?_;intro v2 w2 ho hg hat;obtain ⟨o2,c2,rfl⟩:=Lx.own_form ho;have hlaid:=PR.laid (more:=t) Ac.out (Below.refl _ _) hg (by rw [zf0,List.length_append,Ab.out.1];exact ho) hat;have q2:=hlaid.1.1;have f2:=hlaid.1.2;have Ag:Hid (PR (w2.setCell ⟨p,0,none⟩ (.slice o2 ((m+1)+(⟨t.toArray⟩:ByteArray).size) c2)) p (txt++t) d (.slice o2 ((m+1)+(⟨t.toArray⟩:ByteArray).size) c2)∧Lx.Kept p (.slice (some ⟨g,0,none⟩) (m+1) cv) (.slice o2 ((m+1)+(⟨t.toArray⟩:ByteArray).size) c2) wr (w2.setCell ⟨p,0,none⟩ (.slice o2 ((m+1)+(⟨t.toArray⟩:ByteArray).size) c2))):=hlaid.2;clear ho hg hat hlaid)| (go_at_call 102;refine (ze6 _ _).mono ?_;rintro e wi ⟨rfl,hwi⟩;rw [hwi];clear hwi wi))
            refine (zbn _).mono ?_
            rintro e w8 ⟨rfl,rfl⟩
            have Ah:Hid (layP (ts.drop (k+1)) (txt++t)=R):=by
             show _=_
             rw [Al.out,Ae.out,if_pos (by rw [List.length_append,Ab.out.1];exact Aa.out)]
            have An:Hid (PR (w2.setCell ⟨p,0,none⟩ (.slice o2 ((m+1)+t.length) c2)) p (txt++t) d (.slice o2 ((m+1)+t.length) c2)∧(txt++t).length<=16000):=⟨Ag.out.1,by rw [List.length_append,Ab.out.1];exact Aa.out⟩
            have Ai:=hid (HK.out.trans Ag.out.2)
            go_wp2
            go_roundw
            case rel=>exact ⟨k+1,txt++t,(.slice o2 ((m+1)+t.length) c2),by go_num,Ap.out,An,Ai,Ah⟩
            case measure=>simp [RowKit.intOf];omega
          · have Aa:=hid hfit
            have hsz:(⟨t.toArray⟩:ByteArray).size=t.length:=rfl
            have hfi:¬ ((m:Int)+1)+(t.length:Int)<=16000:=by omega
            have hfd:decide (((m:Int)+1)+(t.length:Int)<=16000)=false:=by simp;omega
            clear hfit
            go_wp2_with (first|(at_builtin;refine zby rfl _ _ rfl (p+1) (.slice (some ⟨g,0,none⟩) (m+1) cv) (m+1) (bts txt) rfl Ad.out ⟨t.toArray⟩ rfl (by have h1:=Aj.out.2;have h2:=Ab.out.2;have e:(⟨t.toArray⟩:ByteArray).size=t.length:=rfl;omega) (by have:=Ac.out.lt;omega) ?_;intro v2 w2 ho hg hat;obtain ⟨o2,c2,rfl⟩:=Lx.own_form ho;have hlaid:=PR.laid (more:=t) Ac.out (Below.refl _ _) hg (by rw [zf0,List.length_append,Ab.out.1];exact ho) hat;have q2:=hlaid.1.1;have f2:=hlaid.1.2;have Ag:Hid (PR (w2.setCell ⟨p,0,none⟩ (.slice o2 ((m+1)+(⟨t.toArray⟩:ByteArray).size) c2)) p (txt++t) d (.slice o2 ((m+1)+(⟨t.toArray⟩:ByteArray).size) c2)∧Lx.Kept p (.slice (some ⟨g,0,none⟩) (m+1) cv) (.slice o2 ((m+1)+(⟨t.toArray⟩:ByteArray).size) c2) wr (w2.setCell ⟨p,0,none⟩ (.slice o2 ((m+1)+(⟨t.toArray⟩:ByteArray).size) c2))):=hlaid.2;clear ho hg hat hlaid)| (go_at_call 102;refine (ze6 _ _).mono ?_;rintro e wi ⟨rfl,hwi⟩;rw [hwi];clear hwi wi))
            refine (zbd _).mono ?_
            rintro e w8 ⟨he,rfl⟩
            unfold za0 at he
            subst he
            have Ah:Hid (R=none):=by
             show _=_
             rw [Al.out,Ae.out,if_neg (by rw [List.length_append,Ab.out.1];exact Aa.out)]
            have Ai:=hid (HK.out.trans Ag.out.2)
            go_wp2
            exact ⟨rfl,(.slice o2 ((m+1)+t.length) c2),Ai.out,Or.inr ⟨Ah.out,rfl⟩⟩
        · have hrt:runP (ct.toNat:Int)=true:=htr
          have Ae:Hid (oneP txt t=(txt++[32])++t):=by
           show _=_
           unfold oneP zhy
           rw [Au.out,Av.out,hlr,htr,if_pos]
           have:=Ab.out.1
           simp
           omega
          obtain ⟨inf,hi1,hi2,hi3,hi4⟩:=info5_ex
          have HI:=hid4 hi1 hi2 hi3 hi4
          have Ak:=hid Ac
          have Am:=hid Ad
          have Af:=hid2 Ab.out.1 hn16
          clear hlr htr Ac Ad Ab hi1 hi2 hi3 hi4
          by_cases hfit:(m+1+1)+t.length<=16000
          · have Aa:=hid hfit
            have hsz:(⟨t.toArray⟩:ByteArray).size=t.length:=rfl
            have hfi:((m:Int)+1+1)+(t.length:Int)<=16000:=by omega
            have hfd:decide (((m:Int)+1+1)+(t.length:Int)<=16000)=true:=by simp;omega
            clear hfit
            go_wp2_with (first|(at_builtin;refine zby rfl _ _ rfl (p+1) (.slice (some ⟨gq,0,none⟩) (m+1+1) cq) (m+1+1) (bts (txt++[32])) rfl Ad.out ⟨t.toArray⟩ rfl (by have h1:=Aj.out.2;have h2:=Ab.out.2;have e:(⟨t.toArray⟩:ByteArray).size=t.length:=rfl;omega) (by have:=Ac.out.lt;omega) ?_;intro v2 w2 ho hg hat;obtain ⟨o2,c2,rfl⟩:=Lx.own_form ho;have hlaid:=PR.laid (more:=t) Ac.out (Below.refl _ _) hg (by rw [zf0,List.length_append,Ab.out.1];exact ho) hat;have q2:=hlaid.1.1;have f2:=hlaid.1.2;have Ag:Hid (PR (w2.setCell ⟨p,0,none⟩ (.slice o2 ((m+1+1)+(⟨t.toArray⟩:ByteArray).size) c2)) p ((txt++[32])++t) d (.slice o2 ((m+1+1)+(⟨t.toArray⟩:ByteArray).size) c2)∧Lx.Kept p (.slice (some ⟨gq,0,none⟩) (m+1+1) cq) (.slice o2 ((m+1+1)+(⟨t.toArray⟩:ByteArray).size) c2) wg (w2.setCell ⟨p,0,none⟩ (.slice o2 ((m+1+1)+(⟨t.toArray⟩:ByteArray).size) c2))):=hlaid.2;clear ho hg hat hlaid)| (go_at_call 102;refine (ze6 _ _).mono ?_;rintro e wi ⟨rfl,hwi⟩;rw [hwi];clear hwi wi)| (at_builtin;refine wpList_append_lies _ rfl _ _ 66 rfl (p+1) 5 inf (.int .u8 0) 1 1 Tryz.underlying66 HI.out.1 HI.out.2.1 HI.out.2.2.1 HI.out.2.2.2 rfl (by decide) (.slice (some ⟨g,0,none⟩) (m+1) cv) (m+1) (bts txt) rfl (zfq Am.out (fun q _ hl=>Below.heap_alloc _ _ q hl)) ⟨wr.heap.size,0,none⟩ 1 1 [.int .u8 32] rfl rfl (World.news_of_block (cs:=#[.int .u8 32]) (t:=5) (fr:=(0,0)) (heap_alloc_new _ _)) (by simp [Value.oneCell']) (by decide) (by have:=Af.out;unfold maxLen;omega) (by have:=Af.out;omega) (by have:=Ak.out.lt;simp;omega) _ rfl ?_;intro gq cq w1 hown hgrow hat hlt;have hlaid:=PR.laid (more:=[32]) Ak.out (zac wr (.cells #[.int .u8 32] 5)) hgrow (by rw [zf0,List.length_append,Af.out.1];exact hown) (by rcases hat with e|e;exact Or.inl e.symm;exact Or.inr (by rw [e];rfl));have q1:=hlaid.1.1;have f1:=hlaid.1.2;obtain ⟨wg,hwg⟩:∃ x,w1.setCell ⟨p,0,none⟩ (.slice (some ⟨gq,0,none⟩) (m+1+1) cq)=x:=⟨_,rfl⟩;have hl2:=hlaid.2;rw [hwg] at hl2;have Ac:Hid (PR wg p (txt++[32]) d (.slice (some ⟨gq,0,none⟩) (m+1+1) cq)):=hl2.1;have Ar:Hid (Lx.Kept p v0 (.slice (some ⟨gq,0,none⟩) (m+1+1) cq) w wg):=HK.out.trans hl2.2;have gc0:=Ac.out.c0;have gf0:=Ac.out.f0;have Ab:Hid ((txt++[32]).length=m+1+1∧m+1+1<=16001):=⟨by rw [List.length_append,Af.out.1];rfl,by have:=Af.out;omega⟩;have Ad:Hid (wg.ownsRow (p+1) 5 1 (.slice (some ⟨gq,0,none⟩) (m+1+1) cq) (m+1+1) (bts (txt++[32]))):=(by have h9:=Ac.out.own;rw [Ab.out.1] at h9;exact h9);clear hown hgrow hat hlt hlaid hl2))
            refine (zbn _).mono ?_
            rintro e w8 ⟨rfl,rfl⟩
            have Ah:Hid (layP (ts.drop (k+1)) ((txt++[32])++t)=R):=by
             show _=_
             rw [Al.out,Ae.out,if_pos (by rw [List.length_append,Ab.out.1];exact Aa.out)]
            have An:Hid (PR (w2.setCell ⟨p,0,none⟩ (.slice o2 ((m+1+1)+t.length) c2)) p ((txt++[32])++t) d (.slice o2 ((m+1+1)+t.length) c2)∧((txt++[32])++t).length<=16000):=⟨Ag.out.1,by rw [List.length_append,Ab.out.1];exact Aa.out⟩
            have Ai:=hid (Ar.out.trans Ag.out.2)
            go_wp2
            go_roundw
            case rel=>exact ⟨k+1,(txt++[32])++t,(.slice o2 ((m+1+1)+t.length) c2),by go_num,Ap.out,An,Ai,Ah⟩
            case measure=>simp [RowKit.intOf];omega
          · have Aa:=hid hfit
            have hsz:(⟨t.toArray⟩:ByteArray).size=t.length:=rfl
            have hfi:¬ ((m:Int)+1+1)+(t.length:Int)<=16000:=by omega
            have hfd:decide (((m:Int)+1+1)+(t.length:Int)<=16000)=false:=by simp;omega
            clear hfit
            go_wp2_with (first|(at_builtin;refine zby rfl _ _ rfl (p+1) (.slice (some ⟨gq,0,none⟩) (m+1+1) cq) (m+1+1) (bts (txt++[32])) rfl Ad.out ⟨t.toArray⟩ rfl (by have h1:=Aj.out.2;have h2:=Ab.out.2;have e:(⟨t.toArray⟩:ByteArray).size=t.length:=rfl;omega) (by have:=Ac.out.lt;omega) ?_;intro v2 w2 ho hg hat;obtain ⟨o2,c2,rfl⟩:=Lx.own_form ho;have hlaid:=PR.laid (more:=t) Ac.out (Below.refl _ _) hg (by rw [zf0,List.length_append,Ab.out.1];exact ho) hat;have q2:=hlaid.1.1;have f2:=hlaid.1.2;have Ag:Hid (PR (w2.setCell ⟨p,0,none⟩ (.slice o2 ((m+1+1)+(⟨t.toArray⟩:ByteArray).size) c2)) p ((txt++[32])++t) d (.slice o2 ((m+1+1)+(⟨t.toArray⟩:ByteArray).size) c2)∧Lx.Kept p (.slice (some ⟨gq,0,none⟩) (m+1+1) cq) (.slice o2 ((m+1+1)+(⟨t.toArray⟩:ByteArray).size) c2) wg (w2.setCell ⟨p,0,none⟩ (.slice o2 ((m+1+1)+(⟨t.toArray⟩:ByteArray).size) c2))):=hlaid.2;clear ho hg hat hlaid)| (go_at_call 102;refine (ze6 _ _).mono ?_;rintro e wi ⟨rfl,hwi⟩;rw [hwi];clear hwi wi)| (at_builtin;refine wpList_append_lies _ rfl _ _ 66 rfl (p+1) 5 inf (.int .u8 0) 1 1 Tryz.underlying66 HI.out.1 HI.out.2.1 HI.out.2.2.1 HI.out.2.2.2 rfl (by decide) (.slice (some ⟨g,0,none⟩) (m+1) cv) (m+1) (bts txt) rfl (zfq Am.out (fun q _ hl=>Below.heap_alloc _ _ q hl)) ⟨wr.heap.size,0,none⟩ 1 1 [.int .u8 32] rfl rfl (World.news_of_block (cs:=#[.int .u8 32]) (t:=5) (fr:=(0,0)) (heap_alloc_new _ _)) (by simp [Value.oneCell']) (by decide) (by have:=Af.out;unfold maxLen;omega) (by have:=Af.out;omega) (by have:=Ak.out.lt;simp;omega) _ rfl ?_;intro gq cq w1 hown hgrow hat hlt;have hlaid:=PR.laid (more:=[32]) Ak.out (zac wr (.cells #[.int .u8 32] 5)) hgrow (by rw [zf0,List.length_append,Af.out.1];exact hown) (by rcases hat with e|e;exact Or.inl e.symm;exact Or.inr (by rw [e];rfl));have q1:=hlaid.1.1;have f1:=hlaid.1.2;obtain ⟨wg,hwg⟩:∃ x,w1.setCell ⟨p,0,none⟩ (.slice (some ⟨gq,0,none⟩) (m+1+1) cq)=x:=⟨_,rfl⟩;have hl2:=hlaid.2;rw [hwg] at hl2;have Ac:Hid (PR wg p (txt++[32]) d (.slice (some ⟨gq,0,none⟩) (m+1+1) cq)):=hl2.1;have Ar:Hid (Lx.Kept p v0 (.slice (some ⟨gq,0,none⟩) (m+1+1) cq) w wg):=HK.out.trans hl2.2;have gc0:=Ac.out.c0;have gf0:=Ac.out.f0;have Ab:Hid ((txt++[32]).length=m+1+1∧m+1+1<=16001):=⟨by rw [List.length_append,Af.out.1];rfl,by have:=Af.out;omega⟩;have Ad:Hid (wg.ownsRow (p+1) 5 1 (.slice (some ⟨gq,0,none⟩) (m+1+1) cq) (m+1+1) (bts (txt++[32]))):=(by have h9:=Ac.out.own;rw [Ab.out.1] at h9;exact h9);clear hown hgrow hat hlt hlaid hl2))
            refine (zbd _).mono ?_
            rintro e w8 ⟨he,rfl⟩
            unfold za0 at he
            subst he
            have Ah:Hid (R=none):=by
             show _=_
             rw [Al.out,Ae.out,if_neg (by rw [List.length_append,Ab.out.1];exact Aa.out)]
            have Ai:=hid (Ar.out.trans Ag.out.2)
            go_wp2
            exact ⟨rfl,(.slice o2 ((m+1+1)+t.length) c2),Ai.out,Or.inr ⟨Ah.out,rfl⟩⟩
  · have hke:k=TN:=by omega
    subst hke
    have hk' : ¬ (k:Int)<k:=by omega
    have Ax:Hid (R=some txt):=by
     show _=_
     rw [<- HL.out,List.drop_of_length_le (by have:=Aq.out;omega)]
     rfl
    go_wp2
    first|go_end0|refine bodyPost_ret (results_none rfl _ _ _) rfl ?_
    rw [Ax.out]
    exact ⟨v,HK.out,Or.inl ⟨txt,rfl,rfl,Ao.out.1⟩⟩
inductive ITree where
 | node (k:Int) (n:List UInt8) (m a:Int) (ks:List ITree)
def ITree.kind:ITree->Int|.node k _ _ _ _=>k
def ITree.name:ITree->List UInt8|.node _ n _ _ _=>n
def ITree.num:ITree->Int|.node _ _ m _ _=>m
def ITree.place:ITree->Int|.node _ _ _ a _=>a
def ITree.kids:ITree->List ITree|.node _ _ _ _ ks=>ks
def zc7 (k:Int) (n:List UInt8) (m a:Int) (sl:Value):Value:=.agg #[.int .i64 k,.string ⟨n.toArray⟩,.int .i64 m,.int .i64 a,sl]
def zje (k:Int) (n:List UInt8) (m a:Int) (sl:Value):Obj:=.cells #[.int .i64 k,.string ⟨n.toArray⟩,.int .i64 m,.int .i64 a,sl] 29 (0,0)
theorem za5 {w:World} {b:Nat} {k m a:Int} {n:List UInt8} {sl:Value} (h:w.heap[b]?=some (zje k n m a sl)) :
 (w.cell? ⟨b,0,none⟩=some (.int .i64 k)∧w.cell? ⟨b,1,none⟩=some (.string ⟨n.toArray⟩)∧w.cell? ⟨b,2,none⟩=some (.int .i64 m)∧w.cell? ⟨b,3,none⟩=some (.int .i64 a)∧w.cell? ⟨b,4,none⟩=some sl) ∧
 (w.frozen? ⟨b,0,none⟩=false∧w.frozen? ⟨b,1,none⟩=false∧w.frozen? ⟨b,2,none⟩=false∧w.frozen? ⟨b,3,none⟩=false∧w.frozen? ⟨b,4,none⟩=false):=by
 unfold World.cell? World.frozen?
 simp only [h]
 exact ⟨⟨rfl,rfl,rfl,rfl,rfl⟩,rfl,rfl,rfl,rfl,rfl⟩
mutual
def zif (B:Nat) (w:World):ITree->Value->Prop
 | .node k n m a ks,v=>∃ o c,v=zc7 k n m a (.slice o ks.length c)∧ks.length<=c∧c<=maxLen∧n.length<=maxLen∧(-9223372036854775808<=m∧m<=9223372036854775807)∧(ks=[]∨∃ g,o=some ⟨g,0,none⟩∧g<B∧RowR B w g 0 ks)
def RowR (B:Nat) (w:World) (g:Nat):Nat->List ITree->Prop
 | _,[]=>True
 | j,t::ts=>(∃ v0 v1 v2 v3 v4,(w.cell? ⟨g,j*5,none⟩=some v0∧w.cell? ⟨g,j*5+1,none⟩=some v1∧w.cell? ⟨g,j*5+2,none⟩=some v2∧w.cell? ⟨g,j*5+3,none⟩=some v3∧w.cell? ⟨g,j*5+4,none⟩=some v4)∧zif B w t (.agg #[v0,v1,v2,v3,v4]))∧RowR B w g (j+1) ts
end
theorem zfo {B:Nat} {w:World} {k m a:Int} {n:List UInt8} {ks:List ITree} {v:Value} : zif B w (.node k n m a ks) v↔∃ o c,v=zc7 k n m a (.slice o ks.length c)∧ks.length<=c∧c<=maxLen∧n.length<=maxLen∧(-9223372036854775808<=m∧m<=9223372036854775807)∧(ks=[]∨∃ g,o=some ⟨g,0,none⟩∧g<B∧RowR B w g 0 ks):=by rw [zif]
theorem ziq {B:Nat} {w:World} {g j:Nat} {t:ITree} {ts:List ITree} : RowR B w g j (t::ts)↔(∃ v0 v1 v2 v3 v4,(w.cell? ⟨g,j*5,none⟩=some v0∧w.cell? ⟨g,j*5+1,none⟩=some v1∧w.cell? ⟨g,j*5+2,none⟩=some v2∧w.cell? ⟨g,j*5+3,none⟩=some v3∧w.cell? ⟨g,j*5+4,none⟩=some v4)∧zif B w t (.agg #[v0,v1,v2,v3,v4]))∧RowR B w g (j+1) ts:=by rw [RowR]
mutual
theorem zif.frame {B B' : Nat} {w w' : World} (hB:B<=B') (h:∀ b,b<B->w'.heap[b]?=w.heap[b]?):(t:ITree)->(v:Value)->zif B w t v->zif B' w' t v
 | .node k n m a ks,v,ht=>by
  rw [zfo] at ht ⊢
  obtain ⟨o,c,h1,h2,h3,h4,h5,h6⟩:=ht
  refine ⟨o,c,h1,h2,h3,h4,h5,?_⟩
  rcases h6 with h6|⟨g,h7,h8,h9⟩
  · exact Or.inl h6
  · exact Or.inr ⟨g,h7,Nat.lt_of_lt_of_le h8 hB,RowR.frame hB h g h8 0 ks h9⟩
theorem RowR.frame {B B' : Nat} {w w' : World} (hB:B<=B') (h:∀ b,b<B->w'.heap[b]?=w.heap[b]?) (g:Nat) (hg:g<B):(j:Nat)->(ts:List ITree)->RowR B w g j ts->RowR B' w' g j ts
 | _,[],_=>by rw [RowR];trivial
 | j,t::ts,hr=>by
  rw [ziq] at hr ⊢
  obtain ⟨⟨v0,v1,v2,v3,v4,⟨c0,c1,c2,c3,c4⟩,ht⟩,hs⟩:=hr
  have hgg:=h g hg
  exact ⟨⟨v0,v1,v2,v3,v4,⟨(zad hgg _).1.trans c0,(zad hgg _).1.trans c1,(zad hgg _).1.trans c2,(zad hgg _).1.trans c3,(zad hgg _).1.trans c4⟩,zif.frame hB h t _ ht⟩,RowR.frame hB h g hg (j+1) ts hs⟩
end
theorem rowR_get {B:Nat} {w:World} {g:Nat} : (ts:List ITree)->(j i:Nat)->(hi:i<ts.length)->RowR B w g j ts->∃ v0 v1 v2 v3 v4,(w.cell? ⟨g,(j+i)*5,none⟩=some v0∧w.cell? ⟨g,(j+i)*5+1,none⟩=some v1∧w.cell? ⟨g,(j+i)*5+2,none⟩=some v2∧w.cell? ⟨g,(j+i)*5+3,none⟩=some v3∧w.cell? ⟨g,(j+i)*5+4,none⟩=some v4)∧zif B w ts[i] (.agg #[v0,v1,v2,v3,v4])
 | [],_,_,hi,_=>by simp at hi
 | t::ts,j,0,_,h=>by
  rw [ziq] at h
  exact h.1
 | t::ts,j,i+1,hi,h=>by
  rw [ziq] at h
  have:=rowR_get ts (j+1) i (by simp at hi;omega) h.2
  rw [show j+1+i=j+(i+1) by omega] at this
  exact this
/-- a kid as it lies -/
structure KidR (w:World) (g j:Nat) (k:Int) (n:List UInt8) (m a:Int) (sl:Value):Prop where
 c0:w.cell? ⟨g,j*5,none⟩=some (.int .i64 k)
 c1:w.cell? ⟨g,j*5+1,none⟩=some (.string ⟨n.toArray⟩)
 c2:w.cell? ⟨g,j*5+2,none⟩=some (.int .i64 m)
 c3:w.cell? ⟨g,j*5+3,none⟩=some (.int .i64 a)
 c4:w.cell? ⟨g,j*5+4,none⟩=some sl
theorem KidR.frame {w w' : World} {g j:Nat} {k m a:Int} {n:List UInt8} {sl:Value} (h:KidR w g j k n m a sl) (hg:w'.heap[g]?=w.heap[g]?):KidR w' g j k n m a sl :=
 ⟨(zad hg _).1.trans h.c0,(zad hg _).1.trans h.c1,(zad hg _).1.trans h.c2,(zad hg _).1.trans h.c3,(zad hg _).1.trans h.c4⟩
theorem znl {B:Nat} {w:World} {g:Nat} {ks:List ITree} (h:RowR B w g 0 ks) (i:Nat) (hi:i<ks.length) (k m a:Int) (n:List UInt8) (us:List ITree) (he:ks[i]=.node k n m a us) :
 ∃ o c,KidR w g i k n m a (.slice o us.length c)∧zif B w (.node k n m a us) (zc7 k n m a (.slice o us.length c)):=by
 obtain ⟨v0,v1,v2,v3,v4,⟨c0,c1,c2,c3,c4⟩,ht⟩:=rowR_get ks 0 i hi h
 rw [Nat.zero_add] at c0 c1 c2 c3 c4
 rw [he] at ht
 have ht2:=ht
 rw [zfo] at ht2
 obtain ⟨o,c,h1,_⟩:=ht2
 unfold zc7 at h1
 have h1:=congrArg (fun v=>match v with|Value.agg l=>l.toList|_=>[]) h1
 simp at h1
 obtain ⟨rfl,rfl,rfl,rfl,rfl⟩:=h1
 exact ⟨o,c,⟨c0,c1,c2,c3,c4⟩,ht⟩
mutual
def Tree.toI:Tree->ITree
 | .node k n m a ks=>.node k n m a (toIs ks)
def toIs:List Tree->List ITree
 | []=>[]
 | t::ts=>t.toI::toIs ts
end
theorem zmz:(ts:List Tree)->(toIs ts).length=ts.length
 | []=>by rw [toIs];rfl
 | t::ts=>by rw [toIs];simp [zmz ts]
mutual
def TreeOk:Tree->Prop
 | .node _ n m _ ks=>n.length<=maxLen∧(-9223372036854775808<=m∧m<=9223372036854775807)∧zlt ks
def zlt:List Tree->Prop
 | []=>True
 | t::ts=>TreeOk t∧zlt ts
end
mutual
theorem zae.toR {A:Nat->Prop} {w:World} : (t:Tree)->(v:Value)->TreeOk t->zae A w t v->zif w.heap.size w t.toI v
 | .node k n m a ks,v,hk,h=>by
  rw [zae] at h
  rw [TreeOk] at hk
  obtain ⟨sl,rfl,xs,hown,hA,hrow⟩:=h
  rw [Tree.toI,zfo]
  rcases hown with ⟨hxl,⟨rfl,hk0⟩|⟨g,cap,cur,rfl,_,hg,hnc,hcm,hcs,htake⟩⟩
  · have:ks=[]:=List.length_eq_zero_iff.1 hk0
    subst this
    exact ⟨none,0,rfl,by simp [toIs],by unfold maxLen;omega,hk.1,hk.2.1,Or.inl (by rw [toIs])⟩
  · refine ⟨some ⟨g,0,none⟩,cap,by rw [zmz];rfl,by rw [zmz];exact hnc,hcm,hk.1,hk.2.1,Or.inr ⟨g,rfl,ze0 hg,?_⟩⟩
    refine RowV.toR g 0 ks xs hk.2.2 (fun i x hx=>?_) hrow
    have h2:i<xs.length:=(List.getElem?_eq_some_iff.1 hx).1
    rw [<- htake,List.getElem?_take] at hx
    split at hx
    · rw [Nat.zero_mul,Nat.zero_add]
      unfold World.cell?
      simp only [hg]
      simpa using hx
    · cases hx
theorem RowV.toR {A:Nat->Prop} {w:World} (g:Nat):(j:Nat)->(ts:List Tree)->(xs:List Value)->zlt ts->(∀ i x,xs[i]?=some x->w.cell? ⟨g,j*5+i,none⟩=some x)->RowV A w ts xs->RowR w.heap.size w g j (toIs ts)
 | j,[],xs,_,_,_=>by rw [toIs,RowR];trivial
 | j,t::ts,xs,hk,hx,h=>by
  rw [zlt] at hk
  rw [zef] at h
  obtain ⟨v0,v1,v2,v3,v4,ys,rfl,ht,hr⟩:=h
  rw [toIs,ziq]
  refine ⟨⟨v0,v1,v2,v3,v4,⟨hx 0 _ rfl,hx 1 _ rfl,hx 2 _ rfl,hx 3 _ rfl,hx 4 _ rfl⟩,zae.toR t _ hk.1 ht⟩,RowV.toR g (j+1) ts ys hk.2 (fun i x hi=>?_) hr⟩
  have:=hx (i+5) x (by simpa using hi)
  rw [show (j+1)*5+i=j*5+(i+5) by omega]
  exact this
end
/-- a name or none -/
def zga (n:List UInt8) (name:Bool):Bool:=(Lx.isNameP n==name)&&(name||n==[])
def zdk (len:Nat) (m:Int) (least most:Nat):Bool:=decide (least<=len)&&decide (len<=most)&&m==0
def zkb (ok:Bool) (w:World) (e:Ending) (w' : World):Prop:=Below w.heap.size w w'∧((ok=true∧e=.returned (.tuple #[]))∨(ok=false∧e=za0))
set_option maxHeartbeats 1000000 in
set_option maxRecDepth 4000 in
theorem znj (k:Int) (n:List UInt8) (m a:Int) (o:Option Addr) (len c least most:Nat) (w:World) (hn:(n.length:Int)<=9223372036854775807) :
 Calls Tryz.prog 59 #[zc7 k n m a (.slice o len c),.bool true,.int .i64 (least:Nat),.int .i64 (most:Nat)] w (zkb (zga n true&&zdk len m least most) w):=by
 have hq:∀ w,Calls Tryz.prog 96 #[.string ⟨n.toArray⟩] w fun e w'=>e=.returned (.bool (Lx.isNameP n))∧w'=w:=fun w=>Lx.isName_any n w hn
 have HQ:=hid hq
 clear hq
 obtain ⟨R,hR⟩:∃ R,(zga n true&&zdk len m least most)=R:=⟨_,rfl⟩
 rw [hR]
 have HR:=hid hR
 obtain ⟨wa,hwa⟩:∃ x,w.alloc (.cells #[.int .i64 k,.string ⟨n.toArray⟩,.int .i64 m,.int .i64 a,.slice o len c] 29)=x:=⟨_,rfl⟩
 have HB:=hidB hwa
 have kk:wa.heap[w.heap.size]?=some (zje k n m a (.slice o len c)):=by rw [<- hwa];exact heap_alloc_new _ _
 obtain ⟨⟨z0,z1,z2,z3,z4⟩,_⟩:=za5 kk
 unfold zc7
 clear hR kk
 obtain ⟨N,hN⟩:∃ N,Lx.isNameP n=N:=⟨_,rfl⟩
 rw [hN] at HQ
 have HN:=hid hN
 obtain ⟨E,hE⟩:∃ E,(n==[])=E:=⟨_,rfl⟩
 have HE:=hid hE
 clear hN
 obtain ⟨X,hX⟩:∃ X,((N==true)&&(true||E))=X:=⟨_,rfl⟩
 have HX:Hid (zga n true=X):=by show _=_;unfold zga;rw [HN.out,HE.out];exact hX
 by_cases h1:least<=len
 · have i1:(least:Int)<=len:=by omega
   have j1:decide ((least:Int)<=len)=true:=by simp;omega
   by_cases h2:len<=most
   · have i2:(len:Int)<=most:=by omega
     have j2:decide ((len:Int)<=most)=true:=by simp;omega
     by_cases h3:m=0
     · subst h3
       have HS:Hid (zdk len 0 least most=true):=by show _=_;unfold zdk;simp [h1,h2]
       clear hn
       cases N <;> cases E <;> simp at hX <;> subst hX
       all_goals (
        go_enter Tryz.func59,Tryz.ntmps59
        go_wp2_with (first|(go_at_call 96;refine (HQ.out _).mono ?_;rintro e wi ⟨rfl,hwi⟩;rw [hwi];clear hwi wi)|(go_at_call 58;refine (zbn _).mono ?_;rintro e wi ⟨rfl,hwi⟩;rw [hwi];clear hwi wi)|(go_at_call 58;refine (zbd _).mono ?_;rintro e wi ⟨he,hwi⟩;rw [hwi];clear hwi;unfold za0 at he;rw [he];clear he wi))
        first
        | (first|go_end0|refine bodyPost_ret (results_none rfl _ _ _) rfl ?_
           refine ⟨HB.out,Or.inl ⟨?_,rfl⟩⟩
           rw [<- HR.out,HX.out,HS.out];rfl)
        | (refine ⟨rfl,HB.out,Or.inr ⟨?_,rfl⟩⟩
           rw [<- HR.out,HX.out,HS.out];rfl))
     · have j3:(m==0)=false:=by simp [h3]
       have HS:Hid (zdk len m least most=false):=by show _=_;unfold zdk;simp [h3]
       clear hn
       cases N <;> cases E <;> simp at hX <;> subst hX
       all_goals (
        go_enter Tryz.func59,Tryz.ntmps59
        go_wp2_with (first|(go_at_call 96;refine (HQ.out _).mono ?_;rintro e wi ⟨rfl,hwi⟩;rw [hwi];clear hwi wi)|(go_at_call 58;refine (zbn _).mono ?_;rintro e wi ⟨rfl,hwi⟩;rw [hwi];clear hwi wi)|(go_at_call 58;refine (zbd _).mono ?_;rintro e wi ⟨he,hwi⟩;rw [hwi];clear hwi;unfold za0 at he;rw [he];clear he wi))
        first
        | (first|go_end0|refine bodyPost_ret (results_none rfl _ _ _) rfl ?_
           refine ⟨HB.out,Or.inl ⟨?_,rfl⟩⟩
           rw [<- HR.out,HX.out,HS.out];rfl)
        | (refine ⟨rfl,HB.out,Or.inr ⟨?_,rfl⟩⟩
           rw [<- HR.out,HX.out,HS.out];rfl))
   · have i2:¬ (len:Int)<=most:=by omega
     have j2:decide ((len:Int)<=most)=false:=by simp;omega
     have HS:Hid (zdk len m least most=false):=by show _=_;unfold zdk;simp [h2]
     clear hn
     cases N <;> cases E <;> simp at hX <;> subst hX
     all_goals (
      go_enter Tryz.func59,Tryz.ntmps59
      go_wp2_with (first|(go_at_call 96;refine (HQ.out _).mono ?_;rintro e wi ⟨rfl,hwi⟩;rw [hwi];clear hwi wi)|(go_at_call 58;refine (zbn _).mono ?_;rintro e wi ⟨rfl,hwi⟩;rw [hwi];clear hwi wi)|(go_at_call 58;refine (zbd _).mono ?_;rintro e wi ⟨he,hwi⟩;rw [hwi];clear hwi;unfold za0 at he;rw [he];clear he wi))
      first
      | (first|go_end0|refine bodyPost_ret (results_none rfl _ _ _) rfl ?_
         refine ⟨HB.out,Or.inl ⟨?_,rfl⟩⟩
         rw [<- HR.out,HX.out,HS.out];rfl)
      | (refine ⟨rfl,HB.out,Or.inr ⟨?_,rfl⟩⟩
         rw [<- HR.out,HX.out,HS.out];rfl))
 · have i1:¬ (least:Int)<=len:=by omega
   have j1:decide ((least:Int)<=len)=false:=by simp;omega
   have HS:Hid (zdk len m least most=false):=by show _=_;unfold zdk;simp [h1]
   clear hn
   cases N <;> cases E <;> simp at hX <;> subst hX
   all_goals (
    go_enter Tryz.func59,Tryz.ntmps59
    go_wp2_with (first|(go_at_call 96;refine (HQ.out _).mono ?_;rintro e wi ⟨rfl,hwi⟩;rw [hwi];clear hwi wi)|(go_at_call 58;refine (zbn _).mono ?_;rintro e wi ⟨rfl,hwi⟩;rw [hwi];clear hwi wi)|(go_at_call 58;refine (zbd _).mono ?_;rintro e wi ⟨he,hwi⟩;rw [hwi];clear hwi;unfold za0 at he;rw [he];clear he wi))
    first
    | (first|go_end0|refine bodyPost_ret (results_none rfl _ _ _) rfl ?_
       refine ⟨HB.out,Or.inl ⟨?_,rfl⟩⟩
       rw [<- HR.out,HX.out,HS.out];rfl)
    | (refine ⟨rfl,HB.out,Or.inr ⟨?_,rfl⟩⟩
       rw [<- HR.out,HX.out,HS.out];rfl))
set_option maxHeartbeats 1000000 in
set_option maxRecDepth 4000 in
theorem zl2 (k:Int) (n:List UInt8) (m a:Int) (o:Option Addr) (len c least most:Nat) (w:World) (hn:(n.length:Int)<=9223372036854775807) :
 Calls Tryz.prog 59 #[zc7 k n m a (.slice o len c),.bool false,.int .i64 (least:Nat),.int .i64 (most:Nat)] w (zkb (zga n false&&zdk len m least most) w):=by
 have hq:∀ w,Calls Tryz.prog 96 #[.string ⟨n.toArray⟩] w fun e w'=>e=.returned (.bool (Lx.isNameP n))∧w'=w:=fun w=>Lx.isName_any n w hn
 have HQ:=hid hq
 clear hq
 obtain ⟨R,hR⟩:∃ R,(zga n false&&zdk len m least most)=R:=⟨_,rfl⟩
 rw [hR]
 have HR:=hid hR
 obtain ⟨wa,hwa⟩:∃ x,w.alloc (.cells #[.int .i64 k,.string ⟨n.toArray⟩,.int .i64 m,.int .i64 a,.slice o len c] 29)=x:=⟨_,rfl⟩
 have HB:=hidB hwa
 have kk:wa.heap[w.heap.size]?=some (zje k n m a (.slice o len c)):=by rw [<- hwa];exact heap_alloc_new _ _
 obtain ⟨⟨z0,z1,z2,z3,z4⟩,_⟩:=za5 kk
 unfold zc7
 clear hR kk
 obtain ⟨N,hN⟩:∃ N,Lx.isNameP n=N:=⟨_,rfl⟩
 rw [hN] at HQ
 have HN:=hid hN
 obtain ⟨E,hE⟩:∃ E,(n==[])=E:=⟨_,rfl⟩
 have HE:=hid hE
 clear hN
 obtain ⟨X,hX⟩:∃ X,((N==false)&&(false||E))=X:=⟨_,rfl⟩
 have HX:Hid (zga n false=X):=by show _=_;unfold zga;rw [HN.out,HE.out];exact hX
 by_cases h1:least<=len
 · have i1:(least:Int)<=len:=by omega
   have j1:decide ((least:Int)<=len)=true:=by simp;omega
   by_cases h2:len<=most
   · have i2:(len:Int)<=most:=by omega
     have j2:decide ((len:Int)<=most)=true:=by simp;omega
     by_cases h3:m=0
     · subst h3
       have HS:Hid (zdk len 0 least most=true):=by show _=_;unfold zdk;simp [h1,h2]
       clear hn
       cases N <;> cases E <;> simp at hX <;> subst hX
       all_goals (
        go_enter Tryz.func59,Tryz.ntmps59
        go_wp2_with (first|(go_at_call 96;refine (HQ.out _).mono ?_;rintro e wi ⟨rfl,hwi⟩;rw [hwi];clear hwi wi)|(go_at_call 58;refine (zbn _).mono ?_;rintro e wi ⟨rfl,hwi⟩;rw [hwi];clear hwi wi)|(go_at_call 58;refine (zbd _).mono ?_;rintro e wi ⟨he,hwi⟩;rw [hwi];clear hwi;unfold za0 at he;rw [he];clear he wi))
        first
        | (first|go_end0|refine bodyPost_ret (results_none rfl _ _ _) rfl ?_
           refine ⟨HB.out,Or.inl ⟨?_,rfl⟩⟩
           rw [<- HR.out,HX.out,HS.out];rfl)
        | (refine ⟨rfl,HB.out,Or.inr ⟨?_,rfl⟩⟩
           rw [<- HR.out,HX.out,HS.out];rfl))
     · have j3:(m==0)=false:=by simp [h3]
       have HS:Hid (zdk len m least most=false):=by show _=_;unfold zdk;simp [h3]
       clear hn
       cases N <;> cases E <;> simp at hX <;> subst hX
       all_goals (
        go_enter Tryz.func59,Tryz.ntmps59
        go_wp2_with (first|(go_at_call 96;refine (HQ.out _).mono ?_;rintro e wi ⟨rfl,hwi⟩;rw [hwi];clear hwi wi)|(go_at_call 58;refine (zbn _).mono ?_;rintro e wi ⟨rfl,hwi⟩;rw [hwi];clear hwi wi)|(go_at_call 58;refine (zbd _).mono ?_;rintro e wi ⟨he,hwi⟩;rw [hwi];clear hwi;unfold za0 at he;rw [he];clear he wi))
        first
        | (first|go_end0|refine bodyPost_ret (results_none rfl _ _ _) rfl ?_
           refine ⟨HB.out,Or.inl ⟨?_,rfl⟩⟩
           rw [<- HR.out,HX.out,HS.out];rfl)
        | (refine ⟨rfl,HB.out,Or.inr ⟨?_,rfl⟩⟩
           rw [<- HR.out,HX.out,HS.out];rfl))
   · have i2:¬ (len:Int)<=most:=by omega
     have j2:decide ((len:Int)<=most)=false:=by simp;omega
     have HS:Hid (zdk len m least most=false):=by show _=_;unfold zdk;simp [h2]
     clear hn
     cases N <;> cases E <;> simp at hX <;> subst hX
     all_goals (
      go_enter Tryz.func59,Tryz.ntmps59
      go_wp2_with (first|(go_at_call 96;refine (HQ.out _).mono ?_;rintro e wi ⟨rfl,hwi⟩;rw [hwi];clear hwi wi)|(go_at_call 58;refine (zbn _).mono ?_;rintro e wi ⟨rfl,hwi⟩;rw [hwi];clear hwi wi)|(go_at_call 58;refine (zbd _).mono ?_;rintro e wi ⟨he,hwi⟩;rw [hwi];clear hwi;unfold za0 at he;rw [he];clear he wi))
      first
      | (first|go_end0|refine bodyPost_ret (results_none rfl _ _ _) rfl ?_
         refine ⟨HB.out,Or.inl ⟨?_,rfl⟩⟩
         rw [<- HR.out,HX.out,HS.out];rfl)
      | (refine ⟨rfl,HB.out,Or.inr ⟨?_,rfl⟩⟩
         rw [<- HR.out,HX.out,HS.out];rfl))
 · have i1:¬ (least:Int)<=len:=by omega
   have j1:decide ((least:Int)<=len)=false:=by simp;omega
   have HS:Hid (zdk len m least most=false):=by show _=_;unfold zdk;simp [h1]
   clear hn
   cases N <;> cases E <;> simp at hX <;> subst hX
   all_goals (
    go_enter Tryz.func59,Tryz.ntmps59
    go_wp2_with (first|(go_at_call 96;refine (HQ.out _).mono ?_;rintro e wi ⟨rfl,hwi⟩;rw [hwi];clear hwi wi)|(go_at_call 58;refine (zbn _).mono ?_;rintro e wi ⟨rfl,hwi⟩;rw [hwi];clear hwi wi)|(go_at_call 58;refine (zbd _).mono ?_;rintro e wi ⟨he,hwi⟩;rw [hwi];clear hwi;unfold za0 at he;rw [he];clear he wi))
    first
    | (first|go_end0|refine bodyPost_ret (results_none rfl _ _ _) rfl ?_
       refine ⟨HB.out,Or.inl ⟨?_,rfl⟩⟩
       rw [<- HR.out,HX.out,HS.out];rfl)
    | (refine ⟨rfl,HB.out,Or.inr ⟨?_,rfl⟩⟩
       rw [<- HR.out,HX.out,HS.out];rfl))
end Go.Proofs.YtighggeokiahfaaGreatDoor
namespace Go.Proofs
open Go.Shelf
open Go.RowKit Go.Sort Go.Lib in
def Tryz.lays171_ren:Go.Shelf.Ren:=⟨fun|171=>130|243=>155|246=>163|283=>165|284=>166|285=>167|286=>168|129=>170|317=>169|318=>171|319=>172|320=>173|337=>174|338=>175|n=>n,fun|3=>3|9=>9|2=>2|4=>4|171=>127|0=>0|53=>128|37=>66|5=>5|173=>131|212=>134|51=>135|20=>20|213=>136|46=>138|232=>141|233=>142|n=>n,fun|17=>1|18=>2|19=>3|n=>n⟩
theorem Tryz.lays171:Go.Proofs.Lays.n171 Tryz.prog Tryz.lays171_ren:={
 mixed:=by kernel_rfl
 f129:=Tryz.func170.trans (congrArg some (by kernel_rfl))
 f171:=Tryz.func130.trans (congrArg some (by kernel_rfl))
 f243:=Tryz.func155.trans (congrArg some (by kernel_rfl))
 f246:=Tryz.func163.trans (congrArg some (by kernel_rfl))
 f283:=Tryz.func165.trans (congrArg some (by kernel_rfl))
 f284:=Tryz.func166.trans (congrArg some (by kernel_rfl))
 f285:=Tryz.func167.trans (congrArg some (by kernel_rfl))
 f286:=Tryz.func168.trans (congrArg some (by kernel_rfl))
 f317:=Tryz.func169.trans (congrArg some (by kernel_rfl))
 f318:=Tryz.func171.trans (congrArg some (by kernel_rfl))
 f319:=Tryz.func172.trans (congrArg some (by kernel_rfl))
 f320:=Tryz.func173.trans (congrArg some (by kernel_rfl))
 f337:=Tryz.func174.trans (congrArg some (by kernel_rfl))
 f338:=Tryz.func175.trans (congrArg some (by kernel_rfl))
 t0:=Tryz.underlying0
 a0:=Tryz.isAgg0
 z0:=Tryz.sizeOf0
 v0:=Tryz.zeroValue0
 t2:=Tryz.underlying2
 a2:=Tryz.isAgg2
 z2:=Tryz.sizeOf2
 v2:=Tryz.zeroValue2
 t3:=Tryz.underlying3
 a3:=Tryz.isAgg3
 z3:=Tryz.sizeOf3
 v3:=Tryz.zeroValue3
 t4:=Tryz.underlying4
 a4:=Tryz.isAgg4
 z4:=Tryz.sizeOf4
 v4:=Tryz.zeroValue4
 t5:=Tryz.underlying5
 a5:=Tryz.isAgg5
 z5:=Tryz.sizeOf5
 v5:=Tryz.zeroValue5
 t9:=Tryz.underlying9
 a9:=Tryz.isAgg9
 z9:=Tryz.sizeOf9
 v9:=Tryz.zeroValue9
 t20:=Tryz.underlying20
 a20:=Tryz.isAgg20
 z20:=Tryz.sizeOf20
 v20:=Tryz.zeroValue20
 t37:=Tryz.underlying66
 a37:=Tryz.isAgg66
 z37:=Tryz.sizeOf66
 v37:=Tryz.zeroValue66
 t46:=Tryz.underlying138
 a46:=Tryz.isAgg138
 z46:=Tryz.sizeOf138
 v46:=Tryz.zeroValue138
 t51:=Tryz.underlying135
 a51:=Tryz.isAgg135
 z51:=Tryz.sizeOf135
 v51:=Tryz.zeroValue135
 t53:=Tryz.underlying128
 a53:=Tryz.isAgg128
 z53:=Tryz.sizeOf128
 v53:=Tryz.zeroValue128
 t171:=Tryz.underlying127
 a171:=Tryz.isAgg127
 z171:=Tryz.sizeOf127
 v171:=Tryz.zeroValue127
 t173:=Tryz.underlying131
 a173:=Tryz.isAgg131
 z173:=Tryz.sizeOf131
 v173:=Tryz.zeroValue131
 t212:=Tryz.underlying134
 a212:=Tryz.isAgg134
 z212:=Tryz.sizeOf134
 v212:=Tryz.zeroValue134
 t213:=Tryz.underlying136
 a213:=Tryz.isAgg136
 z213:=Tryz.sizeOf136
 t232:=Tryz.underlying141
 a232:=Tryz.isAgg141
 z232:=Tryz.sizeOf141
 v232:=Tryz.zeroValue141
 t233:=Tryz.underlying142
 a233:=Tryz.isAgg142
 z233:=Tryz.sizeOf142
 v233:=Tryz.zeroValue142
 g17:=by kernel_rfl
 g18:=by kernel_rfl
 g19:=by kernel_rfl }
open Go.RowKit Go.Sort Go.Lib in
/-- THE ROAD WITHOUT THE TABLE: 0 <= i < 100: NO PREMISE ON THE WORLD, AND THE WORLD IS AS IT WAS: a row that keeps its argument in that range need list no table ('laid = []'). (LAID: no walk: one application.) -/
theorem Tryz.strconv_Itoa_small (i:Nat) (hi:i<100) (w:World) :
 Calls Tryz.prog 130 #[.int .i64 i] w fun e w'=>e=.returned (.string ⟨(Lib.decDigits i).toArray⟩)∧w'=w:=Any.strconv_Itoa_small Tryz.lays171 i hi w
end Go.Proofs
namespace Go.Proofs.YtighggeokiahfaaGreatDoor
open Go.RowKit Go.Lib
theorem layP_len:(ts:List (List UInt8))->(txt x:List UInt8)->txt.length<=16000->layP ts txt=some x->x.length<=16000
 | [],txt,x,h,e=>by rw [layP] at e;cases e;exact h
 | t::ts,txt,x,h,e=>by
  rw [layP_cons] at e
  split at e
  · next h2=>exact layP_len ts _ x h2 e
  · cases e
/-- what a function of the printer's leaves behind: the text, or that it gave up -/
def zht (p:Nat) (d:Int) (v0:Value) (R:Option (List UInt8)) (w:World) (e:Ending) (w' : World):Prop :=
 ∃ v',Lx.Kept p v0 v' w w'∧((∃ x,R=some x∧x.length<=16000∧e=.returned (.tuple #[])∧PR w' p x d v')∨(R=none∧e=za0))
theorem own_lt {w:World} {base:Nat} {v:Value} {n:Nat} {xs:List Value} (h:w.ownsRow base 5 1 v n xs) (b:Nat) (hb:w.heap.size<=b):some b≠v.ownBlock:=by
 rcases h.2 with ⟨rfl,rfl⟩|⟨g,cap,cur,rfl,hbg,hg,_⟩
 · simp [Value.ownBlock]
 · have:=ze0 hg
   simp [Value.ownBlock]
   omega
theorem lay_lit (p:Nat) (ts:List (List UInt8)) (cs:Array Value) (hcs:cs=(ts.map fun t=>Value.string ⟨t.toArray⟩).toArray) (hts:∀ t∈ts,t≠[]∧t.length<=64) (hn:ts.length<=3) (N:Nat) (hN:ts.length=N) (txt:List UInt8) (d:Int) (v0:Value) (cur:World) (h:PR cur p txt d v0) (hx:txt.length<=16000) :
 Calls Tryz.prog 61 #[.pointer (some ⟨p,0,none⟩),.slice (some ⟨cur.heap.size,0,none⟩) N N] (cur.alloc (.cells cs 9)) (zht p d v0 (layP ts txt) cur):=by
 subst hN
 have hlt:=h.lt
 have hB:Below cur.heap.size cur (cur.alloc (.cells cs 9)):=zac _ _
 refine (zk5 p cur.heap.size ts.length ts hts hn txt d v0 _ (h.below hB) hx (by omega) (by simp) (own_lt h.own _ (Nat.le_refl _)) ?_).mono ?_
 · intro j hj
   have hb:(cur.alloc (.cells cs 9)).heap[cur.heap.size]?=some (.cells cs 9):=heap_alloc_new _ _
   unfold World.cell?
   simp only [hb]
   rw [hcs]
   simp [hj]
 · rintro e w' ⟨v',hk,h2⟩
   refine ⟨v',(Lx.Kept.of_below hB).trans hk,?_⟩
   rcases h2 with ⟨x,h3,h4,h5⟩|h3
   · exact Or.inl ⟨x,h3,layP_len _ _ _ hx h3,h4,h5⟩
   · exact Or.inr h3
def zk2 (k:Int) (n:List UInt8) (len:Nat):Bool:=k==28&&n==[]&&len==0
def zni (m least:Int):Bool:=decide (least<=m)&&decide (m<=4294967295)
def zj0 (least:Int) (k:Int) (n:List UInt8) (m:Int) (len:Nat) (txt:List UInt8):Option (List UInt8):=if zk2 k n len&&zni m least then layP [itoa m] txt else none
theorem itoa_some (n:Int):itoa n≠[]:=by
 have h:∀ u,decDigits u≠[]:=fun u e=>by
  have:=decDigits_length u
  have h2:=nDigits_pos u
  rw [e] at this
  simp at this
  omega
 unfold itoa
 split
 · exact List.cons_ne_nil _ _
 · exact h _
set_option maxHeartbeats 1000000 in
set_option maxRecDepth 4000 in
theorem pnumber_any (p:Nat) (k:Int) (n:List UInt8) (m a:Int) (o:Option Addr) (len c:Nat) (least:Int) (txt:List UInt8) (d:Int) (v0:Value) (w:World) (h:PR w p txt d v0) (hx:txt.length<=16000) (hm0:-9223372036854775808<=m) (hm1:m<=9223372036854775807)
 (hI:∀ w1,Below w.heap.size w w1->Calls Tryz.prog 130 #[.int .i64 m] w1 fun e w'=>e=.returned (.string ⟨(itoa m).toArray⟩)∧Below w1.heap.size w1 w') :
 Calls Tryz.prog 97 #[.pointer (some ⟨p,0,none⟩),zc7 k n m a (.slice o len c),.int .i64 least] w (zht p d v0 (zj0 least k n m len txt) w):=by
 have HI:=hid hI
 have HP:=hid2 h hx
 have HL:Hid ((itoa m).length<=64):=Nat.le_trans (itoa_length_le m hm0 hm1) (by decide)
 clear hI h hx hm0 hm1
 obtain ⟨R,hR⟩:∃ R,zj0 least k n m len txt=R:=⟨_,rfl⟩
 rw [hR]
 have HR:=hid hR
 obtain ⟨wa,hwa⟩:∃ x,w.alloc (.cells #[.int .i64 k,.string ⟨n.toArray⟩,.int .i64 m,.int .i64 a,.slice o len c] 29)=x:=⟨_,rfl⟩
 have HB:=hidB hwa
 have kk:wa.heap[w.heap.size]?=some (zje k n m a (.slice o len c)):=by rw [<- hwa];exact heap_alloc_new _ _
 have HK:=hid kk
 obtain ⟨⟨z0,z1,z2,z3,z4⟩,_⟩:=za5 kk
 unfold zc7
 clear hR kk
 obtain ⟨E,hE⟩:∃ E,(n==[])=E:=⟨_,rfl⟩
 have HE:=hid hE
 by_cases h1:k=28
 · subst h1
   cases E with
   | true =>
    by_cases h2:len=0
    · subst h2
      have Ae:Hid (zk2 28 n 0=true):=by show _=_;unfold zk2;rw [HE.out];rfl
      by_cases h3:least<=m
      · have j3:decide (least<=m)=true:=by simp [h3]
        by_cases h4:m<=4294967295
        · have j4:decide (m<=4294967295)=true:=by simp [h4]
          have Aa:Hid (R=layP [itoa m] txt):=by show _=_;rw [<- HR.out];unfold zj0 zni;rw [Ae.out];simp [h3,h4]
          go_enter Tryz.func97,Tryz.ntmps97
          go_wp2_with (first|(go_at_call 58;refine (zbn _).mono ?_;rintro e wi ⟨rfl,hwi⟩;rw [hwi];clear hwi wi)|(go_at_call 58;refine (zbd _).mono ?_;rintro e wi ⟨he,hwi⟩;rw [hwi];clear hwi;unfold za0 at he;rw [he];clear he wi)|(go_at_call 130;refine (HI.out _ HB.out).mono ?_;rintro e w2 ⟨rfl,hB2⟩;have Ac:Hid (Below w.heap.size w w2):=HB.out.trans (hB2.mono HB.out.size);have y2:w2.cell? ⟨w.heap.size,2,none⟩=some (.int .i64 m):=(za5 (zao hB2 HK.out)).1.2.2.1;clear hB2))
          refine (lay_lit p [itoa m] _ rfl (by have hl:=HL.out;have hs:=itoa_some m;intro t ht;simp at ht;subst ht;exact ⟨hs,hl⟩) (by simp) 1 rfl txt d v0 w2 (HP.out.1.below Ac.out) HP.out.2).mono ?_
          rintro e w9 ⟨v',hk,hQ⟩
          have Ad:=hid ((Lx.Kept.of_below Ac.out).trans hk)
          clear hk
          rcases hQ with ⟨x,hx1,hx2,rfl,hPR⟩|⟨hx1,he⟩
          · have HF:=hid3 hx1 hx2 hPR
            clear hx1 hx2 hPR
            go_wp2
            first|go_end0|refine bodyPost_ret (results_none rfl _ _ _) rfl ?_
            exact ⟨v',Ad.out,Or.inl ⟨x,Aa.out.trans HF.out.1,HF.out.2.1,rfl,HF.out.2.2⟩⟩
          · have HF:=hid hx1
            clear hx1
            unfold za0 at he
            subst he
            go_wp2
            exact ⟨rfl,v',Ad.out,Or.inr ⟨Aa.out.trans HF.out,rfl⟩⟩
        · have j4:decide (m<=4294967295)=false:=by simp;omega
          have Ab:Hid ((zk2 28 n 0&&zni m least)=false):=by show _=_;unfold zni;simp [h4]
          have Aa:Hid (R=none):=by show _=_;rw [<- HR.out];unfold zj0;rw [Ab.out];rfl
          go_enter Tryz.func97,Tryz.ntmps97
          go_wp2_with (first|(go_at_call 58;refine (zbn _).mono ?_;rintro e wi ⟨rfl,hwi⟩;rw [hwi];clear hwi wi)|(go_at_call 58;refine (zbd _).mono ?_;rintro e wi ⟨he,hwi⟩;rw [hwi];clear hwi;unfold za0 at he;rw [he];clear he wi))
          exact ⟨rfl,v0,Lx.Kept.of_below HB.out,Or.inr ⟨Aa.out,rfl⟩⟩
      · have j3:decide (least<=m)=false:=by simp;omega
        have Ab:Hid ((zk2 28 n 0&&zni m least)=false):=by show _=_;unfold zni;simp [h3]
        have Aa:Hid (R=none):=by show _=_;rw [<- HR.out];unfold zj0;rw [Ab.out];rfl
        go_enter Tryz.func97,Tryz.ntmps97
        go_wp2_with (first|(go_at_call 58;refine (zbn _).mono ?_;rintro e wi ⟨rfl,hwi⟩;rw [hwi];clear hwi wi)|(go_at_call 58;refine (zbd _).mono ?_;rintro e wi ⟨he,hwi⟩;rw [hwi];clear hwi;unfold za0 at he;rw [he];clear he wi))
        exact ⟨rfl,v0,Lx.Kept.of_below HB.out,Or.inr ⟨Aa.out,rfl⟩⟩
    · have j2:((len:Int)==0)=false:=by simp [h2]
      have j2' : ¬ (len:Int)=0:=by omega
      have Ab:Hid ((zk2 28 n len&&zni m least)=false):=by show _=_;unfold zk2;simp [h2]
      have Aa:Hid (R=none):=by show _=_;rw [<- HR.out];unfold zj0;rw [Ab.out];rfl
      go_enter Tryz.func97,Tryz.ntmps97
      go_wp2_with (first|(go_at_call 58;refine (zbn _).mono ?_;rintro e wi ⟨rfl,hwi⟩;rw [hwi];clear hwi wi)|(go_at_call 58;refine (zbd _).mono ?_;rintro e wi ⟨he,hwi⟩;rw [hwi];clear hwi;unfold za0 at he;rw [he];clear he wi))
      exact ⟨rfl,v0,Lx.Kept.of_below HB.out,Or.inr ⟨Aa.out,rfl⟩⟩
   | false =>
    have Ab:Hid ((zk2 28 n len&&zni m least)=false):=by show _=_;unfold zk2;rw [HE.out];simp
    have Aa:Hid (R=none):=by show _=_;rw [<- HR.out];unfold zj0;rw [Ab.out];rfl
    go_enter Tryz.func97,Tryz.ntmps97
    go_wp2_with (first|(go_at_call 58;refine (zbn _).mono ?_;rintro e wi ⟨rfl,hwi⟩;rw [hwi];clear hwi wi)|(go_at_call 58;refine (zbd _).mono ?_;rintro e wi ⟨he,hwi⟩;rw [hwi];clear hwi;unfold za0 at he;rw [he];clear he wi))
    exact ⟨rfl,v0,Lx.Kept.of_below HB.out,Or.inr ⟨Aa.out,rfl⟩⟩
 · have j1:(k==28)=false:=by simp [h1]
   have Ab:Hid ((zk2 k n len&&zni m least)=false):=by show _=_;unfold zk2;simp [h1]
   have Aa:Hid (R=none):=by show _=_;rw [<- HR.out];unfold zj0;rw [Ab.out];rfl
   go_enter Tryz.func97,Tryz.ntmps97
   go_wp2_with (first|(go_at_call 58;refine (zbn _).mono ?_;rintro e wi ⟨rfl,hwi⟩;rw [hwi];clear hwi wi)|(go_at_call 58;refine (zbd _).mono ?_;rintro e wi ⟨he,hwi⟩;rw [hwi];clear hwi;unfold za0 at he;rw [he];clear he wi))
   exact ⟨rfl,v0,Lx.Kept.of_below HB.out,Or.inr ⟨Aa.out,rfl⟩⟩
/-- what lies ahead of the printer -/
def zj5 (p:Nat) (w w' : World):Prop:=∀ b,b<p->w'.heap[b]?=w.heap[b]?
theorem zj5.trans {p:Nat} {a b c:World} (h:zj5 p a b) (k:zj5 p b c):zj5 p a c:=fun i hi=>(k i hi).trans (h i hi)
theorem zj5.of_below {p:Nat} {a b:World} (hp:p<=a.heap.size) (h:Below a.heap.size a b):zj5 p a b:=fun i hi=>h.block i (by omega)
theorem own_ge {w:World} {base:Nat} {v:Value} {n:Nat} {xs:List Value} (h:w.ownsRow base 5 1 v n xs) (b:Nat) (hb:b<base):some b≠v.ownBlock:=by
 rcases h.2 with ⟨rfl,rfl⟩|⟨g,cap,cur,rfl,hbg,hg,_⟩
 · simp [Value.ownBlock]
 · simp [Value.ownBlock]
   omega
theorem PR.front {w w' : World} {p:Nat} {txt:List UInt8} {d:Int} {v v' : Value} (h:PR w p txt d v) (hk:Lx.Kept p v v' w w'):zj5 p w w':=fun b hb=>hk.block b (by have:=h.lt;omega) (by omega) (own_ge h.own b (by omega))
/-- the library's texts of the numbers of M -/
def znw (M:Int->Prop) (p:Nat) (w:World):Prop:=∀ m,M m->∀ w1,zj5 p w w1->Calls Tryz.prog 130 #[.int .i64 m] w1 fun e w'=>e=.returned (.string ⟨(itoa m).toArray⟩)∧Below w1.heap.size w1 w'
theorem znw.front {M:Int->Prop} {p:Nat} {w w' : World} (h:znw M p w) (hf:zj5 p w w'):znw M p w':=fun m hm w1 h1=>h m hm w1 (hf.trans h1)
theorem nameOk_len {n:List UInt8} (h:zga n true=true):n≠[]∧n.length<=64:=by
 unfold zga Lx.isNameP at h
 simp at h
 constructor
 · rintro rfl
   simp at h
 · omega
def zh3 (n:List UInt8) (m:Int) (len:Nat) (k1:Int) (n1:List UInt8) (m1:Int) (l1:Nat) (txt:List UInt8):Option (List UInt8) :=
 if zga n true&&zdk len m 1 1 then (layP [[99,111,110,115,116],n,[61]] txt).bind (zj0 (-2147483648) k1 n1 m1 l1) else none
set_option maxHeartbeats 1000000 in
set_option maxRecDepth 4000 in
theorem pconst_any (p:Nat) (n:List UInt8) (m a:Int) (o:Option Addr) (len c:Nat) (g:Nat) (k1:Int) (n1:List UInt8) (m1 a1:Int) (o1:Option Addr) (l1 c1:Nat) (txt:List UInt8) (d:Int) (v0:Value) (w:World) (h:PR w p txt d v0) (hx:txt.length<=16000) (hn:n.length<=maxLen) (hm0:-9223372036854775808<=m1) (hm1:m1<=9223372036854775807)
 (M:Int->Prop) (hM:M m1) (hI:znw M p w) (hkid:len=1->o=some ⟨g,0,none⟩∧g<p∧KidR w g 0 k1 n1 m1 a1 (.slice o1 l1 c1)) :
 Calls Tryz.prog 60 #[.pointer (some ⟨p,0,none⟩),zc7 2 n m a (.slice o len c)] w (zht p d v0 (zh3 n m len k1 n1 m1 l1 txt) w):=by
 have HI:=hid2 hI hM
 have HP:=hid2 h hx
 have HM:=hid2 hm0 hm1
 have Aa:=hid hkid
 obtain ⟨R,hR⟩:∃ R,zh3 n m len k1 n1 m1 l1 txt=R:=⟨_,rfl⟩
 rw [hR]
 have HR:=hid hR
 obtain ⟨ok,hok⟩:∃ ok,(zga n true&&zdk len m 1 1)=ok:=⟨_,rfl⟩
 have Ab:=hid hok
 have Ae:Hid (∀ w,Calls Tryz.prog 59 #[zc7 2 n m a (.slice o len c),.bool true,.int .i64 1,.int .i64 1] w (zkb ok w)):=by
  show ∀ w,_
  intro w
  rw [<- hok]
  exact znj 2 n m a o len c 1 1 w (by unfold maxLen at hn;omega)
 unfold zc7 at Ae
 clear hI h hx hm0 hm1 hkid hM hok hn hR
 obtain ⟨wa,hwa⟩:∃ x,w.alloc (.cells #[.int .i64 2,.string ⟨n.toArray⟩,.int .i64 m,.int .i64 a,.slice o len c] 29)=x:=⟨_,rfl⟩
 have HB:=hidB hwa
 have kk:wa.heap[w.heap.size]?=some (zje 2 n m a (.slice o len c)):=by rw [<- hwa];exact heap_alloc_new _ _
 have HK:=hid kk
 obtain ⟨⟨z0,z1,z2,z3,z4⟩,_⟩:=za5 kk
 unfold zc7
 clear kk
 cases ok with
 | false =>
  have Ac:Hid (R=none):=by show _=_;rw [<- HR.out];unfold zh3;rw [Ab.out];rfl
  go_enter Tryz.func60,Tryz.ntmps60
  go_wp2_with fail
  refine (Ae.out _).mono ?_
  rintro e w2 ⟨hB,hq⟩
  rcases hq with ⟨hq,_⟩|⟨_,he⟩
  · cases hq
  have Ad:=hid (HB.out.trans (hB.mono HB.out.size))
  clear hB
  unfold za0 at he
  subst he
  go_wp2
  exact ⟨rfl,v0,Lx.Kept.of_below Ad.out,Or.inr ⟨Ac.out,rfl⟩⟩
 | true =>
  have Ac:Hid (R=(layP [[99,111,110,115,116],n,[61]] txt).bind (zj0 (-2147483648) k1 n1 m1 l1)):=by show _=_;rw [<- HR.out];unfold zh3;rw [Ab.out];rfl
  have HN:Hid (n≠[]∧n.length<=64):=by
   have:=Ab.out
   rw [Bool.and_eq_true] at this
   exact nameOk_len this.1
  have hl:len=1:=by
   have:=Ab.out
   unfold zdk at this
   simp at this
   omega
  subst hl
  obtain ⟨ho,hgp,hkr⟩:=Aa.out rfl
  subst ho
  have Ai:=hid2 hgp hkr
  clear Aa hgp hkr
  go_enter Tryz.func60,Tryz.ntmps60
  go_wp2_with fail
  refine (Ae.out _).mono ?_
  rintro e w2 ⟨hB,hq⟩
  rcases hq with ⟨_,rfl⟩|⟨hq,_⟩
  case inr=>cases hq
  have Ad:=hid (HB.out.trans (hB.mono HB.out.size))
  have Af:=hid (zao hB HK.out)
  obtain ⟨⟨z0,z1,z2,z3,z4⟩,_⟩:=za5 Af.out
  clear hB hwa
  have Ak:=hid (HP.out.1.below Ad.out)
  go_wp2_with fail
  refine (lay_lit p [[99,111,110,115,116],n,[61]] _ rfl (by have hn:=HN.out;intro t ht;simp at ht;rcases ht with rfl|rfl|rfl;exact ⟨by simp,by simp⟩;exact hn;exact ⟨by simp,by simp⟩) (by simp) 3 rfl txt d v0 w2 Ak.out HP.out.2).mono ?_
  rintro e w3 ⟨v3,hk,hQ⟩
  have Ag:=hid ((Lx.Kept.of_below Ad.out).trans hk)
  rcases hQ with ⟨x,hx1,hx2,rfl,hPR⟩|⟨hx1,he⟩
  case inr =>
   have HF:Hid (R=none):=Ac.out.trans (by rw [hx1];rfl)
   clear hx1 hk
   unfold za0 at he
   subst he
   go_wp2
   exact ⟨rfl,v3,Ag.out,Or.inr ⟨HF.out,rfl⟩⟩
  have HF:Hid (R=zj0 (-2147483648) k1 n1 m1 l1 x):=Ac.out.trans (by rw [hx1];rfl)
  have Ah:=hid2 hPR hx2
  have hfr:=HP.out.1.front Ag.out
  have x4:w3.cell? ⟨w.heap.size,4,none⟩=some (.slice (some ⟨g,0,none⟩) 1 c):=(za5 ((hk.block w.heap.size (ze0 Af.out) (by have:=HP.out.1.lt;omega) (own_lt HP.out.1.own _ (Nat.le_refl _))).trans Af.out)).1.2.2.2.2
  obtain ⟨a0,b0,c0,d0,e0⟩:=Ai.out.2.frame (hfr g Ai.out.1)
  have Al:=hid (HI.out.1.front hfr)
  clear hx1 hx2 hPR hk hfr
  simp only [Nat.zero_mul,Nat.zero_add] at a0 b0 c0 d0 e0
  go_wp2_with fail
  refine (pnumber_any p k1 n1 m1 a1 o1 l1 c1 (-2147483648) x d v3 w3 Ah.out.1 Ah.out.2 HM.out.1 HM.out.2 (fun w1 hw=>Al.out m1 HI.out.2 w1 (zj5.of_below (Nat.le_of_lt Ah.out.1.lt) hw))).mono ?_
  rintro e w4 ⟨v4,hk,hQ⟩
  have Aj:=hid (Ag.out.trans hk)
  clear hk
  rcases hQ with ⟨y,hx1,hx2,rfl,hPR⟩|⟨hx1,he⟩
  · have HG:=hid3 (HF.out.trans hx1) hx2 hPR
    clear hx1 hx2 hPR
    go_wp2
    first|go_end0|refine bodyPost_ret (results_none rfl _ _ _) rfl ?_
    exact ⟨v4,Aj.out,Or.inl ⟨y,HG.out.1,HG.out.2.1,rfl,HG.out.2.2⟩⟩
  · have HG:=hid (HF.out.trans hx1)
    clear hx1
    unfold za0 at he
    subst he
    go_wp2
    exact ⟨rfl,v4,Aj.out,Or.inr ⟨HG.out,rfl⟩⟩
def defsP (df:ITree->List UInt8->Option (List UInt8)):List ITree->List UInt8->Option (List UInt8)
 | [],txt=>some txt
 | t::ts,txt=>((df t txt).bind (layP [[59]])).bind (defsP df ts)
def zgy (df:ITree->List UInt8->Option (List UInt8)) (k:Int) (n:List UInt8) (m:Int) (ks:List ITree) (txt:List UInt8):Option (List UInt8) :=
 if k==1&&(zga n false&&zdk ks.length m 0 100) then defsP df ks txt else none
set_option maxHeartbeats 2000000 in
set_option maxRecDepth 4000 in
theorem zku (p:Nat) (k:Int) (n:List UInt8) (m a:Int) (o:Option Addr) (ks:List ITree) (c:Nat) (g:Nat) (txt0:List UInt8) (d:Int) (v0:Value) (w:World) (h:PR w p txt0 d v0) (hx:txt0.length<=16000) (hn:n.length<=maxLen)
 (df:ITree->List UInt8->Option (List UInt8))
 (hkid:∀ j (hj:j<ks.length),o=some ⟨g,0,none⟩∧g<p∧∃ k1 n1 m1 a1 o1 l1 c1,KidR w g j k1 n1 m1 a1 (.slice o1 l1 c1)∧∀ w1 txt v,PR w1 p txt d v->txt.length<=16000->zj5 p w w1->Calls Tryz.prog 60 #[.pointer (some ⟨p,0,none⟩),zc7 k1 n1 m1 a1 (.slice o1 l1 c1)] w1 (zht p d v (df ks[j] txt) w1)) :
 Calls Tryz.prog 36 #[.pointer (some ⟨p,0,none⟩),zc7 k n m a (.slice o ks.length c)] w (zht p d v0 (zgy df k n m ks txt0) w):=by
 have HP:=hid2 h hx
 have Ag:=hid hkid
 obtain ⟨R,hR⟩:∃ R,zgy df k n m ks txt0=R:=⟨_,rfl⟩
 rw [hR]
 have HR:=hid hR
 obtain ⟨L,hL⟩:∃ L,ks.length=L:=⟨_,rfl⟩
 rw [hL]
 have HL:=hid hL
 obtain ⟨ok,hok⟩:∃ ok,(zga n false&&zdk L m 0 100)=ok:=⟨_,rfl⟩
 have Ah:=hid hok
 have Ai:Hid (∀ w,Calls Tryz.prog 59 #[zc7 k n m a (.slice o L c),.bool false,.int .i64 0,.int .i64 100] w (zkb ok w)):=by
  show ∀ w,_
  intro w
  rw [<- hok]
  exact zl2 k n m a o L c 0 100 w (by unfold maxLen at hn;omega)
 unfold zc7 at Ai
 clear h hx hkid hok hn hR hL
 obtain ⟨wa,hwa⟩:∃ x,w.alloc (.cells #[.int .i64 k,.string ⟨n.toArray⟩,.int .i64 m,.int .i64 a,.slice o L c] 29)=x:=⟨_,rfl⟩
 have HB:=hidB hwa
 have kk:wa.heap[w.heap.size]?=some (zje k n m a (.slice o L c)):=by rw [<- hwa];exact heap_alloc_new _ _
 have HK:=hid kk
 obtain ⟨⟨z0,z1,z2,z3,z4⟩,_⟩:=za5 kk
 unfold zc7
 clear kk
 by_cases h1:k=1
 case neg =>
  have j1:(k==1)=false:=by simp [h1]
  have Ac:Hid (R=none):=by show _=_;rw [<- HR.out];unfold zgy;simp [h1]
  go_enter Tryz.func36,Tryz.ntmps36
  go_wp2_with (first|(go_at_call 58;refine (zbn _).mono ?_;rintro e wi ⟨rfl,hwi⟩;rw [hwi];clear hwi wi)|(go_at_call 58;refine (zbd _).mono ?_;rintro e wi ⟨he,hwi⟩;rw [hwi];clear hwi;unfold za0 at he;rw [he];clear he wi))
  exact ⟨rfl,v0,Lx.Kept.of_below HB.out,Or.inr ⟨Ac.out,rfl⟩⟩
 subst h1
 cases ok with
 | false =>
  have Ac:Hid (R=none):=by show _=_;rw [<- HR.out];unfold zgy;rw [HL.out,Ah.out];rfl
  go_enter Tryz.func36,Tryz.ntmps36
  go_wp2_with (first|(go_at_call 58;refine (zbn _).mono ?_;rintro e wi ⟨rfl,hwi⟩;rw [hwi];clear hwi wi)|(go_at_call 58;refine (zbd _).mono ?_;rintro e wi ⟨he,hwi⟩;rw [hwi];clear hwi;unfold za0 at he;rw [he];clear he wi))
  refine (Ai.out _).mono ?_
  rintro e w2 ⟨hB,hq⟩
  rcases hq with ⟨hq,_⟩|⟨_,he⟩
  · cases hq
  have Af:=hid (HB.out.trans (hB.mono HB.out.size))
  clear hB
  unfold za0 at he
  subst he
  go_wp2
  exact ⟨rfl,v0,Lx.Kept.of_below Af.out,Or.inr ⟨Ac.out,rfl⟩⟩
 | true =>
  have Ac:Hid (defsP df (ks.drop 0) txt0=R):=by show _=_;rw [<- HR.out];unfold zgy;rw [HL.out,Ah.out];rfl
  have hl:L<=100:=by
   have:=Ah.out
   unfold zdk at this
   simp at this
   omega
  have Ad:=hid hl
  go_enter Tryz.func36,Tryz.ntmps36
  go_wp2_with (first|(go_at_call 58;refine (zbn _).mono ?_;rintro e wi ⟨rfl,hwi⟩;rw [hwi];clear hwi wi)|(go_at_call 58;refine (zbd _).mono ?_;rintro e wi ⟨he,hwi⟩;rw [hwi];clear hwi;unfold za0 at he;rw [he];clear he wi))
  refine (Ai.out _).mono ?_
  rintro e w2 ⟨hB,hq⟩
  rcases hq with ⟨_,rfl⟩|⟨hq,_⟩
  case inr=>cases hq
  have Af:=hid (HB.out.trans (hB.mono HB.out.size))
  have Ar:=hid (zao hB HK.out)
  obtain ⟨⟨z0,z1,z2,z3,z4⟩,_⟩:=za5 Ar.out
  clear hB hwa
  go_wp2_with fail
  go_loopw [15] (fun i wr=>∃ (q:Nat) (txt:List UInt8) (v:Value),i=.int .i64 q∧q<=L∧Hid (PR wr p txt d v∧txt.length<=16000)∧Hid (Lx.Kept p v0 v w wr)∧Hid (defsP df (ks.drop q) txt=R)) (fun i _=>L - (RowKit.intOf i).toNat)
  case atStart=>exact ⟨0,txt0,v0,rfl,by omega,⟨HP.out.1.below Af.out,HP.out.2⟩,Lx.Kept.of_below Af.out,Ac⟩
  case round =>
   obtain ⟨q,txt,v,rfl,hq,Ae,Aj,Ak⟩:=hrel
   by_cases hlt:q<L
   · have hlt' : (q:Int)<L:=by omega
     have hq0:(0:Int)<=(q:Int):=by omega
     have hqm:(q:Int)<=1000:=by have:=Ad.out;omega
     have Am:=hid hlt
     have hqk:q<ks.length:=by have:=HL.out;omega
     obtain ⟨ho,hgp,k1,n1,m1,a1,o1,l1,c1,hkr,hcal⟩:=Ag.out q hqk
     subst ho
     have An:=hid (HP.out.1.front Aj.out)
     have Ab:=hid hcal
     have Aa:Hid (R=((df ks[q] txt).bind (layP [[59]])).bind (defsP df (ks.drop (q+1)))):=by
      show _=_
      rw [<- Ak.out,List.drop_eq_getElem_cons hqk]
      rfl
     obtain ⟨tq,htq⟩:∃ t,ks[q]=t:=⟨_,rfl⟩
     rw [htq] at Ab Aa
     obtain ⟨a0,b0,c0,d0,e0⟩:=hkr.frame (An.out g hgp)
     clear hcal hkr hgp hlt htq hqk Ak
     unfold zc7 at Ab
     obtain ⟨wb,hwb⟩:∃ x,wr.alloc (.cells #[.int .i64 k1,.string ⟨n1.toArray⟩,.int .i64 m1,.int .i64 a1,.slice o1 l1 c1] 29)=x:=⟨_,rfl⟩
     have Al:Hid (Below wr.heap.size wr wb):=by show Below _ _ _;rw [<- hwb];exact zac _ _
     have Au:Hid (wb.heap[wr.heap.size]?=some (zje k1 n1 m1 a1 (.slice o1 l1 c1))):=by show _=_;rw [<- hwb];exact heap_alloc_new _ _
     obtain ⟨⟨x0,x1,x2,x3,x4⟩,_⟩:=za5 Au.out
     have Av:=hid (Ae.out.1.below Al.out)
     have Aw:=hid (An.out.trans (zj5.of_below (Nat.le_of_lt Ae.out.1.lt) Al.out))
     go_wp2_with fail
     refine (Ab.out wb txt v Av.out Ae.out.2 Aw.out).mono ?_
     clear hwb
     rintro e w3 ⟨v3,hk,hQ⟩
     have Ao:=hid ((Aj.out.trans (Lx.Kept.of_below Al.out)).trans hk)
     clear hk
     rcases hQ with ⟨x,hx1,hx2,rfl,hPR⟩|⟨hx1,he⟩
     case inr =>
      have HF:Hid (R=none):=Aa.out.trans (by rw [hx1];rfl)
      clear hx1
      unfold za0 at he
      subst he
      go_wp2
      exact ⟨rfl,v3,Ao.out,Or.inr ⟨HF.out,rfl⟩⟩
     have HF:Hid (R=(layP [[59]] x).bind (defsP df (ks.drop (q+1)))):=Aa.out.trans (by rw [hx1];rfl)
     have Ap:=hid2 hPR hx2
     clear hx1 hx2 hPR
     go_wp2_with fail
     refine (lay_lit p [[59]] _ rfl (by intro t ht;simp at ht;subst ht;exact ⟨by simp,by simp⟩) (by simp) 1 rfl x d v3 w3 Ap.out.1 Ap.out.2).mono ?_
     rintro e w4 ⟨v4,hk,hQ⟩
     have Aq:=hid (Ao.out.trans hk)
     clear hk
     rcases hQ with ⟨y,hx1,hx2,rfl,hPR⟩|⟨hx1,he⟩
     case inr =>
      have HG:Hid (R=none):=HF.out.trans (by rw [hx1];rfl)
      clear hx1
      unfold za0 at he
      subst he
      go_wp2
      exact ⟨rfl,v4,Aq.out,Or.inr ⟨HG.out,rfl⟩⟩
     have HG:Hid (defsP df (ks.drop (q+1)) y=R):=by show _=_;rw [HF.out,hx1];rfl
     have Ax:=hid2 hPR hx2
     clear hx1 hx2 hPR
     go_wp2
     go_roundw
     case rel=>exact ⟨q+1,y,v4,by go_num,Am.out,Ax,Aq,HG⟩
     case measure=>have:=Am.out;simp [RowKit.intOf];omega
   · have hqe:q=L:=by omega
     subst hqe
     have hlt' : ¬ (q:Int)<q:=by omega
     have HG:Hid (R=some txt):=by show _=_;rw [<- Ak.out,List.drop_of_length_le (by have:=HL.out;omega)];rfl
     go_wp2
     first|go_end0|refine bodyPost_ret (results_none rfl _ _ _) rfl ?_
     exact ⟨v,Aj.out,Or.inl ⟨txt,HG.out,Ae.out.2,rfl,Ae.out.1⟩⟩
end Go.Proofs.YtighggeokiahfaaGreatDoor
namespace Go.Proofs.YtighggeokiahfaaGreatDoor
open Go.RowKit
theorem conv_text {w:World} {p:Nat} {x:List UInt8} {d:Int} {v:Value} (h:PR w p x d v):(convert 66 9 v).run Tryz.prog w=.ok (.string ⟨x.toArray⟩) w:=by
 have ho:=h.own
 rcases ho.2 with ⟨rfl,hx⟩|⟨g,cap,cur,rfl,hbg,hg,hnc,hcm,hcs,htake⟩
 · have:x=[]:=List.length_eq_zero_iff.1 hx
   subst this
   exact run_convert_bytes_nil w 66 5 Tryz.underlying66 Tryz.underlying5 0 0 9 Tryz.underlying9
 · have hr:=run_convert_bytes_arg (P:=Tryz.prog) w 66 5 Tryz.underlying66 Tryz.underlying5 g 0 x.length cap (x.map fun b=>(b.toNat:Int)) (by simp) (fun i hi=>by
    have h2:=ho.cells (g:=g) rfl i (.int .u8 (x[i]).toNat) (by simp [hi])
    rw [show (⟨g,0+i,none⟩:Addr)=(⟨g,0,none⟩:Addr).add i by unfold Addr.add;simp]
    rw [h2]
    simp [hi]) 9 Tryz.underlying9
   have he:strOfNums (x.map fun b=>(b.toNat:Int))=⟨x.toArray⟩:=by
    unfold strOfNums
    have hm:((x.map fun b=>(b.toNat:Int)).map fun n=>UInt8.ofNat n.toNat)=x:=by
     rw [List.map_map]
     refine (List.map_congr_left (g:=id) fun b _=>?_).trans (List.map_id x)
     simp
    rw [hm]
   rw [hr,he]
/-- a variable of one text -/
def strO (s:List UInt8):Obj:=.cells #[.string ⟨s.toArray⟩] 9 (0,0)
theorem zil {w:World} {b:Nat} {s:List UInt8} (h:w.heap[b]?=some (strO s)):w.cell? ⟨b,0,none⟩=some (.string ⟨s.toArray⟩)∧w.frozen? ⟨b,0,none⟩=false:=by
 unfold strO at h
 simp [World.cell?,World.frozen?,h]
set_option maxHeartbeats 2000000 in
set_option maxRecDepth 4000 in
theorem pcatch_fault (sb eb:Nat) (why at_:Int) (older:List PanicEntry) (w:World) (s:List UInt8) (x:Int) (hs:w.heap[sb]?=some (strO s)) (he:w.heap[eb]?=some (oneO x 30)) (h1:sb≠eb) :
 CallsD Tryz.prog 35 #[.pointer (some ⟨sb,0,none⟩),.pointer (some ⟨eb,0,none⟩)] (.panicking ({ v:=.iface 50 (.agg #[.int .i64 why,.int .i64 at_]),recovered:=false }::older)) w fun e u' w' =>
  e=.returned (.tuple #[])∧u'=.panicking ({ v:=.iface 50 (.agg #[.int .i64 why,.int .i64 at_]),recovered:=true }::older) ∧
  (w'.heap[sb]?=some (strO [])∧w'.heap[eb]?=some (oneO why 30))∧(∀ b,b<w.heap.size->b≠sb->b≠eb->w'.heap[b]?=w.heap[b]?)∧w'.os=w.os∧w'.tape=w.tape∧w'.output=w.output∧w.heap.size<=w'.heap.size:=by
 have qa:=zjt why at_
 have HW:=hid2 hs he
 refine callsD_of_wpS Tryz.func35 rfl fun c₀ cs hu=>?_
 clear hs he
 apply wpS_seq
 apply wpS_region
 simp [wpOpsS,go_sem,recoverD,hu,Tryz.ntmps35,Exit.thenS,Array.replicate,qa]
 obtain ⟨wa,hwa⟩:∃ x,w.alloc (.cells #[.int .i64 why,.int .i64 at_] 50)=x:=⟨_,rfl⟩
 rw [hwa]
 have kt:wa.heap[sb]?=some (strO s):=by rw [<- hwa];exact za9 HW.out.1
 have ke:wa.heap[eb]?=some (oneO x 30):=by rw [<- hwa];exact za9 HW.out.2
 have HK:=hid2 kt ke
 have HA:Hid (Below w.heap.size w wa):=by show Below w.heap.size w wa;rw [<- hwa];exact zac _ _
 have f0:wa.cell? ⟨w.heap.size,0,none⟩=some (.int .i64 why):=by rw [<- hwa];simp
 have f1:wa.cell? ⟨w.heap.size,1,none⟩=some (.int .i64 at_):=by rw [<- hwa];simp
 obtain ⟨z0,y0⟩:=zil kt
 obtain ⟨e0,g0⟩:=zbr ke
 have n1:¬ w.heap.size=sb:=by have:=ze0 HW.out.1;omega
 have n2:¬ w.heap.size=eb:=by have:=ze0 HW.out.2;omega
 have m1:¬ sb=eb:=h1
 have m4:¬ eb=sb:=fun e=>h1 e.symm
 clear kt ke h1 hwa qa
 refine wpS_of_wp ?_
 go_wp2
 go_region
 all_goals (
  go_wp2
  have hz:(((wa.setCell ⟨sb,0,none⟩ (.string ⟨#[]⟩)).setCell ⟨eb,0,none⟩ (.int .i64 why)).drew.heap[sb]?=some (strO [])∧((wa.setCell ⟨sb,0,none⟩ (.string ⟨#[]⟩)).setCell ⟨eb,0,none⟩ (.int .i64 why)).drew.heap[eb]?=some (oneO why 30))∧(∀ b,b<w.heap.size->b≠sb->b≠eb->((wa.setCell ⟨sb,0,none⟩ (.string ⟨#[]⟩)).setCell ⟨eb,0,none⟩ (.int .i64 why)).drew.heap[b]?=w.heap[b]?)∧((wa.setCell ⟨sb,0,none⟩ (.string ⟨#[]⟩)).setCell ⟨eb,0,none⟩ (.int .i64 why)).drew.os=w.os∧((wa.setCell ⟨sb,0,none⟩ (.string ⟨#[]⟩)).setCell ⟨eb,0,none⟩ (.int .i64 why)).drew.tape=w.tape∧((wa.setCell ⟨sb,0,none⟩ (.string ⟨#[]⟩)).setCell ⟨eb,0,none⟩ (.int .i64 why)).drew.output=w.output∧w.heap.size<=((wa.setCell ⟨sb,0,none⟩ (.string ⟨#[]⟩)).setCell ⟨eb,0,none⟩ (.int .i64 why)).drew.heap.size:=by
   have hA:=HA.out
   refine ⟨⟨?_,?_⟩,?_,hA.os,hA.tape,hA.output,?_⟩
   · exact (Below.heap_setCell _ _ _ _ m1).trans (zai HK.out.1)
   · exact zai ((Below.heap_setCell _ _ _ _ m4).trans HK.out.2)
   · intro b hb q1 q2
     exact (Below.heap_setCell _ _ _ _ q2).trans ((Below.heap_setCell _ _ _ _ q1).trans (hA.block b hb))
   · show w.heap.size<=((wa.setCell ⟨sb,0,none⟩ (.string ⟨#[]⟩)).setCell ⟨eb,0,none⟩ (.int .i64 why)).heap.size
     have:=hA.size
     simp
     omega
  generalize ((wa.setCell ⟨sb,0,none⟩ (.string ⟨#[]⟩)).setCell ⟨eb,0,none⟩ (.int .i64 why)).drew=wz at hz ⊢
  clear z0 y0 e0 g0 f0 f1 HW HK HA
  cases c₀
  simp_all [bodyPostS,results,Tryz.results35])
set_option maxHeartbeats 2000000 in
set_option maxRecDepth 4000 in
theorem pcatch_idle (sb eb:Nat) (w:World) :
 CallsD Tryz.prog 35 #[.pointer (some ⟨sb,0,none⟩),.pointer (some ⟨eb,0,none⟩)] .returning w fun e u' w'=>e=.returned (.tuple #[])∧u'=.returning∧Below w.heap.size w w':=by
 have qa:=zlr
 refine callsD_of_wpS Tryz.func35 rfl fun c₀ cs hu=>?_
 apply wpS_seq
 apply wpS_region
 simp [wpOpsS,go_sem,recoverD,hu,Tryz.ntmps35,Exit.thenS,Array.replicate,qa]
 refine wpS_of_wp ?_
 go_wp2
 have hb:Below w.heap.size w (w.alloc (.cells #[.int .i64 0,.int .i64 0] 50)):=zac _ _
 generalize w.alloc (.cells #[.int .i64 0,.int .i64 0] 50)=wz at hb ⊢
 cases c₀
 simp_all [bodyPostS,results,Tryz.results35]
end Go.Proofs.YtighggeokiahfaaGreatDoor
