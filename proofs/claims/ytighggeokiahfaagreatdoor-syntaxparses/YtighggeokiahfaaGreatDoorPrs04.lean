import Derived.Test.YtighggeokiahfaaGreatDoorPrs03
set_option maxRecDepth 4000
set_option maxHeartbeats 20000000
namespace Go.Proofs.YtighggeokiahfaaGreatDoor
open Go.RowKit
theorem znk (p g cap:Nat) (ts:List Tok) (hE:Ends ts) (d:Int) (B:PS->Ans Tree) (hW:zd2 p g cap ts d 113 (zc8 B)):zd2 p g cap ts d 70 (zb6 B):=by
 intro i full w h hba;have hd:=zb7 ts i full h.il;unfold zb6;cases h1:(PSof ts i full).sees ze0
 · rw [if_neg (by simp)];cases h2:(PSof ts i full).sees zez
   · rw [if_neg (by simp)];unfold PS.sees at h1 h2;rw [hd] at h1 h2;exact zmc p g cap ts hE d B hW i full w h hba h1 h2
   · rw [if_pos rfl];unfold PS.sees at h1 h2;rw [hd] at h1 h2;exact zj6 p g cap ts hE d i full w h h1 h2
 · rw [if_pos rfl];unfold PS.sees at h1;rw [hd] at h1;exact zj7 p g cap ts hE d i full w h h1
theorem Sole.grownO {p:Nat} {w cur nxt:World} {row:Option Nat} (h:Sole p w cur) (hg:cur.grownBy nxt row) (hq:∀ q,row=some q->w.heap.size<=q):Sole p w nxt :=
 ⟨hg.os.trans h.os,hg.tape.trans h.tape,hg.output.trans h.output,Nat.le_trans h.size hg.size,fun b hb hp=>(hg.block b (Nat.lt_of_lt_of_le hb h.size) (fun e=>by have:=hq b e.symm;omega)).trans (h.block b hb hp)⟩
theorem PP.grownO {w nxt:World} {p g cap:Nat} {ts:List Tok} {i:Nat} {d:Int} {full:Bool} (h:PP w p g cap ts i d full) {row:Option Nat} (hg:w.grownBy nxt row) (hp:row≠some p) (hgq:row≠some g):PP nxt p g cap ts i d full :=
 h.of_blocks (hg.block p h.plt (fun e=>hp e.symm)) (hg.block g h.glt (fun e=>hgq e.symm))
theorem Kep.grownO {w cur nxt:World} {b:Nat} {o:Obj} (h:Kep w cur b o) {row:Option Nat} (hg:cur.grownBy nxt row) (hne:row≠some b):Kep w nxt b o:=⟨(hg.block b h.lt (fun e=>hne e.symm)).trans h.1,h.2⟩
theorem ListAt.own_lt {A:Nat->Prop} {w:World} {ks:List Tree} {sl:Value} (h:ListAt A w ks sl) {q:Nat} (e:sl.ownBlock=some q):A q∧q<w.heap.size:=by
 obtain ⟨xs,ho,hA,_⟩:=h;exact ⟨hA q e,(ho.lt q e).2⟩
def sliceLen:Value->Nat
 | .slice _ n _=>n
 | _=>0
def zb9 {α:Type} (F:PS->Ans α):Prop:=∀ s,s.full=true->∃ e a,F s=.no e a
theorem zgs (ts:List Tok) (i:Nat) (full:Bool):(PSof ts i full).full=full:=rfl
def zgt (N:Nat):Prop:=∀ (args:Array Value) (w:World),(callFunc N args).run Tryz.prog w=.ok (.enter N args) w
theorem some_any (p g cap:Nat) (ts:List Tok) (d:Int) (M:Nat) (F:PS->Ans Tree) (hO:zd2 p g cap ts d M F) (hF:zb9 F) (hM:zgt M) (b c:Nat) (ws:List (List UInt8)) (hl:ws.length<=2) (i0:Nat) (full0:Bool) (w:World) (h:PP w p g cap ts i0 d full0) (hba:zbv p w) (hb:b≠p) (hbl:b<w.heap.size)
 (hw:∀ j (hj:j<ws.length),w.cell? ⟨b,j,none⟩=some (.string ⟨(ws[j]).toArray⟩)) :
 Calls Tryz.prog 117 #[.pointer (some ⟨p,0,none⟩),.func (.func M) #[.pointer (some ⟨p,0,none⟩)] #[],.slice (some ⟨b,0,none⟩) ws.length c] w (zai p g cap ts d (zbq w.heap.size) (zcl F ws 66 [] (PSof ts i0 full0)) w):=by
 have HP:=hid2 h.plt h.glt;have Ak:=hid hba;have HO:=hid hO;have HF:=hid hF;have H:=hid h;have HW:Hid (∀ w1,Sole p w w1->b<w1.heap.size∧∀ j (hj:j<ws.length),w1.cell? ⟨b,j,none⟩=some (.string ⟨(ws[j]).toArray⟩)):=fun w1 hS=>⟨Nat.lt_of_lt_of_le hbl hS.size,fun j hj=>by rw [(zac (hS.block b hbl hb) j).1];exact hw j hj⟩;have Bh:Hid (∀ w1 i full,Sole p w w1->PP w1 p g cap ts i d full->Calls Tryz.prog 149 #[.pointer (some ⟨p,0,none⟩),.slice (some ⟨b,0,none⟩) ws.length c] w1 fun e w'=>e=.returned (.bool (ws.any (PSof ts i full).sees))∧Below w1.heap.size w1 w'):=fun w1 i full hS hP=>seesAny_any p g cap ts i d full b c ws w1 hP (HW.out w1 hS).1 (HW.out w1 hS).2 hl;obtain ⟨R,hR⟩:∃ R,zcl F ws 66 [] (PSof ts i0 full0)=R:=⟨_,rfl⟩;rw [hR];have Bj:=hid hR.symm;obtain ⟨inf,hi1,hi2,hi3,hi4⟩:=zeg;have HI:=hid4 hi1 hi2 hi3 hi4;obtain ⟨WL,hWL⟩:∃ x,ws.length=x:=⟨_,rfl⟩;rw [hWL] at Bh ⊢;have hmm:=hM;unfold zgt at hmm;clear h hba hO hF hw hb hbl hR hi1 hi2 hi3 hi4 hM hl;go_enter Tryz.func117,Tryz.ntmps117
 go_wp2;go_loopw [7] (fun sl wr=>∃ (acc:List Tree) (N:Nat) (oq:Option Addr) (cq:Nat) (ix:Nat) (full:Bool),sl=.slice oq N cq∧acc.length=N∧N<=64∧Hid (PP wr p g cap ts ix d full)∧Hid (Sole p w wr)∧Hid (zbq w.heap.size acc wr (.slice oq N cq))∧Hid (R=zcl F ws (66 - N) acc (PSof ts ix full))) (fun sl _=>65 - sliceLen sl)
 case atStart=>exact ⟨[],0,none,0,i0,full0,rfl,rfl,by omega,H,Sole.refl p w,listAt_nil,Bj⟩
 case round =>
  obtain ⟨acc,N,oq,cq,ix,full,rfl,hN1,hN2,Al,Am,Ao,Bl⟩:=hrel;have HN:=hid2 hN1 hN2;have Ap:Hid (R=if acc.isEmpty||!(ws.any (PSof ts ix full).sees) then (F ((PSof ts ix full).room N 64)).bind fun t s=>zcl F ws (65 - N) (acc++[t]) s else .ok acc (PSof ts ix full)):=by
   show _=_;rw [Bl.out,show 66 - N=(65 - N)+1 by omega,zcl,hN1]
  have Bi:Hid (acc.isEmpty=decide (N=0)):=by
   show _=_;rw [<- hN1];cases acc <;> simp
  have Br:=hid hWL;clear hN1 hN2;by_cases h0:N=0
  · have hz:((N:Int)==0)=true:=(by simp [h0]);have Aq:Hid (acc.isEmpty=true):=(by show _=_;rw [Bi.out];simp [h0]);have Ae:=hid Al;have Ar:=hid (zhp p g cap ts ix d full N 64 wr Ae.out);obtain ⟨rv,hrv⟩:∃ r,F (PSof ts ix (zfj full N 64))=r:=⟨_,rfl⟩;have Af:Hid (R=rv.bind fun t s=>zcl F ws (65 - N) (acc++[t]) s):=by
     show _=_;rw [Ap.out,if_pos (by rw [Aq.out];rfl)];rw [<- hrv,zgr]
    have Au:Hid (∀ t s,rv=.ok t s->N+1<=64):=fun t s e=>by
     rcases Nat.lt_or_ge N 64 with h1|h1
     · exact h1
     · have hNN:=HN.out;have hN64:N=64:=(by omega);obtain ⟨x,y,hx⟩:=HF.out (PSof ts ix (zfj full N 64)) (by rw [zgs];unfold zfj;simp [hN64]);rw [<- hrv,hx] at e;cases e
    have Av:Hid (∀ w1,PP w1 p g cap ts ix d (zfj full N 64)->zbv p w1->Calls Tryz.prog M #[.pointer (some ⟨p,0,none⟩)] w1 (zai p g cap ts d (treeIs w1.heap.size) rv w1)):=fun w1 h1 h2=>by
     rw [<- hrv];exact HO.out ix _ w1 h1 h2
    clear hrv;clear h0 hWL;(go_wp2_with fail);refine Ar.out.mono ?_;rintro e wc ⟨rfl,hP,hS,hz2⟩;have Aw:=hid hP;have Ab:=hid (Am.out.trans hS);have Ag:=hid (Ak.out.sole Ab.out);have Ah:Hid (ListAt (zaf w.heap.size) wc acc (.slice oq N cq)):=ListAt.sole Ao.out (fun b h=>by have h1:w.heap.size<=b:=h;have:=HP.out;omega) hS;clear hP hS hz2;(go_wp2_with fail);refine (Av.out wc Aw.out Ag.out).mono ?_;cases rv with
    | no why at_ =>
     rintro e w99 ⟨rfl,hS⟩;have Ac:=hid (Ab.out.trans hS);clear hS;go_wp2;refine ⟨rfl,?_⟩;rw [Af.out];exact ⟨rfl,Ac.out⟩
    | ok tv st =>
     rintro e w3 ⟨v,i,full,rfl,hT,rfl,hP,hS⟩;have Ax:=hid (Au.out _ _ rfl);obtain ⟨k8,n8,m8,a8,ks8⟩:=tv;obtain ⟨sl,rfl,hL⟩:=treeAt_node.1 hT;obtain ⟨o8,l8,c8,rfl⟩:=hL.shape;obtain ⟨wb,hwb⟩:∃ x,w3.alloc (.cells #[.int .i64 k8,.string ⟨n8.toArray⟩,.int .i64 m8,.int .i64 a8,.slice o8 l8 c8] 29)=x:=⟨_,rfl⟩;have hBb:Below w3.heap.size w3 wb:=(by rw [<- hwb];exact zab _ _);have hp:=HP.out;have hl3:ListAt (fun b=>(zaf w.heap.size b)∧b<wc.heap.size) wb acc (.slice oq N cq):=((za7 Ah.out).sole (fun b h=>by have h1:w.heap.size<=b:=h.1;omega) hS).below hBb;obtain ⟨xs,how,hAq,hrq⟩:=hl3;have Aa:Hid (∀ q,(Value.slice oq N cq).ownBlock=some q->w.heap.size<=q∧q<wc.heap.size):=fun q e=>Ah.out.own_lt e;rw [HN.out.1] at how;have Ay:=hid how;have Az:=hid hrq;have Ba:Hid (wb.heap[w3.heap.size]?=some (.cells #[.int .i64 k8,.string ⟨n8.toArray⟩,.int .i64 m8,.int .i64 a8,.slice o8 l8 c8] 29 (0,0))):=(by show _=_;rw [<- hwb];exact heap_alloc_new _ _);have Bb:=hid (TreeAt.below hT hBb);have Bc:=hid (hP.below hBb);have Ai:=hid ((Ab.out.trans hS).trans (Sole.of_below hBb));have Bm:=hid ((Ag.out.sole hS).below hBb);have Bn:Hid (wc.heap.size<=w3.heap.size∧w3.heap.size<wb.heap.size):=⟨hS.size,by rw [<- hwb];simp⟩;clear hP hS hT hL hBb hp how hAq hrq;unfold kidV;(go_wp2_with (at_builtin;refine wpList_append_lies _ rfl _ _ 27 rfl 0 29 inf (.agg #[.int .i64 0,.string ⟨#[]⟩,.int .i64 0,.int .i64 0,.slice none 0 0]) 5 64 Tryz.underlying27 HI.out.1 HI.out.2.1 HI.out.2.2.1 HI.out.2.2.2 rfl (by decide) (.slice oq N cq) N xs rfl Ay.out ⟨w3.heap.size,0,none⟩ 1 1 [.int .i64 k8,.string ⟨n8.toArray⟩,.int .i64 m8,.int .i64 a8,.slice o8 l8 c8] rfl rfl (World.news_of_block (cs:=#[.int .i64 k8,.string ⟨n8.toArray⟩,.int .i64 m8,.int .i64 a8,.slice o8 l8 c8]) (t:=29) (fr:=(0,0)) Ba.out) (by simp [Value.oneCell']) (by decide) (by have:=HN.out;unfold maxLen;omega) (by have:=HN.out;omega) (Nat.zero_le _) _ rfl ?_;intro gq cq2 w4 hown hgrow hat hlt;have HG:Hid (wb.grownBy w4 (Value.slice oq N cq).ownBlock∧w4.ownsRow 0 29 5 (.slice (some ⟨gq,0,none⟩) (N+1) cq2) (N+1) (xs++[.int .i64 k8,.string ⟨n8.toArray⟩,.int .i64 m8,.int .i64 a8,.slice o8 l8 c8])∧((Value.slice oq N cq).ownBlock=some gq∨gq=wb.heap.size)):=⟨hgrow,hown,hat⟩;clear hown hgrow hat hlt));clear hwb;have hp:=HP.out;have Bd:Hid (PP w4 p g cap ts i d full):=Bc.out.grownO HG.out.1 (fun e=>by have:=Aa.out p e;omega) (fun e=>by have:=Aa.out g e;omega);have Aj:=hid (Ai.out.grownO HG.out.1 (fun q e=>(Aa.out q e).1));have Bo:=hid (Ak.out.sole Aj.out);have Be:Hid (zbq w.heap.size (acc++[(.node k8 n8 m8 a8 ks8)]) w4 (.slice (some ⟨gq,0,none⟩) (N+1) cq2)):=by
      refine zbn (sl:=.slice oq N cq) (fun q e=>(Aa.out q e).1) (fun b=>b<wc.heap.size) (RowV.frame (fun b h=>⟨⟨h.1.1,h.2⟩,h.1.2⟩) (fun _ _ _=>rfl) _ _ Az.out) (zay (Bb.out.weaken (fun b h=>?_))) (by rw [HN.out.1];exact HG.out.2.1) HG.out.1 wb.heap.size (Nat.le_refl _) Ai.out.size ?_
      · have h1:wc.heap.size<=b:=h;have h2:=Ab.out.size;exact ⟨⟨by show w.heap.size<=b;omega,fun e=>by have:=(Aa.out b e).2;omega⟩,Nat.not_lt.2 h1⟩
      · rcases HG.out.2.2 with e|e
        · exact Or.inl e.symm
        · exact Or.inr (by rw [e];rfl)
     have hNN:=HN.out;have Ad:Hid (R=zcl F ws (66 - (N+1)) (acc++[(.node k8 n8 m8 a8 ks8)]) (PSof ts i full)):=by
      show _=_;rw [show 66 - (N+1)=65 - N by omega];exact Af.out
     clear hp;go_roundw
     case rel=>exact ⟨acc++[(.node k8 n8 m8 a8 ks8)],N+1,some ⟨gq,0,none⟩,cq2,i,full,by go_num,by simp [hNN.1],Ax.out,Bd,Aj,Be,Ad⟩
     case measure=>simp [sliceLen];omega
  · have hz:((N:Int)==0)=false:=(by simp;omega);have Aq:Hid (acc.isEmpty=false):=(by show _=_;rw [Bi.out];simp [h0]);have An:=hid (Bh.out wr ix full Am.out Al.out);clear h0 hWL;cases hse:ws.any (PSof ts ix full).sees
    · rw [hse] at An;have Bp:Hid ((acc.isEmpty||!(ws.any (PSof ts ix full).sees))=true):=(by show _=_;rw [hse];simp);clear hse;(go_wp2_with fail);refine An.out.mono ?_;rintro e wv ⟨rfl,hB⟩;have Ae:=hid (Al.out.below hB);have Bf:=hid (Am.out.trans (Sole.of_below hB));have Bg:=hid (ListAt.below Ao.out hB);clear hB;have Ar:=hid (zhp p g cap ts ix d full N 64 wv Ae.out);obtain ⟨rv,hrv⟩:∃ r,F (PSof ts ix (zfj full N 64))=r:=⟨_,rfl⟩;have Af:Hid (R=rv.bind fun t s=>zcl F ws (65 - N) (acc++[t]) s):=by
       show _=_;rw [Ap.out,if_pos Bp.out];rw [<- hrv,zgr]
      have Au:Hid (∀ t s,rv=.ok t s->N+1<=64):=fun t s e=>by
       rcases Nat.lt_or_ge N 64 with h1|h1
       · exact h1
       · have hNN:=HN.out;have hN64:N=64:=(by omega);obtain ⟨x,y,hx⟩:=HF.out (PSof ts ix (zfj full N 64)) (by rw [zgs];unfold zfj;simp [hN64]);rw [<- hrv,hx] at e;cases e
      have Av:Hid (∀ w1,PP w1 p g cap ts ix d (zfj full N 64)->zbv p w1->Calls Tryz.prog M #[.pointer (some ⟨p,0,none⟩)] w1 (zai p g cap ts d (treeIs w1.heap.size) rv w1)):=fun w1 h1 h2=>by
       rw [<- hrv];exact HO.out ix _ w1 h1 h2
      clear hrv;(go_wp2_with fail);refine Ar.out.mono ?_;rintro e wc ⟨rfl,hP,hS,hz2⟩;have Aw:=hid hP;have Ab:=hid (Bf.out.trans hS);have Ag:=hid (Ak.out.sole Ab.out);have Ah:Hid (ListAt (zaf w.heap.size) wc acc (.slice oq N cq)):=ListAt.sole Bg.out (fun b h=>by have h1:w.heap.size<=b:=h;have:=HP.out;omega) hS;clear hP hS hz2;(go_wp2_with fail);refine (Av.out wc Aw.out Ag.out).mono ?_;cases rv with
      | no why at_ =>
       rintro e w99 ⟨rfl,hS⟩;have Ac:=hid (Ab.out.trans hS);clear hS;go_wp2;refine ⟨rfl,?_⟩;rw [Af.out];exact ⟨rfl,Ac.out⟩
      | ok tv st =>
       rintro e w3 ⟨v,i,full,rfl,hT,rfl,hP,hS⟩;have Ax:=hid (Au.out _ _ rfl);obtain ⟨k8,n8,m8,a8,ks8⟩:=tv;obtain ⟨sl,rfl,hL⟩:=treeAt_node.1 hT;obtain ⟨o8,l8,c8,rfl⟩:=hL.shape;obtain ⟨wb,hwb⟩:∃ x,w3.alloc (.cells #[.int .i64 k8,.string ⟨n8.toArray⟩,.int .i64 m8,.int .i64 a8,.slice o8 l8 c8] 29)=x:=⟨_,rfl⟩;have hBb:Below w3.heap.size w3 wb:=(by rw [<- hwb];exact zab _ _);have hp:=HP.out;have hl3:ListAt (fun b=>(zaf w.heap.size b)∧b<wc.heap.size) wb acc (.slice oq N cq):=((za7 Ah.out).sole (fun b h=>by have h1:w.heap.size<=b:=h.1;omega) hS).below hBb;obtain ⟨xs,how,hAq,hrq⟩:=hl3;have Aa:Hid (∀ q,(Value.slice oq N cq).ownBlock=some q->w.heap.size<=q∧q<wc.heap.size):=fun q e=>Ah.out.own_lt e;rw [HN.out.1] at how;have Ay:=hid how;have Az:=hid hrq;have Ba:Hid (wb.heap[w3.heap.size]?=some (.cells #[.int .i64 k8,.string ⟨n8.toArray⟩,.int .i64 m8,.int .i64 a8,.slice o8 l8 c8] 29 (0,0))):=(by show _=_;rw [<- hwb];exact heap_alloc_new _ _);have Bb:=hid (TreeAt.below hT hBb);have Bc:=hid (hP.below hBb);have Ai:=hid ((Ab.out.trans hS).trans (Sole.of_below hBb));have Bm:=hid ((Ag.out.sole hS).below hBb);have Bn:Hid (wc.heap.size<=w3.heap.size∧w3.heap.size<wb.heap.size):=⟨hS.size,by rw [<- hwb];simp⟩;clear hP hS hT hL hBb hp how hAq hrq;unfold kidV;(go_wp2_with (at_builtin;refine wpList_append_lies _ rfl _ _ 27 rfl 0 29 inf (.agg #[.int .i64 0,.string ⟨#[]⟩,.int .i64 0,.int .i64 0,.slice none 0 0]) 5 64 Tryz.underlying27 HI.out.1 HI.out.2.1 HI.out.2.2.1 HI.out.2.2.2 rfl (by decide) (.slice oq N cq) N xs rfl Ay.out ⟨w3.heap.size,0,none⟩ 1 1 [.int .i64 k8,.string ⟨n8.toArray⟩,.int .i64 m8,.int .i64 a8,.slice o8 l8 c8] rfl rfl (World.news_of_block (cs:=#[.int .i64 k8,.string ⟨n8.toArray⟩,.int .i64 m8,.int .i64 a8,.slice o8 l8 c8]) (t:=29) (fr:=(0,0)) Ba.out) (by simp [Value.oneCell']) (by decide) (by have:=HN.out;unfold maxLen;omega) (by have:=HN.out;omega) (Nat.zero_le _) _ rfl ?_;intro gq cq2 w4 hown hgrow hat hlt;have HG:Hid (wb.grownBy w4 (Value.slice oq N cq).ownBlock∧w4.ownsRow 0 29 5 (.slice (some ⟨gq,0,none⟩) (N+1) cq2) (N+1) (xs++[.int .i64 k8,.string ⟨n8.toArray⟩,.int .i64 m8,.int .i64 a8,.slice o8 l8 c8])∧((Value.slice oq N cq).ownBlock=some gq∨gq=wb.heap.size)):=⟨hgrow,hown,hat⟩;clear hown hgrow hat hlt));clear hwb;have hp:=HP.out;have Bd:Hid (PP w4 p g cap ts i d full):=Bc.out.grownO HG.out.1 (fun e=>by have:=Aa.out p e;omega) (fun e=>by have:=Aa.out g e;omega);have Aj:=hid (Ai.out.grownO HG.out.1 (fun q e=>(Aa.out q e).1));have Bo:=hid (Ak.out.sole Aj.out);have Be:Hid (zbq w.heap.size (acc++[(.node k8 n8 m8 a8 ks8)]) w4 (.slice (some ⟨gq,0,none⟩) (N+1) cq2)):=by
        refine zbn (sl:=.slice oq N cq) (fun q e=>(Aa.out q e).1) (fun b=>b<wc.heap.size) (RowV.frame (fun b h=>⟨⟨h.1.1,h.2⟩,h.1.2⟩) (fun _ _ _=>rfl) _ _ Az.out) (zay (Bb.out.weaken (fun b h=>?_))) (by rw [HN.out.1];exact HG.out.2.1) HG.out.1 wb.heap.size (Nat.le_refl _) Ai.out.size ?_
        · have h1:wc.heap.size<=b:=h;have h2:=Ab.out.size;exact ⟨⟨by show w.heap.size<=b;omega,fun e=>by have:=(Aa.out b e).2;omega⟩,Nat.not_lt.2 h1⟩
        · rcases HG.out.2.2 with e|e
          · exact Or.inl e.symm
          · exact Or.inr (by rw [e];rfl)
       have hNN:=HN.out;have Ad:Hid (R=zcl F ws (66 - (N+1)) (acc++[(.node k8 n8 m8 a8 ks8)]) (PSof ts i full)):=by
        show _=_;rw [show 66 - (N+1)=65 - N by omega];exact Af.out
       clear hp;go_roundw
       case rel=>exact ⟨acc++[(.node k8 n8 m8 a8 ks8)],N+1,some ⟨gq,0,none⟩,cq2,i,full,by go_num,by simp [hNN.1],Ax.out,Bd,Aj,Be,Ad⟩
       case measure=>simp [sliceLen];omega
    · rw [hse] at An;have Bq:Hid (R=.ok acc (PSof ts ix full)):=by
       show _=_;rw [Ap.out,if_neg];rw [hse,Aq.out];simp
      clear hse;(go_wp2_with fail);refine An.out.mono ?_;rintro e wv ⟨rfl,hB⟩;have Ae:=hid (Al.out.below hB);have Bf:=hid (Am.out.trans (Sole.of_below hB));have Bg:=hid (ListAt.below Ao.out hB);clear hB;go_wp2;go_ret;rw [Bq.out];exact ⟨_,ix,full,rfl,Bg.out,rfl,Ae.out,Bf.out⟩
theorem zmy (p g cap:Nat) (ts:List Tok) (hE:Ends ts) (d:Int) (M:Nat) (F:PS->Ans Tree) (hO:zd2 p g cap ts d M F) (hM:zgt M) (most:Nat) (hm1:1<=most) (hm:most<=64) (i0:Nat) (full0:Bool) (w:World) (h:PP w p g cap ts i0 d full0) (hba:zbv p w) :
 Calls Tryz.prog 143 #[.pointer (some ⟨p,0,none⟩),.func (.func M) #[.pointer (some ⟨p,0,none⟩)] #[],.int .i64 most] w (zai p g cap ts d (zbq w.heap.size) (zfd F most (PSof ts i0 full0)) w):=by
 have HP:=hid2 h.plt h.glt;have Ay:=hid hba;have HE:=hid hE;have HO:=hid hO;have Am:=hid2 hm1 hm;obtain ⟨R,hR⟩:∃ R,zfd F most (PSof ts i0 full0)=R:=⟨_,rfl⟩;rw [hR];have Ab:=hid (hO i0 full0 w h hba);obtain ⟨r0,hr0⟩:∃ r,F (PSof ts i0 full0)=r:=⟨_,rfl⟩;have An:Hid (R=r0.bind fun t s=>zha F most 66 [t] s):=by
  show _=_;rw [<- hR,<- hr0];rfl
 rw [hr0] at Ab;obtain ⟨inf,hi1,hi2,hi3,hi4⟩:=zeg;have HI:=hid4 hi1 hi2 hi3 hi4;have Ah:=hid (Sole.refl p w);have hmm:=hM;unfold zgt at hmm;clear h hba hO hR hi1 hi2 hi3 hi4 hE hM hm hm1 hr0;go_enter Tryz.func143,Tryz.ntmps143
 go_wp2_with fail
 refine Ab.out.mono ?_;cases r0 with
 | no why at_ =>
  rintro e w99 ⟨rfl,hS⟩;have Aa:=hid (Ah.out.trans hS);clear hS;go_wp2;refine ⟨rfl,?_⟩;rw [An.out];exact ⟨rfl,Aa.out⟩
 | ok tv st =>
  rintro e w1 ⟨v,i1,full1,rfl,hT,rfl,hP,hS⟩;obtain ⟨k8,n8,m8,a8,ks8⟩:=tv;obtain ⟨sl,rfl,hL⟩:=treeAt_node.1 hT;obtain ⟨o8,l8,c8,rfl⟩:=hL.shape;obtain ⟨w2,hw2⟩:∃ x,w1.alloc (.cells #[.int .i64 k8,.string ⟨n8.toArray⟩,.int .i64 m8,.int .i64 a8,.slice o8 l8 c8] 29)=x:=⟨_,rfl⟩;have hB2:Below w1.heap.size w1 w2:=by rw [<- hw2];exact zab _ _
  have Az:=hid (hP.below hB2);have Ba:=hid (hS.trans (Sole.of_below hB2));have Bb:Hid (zbq w.heap.size [(.node k8 n8 m8 a8 ks8)] w2 (.slice (some ⟨w1.heap.size,0,none⟩) 1 1)):=by
   have hs:=hS.size;refine zbd (show w2.heap[w1.heap.size]?=some (zdr [.int .i64 k8,.string ⟨n8.toArray⟩,.int .i64 m8,.int .i64 a8,.slice o8 l8 c8]) from by rw [<- hw2];exact heap_alloc_new _ _) (by simp) hs (zay ((TreeAt.below (treeIs.made hT) hB2).weaken (fun b h=>⟨h.1,by omega⟩)))
  have Bc:=hid An.out;clear hP hS hT hL hB2;unfold kidV;go_wp2;clear hw2;go_loopw [7] (fun sl wr=>∃ (acc:List Tree) (N:Nat) (oq:Option Addr) (cq:Nat) (ix:Nat) (full:Bool),sl=.slice oq N cq∧acc.length=N∧N<=most∧Hid (PP wr p g cap ts ix d full)∧Hid (Sole p w wr)∧Hid (zbq w.heap.size acc wr (.slice oq N cq))∧Hid (R=zha F most (67 - N) acc (PSof ts ix full))) (fun sl _=>most+1 - sliceLen sl)
  case atStart=>exact ⟨[(.node k8 n8 m8 a8 ks8)],1,some ⟨w1.heap.size,0,none⟩,1,i1,full1,rfl,rfl,Am.out.1,Az,Ba,Bb,Bc⟩
  case round =>
   obtain ⟨acc,N,oq,cq,ix,full,rfl,hN1,hN2,Ae,Ao,Ap,Bd⟩:=hrel;have hmo:=Am.out;have HN:Hid (acc.length=N∧N<=64):=⟨hN1,by omega⟩;have Be:=hid hN2;have Aq:Hid (R=if (PSof ts ix full).sees [44] then ((PSof ts ix full).room N most).take.bind fun _ s=>(F s).bind fun t s=>zha F most (66 - N) (acc++[t]) s else .ok acc (PSof ts ix full)):=by
    show _=_;rw [Bd.out,show 67 - N=(66 - N)+1 by omega,zha,hN1]
   have Af:=hid (zf6 p g cap ts ix d full [44] wr Ae.out);clear hN1 hN2 hmo;cases hse:(PSof ts ix full).sees [44]
   · rw [hse] at Af;have Bf:Hid (R=.ok acc (PSof ts ix full)):=by
      show _=_;rw [Aq.out,if_neg (by rw [hse];simp)]
     clear hse;(go_wp2_with fail);refine Af.out.mono ?_;rintro e wv ⟨rfl,hB⟩;have Ai:=hid (Ae.out.below hB);have Aj:=hid (Ao.out.trans (Sole.of_below hB));have Ak:=hid (ListAt.below Ap.out hB);clear hB;go_wp2;go_ret;rw [Bf.out];exact ⟨_,ix,full,rfl,Ak.out,rfl,Ai.out,Aj.out⟩
   · rw [hse] at Af;have hix:=HE.out.sees Ae.out.il (t:=[44]) (by simp) hse;obtain ⟨rt,hrt⟩:∃ r,(PSof ts ix (zfj full N most)).take=r:=⟨_,rfl⟩;have Ac:Hid (R=rt.bind fun _ s=>(F s).bind fun t s=>zha F most (66 - N) (acc++[t]) s):=by
      show _=_;rw [Aq.out,if_pos hse,zgr,hrt]
     have Bg:Hid (∀ t s,rt=.ok t s->N+1<=most):=fun t s e=>by
      rcases Nat.lt_or_ge N most with h1|h1
      · exact h1
      · have hNN:=Be.out;have hN64:N=most:=(by omega);rw [<- hrt] at e;unfold PS.take at e;rw [show (PSof ts ix (zfj full N most)).full=true from by rw [zgs];unfold zfj;simp [hN64],if_pos rfl] at e;cases e
     have Bh:Hid (∀ w1,PP w1 p g cap ts ix d (zfj full N most)->Calls Tryz.prog 69 #[.pointer (some ⟨p,0,none⟩)] w1 (zai p g cap ts d zfh rt w1)):=fun w1 h1=>by
      rw [<- hrt];exact zdn p g cap ts ix d _ w1 h1 hix
     clear hse hix hrt;(go_wp2_with fail);refine Af.out.mono ?_;rintro e wv ⟨rfl,hB⟩;have Ai:=hid (Ae.out.below hB);have Aj:=hid (Ao.out.trans (Sole.of_below hB));have Ak:=hid (ListAt.below Ap.out hB);have Bi:=hid (zhp p g cap ts ix d full N most wv Ai.out);clear hB;(go_wp2_with fail);refine Bi.out.mono ?_;rintro e wt ⟨rfl,hP,hS,hz2⟩;have Bj:=hid hP;have Ar:=hid (Aj.out.trans hS);have Bl:Hid (ListAt (zaf w.heap.size) wt acc (.slice oq N cq)):=ListAt.sole Ak.out (fun b h=>by have h1:w.heap.size<=b:=h;have:=HP.out;omega) hS;clear hP hS hz2;(go_wp2_with fail);refine (Bh.out wt Bj.out).mono ?_;cases rt with
     | no why at_ =>
      rintro e w99 ⟨rfl,hS⟩;have Aa:=hid (Ar.out.trans hS);clear hS;go_wp2;refine ⟨rfl,?_⟩;rw [Ac.out];exact ⟨rfl,Aa.out⟩
     | ok tk st =>
      rintro e wc ⟨v,i2,full2,rfl,rfl,rfl,hP,hS⟩;have Au:=hid (Bg.out _ _ rfl);have Bm:=hid hP;have Ag:=hid (Ar.out.trans hS);have Bn:=hid (Ay.out.sole Ag.out);have Av:Hid (ListAt (zaf w.heap.size) wc acc (.slice oq N cq)):=ListAt.sole Bl.out (fun b h=>by have h1:w.heap.size<=b:=h;have:=HP.out;omega) hS;obtain ⟨rv,hrv⟩:∃ r,F (PSof ts i2 full2)=r:=⟨_,rfl⟩;have Aw:Hid (R=rv.bind fun t s=>zha F most (66 - N) (acc++[t]) s):=by
       show _=_;rw [Ac.out,<- hrv];rfl
      have Bo:Hid (∀ w1,PP w1 p g cap ts i2 d full2->zbv p w1->Calls Tryz.prog M #[.pointer (some ⟨p,0,none⟩)] w1 (zai p g cap ts d (treeIs w1.heap.size) rv w1)):=fun w1 h1 h2=>by
       rw [<- hrv];exact HO.out i2 full2 w1 h1 h2
      clear hP hS hrv;unfold tokV;(go_wp2_with fail);refine (Bo.out wc Bm.out Bn.out).mono ?_;cases rv with
      | no why at_ =>
       rintro e w99 ⟨rfl,hS⟩;have Aa:=hid (Ag.out.trans hS);clear hS;go_wp2;refine ⟨rfl,?_⟩;rw [Aw.out];exact ⟨rfl,Aa.out⟩
      | ok tv st =>
       rintro e w3 ⟨v,i,full,rfl,hT,rfl,hP,hS⟩;obtain ⟨k8,n8,m8,a8,ks8⟩:=tv;obtain ⟨sl,rfl,hL⟩:=treeAt_node.1 hT;obtain ⟨o8,l8,c8,rfl⟩:=hL.shape;obtain ⟨wb,hwb⟩:∃ x,w3.alloc (.cells #[.int .i64 k8,.string ⟨n8.toArray⟩,.int .i64 m8,.int .i64 a8,.slice o8 l8 c8] 29)=x:=⟨_,rfl⟩;have hBb:Below w3.heap.size w3 wb:=(by rw [<- hwb];exact zab _ _);have hp:=HP.out;have hl3:ListAt (fun b=>(zaf w.heap.size b)∧b<wc.heap.size) wb acc (.slice oq N cq):=((za7 Av.out).sole (fun b h=>by have h1:w.heap.size<=b:=h.1;omega) hS).below hBb;obtain ⟨xs,how,hAq,hrq⟩:=hl3;have Ad:Hid (∀ q,(Value.slice oq N cq).ownBlock=some q->w.heap.size<=q∧q<wc.heap.size):=fun q e=>Av.out.own_lt e;rw [HN.out.1] at how;have Bp:=hid how;have Bq:=hid hrq;have Br:Hid (wb.heap[w3.heap.size]?=some (.cells #[.int .i64 k8,.string ⟨n8.toArray⟩,.int .i64 m8,.int .i64 a8,.slice o8 l8 c8] 29 (0,0))):=(by show _=_;rw [<- hwb];exact heap_alloc_new _ _);have Bs:=hid (TreeAt.below hT hBb);have Bt:=hid (hP.below hBb);have Ax:=hid ((Ag.out.trans hS).trans (Sole.of_below hBb));have Bx:Hid (wc.heap.size<=w3.heap.size∧w3.heap.size<wb.heap.size):=⟨hS.size,by rw [<- hwb];simp⟩;clear hP hS hT hL hBb hp how hAq hrq;unfold kidV;(go_wp2_with (at_builtin;refine wpList_append_lies _ rfl _ _ 27 rfl 0 29 inf (.agg #[.int .i64 0,.string ⟨#[]⟩,.int .i64 0,.int .i64 0,.slice none 0 0]) 5 64 Tryz.underlying27 HI.out.1 HI.out.2.1 HI.out.2.2.1 HI.out.2.2.2 rfl (by decide) (.slice oq N cq) N xs rfl Bp.out ⟨w3.heap.size,0,none⟩ 1 1 [.int .i64 k8,.string ⟨n8.toArray⟩,.int .i64 m8,.int .i64 a8,.slice o8 l8 c8] rfl rfl (World.news_of_block (cs:=#[.int .i64 k8,.string ⟨n8.toArray⟩,.int .i64 m8,.int .i64 a8,.slice o8 l8 c8]) (t:=29) (fr:=(0,0)) Br.out) (by simp [Value.oneCell']) (by decide) (by have:=HN.out;unfold maxLen;omega) (by have:=HN.out;omega) (Nat.zero_le _) _ rfl ?_;intro gq cq2 w4 hown hgrow hat hlt;have HG:Hid (wb.grownBy w4 (Value.slice oq N cq).ownBlock∧w4.ownsRow 0 29 5 (.slice (some ⟨gq,0,none⟩) (N+1) cq2) (N+1) (xs++[.int .i64 k8,.string ⟨n8.toArray⟩,.int .i64 m8,.int .i64 a8,.slice o8 l8 c8])∧((Value.slice oq N cq).ownBlock=some gq∨gq=wb.heap.size)):=⟨hgrow,hown,hat⟩;clear hown hgrow hat hlt));clear hwb;have hp:=HP.out;have Bu:Hid (PP w4 p g cap ts i d full):=Bt.out.grownO HG.out.1 (fun e=>by have:=Ad.out p e;omega) (fun e=>by have:=Ad.out g e;omega);have Bv:=hid (Ax.out.grownO HG.out.1 (fun q e=>(Ad.out q e).1));have Bw:Hid (zbq w.heap.size (acc++[(.node k8 n8 m8 a8 ks8)]) w4 (.slice (some ⟨gq,0,none⟩) (N+1) cq2)):=by
        refine zbn (sl:=.slice oq N cq) (fun q e=>(Ad.out q e).1) (fun b=>b<wc.heap.size) (RowV.frame (fun b h=>⟨⟨h.1.1,h.2⟩,h.1.2⟩) (fun _ _ _=>rfl) _ _ Bq.out) (zay (Bs.out.weaken (fun b h=>?_))) (by rw [HN.out.1];exact HG.out.2.1) HG.out.1 wb.heap.size (Nat.le_refl _) Ax.out.size ?_
        · have h1:wc.heap.size<=b:=h;have h2:=Ag.out.size;exact ⟨⟨by show w.heap.size<=b;omega,fun e=>by have:=(Ad.out b e).2;omega⟩,Nat.not_lt.2 h1⟩
        · rcases HG.out.2.2 with e|e
          · exact Or.inl e.symm
          · exact Or.inr (by rw [e];rfl)
       have hNN:=HN.out;have hLT:=Au.out;have Al:Hid (R=zha F most (67 - (N+1)) (acc++[(.node k8 n8 m8 a8 ks8)]) (PSof ts i full)):=by
        show _=_;rw [show 67 - (N+1)=66 - N by omega];exact Aw.out
       clear hp;go_roundw
       case rel=>exact ⟨acc++[(.node k8 n8 m8 a8 ks8)],N+1,some ⟨gq,0,none⟩,cq2,i,full,by go_num,by simp [hNN.1],Au.out,Bu,Bv,Bw,Al⟩
       case measure=>simp [sliceLen];omega
theorem bodied_144:zgt 144:=fun args w=>by kernel_rfl
theorem bodied_142:zgt 142:=fun args w=>by kernel_rfl
theorem bodied_145:zgt 145:=fun args w=>by kernel_rfl
theorem bodied_147:zgt 147:=fun args w=>by kernel_rfl
theorem bodied_73:zgt 73:=fun args w=>by kernel_rfl
theorem bodied_119:zgt 119:=fun args w=>by kernel_rfl
theorem zb9.bind {α β:Type} {F:PS->Ans α} (h:zb9 F) (f:α->PS->Ans β):zb9 fun s=>(F s).bind f:=fun s hs=>by
 obtain ⟨e,a,h⟩:=h s hs;exact ⟨e,a,by show (F s).bind f=_;rw [h];rfl⟩
theorem zb9.ite {α:Type} {F G:PS->Ans α} (c:PS->Prop) [∀ s,Decidable (c s)] (h:zb9 F) (k:zb9 G):zb9 fun s=>if c s then F s else G s:=fun s hs=>by
 by_cases e:c s
 · obtain ⟨x,y,h⟩:=h s hs;exact ⟨x,y,by show (if c s then _ else _)=_;rw [if_pos e,h]⟩
 · obtain ⟨x,y,h⟩:=k s hs;exact ⟨x,y,by show (if c s then _ else _)=_;rw [if_neg e,h]⟩
theorem zgk {α:Type} (e:Int):zb9 (fun s=>(s.bad e:Ans α)):=fun s _=>⟨e,s.hd.at_,rfl⟩
theorem zdz:zb9 PS.take:=fun s hs=>⟨42,s.hd.at_,by unfold PS.take;rw [if_pos hs];rfl⟩
theorem zgv (t:List UInt8):zb9 (fun s=>s.want t):=(zdz.bind _).ite (fun s=>s.sees t=true) (zgk 40)
theorem znj (k:Int):zb9 (fun s=>s.ofKind k):=zdz.ite (fun s=>s.hd.kind=k) (zgk 40)
theorem strict_name:zb9 zcp:=znj 1
theorem strict_ref:zb9 refP:=strict_name.bind _
theorem zf4 (k:Int):zb9 (zcw k):=zdz.bind _
theorem zkw:zb9 zd7:=fun s hs=>by
 unfold zd7;by_cases h:s.hd.kind=1
 · rw [if_pos h];exact strict_ref s hs
 · rw [if_neg h];cases hu:s.sees zbh
   · show ∃ e a,zcb false s.hd.at_ zb0 s=Ans.no e a;unfold zcb;split
     · rename_i b _;exact zdz.bind (fun _ s'=>Ans.ok (Tree.node b.1 [] 0 s.hd.at_ []) s') s hs
     · exact ⟨40,s.hd.at_,rfl⟩
   · obtain ⟨e,a,h⟩:=zdz s hs;exact ⟨e,a,by
      show ((s.take.bind fun _ s=>Ans.ok () s).bind _)=_;rw [h];rfl⟩
theorem zma {B:PS->Ans Tree} (h:zb9 B):zb9 (zc8 B):=h.ite (fun s=>(s.sees zd4||s.sees zbk||s.sees zes)=true) zkw
theorem zj4 {B:PS->Ans Tree} (h:zb9 B):zb9 (zb6 B) :=
 ((zf4 25).bind _).ite (fun s=>s.sees ze0=true) (((zf4 26).bind _).ite (fun s=>s.sees zez=true) ((zma h).bind _))
theorem zis {B:PS->Ans Tree} (h:zb9 B):zb9 (za1 B):=(zf4 13).ite (fun s=>s.sees zdc=true) (zj4 h)
theorem strict_field {B:PS->Ans Tree} (h:zb9 B):zb9 (za8 B):=(zis h).bind _
theorem strict_cases (f:Nat):zb9 (zdl (f+1) []):=(zgv zb3).bind _
theorem strict_arm (B:PS->Ans Tree):zb9 (armP B):=fun s hs=>by
 obtain ⟨e,a,h⟩:=strict_cases 65 s hs;exact ⟨e,a,by show (zdl 66 [] s).bind _=_;rw [h];rfl⟩
theorem zkv (n:Nat) (b:Bool):zb9 (zbe n b):=by
 cases n with
 | zero=>exact zgk 41
 | succ n=>exact zdz.bind _
theorem zhe (k:Int) (part:PS->Ans Tree):zb9 (zef k part):=zdz.bind _
theorem zmb:zb9 zdm:=((zhe 11 zcg).bind _).ite (fun s=>s.sees zd3=true) (zgk 40)
theorem zni:zb9 zge:=(zf4 13).ite (fun s=>s.sees zdc=true) zkw
theorem zj5:zb9 zcg:=zni.bind _
def zg8 (p g cap:Nat) (ts:List Tok) (d:Int) (f:Nat) (F:PS->Ans (List Tree)):Prop :=
 ∀ i full w,PP w p g cap ts i d full->zbv p w->Calls Tryz.prog f #[.pointer (some ⟨p,0,none⟩)] w (zai p g cap ts d (zbq w.heap.size) (F (PSof ts i full)) w)
theorem zai.lift {α:Type} {p g cap:Nat} {ts:List Tok} {d:Int} {val val' : α->World->Value->Prop} {r:Ans α} {w w1:World} {e:Ending} {w' : World} (hv:∀ a w v,val a w v->val' a w v) (hB:Below w.heap.size w w1) (h:zai p g cap ts d val r w1 e w'):zai p g cap ts d val' r w e w':=by
 cases r with
 | no why at_=>exact ⟨h.1,(Sole.of_below hB).trans h.2⟩
 | ok a s =>
  obtain ⟨v,i,full,h1,h2,h3,h4,h5⟩:=h;exact ⟨v,i,full,h1,hv _ _ _ h2,h3,h4,(Sole.of_below hB).trans h5⟩
theorem zbq.weaken {B B' : Nat} {ks:List Tree} {w:World} {v:Value} (h:zbq B ks w v) (hB:B'<=B):zbq B' ks w v:=ListAt.weaken h (fun _ hb=>Nat.le_trans hB hb)
theorem some_one (p g cap:Nat) (ts:List Tok) (d:Int) (M:Nat) (F:PS->Ans Tree) (hO:zd2 p g cap ts d M F) (hF:zb9 F) (hM:zgt M) (t:List UInt8) (i:Nat) (full:Bool) (w:World) (h:PP w p g cap ts i d full) (hba:zbv p w) :
 Calls Tryz.prog 117 #[.pointer (some ⟨p,0,none⟩),.func (.func M) #[.pointer (some ⟨p,0,none⟩)] #[],.slice (some ⟨w.heap.size,0,none⟩) 1 1] (w.alloc (.cells #[.string ⟨t.toArray⟩] 9)) (zai p g cap ts d (zbq w.heap.size) (zcl F [t] 66 [] (PSof ts i full)) w):=by
 have hB:=zab w (.cells #[.string ⟨t.toArray⟩] 9);refine (some_any p g cap ts d M F hO hF hM w.heap.size 1 [t] (by simp) i full _ (h.below hB) (hba.below hB) (Nat.ne_of_gt h.plt) (by simp) ?_).mono fun e w' hp=>zai.lift (fun a w v h=>zbq.weaken h hB.size) hB hp;intro j hj;have:j=0:=by simp at hj;omega
 subst this;simp
theorem some_two (p g cap:Nat) (ts:List Tok) (d:Int) (M:Nat) (F:PS->Ans Tree) (hO:zd2 p g cap ts d M F) (hF:zb9 F) (hM:zgt M) (t u:List UInt8) (i:Nat) (full:Bool) (w:World) (h:PP w p g cap ts i d full) (hba:zbv p w) :
 Calls Tryz.prog 117 #[.pointer (some ⟨p,0,none⟩),.func (.func M) #[.pointer (some ⟨p,0,none⟩)] #[],.slice (some ⟨w.heap.size,0,none⟩) 2 2] (w.alloc (.cells #[.string ⟨t.toArray⟩,.string ⟨u.toArray⟩] 9)) (zai p g cap ts d (zbq w.heap.size) (zcl F [t,u] 66 [] (PSof ts i full)) w):=by
 have hB:=zab w (.cells #[.string ⟨t.toArray⟩,.string ⟨u.toArray⟩] 9);refine (some_any p g cap ts d M F hO hF hM w.heap.size 2 [t,u] (by simp) i full _ (h.below hB) (hba.below hB) (Nat.ne_of_gt h.plt) (by simp) ?_).mono fun e w' hp=>zai.lift (fun a w v h=>zbq.weaken h hB.size) hB hp;intro j hj;have:j=0∨j=1:=by simp at hj;omega
 rcases this with rfl|rfl
 · simp
 · simp
theorem zfv (p g cap:Nat) (ts:List Tok) (hE:Ends ts) (d:Int):zg8 p g cap ts d 114 (zca):=by
 intro i full w h hba;have HP:=hid2 h.plt h.glt;have HE:=hid hE;have Aj:=hid hba;have Ak:=hid h;have Al:=hid (Sole.refl p w);obtain ⟨R,hR⟩:∃ R,(zca) (PSof ts i full)=R:=⟨_,rfl⟩;rw [hR];have Am:=hid hR.symm;have hmf:∀ (fn:Fn) (first cap:Array Value) (w:World),(Instr.makeFunc fn first cap).run Tryz.prog w=.ok (.func fn first cap) w:=fun _ _ _ _=>rfl;clear h hba hE hR;go_enter Tryz.func114,Tryz.ntmps114
 have Ab:=hid (zbr p g cap ts HE.out i d full [123] (by simp) w Ak.out);obtain ⟨ru,hru⟩:∃ r,(PSof ts i full).want [123]=r:=⟨_,rfl⟩;have Ad:Hid (R=ru.bind fun _ s=>(zfd zgf 64 s).bind fun l s=>(s.want [125]).bind fun _ s=>.ok l s):=by
  show _=_;rw [Am.out];first|(rw [<- hru];done)|(rw [<- hru];rfl)
 rw [hru] at Ab;clear hru;go_wp2_with fail
 refine Ab.out.mono ?_;cases ru with
 | no why at_ =>
  rintro e w99 ⟨rfl,hS⟩;have Aa:=hid (Al.out.trans hS);clear hS;go_wp2;refine ⟨rfl,?_⟩;rw [Ad.out];exact ⟨rfl,Aa.out⟩
 | ok u st =>
  rintro e w1 ⟨v,i,full,rfl,rfl,rfl,hP,hS⟩;have Ac:=hid hS;have Ae:zbv p w1:=Aj.out.sole hS;have Af:=hid (zmy p g cap ts HE.out d 144 zgf (fun i full w h _=>member_any p g cap ts HE.out i d full w h) bodied_144 64 (by omega) (by omega) i full w1 hP Ae);obtain ⟨rl,hrl⟩:∃ r,zfd zgf 64 (PSof ts i full)=r:=⟨_,rfl⟩;have Ag:Hid (R=rl.bind fun l s=>(s.want [125]).bind fun _ s=>.ok l s):=by
   show _=_;rw [Ad.out];first|(rw [<- hrl];done)|(rw [<- hrl];rfl)
  rw [hrl] at Af;clear hP hS Ae hrl;go_wp2_with fail
  refine Af.out.mono ?_;cases rl with
  | no why at_ =>
   rintro e w99 ⟨rfl,hS⟩;have Aa:=hid (Ac.out.trans hS);clear hS;go_wp2;refine ⟨rfl,?_⟩;rw [Ag.out];exact ⟨rfl,Aa.out⟩
  | ok l st =>
   rintro e w2 ⟨v,i,full,rfl,hL,rfl,hP,hS⟩;have Ah:=hid (Ac.out.trans hS);have An:=hid hP;have Ao:=hid (zbq.weaken hL Ac.out.size);obtain ⟨o8,l8,c8,rfl⟩:=hL.shape;clear hP hS hL;have Ab:=hid (zbr p g cap ts HE.out i d full [125] (by simp) w2 An.out);obtain ⟨ru,hru⟩:∃ r,(PSof ts i full).want [125]=r:=⟨_,rfl⟩;have Ai:Hid (R=ru.bind fun _ s=>.ok l s):=by
    show _=_;rw [Ag.out];first|(rw [<- hru];done)|(rw [<- hru];rfl)
   rw [hru] at Ab;clear hru;go_wp2_with fail
   refine Ab.out.mono ?_;cases ru with
   | no why at_ =>
    rintro e w99 ⟨rfl,hS⟩;have Aa:=hid (Ah.out.trans hS);clear hS;go_wp2;refine ⟨rfl,?_⟩;rw [Ai.out];exact ⟨rfl,Aa.out⟩
   | ok u st =>
    rintro e w3 ⟨v,i,full,rfl,rfl,rfl,hP,hS⟩;have Ap:=hid (Ah.out.trans hS);have Aq:=hid hP;have Ar:=hid (zbq.sole Ao.out (Nat.le_refl _) HP.out.1 hS);clear hP hS;go_wp2;go_ret;rw [Ai.out];exact ⟨_,i,full,rfl,Ar.out,rfl,Aq.out,Ap.out⟩
theorem zhr (p g cap:Nat) (ts:List Tok) (hE:Ends ts) (d:Int) (B:PS->Ans Tree) (hF:zd2 p g cap ts d 145 (za8 B)) (hB:zb9 B):zg8 p g cap ts d 115 (zc1 B):=by
 intro i full w h hba;have HP:=hid2 h.plt h.glt;have HE:=hid hE;have Aj:=hid hba;have Ak:=hid h;have Al:=hid (Sole.refl p w);obtain ⟨R,hR⟩:∃ R,(zc1 B) (PSof ts i full)=R:=⟨_,rfl⟩;rw [hR];have Am:=hid hR.symm;have hmf:∀ (fn:Fn) (first cap:Array Value) (w:World),(Instr.makeFunc fn first cap).run Tryz.prog w=.ok (.func fn first cap) w:=fun _ _ _ _=>rfl;have HF:=hid2 hF (strict_field hB);clear hF hB;clear h hba hE hR;go_enter Tryz.func115,Tryz.ntmps115
 have Ab:=hid (zbr p g cap ts HE.out i d full [123] (by simp) w Ak.out);obtain ⟨ru,hru⟩:∃ r,(PSof ts i full).want [123]=r:=⟨_,rfl⟩;have Ad:Hid (R=ru.bind fun _ s=>(zcl (za8 B) [[125]] 66 [] s).bind fun l s=>(s.want [125]).bind fun _ s=>.ok l s):=by
  show _=_;rw [Am.out];first|(rw [<- hru];done)|(rw [<- hru];rfl)
 rw [hru] at Ab;clear hru;go_wp2_with fail
 refine Ab.out.mono ?_;cases ru with
 | no why at_ =>
  rintro e w99 ⟨rfl,hS⟩;have Aa:=hid (Al.out.trans hS);clear hS;go_wp2;refine ⟨rfl,?_⟩;rw [Ad.out];exact ⟨rfl,Aa.out⟩
 | ok u st =>
  rintro e w1 ⟨v,i,full,rfl,rfl,rfl,hP,hS⟩;have Ac:=hid hS;have Ae:zbv p w1:=Aj.out.sole hS;have Af:=hid (some_one p g cap ts d 145 (za8 B) HF.out.1 HF.out.2 bodied_145 [125] i full w1 hP Ae);obtain ⟨rl,hrl⟩:∃ r,zcl (za8 B) [[125]] 66 [] (PSof ts i full)=r:=⟨_,rfl⟩;have Ag:Hid (R=rl.bind fun l s=>(s.want [125]).bind fun _ s=>.ok l s):=by
   show _=_;rw [Ad.out];first|(rw [<- hrl];done)|(rw [<- hrl];rfl)
  rw [hrl] at Af;clear hP hS Ae hrl;go_wp2_with fail
  refine Af.out.mono ?_;cases rl with
  | no why at_ =>
   rintro e w99 ⟨rfl,hS⟩;have Aa:=hid (Ac.out.trans hS);clear hS;go_wp2;refine ⟨rfl,?_⟩;rw [Ag.out];exact ⟨rfl,Aa.out⟩
  | ok l st =>
   rintro e w2 ⟨v,i,full,rfl,hL,rfl,hP,hS⟩;have Ah:=hid (Ac.out.trans hS);have An:=hid hP;have Ao:=hid (zbq.weaken hL Ac.out.size);obtain ⟨o8,l8,c8,rfl⟩:=hL.shape;clear hP hS hL;have Ab:=hid (zbr p g cap ts HE.out i d full [125] (by simp) w2 An.out);obtain ⟨ru,hru⟩:∃ r,(PSof ts i full).want [125]=r:=⟨_,rfl⟩;have Ai:Hid (R=ru.bind fun _ s=>.ok l s):=by
    show _=_;rw [Ag.out];first|(rw [<- hru];done)|(rw [<- hru];rfl)
   rw [hru] at Ab;clear hru;go_wp2_with fail
   refine Ab.out.mono ?_;cases ru with
   | no why at_ =>
    rintro e w99 ⟨rfl,hS⟩;have Aa:=hid (Ah.out.trans hS);clear hS;go_wp2;refine ⟨rfl,?_⟩;rw [Ai.out];exact ⟨rfl,Aa.out⟩
   | ok u st =>
    rintro e w3 ⟨v,i,full,rfl,rfl,rfl,hP,hS⟩;have Ap:=hid (Ah.out.trans hS);have Aq:=hid hP;have Ar:=hid (zbq.sole Ao.out (Nat.le_refl _) HP.out.1 hS);clear hP hS;go_wp2;go_ret;rw [Ai.out];exact ⟨_,i,full,rfl,Ar.out,rfl,Aq.out,Ap.out⟩
theorem zoc (p g cap:Nat) (ts:List Tok) (hE:Ends ts) (d:Int):zg8 p g cap ts d 151 zbg:=by
 intro i full w h hba;have HP:=hid2 h.plt h.glt;have HE:=hid hE;have Ag:=hid hba;have Ad:=hid h;obtain ⟨R,hR⟩:∃ R,zbg (PSof ts i full)=R:=⟨_,rfl⟩;rw [hR];have hmf:∀ (fn:Fn) (first cap:Array Value) (w:World),(Instr.makeFunc fn first cap).run Tryz.prog w=.ok (.func fn first cap) w:=fun _ _ _ _=>rfl;have Ac:=hid (zf6 p g cap ts i d full zdc w h);cases hse:(PSof ts i full).sees zdc
 · rw [hse] at Ac;have hR1:R=zfd zd7 4 (PSof ts i full):=by
    rw [<- hR];unfold zbg;rw [hse,if_neg (by simp)]
   have Ah:Hid (∀ w1,Below w.heap.size w w1->Calls Tryz.prog 143 #[.pointer (some ⟨p,0,none⟩),.func (.func 142) #[.pointer (some ⟨p,0,none⟩)] #[],.int .i64 4] w1 (zai p g cap ts d (zbq w1.heap.size) R w1)):=fun w1 hB=>by
    rw [hR1];exact zmy p g cap ts HE.out d 142 zd7 (zga p g cap ts HE.out d) bodied_142 4 (by omega) (by omega) i full w1 (Ad.out.below hB) (Ag.out.below hB)
   clear h hba hE hR hse hR1;go_enter Tryz.func151,Tryz.ntmps151
   go_wp2_with fail
   refine Ac.out.mono ?_;rintro e w1 ⟨rfl,hB⟩;have Aa:Hid (Sole p w w1):=Sole.of_below hB;have Ae:=Ah.out w1 hB;have Ai:=hid Ae;clear hB Ae;go_wp2_with fail
   refine Ai.out.mono ?_;cases R with
   | no why at_ =>
    rintro e w99 ⟨rfl,hS⟩;have Ab:=hid (Aa.out.trans hS);clear hS;go_wp2;exact ⟨rfl,rfl,Ab.out⟩
   | ok l st =>
    rintro e w2 ⟨v,i,full,rfl,hL,rfl,hP,hS⟩;have Aj:=hid (Aa.out.trans hS);have Ak:=hid hP;have Al:=hid (zbq.weaken hL Aa.out.size);obtain ⟨o8,l8,c8,rfl⟩:=hL.shape;clear hP hS hL;go_wp2;go_ret;exact ⟨_,i,full,rfl,Al.out,rfl,Ak.out,Aj.out⟩
 · rw [hse] at Ac;have hix:=hE.sees h.il (t:=zdc) (by simp [zdc]) hse;obtain ⟨ra,hra⟩:∃ r,zcw 13 (PSof ts i full)=r:=⟨_,rfl⟩;have Af:Hid (R=ra.bind fun t s=>.ok [t] s):=by
    show _=_;rw [<- hR,<- hra];unfold zbg;rw [hse,if_pos rfl]
   have Am:Hid (∀ w1,Below w.heap.size w w1->Calls Tryz.prog 112 #[.pointer (some ⟨p,0,none⟩),.int .i64 13] w1 (zai p g cap ts d (treeIs w1.heap.size) ra w1)):=fun w1 hB=>by
    rw [<- hra];exact zgq p g cap ts i d 13 full w1 (Ad.out.below hB) hix
   clear h hba hE hR hse hix hra;go_enter Tryz.func151,Tryz.ntmps151
   go_wp2_with fail
   refine Ac.out.mono ?_;rintro e w1 ⟨rfl,hB⟩;have Aa:Hid (Sole p w w1):=Sole.of_below hB;have An:=hid (Am.out w1 hB);clear hB;go_wp2_with fail
   refine An.out.mono ?_;cases ra with
   | no why at_ =>
    rintro e w99 ⟨rfl,hS⟩;have Ab:=hid (Aa.out.trans hS);clear hS;go_wp2;refine ⟨rfl,?_⟩;rw [Af.out];exact ⟨rfl,Ab.out⟩
   | ok tv st =>
    rintro e w2 ⟨v,i,full,rfl,hT,rfl,hP,hS⟩;obtain ⟨k8,n8,m8,a8,ks8⟩:=tv;obtain ⟨sl,rfl,hL⟩:=treeAt_node.1 hT;obtain ⟨o8,l8,c8,rfl⟩:=hL.shape;obtain ⟨w3,hw3⟩:∃ x,w2.alloc (.cells #[.int .i64 k8,.string ⟨n8.toArray⟩,.int .i64 m8,.int .i64 a8,.slice o8 l8 c8] 29)=x:=⟨_,rfl⟩;have hB3:Below w2.heap.size w2 w3:=(by rw [<- hw3];exact zab _ _);have hs2:Sole p w w2:=Aa.out.trans hS;have Ao:=hid (hP.below hB3);have Ap:=hid (hs2.trans (Sole.of_below hB3));have Aq:Hid (zbq w.heap.size [(.node k8 n8 m8 a8 ks8)] w3 (.slice (some ⟨w2.heap.size,0,none⟩) 1 1)):=by
     have hs:=hs2.size;have h1:=Aa.out.size;exact zbd (show w3.heap[w2.heap.size]?=some (zdr [.int .i64 k8,.string ⟨n8.toArray⟩,.int .i64 m8,.int .i64 a8,.slice o8 l8 c8]) from by rw [<- hw3];exact heap_alloc_new _ _) (by simp) hs (zay ((TreeAt.below (treeIs.made hT) hB3).weaken (fun b h=>⟨Nat.le_trans h1 h.1,by omega⟩)))
    clear hP hS hT hL hB3 hs2;unfold kidV;go_wp2;go_ret;rw [Af.out];exact ⟨_,i,full,rfl,Aq.out,rfl,Ao.out,Ap.out⟩
theorem zfc {α β γ:Type} (r:Ans α) (f:α->PS->Ans β) (k:β->PS->Ans γ):(r.bind f).bind k=r.bind fun a s=>(f a s).bind k:=by cases r <;> rfl
theorem zob (p g cap:Nat) (ts:List Tok) (hE:Ends ts) (d:Int) (B:PS->Ans Tree) (hF:zd2 p g cap ts d 145 (za8 B)):zd2 p g cap ts d 147 (armP B):=by
 intro i0 full0 w h hba;have HP:=hid2 h.plt h.glt;have HE:=hid hE;have Cu:=hid hba;have HF:=hid hF;have H:=hid h;obtain ⟨tk,htk⟩:∃ x,ts[i0]'h.il=x:=⟨_,rfl⟩;obtain ⟨AT,hAT⟩:∃ x,tk.at_=x:=⟨_,rfl⟩;obtain ⟨R,hR⟩:∃ R,armP B (PSof ts i0 full0)=R:=⟨_,rfl⟩;rw [hR];have Cv:Hid (R=(zdl (66 - 0) [] (PSof ts i0 full0)).bind fun l s=>(za8 B s).bind fun t s=>Ans.ok (Tree.node 8 [] 0 AT (l++[t])) s):=by
  show _=_;rw [<- hR,<- hAT,<- htk];unfold armP;rw [zb7 ts i0 full0 h.il]
 obtain ⟨wa,hwa⟩:∃ x,w.alloc (.cells #[.int .i64 0,.string ⟨#[]⟩,.int .i64 0,.int .i64 0,.slice none 0 0] 29)=x:=⟨_,rfl⟩;have b1:Below w.heap.size w wa:=by rw [<- hwa];exact zab _ _
 have Cq:Hid (Kep w wa w.heap.size (kidO 0 [] 0 0 (.slice none 0 0))):=by show Kep w wa _ _;rw [<- hwa];exact Kep.new (Nat.le_refl _) _
 have Bt:=hid b1;have Cw:Hid (Calls Tryz.prog 38 #[.pointer (some ⟨p,0,none⟩)] wa fun e w'=>e=.returned (.agg #[.int .i64 tk.kind,.string ⟨tk.text.toArray⟩,.int .i64 tk.num,.int .i64 AT])∧Below wa.heap.size wa w'):=by
  have hx:=zcc p g cap ts i0 d full0 wa (h.below b1);rw [htk] at hx;rw [<- hAT];exact hx
 have q3:=fld3 tk.kind tk.num AT ⟨tk.text.toArray⟩;have qb:=bld03 8 AT;obtain ⟨inf,hi1,hi2,hi3,hi4⟩:=zeg;have HI:=hid4 hi1 hi2 hi3 hi4;clear h hba hE hF hR htk hAT b1 hi1 hi2 hi3 hi4;go_enter Tryz.func147,Tryz.ntmps147
 go_wp2_with fail
 refine Cw.out.mono ?_;rintro e w1 ⟨rfl,hB1⟩;have hb01:Below w.heap.size w w1:=Bt.out.trans (hB1.mono Bt.out.size);have Cx:=hid hB1;clear hB1 hb01 hwa;go_wp2;have hB1:=Cx.out;have hb01:Below w.heap.size w w1:=Bt.out.trans (hB1.mono Bt.out.size);obtain ⟨w2,hw2⟩:∃ x,w1.alloc (.cells #[.int .i64 8,.string ⟨#[]⟩,.int .i64 0,.int .i64 AT,.slice none 0 0] 29)=x:=⟨_,rfl⟩;have hB2:Below w1.heap.size w1 w2:=by rw [<- hw2];exact zab _ _
 have Cy:=hid ((H.out.below hb01).below hB2);have Cz:Hid (Sole p w w2):=(Sole.of_below hb01).trans (Sole.of_below hB2);have Bw:=hid ((Cq.out.below hB1).below hB2);have Bx:Hid (Kep w w2 w1.heap.size (kidO 8 [] 0 AT (.slice none 0 0))):=by show Kep w w2 _ _;rw [<- hw2];exact Kep.new hb01.size _
 have Bz:=hid ((Cq.out.below hB1).lt);rw [hw2];clear hB1 hb01 hB2;clear hw2 q3 qb;go_loopw [] (fun wr=>∃ (acc:List Tree) (N:Nat) (oq:Option Addr) (cq:Nat) (ix:Nat) (full:Bool),acc.length=N∧N<=64∧Hid (PP wr p g cap ts ix d full)∧Hid (Sole p w wr)∧Hid (Kep w wr w.heap.size (kidO 0 [] 0 0 (.slice none 0 0)))∧Hid (Kep w wr w1.heap.size (kidO 8 [] 0 AT (.slice oq N cq)))∧Hid (ListAt (fun b=>w.heap.size<b∧b≠w1.heap.size) wr acc (.slice oq N cq))∧Hid (R=(zdl (66 - N) acc (PSof ts ix full)).bind fun l s=>(za8 B s).bind fun t s=>Ans.ok (Tree.node 8 [] 0 AT (l++[t])) s)) (fun wr=>65 - sliceLen ((wr.cell? ⟨w1.heap.size,4,none⟩).getD (.int .i64 0)))
 case atStart=>exact ⟨[],0,none,0,i0,full0,rfl,by omega,Cy,Cz,Bw,Bx,listAt_nil,Cv⟩
 case round =>
  obtain ⟨acc,N,oq,cq,ix,full,hN1,hN2,Bu,Ca,Ay,Ak,Cb,Da⟩:=hrel;have HN:=hid2 hN1 hN2;have Cr:Hid (sliceLen ((wr.cell? ⟨w1.heap.size,4,none⟩).getD (.int .i64 0))=N):=by
   show _=_;rw [(zaa Ak.out.1).1.2.2.2.2];rfl
  have Cc:Hid (R=(if acc.isEmpty||(PSof ts ix full).sees zb3 then (((PSof ts ix full).room N 64).want zb3).bind fun _ s=>(zbz s).bind fun v s=>(s.want [58]).bind fun _ s=>zdl (65 - N) (acc++[v]) s else .ok acc (PSof ts ix full)).bind fun l s=>(za8 B s).bind fun t s=>Ans.ok (Tree.node 8 [] 0 AT (l++[t])) s):=by
   show _=_;rw [Da.out,show 66 - N=(65 - N)+1 by omega,zdl,hN1]
  have Cs:Hid (acc.isEmpty=decide (N=0)):=by
   show _=_;rw [<- hN1];cases acc <;> simp
  obtain ⟨⟨r0,r1,r2,r3,r4⟩,_⟩:=zaa Ak.out.1;clear hN1 hN2;by_cases h0:N=0
  · have hz:((N:Int)==0)=true:=(by simp [h0]);have Cd:Hid (acc.isEmpty=true):=(by show _=_;rw [Cs.out];simp [h0]);have Ce:Hid (R=((((PSof ts ix full).room N 64).want zb3).bind fun _ s=>(zbz s).bind fun v s=>(s.want [58]).bind fun _ s=>zdl (65 - N) (acc++[v]) s).bind fun l s=>(za8 B s).bind fun t s=>Ans.ok (Tree.node 8 [] 0 AT (l++[t])) s):=by
     show _=_;rw [Cc.out,if_pos (by rw [Cd.out];rfl)]
    obtain ⟨wv,hwv⟩:∃ x,wr=x:=⟨_,rfl⟩;have Cf:=hid (hwv ▸ Bu);have Cg:=hid (hwv ▸ Ca);have Az:=hid (hwv ▸ Ay);have Al:=hid (hwv ▸ Ak);have Ch:=hid (hwv ▸ Cb);clear h0;subst hwv;have Ci:=hid (zhp p g cap ts ix d full N 64 wr Cf.out);obtain ⟨⟨p0,p1,p2,p3,p4⟩,_⟩:=zaa Al.out.1;(go_wp2_with fail);refine Ci.out.mono ?_;rintro e wx ⟨rfl,hP,hS,hz2⟩;obtain ⟨fullx,hfx⟩:∃ x,zfj full N 64=x:=⟨_,rfl⟩;have Be:=hid hfx;rw [hfx] at hP;have hp:=HP.out;have Cj:=hid hP;have Bf:=hid (Cg.out.trans hS);have Ba:=hid (Az.out.sole hp.1 hS);have Bb:=hid (Al.out.sole hp.1 hS);have Ck:=hid (Ch.out.sole (fun b h=>by omega) hS);have Am:=hid (zbr p g cap ts HE.out ix d fullx zb3 (by simp [zb3]) wx Cj.out);obtain ⟨ru,hru⟩:∃ r,(PSof ts ix fullx).want zb3=r:=⟨_,rfl⟩;have Bg:Hid (R=(ru.bind fun _ s=>(zbz s).bind fun v s=>(s.want [58]).bind fun _ s=>zdl (65 - N) (acc++[v]) s).bind fun l s=>(za8 B s).bind fun t s=>Ans.ok (Tree.node 8 [] 0 AT (l++[t])) s):=by
     show _=_;rw [Ce.out,zgr,Be.out,hru]
    have Bc:Hid (∀ t s,ru=.ok t s->N+1<=64):=fun t s e=>by
     rcases Nat.lt_or_ge N 64 with h1|h1
     · exact h1
     · have hNN:=HN.out;have hN64:N=64:=(by omega);obtain ⟨x,y,hx⟩:=zgv zb3 (PSof ts ix fullx) (by rw [zgs,<- Be.out];unfold zfj;simp [hN64]);have hx' : (PSof ts ix fullx).want zb3=.no x y:=hx;rw [<- hru,hx'] at e;cases e
    rw [hru] at Am;clear hP hS hz2 hp hru hfx;(go_wp2_with fail);refine Am.out.mono ?_;cases ru with
    | no why at_ =>
     rintro e w99 ⟨rfl,hS⟩;have Aj:=hid (Bf.out.trans hS);clear hS;go_wp2;refine ⟨rfl,?_⟩;rw [Bg.out];exact ⟨rfl,Aj.out⟩
    | ok u st =>
     rintro e wy ⟨v,i,full,rfl,rfl,rfl,hP,hS⟩;have hp:=HP.out;have Bh:=hid (Bc.out _ _ rfl);have Ap:=hid (Bf.out.trans hS);have Ae:=hid (Ba.out.sole hp.1 hS);have Ab:=hid (Bb.out.sole hp.1 hS);have Aq:=hid (Ck.out.sole (fun b h=>by omega) hS);obtain ⟨rv,hrv⟩:∃ r,zbz (PSof ts i full)=r:=⟨_,rfl⟩;have Ar:Hid (R=(rv.bind fun v s=>(s.want [58]).bind fun _ s=>zdl (65 - N) (acc++[v]) s).bind fun l s=>(za8 B s).bind fun t s=>Ans.ok (Tree.node 8 [] 0 AT (l++[t])) s):=by
      show _=_;rw [Bg.out,<- hrv];rfl
     have Au:Hid (∀ m,Calls Tryz.prog 140 #[.pointer (some ⟨p,0,none⟩)] (wy.drewN m) (zai p g cap ts d (treeIs wy.heap.size) rv wy)):=fun m=>by
      have hB:Below wy.heap.size wy (wy.drewN m):=zad (Below.refl _ _) m;rw [<- hrv];exact (zck p g cap ts HE.out i d full _ (hP.below hB)).mono fun e w' hp=>zai.from_below hB hp
     obtain ⟨⟨l0,l1,l2,l3,l4⟩,⟨f0,f1,f2,f3,f4⟩⟩:=zaa Ab.out.1;clear hP hS hp hrv p0 p1 p2 p3 p4;(go_wp2_with fail);cases rv with
     | no why at_ =>
      (go_region_dies);all_goals (
       refine (Au.out _).mono ?_;rintro e w9 ⟨rfl,hS⟩;refine ⟨rfl,?_⟩;rw [Ar.out];exact ⟨rfl,Ap.out.trans hS⟩)
     | ok tv st =>
      obtain ⟨k8,n8,m8,a8,ks8⟩:=tv;go_region_law (first
       | (refine zbw rfl 140 #[.pointer (some ⟨p,0,none⟩)] (by go_simp) _ (Au.out _) ?_
          rintro e w5 ⟨v,i,full,rfl,hT,rfl,hP,hS⟩;refine ⟨_,rfl,?_⟩;obtain ⟨sl,rfl,hL⟩:=treeAt_node.1 hT;obtain ⟨o8,l8,c8,rfl⟩:=hL.shape;have hp:=HP.out;obtain ⟨wb,hwb⟩:∃ x,w5.alloc (.cells #[.int .i64 k8,.string ⟨n8.toArray⟩,.int .i64 m8,.int .i64 a8,.slice o8 l8 c8] 29)=x:=⟨_,rfl⟩;have Ct:=hid hwb;have hBb:Below w5.heap.size w5 wb:=(by rw [<- hwb];exact zab _ _);have Bi:=hid (hP.below hBb);have Av:=hid ((Ap.out.trans hS).trans (Sole.of_below hBb));have Bj:=hid (TreeAt.below hT hBb);have Af:=hid ((Ae.out.sole hp.1 hS).below hBb);have kl5:Kep w w5 w1.heap.size (kidO 8 [] 0 AT (.slice oq N cq)):=Ab.out.sole hp.1 hS;have Ag:=hid (kl5.below hBb);have hl3:ListAt (fun b=>(w.heap.size<b∧b≠w1.heap.size)∧b<wy.heap.size) wb acc (.slice oq N cq):=((za7 Aq.out).sole (fun b h=>by have h1:w.heap.size<b∧b≠w1.heap.size:=h.1;omega) hS).below hBb;have Ac:Hid (∀ q,(Value.slice oq N cq).ownBlock=some q->(w.heap.size<q∧q≠w1.heap.size)∧q<wy.heap.size):=fun q e=>Aq.out.own_lt e;have Bl:Hid (w1.heap.size<wy.heap.size∧wy.heap.size<=w5.heap.size∧wb.heap.size=w5.heap.size+1):=⟨Ab.out.lt,hS.size,by rw [<- hwb];simp⟩;obtain ⟨xs,how,hAq,hrq⟩:=hl3;rw [HN.out.1] at how;have Bm:=hid how;have Bn:=hid hrq;have Bo:Hid (wb.heap[w5.heap.size]?=some (.cells #[.int .i64 k8,.string ⟨n8.toArray⟩,.int .i64 m8,.int .i64 a8,.slice o8 l8 c8] 29 (0,0))):=(by show _=_;rw [<- hwb];exact heap_alloc_new _ _);have u4:=(zaa kl5.1).1.2.2.2.2;have x4:=(zaa Ag.out.1).1.2.2.2.2;clear hT hL hP hS hp hBb how hAq hrq kl5;unfold kidV)
       | (refine step_append_lies _ rfl _ _ 27 rfl 0 29 inf (.agg #[.int .i64 0,.string ⟨#[]⟩,.int .i64 0,.int .i64 0,.slice none 0 0]) 5 64 Tryz.underlying27 HI.out.1 HI.out.2.1 HI.out.2.2.1 HI.out.2.2.2 rfl (by decide) (.slice oq N cq) N xs rfl Bm.out ⟨w5.heap.size,0,none⟩ 1 1 [.int .i64 k8,.string ⟨n8.toArray⟩,.int .i64 m8,.int .i64 a8,.slice o8 l8 c8] rfl rfl (World.news_of_block (cs:=#[.int .i64 k8,.string ⟨n8.toArray⟩,.int .i64 m8,.int .i64 a8,.slice o8 l8 c8]) (t:=29) (fr:=(0,0)) Bo.out) (by simp [Value.oneCell']) (by decide) (by have:=HN.out;unfold maxLen;omega) (by have:=HN.out;omega) (Nat.zero_le _) _ rfl ?_
          intro gq cq2 w6 hown hgrow hat hlt;have hp:=HP.out;have hsz:=Bl.out;have hs5:=Av.out.size;have Bp:Hid (PP w6 p g cap ts i d full):=Bi.out.grownO hgrow (fun e=>by have:=Ac.out p e;omega) (fun e=>by have:=Ac.out g e;omega);have Bq:=hid (Av.out.grownO hgrow (fun q e=>Nat.le_of_lt (Ac.out q e).1.1));have Ah:Hid (Kep w w6 w.heap.size (kidO 0 [] 0 0 (.slice none 0 0))):=Af.out.grownO hgrow (fun e=>by have:=(Ac.out _ e).1.1;omega);have Aa:=hid (Ag.out.grownO hgrow (fun e=>(Ac.out _ e).1.2 rfl));have Br:Hid (ListAt (fun b=>w.heap.size<b∧b≠w1.heap.size) w6 (acc++[(.node k8 n8 m8 a8 ks8)]) (.slice (some ⟨gq,0,none⟩) (N+1) cq2)):=by
           refine zbn (sl:=.slice oq N cq) (fun q e=>(Ac.out q e).1) (fun b=>b<wy.heap.size) (RowV.frame (fun b h=>⟨⟨h.1.1,h.2⟩,h.1.2⟩) (fun _ _ _=>rfl) _ _ Bn.out) (zay (Bj.out.weaken (fun b h=>?_))) (by rw [HN.out.1];exact hown) hgrow wb.heap.size (Nat.le_refl _) (by have:=Af.out.lt;omega) ?_
           · have h1:wy.heap.size<=b:=h;have h2:=Ae.out.lt;exact ⟨⟨by omega,fun e=>by have:=(Ac.out b e).2;omega⟩,Nat.not_lt.2 h1⟩
           · rcases hat with e|e
             · exact Or.inl e.symm
             · exact Or.inr (by rw [e];rfl)
          obtain ⟨⟨j0,j1,j2,j3,j4⟩,⟨g0,g1,g2,g3,g4⟩⟩:=zaa Aa.out.1;clear hown hgrow hat hlt hp hsz hs5))
      all_goals (
       have hp:=HP.out;have hwl2:=Aa.out.2;have hwr2:=Ah.out.lt;have hne:=Bz.out;have hz6:∀ b,b≠w1.heap.size->(w6.setCell ⟨w1.heap.size,4,none⟩ (.slice (some ⟨gq,0,none⟩) (N+1) cq2)).heap[b]?=w6.heap[b]?:=fun b hb=>Below.heap_setCell _ _ _ _ hb;have Ai:Hid (Kep w (w6.setCell ⟨w1.heap.size,4,none⟩ (.slice (some ⟨gq,0,none⟩) (N+1) cq2)) w1.heap.size (kidO 8 [] 0 AT (.slice (some ⟨gq,0,none⟩) (N+1) cq2))):=⟨zhn Aa.out.1,Aa.out.2⟩;have Ad:=hid (Ah.out.but hz6 (by omega));have Aw:=hid (Bp.out.sole_but (by omega) (by omega) hz6);have Ao:Hid (Sole p w (w6.setCell ⟨w1.heap.size,4,none⟩ (.slice (some ⟨gq,0,none⟩) (N+1) cq2))):=Bq.out.below_after ((Below.refl _ _).setCell hwl2 _);have Ax:=hid (Br.out.but (fun b h=>h.2) hz6);generalize w6.setCell ⟨w1.heap.size,4,none⟩ (.slice (some ⟨gq,0,none⟩) (N+1) cq2)=wc at Ai Ad Aw Ao Ax ⊢;clear hp hwl2 hwr2 hne hz6;have Am:=hid (zbr p g cap ts HE.out i d full [58] (by simp) wc Aw.out);obtain ⟨ru,hru⟩:∃ r,(PSof ts i full).want [58]=r:=⟨_,rfl⟩;have Bs:Hid (R=ru.bind fun _ s=>(zdl (65 - N) (acc++[(.node k8 n8 m8 a8 ks8)]) s).bind fun l s=>(za8 B s).bind fun t s=>Ans.ok (Tree.node 8 [] 0 AT (l++[t])) s):=by
        show _=_;rw [Ar.out];rw [<- hru];exact zfc ((PSof ts i full).want [58]) (fun _ s=>zdl (65 - N) (acc++[(.node k8 n8 m8 a8 ks8)]) s) (fun l s=>(za8 B s).bind fun t s=>Ans.ok (Tree.node 8 [] 0 AT (l++[t])) s)
       rw [hru] at Am;clear hru;(go_wp2_with fail);refine Am.out.mono ?_;cases ru with
       | no why at_ =>
        rintro e w99 ⟨rfl,hS⟩;have Aj:=hid (Ao.out.trans hS);clear hS;go_wp2;refine ⟨rfl,?_⟩;rw [Bs.out];exact ⟨rfl,Aj.out⟩
       | ok u st =>
        rintro e w7 ⟨v,i,full,rfl,rfl,rfl,hP,hS⟩;have hp:=HP.out;have Cl:=hid hP;have Cm:=hid (Ao.out.trans hS);have Bd:=hid (Ad.out.sole hp.1 hS);have An:=hid (Ai.out.sole hp.1 hS);have Cn:=hid (Ax.out.sole (fun b h=>by omega) hS);have hNN:=HN.out;have Co:Hid (R=(zdl (66 - (N+1)) (acc++[(.node k8 n8 m8 a8 ks8)]) (PSof ts i full)).bind fun l s=>(za8 B s).bind fun t s=>Ans.ok (Tree.node 8 [] 0 AT (l++[t])) s):=by
         show _=_;rw [show 66 - (N+1)=65 - N by omega];exact Bs.out
        have Cp:Hid (sliceLen ((w7.cell? ⟨w1.heap.size,4,none⟩).getD (.int .i64 0))=N+1):=by
         show _=_;rw [(zaa An.out.1).1.2.2.2.2];rfl
        clear hP hS hp;go_wp2;go_roundw
        case rel=>exact ⟨acc++[(.node k8 n8 m8 a8 ks8)],N+1,some ⟨gq,0,none⟩,cq2,i,full,by simp [hNN.1],Bh.out,Cl,Cm,Bd,An,Cn,Co⟩
        case measure =>
         have h1:=Cp.out;have h2:=Cr.out;have h3:=Bh.out;omega)
  · have hz:((N:Int)==0)=false:=(by simp;omega);have Cd:Hid (acc.isEmpty=false):=(by show _=_;rw [Cs.out];simp [h0]);have Bv:=hid (zf6 p g cap ts ix d full zb3 wr Bu.out);clear h0;cases hse:(PSof ts ix full).sees zb3
    · rw [hse] at Bv;obtain ⟨rv,hrv⟩:∃ r,za8 B (PSof ts ix full)=r:=⟨_,rfl⟩;have Ar:Hid (R=rv.bind fun t s=>.ok (.node 8 [] 0 AT (acc++[t])) s):=by
       show _=_;rw [Cc.out,if_neg (by rw [hse,Cd.out];simp),<- hrv];rfl
      clear hse;(go_wp2_with fail);refine Bv.out.mono ?_;rintro e wy ⟨rfl,hB⟩;have hPy:PP wy p g cap ts ix d full:=Bu.out.below hB;have Ap:=hid (Ca.out.trans (Sole.of_below hB));have Ae:=hid (Ay.out.below hB);have Ab:=hid (Ak.out.below hB);have Aq:=hid (Cb.out.below hB);have Au:Hid (∀ m,Calls Tryz.prog 145 #[.pointer (some ⟨p,0,none⟩)] (wy.drewN m) (zai p g cap ts d (treeIs wy.heap.size) rv wy)):=fun m=>by
       have hB' : Below wy.heap.size wy (wy.drewN m):=zad (Below.refl _ _) m;rw [<- hrv];exact (HF.out ix full _ (hPy.below hB') ((Cu.out.sole Ap.out).below hB')).mono fun e w' hp=>zai.from_below hB' hp
      obtain ⟨⟨l0,l1,l2,l3,l4⟩,⟨f0,f1,f2,f3,f4⟩⟩:=zaa Ab.out.1;clear hB hrv hPy r0 r1 r2 r3 r4;(go_wp2_with fail);cases rv with
      | no why at_ =>
       (go_region_dies);all_goals (
        refine (Au.out _).mono ?_;rintro e w9 ⟨rfl,hS⟩;refine ⟨rfl,?_⟩;rw [Ar.out];exact ⟨rfl,Ap.out.trans hS⟩)
      | ok tv st =>
       obtain ⟨k8,n8,m8,a8,ks8⟩:=tv;go_region_law (first
        | (refine zbw rfl 145 #[.pointer (some ⟨p,0,none⟩)] (by go_simp) _ (Au.out _) ?_
           rintro e w5 ⟨v,i,full,rfl,hT,rfl,hP,hS⟩;refine ⟨_,rfl,?_⟩;obtain ⟨sl,rfl,hL⟩:=treeAt_node.1 hT;obtain ⟨o8,l8,c8,rfl⟩:=hL.shape;have hp:=HP.out;obtain ⟨wb,hwb⟩:∃ x,w5.alloc (.cells #[.int .i64 k8,.string ⟨n8.toArray⟩,.int .i64 m8,.int .i64 a8,.slice o8 l8 c8] 29)=x:=⟨_,rfl⟩;have Ct:=hid hwb;have hBb:Below w5.heap.size w5 wb:=(by rw [<- hwb];exact zab _ _);have Bi:=hid (hP.below hBb);have Av:=hid ((Ap.out.trans hS).trans (Sole.of_below hBb));have Bj:=hid (TreeAt.below hT hBb);have Af:=hid ((Ae.out.sole hp.1 hS).below hBb);have kl5:Kep w w5 w1.heap.size (kidO 8 [] 0 AT (.slice oq N cq)):=Ab.out.sole hp.1 hS;have Ag:=hid (kl5.below hBb);have hl3:ListAt (fun b=>(w.heap.size<b∧b≠w1.heap.size)∧b<wy.heap.size) wb acc (.slice oq N cq):=((za7 Aq.out).sole (fun b h=>by have h1:w.heap.size<b∧b≠w1.heap.size:=h.1;omega) hS).below hBb;have Ac:Hid (∀ q,(Value.slice oq N cq).ownBlock=some q->(w.heap.size<q∧q≠w1.heap.size)∧q<wy.heap.size):=fun q e=>Aq.out.own_lt e;have Bl:Hid (w1.heap.size<wy.heap.size∧wy.heap.size<=w5.heap.size∧wb.heap.size=w5.heap.size+1):=⟨Ab.out.lt,hS.size,by rw [<- hwb];simp⟩;obtain ⟨xs,how,hAq,hrq⟩:=hl3;rw [HN.out.1] at how;have Bm:=hid how;have Bn:=hid hrq;have Bo:Hid (wb.heap[w5.heap.size]?=some (.cells #[.int .i64 k8,.string ⟨n8.toArray⟩,.int .i64 m8,.int .i64 a8,.slice o8 l8 c8] 29 (0,0))):=(by show _=_;rw [<- hwb];exact heap_alloc_new _ _);have u4:=(zaa kl5.1).1.2.2.2.2;have x4:=(zaa Ag.out.1).1.2.2.2.2;clear hT hL hP hS hp hBb how hAq hrq kl5;unfold kidV)
        | (refine step_append_lies _ rfl _ _ 27 rfl 0 29 inf (.agg #[.int .i64 0,.string ⟨#[]⟩,.int .i64 0,.int .i64 0,.slice none 0 0]) 5 64 Tryz.underlying27 HI.out.1 HI.out.2.1 HI.out.2.2.1 HI.out.2.2.2 rfl (by decide) (.slice oq N cq) N xs rfl Bm.out ⟨w5.heap.size,0,none⟩ 1 1 [.int .i64 k8,.string ⟨n8.toArray⟩,.int .i64 m8,.int .i64 a8,.slice o8 l8 c8] rfl rfl (World.news_of_block (cs:=#[.int .i64 k8,.string ⟨n8.toArray⟩,.int .i64 m8,.int .i64 a8,.slice o8 l8 c8]) (t:=29) (fr:=(0,0)) Bo.out) (by simp [Value.oneCell']) (by decide) (by have:=HN.out;unfold maxLen;omega) (by have:=HN.out;omega) (Nat.zero_le _) _ rfl ?_
           intro gq cq2 w6 hown hgrow hat hlt;have hp:=HP.out;have hsz:=Bl.out;have hs5:=Av.out.size;have Bp:Hid (PP w6 p g cap ts i d full):=Bi.out.grownO hgrow (fun e=>by have:=Ac.out p e;omega) (fun e=>by have:=Ac.out g e;omega);have Bq:=hid (Av.out.grownO hgrow (fun q e=>Nat.le_of_lt (Ac.out q e).1.1));have Ah:Hid (Kep w w6 w.heap.size (kidO 0 [] 0 0 (.slice none 0 0))):=Af.out.grownO hgrow (fun e=>by have:=(Ac.out _ e).1.1;omega);have Aa:=hid (Ag.out.grownO hgrow (fun e=>(Ac.out _ e).1.2 rfl));have Br:Hid (ListAt (fun b=>w.heap.size<b∧b≠w1.heap.size) w6 (acc++[(.node k8 n8 m8 a8 ks8)]) (.slice (some ⟨gq,0,none⟩) (N+1) cq2)):=by
            refine zbn (sl:=.slice oq N cq) (fun q e=>(Ac.out q e).1) (fun b=>b<wy.heap.size) (RowV.frame (fun b h=>⟨⟨h.1.1,h.2⟩,h.1.2⟩) (fun _ _ _=>rfl) _ _ Bn.out) (zay (Bj.out.weaken (fun b h=>?_))) (by rw [HN.out.1];exact hown) hgrow wb.heap.size (Nat.le_refl _) (by have:=Af.out.lt;omega) ?_
            · have h1:wy.heap.size<=b:=h;have h2:=Ae.out.lt;exact ⟨⟨by omega,fun e=>by have:=(Ac.out b e).2;omega⟩,Nat.not_lt.2 h1⟩
            · rcases hat with e|e
              · exact Or.inl e.symm
              · exact Or.inr (by rw [e];rfl)
           obtain ⟨⟨j0,j1,j2,j3,j4⟩,⟨g0,g1,g2,g3,g4⟩⟩:=zaa Aa.out.1;clear hown hgrow hat hlt hp hsz hs5))
       all_goals (
        have hp:=HP.out;have hwl2:=Aa.out.2;have hwr2:=Ah.out.lt;have hne:=Bz.out;have hz6:∀ b,b≠w1.heap.size->(w6.setCell ⟨w1.heap.size,4,none⟩ (.slice (some ⟨gq,0,none⟩) (N+1) cq2)).heap[b]?=w6.heap[b]?:=fun b hb=>Below.heap_setCell _ _ _ _ hb;have Ai:Hid (Kep w (w6.setCell ⟨w1.heap.size,4,none⟩ (.slice (some ⟨gq,0,none⟩) (N+1) cq2)) w1.heap.size (kidO 8 [] 0 AT (.slice (some ⟨gq,0,none⟩) (N+1) cq2))):=⟨zhn Aa.out.1,Aa.out.2⟩;have Ad:=hid (Ah.out.but hz6 (by omega));have Aw:=hid (Bp.out.sole_but (by omega) (by omega) hz6);have Ao:Hid (Sole p w (w6.setCell ⟨w1.heap.size,4,none⟩ (.slice (some ⟨gq,0,none⟩) (N+1) cq2))):=Bq.out.below_after ((Below.refl _ _).setCell hwl2 _);have Ax:=hid (Br.out.but (fun b h=>h.2) hz6);generalize w6.setCell ⟨w1.heap.size,4,none⟩ (.slice (some ⟨gq,0,none⟩) (N+1) cq2)=wc at Ai Ad Aw Ao Ax ⊢;clear hp hwl2 hwr2 hne hz6;obtain ⟨⟨s0,s1,s2,s3,s4⟩,_⟩:=zaa Ai.out.1;obtain ⟨⟨z0,z1,z2,z3,z4⟩,⟨y0,y1,y2,y3,y4⟩⟩:=zaa Ad.out.1;go_wp2;refine ret5 (n:=[]) z0 z1 z2 z3 z4 rfl (fun u q0 q1 q2 q3 q4=>by simp [results,Tryz.results147,go_sem,q0,q1,q2,q3,q4]) Ad.out.2 Ao.out ?_;intro wz hf;rw [Ar.out];have hr2:=Ad.out.2;have hpg:=HP.out;exact ⟨_,_,_,rfl,zaz Ax.out (fun b h=>Nat.le_of_lt h.1) (fun b h=>Nat.ne_of_gt h.1) hf.2,rfl,Aw.out.sole_but (by omega) (by omega) hf.2,hf.1⟩)
    · rw [hse] at Bv;have Ce:Hid (R=((((PSof ts ix full).room N 64).want zb3).bind fun _ s=>(zbz s).bind fun v s=>(s.want [58]).bind fun _ s=>zdl (65 - N) (acc++[v]) s).bind fun l s=>(za8 B s).bind fun t s=>Ans.ok (Tree.node 8 [] 0 AT (l++[t])) s):=by
       show _=_;rw [Cc.out,if_pos (by rw [hse];simp)]
      clear hse;(go_wp2_with fail);refine Bv.out.mono ?_;rintro e wv ⟨rfl,hB⟩;have Cf:=hid (Bu.out.below hB);have Cg:=hid (Ca.out.trans (Sole.of_below hB));have Az:=hid (Ay.out.below hB);have Al:=hid (Ak.out.below hB);have Ch:=hid (Cb.out.below hB);clear hB r0 r1 r2 r3 r4;have Ci:=hid (zhp p g cap ts ix d full N 64 wv Cf.out);obtain ⟨⟨p0,p1,p2,p3,p4⟩,_⟩:=zaa Al.out.1;(go_wp2_with fail);refine Ci.out.mono ?_;rintro e wx ⟨rfl,hP,hS,hz2⟩;obtain ⟨fullx,hfx⟩:∃ x,zfj full N 64=x:=⟨_,rfl⟩;have Be:=hid hfx;rw [hfx] at hP;have hp:=HP.out;have Cj:=hid hP;have Bf:=hid (Cg.out.trans hS);have Ba:=hid (Az.out.sole hp.1 hS);have Bb:=hid (Al.out.sole hp.1 hS);have Ck:=hid (Ch.out.sole (fun b h=>by omega) hS);have Am:=hid (zbr p g cap ts HE.out ix d fullx zb3 (by simp [zb3]) wx Cj.out);obtain ⟨ru,hru⟩:∃ r,(PSof ts ix fullx).want zb3=r:=⟨_,rfl⟩;have Bg:Hid (R=(ru.bind fun _ s=>(zbz s).bind fun v s=>(s.want [58]).bind fun _ s=>zdl (65 - N) (acc++[v]) s).bind fun l s=>(za8 B s).bind fun t s=>Ans.ok (Tree.node 8 [] 0 AT (l++[t])) s):=by
       show _=_;rw [Ce.out,zgr,Be.out,hru]
      have Bc:Hid (∀ t s,ru=.ok t s->N+1<=64):=fun t s e=>by
       rcases Nat.lt_or_ge N 64 with h1|h1
       · exact h1
       · have hNN:=HN.out;have hN64:N=64:=(by omega);obtain ⟨x,y,hx⟩:=zgv zb3 (PSof ts ix fullx) (by rw [zgs,<- Be.out];unfold zfj;simp [hN64]);have hx' : (PSof ts ix fullx).want zb3=.no x y:=hx;rw [<- hru,hx'] at e;cases e
      rw [hru] at Am;clear hP hS hz2 hp hru hfx;(go_wp2_with fail);refine Am.out.mono ?_;cases ru with
      | no why at_ =>
       rintro e w99 ⟨rfl,hS⟩;have Aj:=hid (Bf.out.trans hS);clear hS;go_wp2;refine ⟨rfl,?_⟩;rw [Bg.out];exact ⟨rfl,Aj.out⟩
      | ok u st =>
       rintro e wy ⟨v,i,full,rfl,rfl,rfl,hP,hS⟩;have hp:=HP.out;have Bh:=hid (Bc.out _ _ rfl);have Ap:=hid (Bf.out.trans hS);have Ae:=hid (Ba.out.sole hp.1 hS);have Ab:=hid (Bb.out.sole hp.1 hS);have Aq:=hid (Ck.out.sole (fun b h=>by omega) hS);obtain ⟨rv,hrv⟩:∃ r,zbz (PSof ts i full)=r:=⟨_,rfl⟩;have Ar:Hid (R=(rv.bind fun v s=>(s.want [58]).bind fun _ s=>zdl (65 - N) (acc++[v]) s).bind fun l s=>(za8 B s).bind fun t s=>Ans.ok (Tree.node 8 [] 0 AT (l++[t])) s):=by
        show _=_;rw [Bg.out,<- hrv];rfl
       have Au:Hid (∀ m,Calls Tryz.prog 140 #[.pointer (some ⟨p,0,none⟩)] (wy.drewN m) (zai p g cap ts d (treeIs wy.heap.size) rv wy)):=fun m=>by
        have hB:Below wy.heap.size wy (wy.drewN m):=zad (Below.refl _ _) m;rw [<- hrv];exact (zck p g cap ts HE.out i d full _ (hP.below hB)).mono fun e w' hp=>zai.from_below hB hp
       obtain ⟨⟨l0,l1,l2,l3,l4⟩,⟨f0,f1,f2,f3,f4⟩⟩:=zaa Ab.out.1;clear hP hS hp hrv p0 p1 p2 p3 p4;(go_wp2_with fail);cases rv with
       | no why at_ =>
        (go_region_dies);all_goals (
         refine (Au.out _).mono ?_;rintro e w9 ⟨rfl,hS⟩;refine ⟨rfl,?_⟩;rw [Ar.out];exact ⟨rfl,Ap.out.trans hS⟩)
       | ok tv st =>
        obtain ⟨k8,n8,m8,a8,ks8⟩:=tv;go_region_law (first
         | (refine zbw rfl 140 #[.pointer (some ⟨p,0,none⟩)] (by go_simp) _ (Au.out _) ?_
            rintro e w5 ⟨v,i,full,rfl,hT,rfl,hP,hS⟩;refine ⟨_,rfl,?_⟩;obtain ⟨sl,rfl,hL⟩:=treeAt_node.1 hT;obtain ⟨o8,l8,c8,rfl⟩:=hL.shape;have hp:=HP.out;obtain ⟨wb,hwb⟩:∃ x,w5.alloc (.cells #[.int .i64 k8,.string ⟨n8.toArray⟩,.int .i64 m8,.int .i64 a8,.slice o8 l8 c8] 29)=x:=⟨_,rfl⟩;have Ct:=hid hwb;have hBb:Below w5.heap.size w5 wb:=(by rw [<- hwb];exact zab _ _);have Bi:=hid (hP.below hBb);have Av:=hid ((Ap.out.trans hS).trans (Sole.of_below hBb));have Bj:=hid (TreeAt.below hT hBb);have Af:=hid ((Ae.out.sole hp.1 hS).below hBb);have kl5:Kep w w5 w1.heap.size (kidO 8 [] 0 AT (.slice oq N cq)):=Ab.out.sole hp.1 hS;have Ag:=hid (kl5.below hBb);have hl3:ListAt (fun b=>(w.heap.size<b∧b≠w1.heap.size)∧b<wy.heap.size) wb acc (.slice oq N cq):=((za7 Aq.out).sole (fun b h=>by have h1:w.heap.size<b∧b≠w1.heap.size:=h.1;omega) hS).below hBb;have Ac:Hid (∀ q,(Value.slice oq N cq).ownBlock=some q->(w.heap.size<q∧q≠w1.heap.size)∧q<wy.heap.size):=fun q e=>Aq.out.own_lt e;have Bl:Hid (w1.heap.size<wy.heap.size∧wy.heap.size<=w5.heap.size∧wb.heap.size=w5.heap.size+1):=⟨Ab.out.lt,hS.size,by rw [<- hwb];simp⟩;obtain ⟨xs,how,hAq,hrq⟩:=hl3;rw [HN.out.1] at how;have Bm:=hid how;have Bn:=hid hrq;have Bo:Hid (wb.heap[w5.heap.size]?=some (.cells #[.int .i64 k8,.string ⟨n8.toArray⟩,.int .i64 m8,.int .i64 a8,.slice o8 l8 c8] 29 (0,0))):=(by show _=_;rw [<- hwb];exact heap_alloc_new _ _);have u4:=(zaa kl5.1).1.2.2.2.2;have x4:=(zaa Ag.out.1).1.2.2.2.2;clear hT hL hP hS hp hBb how hAq hrq kl5;unfold kidV)
         | (refine step_append_lies _ rfl _ _ 27 rfl 0 29 inf (.agg #[.int .i64 0,.string ⟨#[]⟩,.int .i64 0,.int .i64 0,.slice none 0 0]) 5 64 Tryz.underlying27 HI.out.1 HI.out.2.1 HI.out.2.2.1 HI.out.2.2.2 rfl (by decide) (.slice oq N cq) N xs rfl Bm.out ⟨w5.heap.size,0,none⟩ 1 1 [.int .i64 k8,.string ⟨n8.toArray⟩,.int .i64 m8,.int .i64 a8,.slice o8 l8 c8] rfl rfl (World.news_of_block (cs:=#[.int .i64 k8,.string ⟨n8.toArray⟩,.int .i64 m8,.int .i64 a8,.slice o8 l8 c8]) (t:=29) (fr:=(0,0)) Bo.out) (by simp [Value.oneCell']) (by decide) (by have:=HN.out;unfold maxLen;omega) (by have:=HN.out;omega) (Nat.zero_le _) _ rfl ?_
            intro gq cq2 w6 hown hgrow hat hlt;have hp:=HP.out;have hsz:=Bl.out;have hs5:=Av.out.size;have Bp:Hid (PP w6 p g cap ts i d full):=Bi.out.grownO hgrow (fun e=>by have:=Ac.out p e;omega) (fun e=>by have:=Ac.out g e;omega);have Bq:=hid (Av.out.grownO hgrow (fun q e=>Nat.le_of_lt (Ac.out q e).1.1));have Ah:Hid (Kep w w6 w.heap.size (kidO 0 [] 0 0 (.slice none 0 0))):=Af.out.grownO hgrow (fun e=>by have:=(Ac.out _ e).1.1;omega);have Aa:=hid (Ag.out.grownO hgrow (fun e=>(Ac.out _ e).1.2 rfl));have Br:Hid (ListAt (fun b=>w.heap.size<b∧b≠w1.heap.size) w6 (acc++[(.node k8 n8 m8 a8 ks8)]) (.slice (some ⟨gq,0,none⟩) (N+1) cq2)):=by
             refine zbn (sl:=.slice oq N cq) (fun q e=>(Ac.out q e).1) (fun b=>b<wy.heap.size) (RowV.frame (fun b h=>⟨⟨h.1.1,h.2⟩,h.1.2⟩) (fun _ _ _=>rfl) _ _ Bn.out) (zay (Bj.out.weaken (fun b h=>?_))) (by rw [HN.out.1];exact hown) hgrow wb.heap.size (Nat.le_refl _) (by have:=Af.out.lt;omega) ?_
             · have h1:wy.heap.size<=b:=h;have h2:=Ae.out.lt;exact ⟨⟨by omega,fun e=>by have:=(Ac.out b e).2;omega⟩,Nat.not_lt.2 h1⟩
             · rcases hat with e|e
               · exact Or.inl e.symm
               · exact Or.inr (by rw [e];rfl)
            obtain ⟨⟨j0,j1,j2,j3,j4⟩,⟨g0,g1,g2,g3,g4⟩⟩:=zaa Aa.out.1;clear hown hgrow hat hlt hp hsz hs5))
        all_goals (
         have hp:=HP.out;have hwl2:=Aa.out.2;have hwr2:=Ah.out.lt;have hne:=Bz.out;have hz6:∀ b,b≠w1.heap.size->(w6.setCell ⟨w1.heap.size,4,none⟩ (.slice (some ⟨gq,0,none⟩) (N+1) cq2)).heap[b]?=w6.heap[b]?:=fun b hb=>Below.heap_setCell _ _ _ _ hb;have Ai:Hid (Kep w (w6.setCell ⟨w1.heap.size,4,none⟩ (.slice (some ⟨gq,0,none⟩) (N+1) cq2)) w1.heap.size (kidO 8 [] 0 AT (.slice (some ⟨gq,0,none⟩) (N+1) cq2))):=⟨zhn Aa.out.1,Aa.out.2⟩;have Ad:=hid (Ah.out.but hz6 (by omega));have Aw:=hid (Bp.out.sole_but (by omega) (by omega) hz6);have Ao:Hid (Sole p w (w6.setCell ⟨w1.heap.size,4,none⟩ (.slice (some ⟨gq,0,none⟩) (N+1) cq2))):=Bq.out.below_after ((Below.refl _ _).setCell hwl2 _);have Ax:=hid (Br.out.but (fun b h=>h.2) hz6);generalize w6.setCell ⟨w1.heap.size,4,none⟩ (.slice (some ⟨gq,0,none⟩) (N+1) cq2)=wc at Ai Ad Aw Ao Ax ⊢;clear hp hwl2 hwr2 hne hz6;have Am:=hid (zbr p g cap ts HE.out i d full [58] (by simp) wc Aw.out);obtain ⟨ru,hru⟩:∃ r,(PSof ts i full).want [58]=r:=⟨_,rfl⟩;have Bs:Hid (R=ru.bind fun _ s=>(zdl (65 - N) (acc++[(.node k8 n8 m8 a8 ks8)]) s).bind fun l s=>(za8 B s).bind fun t s=>Ans.ok (Tree.node 8 [] 0 AT (l++[t])) s):=by
          show _=_;rw [Ar.out];rw [<- hru];exact zfc ((PSof ts i full).want [58]) (fun _ s=>zdl (65 - N) (acc++[(.node k8 n8 m8 a8 ks8)]) s) (fun l s=>(za8 B s).bind fun t s=>Ans.ok (Tree.node 8 [] 0 AT (l++[t])) s)
         rw [hru] at Am;clear hru;(go_wp2_with fail);refine Am.out.mono ?_;cases ru with
         | no why at_ =>
          rintro e w99 ⟨rfl,hS⟩;have Aj:=hid (Ao.out.trans hS);clear hS;go_wp2;refine ⟨rfl,?_⟩;rw [Bs.out];exact ⟨rfl,Aj.out⟩
         | ok u st =>
          rintro e w7 ⟨v,i,full,rfl,rfl,rfl,hP,hS⟩;have hp:=HP.out;have Cl:=hid hP;have Cm:=hid (Ao.out.trans hS);have Bd:=hid (Ad.out.sole hp.1 hS);have An:=hid (Ai.out.sole hp.1 hS);have Cn:=hid (Ax.out.sole (fun b h=>by omega) hS);have hNN:=HN.out;have Co:Hid (R=(zdl (66 - (N+1)) (acc++[(.node k8 n8 m8 a8 ks8)]) (PSof ts i full)).bind fun l s=>(za8 B s).bind fun t s=>Ans.ok (Tree.node 8 [] 0 AT (l++[t])) s):=by
           show _=_;rw [show 66 - (N+1)=65 - N by omega];exact Bs.out
          have Cp:Hid (sliceLen ((w7.cell? ⟨w1.heap.size,4,none⟩).getD (.int .i64 0))=N+1):=by
           show _=_;rw [(zaa An.out.1).1.2.2.2.2];rfl
          clear hP hS hp;go_wp2;go_roundw
          case rel=>exact ⟨acc++[(.node k8 n8 m8 a8 ks8)],N+1,some ⟨gq,0,none⟩,cq2,i,full,by simp [hNN.1],Bh.out,Cl,Cm,Bd,An,Cn,Co⟩
          case measure =>
           have h1:=Cp.out;have h2:=Cr.out;have h3:=Bh.out;omega)
end Go.Proofs.YtighggeokiahfaaGreatDoor
