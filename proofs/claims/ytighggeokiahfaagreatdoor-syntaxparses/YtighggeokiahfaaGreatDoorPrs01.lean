import Derived.Test.YtighggeokiahfaaGreatDoorPrs00
import Derived.RegionDies
set_option maxRecDepth 4000
set_option maxHeartbeats 20000000
namespace Go.Proofs.YtighggeokiahfaaGreatDoor
open Go.RowKit
theorem zdf (k:Int) (t:Tok) (o:Option Addr) (n c:Nat) (w:World) :
 Calls Tryz.prog 109 #[.int .i64 k,tokV t,.slice o n c] w fun e w'=>e=.returned (kidV k t.text 0 t.at_ (.slice o n c))∧Below w.heap.size w w':=by
 unfold tokV kidV;have qb:=bld0134 k t.at_ ⟨t.text.toArray⟩ o n c;obtain ⟨wb,hwb⟩:∃ wb,w.alloc (.cells #[.int .i64 t.kind,.string ⟨t.text.toArray⟩,.int .i64 t.num,.int .i64 t.at_] 41)=wb:=⟨_,rfl⟩;obtain ⟨wa,hwa⟩:∃ wa,wb.alloc (.cells #[.int .i64 0,.string ⟨#[]⟩,.int .i64 0,.int .i64 0,.slice none 0 0] 29)=wa:=⟨_,rfl⟩;have hs:wb.heap.size=w.heap.size+1:=by rw [<- hwb];simp
 have l1:wa.cell? ⟨w.heap.size,1,none⟩=some (.string ⟨t.text.toArray⟩):=by rw [<- hwa,World.cell?_alloc_lt _ _ _ (show w.heap.size<wb.heap.size by omega),<- hwb];simp
 have l3:wa.cell? ⟨w.heap.size,3,none⟩=some (.int .i64 t.at_):=by rw [<- hwa,World.cell?_alloc_lt _ _ _ (show w.heap.size<wb.heap.size by omega),<- hwb];simp
 obtain ⟨z0,z1,z2,z3,z4,y0,y1,y2,y3,y4⟩:Tre wa (w.heap.size+1):=by rw [<- hwa,<- hs];exact Tre.made wb 29
 have HB:Hid (Below w.heap.size w wa):=by
  show Below w.heap.size w wa;rw [<- hwa];refine Below.alloc ?_ (by omega) _;rw [<- hwb];exact (Below.refl _ _).alloc (Nat.le_refl _) _
 go_enter Tryz.func109,Tryz.ntmps109
 go_wp2;have q:=res5 wa (w.heap.size+1) (.int .i64 k) (.string ⟨t.text.toArray⟩) (.int .i64 0) (.int .i64 t.at_) (.slice o n c) z0 z1 z2 z3 z4;have hBz:=zan wa w.heap.size (w.heap.size+1) (.int .i64 k) (.string ⟨t.text.toArray⟩) (.int .i64 0) (.int .i64 t.at_) (.slice o n c) (by omega);generalize ((((wa.setCell ⟨w.heap.size+1,0,none⟩ (.int .i64 k)).setCell ⟨w.heap.size+1,1,none⟩ (.string ⟨t.text.toArray⟩)).setCell ⟨w.heap.size+1,2,none⟩ (.int .i64 0)).setCell ⟨w.heap.size+1,3,none⟩ (.int .i64 t.at_)).setCell ⟨w.heap.size+1,4,none⟩ (.slice o n c)=wz at q hBz ⊢;obtain ⟨q0,q1,q2,q3,q4⟩:=q;exact bodyPost_ret (v:=.agg #[.int .i64 k,.string ⟨t.text.toArray⟩,.int .i64 0,.int .i64 t.at_,.slice o n c]) (by simp [results,Tryz.results109,go_sem,q0,q1,q2,q3,q4]) rfl ⟨rfl,HB.out.trans hBz⟩
def wantL:List (List UInt8)->PS->Ans Unit
 | [],s=>.ok () s
 | t::ts,s=>(s.want t).bind fun _ s=>wantL ts s
def zf3 (_:Unit) (_:World) (v:Value):Prop:=v=.tuple #[]
theorem zak (p g cap:Nat) (ts:List Tok) (hE:Ends ts) (i0:Nat) (d:Int) (full0:Bool) (b c:Nat) (ws:List (List UInt8)) (w:World) (h:PP w p g cap ts i0 d full0) (hb:b≠p) (hbl:b<w.heap.size)
 (hw:∀ j (hj:j<ws.length),w.cell? ⟨b,j,none⟩=some (.string ⟨(ws[j]).toArray⟩)) (hn:∀ t∈ws,t≠[]) (hl:ws.length<=2) :
 Calls Tryz.prog 41 #[.pointer (some ⟨p,0,none⟩),.slice (some ⟨b,0,none⟩) ws.length c] w (zai p g cap ts d zf3 (wantL ws (PSof ts i0 full0)) w):=by
 obtain ⟨R,hR⟩:∃ R,wantL ws (PSof ts i0 full0)=R:=⟨_,rfl⟩;rw [hR];have HR:=hid hR;have HW:=hid hw;have HN:=hid hn;have H:=hid h;have Af:=hid2 hb hbl;clear hR hw hn h hb hbl;go_enter Tryz.func41,Tryz.ntmps41
 go_wp2;go_loopw [8] (fun i wr=>∃ (k ix:Nat) (full:Bool),i=.int .i64 k∧k<=ws.length∧Hid (PP wr p g cap ts ix d full)∧Hid (Sole p w wr)∧Hid (wantL (ws.drop k) (PSof ts ix full)=R)) (fun i _=>ws.length - (intOf i).toNat)
 case atStart=>exact ⟨0,i0,full0,rfl,Nat.zero_le _,H,Sole.refl p w,HR⟩
 case round =>
  obtain ⟨k,ix,full,rfl,hk,Aa,HS,HK⟩:=hrel;by_cases hlt:k<ws.length
  · have hk' : (k:Int)<ws.length:=(by omega);obtain ⟨t,ht⟩:∃ t,ws[k]=t:=⟨_,rfl⟩;have hc:wr.cell? ⟨b,k,none⟩=some (.string ⟨t.toArray⟩):=(by rw [(zac (HS.out.block b Af.out.2 Af.out.1) k).1,HW.out k hlt,ht]);have HT:Hid (t≠[]):=(by show t≠[];rw [<- ht];exact HN.out _ (List.getElem_mem hlt));have HD:Hid (ws.drop k=t::ws.drop (k+1)):=(by show _=_;rw [List.drop_eq_getElem_cons hlt,ht]);have Ah:=hid hlt;have Ad:Hid (∀ w1,Below wr.heap.size wr w1->Calls Tryz.prog 75 #[.pointer (some ⟨p,0,none⟩),.string ⟨t.toArray⟩] w1 fun e w'=>e=.returned (.bool ((PSof ts ix full).sees t))∧Below w1.heap.size w1 w'):=fun w1 hB=>by
     have hx:=ze5 p g cap ts ix d full ⟨t.toArray⟩ w1 (Aa.out.below hB);rw [ByteArray.toList_mk] at hx;exact hx
    clear ht;cases hse:(PSof ts ix full).sees t
    · rw [hse] at Ad;have Ab:Hid (R=.no 40 (ts[ix]'Aa.out.il).at_):=by
       show _=_;rw [<- HK.out,HD.out];show Ans.bind (PS.want _ t) _=_;unfold PS.want PS.bad;rw [hse,zb7 ts ix full Aa.out.il];rfl
      have Ai:Hid (∀ w1,Below wr.heap.size wr w1->Calls Tryz.prog 74 #[.pointer (some ⟨p,0,none⟩),.int .i64 40] w1 fun e w'=>e=.returned (.agg #[.int .i64 40,.int .i64 ((ts[ix]'Aa.out.il).at_:Nat)])∧Below w1.heap.size w1 w'):=fun w1 hB=>zdb p g cap ts ix d 40 full w1 (Aa.out.below hB);clear hse;(go_wp2_with fail);refine (Ad.out _ (Below.refl _ _)).mono ?_;rintro e w1 ⟨rfl,hB⟩;have Ac:=hid hB;clear hB;(go_wp2_with fail);refine (Ai.out _ Ac.out).mono ?_;rintro e w2 ⟨rfl,hB⟩;have Aj:=hid (Ac.out.trans (hB.mono Ac.out.size));clear hB;go_wp2;refine ⟨rfl,?_⟩;rw [Ab.out];exact ⟨rfl,HS.out.trans (Sole.of_below Aj.out)⟩
    · rw [hse] at Ad;have Ab:Hid (R=(PSof ts ix full).take.bind fun _ s=>wantL (ws.drop (k+1)) s):=by
       show _=_;rw [<- HK.out,HD.out];show Ans.bind (PS.want _ t) _=_;unfold PS.want;rw [hse];show Ans.bind (Ans.bind (PS.take _) _) _=_;cases (PSof ts ix full).take <;> rfl
      have hix:ix+1<ts.length:=by
       refine hE.text Aa.out.il ?_;unfold PS.sees at hse;rw [zb7 ts ix full Aa.out.il] at hse;rw [show (ts[ix]'Aa.out.il).text=t by simpa using hse];exact HT.out
      have Ag:Hid (∀ w1,Below wr.heap.size wr w1->Calls Tryz.prog 69 #[.pointer (some ⟨p,0,none⟩)] w1 (zai p g cap ts d zfh (PSof ts ix full).take w1)):=fun w1 hB=>zdn p g cap ts ix d full w1 (Aa.out.below hB) hix;clear hse hix;generalize (PSof ts ix full).take=r at Ab Ag;(go_wp2_with fail);refine (Ad.out _ (Below.refl _ _)).mono ?_;rintro e w1 ⟨rfl,hB⟩;have Ac:=hid hB;clear hB;(go_wp2_with fail);refine (Ag.out _ Ac.out).mono ?_;cases r with
      | no why at_ =>
       rintro e w2 ⟨rfl,hS⟩;have Ae:=hid ((HS.out.trans (Sole.of_below Ac.out)).trans hS);clear hS;go_wp2;refine ⟨rfl,?_⟩;rw [Ab.out];exact ⟨rfl,Ae.out⟩
      | ok tk st =>
       rintro e w2 ⟨v,i,full,rfl,rfl,rfl,hP,hS⟩;have Ak:=hid hP;have Ae:=hid ((HS.out.trans (Sole.of_below Ac.out)).trans hS);clear hS hP;unfold tokV;go_wp2;go_roundw
       case rel=>exact ⟨k+1,i,full,by go_num,Ah.out,Ak,Ae,Ab.out.symm⟩
       case measure=>simp [intOf];omega
  · have hke:k=ws.length:=(by omega);subst hke;have hk' : ¬ (ws.length:Int)<ws.length:=(by omega);have Ab:Hid (R=.ok () (PSof ts ix full)):=by
     show _=_;rw [<- HK.out,List.drop_length];rfl
    go_wp2;(first|go_end0|refine bodyPost_ret (results_none rfl _ _ _) rfl ?_);rw [Ab.out];exact ⟨_,ix,full,rfl,rfl,rfl,Aa.out,HS.out⟩
theorem number_core (p g cap:Nat) (ts:List Tok) (d:Int) (w:World) (hp:p<w.heap.size) (hg:g<w.heap.size) (r:Ans Tok)
 (HT:Hid (∀ w1,Below w.heap.size w w1->Calls Tryz.prog 139 #[.pointer (some ⟨p,0,none⟩),.int .i64 3] w1 (zai p g cap ts d zfh r w1))) :
 Calls Tryz.prog 110 #[.pointer (some ⟨p,0,none⟩)] w (zai p g cap ts d (treeIs w.heap.size) (r.bind fun t s=>.ok (.node 28 [] t.num t.at_ []) s) w):=by
 have HP:=hid2 hp hg;clear hp hg;go_enter Tryz.func110,Tryz.ntmps110
 go_wp2_with fail
 have HB:Hid (Below w.heap.size w (w.alloc (.cells #[.int .i64 0,.string ⟨#[]⟩,.int .i64 0,.int .i64 0,.slice none 0 0] 29))):=(Below.refl _ _).alloc (Nat.le_refl _) _;refine (HT.out _ HB.out).mono ?_;cases r with
 | no why at_ =>
  rintro e w2 ⟨rfl,hS⟩;have HS:=hid ((Sole.of_below HB.out).trans hS);clear hS;go_wp2;exact ⟨rfl,rfl,HS.out⟩
 | ok t st =>
  rintro e w2 ⟨v,i,full,rfl,rfl,rfl,hP,hS⟩;have hlt:w.heap.size<w2.heap.size:=by have:=hS.size;simp at this;omega
  obtain ⟨w3,hw3⟩:∃ w3,w2.alloc (.cells #[.int .i64 t.kind,.string ⟨t.text.toArray⟩,.int .i64 t.num,.int .i64 t.at_] 41)=w3:=⟨_,rfl⟩;have hB3:Below w2.heap.size w2 w3:=by rw [<- hw3];exact (Below.refl _ _).alloc (Nat.le_refl _) _
  have Aa:=hid (hP.below hB3);have HS:=hid (((Sole.of_below HB.out).trans hS).trans (Sole.of_below hB3));obtain ⟨z0,z1,z2,z3,z4,y0,y1,y2,y3,y4⟩:=((Tre.made w 29).block (hS.block w.heap.size (by simp) (Nat.ne_of_gt HP.out.1))).block (hB3.block w.heap.size hlt);have l2:w3.cell? ⟨w2.heap.size,2,none⟩=some (.int .i64 t.num):=by rw [<- hw3];simp
  have l3:w3.cell? ⟨w2.heap.size,3,none⟩=some (.int .i64 t.at_):=by rw [<- hw3];simp
  clear hP hS hB3 hlt;unfold tokV;have qb:=bld023 28 t.num t.at_;go_wp2;have q:=res5 w3 w.heap.size (.int .i64 28) (.string ⟨#[]⟩) (.int .i64 t.num) (.int .i64 t.at_) (.slice none 0 0) z0 z1 z2 z3 z4;have hBz:=zan w3 w.heap.size w.heap.size (.int .i64 28) (.string ⟨#[]⟩) (.int .i64 t.num) (.int .i64 t.at_) (.slice none 0 0) (Nat.le_refl _);generalize ((((w3.setCell ⟨w.heap.size,0,none⟩ (.int .i64 28)).setCell ⟨w.heap.size,1,none⟩ (.string ⟨#[]⟩)).setCell ⟨w.heap.size,2,none⟩ (.int .i64 t.num)).setCell ⟨w.heap.size,3,none⟩ (.int .i64 t.at_)).setCell ⟨w.heap.size,4,none⟩ (.slice none 0 0)=wz at q hBz ⊢;obtain ⟨q0,q1,q2,q3,q4⟩:=q;exact bodyPost_ret (v:=.agg #[.int .i64 28,.string ⟨#[]⟩,.int .i64 t.num,.int .i64 t.at_,.slice none 0 0]) (by simp [results,Tryz.results110,go_sem,q0,q1,q2,q3,q4]) rfl
   ⟨_,i,full,rfl,treeAt_node.2 ⟨_,rfl,listAt_nil⟩,rfl,Aa.out.of_blocks (hBz.block p HP.out.1) (hBz.block g HP.out.2),HS.out.below_after hBz⟩
theorem zch (p g cap:Nat) (ts:List Tok) (hE:Ends ts) (i:Nat) (d:Int) (full:Bool) (w:World) (h:PP w p g cap ts i d full) :
 Calls Tryz.prog 110 #[.pointer (some ⟨p,0,none⟩)] w (zai p g cap ts d (treeIs w.heap.size) (zeb (PSof ts i full)) w) :=
 number_core p g cap ts d w h.plt h.glt _ (fun w1 hB=>zm1 p g cap ts hE i d 3 (by decide) full w1 (h.below hB))
theorem zgq (p g cap:Nat) (ts:List Tok) (i:Nat) (d k:Int) (full:Bool) (w:World) (h:PP w p g cap ts i d full) (hi:i+1<ts.length) :
 Calls Tryz.prog 112 #[.pointer (some ⟨p,0,none⟩),.int .i64 k] w (zai p g cap ts d (treeIs w.heap.size) (zcw k (PSof ts i full)) w) :=
 alone_core p g cap ts d k w h.plt h.glt _ (fun w1 hB=>zdn p g cap ts i d full w1 (h.below hB) hi)
theorem zme (p g cap:Nat) (ts:List Tok) (d:Int) (w:World) (hp:p<w.heap.size) (hg:g<w.heap.size) (r:Ans Tok)
 (HT:Hid (∀ w1,Below w.heap.size w w1->Calls Tryz.prog 108 #[.pointer (some ⟨p,0,none⟩)] w1 (zai p g cap ts d zfh r w1))) :
 Calls Tryz.prog 162 #[.pointer (some ⟨p,0,none⟩)] w (zai p g cap ts d (treeIs w.heap.size) (r.bind fun t s=>.ok (named 27 t []) s) w):=by
 have HP:Hid (p<w.heap.size∧g<w.heap.size):=⟨hp,hg⟩;clear hp hg;go_enter Tryz.func162,Tryz.ntmps162
 go_wp2_with fail
 have HB:Hid (Below w.heap.size w (w.alloc (.cells #[.int .i64 0,.string ⟨#[]⟩,.int .i64 0,.int .i64 0,.slice none 0 0] 29))):=(Below.refl _ _).alloc (Nat.le_refl _) _;refine (HT.out _ HB.out).mono ?_;cases r with
 | no why at_ =>
  rintro e w2 ⟨rfl,hS⟩;have HS:Hid (Sole p w w2):=(Sole.of_below HB.out).trans hS;clear hS;go_wp2;exact ⟨rfl,rfl,HS.out⟩
 | ok t st =>
  rintro e w2 ⟨v,i,full,rfl,rfl,rfl,hP,hS⟩;have hlt:w.heap.size<w2.heap.size:=by have:=hS.size;simp at this;omega
  have Aa:Hid (Calls Tryz.prog 109 #[.int .i64 27,tokV t,.slice none 0 0] w2 fun e w'=>e=.returned (kidV 27 t.text 0 t.at_ (.slice none 0 0))∧Below w2.heap.size w2 w'):=zdf 27 t none 0 0 w2;have Ab:Hid (PP w2 p g cap ts i d full∧w.heap.size<w2.heap.size):=⟨hP,hlt⟩;have HS:Hid (Sole p (w.alloc (.cells #[.int .i64 0,.string ⟨#[]⟩,.int .i64 0,.int .i64 0,.slice none 0 0] 29)) w2):=hS;clear hP hS hlt;unfold tokV at Aa ⊢;go_wp2_with fail
  refine Aa.out.mono ?_;rintro e w3 ⟨rfl,hB3⟩;have Ac:Hid (PP w3 p g cap ts i d full):=Ab.out.1.below hB3;have Ad:Hid (Sole p w w3):=((Sole.of_below HB.out).trans HS.out).trans (Sole.of_below hB3);obtain ⟨z0,z1,z2,z3,z4,y0,y1,y2,y3,y4⟩:=((Tre.made w 29).block (HS.out.block w.heap.size (by simp) (Nat.ne_of_gt HP.out.1))).block (hB3.block w.heap.size Ab.out.2);clear hB3;unfold kidV;go_wp2;have q:=res5 w3 w.heap.size (.int .i64 27) (.string ⟨t.text.toArray⟩) (.int .i64 0) (.int .i64 t.at_) (.slice none 0 0) z0 z1 z2 z3 z4;have hBz:=zan w3 w.heap.size w.heap.size (.int .i64 27) (.string ⟨t.text.toArray⟩) (.int .i64 0) (.int .i64 t.at_) (.slice none 0 0) (Nat.le_refl _);generalize ((((w3.setCell ⟨w.heap.size,0,none⟩ (.int .i64 27)).setCell ⟨w.heap.size,1,none⟩ (.string ⟨t.text.toArray⟩)).setCell ⟨w.heap.size,2,none⟩ (.int .i64 0)).setCell ⟨w.heap.size,3,none⟩ (.int .i64 t.at_)).setCell ⟨w.heap.size,4,none⟩ (.slice none 0 0)=wz at q hBz ⊢;obtain ⟨q0,q1,q2,q3,q4⟩:=q;exact bodyPost_ret (v:=.agg #[.int .i64 27,.string ⟨t.text.toArray⟩,.int .i64 0,.int .i64 t.at_,.slice none 0 0]) (by simp [results,Tryz.results162,go_sem,q0,q1,q2,q3,q4]) rfl
   ⟨_,i,full,rfl,treeAt_node.2 ⟨_,rfl,listAt_nil⟩,rfl,Ac.out.of_blocks (hBz.block p HP.out.1) (hBz.block g HP.out.2),Ad.out.below_after hBz⟩
theorem ziy (p g cap:Nat) (ts:List Tok) (hE:Ends ts) (i:Nat) (d:Int) (full:Bool) (w:World) (h:PP w p g cap ts i d full) :
 Calls Tryz.prog 162 #[.pointer (some ⟨p,0,none⟩)] w (zai p g cap ts d (treeIs w.heap.size) (refP (PSof ts i full)) w) :=
 zme p g cap ts d w h.plt h.glt _ (fun w1 hB=>zco p g cap ts hE i d full w1 (h.below hB))
theorem zbf (u:World) (r:Nat) (v0 v1 v2 v3 v4:Value) (b:Nat) (hb:b≠r):(((((u.setCell ⟨r,0,none⟩ v0).setCell ⟨r,1,none⟩ v1).setCell ⟨r,2,none⟩ v2).setCell ⟨r,3,none⟩ v3).setCell ⟨r,4,none⟩ v4).heap[b]?=u.heap[b]? :=
 (Below.heap_setCell _ _ _ _ hb).trans ((Below.heap_setCell _ _ _ _ hb).trans ((Below.heap_setCell _ _ _ _ hb).trans ((Below.heap_setCell _ _ _ _ hb).trans (Below.heap_setCell _ _ _ _ hb))))
theorem value_ref (p g cap:Nat) (ts:List Tok) (d k m:Int) (s:ByteArray) (a:Nat) (w:World) (hp:p<w.heap.size) (hg:g<w.heap.size) (r:Ans Tree) (hk:(k==1)=true)
 (H0:Hid (∀ w1,Below w.heap.size w w1->Calls Tryz.prog 38 #[.pointer (some ⟨p,0,none⟩)] w1 fun e w'=>e=.returned (.agg #[.int .i64 k,.string s,.int .i64 m,.int .i64 a])∧Below w1.heap.size w1 w'))
 (HT:Hid (∀ w1,Below w.heap.size w w1->Calls Tryz.prog 162 #[.pointer (some ⟨p,0,none⟩)] w1 (zai p g cap ts d (treeIs w1.heap.size) r w1))) :
 Calls Tryz.prog 140 #[.pointer (some ⟨p,0,none⟩)] w (zai p g cap ts d (treeIs w.heap.size) r w):=by
 have HP:=hid2 hp hg;clear hp hg;have q0:=fld0 k m a s;go_enter Tryz.func140,Tryz.ntmps140
 go_wp2_with fail
 refine (H0.out _ ((Below.refl _ _).alloc (Nat.le_refl _) _)).mono ?_;rintro e w1 ⟨rfl,hB⟩;have Aa:=hid (((Below.refl _ _).alloc (Nat.le_refl _) _).trans (hB.mono (by simp)));have HZ:Hid (Tre w1 w.heap.size∧w.heap.size<w1.heap.size):=⟨(Tre.made w 29).block (hB.block _ (by simp)),by have:=hB.size;simp at this;omega⟩;clear hB;go_wp2_with fail
 refine (HT.out _ Aa.out).mono ?_;cases r with
 | no why at_ =>
  rintro e w9 ⟨rfl,hS⟩;have Ab:=hid ((Sole.of_below Aa.out).trans hS);clear hS;go_wp2;exact ⟨rfl,rfl,Ab.out⟩
 | ok t st =>
  rintro e w9 ⟨v,i,full,rfl,hT,rfl,hP,hS⟩;obtain ⟨k9,n9,m9,a9,ks9⟩:=t;obtain ⟨sl,rfl,hL⟩:=treeAt_node.1 hT;obtain ⟨o9,len9,cap9,rfl⟩:=hL.shape;have Ac:=hid hT;have Ad:=hid hP;have Ab:=hid ((Sole.of_below Aa.out).trans hS);obtain ⟨z0,z1,z2,z3,z4,y0,y1,y2,y3,y4⟩:=HZ.out.1.block (hS.block w.heap.size HZ.out.2 (Nat.ne_of_gt HP.out.1));clear hP hS hT hL;unfold kidV at Ac ⊢;go_wp2;have q:=res5 w9 w.heap.size (.int .i64 k9) (.string ⟨n9.toArray⟩) (.int .i64 m9) (.int .i64 a9) (.slice o9 len9 cap9) z0 z1 z2 z3 z4;have hBz:=zan w9 w.heap.size w.heap.size (.int .i64 k9) (.string ⟨n9.toArray⟩) (.int .i64 m9) (.int .i64 a9) (.slice o9 len9 cap9) (Nat.le_refl _);have hbt:=zbf w9 w.heap.size (.int .i64 k9) (.string ⟨n9.toArray⟩) (.int .i64 m9) (.int .i64 a9) (.slice o9 len9 cap9);generalize ((((w9.setCell ⟨w.heap.size,0,none⟩ (.int .i64 k9)).setCell ⟨w.heap.size,1,none⟩ (.string ⟨n9.toArray⟩)).setCell ⟨w.heap.size,2,none⟩ (.int .i64 m9)).setCell ⟨w.heap.size,3,none⟩ (.int .i64 a9)).setCell ⟨w.heap.size,4,none⟩ (.slice o9 len9 cap9)=wz at q hBz hbt ⊢;obtain ⟨q0,q1,q2,q3,q4⟩:=q;exact bodyPost_ret (v:=.agg #[.int .i64 k9,.string ⟨n9.toArray⟩,.int .i64 m9,.int .i64 a9,.slice o9 len9 cap9]) (by simp [results,Tryz.results140,go_sem,q0,q1,q2,q3,q4]) rfl
   ⟨_,i,full,rfl,Ac.out.but (Nat.le_of_lt HZ.out.2) HZ.out.2 (fun b _ hb=>hbt b hb),rfl,Ad.out.of_blocks (hBz.block p HP.out.1) (hBz.block g HP.out.2),Ab.out.below_after hBz⟩
theorem value_num (p g cap:Nat) (ts:List Tok) (d k m:Int) (s:ByteArray) (a:Nat) (w:World) (hp:p<w.heap.size) (hg:g<w.heap.size) (r:Ans Tree) (hk:(k==1)=false)
 (H0:Hid (∀ w1,Below w.heap.size w w1->Calls Tryz.prog 38 #[.pointer (some ⟨p,0,none⟩)] w1 fun e w'=>e=.returned (.agg #[.int .i64 k,.string s,.int .i64 m,.int .i64 a])∧Below w1.heap.size w1 w'))
 (HT:Hid (∀ w1,Below w.heap.size w w1->Calls Tryz.prog 110 #[.pointer (some ⟨p,0,none⟩)] w1 (zai p g cap ts d (treeIs w1.heap.size) r w1))) :
 Calls Tryz.prog 140 #[.pointer (some ⟨p,0,none⟩)] w (zai p g cap ts d (treeIs w.heap.size) r w):=by
 have HP:=hid2 hp hg;clear hp hg;have q0:=fld0 k m a s;go_enter Tryz.func140,Tryz.ntmps140
 go_wp2_with fail
 refine (H0.out _ ((Below.refl _ _).alloc (Nat.le_refl _) _)).mono ?_;rintro e w1 ⟨rfl,hB⟩;have Aa:=hid (((Below.refl _ _).alloc (Nat.le_refl _) _).trans (hB.mono (by simp)));have HZ:Hid (Tre w1 w.heap.size∧w.heap.size<w1.heap.size):=⟨(Tre.made w 29).block (hB.block _ (by simp)),by have:=hB.size;simp at this;omega⟩;clear hB;go_wp2_with fail
 refine (HT.out _ Aa.out).mono ?_;cases r with
 | no why at_ =>
  rintro e w9 ⟨rfl,hS⟩;have Ab:=hid ((Sole.of_below Aa.out).trans hS);clear hS;go_wp2;exact ⟨rfl,rfl,Ab.out⟩
 | ok t st =>
  rintro e w9 ⟨v,i,full,rfl,hT,rfl,hP,hS⟩;obtain ⟨k9,n9,m9,a9,ks9⟩:=t;obtain ⟨sl,rfl,hL⟩:=treeAt_node.1 hT;obtain ⟨o9,len9,cap9,rfl⟩:=hL.shape;have Ac:=hid hT;have Ad:=hid hP;have Ab:=hid ((Sole.of_below Aa.out).trans hS);obtain ⟨z0,z1,z2,z3,z4,y0,y1,y2,y3,y4⟩:=HZ.out.1.block (hS.block w.heap.size HZ.out.2 (Nat.ne_of_gt HP.out.1));clear hP hS hT hL;unfold kidV at Ac ⊢;go_wp2;have q:=res5 w9 w.heap.size (.int .i64 k9) (.string ⟨n9.toArray⟩) (.int .i64 m9) (.int .i64 a9) (.slice o9 len9 cap9) z0 z1 z2 z3 z4;have hBz:=zan w9 w.heap.size w.heap.size (.int .i64 k9) (.string ⟨n9.toArray⟩) (.int .i64 m9) (.int .i64 a9) (.slice o9 len9 cap9) (Nat.le_refl _);have hbt:=zbf w9 w.heap.size (.int .i64 k9) (.string ⟨n9.toArray⟩) (.int .i64 m9) (.int .i64 a9) (.slice o9 len9 cap9);generalize ((((w9.setCell ⟨w.heap.size,0,none⟩ (.int .i64 k9)).setCell ⟨w.heap.size,1,none⟩ (.string ⟨n9.toArray⟩)).setCell ⟨w.heap.size,2,none⟩ (.int .i64 m9)).setCell ⟨w.heap.size,3,none⟩ (.int .i64 a9)).setCell ⟨w.heap.size,4,none⟩ (.slice o9 len9 cap9)=wz at q hBz hbt ⊢;obtain ⟨q0,q1,q2,q3,q4⟩:=q;exact bodyPost_ret (v:=.agg #[.int .i64 k9,.string ⟨n9.toArray⟩,.int .i64 m9,.int .i64 a9,.slice o9 len9 cap9]) (by simp [results,Tryz.results140,go_sem,q0,q1,q2,q3,q4]) rfl
   ⟨_,i,full,rfl,Ac.out.but (Nat.le_of_lt HZ.out.2) HZ.out.2 (fun b _ hb=>hbt b hb),rfl,Ad.out.of_blocks (hBz.block p HP.out.1) (hBz.block g HP.out.2),Ab.out.below_after hBz⟩
theorem natural_yes (p g cap:Nat) (ts:List Tok) (d k m:Int) (s:ByteArray) (a:Nat) (w:World) (hp:p<w.heap.size) (hg:g<w.heap.size) (r:Ans Tree) (hk:¬ m<0)
 (H0:Hid (∀ w1,Below w.heap.size w w1->Calls Tryz.prog 38 #[.pointer (some ⟨p,0,none⟩)] w1 fun e w'=>e=.returned (.agg #[.int .i64 k,.string s,.int .i64 m,.int .i64 a])∧Below w1.heap.size w1 w'))
 (HT:Hid (∀ w1,Below w.heap.size w w1->Calls Tryz.prog 110 #[.pointer (some ⟨p,0,none⟩)] w1 (zai p g cap ts d (treeIs w1.heap.size) r w1))) :
 Calls Tryz.prog 118 #[.pointer (some ⟨p,0,none⟩)] w (zai p g cap ts d (treeIs w.heap.size) r w):=by
 have HP:=hid2 hp hg;clear hp hg;have q0:=fld2 k m a s;go_enter Tryz.func118,Tryz.ntmps118
 go_wp2_with fail
 refine (H0.out _ ((Below.refl _ _).alloc (Nat.le_refl _) _)).mono ?_;rintro e w1 ⟨rfl,hB⟩;have Aa:=hid (((Below.refl _ _).alloc (Nat.le_refl _) _).trans (hB.mono (by simp)));have HZ:Hid (Tre w1 w.heap.size∧w.heap.size<w1.heap.size):=⟨(Tre.made w 29).block (hB.block _ (by simp)),by have:=hB.size;simp at this;omega⟩;clear hB;go_wp2_with fail
 refine (HT.out _ Aa.out).mono ?_;cases r with
 | no why at_ =>
  rintro e w9 ⟨rfl,hS⟩;have Ab:=hid ((Sole.of_below Aa.out).trans hS);clear hS;go_wp2;exact ⟨rfl,rfl,Ab.out⟩
 | ok t st =>
  rintro e w9 ⟨v,i,full,rfl,hT,rfl,hP,hS⟩;obtain ⟨k9,n9,m9,a9,ks9⟩:=t;obtain ⟨sl,rfl,hL⟩:=treeAt_node.1 hT;obtain ⟨o9,len9,cap9,rfl⟩:=hL.shape;have Ac:=hid hT;have Ad:=hid hP;have Ab:=hid ((Sole.of_below Aa.out).trans hS);obtain ⟨z0,z1,z2,z3,z4,y0,y1,y2,y3,y4⟩:=HZ.out.1.block (hS.block w.heap.size HZ.out.2 (Nat.ne_of_gt HP.out.1));clear hP hS hT hL;unfold kidV at Ac ⊢;go_wp2;have q:=res5 w9 w.heap.size (.int .i64 k9) (.string ⟨n9.toArray⟩) (.int .i64 m9) (.int .i64 a9) (.slice o9 len9 cap9) z0 z1 z2 z3 z4;have hBz:=zan w9 w.heap.size w.heap.size (.int .i64 k9) (.string ⟨n9.toArray⟩) (.int .i64 m9) (.int .i64 a9) (.slice o9 len9 cap9) (Nat.le_refl _);have hbt:=zbf w9 w.heap.size (.int .i64 k9) (.string ⟨n9.toArray⟩) (.int .i64 m9) (.int .i64 a9) (.slice o9 len9 cap9);generalize ((((w9.setCell ⟨w.heap.size,0,none⟩ (.int .i64 k9)).setCell ⟨w.heap.size,1,none⟩ (.string ⟨n9.toArray⟩)).setCell ⟨w.heap.size,2,none⟩ (.int .i64 m9)).setCell ⟨w.heap.size,3,none⟩ (.int .i64 a9)).setCell ⟨w.heap.size,4,none⟩ (.slice o9 len9 cap9)=wz at q hBz hbt ⊢;obtain ⟨q0,q1,q2,q3,q4⟩:=q;exact bodyPost_ret (v:=.agg #[.int .i64 k9,.string ⟨n9.toArray⟩,.int .i64 m9,.int .i64 a9,.slice o9 len9 cap9]) (by simp [results,Tryz.results118,go_sem,q0,q1,q2,q3,q4]) rfl
   ⟨_,i,full,rfl,Ac.out.but (Nat.le_of_lt HZ.out.2) HZ.out.2 (fun b _ hb=>hbt b hb),rfl,Ad.out.of_blocks (hBz.block p HP.out.1) (hBz.block g HP.out.2),Ab.out.below_after hBz⟩
theorem natural_no (p:Nat) (k m:Int) (s:ByteArray) (a:Nat) (w:World) (hk:m<0)
 (H0:Hid (∀ w1,Below w.heap.size w w1->Calls Tryz.prog 38 #[.pointer (some ⟨p,0,none⟩)] w1 fun e w'=>e=.returned (.agg #[.int .i64 k,.string s,.int .i64 m,.int .i64 a])∧Below w1.heap.size w1 w'))
 (HW:Hid (∀ w1,Below w.heap.size w w1->Calls Tryz.prog 74 #[.pointer (some ⟨p,0,none⟩),.int .i64 40] w1 fun e w'=>e=.returned (.agg #[.int .i64 40,.int .i64 a])∧Below w1.heap.size w1 w')) :
 Calls Tryz.prog 118 #[.pointer (some ⟨p,0,none⟩)] w fun e w'=>e=.panicked [{ v:=.iface 50 (.agg #[.int .i64 40,.int .i64 a]),recovered:=false }]∧Below w.heap.size w w':=by
 have q0:=fld2 k m a s;go_enter Tryz.func118,Tryz.ntmps118
 go_wp2_with fail
 refine (H0.out _ ((Below.refl _ _).alloc (Nat.le_refl _) _)).mono ?_;rintro e w1 ⟨rfl,hB⟩;have HB:=hid (((Below.refl _ _).alloc (Nat.le_refl _) _).trans (hB.mono (by simp)));clear hB;go_wp2_with fail
 refine (HW.out _ HB.out).mono ?_;rintro e w2 ⟨rfl,hB⟩;have Aa:=hid (HB.out.trans (hB.mono HB.out.size));clear hB;go_wp2;exact ⟨rfl,rfl,Aa.out⟩
theorem zck (p g cap:Nat) (ts:List Tok) (hE:Ends ts) (i:Nat) (d:Int) (full:Bool) (w:World) (h:PP w p g cap ts i d full) :
 Calls Tryz.prog 140 #[.pointer (some ⟨p,0,none⟩)] w (zai p g cap ts d (treeIs w.heap.size) (zbz (PSof ts i full)) w):=by
 have hd:=zb7 ts i full h.il;unfold zbz;rw [hd];by_cases e:(ts[i]'h.il).kind=1
 · rw [if_pos e];exact value_ref p g cap ts d (ts[i]'h.il).kind (ts[i]'h.il).num ⟨(ts[i]'h.il).text.toArray⟩ (ts[i]'h.il).at_ w h.plt h.glt _ (by simp [e]) (fun w1 hB=>zcc p g cap ts i d full w1 (h.below hB)) (fun w1 hB=>ziy p g cap ts hE i d full w1 (h.below hB))
 · rw [if_neg e];exact value_num p g cap ts d (ts[i]'h.il).kind (ts[i]'h.il).num ⟨(ts[i]'h.il).text.toArray⟩ (ts[i]'h.il).at_ w h.plt h.glt _ (by simp [e]) (fun w1 hB=>zcc p g cap ts i d full w1 (h.below hB)) (fun w1 hB=>zch p g cap ts hE i d full w1 (h.below hB))
theorem zlg (p g cap:Nat) (ts:List Tok) (hE:Ends ts) (i:Nat) (d:Int) (full:Bool) (w:World) (h:PP w p g cap ts i d full) :
 Calls Tryz.prog 118 #[.pointer (some ⟨p,0,none⟩)] w (zai p g cap ts d (treeIs w.heap.size) (za5 (PSof ts i full)) w):=by
 have hd:=zb7 ts i full h.il;unfold za5 PS.bad;rw [hd];by_cases e:(ts[i]'h.il).num<0
 · rw [if_pos e];refine (natural_no p (ts[i]'h.il).kind (ts[i]'h.il).num ⟨(ts[i]'h.il).text.toArray⟩ (ts[i]'h.il).at_ w e (fun w1 hB=>zcc p g cap ts i d full w1 (h.below hB)) (fun w1 hB=>zdb p g cap ts i d 40 full w1 (h.below hB))).mono ?_;rintro e' w' ⟨rfl,hB⟩;exact ⟨rfl,Sole.of_below hB⟩
 · rw [if_neg e];exact natural_yes p g cap ts d (ts[i]'h.il).kind (ts[i]'h.il).num ⟨(ts[i]'h.il).text.toArray⟩ (ts[i]'h.il).at_ w h.plt h.glt _ e (fun w1 hB=>zcc p g cap ts i d full w1 (h.below hB)) (fun w1 hB=>zch p g cap ts hE i d full w1 (h.below hB))
structure TokAt (w:World) (b:Nat) (t:Tok):Prop where
 c0:w.cell? ⟨b,0,none⟩=some (.int .i64 t.kind)
 c1:w.cell? ⟨b,1,none⟩=some (.string ⟨t.text.toArray⟩)
 c2:w.cell? ⟨b,2,none⟩=some (.int .i64 t.num)
 c3:w.cell? ⟨b,3,none⟩=some (.int .i64 t.at_)
theorem TokAt.block {w w' : World} {b:Nat} {t:Tok} (h:TokAt w b t) (e:w'.heap[b]?=w.heap[b]?):TokAt w' b t :=
 ⟨(zac e 0).1.trans h.c0,(zac e 1).1.trans h.c1,(zac e 2).1.trans h.c2,(zac e 3).1.trans h.c3⟩
theorem TokAt.made (w:World) (t:Tok) (y:TypeId):TokAt (w.alloc (.cells #[.int .i64 t.kind,.string ⟨t.text.toArray⟩,.int .i64 t.num,.int .i64 t.at_] y)) w.heap.size t:=by
 constructor <;> simp
theorem wantL_one (t:List UInt8) (s:PS):wantL [t] s=s.want t:=by
 show (s.want t).bind (fun _ s=>Ans.ok () s)=s.want t;cases s.want t <;> rfl
theorem zai.from_below {α:Type} {p g cap:Nat} {ts:List Tok} {d:Int} {val:α->World->Value->Prop} {r:Ans α} {w w1:World} {e:Ending} {w' : World} (hB:Below w.heap.size w w1) (h:zai p g cap ts d val r w1 e w'):zai p g cap ts d val r w e w':=by
 cases r with
 | no why at_=>exact ⟨h.1,(Sole.of_below hB).trans h.2⟩
 | ok a s =>
  obtain ⟨v,i,full,h1,h2,h3,h4,h5⟩:=h;exact ⟨v,i,full,h1,h2,h3,h4,(Sole.of_below hB).trans h5⟩
theorem zbr (p g cap:Nat) (ts:List Tok) (hE:Ends ts) (i:Nat) (d:Int) (full:Bool) (t:List UInt8) (ht:t≠[]) (w:World) (h:PP w p g cap ts i d full) :
 Calls Tryz.prog 41 #[.pointer (some ⟨p,0,none⟩),.slice (some ⟨w.heap.size,0,none⟩) 1 1] (w.alloc (.cells #[.string ⟨t.toArray⟩] 9)) (zai p g cap ts d zf3 ((PSof ts i full).want t) w):=by
 have hB:Below w.heap.size w (w.alloc (.cells #[.string ⟨t.toArray⟩] 9)):=(Below.refl _ _).alloc (Nat.le_refl _) _;have hx:=zak p g cap ts hE i d full w.heap.size 1 [t] _ (h.below hB) (Nat.ne_of_gt h.plt) (by simp) (fun j hj=>by
  have:j=0:=by simp at hj;omega
  subst this;simp) (fun x hx=>by simp at hx;subst hx;exact ht) (by simp)
 rw [wantL_one] at hx;exact hx.mono fun e w' hp=>zai.from_below hB hp
theorem node_one {B B4 r q:Nat} {w5 wz:World} {k9 m9 k m:Int} {n9 n:List UInt8} {a9 a:Nat} {ks9:List Tree} {sl:Value} (hT:treeIs B4 (.node k9 n9 m9 a9 ks9) w5 (kidV k9 n9 m9 a9 sl)) (hB:B<=B4) (hr:r<B4) (hq:w5.heap.size<=q) (hBq:B<=q)
 (hf:∀ b,b<w5.heap.size->b≠r->wz.heap[b]?=w5.heap[b]?) (h:wz.heap[q]?=some (zdr [.int .i64 k9,.string ⟨n9.toArray⟩,.int .i64 m9,.int .i64 a9,sl])) :
 treeIs B (.node k n m a [.node k9 n9 m9 a9 ks9]) wz (kidV k n m a (.slice (some ⟨q,0,none⟩) 1 1)):=by
 refine treeAt_node.2 ⟨_,rfl,_,zf7 h rfl (by omega),fun g e=>by cases e;exact hBq,zay ?_⟩;refine TreeAt.frame (fun b hb=>⟨Nat.le_trans hB hb.1,fun e=>?_⟩) (fun b hb hl=>hf b hl (Nat.ne_of_gt (Nat.lt_of_lt_of_le hr hb.1))) _ _ (TreeAt.there _ _ hT);have e2:q=b:=Option.some.inj e;exact absurd hb.2 (by omega)
theorem member_any (p g cap:Nat) (ts:List Tok) (hE:Ends ts) (i:Nat) (d:Int) (full:Bool) (w:World) (h:PP w p g cap ts i d full) :
 Calls Tryz.prog 144 #[.pointer (some ⟨p,0,none⟩)] w (zai p g cap ts d (treeIs w.heap.size) (zgf (PSof ts i full)) w):=by
 have HP:=hid2 h.plt h.glt;have HN:Hid (∀ w1,Below w.heap.size w w1->Calls Tryz.prog 108 #[.pointer (some ⟨p,0,none⟩)] w1 (zai p g cap ts d zfh (zcp (PSof ts i full)) w1)):=fun w1 hB=>zco p g cap ts hE i d full w1 (h.below hB);have HE:=hid hE;obtain ⟨R,hR⟩:∃ R,zgf (PSof ts i full)=R:=⟨_,rfl⟩;rw [hR];obtain ⟨rn,hrn⟩:∃ rn,zcp (PSof ts i full)=rn:=⟨_,rfl⟩;have HR:Hid (R=rn.bind fun n s=>(s.want [61]).bind fun _ s=>(zbz s).bind fun v s=>.ok (named 5 n [v]) s):=by
  show _=_;rw [<- hR,<- hrn];rfl
 rw [hrn] at HN;clear h hE hrn hR;go_enter Tryz.func144,Tryz.ntmps144
 go_wp2_with fail
 have HB:Hid (Below w.heap.size w (w.alloc (.cells #[.int .i64 0,.string ⟨#[]⟩,.int .i64 0,.int .i64 0,.slice none 0 0] 29))):=(Below.refl _ _).alloc (Nat.le_refl _) _;refine (HN.out _ HB.out).mono ?_;cases rn with
 | no why at_ =>
  rintro e w2 ⟨rfl,hS⟩;have HS:=hid ((Sole.of_below HB.out).trans hS);clear hS;go_wp2;refine ⟨rfl,?_⟩;rw [HR.out];exact ⟨rfl,HS.out⟩
 | ok t st =>
  rintro e w2 ⟨v,i,full,rfl,rfl,rfl,hP,hS⟩;have hlt:w.heap.size<w2.heap.size:=by have:=hS.size;simp at this;omega
  obtain ⟨w3,hw3⟩:∃ w3,w2.alloc (.cells #[.int .i64 t.kind,.string ⟨t.text.toArray⟩,.int .i64 t.num,.int .i64 t.at_] 41)=w3:=⟨_,rfl⟩;have hB3:Below w2.heap.size w2 w3:=by rw [<- hw3];exact (Below.refl _ _).alloc (Nat.le_refl _) _
  have hs3:w3.heap.size=w2.heap.size+1:=by rw [<- hw3];simp
  have An:=hid (hP.below hB3);have Ae:=hid (((Sole.of_below HB.out).trans hS).trans (Sole.of_below hB3));have Ao:=hid (((Tre.made w 29).block (hS.block w.heap.size (by simp) (Nat.ne_of_gt HP.out.1))).block (hB3.block w.heap.size hlt));have Ap:Hid (TokAt w3 w2.heap.size t):=by show TokAt w3 w2.heap.size t;rw [<- hw3];exact TokAt.made w2 t 41
  have Ab:=hid2 hlt hs3;have Af:=hid (zbr p g cap ts HE.out i d full [61] (by simp) w3 An.out);obtain ⟨ru,hru⟩:∃ r,(PSof ts i full).want [61]=r:=⟨_,rfl⟩;have Ag:Hid (R=ru.bind fun _ s=>(zbz s).bind fun v s=>.ok (named 5 t [v]) s):=by
   show _=_;rw [HR.out,<- hru];rfl
  rw [hru] at Af;clear hP hS hB3 hlt hs3 hru;unfold tokV;go_wp2_with fail
  refine Af.out.mono ?_;cases ru with
  | no why at_ =>
   rintro e w4 ⟨rfl,hS⟩;have HS:=hid (Ae.out.trans hS);clear hS;go_wp2;refine ⟨rfl,?_⟩;rw [Ag.out];exact ⟨rfl,HS.out⟩
  | ok u st =>
   rintro e w4 ⟨v,i,full,rfl,rfl,rfl,hP,hS⟩;have hp:=HP.out.1;have hl:=Ab.out;have Ax:=hid hP;have Ah:=hid (Ae.out.trans hS);have Aq:=hid (Ao.out.block (hS.block _ (by omega) (by omega)));have Ai:=hid (Ap.out.block (hS.block _ (by omega) (by omega)));obtain ⟨t0,t1,t2,t3⟩:=Ai.out;have Ac:Hid (w2.heap.size<w4.heap.size):=by show _<_;have:=hS.size;omega
   obtain ⟨rv,hrv⟩:∃ r,zbz (PSof ts i full)=r:=⟨_,rfl⟩;have Aj:Hid (R=rv.bind fun v s=>.ok (named 5 t [v]) s):=by
    show _=_;rw [Ag.out,<- hrv];rfl
   have Ak:Hid (∀ m,Calls Tryz.prog 140 #[.pointer (some ⟨p,0,none⟩)] (w4.drewN m) (zai p g cap ts d (treeIs w4.heap.size) rv w4)):=fun m=>by
    have hB:Below w4.heap.size w4 (w4.drewN m):=zad (Below.refl _ _) m;rw [<- hrv];exact (zck p g cap ts HE.out i d full (w4.drewN m) (hP.below hB)).mono fun e w' hp=>zai.from_below hB hp
   clear hP hS hrv hp hl;go_wp2_with fail
   cases rv with
   | no why at_ =>
    (go_region_dies);all_goals (
     refine (Ak.out _).mono ?_;rintro e w5 ⟨rfl,hS⟩;refine ⟨rfl,?_⟩;rw [Aj.out];exact ⟨rfl,Ah.out.trans hS⟩)
   | ok tv st =>
    obtain ⟨k9,n9,m9,a9,ks9⟩:=tv;go_region_with (first
     | (go_at_call 140
        refine (Ak.out _).mono ?_;rintro e w5 ⟨v,i,full,rfl,hT,rfl,hP,hS⟩;obtain ⟨sl,rfl,hL⟩:=treeAt_node.1 hT;obtain ⟨o9,len9,cap9,rfl⟩:=hL.shape;have Ar:=hid hT;have Au:=hid hP;have Al:=hid hS;have Am:Hid (TokAt w5 w2.heap.size t):=Ai.out.block (hS.block w2.heap.size Ac.out (by have:=HP.out.1;have:=Ab.out.1;omega));have hl2:w2.heap.size<w5.heap.size:=(by have:=hS.size;have:=Ac.out;omega);obtain ⟨wq,hwq⟩:∃ wq,w5.alloc (.cells #[.int .i64 k9,.string ⟨n9.toArray⟩,.int .i64 m9,.int .i64 a9,.slice o9 len9 cap9] 29)=wq:=⟨_,rfl⟩;have hBq:Below w5.heap.size w5 wq:=(by rw [<- hwq];exact (Below.refl _ _).alloc (Nat.le_refl _) _);obtain ⟨s0,s1,s2,s3⟩:=Am.out;obtain ⟨x0,x1,x2,x3⟩:=Am.out.block (hBq.block _ hl2);have Av:=hid hwq;have Aa:Hid (Below w5.heap.size w5 wq∧w2.heap.size<w5.heap.size∧wq.heap.size=w5.heap.size+1):=⟨hBq,hl2,by rw [<- hwq];simp⟩;clear hT hL hP hS hl2 hBq;unfold kidV)
     | (go_at_call 109
        refine (zdf 5 t (some ⟨w5.heap.size,0,none⟩) 1 1 _).mono ?_;rintro e w6 ⟨rfl,hB6⟩;have Ad:=hid hB6;have hl5:w.heap.size<w5.heap.size:=(by have:=Aa.out.2.1;have:=Ab.out.1;omega);obtain ⟨z0,z1,z2,z3,z4,y0,y1,y2,y3,y4⟩:=((Aq.out.block (Al.out.block w.heap.size (by have:=Ac.out;have:=Ab.out.1;omega) (by have:=HP.out.1;omega))).block (Aa.out.1.block w.heap.size hl5)).block (hB6.block w.heap.size (by have:=Aa.out.2.2;omega));have Aw:=hid hl5;clear hB6 hl5;unfold kidV))
    all_goals (
     go_wp2;have q:=res5 w6 w.heap.size (.int .i64 5) (.string ⟨t.text.toArray⟩) (.int .i64 0) (.int .i64 t.at_) (.slice (some ⟨w5.heap.size,0,none⟩) 1 1) z0 z1 z2 z3 z4;have hBz:=zan w6 w.heap.size w.heap.size (.int .i64 5) (.string ⟨t.text.toArray⟩) (.int .i64 0) (.int .i64 t.at_) (.slice (some ⟨w5.heap.size,0,none⟩) 1 1) (Nat.le_refl _);have hbt:=zbf w6 w.heap.size (.int .i64 5) (.string ⟨t.text.toArray⟩) (.int .i64 0) (.int .i64 t.at_) (.slice (some ⟨w5.heap.size,0,none⟩) 1 1);generalize ((((w6.setCell ⟨w.heap.size,0,none⟩ (.int .i64 5)).setCell ⟨w.heap.size,1,none⟩ (.string ⟨t.text.toArray⟩)).setCell ⟨w.heap.size,2,none⟩ (.int .i64 0)).setCell ⟨w.heap.size,3,none⟩ (.int .i64 t.at_)).setCell ⟨w.heap.size,4,none⟩ (.slice (some ⟨w5.heap.size,0,none⟩) 1 1)=wz at q hBz hbt ⊢;obtain ⟨q0,q1,q2,q3,q4⟩:=q;have hsq:=Aa.out.2.2;have hl5:=Aw.out;have hlp:=HP.out;have hl24:=Ac.out;have hl12:=Ab.out.1;have hz5:∀ b,b<w5.heap.size->b≠w.heap.size->wz.heap[b]?=w5.heap[b]?:=fun b hb hbw=>(hbt b hbw).trans ((Ad.out.block b (by omega)).trans (Aa.out.1.block b hb));have hzq:wz.heap[w5.heap.size]?=wq.heap[w5.heap.size]?:=(hbt _ (by omega)).trans (Ad.out.block _ (by omega));have hS6:Sole p w w6:=(Ah.out.trans Al.out).trans ((Sole.of_below Aa.out.1).trans (Sole.of_below Ad.out));refine bodyPost_ret (v:=.agg #[.int .i64 5,.string ⟨t.text.toArray⟩,.int .i64 0,.int .i64 t.at_,.slice (some ⟨w5.heap.size,0,none⟩) 1 1]) (by simp [results,Tryz.results144,go_sem,q0,q1,q2,q3,q4]) rfl ?_;rw [Aj.out];refine ⟨_,_,_,rfl,node_one Ar.out (by omega) (show w.heap.size<w4.heap.size by omega) (Nat.le_refl w5.heap.size) (by omega) hz5 (hzq.trans (by rw [<- Av.out];exact heap_alloc_new _ _)),rfl,Au.out.of_blocks (hz5 p (by omega) (by omega)) (hz5 g (by omega) (by omega)),hS6.below_after hBz⟩)
def constP (s:PS):Ans Tree:=(s.want zdv).bind fun _ s=>(zcp s).bind fun n s=>(s.want [61]).bind fun _ s=>(zeb s).bind fun v s=>.ok (named 2 n [v]) s
theorem constant_any (p g cap:Nat) (ts:List Tok) (hE:Ends ts) (i:Nat) (d:Int) (full:Bool) (w:World) (h:PP w p g cap ts i d full) :
 Calls Tryz.prog 68 #[.pointer (some ⟨p,0,none⟩)] w (zai p g cap ts d (treeIs w.heap.size) (constP (PSof ts i full)) w):=by
 have HP:=hid2 h.plt h.glt;have HE:=hid hE;have H:=hid h;obtain ⟨R,hR⟩:∃ R,constP (PSof ts i full)=R:=⟨_,rfl⟩;rw [hR];obtain ⟨rc,hrc⟩:∃ rc,(PSof ts i full).want zdv=rc:=⟨_,rfl⟩;have Ag:Hid (R=rc.bind fun _ s=>(zcp s).bind fun n s=>(s.want [61]).bind fun _ s=>(zeb s).bind fun v s=>.ok (named 2 n [v]) s):=by
  show _=_;rw [<- hR,<- hrc];rfl
 obtain ⟨wa,hwa⟩:∃ wa,w.alloc (.cells #[.int .i64 0,.string ⟨#[]⟩,.int .i64 0,.int .i64 0,.slice none 0 0] 29)=wa:=⟨_,rfl⟩;have hBa:Below w.heap.size w wa:=by rw [<- hwa];exact (Below.refl _ _).alloc (Nat.le_refl _) _
 have Ad:Hid (Tre wa w.heap.size∧w.heap.size<wa.heap.size):=by
  refine ⟨?_,?_⟩
  · rw [<- hwa];exact Tre.made w 29
  · rw [<- hwa];simp
 have HB:=hid hBa;have Ar:Hid (Calls Tryz.prog 41 #[.pointer (some ⟨p,0,none⟩),.slice (some ⟨wa.heap.size,0,none⟩) 1 1] (wa.alloc (.cells #[.string ⟨#[99,111,110,115,116]⟩] 9)) (zai p g cap ts d zf3 rc wa)):=by
  rw [<- hrc];exact zbr p g cap ts hE i d full zdv (by simp [zdv]) wa (h.below hBa)
 have Bc:=hid hwa;clear h hE hrc hR hBa;go_enter Tryz.func68,Tryz.ntmps68
 go_wp2_with fail
 clear hwa;refine Ar.out.mono ?_;cases rc with
 | no why at_ =>
  rintro e w2 ⟨rfl,hS⟩;have HS:=hid ((Sole.of_below HB.out).trans hS);clear hS;go_wp2;refine ⟨rfl,?_⟩;rw [Ag.out];exact ⟨rfl,HS.out⟩
 | ok u st =>
 rintro e w1 ⟨v,i,full,rfl,rfl,rfl,hP,hS⟩;have HN:=hid (zco p g cap ts HE.out i d full w1 hP);have Ah:=hid ((Sole.of_below HB.out).trans hS);have Ae:Hid (Tre w1 w.heap.size∧w.heap.size<w1.heap.size):=⟨Ad.out.1.block (hS.block _ Ad.out.2 (Nat.ne_of_gt HP.out.1)),Nat.lt_of_lt_of_le Ad.out.2 hS.size⟩;obtain ⟨rn,hrn⟩:∃ rn,zcp (PSof ts i full)=rn:=⟨_,rfl⟩;have HR:Hid (R=rn.bind fun n s=>(s.want [61]).bind fun _ s=>(zeb s).bind fun v s=>.ok (named 2 n [v]) s):=by
  show _=_;rw [Ag.out,<- hrn];rfl
 rw [hrn] at HN;clear hP hS hrn;go_wp2_with fail
 refine HN.out.mono ?_;cases rn with
 | no why at_ =>
  rintro e w2 ⟨rfl,hS⟩;have HS:=hid (Ah.out.trans hS);clear hS;go_wp2;refine ⟨rfl,?_⟩;rw [HR.out];exact ⟨rfl,HS.out⟩
 | ok t st =>
  rintro e w2 ⟨v,i,full,rfl,rfl,rfl,hP,hS⟩;have hlt:w.heap.size<w2.heap.size:=Nat.lt_of_lt_of_le Ae.out.2 hS.size;obtain ⟨w3,hw3⟩:∃ w3,w2.alloc (.cells #[.int .i64 t.kind,.string ⟨t.text.toArray⟩,.int .i64 t.num,.int .i64 t.at_] 41)=w3:=⟨_,rfl⟩;have hB3:Below w2.heap.size w2 w3:=by rw [<- hw3];exact (Below.refl _ _).alloc (Nat.le_refl _) _
  have hs3:w3.heap.size=w2.heap.size+1:=by rw [<- hw3];simp
  have Au:=hid (hP.below hB3);have Ai:=hid ((Ah.out.trans hS).trans (Sole.of_below hB3));have Av:=hid ((Ae.out.1.block (hS.block w.heap.size Ae.out.2 (Nat.ne_of_gt HP.out.1))).block (hB3.block w.heap.size hlt));have Aw:Hid (TokAt w3 w2.heap.size t):=by show TokAt w3 w2.heap.size t;rw [<- hw3];exact TokAt.made w2 t 41
  have Ab:=hid2 hlt hs3;have Aj:=hid (zbr p g cap ts HE.out i d full [61] (by simp) w3 Au.out);obtain ⟨ru,hru⟩:∃ r,(PSof ts i full).want [61]=r:=⟨_,rfl⟩;have Ak:Hid (R=ru.bind fun _ s=>(zeb s).bind fun v s=>.ok (named 2 t [v]) s):=by
   show _=_;rw [HR.out,<- hru];rfl
  rw [hru] at Aj;clear hP hS hB3 hlt hs3 hru;unfold tokV;go_wp2_with fail
  refine Aj.out.mono ?_;cases ru with
  | no why at_ =>
   rintro e w4 ⟨rfl,hS⟩;have HS:=hid (Ai.out.trans hS);clear hS;go_wp2;refine ⟨rfl,?_⟩;rw [Ak.out];exact ⟨rfl,HS.out⟩
  | ok u st =>
   rintro e w4 ⟨v,i,full,rfl,rfl,rfl,hP,hS⟩;have hp:=HP.out.1;have hl:=Ab.out;have Bd:=hid hP;have Al:=hid (Ai.out.trans hS);have Ax:=hid (Av.out.block (hS.block _ (by omega) (by omega)));have Am:=hid (Aw.out.block (hS.block _ (by omega) (by omega)));obtain ⟨t0,t1,t2,t3⟩:=Am.out;have Ac:Hid (w2.heap.size<w4.heap.size):=by show _<_;have:=hS.size;omega
   obtain ⟨rv,hrv⟩:∃ r,zeb (PSof ts i full)=r:=⟨_,rfl⟩;have An:Hid (R=rv.bind fun v s=>.ok (named 2 t [v]) s):=by
    show _=_;rw [Ak.out,<- hrv];rfl
   have Ao:Hid (∀ m,Calls Tryz.prog 110 #[.pointer (some ⟨p,0,none⟩)] (w4.drewN m) (zai p g cap ts d (treeIs w4.heap.size) rv w4)):=fun m=>by
    have hB:Below w4.heap.size w4 (w4.drewN m):=zad (Below.refl _ _) m;rw [<- hrv];exact (zch p g cap ts HE.out i d full (w4.drewN m) (hP.below hB)).mono fun e w' hp=>zai.from_below hB hp
   clear hP hS hrv hp hl;go_wp2_with fail
   cases rv with
   | no why at_ =>
    (go_region_dies);all_goals (
     refine (Ao.out _).mono ?_;rintro e w5 ⟨rfl,hS⟩;refine ⟨rfl,?_⟩;rw [An.out];exact ⟨rfl,Al.out.trans hS⟩)
   | ok tv st =>
    obtain ⟨k9,n9,m9,a9,ks9⟩:=tv;go_region_with (first
     | (go_at_call 110
        refine (Ao.out _).mono ?_;rintro e w5 ⟨v,i,full,rfl,hT,rfl,hP,hS⟩;obtain ⟨sl,rfl,hL⟩:=treeAt_node.1 hT;obtain ⟨o9,len9,cap9,rfl⟩:=hL.shape;have Ay:=hid hT;have Az:=hid hP;have Ap:=hid hS;have Aq:Hid (TokAt w5 w2.heap.size t):=Am.out.block (hS.block w2.heap.size Ac.out (by have:=HP.out.1;have:=Ab.out.1;omega));have hl2:w2.heap.size<w5.heap.size:=(by have:=hS.size;have:=Ac.out;omega);obtain ⟨wq,hwq⟩:∃ wq,w5.alloc (.cells #[.int .i64 k9,.string ⟨n9.toArray⟩,.int .i64 m9,.int .i64 a9,.slice o9 len9 cap9] 29)=wq:=⟨_,rfl⟩;have hBq:Below w5.heap.size w5 wq:=(by rw [<- hwq];exact (Below.refl _ _).alloc (Nat.le_refl _) _);obtain ⟨s0,s1,s2,s3⟩:=Aq.out;obtain ⟨x0,x1,x2,x3⟩:=Aq.out.block (hBq.block _ hl2);have Ba:=hid hwq;have Aa:Hid (Below w5.heap.size w5 wq∧w2.heap.size<w5.heap.size∧wq.heap.size=w5.heap.size+1):=⟨hBq,hl2,by rw [<- hwq];simp⟩;clear hT hL hP hS hl2 hBq;unfold kidV)
     | (go_at_call 109
        refine (zdf 2 t (some ⟨w5.heap.size,0,none⟩) 1 1 _).mono ?_;rintro e w6 ⟨rfl,hB6⟩;have Af:=hid hB6;have hl5:w.heap.size<w5.heap.size:=(by have:=Aa.out.2.1;have:=Ab.out.1;omega);obtain ⟨z0,z1,z2,z3,z4,y0,y1,y2,y3,y4⟩:=((Ax.out.block (Ap.out.block w.heap.size (by have:=Ac.out;have:=Ab.out.1;omega) (by have:=HP.out.1;omega))).block (Aa.out.1.block w.heap.size hl5)).block (hB6.block w.heap.size (by have:=Aa.out.2.2;omega));have Bb:=hid hl5;clear hB6 hl5;unfold kidV))
    all_goals (
     go_wp2;have q:=res5 w6 w.heap.size (.int .i64 2) (.string ⟨t.text.toArray⟩) (.int .i64 0) (.int .i64 t.at_) (.slice (some ⟨w5.heap.size,0,none⟩) 1 1) z0 z1 z2 z3 z4;have hBz:=zan w6 w.heap.size w.heap.size (.int .i64 2) (.string ⟨t.text.toArray⟩) (.int .i64 0) (.int .i64 t.at_) (.slice (some ⟨w5.heap.size,0,none⟩) 1 1) (Nat.le_refl _);have hbt:=zbf w6 w.heap.size (.int .i64 2) (.string ⟨t.text.toArray⟩) (.int .i64 0) (.int .i64 t.at_) (.slice (some ⟨w5.heap.size,0,none⟩) 1 1);generalize ((((w6.setCell ⟨w.heap.size,0,none⟩ (.int .i64 2)).setCell ⟨w.heap.size,1,none⟩ (.string ⟨t.text.toArray⟩)).setCell ⟨w.heap.size,2,none⟩ (.int .i64 0)).setCell ⟨w.heap.size,3,none⟩ (.int .i64 t.at_)).setCell ⟨w.heap.size,4,none⟩ (.slice (some ⟨w5.heap.size,0,none⟩) 1 1)=wz at q hBz hbt ⊢;obtain ⟨q0,q1,q2,q3,q4⟩:=q;have hsq:=Aa.out.2.2;have hl5:=Bb.out;have hlp:=HP.out;have hl24:=Ac.out;have hl12:=Ab.out.1;have hz5:∀ b,b<w5.heap.size->b≠w.heap.size->wz.heap[b]?=w5.heap[b]?:=fun b hb hbw=>(hbt b hbw).trans ((Af.out.block b (by omega)).trans (Aa.out.1.block b hb));have hzq:wz.heap[w5.heap.size]?=wq.heap[w5.heap.size]?:=(hbt _ (by omega)).trans (Af.out.block _ (by omega));have hS6:Sole p w w6:=(Al.out.trans Ap.out).trans ((Sole.of_below Aa.out.1).trans (Sole.of_below Af.out));refine bodyPost_ret (v:=.agg #[.int .i64 2,.string ⟨t.text.toArray⟩,.int .i64 0,.int .i64 t.at_,.slice (some ⟨w5.heap.size,0,none⟩) 1 1]) (by simp [results,Tryz.results68,go_sem,q0,q1,q2,q3,q4]) rfl ?_;rw [An.out];refine ⟨_,_,_,rfl,node_one Ay.out (by omega) (show w.heap.size<w4.heap.size by omega) (Nat.le_refl w5.heap.size) (by omega) hz5 (hzq.trans (by rw [<- Ba.out];exact heap_alloc_new _ _)),rfl,Az.out.of_blocks (hz5 p (by omega) (by omega)) (hz5 g (by omega) (by omega)),hS6.below_after hBz⟩)
def zj2:Array Value:=#[.int .i64 18,.bool false,.string ⟨#[105,110,116]⟩,.int .i64 19,.bool true,.string ⟨#[105,110,116]⟩,.int .i64 20,.bool false,.string ⟨#[104,121,112,101,114]⟩,.int .i64 21,.bool true,.string ⟨#[104,121,112,101,114]⟩,.int .i64 22,.bool false,.string ⟨#[102,108,111,97,116]⟩,.int .i64 23,.bool false,.string ⟨#[100,111,117,98,108,101]⟩,.int .i64 24,.bool false,.string ⟨#[98,111,111,108]⟩]
def zbv (p:Nat) (w:World):Prop:=p≠0∧∃ t fr,w.heap[0]?=some (.cells zj2 t fr)
theorem zbv.lt {p:Nat} {w:World} (h:zbv p w):0<w.heap.size:=by
 obtain ⟨_,t,fr,h⟩:=h;exact (Array.getElem?_eq_some_iff.1 h).1
theorem zbv.block {p:Nat} {w w' : World} (h:zbv p w) (e:w'.heap[0]?=w.heap[0]?):zbv p w':=by
 obtain ⟨h0,t,fr,h⟩:=h;exact ⟨h0,t,fr,e.trans h⟩
theorem zbv.below {p:Nat} {w w' : World} (h:zbv p w) (hB:Below w.heap.size w w'):zbv p w':=h.block (hB.block 0 h.lt)
theorem zbv.sole {p:Nat} {w w' : World} (h:zbv p w) (hS:Sole p w w'):zbv p w':=h.block (hS.block 0 h.lt (Ne.symm h.1))
def zd2 (p g cap:Nat) (ts:List Tok) (d:Int) (f:Nat) (F:PS->Ans Tree):Prop :=
 ∀ i full w,PP w p g cap ts i d full->zbv p w->Calls Tryz.prog f #[.pointer (some ⟨p,0,none⟩)] w (zai p g cap ts d (treeIs w.heap.size) (F (PSof ts i full)) w)
structure KidAt (w:World) (b:Nat) (k:Int) (n:List UInt8) (m:Int) (a:Nat) (sl:Value):Prop where
 c0:w.cell? ⟨b,0,none⟩=some (.int .i64 k)
 c1:w.cell? ⟨b,1,none⟩=some (.string ⟨n.toArray⟩)
 c2:w.cell? ⟨b,2,none⟩=some (.int .i64 m)
 c3:w.cell? ⟨b,3,none⟩=some (.int .i64 a)
 c4:w.cell? ⟨b,4,none⟩=some sl
theorem KidAt.block {w w' : World} {b:Nat} {k m:Int} {n:List UInt8} {a:Nat} {sl:Value} (h:KidAt w b k n m a sl) (e:w'.heap[b]?=w.heap[b]?):KidAt w' b k n m a sl :=
 ⟨(zac e 0).1.trans h.c0,(zac e 1).1.trans h.c1,(zac e 2).1.trans h.c2,(zac e 3).1.trans h.c3,(zac e 4).1.trans h.c4⟩
theorem KidAt.made (w:World) (k:Int) (n:List UInt8) (m:Int) (a:Nat) (sl:Value) (y:TypeId):KidAt (w.alloc (.cells #[.int .i64 k,.string ⟨n.toArray⟩,.int .i64 m,.int .i64 a,sl] y)) w.heap.size k n m a sl:=by
 constructor <;> simp
theorem field_any (p g cap:Nat) (ts:List Tok) (hE:Ends ts) (d:Int) (B:PS->Ans Tree) (hD:zd2 p g cap ts d 146 (za1 B)):zd2 p g cap ts d 145 (za8 B):=by
 intro i full w h hba;have HP:Hid (p<w.heap.size∧g<w.heap.size):=⟨h.plt,h.glt⟩;have HE:Hid (Ends ts):=hE;have HN:Hid (∀ w1,Below w.heap.size w w1->Calls Tryz.prog 146 #[.pointer (some ⟨p,0,none⟩)] w1 (zai p g cap ts d (treeIs w1.heap.size) (za1 B (PSof ts i full)) w1)):=fun w1 hB=>hD i full w1 (h.below hB) (hba.below hB);obtain ⟨R,hR⟩:∃ R,za8 B (PSof ts i full)=R:=⟨_,rfl⟩;rw [hR];obtain ⟨rn,hrn⟩:∃ rn,za1 B (PSof ts i full)=rn:=⟨_,rfl⟩;have HR:Hid (R=rn.bind fun t s=>(s.want [59]).bind fun _ s=>.ok t s):=by
  show _=_;rw [<- hR,<- hrn];rfl
 rw [hrn] at HN;clear h hE hrn hR hD hba;go_enter Tryz.func145,Tryz.ntmps145
 go_wp2_with fail
 have HB:Hid (Below w.heap.size w (w.alloc (.cells #[.int .i64 0,.string ⟨#[]⟩,.int .i64 0,.int .i64 0,.slice none 0 0] 29))):=(Below.refl _ _).alloc (Nat.le_refl _) _;refine (HN.out _ HB.out).mono ?_;cases rn with
 | no why at_ =>
  rintro e w2 ⟨rfl,hS⟩;have HS:Hid (Sole p w w2):=(Sole.of_below HB.out).trans hS;clear hS;go_wp2;refine ⟨rfl,?_⟩;rw [HR.out];exact ⟨rfl,HS.out⟩
 | ok t st =>
  rintro e w2 ⟨v,i,full,rfl,hT,rfl,hP,hS⟩;obtain ⟨k9,n9,m9,a9,ks9⟩:=t;obtain ⟨sl,rfl,hL⟩:=treeAt_node.1 hT;obtain ⟨o9,len9,cap9,rfl⟩:=hL.shape;have hT' : treeIs (w.heap.size+1) (.node k9 n9 m9 a9 ks9) w2 (kidV k9 n9 m9 a9 (.slice o9 len9 cap9)):=by
   have:=hT;rw [show (w.alloc (.cells #[.int .i64 0,.string ⟨#[]⟩,.int .i64 0,.int .i64 0,.slice none 0 0] 29)).heap.size=w.heap.size+1 by simp] at this;exact this
  have hlt:w.heap.size<w2.heap.size:=by have:=hS.size;simp at this;omega
  obtain ⟨w3,hw3⟩:∃ w3,w2.alloc (.cells #[.int .i64 k9,.string ⟨n9.toArray⟩,.int .i64 m9,.int .i64 a9,.slice o9 len9 cap9] 29)=w3:=⟨_,rfl⟩;have hB3:Below w2.heap.size w2 w3:=by rw [<- hw3];exact (Below.refl _ _).alloc (Nat.le_refl _) _
  have hs3:w3.heap.size=w2.heap.size+1:=by rw [<- hw3];simp
  have Ad:Hid (PP w3 p g cap ts i d full):=hP.below hB3;have Aa:Hid (Sole p w w3):=((Sole.of_below HB.out).trans hS).trans (Sole.of_below hB3);have Ae:Hid (Tre w3 w.heap.size):=((Tre.made w 29).block (hS.block w.heap.size (by simp) (Nat.ne_of_gt HP.out.1))).block (hB3.block w.heap.size hlt);have Af:Hid (KidAt w3 w2.heap.size k9 n9 m9 a9 (.slice o9 len9 cap9)):=by show KidAt _ _ _ _ _ _ _;rw [<- hw3];exact KidAt.made _ _ _ _ _ _ _
  have Ag:Hid (treeIs (w.heap.size+1) (.node k9 n9 m9 a9 ks9) w3 (kidV k9 n9 m9 a9 (.slice o9 len9 cap9))):=hT'.below (Nat.le_refl _) hB3 (Nat.le_refl _);have Ah:Hid (w.heap.size<w2.heap.size∧w3.heap.size=w2.heap.size+1):=⟨hlt,hs3⟩;have Ab:Hid (Calls Tryz.prog 41 #[.pointer (some ⟨p,0,none⟩),.slice (some ⟨w3.heap.size,0,none⟩) 1 1] (w3.alloc (.cells #[.string ⟨#[59]⟩] 9)) (zai p g cap ts d zf3 ((PSof ts i full).want [59]) w3)):=zbr p g cap ts HE.out i d full [59] (by simp) w3 Ad.out;obtain ⟨ru,hru⟩:∃ r,(PSof ts i full).want [59]=r:=⟨_,rfl⟩;have Ac:Hid (R=ru.bind fun _ s=>.ok (.node k9 n9 m9 a9 ks9) s):=by
   show _=_;rw [HR.out,<- hru];rfl
  rw [hru] at Ab;clear hP hS hB3 hlt hs3 hru hT hT' hL;unfold kidV;go_wp2_with fail
  refine Ab.out.mono ?_;cases ru with
  | no why at_ =>
   rintro e w4 ⟨rfl,hS⟩;have HS:Hid (Sole p w w4):=Aa.out.trans hS;clear hS;go_wp2;refine ⟨rfl,?_⟩;rw [Ac.out];exact ⟨rfl,HS.out⟩
  | ok u st =>
   rintro e w4 ⟨v,i,full,rfl,rfl,rfl,hP,hS⟩;have hp:=HP.out.1;have hl:=Ah.out;have Ai:Hid (PP w4 p g cap ts i d full):=hP;have Aj:Hid (Sole p w w4):=Aa.out.trans hS;obtain ⟨z0,z1,z2,z3,z4,y0,y1,y2,y3,y4⟩:=Ae.out.block (hS.block _ (by omega) (by omega));obtain ⟨t0,t1,t2,t3,t4⟩:=Af.out.block (hS.block _ (by omega) (by omega));have Ak:Hid (treeIs (w.heap.size+1) (.node k9 n9 m9 a9 ks9) w4 (kidV k9 n9 m9 a9 (.slice o9 len9 cap9))):=Ag.out.sole (Nat.le_refl _) (by omega) hS;clear hP hS hp hl;go_wp2;have q:=res5 w4 w.heap.size (.int .i64 k9) (.string ⟨n9.toArray⟩) (.int .i64 m9) (.int .i64 a9) (.slice o9 len9 cap9) z0 z1 z2 z3 z4;have hBz:=zan w4 w.heap.size w.heap.size (.int .i64 k9) (.string ⟨n9.toArray⟩) (.int .i64 m9) (.int .i64 a9) (.slice o9 len9 cap9) (Nat.le_refl _);have hbt:=zbf w4 w.heap.size (.int .i64 k9) (.string ⟨n9.toArray⟩) (.int .i64 m9) (.int .i64 a9) (.slice o9 len9 cap9);generalize ((((w4.setCell ⟨w.heap.size,0,none⟩ (.int .i64 k9)).setCell ⟨w.heap.size,1,none⟩ (.string ⟨n9.toArray⟩)).setCell ⟨w.heap.size,2,none⟩ (.int .i64 m9)).setCell ⟨w.heap.size,3,none⟩ (.int .i64 a9)).setCell ⟨w.heap.size,4,none⟩ (.slice o9 len9 cap9)=wz at q hBz hbt ⊢;obtain ⟨q0,q1,q2,q3,q4⟩:=q;refine bodyPost_ret (v:=.agg #[.int .i64 k9,.string ⟨n9.toArray⟩,.int .i64 m9,.int .i64 a9,.slice o9 len9 cap9]) (by simp [results,Tryz.results145,go_sem,q0,q1,q2,q3,q4]) rfl ?_;rw [Ac.out];exact ⟨_,i,full,rfl,Ak.out.but (Nat.le_succ _) (Nat.lt_succ_self _) (fun b _ hb=>hbt b hb),rfl,Ai.out.of_blocks (hBz.block p HP.out.1) (hBz.block g HP.out.2),Aj.out.below_after hBz⟩
theorem zkc (p g cap:Nat) (ts:List Tok) (d:Int) (w:World) (hp:p<w.heap.size) (hg:g<w.heap.size) (r:Ans Tree)
 (H0:Hid (∀ w1,Below w.heap.size w w1->Calls Tryz.prog 75 #[.pointer (some ⟨p,0,none⟩),.string ⟨#[118,111,105,100]⟩] w1 fun e w'=>e=.returned (.bool true)∧Below w1.heap.size w1 w'))
 (HT:Hid (∀ w1,Below w.heap.size w w1->Calls Tryz.prog 112 #[.pointer (some ⟨p,0,none⟩),.int .i64 13] w1 (zai p g cap ts d (treeIs w1.heap.size) r w1))) :
 Calls Tryz.prog 146 #[.pointer (some ⟨p,0,none⟩)] w (zai p g cap ts d (treeIs w.heap.size) r w):=by
 have HP:=hid2 hp hg;clear hp hg;go_enter Tryz.func146,Tryz.ntmps146
 go_wp2_with fail
 refine (H0.out _ ((Below.refl _ _).alloc (Nat.le_refl _) _)).mono ?_;rintro e w1 ⟨rfl,hB⟩;have Aa:=hid (((Below.refl _ _).alloc (Nat.le_refl _) _).trans (hB.mono (by simp)));have HZ:Hid (Tre w1 w.heap.size∧w.heap.size<w1.heap.size):=⟨(Tre.made w 29).block (hB.block _ (by simp)),by have:=hB.size;simp at this;omega⟩;clear hB;go_wp2_with fail
 refine (HT.out _ Aa.out).mono ?_;cases r with
 | no why at_ =>
  rintro e w9 ⟨rfl,hS⟩;have Ab:=hid ((Sole.of_below Aa.out).trans hS);clear hS;go_wp2;exact ⟨rfl,rfl,Ab.out⟩
 | ok t st =>
  rintro e w9 ⟨v,i,full,rfl,hT,rfl,hP,hS⟩;obtain ⟨k9,n9,m9,a9,ks9⟩:=t;obtain ⟨sl,rfl,hL⟩:=treeAt_node.1 hT;obtain ⟨o9,len9,cap9,rfl⟩:=hL.shape;have Ac:=hid hT;have Ad:=hid hP;have Ab:=hid ((Sole.of_below Aa.out).trans hS);obtain ⟨z0,z1,z2,z3,z4,y0,y1,y2,y3,y4⟩:=HZ.out.1.block (hS.block w.heap.size HZ.out.2 (Nat.ne_of_gt HP.out.1));clear hP hS hT hL;unfold kidV at Ac ⊢;go_wp2;have q:=res5 w9 w.heap.size (.int .i64 k9) (.string ⟨n9.toArray⟩) (.int .i64 m9) (.int .i64 a9) (.slice o9 len9 cap9) z0 z1 z2 z3 z4;have hBz:=zan w9 w.heap.size w.heap.size (.int .i64 k9) (.string ⟨n9.toArray⟩) (.int .i64 m9) (.int .i64 a9) (.slice o9 len9 cap9) (Nat.le_refl _);have hbt:=zbf w9 w.heap.size (.int .i64 k9) (.string ⟨n9.toArray⟩) (.int .i64 m9) (.int .i64 a9) (.slice o9 len9 cap9);generalize ((((w9.setCell ⟨w.heap.size,0,none⟩ (.int .i64 k9)).setCell ⟨w.heap.size,1,none⟩ (.string ⟨n9.toArray⟩)).setCell ⟨w.heap.size,2,none⟩ (.int .i64 m9)).setCell ⟨w.heap.size,3,none⟩ (.int .i64 a9)).setCell ⟨w.heap.size,4,none⟩ (.slice o9 len9 cap9)=wz at q hBz hbt ⊢;obtain ⟨q0,q1,q2,q3,q4⟩:=q;exact bodyPost_ret (v:=.agg #[.int .i64 k9,.string ⟨n9.toArray⟩,.int .i64 m9,.int .i64 a9,.slice o9 len9 cap9]) (by simp [results,Tryz.results146,go_sem,q0,q1,q2,q3,q4]) rfl
   ⟨_,i,full,rfl,Ac.out.but (Nat.le_of_lt HZ.out.2) HZ.out.2 (fun b _ hb=>hbt b hb),rfl,Ad.out.of_blocks (hBz.block p HP.out.1) (hBz.block g HP.out.2),Ab.out.below_after hBz⟩
theorem zkd (p g cap:Nat) (ts:List Tok) (d:Int) (w:World) (hp:p<w.heap.size) (hg:g<w.heap.size) (r:Ans Tree)
 (H0:Hid (∀ w1,Below w.heap.size w w1->Calls Tryz.prog 75 #[.pointer (some ⟨p,0,none⟩),.string ⟨#[118,111,105,100]⟩] w1 fun e w'=>e=.returned (.bool false)∧Below w1.heap.size w1 w'))
 (HT:Hid (∀ w1,Below w.heap.size w w1->Calls Tryz.prog 70 #[.pointer (some ⟨p,0,none⟩)] w1 (zai p g cap ts d (treeIs w1.heap.size) r w1))) :
 Calls Tryz.prog 146 #[.pointer (some ⟨p,0,none⟩)] w (zai p g cap ts d (treeIs w.heap.size) r w):=by
 have HP:=hid2 hp hg;clear hp hg;go_enter Tryz.func146,Tryz.ntmps146
 go_wp2_with fail
 refine (H0.out _ ((Below.refl _ _).alloc (Nat.le_refl _) _)).mono ?_;rintro e w1 ⟨rfl,hB⟩;have Aa:=hid (((Below.refl _ _).alloc (Nat.le_refl _) _).trans (hB.mono (by simp)));have HZ:Hid (Tre w1 w.heap.size∧w.heap.size<w1.heap.size):=⟨(Tre.made w 29).block (hB.block _ (by simp)),by have:=hB.size;simp at this;omega⟩;clear hB;go_wp2_with fail
 refine (HT.out _ Aa.out).mono ?_;cases r with
 | no why at_ =>
  rintro e w9 ⟨rfl,hS⟩;have Ab:=hid ((Sole.of_below Aa.out).trans hS);clear hS;go_wp2;exact ⟨rfl,rfl,Ab.out⟩
 | ok t st =>
  rintro e w9 ⟨v,i,full,rfl,hT,rfl,hP,hS⟩;obtain ⟨k9,n9,m9,a9,ks9⟩:=t;obtain ⟨sl,rfl,hL⟩:=treeAt_node.1 hT;obtain ⟨o9,len9,cap9,rfl⟩:=hL.shape;have Ac:=hid hT;have Ad:=hid hP;have Ab:=hid ((Sole.of_below Aa.out).trans hS);obtain ⟨z0,z1,z2,z3,z4,y0,y1,y2,y3,y4⟩:=HZ.out.1.block (hS.block w.heap.size HZ.out.2 (Nat.ne_of_gt HP.out.1));clear hP hS hT hL;unfold kidV at Ac ⊢;go_wp2;have q:=res5 w9 w.heap.size (.int .i64 k9) (.string ⟨n9.toArray⟩) (.int .i64 m9) (.int .i64 a9) (.slice o9 len9 cap9) z0 z1 z2 z3 z4;have hBz:=zan w9 w.heap.size w.heap.size (.int .i64 k9) (.string ⟨n9.toArray⟩) (.int .i64 m9) (.int .i64 a9) (.slice o9 len9 cap9) (Nat.le_refl _);have hbt:=zbf w9 w.heap.size (.int .i64 k9) (.string ⟨n9.toArray⟩) (.int .i64 m9) (.int .i64 a9) (.slice o9 len9 cap9);generalize ((((w9.setCell ⟨w.heap.size,0,none⟩ (.int .i64 k9)).setCell ⟨w.heap.size,1,none⟩ (.string ⟨n9.toArray⟩)).setCell ⟨w.heap.size,2,none⟩ (.int .i64 m9)).setCell ⟨w.heap.size,3,none⟩ (.int .i64 a9)).setCell ⟨w.heap.size,4,none⟩ (.slice o9 len9 cap9)=wz at q hBz hbt ⊢;obtain ⟨q0,q1,q2,q3,q4⟩:=q;exact bodyPost_ret (v:=.agg #[.int .i64 k9,.string ⟨n9.toArray⟩,.int .i64 m9,.int .i64 a9,.slice o9 len9 cap9]) (by simp [results,Tryz.results146,go_sem,q0,q1,q2,q3,q4]) rfl
   ⟨_,i,full,rfl,Ac.out.but (Nat.le_of_lt HZ.out.2) HZ.out.2 (fun b _ hb=>hbt b hb),rfl,Ad.out.of_blocks (hBz.block p HP.out.1) (hBz.block g HP.out.2),Ab.out.below_after hBz⟩
theorem result_void (p g cap:Nat) (ts:List Tok) (d:Int) (w:World) (hp:p<w.heap.size) (hg:g<w.heap.size) (r:Ans Tree)
 (H0:Hid (∀ w1,Below w.heap.size w w1->Calls Tryz.prog 75 #[.pointer (some ⟨p,0,none⟩),.string ⟨#[118,111,105,100]⟩] w1 fun e w'=>e=.returned (.bool true)∧Below w1.heap.size w1 w'))
 (HT:Hid (∀ w1,Below w.heap.size w w1->Calls Tryz.prog 112 #[.pointer (some ⟨p,0,none⟩),.int .i64 13] w1 (zai p g cap ts d (treeIs w1.heap.size) r w1))) :
 Calls Tryz.prog 150 #[.pointer (some ⟨p,0,none⟩)] w (zai p g cap ts d (treeIs w.heap.size) r w):=by
 have HP:=hid2 hp hg;clear hp hg;go_enter Tryz.func150,Tryz.ntmps150
 go_wp2_with fail
 refine (H0.out _ ((Below.refl _ _).alloc (Nat.le_refl _) _)).mono ?_;rintro e w1 ⟨rfl,hB⟩;have Aa:=hid (((Below.refl _ _).alloc (Nat.le_refl _) _).trans (hB.mono (by simp)));have HZ:Hid (Tre w1 w.heap.size∧w.heap.size<w1.heap.size):=⟨(Tre.made w 29).block (hB.block _ (by simp)),by have:=hB.size;simp at this;omega⟩;clear hB;go_wp2_with fail
 refine (HT.out _ Aa.out).mono ?_;cases r with
 | no why at_ =>
  rintro e w9 ⟨rfl,hS⟩;have Ab:=hid ((Sole.of_below Aa.out).trans hS);clear hS;go_wp2;exact ⟨rfl,rfl,Ab.out⟩
 | ok t st =>
  rintro e w9 ⟨v,i,full,rfl,hT,rfl,hP,hS⟩;obtain ⟨k9,n9,m9,a9,ks9⟩:=t;obtain ⟨sl,rfl,hL⟩:=treeAt_node.1 hT;obtain ⟨o9,len9,cap9,rfl⟩:=hL.shape;have Ac:=hid hT;have Ad:=hid hP;have Ab:=hid ((Sole.of_below Aa.out).trans hS);obtain ⟨z0,z1,z2,z3,z4,y0,y1,y2,y3,y4⟩:=HZ.out.1.block (hS.block w.heap.size HZ.out.2 (Nat.ne_of_gt HP.out.1));clear hP hS hT hL;unfold kidV at Ac ⊢;go_wp2;have q:=res5 w9 w.heap.size (.int .i64 k9) (.string ⟨n9.toArray⟩) (.int .i64 m9) (.int .i64 a9) (.slice o9 len9 cap9) z0 z1 z2 z3 z4;have hBz:=zan w9 w.heap.size w.heap.size (.int .i64 k9) (.string ⟨n9.toArray⟩) (.int .i64 m9) (.int .i64 a9) (.slice o9 len9 cap9) (Nat.le_refl _);have hbt:=zbf w9 w.heap.size (.int .i64 k9) (.string ⟨n9.toArray⟩) (.int .i64 m9) (.int .i64 a9) (.slice o9 len9 cap9);generalize ((((w9.setCell ⟨w.heap.size,0,none⟩ (.int .i64 k9)).setCell ⟨w.heap.size,1,none⟩ (.string ⟨n9.toArray⟩)).setCell ⟨w.heap.size,2,none⟩ (.int .i64 m9)).setCell ⟨w.heap.size,3,none⟩ (.int .i64 a9)).setCell ⟨w.heap.size,4,none⟩ (.slice o9 len9 cap9)=wz at q hBz hbt ⊢;obtain ⟨q0,q1,q2,q3,q4⟩:=q;exact bodyPost_ret (v:=.agg #[.int .i64 k9,.string ⟨n9.toArray⟩,.int .i64 m9,.int .i64 a9,.slice o9 len9 cap9]) (by simp [results,Tryz.results150,go_sem,q0,q1,q2,q3,q4]) rfl
   ⟨_,i,full,rfl,Ac.out.but (Nat.le_of_lt HZ.out.2) HZ.out.2 (fun b _ hb=>hbt b hb),rfl,Ad.out.of_blocks (hBz.block p HP.out.1) (hBz.block g HP.out.2),Ab.out.below_after hBz⟩
theorem result_else (p g cap:Nat) (ts:List Tok) (d:Int) (w:World) (hp:p<w.heap.size) (hg:g<w.heap.size) (r:Ans Tree)
 (H0:Hid (∀ w1,Below w.heap.size w w1->Calls Tryz.prog 75 #[.pointer (some ⟨p,0,none⟩),.string ⟨#[118,111,105,100]⟩] w1 fun e w'=>e=.returned (.bool false)∧Below w1.heap.size w1 w'))
 (HT:Hid (∀ w1,Below w.heap.size w w1->Calls Tryz.prog 142 #[.pointer (some ⟨p,0,none⟩)] w1 (zai p g cap ts d (treeIs w1.heap.size) r w1))) :
 Calls Tryz.prog 150 #[.pointer (some ⟨p,0,none⟩)] w (zai p g cap ts d (treeIs w.heap.size) r w):=by
 have HP:=hid2 hp hg;clear hp hg;go_enter Tryz.func150,Tryz.ntmps150
 go_wp2_with fail
 refine (H0.out _ ((Below.refl _ _).alloc (Nat.le_refl _) _)).mono ?_;rintro e w1 ⟨rfl,hB⟩;have Aa:=hid (((Below.refl _ _).alloc (Nat.le_refl _) _).trans (hB.mono (by simp)));have HZ:Hid (Tre w1 w.heap.size∧w.heap.size<w1.heap.size):=⟨(Tre.made w 29).block (hB.block _ (by simp)),by have:=hB.size;simp at this;omega⟩;clear hB;go_wp2_with fail
 refine (HT.out _ Aa.out).mono ?_;cases r with
 | no why at_ =>
  rintro e w9 ⟨rfl,hS⟩;have Ab:=hid ((Sole.of_below Aa.out).trans hS);clear hS;go_wp2;exact ⟨rfl,rfl,Ab.out⟩
 | ok t st =>
  rintro e w9 ⟨v,i,full,rfl,hT,rfl,hP,hS⟩;obtain ⟨k9,n9,m9,a9,ks9⟩:=t;obtain ⟨sl,rfl,hL⟩:=treeAt_node.1 hT;obtain ⟨o9,len9,cap9,rfl⟩:=hL.shape;have Ac:=hid hT;have Ad:=hid hP;have Ab:=hid ((Sole.of_below Aa.out).trans hS);obtain ⟨z0,z1,z2,z3,z4,y0,y1,y2,y3,y4⟩:=HZ.out.1.block (hS.block w.heap.size HZ.out.2 (Nat.ne_of_gt HP.out.1));clear hP hS hT hL;unfold kidV at Ac ⊢;go_wp2;have q:=res5 w9 w.heap.size (.int .i64 k9) (.string ⟨n9.toArray⟩) (.int .i64 m9) (.int .i64 a9) (.slice o9 len9 cap9) z0 z1 z2 z3 z4;have hBz:=zan w9 w.heap.size w.heap.size (.int .i64 k9) (.string ⟨n9.toArray⟩) (.int .i64 m9) (.int .i64 a9) (.slice o9 len9 cap9) (Nat.le_refl _);have hbt:=zbf w9 w.heap.size (.int .i64 k9) (.string ⟨n9.toArray⟩) (.int .i64 m9) (.int .i64 a9) (.slice o9 len9 cap9);generalize ((((w9.setCell ⟨w.heap.size,0,none⟩ (.int .i64 k9)).setCell ⟨w.heap.size,1,none⟩ (.string ⟨n9.toArray⟩)).setCell ⟨w.heap.size,2,none⟩ (.int .i64 m9)).setCell ⟨w.heap.size,3,none⟩ (.int .i64 a9)).setCell ⟨w.heap.size,4,none⟩ (.slice o9 len9 cap9)=wz at q hBz hbt ⊢;obtain ⟨q0,q1,q2,q3,q4⟩:=q;exact bodyPost_ret (v:=.agg #[.int .i64 k9,.string ⟨n9.toArray⟩,.int .i64 m9,.int .i64 a9,.slice o9 len9 cap9]) (by simp [results,Tryz.results150,go_sem,q0,q1,q2,q3,q4]) rfl
   ⟨_,i,full,rfl,Ac.out.but (Nat.le_of_lt HZ.out.2) HZ.out.2 (fun b _ hb=>hbt b hb),rfl,Ad.out.of_blocks (hBz.block p HP.out.1) (hBz.block g HP.out.2),Ab.out.below_after hBz⟩
theorem zlr (p g cap:Nat) (ts:List Tok) (hE:Ends ts) (d:Int) (B:PS->Ans Tree) (hS:zd2 p g cap ts d 70 (zb6 B)):zd2 p g cap ts d 146 (za1 B):=by
 intro i full w h hba;have Aa:∀ w1,Below w.heap.size w w1->Calls Tryz.prog 75 #[.pointer (some ⟨p,0,none⟩),.string ⟨#[118,111,105,100]⟩] w1 fun e w'=>e=.returned (.bool ((PSof ts i full).sees zdc))∧Below w1.heap.size w1 w':=fun w1 hB=>by
  have hx:=ze5 p g cap ts i d full ⟨#[118,111,105,100]⟩ w1 (h.below hB);rw [ByteArray.toList_mk] at hx;exact hx
 show Calls _ _ _ _ (zai p g cap ts d _ (if (PSof ts i full).sees zdc then zcw 13 (PSof ts i full) else zb6 B (PSof ts i full)) w);cases hse:(PSof ts i full).sees zdc
 · rw [hse] at Aa;rw [if_neg (by simp)];exact zkd p g cap ts d w h.plt h.glt _ Aa (fun w1 hB=>hS i full w1 (h.below hB) (hba.below hB))
 · have hi:i+1<ts.length:=by
    refine hE.text h.il ?_;unfold PS.sees at hse;rw [zb7 ts i full h.il] at hse;rw [show (ts[i]'h.il).text=zdc by simpa using hse];simp [zdc]
   rw [hse] at Aa;rw [if_pos rfl];exact zkc p g cap ts d w h.plt h.glt _ Aa (fun w1 hB=>zgq p g cap ts i d 13 full w1 (h.below hB) hi)
theorem result_any (p g cap:Nat) (ts:List Tok) (hE:Ends ts) (d:Int) (hS:zd2 p g cap ts d 142 zd7):zd2 p g cap ts d 150 (zge):=by
 intro i full w h hba;have Aa:∀ w1,Below w.heap.size w w1->Calls Tryz.prog 75 #[.pointer (some ⟨p,0,none⟩),.string ⟨#[118,111,105,100]⟩] w1 fun e w'=>e=.returned (.bool ((PSof ts i full).sees zdc))∧Below w1.heap.size w1 w':=fun w1 hB=>by
  have hx:=ze5 p g cap ts i d full ⟨#[118,111,105,100]⟩ w1 (h.below hB);rw [ByteArray.toList_mk] at hx;exact hx
 show Calls _ _ _ _ (zai p g cap ts d _ (if (PSof ts i full).sees zdc then zcw 13 (PSof ts i full) else zd7 (PSof ts i full)) w);cases hse:(PSof ts i full).sees zdc
 · rw [hse] at Aa;rw [if_neg (by simp)];exact result_else p g cap ts d w h.plt h.glt _ Aa (fun w1 hB=>hS i full w1 (h.below hB) (hba.below hB))
 · have hi:i+1<ts.length:=by
    refine hE.text h.il ?_;unfold PS.sees at hse;rw [zb7 ts i full h.il] at hse;rw [show (ts[i]'h.il).text=zdc by simpa using hse];simp [zdc]
   rw [hse] at Aa;rw [if_pos rfl];exact result_void p g cap ts d w h.plt h.glt _ Aa (fun w1 hB=>zgq p g cap ts i d 13 full w1 (h.below hB) hi)
theorem written_enum (p g cap:Nat) (ts:List Tok) (d k m:Int) (t:List UInt8) (a:Nat) (w:World) (hp:p<w.heap.size) (hg:g<w.heap.size) (r:Ans Tree) (h1:(t==[101,110,117,109])=true)
 (H0:Hid (∀ w1,Below w.heap.size w w1->Calls Tryz.prog 38 #[.pointer (some ⟨p,0,none⟩)] w1 fun e w'=>e=.returned (.agg #[.int .i64 k,.string ⟨t.toArray⟩,.int .i64 m,.int .i64 a])∧Below w1.heap.size w1 w'))
 (HT:Hid (∀ w1,Below w.heap.size w w1->Calls Tryz.prog 71 #[.pointer (some ⟨p,0,none⟩),.bool false] w1 (zai p g cap ts d (treeIs w1.heap.size) r w1))) :
 Calls Tryz.prog 113 #[.pointer (some ⟨p,0,none⟩)] w (zai p g cap ts d (treeIs w.heap.size) r w):=by
 have HP:=hid2 hp hg;clear hp hg;have q0:=fld1 k m a ⟨t.toArray⟩;go_enter Tryz.func113,Tryz.ntmps113
 go_wp2_with fail
 refine (H0.out _ ((Below.refl _ _).alloc (Nat.le_refl _) _)).mono ?_;rintro e w1 ⟨rfl,hB⟩;have Aa:=hid (((Below.refl _ _).alloc (Nat.le_refl _) _).trans (hB.mono (by simp)));have HZ:Hid (Tre w1 w.heap.size∧w.heap.size<w1.heap.size):=⟨(Tre.made w 29).block (hB.block _ (by simp)),by have:=hB.size;simp at this;omega⟩;clear hB;go_wp2_with fail
 refine (HT.out _ Aa.out).mono ?_;cases r with
 | no why at_ =>
  rintro e w9 ⟨rfl,hS⟩;have Ab:=hid ((Sole.of_below Aa.out).trans hS);clear hS;go_wp2;exact ⟨rfl,rfl,Ab.out⟩
 | ok t st =>
  rintro e w9 ⟨v,i,full,rfl,hT,rfl,hP,hS⟩;obtain ⟨k9,n9,m9,a9,ks9⟩:=t;obtain ⟨sl,rfl,hL⟩:=treeAt_node.1 hT;obtain ⟨o9,len9,cap9,rfl⟩:=hL.shape;have Ac:=hid hT;have Ad:=hid hP;have Ab:=hid ((Sole.of_below Aa.out).trans hS);obtain ⟨z0,z1,z2,z3,z4,y0,y1,y2,y3,y4⟩:=HZ.out.1.block (hS.block w.heap.size HZ.out.2 (Nat.ne_of_gt HP.out.1));clear hP hS hT hL;unfold kidV at Ac ⊢;go_wp2;have q:=res5 w9 w.heap.size (.int .i64 k9) (.string ⟨n9.toArray⟩) (.int .i64 m9) (.int .i64 a9) (.slice o9 len9 cap9) z0 z1 z2 z3 z4;have hBz:=zan w9 w.heap.size w.heap.size (.int .i64 k9) (.string ⟨n9.toArray⟩) (.int .i64 m9) (.int .i64 a9) (.slice o9 len9 cap9) (Nat.le_refl _);have hbt:=zbf w9 w.heap.size (.int .i64 k9) (.string ⟨n9.toArray⟩) (.int .i64 m9) (.int .i64 a9) (.slice o9 len9 cap9);generalize ((((w9.setCell ⟨w.heap.size,0,none⟩ (.int .i64 k9)).setCell ⟨w.heap.size,1,none⟩ (.string ⟨n9.toArray⟩)).setCell ⟨w.heap.size,2,none⟩ (.int .i64 m9)).setCell ⟨w.heap.size,3,none⟩ (.int .i64 a9)).setCell ⟨w.heap.size,4,none⟩ (.slice o9 len9 cap9)=wz at q hBz hbt ⊢;obtain ⟨q0,q1,q2,q3,q4⟩:=q;exact bodyPost_ret (v:=.agg #[.int .i64 k9,.string ⟨n9.toArray⟩,.int .i64 m9,.int .i64 a9,.slice o9 len9 cap9]) (by simp [results,Tryz.results113,go_sem,q0,q1,q2,q3,q4]) rfl
   ⟨_,i,full,rfl,Ac.out.but (Nat.le_of_lt HZ.out.2) HZ.out.2 (fun b _ hb=>hbt b hb),rfl,Ad.out.of_blocks (hBz.block p HP.out.1) (hBz.block g HP.out.2),Ab.out.below_after hBz⟩
theorem zl8 (p g cap:Nat) (ts:List Tok) (d k m:Int) (t:List UInt8) (a:Nat) (w:World) (hp:p<w.heap.size) (hg:g<w.heap.size) (r:Ans Tree) (h1:(t==[101,110,117,109])=false) (h2:(t==[115,116,114,117,99,116])=true)
 (H0:Hid (∀ w1,Below w.heap.size w w1->Calls Tryz.prog 38 #[.pointer (some ⟨p,0,none⟩)] w1 fun e w'=>e=.returned (.agg #[.int .i64 k,.string ⟨t.toArray⟩,.int .i64 m,.int .i64 a])∧Below w1.heap.size w1 w'))
 (HT:Hid (∀ w1,Below w.heap.size w w1->Calls Tryz.prog 71 #[.pointer (some ⟨p,0,none⟩),.bool false] w1 (zai p g cap ts d (treeIs w1.heap.size) r w1))) :
 Calls Tryz.prog 113 #[.pointer (some ⟨p,0,none⟩)] w (zai p g cap ts d (treeIs w.heap.size) r w):=by
 have HP:=hid2 hp hg;clear hp hg;have q0:=fld1 k m a ⟨t.toArray⟩;go_enter Tryz.func113,Tryz.ntmps113
 go_wp2_with fail
 refine (H0.out _ ((Below.refl _ _).alloc (Nat.le_refl _) _)).mono ?_;rintro e w1 ⟨rfl,hB⟩;have Aa:=hid (((Below.refl _ _).alloc (Nat.le_refl _) _).trans (hB.mono (by simp)));have HZ:Hid (Tre w1 w.heap.size∧w.heap.size<w1.heap.size):=⟨(Tre.made w 29).block (hB.block _ (by simp)),by have:=hB.size;simp at this;omega⟩;clear hB;go_wp2_with fail
 refine (HT.out _ Aa.out).mono ?_;cases r with
 | no why at_ =>
  rintro e w9 ⟨rfl,hS⟩;have Ab:=hid ((Sole.of_below Aa.out).trans hS);clear hS;go_wp2;exact ⟨rfl,rfl,Ab.out⟩
 | ok t st =>
  rintro e w9 ⟨v,i,full,rfl,hT,rfl,hP,hS⟩;obtain ⟨k9,n9,m9,a9,ks9⟩:=t;obtain ⟨sl,rfl,hL⟩:=treeAt_node.1 hT;obtain ⟨o9,len9,cap9,rfl⟩:=hL.shape;have Ac:=hid hT;have Ad:=hid hP;have Ab:=hid ((Sole.of_below Aa.out).trans hS);obtain ⟨z0,z1,z2,z3,z4,y0,y1,y2,y3,y4⟩:=HZ.out.1.block (hS.block w.heap.size HZ.out.2 (Nat.ne_of_gt HP.out.1));clear hP hS hT hL;unfold kidV at Ac ⊢;go_wp2;have q:=res5 w9 w.heap.size (.int .i64 k9) (.string ⟨n9.toArray⟩) (.int .i64 m9) (.int .i64 a9) (.slice o9 len9 cap9) z0 z1 z2 z3 z4;have hBz:=zan w9 w.heap.size w.heap.size (.int .i64 k9) (.string ⟨n9.toArray⟩) (.int .i64 m9) (.int .i64 a9) (.slice o9 len9 cap9) (Nat.le_refl _);have hbt:=zbf w9 w.heap.size (.int .i64 k9) (.string ⟨n9.toArray⟩) (.int .i64 m9) (.int .i64 a9) (.slice o9 len9 cap9);generalize ((((w9.setCell ⟨w.heap.size,0,none⟩ (.int .i64 k9)).setCell ⟨w.heap.size,1,none⟩ (.string ⟨n9.toArray⟩)).setCell ⟨w.heap.size,2,none⟩ (.int .i64 m9)).setCell ⟨w.heap.size,3,none⟩ (.int .i64 a9)).setCell ⟨w.heap.size,4,none⟩ (.slice o9 len9 cap9)=wz at q hBz hbt ⊢;obtain ⟨q0,q1,q2,q3,q4⟩:=q;exact bodyPost_ret (v:=.agg #[.int .i64 k9,.string ⟨n9.toArray⟩,.int .i64 m9,.int .i64 a9,.slice o9 len9 cap9]) (by simp [results,Tryz.results113,go_sem,q0,q1,q2,q3,q4]) rfl
   ⟨_,i,full,rfl,Ac.out.but (Nat.le_of_lt HZ.out.2) HZ.out.2 (fun b _ hb=>hbt b hb),rfl,Ad.out.of_blocks (hBz.block p HP.out.1) (hBz.block g HP.out.2),Ab.out.below_after hBz⟩
theorem znb (p g cap:Nat) (ts:List Tok) (d k m:Int) (t:List UInt8) (a:Nat) (w:World) (hp:p<w.heap.size) (hg:g<w.heap.size) (r:Ans Tree) (h1:(t==[101,110,117,109])=false) (h2:(t==[115,116,114,117,99,116])=false) (h3:(t==[117,110,105,111,110])=true)
 (H0:Hid (∀ w1,Below w.heap.size w w1->Calls Tryz.prog 38 #[.pointer (some ⟨p,0,none⟩)] w1 fun e w'=>e=.returned (.agg #[.int .i64 k,.string ⟨t.toArray⟩,.int .i64 m,.int .i64 a])∧Below w1.heap.size w1 w'))
 (HT:Hid (∀ w1,Below w.heap.size w w1->Calls Tryz.prog 71 #[.pointer (some ⟨p,0,none⟩),.bool false] w1 (zai p g cap ts d (treeIs w1.heap.size) r w1))) :
 Calls Tryz.prog 113 #[.pointer (some ⟨p,0,none⟩)] w (zai p g cap ts d (treeIs w.heap.size) r w):=by
 have HP:=hid2 hp hg;clear hp hg;have q0:=fld1 k m a ⟨t.toArray⟩;go_enter Tryz.func113,Tryz.ntmps113
 go_wp2_with fail
 refine (H0.out _ ((Below.refl _ _).alloc (Nat.le_refl _) _)).mono ?_;rintro e w1 ⟨rfl,hB⟩;have Aa:=hid (((Below.refl _ _).alloc (Nat.le_refl _) _).trans (hB.mono (by simp)));have HZ:Hid (Tre w1 w.heap.size∧w.heap.size<w1.heap.size):=⟨(Tre.made w 29).block (hB.block _ (by simp)),by have:=hB.size;simp at this;omega⟩;clear hB;go_wp2_with fail
 refine (HT.out _ Aa.out).mono ?_;cases r with
 | no why at_ =>
  rintro e w9 ⟨rfl,hS⟩;have Ab:=hid ((Sole.of_below Aa.out).trans hS);clear hS;go_wp2;exact ⟨rfl,rfl,Ab.out⟩
 | ok t st =>
  rintro e w9 ⟨v,i,full,rfl,hT,rfl,hP,hS⟩;obtain ⟨k9,n9,m9,a9,ks9⟩:=t;obtain ⟨sl,rfl,hL⟩:=treeAt_node.1 hT;obtain ⟨o9,len9,cap9,rfl⟩:=hL.shape;have Ac:=hid hT;have Ad:=hid hP;have Ab:=hid ((Sole.of_below Aa.out).trans hS);obtain ⟨z0,z1,z2,z3,z4,y0,y1,y2,y3,y4⟩:=HZ.out.1.block (hS.block w.heap.size HZ.out.2 (Nat.ne_of_gt HP.out.1));clear hP hS hT hL;unfold kidV at Ac ⊢;go_wp2;have q:=res5 w9 w.heap.size (.int .i64 k9) (.string ⟨n9.toArray⟩) (.int .i64 m9) (.int .i64 a9) (.slice o9 len9 cap9) z0 z1 z2 z3 z4;have hBz:=zan w9 w.heap.size w.heap.size (.int .i64 k9) (.string ⟨n9.toArray⟩) (.int .i64 m9) (.int .i64 a9) (.slice o9 len9 cap9) (Nat.le_refl _);have hbt:=zbf w9 w.heap.size (.int .i64 k9) (.string ⟨n9.toArray⟩) (.int .i64 m9) (.int .i64 a9) (.slice o9 len9 cap9);generalize ((((w9.setCell ⟨w.heap.size,0,none⟩ (.int .i64 k9)).setCell ⟨w.heap.size,1,none⟩ (.string ⟨n9.toArray⟩)).setCell ⟨w.heap.size,2,none⟩ (.int .i64 m9)).setCell ⟨w.heap.size,3,none⟩ (.int .i64 a9)).setCell ⟨w.heap.size,4,none⟩ (.slice o9 len9 cap9)=wz at q hBz hbt ⊢;obtain ⟨q0,q1,q2,q3,q4⟩:=q;exact bodyPost_ret (v:=.agg #[.int .i64 k9,.string ⟨n9.toArray⟩,.int .i64 m9,.int .i64 a9,.slice o9 len9 cap9]) (by simp [results,Tryz.results113,go_sem,q0,q1,q2,q3,q4]) rfl
   ⟨_,i,full,rfl,Ac.out.but (Nat.le_of_lt HZ.out.2) HZ.out.2 (fun b _ hb=>hbt b hb),rfl,Ad.out.of_blocks (hBz.block p HP.out.1) (hBz.block g HP.out.2),Ab.out.below_after hBz⟩
theorem written_bare (p g cap:Nat) (ts:List Tok) (d k m:Int) (t:List UInt8) (a:Nat) (w:World) (hp:p<w.heap.size) (hg:g<w.heap.size) (r:Ans Tree) (h1:(t==[101,110,117,109])=false) (h2:(t==[115,116,114,117,99,116])=false) (h3:(t==[117,110,105,111,110])=false)
 (H0:Hid (∀ w1,Below w.heap.size w w1->Calls Tryz.prog 38 #[.pointer (some ⟨p,0,none⟩)] w1 fun e w'=>e=.returned (.agg #[.int .i64 k,.string ⟨t.toArray⟩,.int .i64 m,.int .i64 a])∧Below w1.heap.size w1 w'))
 (HT:Hid (∀ w1,Below w.heap.size w w1->Calls Tryz.prog 142 #[.pointer (some ⟨p,0,none⟩)] w1 (zai p g cap ts d (treeIs w1.heap.size) r w1))) :
 Calls Tryz.prog 113 #[.pointer (some ⟨p,0,none⟩)] w (zai p g cap ts d (treeIs w.heap.size) r w):=by
 have HP:=hid2 hp hg;clear hp hg;have q0:=fld1 k m a ⟨t.toArray⟩;go_enter Tryz.func113,Tryz.ntmps113
 go_wp2_with fail
 refine (H0.out _ ((Below.refl _ _).alloc (Nat.le_refl _) _)).mono ?_;rintro e w1 ⟨rfl,hB⟩;have Aa:=hid (((Below.refl _ _).alloc (Nat.le_refl _) _).trans (hB.mono (by simp)));have HZ:Hid (Tre w1 w.heap.size∧w.heap.size<w1.heap.size):=⟨(Tre.made w 29).block (hB.block _ (by simp)),by have:=hB.size;simp at this;omega⟩;clear hB;go_wp2_with fail
 refine (HT.out _ Aa.out).mono ?_;cases r with
 | no why at_ =>
  rintro e w9 ⟨rfl,hS⟩;have Ab:=hid ((Sole.of_below Aa.out).trans hS);clear hS;go_wp2;exact ⟨rfl,rfl,Ab.out⟩
 | ok t st =>
  rintro e w9 ⟨v,i,full,rfl,hT,rfl,hP,hS⟩;obtain ⟨k9,n9,m9,a9,ks9⟩:=t;obtain ⟨sl,rfl,hL⟩:=treeAt_node.1 hT;obtain ⟨o9,len9,cap9,rfl⟩:=hL.shape;have Ac:=hid hT;have Ad:=hid hP;have Ab:=hid ((Sole.of_below Aa.out).trans hS);obtain ⟨z0,z1,z2,z3,z4,y0,y1,y2,y3,y4⟩:=HZ.out.1.block (hS.block w.heap.size HZ.out.2 (Nat.ne_of_gt HP.out.1));clear hP hS hT hL;unfold kidV at Ac ⊢;go_wp2;have q:=res5 w9 w.heap.size (.int .i64 k9) (.string ⟨n9.toArray⟩) (.int .i64 m9) (.int .i64 a9) (.slice o9 len9 cap9) z0 z1 z2 z3 z4;have hBz:=zan w9 w.heap.size w.heap.size (.int .i64 k9) (.string ⟨n9.toArray⟩) (.int .i64 m9) (.int .i64 a9) (.slice o9 len9 cap9) (Nat.le_refl _);have hbt:=zbf w9 w.heap.size (.int .i64 k9) (.string ⟨n9.toArray⟩) (.int .i64 m9) (.int .i64 a9) (.slice o9 len9 cap9);generalize ((((w9.setCell ⟨w.heap.size,0,none⟩ (.int .i64 k9)).setCell ⟨w.heap.size,1,none⟩ (.string ⟨n9.toArray⟩)).setCell ⟨w.heap.size,2,none⟩ (.int .i64 m9)).setCell ⟨w.heap.size,3,none⟩ (.int .i64 a9)).setCell ⟨w.heap.size,4,none⟩ (.slice o9 len9 cap9)=wz at q hBz hbt ⊢;obtain ⟨q0,q1,q2,q3,q4⟩:=q;exact bodyPost_ret (v:=.agg #[.int .i64 k9,.string ⟨n9.toArray⟩,.int .i64 m9,.int .i64 a9,.slice o9 len9 cap9]) (by simp [results,Tryz.results113,go_sem,q0,q1,q2,q3,q4]) rfl
   ⟨_,i,full,rfl,Ac.out.but (Nat.le_of_lt HZ.out.2) HZ.out.2 (fun b _ hb=>hbt b hb),rfl,Ad.out.of_blocks (hBz.block p HP.out.1) (hBz.block g HP.out.2),Ab.out.below_after hBz⟩
def KeepsB (p g cap:Nat) (ts:List Tok) (d:Int) (B:PS->Ans Tree):Prop :=
 ∀ i full w,i+1<ts.length->PP w p g cap ts i d full->zbv p w->Calls Tryz.prog 71 #[.pointer (some ⟨p,0,none⟩),.bool false] w (zai p g cap ts d (treeIs w.heap.size) (B (PSof ts i full)) w)
theorem written_any (p g cap:Nat) (ts:List Tok) (hE:Ends ts) (d:Int) (B:PS->Ans Tree) (hB:KeepsB p g cap ts d B) (hS:zd2 p g cap ts d 142 zd7):zd2 p g cap ts d 113 (zc8 B):=by
 intro i full w h hba;have hix:∀ t:List UInt8,t≠[]->((ts[i]'h.il).text==t)=true->i+1<ts.length:=fun t ht e=>hE.text h.il (by rw [show (ts[i]'h.il).text=t by simpa using e];exact ht);have HT:∀ w1,Below w.heap.size w w1->Calls Tryz.prog 38 #[.pointer (some ⟨p,0,none⟩)] w1 fun e w'=>e=.returned (tokV (ts[i]'h.il))∧Below w1.heap.size w1 w':=fun w1 hB=>zcc p g cap ts i d full w1 (h.below hB);unfold zc8 PS.sees;rw [zb7 ts i full h.il];cases h1:((ts[i]'h.il).text==zd4)
 · cases h2:((ts[i]'h.il).text==zbk)
   · cases h3:((ts[i]'h.il).text==zes)
     · exact written_bare p g cap ts d _ _ (ts[i]'h.il).text _ w h.plt h.glt _ h1 h2 h3 HT (fun w1 hw=>hS i full w1 (h.below hw) (hba.below hw))
     · exact znb p g cap ts d _ _ (ts[i]'h.il).text _ w h.plt h.glt _ h1 h2 h3 HT (fun w1 hw=>hB i full w1 (hix zes (by simp [zes]) h3) (h.below hw) (hba.below hw))
   · exact zl8 p g cap ts d _ _ (ts[i]'h.il).text _ w h.plt h.glt _ h1 h2 HT (fun w1 hw=>hB i full w1 (hix zbk (by simp [zbk]) h2) (h.below hw) (hba.below hw))
 · exact written_enum p g cap ts d _ _ (ts[i]'h.il).text _ w h.plt h.glt _ h1 HT (fun w1 hw=>hB i full w1 (hix zd4 (by simp [zd4]) h1) (h.below hw) (hba.below hw))
end Go.Proofs.YtighggeokiahfaaGreatDoor
