/- Lists that lie apart, written over and grown, read as they were written. -/
import Derived.Test.YtihcdahmfdijoaaGreatDoorZg
import Derived.Test.YtihcdahmfdijoaaGreatDoorCt
import Derived.Deep.RegionHeld3
import Derived.OwnWalk
namespace Go.Proofs.YtihcdahmfdijoaaGreatDoor
open Go.RowKit
theorem Ls.put {w:World} {B gl m:Nat} {G:Nat→Option Nat} {N C K:Nat→Nat} (h:Ls w B gl m 0 G N C K) (j g k:Nat) (v:Value) (hj:j<m) (hg:G j=some g):Ls (w.setCell ⟨g,k,none⟩ v) B gl m 0 G N C K:=by
 have hne:gl≠g:=fun e=>by
  have h1:=(h.row j g (Nat.zero_le _) hj hg).2
  have h2:=h.gk
  rw [e] at h2;omega
 refine ⟨fun i hi=>?_,fun i g2 h1 h2 h3=>⟨(h.row i g2 h1 h2 h3).1.set g _ _,(h.row i g2 h1 h2 h3).2⟩,h.nil,h.gk,by simpa using h.lt⟩
 rw [cellB (Below.heap_setCell _ _ _ _ hne)];exact h.cell i hi
theorem Ls.idle {w w' : World} {B gl m:Nat} {G:Nat→Option Nat} {N C K:Nat→Nat} (h:Ls w B gl m 0 G N C K) (hb:Below w.heap.size w w'):Ls w' B gl m 0 G N C K :=
 ⟨fun i hi=>(cellB (hb.block gl h.lt) i).trans (h.cell i hi),fun i g h1 h2 h3=>⟨(h.row i g h1 h2 h3).1.kept (hb.block g (h.row i g h1 h2 h3).1.lt),(h.row i g h1 h2 h3).2⟩,h.nil,h.gk,Nat.lt_of_lt_of_le h.lt hb.size⟩
theorem P2.xown {W w:World} {B gl m j:Nat} {G:Nat→Option Nat} {N C K:Nat→Nat} {va:Value} {T:Nat} {EL:List Value} {Eo:Nat→Option Nat} {En:Nat→Nat} {xo:Option Nat} {nx cx:Nat} (h:P2 W w B gl m j G N C K va T EL Eo En xo nx cx):∃ xs,w.ownsRow B 3 1 (sv xo nx cx) nx xs:=by
 cases hx:xo with
 | none =>
  obtain ⟨rfl,rfl⟩:=h.xnil hx
  exact ⟨[],World.ownsRow_nil _ _ _ _⟩
 | some g=>exact (h.xr g hx).1.own
theorem below_alloc (w:World) (x:Obj):Below w.heap.size w (w.alloc x):=(Below.refl _ _).alloc (Nat.le_refl _) _
set_option maxHeartbeats 4000000 in
set_option maxRecDepth 4000 in
theorem apart_any (W:World) (B gl m cl qw cw:Nat) (G:Nat→Option Nat) (N C K:Nat→Nat) (V:Nat→List Int) (O:Nat→Option Addr) (D:Nat→Nat) (h:Ls W B gl m 0 G N C K) (hN:∀ i,i<m→N i≤1000) (hm:m≤1000) (hB:B≤W.heap.size)
  (hV:∀ i,i<m→(V i).length=N i∧GsAt W W.heap.size ((G i).map fun g=>⟨g,0,none⟩) (V i)∧W.cell? ⟨qw,i,none⟩=some (.slice (O i) (N i) (D i))∧GsAt W W.heap.size (O i) (V i)) :
  Calls Tryz.prog 13 #[.slice (some ⟨gl,0,none⟩) m cl,.slice (some ⟨qw,0,none⟩) m cw] W (fun e w'=>e=.returned (.bool true)∧Below B W w'):=by
 obtain ⟨inf,hi⟩:=info_int
 have HI:=hid hi
 obtain ⟨inf2,hi2⟩:=info_sl
 have HI2:=hid hi2
 have HLs:=hid h
 have HNN:=hid hN
 have HBB:=hid hB
 have HV:=hid hV
 clear h hN hB hi hi2 hV
 go_enter Tryz.func13,Tryz.ntmps13
 go_wp2_with fail
 go_loopw [5] (fun n wr=>∃ j:Nat,n=.int .i64 j∧j≤m∧Hid (Below W.heap.size W wr)) (fun n _=>m - (intOf n).toNat)
 case atStart=>exact ⟨0,rfl,by omega,Below.refl _ _⟩
 case round =>
  obtain ⟨j,rfl,hj,HB0⟩:=hrel
  by_cases hlt:j<m
  · have hj' : (j:Int)<m:=by omega
    have hj0:(0:Int)≤(j:Int):=by omega
    have HLT:=hid hlt
    obtain ⟨v1,v2,v3,v4⟩:=HV.out j hlt
    have hcl:=HLs.out.cell j hlt
    obtain ⟨X,hX⟩:∃ X,(G j).map (fun g=>(⟨g,0,none⟩:Addr))=X:=⟨_,rfl⟩
    have d1:wr.cell? ⟨gl,j,none⟩=some (.slice X (N j) (C j)):=by rw [← hX];exact (cellB (HB0.out.block gl HLs.out.lt) j).trans hcl
    have d2:wr.cell? ⟨qw,j,none⟩=some (.slice (O j) (N j) (D j)):=(cellB (HB0.out.block qw (World.block_lt_of_cell? _ _ v3)) j).trans v3
    have HR:Hid (∀ w1,Below W.heap.size W w1→Calls Tryz.prog 30 #[.slice X (N j) (C j),.slice (O j) (N j) (D j)] w1 (fun e w'=>e=.returned (.bool true)∧Below w1.heap.size w1 w')):=fun w1 hb=>by
     have:=ints_any X (O j) (C j) (D j) (V j) (V j) w1 (by rw [← hX];exact (v2.below hb).mono hb.size) ((v4.below hb).mono hb.size) (by have:=HNN.out j hlt;omega)
     rw [v1] at this
     rwa [show (V j==V j)=true by simp] at this
    have s1:∀ i,(wr.drewN i).cell? ⟨gl,j,none⟩=some (.slice X (N j) (C j))∧(wr.drewN i).cell? ⟨qw,j,none⟩=some (.slice (O j) (N j) (D j)):=fun _=>⟨d1,d2⟩
    clear v1 v2 v3 v4 hcl hX
    go_wp2_with fail
    go_region_held3 (fun w'=>w'.cell? ⟨gl,j,none⟩=some (.slice X (N j) (C j))∧w'.cell? ⟨qw,j,none⟩=some (.slice (O j) (N j) (D j))) (first|with_reducible exact ⟨d1,d2⟩|with_reducible exact s1 _|with_reducible exact s7|exact ⟨d1,d2⟩) (first
     | (go_at_call 30
        refine (HR.out _ (below_drew HB0.out _)).mono ?_
        rintro e w7 ⟨rfl,hB0⟩
        have hB7:Below W.heap.size W w7:=HB0.out.trans (((below_drew (Below.refl _ _) _).trans hB0).mono HB0.out.size)
        have s7:w7.cell? ⟨gl,j,none⟩=some (.slice X (N j) (C j))∧w7.cell? ⟨qw,j,none⟩=some (.slice (O j) (N j) (D j)):=⟨(hB0.cell (World.block_lt_of_cell? wr _ d1)).trans d1,(hB0.cell (World.block_lt_of_cell? wr _ d2)).trans d2⟩
        have HB7:=hid hB7
        clear hB0 hB7))
    go_wp2
    go_roundw
    case rel=>exact ⟨j+1,by go_num,HLT.out,HB7⟩
    case measure=>have:=HLT.out;simp [intOf];omega
  · obtain rfl:j=m:=by omega
    have HL1:=hid (HLs.out.idle HB0.out)
    have HB1:Hid (Below B W wr):=HB0.out.mono HBB.out
    clear HB0 HV HLs
    go_wp2_with fail
    go_loopw [7] (fun n wr=>∃ p:Nat,n=.int .i64 p∧p≤j∧Hid (Ls wr B gl j 0 G N C K)∧Hid (∀ i g,i<p→G i=some g→Mk wr g (N i) i)∧Hid (Below B W wr)) (fun n _=>j - (intOf n).toNat)
    case atStart=>exact ⟨0,rfl,by omega,HL1.out,fun i g h=>by omega,HB1.out⟩
    case round =>
     obtain ⟨p,rfl,hp,HL,HM,HB⟩:=hrel
     clear HL1 HB1
     by_cases hlt:p<j
     · have hj' : (p:Int)<j:=by omega
       have hj0:(0:Int)≤(p:Int):=by omega
       have hjm:(p:Int)≤1000:=by omega
       have HPJ:=hid hlt
       go_wp2_with fail
       go_loopw [8] (fun i wr2=>∃ k:Nat,i=.int .i64 k∧k≤N p∧Hid (Ls wr2 B gl j 0 G N C K)∧Hid (∀ i g,i<p→G i=some g→Mk wr2 g (N i) i)∧Hid (∀ g,G p=some g→Mk wr2 g k p)∧Hid (Below B W wr2)) (fun i _=>N p - (intOf i).toNat)
       case atStart=>exact ⟨0,rfl,by omega,HL.out,HM.out,fun g _ i hi=>by omega,HB.out⟩
       case round =>
        obtain ⟨k,rfl,hk,HL2,HM2,HP2,HB2⟩:=hrel
        have hNj:=HNN.out p hlt
        have hcl:=HL2.out.cell p hlt
        by_cases hkn:k<N p
        · obtain ⟨g,hg⟩:∃ g,G p=some g:=by
           cases hg:G p with
           | none=>have:=(HL2.out.nil p hlt hg).1;omega
           | some g=>exact ⟨g,rfl⟩
          rw [hg] at hcl
          have hcl2:wr.cell? ⟨gl,p,none⟩=some (.slice (some ⟨g,0,none⟩) (N p) (C p)):=hcl
          have HKN:=hid hkn
          have hkn' : (k:Int)<(N p:Int):=by omega
          have hk0:(0:Int)≤(k:Int):=by omega
          have hrw:=HL2.out.row p g (Nat.zero_le _) hlt hg
          obtain ⟨u0,hu0⟩:=hrw.1.cell k (by omega)
          have hf0:=hrw.1.frozen k
          have HL3:=hid (HL2.out.put p g k (.int .i64 (-1-(p:Int))) hlt hg)
          have HM3:Hid (∀ i g2,i<p→G i=some g2→Mk (wr.setCell ⟨g,k,none⟩ (.int .i64 (-1-(p:Int)))) g2 (N i) i):=fun i g2 h1 h2=>by
           have r:=HL2.out.row i g2 (Nat.zero_le _) (by omega) h2
           have hne:g2≠g:=fun e=>by have r1:=r.2;have r2:=hrw.2;rw [e] at r1;omega
           exact (HM2.out i g2 h1 h2).kept (Below.heap_setCell _ _ _ _ hne)
          have HP3:Hid (∀ g2,G p=some g2→Mk (wr.setCell ⟨g,k,none⟩ (.int .i64 (-1-(p:Int)))) g2 (k+1) p):=fun g2 h2 q hq=>by
           obtain rfl:g=g2:=by rw [hg] at h2;cases h2;rfl
           rcases Nat.lt_or_ge q k with h3|h3
           · exact (World.cell?_setCell_other _ _ _ _ (fun e=>by injection e with _ e2;omega)).trans (HP2.out g hg q h3)
           · obtain rfl:q=k:=by omega
             exact World.cell?_setCell_same _ _ _ hu0
          have HB3:Hid (Below B W (wr.setCell ⟨g,k,none⟩ (.int .i64 (-1-(p:Int))))):=HB2.out.setCell hrw.1.low _
          clear hcl hg hrw
          go_wp2
          go_roundw
          case rel=>exact ⟨k+1,by go_num,HKN.out,HL3,HM3,HP3,HB3⟩
          case measure=>have:=HKN.out;simp [intOf];omega
        · obtain rfl:k=N p:=by omega
          have HM3:Hid (∀ i g,i<p+1→G i=some g→Mk wr g (N i) i):=fun i g h1 h2=>by
           rcases Nat.lt_or_ge i p with h3|h3
           · exact HM2.out i g h3 h2
           · obtain rfl:i=p:=by omega
             exact HP2.out g h2
          obtain ⟨X,hX⟩:∃ X,(G p).map (fun g=>(⟨g,0,none⟩:Addr))=X:=⟨_,rfl⟩
          have hcl2:wr.cell? ⟨gl,p,none⟩=some (.slice X (N p) (C p)):=by rw [← hX];exact hcl
          clear hcl hX
          go_wp2
          go_roundw
          case rel=>exact ⟨p+1,by go_num,HPJ.out,HL2,HM3,HB2⟩
          case measure=>have:=HPJ.out;simp [intOf];omega
     · obtain rfl:p=j:=by omega
       have HQ:Hid (Q2 W wr B gl p 0 G N C K (.slice none 0 0) 0 [] (fun _=>none) (fun _=>0)):=Q2.start HL.out HM.out HB.out (Nat.le_trans HBB.out HB.out.size)
       clear HL HM HB
       go_wp2_with fail
       go_loopw [9,10] (fun a n wr=>∃ (q ca:Nat) (oa:Option Addr) (K:Nat→Nat) (EL:List Value) (Eo:Nat→Option Nat) (En:Nat→Nat),n=.int .i64 q∧a=.slice oa (20*q) ca∧q≤p∧Hid (Q2 W wr B gl p q G N C K (.slice oa (20*q) ca) (20*q) EL Eo En)∧Hid (∀ t,En t≤1020)) (fun _ n _=>p - (intOf n).toNat)
       case atStart=>exact ⟨0,0,none,K,[],_,_,rfl,rfl,by omega,HQ.out,fun _=>Nat.zero_le _⟩
       case round =>
        obtain ⟨q,ca,oa,K,EL,Eo,En,rfl,rfl,hq,HQ2,HE2⟩:=hrel
        clear HQ
        by_cases hqlt:q<p
        · have hq' : (q:Int)<p:=by omega
          have hq0:(0:Int)≤(q:Int):=by omega
          have hqm:(q:Int)≤1000:=by omega
          have hcl:=HQ2.out.ls.cell q hqlt
          have hNj:=HNN.out q hqlt
          have HP:=hid (HQ2.out.begin hqlt)
          obtain ⟨X,hX⟩:∃ X,(G q).map (fun g=>(⟨g,0,none⟩:Addr))=X:=⟨_,rfl⟩
          have hcl2:wr.cell? ⟨gl,q,none⟩=some (.slice X (N q) (C q)):=by rw [← hX];exact hcl
          have HX:=hid hX
          have HJ:=hid hqlt
          clear hcl hX HQ2
          go_wp2_with fail
          go_loopw [9,11,12] (fun a x n wr=>∃ (i ca nx cx:Nat) (oa X:Option Addr) (K:Nat→Nat) (EL:List Value) (Eo:Nat→Option Nat) (En:Nat→Nat) (xo:Option Nat),n=.int .i64 i∧a=.slice oa (20*q+i) ca∧x=.slice X nx cx∧i≤20∧nx≤1000+i∧Hid (xo.map (fun g=>(⟨g,0,none⟩:Addr))=X)∧Hid (P2 W wr B gl p q G N C K (.slice oa (20*q+i) ca) (20*q+i) EL Eo En xo nx cx)∧Hid (∀ t,En t≤1020)) (fun _ _ n _=>20 - (intOf n).toNat)
          case atStart=>exact ⟨0,ca,N q,C q,oa,X,K,EL,Eo,En,G q,rfl,rfl,rfl,by omega,by omega,HX,HP,HE2⟩
          case round =>
           obtain ⟨i,ca,nx,cx,oa,X,K,EL,Eo,En,xo,rfl,rfl,rfl,hi,hnx,HX2,HP2,HE⟩:=hrel
           clear HP HX hcl2 HE2
           by_cases hi20:i<20
           · have hi' : (i:Int)<20:=by omega
             have HI5:=hid hi20
             go_wp2_with (at_builtin;refine Hid.out ?_)
             refine (show Hid _ from ?_)
             have HU:=hid (HP2.out.idle (w':=wr.alloc (.cells #[.slice X nx cx] 28)) (below_alloc _ _))
             refine wpList_append_parted rfl _ _ 27 rfl B 28 inf2 (.slice none 0 0) 1 24 und_ll HI2.out rfl (by decide) (.slice oa (20*q+i) ca) (20*q+i) EL rfl HU.out.aown ⟨wr.heap.size,0,none⟩ 1 [.slice X nx cx] rfl rfl (World.news_of_block (cs:=#[.slice X nx cx]) (t:=28) (fr:=(0,0)) (heap_alloc_new _ _)) (by simp [Value.oneCell']) (by unfold maxLen;omega) (by omega) HU.out.hB ?_
             intro g3 cap3 w4 hown hpart
             obtain ⟨K4,hP4⟩:=HU.out.put (by omega) (by unfold sv;rw [HX2.out];exact hown) hpart
             have HP4:=hid hP4
             have HE4:Hid (∀ t,setAt En (20*q+i) nx t≤1020):=fun t=>by
              unfold setAt
              split
              · omega
              · exact HE.out t
             clear hown hpart HU HP2 hP4 HE
             go_wp2_with (at_builtin;refine Hid.out ?_)
             refine (show Hid _ from ?_)
             have HW:=hid (HP4.out.idle (w':=w4.alloc (.cells #[.int .i64 (-1-(q:Int))] 3)) (below_alloc _ _))
             obtain ⟨xs,hx⟩:=HW.out.xown
             have hsv:sv xo nx cx=.slice X nx cx:=by unfold sv;rw [HX2.out]
             have hblk:(Value.slice X nx cx).ownBlock=xo:=by rw [← hsv,sv_block]
             refine wpList_append_parted rfl _ _ 28 rfl B 3 inf (.int .i64 0) 1 8 und_sl HI.out rfl (by decide) (.slice X nx cx) nx xs rfl (by rw [← hsv];exact hx) ⟨w4.heap.size,0,none⟩ 1 [.int .i64 (-1-(q:Int))] rfl rfl (World.news_of_block (cs:=#[.int .i64 (-1-(q:Int))]) (t:=3) (fr:=(0,0)) (heap_alloc_new _ _)) (by simp [Value.oneCell']) (by unfold maxLen;omega) (by omega) HW.out.hB ?_
             intro g7 cap7 w7 hown hpart
             rw [hblk] at hpart
             obtain ⟨K7,hP7⟩:=HW.out.grow hx hown hpart
             have HP7:=hid hP7
             clear hown hpart HW HP4 hx hsv hblk HX2 hP7
             go_wp2
             go_roundw
             case rel=>exact ⟨i+1,cap3,nx+1,cap7,some ⟨g3,0,none⟩,some ⟨g7,0,none⟩,K7,_,_,_,some g7,by go_num,rfl,rfl,HI5.out,by omega,rfl,HP7,HE4⟩
             case measure=>have:=HI5.out;simp [intOf];omega
           · obtain rfl:i=20:=by omega
             have HD:Hid (Q2 W wr B gl p (q+1) G N C K (.slice oa (20*(q+1)) ca) (20*(q+1)) EL Eo En):=HP2.out.done (by omega)
             clear HP2 HX2
             go_wp2
             go_roundw
             case rel=>exact ⟨q+1,ca,oa,K,EL,Eo,En,by go_num,rfl,HJ.out,HD,HE⟩
             case measure=>have:=HJ.out;simp [intOf];omega
        · obtain rfl:q=p:=by omega
          have HC:Hid (∀ t,t<20*q→∃ v qa,EL[t]?=some v∧oa=some ⟨qa,0,none⟩∧wr.cell? ⟨qa,t,none⟩=some v):=fun t ht=>by
           have hl:EL.length=20*q:=by simpa using HQ2.out.aown.1
           have hv:=List.getElem?_eq_getElem (l:=EL) (i:=t) (by omega)
           obtain ⟨qa,c1,e1,_,_⟩:=HQ2.out.aown.form (by omega)
           cases e1
           exact ⟨_,qa,hv,rfl,(HQ2.out.aown.cellAt t (by omega)).trans hv⟩
          have HEn:=hid HQ2.out.ent
          have HBz:=hid HQ2.out.below
          obtain ⟨T,hT⟩:∃ T,20*q=T:=⟨_,rfl⟩
          have hTb:T≤20000:=by omega
          rw [hT] at HC ⊢
          clear HQ2 hT
          go_wp2_with fail
          obtain ⟨w9,hw9⟩:∃ x,x=wr:=⟨_,rfl⟩
          subst hw9
          go_loopw [13] (fun n wz=>∃ t:Nat,n=.int .i64 t∧t≤T∧Hid (Below w9.heap.size w9 wz)) (fun n _=>T - (intOf n).toNat)
          case atStart=>exact ⟨0,rfl,by omega,Below.refl _ _⟩
          case round =>
           obtain ⟨t,rfl,ht,HBR⟩:=hrel
           by_cases htT:t<T
           · have ht' : (t:Int)<T:=by omega
             have ht0:(0:Int)≤(t:Int):=by omega
             have HTT:=hid htT
             obtain ⟨v,qa,hv,hoa,hc1⟩:=HC.out t htT
             subst hoa
             obtain ⟨⟨c,hvv⟩,hnil,hle,hmk⟩:=HEn.out t v hv
             have hle2:=HE2.out t
             obtain ⟨n,hn⟩:∃ n,En t=n:=⟨_,rfl⟩
             obtain ⟨X,hX⟩:∃ X,(Eo t).map (fun g=>(⟨g,0,none⟩:Addr))=X:=⟨_,rfl⟩
             obtain ⟨z,hz⟩:∃ z:Nat,t/20=z:=⟨_,rfl⟩
             rw [hn] at hle hnil hmk hvv hle2
             rw [hz] at hmk
             have hvv2:v=.slice X n c:=by rw [hvv,← hX]
             subst hvv2
             have hzq:(t:Int).tdiv 20=(z:Int):=by rw [← hz,Int.tdiv_eq_ediv_of_nonneg (by omega)];omega
             have hzm:(z:Int)≤1000:=by omega
             have hz0:(0:Int)≤(z:Int):=by omega
             have HMK:Hid (∀ i,i<n→∃ g,X=some ⟨g,0,none⟩∧g<w9.heap.size∧w9.cell? ⟨g,i,none⟩=some (.int .i64 (-1-(z:Int)))):=fun i hi=>by
              cases hg:Eo t with
              | none=>have:=hnil hg;omega
              | some g =>
               obtain ⟨h1,h2,_⟩:=hmk g hg
               exact ⟨g,by rw [← hX,hg];rfl,h1,h2 i hi⟩
             have HC1:Hid (w9.cell? ⟨qa,t,none⟩=some (.slice X n c)):=hc1
             clear hv hvv hnil hmk hn hX hle hz hc1
             go_wp2_with fail
             go_loopw [14] (fun x wz=>∃ k:Nat,x=.int .i64 k∧k≤n∧Hid (Below w9.heap.size w9 wz)) (fun x _=>n - (intOf x).toNat)
             case atStart=>exact ⟨0,rfl,by omega,HBR⟩
             case round =>
              obtain ⟨k,rfl,hk,HBS⟩:=hrel
              have d1:wr.cell? ⟨qa,t,none⟩=some (.slice X n c):=(HBS.out.cell (World.block_lt_of_cell? _ _ HC1.out)).trans HC1.out
              by_cases hkn:k<n
              · obtain ⟨g,hX,hg,hm⟩:=HMK.out k hkn
                subst hX
                have d2:wr.cell? ⟨g,k,none⟩=some (.int .i64 (-1-(z:Int))):=(cellB (HBS.out.block g hg) k).trans hm
                have hkn' : (k:Int)<(n:Int):=by omega
                have hk0:(0:Int)≤(k:Int):=by omega
                have HKN:=hid hkn
                clear hm hg
                go_wp2
                go_roundw
                case rel=>exact ⟨k+1,by go_num,HKN.out,HBS⟩
                case measure=>have:=HKN.out;simp [intOf];omega
              · obtain rfl:k=n:=by omega
                go_wp2
                go_roundw
                case rel=>exact ⟨t+1,by go_num,HTT.out,HBS⟩
                case measure=>have:=HTT.out;simp [intOf];omega
           · obtain rfl:t=T:=by omega
             go_wp2
             go_ret
             exact ⟨rfl,HBz.out.trans (HBR.out.mono (Nat.le_trans HBB.out HBz.out.size))⟩
end Go.Proofs.YtihcdahmfdijoaaGreatDoor
