import Derived.Test.YtighggeokiahfaaGreatDoorNear12
namespace Go.Proofs.YtighggeokiahfaaGreatDoor.Dm
open Go.RowKit
theorem DS.but {w w' : World} {p g cap:Nat} {ts:List Tok} {d:Int} {s:RS} {r:Nat} (h:DS w p g cap ts d s) (hp:p<r) (hg:g<r) (hz:∀ b,b≠r->w'.heap[b]?=w.heap[b]?):DS w' p g cap ts d s:=by
 obtain ⟨i,h1,h2⟩:=h
 exact ⟨i,h1,h2.of_blocks (hz p (by omega)) (hz g (by omega))⟩
theorem bld_ (w:World):(Instr.build 29 #[]).run Tryz.prog w=.ok (.agg #[.int .i64 0,.string ⟨#[]⟩,.int .i64 0,.int .i64 0,.slice none 0 0]) w:=by kernel_rfl
theorem zfi {B:Nat} {w:World} {k m:Int} {n:List UInt8} {a:Nat}:zah B (.node k n m a []) w (kidV k n m a (.slice none 0 0)):=zaf.2 ⟨_,rfl,zbe⟩
theorem zbl {w wa:World} {p b:Nat} {o:Obj} (h:Kep w wa b o) (hp:p<w.heap.size) (v:Value) (x:Obj) (k:Nat):Kep w (((wa.setCell ⟨p,1,none⟩ v).alloc x).drewN k) b o:=
 h.sole hp ((Sole.setCell wa 1 v).trans (Sole.grow _ x k))
set_option maxHeartbeats 2000000 in
set_option maxRecDepth 4000 in
theorem zcf (p g cap:Nat) (ts:List Tok) (hE:Ends ts) (d:Int) (b:Bool) (s:RS) (w:World) (h:DS w p g cap ts d s):
 Calls Tryz.prog 50 #[.pointer (some ⟨p,0,none⟩),.bool b] w (zdj p g cap ts d (zah w.heap.size) (zav b s) w):=by
 have Aa:Hid (p<w.heap.size∧g<w.heap.size):=⟨h.plt,h.glt⟩
 obtain ⟨R,hR⟩:∃ R,zav b s=R:=⟨_,rfl⟩
 rw [hR]
 have HR:=hid (hR.symm)
 obtain ⟨wa,hwa⟩:∃ x,w.alloc (.cells #[.int .i64 0,.string ⟨#[]⟩,.int .i64 0,.int .i64 0,.slice none 0 0] 29)=x:=⟨_,rfl⟩
 have HB:Hid (Below w.heap.size w wa):=hidB hwa
 have HK:Hid (Kep w wa w.heap.size (kidO 0 [] 0 0 (.slice none 0 0))):=by show Kep _ _ _ _;rw [<- hwa];exact Kep.new (Nat.le_refl _) _
 have HD:=hid (h.below HB.out)
 clear h hR
 obtain ⟨i,hi,h1,hh,hs⟩:=HD.out.at_
 have Ah:Hid (DP wa p g cap ts i d s.e s.pl∧s.hd=ts[i]∧s.ts=ts.drop i):=⟨h1,hh,hs⟩
 have Aj:Hid ((i:Int)<=16001):=by show _<=_;have:=h1.ln;omega
 have hl:=h1.look hi
 obtain ⟨E0,hE0⟩:∃ x,s.e=x:=⟨_,rfl⟩
 obtain ⟨K,hK⟩:∃ x,ts[i].kind=x:=⟨_,rfl⟩
 obtain ⟨M,hM⟩:∃ x,ts[i].num=x:=⟨_,rfl⟩
 obtain ⟨A,hA⟩:∃ x,ts[i].at_=x:=⟨_,rfl⟩
 obtain ⟨S,hS⟩:∃ x,ts[i].text=x:=⟨_,rfl⟩
 rw [hE0,hK,hM,hA,hS] at hl
 have HF:Hid (s.e=E0∧s.hd.kind=K∧s.hd.num=M∧s.hd.at_=A∧s.hd.text=S):=⟨hE0,by rw [hh];exact hK,by rw [hh];exact hM,by rw [hh];exact hA,by rw [hh];exact hS⟩
 clear hE0 hK hM hA hS hh hs h1
 obtain ⟨hp,hg,hi',c0,c1,c3,t0,t1,t2,t3,f1⟩:=hl
 have c1x:∀ x,(wa.alloc x).cell? ⟨p,1,none⟩=some (.int .i64 i):=fun x=>by rw [World.cell?_alloc_lt _ _ _ hp];exact c1
 have c3x:∀ x,(wa.alloc x).cell? ⟨p,3,none⟩=some (.int .i64 E0):=fun x=>by rw [World.cell?_alloc_lt _ _ _ hp];exact c3
 have f1x:∀ x,(wa.alloc x).frozen? ⟨p,1,none⟩=false:=fun x=>by rw [World.frozen?_alloc_old _ _ _ (Nat.ne_of_lt hp)];exact f1
 have Ac:Hid (∀ x k,Below wa.heap.size wa ((wa.alloc x).drewN k)):=fun x k=>zaj (zac wa x) k
 have hne:¬ p=wa.heap.size:=by omega
 have hne2:¬ wa.heap.size=p:=by omega
 have him:=Aj.out
 have qb:=bld_
 have qc:=bld023
 by_cases he:E0=0
 case neg =>
  have Ad:Hid (R=(zjc,s.fail 40)):=by
   show _=_
   rw [HR.out];unfold zav
   rw [HF.out.1,show (E0==0)=false by simp [he]];rfl
  have he2:(E0==0)=false:=by simp [he]
  go_enter Tryz.func50,Tryz.ntmps50
  go_wp2_with fail
  clear hwa
  go_region
  all_goals (
   go_wp2_with fail
   refine (zbu p g cap ts d 40 s _ (HD.out.below (Ac.out _ 1))).mono ?_
   rintro e w2 ⟨rfl,hD,hS⟩
   have Af:=hid hD
   have Ag:=hid (((Sole.of_below HB.out).trans (Sole.of_below (Ac.out _ 1))).trans hS)
   have Ab:=hid ((HK.out.below (Ac.out _ 1)).sole Aa.out.1 hS)
   clear hD hS
   obtain ⟨⟨z0,z1,z2,z3,z4⟩,⟨y0,y1,y2,y3,y4⟩⟩:=zaa Ab.out.1
   go_wp2
   refine ret5 (n:=[]) (a:=0) z0 z1 z2 z3 z4 rfl (fun u q0 q1 q2 q3 q4=>by simp [results,Tryz.results50,go_sem,q0,q1,q2,q3,q4]) Ab.out.2 Ag.out ?_
   intro wz hf
   rw [Ad.out]
   have hr2:=Ab.out.2
   have hpg:=Aa.out
   exact ⟨_,rfl,zfi,Af.out.but (by omega) (by omega) hf.2,hf.1⟩)
 subst he
 by_cases hk:K=3
 case neg =>
  have Ad:Hid (R=(zjc,s.fail 40)):=by
   show _=_
   rw [HR.out];unfold zav
   rw [HF.out.2.1,show (K==3)=false by simp [hk]];simp
  have hk2:(K==3)=false:=by simp [hk]
  go_enter Tryz.func50,Tryz.ntmps50
  go_wp2_with fail
  clear hwa
  go_region
  all_goals (
   go_wp2_with fail
   refine (zbu p g cap ts d 40 s _ (HD.out.below (Ac.out _ 1))).mono ?_
   rintro e w2 ⟨rfl,hD,hS⟩
   have Af:=hid hD
   have Ag:=hid (((Sole.of_below HB.out).trans (Sole.of_below (Ac.out _ 1))).trans hS)
   have Ab:=hid ((HK.out.below (Ac.out _ 1)).sole Aa.out.1 hS)
   clear hD hS
   obtain ⟨⟨z0,z1,z2,z3,z4⟩,⟨y0,y1,y2,y3,y4⟩⟩:=zaa Ab.out.1
   go_wp2
   refine ret5 (n:=[]) (a:=0) z0 z1 z2 z3 z4 rfl (fun u q0 q1 q2 q3 q4=>by simp [results,Tryz.results50,go_sem,q0,q1,q2,q3,q4]) Ab.out.2 Ag.out ?_
   intro wz hf
   rw [Ad.out]
   have hr2:=Ab.out.2
   have hpg:=Aa.out
   exact ⟨_,rfl,zfi,Af.out.but (by omega) (by omega) hf.2,hf.1⟩)
 subst hk
 cases hb:(b&&decide (M<0)) with
 | true =>
  rw [Bool.and_eq_true,decide_eq_true_iff] at hb
  obtain ⟨rfl,hm⟩:=hb
  have Ad:Hid (R=(zjc,s.fail 40)):=by
   show _=_
   rw [HR.out];unfold zav
   rw [HF.out.2.2.1,decide_eq_true hm];simp
  go_enter Tryz.func50,Tryz.ntmps50
  go_wp2_with fail
  clear hwa
  go_region
  all_goals (
   go_wp2_with fail
   refine (zbu p g cap ts d 40 s _ (HD.out.below (Ac.out _ 1))).mono ?_
   rintro e w2 ⟨rfl,hD,hS⟩
   have Af:=hid hD
   have Ag:=hid (((Sole.of_below HB.out).trans (Sole.of_below (Ac.out _ 1))).trans hS)
   have Ab:=hid ((HK.out.below (Ac.out _ 1)).sole Aa.out.1 hS)
   clear hD hS
   obtain ⟨⟨z0,z1,z2,z3,z4⟩,⟨y0,y1,y2,y3,y4⟩⟩:=zaa Ab.out.1
   go_wp2
   refine ret5 (n:=[]) (a:=0) z0 z1 z2 z3 z4 rfl (fun u q0 q1 q2 q3 q4=>by simp [results,Tryz.results50,go_sem,q0,q1,q2,q3,q4]) Ab.out.2 Ag.out ?_
   intro wz hf
   rw [Ad.out]
   have hr2:=Ab.out.2
   have hpg:=Aa.out
   exact ⟨_,rfl,zfi,Af.out.but (by omega) (by omega) hf.2,hf.1⟩)
 | false =>
  have Ad:Hid (R=(.node 28 [] M A [],s.adv)):=by
   show _=_
   rw [HR.out];unfold zav
   rw [HF.out.1,HF.out.2.1,HF.out.2.2.1,HF.out.2.2.2.1,hb];rfl
  have Ai:Hid (s.hd.kind≠5∨s.hd.text≠[]):=Or.inl (by rw [HF.out.2.1];decide)
  have HX:Hid (∀ x k,DS (((wa.setCell ⟨p,1,none⟩ (.int .i64 ((i:Int)+1))).alloc x).drewN k) p g cap ts d s.adv∧Sole p w (((wa.setCell ⟨p,1,none⟩ (.int .i64 ((i:Int)+1))).alloc x).drewN k)):=fun x k=>⟨(DS.stepN hE Ah.out.1 Ah.out.2.2 Ai.out x k).1,(Sole.of_below HB.out).trans (DS.stepN hE Ah.out.1 Ah.out.2.2 Ai.out x k).2⟩
  have bq:b=false∨(b=true∧¬ M<0):=by cases b <;> simp at hb ⊢;omega
  rcases bq with rfl|⟨rfl,hm⟩
  · clear hb
    have z0x:∀ v x,((wa.setCell ⟨p,1,none⟩ v).alloc x).cell? ⟨w.heap.size,0,none⟩=some (.int .i64 0):=fun v x=>(zaa (zbl HK.out Aa.out.1 v x 0).1).1.1
    have y0x:∀ v x,((wa.setCell ⟨p,1,none⟩ v).alloc x).frozen? ⟨w.heap.size,0,none⟩=false:=fun v x=>(zaa (zbl HK.out Aa.out.1 v x 0).1).2.1
    have z1x:∀ v x,((wa.setCell ⟨p,1,none⟩ v).alloc x).cell? ⟨w.heap.size,1,none⟩=some (.string ⟨#[]⟩):=fun v x=>(zaa (zbl HK.out Aa.out.1 v x 0).1).1.2.1
    have y1x:∀ v x,((wa.setCell ⟨p,1,none⟩ v).alloc x).frozen? ⟨w.heap.size,1,none⟩=false:=fun v x=>(zaa (zbl HK.out Aa.out.1 v x 0).1).2.2.1
    have z2x:∀ v x,((wa.setCell ⟨p,1,none⟩ v).alloc x).cell? ⟨w.heap.size,2,none⟩=some (.int .i64 0):=fun v x=>(zaa (zbl HK.out Aa.out.1 v x 0).1).1.2.2.1
    have y2x:∀ v x,((wa.setCell ⟨p,1,none⟩ v).alloc x).frozen? ⟨w.heap.size,2,none⟩=false:=fun v x=>(zaa (zbl HK.out Aa.out.1 v x 0).1).2.2.2.1
    have z3x:∀ v x,((wa.setCell ⟨p,1,none⟩ v).alloc x).cell? ⟨w.heap.size,3,none⟩=some (.int .i64 0):=fun v x=>(zaa (zbl HK.out Aa.out.1 v x 0).1).1.2.2.2.1
    have y3x:∀ v x,((wa.setCell ⟨p,1,none⟩ v).alloc x).frozen? ⟨w.heap.size,3,none⟩=false:=fun v x=>(zaa (zbl HK.out Aa.out.1 v x 0).1).2.2.2.2.1
    have z4x:∀ v x,((wa.setCell ⟨p,1,none⟩ v).alloc x).cell? ⟨w.heap.size,4,none⟩=some (.slice none 0 0):=fun v x=>(zaa (zbl HK.out Aa.out.1 v x 0).1).1.2.2.2.2
    have y4x:∀ v x,((wa.setCell ⟨p,1,none⟩ v).alloc x).frozen? ⟨w.heap.size,4,none⟩=false:=fun v x=>(zaa (zbl HK.out Aa.out.1 v x 0).1).2.2.2.2.2
    go_enter Tryz.func50,Tryz.ntmps50
    go_wp2_with fail
    clear hwa
    go_region
    all_goals (
     go_wp2
     obtain ⟨w9,hw9⟩:∃ x,(wa.setCell ⟨p,1,none⟩ (.int .i64 ((i:Int)+1))).alloc (.cells #[.int .i64 3,.string ⟨S.toArray⟩,.int .i64 M,.int .i64 A] 41)=x:=⟨_,rfl⟩
     rw [hw9]
     have Ae:Hid (Kep w w9 w.heap.size (kidO 0 [] 0 0 (.slice none 0 0))∧DS w9 p g cap ts d s.adv∧Sole p w w9):=by
      show _∧_
      rw [<- hw9]
      exact ⟨zbl HK.out Aa.out.1 _ _ 0,HX.out _ 0⟩
     obtain ⟨⟨z0,z1,z2,z3,z4⟩,⟨y0,y1,y2,y3,y4⟩⟩:=zaa Ae.out.1.1
     have q:=res5 w9 w.heap.size (.int .i64 28) (.string ⟨#[]⟩) (.int .i64 M) (.int .i64 A) (.slice none 0 0) z0 z1 z2 z3 z4
     have hf:=fin5 (r:=w.heap.size) (w9:=w9) (k:=28) (n:=[]) (m:=M) (a:=A) (sl:=.slice none 0 0) (Nat.le_refl _) Ae.out.2.2 _ rfl
     generalize ((((w9.setCell ⟨w.heap.size,0,none⟩ (.int .i64 28)).setCell ⟨w.heap.size,1,none⟩ (.string ⟨#[]⟩)).setCell ⟨w.heap.size,2,none⟩ (.int .i64 M)).setCell ⟨w.heap.size,3,none⟩ (.int .i64 A)).setCell ⟨w.heap.size,4,none⟩ (.slice none 0 0)=wz at q hf ⊢
     obtain ⟨q0,q1,q2,q3,q4⟩:=q
     refine bodyPost_ret (v:=.agg #[.int .i64 28,.string ⟨#[]⟩,.int .i64 M,.int .i64 A,.slice none 0 0]) (by simp [results,Tryz.results50,go_sem,q0,q1,q2,q3,q4]) rfl ?_
     rw [Ad.out]
     have hpg:=Aa.out
     exact ⟨_,rfl,zfi,(Ae.out.2.1.but hpg.1 hpg.2 hf.2).drew 1,hf.1.trans (Sole.drew p _ 1)⟩)
  · clear hb
    have z0x:∀ v x,((wa.setCell ⟨p,1,none⟩ v).alloc x).cell? ⟨w.heap.size,0,none⟩=some (.int .i64 0):=fun v x=>(zaa (zbl HK.out Aa.out.1 v x 0).1).1.1
    have y0x:∀ v x,((wa.setCell ⟨p,1,none⟩ v).alloc x).frozen? ⟨w.heap.size,0,none⟩=false:=fun v x=>(zaa (zbl HK.out Aa.out.1 v x 0).1).2.1
    have z1x:∀ v x,((wa.setCell ⟨p,1,none⟩ v).alloc x).cell? ⟨w.heap.size,1,none⟩=some (.string ⟨#[]⟩):=fun v x=>(zaa (zbl HK.out Aa.out.1 v x 0).1).1.2.1
    have y1x:∀ v x,((wa.setCell ⟨p,1,none⟩ v).alloc x).frozen? ⟨w.heap.size,1,none⟩=false:=fun v x=>(zaa (zbl HK.out Aa.out.1 v x 0).1).2.2.1
    have z2x:∀ v x,((wa.setCell ⟨p,1,none⟩ v).alloc x).cell? ⟨w.heap.size,2,none⟩=some (.int .i64 0):=fun v x=>(zaa (zbl HK.out Aa.out.1 v x 0).1).1.2.2.1
    have y2x:∀ v x,((wa.setCell ⟨p,1,none⟩ v).alloc x).frozen? ⟨w.heap.size,2,none⟩=false:=fun v x=>(zaa (zbl HK.out Aa.out.1 v x 0).1).2.2.2.1
    have z3x:∀ v x,((wa.setCell ⟨p,1,none⟩ v).alloc x).cell? ⟨w.heap.size,3,none⟩=some (.int .i64 0):=fun v x=>(zaa (zbl HK.out Aa.out.1 v x 0).1).1.2.2.2.1
    have y3x:∀ v x,((wa.setCell ⟨p,1,none⟩ v).alloc x).frozen? ⟨w.heap.size,3,none⟩=false:=fun v x=>(zaa (zbl HK.out Aa.out.1 v x 0).1).2.2.2.2.1
    have z4x:∀ v x,((wa.setCell ⟨p,1,none⟩ v).alloc x).cell? ⟨w.heap.size,4,none⟩=some (.slice none 0 0):=fun v x=>(zaa (zbl HK.out Aa.out.1 v x 0).1).1.2.2.2.2
    have y4x:∀ v x,((wa.setCell ⟨p,1,none⟩ v).alloc x).frozen? ⟨w.heap.size,4,none⟩=false:=fun v x=>(zaa (zbl HK.out Aa.out.1 v x 0).1).2.2.2.2.2
    go_enter Tryz.func50,Tryz.ntmps50
    go_wp2_with fail
    clear hwa
    go_region
    all_goals (
     go_wp2
     obtain ⟨w9,hw9⟩:∃ x,(wa.setCell ⟨p,1,none⟩ (.int .i64 ((i:Int)+1))).alloc (.cells #[.int .i64 3,.string ⟨S.toArray⟩,.int .i64 M,.int .i64 A] 41)=x:=⟨_,rfl⟩
     rw [hw9]
     have Ae:Hid (Kep w w9 w.heap.size (kidO 0 [] 0 0 (.slice none 0 0))∧DS w9 p g cap ts d s.adv∧Sole p w w9):=by
      show _∧_
      rw [<- hw9]
      exact ⟨zbl HK.out Aa.out.1 _ _ 0,HX.out _ 0⟩
     obtain ⟨⟨z0,z1,z2,z3,z4⟩,⟨y0,y1,y2,y3,y4⟩⟩:=zaa Ae.out.1.1
     have q:=res5 w9 w.heap.size (.int .i64 28) (.string ⟨#[]⟩) (.int .i64 M) (.int .i64 A) (.slice none 0 0) z0 z1 z2 z3 z4
     have hf:=fin5 (r:=w.heap.size) (w9:=w9) (k:=28) (n:=[]) (m:=M) (a:=A) (sl:=.slice none 0 0) (Nat.le_refl _) Ae.out.2.2 _ rfl
     generalize ((((w9.setCell ⟨w.heap.size,0,none⟩ (.int .i64 28)).setCell ⟨w.heap.size,1,none⟩ (.string ⟨#[]⟩)).setCell ⟨w.heap.size,2,none⟩ (.int .i64 M)).setCell ⟨w.heap.size,3,none⟩ (.int .i64 A)).setCell ⟨w.heap.size,4,none⟩ (.slice none 0 0)=wz at q hf ⊢
     obtain ⟨q0,q1,q2,q3,q4⟩:=q
     refine bodyPost_ret (v:=.agg #[.int .i64 28,.string ⟨#[]⟩,.int .i64 M,.int .i64 A,.slice none 0 0]) (by simp [results,Tryz.results50,go_sem,q0,q1,q2,q3,q4]) rfl ?_
     rw [Ad.out]
     have hpg:=Aa.out
     exact ⟨_,rfl,zfi,(Ae.out.2.1.but hpg.1 hpg.2 hf.2).drew 1,hf.1.trans (Sole.drew p _ 1)⟩)
theorem zar {B:Nat} {w:World} {t:Tree} {v:Value} (h:zah B t w v):∃ k n m a ks o l c,t=.node k n m a ks∧v=kidV k n m a (.slice o l c):=by
 obtain ⟨k,n,m,a,ks⟩:=t
 obtain ⟨sl,rfl,hl⟩:=zaf.1 h
 obtain ⟨o,l,c,rfl⟩:=hl.shape
 exact ⟨k,n,m,a,ks,o,l,c,rfl,rfl⟩
theorem zkf {B B' : Nat} {w:World} {t:Tree} {v:Value} (h:zah B t w v) (hB:B'<=B):zah B' t w v:=zae.weaken h (fun _ hb=>Nat.le_trans hB hb)
theorem bld013 (k a:Int) (s:ByteArray) (w:World):(Instr.build 29 #[(0,.int .i64 k),(1,.string s),(3,.int .i64 a)]).run Tryz.prog w=.ok (.agg #[.int .i64 k,.string s,.int .i64 0,.int .i64 a,.slice none 0 0]) w:=by kernel_rfl
theorem zal (w:World):Below w.heap.size w w.drew:=zaj (Below.refl _ _) 1
set_option maxHeartbeats 2000000 in
set_option maxRecDepth 4000 in
theorem zck (p g cap:Nat) (ts:List Tok) (hE:Ends ts) (d:Int) (s:RS) (w:World) (h:DS w p g cap ts d s):
 Calls Tryz.prog 122 #[.pointer (some ⟨p,0,none⟩)] w (zdj p g cap ts d (zah w.heap.size) (zau s) w):=by
 have Ab:Hid (p<w.heap.size∧g<w.heap.size):=⟨h.plt,h.glt⟩
 obtain ⟨R,hR⟩:∃ R,zau s=R:=⟨_,rfl⟩
 rw [hR]
 have HR:=hid (hR.symm)
 obtain ⟨wa,hwa⟩:∃ x,w.alloc (.cells #[.int .i64 0,.string ⟨#[]⟩,.int .i64 0,.int .i64 0,.slice none 0 0] 29)=x:=⟨_,rfl⟩
 have HB:Hid (Below w.heap.size w wa):=hidB hwa
 have HK:Hid (Kep w wa w.heap.size (kidO 0 [] 0 0 (.slice none 0 0))):=by show Kep _ _ _ _;rw [<- hwa];exact Kep.new (Nat.le_refl _) _
 have HD:=hid (h.below HB.out)
 clear h hR
 have HS:Hid (Sole p w wa):=Sole.of_below HB.out
 obtain ⟨i,hi,h1,hh,hs⟩:=HD.out.at_
 have An:Hid (DP wa p g cap ts i d s.e s.pl∧s.hd=ts[i]∧s.ts=ts.drop i):=⟨h1,hh,hs⟩
 have Ag:Hid ((i:Int)<=16001):=by show _<=_;have:=h1.ln;omega
 have hl:=h1.look hi
 obtain ⟨E0,hE0⟩:∃ x,s.e=x:=⟨_,rfl⟩
 obtain ⟨K,hK⟩:∃ x,ts[i].kind=x:=⟨_,rfl⟩
 obtain ⟨M,hM⟩:∃ x,ts[i].num=x:=⟨_,rfl⟩
 obtain ⟨A,hA⟩:∃ x,ts[i].at_=x:=⟨_,rfl⟩
 obtain ⟨S,hS⟩:∃ x,ts[i].text=x:=⟨_,rfl⟩
 rw [hE0,hK,hM,hA,hS] at hl
 have HF:Hid (s.e=E0∧s.hd.kind=K∧s.hd.num=M∧s.hd.at_=A∧s.hd.text=S):=⟨hE0,by rw [hh];exact hK,by rw [hh];exact hM,by rw [hh];exact hA,by rw [hh];exact hS⟩
 clear hE0 hK hM hA hS hh hs h1
 obtain ⟨hp,hg,hi',c0,c1,c3,t0,t1,t2,t3,f1⟩:=hl
 have c1x:∀ x,(wa.alloc x).cell? ⟨p,1,none⟩=some (.int .i64 i):=fun x=>by rw [World.cell?_alloc_lt _ _ _ hp];exact c1
 have c3x:∀ x,(wa.alloc x).cell? ⟨p,3,none⟩=some (.int .i64 E0):=fun x=>by rw [World.cell?_alloc_lt _ _ _ hp];exact c3
 have f1x:∀ x,(wa.alloc x).frozen? ⟨p,1,none⟩=false:=fun x=>by rw [World.frozen?_alloc_old _ _ _ (Nat.ne_of_lt hp)];exact f1
 have Ao:Hid (∀ x k,Below wa.heap.size wa ((wa.alloc x).drewN k)):=fun x k=>zaj (zac wa x) k
 have hne:¬ p=wa.heap.size:=by omega
 have hne2:¬ wa.heap.size=p:=by omega
 have him:=Ag.out
 have qb:=bld013
 by_cases hk:K=1
 case neg =>
  have hk2:(K==1)=false:=by simp [hk]
  have Ac:Hid (R=zav false s):=by
   show _=_
   rw [HR.out];unfold zau
   rw [HF.out.2.1,hk2];rfl
  go_enter Tryz.func122,Tryz.ntmps122
  go_wp2_with fail
  clear hwa
  go_region
  all_goals (
   go_wp2_with fail
   have Ah:=hid (Kep.lt HK.out)
   have Ap:=hid (Sole.size HS.out)
   refine (zcf p g cap ts hE d false s _ (HD.out.below (zal _))).mono ?_
   rintro e w1 ⟨v,rfl,hv,hD,hS⟩
   have Ae:=hid ((Sole.of_below (p:=p) (zal _)).trans hS)
   have Ai:=hid hD
   have Aj:=hid (HS.out.trans Ae.out)
   have Ad:=hid (HK.out.sole Ab.out.1 Ae.out)
   obtain ⟨k1,n1,m1,a1,ks1,o1,l1,c1,he1,rfl⟩:=zar hv
   have Aq:=hid he1
   clear he1
   have Ak:=hid (zkf hv (Below.size (zal _)))
   clear hv hD hS
   obtain ⟨⟨z0,z1,z2,z3,z4⟩,⟨y0,y1,y2,y3,y4⟩⟩:=zaa Ad.out.1
   unfold kidV
   go_wp2
   refine ret5 z0 z1 z2 z3 z4 rfl (fun u q0 q1 q2 q3 q4=>by simp [results,Tryz.results122,go_sem,q0,q1,q2,q3,q4]) (Nat.le_refl _) Aj.out ?_
   intro wz hf
   rw [Ac.out]
   have hpg:=Ab.out
   have hbs:=Ah.out
   exact ⟨_,rfl,Ak.out.but (by omega) (by omega) (fun b _ hb=>hf.2 b hb),Ai.out.but hpg.1 hpg.2 hf.2,hf.1⟩)
 have Ac:Hid (R=(.node 27 (zaz s).1.1 0 (zaz s).1.2 [],(zaz s).2)):=by
  show _=_
  rw [HR.out];unfold zau
  rw [HF.out.2.1,hk];rfl
 subst hk
 go_enter Tryz.func122,Tryz.ntmps122
 go_wp2_with fail
 clear hwa
 go_region
 all_goals (
  go_wp2_with fail
  refine (zcm p g cap ts hE d s _ (HD.out.below (zal _))).mono ?_
  rintro e w2 ⟨v,rfl,rfl,hD,hS⟩
  have Af:=hid ((Sole.of_below (p:=p) (zal _)).trans hS)
  have Al:=hid hD
  have Am:=hid (HS.out.trans Af.out)
  have Aa:=hid (HK.out.sole Ab.out.1 Af.out)
  clear hD hS
  obtain ⟨nm,hnm⟩:∃ x,(zaz s).1.1=x:=⟨_,rfl⟩
  obtain ⟨na,hna⟩:∃ x,(zaz s).1.2=x:=⟨_,rfl⟩
  rw [hnm,hna] at Ac
  rw [hnm,hna]
  clear hnm hna
  obtain ⟨⟨z0,z1,z2,z3,z4⟩,⟨y0,y1,y2,y3,y4⟩⟩:=zaa Aa.out.1
  go_wp2
  refine ret5 z0 z1 z2 z3 z4 rfl (fun u q0 q1 q2 q3 q4=>by simp [results,Tryz.results122,go_sem,q0,q1,q2,q3,q4]) Aa.out.2 Am.out ?_
  intro wz hf
  rw [Ac.out]
  have hr2:=Aa.out.2
  have hpg:=Ab.out
  exact ⟨_,rfl,zfi,Al.out.but (by omega) (by omega) hf.2,hf.1⟩)
theorem base_any (x:List UInt8) (w:World):Calls Tryz.prog 153 #[.string ⟨x.toArray⟩] w fun e w'=>e=.returned (.int .i64 (baseD x))∧w'=w:=by
 obtain ⟨s,hs⟩:∃ y:ByteArray,(⟨x.toArray⟩:ByteArray)=y:=⟨_,rfl⟩
 have hx:s.toList=x:=by rw [<- hs,ByteArray.toList_mk]
 rw [hs]
 unfold baseD wInt zfb zl8 zi0 wBool
 rw [<- hx]
 clear hx hs
 cases h0:(s.toList==[105,110,116])
 case true =>
  go_enter Tryz.func153,Tryz.ntmps153
  go_wp2
  go_ret
  exact ⟨rfl,rfl⟩
 cases h1:(s.toList==[104,121,112,101,114])
 case true =>
  go_enter Tryz.func153,Tryz.ntmps153
  go_wp2
  go_ret
  exact ⟨rfl,rfl⟩
 cases h2:(s.toList==[102,108,111,97,116])
 case true =>
  go_enter Tryz.func153,Tryz.ntmps153
  go_wp2
  go_ret
  exact ⟨rfl,rfl⟩
 cases h3:(s.toList==[100,111,117,98,108,101])
 case true =>
  go_enter Tryz.func153,Tryz.ntmps153
  go_wp2
  go_ret
  exact ⟨rfl,rfl⟩
 cases h4:(s.toList==[98,111,111,108])
 case true =>
  go_enter Tryz.func153,Tryz.ntmps153
  go_wp2
  go_ret
  exact ⟨rfl,rfl⟩
 go_enter Tryz.func153,Tryz.ntmps153
 go_wp2
 go_ret
 exact ⟨rfl,rfl⟩
set_option maxHeartbeats 2000000 in
set_option maxRecDepth 4000 in
theorem bodied_core (p g cap n i:Nat) (e k m:Int) (s:ByteArray) (a:Nat) (w:World) (hl:Look w p g cap n i e k m s a):
 Calls Tryz.prog 44 #[.pointer (some ⟨p,0,none⟩)] w fun e w'=>e=.returned (.int .i64 (if k==2 then zhb s.toList else 0))∧Below w.heap.size w w':=by
 obtain ⟨hp,hg,hi,c0,c1,c3,t0,t1,t2,t3,_⟩:=hl
 have HB:Hid (∀ x k,Below w.heap.size w ((w.alloc x).drewN k)):=fun x k=>zaj (zac w x) k
 by_cases hk:k=2
 case neg =>
  rw [show (k==2)=false by simp [hk]]
  go_enter Tryz.func44,Tryz.ntmps44
  go_wp2_with fail
  go_region
  all_goals (
   go_wp2
   go_ret
   exact ⟨rfl,HB.out _ 1⟩)
 subst hk
 unfold zhb zd6 zbm zer
 cases h0:(s.toList==[101,110,117,109])
 case true =>
  go_enter Tryz.func44,Tryz.ntmps44
  go_wp2_with fail
  go_region
  all_goals (
   go_wp2
   go_ret
   exact ⟨rfl,HB.out _ 1⟩)
 cases h1:(s.toList==[115,116,114,117,99,116])
 case true =>
  go_enter Tryz.func44,Tryz.ntmps44
  go_wp2_with fail
  go_region
  all_goals (
   go_wp2
   go_ret
   exact ⟨rfl,HB.out _ 1⟩)
 cases h2:(s.toList==[117,110,105,111,110])
 case true =>
  go_enter Tryz.func44,Tryz.ntmps44
  go_wp2_with fail
  go_region
  all_goals (
   go_wp2
   go_ret
   exact ⟨rfl,HB.out _ 1⟩)
 go_enter Tryz.func44,Tryz.ntmps44
 go_wp2_with fail
 go_region
 all_goals (
  go_wp2
  go_ret
  exact ⟨rfl,HB.out _ 1⟩)
theorem zep (p g cap:Nat) (ts:List Tok) (d:Int) (s:RS) (w:World) (h:DS w p g cap ts d s):Calls Tryz.prog 44 #[.pointer (some ⟨p,0,none⟩)] w fun e w'=>e=.returned (.int .i64 s.bodied)∧Below w.heap.size w w':=by
 obtain ⟨i,hi,h1,hh,hs⟩:=h.at_
 unfold RS.bodied
 rw [hh]
 have h2:=bodied_core p g cap ts.length i s.e _ _ _ _ w (h1.look hi)
 rw [ByteArray.toList_mk] at h2
 exact h2
set_option maxHeartbeats 2000000 in
set_option maxRecDepth 4000 in
theorem begins_core (p g cap n i:Nat) (e k m:Int) (s:ByteArray) (a:Nat) (z:Int) (w:World) (hl:Look w p g cap n i e k m s a) (HZ:Hid (∀ w,Calls Tryz.prog 153 #[.string s] w fun e w'=>e=.returned (.int .i64 z)∧w'=w)):
 Calls Tryz.prog 127 #[.pointer (some ⟨p,0,none⟩)] w fun e w'=>e=.returned (.bool (k==1||(k==2&&(s.toList==[117,110,115,105,103,110,101,100]||z != 0))))∧Below w.heap.size w w':=by
 obtain ⟨hp,hg,hi,c0,c1,c3,t0,t1,t2,t3,_⟩:=hl
 have HB:Hid (∀ x k,Below w.heap.size w ((w.alloc x).drewN k)):=fun x k=>zaj (zac w x) k
 by_cases h1:k=1
 case pos =>
  subst h1
  go_enter Tryz.func127,Tryz.ntmps127
  go_wp2_with fail
  go_region
  all_goals (
   go_wp2
   go_ret
   exact ⟨rfl,HB.out _ 1⟩)
 have h1b:(k==1)=false:=by simp [h1]
 rw [h1b]
 by_cases h2:k=2
 case neg =>
  have h2b:(k==2)=false:=by simp [h2]
  rw [h2b]
  go_enter Tryz.func127,Tryz.ntmps127
  go_wp2_with fail
  go_region
  all_goals (
   go_wp2
   go_ret
   exact ⟨rfl,HB.out _ 1⟩)
 subst h2
 clear h1 h1b
 cases h3:(s.toList==[117,110,115,105,103,110,101,100])
 case true =>
  go_enter Tryz.func127,Tryz.ntmps127
  go_wp2_with fail
  go_region
  all_goals (
   go_wp2
   go_ret
   exact ⟨rfl,HB.out _ 1⟩)
 by_cases hz:z=0
 · subst hz
   go_enter Tryz.func127,Tryz.ntmps127
   go_wp2_with fail
   go_region
   all_goals (
    go_wp2_with fail
    refine (HZ.out _).mono ?_
    rintro e w2 ⟨rfl,hw2⟩
    rw [hw2]
    clear hw2
    go_wp2
    go_ret
    exact ⟨rfl,HB.out _ 1⟩)
 · have hzb:(z != 0)=true:=by simp [hz]
   rw [hzb]
   go_enter Tryz.func127,Tryz.ntmps127
   go_wp2_with fail
   go_region
   all_goals (
    go_wp2_with fail
    refine (HZ.out _).mono ?_
    rintro e w2 ⟨rfl,hw2⟩
    rw [hw2]
    clear hw2
    go_wp2
    go_ret
    exact ⟨rfl,HB.out _ 1⟩)
theorem ze7 (p g cap:Nat) (ts:List Tok) (d:Int) (s:RS) (w:World) (h:DS w p g cap ts d s):Calls Tryz.prog 127 #[.pointer (some ⟨p,0,none⟩)] w fun e w'=>e=.returned (.bool s.begins)∧Below w.heap.size w w':=by
 obtain ⟨i,hi,h1,hh,hs⟩:=h.at_
 unfold RS.begins
 rw [hh]
 have h2:=begins_core p g cap ts.length i s.e _ _ _ _ (baseD ts[i].text) w (h1.look hi) (fun w=>base_any _ w)
 rw [ByteArray.toList_mk] at h2
 exact h2
theorem zgf (w:World) (x y:Obj) (k:Nat):(((w.alloc x).alloc y).drewN k).heap[w.heap.size]?=some x∧(((w.alloc x).alloc y).drewN k).heap[w.heap.size+1]?=some y:=by
 constructor
 · show ((w.alloc x).alloc y).heap[w.heap.size]?=some x
   exact za9 (heap_alloc_new w x)
 · show ((w.alloc x).alloc y).heap[w.heap.size+1]?=some y
   have h:=heap_alloc_new (w.alloc x) y
   rw [show (w.alloc x).heap.size=w.heap.size+1 by simp] at h
   exact h
theorem zcx (w:World) (x y:Obj) (k:Nat):Below w.heap.size w (((w.alloc x).alloc y).drewN k):=zaj ((zac w x).alloc (by simp) y) k
theorem DS.set {w:World} {p g cap:Nat} {ts:List Tok} {d:Int} {s:RS} {r:Nat} (h:DS w p g cap ts d s) (hp:p<r) (hg:g<r) (o:Nat) (v:Value):DS (w.setCell ⟨r,o,none⟩ v) p g cap ts d s:=h.but hp hg (fun _ hb=>Below.heap_setCell _ _ _ _ hb)
theorem Sole.set {p:Nat} {w cur:World} {r:Nat} (h:Sole p w cur) (hr:w.heap.size<=r) (o:Nat) (v:Value):Sole p w (cur.setCell ⟨r,o,none⟩ v):=h.below_after ((Below.refl _ _).setCell hr _)
theorem zci {w cur:World} {r b:Nat} {o:Obj} (h:Kep w cur b o) (hr:b≠r) (j:Nat) (v:Value):Kep w (cur.setCell ⟨r,j,none⟩ v) b o:=⟨(Below.heap_setCell _ _ _ _ hr).trans h.1,h.2⟩
set_option maxHeartbeats 2000000 in
set_option maxRecDepth 4000 in
theorem zno (p g cap n i:Nat) (e k m:Int) (S:List UInt8) (sb:ByteArray) (hsb:sb=⟨S.toArray⟩) (a:Nat) (z:Int) (b:Bool) (w:World) (hl:Look w p g cap n i e k m sb a)
 (HZ:Hid (∀ w1,Below w.heap.size w w1->Calls Tryz.prog 44 #[.pointer (some ⟨p,0,none⟩)] w1 fun e w'=>e=.returned (.int .i64 z)∧Below w1.heap.size w1 w')) (HQ:Hid (∀ w1,Below w.heap.size w w1->Calls Tryz.prog 127 #[.pointer (some ⟨p,0,none⟩)] w1 fun e w'=>e=.returned (.bool b)∧Below w1.heap.size w1 w')):
 Calls Tryz.prog 123 #[.pointer (some ⟨p,0,none⟩)] w fun e w'=>e=.returned (.bool (z != 0||(b||(k==2&&(sb.toList==[118,111,105,100]||(sb.toList==[111,112,97,113,117,101]||sb.toList==[115,116,114,105,110,103]))))))∧Below w.heap.size w w':=by
 obtain ⟨hp,hg,hi,c0,c1,c3,t0,t1,t2,t3,_⟩:=hl
 have Ac:=hid (hsb)
 clear hsb
 have HB:Hid (∀ x k,Below w.heap.size w ((w.alloc x).drewN k)):=fun x k=>zaj (zac w x) k
 by_cases hz:z=0
 case neg =>
  have hzb:(z != 0)=true:=by simp [hz]
  rw [hzb]
  go_enter Tryz.func123,Tryz.ntmps123
  go_wp2_with fail
  go_region
  all_goals (
   go_wp2_with fail
   refine (HZ.out _ (HB.out _ 1)).mono ?_
   rintro e w1 ⟨rfl,hB1⟩
   have Aa:Hid (w1.heap[w.heap.size]?=some (.cells #[.int .i64 k,.string sb,.int .i64 m,.int .i64 a] 41 (0,0))∧Below w.heap.size w w1):=⟨zao hB1 (heap_alloc_new w _),(HB.out _ 1).trans (hB1.mono (HB.out _ 1).size)⟩
   clear hB1
   go_wp2_with fail
   refine (HQ.out _ Aa.out.2).mono ?_
   rintro e w2 ⟨rfl,hB2⟩
   have Ab:Hid (w2.heap[w.heap.size]?=some (.cells #[.int .i64 k,.string sb,.int .i64 m,.int .i64 a] 41 (0,0))∧Below w.heap.size w w2):=⟨zao hB2 Aa.out.1,Aa.out.2.trans (hB2.mono Aa.out.2.size)⟩
   clear hB2
   have x0:w2.cell? ⟨w.heap.size,0,none⟩=some (.int .i64 k):=by simp [World.cell?,Ab.out.1]
   have x1:w2.cell? ⟨w.heap.size,1,none⟩=some (.string sb):=by simp [World.cell?,Ab.out.1]
   go_wp2
   go_ret
   exact ⟨rfl,Ab.out.2⟩)
 subst hz
 cases b
 case true =>
  go_enter Tryz.func123,Tryz.ntmps123
  go_wp2_with fail
  go_region
  all_goals (
   go_wp2_with fail
   refine (HZ.out _ (HB.out _ 1)).mono ?_
   rintro e w1 ⟨rfl,hB1⟩
   have Aa:Hid (w1.heap[w.heap.size]?=some (.cells #[.int .i64 k,.string sb,.int .i64 m,.int .i64 a] 41 (0,0))∧Below w.heap.size w w1):=⟨zao hB1 (heap_alloc_new w _),(HB.out _ 1).trans (hB1.mono (HB.out _ 1).size)⟩
   clear hB1
   go_wp2_with fail
   refine (HQ.out _ Aa.out.2).mono ?_
   rintro e w2 ⟨rfl,hB2⟩
   have Ab:Hid (w2.heap[w.heap.size]?=some (.cells #[.int .i64 k,.string sb,.int .i64 m,.int .i64 a] 41 (0,0))∧Below w.heap.size w w2):=⟨zao hB2 Aa.out.1,Aa.out.2.trans (hB2.mono Aa.out.2.size)⟩
   clear hB2
   have x0:w2.cell? ⟨w.heap.size,0,none⟩=some (.int .i64 k):=by simp [World.cell?,Ab.out.1]
   have x1:w2.cell? ⟨w.heap.size,1,none⟩=some (.string sb):=by simp [World.cell?,Ab.out.1]
   go_wp2
   go_ret
   exact ⟨rfl,Ab.out.2⟩)
 by_cases hk:k=2
 case neg =>
  have hkb:(k==2)=false:=by simp [hk]
  rw [hkb]
  go_enter Tryz.func123,Tryz.ntmps123
  go_wp2_with fail
  go_region
  all_goals (
   go_wp2_with fail
   refine (HZ.out _ (HB.out _ 1)).mono ?_
   rintro e w1 ⟨rfl,hB1⟩
   have Aa:Hid (w1.heap[w.heap.size]?=some (.cells #[.int .i64 k,.string sb,.int .i64 m,.int .i64 a] 41 (0,0))∧Below w.heap.size w w1):=⟨zao hB1 (heap_alloc_new w _),(HB.out _ 1).trans (hB1.mono (HB.out _ 1).size)⟩
   clear hB1
   go_wp2_with fail
   refine (HQ.out _ Aa.out.2).mono ?_
   rintro e w2 ⟨rfl,hB2⟩
   have Ab:Hid (w2.heap[w.heap.size]?=some (.cells #[.int .i64 k,.string sb,.int .i64 m,.int .i64 a] 41 (0,0))∧Below w.heap.size w w2):=⟨zao hB2 Aa.out.1,Aa.out.2.trans (hB2.mono Aa.out.2.size)⟩
   clear hB2
   have x0:w2.cell? ⟨w.heap.size,0,none⟩=some (.int .i64 k):=by simp [World.cell?,Ab.out.1]
   have x1:w2.cell? ⟨w.heap.size,1,none⟩=some (.string sb):=by simp [World.cell?,Ab.out.1]
   go_wp2
   go_ret
   exact ⟨rfl,Ab.out.2⟩)
 subst hk
 cases h0:(sb.toList==[118,111,105,100])
 case true =>
  go_enter Tryz.func123,Tryz.ntmps123
  go_wp2_with fail
  go_region
  all_goals (
   go_wp2_with fail
   refine (HZ.out _ (HB.out _ 1)).mono ?_
   rintro e w1 ⟨rfl,hB1⟩
   have Aa:Hid (w1.heap[w.heap.size]?=some (.cells #[.int .i64 2,.string sb,.int .i64 m,.int .i64 a] 41 (0,0))∧Below w.heap.size w w1):=⟨zao hB1 (heap_alloc_new w _),(HB.out _ 1).trans (hB1.mono (HB.out _ 1).size)⟩
   clear hB1
   go_wp2_with fail
   refine (HQ.out _ Aa.out.2).mono ?_
   rintro e w2 ⟨rfl,hB2⟩
   have Ab:Hid (w2.heap[w.heap.size]?=some (.cells #[.int .i64 2,.string sb,.int .i64 m,.int .i64 a] 41 (0,0))∧Below w.heap.size w w2):=⟨zao hB2 Aa.out.1,Aa.out.2.trans (hB2.mono Aa.out.2.size)⟩
   clear hB2
   have x0:w2.cell? ⟨w.heap.size,0,none⟩=some (.int .i64 2):=by simp [World.cell?,Ab.out.1]
   have x1:w2.cell? ⟨w.heap.size,1,none⟩=some (.string sb):=by simp [World.cell?,Ab.out.1]
   go_wp2
   go_ret
   exact ⟨rfl,Ab.out.2⟩)
 cases h1:(sb.toList==[111,112,97,113,117,101])
 case true =>
  go_enter Tryz.func123,Tryz.ntmps123
  go_wp2_with fail
  go_region
  all_goals (
   go_wp2_with fail
   refine (HZ.out _ (HB.out _ 1)).mono ?_
   rintro e w1 ⟨rfl,hB1⟩
   have Aa:Hid (w1.heap[w.heap.size]?=some (.cells #[.int .i64 2,.string sb,.int .i64 m,.int .i64 a] 41 (0,0))∧Below w.heap.size w w1):=⟨zao hB1 (heap_alloc_new w _),(HB.out _ 1).trans (hB1.mono (HB.out _ 1).size)⟩
   clear hB1
   go_wp2_with fail
   refine (HQ.out _ Aa.out.2).mono ?_
   rintro e w2 ⟨rfl,hB2⟩
   have Ab:Hid (w2.heap[w.heap.size]?=some (.cells #[.int .i64 2,.string sb,.int .i64 m,.int .i64 a] 41 (0,0))∧Below w.heap.size w w2):=⟨zao hB2 Aa.out.1,Aa.out.2.trans (hB2.mono Aa.out.2.size)⟩
   clear hB2
   have x0:w2.cell? ⟨w.heap.size,0,none⟩=some (.int .i64 2):=by simp [World.cell?,Ab.out.1]
   have x1:w2.cell? ⟨w.heap.size,1,none⟩=some (.string sb):=by simp [World.cell?,Ab.out.1]
   go_wp2
   go_ret
   exact ⟨rfl,Ab.out.2⟩)
 cases h2:(sb.toList==[115,116,114,105,110,103])
 case true =>
  go_enter Tryz.func123,Tryz.ntmps123
  go_wp2_with fail
  go_region
  all_goals (
   go_wp2_with fail
   refine (HZ.out _ (HB.out _ 1)).mono ?_
   rintro e w1 ⟨rfl,hB1⟩
   have Aa:Hid (w1.heap[w.heap.size]?=some (.cells #[.int .i64 2,.string sb,.int .i64 m,.int .i64 a] 41 (0,0))∧Below w.heap.size w w1):=⟨zao hB1 (heap_alloc_new w _),(HB.out _ 1).trans (hB1.mono (HB.out _ 1).size)⟩
   clear hB1
   go_wp2_with fail
   refine (HQ.out _ Aa.out.2).mono ?_
   rintro e w2 ⟨rfl,hB2⟩
   have Ab:Hid (w2.heap[w.heap.size]?=some (.cells #[.int .i64 2,.string sb,.int .i64 m,.int .i64 a] 41 (0,0))∧Below w.heap.size w w2):=⟨zao hB2 Aa.out.1,Aa.out.2.trans (hB2.mono Aa.out.2.size)⟩
   clear hB2
   have x0:w2.cell? ⟨w.heap.size,0,none⟩=some (.int .i64 2):=by simp [World.cell?,Ab.out.1]
   have x1:w2.cell? ⟨w.heap.size,1,none⟩=some (.string sb):=by simp [World.cell?,Ab.out.1]
   go_wp2
   go_ret
   exact ⟨rfl,Ab.out.2⟩)
 go_enter Tryz.func123,Tryz.ntmps123
 go_wp2_with fail
 go_region
 all_goals (
  go_wp2_with fail
  refine (HZ.out _ (HB.out _ 1)).mono ?_
  rintro e w1 ⟨rfl,hB1⟩
  have Aa:Hid (w1.heap[w.heap.size]?=some (.cells #[.int .i64 2,.string sb,.int .i64 m,.int .i64 a] 41 (0,0))∧Below w.heap.size w w1):=⟨zao hB1 (heap_alloc_new w _),(HB.out _ 1).trans (hB1.mono (HB.out _ 1).size)⟩
  clear hB1
  go_wp2_with fail
  refine (HQ.out _ Aa.out.2).mono ?_
  rintro e w2 ⟨rfl,hB2⟩
  have Ab:Hid (w2.heap[w.heap.size]?=some (.cells #[.int .i64 2,.string sb,.int .i64 m,.int .i64 a] 41 (0,0))∧Below w.heap.size w w2):=⟨zao hB2 Aa.out.1,Aa.out.2.trans (hB2.mono Aa.out.2.size)⟩
  clear hB2
  have x0:w2.cell? ⟨w.heap.size,0,none⟩=some (.int .i64 2):=by simp [World.cell?,Ab.out.1]
  have x1:w2.cell? ⟨w.heap.size,1,none⟩=some (.string sb):=by simp [World.cell?,Ab.out.1]
  go_wp2
  go_ret
  exact ⟨rfl,Ab.out.2⟩)
theorem declares_any (p g cap:Nat) (ts:List Tok) (d:Int) (s:RS) (w:World) (h:DS w p g cap ts d s):Calls Tryz.prog 123 #[.pointer (some ⟨p,0,none⟩)] w fun e w'=>e=.returned (.bool s.declares)∧Below w.heap.size w w':=by
 obtain ⟨i,hi,h1,hh,hs⟩:=h.at_
 unfold RS.declares
 have h2:=zno p g cap ts.length i s.e _ _ ts[i].text _ rfl _ s.bodied s.begins w (h1.look hi) (fun w1 hB=>zep p g cap ts d s w1 (h.below hB)) (fun w1 hB=>ze7 p g cap ts d s w1 (h.below hB))
 rw [ByteArray.toList_mk] at h2
 rw [hh]
 exact h2
theorem bld3 (a:Int) (w:World):(Instr.build 29 #[(3,.int .i64 a)]).run Tryz.prog w=.ok (.agg #[.int .i64 0,.string ⟨#[]⟩,.int .i64 0,.int .i64 a,.slice none 0 0]) w:=by kernel_rfl
/-- a bare type, behind what was looked at -/
def bareR (s:RS) (b:Bool):Tree × RS:=
 if s.e==0&&b then
  if s.hd.kind==1 then (.node 27 s.hd.text 0 s.hd.at_ [],s.adv)
  else if s.hd.text==zbj then
   if s.adv.is wInt then (.node 19 [] 0 s.hd.at_ [],s.adv.adv) else (.node 21 [] 0 s.hd.at_ [],s.adv.want zfb)
  else (.node (baseD s.hd.text) [] 0 s.hd.at_ [],s.adv)
 else (.node 0 [] 0 s.hd.at_ [],s.fail 40)
set_option maxHeartbeats 2000000 in
set_option maxRecDepth 4000 in
theorem zgc (p g cap:Nat) (ts:List Tok) (hE:Ends ts) (d:Int) (s:RS) (w:World) (h:DS w p g cap ts d s):
 Calls Tryz.prog 125 #[.pointer (some ⟨p,0,none⟩)] w (zdj p g cap ts d (zah w.heap.size) (zed s) w):=by
 rw [show zed s=bareR s s.begins from rfl]
 have Aa:Hid (p<w.heap.size∧g<w.heap.size):=⟨h.plt,h.glt⟩
 obtain ⟨R,hR⟩:∃ R,bareR s s.begins=R:=⟨_,rfl⟩
 rw [hR]
 have HR:=hid (hR.symm)
 obtain ⟨wa,hwa⟩:∃ x,w.alloc (.cells #[.int .i64 0,.string ⟨#[]⟩,.int .i64 0,.int .i64 0,.slice none 0 0] 29)=x:=⟨_,rfl⟩
 have HB:Hid (Below w.heap.size w wa):=hidB hwa
 have HK:Hid (Kep w wa w.heap.size (kidO 0 [] 0 0 (.slice none 0 0))):=by show Kep _ _ _ _;rw [<- hwa];exact Kep.new (Nat.le_refl _) _
 have HD:=hid (h.below HB.out)
 clear h hR
 have HS:Hid (Sole p w wa):=Sole.of_below HB.out
 obtain ⟨i,hi,h1,hh,hs⟩:=HD.out.at_
 have Ak:Hid (DP wa p g cap ts i d s.e s.pl∧s.hd=ts[i]∧s.ts=ts.drop i):=⟨h1,hh,hs⟩
 have Bb:Hid ((i:Int)<=16001):=by show _<=_;have:=h1.ln;omega
 have hl:=h1.look hi
 obtain ⟨E0,hE0⟩:∃ x,s.e=x:=⟨_,rfl⟩
 obtain ⟨K,hK⟩:∃ x,ts[i].kind=x:=⟨_,rfl⟩
 obtain ⟨M,hM⟩:∃ x,ts[i].num=x:=⟨_,rfl⟩
 obtain ⟨A,hA⟩:∃ x,ts[i].at_=x:=⟨_,rfl⟩
 obtain ⟨S,hS⟩:∃ x,ts[i].text=x:=⟨_,rfl⟩
 rw [hE0,hK,hM,hA,hS] at hl
 have HF:Hid (s.e=E0∧s.hd.kind=K∧s.hd.num=M∧s.hd.at_=A∧s.hd.text=S):=⟨hE0,by rw [hh];exact hK,by rw [hh];exact hM,by rw [hh];exact hA,by rw [hh];exact hS⟩
 clear hE0 hK hM hA hS hh hs h1
 obtain ⟨hp,hg,hi',c0,c1,c3,t0,t1,t2,t3,f1⟩:=hl
 have c1x:∀ x,(wa.alloc x).cell? ⟨p,1,none⟩=some (.int .i64 i):=fun x=>by rw [World.cell?_alloc_lt _ _ _ hp];exact c1
 have c3x:∀ x,(wa.alloc x).cell? ⟨p,3,none⟩=some (.int .i64 E0):=fun x=>by rw [World.cell?_alloc_lt _ _ _ hp];exact c3
 have f1x:∀ x,(wa.alloc x).frozen? ⟨p,1,none⟩=false:=fun x=>by rw [World.frozen?_alloc_old _ _ _ (Nat.ne_of_lt hp)];exact f1
 have Be:Hid (∀ x k,Below wa.heap.size wa ((wa.alloc x).drewN k)):=fun x k=>zaj (zac wa x) k
 have hne:¬ p=wa.heap.size:=by omega
 have hne2:¬ wa.heap.size=p:=by omega
 have him:=Bb.out
 obtain ⟨BG,hBG⟩:∃ x,s.begins=x:=⟨_,rfl⟩
 have Am:=hid hBG
 rw [hBG] at HR
 clear hBG
 have q3:=bld3
 have Ax:Hid (BG=true->s.hd.kind≠5∨s.hd.text≠[]):=fun h=>Or.inl (by
  intro h5
  have:=Am.out
  unfold RS.begins at this
  rw [h5,h] at this
  revert this
  simp)
 obtain ⟨sb,hsb⟩:∃ y:ByteArray,(⟨S.toArray⟩:ByteArray)=y:=⟨_,rfl⟩
 have Aq:Hid (sb=⟨S.toArray⟩∧sb.toList=S):=⟨hsb.symm,by rw [<- hsb,ByteArray.toList_mk]⟩
 rw [hsb] at t1
 clear hsb
 by_cases he:E0=0
 case neg =>
  have Ai:Hid (R=(.node 0 [] 0 A [],s.fail 40)):=by
   show _=_
   rw [HR.out];unfold bareR
   rw [HF.out.1,HF.out.2.2.2.1,show (E0==0)=false by simp [he]];rfl
  go_enter Tryz.func125,Tryz.ntmps125
  go_wp2_with fail
  clear hwa
  go_region
  all_goals (
   go_wp2_with fail
   refine (ze7 p g cap ts d s _ (HD.out.below (zcx wa _ _ 1))).mono ?_
   rintro e w1 ⟨rfl,hB⟩
   have Ac:Hid (w1.heap[wa.heap.size]?=some (.cells #[.int .i64 K,.string sb,.int .i64 M,.int .i64 A] 41 (0,0))∧w1.heap[wa.heap.size+1]?=some (kidO 0 [] 0 A (.slice none 0 0))):=⟨zao hB (zgf wa _ _ 1).1,zao hB (zgf wa _ _ 1).2⟩
   have Ab:Hid (Below wa.heap.size wa w1):=(zcx wa _ _ 1).trans (hB.mono (zcx wa _ _ 1).size)
   have Af:=hid (HK.out.below Ab.out)
   have Aj:=hid (HS.out.trans (Sole.of_below Ab.out))
   have An:=hid (HD.out.below Ab.out)
   have Ae:Hid (Kep w w1 (wa.heap.size+1) (kidO 0 [] 0 A (.slice none 0 0))):=⟨Ac.out.2,Nat.le_trans HS.out.size (by omega)⟩
   have Ag:=hid (Ak.out.1.below Ab.out)
   rw [Am.out]
   clear hB
   obtain ⟨⟨_,_,_,p3,_⟩,_⟩:=zb2 Ag.out.blk
   rw [HF.out.1] at p3
   go_wp2_with fail
   refine (zbu p g cap ts d 40 s _ An.out).mono ?_
   rintro e w2 ⟨rfl,hD,hS⟩
   have Ao:=hid hD
   have Ap:=hid (Aj.out.trans hS)
   have Ah:=hid (Af.out.sole Aa.out.1 hS)
   have Ad:=hid (Ae.out.sole Aa.out.1 hS)
   clear hD hS
   obtain ⟨⟨x0,x1,x2,x3,x4⟩,_⟩:=zaa Ad.out.1
   obtain ⟨⟨z0,z1,z2,z3,z4⟩,⟨y0,y1,y2,y3,y4⟩⟩:=zaa Ah.out.1
   go_wp2
   refine ret5 (n:=[]) z0 z1 z2 z3 z4 rfl (fun u q0 q1 q2 q3 q4=>by simp [results,Tryz.results125,go_sem,q0,q1,q2,q3,q4]) Ah.out.2 Ap.out ?_
   intro wz hf
   rw [Ai.out]
   have hr2:=Ah.out.2
   have hpg:=Aa.out
   exact ⟨_,rfl,zfi,Ao.out.but (by omega) (by omega) hf.2,hf.1⟩)
 subst he
 cases BG with
 | false =>
  have Ai:Hid (R=(.node 0 [] 0 A [],s.fail 40)):=by
   show _=_
   rw [HR.out];unfold bareR
   rw [HF.out.2.2.2.1];simp
  go_enter Tryz.func125,Tryz.ntmps125
  go_wp2_with fail
  clear hwa
  go_region
  all_goals (
   go_wp2_with fail
   refine (ze7 p g cap ts d s _ (HD.out.below (zcx wa _ _ 1))).mono ?_
   rintro e w1 ⟨rfl,hB⟩
   have Ac:Hid (w1.heap[wa.heap.size]?=some (.cells #[.int .i64 K,.string sb,.int .i64 M,.int .i64 A] 41 (0,0))∧w1.heap[wa.heap.size+1]?=some (kidO 0 [] 0 A (.slice none 0 0))):=⟨zao hB (zgf wa _ _ 1).1,zao hB (zgf wa _ _ 1).2⟩
   have Ab:Hid (Below wa.heap.size wa w1):=(zcx wa _ _ 1).trans (hB.mono (zcx wa _ _ 1).size)
   have Af:=hid (HK.out.below Ab.out)
   have Aj:=hid (HS.out.trans (Sole.of_below Ab.out))
   have An:=hid (HD.out.below Ab.out)
   have Ae:Hid (Kep w w1 (wa.heap.size+1) (kidO 0 [] 0 A (.slice none 0 0))):=⟨Ac.out.2,Nat.le_trans HS.out.size (by omega)⟩
   have Ag:=hid (Ak.out.1.below Ab.out)
   rw [Am.out]
   clear hB
   obtain ⟨⟨_,_,_,p3,_⟩,_⟩:=zb2 Ag.out.blk
   rw [HF.out.1] at p3
   go_wp2_with fail
   refine (zbu p g cap ts d 40 s _ An.out).mono ?_
   rintro e w2 ⟨rfl,hD,hS⟩
   have Ao:=hid hD
   have Ap:=hid (Aj.out.trans hS)
   have Ah:=hid (Af.out.sole Aa.out.1 hS)
   have Ad:=hid (Ae.out.sole Aa.out.1 hS)
   clear hD hS
   obtain ⟨⟨x0,x1,x2,x3,x4⟩,_⟩:=zaa Ad.out.1
   obtain ⟨⟨z0,z1,z2,z3,z4⟩,⟨y0,y1,y2,y3,y4⟩⟩:=zaa Ah.out.1
   go_wp2
   refine ret5 (n:=[]) z0 z1 z2 z3 z4 rfl (fun u q0 q1 q2 q3 q4=>by simp [results,Tryz.results125,go_sem,q0,q1,q2,q3,q4]) Ah.out.2 Ap.out ?_
   intro wz hf
   rw [Ai.out]
   have hr2:=Ah.out.2
   have hpg:=Aa.out
   exact ⟨_,rfl,zfi,Ao.out.but (by omega) (by omega) hf.2,hf.1⟩)
 | true =>
  have Ay:Hid (R=if K==1 then (.node 27 S 0 A [],s.adv) else if S==zbj then
    (if s.adv.is wInt then (.node 19 [] 0 A [],s.adv.adv) else (.node 21 [] 0 A [],s.adv.want zfb))
   else (.node (baseD S) [] 0 A [],s.adv)):=by
   show _=_
   rw [HR.out];unfold bareR
   rw [HF.out.1,HF.out.2.1,HF.out.2.2.2.1,HF.out.2.2.2.2];rfl
  have Ar:=hid (Ax.out rfl)
  clear Ax
  by_cases hk:K=1
  case pos =>
   subst hk
   have Ai:=hid (Ay.out)
   go_enter Tryz.func125,Tryz.ntmps125
   go_wp2_with fail
   clear hwa
   go_region
   all_goals (
    go_wp2_with fail
    refine (ze7 p g cap ts d s _ (HD.out.below (zcx wa _ _ 1))).mono ?_
    rintro e w1 ⟨rfl,hB⟩
    have Ac:Hid (w1.heap[wa.heap.size]?=some (.cells #[.int .i64 1,.string sb,.int .i64 M,.int .i64 A] 41 (0,0))∧w1.heap[wa.heap.size+1]?=some (kidO 0 [] 0 A (.slice none 0 0))):=⟨zao hB (zgf wa _ _ 1).1,zao hB (zgf wa _ _ 1).2⟩
    have Ab:Hid (Below wa.heap.size wa w1):=(zcx wa _ _ 1).trans (hB.mono (zcx wa _ _ 1).size)
    have Af:=hid (HK.out.below Ab.out)
    have Aj:=hid (HS.out.trans (Sole.of_below Ab.out))
    have An:=hid (HD.out.below Ab.out)
    have Ae:Hid (Kep w w1 (wa.heap.size+1) (kidO 0 [] 0 A (.slice none 0 0))):=⟨Ac.out.2,Nat.le_trans HS.out.size (by omega)⟩
    have Ag:=hid (Ak.out.1.below Ab.out)
    rw [Am.out]
    clear hB
    obtain ⟨⟨_,p1,_,p3,_⟩,g1,_⟩:=zb2 Ag.out.blk
    rw [HF.out.1] at p3
    obtain ⟨⟨x0,x1,x2,x3,x4⟩,⟨v0,v1,v2,v3,v4⟩⟩:=zaa Ac.out.2
    have u0:w1.cell? ⟨wa.heap.size,0,none⟩=some (.int .i64 1):=by simp [World.cell?,Ac.out.1]
    have u1:w1.cell? ⟨wa.heap.size,1,none⟩=some (.string sb):=by simp [World.cell?,Ac.out.1]
    obtain ⟨⟨z0,z1,z2,z3,z4⟩,⟨y0,y1,y2,y3,y4⟩⟩:=zaa Af.out.1
    have hn1:¬ p=wa.heap.size+1:=by omega
    have hn2:¬ wa.heap.size+1=p:=by omega
    have hlt:=HK.out.lt
    have hn3:¬ w.heap.size=p:=by have:=Aa.out.1;omega
    have hn4:¬ p=w.heap.size:=by have:=Aa.out.1;omega
    have hn5:¬ w.heap.size=wa.heap.size+1:=by omega
    have hn6:¬ wa.heap.size+1=w.heap.size:=by omega
    go_wp2
    obtain ⟨hsb,_⟩:=Aq.out
    subst hsb
    obtain ⟨w9,hw9⟩:∃ x,((w1.setCell ⟨p,1,none⟩ (.int .i64 ((i:Int)+1))).setCell ⟨wa.heap.size+1,0,none⟩ (.int .i64 27)).setCell ⟨wa.heap.size+1,1,none⟩ (.string ⟨S.toArray⟩)=x:=⟨_,rfl⟩
    rw [hw9]
    have Al:Hid (Kep w w9 w.heap.size (kidO 0 [] 0 0 (.slice none 0 0))∧DS w9 p g cap ts d s.adv∧Sole p w w9):=by
     show _∧_
     rw [<- hw9]
     have st:=DS.step hE Ag.out Ak.out.2.2 Ar.out (Sole.refl p w1) rfl
     have hh:=Aa.out
     exact ⟨zci (zci (Af.out.sole Aa.out.1 (Sole.setCell w1 1 _)) hn5 _ _) hn5 _ _,(st.1.set (by omega) (by omega) _ _).set (by omega) (by omega) _ _,Sole.set (Sole.set (Aj.out.trans st.2) (by omega) _ _) (by omega) _ _⟩
    clear hw9
    obtain ⟨⟨z0,z1,z2,z3,z4⟩,⟨y0,y1,y2,y3,y4⟩⟩:=zaa Al.out.1.1
    refine ret5 z0 z1 z2 z3 z4 rfl (fun u q0 q1 q2 q3 q4=>by simp [results,Tryz.results125,go_sem,q0,q1,q2,q3,q4]) (Nat.le_refl _) Al.out.2.2 ?_
    intro wz hf
    rw [Ai.out]
    have hpg:=Aa.out
    exact ⟨_,rfl,zfi,Al.out.2.1.but hpg.1 hpg.2 hf.2,hf.1⟩)
  have hkb:(K==1)=false:=by simp [hk]
  obtain ⟨Z,hZ⟩:∃ x,baseD S=x:=⟨_,rfl⟩
  have Az:Hid (∀ w,Calls Tryz.prog 153 #[.string sb] w fun e w'=>e=.returned (.int .i64 Z)∧w'=w):=fun w=>by rw [Aq.out.1,<- hZ];exact base_any S w
  have Ba:Hid (R=if S==zbj then (if s.adv.is wInt then (.node 19 [] 0 A [],s.adv.adv) else (.node 21 [] 0 A [],s.adv.want zfb)) else (.node Z [] 0 A [],s.adv)):=by
   show _=_
   rw [Ay.out,hkb,hZ];rfl
  clear hZ
  cases hu:(sb.toList==[117,110,115,105,103,110,101,100]) with
  | false =>
   have Ai:Hid (R=(.node Z [] 0 A [],s.adv)):=by
    show _=_
    rw [Ba.out]
    rw [Aq.out.2] at hu
    rw [show (S==zbj)=false from hu];rfl
   go_enter Tryz.func125,Tryz.ntmps125
   go_wp2_with fail
   clear hwa
   go_region
   all_goals (
    go_wp2_with fail
    refine (ze7 p g cap ts d s _ (HD.out.below (zcx wa _ _ 1))).mono ?_
    rintro e w1 ⟨rfl,hB⟩
    have Ac:Hid (w1.heap[wa.heap.size]?=some (.cells #[.int .i64 K,.string sb,.int .i64 M,.int .i64 A] 41 (0,0))∧w1.heap[wa.heap.size+1]?=some (kidO 0 [] 0 A (.slice none 0 0))):=⟨zao hB (zgf wa _ _ 1).1,zao hB (zgf wa _ _ 1).2⟩
    have Ab:Hid (Below wa.heap.size wa w1):=(zcx wa _ _ 1).trans (hB.mono (zcx wa _ _ 1).size)
    have Af:=hid (HK.out.below Ab.out)
    have Aj:=hid (HS.out.trans (Sole.of_below Ab.out))
    have An:=hid (HD.out.below Ab.out)
    have Ae:Hid (Kep w w1 (wa.heap.size+1) (kidO 0 [] 0 A (.slice none 0 0))):=⟨Ac.out.2,Nat.le_trans HS.out.size (by omega)⟩
    have Ag:=hid (Ak.out.1.below Ab.out)
    rw [Am.out]
    clear hB
    obtain ⟨⟨_,p1,_,p3,_⟩,g1,_⟩:=zb2 Ag.out.blk
    rw [HF.out.1] at p3
    obtain ⟨⟨x0,x1,x2,x3,x4⟩,⟨v0,v1,v2,v3,v4⟩⟩:=zaa Ac.out.2
    have u0:w1.cell? ⟨wa.heap.size,0,none⟩=some (.int .i64 K):=by simp [World.cell?,Ac.out.1]
    have u1:w1.cell? ⟨wa.heap.size,1,none⟩=some (.string sb):=by simp [World.cell?,Ac.out.1]
    obtain ⟨⟨z0,z1,z2,z3,z4⟩,⟨y0,y1,y2,y3,y4⟩⟩:=zaa Af.out.1
    have hn1:¬ p=wa.heap.size+1:=by omega
    have hn2:¬ wa.heap.size+1=p:=by omega
    have hlt:=HK.out.lt
    have hn3:¬ w.heap.size=p:=by have:=Aa.out.1;omega
    have hn4:¬ p=w.heap.size:=by have:=Aa.out.1;omega
    have hn5:¬ w.heap.size=wa.heap.size+1:=by omega
    have hn6:¬ wa.heap.size+1=w.heap.size:=by omega
    go_wp2_with fail
    refine (Az.out _).mono ?_
    rintro e w3 ⟨rfl,hw3⟩
    rw [hw3]
    clear hw3 w3
    go_wp2
    obtain ⟨w9,hw9⟩:∃ x,(w1.setCell ⟨p,1,none⟩ (.int .i64 ((i:Int)+1))).setCell ⟨wa.heap.size+1,0,none⟩ (.int .i64 Z)=x:=⟨_,rfl⟩
    rw [hw9]
    have Al:Hid (Kep w w9 w.heap.size (kidO 0 [] 0 0 (.slice none 0 0))∧DS w9 p g cap ts d s.adv∧Sole p w w9):=by
     show _∧_
     rw [<- hw9]
     have st:=DS.step hE Ag.out Ak.out.2.2 Ar.out (Sole.refl p w1) rfl
     have hh:=Aa.out
     exact ⟨zci (Af.out.sole Aa.out.1 (Sole.setCell w1 1 _)) hn5 _ _,st.1.set (by omega) (by omega) _ _,Sole.set (Aj.out.trans st.2) (by omega) _ _⟩
    clear hw9
    obtain ⟨⟨z0,z1,z2,z3,z4⟩,⟨y0,y1,y2,y3,y4⟩⟩:=zaa Al.out.1.1
    refine ret5 (n:=[]) z0 z1 z2 z3 z4 rfl (fun u q0 q1 q2 q3 q4=>by simp [results,Tryz.results125,go_sem,q0,q1,q2,q3,q4]) (Nat.le_refl _) Al.out.2.2 ?_
    intro wz hf
    rw [Ai.out]
    have hpg:=Aa.out
    exact ⟨_,rfl,zfi,Al.out.2.1.but hpg.1 hpg.2 hf.2,hf.1⟩)
  | true =>
   have Ai:Hid (R=if s.adv.is wInt then (.node 19 [] 0 A [],s.adv.adv) else (.node 21 [] 0 A [],s.adv.want zfb)):=by
    show _=_
    rw [Ba.out]
    rw [Aq.out.2] at hu
    rw [show (S==zbj)=true from hu];rfl
   go_enter Tryz.func125,Tryz.ntmps125
   go_wp2_with fail
   clear hwa
   go_region
   all_goals (
    go_wp2_with fail
    refine (ze7 p g cap ts d s _ (HD.out.below (zcx wa _ _ 1))).mono ?_
    rintro e w1 ⟨rfl,hB⟩
    have Ac:Hid (w1.heap[wa.heap.size]?=some (.cells #[.int .i64 K,.string sb,.int .i64 M,.int .i64 A] 41 (0,0))∧w1.heap[wa.heap.size+1]?=some (kidO 0 [] 0 A (.slice none 0 0))):=⟨zao hB (zgf wa _ _ 1).1,zao hB (zgf wa _ _ 1).2⟩
    have Ab:Hid (Below wa.heap.size wa w1):=(zcx wa _ _ 1).trans (hB.mono (zcx wa _ _ 1).size)
    have Af:=hid (HK.out.below Ab.out)
    have Aj:=hid (HS.out.trans (Sole.of_below Ab.out))
    have An:=hid (HD.out.below Ab.out)
    have Ae:Hid (Kep w w1 (wa.heap.size+1) (kidO 0 [] 0 A (.slice none 0 0))):=⟨Ac.out.2,Nat.le_trans HS.out.size (by omega)⟩
    have Ag:=hid (Ak.out.1.below Ab.out)
    rw [Am.out]
    clear hB
    obtain ⟨⟨_,p1,_,p3,_⟩,g1,_⟩:=zb2 Ag.out.blk
    rw [HF.out.1] at p3
    obtain ⟨⟨x0,x1,x2,x3,x4⟩,⟨v0,v1,v2,v3,v4⟩⟩:=zaa Ac.out.2
    have u0:w1.cell? ⟨wa.heap.size,0,none⟩=some (.int .i64 K):=by simp [World.cell?,Ac.out.1]
    have u1:w1.cell? ⟨wa.heap.size,1,none⟩=some (.string sb):=by simp [World.cell?,Ac.out.1]
    obtain ⟨⟨z0,z1,z2,z3,z4⟩,⟨y0,y1,y2,y3,y4⟩⟩:=zaa Af.out.1
    have hn1:¬ p=wa.heap.size+1:=by omega
    have hn2:¬ wa.heap.size+1=p:=by omega
    have hlt:=HK.out.lt
    have hn3:¬ w.heap.size=p:=by have:=Aa.out.1;omega
    have hn4:¬ p=w.heap.size:=by have:=Aa.out.1;omega
    have hn5:¬ w.heap.size=wa.heap.size+1:=by omega
    have hn6:¬ wa.heap.size+1=w.heap.size:=by omega
    go_wp2_with fail
    refine (Az.out _).mono ?_
    rintro e w3 ⟨rfl,hw3⟩
    rw [hw3]
    clear hw3 w3
    go_wp2_with fail
    have HW:Hid (Kep w (((w1.setCell ⟨p,1,none⟩ (.int .i64 ((i:Int)+1))).setCell ⟨wa.heap.size+1,0,none⟩ (.int .i64 Z)).setCell ⟨wa.heap.size+1,0,none⟩ (.int .i64 19)) w.heap.size (kidO 0 [] 0 0 (.slice none 0 0))∧DS (((w1.setCell ⟨p,1,none⟩ (.int .i64 ((i:Int)+1))).setCell ⟨wa.heap.size+1,0,none⟩ (.int .i64 Z)).setCell ⟨wa.heap.size+1,0,none⟩ (.int .i64 19)) p g cap ts d s.adv∧Sole p w (((w1.setCell ⟨p,1,none⟩ (.int .i64 ((i:Int)+1))).setCell ⟨wa.heap.size+1,0,none⟩ (.int .i64 Z)).setCell ⟨wa.heap.size+1,0,none⟩ (.int .i64 19))∧Kep w (((w1.setCell ⟨p,1,none⟩ (.int .i64 ((i:Int)+1))).setCell ⟨wa.heap.size+1,0,none⟩ (.int .i64 Z)).setCell ⟨wa.heap.size+1,0,none⟩ (.int .i64 19)) (wa.heap.size+1) (kidO 19 [] 0 A (.slice none 0 0))):=by
     have st:=DS.step hE Ag.out Ak.out.2.2 Ar.out (Sole.refl p w1) rfl
     have hh:=Aa.out
     exact ⟨zci (zci (Af.out.sole Aa.out.1 (Sole.setCell w1 1 _)) hn5 _ _) hn5 _ _,(st.1.set (by omega) (by omega) _ _).set (by omega) (by omega) _ _,Sole.set (Sole.set (Aj.out.trans st.2) (by omega) _ _) (by omega) _ _,zai (zai ((Sole.setCell w1 1 _).blk Ac.out.2 hn2)),by omega⟩
    refine (zch p g cap ts hE d [105,110,116] (by simp) s.adv _ HW.out.2.1).mono ?_
    rintro e w2 ⟨rfl,hD,hS⟩
    have Ao:=hid hD
    have Ap:=hid (HW.out.2.2.1.trans hS)
    have Ah:=hid (HW.out.1.sole Aa.out.1 hS)
    have Ad:=hid (HW.out.2.2.2.sole Aa.out.1 hS)
    clear hD hS HW p1 p3 g1 x0 x1 x2 x3 x4 v0 v1 v2 v3 v4 u0 u1 z0 z1 z2 z3 z4 y0 y1 y2 y3 y4
    obtain ⟨⟨x0,x1,x2,x3,x4⟩,⟨v0,v1,v2,v3,v4⟩⟩:=zaa Ad.out.1
    cases hq:s.adv.is [105,110,116] with
    | true =>
     have Au:Hid (R=(.node 19 [] 0 A [],s.adv.may [105,110,116])):=by
      show _=_
      rw [Ai.out];unfold RS.may
      rw [show s.adv.is wInt=true from hq,hq];rfl
     obtain ⟨⟨z0,z1,z2,z3,z4⟩,⟨y0,y1,y2,y3,y4⟩⟩:=zaa Ah.out.1
     go_wp2
     refine ret5 (n:=[]) z0 z1 z2 z3 z4 rfl (fun u q0 q1 q2 q3 q4=>by simp [results,Tryz.results125,go_sem,q0,q1,q2,q3,q4]) Ah.out.2 Ap.out ?_
     intro wz hf
     rw [Au.out]
     have hr2:=Ah.out.2
     have hpg:=Aa.out
     exact ⟨_,rfl,zfi,Ao.out.but (by omega) (by omega) hf.2,hf.1⟩
    | false =>
     have Au:Hid (R=(.node 21 [] 0 A [],(s.adv.may [105,110,116]).want [104,121,112,101,114])):=by
      show _=_
      rw [Ai.out];unfold RS.may
      rw [show s.adv.is wInt=false from hq,hq];rfl
     go_wp2_with fail
     refine (zan p g cap ts hE d [104,121,112,101,114] (by simp) _ _ (Ao.out.set (r:=wa.heap.size+1) (by omega) (by omega) _ _)).mono ?_
     rintro e w3 ⟨rfl,hD,hS⟩
     have Bc:=hid hD
     have Bd:=hid ((Sole.set Ap.out (show w.heap.size<=wa.heap.size+1 by omega) 0 (.int .i64 21)).trans hS)
     have Av:=hid ((zci Ah.out hn5 0 (.int .i64 21)).sole Aa.out.1 hS)
     have Aw:=hid (Kep.sole (cur:=w2.setCell ⟨wa.heap.size+1,0,none⟩ (.int .i64 21)) ⟨zai Ad.out.1,Ad.out.2⟩ Aa.out.1 hS)
     clear hD hS x0 x1 x2 x3 x4 v0 v1 v2 v3 v4
     obtain ⟨⟨x0,x1,x2,x3,x4⟩,_⟩:=zaa Aw.out.1
     obtain ⟨⟨z0,z1,z2,z3,z4⟩,⟨y0,y1,y2,y3,y4⟩⟩:=zaa Av.out.1
     go_wp2
     refine ret5 (n:=[]) z0 z1 z2 z3 z4 rfl (fun u q0 q1 q2 q3 q4=>by simp [results,Tryz.results125,go_sem,q0,q1,q2,q3,q4]) Av.out.2 Bd.out ?_
     intro wz hf
     rw [Au.out]
     have hr2:=Av.out.2
     have hpg:=Aa.out
     exact ⟨_,rfl,zfi,Bc.out.but (by omega) (by omega) hf.2,hf.1⟩)
theorem info29x:∃ i:TypeInfo,Tryz.prog.info? 29=some i∧i.zero=some (.agg #[.int .i64 0,.string ⟨#[]⟩,.int .i64 0,.int .i64 0,.slice none 0 0])∧i.size=5∧i.bytes=64 :=
 ⟨(Tryz.prog.info? 29).getD default,by kernel_rfl,by kernel_rfl,by kernel_rfl,by kernel_rfl⟩
/-- what stands behind a list's name -/
def listP (n:Tok) (of:Tree) (s:PS):Ans Tree :=
 (s.want [60]).bind fun _ s =>
   if s.sees [62] then (s.want [62]).bind fun _ s=>.ok (named 16 n [of]) s
   else (zb7 s).bind fun v s=>(s.want [62]).bind fun _ s=>.ok (named 16 n [of,v]) s
/-- what an append of one tree leaves -/
structure App (A:Nat->Prop) (w w' : World) (acc:List Tree) (t:Tree) (sl:Value) (g N cap:Nat):Prop where
 list:zab A w' (acc++[t]) (.slice (some ⟨g,0,none⟩) (N+1) cap)
 grow:w.grownBy w' sl.ownBlock
theorem app_news {A:Nat->Prop} {w w' : World} {acc:List Tree} {sl:Value} {N g cap:Nat} {xs:List Value} {k m:Int} {n:List UInt8} {a:Nat} {ks:List Tree} {s8:Value} (hN:acc.length=N) (hA:∀ q,sl.ownBlock=some q->A q) (hr:RowV (fun b=>A b∧sl.ownBlock≠some b) w acc xs) (hAH:A w.heap.size)
 (ht:zae (fun b=>A b∧sl.ownBlock≠some b) w (.node k n m a ks) (kidV k n m a s8))
 (hown:w'.ownsRow 0 29 5 (.slice (some ⟨g,0,none⟩) (N+1) cap) (N+1) (xs++[.int .i64 k,.string ⟨n.toArray⟩,.int .i64 m,.int .i64 a,s8])) (hg:w.grownBy w' sl.ownBlock) (hat:sl.ownBlock=some g∨g=w.heap.size):App A w w' acc (.node k n m a ks) sl g N cap:=by
 refine ⟨zbv (sl:=sl) hA hr (za3 ht) (by rw [hN];exact hown) hg w.heap.size (Nat.le_refl _) hAH ?_,hg⟩
 rcases hat with e|e
 · exact Or.inl e.symm
 · exact Or.inr (by rw [e];rfl)
theorem zii {ops:Array Oper} {rest:List Oper} {o:Oper} {a:Act} {Q:Exit->Act->World->Prop} (w:World) (hgd:o.guard=none) (s x:Operand) (ho:o.op=.call { callee:=.builtin .append,args:=#[s,x],argTypes:=#[27,27] })
 (A:Nat->Prop) (acc:List Tree) (oq:Option Addr) (N cq:Nat) (hl:zab A w acc (.slice oq N cq)) (hs:a.eval s=.slice oq N cq) (hN:N<=20000) (q:Nat) (k m:Int) (n:List UInt8) (at_:Nat) (ks:List Tree) (o8:Option Addr) (l8 c8:Nat) (hx:a.eval x=.slice (some ⟨q,0,none⟩) 1 1)
 (hq:w.heap[q]?=some (kidO k n m at_ (.slice o8 l8 c8))) (ht:zae (fun b=>A b∧(Value.slice oq N cq).ownBlock≠some b) w (.node k n m at_ ks) (kidV k n m at_ (.slice o8 l8 c8))) (hAH:A w.heap.size)
 (h:∀ g cap w',App A w w' acc (.node k n m at_ ks) (.slice oq N cq) g N cap->wpList Tryz.prog ops Q rest (a.put o.dst (.slice (some ⟨g,0,none⟩) (N+1) cap)) w'):wpList Tryz.prog ops Q (o::rest) a w:=by
 obtain ⟨inf,hi1,hi2,hi3,hi4⟩:=info29x
 obtain ⟨o',c',e⟩:=hl.len
 have hlen:acc.length=N:=by cases e;rfl
 obtain ⟨xs,ho',hA,hr⟩:=hl
 rw [hlen] at ho'
 refine wpList_append_lies w hgd s x 27 ho 0 29 inf _ 5 64 Tryz.underlying27 hi1 hi2 hi3 hi4 rfl (by decide) (.slice oq N cq) N xs hs ho' ⟨q,0,none⟩ 1 1 [.int .i64 k,.string ⟨n.toArray⟩,.int .i64 m,.int .i64 at_,.slice o8 l8 c8] hx rfl (World.news_of_block (cs:=#[.int .i64 k,.string ⟨n.toArray⟩,.int .i64 m,.int .i64 at_,.slice o8 l8 c8]) (t:=29) (fr:=(0,0)) hq) (by simp [Value.oneCell']) (by decide) (by unfold maxLen;omega) (by omega) (Nat.zero_le _) _ rfl ?_
 intro g cap w' hown hgrow hat _
 exact h g cap w' (app_news hlen hA hr hAH ht hown hgrow hat)
theorem zfl {ops:Array Oper} {o:Oper} {a:Act} {K:Act->World->Prop} {Q:Exit->Act->World->Prop} {E:Prop} (w:World) (hgd:o.guard=none) (s x:Operand) (ho:o.op=.call { callee:=.builtin .append,args:=#[s,x],argTypes:=#[27,27] })
 (A:Nat->Prop) (acc:List Tree) (oq:Option Addr) (N cq:Nat) (hl:zab A w acc (.slice oq N cq)) (hs:a.eval s=.slice oq N cq) (hN:N<=20000) (q:Nat) (k m:Int) (n:List UInt8) (at_:Nat) (ks:List Tree) (o8:Option Addr) (l8 c8:Nat) (hx:a.eval x=.slice (some ⟨q,0,none⟩) 1 1)
 (hq:w.heap[q]?=some (kidO k n m at_ (.slice o8 l8 c8))) (ht:zae (fun b=>A b∧(Value.slice oq N cq).ownBlock≠some b) w (.node k n m at_ ks) (kidV k n m at_ (.slice o8 l8 c8))) (hAH:A w.heap.size)
 (h:∀ g cap w',App A w w' acc (.node k n m at_ ks) (.slice oq N cq) g N cap->K (a.put o.dst (.slice (some ⟨g,0,none⟩) (N+1) cap)) w'):if Region.wanted o (yielded ops a.tmps)=true then Oper.wp Tryz.prog o a w K Q else E:=by
 obtain ⟨inf,hi1,hi2,hi3,hi4⟩:=info29x
 obtain ⟨o',c',e⟩:=hl.len
 have hlen:acc.length=N:=by cases e;rfl
 obtain ⟨xs,ho',hA,hr⟩:=hl
 rw [hlen] at ho'
 refine step_append_lies w hgd s x 27 ho 0 29 inf _ 5 64 Tryz.underlying27 hi1 hi2 hi3 hi4 rfl (by decide) (.slice oq N cq) N xs hs ho' ⟨q,0,none⟩ 1 1 [.int .i64 k,.string ⟨n.toArray⟩,.int .i64 m,.int .i64 at_,.slice o8 l8 c8] hx rfl (World.news_of_block (cs:=#[.int .i64 k,.string ⟨n.toArray⟩,.int .i64 m,.int .i64 at_,.slice o8 l8 c8]) (t:=29) (fr:=(0,0)) hq) (by simp [Value.oneCell']) (by decide) (by unfold maxLen;omega) (by omega) (Nat.zero_le _) _ rfl ?_
 intro g cap w' hown hgrow hat _
 exact h g cap w' (app_news hlen hA hr hAH ht hown hgrow hat)
theorem zmb {p:Nat} {w cur nxt:World} {row:Option Nat} (h:Sole p w cur) (hg:cur.grownBy nxt row) (hq:∀ q,row=some q->w.heap.size<=q):Sole p w nxt:=
 ⟨hg.os.trans h.os,hg.tape.trans h.tape,hg.output.trans h.output,Nat.le_trans h.size hg.size,fun b hb hp=>(hg.block b (Nat.lt_of_lt_of_le hb h.size) (fun e=>by have:=hq b e.symm;omega)).trans (h.block b hb hp)⟩
theorem DS.grown {w nxt:World} {p g cap:Nat} {ts:List Tok} {d:Int} {s:RS} (h:DS w p g cap ts d s) {row:Option Nat} (hg:w.grownBy nxt row) (hp:row≠some p) (hgq:row≠some g):DS nxt p g cap ts d s:=by
 obtain ⟨i,h1,h2⟩:=h
 exact ⟨i,h1,h2.of_blocks (hg.block p h2.plt (fun e=>hp e.symm)) (hg.block g h2.gl (fun e=>hgq e.symm))⟩
theorem za1 {w cur nxt:World} {b:Nat} {o:Obj} (h:Kep w cur b o) {row:Option Nat} (hg:cur.grownBy nxt row) (hne:row≠some b):Kep w nxt b o:=⟨(hg.block b h.lt (fun e=>hne e.symm)).trans h.1,h.2⟩
theorem zb0 {A:Nat->Prop} {w:World} {ks:List Tree} {sl:Value} (h:zab A w ks sl) {q:Nat} (e:sl.ownBlock=some q):A q∧q<w.heap.size:=by
 obtain ⟨xs,ho,hA,_⟩:=h
 exact ⟨hA q e,(ho.lt q e).2⟩
theorem zgb {A:Nat->Prop} {w:World} {ks:List Tree} {o:Option Addr} {N c:Nat} (h:zab A w ks (.slice o N c)):ks.length=N:=by
 obtain ⟨o',c',e⟩:=h.len
 cases e;rfl
/-- how much is left, and is all well? -/
def mu (p n:Nat) (w:World):Nat:=
 match w.cell? ⟨p,1,none⟩,w.cell? ⟨p,3,none⟩ with
 | some (.int _ i),some (.int _ e)=>2*(n-i.toNat)+(if e=0 then 1 else 0)
 | _,_=>0
def muS (s:RS):Nat:=2*s.ts.length+(if s.e=0 then 1 else 0)
theorem zd8 {w:World} {p g cap:Nat} {ts:List Tok} {d:Int} {s:RS} (h:DS w p g cap ts d s):mu p ts.length w=muS s:=by
 obtain ⟨i,h1,h2⟩:=h
 obtain ⟨⟨_,c1,_,c3,_⟩,_⟩:=zb2 h2.blk
 unfold mu muS
 rw [c1,c3,h1,List.length_drop]
 simp
theorem DS.e_cell {w:World} {p g cap:Nat} {ts:List Tok} {d:Int} {s:RS} (h:DS w p g cap ts d s):w.cell? ⟨p,3,none⟩=some (.int .i64 s.e)∧w.cell? ⟨p,2,none⟩=some (.int .i64 d):=by
 obtain ⟨i,h1,h2⟩:=h
 obtain ⟨⟨_,_,c2,c3,_⟩,_⟩:=zb2 h2.blk
 exact ⟨c3,c2⟩
end Go.Proofs.YtighggeokiahfaaGreatDoor.Dm
namespace Go.Proofs.YtighggeokiahfaaGreatDoor.Dm
/-- a token's text is a word or a sign only if its kind says so -/
structure Okt (t:Tok):Prop where
 word:zba t.text=true->t.kind=2
 sign:∀ c,zet c=true->t.text=[c]->t.kind=4
 name:t.kind=1->zba t.text=false
 num:t.kind=3->t.text=[]
def Okl (ts:List Tok):Prop:=∀ t∈ts,Okt t
theorem okt_end:Okt ⟨5,[],0,0⟩:=⟨fun h=>absurd h (by decide),fun c _ h=>absurd h (by simp),fun h=>absurd (show (5:Int)=1 from h) (by decide),fun _=>rfl⟩
theorem beq_no {k c:Int} (h:¬ k=c):(k==c)=false:=by simp [h]
theorem Okl.hd {ts:List Tok} (h:Okl ts):Okt (ts.headD ⟨5,[],0,0⟩):=by
 cases ts with
 | nil=>exact okt_end
 | cons t l=>exact h t (by simp)
theorem Okl.tail {ts:List Tok} (h:Okl ts):Okl ts.tail:=fun t ht=>h t (List.mem_of_mem_tail ht)
/-- words and signs -/
def zfn (x:List UInt8):Prop:=zba x=true∨∃ c,zet c=true∧x=[c]
theorem zfn.ne {x:List UInt8} (h:zfn x):x≠[]:=by
 rcases h with h|⟨c,_,rfl⟩
 · rintro rfl;revert h;decide
 · simp
theorem Okt.spell {t:Tok} (h:Okt t) {x:List UInt8} (hx:zfn x) (e:t.text=x):(t.kind==4||t.kind==2)=true:=by
 subst e
 rcases hx with hx|⟨c,hc,hx⟩
 · rw [h.word hx];decide
 · rw [h.sign c hc hx];decide
theorem is_sees {ts:List Tok} {pl:Nat} {x:List UInt8} (f:Bool) (hx:zfn x) (h:Okl ts):(⟨ts,0,pl⟩:RS).is x=(⟨ts,f⟩:PS).sees x:=by
 unfold RS.is PS.sees RS.hd PS.hd
 cases e:((ts.headD ⟨5,[],0,0⟩).text==x) with
 | false=>simp
 | true=>rw [h.hd.spell hx (by simpa using e)];rfl
/-- behind what was wrong nothing is taken -/
theorem zdn {s:RS} (h:s.e≠0) (x:List UInt8):s.is x=false:=by unfold RS.is;simp [h]
theorem zdr {s:RS} (h:s.e≠0) (e:Int):s.fail e=s:=by unfold RS.fail;rw [if_neg h]
theorem zaq {s:RS} (h:s.e≠0) (x:List UInt8):s.want x=s:=by unfold RS.want;rw [zdn h,zdr h];rfl
theorem zgn {s:RS} (h:s.e≠0):zaz s=(([],0),s):=by unfold zaz;rw [zdr h];simp [h]
theorem zd1 {s:RS} (h:s.e≠0) (b:Bool):zav b s=(zjc,s):=by unfold zav;rw [zdr h];simp [h]
theorem zh0 {s:RS} (h:s.e≠0):(zau s).2=s:=by
 unfold zau;rw [zgn h,zd1 h];split <;> rfl
theorem bare_stuck {s:RS} (h:s.e≠0):(zed s).2=s:=by unfold zed;rw [zdr h];simp [h]
theorem typed_stuck {B:RS->Tree × RS} {s:RS} (h:s.e≠0):(zce B s).2=s:=by unfold zce;simp [h,bare_stuck h]
theorem zft {s:RS} (h:s.e≠0) (t:Tree) (n:Int):(zdv t n s).2=s:=by
 unfold zdv;simp only [zgn h,zdn h,zdr h,Bool.false_and,Bool.false_eq_true,if_false]
 split <;> rfl
theorem zms {B:RS->Tree × RS} {v:Bool} {s:RS} (h:s.e≠0):(zcd B v s).2=s:=by
 unfold zcd
 simp only [zdn h,zft h,Bool.false_and,Bool.false_eq_true,if_false,typed_stuck h]
theorem zid {s:RS} (h:s.e≠0) (f:Nat) (l:List Tree):ze1 f l s=(l,s):=by cases f <;> simp [ze1,h]
theorem zjh {B:RS->Tree × RS} {s:RS} (h:s.e≠0) (f:Nat) (l:List Tree):zf3 B f l s=(l,s):=by cases f <;> simp [zf3,h]
theorem zji {s:RS} (h:s.e≠0) (f:Nat) (l:List Tree):zhu f l s=(l,s):=by cases f <;> simp [zhu,h]
theorem zh1 {s:RS} (h:s.e≠0) (f:Nat) (l:List Tree):zb8 f l s=(l,s):=by cases f <;> simp [zb8,h]
theorem zhw {s:RS} (h:s.e≠0) (f:Nat) (l:List Tree):zbk f l s=(l,s):=by cases f <;> simp [zbk,h]
theorem zd9 {s:RS} (h:s.e≠0) (f:Nat) (l:List Tree):zcn f l s=([],s):=by cases f <;> simp [zcn,h]
theorem zen {B:RS->Tree × RS} {b:Bool} {s:RS} (h:s.e≠0) (f:Nat) (l:List Tree):zdb B b f l s=([],s):=by cases f <;> simp [zdb,h]
theorem zf7 {s:RS} (h:s.e≠0) (f:Nat) (l:List Tree):zc9 f l s=(l,s):=by cases f <;> simp [zc9,h]
theorem zi9 {B:RS->Tree × RS} {s:RS} (h:s.e≠0) (l:List Tree):zgl B l s=(l,s):=by unfold zgl;simp [zdn h,zaq h]
/-- the two readers agree on one list: k tokens at least are taken -/
def Agr {α:Type} (k:Nat) (ts:List Tok) (pl:Nat) (r:Ans α) (q:α × RS):Prop:=
 match r with
 | .ok a s=>s.full=false∧Okl s.ts∧s.ts.length+k<=ts.length∧q=(a,⟨s.ts,0,pl⟩)
 | .no e i=>e≠0∧q.2.e=e∧q.2.pl=i
def Sim {α:Type} (k:Nat) (P:PS->Ans α) (D:RS->α × RS):Prop:=∀ ts pl,Okl ts->Agr k ts pl (P ⟨ts,false⟩) (D ⟨ts,0,pl⟩)
theorem Agr.bind {α β:Type} {k j:Nat} {ts:List Tok} {pl:Nat} {r:Ans α} {q:α × RS} {Q:α->PS->Ans β} {E:α->RS->β × RS} (h:Agr k ts pl r q) (hQ:∀ a ts',Okl ts'->ts'.length+k<=ts.length->Agr j ts' pl (Q a ⟨ts',false⟩) (E a ⟨ts',0,pl⟩)) (st:∀ a s,s.e≠0->(E a s).2=s):Agr (k+j) ts pl (r.bind Q) (E q.1 q.2):=by
 cases r with
 | ok a s=>
  obtain ⟨ss,f⟩:=s
  obtain ⟨h1,h2,h3,rfl⟩:=h
  obtain rfl:f=false:=h1
  have h4:=hQ a ss h2 h3
  show Agr (k+j) ts pl (Q a ⟨ss,false⟩) (E a ⟨ss,0,pl⟩)
  cases hr:Q a ⟨ss,false⟩ with
  | ok b u=>rw [hr] at h4;exact ⟨h4.1,h4.2.1,by have:=h4.2.2.1;have h3':ss.length+k<=ts.length:=h3;omega,h4.2.2.2⟩
  | no e i=>rw [hr] at h4;exact h4
 | no e i=>
  obtain ⟨h1,h2,h3⟩:=h
  show e≠0∧(E q.1 q.2).2.e=e∧(E q.1 q.2).2.pl=i
  rw [st q.1 q.2 (by rw [h2];exact h1)]
  exact ⟨h1,h2,h3⟩
theorem Sim.bind {α β:Type} {k j:Nat} {P:PS->Ans α} {D:RS->α × RS} {Q:α->PS->Ans β} {E:α->RS->β × RS} (h:Sim k P D) (hQ:∀ a,Sim j (Q a) (E a)) (st:∀ a s,s.e≠0->(E a s).2=s):Sim (k+j) (fun s=>(P s).bind Q) (fun s=>E (D s).1 (D s).2):=
 fun ts pl ok=>(h ts pl ok).bind (fun a ts' ok' _=>hQ a ts' pl ok') st
theorem Agr.less {α:Type} {k j:Nat} {ts:List Tok} {pl:Nat} {r:Ans α} {q:α × RS} (h:Agr k ts pl r q) (hj:j<=k):Agr j ts pl r q:=by
 cases r with
 | ok a s=>exact ⟨h.1,h.2.1,by have:=h.2.2.1;omega,h.2.2.2⟩
 | no e i=>exact h
theorem zfj {α:Type} (a:α) (ts:List Tok) (pl:Nat) (ok:Okl ts):Agr 0 ts pl (.ok a ⟨ts,false⟩) (a,⟨ts,0,pl⟩):=⟨rfl,ok,Nat.le_refl _,rfl⟩
theorem zg6 {α:Type} {k:Nat} {ts:List Tok} {pl:Nat} {e:Int} (he:e≠0) (q:α):Agr k ts pl ((⟨ts,false⟩:PS).bad e) (q,(⟨ts,0,pl⟩:RS).fail e):=by
 refine ⟨he,?_,?_⟩ <;> (unfold RS.fail;rfl)
theorem ok_ne {ts:List Tok} (h:(ts.headD ⟨5,[],0,0⟩).text≠[]∨(ts.headD ⟨5,[],0,0⟩).kind≠5):ts.tail.length+1<=ts.length:=by
 cases ts with
 | nil=>rcases h with h|h <;> exact absurd rfl h
 | cons t l=>simp
theorem sees_text {ts:List Tok} {f:Bool} {x:List UInt8} (hx:zfn x) (h:(⟨ts,f⟩:PS).sees x=true):(ts.headD ⟨5,[],0,0⟩).text≠[]:=by
 unfold PS.sees PS.hd at h
 rw [beq_iff_eq] at h
 rw [show (ts.headD ⟨5,[],0,0⟩).text=x from h]
 exact hx.ne
theorem zgd {α:Type} {k:Nat} {ts:List Tok} {pl:Nat} {Q:Tok->PS->Ans α} {q:α × RS} (ok:Okl ts) (hl:ts.tail.length+1<=ts.length) (h:Okl ts.tail->Agr k ts.tail pl (Q (ts.headD ⟨5,[],0,0⟩) ⟨ts.tail,false⟩) q):Agr (1+k) ts pl ((⟨ts,false⟩:PS).take.bind Q) q:=by
 have h1:=h ok.tail
 show Agr (1+k) ts pl (Q (ts.headD ⟨5,[],0,0⟩) ⟨ts.tail,false⟩) q
 cases hr:Q (ts.headD ⟨5,[],0,0⟩) ⟨ts.tail,false⟩ with
 | ok b u=>rw [hr] at h1;exact ⟨h1.1,h1.2.1,by have:=h1.2.2.1;omega,h1.2.2.2⟩
 | no e i=>rw [hr] at h1;exact h1
theorem sim_want (x:List UInt8) (hx:zfn x):Sim 1 (fun s=>s.want x) (fun s=>((),s.want x)):=by
 intro ts pl ok
 show Agr 1 ts pl ((⟨ts,false⟩:PS).want x) ((),(⟨ts,0,pl⟩:RS).want x)
 unfold PS.want RS.want
 rw [is_sees false hx ok]
 cases e:(⟨ts,false⟩:PS).sees x with
 | false=>exact zg6 (by decide) _
 | true=>exact zgd (k:=0) (Q:=fun _ s=>.ok () s) ok (ok_ne (Or.inl (sees_text hx e))) (fun ok'=>zfj () _ pl ok')
theorem sim_name:Sim 1 (fun s=>(zcr s).bind fun t s=>.ok (t.text,t.at_) s) zaz:=by
 intro ts pl ok
 show Agr 1 ts pl ((zcr ⟨ts,false⟩).bind _) _
 unfold zcr PS.ofKind zaz
 by_cases hk:(ts.headD ⟨5,[],0,0⟩).kind=1
 · rw [if_pos (show (⟨ts,false⟩:PS).hd.kind=1 from hk),if_pos (by show ((0:Int)==0&&(ts.headD ⟨5,[],0,0⟩).kind==1)=true;rw [hk];rfl)]
   exact zgd (k:=0) (Q:=fun t s=>.ok (t.text,t.at_) s) ok (ok_ne (Or.inr (by rw [hk];decide))) (fun ok'=>zfj _ _ pl ok')
 · rw [if_neg (show ¬ (⟨ts,false⟩:PS).hd.kind=1 from hk),if_neg (by show ¬ ((0:Int)==0&&(ts.headD ⟨5,[],0,0⟩).kind==1)=true;rw [beq_no hk];decide)]
   exact zg6 (by decide) _
theorem Ans.bind_bind {α β γ:Type} (r:Ans α) (f:α->PS->Ans β) (g:β->PS->Ans γ):(r.bind f).bind g=r.bind fun a s=>(f a s).bind g:=by cases r <;> rfl
/-- a name, and then -/
theorem zfc {β:Type} {j:Nat} {Q:Tok->PS->Ans β} {E:List UInt8 × Nat->RS->β × RS} (hQ:∀ (t:Tok) ts pl,Okl ts->Agr j ts pl (Q t ⟨ts,false⟩) (E (t.text,t.at_) ⟨ts,0,pl⟩)) (st:∀ a s,s.e≠0->(E a s).2=s):Sim (1+j) (fun s=>(zcr s).bind Q) (fun s=>E (zaz s).1 (zaz s).2):=by
 intro ts pl ok
 have h:=sim_name ts pl ok
 show Agr (1+j) ts pl ((zcr ⟨ts,false⟩).bind Q) (E (zaz ⟨ts,0,pl⟩).1 (zaz ⟨ts,0,pl⟩).2)
 cases hr:zcr ⟨ts,false⟩ with
 | ok t s=>
  obtain ⟨ss,f⟩:=s
  simp only [hr] at h
  obtain ⟨h1,h2,h3,h4⟩:=h
  obtain rfl:f=false:=h1
  rw [h4]
  have h5:=hQ t ss pl h2
  show Agr (1+j) ts pl (Q t ⟨ss,false⟩) _
  cases hr2:Q t ⟨ss,false⟩ with
  | ok b u=>rw [hr2] at h5;exact ⟨h5.1,h5.2.1,by have:=h5.2.2.1;have:ss.length+1<=ts.length:=h3;omega,h5.2.2.2⟩
  | no e i=>rw [hr2] at h5;exact h5
 | no e i=>
  simp only [hr] at h
  obtain ⟨h1,h2,h3⟩:=h
  show e≠0∧_∧_
  rw [st _ _ (by rw [h2];exact h1)]
  exact ⟨h1,h2,h3⟩
theorem zi7:Sim 1 zek (zav false):=by
 intro ts pl ok
 unfold zek PS.ofKind zav
 by_cases hk:(ts.headD ⟨5,[],0,0⟩).kind=3
 · rw [if_pos (show (⟨ts,false⟩:PS).hd.kind=3 from hk),if_pos (by show ((0:Int)==0&&(ts.headD ⟨5,[],0,0⟩).kind==3&&!(false&&_))=true;rw [hk];rfl)]
   exact zgd (k:=0) (Q:=fun t s=>.ok (Tree.node 28 [] t.num t.at_ []) s) ok (ok_ne (Or.inr (by rw [hk];decide))) (fun ok'=>zfj _ _ pl ok')
 · rw [if_neg (show ¬ (⟨ts,false⟩:PS).hd.kind=3 from hk),if_neg (by show ¬ ((0:Int)==0&&(ts.headD ⟨5,[],0,0⟩).kind==3&&!(false&&_))=true;rw [beq_no hk];simp)]
   exact zg6 (by decide) _
theorem zkq:Sim 1 zbb (zav true):=by
 intro ts pl ok
 unfold zbb
 by_cases hn:(ts.headD ⟨5,[],0,0⟩).num<0
 · rw [if_pos (show (⟨ts,false⟩:PS).hd.num<0 from hn)]
   unfold zav
   rw [if_neg (by show ¬ ((0:Int)==0&&(ts.headD ⟨5,[],0,0⟩).kind==3&&!(true&&decide ((ts.headD ⟨5,[],0,0⟩).num<0)))=true;rw [decide_eq_true hn];simp)]
   exact zg6 (by decide) _
 · rw [if_neg (show ¬ (⟨ts,false⟩:PS).hd.num<0 from hn)]
   have h:=zi7 ts pl ok
   have e:zav true ⟨ts,0,pl⟩=zav false ⟨ts,0,pl⟩:=by
    unfold zav
    have e1:decide ((⟨ts,0,pl⟩:RS).hd.num<0)=false:=decide_eq_false hn
    rw [e1];rfl
   rw [e];exact h
theorem zim:Sim 1 zb7 zau:=by
 intro ts pl ok
 unfold zb7 zau
 by_cases hk:(ts.headD ⟨5,[],0,0⟩).kind=1
 · rw [if_pos (show (⟨ts,false⟩:PS).hd.kind=1 from hk),if_pos (by show ((ts.headD ⟨5,[],0,0⟩).kind==1)=true;rw [hk];rfl)]
   exact zfc (j:=0) (Q:=fun t s=>.ok (named 27 t []) s) (E:=fun n s=>(Tree.node 27 n.1 0 n.2 [],s)) (fun t ts pl ok=>zfj _ ts pl ok) (fun _ _ _=>rfl) ts pl ok
 · rw [if_neg (show ¬ (⟨ts,false⟩:PS).hd.kind=1 from hk),if_neg (by show ¬ ((ts.headD ⟨5,[],0,0⟩).kind==1)=true;rw [beq_no hk];decide)]
   exact zi7 ts pl ok
def RS.n (s:RS):Nat:=s.ts.length
theorem ze2 (s:RS):s.adv.n<=s.n:=by unfold RS.adv RS.n;simp
theorem zez (s:RS) (e:Int):(s.fail e).n=s.n:=by unfold RS.fail RS.n;split <;> rfl
theorem za7 (s:RS) (x:List UInt8):(s.want x).n<=s.n:=by
 unfold RS.want;split
 · exact ze2 s
 · rw [zez];exact Nat.le_refl _
theorem adv_lt {s:RS} {x:List UInt8} (hx:x≠[]) (h:s.is x=true):s.adv.n<s.n:=by
 unfold RS.is at h
 simp only [Bool.and_eq_true,beq_iff_eq] at h
 have h2:=h.2.1
 unfold RS.hd at h2
 unfold RS.adv RS.n
 cases hs:s.ts with
 | nil=>rw [hs] at h2;exact absurd h2.symm hx
 | cons t l=>simp
theorem zkd {s:RS} {x:List UInt8} (hx:x≠[]) (h:(s.want x).e=0):(s.want x).n<s.n:=by
 unfold RS.want at h ⊢
 split
 · next hi=>exact adv_lt hx hi
 · next hi=>
   rw [if_neg hi] at h
   unfold RS.fail at h
   split at h
   · exact absurd (show (40:Int)=0 from h) (by decide)
   · next he=>exact absurd h he
theorem zfh (s:RS):(zaz s).2.n<=s.n:=by unfold zaz;split;exact ze2 s;rw [zez];exact Nat.le_refl _
theorem zfx (b:Bool) (s:RS):(zav b s).2.n<=s.n:=by unfold zav;split;exact ze2 s;rw [zez];exact Nat.le_refl _
theorem zij (s:RS):(zau s).2.n<=s.n:=by unfold zau;split;exact zfh s;exact zfx _ s
theorem znr (s:RS):(zed s).2.n<=s.n:=by
 have h1:=ze2 s
 have h2:=ze2 s.adv
 have h3:=za7 s.adv zfb
 unfold zed
 split
 · split
   · exact h1
   · split
     · split
       · exact Nat.le_trans h2 h1
       · exact Nat.le_trans h3 h1
     · exact h1
 · rw [zez];exact Nat.le_refl _
def Down (B:RS->Tree × RS):Prop:=∀ s,(B s).2.n<=s.n
theorem typed_le {B:RS->Tree × RS} (hB:Down B) (s:RS):(zce B s).2.n<=s.n:=by unfold zce;split;exact hB s;exact znr s
theorem zm4 (t:Tree) (l:Int) (s:RS):(zdv t l s).2.n<=s.n:=by
 have h1:=zfh s
 have h2:=ze2 (zaz s).2
 have h3:=zij (zaz s).2.adv
 have h4:=za7 (zau (zaz s).2.adv).2 [93]
 have h5:=za7 (zau (zaz s).2.adv).2 [62]
 have h6:=za7 (zaz s).2.adv [62]
 have h7:=zez (zaz s).2 40
 unfold zdv
 simp only
 repeat' split
 all_goals (simp only;omega)
theorem zh9 {B:RS->Tree × RS} (hB:Down B) (v:Bool) (s:RS):(zcd B v s).2.n<=s.n:=by
 have h1:=ze2 s
 have h2:=typed_le hB s
 have h3:=ze2 (zce B s).2
 have h4:=zfh (zce B s).2.adv
 unfold zcd
 simp only
 repeat' split
 · exact h1
 · exact Nat.le_trans (zm4 _ _ _) h1
 · exact Nat.le_trans (zm4 _ _ _) h1
 · simp only;omega
 · exact Nat.le_trans (zm4 _ _ _) h2
theorem zmn:∀ (f:Nat) (l:List Tree) (s:RS),(zcn f l s).2.n<=s.n
 | 0,_,_=>Nat.le_refl _
 | f+1,l,s=>by
  rw [zcn]
  split
  · simp only
    have h1:=zfh s
    have h2:=za7 (zaz s).2 [61]
    have h3:=zij ((zaz s).2.want [61])
    split
    · have h4:=ze2 (zau ((zaz s).2.want [61])).2
      simp only;omega
    · refine Nat.le_trans (zmn f _ _) (Nat.le_trans (za7 _ _) ?_)
      split
      · rw [zez];omega
      · omega
  · exact Nat.le_refl _
theorem fields_le {B:RS->Tree × RS} (hB:Down B) (b:Bool):∀ (f:Nat) (l:List Tree) (s:RS),(zdb B b f l s).2.n<=s.n
 | 0,_,_=>Nat.le_refl _
 | f+1,l,s=>by
  rw [zdb]
  split
  · simp only
    have h1:=zh9 hB true s
    have h2:=za7 (zcd B true s).2 [59]
    split
    · have h4:=ze2 ((zcd B true s).2.want [59])
      simp only;omega
    · refine Nat.le_trans (fields_le hB b f _ _) ?_
      split
      · rw [zez]
        split
        · rw [zez];omega
        · omega
      · omega
  · exact Nat.le_refl _
theorem znq:∀ (f:Nat) (l:List Tree) (s:RS),(ze1 f l s).2.n<=s.n
 | 0,_,_=>Nat.le_refl _
 | f+1,l,s=>by
  rw [ze1]
  split
  · simp only
    have h1:=zij s
    have h2:=za7 (zau s).2 [58]
    split
    · refine Nat.le_trans (znq f _ _) (Nat.le_trans (za7 _ _) ?_)
      split
      · rw [zez];omega
      · omega
    · simp only;omega
  · exact Nat.le_refl _
theorem arm_le {B:RS->Tree × RS} (hB:Down B) (s:RS):(armD B s).2.n<=s.n:=by
 unfold armD
 exact Nat.le_trans (za7 _ _) (Nat.le_trans (zh9 hB _ _) (Nat.le_trans (znq _ _ _) (za7 _ _)))
theorem arms_le {B:RS->Tree × RS} (hB:Down B):∀ (f:Nat) (l:List Tree) (s:RS),(zf3 B f l s).2.n<=s.n
 | 0,_,_=>Nat.le_refl _
 | f+1,l,s=>by
  rw [zf3]
  split
  · simp only
    have h1:=arm_le hB s
    split
    · refine Nat.le_trans (arms_le hB f _ _) ?_
      split
      · rw [zez];exact h1
      · exact h1
    · exact h1
  · exact Nat.le_refl _
theorem rest_le {B:RS->Tree × RS} (hB:Down B) (l:List Tree) (s:RS):(zgl B l s).2.n<=s.n:=by
 unfold zgl
 split
 · exact Nat.le_trans (za7 _ _) (Nat.le_trans (za7 _ _) (Nat.le_trans (zh9 hB _ _) (Nat.le_trans (za7 _ _) (ze2 s))))
 · exact za7 _ _
theorem choice_le {B:RS->Tree × RS} (hB:Down B) (s:RS):(zgh B s).2.n<=s.n:=by
 unfold zgh
 exact Nat.le_trans (rest_le hB _ _) (Nat.le_trans (arms_le hB _ _ _) (Nat.le_trans (za7 _ _) (Nat.le_trans (za7 _ _) (Nat.le_trans (zh9 hB _ _) (Nat.le_trans (za7 _ _) (za7 _ _))))))
theorem kids_le {B:RS->Tree × RS} (hB:Down B) (b:Bool) (k:Int) (s:RS):(zec B b k s).2.n<=s.n:=by
 unfold zec
 split
 · exact Nat.le_trans (zmn _ _ _) (za7 _ _)
 · split
   · exact Nat.le_trans (fields_le hB _ _ _ _) (za7 _ _)
   · exact choice_le hB s
theorem zf1:∀ d,Down (zc2 d)
 | 0,s=>by rw [zc2,zez];exact Nat.le_refl _
 | d+1,s=>by
  rw [zc2]
  exact Nat.le_trans (kids_le (zf1 d) _ _ _) (ze2 s)
theorem args_le:∀ (f:Nat) (l:List Tree) (s:RS),(zhu f l s).2.n<=s.n
 | 0,_,_=>Nat.le_refl _
 | f+1,l,s=>by
  rw [zhu]
  split
  · simp only
    have h1:=znr s
    split
    · refine Nat.le_trans (args_le f _ _) (Nat.le_trans (za7 _ _) ?_)
      split
      · rw [zez];exact h1
      · exact h1
    · exact h1
  · exact Nat.le_refl _
theorem result_le (s:RS):(zeb s).2.n<=s.n:=by unfold zeb;split;exact ze2 s;exact znr s
theorem argsD_le (s:RS):(zff s).2.n<=s.n:=by unfold zff;split;exact ze2 s;exact args_le _ _ s
theorem proc_le (s:RS):(zg9 s).2.n<=s.n:=by
 unfold zg9
 exact Nat.le_trans (za7 _ _) (Nat.le_trans (zfx _ _) (Nat.le_trans (za7 _ _) (Nat.le_trans (za7 _ _) (Nat.le_trans (argsD_le _) (Nat.le_trans (za7 _ _) (Nat.le_trans (zfh _) (result_le s)))))))
theorem zne:∀ (f:Nat) (l:List Tree) (s:RS),(zb8 f l s).2.n<=s.n
 | 0,_,_=>Nat.le_refl _
 | f+1,l,s=>by
  rw [zb8]
  split
  · simp only
    have h1:=proc_le s
    have h2:=ze2 (zg9 s).2
    split
    · simp only;omega
    · refine Nat.le_trans (zne f _ _) ?_
      split
      · rw [zez];exact h1
      · exact h1
  · exact Nat.le_refl _
theorem version_le (s:RS):(zc4 s).2.n<=s.n:=by
 unfold zc4
 exact Nat.le_trans (za7 _ _) (Nat.le_trans (zfx _ _) (Nat.le_trans (za7 _ _) (Nat.le_trans (zne _ _ _) (Nat.le_trans (za7 _ _) (Nat.le_trans (zfh _) (za7 _ _))))))
theorem zke:∀ (f:Nat) (l:List Tree) (s:RS),(zbk f l s).2.n<=s.n
 | 0,_,_=>Nat.le_refl _
 | f+1,l,s=>by
  rw [zbk]
  split
  · simp only
    have h1:=version_le s
    have h2:=ze2 (zc4 s).2
    split
    · simp only;omega
    · refine Nat.le_trans (zke f _ _) ?_
      split
      · rw [zez];exact h1
      · exact h1
  · exact Nat.le_refl _
theorem program_le (s:RS):(zew s).2.n<=s.n:=by
 unfold zew
 exact Nat.le_trans (zfx _ _) (Nat.le_trans (za7 _ _) (Nat.le_trans (zke _ _ _) (Nat.le_trans (za7 _ _) (zfh _))))
theorem def_le (s:RS):(defD s).2.n<=s.n:=by
 have h1:=ze2 s
 unfold defD
 split
 · exact Nat.le_trans (kids_le (zf1 7) _ _ _) (Nat.le_trans (zfh _) h1)
 · split
   · exact Nat.le_trans (zfx _ _) (Nat.le_trans (za7 _ _) (Nat.le_trans (zfh _) h1))
   · split
     · exact Nat.le_trans (zh9 (zf1 8) _ _) h1
     · split
       · exact Nat.le_trans (program_le _) h1
       · rw [zez];exact Nat.le_refl _
/-- a round that ends by a sign that must stand there goes on, or something was wrong -/
theorem zcp {s t:RS} {x:List UInt8} (hx:x≠[]) (h:t.n<=s.n) (he:s.e=0):2*(t.want x).n+(if (t.want x).e=0 then 1 else 0)<2*s.n+(if s.e=0 then 1 else 0):=by
 rw [if_pos he]
 have h1:=za7 t x
 split
 · next h0=>have:=zkd hx h0;omega
 · omega
end Go.Proofs.YtighggeokiahfaaGreatDoor.Dm
