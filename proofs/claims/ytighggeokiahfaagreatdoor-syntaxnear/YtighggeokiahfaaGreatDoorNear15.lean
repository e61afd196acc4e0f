import Derived.Test.YtighggeokiahfaaGreatDoorNear14
namespace Go.Proofs.YtighggeokiahfaaGreatDoor.Dm
open Go.RowKit
theorem bld03x (k a:Int) (w:World):(Instr.build 29 #[(0,.int .i64 k),(3,.int .i64 a)]).run Tryz.prog w=.ok (.agg #[.int .i64 k,.string ⟨#[]⟩,.int .i64 0,.int .i64 a,.slice none 0 0]) w:=by kernel_rfl
theorem zll {s:RS} (h:s.bodied≠0):s.hd.kind≠5∨s.hd.text≠[]:=Or.inl (by
 intro e
 unfold RS.bodied at h
 rw [e] at h
 exact h rfl)
/-- what a body is, as the document's parser of so many more reads it -/
def DBody (p g cap:Nat) (ts:List Tok) (d:Int) (B:RS->Tree × RS) (last:Bool):Prop:=∀ (k:Int) (n:List UInt8) (a:Nat) s w,DS w p g cap ts d s->Calls Tryz.prog 47 #[.pointer (some ⟨p,0,none⟩),kidV k n 0 a (.slice none 0 0)] w (zdj p g cap ts d (zah w.heap.size) (.node k n 0 a (zec B last k s).1,(zec B last k s).2) w)
set_option maxHeartbeats 2000000 in
set_option maxRecDepth 4000 in
theorem typed_no1 (p g cap:Nat) (ts:List Tok) (hE:Ends ts) (d:Int) (s:RS) (he:s.e≠0) (w:World) (h:DS w p g cap ts d s):
 Calls Tryz.prog 86 #[.pointer (some ⟨p,0,none⟩)] w (zdj p g cap ts d (zah w.heap.size) (zed s) w):=by
 have Ae:Hid (p<w.heap.size∧g<w.heap.size):=⟨h.plt,h.glt⟩
 obtain ⟨R,hR⟩:∃ R,zed s=R:=⟨_,rfl⟩
 rw [hR]
 have HR:=hid (hR.symm)
 obtain ⟨wa,hwa⟩:∃ x,w.alloc (.cells #[.int .i64 0,.string ⟨#[]⟩,.int .i64 0,.int .i64 0,.slice none 0 0] 29)=x:=⟨_,rfl⟩
 have HB:Hid (Below w.heap.size w wa):=hidB hwa
 have HK:Hid (Kep w wa w.heap.size (kidO 0 [] 0 0 (.slice none 0 0))):=by show Kep _ _ _ _;rw [<- hwa];exact Kep.new (Nat.le_refl _) _
 have HD:=hid (h.below HB.out)
 clear h hR
 have HS:Hid (Sole p w wa):=Sole.of_below HB.out
 obtain ⟨BK,hBK⟩:∃ x,s.bodied=x:=⟨_,rfl⟩
 have Ai:=hid hBK
 obtain ⟨EE,hEE⟩:∃ x,s.e=x:=⟨_,rfl⟩
 have Ac:=hid hEE
 clear hBK hEE
 have he1:(EE != 0)=true:=by rw [<- Ac.out];simp [he]
 have he2:¬ EE=0:=by rw [<- Ac.out];exact he
 clear he
 go_enter Tryz.func86,Tryz.ntmps86
 go_wp2_with fail
 clear hwa
 refine (zep p g cap ts d s _ HD.out).mono ?_
 rintro e w1 ⟨rfl,hB⟩
 have Ad:=hid hB
 have Af:=hid (HD.out.below Ad.out)
 have Ag:=hid (HS.out.trans (Sole.of_below Ad.out))
 have Ab:=hid (HK.out.below Ad.out)
 clear hB
 rw [Ai.out]
 have e3:=Af.out.e_cell.1
 rw [Ac.out] at e3
 go_wp2_with fail
 have Aj:=hid (Kep.lt Ab.out)
 have An:=hid (Sole.size Ag.out)
 refine (zgc p g cap ts hE d s _ Af.out).mono ?_
 rintro e w2 ⟨v,rfl,hv,hD,hS⟩
 have Ah:=hid hS
 have Ak:=hid hD
 have Al:=hid (Ag.out.trans Ah.out)
 have Aa:=hid (Ab.out.sole Ae.out.1 Ah.out)
 obtain ⟨k2,n2,m2,a2,ks2,o2,l2,c2,he2,rfl⟩:=zar hv
 have Ao:=hid he2
 clear he2
 have Am:=hid hv
 clear hv hD hS
 obtain ⟨⟨z0,z1,z2,z3,z4⟩,⟨y0,y1,y2,y3,y4⟩⟩:=zaa Aa.out.1
 unfold kidV
 go_wp2
 refine ret5 z0 z1 z2 z3 z4 rfl (fun u q0 q1 q2 q3 q4=>by simp [results,Tryz.results86,go_sem,q0,q1,q2,q3,q4]) (Nat.le_refl _) Al.out ?_
 intro wz hf
 rw [HR.out]
 have hpg:=Ae.out
 have hbs:=Aj.out
 exact ⟨_,rfl,Am.out.but (by omega) (by omega) (fun b _ hb=>hf.2 b hb),Ak.out.but hpg.1 hpg.2 hf.2,hf.1⟩
set_option maxHeartbeats 2000000 in
set_option maxRecDepth 4000 in
theorem typed_no2 (p g cap:Nat) (ts:List Tok) (hE:Ends ts) (d:Int) (s:RS) (he:s.e=0) (hk:s.bodied=0) (w:World) (h:DS w p g cap ts d s):
 Calls Tryz.prog 86 #[.pointer (some ⟨p,0,none⟩)] w (zdj p g cap ts d (zah w.heap.size) (zed s) w):=by
 have Ad:Hid (p<w.heap.size∧g<w.heap.size):=⟨h.plt,h.glt⟩
 obtain ⟨R,hR⟩:∃ R,zed s=R:=⟨_,rfl⟩
 rw [hR]
 have HR:=hid (hR.symm)
 obtain ⟨wa,hwa⟩:∃ x,w.alloc (.cells #[.int .i64 0,.string ⟨#[]⟩,.int .i64 0,.int .i64 0,.slice none 0 0] 29)=x:=⟨_,rfl⟩
 have HB:Hid (Below w.heap.size w wa):=hidB hwa
 have HK:Hid (Kep w wa w.heap.size (kidO 0 [] 0 0 (.slice none 0 0))):=by show Kep _ _ _ _;rw [<- hwa];exact Kep.new (Nat.le_refl _) _
 have HD:=hid (h.below HB.out)
 clear h hR
 have HS:Hid (Sole p w wa):=Sole.of_below HB.out
 obtain ⟨BK,hBK⟩:∃ x,s.bodied=x:=⟨_,rfl⟩
 have Ae:=hid hBK
 obtain ⟨EE,hEE⟩:∃ x,s.e=x:=⟨_,rfl⟩
 have Af:=hid hEE
 clear hBK hEE
 obtain rfl:EE=0:=by rw [<- Af.out];exact he
 obtain rfl:BK=0:=by rw [<- Ae.out];exact hk
 clear he hk
 go_enter Tryz.func86,Tryz.ntmps86
 go_wp2_with fail
 clear hwa
 refine (zep p g cap ts d s _ HD.out).mono ?_
 rintro e w1 ⟨rfl,hB⟩
 have Ac:=hid hB
 have Ag:=hid (HD.out.below Ac.out)
 have Ah:=hid (HS.out.trans (Sole.of_below Ac.out))
 have Ab:=hid (HK.out.below Ac.out)
 clear hB
 rw [Ae.out]
 have e3:=Ag.out.e_cell.1
 rw [Af.out] at e3
 go_wp2_with fail
 have Aj:=hid (Kep.lt Ab.out)
 have An:=hid (Sole.size Ah.out)
 refine (zgc p g cap ts hE d s _ Ag.out).mono ?_
 rintro e w2 ⟨v,rfl,hv,hD,hS⟩
 have Ai:=hid hS
 have Ak:=hid hD
 have Al:=hid (Ah.out.trans Ai.out)
 have Aa:=hid (Ab.out.sole Ad.out.1 Ai.out)
 obtain ⟨k2,n2,m2,a2,ks2,o2,l2,c2,he2,rfl⟩:=zar hv
 have Ao:=hid he2
 clear he2
 have Am:=hid hv
 clear hv hD hS
 obtain ⟨⟨z0,z1,z2,z3,z4⟩,⟨y0,y1,y2,y3,y4⟩⟩:=zaa Aa.out.1
 unfold kidV
 go_wp2
 refine ret5 z0 z1 z2 z3 z4 rfl (fun u q0 q1 q2 q3 q4=>by simp [results,Tryz.results86,go_sem,q0,q1,q2,q3,q4]) (Nat.le_refl _) Al.out ?_
 intro wz hf
 rw [HR.out]
 have hpg:=Ad.out
 have hbs:=Aj.out
 exact ⟨_,rfl,Am.out.but (by omega) (by omega) (fun b _ hb=>hf.2 b hb),Ak.out.but hpg.1 hpg.2 hf.2,hf.1⟩
set_option maxHeartbeats 2000000 in
set_option maxRecDepth 4000 in
theorem typed_deep (p g cap:Nat) (ts:List Tok) (_hE:Ends ts) (d:Int) (s:RS) (he:s.e=0) (hk:s.bodied≠0) (hd:d=8) (w:World) (h:DS w p g cap ts d s):
 Calls Tryz.prog 86 #[.pointer (some ⟨p,0,none⟩)] w (zdj p g cap ts d (zah w.heap.size) (zjc,s.fail 41) w):=by
 have Ad:Hid (p<w.heap.size∧g<w.heap.size):=⟨h.plt,h.glt⟩
 obtain ⟨R,hR⟩:∃ R,(zjc,s.fail 41)=R:=⟨_,rfl⟩
 rw [hR]
 have HR:=hid (hR.symm)
 obtain ⟨wa,hwa⟩:∃ x,w.alloc (.cells #[.int .i64 0,.string ⟨#[]⟩,.int .i64 0,.int .i64 0,.slice none 0 0] 29)=x:=⟨_,rfl⟩
 have HB:Hid (Below w.heap.size w wa):=hidB hwa
 have HK:Hid (Kep w wa w.heap.size (kidO 0 [] 0 0 (.slice none 0 0))):=by show Kep _ _ _ _;rw [<- hwa];exact Kep.new (Nat.le_refl _) _
 have HD:=hid (h.below HB.out)
 clear h hR
 have HS:Hid (Sole p w wa):=Sole.of_below HB.out
 obtain ⟨BK,hBK⟩:∃ x,s.bodied=x:=⟨_,rfl⟩
 have Ae:=hid hBK
 obtain ⟨EE,hEE⟩:∃ x,s.e=x:=⟨_,rfl⟩
 have Af:=hid hEE
 clear hBK hEE
 obtain rfl:EE=0:=by rw [<- Af.out];exact he
 have hk1:(BK==0)=false:=by rw [<- Ae.out];simp [hk]
 subst hd
 clear he hk
 have qb:=bld_
 go_enter Tryz.func86,Tryz.ntmps86
 go_wp2_with fail
 clear hwa
 refine (zep p g cap ts 8 s _ HD.out).mono ?_
 rintro e w1 ⟨rfl,hB⟩
 have Ab:=hid hB
 have Ag:=hid (HD.out.below Ab.out)
 have Ai:=hid (HS.out.trans (Sole.of_below Ab.out))
 have Ac:=hid (HK.out.below Ab.out)
 clear hB
 rw [Ae.out]
 obtain ⟨e3,e2⟩:=Ag.out.e_cell
 rw [Af.out] at e3
 go_wp2_with fail
 refine (zbu p g cap ts 8 41 s _ Ag.out).mono ?_
 rintro e w2 ⟨rfl,hD,hS⟩
 have Ah:=hid hS
 have Aj:=hid hD
 have Ak:=hid (Ai.out.trans Ah.out)
 have Aa:=hid (Ac.out.sole Ad.out.1 Ah.out)
 clear hD hS
 obtain ⟨⟨z0,z1,z2,z3,z4⟩,⟨y0,y1,y2,y3,y4⟩⟩:=zaa Aa.out.1
 go_wp2
 refine ret5 (n:=[]) (a:=0) z0 z1 z2 z3 z4 rfl (fun u q0 q1 q2 q3 q4=>by simp [results,Tryz.results86,go_sem,q0,q1,q2,q3,q4]) Aa.out.2 Ak.out ?_
 intro wz hf
 rw [HR.out]
 have hr2:=Aa.out.2
 have hpg:=Ad.out
 exact ⟨_,rfl,zfi,Aj.out.but (by omega) (by omega) hf.2,hf.1⟩
set_option maxHeartbeats 2000000 in
set_option maxRecDepth 4000 in
theorem typed_body (p g cap:Nat) (ts:List Tok) (hE:Ends ts) (d:Int) (s:RS) (B:RS->Tree × RS) (last:Bool) (hBY:DBody p g cap ts d B last) (he:s.e=0) (hk:s.bodied≠0) (hd:d≠8) (w:World) (h:DS w p g cap ts d s):
 Calls Tryz.prog 86 #[.pointer (some ⟨p,0,none⟩)] w (zdj p g cap ts d (zah w.heap.size) (Tree.node s.bodied [] 0 s.hd.at_ (zec B last s.bodied s.adv).1,(zec B last s.bodied s.adv).2) w):=by
 have Ad:Hid (p<w.heap.size∧g<w.heap.size):=⟨h.plt,h.glt⟩
 obtain ⟨R,hR⟩:∃ R,(Tree.node s.bodied [] 0 s.hd.at_ (zec B last s.bodied s.adv).1,(zec B last s.bodied s.adv).2)=R:=⟨_,rfl⟩
 rw [hR]
 have HR:=hid (hR.symm)
 obtain ⟨wa,hwa⟩:∃ x,w.alloc (.cells #[.int .i64 0,.string ⟨#[]⟩,.int .i64 0,.int .i64 0,.slice none 0 0] 29)=x:=⟨_,rfl⟩
 have HB:Hid (Below w.heap.size w wa):=hidB hwa
 have HK:Hid (Kep w wa w.heap.size (kidO 0 [] 0 0 (.slice none 0 0))):=by show Kep _ _ _ _;rw [<- hwa];exact Kep.new (Nat.le_refl _) _
 have HD:=hid (h.below HB.out)
 clear h hR
 have HS:Hid (Sole p w wa):=Sole.of_below HB.out
 obtain ⟨BK,hBK⟩:∃ x,s.bodied=x:=⟨_,rfl⟩
 have Ab:=hid hBK
 obtain ⟨EE,hEE⟩:∃ x,s.e=x:=⟨_,rfl⟩
 have Ae:=hid hEE
 clear hBK hEE
 obtain rfl:EE=0:=by rw [<- Ae.out];exact he
 have hk1:(BK==0)=false:=by rw [<- Ab.out];simp [hk]
 have Ai:=hid (zll hk)
 have hd1:(d==8)=false:=by simp [hd]
 have Aj:=hid hBY
 clear he hk hd hBY
 have qb:=bld03x
 go_enter Tryz.func86,Tryz.ntmps86
 go_wp2_with fail
 clear hwa
 refine (zep p g cap ts d s _ HD.out).mono ?_
 rintro e w1 ⟨rfl,hB⟩
 have Ac:=hid hB
 have Af:=hid (HD.out.below Ac.out)
 have Ak:=hid (HS.out.trans (Sole.of_below Ac.out))
 have Aa:=hid (HK.out.below Ac.out)
 clear hB
 rw [Ab.out]
 obtain ⟨i,hi,h1,hh,hs⟩:=Af.out.at_
 have Ag:Hid (DP w1 p g cap ts i d s.e s.pl∧s.hd=ts[i]∧s.ts=ts.drop i):=⟨h1,hh,hs⟩
 have Al:Hid ((i:Int)<=16001):=by show _<=_;have:=h1.ln;omega
 have hl:=h1.look hi
 obtain ⟨E0,hE0⟩:∃ x,s.e=x:=⟨_,rfl⟩
 obtain ⟨K,hK⟩:∃ x,ts[i].kind=x:=⟨_,rfl⟩
 obtain ⟨M,hM⟩:∃ x,ts[i].num=x:=⟨_,rfl⟩
 obtain ⟨A,hA⟩:∃ x,ts[i].at_=x:=⟨_,rfl⟩
 obtain ⟨S,hS⟩:∃ x,ts[i].text=x:=⟨_,rfl⟩
 rw [hE0,hK,hM,hA,hS] at hl
 have HF:Hid (s.e=E0∧s.hd.kind=K∧s.hd.num=M∧s.hd.at_=A∧s.hd.text=S):=⟨hE0,by rw [hh];exact hK,by rw [hh];exact hM,by rw [hh];exact hA,by rw [hh];exact hS⟩
 clear hE0 hK hM hA hS hh hs h1
 obtain ⟨hp,hg,hiq,c0,c1,c3,t0,t1,t2,t3,f1⟩:=hl
 have c1x:∀ x,(w1.alloc x).cell? ⟨p,1,none⟩=some (.int .i64 i):=fun x=>by rw [World.cell?_alloc_lt _ _ _ hp];exact c1
 have c3x:∀ x,(w1.alloc x).cell? ⟨p,3,none⟩=some (.int .i64 E0):=fun x=>by rw [World.cell?_alloc_lt _ _ _ hp];exact c3
 have f1x:∀ x,(w1.alloc x).frozen? ⟨p,1,none⟩=false:=fun x=>by rw [World.frozen?_alloc_old _ _ _ (Nat.ne_of_lt hp)];exact f1
 have Au:Hid (∀ x k,Below w1.heap.size w1 ((w1.alloc x).drewN k)):=fun x k=>zaj (zac w1 x) k
 have hne:¬ p=w1.heap.size:=by omega
 have hne2:¬ w1.heap.size=p:=by omega
 have him:=Al.out
 obtain rfl:E0=0:=by have h1:=HF.out.1;rw [Ae.out] at h1;exact h1.symm
 have e2:=Af.out.e_cell.2
 have Am:Hid (R=(Tree.node BK [] 0 A (zec B last BK s.adv).1,(zec B last BK s.adv).2)):=by
  show _=_
  rw [HR.out,Ab.out,HF.out.2.2.2.1]
 go_wp2_with fail
 go_region
 all_goals (
  have hk0:¬ BK=0:=by simpa using hk1
  go_wp2_with fail
  have HN:=hid (fun x=>DS.stepN hE Ag.out.1 Ag.out.2.2 Ai.out x 1)
  refine (Aj.out BK [] A s.adv _ (HN.out _).1).mono ?_
  rintro e w2 ⟨v,rfl,hv,hD,hS⟩
  obtain ⟨k2,n2,m2,a2,ks2,o2,l2,c2,he2,rfl⟩:=zar hv
  have An:=hid (Kep.lt Aa.out)
  have Ah:=hid ((HN.out _).2.trans hS)
  have Ao:=hid hD
  have Ap:=hid (Ak.out.trans Ah.out)
  have Aq:=hid (Aa.out.sole Ad.out.1 Ah.out)
  have Ar:=hid (zkf hv (HN.out _).2.size)
  clear hv hD hS he2
  obtain ⟨⟨z0,z1,z2,z3,z4⟩,⟨y0,y1,y2,y3,y4⟩⟩:=zaa Aq.out.1
  unfold kidV
  go_wp2
  refine ret5 z0 z1 z2 z3 z4 rfl (fun u q0 q1 q2 q3 q4=>by simp [results,Tryz.results86,go_sem,q0,q1,q2,q3,q4]) (Nat.le_refl _) Ap.out ?_
  intro wz hf
  rw [Am.out]
  have hpg:=Ad.out
  have hbs:=An.out
  exact ⟨_,rfl,Ar.out.but (by omega) (by omega) (fun b _ hb=>hf.2 b hb),Ao.out.but hpg.1 hpg.2 hf.2,hf.1⟩)
/-- a type, where so many more bodies may stand within -/
theorem typed_zero (p g cap:Nat) (ts:List Tok) (hE:Ends ts):zge p g cap ts 8 86 (zce (zc2 0)):=by
 intro s w h
 unfold zce
 by_cases he:s.e=0
 · by_cases hk:s.bodied=0
   · rw [show (s.bodied != 0)=false by simp [hk],Bool.and_false]
     exact typed_no2 p g cap ts hE 8 s he hk w h
   · rw [show (s.e==0)=true by simp [he],show (s.bodied != 0)=true by simp [hk]]
     exact typed_deep p g cap ts hE 8 s he hk rfl w h
 · rw [show (s.e==0)=false by simp [he],Bool.false_and]
   exact typed_no1 p g cap ts hE 8 s he w h
theorem typed_succ (p g cap:Nat) (ts:List Tok) (hE:Ends ts) (d:Int) (hd:d≠8) (m:Nat) (hB:DBody p g cap ts d (zc2 m) (m==0)):zge p g cap ts d 86 (zce (zc2 (m+1))):=by
 intro s w h
 unfold zce
 by_cases he:s.e=0
 · by_cases hk:s.bodied=0
   · rw [show (s.bodied != 0)=false by simp [hk],Bool.and_false]
     exact typed_no2 p g cap ts hE d s he hk w h
   · rw [show (s.e==0)=true by simp [he],show (s.bodied != 0)=true by simp [hk]]
     exact typed_body p g cap ts hE d s (zc2 m) (m==0) hB he hk hd w h
 · rw [show (s.e==0)=false by simp [he],Bool.false_and]
   exact typed_no1 p g cap ts hE d s he w h
theorem leafAt {A:Nat->Prop} {w:World} {k m:Int} {n:List UInt8} {a:Nat}:zae A w (.node k n m a []) (kidV k n m a (.slice none 0 0)):=zaf.2 ⟨_,rfl,zbe⟩
/-- a declaration, as the document's parser reads it -/
def DDecl (p g cap:Nat) (ts:List Tok) (d:Int) (B:RS->Tree × RS):Prop:=∀ (v:Bool) s w,DS w p g cap ts d s->Calls Tryz.prog 51 #[.pointer (some ⟨p,0,none⟩),.bool v] w (zdj p g cap ts d (zah w.heap.size) (zcd B v s) w)
theorem zb4 {s:RS} {x:List UInt8} (h:s.is x=false):s.may x=s:=by unfold RS.may;rw [h];rfl
theorem zdx {s:RS} {x:List UInt8} (h:s.is x=true):s.may x=s.adv:=by unfold RS.may;rw [h];rfl
set_option maxHeartbeats 2000000 in
set_option maxRecDepth 4000 in
theorem znp (p g cap:Nat) (ts:List Tok) (hE:Ends ts) (d:Int) (B:RS->Tree × RS) (hT:zge p g cap ts d 86 (zce B)):DDecl p g cap ts d B:=by
 intro v s w h
 have Eo:=hid hT
 clear hT
 have Aa:Hid (p<w.heap.size∧g<w.heap.size):=⟨h.plt,h.glt⟩
 obtain ⟨R,hR⟩:∃ R,zcd B v s=R:=⟨_,rfl⟩
 rw [hR]
 have HR:=hid (hR.symm)
 obtain ⟨wa,hwa⟩:∃ x,w.alloc (.cells #[.int .i64 0,.string ⟨#[]⟩,.int .i64 0,.int .i64 0,.slice none 0 0] 29)=x:=⟨_,rfl⟩
 have HB:Hid (Below w.heap.size w wa):=hidB hwa
 have HK:Hid (Kep w wa w.heap.size (kidO 0 [] 0 0 (.slice none 0 0))):=by show Kep _ _ _ _;rw [<- hwa];exact Kep.new (Nat.le_refl _) _
 have HD:=hid (h.below HB.out)
 clear h hR
 have HS:Hid (Sole p w wa):=Sole.of_below HB.out
 obtain ⟨i,hi,h1,hh,hs⟩:=HD.out.at_
 have Fw:Hid (DP wa p g cap ts i d s.e s.pl∧s.hd=ts[i]∧s.ts=ts.drop i):=⟨h1,hh,hs⟩
 have Eu:Hid ((i:Int)<=16001):=by show _<=_;have:=h1.ln;omega
 have hl:=h1.look hi
 obtain ⟨E0,hE0⟩:∃ x,s.e=x:=⟨_,rfl⟩
 obtain ⟨K,hK⟩:∃ x,ts[i].kind=x:=⟨_,rfl⟩
 obtain ⟨M,hM⟩:∃ x,ts[i].num=x:=⟨_,rfl⟩
 obtain ⟨A,hA⟩:∃ x,ts[i].at_=x:=⟨_,rfl⟩
 obtain ⟨S,hS⟩:∃ x,ts[i].text=x:=⟨_,rfl⟩
 rw [hE0,hK,hM,hA,hS] at hl
 have HF:Hid (s.e=E0∧s.hd.kind=K∧s.hd.num=M∧s.hd.at_=A∧s.hd.text=S):=⟨hE0,by rw [hh];exact hK,by rw [hh];exact hM,by rw [hh];exact hA,by rw [hh];exact hS⟩
 clear hE0 hK hM hA hS hh hs h1
 obtain ⟨hp,hg,hi',c0,c1,c3,t0,t1,t2,t3,f1⟩:=hl
 have c1x:∀ x,(wa.alloc x).cell? ⟨p,1,none⟩=some (.int .i64 i):=fun x=>by rw [World.cell?_alloc_lt _ _ _ hp];exact c1
 have c3x:∀ x,(wa.alloc x).cell? ⟨p,3,none⟩=some (.int .i64 E0):=fun x=>by rw [World.cell?_alloc_lt _ _ _ hp];exact c3
 have f1x:∀ x,(wa.alloc x).frozen? ⟨p,1,none⟩=false:=fun x=>by rw [World.frozen?_alloc_old _ _ _ (Nat.ne_of_lt hp)];exact f1
 have Fx:Hid (∀ x k,Below wa.heap.size wa ((wa.alloc x).drewN k)):=fun x k=>zaj (zac wa x) k
 have hne:¬ p=wa.heap.size:=by omega
 have hne2:¬ wa.heap.size=p:=by omega
 have him:=Eu.out
 have qb:=bld03x
 have qc:=zix
 cases hb1:(s.is [118,111,105,100]&&v) with
 | true =>
  rw [Bool.and_eq_true] at hb1
  obtain ⟨hbv,rfl⟩:=hb1
  have Bh:Hid (R=(Tree.node 13 [] 0 A [],s.adv)):=by show _=_;rw [HR.out];unfold zcd;rw [show s.is zde=true from hbv,HF.out.2.2.2.1];rfl
  go_enter Tryz.func51,Tryz.ntmps51
  go_wp2_with fail
  clear hwa
  go_region
  all_goals (
   go_wp2_with fail
   refine (zea p g cap ts d [118,111,105,100] s _ (HD.out.below (zal _))).mono ?_
   rintro e w1 ⟨rfl,hB⟩
   have Cw:=hid (Below.trans (zal _) (hB.mono (Below.size (zal _))))
   have Ev:=hid (HD.out.below Cw.out)
   have Ew:=hid (HS.out.trans (Sole.of_below Cw.out))
   have Bv:=hid (HK.out.below Cw.out)
   clear hB
   rw [hbv]
   obtain ⟨ix,d1,e1,him,hDa,hSa⟩:=DS.adv_set hE Ev.out (zk6 (by simp) hbv)
   obtain ⟨⟨z0,z1,z2,z3,z4⟩,⟨y0,y1,y2,y3,y4⟩⟩:=zaa Bv.out.1
   have hn3:¬ w.heap.size=p:=by have:=Aa.out.1;omega
   have hn4:¬ p=w.heap.size:=by have:=Aa.out.1;omega
   go_wp2
   obtain ⟨w9,hw9⟩:∃ x,w1.setCell ⟨p,1,none⟩ (.int .i64 ((ix:Int)+1))=x:=⟨_,rfl⟩
   rw [hw9]
   have Cx:Hid (Kep w w9 w.heap.size (kidO 0 [] 0 0 (.slice none 0 0))∧DS w9 p g cap ts d s.adv∧Sole p w w9):=by
    show _∧_
    rw [<- hw9]
    exact ⟨Bv.out.sole Aa.out.1 hSa,hDa,Ew.out.trans hSa⟩
   clear hw9
   obtain ⟨⟨z0,z1,z2,z3,z4⟩,⟨y0,y1,y2,y3,y4⟩⟩:=zaa Cx.out.1.1
   refine ret5 (n:=[]) z0 z1 z2 z3 z4 rfl (fun u q0 q1 q2 q3 q4=>by simp [results,Tryz.results51,go_sem,q0,q1,q2,q3,q4]) (Nat.le_refl _) Cx.out.2.2 ?_
   intro wz hf
   rw [Bh.out]
   have hpg:=Aa.out
   exact ⟨_,rfl,zfi,Cx.out.2.1.but hpg.1 hpg.2 hf.2,hf.1⟩)
 | false =>
  have Cy:Hid (R=(if s.is ze4 then zdv (.node 25 [] 0 A []) 1 s.adv
   else if s.is ze3 then zdv (.node 26 [] 0 A []) 2 s.adv
   else if (zce B s).2.is [42] then (zaw 17 (zaz (zce B s).2.adv).1 [(zce B s).1],(zaz (zce B s).2.adv).2)
   else zdv (zce B s).1 0 (zce B s).2)):=by show _=_;rw [HR.out];unfold zcd;rw [show (s.is zde&&v)=false from hb1,HF.out.2.2.2.1];rfl
  cases ho:s.is ze4 with
  | true =>
   have Bh:Hid (R=zdv (.node 25 [] 0 A []) 1 (s.may [111,112,97,113,117,101])):=by show _=_;rw [Cy.out,ho,show s.may [111,112,97,113,117,101]=s.adv from zdx ho];rfl
   have hbq:s.is [111,112,97,113,117,101]=true:=ho
   clear ho
   cases hbv:s.is [118,111,105,100]
   · skip
     go_enter Tryz.func51,Tryz.ntmps51
     go_wp2_with fail
     clear hwa
     go_region
     all_goals (
      go_wp2_with fail
      refine (zea p g cap ts d [118,111,105,100] s _ (HD.out.below (zal _))).mono ?_
      rintro e w2 ⟨rfl,hB⟩
      have Cz:=hid (Below.trans (zal _) (hB.mono (Below.size (zal _))))
      have Ey:=hid (HD.out.below Cz.out)
      have Ez:=hid (HS.out.trans (Sole.of_below Cz.out))
      have Da:=hid (HK.out.below Cz.out)
      clear hB
      rw [hbv]
      go_wp2_with fail
      refine (zch p g cap ts hE d [111,112,97,113,117,101] (by simp) s _ Ey.out).mono ?_
      rintro e w3 ⟨rfl,hD,hS⟩
      have Ep:=hid hS
      have Fa:=hid hD
      have Fb:=hid (Ez.out.trans Ep.out)
      have Ar:=hid (Da.out.sole Aa.out.1 Ep.out)
      clear hD hS
      rw [hbq]
      go_wp2_with fail
      have Fc:=hid (Kep.lt Ar.out)
      refine (zee p g cap ts hE d (fun _=>False) 25 0 [] A [] none 0 0 1 (s.may [111,112,97,113,117,101]) _ Fa.out (fun b hb=>hb.elim) leafAt).mono ?_
      rintro e w4 ⟨v,rfl,hv,hD,hS⟩
      have hv2:zah w3.heap.size _ w4 v:=zae.weaken hv (fun b hb=>by rcases hb with hb|hb;exact hb.elim;exact hb)
      obtain ⟨k4,n4,m4,a4,ks4,o4,l4,c4,he4,rfl⟩:=zar hv2
      have Fd:=hid hD
      have Fe:=hid (Fb.out.trans hS)
      have Ff:=hid (Ar.out.sole Aa.out.1 hS)
      have Fg:=hid hv2
      clear hv hv2 hD hS he4
      obtain ⟨⟨z0,z1,z2,z3,z4⟩,⟨y0,y1,y2,y3,y4⟩⟩:=zaa Ff.out.1
      unfold kidV
      go_wp2
      refine ret5 z0 z1 z2 z3 z4 rfl (fun u q0 q1 q2 q3 q4=>by simp [results,Tryz.results51,go_sem,q0,q1,q2,q3,q4]) (Nat.le_refl _) Fe.out ?_
      intro wz hf
      rw [Bh.out]
      have hpg:=Aa.out
      have hbs:=Fc.out
      exact ⟨_,rfl,Fg.out.but (by omega) (by omega) (fun b _ hb=>hf.2 b hb),Fd.out.but hpg.1 hpg.2 hf.2,hf.1⟩)
   · obtain rfl:v=false:=by rw [hbv] at hb1;exact hb1
     go_enter Tryz.func51,Tryz.ntmps51
     go_wp2_with fail
     clear hwa
     go_region
     all_goals (
      go_wp2_with fail
      refine (zea p g cap ts d [118,111,105,100] s _ (HD.out.below (zal _))).mono ?_
      rintro e w5 ⟨rfl,hB⟩
      have Db:=hid (Below.trans (zal _) (hB.mono (Below.size (zal _))))
      have Fh:=hid (HD.out.below Db.out)
      have Fi:=hid (HS.out.trans (Sole.of_below Db.out))
      have Dc:=hid (HK.out.below Db.out)
      clear hB
      rw [hbv]
      go_wp2_with fail
      refine (zch p g cap ts hE d [111,112,97,113,117,101] (by simp) s _ Fh.out).mono ?_
      rintro e w6 ⟨rfl,hD,hS⟩
      have Er:=hid hS
      have Fj:=hid hD
      have Fk:=hid (Fi.out.trans Er.out)
      have Au:=hid (Dc.out.sole Aa.out.1 Er.out)
      clear hD hS
      rw [hbq]
      go_wp2_with fail
      have Fl:=hid (Kep.lt Au.out)
      refine (zee p g cap ts hE d (fun _=>False) 25 0 [] A [] none 0 0 1 (s.may [111,112,97,113,117,101]) _ Fj.out (fun b hb=>hb.elim) leafAt).mono ?_
      rintro e w7 ⟨v,rfl,hv,hD,hS⟩
      have hv2:zah w6.heap.size _ w7 v:=zae.weaken hv (fun b hb=>by rcases hb with hb|hb;exact hb.elim;exact hb)
      obtain ⟨k7,n7,m7,a7,ks7,o7,l7,c7,he7,rfl⟩:=zar hv2
      have Fm:=hid hD
      have Fo:=hid (Fk.out.trans hS)
      have Fp:=hid (Au.out.sole Aa.out.1 hS)
      have Fq:=hid hv2
      clear hv hv2 hD hS he7
      obtain ⟨⟨z0,z1,z2,z3,z4⟩,⟨y0,y1,y2,y3,y4⟩⟩:=zaa Fp.out.1
      unfold kidV
      go_wp2
      refine ret5 z0 z1 z2 z3 z4 rfl (fun u q0 q1 q2 q3 q4=>by simp [results,Tryz.results51,go_sem,q0,q1,q2,q3,q4]) (Nat.le_refl _) Fo.out ?_
      intro wz hf
      rw [Bh.out]
      have hpg:=Aa.out
      have hbs:=Fl.out
      exact ⟨_,rfl,Fq.out.but (by omega) (by omega) (fun b _ hb=>hf.2 b hb),Fm.out.but hpg.1 hpg.2 hf.2,hf.1⟩)
  | false =>
   have hbq:s.is [111,112,97,113,117,101]=false:=ho
   cases hst:s.is ze3 with
   | true =>
    have Bh:Hid (R=zdv (.node 26 [] 0 A []) 2 (s.may [115,116,114,105,110,103])):=by show _=_;rw [Cy.out,ho,hst,show s.may [115,116,114,105,110,103]=s.adv from zdx hst];rfl
    have hbs:s.is [115,116,114,105,110,103]=true:=hst
    clear ho hst
    cases hbv:s.is [118,111,105,100]
    · skip
      go_enter Tryz.func51,Tryz.ntmps51
      go_wp2_with fail
      clear hwa
      go_region
      all_goals (
       go_wp2_with fail
       refine (zea p g cap ts d [118,111,105,100] s _ (HD.out.below (zal _))).mono ?_
       rintro e w8 ⟨rfl,hB⟩
       have Dd:=hid (Below.trans (zal _) (hB.mono (Below.size (zal _))))
       have Fr:=hid (HD.out.below Dd.out)
       have Fs:=hid (HS.out.trans (Sole.of_below Dd.out))
       have De:=hid (HK.out.below Dd.out)
       clear hB
       rw [hbv]
       go_wp2_with fail
       refine (zch p g cap ts hE d [111,112,97,113,117,101] (by simp) s _ Fr.out).mono ?_
       rintro e w9 ⟨rfl,hD,hS⟩
       have Es:=hid hS
       have Et:=hid hD
       have Ft:=hid (Fs.out.trans Es.out)
       have Bi:=hid (De.out.sole Aa.out.1 Es.out)
       clear hD hS
       rw [hbq]
       rw [zb4 hbq] at Et
       go_wp2_with fail
       refine (zch p g cap ts hE d [115,116,114,105,110,103] (by simp) s _ Et.out).mono ?_
       rintro e w10 ⟨rfl,hD,hS⟩
       have Bw:=hid hS
       have Df:=hid hD
       have Dg:=hid (Ft.out.trans Bw.out)
       have Am:=hid (Bi.out.sole Aa.out.1 Bw.out)
       clear hD hS
       rw [hbs]
       go_wp2_with fail
       have Dh:=hid (Kep.lt Am.out)
       refine (zee p g cap ts hE d (fun _=>False) 26 0 [] A [] none 0 0 2 (s.may [115,116,114,105,110,103]) _ Df.out (fun b hb=>hb.elim) leafAt).mono ?_
       rintro e w11 ⟨v,rfl,hv,hD,hS⟩
       have hv2:zah w10.heap.size _ w11 v:=zae.weaken hv (fun b hb=>by rcases hb with hb|hb;exact hb.elim;exact hb)
       obtain ⟨k11,n11,m11,a11,ks11,o11,l11,c11,he11,rfl⟩:=zar hv2
       have Di:=hid hD
       have Dj:=hid (Dg.out.trans hS)
       have Dk:=hid (Am.out.sole Aa.out.1 hS)
       have Dl:=hid hv2
       clear hv hv2 hD hS he11
       obtain ⟨⟨z0,z1,z2,z3,z4⟩,⟨y0,y1,y2,y3,y4⟩⟩:=zaa Dk.out.1
       unfold kidV
       go_wp2
       refine ret5 z0 z1 z2 z3 z4 rfl (fun u q0 q1 q2 q3 q4=>by simp [results,Tryz.results51,go_sem,q0,q1,q2,q3,q4]) (Nat.le_refl _) Dj.out ?_
       intro wz hf
       rw [Bh.out]
       have hpg:=Aa.out
       have hbs:=Dh.out
       exact ⟨_,rfl,Dl.out.but (by omega) (by omega) (fun b _ hb=>hf.2 b hb),Di.out.but hpg.1 hpg.2 hf.2,hf.1⟩)
    · obtain rfl:v=false:=by rw [hbv] at hb1;exact hb1
      go_enter Tryz.func51,Tryz.ntmps51
      go_wp2_with fail
      clear hwa
      go_region
      all_goals (
       go_wp2_with fail
       refine (zea p g cap ts d [118,111,105,100] s _ (HD.out.below (zal _))).mono ?_
       rintro e w12 ⟨rfl,hB⟩
       have Bj:=hid (Below.trans (zal _) (hB.mono (Below.size (zal _))))
       have Dm:=hid (HD.out.below Bj.out)
       have Dn:=hid (HS.out.trans (Sole.of_below Bj.out))
       have Bx:=hid (HK.out.below Bj.out)
       clear hB
       rw [hbv]
       go_wp2_with fail
       refine (zch p g cap ts hE d [111,112,97,113,117,101] (by simp) s _ Dm.out).mono ?_
       rintro e w13 ⟨rfl,hD,hS⟩
       have Bz:=hid hS
       have Ca:=hid hD
       have Dp:=hid (Dn.out.trans Bz.out)
       have Av:=hid (Bx.out.sole Aa.out.1 Bz.out)
       clear hD hS
       rw [hbq]
       rw [zb4 hbq] at Ca
       go_wp2_with fail
       refine (zch p g cap ts hE d [115,116,114,105,110,103] (by simp) s _ Ca.out).mono ?_
       rintro e w14 ⟨rfl,hD,hS⟩
       have Cb:=hid hS
       have Dq:=hid hD
       have Dr:=hid (Dp.out.trans Cb.out)
       have Ag:=hid (Av.out.sole Aa.out.1 Cb.out)
       clear hD hS
       rw [hbs]
       go_wp2_with fail
       have Ds:=hid (Kep.lt Ag.out)
       refine (zee p g cap ts hE d (fun _=>False) 26 0 [] A [] none 0 0 2 (s.may [115,116,114,105,110,103]) _ Dq.out (fun b hb=>hb.elim) leafAt).mono ?_
       rintro e w15 ⟨v,rfl,hv,hD,hS⟩
       have hv2:zah w14.heap.size _ w15 v:=zae.weaken hv (fun b hb=>by rcases hb with hb|hb;exact hb.elim;exact hb)
       obtain ⟨k15,n15,m15,a15,ks15,o15,l15,c15,he15,rfl⟩:=zar hv2
       have Dt:=hid hD
       have Du:=hid (Dr.out.trans hS)
       have Dv:=hid (Ag.out.sole Aa.out.1 hS)
       have Dw:=hid hv2
       clear hv hv2 hD hS he15
       obtain ⟨⟨z0,z1,z2,z3,z4⟩,⟨y0,y1,y2,y3,y4⟩⟩:=zaa Dv.out.1
       unfold kidV
       go_wp2
       refine ret5 z0 z1 z2 z3 z4 rfl (fun u q0 q1 q2 q3 q4=>by simp [results,Tryz.results51,go_sem,q0,q1,q2,q3,q4]) (Nat.le_refl _) Du.out ?_
       intro wz hf
       rw [Bh.out]
       have hpg:=Aa.out
       have hbs:=Ds.out
       exact ⟨_,rfl,Dw.out.but (by omega) (by omega) (fun b _ hb=>hf.2 b hb),Dt.out.but hpg.1 hpg.2 hf.2,hf.1⟩)
   | false =>
    have hbs:s.is [115,116,114,105,110,103]=false:=hst
    obtain ⟨tt,htt⟩:∃ x,(zce B s).1=x:=⟨_,rfl⟩
    obtain ⟨st,hst2⟩:∃ x,(zce B s).2=x:=⟨_,rfl⟩
    have Cu:Hid ((zce B s).1=tt∧(zce B s).2=st):=⟨htt,hst2⟩
    have Cv:Hid (R=(if st.is [42] then (zaw 17 (zaz st.adv).1 [tt],(zaz st.adv).2) else zdv tt 0 st)):=by show _=_;rw [Cy.out,ho,hst,<- htt,<- hst2];rfl
    clear ho hst htt hst2
    cases hbv:s.is [118,111,105,100]
    · skip
      go_enter Tryz.func51,Tryz.ntmps51
      go_wp2_with fail
      clear hwa
      go_region
      all_goals (
       go_wp2_with fail
       refine (zea p g cap ts d [118,111,105,100] s _ (HD.out.below (zal _))).mono ?_
       rintro e w16 ⟨rfl,hB⟩
       have Bl:=hid (Below.trans (zal _) (hB.mono (Below.size (zal _))))
       have Dx:=hid (HD.out.below Bl.out)
       have Dy:=hid (HS.out.trans (Sole.of_below Bl.out))
       have Cc:=hid (HK.out.below Bl.out)
       clear hB
       rw [hbv]
       go_wp2_with fail
       refine (zch p g cap ts hE d [111,112,97,113,117,101] (by simp) s _ Dx.out).mono ?_
       rintro e w17 ⟨rfl,hD,hS⟩
       have Cd:=hid hS
       have Ce:=hid hD
       have Dz:=hid (Dy.out.trans Cd.out)
       have Aw:=hid (Cc.out.sole Aa.out.1 Cd.out)
       clear hD hS
       rw [hbq]
       rw [zb4 hbq] at Ce
       go_wp2_with fail
       refine (zch p g cap ts hE d [115,116,114,105,110,103] (by simp) s _ Ce.out).mono ?_
       rintro e w18 ⟨rfl,hD,hS⟩
       have Cf:=hid hS
       have Cg:=hid hD
       have Ch:=hid (Dz.out.trans Cf.out)
       have Ah:=hid (Aw.out.sole Aa.out.1 Cf.out)
       clear hD hS
       rw [hbs]
       rw [zb4 hbs] at Cg
       go_wp2_with fail
       have Ea:=hid (Kep.lt Ah.out)
       have Fu:=hid (Sole.size Ch.out)
       refine (Eo.out s _ Cg.out).mono ?_
       rintro e w19 ⟨v,rfl,hv,hD,hS⟩
       have Bm:=hid hS
       have Ci:=hid hD
       have Cj:=hid (Ch.out.trans Bm.out)
       have Aj:=hid (Ah.out.sole Aa.out.1 Bm.out)
       obtain ⟨k19,n19,m19,a19,ks19,o19,l19,c19,he19,rfl⟩:=zar hv
       have Bb:=hid he19
       clear he19
       have Ck:=hid hv
       clear hv hD hS
       rw [Cu.out.1] at Ck Bb
       rw [Cu.out.2] at Ci
       obtain ⟨wq,hwq⟩:∃ x,w19.alloc (.cells #[.int .i64 k19,.string ⟨n19.toArray⟩,.int .i64 m19,.int .i64 a19,.slice o19 l19 c19] 29)=x:=⟨_,rfl⟩
       have Bc:Hid (Below w19.heap.size w19 wq):=hidB hwq
       have Eb:Hid (Kep w wq w19.heap.size (kidO k19 n19 m19 a19 (.slice o19 l19 c19))):=⟨by rw [<- hwq];exact heap_alloc_new _ _,Cj.out.size⟩
       have Ec:=hid (Ci.out.below Bc.out)
       have Ed:=hid (Cj.out.trans (Sole.of_below Bc.out))
       have Ee:=hid (Aj.out.below Bc.out)
       have Ef:Hid (zae (fun b=>zak w18.heap.size b∧b<w19.heap.size) wq (.node k19 n19 m19 a19 ks19) (kidV k19 n19 m19 a19 (.slice o19 l19 c19))):=by
        have h4:zah w18.heap.size (.node k19 n19 m19 a19 ks19) w19 (kidV k19 n19 m19 a19 (.slice o19 l19 c19)):=by rw [<- Bb.out];exact Ck.out
        exact zae.below (zae.there _ _ h4) Bc.out
       have Ax:Hid (w.heap.size<w18.heap.size∧w18.heap.size<=w19.heap.size):=⟨Ea.out,Bm.out.size⟩
       have Bn:Hid (∀ b,(fun b=>zak w18.heap.size b∧b<w19.heap.size) b->b≠p):=fun b hb=>by have h1:w18.heap.size<=b:=hb.1;have:=Ax.out;have:=Aa.out.1;omega
       unfold kidV
       go_wp2_with fail
       clear hwq
       refine (zch p g cap ts hE d [42] (by simp) st _ Ec.out).mono ?_
       rintro e w31 ⟨rfl,hD,hS⟩
       have An:=hid hS
       have Ao:=hid hD
       have Ay:=hid (Ed.out.trans An.out)
       have Ac:=hid (Ee.out.sole Aa.out.1 An.out)
       have Ad:=hid (Eb.out.sole Aa.out.1 An.out)
       have Ak:=hid (zae.sole Ef.out (by intro b hb;have hpg:=Aa.out.1;have hb2:=hb;first | (unfold zak at hb2;omega) | exact (Bn.out b hb)) An.out)
       clear hD hS
       obtain ⟨⟨x0,x1,x2,x3,x4⟩,_⟩:=zaa Ad.out.1
       cases hb42:st.is [42] with
       | true =>
        rw [zdx hb42] at Ao
        have Bd:Hid (R=(zaw 17 (zaz st.adv).1 [tt],(zaz st.adv).2)):=by show _=_;rw [Cv.out,hb42];rfl
        go_wp2_with fail
        refine (zcm p g cap ts hE d st.adv _ Ao.out).mono ?_
        rintro e w32 ⟨v,rfl,rfl,hD,hS⟩
        have Ap:=hid hS
        have Az:=hid hD
        have Bo:=hid (Ay.out.trans Ap.out)
        have Ae:=hid (Ac.out.sole Aa.out.1 Ap.out)
        have Ab:=hid (Ad.out.sole Aa.out.1 Ap.out)
        have Af:=hid (zae.sole Ak.out (by intro b hb;have hpg:=Aa.out.1;have hb2:=hb;first | (unfold zak at hb2;omega) | exact (Bn.out b hb)) Ap.out)
        clear hD hS
        obtain ⟨nm,hnm⟩:∃ x,(zaz st.adv).1=x:=⟨_,rfl⟩
        obtain ⟨sn,hsn⟩:∃ x,(zaz st.adv).2=x:=⟨_,rfl⟩
        rw [hnm,hsn] at Bd
        rw [hnm]
        rw [hsn] at Az
        clear hnm hsn x0 x1 x2 x3 x4
        obtain ⟨nt,na⟩:=nm
        obtain ⟨⟨x0,x1,x2,x3,x4⟩,_⟩:=zaa Ab.out.1
        obtain ⟨wv,hwv⟩:∃ x,w32.alloc (.cells #[.int .i64 k19,.string ⟨n19.toArray⟩,.int .i64 m19,.int .i64 a19,.slice o19 l19 c19] 29)=x:=⟨_,rfl⟩
        have Be:Hid (Below w32.heap.size w32 wv):=hidB hwv
        have Eg:=hid (Az.out.below Be.out)
        have Eh:=hid (Bo.out.trans (Sole.of_below Be.out))
        have Ei:=hid (Ae.out.below Be.out)
        have Bf:=hid (Ab.out.lt)
        have Ej:Hid (zae (fun b=>zak w18.heap.size b∧b≠w.heap.size) wv (.node 17 nt 0 na [tt]) (kidV 17 nt 0 na (.slice (some ⟨w32.heap.size,0,none⟩) 1 1))):=by
         have h1:=Ax.out
         have h2:=Bf.out
         rw [Bb.out]
         refine node1 (by rw [<- hwv];exact heap_alloc_new _ _) ⟨by unfold zak;omega,by omega⟩ ((zae.below Af.out Be.out).weaken (fun b hb=>?_))
         have hb1:w18.heap.size<=b:=hb.1
         have hb2:b<w19.heap.size:=hb.2
         exact ⟨⟨hb1,by omega⟩,by omega⟩
        obtain ⟨⟨z0,z1,z2,z3,z4⟩,⟨y0,y1,y2,y3,y4⟩⟩:=zaa Ei.out.1
        go_wp2
        refine ret5 z0 z1 z2 z3 z4 rfl (fun u q0 q1 q2 q3 q4=>by simp [results,Tryz.results51,go_sem,q0,q1,q2,q3,q4]) (Nat.le_refl _) Eh.out ?_
        intro wz hf
        rw [Bd.out]
        have hpg:=Aa.out
        have hzp:=Ax.out
        exact ⟨_,rfl,zae.frame (fun b hb=>by have h1:w18.heap.size<=b:=hb.1;show w.heap.size<=b;omega) (fun b hb _=>hf.2 b hb.2) _ _ Ej.out,Eg.out.but hpg.1 hpg.2 hf.2,hf.1⟩
       | false =>
        rw [zb4 hb42] at Ao
        have Bd:Hid (R=zdv (.node k19 n19 m19 a19 ks19) 0 st):=by show _=_;rw [Cv.out,hb42,Bb.out];rfl
        go_wp2_with fail
        have Aq:=hid (Kep.lt Ac.out)
        have Bf:=hid (Ad.out.lt)
        refine (zee p g cap ts hE d (fun b=>zak w18.heap.size b∧b<w19.heap.size) k19 m19 n19 a19 ks19 o19 l19 c19 0 st _ Ao.out (fun b hb=>⟨Bn.out b hb,Nat.lt_trans hb.2 Bf.out⟩) Ak.out).mono ?_
        rintro e w33 ⟨v,rfl,hv,hD,hS⟩
        have hv2:zah w18.heap.size _ w33 v:=zae.weaken hv (fun b hb=>by
         have h1:=Ax.out
         have h2:=Bf.out
         show w18.heap.size<=b
         rcases hb with hb|hb
         · exact hb.1
         · omega)
        obtain ⟨k33,n33,m33,a33,ks33,o33,l33,c33,he33,rfl⟩:=zar hv2
        have Bp:=hid hD
        have Bq:=hid (Ay.out.trans hS)
        have Br:=hid (Ac.out.sole Aa.out.1 hS)
        have Bs:=hid hv2
        clear hv hv2 hD hS he33 x0 x1 x2 x3 x4 Aq
        have Aq:=hid (Ax.out.1)
        obtain ⟨⟨z0,z1,z2,z3,z4⟩,⟨y0,y1,y2,y3,y4⟩⟩:=zaa Br.out.1
        unfold kidV
        go_wp2
        refine ret5 z0 z1 z2 z3 z4 rfl (fun u q0 q1 q2 q3 q4=>by simp [results,Tryz.results51,go_sem,q0,q1,q2,q3,q4]) (Nat.le_refl _) Bq.out ?_
        intro wz hf
        rw [Bd.out]
        have hpg:=Aa.out
        have hbs:=Aq.out
        exact ⟨_,rfl,Bs.out.but (by omega) (by omega) (fun b _ hb=>hf.2 b hb),Bp.out.but hpg.1 hpg.2 hf.2,hf.1⟩)
    · obtain rfl:v=false:=by rw [hbv] at hb1;exact hb1
      go_enter Tryz.func51,Tryz.ntmps51
      go_wp2_with fail
      clear hwa
      go_region
      all_goals (
       go_wp2_with fail
       refine (zea p g cap ts d [118,111,105,100] s _ (HD.out.below (zal _))).mono ?_
       rintro e w34 ⟨rfl,hB⟩
       have Bt:=hid (Below.trans (zal _) (hB.mono (Below.size (zal _))))
       have Ek:=hid (HD.out.below Bt.out)
       have El:=hid (HS.out.trans (Sole.of_below Bt.out))
       have Cl:=hid (HK.out.below Bt.out)
       clear hB
       rw [hbv]
       go_wp2_with fail
       refine (zch p g cap ts hE d [111,112,97,113,117,101] (by simp) s _ Ek.out).mono ?_
       rintro e w35 ⟨rfl,hD,hS⟩
       have Cm:=hid hS
       have Cn:=hid hD
       have Em:=hid (El.out.trans Cm.out)
       have Ba:=hid (Cl.out.sole Aa.out.1 Cm.out)
       clear hD hS
       rw [hbq]
       rw [zb4 hbq] at Cn
       go_wp2_with fail
       refine (zch p g cap ts hE d [115,116,114,105,110,103] (by simp) s _ Cn.out).mono ?_
       rintro e w36 ⟨rfl,hD,hS⟩
       have Co:=hid hS
       have Cp:=hid hD
       have Cq:=hid (Em.out.trans Co.out)
       have Ai:=hid (Ba.out.sole Aa.out.1 Co.out)
       clear hD hS
       rw [hbs]
       rw [zb4 hbs] at Cp
       go_wp2_with fail
       have En:=hid (Kep.lt Ai.out)
       have Fv:=hid (Sole.size Cq.out)
       refine (Eo.out s _ Cp.out).mono ?_
       rintro e w37 ⟨v,rfl,hv,hD,hS⟩
       have Bu:=hid hS
       have Cr:=hid hD
       have Cs:=hid (Cq.out.trans Bu.out)
       have Al:=hid (Ai.out.sole Aa.out.1 Bu.out)
       obtain ⟨k37,n37,m37,a37,ks37,o37,l37,c37,he37,rfl⟩:=zar hv
       have Bg:=hid he37
       clear he37
       have Ct:=hid hv
       clear hv hD hS
       rw [Cu.out.1] at Ct Bg
       rw [Cu.out.2] at Cr
       obtain ⟨wq,hwq⟩:∃ x,w37.alloc (.cells #[.int .i64 k37,.string ⟨n37.toArray⟩,.int .i64 m37,.int .i64 a37,.slice o37 l37 c37] 29)=x:=⟨_,rfl⟩
       have Bc:Hid (Below w37.heap.size w37 wq):=hidB hwq
       have Eb:Hid (Kep w wq w37.heap.size (kidO k37 n37 m37 a37 (.slice o37 l37 c37))):=⟨by rw [<- hwq];exact heap_alloc_new _ _,Cs.out.size⟩
       have Ec:=hid (Cr.out.below Bc.out)
       have Ed:=hid (Cs.out.trans (Sole.of_below Bc.out))
       have Ee:=hid (Al.out.below Bc.out)
       have Ef:Hid (zae (fun b=>zak w36.heap.size b∧b<w37.heap.size) wq (.node k37 n37 m37 a37 ks37) (kidV k37 n37 m37 a37 (.slice o37 l37 c37))):=by
        have h4:zah w36.heap.size (.node k37 n37 m37 a37 ks37) w37 (kidV k37 n37 m37 a37 (.slice o37 l37 c37)):=by rw [<- Bg.out];exact Ct.out
        exact zae.below (zae.there _ _ h4) Bc.out
       have Ax:Hid (w.heap.size<w36.heap.size∧w36.heap.size<=w37.heap.size):=⟨En.out,Bu.out.size⟩
       have Bn:Hid (∀ b,(fun b=>zak w36.heap.size b∧b<w37.heap.size) b->b≠p):=fun b hb=>by have h1:w36.heap.size<=b:=hb.1;have:=Ax.out;have:=Aa.out.1;omega
       unfold kidV
       go_wp2_with fail
       clear hwq
       refine (zch p g cap ts hE d [42] (by simp) st _ Ec.out).mono ?_
       rintro e w31 ⟨rfl,hD,hS⟩
       have An:=hid hS
       have Ao:=hid hD
       have Ay:=hid (Ed.out.trans An.out)
       have Ac:=hid (Ee.out.sole Aa.out.1 An.out)
       have Ad:=hid (Eb.out.sole Aa.out.1 An.out)
       have Ak:=hid (zae.sole Ef.out (by intro b hb;have hpg:=Aa.out.1;have hb2:=hb;first | (unfold zak at hb2;omega) | exact (Bn.out b hb)) An.out)
       clear hD hS
       obtain ⟨⟨x0,x1,x2,x3,x4⟩,_⟩:=zaa Ad.out.1
       cases hb42:st.is [42] with
       | true =>
        rw [zdx hb42] at Ao
        have Bd:Hid (R=(zaw 17 (zaz st.adv).1 [tt],(zaz st.adv).2)):=by show _=_;rw [Cv.out,hb42];rfl
        go_wp2_with fail
        refine (zcm p g cap ts hE d st.adv _ Ao.out).mono ?_
        rintro e w32 ⟨v,rfl,rfl,hD,hS⟩
        have Ap:=hid hS
        have Az:=hid hD
        have Bo:=hid (Ay.out.trans Ap.out)
        have Ae:=hid (Ac.out.sole Aa.out.1 Ap.out)
        have Ab:=hid (Ad.out.sole Aa.out.1 Ap.out)
        have Af:=hid (zae.sole Ak.out (by intro b hb;have hpg:=Aa.out.1;have hb2:=hb;first | (unfold zak at hb2;omega) | exact (Bn.out b hb)) Ap.out)
        clear hD hS
        obtain ⟨nm,hnm⟩:∃ x,(zaz st.adv).1=x:=⟨_,rfl⟩
        obtain ⟨sn,hsn⟩:∃ x,(zaz st.adv).2=x:=⟨_,rfl⟩
        rw [hnm,hsn] at Bd
        rw [hnm]
        rw [hsn] at Az
        clear hnm hsn x0 x1 x2 x3 x4
        obtain ⟨nt,na⟩:=nm
        obtain ⟨⟨x0,x1,x2,x3,x4⟩,_⟩:=zaa Ab.out.1
        obtain ⟨wv,hwv⟩:∃ x,w32.alloc (.cells #[.int .i64 k37,.string ⟨n37.toArray⟩,.int .i64 m37,.int .i64 a37,.slice o37 l37 c37] 29)=x:=⟨_,rfl⟩
        have Be:Hid (Below w32.heap.size w32 wv):=hidB hwv
        have Eg:=hid (Az.out.below Be.out)
        have Eh:=hid (Bo.out.trans (Sole.of_below Be.out))
        have Ei:=hid (Ae.out.below Be.out)
        have Bf:=hid (Ab.out.lt)
        have Ej:Hid (zae (fun b=>zak w36.heap.size b∧b≠w.heap.size) wv (.node 17 nt 0 na [tt]) (kidV 17 nt 0 na (.slice (some ⟨w32.heap.size,0,none⟩) 1 1))):=by
         have h1:=Ax.out
         have h2:=Bf.out
         rw [Bg.out]
         refine node1 (by rw [<- hwv];exact heap_alloc_new _ _) ⟨by unfold zak;omega,by omega⟩ ((zae.below Af.out Be.out).weaken (fun b hb=>?_))
         have hb1:w36.heap.size<=b:=hb.1
         have hb2:b<w37.heap.size:=hb.2
         exact ⟨⟨hb1,by omega⟩,by omega⟩
        obtain ⟨⟨z0,z1,z2,z3,z4⟩,⟨y0,y1,y2,y3,y4⟩⟩:=zaa Ei.out.1
        go_wp2
        refine ret5 z0 z1 z2 z3 z4 rfl (fun u q0 q1 q2 q3 q4=>by simp [results,Tryz.results51,go_sem,q0,q1,q2,q3,q4]) (Nat.le_refl _) Eh.out ?_
        intro wz hf
        rw [Bd.out]
        have hpg:=Aa.out
        have hzp:=Ax.out
        exact ⟨_,rfl,zae.frame (fun b hb=>by have h1:w36.heap.size<=b:=hb.1;show w.heap.size<=b;omega) (fun b hb _=>hf.2 b hb.2) _ _ Ej.out,Eg.out.but hpg.1 hpg.2 hf.2,hf.1⟩
       | false =>
        rw [zb4 hb42] at Ao
        have Bd:Hid (R=zdv (.node k37 n37 m37 a37 ks37) 0 st):=by show _=_;rw [Cv.out,hb42,Bg.out];rfl
        go_wp2_with fail
        have Aq:=hid (Kep.lt Ac.out)
        have Bf:=hid (Ad.out.lt)
        refine (zee p g cap ts hE d (fun b=>zak w36.heap.size b∧b<w37.heap.size) k37 m37 n37 a37 ks37 o37 l37 c37 0 st _ Ao.out (fun b hb=>⟨Bn.out b hb,Nat.lt_trans hb.2 Bf.out⟩) Ak.out).mono ?_
        rintro e w33 ⟨v,rfl,hv,hD,hS⟩
        have hv2:zah w36.heap.size _ w33 v:=zae.weaken hv (fun b hb=>by
         have h1:=Ax.out
         have h2:=Bf.out
         show w36.heap.size<=b
         rcases hb with hb|hb
         · exact hb.1
         · omega)
        obtain ⟨k33,n33,m33,a33,ks33,o33,l33,c33,he33,rfl⟩:=zar hv2
        have Bp:=hid hD
        have Bq:=hid (Ay.out.trans hS)
        have Br:=hid (Ac.out.sole Aa.out.1 hS)
        have Bs:=hid hv2
        clear hv hv2 hD hS he33 x0 x1 x2 x3 x4 Aq
        have Aq:=hid (Ax.out.1)
        obtain ⟨⟨z0,z1,z2,z3,z4⟩,⟨y0,y1,y2,y3,y4⟩⟩:=zaa Br.out.1
        unfold kidV
        go_wp2
        refine ret5 z0 z1 z2 z3 z4 rfl (fun u q0 q1 q2 q3 q4=>by simp [results,Tryz.results51,go_sem,q0,q1,q2,q3,q4]) (Nat.le_refl _) Bq.out ?_
        intro wz hf
        rw [Bd.out]
        have hpg:=Aa.out
        have hbs:=Aq.out
        exact ⟨_,rfl,Bs.out.but (by omega) (by omega) (fun b _ hb=>hf.2 b hb),Bp.out.but hpg.1 hpg.2 hf.2,hf.1⟩)
theorem ds_n {w:World} {p g cap:Nat} {ts:List Tok} {d:Int} {s:RS} (h:DS w p g cap ts d s):s.n<=16001:=by
 obtain ⟨i,h2,h3⟩:=h
 unfold RS.n
 rw [h2,List.length_drop]
 have:=h3.ln
 omega
/-- a round in which something must stand goes on, whatever is found wrong behind it -/
theorem zbx {s t:RS} (c:Int) (h:2*t.n+(if t.e=0 then 1 else 0)<2*s.n+(if s.e=0 then 1 else 0)) (hc:c≠0):2*(t.fail c).n+(if (t.fail c).e=0 then 1 else 0)<2*s.n+(if s.e=0 then 1 else 0):=by
 by_cases h0:t.e=0
 · rw [show t.fail c=⟨t.ts,c,t.hd.at_⟩ by unfold RS.fail;rw [if_pos h0]]
   show 2*t.n+(if c=0 then 1 else 0)<_
   rw [if_neg hc]
   rw [if_pos h0] at h
   omega
 · rw [zdr h0];exact h
set_option maxHeartbeats 2000000 in
set_option maxRecDepth 4000 in
theorem zho (p g cap:Nat) (ts:List Tok) (hE:Ends ts) (d:Int) (B:RS->Tree × RS) (last:Bool) (hl:last=(d==8)) (hDn:Down B) (hDc:DDecl p g cap ts d B):zlv p g cap ts d 83 (fieldsD B last):=by
 intro s w h
 have Cv:=hid hDc
 have Cw:=hid hDn
 have Cm:=hid hl
 clear hDc hDn hl
 have Am:Hid (p<w.heap.size∧g<w.heap.size):=⟨h.plt,h.glt⟩
 obtain ⟨R,hR⟩:∃ R,fieldsD B last s=R:=⟨_,rfl⟩
 rw [hR]
 have HR:=hid (hR.symm)
 have HD:=hid h
 have HS:Hid (Sole p w w):=Sole.refl _ _
 clear h hR
 go_enter Tryz.func83,Tryz.ntmps83
 go_wp2_with fail
 refine (zan p g cap ts hE d [123] (by simp) s _ HD.out).mono ?_
 rintro e w1 ⟨rfl,hD,hS⟩
 have Cx:=hid hS
 have Bw:=hid hD
 have Cy:=hid (HS.out.trans Cx.out)
 clear hD hS
 obtain ⟨s1,hs1⟩:∃ x,s.want [123]=x:=⟨_,rfl⟩
 have Cz:Hid (R=zdb B last (s1.n+1) [] s1):=by
  show _=_
  rw [HR.out];unfold fieldsD RS.n;rw [hs1]
 rw [hs1] at Bw
 clear hs1
 have Bx:=hid (ds_n Bw.out)
 go_wp2_with fail
 go_loopw [3] (fun sl wr=>∃ (acc:List Tree) (N:Nat) (oq:Option Addr) (cq:Nat) (st:RS) (f:Nat),sl=.slice oq N cq∧Hid (DS wr p g cap ts d st)∧Hid (Sole p w wr)∧Hid (zab (zak w.heap.size) wr acc (.slice oq N cq))∧Hid (R=zdb B last f acc st)∧Hid (N+f=s1.n+1∧(st.e=0->st.n<f))) (fun _ wr=>mu p ts.length wr)
 case atStart => exact ⟨[],0,none,0,s1,s1.n+1,rfl,Bw,Cy,zbe,Cz,⟨by omega,fun _=>by omega⟩⟩
 case round =>
  obtain ⟨acc,N,oq,cq,st,f,rfl,Bv,Bz,Cn,Co,Aq⟩:=hrel
  have Az:Hid (mu p ts.length wr=muS st):=zd8 Bv.out
  obtain ⟨e3,e2⟩:=Bv.out.e_cell
  obtain ⟨EE,hEE⟩:∃ x,st.e=x:=⟨_,rfl⟩
  have Ai:=hid hEE
  rw [hEE] at e3
  clear hEE
  by_cases he:EE=0
  case neg =>
   have he2:(EE==0)=false:=by simp [he]
   have Bb:Hid (R=([],st)):=Co.out.trans (zen (by rw [Ai.out];exact he) f acc)
   go_wp2
   go_ret
   rw [Bb.out]
   exact ⟨_,rfl,zbe,Bv.out,Bz.out⟩
  subst he
  obtain ⟨f,rfl⟩:∃ f' : Nat,f=f'+1:=⟨f-1,by have:=Aq.out.2 Ai.out;omega⟩
  have Da:Hid (N<=20000):=by show _<=_;have:=Aq.out.1;have:=Bx.out;omega
  obtain ⟨tv,htv⟩:∃ x,(zcd B true st).1=x:=⟨_,rfl⟩
  obtain ⟨sv,hsv⟩:∃ x,(zcd B true st).2=x:=⟨_,rfl⟩
  have Cp:Hid ((zcd B true st).1=tv∧(zcd B true st).2=sv):=⟨htv,hsv⟩
  obtain ⟨s2,hs2⟩:∃ x,sv.want [59]=x:=⟨_,rfl⟩
  have Bb:Hid (R=(if s2.is [125] then (acc++[tv],s2.adv) else zdb B last f (acc++[tv]) (if s2.declares&&(acc++[tv]).length==64 then (if s2.bodied != 0&&last then s2.fail 41 else s2).fail 42 else s2))):=by
   show _=_
   rw [Co.out,zdb,Ai.out,<- hs2,<- htv,<- hsv];rfl
  have Aj:Hid (2*s2.n+(if s2.e=0 then 1 else 0)<2*st.n+(if st.e=0 then 1 else 0)):=by
   show _<_
   rw [<- hs2]
   exact zcp (by simp) (by rw [<- hsv];exact zh9 Cw.out true st) Ai.out
  have Db:=hid hs2
  clear htv hsv hs2
  go_wp2_with fail
  have Ca:=hid (Sole.size Bz.out)
  refine (Cv.out true st _ Bv.out).mono ?_
  rintro e w11 ⟨v,rfl,hv,hD,hS⟩
  have Bc:=hid hS
  have Bd:=hid hD
  have Cb:=hid (Bz.out.trans Bc.out)
  have Au:=hid (zab.sole Cn.out (by intro b hb;have hpg:=Am.out.1;have hb2:=hb;first | (unfold zak at hb2;omega) | exact (Ba.out b hb)) Bc.out)
  obtain ⟨k11,n11,m11,a11,ks11,o11,l11,c11,he11,rfl⟩:=zar hv
  have Av:=hid he11
  clear he11
  have Be:=hid hv
  clear hv hD hS
  rw [Cp.out.1] at Be Av
  rw [Cp.out.2] at Bd
  obtain ⟨wb11,hwb⟩:∃ x,w11.alloc (.cells #[.int .i64 k11,.string ⟨n11.toArray⟩,.int .i64 m11,.int .i64 a11,.slice o11 l11 c11] 29)=x:=⟨_,rfl⟩
  have Bf:Hid (Below w11.heap.size w11 wb11):=hidB hwb
  have Cq:=hid (Bd.out.below Bf.out)
  have Cc:=hid (Cb.out.trans (Sole.of_below Bf.out))
  have Cr:=hid (zab.below Au.out Bf.out)
  have Cs:Hid (wb11.heap[w11.heap.size]?=some (kidO k11 n11 m11 a11 (.slice o11 l11 c11))):=by show _=_;rw [<- hwb];exact heap_alloc_new _ _
  have Cd:Hid (∀ q,(Value.slice oq N cq).ownBlock=some q->w.heap.size<=q∧q<wr.heap.size):=fun q e=>by
   have h1:=zb0 Cn.out e
   exact ⟨h1.1,h1.2⟩
  have Ct:Hid (zae (fun b=>zak w.heap.size b∧(Value.slice oq N cq).ownBlock≠some b) wb11 (.node k11 n11 m11 a11 ks11) (kidV k11 n11 m11 a11 (.slice o11 l11 c11))):=by
   have h1:=Ca.out
   have h4:zah wr.heap.size (.node k11 n11 m11 a11 ks11) w11 (kidV k11 n11 m11 a11 (.slice o11 l11 c11)):=by rw [<- Av.out];exact Be.out
   refine (zae.below h4 Bf.out).weaken (fun b hb=>?_)
   have hb1:wr.heap.size<=b:=hb
   exact ⟨by unfold zak;omega,fun e=>by have:=Cd.out b e;omega⟩
  have Cu:Hid (zak w.heap.size wb11.heap.size):=by show _<=_;exact Cc.out.size
  unfold kidV
  go_wp2_with (at_builtin;refine zii _ rfl _ _ rfl (zak w.heap.size) acc oq N cq Cr.out rfl Da.out w11.heap.size k11 m11 n11 a11 ks11 o11 l11 c11 rfl Cs.out Ct.out Cu.out ?_;intro g11 q11 x11 hA;have Ce:=hid hA;clear hA)
  have Cf:=hid (Ce.out.ds Cq.out Cc.out (fun q e=>(Cd.out q e).1) Am.out.1 Am.out.2)
  have Bg:=hid Cf.out.1
  have Bh:=hid Cf.out.2
  have Bi:=hid (Ce.out.list)
  clear hwb Cf Ce Cq Cc Cr Cs Ct Cu Bf Cd
  rw [Av.out] at Bb
  refine (zan p g cap ts hE d [59] (by simp) sv _ Bg.out).mono ?_
  rintro e w12 ⟨rfl,hD,hS⟩
  have Bj:=hid hS
  have Bl:=hid hD
  have Cg:=hid (Bh.out.trans Bj.out)
  have Ak:=hid (zab.sole Bi.out (by intro b hb;have hpg:=Am.out.1;have hb2:=hb;first | (unfold zak at hb2;omega) | exact (Ba.out b hb)) Bj.out)
  clear hD hS
  rw [Db.out] at Bl
  go_wp2_with fail
  refine (zch p g cap ts hE d [125] (by simp) s2 _ Bl.out).mono ?_
  rintro e w13 ⟨rfl,hD,hS⟩
  have Bm:=hid hS
  have An:=hid hD
  have Bn:=hid (Cg.out.trans Bm.out)
  have Ad:=hid (zab.sole Ak.out (by intro b hb;have hpg:=Am.out.1;have hb2:=hb;first | (unfold zak at hb2;omega) | exact (Ba.out b hb)) Bm.out)
  clear hD hS
  have Dc:Hid ((acc++[(Tree.node k11 n11 m11 a11 ks11)]).length=N+1):=zgb Ad.out
  cases hb1:s2.is [125] with
  | true =>
   have Ar:Hid (R=(acc++[(Tree.node k11 n11 m11 a11 ks11)],s2.may [125])):=by
    show _=_
    rw [Bb.out,zdx hb1,hb1];rfl
   clear hb1
   go_wp2
   go_ret
   rw [Ar.out]
   exact ⟨_,rfl,Ad.out,An.out,Bn.out⟩
  | false =>
   rw [zb4 hb1] at An
   have Ar:Hid (R=zdb B last f (acc++[(Tree.node k11 n11 m11 a11 ks11)]) (if s2.declares&&(N+1==64) then (if s2.bodied != 0&&last then s2.fail 41 else s2).fail 42 else s2)):=by
    show _=_
    rw [Bb.out,hb1,Dc.out];rfl
   clear hb1
   go_wp2_with fail
   refine (declares_any p g cap ts d s2 _ An.out).mono ?_
   rintro e w14 ⟨rfl,hB⟩
   have Aw:=hid hB
   have Ah:=hid (An.out.below Aw.out)
   have Ao:=hid (Bn.out.trans (Sole.of_below Aw.out))
   have Aa:=hid (zab.below Ad.out Aw.out)
   clear hB
   by_cases h64:N+1=64
   case neg =>
    have j64:((N:Int)+1==64)=false:=by simp;omega
    have Al:Hid (R=zdb B last f (acc++[(Tree.node k11 n11 m11 a11 ks11)]) s2):=by
     show _=_
     rw [Ar.out,show (N+1==64)=false by simp;omega,Bool.and_false];rfl
    clear h64
    cases hb2:s2.declares
    · skip
      go_wp2
      go_roundw
      case rel =>
       refine ⟨_,N+1,some ⟨g11,0,none⟩,q11,s2,f,rfl,Ah,Ao,Aa,Al,?_⟩
       have h1:=Aq.out
       have h5:=Aj.out
       rw [if_pos Ai.out] at h5
       refine ⟨by omega,fun h0=>?_⟩
       have h3:=h1.2 Ai.out
       rw [if_pos h0] at h5
       omega
      case measure =>
       rw [zd8 Ah.out,Az.out,zcc,zcc]
       exact Aj.out
    · skip
      go_wp2
      go_roundw
      case rel =>
       refine ⟨_,N+1,some ⟨g11,0,none⟩,q11,s2,f,rfl,Ah,Ao,Aa,Al,?_⟩
       have h1:=Aq.out
       have h5:=Aj.out
       rw [if_pos Ai.out] at h5
       refine ⟨by omega,fun h0=>?_⟩
       have h3:=h1.2 Ai.out
       rw [if_pos h0] at h5
       omega
      case measure =>
       rw [zd8 Ah.out,Az.out,zcc,zcc]
       exact Aj.out
   have j64:((N:Int)+1==64)=true:=by simp;omega
   have H64:=hid h64
   clear h64
   cases hb2:s2.declares with
   | false =>
    have Al:Hid (R=zdb B last f (acc++[(Tree.node k11 n11 m11 a11 ks11)]) s2):=by
     show _=_
     rw [Ar.out,hb2];rfl
    go_wp2
    go_roundw
    case rel =>
     refine ⟨_,N+1,some ⟨g11,0,none⟩,q11,s2,f,rfl,Ah,Ao,Aa,Al,?_⟩
     have h1:=Aq.out
     have h5:=Aj.out
     rw [if_pos Ai.out] at h5
     refine ⟨by omega,fun h0=>?_⟩
     have h3:=h1.2 Ai.out
     rw [if_pos h0] at h5
     omega
    case measure =>
     rw [zd8 Ah.out,Az.out,zcc,zcc]
     exact Aj.out
   | true =>
    go_wp2_with fail
    refine (zep p g cap ts d s2 _ Ah.out).mono ?_
    rintro e w15 ⟨rfl,hB⟩
    have Ax:=hid hB
    have Ap:=hid (Ah.out.below Ax.out)
    have Ay:=hid (Ao.out.trans (Sole.of_below Ax.out))
    have Ab:=hid (zab.below Aa.out Ax.out)
    clear hB
    have d2:=Ap.out.e_cell.2
    obtain ⟨BK,hBK⟩:∃ x,s2.bodied=x:=⟨_,rfl⟩
    rw [hBK]
    rw [hBK] at Ar
    clear hBK
    by_cases hbk:BK=0
    case pos =>
     subst hbk
     have Al:Hid (R=zdb B last f (acc++[(Tree.node k11 n11 m11 a11 ks11)]) (s2.fail 42)):=by
      show _=_
      rw [Ar.out,hb2,H64.out];rfl
     go_wp2_with fail
     refine (zbu p g cap ts d 42 s2 _ Ap.out).mono ?_
     rintro e w16 ⟨rfl,hD,hS⟩
     have Bo:=hid hS
     have Bp:=hid hD
     have Ch:=hid (Ay.out.trans Bo.out)
     have Ae:=hid (zab.sole Ab.out (by intro b hb;have hpg:=Am.out.1;have hb2:=hb;first | (unfold zak at hb2;omega) | exact (Ba.out b hb)) Bo.out)
     clear hD hS
     go_wp2
     go_roundw
     case rel =>
      refine ⟨_,N+1,some ⟨g11,0,none⟩,q11,(s2.fail 42),f,rfl,Bp,Ch,Ae,Al,?_⟩
      have h1:=Aq.out
      have h5:=(zbx 42 Aj.out (by decide))
      rw [if_pos Ai.out] at h5
      refine ⟨by omega,fun h0=>?_⟩
      have h3:=h1.2 Ai.out
      rw [if_pos h0] at h5
      omega
     case measure =>
      rw [zd8 Bp.out,Az.out,zcc,zcc]
      exact (zbx 42 Aj.out (by decide))
    have hbk2:(BK != 0)=true:=by simp [hbk]
    by_cases hd8:d=8
    case pos =>
     subst hd8
     have Al:Hid (R=zdb B last f (acc++[(Tree.node k11 n11 m11 a11 ks11)]) ((s2.fail 41).fail 42)):=by
      show _=_
      rw [Ar.out,hb2,H64.out,hbk2,Cm.out];rfl
     go_wp2_with fail
     refine (zbu p g cap ts 8 41 s2 _ Ap.out).mono ?_
     rintro e w17 ⟨rfl,hD,hS⟩
     have Bq:=hid hS
     have Ci:=hid hD
     have Cj:=hid (Ay.out.trans Bq.out)
     have Af:=hid (zab.sole Ab.out (by intro b hb;have hpg:=Am.out.1;have hb2:=hb;first | (unfold zak at hb2;omega) | exact (Ba.out b hb)) Bq.out)
     clear hD hS
     go_wp2_with fail
     refine (zbu p g cap ts 8 42 (s2.fail 41) _ Ci.out).mono ?_
     rintro e w18 ⟨rfl,hD,hS⟩
     have Br:=hid hS
     have Bs:=hid hD
     have Ck:=hid (Cj.out.trans Br.out)
     have Ac:=hid (zab.sole Af.out (by intro b hb;have hpg:=Am.out.1;have hb2:=hb;first | (unfold zak at hb2;omega) | exact (Ba.out b hb)) Br.out)
     clear hD hS
     go_wp2
     go_roundw
     case rel =>
      refine ⟨_,N+1,some ⟨g11,0,none⟩,q11,((s2.fail 41).fail 42),f,rfl,Bs,Ck,Ac,Al,?_⟩
      have h1:=Aq.out
      have h5:=(zbx 42 (zbx 41 Aj.out (by decide)) (by decide))
      rw [if_pos Ai.out] at h5
      refine ⟨by omega,fun h0=>?_⟩
      have h3:=h1.2 Ai.out
      rw [if_pos h0] at h5
      omega
     case measure =>
      rw [zd8 Bs.out,Az.out,zcc,zcc]
      exact (zbx 42 (zbx 41 Aj.out (by decide)) (by decide))
    have hd9:(d==8)=false:=by simp [hd8]
    have Al:Hid (R=zdb B last f (acc++[(Tree.node k11 n11 m11 a11 ks11)]) (s2.fail 42)):=by
     show _=_
     rw [Ar.out,hb2,H64.out,hbk2,Cm.out,hd9];rfl
    go_wp2_with fail
    refine (zbu p g cap ts d 42 s2 _ Ap.out).mono ?_
    rintro e w19 ⟨rfl,hD,hS⟩
    have Bt:=hid hS
    have Bu:=hid hD
    have Cl:=hid (Ay.out.trans Bt.out)
    have Ag:=hid (zab.sole Ab.out (by intro b hb;have hpg:=Am.out.1;have hb2:=hb;first | (unfold zak at hb2;omega) | exact (Ba.out b hb)) Bt.out)
    clear hD hS
    go_wp2
    go_roundw
    case rel =>
     refine ⟨_,N+1,some ⟨g11,0,none⟩,q11,(s2.fail 42),f,rfl,Bu,Cl,Ag,Al,?_⟩
     have h1:=Aq.out
     have h5:=(zbx 42 Aj.out (by decide))
     rw [if_pos Ai.out] at h5
     refine ⟨by omega,fun h0=>?_⟩
     have h3:=h1.2 Ai.out
     rw [if_pos h0] at h5
     omega
    case measure =>
     rw [zd8 Bu.out,Az.out,zcc,zcc]
     exact (zbx 42 Aj.out (by decide))
end Go.Proofs.YtighggeokiahfaaGreatDoor.Dm
