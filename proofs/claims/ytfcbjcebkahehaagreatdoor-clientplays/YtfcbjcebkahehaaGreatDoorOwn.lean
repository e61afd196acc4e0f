/- Proved: whatever the input, the law ClientPlays of callboxlaw17 (C2 to C6: two clients of any configs, the program's and the document's side by side: every row of calls, ticks, replies and any datagrams: each answer, behind each step the water, the time, the guess and what waits; the lists that come out are their owner's) returns true, and each argument reads behind the call as it read before. Conditions: the listed variable of the library starts as the program's text lays it (the card ties it). -/
import Derived.Test.YtfcbjcebkahehaaGreatDoorTie
import Derived.Test.YtfcbjcebkahehaaGreatDoorCards
import Derived.Test.YtfcbjcebkahehaaGreatDoorPly02
import Derived.Test.YtfcbjcebkahehaaGreatDoorPly20
set_option maxRecDepth 8000
set_option maxHeartbeats 20000000
set_option linter.unusedSimpArgs false
namespace Go.Proofs.YtfcbjcebkahehaaGreatDoor
open Go.ChangeMaps Go.ChangeShapes Go.WideShapes Go.ChangeAt Go.RowKit
theorem cellsPa:Tryz.prog.cellsOf 23=3:=by kernel_rfl
theorem cellsCo:Tryz.prog.cellsOf 28=12:=by kernel_rfl
theorem list3 {α:Type} (l:List α) (h:l.length=3):∃ a b c,l=[a,b,c]:=by
 match l,h with
 | [a,b,c],_=>exact ⟨a,b,c,rfl⟩
theorem list6 {α:Type} (l:List α) (h:l.length=6):∃ a b c d e f,l=[a,b,c,d,e,f]:=by
 match l,h with
 | [a,b,c,d,e,f],_=>exact ⟨a,b,c,d,e,f,rfl⟩
theorem list12 {α:Type} (l:List α) (h:l.length=12):∃ a b c d e f g i j k m n,l=[a,b,c,d,e,f,g,i,j,k,m,n]:=by
 match l,h with
 | [a,b,c,d,e,f,g,i,j,k,m,n],_=>exact ⟨a,b,c,d,e,f,g,i,j,k,m,n,rfl⟩
section
variable {H:Type} {enc:TypeId × Value->H} {w:World} {sp:Nat->Bool} {held:Bool}
theorem pace_up {fuel:Nat} {cs:List Value} {x:DataW H × List MemPlace} (h:DataW.trod enc Tryz.prog w 0 sp held fuel 23 cs=some x) :
 ∃ a b c:Int,cs=[iI a,iI b,iI c]:=by
 obtain ⟨xs,n,_,_,hl,hlen,hall⟩:=DataW.trod_struct Tryz.underlying23 h;rw [cellsPa] at hl;obtain ⟨v0,v1,v2,rfl⟩:=list3 cs hl;obtain ⟨y0,y1,y2,rfl⟩:=list3 xs hlen
 have e0:=hall 0 { name := "Base",type:=3,offset:=0,embedded:=false,tag := "",pkgPath := "",byteOffset:=0 } rfl
 have e1:=hall 1 { name := "Cap",type:=3,offset:=1,embedded:=false,tag := "",pkgPath := "",byteOffset:=8 } rfl
 have e2:=hall 2 { name := "Tries",type:=3,offset:=2,embedded:=false,tag := "",pkgPath := "",byteOffset:=16 } rfl
 dsimp only at e0 e1 e2
 rw [zgg] at e0 e1 e2;obtain ⟨z0,hz0,_,_⟩:=DataW.trod_int Tryz.underlying3 (cs:=[v0]) (x:=y0) e0;obtain ⟨z1,hz1,_,_⟩:=DataW.trod_int Tryz.underlying3 (cs:=[v1]) (x:=y1) e1;obtain ⟨z2,hz2,_,_⟩:=DataW.trod_int Tryz.underlying3 (cs:=[v2]) (x:=y2) e2;rw [List.cons.injEq] at hz0 hz1 hz2;exact ⟨z0,z1,z2,by rw [hz0.1,hz1.1,hz2.1]⟩
theorem config_up {fuel:Nat} {cs:List Value} {x:DataW H × List MemPlace} (h:DataW.trod enc Tryz.prog w 0 sp held fuel 28 cs=some x) :
 ∃ (c:Cl.Cf) (oa:Option Addr) (cap:Nat),cs=(Cl.cfA c oa cap).toList∧GsAt w w.heap.size oa c.sys.groups∧c.sys.groups.length<=cap∧cap<=maxLen:=by
 obtain ⟨xs,n,_,_,hl,hlen,hall⟩:=DataW.trod_struct Tryz.underlying28 h;rw [cellsCo] at hl;obtain ⟨v0,v1,v2,v3,v4,v5,v6,v7,v8,v9,v10,v11,rfl⟩:=list12 cs hl;obtain ⟨y0,y1,y2,y3,y4,y5,rfl⟩:=list6 xs hlen
 have e0:=hall 0 { name := "Address",type:=3,offset:=0,embedded:=false,tag := "",pkgPath := "",byteOffset:=0 } rfl
 have e1:=hall 1 { name := "Instance",type:=3,offset:=1,embedded:=false,tag := "",pkgPath := "",byteOffset:=8 } rfl
 have e2:=hall 2 { name := "First",type:=3,offset:=2,embedded:=false,tag := "",pkgPath := "",byteOffset:=16 } rfl
 have e3:=hall 3 { name := "Window",type:=3,offset:=3,embedded:=false,tag := "",pkgPath := "",byteOffset:=24 } rfl
 have e4:=hall 4 { name := "Pace",type:=23,offset:=4,embedded:=false,tag := "",pkgPath := "",byteOffset:=32 } rfl
 have e5:=hall 5 { name := "Sys",type:=26,offset:=7,embedded:=false,tag := "",pkgPath := "",byteOffset:=56 } rfl
 dsimp only at e0 e1 e2 e3 e4 e5
 rw [zgg] at e0 e1 e2 e3;rw [cellsPa] at e4;rw [cellsSy] at e5;obtain ⟨z0,hz0,_,_⟩:=DataW.trod_int Tryz.underlying3 (cs:=[v0]) (x:=y0) e0;obtain ⟨z1,hz1,_,_⟩:=DataW.trod_int Tryz.underlying3 (cs:=[v1]) (x:=y1) e1;obtain ⟨z2,hz2,_,_⟩:=DataW.trod_int Tryz.underlying3 (cs:=[v2]) (x:=y2) e2;obtain ⟨z3,hz3,_,_⟩:=DataW.trod_int Tryz.underlying3 (cs:=[v3]) (x:=y3) e3;obtain ⟨z4,z5,z6,hp⟩:=pace_up (cs:=[v4,v5,v6]) (x:=y4) e4;obtain ⟨s,oa,cap,hs,hg,hc,hm⟩:=sys_up (cs:=[v7,v8,v9,v10,v11]) (x:=y5) e5;rw [List.cons.injEq] at hz0 hz1 hz2 hz3;refine ⟨⟨z0,z1,z2,z3,z4,z5,z6,s⟩,oa,cap,?_,hg,hc,hm⟩;simp only [List.cons.injEq,and_true] at hp hs;rw [hz0.1,hz1.1,hz2.1,hz3.1,hp.1,hp.2.1,hp.2.2,hs.1,hs.2.1,hs.2.2.1,hs.2.2.2.1,hs.2.2.2.2]
end
theorem sizedP_at {H:Type} {P:Program} {ts:List TypeId} {ds:List (DataW H)} (h:(DataW.weightsEach P ts ds).all (·<=reachBytes)=true) {j:Nat} {t:TypeId} {d:DataW H} (ht:ts[j]?=some t) (hd:ds[j]?=some d):(d.weights P t).all (·<=reachBytes)=true:=by
 induction ts generalizing ds j with
 | nil=>simp at ht
 | cons u us ih =>
  cases ds with
  | nil=>simp at hd
  | cons e es =>
   rw [DataW.weightsEach,List.all_append,Bool.and_eq_true] at h;cases j with
   | zero =>
    simp only [List.getElem?_cons_zero,Option.some.injEq] at ht hd;subst ht hd;exact h.1
   | succ j=>exact ih h.2 (by simpa using ht) (by simpa using hd)
theorem zep (os:Os) (started:os.Started) (H:Type) (enc:TypeId × Value->H) :
 ReturnsInHanded {} Tryz.checked os 4 .any (fun w args=>(Rows.clientPlaysSpec.pre enc Tryz.prog Tryz.f4 [] false w args∧laidMetH Tryz.prog Rows.clientPlaysRow.laid w)∧sizedMet enc Tryz.prog Tryz.f4 (OpenSpec.ofChange Rows.clientPlaysSpec) false w args)
  (Rows.clientPlaysSpec.post enc Tryz.prog Tryz.f4 false true false false):=by
 refine lift_law (X:=fun w _=>laidMetH Tryz.prog Rows.clientPlaysRow.laid w) (fun _ _ _ hh h=>h.of_heap hh) started (by kernel_rfl) Tryz.func4
  (ChangeSpec.witness_shaped (enc:=enc) (C:=Tryz.checked) (os:=os) (X:=fun w _=>laidMetH Tryz.prog Rows.clientPlaysRow.laid w) false
    ({ World.holding Tryz.prog os ⟨#[],#[],[]⟩ with heap:=(World.holding Tryz.prog os ⟨#[],#[],[]⟩).heap.modify 1 fun
      | .cells _ t frozen=>.cells #[.iface 283 (.agg #[.pointer (some ⟨2,177,none⟩)])] t frozen
      | o=>o } : World) #[.agg #[iI 0,iI 0,iI 0,iI 0,iI 0,iI 0,iI 0,iI 0,.string ⟨#[]⟩,iI 0,iI 0,.slice none 0 0],.agg #[iI 0,iI 0,iI 0,iI 0,iI 0,iI 0,iI 0,iI 0,.string ⟨#[]⟩,iI 0,iI 0,.slice none 0 0],.slice none 0 0] 8 rfl
    (World.shaped_of_ZipB (by kernel_rfl) (by kernel_rfl)) (by kernel_rfl) (by kernel_rfl) (by kernel_rfl)
    (laidMetH_of_parts (laidMet_nil _ _) (by kernel_rfl))) ?_
 intro W base args ds gs before hval0 hW hwt hL hsh;have hval:∀ (j:Nat) t v,Tryz.f4.params[j]?=some t->args[j]?=some v->Value.okWide Tryz.prog W .any base t v:=hval0;have hW':=hW;obtain ⟨p,q,hA0,hV,rfl,_,_⟩:=hW;have hA:DataW.TrodAll enc Tryz.prog W 0 (fun _=>true) true Tryz.f4.params.toList args.toList ds p:=hA0;have hlt:=hA.lt;rw [Tryz.params4] at hA hval;obtain ⟨v0,v1,v2,d0,d1,d2,p0,p1,p2,rfl,rfl,rfl,h0,h1,h2⟩:=trodAll_three hA;obtain ⟨rfl,rfl⟩:=trodVars_none hV;have hw2:(d2.weights Tryz.prog 35).all (·<=reachBytes)=true:=sizedP_at (j:=2) (t:=35) hwt (by show (Tryz.f4.params.toList++_)[2]?=_;rw [Tryz.params4];rfl) rfl;obtain ⟨oa,n,cap,A,rfl,hAc⟩:=open_ops h2 (hval 2 35 v2 rfl rfl) hw2;obtain ⟨cs0,rfl,_⟩:=okWide_struct Tryz.underlying28 (hval 0 28 v0 rfl rfl);obtain ⟨cs1,rfl,_⟩:=okWide_struct Tryz.underlying28 (hval 1 28 v1 rfl rfl);have hs:∃ (c:Cl.Cf) (oa:Option Addr) (cap:Nat),cs0=Cl.cfA c oa cap∧GsAt W W.heap.size oa c.sys.groups∧c.sys.groups.length<=cap∧cap<=maxLen:=by
  obtain ⟨fuel,hf⟩:=h0;obtain ⟨s,oa,cap,hc,r⟩:=config_up hf;have hc2:cs0.toList=_:=hc;exact ⟨s,oa,cap,by cases cs0;simp_all,r⟩
 have hs' : ∃ (c:Cl.Cf) (oa:Option Addr) (cap:Nat),cs1=Cl.cfA c oa cap∧GsAt W W.heap.size oa c.sys.groups∧c.sys.groups.length<=cap∧cap<=maxLen:=by
  obtain ⟨fuel,hf⟩:=h1;obtain ⟨s,oa,cap,hc,r⟩:=config_up hf;have hc2:cs1.toList=_:=hc;exact ⟨s,oa,cap,by cases cs1;simp_all,r⟩
 obtain ⟨c0,oa0,ca0,rfl,hg0,hca0,_⟩:=hs;obtain ⟨c1,oa1,ca1,rfl,hg1,hca1,_⟩:=hs';clear hA0 hval0;simp only [List.append_nil] at hW';have hE:ErrT W:=errT_of hL;refine (Cl.plays_any c0 c1 oa0 oa1 oa ca0 ca1 n cap A W hE hg0 hca0 hg1 hca1 hAc).mono fun e W' ⟨he,hgB⟩=>?_;subst he;have hs0:=Below.trod (by kernel_rfl) (by kernel_rfl) (by rw [zek];decide) h0 hgB (fun x hx=>hlt x (by simp [hx]));have hs1:=Below.trod (by kernel_rfl) (by kernel_rfl) (by rw [zek];decide) h1 hgB (fun x hx=>hlt x (by simp [hx]));have hs2:=Below.trod (by kernel_rfl) (by kernel_rfl) (by rw [zek];decide) h2 hgB (fun x hx=>hlt x (by simp [hx]));exact ⟨_,rfl,_,_,_,[],_,[],hW',trodAll_mk1 (shut_bool Tryz.underlying4 _),trodAll_mk3 hs0 hs1 hs2,rfl,hgB.frame _,fun h=>by cases h⟩
theorem ze0:Rows.ClientPlaysSaid :=
 OpenClaim.holds_of_wide 4 Tryz.f4 rfl rfl rfl rfl rfl rfl rfl ⟨rfl,rfl,rfl,rfl,rfl⟩ rfl rfl rfl rfl rfl (by kernel_rfl) Tryz.func4 (by kernel_rfl)
  (of_decide_eq_true (by kernel_rfl)) (by unfold Func.isWrapper;first|(rw [if_pos (by decide +kernel)];kernel_rfl)|(rw [if_neg (by decide +kernel)];exact ⟨rfl,rfl⟩))
  (fun os started H enc _=>zep os started H enc)
theorem clientPlays_card:Rows.ClientPlaysCardSaid :=
 Claim7.holds_tied_plain_at .later [] [.handle] true (true,"5847c7b41930da591b3596c7dbe44dec8f8e083f79792e25e6a9596a278741f5") true ze0 (fun _ h=>by cases h) (by kernel_rfl) (fun _ h=>by cases h) clientPlays_row_tie rfl ⟨rfl,rfl⟩ (by kernel_rfl) rfl
  (fun f fn hf hfn=>by
    obtain rfl:f=4:=Option.some.inj ((show Tryz.prog.funcNamed "callbox/callboxlaw17.ClientPlays" = some 4 by kernel_rfl).symm.trans hf) |>.symm
    obtain rfl:fn=Tryz.f4:=(Option.some.inj (Tryz.func4.symm.trans hfn)).symm
    exact ⟨by kernel_rfl,fun j t ht=>by
     rw [Tryz.params4] at ht;have hm:t∈[28,28,35]:=(by simpa using Array.mem_of_getElem? ht);have hall:([28,28,35].all fun u=>!Tryz.prog.wantsStandIn u)=true:=by kernel_rfl
     exact (show Tryz.prog.wantsStandIn t=false by simpa using List.all_eq_true.1 hall t hm)⟩)
  (by kernel_rfl)
#print axioms clientPlays_card
end Go.Proofs.YtfcbjcebkahehaaGreatDoor
