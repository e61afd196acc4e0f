import Derived.Test.YtighggeokiahfaaGreatDoorPrs15
import Derived.OwnWalk
import Derived.Deep.CutBlock
import Derived.Deep.DeepCutAuto
set_option maxRecDepth 4000
set_option maxHeartbeats 20000000
namespace Go.Proofs.YtighggeokiahfaaGreatDoor.Dm
theorem bind_id {α:Type} (r:Ans α):(r.bind fun a s=>.ok a s)=r:=by cases r <;> rfl
theorem zky:zfk zdc:=Or.inl (by decide)
theorem zfn:zfk zd3:=Or.inl (by decide)
theorem sim_result:Sim 1 zge zea:=by
 intro ts pl ok;unfold zge zea;rw [zct,zcy zky ok];cases h:((hdT ts).text==zdc) with
 | true=>exact zi5 13 ok zky h
 | false=>exact znn ts pl ok
def zod (f:Nat) (acc:List Tree) (s:RS):List Tree × RS:=if s.is [44] then zhy f acc ((if acc.length==4 then s.fail 42 else s).want [44]) else (acc,s)
theorem argsT_stuck (f:Nat) (acc:List Tree) (s:RS) (h:s.e≠0):(zod f acc s).2=s:=by
 unfold zod;rw [zdp h,if_neg fne]
theorem argsL_eq (f:Nat) (acc:List Tree) (ts:List Tok) (pl:Nat):zhy (f+1) acc ⟨ts,0,pl⟩=zod f (acc++[(zed ⟨ts,0,pl⟩).1]) (zed ⟨ts,0,pl⟩).2:=by
 rw [zhy];rfl
theorem sim_args:Sim 1 zbg zfb:=by
 intro ts pl ok;unfold zbg zfb;rw [zct,zcy zky ok];cases h:((hdT ts).text==zdc) with
 | true=>exact zjs _ ok (zng zky h)
 | false=>
  rw [if_neg fne,if_neg fne];have h2:=zk4 [44] (sp_s 44 (by decide)) zd7 zed znn 4 (fun l s=>.ok l s) zhy zod (fun f acc ts pl _=>argsL_eq f acc ts pl) argsT_stuck ?_ ?_ ?_ (by decide) (by decide) (ts.length+1) ts pl 66 (by decide) ok (Nat.lt_succ_self _)
  · unfold zfd;simp only [more_eq];simp only [bind_id] at h2;exact h2
  · intro f acc ts pl ok _ he;unfold zod;rw [zcy (sp_s 44 (by decide)) ok,he,if_neg fne];exact zfg acc ts pl ok
  · intro f acc ts pl ok _ hl he;unfold zod;rw [zcy (sp_s 44 (by decide)) ok,he,if_pos rfl,show (acc.length==4)=false by simp;omega,if_neg fne,zf2 (sp_s 44 (by decide)) ok he]
  · intro f acc ts pl ok hl he;unfold zod;rw [zcy (sp_s 44 (by decide)) ok,he,if_pos rfl,hl,show ((4:Nat)==4)=true from rfl,if_pos rfl,zlm,zal (at42 ts),zjo (at42 ts)];exact ⟨rfl,rfl⟩
theorem zl3 {s:RS} (h:s.e≠0):(zfb s).2=s:=by unfold zfb;rw [zdp h,if_neg fne,zjo h]
def pE3 (r:Tree) (n:List UInt8 × Nat) (l:List Tree) (s:RS):Tree × RS:=(zar 12 n ((zaq true s).1::r::l),(zaq true s).2.want [59])
def pE2 (r:Tree) (n:List UInt8 × Nat) (l:List Tree) (s:RS):Tree × RS:=pE3 r n l ((s.want [41]).want [61])
def pE1 (r:Tree) (n:List UInt8 × Nat) (s:RS):Tree × RS:=pE2 r n (zfb (s.want [40])).1 (zfb (s.want [40])).2
def pE0 (r:Tree) (s:RS):Tree × RS:=pE1 r (zav s).1 (zav s).2
theorem zlb {r:Tree} {n:List UInt8 × Nat} {l:List Tree} {s:RS} (h:s.e≠0):(pE3 r n l s).2=s:=by
 show (zaq true s).2.want [59]=s;rw [zd0 h,zal h]
theorem zlc {r:Tree} {n:List UInt8 × Nat} {l:List Tree} {s:RS} (h:s.e≠0):(pE2 r n l s).2=s:=by unfold pE2;rw [zal h,zal h,zlb h]
theorem pE1_stuck {r:Tree} {n:List UInt8 × Nat} {s:RS} (h:s.e≠0):(pE1 r n s).2=s:=by unfold pE1;rw [zal h,zl3 h,zlc h]
theorem pE0_stuck {r:Tree} {s:RS} (h:s.e≠0):(pE0 r s).2=s:=by unfold pE0;rw [zgo h,pE1_stuck h]
theorem proc_eq (s:RS):zg9 s=pE0 (zea s).1 (zea s).2:=rfl
theorem sim_proc:Sim 1 zcg zg9:=by
 intro ts pl ok;rw [proc_eq];refine ((sim_result ts pl ok).bind (j:=1) (Q:=fun r s=>(zcp s).bind fun n s=>(s.want [40]).bind fun _ s=>(zbg s).bind fun l s=>(s.want [41]).bind fun _ s=>(s.want [61]).bind fun _ s=>
   (za5 s).bind fun v s=>(s.want [59]).bind fun _ s=>.ok (named 12 n (v::r::l)) s) (E:=fun r s=>pE0 r s) (fun r ts2 ok2 _=>?_) (fun r s h=>pE0_stuck h)).less (by omega)
 refine zfa (j:=0) (Q:=fun n s=>(s.want [40]).bind fun _ s=>(zbg s).bind fun l s=>(s.want [41]).bind fun _ s=>(s.want [61]).bind fun _ s=>
   (za5 s).bind fun v s=>(s.want [59]).bind fun _ s=>.ok (named 12 n (v::r::l)) s) (E:=fun n s=>pE1 r n s) (fun n ts3 pl ok3=>?_) (fun n s h=>pE1_stuck h) ts2 pl ok2
 refine (zau (j:=0) [40] (sp_s 40 (by decide)) ok3 (Q:=fun s=>(zbg s).bind fun l s=>(s.want [41]).bind fun _ s=>(s.want [61]).bind fun _ s=>
   (za5 s).bind fun v s=>(s.want [59]).bind fun _ s=>.ok (named 12 n (v::r::l)) s) (E:=fun s=>pE2 r (n.text,n.at_) (zfb s).1 (zfb s).2) (fun ts4 ok4 _=>?_) (fun s h=>by rw [zl3 h,zlc h])).less (Nat.zero_le _)
 refine ((sim_args ts4 pl ok4).bind (j:=0) (Q:=fun l s=>(s.want [41]).bind fun _ s=>(s.want [61]).bind fun _ s=>
   (za5 s).bind fun v s=>(s.want [59]).bind fun _ s=>.ok (named 12 n (v::r::l)) s) (E:=fun l s=>pE2 r (n.text,n.at_) l s) (fun l ts5 ok5 _=>?_) (fun l s h=>zlc h)).less (Nat.zero_le _)
 refine (zau (j:=0) [41] (sp_s 41 (by decide)) ok5 (Q:=fun s=>(s.want [61]).bind fun _ s=>
   (za5 s).bind fun v s=>(s.want [59]).bind fun _ s=>.ok (named 12 n (v::r::l)) s) (E:=fun s=>pE3 r (n.text,n.at_) l (s.want [61])) (fun ts6 ok6 _=>?_) (fun s h=>by rw [zal h,zlb h])).less (Nat.zero_le _)
 refine (zau (j:=0) [61] (sp_s 61 (by decide)) ok6 (Q:=fun s=>
   (za5 s).bind fun v s=>(s.want [59]).bind fun _ s=>.ok (named 12 n (v::r::l)) s) (E:=fun s=>pE3 r (n.text,n.at_) l s) (fun ts7 ok7 _=>?_) (fun s h=>zlb h)).less (Nat.zero_le _)
 exact ((zk3 ts7 pl ok7).bind (j:=1) (Q:=fun v s=>(s.want [59]).bind fun _ s=>.ok (named 12 n (v::r::l)) s) (E:=fun v s=>(zar 12 (n.text,n.at_) (v::r::l),s.want [59])) (fun v ts8 ok8 _=>zcx [59] (sp_s 59 (by decide)) _ ok8) (fun v s h=>zal h _)).less (Nat.zero_le _)
def zh7 (s:RS):Bool:=s.begins||s.is zdc
theorem full_proc {ts:List Tok} (ok:Okl ts) (pl:Nat):zcg ⟨ts,true⟩=.no (if zh7 ⟨ts,0,pl⟩ then 42 else 40) (hdT ts).at_:=by
 unfold zcg zge zh7;rw [zct,zcy zky ok];cases h:((hdT ts).text==zdc) with
 | true=>
  rw [if_pos rfl,Bool.or_true,if_pos rfl];rfl
 | false=>
  rw [if_neg fne,full_bare ok pl,Bool.or_false];rfl
theorem none_proc {ts:List Tok} {pl:Nat} (h:zh7 ⟨ts,0,pl⟩=false):(zg9 ⟨ts,0,pl⟩).2=⟨ts,40,(hdT ts).at_⟩:=by
 unfold zh7 at h;rw [Bool.or_eq_false_iff] at h;have e:(zea ⟨ts,0,pl⟩).2=⟨ts,40,(hdT ts).at_⟩:=by
  unfold zea;rw [h.2,if_neg fne,bare_none h.1]
 rw [proc_eq,e,pE0_stuck (at40 ts)]
def numC (k:Int) (n:List UInt8 × Nat) (l:List Tree × RS):Tree × RS:=(zar k n ((zaq true (l.2.want [61])).1::l.1),(zaq true (l.2.want [61])).2)
theorem zgn {k:Int} {n:List UInt8 × Nat} {l:List Tree × RS} (h:l.2.e≠0):(numC k n l).2=l.2:=by
 show (zaq true (l.2.want [61])).2=l.2;rw [zal h,zd0 h]
def numE (k:Int) (L0:Nat->List Tree->RS->List Tree × RS) (n:List UInt8 × Nat) (s:RS):Tree × RS:=numC k n (L0 (s.ts.length+1) [] s)
def numD (k:Int) (L0:Nat->List Tree->RS->List Tree × RS) (s:RS):Tree × RS:=numE k L0 (zav s).1 ((zav s).2.want [123])
def numT (k:Int) (part:PS->Ans Tree) (s:PS):Ans Tree:=(zcp s).bind fun n s=>(s.want [123]).bind fun _ s=>(zcl part [[125]] 66 [] s).bind fun l s=>
  (s.want [125]).bind fun _ s=>(s.want [61]).bind fun _ s=>(za5 s).bind fun v s=>.ok (named k n (v::l)) s
def partT (L0:Nat->List Tree->RS->List Tree × RS) (m:RS->Bool) (f:Nat) (acc:List Tree) (s:RS):List Tree × RS:=if s.is [125] then (acc,s.adv) else L0 f acc (if m s&&acc.length==64 then s.fail 42 else s)
theorem zk9 (L0:Nat->List Tree->RS->List Tree × RS) (m:RS->Bool) (stL:∀ f acc s,s.e≠0->L0 f acc s=(acc,s)) (f:Nat) (acc:List Tree) (s:RS) (h:s.e≠0):partT L0 m f acc s=(acc,s):=by
 unfold partT;rw [zdp h,if_neg fne,zdu h,ite_self,stL _ _ _ h]
theorem zji (k:Int) (L0:Nat->List Tree->RS->List Tree × RS) (stL:∀ f acc s,s.e≠0->L0 f acc s=(acc,s)) {n:List UInt8 × Nat} {s:RS} (h:s.e≠0):(numE k L0 n s).2=s:=by
 unfold numE;rw [stL _ _ _ h];exact zgn (l:=([],s)) h
theorem numD_stuck (k:Int) (L0:Nat->List Tree->RS->List Tree × RS) (stL:∀ f acc s,s.e≠0->L0 f acc s=(acc,s)) {s:RS} (h:s.e≠0):(numD k L0 s).2=s:=by
 unfold numD;rw [zgo h,zal h,zji k L0 stL h]
theorem zjw (k:Int) (part:PS->Ans Tree) (partD:RS->Tree × RS) (h1:Sim 1 part partD) (L0:Nat->List Tree->RS->List Tree × RS) (m:RS->Bool) (hL0:∀ f acc ts pl,L0 (f+1) acc ⟨ts,0,pl⟩=partT L0 m f (acc++[(partD ⟨ts,0,pl⟩).1]) (partD ⟨ts,0,pl⟩).2) (stL:∀ f acc s,s.e≠0->L0 f acc s=(acc,s)) (hfull:∀ ts pl,Okl ts->part ⟨ts,true⟩=.no (if m ⟨ts,0,pl⟩ then 42 else 40) (hdT ts).at_) (hnone:∀ ts pl,Okl ts->m ⟨ts,0,pl⟩=false->(partD ⟨ts,0,pl⟩).2=⟨ts,40,(hdT ts).at_⟩):Sim 1 (numT k part) (numD k L0):=by
 refine zfa (j:=0) (Q:=fun n s=>(s.want [123]).bind fun _ s=>(zcl part [[125]] 66 [] s).bind fun l s=>
  (s.want [125]).bind fun _ s=>(s.want [61]).bind fun _ s=>(za5 s).bind fun v s=>.ok (named k n (v::l)) s) (E:=fun n s=>numE k L0 n (s.want [123])) (fun n ts pl ok=>?_) (fun n s h=>by rw [zal h,zji k L0 stL h])
 refine (zau (j:=0) [123] (sp_s 123 (by decide)) ok (Q:=fun s=>(zcl part [[125]] 66 [] s).bind fun l s=>
  (s.want [125]).bind fun _ s=>(s.want [61]).bind fun _ s=>(za5 s).bind fun v s=>.ok (named k n (v::l)) s) (E:=fun s=>numE k L0 (n.text,n.at_) s) (fun ts2 ok2 _=>?_) (fun s h=>zji k L0 stL h)).less (Nat.zero_le _)
 refine (zk1 part partD h1 [[125]] (fun l s=>(s.want [125]).bind fun _ s=>(s.want [61]).bind fun _ s=>(za5 s).bind fun v s=>.ok (named k n (v::l)) s) (fun f acc s=>numC k (n.text,n.at_) (L0 f acc s)) (fun f acc s=>numC k (n.text,n.at_) (partT L0 m f acc s)) (fun f acc ts pl _=>by rw [hL0]) (fun f acc s h=>by rw [zk9 L0 m stL _ _ _ h];exact zgn (l:=(acc,s)) h) ?_ ?_ ?_ (ts2.length+1) ts2 pl ok2 (Nat.lt_succ_self _)).less (Nat.zero_le _)
 · intro f acc ts pl ok _ he;rw [zjq] at he;unfold partT;rw [zcy (sp_s 125 (by decide)) ok,he,if_pos rfl,show (⟨ts,0,pl⟩:RS).adv=(⟨ts,0,pl⟩:RS).want [125] from (zf2 (sp_s 125 (by decide)) ok he).symm];refine (zau (j:=0) [125] (sp_s 125 (by decide)) ok (Q:=fun s=>(s.want [61]).bind fun _ s=>(za5 s).bind fun v s=>.ok (named k n (v::acc)) s) (E:=fun s=>numC k (n.text,n.at_) (acc,s)) (fun ts3 ok3 _=>?_) (fun s h=>zgn (l:=(acc,s)) h)).less (Nat.zero_le _);refine (zau (j:=0) [61] (sp_s 61 (by decide)) ok3 (Q:=fun s=>(za5 s).bind fun v s=>.ok (named k n (v::acc)) s) (E:=fun s=>(zar k (n.text,n.at_) ((zaq true s).1::acc),(zaq true s).2)) (fun ts4 ok4 _=>?_) (fun s h=>by rw [zd0 h])).less (Nat.zero_le _);exact ((zk3 ts4 pl ok4).bind (j:=0) (Q:=fun v s=>.ok (named k n (v::acc)) s) (E:=fun v s=>(zar k (n.text,n.at_) (v::acc),s)) (fun v ts5 ok5 _=>zfg _ ts5 pl ok5) (fun _ _ _=>rfl)).less (Nat.zero_le _)
 · intro f acc ts pl ok _ hl he;rw [zjq] at he;left
   unfold partT;rw [zcy (sp_s 125 (by decide)) ok,he,if_neg fne,show (acc.length==64)=false by simp;omega,Bool.and_false,if_neg fne]
 · intro f acc ts pl ok hl he;rw [zjq] at he;have e1:=hfull ts pl ok;unfold partT;rw [zcy (sp_s 125 (by decide)) ok,he,if_neg fne,hl];cases hm:m ⟨ts,0,pl⟩ with
   | true=>
    rw [hm,if_pos rfl] at e1;rw [show ((true:Bool)&&(64:Nat)==64)=true from rfl,if_pos rfl,zlm,stL _ _ _ (at42 ts)];refine ⟨42,_,by decide,e1,?_,?_⟩ <;> rw [zgn (at42 ts)]
   | false=>
    rw [hm,if_neg fne] at e1;rw [Bool.false_and,if_neg fne,hL0,hnone ts pl ok hm,zk9 L0 m stL _ _ _ (at40 ts)];refine ⟨40,_,by decide,e1,?_,?_⟩ <;> rw [zgn (at40 ts)]
theorem procsL_eq (f:Nat) (acc:List Tree) (ts:List Tok) (pl:Nat):zb8 (f+1) acc ⟨ts,0,pl⟩=partT zb8 zh7 f (acc++[(zg9 ⟨ts,0,pl⟩).1]) (zg9 ⟨ts,0,pl⟩).2:=by
 rw [zb8];rfl
theorem sim_procs (k:Int):Sim 1 (numT k zcg) (numD k zb8):=zjw k zcg zg9 sim_proc zb8 zh7 procsL_eq (fun _ _ _ h=>zh6 h _ _) (fun _ pl ok=>full_proc ok pl) (fun _ _ _ h=>none_proc h)
theorem zld (k:Int) (part:PS->Ans Tree) (ts:List Tok):zef k part ⟨ts,false⟩=numT k part ⟨ts.tail,false⟩:=rfl
def verE (s:RS):Tree × RS:=((numD 11 zb8 s).1,(numD 11 zb8 s).2.want [59])
theorem zmm (s:RS):zc4 s=verE (s.want zd3):=by
 unfold zc4 verE numD numE numC;rfl
theorem zmn {s:RS} (h:s.e≠0):(verE s).2=s:=by
 show (numD 11 zb8 s).2.want [59]=s;rw [numD_stuck 11 zb8 (fun _ _ _ h=>zh6 h _ _) h,zal h]
theorem sim_version:Sim 1 zdm zc4:=by
 intro ts pl ok;rw [zmm];unfold zdm;rw [zct];cases h:((hdT ts).text==zd3) with
 | true=>
  rw [if_pos rfl,zf2 zfn ok h,zld];refine (agr_up (k:=0) ?_ (zku (zng zfn h))).less (by omega);exact ((sim_procs 11 ts.tail pl ok.tail).bind (j:=1) (Q:=fun t s=>(s.want [59]).bind fun _ s=>.ok t s) (E:=fun t s=>(t,s.want [59])) (fun t ts2 ok2 _=>zcx [59] (sp_s 59 (by decide)) t ok2) (fun _ s h=>zal h _)).less (Nat.zero_le _)
 | false=>
  rw [if_neg fne,znc zfn ok h];refine ⟨by decide,?_,?_⟩ <;> rw [zmn (at40 ts)]
  rfl
def versM (s:RS):Bool:=s.is zd3
theorem versionsL_eq (f:Nat) (acc:List Tree) (ts:List Tok) (pl:Nat):zbi (f+1) acc ⟨ts,0,pl⟩=partT zbi versM f (acc++[(zc4 ⟨ts,0,pl⟩).1]) (zc4 ⟨ts,0,pl⟩).2:=by
 rw [zbi];rfl
theorem sim_program (k:Int):Sim 1 (numT k zdm) (numD k zbi):=zjw k zdm zc4 sim_version zbi versM versionsL_eq (fun _ _ _ h=>zh0 h _ _) (fun ts pl ok=>by
  unfold zdm versM;rw [zct,zcy zfn ok];cases (hdT ts).text==zd3 <;> rfl) (fun ts pl ok h=>by
  unfold versM at h;rw [zcy zfn ok] at h;rw [zmm,znc zfn ok h,zmn (at40 ts)])
theorem zkj:zfk zdv:=Or.inl (by decide)
theorem zjc:zfk zc3:=Or.inl (by decide)
theorem zjd:zfk zda:=Or.inl (by decide)
theorem zh1 (ts:List Tok) (f:Bool):zbu ⟨ts,f⟩=(if (hdT ts).text==zdv then ((⟨ts,f⟩:PS).want zdv).bind fun _ s=>(zcp s).bind fun n s=>(s.want [61]).bind fun _ s=>(zeb s).bind fun v s=>.ok (named 2 n [v]) s
 else if (hdT ts).text==zc3 then (⟨ts,f⟩:PS).take.bind fun t s=>(zb6 (zbe 8 false) s).bind fun d s=>.ok (.node 3 [] 0 t.at_ [d]) s
 else if zei (hdT ts).text then zbe 8 true ⟨ts,f⟩
 else if (hdT ts).text==zda then zef 10 zdm ⟨ts,f⟩
 else (⟨ts,f⟩:PS).bad 40):=rfl
theorem defD_eq {ts:List Tok} {pl:Nat} (ok:Okl ts):defD ⟨ts,0,pl⟩=(if zei (hdT ts).text then (zar (⟨ts,0,pl⟩:RS).bodied (zav ⟨ts.tail,0,pl⟩).1 (zec (zc2 7) false (⟨ts,0,pl⟩:RS).bodied (zav ⟨ts.tail,0,pl⟩).2).1,(zec (zc2 7) false (⟨ts,0,pl⟩:RS).bodied (zav ⟨ts.tail,0,pl⟩).2).2)
 else if (hdT ts).text==zdv then (zar 2 (zav ⟨ts.tail,0,pl⟩).1 [(zaq false ((zav ⟨ts.tail,0,pl⟩).2.want [61])).1],(zaq false ((zav ⟨ts.tail,0,pl⟩).2.want [61])).2)
 else if (hdT ts).text==zc3 then (.node 3 [] 0 (hdT ts).at_ [(zce (zc2 8) false ⟨ts.tail,0,pl⟩).1],(zce (zc2 8) false ⟨ts.tail,0,pl⟩).2)
 else if (hdT ts).text==zda then numD 10 zbi ⟨ts.tail,0,pl⟩ else (zh9,⟨ts,40,(hdT ts).at_⟩)):=by
 unfold defD;rw [zgp ok,zcy zkj ok,zcy zjc ok,zcy zjd ok];rfl
theorem body_not {t x:List UInt8} (h:(t==x)=true) (hx:zei x=false):zei t=false:=by rw [eq_of_beq h];exact hx
theorem zmd:Sim 1 zbu defD:=by
 intro ts pl ok;rw [zh1,defD_eq ok];cases hc:((hdT ts).text==zdv) with
 | true=>
  rw [body_not hc (by decide),if_pos rfl,if_neg fne,if_pos rfl,<- zf2 (pl:=pl) zkj ok hc];refine (zau (j:=0) zdv zkj ok (Q:=fun s=>(zcp s).bind fun n s=>(s.want [61]).bind fun _ s=>(zeb s).bind fun v s=>.ok (named 2 n [v]) s) (E:=fun s=>(zar 2 (zav s).1 [(zaq false ((zav s).2.want [61])).1],(zaq false ((zav s).2.want [61])).2)) (fun ts2 ok2 _=>?_) (fun s h=>by rw [zgo h,zal h,zd0 h]));refine (zfa (j:=0) (Q:=fun n s=>(s.want [61]).bind fun _ s=>(zeb s).bind fun v s=>.ok (named 2 n [v]) s) (E:=fun n s=>(zar 2 n [(zaq false (s.want [61])).1],(zaq false (s.want [61])).2)) (fun n ts3 pl ok3=>?_) (fun n s h=>by rw [zal h,zd0 h]) ts2 pl ok2).less (Nat.zero_le _);refine (zau (j:=0) [61] (sp_s 61 (by decide)) ok3 (Q:=fun s=>(zeb s).bind fun v s=>.ok (named 2 n [v]) s) (E:=fun s=>(zar 2 (n.text,n.at_) [(zaq false s).1],(zaq false s).2)) (fun ts4 ok4 _=>?_) (fun s h=>by rw [zd0 h])).less (Nat.zero_le _);exact ((zjf ts4 pl ok4).bind (j:=0) (Q:=fun v s=>.ok (named 2 n [v]) s) (E:=fun v s=>(zar 2 (n.text,n.at_) [v],s)) (fun v ts5 ok5 _=>zfg _ ts5 pl ok5) (fun _ _ _=>rfl)).less (Nat.zero_le _)
 | false=>
  rw [if_neg fne];cases ht:((hdT ts).text==zc3) with
  | true=>
   rw [body_not ht (by decide),if_pos rfl,if_neg fne,if_neg fne,if_pos rfl];refine (zgb (k:=0) (Q:=fun t s=>(zb6 (zbe 8 false) s).bind fun d s=>.ok (Tree.node 3 [] 0 t.at_ [d]) s) ok (zku (zng zjc ht)) (fun ok2=>?_));exact ((ziv (znm 8) (zlv 8 false) ts.tail pl ok2).bind (j:=0) (Q:=fun d s=>.ok (Tree.node 3 [] 0 (hdT ts).at_ [d]) s) (E:=fun d s=>(Tree.node 3 [] 0 (hdT ts).at_ [d],s)) (fun v ts5 ok5 _=>zfg _ ts5 pl ok5) (fun _ _ _=>rfl)).less (Nat.zero_le _)
  | false=>
   rw [if_neg fne];cases hb:zei (hdT ts).text with
   | true=>
    rw [if_pos rfl,if_pos rfl,body_yes hb,bodied_eq ok hb];refine (agr_up (k:=0) ?_ (zku (Or.inl (word_ne (zhu hb)))));refine (zfa (j:=0) (Q:=fun n s=>(kP 7 (hdT ts).text s).bind fun l s=>.ok (named (zhc (hdT ts).text) n l) s) (E:=fun n s=>(zar (zhc (hdT ts).text) n (zec (zc2 7) false (zhc (hdT ts).text) s).1,(zec (zc2 7) false (zhc (hdT ts).text) s).2)) (fun n ts3 pl ok3=>?_) (fun n s h=>kids_stuck h) ts.tail pl ok.tail).less (Nat.zero_le _);exact ((sim_kids hb (znm 7) ts3 pl ok3).bind (j:=0) (Q:=fun l s=>.ok (named (zhc (hdT ts).text) n l) s) (E:=fun l s=>(zar (zhc (hdT ts).text) (n.text,n.at_) l,s)) (fun v ts5 ok5 _=>zfg _ ts5 pl ok5) (fun _ _ _=>rfl)).less (Nat.zero_le _)
   | false=>
    rw [if_neg fne,if_neg fne,if_neg fne,if_neg fne];cases hp:((hdT ts).text==zda) with
    | true=>
     rw [if_pos rfl,if_pos rfl,zld];exact (agr_up (sim_program 10 ts.tail pl ok.tail) (zku (zng zjd hp))).less (by omega)
    | false=>exact zg6 (by decide) _
theorem zm6 {ts:List Tok} {pl:Nat} (ok:Okl ts):(⟨ts,0,pl⟩:RS).defines=(zei (hdT ts).text||((hdT ts).text==zdv||((hdT ts).text==zc3||(hdT ts).text==zda))):=by
 unfold RS.defines;rw [zgp ok,zcy zkj ok,zcy zjc ok,zcy zjd ok]
theorem zlk {ts:List Tok} (ok:Okl ts) (pl:Nat):zbu ⟨ts,true⟩=.no (if (⟨ts,0,pl⟩:RS).defines then 42 else 40) (hdT ts).at_:=by
 rw [zh1,zm6 ok];cases hc:((hdT ts).text==zdv) with
 | true=>
  rw [if_pos rfl,Bool.true_or,Bool.or_true,if_pos rfl];unfold PS.want;rw [zct,hc];rfl
 | false=>
  rw [if_neg fne];cases ht:((hdT ts).text==zc3) with
  | true=>rw [if_pos rfl,Bool.true_or,Bool.or_true,Bool.or_true,if_pos rfl];rfl
  | false=>
   rw [if_neg fne];cases hb:zei (hdT ts).text with
   | true=>rw [if_pos rfl,Bool.true_or,if_pos rfl];rfl
   | false=>
    rw [if_neg fne];cases (hdT ts).text==zda <;> rfl
theorem def_none {ts:List Tok} {pl:Nat} (ok:Okl ts) (h:(⟨ts,0,pl⟩:RS).defines=false):(zat ⟨ts,0,pl⟩).2=⟨ts,40,(hdT ts).at_⟩:=by
 rw [zm6 ok] at h;simp only [Bool.or_eq_false_iff] at h;unfold zat
 rw [defD_eq ok,h.1,h.2.1,h.2.2.1,h.2.2.2,if_neg fne,if_neg fne,if_neg fne,if_neg fne];exact zal (at40 ts) [59]
theorem def_stuck {f:Nat} {acc:List Tree} {t:Tree} {s:RS} (h:s.e≠0):(zc6 f (acc++[t]) (s.want [59])).2=s:=by rw [zal h,zf5 h]
theorem zmr:∀ (f:Nat) (acc:List Tree) (g:Nat) (ts:List Tok) (pl:Nat),Okl ts->acc.length<=100->acc.length+f=102->ts.length<g->Agr 0 ts pl (zcn f acc ⟨ts,false⟩) (zc6 g acc ⟨ts,0,pl⟩)
 | 0,acc,_,_,_,_,h1,h2,_=>by omega
 | f+1,acc,g,ts,pl,ok,h1,h2,hg=>by
  obtain ⟨g,rfl⟩:∃ g' : Nat,g=g'+1:=⟨g-1,by omega⟩;rw [zcn,zc6,hd_P,hd_D];by_cases hk:(hdT ts).kind=5
  · rw [if_pos hk,hk];exact zfg acc ts pl ok
  · rw [if_neg hk,show ((0:Int)==0&&(hdT ts).kind != 5)=true by simp [hk],if_pos rfl];by_cases h6:acc.length=100
    · rw [h6,zix,zlk ok pl];cases hd:(⟨ts,0,pl⟩:RS).defines with
      | true=>exact ⟨by decide,rfl,rfl⟩
      | false=>
       rw [Bool.false_and,if_neg fne,if_neg fne,def_none ok hd,zf5 (at40 ts)];exact ⟨by decide,rfl,rfl⟩
    · rw [zg0 h6,show (acc.length==100)=false by simp [h6],Bool.and_false,if_neg fne];refine ((zmd ts pl ok).bind (j:=0) (Q:=fun t s=>(s.want [59]).bind fun _ s=>zcn f (acc++[t]) s) (E:=fun t s=>zc6 g (acc++[t]) (s.want [59])) (fun t ts2 ok2 hlt=>?_) (fun t s h=>def_stuck h)).less (Nat.zero_le _);refine (zau (j:=0) [59] (sp_s 59 (by decide)) ok2 (Q:=fun s=>zcn f (acc++[t]) s) (E:=fun s=>zc6 g (acc++[t]) s) (fun ts3 ok3 hl3=>?_) (fun s h=>by rw [zf5 h])).less (Nat.zero_le _);exact zmr f (acc++[t]) g ts3 pl ok3 (by simp;omega) (by simp;omega) (by omega)
theorem word_len {x:List UInt8} (h:za6 x=true):3<=x.length:=by
 have h1:∀ y∈zhz,3<=y.length:=by decide
 exact h1 x (by simpa [za6] using h)
theorem step_okt {l:List UInt8} {i j:Nat} {t:Tok} (hi:i<l.length) (hs:zdd l i=.go (some t) j):Okt t:=by
 unfold zdd at hs;split at hs
 · cases hs
 · split at hs
   · split at hs <;> cases hs
   · split at hs
     · next hl=>
       split at hs
       · cases hs
       · cases hs;refine ⟨fun h=>?_,fun c hc h=>?_,fun h=>?_,fun h=>?_⟩
         · have h:za6 (sub l i (zas l i))=true:=h;show (if za6 (sub l i (zas l i))=true then (2:Int) else 1)=2;rw [if_pos h]
         · have h:sub l i (zas l i)=[c]:=h;have hgo:i<zas l i:=by
            rw [zfs (zjk hl).2.2.2.2.2];have:=(zgl (l:=l) (i:=i+1) (by omega)).1;omega
           have hc2:(sub l i (zas l i)).getD 0 0=l.getD i 0:=by
            unfold sub;rw [List.getD_eq_getElem?_getD,List.getD_eq_getElem?_getD,List.getElem?_take,if_pos (by omega),List.getElem?_drop,Nat.add_zero]
           rw [h] at hc2;have hc3:c=l.getD i 0:=hc2;rw [hc3,(zjk hl).2.2.2.2.1] at hc;exact absurd hc (by decide)
         · show za6 (sub l i (zas l i))=false;have h:(if za6 (sub l i (zas l i))=true then (2:Int) else 1)=1:=h;cases hw:za6 (sub l i (zas l i)) with
           | false=>rfl
           | true=>rw [hw] at h;exact absurd h (by decide)
         · have h:(if za6 (sub l i (zas l i))=true then (2:Int) else 1)=3:=h;split at h <;> exact absurd h (by decide)
     · split at hs
       · split at hs
         · cases hs
         · cases hs;exact ⟨fun h=>absurd (show za6 []=true from h) (by decide),fun c _ h=>absurd h (by simp),fun h=>absurd (show (3:Int)=1 from h) (by decide),fun _=>rfl⟩
       · split at hs
         · next hsg=>
           cases hs;have e:sub l i (i+1)=[l.getD i 0]:=by
            unfold sub;rw [zeh hi,show i+1-i=1 by omega];rfl
           refine ⟨fun h=>?_,fun _ _ _=>rfl,fun h=>absurd (show (4:Int)=1 from h) (by decide),fun h=>absurd (show (4:Int)=3 from h) (by decide)⟩;have h:za6 (sub l i (i+1))=true:=h;rw [e] at h;have:=word_len h;simp at this
         · cases hs
theorem scans_okt {l:List UInt8} {i:Nat} {ts:List Tok} {R:Res} (h:Scans l i ts R):∀ us,R=.ok us->Okl ts->Okl us:=by
 induction h with
 | done h=>
  intro us e ok;cases e;intro t ht;rcases List.mem_append.1 ht with h1|h1
  · exact ok t h1
  · rw [List.mem_singleton] at h1;subst h1;exact ⟨fun h=>absurd (show za6 []=true from h) (by decide),fun c _ h=>absurd h (by simp),fun h=>absurd (show (5:Int)=1 from h) (by decide),fun _=>rfl⟩
 | err h hs=>intro us e;cases e
 | go h hs hr ih=>
  intro us e ok;refine ih us e (fun t ht=>?_);rcases List.mem_append.1 ht with h1|h1
  · exact ok t h1
  · rename_i o _ _;cases o with
    | none=>cases h1
    | some x=>
     rw [show t=x by simpa using h1];exact step_okt h hs
theorem scan_okl {l:List UInt8} {ts:List Tok} (h:ze9 l=.ok ts):Okl ts:=by
 have hl:l.length<=16000:=by
  unfold ze9 at h;split at h
  · cases h
  · omega
 have hs:=zgy hl;rw [h] at hs;exact scans_okt hs ts rfl (fun t ht=>by cases ht)
theorem parse_same (l:List UInt8):parseD l=zeo l:=by
 unfold parseD zeo;cases hs:ze9 l with
 | err e i=>rfl
 | ok ts=>
  have h:=zmr 102 [] (ts.length+1) ts 0 (scan_okl hs) (by simp) (by simp) (Nat.lt_succ_self _);simp only;cases hr:zcn 102 [] ⟨ts,false⟩ with
  | ok ks s=>
   rw [hr] at h;rw [h.2.2.2];rfl
  | no e i=>
   rw [hr] at h;obtain ⟨h1,h2,h3⟩:=h;rw [h2,h3,show (e==0)=false by simp [h1],if_neg fne]
end Go.Proofs.YtighggeokiahfaaGreatDoor.Dm
namespace Go.Proofs.YtighggeokiahfaaGreatDoor.Dm
open Go.RowKit
structure Apps (A:Nat->Prop) (w w' : World) (acc ks:List Tree) (sl:Value) (g N cap:Nat):Prop where
 list:ListAt A w' (acc++ks) (.slice (some ⟨g,0,none⟩) N cap)
 grow:w.grownBy w' sl.ownBlock
theorem zkm {ops:Array Oper} {rest:List Oper} {o:Oper} {a:Act} {Q:Exit->Act->World->Prop} (w:World) (hgd:o.guard=none) (s x:Operand) (ho:o.op=.call { callee:=.builtin .append,args:=#[s,x],argTypes:=#[27,27] })
 (A:Nat->Prop) (acc ks:List Tree) (q N cq:Nat) (hl:ListAt A w acc (.slice (some ⟨q,0,none⟩) N cq)) (hs:a.eval s=.slice (some ⟨q,0,none⟩) N cq) (hN:N<=20000)
 (o2:Option Addr) (M c2:Nat) (hl2:ListAt (fun b=>A b∧b≠q) w ks (.slice o2 M c2)) (hx:a.eval x=.slice o2 M c2) (hM:M<=20000) (hAH:A w.heap.size)
 (h:∀ g cap w',Apps A w w' acc ks (.slice (some ⟨q,0,none⟩) N cq) g (N+M) cap->wpList Tryz.prog ops Q rest (a.put o.dst (.slice (some ⟨g,0,none⟩) (N+M) cap)) w'):wpList Tryz.prog ops Q (o::rest) a w:=by
 obtain ⟨inf,hi1,hi2,hi3,hi4⟩:=info29x;have hlen:=zf9 hl;have hlen2:=zf9 hl2;obtain ⟨xs,ho',hA,hr⟩:=hl;obtain ⟨ys,ho2,hA2,hr2⟩:=hl2;rw [hlen] at ho';rw [hlen2] at ho2;have hr3:RowV (fun b=>A b∧(Value.slice (some ⟨q,0,none⟩) N cq).ownBlock≠some b) w ks ys:=RowV.frame (fun b hb=>⟨hb.1.1,fun e=>hb.1.2 (Option.some.inj e).symm⟩) (fun _ _ _=>rfl) _ _ hr2;have key:∀ (g cap:Nat) (w' : World),w'.ownsRow 0 29 5 (.slice (some ⟨g,0,none⟩) (N+M) cap) (N+M) (xs++ys)->w.grownBy w' (some q)->(q=g∨g=w.heap.size)->wpList Tryz.prog ops Q rest (a.put o.dst (.slice (some ⟨g,0,none⟩) (N+M) cap)) w':=by
  intro g cap w' hown hgrow hat
  refine h g cap w' ⟨zbn (sl:=.slice (some ⟨q,0,none⟩) N cq) hA hr hr3 (by rw [hlen,hlen2];exact hown) hgrow w.heap.size (Nat.le_refl _) hAH ?_,hgrow⟩;rcases hat with e|e
  · exact Or.inl (by rw [<- e];rfl)
  · exact Or.inr (by rw [e];rfl)
 by_cases hM0:M=0
 · subst hM0;have hys:ys=[]:=List.eq_nil_of_length_eq_zero (by have:=ho2.1;omega);subst hys;have hcap:N<=cq:=by
    rcases ho'.2 with ⟨h1,_⟩|⟨g,cap,cur,h1,_,_,h2,_⟩
    · cases h1
    · cases h1;exact h2
   refine wpList_append_fits_any w hgd s x 27 ho 0 29 inf 5 Tryz.underlying27 hi1 hi3 q N cq xs hs ho' o2 0 c2 [] hx rfl (fun e=>?_) (fun ad e j u hu=>by cases hu) (fun u hu=>by cases hu) hcap (fun w' h1 h2=>key q cq w' h1 h2 (Or.inl rfl));refine ⟨rfl,?_⟩;rcases ho2.2 with ⟨h1,_⟩|⟨g,cap,cur,h1,_⟩
   · cases h1;rfl
   · cases h1;cases e
 · obtain ⟨g2,cap2,he,_,_⟩:=ho2.form (by omega);cases he;refine wpList_append_lies w hgd s x 27 ho 0 29 inf _ 5 64 Tryz.underlying27 hi1 hi2 hi3 hi4 rfl (by decide) (.slice (some ⟨q,0,none⟩) N cq) N xs hs ho' ⟨g2,0,none⟩ M c2 ys hx ho2.1 (ho2.cells rfl) (zen _ _ hr2) (by omega) (by unfold maxLen;omega) (by omega) (Nat.zero_le _) _ rfl ?_;intro g cap w' hown hgrow hat _;exact key g cap w' hown hgrow (by
    rcases hat with e|e
    · exact Or.inl (Option.some.inj e)
    · exact Or.inr e)
theorem Apps.ds {A:Nat->Prop} {w0 w w' : World} {acc ks:List Tree} {q N cq g K cap:Nat} {p gg cap0:Nat} {ts:List Tok} {d:Int} {s:RS} (h:Apps A w w' acc ks (.slice (some ⟨q,0,none⟩) N cq) g K cap) (hD:DS w p gg cap0 ts d s) (hS:Sole p w0 w) (hq:w0.heap.size<=q) (hp:p<w0.heap.size) (hg:gg<w0.heap.size):DS w' p gg cap0 ts d s∧Sole p w0 w':=
 ⟨hD.grown h.grow (fun e=>by have:=Option.some.inj e;dsimp at this;omega) (fun e=>by have:=Option.some.inj e;dsimp at this;omega),zmq hS h.grow (fun r e=>by have:=Option.some.inj e;dsimp at this;omega)⟩
theorem za7 {A:Nat->Prop} {w:World} {ks:List Tree} {sl:Value} (h:ListAt A w ks sl):ListAt (fun b=>A b∧b<w.heap.size) w ks sl:=by
 obtain ⟨xs,ho,hA,hr⟩:=h;exact ⟨xs,ho,fun g e=>⟨hA g e,(ho.lt g e).2⟩,RowV.frame (fun b hb=>⟨⟨hb.1.1,hb.2⟩,hb.1.2⟩) (fun _ _ _=>rfl) _ _ (RowV.there _ _ hr)⟩
theorem zkt {B:Nat} {w:World} {k m:Int} {n:List UInt8} {a:Nat} {ks:List Tree} {sl:Value} (h:treeIs B (.node k n m a ks) w (kidV k n m a sl)):ListAt (zaf B) w ks sl:=by
 obtain ⟨s2,he,hl⟩:=treeAt_node.1 h;unfold kidV at he;cases he;exact hl
theorem laid5 {p:Nat} {w W:World} {X:Nat} {k0 m0 k m:Int} {n0 n:List UInt8} {a0 a:Nat} {s0 sl:Value} (hK:Kep w W X (kidO k0 n0 m0 a0 s0)) (hS:Sole p w W) (wz:World) (e:((((W.setCell ⟨X,0,none⟩ (.int .i64 k)).setCell ⟨X,1,none⟩ (.string ⟨n.toArray⟩)).setCell ⟨X,2,none⟩ (.int .i64 m)).setCell ⟨X,3,none⟩ (.int .i64 a)).setCell ⟨X,4,none⟩ sl=wz):
 Kep w wz X (kidO k n m a sl)∧Sole p w wz∧∀ b,b≠X->wz.heap[b]?=W.heap[b]?:=by
 have h:=fin5 (k:=k) (m:=m) (n:=n) (a:=a) (sl:=sl) hK.2 hS wz e;exact ⟨⟨by rw [<- e];exact zc5 hK.1,hK.2⟩,h.1,h.2⟩
theorem zgg (p g cap:Nat) (ts:List Tok) (hE:Ends ts) (d:Int) (hB:DBody p g cap ts d (zc2 7) false) (hT:DDecl p g cap ts d (zc2 8)) (hP:zgc p g cap ts d 52 zev):zgc p g cap ts d 30 zat:=by
 intro s w h;have Ea:=hid hB;have Eb:=hid hT;have Ec:=hid hP;clear hB hT hP;have Ac:Hid (p<w.heap.size∧g<w.heap.size):=⟨h.plt,h.glt⟩;obtain ⟨R,hR⟩:∃ R,zat s=R:=⟨_,rfl⟩;rw [hR];have HR:=hid (hR.symm);obtain ⟨wa,hwa⟩:∃ x,w.alloc (.cells #[.int .i64 0,.string ⟨#[]⟩,.int .i64 0,.int .i64 0,.slice none 0 0] 29)=x:=⟨_,rfl⟩;have HB:Hid (Below w.heap.size w wa):=hidB hwa;have HK:Hid (Kep w wa w.heap.size (kidO 0 [] 0 0 (.slice none 0 0))):=by show Kep _ _ _ _;rw [<- hwa];exact Kep.new (Nat.le_refl _) _
 have HD:=hid (h.below HB.out);clear h hR;have HS:Hid (Sole p w wa):=Sole.of_below HB.out;obtain ⟨i,hi,h1,hh,hs⟩:=HD.out.at_;have Et:Hid (DP wa p g cap ts i d s.e s.pl∧s.hd=ts[i]∧s.ts=ts.drop i):=⟨h1,hh,hs⟩;have Ed:Hid ((i:Int)<=16001):=by show _<=_;have:=h1.ln;omega
 have hl:=h1.look hi;obtain ⟨E0,hE0⟩:∃ x,s.e=x:=⟨_,rfl⟩;obtain ⟨K,hK⟩:∃ x,ts[i].kind=x:=⟨_,rfl⟩;obtain ⟨M,hM⟩:∃ x,ts[i].num=x:=⟨_,rfl⟩;obtain ⟨A,hA⟩:∃ x,ts[i].at_=x:=⟨_,rfl⟩;obtain ⟨S,hS⟩:∃ x,ts[i].text=x:=⟨_,rfl⟩;rw [hE0,hK,hM,hA,hS] at hl;have HF:Hid (s.e=E0∧s.hd.kind=K∧s.hd.num=M∧s.hd.at_=A∧s.hd.text=S):=⟨hE0,by rw [hh];exact hK,by rw [hh];exact hM,by rw [hh];exact hA,by rw [hh];exact hS⟩;clear hE0 hK hM hA hS hh hs h1;obtain ⟨hp,hg,hi',c0,c1,c3,t0,t1,t2,t3,f1⟩:=hl;have c1x:∀ x,(wa.alloc x).cell? ⟨p,1,none⟩=some (.int .i64 i):=fun x=>by rw [World.cell?_alloc_lt _ _ _ hp];exact c1
 have c3x:∀ x,(wa.alloc x).cell? ⟨p,3,none⟩=some (.int .i64 E0):=fun x=>by rw [World.cell?_alloc_lt _ _ _ hp];exact c3
 have f1x:∀ x,(wa.alloc x).frozen? ⟨p,1,none⟩=false:=fun x=>by rw [World.frozen?_alloc_old _ _ _ (Nat.ne_of_lt hp)];exact f1
 have Eu:Hid (∀ x k,Below wa.heap.size wa ((wa.alloc x).drewN k)):=fun x k=>zad (zab wa x) k;have hne:¬ p=wa.heap.size:=by omega
 have hne2:¬ wa.heap.size=p:=by omega
 have him:=Ed.out;have qb:=bld013;have qc:=zi4;have qd:=bld034x;go_enter Tryz.func30,Tryz.ntmps30
 go_wp2_with fail
 clear hwa;go_region;all_goals (
  go_wp2_with fail
  refine (zer p g cap ts d s _ (HD.out.below (zah _))).mono ?_;rintro e w1 ⟨rfl,hB⟩;have De:=hid (Below.trans (zah _) (hB.mono (Below.size (zah _))));have Ee:=hid (HD.out.below De.out);have Ef:=hid (HS.out.trans (Sole.of_below De.out));have Cu:=hid (HK.out.below De.out);clear hB;clear c0 c1 c3 t0 t1 t2 t3 f1 c1x c3x f1x hne hne2 him hp hg hi';obtain ⟨wx,hwx⟩:∃ x,w1.alloc (.cells #[.int .i64 0,.string ⟨#[]⟩,.int .i64 0,.int .i64 0,.slice none 0 0] 29)=x:=⟨_,rfl⟩;have Df:Hid (Below w1.heap.size w1 wx):=hidB hwx;have Bj:=hid (Cu.out.lt);have Dw:Hid (Kep w wx w1.heap.size (kidO 0 [] 0 0 (.slice none 0 0))):=by show Kep _ _ _ _;rw [<- hwx];exact Kep.new (Nat.le_of_lt Bj.out) _
  have Dx:=hid (Cu.out.below Df.out);have Dy:=hid (Ee.out.below Df.out);have Dz:=hid (Ef.out.trans (Sole.of_below Df.out));have hn5:¬ w.heap.size=w1.heap.size:=by have:=Bj.out;omega
  have hn6:¬ w1.heap.size=w.heap.size:=by omega
  have hn7:¬ p=w1.heap.size:=by have:=Bj.out;have:=Ac.out.1;omega
  have hn8:¬ w1.heap.size=p:=by omega
  obtain ⟨BK,hBK⟩:∃ x,s.bodied=x:=⟨_,rfl⟩;have Dg:=hid hBK;rw [hBK];clear hBK;by_cases hbk:BK=0
  case neg =>
   have hbk2:(BK != 0)=true:=by simp [hbk]
   have Eg:=hid (zlx (s:=s) (by rw [Dg.out];exact hbk));have Bg:Hid (R=(zar BK (zav s.adv).1 (zec (zc2 7) false BK (zav s.adv).2).1,(zec (zc2 7) false BK (zav s.adv).2).2.want [59])):=by
    show _=_;rw [HR.out];unfold zat defD;rw [Dg.out,hbk2];rfl
   obtain ⟨ix,c1,f1,him,hDa,hSa⟩:=DS.adv_set hE Dy.out Eg.out;have Ct:Hid (DS (wx.setCell ⟨p,1,none⟩ (.int .i64 ((ix:Int)+1))) p g cap ts d s.adv∧Sole p w (wx.setCell ⟨p,1,none⟩ (.int .i64 ((ix:Int)+1)))∧Kep w (wx.setCell ⟨p,1,none⟩ (.int .i64 ((ix:Int)+1))) w.heap.size (kidO 0 [] 0 0 (.slice none 0 0))∧Kep w (wx.setCell ⟨p,1,none⟩ (.int .i64 ((ix:Int)+1))) w1.heap.size (kidO 0 [] 0 0 (.slice none 0 0))):=⟨hDa,Dz.out.trans hSa,Dx.out.sole Ac.out.1 hSa,Dw.out.sole Ac.out.1 hSa⟩;clear hDa hSa;go_wp2_with fail
   clear hwx;generalize wx.setCell ⟨p,1,none⟩ (.int .i64 ((ix:Int)+1))=w4 at Ct ⊢;have Eh:=hid Ct.out.1;have Ei:=hid Ct.out.2.1;have Ej:=hid Ct.out.2.2.1;have Dh:=hid Ct.out.2.2.2;clear Ct c1 f1 him;refine (zco p g cap ts hE d s.adv _ Eh.out).mono ?_;rintro e w11 ⟨v,rfl,rfl,hD,hS⟩;have Ba:=hid hS;have Bl:=hid hD;have Bt:=hid (Ei.out.trans Ba.out);have Bm:=hid (Ej.out.sole Ac.out.1 Ba.out);have Bf:=hid (Dh.out.sole Ac.out.1 Ba.out);clear hD hS;obtain ⟨nm,hnm⟩:∃ x,(zav s.adv).1=x:=⟨_,rfl⟩;obtain ⟨sn,hsn⟩:∃ x,(zav s.adv).2=x:=⟨_,rfl⟩;rw [hnm,hsn] at Bg;rw [hnm];rw [hsn] at Bl;clear hnm hsn;obtain ⟨nt,na⟩:=nm;go_wp2_with fail
   have Ek:=hid (Kep.lt Bm.out);have El:=hid (Sole.size Bt.out);refine (Ea.out BK nt na sn _ Bl.out).mono ?_;rintro e w12 ⟨v,rfl,hv,hD,hS⟩;have Bb:=hid hS;have Bu:=hid hD;have Bv:=hid (Bt.out.trans Bb.out);have Ay:=hid (Bm.out.sole Ac.out.1 Bb.out);have Aw:=hid (Bf.out.sole Ac.out.1 Bb.out);obtain ⟨k12,n12,m12,a12,ks12,o12,l12,c12,he12,rfl⟩:=zam hv;have Cb:=hid he12;clear he12;have Cv:=hid hv;clear hv hD hS;obtain ⟨kl,hkl⟩:∃ x,zec (zc2 7) false BK sn=x:=⟨_,rfl⟩;rw [hkl] at Bg Bu Cv Cb;clear hkl;have Bw:Hid (R=(Tree.node k12 n12 m12 a12 ks12,kl.2.want [59])):=by show _=_;rw [<- Cb.out];exact Bg.out
   have Di:=hid (Bf.out.lt);have Dj:Hid (ListAt (fun b=>w.heap.size+1<=b∧b≠w1.heap.size) w12 ks12 (.slice o12 l12 c12)):=(zkt (by rw [<- Cb.out];exact Cv.out)).weaken (fun b hb=>by
    have h1:w11.heap.size<=b:=hb;have h2:=Di.out;have h3:=Bj.out;exact ⟨by omega,by omega⟩)
   unfold kidV;have Bn:=hid (Dj);obtain ⟨⟨x0,x1,x2,x3,x4⟩,⟨u0,u1,u2,u3,u4⟩⟩:=zaa Aw.out.1;go_wp2_with fail
   have HY:=hid (laid5 (k:=k12) (n:=n12) (m:=m12) (a:=a12) (sl:=(.slice o12 l12 c12)) Aw.out Bv.out _ rfl);have Ax:Hid (Kep w (((((w12.setCell ⟨w1.heap.size,0,none⟩ (.int .i64 k12)).setCell ⟨w1.heap.size,1,none⟩ (.string ⟨n12.toArray⟩)).setCell ⟨w1.heap.size,2,none⟩ (.int .i64 m12)).setCell ⟨w1.heap.size,3,none⟩ (.int .i64 a12)).setCell ⟨w1.heap.size,4,none⟩ (.slice o12 l12 c12)) w.heap.size (kidO 0 [] 0 0 (.slice none 0 0))∧DS (((((w12.setCell ⟨w1.heap.size,0,none⟩ (.int .i64 k12)).setCell ⟨w1.heap.size,1,none⟩ (.string ⟨n12.toArray⟩)).setCell ⟨w1.heap.size,2,none⟩ (.int .i64 m12)).setCell ⟨w1.heap.size,3,none⟩ (.int .i64 a12)).setCell ⟨w1.heap.size,4,none⟩ (.slice o12 l12 c12)) p g cap ts d kl.2∧ListAt (fun b=>w.heap.size+1<=b∧b≠w1.heap.size) (((((w12.setCell ⟨w1.heap.size,0,none⟩ (.int .i64 k12)).setCell ⟨w1.heap.size,1,none⟩ (.string ⟨n12.toArray⟩)).setCell ⟨w1.heap.size,2,none⟩ (.int .i64 m12)).setCell ⟨w1.heap.size,3,none⟩ (.int .i64 a12)).setCell ⟨w1.heap.size,4,none⟩ (.slice o12 l12 c12)) ks12 (.slice o12 l12 c12)):=by
    have h1:=Bj.out;have h2:=Ac.out;exact ⟨⟨(HY.out.2.2 _ (by omega)).trans Ay.out.1,Ay.out.2⟩,Bu.out.but (by omega) (by omega) HY.out.2.2,ListAt.but Bn.out (fun b hb=>hb.2) HY.out.2.2⟩
   generalize ((((w12.setCell ⟨w1.heap.size,0,none⟩ (.int .i64 k12)).setCell ⟨w1.heap.size,1,none⟩ (.string ⟨n12.toArray⟩)).setCell ⟨w1.heap.size,2,none⟩ (.int .i64 m12)).setCell ⟨w1.heap.size,3,none⟩ (.int .i64 a12)).setCell ⟨w1.heap.size,4,none⟩ (.slice o12 l12 c12)=w7 at HY Ax ⊢;have Cc:=hid Ax.out.1;have Cd:=hid Ax.out.2.1;have Ce:=hid Ax.out.2.2;have Bc:=hid HY.out.1;have Cf:=hid HY.out.2.1;clear HY Ax x0 x1 x2 x3 x4 u0 u1 u2 u3 u4 Bn;refine (zak p g cap ts hE d [59] (by simp) kl.2 _ Cd.out).mono ?_;rintro e w81 ⟨rfl,hD,hS⟩;have Ad:=hid hS;have Bd:=hid hD;have Be:=hid (Cf.out.trans Ad.out);have Aa:=hid (Cc.out.sole Ac.out.1 Ad.out);have Ae:=hid (Bc.out.sole Ac.out.1 Ad.out);have Ak:=hid (ListAt.sole Ce.out (by intro b hb;have hpg:=Ac.out.1;have hb2:=hb;first | (unfold zaf at hb2;omega) | exact (by have h1:w.heap.size+1<=b:=hb.1;omega)) Ad.out);clear hD hS;obtain ⟨⟨x0,x1,x2,x3,x4⟩,_⟩:=zaa Ae.out.1;obtain ⟨⟨z0,z1,z2,z3,z4⟩,⟨y0,y1,y2,y3,y4⟩⟩:=zaa Aa.out.1;go_wp2;refine ret5 z0 z1 z2 z3 z4 rfl (fun u q0 q1 q2 q3 q4=>by simp [results,Tryz.results30,go_sem,q0,q1,q2,q3,q4]) Aa.out.2 Be.out ?_;intro wz hf;rw [Bw.out];have hr2:=Aa.out.2;have hpg:=Ac.out;exact ⟨_,rfl,zaz Ak.out (fun b h=>Nat.le_trans (Nat.le_succ _) h.1) (fun b h=>by have h1:w.heap.size+1<=b:=h.1;omega) hf.2,Bd.out.but (by omega) (by omega) hf.2,hf.1⟩
  subst hbk;have Dd:Hid (defD s=(if s.is zdv then (zar 2 (zav s.adv).1 [(zaq false ((zav s.adv).2.want [61])).1],(zaq false ((zav s.adv).2.want [61])).2) else if s.is zc3 then (.node 3 [] 0 A [(zce (zc2 8) false s.adv).1],(zce (zc2 8) false s.adv).2) else if s.is zda then zev s.adv else (zh9,s.fail 40))):=by
   show _=_;unfold defD;rw [Dg.out,HF.out.2.2.2.1];rfl
  go_wp2_with fail
  refine (zci p g cap ts hE d [99,111,110,115,116] (by simp) s _ Dy.out).mono ?_;rintro e w82 ⟨rfl,hD,hS⟩;have Cg:=hid hS;have Bx:=hid hD;have Cw:=hid (Dz.out.trans Cg.out);have Bo:=hid (Dx.out.sole Ac.out.1 Cg.out);have Bp:=hid (Dw.out.sole Ac.out.1 Cg.out);clear hD hS;clear hwx;cases hbc:s.is [99,111,110,115,116] with
  | true =>
   rw [zdx hbc] at Bx;have Bg:Hid (R=(zar 2 (zav s.adv).1 [(zaq false ((zav s.adv).2.want [61])).1],(zaq false ((zav s.adv).2.want [61])).2.want [59])):=by
    show _=_;rw [HR.out];unfold zat;rw [Dd.out,show s.is zdv=true from hbc];rfl
   go_wp2_with fail
   refine (zco p g cap ts hE d s.adv _ Bx.out).mono ?_;rintro e w11 ⟨v,rfl,rfl,hD,hS⟩;have Ba:=hid hS;have Bl:=hid hD;have Bt:=hid (Cw.out.trans Ba.out);have Bh:=hid (Bo.out.sole Ac.out.1 Ba.out);have Bi:=hid (Bp.out.sole Ac.out.1 Ba.out);clear hD hS;obtain ⟨nm,hnm⟩:∃ x,(zav s.adv).1=x:=⟨_,rfl⟩;obtain ⟨sn,hsn⟩:∃ x,(zav s.adv).2=x:=⟨_,rfl⟩;rw [hnm,hsn] at Bg;rw [hnm];rw [hsn] at Bl;clear hnm hsn;obtain ⟨nt,na⟩:=nm;go_wp2_with fail
   refine (zak p g cap ts hE d [61] (by simp) sn _ Bl.out).mono ?_;rintro e w12 ⟨rfl,hD,hS⟩;have Bb:=hid hS;have Bu:=hid hD;have Bv:=hid (Bt.out.trans Bb.out);have Am:=hid (Bh.out.sole Ac.out.1 Bb.out);have An:=hid (Bi.out.sole Ac.out.1 Bb.out);clear hD hS;go_wp2_with fail
   have Em:=hid (Kep.lt Am.out);have En:=hid (Sole.size Bv.out);refine (zch p g cap ts hE d false (sn.want [61]) _ Bu.out).mono ?_;rintro e w13 ⟨v,rfl,hv,hD,hS⟩;have Ch:=hid hS;have Cx:=hid hD;have Dk:=hid (Bv.out.trans Ch.out);have Ar:=hid (Am.out.sole Ac.out.1 Ch.out);have Ah:=hid (An.out.sole Ac.out.1 Ch.out);obtain ⟨k13,n13,m13,a13,ks13,o13,l13,c13,he13,rfl⟩:=zam hv;have Ci:=hid he13;clear he13;have Cy:=hid hv;clear hv hD hS;obtain ⟨vv,hvv⟩:∃ x,zaq false (sn.want [61])=x:=⟨_,rfl⟩;rw [hvv] at Bg Cx Cy Ci;clear hvv;have Bw:Hid (R=(Tree.node 2 nt 0 na [Tree.node k13 n13 m13 a13 ks13],vv.2.want [59])):=by show _=_;rw [<- Ci.out];exact Bg.out
   obtain ⟨wq,hwq⟩:∃ x,w13.alloc (.cells #[.int .i64 k13,.string ⟨n13.toArray⟩,.int .i64 m13,.int .i64 a13,.slice o13 l13 c13] 29)=x:=⟨_,rfl⟩;have Bq:Hid (Below w13.heap.size w13 wq):=hidB hwq;have Dl:=hid (Cx.out.below Bq.out);have Dm:=hid (Dk.out.trans (Sole.of_below Bq.out));have Br:=hid (Ar.out.below Bq.out);have Bs:=hid (Ah.out.below Bq.out);have Dn:Hid (w1.heap.size<w12.heap.size∧w1.heap.size<w13.heap.size):=⟨An.out.lt,Ah.out.lt⟩;have Dp:Hid (ListAt (fun b=>w.heap.size+1<=b∧b≠w1.heap.size) wq [(Tree.node k13 n13 m13 a13 ks13)] (.slice (some ⟨w13.heap.size,0,none⟩) 1 1)):=by
    have h1:=Dn.out;have h2:=Bj.out;have h4:treeIs w12.heap.size (Tree.node k13 n13 m13 a13 ks13) w13 (kidV k13 n13 m13 a13 (.slice o13 l13 c13)):=(by rw [<- Ci.out];exact Cy.out);refine zbd (ks:=[(Tree.node k13 n13 m13 a13 ks13)]) (q:=w13.heap.size) (by rw [<- hwq];exact heap_alloc_new _ _) (by simp) ⟨by omega,by omega⟩ (zay ((TreeAt.below (TreeAt.there _ _ h4) Bq.out).weaken (fun b hb=>?_)));have hb1:w12.heap.size<=b:=hb.1;have hb2:=hb.2;exact ⟨⟨by omega,by omega⟩,by omega⟩
   unfold kidV;have Bn:=hid (Dp);obtain ⟨⟨x0,x1,x2,x3,x4⟩,⟨u0,u1,u2,u3,u4⟩⟩:=zaa Bs.out.1;go_wp2_with fail
   have HY:=hid (laid5 (k:=2) (n:=nt) (m:=0) (a:=na) (sl:=(.slice (some ⟨w13.heap.size,0,none⟩) 1 1)) Bs.out Dm.out _ rfl);have Ax:Hid (Kep w (((((wq.setCell ⟨w1.heap.size,0,none⟩ (.int .i64 2)).setCell ⟨w1.heap.size,1,none⟩ (.string ⟨nt.toArray⟩)).setCell ⟨w1.heap.size,2,none⟩ (.int .i64 0)).setCell ⟨w1.heap.size,3,none⟩ (.int .i64 na)).setCell ⟨w1.heap.size,4,none⟩ (.slice (some ⟨w13.heap.size,0,none⟩) 1 1)) w.heap.size (kidO 0 [] 0 0 (.slice none 0 0))∧DS (((((wq.setCell ⟨w1.heap.size,0,none⟩ (.int .i64 2)).setCell ⟨w1.heap.size,1,none⟩ (.string ⟨nt.toArray⟩)).setCell ⟨w1.heap.size,2,none⟩ (.int .i64 0)).setCell ⟨w1.heap.size,3,none⟩ (.int .i64 na)).setCell ⟨w1.heap.size,4,none⟩ (.slice (some ⟨w13.heap.size,0,none⟩) 1 1)) p g cap ts d vv.2∧ListAt (fun b=>w.heap.size+1<=b∧b≠w1.heap.size) (((((wq.setCell ⟨w1.heap.size,0,none⟩ (.int .i64 2)).setCell ⟨w1.heap.size,1,none⟩ (.string ⟨nt.toArray⟩)).setCell ⟨w1.heap.size,2,none⟩ (.int .i64 0)).setCell ⟨w1.heap.size,3,none⟩ (.int .i64 na)).setCell ⟨w1.heap.size,4,none⟩ (.slice (some ⟨w13.heap.size,0,none⟩) 1 1)) [(Tree.node k13 n13 m13 a13 ks13)] (.slice (some ⟨w13.heap.size,0,none⟩) 1 1)):=by
    have h1:=Bj.out;have h2:=Ac.out;exact ⟨⟨(HY.out.2.2 _ (by omega)).trans Br.out.1,Br.out.2⟩,Dl.out.but (by omega) (by omega) HY.out.2.2,ListAt.but Bn.out (fun b hb=>hb.2) HY.out.2.2⟩
   generalize ((((wq.setCell ⟨w1.heap.size,0,none⟩ (.int .i64 2)).setCell ⟨w1.heap.size,1,none⟩ (.string ⟨nt.toArray⟩)).setCell ⟨w1.heap.size,2,none⟩ (.int .i64 0)).setCell ⟨w1.heap.size,3,none⟩ (.int .i64 na)).setCell ⟨w1.heap.size,4,none⟩ (.slice (some ⟨w13.heap.size,0,none⟩) 1 1)=w7 at HY Ax ⊢;have Cc:=hid Ax.out.1;have Cd:=hid Ax.out.2.1;have Ce:=hid Ax.out.2.2;have Bc:=hid HY.out.1;have Cf:=hid HY.out.2.1;clear HY Ax x0 x1 x2 x3 x4 u0 u1 u2 u3 u4 Bn;refine (zak p g cap ts hE d [59] (by simp) vv.2 _ Cd.out).mono ?_;rintro e w81 ⟨rfl,hD,hS⟩;have Ad:=hid hS;have Bd:=hid hD;have Be:=hid (Cf.out.trans Ad.out);have Aa:=hid (Cc.out.sole Ac.out.1 Ad.out);have Ae:=hid (Bc.out.sole Ac.out.1 Ad.out);have Ak:=hid (ListAt.sole Ce.out (by intro b hb;have hpg:=Ac.out.1;have hb2:=hb;first | (unfold zaf at hb2;omega) | exact (by have h1:w.heap.size+1<=b:=hb.1;omega)) Ad.out);clear hD hS;obtain ⟨⟨x0,x1,x2,x3,x4⟩,_⟩:=zaa Ae.out.1;obtain ⟨⟨z0,z1,z2,z3,z4⟩,⟨y0,y1,y2,y3,y4⟩⟩:=zaa Aa.out.1;go_wp2;refine ret5 z0 z1 z2 z3 z4 rfl (fun u q0 q1 q2 q3 q4=>by simp [results,Tryz.results30,go_sem,q0,q1,q2,q3,q4]) Aa.out.2 Be.out ?_;intro wz hf;rw [Bw.out];have hr2:=Aa.out.2;have hpg:=Ac.out;exact ⟨_,rfl,zaz Ak.out (fun b h=>Nat.le_trans (Nat.le_succ _) h.1) (fun b h=>by have h1:w.heap.size+1<=b:=h.1;omega) hf.2,Bd.out.but (by omega) (by omega) hf.2,hf.1⟩
  | false =>
   rw [zb5 hbc] at Bx;go_wp2_with fail
   refine (zci p g cap ts hE d [116,121,112,101,100,101,102] (by simp) s _ Bx.out).mono ?_;rintro e w21 ⟨rfl,hD,hS⟩;have Cj:=hid hS;have Bz:=hid hD;have Ck:=hid (Cw.out.trans Cj.out);have Ap:=hid (Bo.out.sole Ac.out.1 Cj.out);have Aq:=hid (Bp.out.sole Ac.out.1 Cj.out);clear hD hS;cases hbt:s.is [116,121,112,101,100,101,102] with
   | true =>
    rw [zdx hbt] at Bz;have Bg:Hid (R=(.node 3 [] 0 A [(zce (zc2 8) false s.adv).1],(zce (zc2 8) false s.adv).2.want [59])):=by
     show _=_;rw [HR.out];unfold zat;rw [Dd.out,show s.is zdv=false from hbc,show s.is zc3=true from hbt];rfl
    (go_wp2_with fail);have Eo:=hid (Kep.lt Ap.out);have Ep:=hid (Sole.size Ck.out);refine (Eb.out false s.adv _ Bz.out).mono ?_;rintro e w31 ⟨v,rfl,hv,hD,hS⟩;have Cl:=hid hS;have Cz:=hid hD;have Dq:=hid (Ck.out.trans Cl.out);have Az:=hid (Ap.out.sole Ac.out.1 Cl.out);have Ao:=hid (Aq.out.sole Ac.out.1 Cl.out);obtain ⟨k31,n31,m31,a31,ks31,o31,l31,c31,he31,rfl⟩:=zam hv;have Cm:=hid he31;clear he31;have Da:=hid hv;clear hv hD hS;obtain ⟨vv,hvv⟩:∃ x,zce (zc2 8) false s.adv=x:=⟨_,rfl⟩;rw [hvv] at Bg Cz Da Cm;clear hvv;have Bw:Hid (R=(Tree.node 3 [] 0 A [Tree.node k31 n31 m31 a31 ks31],vv.2.want [59])):=(by show _=_;rw [<- Cm.out];exact Bg.out);obtain ⟨wq,hwq⟩:∃ x,w31.alloc (.cells #[.int .i64 k31,.string ⟨n31.toArray⟩,.int .i64 m31,.int .i64 a31,.slice o31 l31 c31] 29)=x:=⟨_,rfl⟩;have Bq:Hid (Below w31.heap.size w31 wq):=hidB hwq;have Dl:=hid (Cz.out.below Bq.out);have Dm:=hid (Dq.out.trans (Sole.of_below Bq.out));have Br:=hid (Az.out.below Bq.out);have Bs:=hid (Ao.out.below Bq.out);have Dn:Hid (w1.heap.size<w21.heap.size∧w1.heap.size<w31.heap.size):=⟨Aq.out.lt,Ao.out.lt⟩;have Dp:Hid (ListAt (fun b=>w.heap.size+1<=b∧b≠w1.heap.size) wq [(Tree.node k31 n31 m31 a31 ks31)] (.slice (some ⟨w31.heap.size,0,none⟩) 1 1)):=by
     have h1:=Dn.out;have h2:=Bj.out;have h4:treeIs w21.heap.size (Tree.node k31 n31 m31 a31 ks31) w31 (kidV k31 n31 m31 a31 (.slice o31 l31 c31)):=(by rw [<- Cm.out];exact Da.out);refine zbd (ks:=[(Tree.node k31 n31 m31 a31 ks31)]) (q:=w31.heap.size) (by rw [<- hwq];exact heap_alloc_new _ _) (by simp) ⟨by omega,by omega⟩ (zay ((TreeAt.below (TreeAt.there _ _ h4) Bq.out).weaken (fun b hb=>?_)));have hb1:w21.heap.size<=b:=hb.1;have hb2:=hb.2;exact ⟨⟨by omega,by omega⟩,by omega⟩
    unfold kidV;have Bn:=hid (Dp);obtain ⟨⟨x0,x1,x2,x3,x4⟩,⟨u0,u1,u2,u3,u4⟩⟩:=zaa Bs.out.1;(go_wp2_with fail);have HY:=hid (laid5 (k:=3) (n:=[]) (m:=0) (a:=A) (sl:=(.slice (some ⟨w31.heap.size,0,none⟩) 1 1)) Bs.out Dm.out _ rfl);have Ax:Hid (Kep w (((((wq.setCell ⟨w1.heap.size,0,none⟩ (.int .i64 3)).setCell ⟨w1.heap.size,1,none⟩ (.string ⟨#[]⟩)).setCell ⟨w1.heap.size,2,none⟩ (.int .i64 0)).setCell ⟨w1.heap.size,3,none⟩ (.int .i64 A)).setCell ⟨w1.heap.size,4,none⟩ (.slice (some ⟨w31.heap.size,0,none⟩) 1 1)) w.heap.size (kidO 0 [] 0 0 (.slice none 0 0))∧DS (((((wq.setCell ⟨w1.heap.size,0,none⟩ (.int .i64 3)).setCell ⟨w1.heap.size,1,none⟩ (.string ⟨#[]⟩)).setCell ⟨w1.heap.size,2,none⟩ (.int .i64 0)).setCell ⟨w1.heap.size,3,none⟩ (.int .i64 A)).setCell ⟨w1.heap.size,4,none⟩ (.slice (some ⟨w31.heap.size,0,none⟩) 1 1)) p g cap ts d vv.2∧ListAt (fun b=>w.heap.size+1<=b∧b≠w1.heap.size) (((((wq.setCell ⟨w1.heap.size,0,none⟩ (.int .i64 3)).setCell ⟨w1.heap.size,1,none⟩ (.string ⟨#[]⟩)).setCell ⟨w1.heap.size,2,none⟩ (.int .i64 0)).setCell ⟨w1.heap.size,3,none⟩ (.int .i64 A)).setCell ⟨w1.heap.size,4,none⟩ (.slice (some ⟨w31.heap.size,0,none⟩) 1 1)) [(Tree.node k31 n31 m31 a31 ks31)] (.slice (some ⟨w31.heap.size,0,none⟩) 1 1)):=by
     have h1:=Bj.out;have h2:=Ac.out;exact ⟨⟨(HY.out.2.2 _ (by omega)).trans Br.out.1,Br.out.2⟩,Dl.out.but (by omega) (by omega) HY.out.2.2,ListAt.but Bn.out (fun b hb=>hb.2) HY.out.2.2⟩
    generalize ((((wq.setCell ⟨w1.heap.size,0,none⟩ (.int .i64 3)).setCell ⟨w1.heap.size,1,none⟩ (.string ⟨#[]⟩)).setCell ⟨w1.heap.size,2,none⟩ (.int .i64 0)).setCell ⟨w1.heap.size,3,none⟩ (.int .i64 A)).setCell ⟨w1.heap.size,4,none⟩ (.slice (some ⟨w31.heap.size,0,none⟩) 1 1)=w7 at HY Ax ⊢;have Cc:=hid Ax.out.1;have Cd:=hid Ax.out.2.1;have Ce:=hid Ax.out.2.2;have Bc:=hid HY.out.1;have Cf:=hid HY.out.2.1;clear HY Ax x0 x1 x2 x3 x4 u0 u1 u2 u3 u4 Bn;refine (zak p g cap ts hE d [59] (by simp) vv.2 _ Cd.out).mono ?_;rintro e w81 ⟨rfl,hD,hS⟩;have Ad:=hid hS;have Bd:=hid hD;have Be:=hid (Cf.out.trans Ad.out);have Aa:=hid (Cc.out.sole Ac.out.1 Ad.out);have Ae:=hid (Bc.out.sole Ac.out.1 Ad.out);have Ak:=hid (ListAt.sole Ce.out (by intro b hb;have hpg:=Ac.out.1;have hb2:=hb;first | (unfold zaf at hb2;omega) | exact (by have h1:w.heap.size+1<=b:=hb.1;omega)) Ad.out);clear hD hS;obtain ⟨⟨x0,x1,x2,x3,x4⟩,_⟩:=zaa Ae.out.1;obtain ⟨⟨z0,z1,z2,z3,z4⟩,⟨y0,y1,y2,y3,y4⟩⟩:=zaa Aa.out.1;go_wp2;refine ret5 (n:=[]) z0 z1 z2 z3 z4 rfl (fun u q0 q1 q2 q3 q4=>by simp [results,Tryz.results30,go_sem,q0,q1,q2,q3,q4]) Aa.out.2 Be.out ?_;intro wz hf;rw [Bw.out];have hr2:=Aa.out.2;have hpg:=Ac.out;exact ⟨_,rfl,zaz Ak.out (fun b h=>Nat.le_trans (Nat.le_succ _) h.1) (fun b h=>by have h1:w.heap.size+1<=b:=h.1;omega) hf.2,Bd.out.but (by omega) (by omega) hf.2,hf.1⟩
   | false =>
    rw [zb5 hbt] at Bz;(go_wp2_with fail);refine (zci p g cap ts hE d [112,114,111,103,114,97,109] (by simp) s _ Bz.out).mono ?_;rintro e w41 ⟨rfl,hD,hS⟩;have Cn:=hid hS;have Ca:=hid hD;have Co:=hid (Ck.out.trans Cn.out);have Af:=hid (Ap.out.sole Ac.out.1 Cn.out);have Ag:=hid (Aq.out.sole Ac.out.1 Cn.out);clear hD hS;cases hbp:s.is [112,114,111,103,114,97,109] with
    | true =>
     rw [zdx hbp] at Ca;have Bg:Hid (R=((zev s.adv).1,(zev s.adv).2.want [59])):=by
      show _=_;rw [HR.out];unfold zat;rw [Dd.out,show s.is zdv=false from hbc,show s.is zc3=false from hbt,show s.is zda=true from hbp];rfl
     (go_wp2_with fail);have Er:=hid (Kep.lt Af.out);have Es:=hid (Sole.size Co.out);refine (Ec.out s.adv _ Ca.out).mono ?_;rintro e w51 ⟨v,rfl,hv,hD,hS⟩;have Cp:=hid hS;have Db:=hid hD;have Dr:=hid (Co.out.trans Cp.out);have Ai:=hid (Af.out.sole Ac.out.1 Cp.out);have Aj:=hid (Ag.out.sole Ac.out.1 Cp.out);obtain ⟨k51,n51,m51,a51,ks51,o51,l51,c51,he51,rfl⟩:=zam hv;have Cq:=hid he51;clear he51;have Dc:=hid hv;clear hv hD hS;obtain ⟨kl,hkl⟩:∃ x,zev s.adv=x:=⟨_,rfl⟩;rw [hkl] at Bg Db Dc Cq;clear hkl;have Bw:Hid (R=(Tree.node k51 n51 m51 a51 ks51,kl.2.want [59])):=(by show _=_;rw [<- Cq.out];exact Bg.out);have Di:=hid (Ag.out.lt);have Dj:Hid (ListAt (fun b=>w.heap.size+1<=b∧b≠w1.heap.size) w51 ks51 (.slice o51 l51 c51)):=(zkt (by rw [<- Cq.out];exact Dc.out)).weaken (fun b hb=>by
      have h1:w41.heap.size<=b:=hb;have h2:=Di.out;have h3:=Bj.out;exact ⟨by omega,by omega⟩)
     unfold kidV;have Bn:=hid (Dj);obtain ⟨⟨x0,x1,x2,x3,x4⟩,⟨u0,u1,u2,u3,u4⟩⟩:=zaa Aj.out.1;(go_wp2_with fail);have HY:=hid (laid5 (k:=k51) (n:=n51) (m:=m51) (a:=a51) (sl:=(.slice o51 l51 c51)) Aj.out Dr.out _ rfl);have Ax:Hid (Kep w (((((w51.setCell ⟨w1.heap.size,0,none⟩ (.int .i64 k51)).setCell ⟨w1.heap.size,1,none⟩ (.string ⟨n51.toArray⟩)).setCell ⟨w1.heap.size,2,none⟩ (.int .i64 m51)).setCell ⟨w1.heap.size,3,none⟩ (.int .i64 a51)).setCell ⟨w1.heap.size,4,none⟩ (.slice o51 l51 c51)) w.heap.size (kidO 0 [] 0 0 (.slice none 0 0))∧DS (((((w51.setCell ⟨w1.heap.size,0,none⟩ (.int .i64 k51)).setCell ⟨w1.heap.size,1,none⟩ (.string ⟨n51.toArray⟩)).setCell ⟨w1.heap.size,2,none⟩ (.int .i64 m51)).setCell ⟨w1.heap.size,3,none⟩ (.int .i64 a51)).setCell ⟨w1.heap.size,4,none⟩ (.slice o51 l51 c51)) p g cap ts d kl.2∧ListAt (fun b=>w.heap.size+1<=b∧b≠w1.heap.size) (((((w51.setCell ⟨w1.heap.size,0,none⟩ (.int .i64 k51)).setCell ⟨w1.heap.size,1,none⟩ (.string ⟨n51.toArray⟩)).setCell ⟨w1.heap.size,2,none⟩ (.int .i64 m51)).setCell ⟨w1.heap.size,3,none⟩ (.int .i64 a51)).setCell ⟨w1.heap.size,4,none⟩ (.slice o51 l51 c51)) ks51 (.slice o51 l51 c51)):=by
      have h1:=Bj.out;have h2:=Ac.out;exact ⟨⟨(HY.out.2.2 _ (by omega)).trans Ai.out.1,Ai.out.2⟩,Db.out.but (by omega) (by omega) HY.out.2.2,ListAt.but Bn.out (fun b hb=>hb.2) HY.out.2.2⟩
     generalize ((((w51.setCell ⟨w1.heap.size,0,none⟩ (.int .i64 k51)).setCell ⟨w1.heap.size,1,none⟩ (.string ⟨n51.toArray⟩)).setCell ⟨w1.heap.size,2,none⟩ (.int .i64 m51)).setCell ⟨w1.heap.size,3,none⟩ (.int .i64 a51)).setCell ⟨w1.heap.size,4,none⟩ (.slice o51 l51 c51)=w7 at HY Ax ⊢;have Cc:=hid Ax.out.1;have Cd:=hid Ax.out.2.1;have Ce:=hid Ax.out.2.2;have Bc:=hid HY.out.1;have Cf:=hid HY.out.2.1;clear HY Ax x0 x1 x2 x3 x4 u0 u1 u2 u3 u4 Bn;refine (zak p g cap ts hE d [59] (by simp) kl.2 _ Cd.out).mono ?_;rintro e w81 ⟨rfl,hD,hS⟩;have Ad:=hid hS;have Bd:=hid hD;have Be:=hid (Cf.out.trans Ad.out);have Aa:=hid (Cc.out.sole Ac.out.1 Ad.out);have Ae:=hid (Bc.out.sole Ac.out.1 Ad.out);have Ak:=hid (ListAt.sole Ce.out (by intro b hb;have hpg:=Ac.out.1;have hb2:=hb;first | (unfold zaf at hb2;omega) | exact (by have h1:w.heap.size+1<=b:=hb.1;omega)) Ad.out);clear hD hS;obtain ⟨⟨x0,x1,x2,x3,x4⟩,_⟩:=zaa Ae.out.1;obtain ⟨⟨z0,z1,z2,z3,z4⟩,⟨y0,y1,y2,y3,y4⟩⟩:=zaa Aa.out.1;go_wp2;refine ret5 z0 z1 z2 z3 z4 rfl (fun u q0 q1 q2 q3 q4=>by simp [results,Tryz.results30,go_sem,q0,q1,q2,q3,q4]) Aa.out.2 Be.out ?_;intro wz hf;rw [Bw.out];have hr2:=Aa.out.2;have hpg:=Ac.out;exact ⟨_,rfl,zaz Ak.out (fun b h=>Nat.le_trans (Nat.le_succ _) h.1) (fun b h=>by have h1:w.heap.size+1<=b:=h.1;omega) hf.2,Bd.out.but (by omega) (by omega) hf.2,hf.1⟩
    | false =>
     rw [zb5 hbp] at Ca;have Bw:Hid (R=(zh9,(s.fail 40).want [59])):=by
      show _=_;rw [HR.out];unfold zat;rw [Dd.out,show s.is zdv=false from hbc,show s.is zc3=false from hbt,show s.is zda=false from hbp];rfl
     (go_wp2_with fail);refine (zbs p g cap ts d 40 s _ Ca.out).mono ?_;rintro e w61 ⟨rfl,hD,hS⟩;have Cr:=hid hS;have Ds:=hid hD;have Dt:=hid (Co.out.trans Cr.out);have Au:=hid (Af.out.sole Ac.out.1 Cr.out);have Av:=hid (Ag.out.sole Ac.out.1 Cr.out);clear hD hS;(go_wp2_with fail);refine (zak p g cap ts hE d [59] (by simp) (s.fail 40) _ Ds.out).mono ?_;rintro e w62 ⟨rfl,hD,hS⟩;have Cs:=hid hS;have Du:=hid hD;have Dv:=hid (Dt.out.trans Cs.out);have Ab:=hid (Au.out.sole Ac.out.1 Cs.out);have Al:=hid (Av.out.sole Ac.out.1 Cs.out);clear hD hS;obtain ⟨⟨x0,x1,x2,x3,x4⟩,_⟩:=zaa Al.out.1;obtain ⟨⟨z0,z1,z2,z3,z4⟩,⟨y0,y1,y2,y3,y4⟩⟩:=zaa Ab.out.1;go_wp2;refine ret5 (n:=[]) (a:=0) z0 z1 z2 z3 z4 rfl (fun u q0 q1 q2 q3 q4=>by simp [results,Tryz.results30,go_sem,q0,q1,q2,q3,q4]) Ab.out.2 Dv.out ?_;intro wz hf;rw [Bw.out];have hr2:=Ab.out.2;have hpg:=Ac.out;exact ⟨_,rfl,zff,Du.out.but (by omega) (by omega) hf.2,hf.1⟩)
theorem zm3 {A:Nat->Prop} {w w' : World} {ks:List Tree} {sl:Value} {row:Option Nat} (h:ListAt A w ks sl) (hg:w.grownBy w' row) (hA:∀ b,A b->row≠some b):ListAt A w' ks sl:=ListAt.frame (fun _ h=>h) (fun b hb hl=>hg.block b hl (fun e=>hA b hb e.symm)) h
structure PEnd (p g cap:Nat) (ts:List Tok) (d:Int) (s6:RS) (w wz:World) (X q:Nat) (nt:List UInt8) (na:Nat) (t r:Tree) (al:List Tree) (sl:Value):Prop where
 lt:w.heap.size<X∧w.heap.size<q∧q≠X
 ds:DS wz p g cap ts d s6
 so:Sole p w wz
 kr:Kep w wz w.heap.size (kidO 0 [] 0 0 (.slice none 0 0))
 kx:Kep w wz X (kidO 12 nt 0 na (.slice (some ⟨q,0,none⟩) 2 2))
 two:ListAt (fun b=>w.heap.size+1<=b∧b≠X) wz [t,r] (.slice (some ⟨q,0,none⟩) 2 2)
 more:ListAt (fun b=>(w.heap.size+1<=b∧b≠X)∧b≠q) wz al sl
 sz:w.heap.size+1<=wz.heap.size∧wz.heap.size≠X
theorem znx {p g cap:Nat} {ts:List Tok} {d:Int} {s6:RS} {nt:List UInt8} {na:Nat} {k m rk rm:Int} {n rn:List UInt8} {a ra:Nat} {ks rks al:List Tree} {sn sr:Value} {oq:Option Addr} {N cq:Nat} {w w5 wz:World} {X q:Nat}
 (hpg:p<w.heap.size∧g<w.heap.size) (hx:w.heap.size<X∧w5.heap.size<=q∧q≠X∧w5.heap.size<wz.heap.size∧wz.heap.size≠X) (hD:DS w5 p g cap ts d s6) (hK:Kep w w5 w.heap.size (kidO 0 [] 0 0 (.slice none 0 0)))
 (hN:TreeAt (fun b=>w.heap.size+1<=b∧b≠X) w5 (.node k n m a ks) (kidV k n m a sn)) (hR:ListAt (fun b=>w.heap.size+1<=b∧b≠X) w5 rks sr) (hA:ListAt (fun b=>w.heap.size+1<=b∧b≠X) w5 al (.slice oq N cq))
 (hb:∀ b,b<w5.heap.size->b≠X->wz.heap[b]?=w5.heap[b]?) (hq:wz.heap[q]?=some (.cells #[.int .i64 k,.string ⟨n.toArray⟩,.int .i64 m,.int .i64 a,sn,.int .i64 rk,.string ⟨rn.toArray⟩,.int .i64 rm,.int .i64 ra,sr] 29 (0,0)))
 (hX:wz.heap[X]?=some (kidO 12 nt 0 na (.slice (some ⟨q,0,none⟩) 2 2))) (hS:Sole p w wz):
 PEnd p g cap ts d s6 w wz X q nt na (.node k n m a ks) (.node rk rn rm ra rks) al (.slice oq N cq):=by
 have hlt:=hK.lt;obtain ⟨i,h1,h2⟩:=hD;have hp2:=h2.plt;have hg2:=h2.gl;refine ⟨⟨by omega,by omega,hx.2.2.1⟩,⟨i,h1,h2.of_blocks (hb p hp2 (by omega)) (hb g hg2 (by omega))⟩,hS,⟨(hb _ hlt (by omega)).trans hK.1,hK.2⟩,⟨hX,by omega⟩,?_,?_,⟨by omega,hx.2.2.2.2⟩⟩
 · refine zbd (ks:=[.node k n m a ks,.node rk rn rm ra rks]) (q:=q) (xs:=[.int .i64 k,.string ⟨n.toArray⟩,.int .i64 m,.int .i64 a,sn]++[.int .i64 rk,.string ⟨rn.toArray⟩,.int .i64 rm,.int .i64 ra,sr]) hq (by simp) ⟨by omega,by omega⟩ (RowV.append [.node k n m a ks] [.node rk rn rm ra rks] _ _ (zay ?_) (zay ?_))
   · exact TreeAt.frame (fun b hb1=>⟨hb1.1,by have:=hb1.2;omega⟩) (fun b hb1 hl=>hb b hl hb1.1.2) _ _ (TreeAt.there _ _ hN)
   · exact treeAt_node.2 ⟨_,rfl,ListAt.frame (fun b hb1=>⟨hb1.1,by have:=hb1.2;omega⟩) (fun b hb1 hl=>hb b hl hb1.1.2) (za7 hR)⟩
 · exact ListAt.frame (fun b hb1=>⟨hb1.1,by have:=hb1.2;omega⟩) (fun b hb1 hl=>hb b hl hb1.1.2) (za7 hA)
theorem proc_f3 {p g cap:Nat} {ts:List Tok} {d:Int} {s6:RS} {nt:List UInt8} {na:Nat} {k m rk rm:Int} {n rn:List UInt8} {a ra:Nat} {ks rks al:List Tree} {sn sr:Value} {oq:Option Addr} {N cq:Nat} {w W w5:World} {B Y:Nat} (hpg:p<w.heap.size∧g<w.heap.size) (hwt:B<=W.heap.size) (hbb:Y<B∧w.heap.size<Y) (hSW:Sole p w W) (hK:Kep w W w.heap.size (kidO 0 [] 0 0 (.slice none 0 0))) (hR:ListAt (fun b=>w.heap.size+1<=b∧b≠Y∧b<B) W rks sr) (hA:ListAt (zaf B) W al (.slice oq N cq)) (hD:DS w5 p g cap ts d s6) (hQ:Sole p W w5) (hT:treeIs W.heap.size (.node k n m a ks) w5 (kidV k n m a sn)):
 PEnd p g cap ts d s6 w ((w5.alloc (.cells #[.int .i64 k,.string ⟨n.toArray⟩,.int .i64 m,.int .i64 a,sn,.int .i64 rk,.string ⟨rn.toArray⟩,.int .i64 rm,.int .i64 ra,sr] 29)).alloc (.cells #[.int .i64 12,.string ⟨nt.toArray⟩,.int .i64 0,.int .i64 na,.slice (some ⟨w5.heap.size,0,none⟩) 2 2] 29)) (w5.heap.size+1) w5.heap.size nt na (.node k n m a ks) (.node rk rn rm ra rks) al (.slice oq N cq):=by
 have hle:=hQ.size;have hN:TreeAt (fun b=>w.heap.size+1<=b∧b<w5.heap.size) w5 (.node k n m a ks) (kidV k n m a sn):=(TreeAt.there _ _ hT).weaken (fun b hb=>⟨by have h1:W.heap.size<=b:=hb.1;omega,hb.2⟩);have hR2:=(za7 (ListAt.sole hR (fun b hb=>by have h1:=hb.1;omega) hQ)).weaken (A':=fun b=>w.heap.size+1<=b∧b<w5.heap.size) (fun b hb=>⟨hb.1.1,hb.2⟩);have hA2:=(za7 (ListAt.sole hA (fun b hb=>by have h1:B<=b:=hb;omega) hQ)).weaken (A':=fun b=>w.heap.size+1<=b∧b<w5.heap.size) (fun b hb=>⟨by have h1:B<=b:=hb.1;omega,hb.2⟩);have hz:(w5.alloc (.cells #[.int .i64 k,.string ⟨n.toArray⟩,.int .i64 m,.int .i64 a,sn,.int .i64 rk,.string ⟨rn.toArray⟩,.int .i64 rm,.int .i64 ra,sr] 29)).heap.size=w5.heap.size+1:=by simp
 have hz2:((w5.alloc (.cells #[.int .i64 k,.string ⟨n.toArray⟩,.int .i64 m,.int .i64 a,sn,.int .i64 rk,.string ⟨rn.toArray⟩,.int .i64 rm,.int .i64 ra,sr] 29)).alloc (.cells #[.int .i64 12,.string ⟨nt.toArray⟩,.int .i64 0,.int .i64 na,.slice (some ⟨w5.heap.size,0,none⟩) 2 2] 29)).heap.size=w5.heap.size+2:=by simp
 have hS:Sole p w ((w5.alloc (.cells #[.int .i64 k,.string ⟨n.toArray⟩,.int .i64 m,.int .i64 a,sn,.int .i64 rk,.string ⟨rn.toArray⟩,.int .i64 rm,.int .i64 ra,sr] 29)).alloc (.cells #[.int .i64 12,.string ⟨nt.toArray⟩,.int .i64 0,.int .i64 na,.slice (some ⟨w5.heap.size,0,none⟩) 2 2] 29)):=(hSW.trans hQ).trans (Sole.of_below ((zab w5 (.cells #[.int .i64 k,.string ⟨n.toArray⟩,.int .i64 m,.int .i64 a,sn,.int .i64 rk,.string ⟨rn.toArray⟩,.int .i64 rm,.int .i64 ra,sr] 29)).alloc (by simp) (.cells #[.int .i64 12,.string ⟨nt.toArray⟩,.int .i64 0,.int .i64 na,.slice (some ⟨w5.heap.size,0,none⟩) 2 2] 29)));have h9:=heap_alloc_new (w5.alloc (.cells #[.int .i64 k,.string ⟨n.toArray⟩,.int .i64 m,.int .i64 a,sn,.int .i64 rk,.string ⟨rn.toArray⟩,.int .i64 rm,.int .i64 ra,sr] 29)) (.cells #[.int .i64 12,.string ⟨nt.toArray⟩,.int .i64 0,.int .i64 na,.slice (some ⟨w5.heap.size,0,none⟩) 2 2] 29);rw [hz] at h9;have h8:((w5.alloc (.cells #[.int .i64 k,.string ⟨n.toArray⟩,.int .i64 m,.int .i64 a,sn,.int .i64 rk,.string ⟨rn.toArray⟩,.int .i64 rm,.int .i64 ra,sr] 29)).alloc (.cells #[.int .i64 12,.string ⟨nt.toArray⟩,.int .i64 0,.int .i64 na,.slice (some ⟨w5.heap.size,0,none⟩) 2 2] 29)).heap[w5.heap.size]?=some (.cells #[.int .i64 k,.string ⟨n.toArray⟩,.int .i64 m,.int .i64 a,sn,.int .i64 rk,.string ⟨rn.toArray⟩,.int .i64 rm,.int .i64 ra,sr] 29):=za3 (heap_alloc_new w5 (.cells #[.int .i64 k,.string ⟨n.toArray⟩,.int .i64 m,.int .i64 a,sn,.int .i64 rk,.string ⟨rn.toArray⟩,.int .i64 rm,.int .i64 ra,sr] 29));exact znx hpg ⟨by omega,by omega,by omega,by omega,by omega⟩ hD (hK.sole hpg.1 hQ) (hN.weaken (fun b hb=>⟨hb.1,by have:=hb.2;omega⟩)) (hR2.weaken (fun b hb=>⟨hb.1,by have:=hb.2;omega⟩)) (hA2.weaken (fun b hb=>⟨hb.1,by have:=hb.2;omega⟩)) (fun b hb _=>(heap_alloc_old _ _ (by omega)).trans (heap_alloc_old _ _ hb)) h8 h9 hS
theorem proc_f2 {p g cap:Nat} {ts:List Tok} {d:Int} {s6:RS} {nt:List UInt8} {na:Nat} {k m rk rm:Int} {n rn:List UInt8} {a ra:Nat} {ks rks al:List Tree} {sn sr:Value} {oq:Option Addr} {N cq:Nat} {w W w5:World} {B Y:Nat} (hpg:p<w.heap.size∧g<w.heap.size) (hwt:B<=W.heap.size) (hbb:Y<B∧w.heap.size<Y) (hSW:Sole p w W) (hK:Kep w W w.heap.size (kidO 0 [] 0 0 (.slice none 0 0))) (hR:ListAt (fun b=>w.heap.size+1<=b∧b≠Y∧b<B) W rks sr) (hA:ListAt (zaf B) W al (.slice oq N cq)) (hD:DS w5 p g cap ts d s6) (hQ:Sole p W w5) (hT:treeIs W.heap.size (.node k n m a ks) w5 (kidV k n m a sn)):
 PEnd p g cap ts d s6 w ((w5.alloc (.cells #[.int .i64 12,.string ⟨nt.toArray⟩,.int .i64 0,.int .i64 na,.slice (some ⟨w5.heap.size+1,0,none⟩) 2 2] 29)).alloc (.cells #[.int .i64 k,.string ⟨n.toArray⟩,.int .i64 m,.int .i64 a,sn,.int .i64 rk,.string ⟨rn.toArray⟩,.int .i64 rm,.int .i64 ra,sr] 29)) w5.heap.size (w5.heap.size+1) nt na (.node k n m a ks) (.node rk rn rm ra rks) al (.slice oq N cq):=by
 have hle:=hQ.size;have hN:TreeAt (fun b=>w.heap.size+1<=b∧b<w5.heap.size) w5 (.node k n m a ks) (kidV k n m a sn):=(TreeAt.there _ _ hT).weaken (fun b hb=>⟨by have h1:W.heap.size<=b:=hb.1;omega,hb.2⟩);have hR2:=(za7 (ListAt.sole hR (fun b hb=>by have h1:=hb.1;omega) hQ)).weaken (A':=fun b=>w.heap.size+1<=b∧b<w5.heap.size) (fun b hb=>⟨hb.1.1,hb.2⟩);have hA2:=(za7 (ListAt.sole hA (fun b hb=>by have h1:B<=b:=hb;omega) hQ)).weaken (A':=fun b=>w.heap.size+1<=b∧b<w5.heap.size) (fun b hb=>⟨by have h1:B<=b:=hb.1;omega,hb.2⟩);have hz:(w5.alloc (.cells #[.int .i64 12,.string ⟨nt.toArray⟩,.int .i64 0,.int .i64 na,.slice (some ⟨w5.heap.size+1,0,none⟩) 2 2] 29)).heap.size=w5.heap.size+1:=by simp
 have hz2:((w5.alloc (.cells #[.int .i64 12,.string ⟨nt.toArray⟩,.int .i64 0,.int .i64 na,.slice (some ⟨w5.heap.size+1,0,none⟩) 2 2] 29)).alloc (.cells #[.int .i64 k,.string ⟨n.toArray⟩,.int .i64 m,.int .i64 a,sn,.int .i64 rk,.string ⟨rn.toArray⟩,.int .i64 rm,.int .i64 ra,sr] 29)).heap.size=w5.heap.size+2:=by simp
 have hS:Sole p w ((w5.alloc (.cells #[.int .i64 12,.string ⟨nt.toArray⟩,.int .i64 0,.int .i64 na,.slice (some ⟨w5.heap.size+1,0,none⟩) 2 2] 29)).alloc (.cells #[.int .i64 k,.string ⟨n.toArray⟩,.int .i64 m,.int .i64 a,sn,.int .i64 rk,.string ⟨rn.toArray⟩,.int .i64 rm,.int .i64 ra,sr] 29)):=(hSW.trans hQ).trans (Sole.of_below ((zab w5 (.cells #[.int .i64 12,.string ⟨nt.toArray⟩,.int .i64 0,.int .i64 na,.slice (some ⟨w5.heap.size+1,0,none⟩) 2 2] 29)).alloc (by simp) (.cells #[.int .i64 k,.string ⟨n.toArray⟩,.int .i64 m,.int .i64 a,sn,.int .i64 rk,.string ⟨rn.toArray⟩,.int .i64 rm,.int .i64 ra,sr] 29)));have h9:=heap_alloc_new (w5.alloc (.cells #[.int .i64 12,.string ⟨nt.toArray⟩,.int .i64 0,.int .i64 na,.slice (some ⟨w5.heap.size+1,0,none⟩) 2 2] 29)) (.cells #[.int .i64 k,.string ⟨n.toArray⟩,.int .i64 m,.int .i64 a,sn,.int .i64 rk,.string ⟨rn.toArray⟩,.int .i64 rm,.int .i64 ra,sr] 29);rw [hz] at h9;have h8:((w5.alloc (.cells #[.int .i64 12,.string ⟨nt.toArray⟩,.int .i64 0,.int .i64 na,.slice (some ⟨w5.heap.size+1,0,none⟩) 2 2] 29)).alloc (.cells #[.int .i64 k,.string ⟨n.toArray⟩,.int .i64 m,.int .i64 a,sn,.int .i64 rk,.string ⟨rn.toArray⟩,.int .i64 rm,.int .i64 ra,sr] 29)).heap[w5.heap.size]?=some (.cells #[.int .i64 12,.string ⟨nt.toArray⟩,.int .i64 0,.int .i64 na,.slice (some ⟨w5.heap.size+1,0,none⟩) 2 2] 29):=za3 (heap_alloc_new w5 (.cells #[.int .i64 12,.string ⟨nt.toArray⟩,.int .i64 0,.int .i64 na,.slice (some ⟨w5.heap.size+1,0,none⟩) 2 2] 29));exact znx hpg ⟨by omega,by omega,by omega,by omega,by omega⟩ hD (hK.sole hpg.1 hQ) (hN.weaken (fun b hb=>⟨hb.1,by have:=hb.2;omega⟩)) (hR2.weaken (fun b hb=>⟨hb.1,by have:=hb.2;omega⟩)) (hA2.weaken (fun b hb=>⟨hb.1,by have:=hb.2;omega⟩)) (fun b hb _=>(heap_alloc_old _ _ (by omega)).trans (heap_alloc_old _ _ hb)) h9 h8 hS
theorem proc_f1 {p g cap:Nat} {ts:List Tok} {d:Int} {s6:RS} {nt:List UInt8} {na:Nat} {k m rk rm:Int} {n rn:List UInt8} {a ra:Nat} {ks rks al:List Tree} {sn sr:Value} {oq:Option Addr} {N cq:Nat} {w W w5:World} {B Y:Nat} (hpg:p<w.heap.size∧g<w.heap.size) (hwt:B<=W.heap.size) (hbb:Y<B∧w.heap.size<Y) (hSW:Sole p w W) (hK:Kep w W w.heap.size (kidO 0 [] 0 0 (.slice none 0 0))) (hR:ListAt (fun b=>w.heap.size+1<=b∧b≠Y∧b<B) W rks sr) (hA:ListAt (zaf B) W al (.slice oq N cq)) (hD:DS w5 p g cap ts d s6) (hQ:Sole p (W.alloc (.cells #[.int .i64 0,.string ⟨#[]⟩,.int .i64 0,.int .i64 0,.slice none 0 0] 29)) w5) (hT:treeIs (W.heap.size+1) (.node k n m a ks) w5 (kidV k n m a sn)):
 PEnd p g cap ts d s6 w ((((((w5.alloc (.cells #[.int .i64 k,.string ⟨n.toArray⟩,.int .i64 m,.int .i64 a,sn,.int .i64 rk,.string ⟨rn.toArray⟩,.int .i64 rm,.int .i64 ra,sr] 29)).setCell ⟨W.heap.size,0,none⟩ (.int .i64 12)).setCell ⟨W.heap.size,1,none⟩ (.string ⟨nt.toArray⟩)).setCell ⟨W.heap.size,2,none⟩ (.int .i64 0)).setCell ⟨W.heap.size,3,none⟩ (.int .i64 na)).setCell ⟨W.heap.size,4,none⟩ (.slice (some ⟨w5.heap.size,0,none⟩) 2 2)) W.heap.size w5.heap.size nt na (.node k n m a ks) (.node rk rn rm ra rks) al (.slice oq N cq):=by
 have hz0:(W.alloc (.cells #[.int .i64 0,.string ⟨#[]⟩,.int .i64 0,.int .i64 0,.slice none 0 0] 29)).heap.size=W.heap.size+1:=by simp
 have hle:=hQ.size;have hB:=zab W (.cells #[.int .i64 0,.string ⟨#[]⟩,.int .i64 0,.int .i64 0,.slice none 0 0] 29);have hKX:Kep w w5 W.heap.size (kidO 0 [] 0 0 (.slice none 0 0)):=Kep.sole (Kep.new (w:=w) (Nat.le_of_lt hK.lt) _) hpg.1 hQ;have hN:TreeAt (fun b=>w.heap.size+1<=b∧b≠W.heap.size) w5 (.node k n m a ks) (kidV k n m a sn):=TreeAt.weaken hT (fun b hb=>by have h1:W.heap.size+1<=b:=hb;exact ⟨by omega,by omega⟩);have hR2:=(ListAt.sole (ListAt.below (za7 hR) hB) (fun b hb=>by have h1:=hb.1.1;omega) hQ).weaken (A':=fun b=>w.heap.size+1<=b∧b≠W.heap.size) (fun b hb=>⟨hb.1.1,by have:=hb.2;omega⟩);have hA2:=(ListAt.sole (ListAt.below (za7 hA) hB) (fun b hb=>by have h1:B<=b:=hb.1;omega) hQ).weaken (A':=fun b=>w.heap.size+1<=b∧b≠W.heap.size) (fun b hb=>⟨by have h1:B<=b:=hb.1;omega,by have:=hb.2;omega⟩);have hS5:Sole p w w5:=(hSW.trans (Sole.of_below hB)).trans hQ;obtain ⟨wz,hwz⟩:∃ x,((((((w5.alloc (.cells #[.int .i64 k,.string ⟨n.toArray⟩,.int .i64 m,.int .i64 a,sn,.int .i64 rk,.string ⟨rn.toArray⟩,.int .i64 rm,.int .i64 ra,sr] 29)).setCell ⟨W.heap.size,0,none⟩ (.int .i64 12)).setCell ⟨W.heap.size,1,none⟩ (.string ⟨nt.toArray⟩)).setCell ⟨W.heap.size,2,none⟩ (.int .i64 0)).setCell ⟨W.heap.size,3,none⟩ (.int .i64 na)).setCell ⟨W.heap.size,4,none⟩ (.slice (some ⟨w5.heap.size,0,none⟩) 2 2))=x:=⟨_,rfl⟩;have hY:=laid5 (k:=12) (n:=nt) (m:=0) (a:=na) (sl:=.slice (some ⟨w5.heap.size,0,none⟩) 2 2) (hKX.alloc (.cells #[.int .i64 k,.string ⟨n.toArray⟩,.int .i64 m,.int .i64 a,sn,.int .i64 rk,.string ⟨rn.toArray⟩,.int .i64 rm,.int .i64 ra,sr] 29)) (hS5.trans (Sole.of_below (zab w5 (.cells #[.int .i64 k,.string ⟨n.toArray⟩,.int .i64 m,.int .i64 a,sn,.int .i64 rk,.string ⟨rn.toArray⟩,.int .i64 rm,.int .i64 ra,sr] 29)))) wz hwz;have hz2:wz.heap.size=w5.heap.size+1:=by rw [<- hwz];simp
 rw [hwz];exact znx hpg ⟨by omega,Nat.le_refl _,by omega,by omega,by omega⟩ hD (Kep.sole (hK.alloc _) hpg.1 hQ) hN hR2 hA2 (fun b hb hx=>(hY.2.2 b hx).trans (heap_alloc_old _ _ hb)) ((hY.2.2 _ (by omega)).trans (heap_alloc_new _ _)) hY.1.1 hY.2.1
end Go.Proofs.YtighggeokiahfaaGreatDoor.Dm
