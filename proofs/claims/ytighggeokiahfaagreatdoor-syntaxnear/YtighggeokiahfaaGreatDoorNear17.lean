import Derived.Test.YtighggeokiahfaaGreatDoorNear16
import Derived.OwnWalk
namespace Go.Proofs.YtighggeokiahfaaGreatDoor.Dm
theorem zf4 {ts:List Tok} {pl:Nat} {x:List UInt8} (hx:zfn x) (ok:Okl ts) (h:((hdT ts).text==x)=true):(⟨ts,0,pl⟩:RS).want x=⟨ts.tail,0,pl⟩:=by unfold RS.want;rw [zcz hx ok,h];rfl
theorem zmx {ts:List Tok} {pl:Nat} {x:List UInt8} (hx:zfn x) (ok:Okl ts) (h:((hdT ts).text==x)=false):(⟨ts,0,pl⟩:RS).want x=⟨ts,40,(hdT ts).at_⟩:=by unfold RS.want;rw [zcz hx ok,h];rfl
theorem zla (ts:List Tok) (pl:Nat) (e:Int):(⟨ts,0,pl⟩:RS).fail e=⟨ts,e,(hdT ts).at_⟩:=rfl
theorem other {t x y:List UInt8} (h:(t==x)=true) (hn:x≠y):(t==y)=false:=by rw [eq_of_beq h];simp [hn]
theorem full_bare {ts:List Tok} (ok:Okl ts) (pl:Nat):zei ⟨ts,true⟩=.no (if (⟨ts,0,pl⟩:RS).begins then 42 else 40) (hdT ts).at_:=by
 by_cases hk:(hdT ts).kind=1
 · rw [zf2,hk]
   unfold zei refP zcr PS.ofKind
   rw [if_pos (show (⟨ts,true⟩:PS).hd.kind=1 from hk),if_pos (show (⟨ts,true⟩:PS).hd.kind=1 from hk)]
   rfl
 · cases hu:((hdT ts).text==zbj) with
   | true=>
    have k2:(hdT ts).kind=2:=ok.hd.word (by show zba (hdT ts).text=true;rw [eq_of_beq hu];decide)
    rw [zlp (s:=⟨ts,true⟩) hk hu,zf2,hu,k2]
    rfl
   | false=>
    rw [zns (s:=⟨ts,true⟩) hk hu,zf2,hu,beq_no hk]
    unfold znb
    rw [hd_P]
    have hf:=find_no (hdT ts).text
    by_cases hb0:baseD (hdT ts).text=0
    · rw [if_pos hb0] at hf
      rw [Option.map_eq_none_iff.1 hf,hb0]
      simp [PS.bad,hd_P]
    · rw [if_neg hb0] at hf
      obtain ⟨b,hb,_⟩:=Option.map_eq_some_iff.1 hf
      rw [hb,show (hdT ts).kind=2 from ok.hd.word (base_word hb0)]
      simp [hb0,zfs,Ans.bind]
def FullB (B:PS->Ans Tree) (last:Bool):Prop:=∀ ts,zeh (hdT ts).text=true->B ⟨ts,true⟩=.no (if last then 41 else 42) (hdT ts).at_
theorem zle {ts:List Tok} {pl:Nat} (ok:Okl ts):(⟨ts,0,pl⟩:RS).declares=(zeh (hdT ts).text||((⟨ts,0,pl⟩:RS).begins||((hdT ts).text==zde||((hdT ts).text==ze4||(hdT ts).text==ze3)))):=by
 unfold RS.declares
 rw [zgo ok,hd_D]
 cases h:((hdT ts).text==zde||((hdT ts).text==ze4||(hdT ts).text==ze3)) with
 | false=>simp
 | true=>
  have k2:(hdT ts).kind=2:=by
   refine ok.hd.word (show zba (hdT ts).text=true from ?_)
   simp only [Bool.or_eq_true,beq_iff_eq] at h
   rcases h with h|h|h <;> (rw [h];decide)
  rw [k2];rfl
def declC (ts:List Tok) (pl:Nat) (last:Bool):Int:=if (⟨ts,0,pl⟩:RS).declares then (if zeh (hdT ts).text&&last then 41 else 42) else 40
theorem full_decl {B:PS->Ans Tree} {last:Bool} (hF:FullB B last) {ts:List Tok} (ok:Okl ts) (pl:Nat):za6 B ⟨ts,true⟩=.no (declC ts pl last) (hdT ts).at_:=by
 unfold declC
 rw [zle ok]
 unfold za6 zco
 rw [zcv,zcv,zcv,zl6]
 cases h1:((hdT ts).text==zde) with
 | true=>
  rw [show zeh (hdT ts).text=false by rw [eq_of_beq h1];decide]
  simp [zc0,zfs,Ans.bind]
 | false=>
  cases h2:((hdT ts).text==ze4) with
  | true=>
   rw [show zeh (hdT ts).text=false by rw [eq_of_beq h2];decide]
   simp [zc0,zfs,Ans.bind]
  | false=>
   cases h3:((hdT ts).text==ze3) with
   | true=>
    rw [show zeh (hdT ts).text=false by rw [eq_of_beq h3];decide]
    simp [zc0,zfs,Ans.bind]
   | false=>
    cases h4:zeh (hdT ts).text with
    | true=>
     rw [if_pos rfl,hF ts h4]
     cases last <;> simp [Ans.bind]
    | false=>
     rw [if_neg fne,full_bare ok pl]
     cases (⟨ts,0,pl⟩:RS).begins <;> simp [Ans.bind]
theorem full_field {B:PS->Ans Tree} {last:Bool} (hF:FullB B last) {ts:List Tok} (ok:Okl ts) (pl:Nat):zbc B ⟨ts,true⟩=.no (declC ts pl last) (hdT ts).at_:=by
 unfold zbc
 rw [full_decl hF ok pl]
 rfl
theorem bare_none {ts:List Tok} {pl:Nat} (h:(⟨ts,0,pl⟩:RS).begins=false):(zed ⟨ts,0,pl⟩).2=⟨ts,40,(hdT ts).at_⟩:=by
 unfold zed
 rw [h]
 rfl
theorem typed_none {BD:RS->Tree × RS} {ts:List Tok} {pl:Nat} (ok:Okl ts) (h:(⟨ts,0,pl⟩:RS).begins=false) (hb:zeh (hdT ts).text=false):(zce BD ⟨ts,0,pl⟩).2=⟨ts,40,(hdT ts).at_⟩:=by
 unfold zce
 rw [zgo ok,hb,Bool.and_false,if_neg fne]
 exact bare_none h
theorem decl_none {BD:RS->Tree × RS} {ts:List Tok} {pl:Nat} (v:Bool) (ok:Okl ts) (h:(⟨ts,0,pl⟩:RS).declares=false):(zcd BD v ⟨ts,0,pl⟩).2=⟨ts,40,(hdT ts).at_⟩:=by
 rw [zle ok] at h
 simp only [Bool.or_eq_false_iff] at h
 obtain ⟨h1,h2,h3,h4,h5⟩:=h
 have e:(zcd BD false ⟨ts,0,pl⟩).2=⟨ts,40,(hdT ts).at_⟩:=by
  have ht:=typed_none (BD:=BD) ok h2 h1
  have hs:((zce BD ⟨ts,0,pl⟩).2).e≠0:=by rw [ht];show (40:Int)≠0;decide
  rw [decl_no BD ok,h4,h5,if_neg fne,if_neg fne,zdn hs,if_neg fne,zft hs,ht]
 cases v with
 | false=>exact e
 | true=>rw [decl_yes BD ok,h3,if_neg fne,e]
theorem at40 (ts:List Tok):(⟨ts,40,(hdT ts).at_⟩:RS).e≠0:=by show (40:Int)≠0;decide
theorem at42 (ts:List Tok):(⟨ts,42,(hdT ts).at_⟩:RS).e≠0:=by show (42:Int)≠0;decide
theorem at41 (ts:List Tok):(⟨ts,41,(hdT ts).at_⟩:RS).e≠0:=by show (41:Int)≠0;decide
def zh8 (BD:RS->Tree × RS) (last:Bool) (f:Nat) (acc:List Tree) (s:RS):List Tree × RS:=if s.is [125] then (acc,s.adv) else zdb BD last f acc (if s.declares&&acc.length==64 then (if s.bodied != 0&&last then s.fail 41 else s).fail 42 else s)
theorem zit {BD:RS->Tree × RS} {last:Bool} (f:Nat) (acc:List Tree) (s:RS) (h:s.e≠0):(zh8 BD last f acc s).2=s:=by
 unfold zh8
 simp only [zdn h,zdr h,ite_self,Bool.false_eq_true,if_false,zen h]
theorem zmq (BD:RS->Tree × RS) (last:Bool) (f:Nat) (acc:List Tree) (ts:List Tok) (pl:Nat):zdb BD last (f+1) acc ⟨ts,0,pl⟩=zh8 BD last f (acc++[(zhh BD ⟨ts,0,pl⟩).1]) (zhh BD ⟨ts,0,pl⟩).2:=by
 rw [zdb]
 rfl
theorem zjj (ts:List Tok) (x:List UInt8):[x].any (⟨ts,false⟩:PS).sees=((hdT ts).text==x):=by simp [zcv]
theorem sim_fields {B:PS->Ans Tree} {BD:RS->Tree × RS} {last:Bool} (hB:SimB B BD) (hK:zj6 B) (hF:FullB B last):Sim 1 (zda B) (fieldsD BD last):=by
 intro ts pl ok
 refine zay (j:=0) [123] (sp_s 123 (by decide)) ok (Q:=fun s=>(zcu (zbc B) [[125]] 66 [] s).bind fun l s=>(s.want [125]).bind fun _ s=>.ok l s) (E:=fun s=>zdb BD last (s.ts.length+1) [] s) (fun ts' ok' _=>?_) (fun s h=>by rw [zen h])
 refine (zko (zbc B) (zhh BD) (zks hB hK) [[125]] (fun l s=>(s.want [125]).bind fun _ s=>.ok l s) (zdb BD last) (zh8 BD last) (fun f acc ts pl _=>zmq BD last f acc ts pl) zit ?_ ?_ ?_ (ts'.length+1) ts' pl ok' (Nat.lt_succ_self _)).less (Nat.zero_le _)
 · intro f acc ts pl ok _ he
   rw [zjj] at he
   unfold zh8
   rw [zcz (sp_s 125 (by decide)) ok,he,if_pos rfl,show (⟨ts,0,pl⟩:RS).adv=(⟨ts,0,pl⟩:RS).want [125] from (zf4 (sp_s 125 (by decide)) ok he).symm]
   exact (zcy [125] (sp_s 125 (by decide)) acc ok).less (Nat.zero_le _)
 · intro f acc ts pl ok _ hl he
   rw [zjj] at he
   left
   unfold zh8
   rw [zcz (sp_s 125 (by decide)) ok,he,if_neg fne,show (acc.length==64)=false by simp;omega,Bool.and_false,if_neg fne]
 · intro f acc ts pl ok hl he
   rw [zjj] at he
   have e1:=full_field hF ok pl
   unfold zh8
   rw [zcz (sp_s 125 (by decide)) ok,he,if_neg fne,hl]
   unfold declC at e1
   cases hd:(⟨ts,0,pl⟩:RS).declares with
   | true=>
    rw [hd,if_pos rfl] at e1
    rw [show ((true:Bool)&&(64:Nat)==64)=true from rfl,if_pos rfl,zgo ok]
    cases hb:zeh (hdT ts).text&&last with
    | true=>
     rw [hb] at e1
     rw [if_pos rfl,zla,zdr (at41 ts),zen (at41 ts)]
     exact ⟨41,_,by decide,e1,rfl,rfl⟩
    | false=>
     rw [hb] at e1
     rw [if_neg fne,zla,zen (at42 ts)]
     exact ⟨42,_,by decide,e1,rfl,rfl⟩
   | false=>
    rw [hd,if_neg fne] at e1
    rw [Bool.false_and,if_neg fne,zmq]
    have e2:(zhh BD ⟨ts,0,pl⟩).2=⟨ts,40,(hdT ts).at_⟩:=by
     show (zcd BD true ⟨ts,0,pl⟩).2.want [59]=_
     rw [decl_none true ok hd,zaq (at40 ts)]
    refine ⟨40,_,by decide,e1,?_,?_⟩ <;> rw [e2,zit _ _ _ (at40 ts)]
/-- members -/
def znk (s:RS):Tree × RS:=(zaw 5 (zaz s).1 [(zau ((zaz s).2.want [61])).1],(zau ((zaz s).2.want [61])).2)
theorem sim_member:Sim 1 zg1 znk:=by
 refine zfc (j:=0) (Q:=fun n s=>(s.want [61]).bind fun _ s=>(zb7 s).bind fun v s=>.ok (named 5 n [v]) s) (E:=fun n s=>(zaw 5 n [(zau (s.want [61])).1],(zau (s.want [61])).2)) ?_ ?_
 · intro t ts pl ok
   refine (zay (j:=0) [61] (sp_s 61 (by decide)) ok (Q:=fun s=>(zb7 s).bind fun v s=>.ok (named 5 t [v]) s) (E:=fun s=>(zaw 5 (t.text,t.at_) [(zau s).1],(zau s).2)) (fun ts' ok' _=>?_) (fun s h=>zh0 h)).less (Nat.zero_le _)
   exact ((zim ts' pl ok').bind (j:=0) (Q:=fun v s=>.ok (named 5 t [v]) s) (E:=fun v s=>(zaw 5 (t.text,t.at_) [v],s)) (fun v ts2 ok2 _=>zfj _ ts2 pl ok2) (fun _ _ _=>rfl)).less (Nat.zero_le _)
 · intro n s h
   show (zau (s.want [61])).2=s
   rw [zaq h,zh0 h]
def zg0 (f:Nat) (acc:List Tree) (s:RS):List Tree × RS:=if s.is [125] then (acc,s.adv) else zcn f acc ((if s.is [44]&&acc.length==64 then s.fail 42 else s).want [44])
theorem zl3 (f:Nat) (acc:List Tree) (s:RS) (h:s.e≠0):(zg0 f acc s).2=s:=by
 unfold zg0
 simp only [zdn h,Bool.false_and,Bool.false_eq_true,if_false,zaq h,zd9 h]
theorem membersL_eq (f:Nat) (acc:List Tree) (ts:List Tok) (pl:Nat):zcn (f+1) acc ⟨ts,0,pl⟩=zg0 f (acc++[(znk ⟨ts,0,pl⟩).1]) (znk ⟨ts,0,pl⟩).2:=by
 rw [zcn]
 rfl
theorem sim_members:Sim 1 zcg zfa:=by
 intro ts pl ok
 refine zay (j:=0) [123] (sp_s 123 (by decide)) ok (Q:=fun s=>(zfw zg1 64 s).bind fun l s=>(s.want [125]).bind fun _ s=>.ok l s) (E:=fun s=>zcn (s.ts.length+1) [] s) (fun ts' ok' _=>?_) (fun s h=>by rw [zd9 h])
 have h:=zkr [44] (sp_s 44 (by decide)) zg1 znk sim_member 64 (fun l s=>(s.want [125]).bind fun _ s=>.ok l s) zcn zg0 (fun f acc ts pl _=>membersL_eq f acc ts pl) zl3 ?_ ?_ ?_ (by decide) (by decide) (ts'.length+1) ts' pl 66 (by decide) ok' (Nat.lt_succ_self _)
 · unfold zfw
   rw [Ans.bind_bind]
   simp only [more_eq]
   exact h.less (Nat.zero_le _)
 · intro f acc ts pl ok _ he
   unfold zg0
   rw [zcz (sp_s 125 (by decide)) ok,zcz (sp_s 44 (by decide)) ok,he,Bool.false_and,if_neg fne]
   cases hb:((hdT ts).text==[125]) with
   | true=>
    rw [if_pos rfl,show (⟨ts,0,pl⟩:RS).adv=(⟨ts,0,pl⟩:RS).want [125] from (zf4 (sp_s 125 (by decide)) ok hb).symm]
    exact (zcy [125] (sp_s 125 (by decide)) acc ok).less (Nat.zero_le _)
   | false=>
    rw [if_neg fne,zmx (sp_s 44 (by decide)) ok he,zd9 (at40 ts)]
    unfold PS.want
    rw [zcv,hb]
    exact ⟨by decide,rfl,rfl⟩
 · intro f acc ts pl ok _ hl he
   unfold zg0
   rw [zcz (sp_s 125 (by decide)) ok,zcz (sp_s 44 (by decide)) ok,he,other he (by decide),if_neg fne,show (acc.length==64)=false by simp;omega,Bool.and_false,if_neg fne,zf4 (sp_s 44 (by decide)) ok he]
 · intro f acc ts pl ok hl he
   unfold zg0
   rw [zcz (sp_s 125 (by decide)) ok,zcz (sp_s 44 (by decide)) ok,he,other he (by decide),if_neg fne,hl,show ((true:Bool)&&(64:Nat)==64)=true from rfl,if_pos rfl,zla,zaq (at42 ts),zd9 (at42 ts)]
   exact ⟨rfl,rfl⟩
/-- cases -/
def oneC (s:PS):Ans Tree:=(zb7 s).bind fun v s=>(s.want [58]).bind fun _ s=>.ok v s
def oneCD (s:RS):Tree × RS:=((zau s).1,(zau s).2.want [58])
theorem sim_oneC:Sim 1 oneC oneCD:=fun ts pl ok=>((zim ts pl ok).bind (j:=1) (Q:=fun v s=>(s.want [58]).bind fun _ s=>.ok v s) (E:=fun v s=>(v,s.want [58])) (fun v ts' ok' _=>zcy [58] (sp_s 58 (by decide)) v ok') (fun a s h=>zaq h _)).less (by omega)
theorem cases_eq:∀ (f:Nat) (acc:List Tree) (s:PS),acc≠[]->zd3 f acc s=zjd zb1 oneC 64 f acc s
 | 0,_,_,_=>rfl
 | f+1,acc,s,h=>by
  have hem:acc.isEmpty=false:=by cases acc with | nil=>exact absurd rfl h | cons _ _=>rfl
  rw [zd3,zjd,hem,Bool.false_or]
  cases hs:s.sees zb1 with
  | false=>rfl
  | true=>
   rw [if_pos rfl,if_pos rfl]
   unfold PS.want
   rw [show (s.room acc.length 64).sees zb1=true by unfold PS.room;split <;> exact hs,if_pos rfl,Ans.bind_bind]
   congr 1
   funext _ s
   show (zb7 s).bind _=(oneC s).bind _
   unfold oneC
   rw [Ans.bind_bind]
   congr 1
   funext v s
   rw [Ans.bind_bind]
   unfold PS.want
   congr 1
   funext _ s
   exact cases_eq f (acc++[v]) s (zk3 acc v)
def zli (f:Nat) (acc:List Tree) (s:RS):List Tree × RS:=if s.is zb1 then ze1 f acc ((if acc.length==64 then s.fail 42 else s).want zb1) else (acc,s)
theorem casesT_stuck (f:Nat) (acc:List Tree) (s:RS) (h:s.e≠0):zli f acc s=(acc,s):=by
 unfold zli
 rw [zdn h,if_neg fne]
theorem casesL_eq (f:Nat) (acc:List Tree) (ts:List Tok) (pl:Nat):ze1 (f+1) acc ⟨ts,0,pl⟩=zli f (acc++[(oneCD ⟨ts,0,pl⟩).1]) (oneCD ⟨ts,0,pl⟩).2:=by
 rw [ze1]
 rfl
def armCs (BD:RS->Tree × RS) (a:Nat) (r:List Tree × RS):Tree × RS:=(.node 8 [] 0 a (r.1++[(zhh BD r.2).1]),(zhh BD r.2).2)
theorem zg3 {BD:RS->Tree × RS} {s:RS} (h:s.e≠0):(zhh BD s).2=s:=by
 show (zcd BD true s).2.want [59]=s
 rw [zms h,zaq h]
theorem armD_eq (BD:RS->Tree × RS) (s:RS):armD BD s=armCs BD s.hd.at_ (ze1 ((s.want zb1).ts.length+1) [] (s.want zb1)):=rfl
theorem zgv:zfn zb1:=Or.inl (by decide)
theorem armP_eq (B:PS->Ans Tree) (s:PS):armP B s=((s.room 0 64).want zb1).bind fun _ u=>(oneC u).bind fun v u=>(zjd zb1 oneC 64 65 [v] u).bind fun l u=>(zbc B u).bind fun t u=>.ok (.node 8 [] 0 s.hd.at_ (l++[t])) u:=by
 unfold armP
 rw [zd3,show (([]:List Tree).isEmpty||s.sees zb1)=true from rfl,if_pos rfl,Ans.bind_bind]
 congr 1
 funext _ u
 unfold oneC
 rw [Ans.bind_bind,Ans.bind_bind]
 congr 1
 funext v u
 rw [Ans.bind_bind,Ans.bind_bind]
 congr 1
 funext _ u
 rw [cases_eq 65 ([]++[v]) u (zk3 [] v)]
 rfl
theorem sim_arm {B:PS->Ans Tree} {BD:RS->Tree × RS} (hB:SimB B BD) (hK:zj6 B):Sim 1 (armP B) (armD BD):=by
 intro ts pl ok
 rw [armP_eq,armD_eq,zgw (by decide),hd_P,hd_D]
 refine (zay (j:=0) zb1 zgv ok (Q:=fun u=>(oneC u).bind fun v u=>(zjd zb1 oneC 64 65 [v] u).bind fun l u=>(zbc B u).bind fun t u=>.ok (.node 8 [] 0 (hdT ts).at_ (l++[t])) u) (E:=fun s=>armCs BD (hdT ts).at_ (ze1 (s.ts.length+1) [] s)) (fun ts' ok' _=>?_) (fun s h=>by rw [zid h];exact zg3 h)).less (by omega)
 refine (zkr zb1 zgv oneC oneCD sim_oneC 64 (fun l u=>(zbc B u).bind fun t u=>.ok (.node 8 [] 0 (hdT ts).at_ (l++[t])) u) (fun f acc s=>armCs BD (hdT ts).at_ (ze1 f acc s)) (fun f acc s=>armCs BD (hdT ts).at_ (zli f acc s)) (fun f acc ts pl _=>by rw [casesL_eq]) (fun f acc s h=>by rw [casesT_stuck _ _ _ h];exact zg3 h) ?_ ?_ ?_ (by decide) (by decide) (ts'.length+1) ts' pl 65 (by decide) ok' (Nat.lt_succ_self _)).less (Nat.zero_le _)
 · intro f acc us pl ok _ he
   unfold zli
   rw [zcz zgv ok,he,if_neg fne]
   exact ((zks hB hK us pl ok).bind (j:=0) (Q:=fun t u=>.ok (Tree.node 8 [] 0 (hdT ts).at_ (acc++[t])) u) (E:=fun t u=>(Tree.node 8 [] 0 (hdT ts).at_ (acc++[t]),u)) (fun t ts2 ok2 _=>zfj _ ts2 pl ok2) (fun _ _ _=>rfl)).less (Nat.zero_le _)
 · intro f acc us pl ok _ hl he
   unfold zli
   rw [zcz zgv ok,he,if_pos rfl,show (acc.length==64)=false by simp;omega,if_neg fne,zf4 zgv ok he]
 · intro f acc us pl ok hl he
   unfold zli
   rw [zcz zgv ok,he,if_pos rfl,hl,show ((64:Nat)==64)=true from rfl,if_pos rfl,zla,zaq (at42 us),zid (at42 us)]
   unfold armCs
   simp only
   rw [zg3 (at42 us)]
   exact ⟨rfl,rfl⟩
theorem agr_up {α:Type} {k:Nat} {ts:List Tok} {pl:Nat} {r:Ans α} {q:α × RS} (h:Agr k ts.tail pl r q) (hl:ts.tail.length+1<=ts.length):Agr (1+k) ts pl r q:=by
 cases r with
 | ok a s=>exact ⟨h.1,h.2.1,by have:=h.2.2.1;omega,h.2.2.2⟩
 | no e i=>exact h
def restR (BD:RS->Tree × RS) (r:List Tree × RS):List Tree × RS:=zgl BD r.1 r.2
def armsT (BD:RS->Tree × RS) (f:Nat) (l:List Tree) (s:RS):List Tree × RS:=if s.is zb1 then zf3 BD f l (if 64<l.length then s.fail 42 else s) else (l,s)
theorem armsL_eq (BD:RS->Tree × RS) (f:Nat) (acc:List Tree) (ts:List Tok) (pl:Nat):zf3 BD (f+1) acc ⟨ts,0,pl⟩=armsT BD f (acc++[(armD BD ⟨ts,0,pl⟩).1]) (armD BD ⟨ts,0,pl⟩).2:=by
 rw [zf3]
 rfl
theorem armsT_stuck {BD:RS->Tree × RS} (f:Nat) (l:List Tree) (s:RS) (h:s.e≠0):armsT BD f l s=(l,s):=by
 unfold armsT
 rw [zdn h,if_neg fne]
theorem zi6:zfn za2:=Or.inl (by decide)
def znc (B:PS->Ans Tree) (d:Tree) (l:List Tree) (s:PS):Ans (List Tree):=
 if s.sees za2 then
  (zc0 9 s).bind fun e s=>(s.want [58]).bind fun _ s=>(zbc B s).bind fun t s=>(s.want [125]).bind fun _ s=>
   match e with
   | .node k n m i _=>.ok (d::l++[.node k n m i [t]]) s
 else (s.want [125]).bind fun _ s=>.ok (d::l) s
theorem sim_rest {B:PS->Ans Tree} {BD:RS->Tree × RS} (hB:SimB B BD) (hK:zj6 B) (d:Tree) (l:List Tree) {ts:List Tok} {pl:Nat} (ok:Okl ts):Agr 0 ts pl (znc B d l ⟨ts,false⟩) (zgl BD (d::l) ⟨ts,0,pl⟩):=by
 unfold znc zgl
 rw [zcv,zcz zi6 ok]
 cases h:((hdT ts).text==za2) with
 | true=>
  rw [if_pos rfl,if_pos rfl]
  show Agr 0 ts pl (((⟨ts.tail,false⟩:PS).want [58]).bind fun _ s=>(zbc B s).bind fun t s=>(s.want [125]).bind fun _ s=>.ok (d::l++[.node 9 [] 0 (hdT ts).at_ [t]]) s) _
  refine (agr_up (k:=1+0) ?_ (zkh (zmy zi6 h))).less (Nat.zero_le _)
  refine (zay (j:=0) [58] (sp_s 58 (by decide)) ok.tail (Q:=fun s=>(zbc B s).bind fun t s=>(s.want [125]).bind fun _ s=>.ok (d::l++[.node 9 [] 0 (hdT ts).at_ [t]]) s) (E:=fun s=>(d::l++[.node 9 [] 0 (hdT ts).at_ [(zhh BD s).1]],(zhh BD s).2.want [125])) (fun ts' ok' _=>?_) (fun s h=>by
   show (zhh BD s).2.want [125]=s
   rw [zg3 h,zaq h]))
  exact ((zks hB hK ts' pl ok').bind (j:=1) (Q:=fun t s=>(s.want [125]).bind fun _ s=>.ok (d::l++[.node 9 [] 0 (hdT ts).at_ [t]]) s) (E:=fun t s=>(d::l++[.node 9 [] 0 (hdT ts).at_ [t]],s.want [125])) (fun t ts2 ok2 _=>zcy [125] (sp_s 125 (by decide)) _ ok2) (fun _ s h=>zaq h _)).less (Nat.zero_le _)
 | false=>
  rw [if_neg fne,if_neg fne]
  exact (zcy [125] (sp_s 125 (by decide)) _ ok).less (Nat.zero_le _)
theorem full_arm (B:PS->Ans Tree) (ts:List Tok) (f:Bool):((hdT ts).text==zb1)=false->armP B ⟨ts,f⟩=.no 40 (hdT ts).at_:=fun h=>by
 rw [armP_eq,zgw (by decide)]
 unfold PS.want
 rw [zcv,h]
 rfl
theorem full_arm2 (B:PS->Ans Tree) (ts:List Tok):((hdT ts).text==zb1)=true->armP B ⟨ts,true⟩=.no 42 (hdT ts).at_:=fun h=>by
 rw [armP_eq,zgw (by decide)]
 unfold PS.want
 rw [zcv,h]
 rfl
theorem any_two (ts:List Tok):[za2,[125]].any (⟨ts,false⟩:PS).sees=((hdT ts).text==za2||(hdT ts).text==[125]):=by simp [zcv]
theorem rest_none {BD:RS->Tree × RS} {ts:List Tok} {pl:Nat} (ok:Okl ts) (l:List Tree) (he:((hdT ts).text==za2||(hdT ts).text==[125])=false):zgl BD l ⟨ts,0,pl⟩=(l,⟨ts,40,(hdT ts).at_⟩):=by
 rw [Bool.or_eq_false_iff] at he
 unfold zgl
 rw [zcz zi6 ok,he.1,if_neg fne,zmx (sp_s 125 (by decide)) ok he.2]
theorem sim_arms {B:PS->Ans Tree} {BD:RS->Tree × RS} (hB:SimB B BD) (hK:zj6 B) (d:Tree) {ts:List Tok} {pl:Nat} (ok:Okl ts):Agr 1 ts pl ((zcu (armP B) [za2,[125]] 66 [] ⟨ts,false⟩).bind fun l s=>znc B d l s) (restR BD (zf3 BD (ts.length+1) [d] ⟨ts,0,pl⟩)):=by
 refine zko (armP B) (armD BD) (sim_arm hB hK) [za2,[125]] (fun l s=>znc B d l s) (fun f acc s=>restR BD (zf3 BD f (d::acc) s)) (fun f acc s=>restR BD (armsT BD f (d::acc) s)) (fun f acc ts pl _=>by rw [armsL_eq];rfl) (fun f acc s h=>by rw [armsT_stuck _ _ _ h];exact congrArg Prod.snd (zi9 h _)) ?_ ?_ ?_ (ts.length+1) ts pl ok (Nat.lt_succ_self _)
 · intro f acc ts pl ok _ he
   rw [any_two] at he
   unfold armsT
   have hc:((hdT ts).text==zb1)=false:=by
    rw [Bool.or_eq_true] at he
    rcases he with h|h
    · exact other h (by decide)
    · exact other h (by decide)
   rw [zcz zgv ok,hc,if_neg fne]
   exact sim_rest hB hK d acc ok
 · intro f acc ts pl ok _ hl he
   rw [any_two] at he
   unfold armsT
   rw [zcz zgv ok]
   cases hc:((hdT ts).text==zb1) with
   | true=>
    left
    rw [if_pos rfl,if_neg (by simp;omega)]
   | false=>
    right
    rw [if_neg fne]
    refine ⟨40,_,by decide,full_arm B ts false hc,?_,?_⟩ <;> (unfold restR;rw [rest_none ok _ he])
 · intro f acc ts pl ok hl he
   rw [any_two] at he
   unfold armsT
   rw [zcz zgv ok]
   cases hc:((hdT ts).text==zb1) with
   | true=>
    rw [if_pos rfl,if_pos (by simp;omega),zla,zjh (at42 ts)]
    refine ⟨42,_,by decide,full_arm2 B ts hc,?_,?_⟩ <;> (unfold restR;rw [zi9 (at42 ts)])
   | false=>
    rw [if_neg fne]
    refine ⟨40,_,by decide,full_arm B ts true hc,?_,?_⟩ <;> (unfold restR;rw [rest_none ok _ he])
def choE5 (BD:RS->Tree × RS) (d:Tree) (s:RS):List Tree × RS:=restR BD (zf3 BD (s.ts.length+1) [d] s)
def choE3 (BD:RS->Tree × RS) (d:Tree) (s:RS):List Tree × RS:=choE5 BD d ((s.want [41]).want [123])
def choE2 (BD:RS->Tree × RS) (s:RS):List Tree × RS:=choE3 BD (zcd BD true s).1 (zcd BD true s).2
theorem zia {BD:RS->Tree × RS} {d:Tree} {s:RS} (h:s.e≠0):(choE5 BD d s).2=s:=by unfold choE5;rw [zjh h];exact congrArg Prod.snd (zi9 h _)
theorem zlg {BD:RS->Tree × RS} {d:Tree} {s:RS} (h:s.e≠0):(choE3 BD d s).2=s:=by unfold choE3;rw [zaq h,zaq h,zia h]
theorem zib {BD:RS->Tree × RS} {s:RS} (h:s.e≠0):(choE2 BD s).2=s:=by unfold choE2;rw [zms h,zlg h]
theorem sim_choice {B:PS->Ans Tree} {BD:RS->Tree × RS} (hB:SimB B BD) (hK:zj6 B):Sim 1 (zcw B) (zgh BD):=by
 intro ts pl ok
 refine (zay (j:=0) zgt (Or.inl (by decide)) ok (Q:=fun s=>(s.want [40]).bind fun _ s=>(za6 B s).bind fun d s=>(s.want [41]).bind fun _ s=>(s.want [123]).bind fun _ s=>(zcu (armP B) [za2,[125]] 66 [] s).bind fun l s=>znc B d l s) (E:=fun s=>choE2 BD (s.want [40])) (fun ts' ok' _=>?_) (fun s h=>by rw [zaq h,zib h]))
 refine (zay (j:=0) [40] (sp_s 40 (by decide)) ok' (Q:=fun s=>(za6 B s).bind fun d s=>(s.want [41]).bind fun _ s=>(s.want [123]).bind fun _ s=>(zcu (armP B) [za2,[125]] 66 [] s).bind fun l s=>znc B d l s) (E:=fun s=>choE2 BD s) (fun ts2 ok2 _=>?_) (fun s h=>zib h)).less (Nat.zero_le _)
 refine ((zhd hB hK ts2 pl ok2).bind (j:=0) (Q:=fun d s=>(s.want [41]).bind fun _ s=>(s.want [123]).bind fun _ s=>(zcu (armP B) [za2,[125]] 66 [] s).bind fun l s=>znc B d l s) (E:=fun d s=>choE3 BD d s) (fun d ts3 ok3 _=>?_) (fun d s h=>zlg h)).less (Nat.zero_le _)
 refine (zay (j:=0) [41] (sp_s 41 (by decide)) ok3 (Q:=fun s=>(s.want [123]).bind fun _ s=>(zcu (armP B) [za2,[125]] 66 [] s).bind fun l s=>znc B d l s) (E:=fun s=>choE5 BD d (s.want [123])) (fun ts4 ok4 _=>?_) (fun s h=>by rw [zaq h,zia h])).less (Nat.zero_le _)
 refine (zay (j:=0) [123] (sp_s 123 (by decide)) ok4 (Q:=fun s=>(zcu (armP B) [za2,[125]] 66 [] s).bind fun l s=>znc B d l s) (E:=fun s=>choE5 BD d s) (fun ts5 ok5 _=>?_) (fun s h=>zia h)).less (Nat.zero_le _)
 exact (sim_arms hB hK d ok5).less (Nat.zero_le _)
/-- bodies -/
def kP (d:Nat) (T:List UInt8) (s:PS):Ans (List Tree):=if T=zd6 then zcg s else if T=zbm then zda (zbi d false) s else zcw (zbi d false) s
theorem zlk {T:List UInt8} (h:zeh T=true):T=zd6∨T=zbm∨T=zer:=by
 unfold zeh at h
 simp only [Bool.or_eq_true,beq_iff_eq] at h
 rcases h with (h|h)|h
 · exact Or.inl h
 · exact Or.inr (Or.inl h)
 · exact Or.inr (Or.inr h)
theorem kP_bind {d:Nat} {T:List UInt8} (h:zeh T=true) (na:List UInt8 × Nat) (s:PS):(if T=zd6 then (zcg s).bind fun l s=>.ok (.node 4 na.1 0 na.2 l) s
     else if T=zbm then (zda (zbi d false) s).bind fun l s=>.ok (.node 6 na.1 0 na.2 l) s
     else (zcw (zbi d false) s).bind fun l s=>.ok (.node 7 na.1 0 na.2 l) s)=(kP d T s).bind fun l s=>Ans.ok (Tree.node (zhb T) na.1 0 na.2 l) s:=by
 unfold kP
 rcases zlk h with rfl|rfl|rfl
 · rw [if_pos rfl,if_pos rfl];rfl
 · rw [if_neg (show ¬ zbm=zd6 by decide),if_neg (show ¬ zbm=zd6 by decide),if_pos rfl,if_pos rfl];rfl
 · rw [if_neg (show ¬ zer=zd6 by decide),if_neg (show ¬ zer=zd6 by decide),if_neg (show ¬ zer=zbm by decide),if_neg (show ¬ zer=zbm by decide)];rfl
theorem body_no {d:Nat} {ts:List Tok} (h:zeh (hdT ts).text=true):zbi (d+1) false ⟨ts,false⟩=(kP d (hdT ts).text ⟨ts.tail,false⟩).bind fun l s=>.ok (.node (zhb (hdT ts).text) [] 0 (hdT ts).at_ l) s:=by
 rw [<- kP_bind (d:=d) h ([],(hdT ts).at_)]
 rw [zbi]
 rfl
theorem body_yes {d:Nat} {ts:List Tok} (h:zeh (hdT ts).text=true):zbi (d+1) true ⟨ts,false⟩=(zcr ⟨ts.tail,false⟩).bind fun n s=>(kP d (hdT ts).text s).bind fun l s=>.ok (named (zhb (hdT ts).text) n l) s:=by
 rw [zbi]
 show (((zcr ⟨ts.tail,false⟩).bind fun n s=>Ans.ok (n.text,n.at_) s).bind fun na s=>(if (hdT ts).text=zd6 then (zcg s).bind fun l s=>Ans.ok (Tree.node 4 na.1 0 na.2 l) s
     else if (hdT ts).text=zbm then (zda (zbi d false) s).bind fun l s=>Ans.ok (Tree.node 6 na.1 0 na.2 l) s
     else (zcw (zbi d false) s).bind fun l s=>Ans.ok (Tree.node 7 na.1 0 na.2 l) s))=_
 rw [Ans.bind_bind]
 congr 1
 funext n s
 exact kP_bind h (n.text,n.at_) s
theorem zlj (n:Nat) (b:Bool):zj6 (zbi n b):=by
 intro s t s' h
 cases n with
 | zero=>cases h
 | succ n=>
  rw [zbi] at h
  obtain ⟨_,_,_,h⟩:=bind_ok h
  obtain ⟨_,_,_,h⟩:=bind_ok h
  split at h
  · obtain ⟨_,_,_,h⟩:=bind_ok h
    cases h
    exact ⟨by show (4:Int)≠25;decide,by show (4:Int)≠26;decide⟩
  · split at h
    · obtain ⟨_,_,_,h⟩:=bind_ok h
      cases h
      exact ⟨by show (6:Int)≠25;decide,by show (6:Int)≠26;decide⟩
    · obtain ⟨_,_,_,h⟩:=bind_ok h
      cases h
      exact ⟨by show (7:Int)≠25;decide,by show (7:Int)≠26;decide⟩
theorem body_full (n:Nat):FullB (zbi n false) (n==0):=by
 intro ts _
 cases n with
 | zero=>rfl
 | succ n=>rfl
theorem sim_kids {d:Nat} {T:List UInt8} (h:zeh T=true) (hB:SimB (zbi d false) (zc2 d)):Sim 1 (kP d T) (zec (zc2 d) (d==0) (zhb T)):=by
 intro ts pl ok
 unfold kP zec
 rcases zlk h with rfl|rfl|rfl
 · exact sim_members ts pl ok
 · exact sim_fields hB (zlj d false) (body_full d) ts pl ok
 · exact sim_choice hB (zlj d false) ts pl ok
theorem bodied_eq {ts:List Tok} {e:Int} {pl:Nat} (ok:Okl ts) (h:zeh (hdT ts).text=true):(⟨ts,e,pl⟩:RS).bodied=zhb (hdT ts).text:=by
 unfold RS.bodied
 rw [hd_D,show (hdT ts).kind=2 from ok.hd.word (zhr h)]
 rfl
theorem zm5:∀ n,SimB (zbi n false) (zc2 n)
 | 0,ts,pl,ok,h=>zg6 (by decide) _
 | n+1,ts,pl,ok,h=>by
  rw [body_no h,zc2,bodied_eq ok h]
  refine (agr_up (k:=1) ?_ (zkh (Or.inl (word_ne (zhr h))))).less (by omega)
  exact (sim_kids h (zm5 n) ts.tail pl ok.tail).bind (j:=0) (Q:=fun l s=>.ok (Tree.node (zhb (hdT ts).text) [] 0 (hdT ts).at_ l) s) (E:=fun l s=>(Tree.node (zhb (hdT ts).text) [] 0 (hdT ts).at_ l,s)) (fun l ts2 ok2 _=>zfj _ ts2 pl ok2) (fun _ _ _=>rfl)
theorem kids_stuck {BD:RS->Tree × RS} {b:Bool} {k:Int} {s:RS} (h:s.e≠0):(zec BD b k s).2=s:=by
 unfold zec
 split
 · unfold zfa;rw [zaq h,zd9 h]
 · split
   · unfold fieldsD;rw [zaq h,zen h]
   · show (choE2 BD ((s.want zgt).want [40])).2=s
     rw [zaq h,zaq h,zib h]
theorem bind_id {α:Type} (r:Ans α):(r.bind fun a s=>.ok a s)=r:=by cases r <;> rfl
theorem zkl:zfn zde:=Or.inl (by decide)
theorem zfp:zfn zd5:=Or.inl (by decide)
theorem sim_result:Sim 1 zhe zeb:=by
 intro ts pl ok
 unfold zhe zeb
 rw [zcv,zcz zkl ok]
 cases h:((hdT ts).text==zde) with
 | true=>exact ziy 13 ok zkl h
 | false=>exact zm6 ts pl ok
def znv (f:Nat) (acc:List Tree) (s:RS):List Tree × RS:=if s.is [44] then zhu f acc ((if acc.length==4 then s.fail 42 else s).want [44]) else (acc,s)
theorem argsT_stuck (f:Nat) (acc:List Tree) (s:RS) (h:s.e≠0):(znv f acc s).2=s:=by
 unfold znv
 rw [zdn h,if_neg fne]
theorem argsL_eq (f:Nat) (acc:List Tree) (ts:List Tok) (pl:Nat):zhu (f+1) acc ⟨ts,0,pl⟩=znv f (acc++[(zed ⟨ts,0,pl⟩).1]) (zed ⟨ts,0,pl⟩).2:=by
 rw [zhu]
 rfl
theorem sim_args:Sim 1 zbs zff:=by
 intro ts pl ok
 unfold zbs zff
 rw [zcv,zcz zkl ok]
 cases h:((hdT ts).text==zde) with
 | true=>exact zjk _ ok (zmy zkl h)
 | false=>
  rw [if_neg fne,if_neg fne]
  have h2:=zkr [44] (sp_s 44 (by decide)) zei zed zm6 4 (fun l s=>.ok l s) zhu znv (fun f acc ts pl _=>argsL_eq f acc ts pl) argsT_stuck ?_ ?_ ?_ (by decide) (by decide) (ts.length+1) ts pl 66 (by decide) ok (Nat.lt_succ_self _)
  · unfold zfw
    simp only [more_eq]
    simp only [bind_id] at h2
    exact h2
  · intro f acc ts pl ok _ he
    unfold znv
    rw [zcz (sp_s 44 (by decide)) ok,he,if_neg fne]
    exact zfj acc ts pl ok
  · intro f acc ts pl ok _ hl he
    unfold znv
    rw [zcz (sp_s 44 (by decide)) ok,he,if_pos rfl,show (acc.length==4)=false by simp;omega,if_neg fne,zf4 (sp_s 44 (by decide)) ok he]
  · intro f acc ts pl ok hl he
    unfold znv
    rw [zcz (sp_s 44 (by decide)) ok,he,if_pos rfl,hl,show ((4:Nat)==4)=true from rfl,if_pos rfl,zla,zaq (at42 ts),zji (at42 ts)]
    exact ⟨rfl,rfl⟩
theorem zls {s:RS} (h:s.e≠0):(zff s).2=s:=by unfold zff;rw [zdn h,if_neg fne,zji h]
def pE3 (r:Tree) (n:List UInt8 × Nat) (l:List Tree) (s:RS):Tree × RS:=(zaw 12 n ((zav true s).1::r::l),(zav true s).2.want [59])
def pE2 (r:Tree) (n:List UInt8 × Nat) (l:List Tree) (s:RS):Tree × RS:=pE3 r n l ((s.want [41]).want [61])
def pE1 (r:Tree) (n:List UInt8 × Nat) (s:RS):Tree × RS:=pE2 r n (zff (s.want [40])).1 (zff (s.want [40])).2
def pE0 (r:Tree) (s:RS):Tree × RS:=pE1 r (zaz s).1 (zaz s).2
theorem zkz {r:Tree} {n:List UInt8 × Nat} {l:List Tree} {s:RS} (h:s.e≠0):(pE3 r n l s).2=s:=by
 show (zav true s).2.want [59]=s
 rw [zd1 h,zaq h]
theorem zk0 {r:Tree} {n:List UInt8 × Nat} {l:List Tree} {s:RS} (h:s.e≠0):(pE2 r n l s).2=s:=by unfold pE2;rw [zaq h,zaq h,zkz h]
theorem pE1_stuck {r:Tree} {n:List UInt8 × Nat} {s:RS} (h:s.e≠0):(pE1 r n s).2=s:=by unfold pE1;rw [zaq h,zls h,zk0 h]
theorem pE0_stuck {r:Tree} {s:RS} (h:s.e≠0):(pE0 r s).2=s:=by unfold pE0;rw [zgn h,pE1_stuck h]
theorem proc_eq (s:RS):zg9 s=pE0 (zeb s).1 (zeb s).2:=rfl
theorem sim_proc:Sim 1 zcq zg9:=by
 intro ts pl ok
 rw [proc_eq]
 refine ((sim_result ts pl ok).bind (j:=1) (Q:=fun r s=>(zcr s).bind fun n s=>(s.want [40]).bind fun _ s=>(zbs s).bind fun l s=>(s.want [41]).bind fun _ s=>(s.want [61]).bind fun _ s=>
   (zbb s).bind fun v s=>(s.want [59]).bind fun _ s=>.ok (named 12 n (v::r::l)) s) (E:=fun r s=>pE0 r s) (fun r ts2 ok2 _=>?_) (fun r s h=>pE0_stuck h)).less (by omega)
 refine zfc (j:=0) (Q:=fun n s=>(s.want [40]).bind fun _ s=>(zbs s).bind fun l s=>(s.want [41]).bind fun _ s=>(s.want [61]).bind fun _ s=>
   (zbb s).bind fun v s=>(s.want [59]).bind fun _ s=>.ok (named 12 n (v::r::l)) s) (E:=fun n s=>pE1 r n s) (fun n ts3 pl ok3=>?_) (fun n s h=>pE1_stuck h) ts2 pl ok2
 refine (zay (j:=0) [40] (sp_s 40 (by decide)) ok3 (Q:=fun s=>(zbs s).bind fun l s=>(s.want [41]).bind fun _ s=>(s.want [61]).bind fun _ s=>
   (zbb s).bind fun v s=>(s.want [59]).bind fun _ s=>.ok (named 12 n (v::r::l)) s) (E:=fun s=>pE2 r (n.text,n.at_) (zff s).1 (zff s).2) (fun ts4 ok4 _=>?_) (fun s h=>by rw [zls h,zk0 h])).less (Nat.zero_le _)
 refine ((sim_args ts4 pl ok4).bind (j:=0) (Q:=fun l s=>(s.want [41]).bind fun _ s=>(s.want [61]).bind fun _ s=>
   (zbb s).bind fun v s=>(s.want [59]).bind fun _ s=>.ok (named 12 n (v::r::l)) s) (E:=fun l s=>pE2 r (n.text,n.at_) l s) (fun l ts5 ok5 _=>?_) (fun l s h=>zk0 h)).less (Nat.zero_le _)
 refine (zay (j:=0) [41] (sp_s 41 (by decide)) ok5 (Q:=fun s=>(s.want [61]).bind fun _ s=>
   (zbb s).bind fun v s=>(s.want [59]).bind fun _ s=>.ok (named 12 n (v::r::l)) s) (E:=fun s=>pE3 r (n.text,n.at_) l (s.want [61])) (fun ts6 ok6 _=>?_) (fun s h=>by rw [zaq h,zkz h])).less (Nat.zero_le _)
 refine (zay (j:=0) [61] (sp_s 61 (by decide)) ok6 (Q:=fun s=>
   (zbb s).bind fun v s=>(s.want [59]).bind fun _ s=>.ok (named 12 n (v::r::l)) s) (E:=fun s=>pE3 r (n.text,n.at_) l s) (fun ts7 ok7 _=>?_) (fun s h=>zkz h)).less (Nat.zero_le _)
 exact ((zkq ts7 pl ok7).bind (j:=1) (Q:=fun v s=>(s.want [59]).bind fun _ s=>.ok (named 12 n (v::r::l)) s) (E:=fun v s=>(zaw 12 (n.text,n.at_) (v::r::l),s.want [59])) (fun v ts8 ok8 _=>zcy [59] (sp_s 59 (by decide)) _ ok8) (fun v s h=>zaq h _)).less (Nat.zero_le _)
def zh2 (s:RS):Bool:=s.begins||s.is zde
theorem full_proc {ts:List Tok} (ok:Okl ts) (pl:Nat):zcq ⟨ts,true⟩=.no (if zh2 ⟨ts,0,pl⟩ then 42 else 40) (hdT ts).at_:=by
 unfold zcq zhe zh2
 rw [zcv,zcz zkl ok]
 cases h:((hdT ts).text==zde) with
 | true=>
  rw [if_pos rfl,Bool.or_true,if_pos rfl]
  rfl
 | false=>
  rw [if_neg fne,full_bare ok pl,Bool.or_false]
  rfl
theorem none_proc {ts:List Tok} {pl:Nat} (h:zh2 ⟨ts,0,pl⟩=false):(zg9 ⟨ts,0,pl⟩).2=⟨ts,40,(hdT ts).at_⟩:=by
 unfold zh2 at h
 rw [Bool.or_eq_false_iff] at h
 have e:(zeb ⟨ts,0,pl⟩).2=⟨ts,40,(hdT ts).at_⟩:=by
  unfold zeb
  rw [h.2,if_neg fne,bare_none h.1]
 rw [proc_eq,e,pE0_stuck (at40 ts)]
/-- what has a number behind it: programs and versions -/
def numC (k:Int) (n:List UInt8 × Nat) (l:List Tree × RS):Tree × RS:=(zaw k n ((zav true (l.2.want [61])).1::l.1),(zav true (l.2.want [61])).2)
theorem zgm {k:Int} {n:List UInt8 × Nat} {l:List Tree × RS} (h:l.2.e≠0):(numC k n l).2=l.2:=by
 show (zav true (l.2.want [61])).2=l.2
 rw [zaq h,zd1 h]
def numE (k:Int) (L0:Nat->List Tree->RS->List Tree × RS) (n:List UInt8 × Nat) (s:RS):Tree × RS:=numC k n (L0 (s.ts.length+1) [] s)
def numD (k:Int) (L0:Nat->List Tree->RS->List Tree × RS) (s:RS):Tree × RS:=numE k L0 (zaz s).1 ((zaz s).2.want [123])
def numT (k:Int) (part:PS->Ans Tree) (s:PS):Ans Tree:=(zcr s).bind fun n s=>(s.want [123]).bind fun _ s=>(zcu part [[125]] 66 [] s).bind fun l s=>
  (s.want [125]).bind fun _ s=>(s.want [61]).bind fun _ s=>(zbb s).bind fun v s=>.ok (named k n (v::l)) s
def partT (L0:Nat->List Tree->RS->List Tree × RS) (m:RS->Bool) (f:Nat) (acc:List Tree) (s:RS):List Tree × RS:=if s.is [125] then (acc,s.adv) else L0 f acc (if m s&&acc.length==64 then s.fail 42 else s)
theorem zkx (L0:Nat->List Tree->RS->List Tree × RS) (m:RS->Bool) (stL:∀ f acc s,s.e≠0->L0 f acc s=(acc,s)) (f:Nat) (acc:List Tree) (s:RS) (h:s.e≠0):partT L0 m f acc s=(acc,s):=by
 unfold partT
 rw [zdn h,if_neg fne,zdr h,ite_self,stL _ _ _ h]
theorem zjb (k:Int) (L0:Nat->List Tree->RS->List Tree × RS) (stL:∀ f acc s,s.e≠0->L0 f acc s=(acc,s)) {n:List UInt8 × Nat} {s:RS} (h:s.e≠0):(numE k L0 n s).2=s:=by
 unfold numE
 rw [stL _ _ _ h]
 exact zgm (l:=([],s)) h
theorem numD_stuck (k:Int) (L0:Nat->List Tree->RS->List Tree × RS) (stL:∀ f acc s,s.e≠0->L0 f acc s=(acc,s)) {s:RS} (h:s.e≠0):(numD k L0 s).2=s:=by
 unfold numD
 rw [zgn h,zaq h,zjb k L0 stL h]
theorem zjm (k:Int) (part:PS->Ans Tree) (partD:RS->Tree × RS) (h1:Sim 1 part partD) (L0:Nat->List Tree->RS->List Tree × RS) (m:RS->Bool) (hL0:∀ f acc ts pl,L0 (f+1) acc ⟨ts,0,pl⟩=partT L0 m f (acc++[(partD ⟨ts,0,pl⟩).1]) (partD ⟨ts,0,pl⟩).2) (stL:∀ f acc s,s.e≠0->L0 f acc s=(acc,s)) (hfull:∀ ts pl,Okl ts->part ⟨ts,true⟩=.no (if m ⟨ts,0,pl⟩ then 42 else 40) (hdT ts).at_) (hnone:∀ ts pl,Okl ts->m ⟨ts,0,pl⟩=false->(partD ⟨ts,0,pl⟩).2=⟨ts,40,(hdT ts).at_⟩):Sim 1 (numT k part) (numD k L0):=by
 refine zfc (j:=0) (Q:=fun n s=>(s.want [123]).bind fun _ s=>(zcu part [[125]] 66 [] s).bind fun l s=>
  (s.want [125]).bind fun _ s=>(s.want [61]).bind fun _ s=>(zbb s).bind fun v s=>.ok (named k n (v::l)) s) (E:=fun n s=>numE k L0 n (s.want [123])) (fun n ts pl ok=>?_) (fun n s h=>by rw [zaq h,zjb k L0 stL h])
 refine (zay (j:=0) [123] (sp_s 123 (by decide)) ok (Q:=fun s=>(zcu part [[125]] 66 [] s).bind fun l s=>
  (s.want [125]).bind fun _ s=>(s.want [61]).bind fun _ s=>(zbb s).bind fun v s=>.ok (named k n (v::l)) s) (E:=fun s=>numE k L0 (n.text,n.at_) s) (fun ts2 ok2 _=>?_) (fun s h=>zjb k L0 stL h)).less (Nat.zero_le _)
 refine (zko part partD h1 [[125]] (fun l s=>(s.want [125]).bind fun _ s=>(s.want [61]).bind fun _ s=>(zbb s).bind fun v s=>.ok (named k n (v::l)) s) (fun f acc s=>numC k (n.text,n.at_) (L0 f acc s)) (fun f acc s=>numC k (n.text,n.at_) (partT L0 m f acc s)) (fun f acc ts pl _=>by rw [hL0]) (fun f acc s h=>by rw [zkx L0 m stL _ _ _ h];exact zgm (l:=(acc,s)) h) ?_ ?_ ?_ (ts2.length+1) ts2 pl ok2 (Nat.lt_succ_self _)).less (Nat.zero_le _)
 · intro f acc ts pl ok _ he
   rw [zjj] at he
   unfold partT
   rw [zcz (sp_s 125 (by decide)) ok,he,if_pos rfl,show (⟨ts,0,pl⟩:RS).adv=(⟨ts,0,pl⟩:RS).want [125] from (zf4 (sp_s 125 (by decide)) ok he).symm]
   refine (zay (j:=0) [125] (sp_s 125 (by decide)) ok (Q:=fun s=>(s.want [61]).bind fun _ s=>(zbb s).bind fun v s=>.ok (named k n (v::acc)) s) (E:=fun s=>numC k (n.text,n.at_) (acc,s)) (fun ts3 ok3 _=>?_) (fun s h=>zgm (l:=(acc,s)) h)).less (Nat.zero_le _)
   refine (zay (j:=0) [61] (sp_s 61 (by decide)) ok3 (Q:=fun s=>(zbb s).bind fun v s=>.ok (named k n (v::acc)) s) (E:=fun s=>(zaw k (n.text,n.at_) ((zav true s).1::acc),(zav true s).2)) (fun ts4 ok4 _=>?_) (fun s h=>by rw [zd1 h])).less (Nat.zero_le _)
   exact ((zkq ts4 pl ok4).bind (j:=0) (Q:=fun v s=>.ok (named k n (v::acc)) s) (E:=fun v s=>(zaw k (n.text,n.at_) (v::acc),s)) (fun v ts5 ok5 _=>zfj _ ts5 pl ok5) (fun _ _ _=>rfl)).less (Nat.zero_le _)
 · intro f acc ts pl ok _ hl he
   rw [zjj] at he
   left
   unfold partT
   rw [zcz (sp_s 125 (by decide)) ok,he,if_neg fne,show (acc.length==64)=false by simp;omega,Bool.and_false,if_neg fne]
 · intro f acc ts pl ok hl he
   rw [zjj] at he
   have e1:=hfull ts pl ok
   unfold partT
   rw [zcz (sp_s 125 (by decide)) ok,he,if_neg fne,hl]
   cases hm:m ⟨ts,0,pl⟩ with
   | true=>
    rw [hm,if_pos rfl] at e1
    rw [show ((true:Bool)&&(64:Nat)==64)=true from rfl,if_pos rfl,zla,stL _ _ _ (at42 ts)]
    refine ⟨42,_,by decide,e1,?_,?_⟩ <;> rw [zgm (at42 ts)]
   | false=>
    rw [hm,if_neg fne] at e1
    rw [Bool.false_and,if_neg fne,hL0,hnone ts pl ok hm,zkx L0 m stL _ _ _ (at40 ts)]
    refine ⟨40,_,by decide,e1,?_,?_⟩ <;> rw [zgm (at40 ts)]
theorem procsL_eq (f:Nat) (acc:List Tree) (ts:List Tok) (pl:Nat):zb8 (f+1) acc ⟨ts,0,pl⟩=partT zb8 zh2 f (acc++[(zg9 ⟨ts,0,pl⟩).1]) (zg9 ⟨ts,0,pl⟩).2:=by
 rw [zb8]
 rfl
theorem sim_procs (k:Int):Sim 1 (numT k zcq) (numD k zb8):=zjm k zcq zg9 sim_proc zb8 zh2 procsL_eq (fun _ _ _ h=>zh1 h _ _) (fun _ pl ok=>full_proc ok pl) (fun _ _ _ h=>none_proc h)
theorem zk1 (k:Int) (part:PS->Ans Tree) (ts:List Tok):zex k part ⟨ts,false⟩=numT k part ⟨ts.tail,false⟩:=rfl
def verE (s:RS):Tree × RS:=((numD 11 zb8 s).1,(numD 11 zb8 s).2.want [59])
theorem zl9 (s:RS):zc4 s=verE (s.want zd5):=by
 unfold zc4 verE numD numE numC
 rfl
theorem zma {s:RS} (h:s.e≠0):(verE s).2=s:=by
 show (numD 11 zb8 s).2.want [59]=s
 rw [numD_stuck 11 zb8 (fun _ _ _ h=>zh1 h _ _) h,zaq h]
theorem sim_version:Sim 1 zd7 zc4:=by
 intro ts pl ok
 rw [zl9]
 unfold zd7
 rw [zcv]
 cases h:((hdT ts).text==zd5) with
 | true=>
  rw [if_pos rfl,zf4 zfp ok h,zk1]
  refine (agr_up (k:=0) ?_ (zkh (zmy zfp h))).less (by omega)
  exact ((sim_procs 11 ts.tail pl ok.tail).bind (j:=1) (Q:=fun t s=>(s.want [59]).bind fun _ s=>.ok t s) (E:=fun t s=>(t,s.want [59])) (fun t ts2 ok2 _=>zcy [59] (sp_s 59 (by decide)) t ok2) (fun _ s h=>zaq h _)).less (Nat.zero_le _)
 | false=>
  rw [if_neg fne,zmx zfp ok h]
  refine ⟨by decide,?_,?_⟩ <;> rw [zma (at40 ts)]
  rfl
def versM (s:RS):Bool:=s.is zd5
theorem versionsL_eq (f:Nat) (acc:List Tree) (ts:List Tok) (pl:Nat):zbk (f+1) acc ⟨ts,0,pl⟩=partT zbk versM f (acc++[(zc4 ⟨ts,0,pl⟩).1]) (zc4 ⟨ts,0,pl⟩).2:=by
 rw [zbk]
 rfl
theorem sim_program (k:Int):Sim 1 (numT k zd7) (numD k zbk):=zjm k zd7 zc4 sim_version zbk versM versionsL_eq (fun _ _ _ h=>zhw h _ _) (fun ts pl ok=>by
  unfold zd7 versM
  rw [zcv,zcz zfp ok]
  cases (hdT ts).text==zd5 <;> rfl) (fun ts pl ok h=>by
  unfold versM at h
  rw [zcz zfp ok] at h
  rw [zl9,zmx zfp ok h,zma (at40 ts)])
/-- definitions -/
theorem zj8:zfn zdt:=Or.inl (by decide)
theorem zi4:zfn zc3:=Or.inl (by decide)
theorem zi5:zfn zdc:=Or.inl (by decide)
theorem zhx (ts:List Tok) (f:Bool):zcj ⟨ts,f⟩=(if (hdT ts).text==zdt then ((⟨ts,f⟩:PS).want zdt).bind fun _ s=>(zcr s).bind fun n s=>(s.want [61]).bind fun _ s=>(zek s).bind fun v s=>.ok (named 2 n [v]) s
 else if (hdT ts).text==zc3 then (⟨ts,f⟩:PS).take.bind fun t s=>(zco (zbi 8 false) s).bind fun d s=>.ok (.node 3 [] 0 t.at_ [d]) s
 else if zeh (hdT ts).text then zbi 8 true ⟨ts,f⟩
 else if (hdT ts).text==zdc then zex 10 zd7 ⟨ts,f⟩
 else (⟨ts,f⟩:PS).bad 40):=rfl
theorem defD_eq {ts:List Tok} {pl:Nat} (ok:Okl ts):defD ⟨ts,0,pl⟩=(if zeh (hdT ts).text then (zaw (⟨ts,0,pl⟩:RS).bodied (zaz ⟨ts.tail,0,pl⟩).1 (zec (zc2 7) false (⟨ts,0,pl⟩:RS).bodied (zaz ⟨ts.tail,0,pl⟩).2).1,(zec (zc2 7) false (⟨ts,0,pl⟩:RS).bodied (zaz ⟨ts.tail,0,pl⟩).2).2)
 else if (hdT ts).text==zdt then (zaw 2 (zaz ⟨ts.tail,0,pl⟩).1 [(zav false ((zaz ⟨ts.tail,0,pl⟩).2.want [61])).1],(zav false ((zaz ⟨ts.tail,0,pl⟩).2.want [61])).2)
 else if (hdT ts).text==zc3 then (.node 3 [] 0 (hdT ts).at_ [(zcd (zc2 8) false ⟨ts.tail,0,pl⟩).1],(zcd (zc2 8) false ⟨ts.tail,0,pl⟩).2)
 else if (hdT ts).text==zdc then numD 10 zbk ⟨ts.tail,0,pl⟩ else (zjc,⟨ts,40,(hdT ts).at_⟩)):=by
 unfold defD
 rw [zgo ok,zcz zj8 ok,zcz zi4 ok,zcz zi5 ok]
 rfl
theorem body_not {t x:List UInt8} (h:(t==x)=true) (hx:zeh x=false):zeh t=false:=by rw [eq_of_beq h];exact hx
theorem zl0:Sim 1 zcj defD:=by
 intro ts pl ok
 rw [zhx,defD_eq ok]
 cases hc:((hdT ts).text==zdt) with
 | true=>
  rw [body_not hc (by decide),if_pos rfl,if_neg fne,if_pos rfl,<- zf4 (pl:=pl) zj8 ok hc]
  refine (zay (j:=0) zdt zj8 ok (Q:=fun s=>(zcr s).bind fun n s=>(s.want [61]).bind fun _ s=>(zek s).bind fun v s=>.ok (named 2 n [v]) s) (E:=fun s=>(zaw 2 (zaz s).1 [(zav false ((zaz s).2.want [61])).1],(zav false ((zaz s).2.want [61])).2)) (fun ts2 ok2 _=>?_) (fun s h=>by rw [zgn h,zaq h,zd1 h]))
  refine (zfc (j:=0) (Q:=fun n s=>(s.want [61]).bind fun _ s=>(zek s).bind fun v s=>.ok (named 2 n [v]) s) (E:=fun n s=>(zaw 2 n [(zav false (s.want [61])).1],(zav false (s.want [61])).2)) (fun n ts3 pl ok3=>?_) (fun n s h=>by rw [zaq h,zd1 h]) ts2 pl ok2).less (Nat.zero_le _)
  refine (zay (j:=0) [61] (sp_s 61 (by decide)) ok3 (Q:=fun s=>(zek s).bind fun v s=>.ok (named 2 n [v]) s) (E:=fun s=>(zaw 2 (n.text,n.at_) [(zav false s).1],(zav false s).2)) (fun ts4 ok4 _=>?_) (fun s h=>by rw [zd1 h])).less (Nat.zero_le _)
  exact ((zi7 ts4 pl ok4).bind (j:=0) (Q:=fun v s=>.ok (named 2 n [v]) s) (E:=fun v s=>(zaw 2 (n.text,n.at_) [v],s)) (fun v ts5 ok5 _=>zfj _ ts5 pl ok5) (fun _ _ _=>rfl)).less (Nat.zero_le _)
 | false=>
  rw [if_neg fne]
  cases ht:((hdT ts).text==zc3) with
  | true=>
   rw [body_not ht (by decide),if_pos rfl,if_neg fne,if_neg fne,if_pos rfl]
   refine (zgd (k:=0) (Q:=fun t s=>(zco (zbi 8 false) s).bind fun d s=>.ok (Tree.node 3 [] 0 t.at_ [d]) s) ok (zkh (zmy zi4 ht)) (fun ok2=>?_))
   exact ((zin (zm5 8) (zlj 8 false) ts.tail pl ok2).bind (j:=0) (Q:=fun d s=>.ok (Tree.node 3 [] 0 (hdT ts).at_ [d]) s) (E:=fun d s=>(Tree.node 3 [] 0 (hdT ts).at_ [d],s)) (fun v ts5 ok5 _=>zfj _ ts5 pl ok5) (fun _ _ _=>rfl)).less (Nat.zero_le _)
  | false=>
   rw [if_neg fne]
   cases hb:zeh (hdT ts).text with
   | true=>
    rw [if_pos rfl,if_pos rfl,body_yes hb,bodied_eq ok hb]
    refine (agr_up (k:=0) ?_ (zkh (Or.inl (word_ne (zhr hb)))))
    refine (zfc (j:=0) (Q:=fun n s=>(kP 7 (hdT ts).text s).bind fun l s=>.ok (named (zhb (hdT ts).text) n l) s) (E:=fun n s=>(zaw (zhb (hdT ts).text) n (zec (zc2 7) false (zhb (hdT ts).text) s).1,(zec (zc2 7) false (zhb (hdT ts).text) s).2)) (fun n ts3 pl ok3=>?_) (fun n s h=>kids_stuck h) ts.tail pl ok.tail).less (Nat.zero_le _)
    exact ((sim_kids hb (zm5 7) ts3 pl ok3).bind (j:=0) (Q:=fun l s=>.ok (named (zhb (hdT ts).text) n l) s) (E:=fun l s=>(zaw (zhb (hdT ts).text) (n.text,n.at_) l,s)) (fun v ts5 ok5 _=>zfj _ ts5 pl ok5) (fun _ _ _=>rfl)).less (Nat.zero_le _)
   | false=>
    rw [if_neg fne,if_neg fne,if_neg fne,if_neg fne]
    cases hp:((hdT ts).text==zdc) with
    | true=>
     rw [if_pos rfl,if_pos rfl,zk1]
     exact (agr_up (sim_program 10 ts.tail pl ok.tail) (zkh (zmy zi5 hp))).less (by omega)
    | false=>exact zg6 (by decide) _
theorem zmr {ts:List Tok} {pl:Nat} (ok:Okl ts):(⟨ts,0,pl⟩:RS).defines=(zeh (hdT ts).text||((hdT ts).text==zdt||((hdT ts).text==zc3||(hdT ts).text==zdc))):=by
 unfold RS.defines
 rw [zgo ok,zcz zj8 ok,zcz zi4 ok,zcz zi5 ok]
theorem zk8 {ts:List Tok} (ok:Okl ts) (pl:Nat):zcj ⟨ts,true⟩=.no (if (⟨ts,0,pl⟩:RS).defines then 42 else 40) (hdT ts).at_:=by
 rw [zhx,zmr ok]
 cases hc:((hdT ts).text==zdt) with
 | true=>
  rw [if_pos rfl,Bool.true_or,Bool.or_true,if_pos rfl]
  unfold PS.want
  rw [zcv,hc]
  rfl
 | false=>
  rw [if_neg fne]
  cases ht:((hdT ts).text==zc3) with
  | true=>rw [if_pos rfl,Bool.true_or,Bool.or_true,Bool.or_true,if_pos rfl];rfl
  | false=>
   rw [if_neg fne]
   cases hb:zeh (hdT ts).text with
   | true=>rw [if_pos rfl,Bool.true_or,if_pos rfl];rfl
   | false=>
    rw [if_neg fne]
    cases (hdT ts).text==zdc <;> rfl
theorem def_none {ts:List Tok} {pl:Nat} (ok:Okl ts) (h:(⟨ts,0,pl⟩:RS).defines=false):(zax ⟨ts,0,pl⟩).2=⟨ts,40,(hdT ts).at_⟩:=by
 rw [zmr ok] at h
 simp only [Bool.or_eq_false_iff] at h
 unfold zax
 rw [defD_eq ok,h.1,h.2.1,h.2.2.1,h.2.2.2,if_neg fne,if_neg fne,if_neg fne,if_neg fne]
 exact zaq (at40 ts) [59]
theorem def_stuck {f:Nat} {acc:List Tree} {t:Tree} {s:RS} (h:s.e≠0):(zc9 f (acc++[t]) (s.want [59])).2=s:=by rw [zaq h,zf7 h]
theorem zmd:∀ (f:Nat) (acc:List Tree) (g:Nat) (ts:List Tok) (pl:Nat),Okl ts->acc.length<=100->acc.length+f=102->ts.length<g->Agr 0 ts pl (zc8 f acc ⟨ts,false⟩) (zc9 g acc ⟨ts,0,pl⟩)
 | 0,acc,_,_,_,_,h1,h2,_=>by omega
 | f+1,acc,g,ts,pl,ok,h1,h2,hg=>by
  obtain ⟨g,rfl⟩:∃ g' : Nat,g=g'+1:=⟨g-1,by omega⟩
  rw [zc8,zc9,hd_P,hd_D]
  by_cases hk:(hdT ts).kind=5
  · rw [if_pos hk,hk]
    exact zfj acc ts pl ok
  · rw [if_neg hk,show ((0:Int)==0&&(hdT ts).kind != 5)=true by simp [hk],if_pos rfl]
    by_cases h6:acc.length=100
    · rw [h6,zir,zk8 ok pl]
      cases hd:(⟨ts,0,pl⟩:RS).defines with
      | true=>exact ⟨by decide,rfl,rfl⟩
      | false=>
       rw [Bool.false_and,if_neg fne,if_neg fne,def_none ok hd,zf7 (at40 ts)]
       exact ⟨by decide,rfl,rfl⟩
    · rw [zgw h6,show (acc.length==100)=false by simp [h6],Bool.and_false,if_neg fne]
      refine ((zl0 ts pl ok).bind (j:=0) (Q:=fun t s=>(s.want [59]).bind fun _ s=>zc8 f (acc++[t]) s) (E:=fun t s=>zc9 g (acc++[t]) (s.want [59])) (fun t ts2 ok2 hlt=>?_) (fun t s h=>def_stuck h)).less (Nat.zero_le _)
      refine (zay (j:=0) [59] (sp_s 59 (by decide)) ok2 (Q:=fun s=>zc8 f (acc++[t]) s) (E:=fun s=>zc9 g (acc++[t]) s) (fun ts3 ok3 hl3=>?_) (fun s h=>by rw [zf7 h])).less (Nat.zero_le _)
      exact zmd f (acc++[t]) g ts3 pl ok3 (by simp;omega) (by simp;omega) (by omega)
/-- tokens of a source -/
theorem word_len {x:List UInt8} (h:zba x=true):3<=x.length:=by
 have h1:∀ y∈zhv,3<=y.length:=by decide
 exact h1 x (by simpa [zba] using h)
theorem step_okt {l:List UInt8} {i j:Nat} {t:Tok} (hi:i<l.length) (hs:zct l i=.go (some t) j):Okt t:=by
 unfold zct at hs
 split at hs
 · cases hs
 · split at hs
   · split at hs <;> cases hs
   · split at hs
     · next hl=>
       split at hs
       · cases hs
       · cases hs
         refine ⟨fun h=>?_,fun c hc h=>?_,fun h=>?_,fun h=>?_⟩
         · have h:zba (sub l i (zat l i))=true:=h
           show (if zba (sub l i (zat l i))=true then (2:Int) else 1)=2
           rw [if_pos h]
         · have h:sub l i (zat l i)=[c]:=h
           have hgo:i<zat l i:=by
            rw [zeu (zh6 hl).2.2.2.2.2]
            have:=(zfv (l:=l) (i:=i+1) (by omega)).1
            omega
           have hc2:(sub l i (zat l i)).getD 0 0=l.getD i 0:=by
            unfold sub
            rw [List.getD_eq_getElem?_getD,List.getD_eq_getElem?_getD,List.getElem?_take,if_pos (by omega),List.getElem?_drop,Nat.add_zero]
           rw [h] at hc2
           have hc3:c=l.getD i 0:=hc2
           rw [hc3,(zh6 hl).2.2.2.2.1] at hc
           exact absurd hc (by decide)
         · show zba (sub l i (zat l i))=false
           have h:(if zba (sub l i (zat l i))=true then (2:Int) else 1)=1:=h
           cases hw:zba (sub l i (zat l i)) with
           | false=>rfl
           | true=>rw [hw] at h;exact absurd h (by decide)
         · have h:(if zba (sub l i (zat l i))=true then (2:Int) else 1)=3:=h
           split at h <;> exact absurd h (by decide)
     · split at hs
       · split at hs
         · cases hs
         · cases hs
           exact ⟨fun h=>absurd (show zba []=true from h) (by decide),fun c _ h=>absurd h (by simp),fun h=>absurd (show (3:Int)=1 from h) (by decide),fun _=>rfl⟩
       · split at hs
         · next hsg=>
           cases hs
           have e:sub l i (i+1)=[l.getD i 0]:=by
            unfold sub
            rw [zeg hi,show i+1-i=1 by omega]
            rfl
           refine ⟨fun h=>?_,fun _ _ _=>rfl,fun h=>absurd (show (4:Int)=1 from h) (by decide),fun h=>absurd (show (4:Int)=3 from h) (by decide)⟩
           have h:zba (sub l i (i+1))=true:=h
           rw [e] at h
           have:=word_len h
           simp at this
         · cases hs
theorem scans_okt {l:List UInt8} {i:Nat} {ts:List Tok} {R:Res} (h:Scans l i ts R):∀ us,R=.ok us->Okl ts->Okl us:=by
 induction h with
 | done h=>
  intro us e ok
  cases e
  intro t ht
  rcases List.mem_append.1 ht with h1|h1
  · exact ok t h1
  · rw [List.mem_singleton] at h1
    subst h1
    exact ⟨fun h=>absurd (show zba []=true from h) (by decide),fun c _ h=>absurd h (by simp),fun h=>absurd (show (5:Int)=1 from h) (by decide),fun _=>rfl⟩
 | err h hs=>intro us e;cases e
 | go h hs hr ih=>
  intro us e ok
  refine ih us e (fun t ht=>?_)
  rcases List.mem_append.1 ht with h1|h1
  · exact ok t h1
  · rename_i o _ _
    cases o with
    | none=>cases h1
    | some x=>
     rw [show t=x by simpa using h1]
     exact step_okt h hs
theorem scan_okl {l:List UInt8} {ts:List Tok} (h:zeq l=.ok ts):Okl ts:=by
 have hl:l.length<=16000:=by
  unfold zeq at h
  split at h
  · cases h
  · omega
 have hs:=zfu hl
 rw [h] at hs
 exact scans_okt hs ts rfl (fun t ht=>by cases ht)
/-- BOTH PARSERS SAY THE SAME OF EVERY SOURCE -/
theorem parse_same (l:List UInt8):parseD l=zjn l:=by
 unfold parseD zjn
 cases hs:zeq l with
 | err e i=>rfl
 | ok ts=>
  have h:=zmd 102 [] (ts.length+1) ts 0 (scan_okl hs) (by simp) (by simp) (Nat.lt_succ_self _)
  simp only
  cases hr:zc8 102 [] ⟨ts,false⟩ with
  | ok ks s=>
   rw [hr] at h
   rw [h.2.2.2]
   rfl
  | no e i=>
   rw [hr] at h
   obtain ⟨h1,h2,h3⟩:=h
   rw [h2,h3,show (e==0)=false by simp [h1],if_neg fne]
end Go.Proofs.YtighggeokiahfaaGreatDoor.Dm
namespace Go.Proofs.YtighggeokiahfaaGreatDoor.Dm
open Go.RowKit
/-- what an append of a list leaves -/
structure Apps (A:Nat->Prop) (w w' : World) (acc ks:List Tree) (sl:Value) (g N cap:Nat):Prop where
 list:zab A w' (acc++ks) (.slice (some ⟨g,0,none⟩) N cap)
 grow:w.grownBy w' sl.ownBlock
theorem zkc {ops:Array Oper} {rest:List Oper} {o:Oper} {a:Act} {Q:Exit->Act->World->Prop} (w:World) (hgd:o.guard=none) (s x:Operand) (ho:o.op=.call { callee:=.builtin .append,args:=#[s,x],argTypes:=#[27,27] })
 (A:Nat->Prop) (acc ks:List Tree) (q N cq:Nat) (hl:zab A w acc (.slice (some ⟨q,0,none⟩) N cq)) (hs:a.eval s=.slice (some ⟨q,0,none⟩) N cq) (hN:N<=20000)
 (o2:Option Addr) (M c2:Nat) (hl2:zab (fun b=>A b∧b≠q) w ks (.slice o2 M c2)) (hx:a.eval x=.slice o2 M c2) (hM:M<=20000) (hAH:A w.heap.size)
 (h:∀ g cap w',Apps A w w' acc ks (.slice (some ⟨q,0,none⟩) N cq) g (N+M) cap->wpList Tryz.prog ops Q rest (a.put o.dst (.slice (some ⟨g,0,none⟩) (N+M) cap)) w'):wpList Tryz.prog ops Q (o::rest) a w:=by
 obtain ⟨inf,hi1,hi2,hi3,hi4⟩:=info29x
 have hlen:=zgb hl
 have hlen2:=zgb hl2
 obtain ⟨xs,ho',hA,hr⟩:=hl
 obtain ⟨ys,ho2,hA2,hr2⟩:=hl2
 rw [hlen] at ho'
 rw [hlen2] at ho2
 have hr3:RowV (fun b=>A b∧(Value.slice (some ⟨q,0,none⟩) N cq).ownBlock≠some b) w ks ys:=RowV.frame (fun b hb=>⟨hb.1.1,fun e=>hb.1.2 (Option.some.inj e).symm⟩) (fun _ _ _=>rfl) _ _ hr2
 have key:∀ (g cap:Nat) (w' : World),w'.ownsRow 0 29 5 (.slice (some ⟨g,0,none⟩) (N+M) cap) (N+M) (xs++ys)->w.grownBy w' (some q)->(q=g∨g=w.heap.size)->wpList Tryz.prog ops Q rest (a.put o.dst (.slice (some ⟨g,0,none⟩) (N+M) cap)) w':=by
  intro g cap w' hown hgrow hat
  refine h g cap w' ⟨zbv (sl:=.slice (some ⟨q,0,none⟩) N cq) hA hr hr3 (by rw [hlen,hlen2];exact hown) hgrow w.heap.size (Nat.le_refl _) hAH ?_,hgrow⟩
  rcases hat with e|e
  · exact Or.inl (by rw [<- e];rfl)
  · exact Or.inr (by rw [e];rfl)
 by_cases hM0:M=0
 · subst hM0
   have hys:ys=[]:=List.eq_nil_of_length_eq_zero (by have:=ho2.1;omega)
   subst hys
   have hcap:N<=cq:=by
    rcases ho'.2 with ⟨h1,_⟩|⟨g,cap,cur,h1,_,_,h2,_⟩
    · cases h1
    · cases h1;exact h2
   refine wpList_append_fits_any w hgd s x 27 ho 0 29 inf 5 Tryz.underlying27 hi1 hi3 q N cq xs hs ho' o2 0 c2 [] hx rfl (fun e=>?_) (fun ad e j u hu=>by cases hu) (fun u hu=>by cases hu) hcap (fun w' h1 h2=>key q cq w' h1 h2 (Or.inl rfl))
   refine ⟨rfl,?_⟩
   rcases ho2.2 with ⟨h1,_⟩|⟨g,cap,cur,h1,_⟩
   · cases h1;rfl
   · cases h1;cases e
 · obtain ⟨g2,cap2,he,_,_⟩:=ho2.form (by omega)
   cases he
   refine wpList_append_lies w hgd s x 27 ho 0 29 inf _ 5 64 Tryz.underlying27 hi1 hi2 hi3 hi4 rfl (by decide) (.slice (some ⟨q,0,none⟩) N cq) N xs hs ho' ⟨g2,0,none⟩ M c2 ys hx ho2.1 (ho2.cells rfl) (zf9 _ _ hr2) (by omega) (by unfold maxLen;omega) (by omega) (Nat.zero_le _) _ rfl ?_
   intro g cap w' hown hgrow hat _
   exact key g cap w' hown hgrow (by
    rcases hat with e|e
    · exact Or.inl (Option.some.inj e)
    · exact Or.inr e)
theorem Apps.ds {A:Nat->Prop} {w0 w w' : World} {acc ks:List Tree} {q N cq g K cap:Nat} {p gg cap0:Nat} {ts:List Tok} {d:Int} {s:RS} (h:Apps A w w' acc ks (.slice (some ⟨q,0,none⟩) N cq) g K cap) (hD:DS w p gg cap0 ts d s) (hS:Sole p w0 w) (hq:w0.heap.size<=q) (hp:p<w0.heap.size) (hg:gg<w0.heap.size):DS w' p gg cap0 ts d s∧Sole p w0 w':=
 ⟨hD.grown h.grow (fun e=>by have:=Option.some.inj e;dsimp at this;omega) (fun e=>by have:=Option.some.inj e;dsimp at this;omega),zmb hS h.grow (fun r e=>by have:=Option.some.inj e;dsimp at this;omega)⟩
theorem zcs {A:Nat->Prop} {w:World} {ks:List Tree} {sl:Value} (h:zab A w ks sl):zab (fun b=>A b∧b<w.heap.size) w ks sl:=by
 obtain ⟨xs,ho,hA,hr⟩:=h
 exact ⟨xs,ho,fun g e=>⟨hA g e,(ho.lt g e).2⟩,RowV.frame (fun b hb=>⟨⟨hb.1.1,hb.2⟩,hb.1.2⟩) (fun _ _ _=>rfl) _ _ (RowV.there _ _ hr)⟩
end Go.Proofs.YtighggeokiahfaaGreatDoor.Dm
