import Derived.Test.YtfcbjcebkahehaaGreatDoorPly04
import Derived.StillTailTactics
import Derived.Test.YtfcbjcebkahehaaGreatDoorPly03
set_option maxRecDepth 8000
set_option maxHeartbeats 20000000
set_option linter.unusedSimpArgs false
namespace Go.Proofs.YtfcbjcebkahehaaGreatDoor
open Go.RowKit
inductive Fd where
 | word (i:Nat)
 | flag (i:Nat)
 | small (i:Nat) (m:Int)
 | body (i:Nat) (m:Int)
 | sign (n:Int)
 | tail (i:Nat)
def Fd.ty:Fd->TypeId
 | .word _=>191
 | .flag _=>199
 | .small _ _=>204
 | .body _ _=>211
 | .sign _=>193
 | .tail _=>217
def Fd.agg (b:Nat):Fd->Value
 | .word i=>.agg #[.pointer (some ⟨b,i,none⟩),fv 116,fv 117]
 | .flag i=>.agg #[.pointer (some ⟨b,i,none⟩),fv 118,fv 119]
 | .small i m=>.agg #[.pointer (some ⟨b,i,none⟩),iI m,fv 120,fv 121]
 | .body i m=>.agg #[.pointer (some ⟨b,i,none⟩),iI m,fv 122,fv 123]
 | .sign n=>.agg #[iI n,fv 116,fv 117]
 | .tail i=>.agg #[.pointer (some ⟨b,i,none⟩),fv 124,fv 125]
def Fd.layK:Fd->Nat
 | .word _=>224
 | .flag _=>231
 | .small _ _=>235
 | .body _ _=>238
 | .sign _=>228
 | .tail _=>242
def Fd.readK:Fd->Nat
 | .word _=>225
 | .flag _=>232
 | .small _ _=>236
 | .body _ _=>239
 | .sign _=>229
 | .tail _=>243
def Fd.emptyK:Fd->Nat
 | .word _=>223
 | .flag _=>230
 | .small _ _=>234
 | .body _ _=>237
 | .sign _=>227
 | .tail _=>241
inductive Lays (cs:List Value):Bool->Fd->Prop->List UInt8->Prop
 | word {i:Nat} {n:Int} : cs[i]?=some (iI n)->Lays cs true (.word i) (isW n) (nbL 4 n.toNat)
 | flag {i:Nat} {x:Bool} : cs[i]?=some (.bool x)->Lays cs true (.flag i) True (nbL 4 (if x then 1 else 0))
 | small {i:Nat} {m n:Int} : cs[i]?=some (iI n)->0<=m->m<=1000->Lays cs true (.small i m) (0<=n∧n<=m) (nbL 4 n.toNat)
 | body {i:Nat} {m:Int} {s:List UInt8} : cs[i]?=some (.string ⟨s.toArray⟩)->0<=m->m<=1000->Lays cs true (.body i m) ((s.length:Int)<=m) (nbL 4 s.length++(s++padB s.length))
 | sign {n:Int} : isW n->Lays cs true (.sign n) True (nbL 4 n.toNat)
 | tail {i:Nat} {s:List UInt8} : cs[i]?=some (.string ⟨s.toArray⟩)->s.length<=140737488355328->Lays cs true (.tail i) (za8 s) s
 | noWord {i:Nat} {n:Int} : cs[i]?=some (iI n)->Lays cs false (.word i) (n=0) []
 | noSmall {i:Nat} {m n:Int} : cs[i]?=some (iI n)->Lays cs false (.small i m) (n=0) []
 | noBody {i:Nat} {m:Int} {s:List UInt8} : cs[i]?=some (.string ⟨s.toArray⟩)->Lays cs false (.body i m) (s=[]) []
 | noTail {i:Nat} {s:List UInt8} : cs[i]?=some (.string ⟨s.toArray⟩)->Lays cs false (.tail i) (s=[]) []
theorem zc4.behind {F:Nat->Prop} {p:Nat} {M:Int} {P:Prop} {l:List UInt8} {w w1 w' : World} {e:Ending} (hB:Below w.heap.size w w1) (hF:Ok F w p) (h:zc4 F p M P l w1 e w'):e=.returned (.tuple #[])∧zc4 F p M P l w e w' :=
 ⟨h.1,h.1,h.2.1,(Fr.of_below hB fun i hi=>(hF i hi).1).trans h.2.2⟩
theorem zc4.iff {F:Nat->Prop} {p:Nat} {M:Int} {P Q:Prop} {l m:List UInt8} {w w' : World} {e:Ending} (h:zc4 F p M P l w e w') (hq:Q↔P) (hl:P->l=m):zc4 F p M Q m w e w':=⟨h.1,h.2.1.iff hq hl,h.2.2⟩
theorem zf0 (s:List UInt8):decide ((((⟨s.toArray⟩:ByteArray).size:Nat):Int)<=1000∧(((⟨s.toArray⟩:ByteArray).size:Nat):Int) % 4=0)=decide (za8 s):=by
 rw [zar];apply decide_eq_decide.2
 unfold za8;omega
theorem zc2 (l:List UInt8):(⟨l.toArray⟩:ByteArray).toList=l:=by rw [ByteArray.toList_eq]
theorem lay_fd {F:Nat->Prop} {b p:Nat} {cs:List Value} {t:TypeId} {f:Fd} {A:Prop} {x:List UInt8} {M:Int} {P:Prop} {l:List UInt8} {w:World} (hL:Lays cs true f A x) (hb:Bk w b cs t) (hFb:F b) (h:WrK F w p M P l) (hF:Ok F w p)
 (hM0:0<=M) (hM1:M<=2147483647) (hr:P->A->(l.length:Int)+x.length<=M):Calls Tryz.prog f.layK #[f.agg b,.pointer (some ⟨p,0,none⟩)] w (zc4 F p M (P∧A) (l++x) w):=by
 have hp:=h.lt;cases hL with
 | word hc=>exact word_lay b _ p _ w hb.lt (hb.cell _ hc) fun w1 hB=>(k_uint F p _ M P l w1 (h.below hB) (hF.below hB.size) hM0 hM1 (fun q a=>by have:=hr q a;rw [zaf] at this;omega)).mono fun e w' hp=>hp.behind hB hF
 | flag hc=>exact flag_lay b _ p _ w hb.lt (hb.cell _ hc) fun w1 hB=>(k_bool F p _ M P l w1 (h.below hB) (hF.below hB.size) hM0 hM1 (fun q=>by have:=hr q trivial;rw [zaf] at this;omega)).mono fun e w' hp=>hp.behind hB hF
 | small hc h0 h1=>exact small_lay b _ p _ _ w hb.lt (hb.cell _ hc) fun w1 hB=>(k_count F p _ M _ P l w1 (h.below hB) (hF.below hB.size) hM0 hM1 h0 (by omega) (fun q a=>by have:=hr q a;rw [zaf] at this;omega)).mono fun e w' hp=>hp.behind hB hF
 | @body i m s hc h0 h1=>exact body_lay b _ p _ _ w hb.lt (hb.cell _ hc) fun w1 hB=>(k_opaque F p _ M s P l w1 (h.below hB) (hF.below hB.size) hM0 hM1 h0 (by omega) (fun q a=>by have:=hr q a;simp only [List.length_append,zaf,zau] at this;omega) h1).mono fun e w' hp=>hp.behind hB hF
 | sign hn=>exact sign_lay p _ w fun w1 hB=>(k_uint F p _ M P l w1 (h.below hB) (hF.below hB.size) hM0 hM1 (fun q _=>by have:=hr q trivial;rw [zaf] at this;omega)).mono fun e w' hp=>(hp.iff (Q:=P∧True) ⟨fun q=>⟨q.1,hn⟩,fun q=>⟨q.1,trivial⟩⟩ fun _=>rfl).behind hB hF
 | tail hc hs =>
  by_cases hA:za8 x
  · exact tail_ok b _ p _ w hb.lt (hb.cell _ hc) (by rw [zf0];exact decide_eq_true hA) fun w1 hB=>(k_raw F p M x P l w1 (h.below hB) (hF.below hB.size) hM0 hM1 hs (fun q _=>hr q hA)).mono fun e w' hp=>(hp.iff (Q:=P∧za8 x) ⟨fun q=>⟨q.1,q.2.2⟩,fun q=>⟨q.1,hA⟩⟩ fun _=>rfl).behind hB hF
  · refine tail_bad b _ p _ w hb.lt (hb.cell _ hc) (by rw [zf0];exact decide_eq_false hA) fun w1 hB hz=>?_;(have h1:WrK (fun y=>F y∨y=w.heap.size) w1 p M P l:=h.more hB fun y hy=>hy.imp id fun e=>by omega);have hG:Ok (fun y=>F y∨y=w.heap.size) w1 p:=fun y hy=>hy.elim (fun q=>⟨by have:=(hF y q).1;omega,(hF y q).2⟩) fun q=>⟨by omega,by omega⟩;refine (k_fail _ p M 120 P l w1 h1 hG (by decide)).mono fun e w' hk=>⟨hk.1,hk.2.2.block b (.inl hFb),hk.2.2.block _ (.inr rfl),fun k=>?_⟩;have hB2:Below w'.heap.size w' (w'.drewN k):=zan (Below.refl _ _) k;refine (k_raw F p M x (P∧False) l (w'.drewN k) ((hk.2.1.less fun y hy=>.inl hy).below hB2) (hF.below (Nat.le_trans hB.size (Nat.le_trans hk.2.2.size hB2.size))) hM0 hM1 hs (fun q=>q.2.elim)).mono fun e2 w2 hp2=>?_;have h3:=hp2.iff (Q:=P∧za8 x) ⟨fun q=>absurd q.2 hA,fun q=>q.1.2.elim⟩ fun _=>rfl;refine ⟨h3.1,h3.1,h3.2.1,?_⟩;exact (Fr.of_below hB fun i hi=>(hF i hi).1).trans (((hk.2.2.mono fun i hi=>.inl hi).trans (Fr.of_below hB2 fun i hi=>Nat.lt_of_lt_of_le (hF i hi).1 (Nat.le_trans hB.size hk.2.2.size))).trans h3.2.2)
theorem empty_fd {b:Nat} {cs:List Value} {t:TypeId} {f:Fd} {A:Prop} {x:List UInt8} {w:World} (hL:Lays cs false f A x) (hb:Bk w b cs t):Calls Tryz.prog f.emptyK #[f.agg b] w fun e w'=>(∃ y:Bool,e=.returned (.bool y)∧(y=true↔A))∧Below w.heap.size w w':=by
 cases hL with
 | noWord hc=>exact (word_empty b _ _ w hb.lt (hb.cell _ hc)).mono fun e w' hp=>⟨⟨_,hp.1,beq_iff_eq⟩,hp.2⟩
 | noSmall hc=>exact (small_empty b _ _ _ w hb.lt (hb.cell _ hc)).mono fun e w' hp=>⟨⟨_,hp.1,beq_iff_eq⟩,hp.2⟩
 | @noBody i m s hc=>exact (body_empty b _ _ _ w hb.lt (hb.cell _ hc)).mono fun e w' hp=>⟨⟨_,hp.1,by rw [List.isEmpty_iff,zc2]⟩,hp.2⟩
 | @noTail i s hc=>exact (tail_empty b _ _ w hb.lt (hb.cell _ hc)).mono fun e w' hp=>⟨⟨_,hp.1,by rw [List.isEmpty_iff,zc2]⟩,hp.2⟩
theorem no_bytes {cs:List Value} {f:Fd} {A:Prop} {x:List UInt8} (hL:Lays cs false f A x):x=[]:=by cases hL <;> rfl
def zhl (b:Nat):List (Bool × Fd)->List Value
 | []=>[]
 | r::t=>.bool r.1::.iface r.2.ty (r.2.agg b)::zhl b t
theorem rowsV_at (b:Nat) (tab:List (Bool × Fd)) (j:Nat) (r:Bool × Fd) (h:tab[j]?=some r):(zhl b tab)[j*2]?=some (.bool r.1)∧(zhl b tab)[j*2+1]?=some (.iface r.2.ty (r.2.agg b)):=by
 induction tab generalizing j with
 | nil=>simp at h
 | cons x t ih =>
  cases j with
  | zero =>
   simp at h
   subst h;exact ⟨rfl,rfl⟩
  | succ j =>
   have:=ih j (by simpa using h)
   exact ⟨by rw [show (j+1)*2=j*2+1+1 by omega];exact this.1,by rw [show (j+1)*2+1=j*2+1+1+1 by omega];exact this.2⟩
def allA:List (Prop × List UInt8)->Prop
 | []=>True
 | a::r=>a.1∧allA r
def allL:List (Prop × List UInt8)->List UInt8
 | []=>[]
 | a::r=>a.2++allL r
theorem zes (l:List (Prop × List UInt8)) (a:Prop × List UInt8):allA (l++[a])↔(allA l∧a.1):=by
 induction l with
 | nil=>simp [allA]
 | cons x l ih=>simp only [List.cons_append,allA,ih,and_assoc]
theorem zgh (l:List (Prop × List UInt8)) (a:Prop × List UInt8):allL (l++[a])=allL l++a.2:=by
 induction l with
 | nil=>simp [allL]
 | cons x l ih=>simp only [List.cons_append,allL,ih,List.append_assoc]
inductive Tab (cs:List Value):List (Bool × Fd)->List (Prop × List UInt8)->Prop
 | nil:Tab cs [] []
 | cons {s:Bool} {f:Fd} {A:Prop} {x:List UInt8} {t:List (Bool × Fd)} {r:List (Prop × List UInt8)} : Lays cs s f A x->Tab cs t r->Tab cs ((s,f)::t) ((A,x)::r)
theorem Tab.len {cs:List Value} {t:List (Bool × Fd)} {r:List (Prop × List UInt8)} (h:Tab cs t r):r.length=t.length:=by
 induction h with
 | nil=>rfl
 | cons _ _ ih=>simp [ih]
theorem Tab.at {cs:List Value} {t:List (Bool × Fd)} {r:List (Prop × List UInt8)} (h:Tab cs t r) (j:Nat) (hj:j<t.length):∃ s f A x,t[j]?=some (s,f)∧r[j]?=some (A,x)∧Lays cs s f A x:=by
 induction h generalizing j with
 | nil=>simp at hj
 | @cons s f A x t r h1 _ ih =>
  cases j with
  | zero=>exact ⟨s,f,A,x,rfl,rfl,h1⟩
  | succ j =>
   obtain ⟨s',f',A',x',e1,e2,e3⟩:=ih j (by simpa using hj);exact ⟨s',f',A',x',by simpa using e1,by simpa using e2,e3⟩
theorem disp_lay (b:Nat) (f:Fd) (w:World):(method 432 f.ty (f.agg b) "callbox/message.lay").run Tryz.prog w=.ok (f.layK,f.agg b) w:=by cases f <;> kernel_rfl
theorem disp_read (b:Nat) (f:Fd) (w:World):(method 432 f.ty (f.agg b) "callbox/message.read").run Tryz.prog w=.ok (f.readK,f.agg b) w:=by cases f <;> kernel_rfl
theorem disp_empty (b:Nat) (f:Fd) (w:World):(method 432 f.ty (f.agg b) "callbox/message.isEmpty").run Tryz.prog w=.ok (f.emptyK,f.agg b) w:=by cases f <;> kernel_rfl
theorem call_lay (f:Fd) (a:Array Value) (w:World):(callFunc f.layK a).run Tryz.prog w=.ok (.enter f.layK a) w:=by cases f <;> kernel_rfl
theorem call_read (f:Fd) (a:Array Value) (w:World):(callFunc f.readK a).run Tryz.prog w=.ok (.enter f.readK a) w:=by cases f <;> kernel_rfl
theorem call_empty (f:Fd) (a:Array Value) (w:World):(callFunc f.emptyK a).run Tryz.prog w=.ok (.enter f.emptyK a) w:=by cases f <;> kernel_rfl
theorem take_more {α:Type} {l:List α} {j:Nat} {a:α} (h:l[j]?=some a):l.take (j+1)=l.take j++[a]:=by rw [List.take_add_one,h];rfl
theorem layRows_any (F:Nat->Prop) (b p q:Nat) (tab:List (Bool × Fd)) (ats:List (Prop × List UInt8)) (cs:List Value) (t t2:TypeId) (M:Int) (P:Prop) (l:List UInt8) (w:World) (hT:Tab cs tab ats) (h:WrK F w p M P l) (hF:Ok F w p) (hb:Bk w b cs t) (hFb:F b)
 (hq:Bk w q (zhl b tab) t2) (hFq:F q) (hn:tab.length<=100) (hM0:0<=M) (hM1:M<=2147483647) (hr:∀ j,P->allA (ats.take j)->(l.length:Int)+(allL (ats.take j)).length<=M) :
 Calls Tryz.prog 77 #[.pointer (some ⟨p,0,none⟩),.slice (some ⟨q,0,none⟩) tab.length tab.length] w (zc4 F p M (P∧allA ats) (l++allL ats) w):=by
 obtain ⟨n,hN⟩:∃ n,tab.length=n:=⟨_,rfl⟩;have HN:=hid hN;rw [hN] at hn ⊢;have H0:=hid h;have HF:=hid hF;have Ah:=hid (And.intro hFb hFq);have Al:=hid (And.intro hb hq);have Am:=hid hT;have Ao:=hid hr;have HM:=hid (And.intro hM0 hM1);clear h hF hb hFb hq hFq hT hr hM0 hM1 hN;go_enter Tryz.func77,Tryz.ntmps77
 go_wp2_with fail
 go_loopw [8] (fun ix wr=>∃ j:Nat,ix=iI j∧j<=n∧Hid (WrK F wr p M (P∧allA (ats.take j)) (l++allL (ats.take j)))∧Hid (Fr F w wr)) (fun ix _=>200 - (intOf ix).toNat)
 case atStart=>exact ⟨0,rfl,by omega,H0.out.iff ⟨fun x=>x.1,fun x=>⟨x,trivial⟩⟩ (fun _=>by simp [allL]),Fr.refl _ _⟩
 case round =>
  obtain ⟨j,rfl,hj,HW,HR⟩:=hrel;by_cases hlt:j<n
  · obtain ⟨s,f,A,x,e1,e2,hL⟩:=Am.out.at j (by rw [HN.out];exact hlt);obtain ⟨v0,v1⟩:=rowsV_at b tab j (s,f) e1;have hq1:Bk wr q _ _:=Al.out.2.of (HR.out.block q Ah.out.2);have hb1:Bk wr b _ _:=Al.out.1.of (HR.out.block b Ah.out.1);have c0:=hq1.cell (j*2) v0;have c1:=hq1.cell (j*2+1) v1;have hml:=disp_lay b f;have hme:=disp_empty b f;have hcl:=call_lay f;have hce:=call_empty f;have hFr:Ok F wr p:=HF.out.below HR.out.size;have Aa:Hid (ats.take (j+1)=ats.take j++[(A,x)]):=take_more e2;have Ab:Hid (s=true->∀ w1,Below wr.heap.size wr w1->Calls Tryz.prog f.layK #[f.agg b,.pointer (some ⟨p,0,none⟩)] w1 fun e w'=>e=.returned (.tuple #[])∧WrK F w' p M (P∧allA (ats.take (j+1))) (l++allL (ats.take (j+1)))∧Fr F w w'):=fun hs w1 hB=>by
     subst hs;have hr1:=Ao.out (j+1);rw [Aa.out,zes,zgh] at hr1
     refine (lay_fd hL (hb1.below hB hb1.lt) Ah.out.1 (HW.out.below hB) (hFr.below hB.size) HM.out.1 HM.out.2 (fun q a=>by
      (have:=hr1 q.1 ⟨q.2,a⟩);rw [List.length_append] at this ⊢;simp only at this
      omega)).mono fun e w' hp=>?_
     refine ⟨hp.1,?_,(HR.out.trans (Fr.of_below hB fun i hi=>(hFr i hi).1)).trans hp.2.2⟩;rw [Aa.out,zgh];exact hp.2.1.iff (by rw [zes,and_assoc]) fun _=>by rw [List.append_assoc]
    have Ac:Hid (s=false->∀ w1,Below wr.heap.size wr w1->Calls Tryz.prog f.emptyK #[f.agg b] w1 fun e w'=>(∃ y:Bool,e=.returned (.bool y)∧(y=true↔A))∧Below wr.heap.size wr w'):=fun hs w1 hB=>by
     subst hs;exact (empty_fd hL (hb1.below hB hb1.lt)).mono fun e w' hp=>⟨hp.1,hB.trans (hp.2.mono hB.size)⟩
    (have Ai:Hid (s=false->x=[]):=fun hs=>by subst hs;exact no_bytes hL);have Aj:=hid hFr;generalize f.layK=KL at hml hcl Ab;generalize f.emptyK=KE at hme hce Ac;generalize f.agg b=V at c1 hml hme Ab Ac;generalize f.ty=Y at c1 hml hme;clear hq1 v0 v1 hb1 hFr e1 e2 hL;simp only at c0 c1;obtain ⟨wx,hwx⟩:∃ y,wr.alloc (.cells #[.bool s,.iface Y V] 185)=y:=⟨_,rfl⟩;obtain ⟨hk,hB,hz⟩:=boxed wr wx _ _ hwx;have HB:=hid hB;have x0:=hk.cell 0 rfl;have x1:=hk.cell 1 rfl;clear hk hB hz;cases s
    · have Ak:=hid (Ac.out rfl);have Ap:=hid (Ai.out rfl);clear Ac Ai Ab;(go_wp2_with fail);refine (Ak.out _ HB.out).mono ?_;rintro e w2 ⟨⟨y,rfl,hy⟩,hB2⟩;have HY:=hid hy;have Ad:=hid hB2;clear hy hB2;cases y
      · have An:Hid (Calls Tryz.prog 115 #[.pointer (some ⟨p,0,none⟩),iI 120] w2 (zc4 F p M ((P∧allA (ats.take j))∧False) (l++allL (ats.take j)) w2)):=k_fail F p M 120 _ _ w2 (HW.out.below Ad.out) (Aj.out.below Ad.out.size) (by decide);(go_wp2_with fail);refine An.out.mono ?_;rintro e w3 ⟨rfl,hw3,hf3⟩
        have Ae:Hid (WrK F w3 p M (P∧allA (ats.take (j+1))) (l++allL (ats.take (j+1)))):=hw3.iff (by
         rw [Aa.out,zes];(have:=HY.out);constructor
         · exact fun q=>absurd (this.2 q.2.2) (by simp)
         · exact fun q=>q.2.elim) (fun q=>q.2.elim)
        have Af:Hid (Fr F w w3):=(HR.out.trans (Fr.of_below Ad.out fun i hi=>(Aj.out i hi).1)).trans hf3;clear hw3 hf3 An;go_wp2;go_roundw
        case rel=>exact ⟨j+1,by go_num,by omega,Ae,Af⟩
        case measure=>simp [intOf];omega
      · have Ae:Hid (WrK F w2 p M (P∧allA (ats.take (j+1))) (l++allL (ats.take (j+1)))):=(HW.out.below Ad.out).iff (by
         rw [Aa.out,zes]
         exact ⟨fun q=>⟨q.1,q.2.1⟩,fun q=>⟨q.1,q.2,HY.out.1 rfl⟩⟩) (fun _=>by rw [Aa.out,zgh,Ap.out,List.append_nil])
        have Af:Hid (Fr F w w2):=HR.out.trans (Fr.of_below Ad.out fun i hi=>(Aj.out i hi).1);go_wp2;go_roundw
        case rel=>exact ⟨j+1,by go_num,by omega,Ae,Af⟩
        case measure=>simp [intOf];omega
    · have Ag:=hid (Ab.out rfl);clear Ac Ai Ab;(go_wp2_with fail);refine (Ag.out _ HB.out).mono ?_;rintro e w2 ⟨rfl,hw2,hf2⟩;have Ae:=hid hw2;have Af:=hid hf2;clear hw2 hf2 Ag;go_wp2;go_roundw
      case rel=>exact ⟨j+1,by go_num,by omega,Ae,Af⟩
      case measure=>simp [intOf];omega
  · obtain rfl:j=n:=(by omega);have HE:Hid (ats.take j=ats):=List.take_of_length_le (by rw [Am.out.len,HN.out];exact Nat.le_refl _);go_wp2;(first|go_end0|refine bodyPost_ret (results_none rfl _ _ _) rfl ?_);rw [HE.out] at HW;exact ⟨rfl,HW.out,HR.out⟩
def Fd.rd:Fd->Rs × List Value->Rs × List Value
 | .word i,x=>((x.1.go 0 zad).2,x.2.set i (iI ((x.1.go 0 zad).1:Int)))
 | .flag i,x=>((x.1.go false rdBool).2,x.2.set i (.bool (x.1.go false rdBool).1))
 | .small i m,x=>((x.1.go 0 (zai m)).2,x.2.set i (iI ((x.1.go 0 (zai m)).1:Int)))
 | .body i m,x=>((x.1.go [] (zao m)).2,x.2.set i (.string ⟨(x.1.go [] (zao m)).1.toArray⟩))
 | .sign n,x=>(if ((x.1.go 0 zad).1:Int)=n then (x.1.go 0 zad).2 else (x.1.go 0 zad).2.fail 121,x.2)
 | .tail i,x=>(((if za8 x.1.l then x.1 else x.1.fail 121).go [] zbv).2,x.2.set i (.string ⟨((if za8 x.1.l then x.1 else x.1.fail 121).go [] zbv).1.toArray⟩))
def Fd.fits (n:Nat):Fd->Prop
 | .word i=>i<n
 | .flag i=>i<n
 | .small i _=>i<n
 | .body i _=>i<n
 | .sign _=>True
 | .tail i=>i<n
theorem fail_len (st:Rs) (n:Int):(st.fail n).l=st.l:=rfl
theorem Fd.rd_len (f:Fd) (x:Rs × List Value):(f.rd x).1.l.length<=x.1.l.length∧(f.rd x).2.length=x.2.length:=by
 cases f with
 | word i=>exact ⟨zdx _ _ _,by simp [Fd.rd]⟩
 | flag i=>exact ⟨zdx _ _ _,by simp [Fd.rd]⟩
 | small i m=>exact ⟨zdx _ _ _,by simp [Fd.rd]⟩
 | body i m=>exact ⟨zdx _ _ _,by simp [Fd.rd]⟩
 | sign n =>
  refine ⟨?_,rfl⟩;simp only [Fd.rd];split
  · exact zdx _ _ _
  · rw [fail_len];exact zdx _ _ _
 | tail i =>
  refine ⟨Nat.le_trans (zdx _ _ _) ?_,by simp [Fd.rd]⟩;split
  · exact Nat.le_refl _
  · exact Nat.le_refl _
def OkR (F:Nat->Prop) (w:World) (b p:Nat):Prop:=∀ k,F k->k<w.heap.size∧k≠b∧k≠p
structure RB (F:Nat->Prop) (w0 w:World) (b p:Nat) (x:Rs × List Value) (t:TypeId):Prop where
 r:RR w p x.1.l x.1.e
 k:Bk w b x.2 t
 f:Fr F w0 w
theorem RB.set {F:Nat->Prop} {w0 w:World} {b p:Nat} {st:Rs} {cs:List Value} {t:TypeId} (h:RB F w0 w b p (st,cs) t) (hF:OkR F w0 b p) (hbp:b≠p) (i:Nat) (v:Value):RB F w0 (w.setCell ⟨b,i,none⟩ v) b p (st,cs.set i v) t :=
 ⟨h.r.set_ne hbp.symm i v,h.k.set i v,h.f.trans ⟨rfl,rfl,rfl,by simp [World.setCell],fun k hk=>Below.heap_setCell _ _ _ k (hF k hk).2.1⟩⟩
theorem RB.call {F:Nat->Prop} {w0 w w1 w' : World} {b p:Nat} {st st' : Rs} {cs:List Value} {t:TypeId} (h:RB F w0 w b p (st,cs) t) (hF:OkR F w0 b p) (hbp:b≠p) (hB:Below w.heap.size w w1) (hr:RR w' p st'.l st'.e) (hS:Sole p w1 w'):RB F w0 w' b p (st',cs) t :=
 ⟨hr,(h.k.below hB h.k.lt).sole hS hbp,(h.f.trans (Fr.of_below hB fun i hi=>Nat.lt_of_lt_of_le (hF i hi).1 h.f.size)).trans ⟨hS.os,hS.tape,hS.output,hS.size,fun i hi=>hS.block i (Nat.lt_of_lt_of_le (Nat.lt_of_lt_of_le (hF i hi).1 h.f.size) hB.size) (hF i hi).2.2⟩⟩
theorem RB.has {F:Nat->Prop} {w0 w:World} {b p:Nat} {x:Rs × List Value} {t:TypeId} {i:Nat} (hi:i<x.2.length) (h:RB F w0 w b p x t):(∃ v,w.cell? ⟨b,i,none⟩=some v)∧w.frozen? ⟨b,i,none⟩=false :=
 ⟨⟨x.2[i],h.k.cell i (List.getElem?_eq_getElem hi)⟩,h.k.frozen i⟩
theorem plain_len (l:List UInt8):decide (((l.length:Nat):Int)<=1000∧((l.length:Nat):Int) % 4=0)=decide (za8 l):=by
 apply decide_eq_decide.2
 unfold za8;omega
theorem read_fd {F:Nat->Prop} {b p:Nat} {st:Rs} {cs:List Value} {t:TypeId} {w0 w:World} (f:Fd) (h:RB F w0 w b p (st,cs) t) (hF:OkR F w0 b p) (hbp:b≠p) (hi:f.fits cs.length) (hl:st.l.length<=281474976710656) :
 Calls Tryz.prog f.readK #[f.agg b,.pointer (some ⟨p,0,none⟩)] w fun e w'=>e=.returned (.tuple #[])∧RB F w0 w' b p (f.rd (st,cs)) t:=by
 have hp:=h.r.lt;cases f with
 | word i =>
  exact (word_read (R:=fun w'=>RB F w0 w' b p ((st.go 0 zad).2,cs) t) b i p _ w hp (fun w1 hB=>(zfw p st.l st.e w1 (h.r.below hB)).mono fun e w' hp=>⟨hp.1,h.call hF hbp hB hp.2.1 hp.2.2,hp.2.2⟩) (fun w' hR=>RB.has (x:=(_,cs)) (show i<cs.length from hi) hR)).mono fun e w'' hq=>by
   obtain ⟨e1,w',h1,rfl⟩:=hq;exact ⟨e1,h1.set hF hbp i _⟩
 | flag i =>
  exact (flag_read (R:=fun w'=>RB F w0 w' b p ((st.go false rdBool).2,cs) t) b i p _ w hp (fun w1 hB=>(rbool_any p st.l st.e w1 (h.r.below hB)).mono fun e w' hp=>⟨hp.1,h.call hF hbp hB hp.2.1 hp.2.2,hp.2.2⟩) (fun w' hR=>RB.has (x:=(_,cs)) (show i<cs.length from hi) hR)).mono fun e w'' hq=>by
   obtain ⟨e1,w',h1,rfl⟩:=hq;exact ⟨e1,h1.set hF hbp i _⟩
 | small i m =>
  exact (small_read (R:=fun w'=>RB F w0 w' b p ((st.go 0 (zai m)).2,cs) t) b i p m _ w hp (fun w1 hB=>(rcount_any p m st.l st.e w1 (h.r.below hB)).mono fun e w' hp=>⟨hp.1,h.call hF hbp hB hp.2.1 hp.2.2,hp.2.2⟩) (fun w' hR=>RB.has (x:=(_,cs)) (show i<cs.length from hi) hR)).mono fun e w'' hq=>by
   obtain ⟨e1,w',h1,rfl⟩:=hq;exact ⟨e1,h1.set hF hbp i _⟩
 | body i m =>
  exact (body_read (R:=fun w'=>RB F w0 w' b p ((st.go [] (zao m)).2,cs) t) b i p m _ w hp (fun w1 hB=>(ropaque_any p m st.l st.e w1 (h.r.below hB) hl).mono fun e w' hp=>⟨hp.1,h.call hF hbp hB hp.2.1 hp.2.2,hp.2.2⟩) (fun w' hR=>RB.has (x:=(_,cs)) (show i<cs.length from hi) hR)).mono fun e w'' hq=>by
   obtain ⟨e1,w',h1,rfl⟩:=hq;exact ⟨e1,h1.set hF hbp i _⟩
 | sign n =>
  by_cases hn:((st.go 0 zad).1:Int)=n
  · refine (sign_read_ok (R:=fun w'=>RB F w0 w' b p ((st.go 0 zad).2,cs) t) p n _ w hp (bne_eq_false_iff_eq.2 hn) (fun w1 hB=>(zfw p st.l st.e w1 (h.r.below hB)).mono fun e w' hp=>⟨hp.1,h.call hF hbp hB hp.2.1 hp.2.2,hp.2.2⟩)).mono fun e w'' hq=>⟨hq.1,?_⟩;simp only [Fd.rd,if_pos hn];exact hq.2
  · refine (zhk (R:=fun w'=>RB F w0 w' b p ((st.go 0 zad).2,cs) t) (Q:=fun w'=>RB F w0 w' b p ((st.go 0 zad).2.fail 121,cs) t) p n _ w hp (bne_iff_ne.2 hn) (fun w1 hB=>(zfw p st.l st.e w1 (h.r.below hB)).mono fun e w' hp=>⟨hp.1,h.call hF hbp hB hp.2.1 hp.2.2,hp.2.2⟩)
     (fun w' hR=>(rfail_any p 121 _ w' hR.r).mono fun e w'' hq=>⟨hq.1,hR.call hF hbp (Below.refl _ _) hq.2.1 hq.2.2⟩)).mono fun e w'' hq=>⟨hq.1,?_⟩
    simp only [Fd.rd,if_neg hn];exact hq.2
 | tail i =>
  by_cases hn:za8 st.l
  · refine (tail_read_ok (R:=fun w'=>RB F w0 w' b p ((st.go [] zbv).2,cs) t) b i p ⟨(st.go [] zbv).1.toArray⟩ st.l.length w hp (by omega) (by rw [plain_len];exact decide_eq_true hn) (fun w1 hB=>by
     (have:=rleft_any p _ w1 (h.r.below hB).l);rw [zar] at this
     exact this) (fun w1 hB=>(rrest_any p st.l st.e w1 (h.r.below hB) hl).mono fun e w' hp=>⟨hp.1,h.call hF hbp hB hp.2.1 hp.2.2,hp.2.2⟩) (fun w' hR=>RB.has (x:=(_,cs)) (show i<cs.length from hi) hR)).mono fun e w'' hq=>?_
    obtain ⟨e1,w',h1,rfl⟩:=hq;refine ⟨e1,?_⟩;simp only [Fd.rd,if_pos hn];exact h1.set hF hbp i _
  · refine (zhj (R:=fun w'=>RB F w0 w' b p (((st.fail 121).go [] zbv).2,cs) t) (Q:=fun w'=>RB F w0 w' b p (st.fail 121,cs) t) b i p ⟨((st.fail 121).go [] zbv).1.toArray⟩ st.l.length w hp (by omega) (by rw [plain_len];exact decide_eq_false hn) (fun w1 hB=>by
     (have:=rleft_any p _ w1 (h.r.below hB).l);rw [zar] at this
     exact this) (fun w1 hB=>(rfail_any p 121 st w1 (h.r.below hB)).mono fun e w' hp=>⟨hp.1,h.call hF hbp hB hp.2.1 hp.2.2,hp.2.2⟩)
     (fun w1 k hQ=>by
       have hB:Below w1.heap.size w1 (w1.drewN k):=zan (Below.refl _ _) k
       exact (rrest_any p (st.fail 121).l (st.fail 121).e (w1.drewN k) (hQ.r.below hB) hl).mono fun e w' hp=>⟨hp.1,hQ.call hF hbp hB hp.2.1 hp.2.2,hp.2.2⟩) (fun w' hR=>RB.has (x:=(_,cs)) (show i<cs.length from hi) hR)).mono fun e w'' hq=>?_
    obtain ⟨e1,w',h1,rfl⟩:=hq;refine ⟨e1,?_⟩;simp only [Fd.rd,if_neg hn];exact h1.set hF hbp i _
def rdT:List (Bool × Fd)->Rs × List Value->Rs × List Value
 | [],x=>x
 | r::t,x=>rdT t (if r.1 then r.2.rd x else x)
theorem rdT_append (a c:List (Bool × Fd)) (x:Rs × List Value):rdT (a++c) x=rdT c (rdT a x):=by
 induction a generalizing x with
 | nil=>rfl
 | cons r a ih=>exact ih _
theorem rdT_len (t:List (Bool × Fd)) (x:Rs × List Value):(rdT t x).1.l.length<=x.1.l.length∧(rdT t x).2.length=x.2.length:=by
 induction t generalizing x with
 | nil=>exact ⟨Nat.le_refl _,rfl⟩
 | cons r t ih =>
  have h1:=ih (if r.1 then r.2.rd x else x);have h2:(if r.1 then r.2.rd x else x).1.l.length<=x.1.l.length∧(if r.1 then r.2.rd x else x).2.length=x.2.length:=by
   split
   · exact Fd.rd_len _ _
   · exact ⟨Nat.le_refl _,rfl⟩
  exact ⟨Nat.le_trans h1.1 h2.1,h1.2.trans h2.2⟩
theorem readRows_any (F:Nat->Prop) (b p q:Nat) (tab:List (Bool × Fd)) (x:Rs × List Value) (t t2:TypeId) (w:World) (hr:RR w p x.1.l x.1.e) (hb:Bk w b x.2 t) (hF:OkR F w b p) (hbp:b≠p)
 (hq:Bk w q (zhl b tab) t2) (hFq:F q) (hn:tab.length<=100) (hfit:∀ r∈tab,r.2.fits x.2.length) (hl:x.1.l.length<=281474976710656) :
 Calls Tryz.prog 89 #[.pointer (some ⟨p,0,none⟩),.slice (some ⟨q,0,none⟩) tab.length tab.length] w fun e w'=>e=.returned (.tuple #[])∧RB F w w' b p (rdT tab x) t:=by
 obtain ⟨n,hN⟩:∃ n,tab.length=n:=⟨_,rfl⟩;have HN:=hid hN;rw [hN] at hn ⊢;have H0:Hid (RB F w w b p x t):=⟨hr,hb,Fr.refl _ _⟩;have HF:=hid hF;have HQ:=hid (And.intro hq hFq);have Af:=hid hbp;have Ag:=hid hfit;have HL:=hid hl;clear hr hb hF hbp hq hFq hfit hl hN;go_enter Tryz.func89,Tryz.ntmps89
 go_wp2_with fail
 go_loopw [8] (fun ix wr=>∃ j:Nat,ix=iI j∧j<=n∧Hid (RB F w wr b p (rdT (tab.take j) x) t)) (fun ix _=>200 - (intOf ix).toNat)
 case atStart=>exact ⟨0,rfl,by omega,H0⟩
 case round =>
  obtain ⟨j,rfl,hj,HR⟩:=hrel;by_cases hlt:j<n
  · obtain ⟨⟨s,f⟩,e1⟩:∃ r,tab[j]?=some r:=⟨tab[j]'(by rw [HN.out];exact hlt),List.getElem?_eq_getElem _⟩;obtain ⟨v0,v1⟩:=rowsV_at b tab j (s,f) e1;have hq1:Bk wr q _ _:=HQ.out.1.of (HR.out.f.block q HQ.out.2);have c0:=hq1.cell (j*2) v0;have c1:=hq1.cell (j*2+1) v1;have hml:=disp_read b f;have hcl:=call_read f;have Ae:Hid (rdT (tab.take (j+1)) x=if s then f.rd (rdT (tab.take j) x) else rdT (tab.take j) x):=by
     show _=_;rw [take_more e1,rdT_append];rfl
    have Aa:Hid (s=true->∀ w1,Below wr.heap.size wr w1->Calls Tryz.prog f.readK #[f.agg b,.pointer (some ⟨p,0,none⟩)] w1 fun e w'=>e=.returned (.tuple #[])∧RB F w w' b p (rdT (tab.take (j+1)) x) t):=fun hs w1 hB=>by
     rw [Ae.out,if_pos hs];have h1:=HR.out;have hlen:=rdT_len (tab.take j) x;have h2:RB F w w1 b p (rdT (tab.take j) x) t:=⟨h1.r.below hB,h1.k.below hB h1.k.lt,h1.f.trans (Fr.of_below hB fun i hi=>Nat.lt_of_lt_of_le (HF.out i hi).1 h1.f.size)⟩;exact read_fd f h2 HF.out Af.out (by rw [hlen.2];exact Ag.out _ (List.mem_of_getElem? e1)) (Nat.le_trans hlen.1 HL.out)
    have Ac:Hid (s=false->RB F w wr b p (rdT (tab.take (j+1)) x) t):=fun hs=>by
     subst hs;rw [Ae.out,if_neg (by decide)];exact HR.out
    generalize f.readK=KL at hml hcl Aa;generalize f.agg b=V at c1 hml Aa;generalize f.ty=Y at c1 hml;clear hq1 v0 v1 e1;simp only at c0 c1;obtain ⟨wx,hwx⟩:∃ y,wr.alloc (.cells #[.bool s,.iface Y V] 185)=y:=⟨_,rfl⟩;obtain ⟨hk,hB,hz⟩:=boxed wr wx _ _ hwx;have HB:=hid hB;have x0:=hk.cell 0 rfl;have x1:=hk.cell 1 rfl;clear hk hB hz;cases s
    · have Ad:Hid (RB F w wx b p (rdT (tab.take (j+1)) x) t):=by
       have h1:=Ac.out rfl;exact ⟨h1.r.below HB.out,h1.k.below HB.out h1.k.lt,h1.f.trans (Fr.of_below HB.out fun i hi=>Nat.lt_of_lt_of_le (HF.out i hi).1 h1.f.size)⟩
      clear Aa Ac;go_wp2;go_roundw
      case rel=>exact ⟨j+1,by go_num,by omega,Ad⟩
      case measure=>simp [intOf];omega
    · have Ab:=hid (Aa.out rfl);clear Aa Ac;(go_wp2_with fail);refine (Ab.out _ HB.out).mono ?_;rintro e w2 ⟨rfl,hw2⟩;have Ad:=hid hw2;clear hw2 Ab;go_wp2;go_roundw
      case rel=>exact ⟨j+1,by go_num,by omega,Ad⟩
      case measure=>simp [intOf];omega
  · obtain rfl:j=n:=(by omega);have HE:Hid (tab.take j=tab):=List.take_of_length_le (by rw [HN.out];exact Nat.le_refl _);go_wp2;(first|go_end0|refine bodyPost_ret (results_none rfl _ _ _) rfl ?_);rw [HE.out] at HR;exact ⟨rfl,HR.out⟩
def headC:List (Bool × Fd):=[(true,.word 0),(true,.sign 0),(true,.word 1)]
def bodyC:List (Bool × Fd):=[(true,.word 2),(true,.word 3),(true,.word 4),(true,.word 5),(true,.body 6 400),(true,.word 7),(true,.body 8 400),(true,.tail 9)]
def headR:List (Bool × Fd):=[(true,.word 0),(true,.sign 1),(true,.flag 1)]
def zfe (d:Bool):List (Bool × Fd):=[(d,.small 5 1),(!d,.word 2),(!d,.body 3 400),(!d,.small 4 5)]
def endR (m a s:Bool):List (Bool × Fd):=[(m,.word 7),(m,.word 8),(a,.small 6 14),(s,.tail 9)]
def zdf (b:Nat) (tab:List (Bool × Fd)) (w:World) (e:Ending) (w' : World):Prop :=
 e=.returned (.slice (some ⟨w.heap.size,0,none⟩) tab.length tab.length)∧Bk w' w.heap.size (zhl b tab) 185∧Below w.heap.size w w'∧w'.heap.size=w.heap.size+1
theorem zdf.of {b:Nat} {tab:List (Bool × Fd)} {w:World} (k:Nat):zdf b tab w (.returned (.slice (some ⟨w.heap.size,0,none⟩) tab.length tab.length)) ((w.drewN k).alloc (.cells (zhl b tab).toArray 185)):=by
 refine ⟨rfl,Bk.new (w.drewN k) _ _,(zan (Below.refl _ _) k).trans (zav (w.drewN k) _),?_⟩;simp
theorem callHead_any (b:Nat) (w:World):Calls Tryz.prog 127 #[.pointer (some ⟨b,0,none⟩)] w (zdf b headC w):=by
 go_enter Tryz.func127,Tryz.ntmps127
 go_wp2_with fail
 go_still_tail 15,(by kernel_rfl)
 go_wp2;go_ret;exact zdf.of (b:=b) (tab:=headC) 1
theorem zhn (b:Nat) (w:World):Calls Tryz.prog 78 #[.pointer (some ⟨b,0,none⟩)] w (zdf b headR w):=by
 go_enter Tryz.func78,Tryz.ntmps78
 go_wp2_with fail
 go_still_tail 15,(by kernel_rfl)
 go_wp2;go_ret;exact zdf.of (b:=b) (tab:=headR) 1
theorem callBody_any (b:Nat) (w:World):Calls Tryz.prog 129 #[.pointer (some ⟨b,0,none⟩)] w (zdf b bodyC w):=by
 go_enter Tryz.func129,Tryz.ntmps129
 go_wp2_with fail
 go_still_tail 52,(by kernel_rfl)
 go_wp2;go_ret;exact zdf.of (b:=b) (tab:=bodyC) 1
theorem zho (b:Nat) (d:Bool) (w:World) (h:w.cell? ⟨b,1,none⟩=some (.bool d)):Calls Tryz.prog 79 #[.pointer (some ⟨b,0,none⟩)] w (zdf b (zfe d) w):=by
 go_enter Tryz.func79,Tryz.ntmps79
 go_wp2_with fail
 go_still_tail 45,(by kernel_rfl)
 go_wp2;go_ret;exact zdf.of (b:=b) (tab:=zfe d) 1
theorem replyEnd_den (b:Nat) (j:Int) (w:World) (h:w.cell? ⟨b,1,none⟩=some (.bool true)) (hj:w.cell? ⟨b,5,none⟩=some (iI j)):Calls Tryz.prog 80 #[.pointer (some ⟨b,0,none⟩)] w (zdf b (endR (j==0) (j==1) false) w):=by
 by_cases h0:j=0
 · subst h0;go_enter Tryz.func80,Tryz.ntmps80
   go_wp2_with fail
   go_still_tail 28,(by kernel_rfl)
   go_wp2;go_ret;exact zdf.of (b:=b) (tab:=endR true false false) 1
 · have e0:(j==0)=false:=beq_eq_false_iff_ne.2 h0;rw [e0];generalize hz:(j==1)=z;go_enter Tryz.func80,Tryz.ntmps80
   go_wp2_with fail
   go_still_tail 28,(by kernel_rfl)
   go_wp2;go_ret;exact zdf.of (b:=b) (tab:=endR false z false) 1
theorem replyEnd_acc (b:Nat) (a:Int) (w:World) (h:w.cell? ⟨b,1,none⟩=some (.bool false)) (hj:w.cell? ⟨b,4,none⟩=some (iI a)):Calls Tryz.prog 80 #[.pointer (some ⟨b,0,none⟩)] w (zdf b (endR (a==2) false (a==0)) w):=by
 generalize hz:(a==0)=z;generalize hy:(a==2)=y;go_enter Tryz.func80,Tryz.ntmps80
 go_wp2_with fail
 go_still_tail 28,(by kernel_rfl)
 go_wp2;go_ret;exact zdf.of (b:=b) (tab:=endR y false z) 1
theorem WrK.new (F:Nat->Prop) (m:Int) (w w' : World) (hm:0<=m) (h:w'=w.alloc (.cells #[iI m,.slice none 0 0,.nilIface] 181)):WrK F w' w.heap.size m True []:=by
 subst h;have h:=PW.new m w;rw [show max m 0=m by omega] at h;exact ⟨_,_,_,h,hm,by simp,fun _=>rfl,fun b e=>by simp [Value.ownBlock] at e⟩
def Room (r:List (Prop × List UInt8)) (n:Nat):Prop:=∀ j,allA (r.take j)->(allL (r.take j)).length<=n
theorem Room.nil:Room [] 0:=fun j _=>by simp [allL]
theorem Room.cons {A:Prop} {x:List UInt8} {r:List (Prop × List UInt8)} {n m:Nat} (h:A->x.length<=n) (hr:Room r m):Room ((A,x)::r) (n+m):=fun j hj=>by
 cases j with
 | zero=>simp [allL]
 | succ j =>
  have h1:=h hj.1;have h2:=hr j hj.2;simp only [List.take_succ_cons,allL,List.length_append];omega
theorem Room.full {r:List (Prop × List UInt8)} {n:Nat} (h:Room r n) (ha:allA r):(allL r).length<=n:=by
 have:=h r.length
 rw [List.take_length] at this;exact this ha
theorem zcn (n:Int):isW n->(nbL 4 n.toNat).length<=4:=fun _=>by rw [zaf];exact Nat.le_refl _
theorem sign_room (n:Nat):True->(nbL 4 n).length<=4:=fun _=>by rw [zaf];exact Nat.le_refl _
theorem body_room (s:List UInt8):((s.length:Nat):Int)<=400->(nbL 4 s.length++(s++padB s.length)).length<=404:=fun h=>by
 simp only [List.length_append,zaf,zau];unfold pads;omega
theorem tail_room (s:List UInt8):za8 s->s.length<=1000:=fun h=>h.1
theorem printed_ok (F:Nat->Prop) (p:Nat) (M:Int) (P:Prop) (l:List UInt8) (w:World) (h:WrK F w p M P l) (hT:ErrT w) (hP:P) :
 Calls Tryz.prog 81 #[.pointer (some ⟨p,0,none⟩)] w fun e w'=>e=.returned (.tuple #[.string ⟨l.toArray⟩,iI 0])∧Below w.heap.size w w':=by
 have H:=hid (w_done_ok p M P l w h.toP hT hP);clear h hT hP;go_enter Tryz.func81,Tryz.ntmps81
 go_wp2_with fail
 refine H.out.mono ?_;rintro e w1 ⟨rfl,hB⟩;have HB:=hid hB;clear hB;go_wp2;refine bodyPost_ret (v:=.tuple #[.string ⟨l.toArray⟩,iI 0]) (by simp [results,Tryz.results81,go_sem]) rfl ⟨rfl,HB.out⟩
theorem printed_bad (F:Nat->Prop) (p:Nat) (M:Int) (P:Prop) (l:List UInt8) (w:World) (h:WrK F w p M P l) (hT:ErrT w) (hP:¬ P) :
 Calls Tryz.prog 81 #[.pointer (some ⟨p,0,none⟩)] w fun e w'=>e=.returned (.tuple #[.string ⟨#[]⟩,iI 120])∧Below w.heap.size w w':=by
 have H:=hid (zgu p M P l w h.toP hT hP);clear h hT hP;go_enter Tryz.func81,Tryz.ntmps81
 go_wp2_with fail
 refine H.out.mono ?_;rintro e w1 ⟨⟨E,hE,rfl⟩,hB⟩;have HB:=hid hB;have hE2:(E != 0)=true:=bne_iff_ne.2 hE;clear hB;go_wp2;refine bodyPost_ret (v:=.tuple #[.string ⟨#[]⟩,iI 120]) (by simp [results,Tryz.results81,go_sem]) rfl ⟨rfl,HB.out⟩
def prM (P:Prop) [Decidable P] (l:List UInt8):List UInt8 × Int:=if P then (l,0) else ([],120)
theorem printed_any (F:Nat->Prop) (p:Nat) (M:Int) (P Q:Prop) [Decidable Q] (l m:List UInt8) (w:World) (h:WrK F w p M P l) (hT:ErrT w) (hQ:Q↔P) (hl:P->l=m) :
 Calls Tryz.prog 81 #[.pointer (some ⟨p,0,none⟩)] w fun e w'=>e=.returned (.tuple #[.string ⟨(prM Q m).1.toArray⟩,iI (prM Q m).2])∧Below w.heap.size w w':=by
 unfold prM;by_cases hq:Q
 · rw [if_pos hq,<- hl (hQ.1 hq)];exact printed_ok F p M P l w h hT (hQ.1 hq)
 · rw [if_neg hq];exact printed_bad F p M P l w h hT (fun x=>hq (hQ.2 x))
structure WS (w0 w:World) (b p:Nat) (cs:List Value) (t:TypeId) (M:Int) (P:Prop) (l:List UInt8):Prop where
 wr:WrK (fun k=>k<p) w p M P l
 k:Bk w b cs t
 low:Below p w0 w
 bp:b<p
theorem WS.lays {w0 w w1:World} {b p:Nat} {cs:List Value} {t:TypeId} {M:Int} {P:Prop} {l:List UInt8} {tab:List (Bool × Fd)} {ats:List (Prop × List UInt8)} {n:Nat} (h:WS w0 w b p cs t M P l) (hT:Tab cs tab ats)
 (hq:Bk w1 w.heap.size (zhl b tab) 185) (hB:Below w.heap.size w w1) (hz:w1.heap.size=w.heap.size+1) (hn:tab.length<=100) (hM0:0<=M) (hM1:M<=2147483647) (hR:Room ats n) (hr:P->(l.length:Int)+n<=M) :
 Calls Tryz.prog 77 #[.pointer (some ⟨p,0,none⟩),.slice (some ⟨w.heap.size,0,none⟩) tab.length tab.length] w1 fun e w'=>e=.returned (.tuple #[])∧WS w0 w' b p cs t M (P∧allA ats) (l++allL ats):=by
 have hp:=h.wr.lt;have h1:WrK (fun k=>k<p∨k=w.heap.size) w1 p M P l:=h.wr.more hB fun k hk=>hk.imp id fun e=>by omega
 have hF:Ok (fun k=>k<p∨k=w.heap.size) w1 p:=fun k hk=>hk.elim (fun e=>⟨by omega,by omega⟩) fun e=>⟨by omega,by omega⟩;refine (layRows_any _ b p w.heap.size tab ats cs t _ M P l w1 hT h1 hF (h.k.below hB h.k.lt) (.inl h.bp) hq (.inr rfl) hn hM0 hM1 (fun j q a=>by have:=hr q;have:=hR j a;omega)).mono fun e w' hp=>⟨hp.1,?_⟩;have hpz:=h.wr.lt;exact ⟨hp.2.1.less fun k hk=>.inl hk,(h.k.below hB h.k.lt).of (hp.2.2.block b (.inl h.bp)),(h.low.trans (hB.mono (by omega))).trans (hp.2.2.below fun k hk=>.inl hk),h.bp⟩
def zdc (c:CallP):List Value:=[iI c.xid,iI c.rpc,iI c.prog,iI c.vers,iI c.proc,iI c.cred.flavor,.string ⟨c.cred.body.toArray⟩,iI c.verf.flavor,.string ⟨c.verf.body.toArray⟩,.string ⟨c.args.toArray⟩]
def pcP (c:CallP):List UInt8 × Int:=prM c.may c.lay
def atsH (c:CallP):List (Prop × List UInt8):=[(isW c.xid,nbL 4 c.xid.toNat),(True,nbL 4 (0:Int).toNat),(isW c.rpc,nbL 4 c.rpc.toNat)]
def atsB (c:CallP):List (Prop × List UInt8):=[(isW c.prog,nbL 4 c.prog.toNat),(isW c.vers,nbL 4 c.vers.toNat),(isW c.proc,nbL 4 c.proc.toNat),(isW c.cred.flavor,nbL 4 c.cred.flavor.toNat),(((c.cred.body.length:Nat):Int)<=400,nbL 4 c.cred.body.length++(c.cred.body++padB c.cred.body.length)),(isW c.verf.flavor,nbL 4 c.verf.flavor.toNat),(((c.verf.body.length:Nat):Int)<=400,nbL 4 c.verf.body.length++(c.verf.body++padB c.verf.body.length)),(za8 c.args,c.args)]
theorem tabH (c:CallP):Tab (zdc c) headC (atsH c):=.cons (.word rfl) (.cons (.sign (by decide)) (.cons (.word rfl) .nil))
theorem tabB (c:CallP) (h:c.args.length<=140737488355328):Tab (zdc c) bodyC (atsB c) :=
 .cons (.word rfl) (.cons (.word rfl) (.cons (.word rfl) (.cons (.word rfl) (.cons (.body rfl (by decide) (by decide)) (.cons (.word rfl) (.cons (.body rfl (by decide) (by decide)) (.cons (.tail rfl h) .nil)))))))
theorem roomH (c:CallP):Room (atsH c) 12:=.cons (zcn _) (.cons (sign_room _) (.cons (zcn _) .nil))
theorem roomB (c:CallP):Room (atsB c) 1828:=.cons (zcn _) (.cons (zcn _) (.cons (zcn _) (.cons (zcn _) (.cons (body_room _) (.cons (zcn _) (.cons (body_room _) (.cons (tail_room _) .nil)))))))
theorem call_may (c:CallP) (h2:c.rpc=2):c.may↔((True∧allA (atsH c))∧allA (atsB c)):=by
 unfold CallP.may AuthP.may atsH atsB;simp only [allA,h2];constructor
 · rintro ⟨a1,_,a3,a4,a5,⟨b1,b2⟩,⟨b3,b4⟩,a8⟩;exact ⟨⟨trivial,a1,trivial,by decide,trivial⟩,a3,a4,a5,b1,by omega,b3,by omega,a8,trivial⟩
 · rintro ⟨⟨_,a1,_,_,_⟩,a3,a4,a5,b1,b2,b3,b4,a8,_⟩;exact ⟨a1,trivial,a3,a4,a5,⟨b1,by omega⟩,⟨b3,by omega⟩,a8⟩
theorem call_lay_eq (c:CallP):([]++allL (atsH c))++allL (atsB c)=c.lay:=by
 unfold CallP.lay AuthP.lay atsH atsB;simp only [allL,List.nil_append,List.append_nil,List.append_assoc];rfl
theorem zht (c:CallP) (w:World) (h2:c.rpc≠2) :
 Calls Tryz.prog 95 #[.agg (zdc c).toArray] w fun e w'=>e=.returned (.tuple #[.string ⟨(pcP c).1.toArray⟩,iI (pcP c).2])∧Below w.heap.size w w':=by
 have e:pcP c=([],120):=by
  unfold pcP prM;rw [if_neg (fun q=>h2 q.2.1)]
 rw [e];obtain ⟨wa,hwa⟩:∃ x,w.alloc (.cells (zdc c).toArray 108)=x:=⟨_,rfl⟩;obtain ⟨hk,hB,hz⟩:=boxed w wa _ _ hwa;have a1:wa.cell? ⟨w.heap.size,1,none⟩=some (iI c.rpc):=hk.cell 1 rfl;have HB:=hid hB;have h3:(c.rpc != 2)=true:=bne_iff_ne.2 h2;generalize c.rpc=R at *;generalize (zdc c).toArray=V at *;clear hk hB hz e;go_enter Tryz.func95,Tryz.ntmps95
 go_wp2;refine bodyPost_ret (v:=.tuple #[.string ⟨#[]⟩,iI 120]) (by simp [results,Tryz.results95,go_sem]) rfl ⟨rfl,HB.out⟩
theorem zhs (c:CallP) (w:World) (h2:c.rpc=2) (hT:ErrT w) (hl:c.args.length<=140737488355328) :
 Calls Tryz.prog 95 #[.agg (zdc c).toArray] w fun e w'=>e=.returned (.tuple #[.string ⟨(pcP c).1.toArray⟩,iI (pcP c).2])∧Below w.heap.size w w':=by
 obtain ⟨wa,hwa⟩:∃ x,w.alloc (.cells (zdc c).toArray 108)=x:=⟨_,rfl⟩;obtain ⟨hk,hB,hz⟩:=boxed w wa _ _ hwa;have a1:wa.cell? ⟨w.heap.size,1,none⟩=some (iI 2):=h2 ▸ hk.cell 1 rfl;obtain ⟨wb,hwb⟩:∃ x,x=wa.alloc (.cells #[iI 1840,.slice none 0 0,.nilIface] 181):=⟨_,rfl⟩;have hBb:Below wa.heap.size wa wb:=by rw [hwb];exact zav _ _
 have HS:Hid (WS wb wb w.heap.size wa.heap.size (zdc c) 108 1840 True []):=⟨WrK.new _ 1840 wa wb (by decide) hwb,hk.below hBb (by omega),Below.refl _ _,by omega⟩;have HB:Hid (Below w.heap.size w wb):=hB.trans (hBb.mono (by omega));have Ag:=hid hT;have HZ:=hid hz;have HN:Hid (Calls Tryz.prog 76 #[iI 1840] wa fun e w'=>e=.returned (.pointer (some ⟨wa.heap.size,0,none⟩))∧w'=wb):=by rw [hwb];exact w_new 1840 wa (by decide)
 have Ab:=hid (tabH c);have Ac:=hid (tabB c hl);have Ad:=hid (roomH c);have Ah:=hid (roomB c);have HH:=hid (callHead_any w.heap.size);have Ae:=hid (callBody_any w.heap.size);have Af:Hid (∀ w4,ErrT w4->WS wb w4 w.heap.size wa.heap.size (zdc c) 108 1840 ((True∧allA (atsH c))∧allA (atsB c)) (([]++allL (atsH c))++allL (atsB c))->Calls Tryz.prog 81 #[.pointer (some ⟨wa.heap.size,0,none⟩)] w4 fun e w'=>e=.returned (.tuple #[.string ⟨(pcP c).1.toArray⟩,iI (pcP c).2])∧Below w4.heap.size w4 w') :=
  fun w4 hE h4=>printed_any _ _ 1840 _ c.may _ c.lay w4 h4.wr hE (call_may c h2) (fun _=>call_lay_eq c)
 generalize pcP c=R at *;generalize zdc c=V at *;generalize atsH c=AH at *;generalize atsB c=AB at *;clear hk hB hz hwb hBb hT hl h2;go_enter Tryz.func95,Tryz.ntmps95
 go_wp2_with fail
 refine HN.out.mono ?_;rintro e w1 ⟨rfl,hw1⟩;have hw2:=hw1.symm;clear hw1 HN;subst hw2;go_wp2_with fail
 refine (HH.out _).mono ?_;rintro e w2 ⟨rfl,hq2,hB2,hz2⟩;have H3:=hid (HS.out.lays Ab.out hq2 hB2 hz2 (by decide) (by decide) (by decide) Ad.out (fun _=>by decide));clear hq2 hB2 hz2 HH Ab;go_wp2_with fail
 refine H3.out.mono ?_;rintro e w3 ⟨rfl,hS3⟩;have Ai:=hid hS3;clear hS3 H3;go_wp2_with fail
 refine (Ae.out _).mono ?_;rintro e w4 ⟨rfl,hq4,hB4,hz4⟩
 have H5:=hid (Ai.out.lays Ac.out hq4 hB4 hz4 (by decide) (by decide) (by decide) Ah.out (fun q=>by
  have:=Ad.out.full q.2
  rw [List.nil_append]
  omega))
 clear hq4 hB4 hz4 Ae Ac;go_wp2_with fail
 refine H5.out.mono ?_;rintro e w5 ⟨rfl,hS5⟩;have Aa:Hid (Below w.heap.size w w5):=HB.out.trans (hS5.low.mono (by have:=HZ.out;omega));have H6:=hid (Af.out w5 (Ag.out.below Aa.out) hS5);clear hS5 H5 Af;go_wp2_with fail
 refine H6.out.mono ?_;rintro e w6 ⟨rfl,hB6⟩;have Aj:Hid (Below w.heap.size w w6):=Aa.out.trans (hB6.mono Aa.out.size);clear hB6 H6;go_wp2;refine bodyPost_ret (v:=.tuple #[.string ⟨R.1.toArray⟩,iI R.2]) (by simp [results,Tryz.results95,go_sem]) rfl ⟨rfl,Aj.out⟩
theorem zhu (c:CallP) (w:World) (hT:ErrT w) (hl:c.args.length<=140737488355328) :
 Calls Tryz.prog 95 #[.agg (zdc c).toArray] w fun e w'=>e=.returned (.tuple #[.string ⟨(pcP c).1.toArray⟩,iI (pcP c).2])∧Below w.heap.size w w':=by
 by_cases h2:c.rpc=2
 · exact zhs c w h2 hT hl
 · exact zht c w h2
end Go.Proofs.YtfcbjcebkahehaaGreatDoor
namespace Go.Proofs.YtfcbjcebkahehaaGreatDoor.Cl
open Go.RowKit
structure Wt where
 b:Nat
 bx:Nat
 bc:Nat
 bt:Nat
 seq:Int
 dst:Int
 prog:Int
 vers:Int
 proc:Int
 args:List UInt8
 snd:Int
 due:Int
 fin:Int
 tms:Int
 last:Int
abbrev Wt.fn (x:Wt):Value:=.func (.func 93) #[] #[ptr x.bx,ptr x.bc,ptr x.bt]
abbrev Wt.blk (x:Wt):Obj:=.cells #[iI x.seq,iI x.dst,x.fn,iI x.snd,iI x.due,iI x.fin,iI x.tms,iI x.last] 113
abbrev Wt.bxB (x:Wt):Obj:=.cells #[iI x.seq,iI 2,iI x.prog,iI x.vers,iI x.proc,iI 0,.string ⟨#[]⟩,iI 0,.string ⟨#[]⟩,.string ⟨x.args.toArray⟩] 108
structure Oc where
 seq:Int
 st:Int
 acc:Int
 rej:Int
 why:Int
 low:Int
 high:Int
 res:List UInt8
 at_:Int
def ocC (o:Oc):List Value:=[iI o.seq,iI o.st,iI o.acc,iI o.rej,iI o.why,iI o.low,iI o.high,.string ⟨o.res.toArray⟩,iI o.at_]
theorem ocL (o:Oc):(ocC o).length=9:=rfl
theorem ocO (o:Oc):∀ u∈ocC o,u.oneCell'=true:=by
 intro u hu;simp only [ocC,List.mem_cons,List.not_mem_nil,or_false] at hu;rcases hu with rfl|rfl|rfl|rfl|rfl|rfl|rfl|rfl|rfl <;> rfl
def ptrC (y:Nat):List Value:=[ptr y]
theorem ptrL (y:Nat):(ptrC y).length=1:=rfl
theorem ptrO (y:Nat):∀ u∈ptrC y,u.oneCell'=true:=by
 intro u hu;simp only [ptrC,List.mem_cons,List.not_mem_nil,or_false] at hu;subst hu;rfl
structure WtAt (K:Nat->Nat) (w:World) (t:Nat) (c:Cf) (oa:Option Addr) (cap:Nat) (x:Wt):Prop where
 me:TB K w (t+3) x.b x.blk
 bx:TB K w (t+4) x.bx x.bxB
 bc:TB K w (t+4) x.bc (cfB c oa cap)
 bt:TB K w (t+4) x.bt (.cells #[iI x.dst] 3)
def GsT (K:Nat->Nat) (w:World) (t:Nat) (oa:Option Addr) (gs:List Int):Prop:=0<gs.length->∃ q off,oa=some ⟨q,off,none⟩∧K q=t∧q<w.heap.size∧∀ i,i<gs.length->w.cell? ⟨q,off+i,none⟩=some (iI (gs.getD i 0))
structure Mq where
 blk:Nat
 h:Bool
 m:Nat
 s:Nat
instance:Coe Mq Nat:=⟨Mq.blk⟩
structure MOk (h:Bool) (a b:Nat):Prop where
 ma:a<=1233125376
 mb:b<=1233125376
 z:h=false->a=0∧b=0
abbrev Mq.obj (q:Mq):Obj:=.cells #[.bool q.h,.float .f32 q.m,.float .f32 q.s] 136
structure MB (K:Nat->Nat) (w:World) (t:Nat) (q:Mq):Prop where
 tb:TB K w t q.blk q.obj
 ok:MOk q.h q.m q.s
structure PC (K:Nat->Nat) (w:World) (B t p:Nat) (c:Cf) (oa:Option Addr) (cap:Nat) (next now:Int) (L:List Wt) (D:List Oc) (vw vd:Value) (q:Mq):Prop where
 cl:TB K w t p (clB c oa cap next now vw vd q)
 wr:RW 109 1 ptrC K w B (t+1) vw (L.map Wt.b)
 dn:RW 80 9 ocC K w B (t+2) vd D
 cs:∀ x∈L,WtAt K w t c oa cap x
 nd:(L.map Wt.b).Nodup
 me:MB K w (t+5) q
 gs:GsT K w (t+6) oa c.sys.groups
 gl:c.sys.groups.length<=cap
 ok:okC c=true
 hB:B<=w.heap.size
 err:ErrT w
 h0:∀ b,b<B->K b<t
 b1:1<B
theorem MB.mv {T:Nat->Prop} {K K' : Nat->Nat} {w w' : World} {t:Nat} {q:Mq} (h:MB K w t q) (m:Mv T w w' K K') (ht:¬ T t):MB K' w' t q:=⟨h.tb.mv m ht,h.ok⟩
section
variable {K K' : Nat->Nat} {w w' : World} {B t p:Nat} {c:Cf} {oa:Option Addr} {cap:Nat} {next now:Int} {L:List Wt} {D:List Oc} {vw vd:Value} {q:Mq}
theorem WtAt.mv {T:Nat->Prop} {x:Wt} (h:WtAt K w t c oa cap x) (m:Mv T w w' K K') (h3:¬ T (t+3)) (h4:¬ T (t+4)):WtAt K' w' t c oa cap x:=⟨h.me.mv m h3,h.bx.mv m h4,h.bc.mv m h4,h.bt.mv m h4⟩
theorem GsT.mv {T:Nat->Prop} {gs:List Int} (h:GsT K w t oa gs) (m:Mv T w w' K K') (ht:¬ T t):GsT K' w' t oa gs:=fun h0=>by
 obtain ⟨q,off,e1,e2,e3,e4⟩:=h h0;exact ⟨q,off,e1,(m.old q e3).trans e2,Nat.lt_of_lt_of_le e3 m.size,fun i hi=>(World.cell?_of_block (a:=⟨q,off+i,none⟩) (m.kept q e3 (by rw [e2];exact ht))).trans (e4 i hi)⟩
theorem GsT.at_ {gs:List Int} (h:GsT K w t oa gs):GsAt w w.heap.size oa gs:=fun h0=>by
 obtain ⟨q,off,e1,e2,e3,e4⟩:=h h0;exact ⟨q,off,e1,e3,e4⟩
theorem PC.ce (h:PC K w B t p c oa cap next now L D vw vd q) {k:Nat} {v:Value} (hk:(#[iI c.ad,iI c.inst,iI c.first,iI c.win,iI c.pb,iI c.pc,iI c.pt,iI c.sys.stamp,.string ⟨c.sys.machine.toArray⟩,iI c.sys.user,iI c.sys.group,.slice oa c.sys.groups.length cap,iI next,iI now,vw,vd,ptr q]:Array Value)[k]?=some v):w.cell? ⟨p,k,none⟩=some v:=zaa h.cl.at_ hk
theorem PC.fz (h:PC K w B t p c oa cap next now L D vw vd q) (k:Nat):w.frozen? ⟨p,k,none⟩=false:=zab h.cl.at_ k
theorem PC.now_any (h:PC K w B t p c oa cap next now L D vw vd q):Calls Tryz.prog 24 #[ptr p] w fun e w'=>e=.returned (iI now)∧w'=w:=by
 have c13:=h.ce (k:=13) rfl;clear h;go_enter Tryz.func24,Tryz.ntmps24
 go_wp2;go_ret;exact ⟨rfl,rfl⟩
def zaz (next:Int):List Wt->Int
 | []=>next
 | x::_=>x.seq
theorem PC.water_any (h:PC K w B t p c oa cap next now L D vw vd q):Calls Tryz.prog 23 #[ptr p] w fun e w'=>e=.returned (iI (zaz next L))∧w'=w:=by
 have c14:=h.ce (k:=14) rfl;obtain ⟨o,cp,e,_,hg⟩:=h.wr.form;rw [List.length_map] at e hg;subst e;cases L with
 | nil =>
  have c12:=h.ce (k:=12) rfl;clear h hg;go_enter Tryz.func23,Tryz.ntmps23
  go_wp2;go_ret;exact ⟨rfl,rfl⟩
 | cons x L =>
  obtain ⟨g,rfl⟩:=hg (by simp);have hx:=h.wr.cell ptrL (by rw [List.length_map]) (j:=0) (x:=x.b) rfl 0 (by omega);have c0:w.cell? ⟨g,0,none⟩=some (ptr x.b):=by simpa [ptrC] using hx
  have s0:w.cell? ⟨x.b,0,none⟩=some (iI x.seq):=zaa (h.cs x (by simp)).me.at_ rfl;obtain ⟨n,hn⟩:∃ n,(x::L).length=n:=⟨_,rfl⟩;have hn0:(0:Int)<(n:Int):=by rw [<- hn];simp
  rw [hn] at c14;show Calls _ _ _ _ fun e w'=>e=.returned (iI x.seq)∧w'=w;clear h hg hx hn;go_enter Tryz.func23,Tryz.ntmps23
  go_wp2;go_ret;exact ⟨rfl,rfl⟩
end
theorem zhm (c:Cf) (oa:Option Addr) (cap:Nat) (dst seq prog vers proc:Int) (args:ByteArray) (w:World) :
 Calls Tryz.prog 55 #[.agg (cfA c oa cap),iI dst,.agg #[iI seq,iI 2,iI prog,iI vers,iI proc,iI 0,.string ⟨#[]⟩,iI 0,.string ⟨#[]⟩,.string args]] w fun e w' =>
  e=.returned (.func (.func 93) #[] #[ptr (w.heap.size+1+1),ptr w.heap.size,ptr (w.heap.size+1)])∧w'=((w.alloc (cfB c oa cap)).alloc (.cells #[iI dst] 3)).alloc (.cells #[iI seq,iI 2,iI prog,iI vers,iI proc,iI 0,.string ⟨#[]⟩,iI 0,.string ⟨#[]⟩,.string args] 108):=by
 go_enter Tryz.func55,Tryz.ntmps55
 go_wp2;go_ret;exact ⟨rfl,rfl⟩
def Wt.mark (x:Wt) (c:Cf) (water:Int):MarkP:=⟨c.inst,x.seq,water,c.sys⟩
def zge (m:MarkP):AuthP:=if m.may then ⟨1296126539,m.body⟩ else ⟨0,[]⟩
def Wt.reqC (x:Wt) (c:Cf) (water:Int):CallP:=⟨x.seq,2,x.prog,x.vers,x.proc,zge (x.mark c water),⟨0,[]⟩,x.args⟩
def Wt.data (x:Wt) (c:Cf) (water:Int):List UInt8:=(pcP (x.reqC c water)).1
theorem prM_is (m:MarkP):∃ e,prV 1296126539 (zea m)=.tuple #[.agg #[iI (zge m).flavor,.string ⟨(zge m).body.toArray⟩],iI e]:=by
 unfold zea zge;by_cases h:m.may
 · rw [if_pos h,if_pos h];exact ⟨_,rfl⟩
 · rw [if_neg h,if_neg h];exact ⟨_,rfl⟩
section
variable {K K' : Nat->Nat} {w w' : World} {B t p:Nat} {c:Cf} {oa:Option Addr} {cap:Nat} {next now:Int} {L:List Wt} {D:List Oc} {vw vd:Value} {q:Mq}
theorem WtAt.request_any {x:Wt} (h:WtAt K w t c oa cap x) (water:Int) (hT:ErrT w) (hg:GsAt w w.heap.size oa c.sys.groups) (hcap:c.sys.groups.length<=cap) (hlen:(c.sys.groups.length:Int)<=9223372036854775807) (ha:x.args.length<=1000) :
 Calls Tryz.prog 93 #[iI water,ptr x.bx,ptr x.bc,ptr x.bt] w fun e w'=>e=.returned (.agg #[iI c.ad,iI x.dst,.string ⟨(x.data c water).toArray⟩])∧Below w.heap.size w w':=by
 have l1:x.bx<w.heap.size:=h.bx.lt;have l2:x.bc<w.heap.size:=h.bc.lt;have l3:x.bt<w.heap.size:=h.bt.lt;have HC:Hid (∀ w',Below w.heap.size w w'->w'.heap[x.bx]?=some x.bxB∧w'.heap[x.bc]?=some (cfB c oa cap)∧w'.heap[x.bt]?=some (.cells #[iI x.dst] 3)):=fun w' hb=>⟨(hb.block _ l1).trans h.bx.at_,(hb.block _ l2).trans h.bc.at_,(hb.block _ l3).trans h.bt.at_⟩;obtain ⟨S1,hS1⟩:∃ S1,w.heap.size=S1:=⟨_,rfl⟩;obtain ⟨w1,hw1⟩:∃ w1,w.alloc (.cells #[iI 0,iI 0,.string ⟨#[]⟩] 78)=w1:=⟨_,rfl⟩;have B1:Below w.heap.size w w1:=by rw [<- hw1];exact (Below.refl _ _).alloc (Nat.le_refl _) _
 have k1:w1.heap[S1]?=some (.cells #[iI 0,iI 0,.string ⟨#[]⟩] 78):=by rw [<- hw1,<- hS1];exact (MapKept.heap_alloc w _).1
 obtain ⟨S2,hS2⟩:∃ S2,w1.heap.size=S2:=⟨_,rfl⟩;obtain ⟨w2,hw2⟩:∃ w2,w1.alloc (.cells #[iI 0,iI 0,iI 0,iI 0,iI 0,iI 0,.string ⟨#[]⟩,iI 0,.string ⟨#[]⟩,.string ⟨#[]⟩] 108)=w2:=⟨_,rfl⟩;have B2:Below w.heap.size w w2:=by rw [<- hw2];exact B1.alloc B1.size _
 have k2:w2.heap[S2]?=some (.cells #[iI 0,iI 0,iI 0,iI 0,iI 0,iI 0,.string ⟨#[]⟩,iI 0,.string ⟨#[]⟩,.string ⟨#[]⟩] 108):=by rw [<- hw2,<- hS2];exact (MapKept.heap_alloc w1 _).1
 have hlt1:S1<S2:=by rw [<- hS2];exact (Array.getElem?_eq_some_iff.1 k1).1
 have k21:w2.heap[S1]?=some (.cells #[iI 0,iI 0,.string ⟨#[]⟩] 78):=by rw [<- hw2];exact (Below.heap_alloc _ _ _ (by omega)).trans k1
 have hne:S1≠S2:=by omega
 have hleS:w.heap.size<=S2:=by omega
 obtain ⟨v1,hv1⟩:∃ y,w2.setCell ⟨S2,0,none⟩ (iI x.seq)=y:=⟨_,rfl⟩;have z0:w2.cell? ⟨S2,0,none⟩=some (iI 0):=zaa k2 rfl;have f0:w2.frozen? ⟨S2,0,none⟩=false:=zab k2 0;have kv1:v1.heap[S2]?=some (.cells #[iI x.seq,iI 0,iI 0,iI 0,iI 0,iI 0,.string ⟨#[]⟩,iI 0,.string ⟨#[]⟩,.string ⟨#[]⟩] 108):=by rw [<- hv1];exact zae k2 0 _
 have Bv1:Below w.heap.size w v1:=by rw [<- hv1];exact zac B2 hleS
 have kw1:v1.heap[S1]?=some (.cells #[iI 0,iI 0,.string ⟨#[]⟩] 78):=by rw [<- hv1,Below.heap_setCell _ _ _ _ hne];exact k21
 obtain ⟨v2,hv2⟩:∃ y,v1.setCell ⟨S2,1,none⟩ (iI 2)=y:=⟨_,rfl⟩;have z1:v1.cell? ⟨S2,1,none⟩=some (iI 0):=zaa kv1 rfl;have f1:v1.frozen? ⟨S2,1,none⟩=false:=zab kv1 1;have kv2:v2.heap[S2]?=some (.cells #[iI x.seq,iI 2,iI 0,iI 0,iI 0,iI 0,.string ⟨#[]⟩,iI 0,.string ⟨#[]⟩,.string ⟨#[]⟩] 108):=by rw [<- hv2];exact zae kv1 1 _
 have Bv2:Below w.heap.size w v2:=by rw [<- hv2];exact zac Bv1 hleS
 have kw2:v2.heap[S1]?=some (.cells #[iI 0,iI 0,.string ⟨#[]⟩] 78):=by rw [<- hv2,Below.heap_setCell _ _ _ _ hne];exact kw1
 clear kv1 Bv1 kw1;obtain ⟨v3,hv3⟩:∃ y,v2.setCell ⟨S2,2,none⟩ (iI x.prog)=y:=⟨_,rfl⟩;have z2:v2.cell? ⟨S2,2,none⟩=some (iI 0):=zaa kv2 rfl;have f2:v2.frozen? ⟨S2,2,none⟩=false:=zab kv2 2;have kv3:v3.heap[S2]?=some (.cells #[iI x.seq,iI 2,iI x.prog,iI 0,iI 0,iI 0,.string ⟨#[]⟩,iI 0,.string ⟨#[]⟩,.string ⟨#[]⟩] 108):=by rw [<- hv3];exact zae kv2 2 _
 have Bv3:Below w.heap.size w v3:=by rw [<- hv3];exact zac Bv2 hleS
 have kw3:v3.heap[S1]?=some (.cells #[iI 0,iI 0,.string ⟨#[]⟩] 78):=by rw [<- hv3,Below.heap_setCell _ _ _ _ hne];exact kw2
 clear kv2 Bv2 kw2;obtain ⟨v4,hv4⟩:∃ y,v3.setCell ⟨S2,3,none⟩ (iI x.vers)=y:=⟨_,rfl⟩;have z3:v3.cell? ⟨S2,3,none⟩=some (iI 0):=zaa kv3 rfl;have f3:v3.frozen? ⟨S2,3,none⟩=false:=zab kv3 3;have kv4:v4.heap[S2]?=some (.cells #[iI x.seq,iI 2,iI x.prog,iI x.vers,iI 0,iI 0,.string ⟨#[]⟩,iI 0,.string ⟨#[]⟩,.string ⟨#[]⟩] 108):=by rw [<- hv4];exact zae kv3 3 _
 have Bv4:Below w.heap.size w v4:=by rw [<- hv4];exact zac Bv3 hleS
 have kw4:v4.heap[S1]?=some (.cells #[iI 0,iI 0,.string ⟨#[]⟩] 78):=by rw [<- hv4,Below.heap_setCell _ _ _ _ hne];exact kw3
 clear kv3 Bv3 kw3;obtain ⟨v5,hv5⟩:∃ y,v4.setCell ⟨S2,4,none⟩ (iI x.proc)=y:=⟨_,rfl⟩;have z4:v4.cell? ⟨S2,4,none⟩=some (iI 0):=zaa kv4 rfl;have f4:v4.frozen? ⟨S2,4,none⟩=false:=zab kv4 4;have kv5:v5.heap[S2]?=some (.cells #[iI x.seq,iI 2,iI x.prog,iI x.vers,iI x.proc,iI 0,.string ⟨#[]⟩,iI 0,.string ⟨#[]⟩,.string ⟨#[]⟩] 108):=by rw [<- hv5];exact zae kv4 4 _
 have Bv5:Below w.heap.size w v5:=by rw [<- hv5];exact zac Bv4 hleS
 have kw5:v5.heap[S1]?=some (.cells #[iI 0,iI 0,.string ⟨#[]⟩] 78):=by rw [<- hv5,Below.heap_setCell _ _ _ _ hne];exact kw4
 clear kv4 Bv4 kw4;obtain ⟨v6,hv6⟩:∃ y,v5.setCell ⟨S2,5,none⟩ (iI 0)=y:=⟨_,rfl⟩;have z5:v5.cell? ⟨S2,5,none⟩=some (iI 0):=zaa kv5 rfl;have f5:v5.frozen? ⟨S2,5,none⟩=false:=zab kv5 5;have kv6:v6.heap[S2]?=some (.cells #[iI x.seq,iI 2,iI x.prog,iI x.vers,iI x.proc,iI 0,.string ⟨#[]⟩,iI 0,.string ⟨#[]⟩,.string ⟨#[]⟩] 108):=by rw [<- hv6];exact zae kv5 5 _
 have Bv6:Below w.heap.size w v6:=by rw [<- hv6];exact zac Bv5 hleS
 have kw6:v6.heap[S1]?=some (.cells #[iI 0,iI 0,.string ⟨#[]⟩] 78):=by rw [<- hv6,Below.heap_setCell _ _ _ _ hne];exact kw5
 clear kv5 Bv5 kw5;obtain ⟨v7,hv7⟩:∃ y,v6.setCell ⟨S2,6,none⟩ (.string ⟨#[]⟩)=y:=⟨_,rfl⟩;have z6:v6.cell? ⟨S2,6,none⟩=some (.string ⟨#[]⟩):=zaa kv6 rfl;have f6:v6.frozen? ⟨S2,6,none⟩=false:=zab kv6 6;have kv7:v7.heap[S2]?=some (.cells #[iI x.seq,iI 2,iI x.prog,iI x.vers,iI x.proc,iI 0,.string ⟨#[]⟩,iI 0,.string ⟨#[]⟩,.string ⟨#[]⟩] 108):=by rw [<- hv7];exact zae kv6 6 _
 have Bv7:Below w.heap.size w v7:=by rw [<- hv7];exact zac Bv6 hleS
 have kw7:v7.heap[S1]?=some (.cells #[iI 0,iI 0,.string ⟨#[]⟩] 78):=by rw [<- hv7,Below.heap_setCell _ _ _ _ hne];exact kw6
 clear kv6 Bv6 kw6;obtain ⟨v8,hv8⟩:∃ y,v7.setCell ⟨S2,7,none⟩ (iI 0)=y:=⟨_,rfl⟩;have z7:v7.cell? ⟨S2,7,none⟩=some (iI 0):=zaa kv7 rfl;have f7:v7.frozen? ⟨S2,7,none⟩=false:=zab kv7 7;have kv8:v8.heap[S2]?=some (.cells #[iI x.seq,iI 2,iI x.prog,iI x.vers,iI x.proc,iI 0,.string ⟨#[]⟩,iI 0,.string ⟨#[]⟩,.string ⟨#[]⟩] 108):=by rw [<- hv8];exact zae kv7 7 _
 have Bv8:Below w.heap.size w v8:=by rw [<- hv8];exact zac Bv7 hleS
 have kw8:v8.heap[S1]?=some (.cells #[iI 0,iI 0,.string ⟨#[]⟩] 78):=by rw [<- hv8,Below.heap_setCell _ _ _ _ hne];exact kw7
 clear kv7 Bv7 kw7;obtain ⟨v9,hv9⟩:∃ y,v8.setCell ⟨S2,8,none⟩ (.string ⟨#[]⟩)=y:=⟨_,rfl⟩;have z8:v8.cell? ⟨S2,8,none⟩=some (.string ⟨#[]⟩):=zaa kv8 rfl;have f8:v8.frozen? ⟨S2,8,none⟩=false:=zab kv8 8;have kv9:v9.heap[S2]?=some (.cells #[iI x.seq,iI 2,iI x.prog,iI x.vers,iI x.proc,iI 0,.string ⟨#[]⟩,iI 0,.string ⟨#[]⟩,.string ⟨#[]⟩] 108):=by rw [<- hv9];exact zae kv8 8 _
 have Bv9:Below w.heap.size w v9:=by rw [<- hv9];exact zac Bv8 hleS
 have kw9:v9.heap[S1]?=some (.cells #[iI 0,iI 0,.string ⟨#[]⟩] 78):=by rw [<- hv9,Below.heap_setCell _ _ _ _ hne];exact kw8
 clear kv8 Bv8 kw8;obtain ⟨w3,hw3⟩:∃ y,v9.setCell ⟨S2,9,none⟩ (.string ⟨x.args.toArray⟩)=y:=⟨_,rfl⟩;have z9:v9.cell? ⟨S2,9,none⟩=some (.string ⟨#[]⟩):=zaa kv9 rfl;have f9:v9.frozen? ⟨S2,9,none⟩=false:=zab kv9 9;have k3:w3.heap[S2]?=some (.cells #[iI x.seq,iI 2,iI x.prog,iI x.vers,iI x.proc,iI 0,.string ⟨#[]⟩,iI 0,.string ⟨#[]⟩,.string ⟨x.args.toArray⟩] 108):=by rw [<- hw3];exact zae kv9 9 _
 have B3:Below w.heap.size w w3:=by rw [<- hw3];exact zac Bv9 hleS
 have k31:w3.heap[S1]?=some (.cells #[iI 0,iI 0,.string ⟨#[]⟩] 78):=by rw [<- hw3,Below.heap_setCell _ _ _ _ hne];exact kw9
 clear kv9 Bv9 kw9;have hle:w.heap.size<=S2:=by omega
 have a0:w1.cell? ⟨x.bx,0,none⟩=some (iI x.seq):=zaa (HC.out w1 B1).1 rfl;have a1:w1.cell? ⟨x.bx,1,none⟩=some (iI 2):=zaa (HC.out w1 B1).1 rfl;have a2:w1.cell? ⟨x.bx,2,none⟩=some (iI x.prog):=zaa (HC.out w1 B1).1 rfl;have a3:w1.cell? ⟨x.bx,3,none⟩=some (iI x.vers):=zaa (HC.out w1 B1).1 rfl;have a4:w1.cell? ⟨x.bx,4,none⟩=some (iI x.proc):=zaa (HC.out w1 B1).1 rfl;have a5:w1.cell? ⟨x.bx,5,none⟩=some (iI 0):=zaa (HC.out w1 B1).1 rfl;have a6:w1.cell? ⟨x.bx,6,none⟩=some (.string ⟨#[]⟩):=zaa (HC.out w1 B1).1 rfl;have a7:w1.cell? ⟨x.bx,7,none⟩=some (iI 0):=zaa (HC.out w1 B1).1 rfl;have a8:w1.cell? ⟨x.bx,8,none⟩=some (.string ⟨#[]⟩):=zaa (HC.out w1 B1).1 rfl;have a9:w1.cell? ⟨x.bx,9,none⟩=some (.string ⟨x.args.toArray⟩):=zaa (HC.out w1 B1).1 rfl;have e0:w3.cell? ⟨x.bx,0,none⟩=some (iI x.seq):=zaa (HC.out w3 B3).1 rfl;have c0:w3.cell? ⟨x.bc,0,none⟩=some (iI c.ad):=zaa (HC.out w3 B3).2.1 rfl;have c1:w3.cell? ⟨x.bc,1,none⟩=some (iI c.inst):=zaa (HC.out w3 B3).2.1 rfl;have c7:w3.cell? ⟨x.bc,7,none⟩=some (iI c.sys.stamp):=zaa (HC.out w3 B3).2.1 rfl;have c8:w3.cell? ⟨x.bc,8,none⟩=some (.string ⟨c.sys.machine.toArray⟩):=zaa (HC.out w3 B3).2.1 rfl;have c9:w3.cell? ⟨x.bc,9,none⟩=some (iI c.sys.user):=zaa (HC.out w3 B3).2.1 rfl;have c10:w3.cell? ⟨x.bc,10,none⟩=some (iI c.sys.group):=zaa (HC.out w3 B3).2.1 rfl;have c11:w3.cell? ⟨x.bc,11,none⟩=some (.slice oa c.sys.groups.length cap):=zaa (HC.out w3 B3).2.1 rfl;obtain ⟨ec,hpr⟩:=prM_is (x.mark c water);have HM:Hid (Calls Tryz.prog 94 #[.agg #[iI c.inst,iI x.seq,iI water,iI c.sys.stamp,.string ⟨c.sys.machine.toArray⟩,iI c.sys.user,iI c.sys.group,.slice oa c.sys.groups.length cap]] w3 fun e w'=>e=.returned (.tuple #[.agg #[iI (zge (x.mark c water)).flavor,.string ⟨(zge (x.mark c water)).body.toArray⟩],iI ec])∧Below w3.heap.size w3 w'):=by
  have:=zhr (x.mark c water) oa cap w3 (hT.below B3) (fun h0=>by
   obtain ⟨q,off,e1,e2,e3⟩:=(hg.below B3) h0
   exact ⟨q,off,e1,Nat.lt_of_lt_of_le e2 B3.size,e3⟩) hcap hlen
  rw [hpr] at this;exact this
 obtain ⟨fl,hfl⟩:∃ fl,(zge (x.mark c water)).flavor=fl:=⟨_,rfl⟩;obtain ⟨bo,hbo⟩:∃ bo,(⟨(zge (x.mark c water)).body.toArray⟩:ByteArray)=bo:=⟨_,rfl⟩;rw [hfl,hbo] at HM;have HP:Hid (∀ w',ErrT w'->Calls Tryz.prog 95 #[.agg #[iI x.seq,iI 2,iI x.prog,iI x.vers,iI x.proc,iI fl,.string bo,iI 0,.string ⟨#[]⟩,.string ⟨x.args.toArray⟩]] w' fun e w''=>∃ ed,e=.returned (.tuple #[.string ⟨(x.data c water).toArray⟩,iI ed])∧Below w'.heap.size w' w''):=fun w' hT'=>by
  refine (zhu (x.reqC c water) w' hT' (by show x.args.length<=_;omega)).mono ?_ |> fun hh=>by
   rw [<- hfl,<- hbo];exact hh
  rintro _ w'' ⟨rfl,hb⟩;exact ⟨_,rfl,hb⟩
 have HK:Hid (w3.heap[S2]?=some (.cells #[iI x.seq,iI 2,iI x.prog,iI x.vers,iI x.proc,iI 0,.string ⟨#[]⟩,iI 0,.string ⟨#[]⟩,.string ⟨x.args.toArray⟩] 108)∧w3.heap[S1]?=some (.cells #[iI 0,iI 0,.string ⟨#[]⟩] 78)∧Below w.heap.size w w3∧w.heap.size=S1∧S1<S2∧ErrT w3):=⟨k3,k31,B3,hS1,hlt1,hT.below B3⟩;have Ac:=hid hT;clear h hT hg hcap hlen ha l1 l2 l3 B1 k1 B2 k2 k21 k3 B3 k31 hle hlt1 hpr hfl hbo hne hleS;go_enter Tryz.func93,Tryz.ntmps93
 go_wp2_with fail
 refine HM.out.mono ?_;rintro _ w4 ⟨rfl,hb4⟩;clear a0 a1 a2 a3 a4 a5 a6 a7 a8 a9 z0 z1 z2 z3 z4 z5 z6 z7 z8 z9 f0 f1 f2 f3 f4 f5 f6 f7 f8 f9 hv1 hv2 hv3 hv4 hv5 hv6 hv7 hv8 hv9 e0 c0 c1 c7 c8 c9 c10 c11 hw1 hw2 hw3 HM;have k4:w4.heap[S2]?=some (.cells #[iI x.seq,iI 2,iI x.prog,iI x.vers,iI x.proc,iI 0,.string ⟨#[]⟩,iI 0,.string ⟨#[]⟩,.string ⟨x.args.toArray⟩] 108):=(hb4.block _ (Array.getElem?_eq_some_iff.1 HK.out.1).1).trans HK.out.1;have k41:=(hb4.block _ (Array.getElem?_eq_some_iff.1 HK.out.2.1).1).trans HK.out.2.1;have B4:Below w.heap.size w w4:=HK.out.2.2.1.trans (hb4.mono HK.out.2.2.1.size);obtain ⟨w5,hw5⟩:∃ w5,(w4.setCell ⟨S2,5,none⟩ (iI fl)).setCell ⟨S2,6,none⟩ (.string bo)=w5:=⟨_,rfl⟩;have k5:w5.heap[S2]?=some (.cells #[iI x.seq,iI 2,iI x.prog,iI x.vers,iI x.proc,iI fl,.string bo,iI 0,.string ⟨#[]⟩,.string ⟨x.args.toArray⟩] 108):=by
  rw [<- hw5];exact zae (zae k4 5 _) 6 _
 have hle:w.heap.size<=S2:=by have:=HK.out.2.2.2;omega
 have B5:Below w.heap.size w w5:=by rw [<- hw5];exact zac (zac B4 hle) hle
 have k51:w5.heap[S1]?=some (.cells #[iI 0,iI 0,.string ⟨#[]⟩] 78):=by
  rw [<- hw5];have hne:S1≠S2:=by have:=HK.out.2.2.2;omega
  rw [Below.heap_setCell _ _ _ _ hne,Below.heap_setCell _ _ _ _ hne];exact k41
 have z5:w4.cell? ⟨S2,5,none⟩=some (iI 0):=zaa k4 rfl;have z6:w4.cell? ⟨S2,6,none⟩=some (.string ⟨#[]⟩):=zaa k4 rfl;have f4:∀ n,w4.frozen? ⟨S2,n,none⟩=false:=fun n=>zab k4 n;have g0:w5.cell? ⟨S2,0,none⟩=some (iI x.seq):=zaa k5 rfl;have g1:w5.cell? ⟨S2,1,none⟩=some (iI 2):=zaa k5 rfl;have g2:w5.cell? ⟨S2,2,none⟩=some (iI x.prog):=zaa k5 rfl;have g3:w5.cell? ⟨S2,3,none⟩=some (iI x.vers):=zaa k5 rfl;have g4:w5.cell? ⟨S2,4,none⟩=some (iI x.proc):=zaa k5 rfl;have g5:w5.cell? ⟨S2,5,none⟩=some (iI fl):=zaa k5 rfl;have g6:w5.cell? ⟨S2,6,none⟩=some (.string bo):=zaa k5 rfl;have g7:w5.cell? ⟨S2,7,none⟩=some (iI 0):=zaa k5 rfl;have g8:w5.cell? ⟨S2,8,none⟩=some (.string ⟨#[]⟩):=zaa k5 rfl;have g9:w5.cell? ⟨S2,9,none⟩=some (.string ⟨x.args.toArray⟩):=zaa k5 rfl;have E5:ErrT w5:=Ac.out.below B5;have Ab:=hid (HP.out w5 E5);have Aa:Hid (w5.heap[S1]?=some (.cells #[iI 0,iI 0,.string ⟨#[]⟩] 78)∧Below w.heap.size w w5):=⟨k51,B5⟩;clear k4 k41 B4 k5 hle B5 k51 E5 hb4 HP;go_wp2_with fail
 refine Ab.out.mono ?_;rintro _ w6 ⟨ed,rfl,hb6⟩;have k6:=(hb6.block _ (Array.getElem?_eq_some_iff.1 Aa.out.1).1).trans Aa.out.1;have B6:Below w.heap.size w w6:=Aa.out.2.trans (hb6.mono Aa.out.2.size);have q0:w6.cell? ⟨x.bc,0,none⟩=some (iI c.ad):=zaa (HC.out w6 B6).2.1 rfl;have q1:w6.cell? ⟨x.bt,0,none⟩=some (iI x.dst):=zaa (HC.out w6 B6).2.2 rfl;have r0:w6.cell? ⟨S1,0,none⟩=some (iI 0):=zaa k6 rfl;have r1:w6.cell? ⟨S1,1,none⟩=some (iI 0):=zaa k6 rfl;have r2:w6.cell? ⟨S1,2,none⟩=some (.string ⟨#[]⟩):=zaa k6 rfl;have f6:∀ n,w6.frozen? ⟨S1,n,none⟩=false:=fun n=>zab k6 n;obtain ⟨dt,hdt⟩:∃ dt,(⟨(x.data c water).toArray⟩:ByteArray)=dt:=⟨_,rfl⟩;rw [hdt];obtain ⟨w7,hw7⟩:∃ w7,((w6.setCell ⟨S1,0,none⟩ (iI c.ad)).setCell ⟨S1,1,none⟩ (iI x.dst)).setCell ⟨S1,2,none⟩ (.string dt)=w7:=⟨_,rfl⟩;have k7:w7.heap[S1]?=some (.cells #[iI c.ad,iI x.dst,.string dt] 78):=by rw [<- hw7];exact zae (zae (zae k6 0 _) 1 _) 2 _
 have Ad:Hid (Below w.heap.size w w7):=by
  have hle:w.heap.size<=S1:=by have:=HK.out.2.2.2;omega
  show Below _ _ _;rw [<- hw7];exact zac (zac (zac B6 hle) hle) hle
 have p0:w7.cell? ⟨S1,0,none⟩=some (iI c.ad):=zaa k7 rfl;have p1:w7.cell? ⟨S1,1,none⟩=some (iI x.dst):=zaa k7 rfl;have p2:w7.cell? ⟨S1,2,none⟩=some (.string dt):=zaa k7 rfl;clear k6 k7 hb6 B6 g0 g1 g2 g3 g4 g5 g6 g7 g8 g9 z5 z6 f4 hw5 Ab HC HK Aa;go_wp2;refine bodyPost_ret (v:=.agg #[iI c.ad,iI x.dst,.string dt]) (by simp [results,Tryz.results93,go_sem,p0,p1,p2]) rfl ⟨by rw [hdt],Ad.out⟩
end
abbrev paB (b c t:Int):Obj:=.cells #[iI b,iI c,iI t] 23
def dueB (pt now snd due:Int):Bool:=decide (snd<pt)&&decide (due<=now)
theorem isDue_any (pb pc pt now snd due:Int) (b:Nat) (w:World) (h3:w.cell? ⟨b,3,none⟩=some (iI snd)) (h4:w.cell? ⟨b,4,none⟩=some (iI due)) :
 Calls Tryz.prog 56 #[ptr b,.agg #[iI pb,iI pc,iI pt],iI now] w fun e w'=>e=.returned (.bool (dueB pt now snd due))∧Below w.heap.size w w':=by
 obtain ⟨w0,hw0⟩:∃ w0,w.alloc (paB pb pc pt)=w0:=⟨_,rfl⟩;obtain ⟨S0,hS0⟩:∃ S0,w.heap.size=S0:=⟨_,rfl⟩;have B0:Below w.heap.size w w0:=by rw [<- hw0];exact (Below.refl _ _).alloc (Nat.le_refl _) _
 have k0:w0.heap[S0]?=some (paB pb pc pt):=by rw [<- hw0,<- hS0];exact (MapKept.heap_alloc w _).1
 have c2:w0.cell? ⟨S0,2,none⟩=some (iI pt):=zaa k0 rfl;have d3:w0.cell? ⟨b,3,none⟩=some (iI snd):=(World.cell?_of_block (a:=⟨b,3,none⟩) (B0.block b (World.block_lt_of_cell? _ _ h3))).trans h3;have d4:w0.cell? ⟨b,4,none⟩=some (iI due):=(World.cell?_of_block (a:=⟨b,4,none⟩) (B0.block b (World.block_lt_of_cell? _ _ h4))).trans h4;have HB:Hid (∀ n,Below w.heap.size w (w0.drewN n)):=fun n=>⟨B0.os,B0.tape,B0.output,B0.size,B0.block⟩;unfold dueB;rw [hS0] at HB ⊢;clear h3 h4 k0 B0;cases e1:decide (snd<pt)
 · go_enter Tryz.func56,Tryz.ntmps56
   go_wp2_with fail
   go_quiet (fail)
   go_wp2;go_ret;exact ⟨rfl,HB.out _⟩
 · cases e2:decide (due<=now);all_goals (
    (go_enter Tryz.func56,Tryz.ntmps56);(go_wp2_with fail);go_quiet (fail)
    go_wp2;go_ret
    exact ⟨rfl,HB.out _⟩)
def runG (pb pc pt now:Int):Nat->Int × Int->Int × Int
 | 0,s=>s
 | k+1,s=>if dueB pt now s.1 s.2 then runG pb pc pt now k (s.1+1,s.2+Pc.waitP pb pc pt s.1) else s
theorem runG_stop {pb pc pt now:Int} {s:Int × Int} (h:dueB pt now s.1 s.2=false):∀ k,runG pb pc pt now k s=s
 | 0=>rfl
 | k+1=>by show (if dueB pt now s.1 s.2 then _ else s)=s;rw [h];simp
theorem runG_go {pb pc pt now:Int} {s:Int × Int} (h:dueB pt now s.1 s.2=true) (k:Nat):runG pb pc pt now (k+1) s=runG pb pc pt now k (s.1+1,s.2+Pc.waitP pb pc pt s.1):=by
 show (if dueB pt now s.1 s.2 then _ else s)=_;rw [h];simp
abbrev gvB (q0 q1 f:Value) (snd due fin tms last:Int):Obj:=.cells #[q0,q1,f,iI snd,iI due,iI fin,iI tms,iI last] 113
def numC (b:Nat) (w:World):Int:=match w.cell? ⟨b,3,none⟩ with|some (.int _ n)=>n|_=>0
structure Gv (w0 w:World) (b S0:Nat) (q0 q1 f:Value) (pb pc pt snd due fin tms last:Int):Prop where
 at_:w.heap[b]?=some (gvB q0 q1 f snd due fin tms last)
 box:w.heap[S0]?=some (paB pb pc pt)
 fr:w0.grownBy w (some b)
 lt:b<S0
theorem grown_below {w0 w w' : World} {b:Nat} (h:w0.grownBy w (some b)) (hb:Below w.heap.size w w'):w0.grownBy w' (some b) :=
 ⟨hb.os.trans h.os,hb.tape.trans h.tape,hb.output.trans h.output,Nat.le_trans h.size hb.size,fun k hk hn=>(hb.block k (Nat.lt_of_lt_of_le hk h.size)).trans (h.block k hk hn)⟩
theorem zeh {w0 w:World} {b k:Nat} {v:Value} (h:w0.grownBy w (some b)):w0.grownBy (w.setCell ⟨b,k,none⟩ v) (some b) :=
 ⟨h.os,h.tape,h.output,by simpa [World.setCell] using h.size,fun i hi hn=>by rw [Below.heap_setCell _ _ _ _ (show i≠b from fun e=>hn (by rw [e]))];exact h.block i hi hn⟩
theorem Gv.below {w0 w w' : World} {b S0:Nat} {q0 q1 f:Value} {pb pc pt snd due fin tms last:Int} (h:Gv w0 w b S0 q0 q1 f pb pc pt snd due fin tms last) (hb:Below w.heap.size w w'):Gv w0 w' b S0 q0 q1 f pb pc pt snd due fin tms last :=
 ⟨(hb.block b (Array.getElem?_eq_some_iff.1 h.at_).1).trans h.at_,(hb.block S0 (Array.getElem?_eq_some_iff.1 h.box).1).trans h.box,grown_below h.fr hb,h.lt⟩
theorem Gv.set {w0 w:World} {b S0:Nat} {q0 q1 f:Value} {pb pc pt snd due fin tms last:Int} (h:Gv w0 w b S0 q0 q1 f pb pc pt snd due fin tms last) (n:Int) :
 Gv w0 (w.setCell ⟨b,3,none⟩ (iI n)) b S0 q0 q1 f pb pc pt n due fin tms last∧Gv w0 (w.setCell ⟨b,4,none⟩ (iI n)) b S0 q0 q1 f pb pc pt snd n fin tms last∧Gv w0 (w.setCell ⟨b,6,none⟩ (iI n)) b S0 q0 q1 f pb pc pt snd due fin n last∧Gv w0 (w.setCell ⟨b,7,none⟩ (iI n)) b S0 q0 q1 f pb pc pt snd due fin tms n:=by
 have hne:S0≠b:=by have:=h.lt;omega
 have hb:∀ k v,(w.setCell ⟨b,k,none⟩ v).heap[S0]?=some (paB pb pc pt):=fun k v=>(Below.heap_setCell _ _ _ _ hne).trans h.box;exact ⟨⟨zae h.at_ 3 _,hb _ _,zeh h.fr,h.lt⟩,⟨zae h.at_ 4 _,hb _ _,zeh h.fr,h.lt⟩,⟨zae h.at_ 6 _,hb _ _,zeh h.fr,h.lt⟩,⟨zae h.at_ 7 _,hb _ _,zeh h.fr,h.lt⟩⟩
theorem give_any (b:Nat) (q0 q1 f:Value) (pb pc pt now snd due fin tms last:Int) (w:World) (h:w.heap[b]?=some (gvB q0 q1 f snd due fin tms last)) (hs:0<=snd) (hp:pt<=32) (hd:-1000000000000<=due∧due<=1000000000000) (ht:0<=tms∧tms<=1000000000000) :
 Calls Tryz.prog 57 #[ptr b,.agg #[iI pb,iI pc,iI pt],iI now] w fun e w'=>(∃ v,e=.returned v)∧w'.heap[b]?=some (gvB q0 q1 f (runG pb pc pt now 40 (snd,due)).1 (runG pb pc pt now 40 (snd,due)).2 fin (tms+1) now)∧w.grownBy w' (some b):=by
 obtain ⟨w0,hw0⟩:∃ w0,w.alloc (paB pb pc pt)=w0:=⟨_,rfl⟩;obtain ⟨S0,hS0⟩:∃ S0,w.heap.size=S0:=⟨_,rfl⟩;have hlt:b<w.heap.size:=(Array.getElem?_eq_some_iff.1 h).1;have HG:Hid (Gv w w0 b S0 q0 q1 f pb pc pt snd due fin tms last):=by
  refine ⟨?_,?_,?_,by omega⟩
  · rw [<- hw0];exact (Below.heap_alloc _ _ _ hlt).trans h
  · rw [<- hw0,<- hS0];exact (MapKept.heap_alloc w _).1
  · rw [<- hw0];exact ⟨rfl,rfl,rfl,by simp,fun k hk _=>Below.heap_alloc _ _ _ hk⟩
 have HH:Hid (0<=snd∧pt<=32∧(-1000000000000<=due∧due<=1000000000000)):=⟨hs,hp,hd⟩;have HT:Hid (0<=tms∧tms<=1000000000000):=ht;clear h hlt hs hp hd ht;go_enter Tryz.func57,Tryz.ntmps57
 go_wp2_with fail
 go_loopw [] (fun wr=>∃ (j:Nat) (s d:Int),Hid (Gv w wr b S0 q0 q1 f pb pc pt s d fin tms last∧s=snd+j∧j<=40∧(d<=due+j*1048576∧due<=d)∧runG pb pc pt now 40 (snd,due)=runG pb pc pt now (40 - j) (s,d))) (fun wr=>(40 - (numC b wr)).toNat)
 case atStart=>exact ⟨0,snd,due,HG.out,by omega,by omega,by omega,rfl⟩
 case round =>
  obtain ⟨j,s,d,HR⟩:=hrel;clear HG;obtain ⟨wo,hwo⟩:∃ yy,yy=wr:=⟨_,rfl⟩;subst hwo;have p0:wo.cell? ⟨S0,0,none⟩=some (iI pb):=zaa HR.out.1.box rfl;have p1:wo.cell? ⟨S0,1,none⟩=some (iI pc):=zaa HR.out.1.box rfl;have p2:wo.cell? ⟨S0,2,none⟩=some (iI pt):=zaa HR.out.1.box rfl;have HD:=hid (isDue_any pb pc pt now s d b wo (zaa HR.out.1.at_ rfl) (zaa HR.out.1.at_ rfl));obtain ⟨bd,hbd⟩:∃ bd,dueB pt now s d=bd:=⟨_,rfl⟩;rw [hbd] at HD;have Ab:=hid hbd;clear hbd;go_wp2_with fail
  refine HD.out.mono ?_;rintro _ w1 ⟨rfl,hb1⟩;have Aa:=hid (HR.out.1.below hb1);clear HD p0 p1 p2 hb1;cases bd
  · have HF:=runG_stop (s:=(s,d)) (pb:=pb) (pc:=pc) Ab.out (40 - j);have hrun:runG pb pc pt now 40 (snd,due)=(s,d):=HR.out.2.2.2.2.trans HF;have c6:w1.cell? ⟨b,6,none⟩=some (iI tms):=zaa Aa.out.at_ rfl;have f6:=zab Aa.out.at_ 6;have hwt:wrap64 (tms+1)=tms+1:=(by have:=HT.out;unfold wrap64;omega);obtain ⟨w2,hw2⟩:∃ w2,w1.setCell ⟨b,6,none⟩ (iI (tms+1))=w2:=⟨_,rfl⟩;have g2:=(Aa.out.set (tms+1)).2.2.1;rw [hw2] at g2;have c7:w2.cell? ⟨b,7,none⟩=some (iI last):=zaa g2.at_ rfl;have f7:=zab g2.at_ 7;obtain ⟨w3,hw3⟩:∃ w3,w2.setCell ⟨b,7,none⟩ (iI now)=w3:=⟨_,rfl⟩;have g3:=(g2.set now).2.2.2;rw [hw3] at g3;have HE:Hid (w3.heap[b]?=some (gvB q0 q1 f (runG pb pc pt now 40 (snd,due)).1 (runG pb pc pt now 40 (snd,due)).2 fin (tms+1) now)∧w.grownBy w3 (some b)):=⟨by rw [hrun];exact g3.at_,g3.fr⟩;clear HR Aa g2 g3 HF hrun Ab HH HT;go_wp2;(first|go_end0|((try simp only [Exit.inBlock,Exit.then]);refine bodyPost_ret (results_none rfl _ _ _) rfl ?_));exact ⟨⟨_,rfl⟩,HE.out⟩
  · obtain ⟨wt,hwt⟩:∃ wt,Pc.waitP pb pc pt s=wt:=⟨_,rfl⟩;have hwi:=Pc.wait_in pb pc pt s;rw [hwt] at hwi;have hlt:s<pt:=by
     have h1:=Ab.out;unfold dueB at h1;simp only [Bool.and_eq_true,decide_eq_true_eq] at h1;exact h1.1
    have hhh:=HH.out;have hrr:=HR.out.2;have Ac:Hid (∀ w' : World,Calls Tryz.prog 91 #[.agg #[iI pb,iI pc,iI pt],iI s] w' fun e w''=>e=.returned (iI wt)∧Below w'.heap.size w' w''):=fun w'=>by
     rw [<- hwt];exact Pc.wait_any w' pb pc pt s (by omega)
    have hj40:j<40:=(by omega);have Ad:Hid (s+1=snd+(j+1:Nat)∧j+1<=40∧(d+wt<=due+(j+1:Nat)*1048576∧due<=d+wt)∧runG pb pc pt now 40 (snd,due)=runG pb pc pt now (40 - (j+1)) (s+1,d+wt)):=by
     refine ⟨by omega,by omega,by omega,?_⟩;rw [hrr.2.2.2,show 40 - j=(40 - (j+1))+1 by omega,runG_go (s:=(s,d)) Ab.out,hwt]
    have hdw:IntKind.i64.wrap (d+wt)=d+wt:=(by rw [IntWalk.i64_left];unfold wrap64;omega);have hs1:wrap64 (s+1)=s+1:=(by unfold wrap64;omega);have HM:Hid (s<40∧0<=s):=⟨by omega,by omega⟩;have Ae:Hid (numC b wo=s):=by
     show _=_;unfold numC;rw [show wo.cell? ⟨b,3,none⟩=some (iI s) from zaa HR.out.1.at_ rfl]
    clear hwi hlt hhh hrr hwt hj40 HR Ab HH HT;(go_wp2_with fail);go_cut [20] (fun _ wx=>Hid (Gv w wx b S0 q0 q1 f pb pc pt s (d+wt) fin tms last))
    case first =>
     have p0:w1.cell? ⟨S0,0,none⟩=some (iI pb):=zaa Aa.out.box rfl;have p1:w1.cell? ⟨S0,1,none⟩=some (iI pc):=zaa Aa.out.box rfl;have p2:w1.cell? ⟨S0,2,none⟩=some (iI pt):=zaa Aa.out.box rfl;have a3:w1.cell? ⟨b,3,none⟩=some (iI s):=zaa Aa.out.at_ rfl;have a4:w1.cell? ⟨b,4,none⟩=some (iI d):=zaa Aa.out.at_ rfl
     go_region_with (first
      | (go_at_call 91
         refine (Ac.out _).mono ?_;rintro _ w3 ⟨rfl,hb3⟩;have G3:=Aa.out.below (w':=w3) ⟨hb3.os,hb3.tape,hb3.output,hb3.size,hb3.block⟩;have b4:w3.cell? ⟨b,4,none⟩=some (iI d):=zaa G3.at_ rfl;have f4:=zab G3.at_ 4;have Af:=hid G3
         clear G3 hb3))
     all_goals (
      (go_wp2_with fail);go_meet
      exact (Af.out.set (d+wt)).2.1)
    case rest =>
     have G4:=hcut.out;obtain ⟨w4,hw4⟩:∃ yy,yy=wc:=⟨_,rfl⟩;subst hw4;have a3:w4.cell? ⟨b,3,none⟩=some (iI s):=zaa G4.at_ rfl;have f3:=zab G4.at_ 3;obtain ⟨w5,hw5⟩:∃ w5,w4.setCell ⟨b,3,none⟩ (iI (s+1))=w5:=⟨_,rfl⟩;have g5:=(G4.set (s+1)).1;rw [hw5] at g5;have Ag:=hid g5;have Ah:Hid (numC b w5=s+1):=by
      show _=_;unfold numC;rw [show w5.cell? ⟨b,3,none⟩=some (iI (s+1)) from zaa g5.at_ rfl]
     clear G4 g5 hcut;go_wp2;go_roundw
     case rel=>exact ⟨j+1,s+1,d+wt,Ag.out,Ad.out⟩
     case measure =>
      have h1:=Ae.out;have h2:=Ah.out;have h3:=HM.out;simp only [h1,h2];omega
section
variable {K K' : Nat->Nat} {w w' : World} {B t p:Nat} {c:Cf} {oa:Option Addr} {cap:Nat} {next now:Int} {L:List Wt} {D:List Oc} {vw vd:Value} {q:Mq}
theorem err_mv {T:Nat->Prop} (h:ErrT w) (m:Mv T w w' K K') (hk:¬ T (K 1)):ErrT w':=by
 have hs:=h.size;unfold ErrT at *;rw [<- h];exact World.cell?_of_block (a:=⟨1,0,none⟩) (m.kept 1 hs hk)
theorem PC.er {T:Nat->Prop} (h:PC K w B t p c oa cap next now L D vw vd q) (m:Mv T w w' K K') (hl:∀ t',T t'->t<=t'):ErrT w':=err_mv h.err m (fun e=>by have:=hl _ e;have:=h.h0 1 h.b1;omega)
theorem PC.h0' {T:Nat->Prop} (h:PC K w B t p c oa cap next now L D vw vd q) (m:Mv T w w' K K'):∀ b,b<B->K' b<t:=fun b hb=>by rw [m.old b (Nat.lt_of_lt_of_le hb h.hB)];exact h.h0 b hb
theorem PC.to {T:Nat->Prop} (h:PC K w B t p c oa cap next now L D vw vd q) (m:Mv T w w' K K') (ht:∀ t',T t'->t+6<t'):PC K' w' B t p c oa cap next now L D vw vd q:=by
 have me:=h.me;have n:∀ j,j<=6->¬ T (t+j):=fun j hj e=>by have:=ht _ e;omega
 exact ⟨h.cl.mv m (n 0 (by omega)),h.wr.mv m (n 1 (by omega)),h.dn.mv m (n 2 (by omega)),fun x hx=>(h.cs x hx).mv m (n 3 (by omega)) (n 4 (by omega)),h.nd,me.mv m (n 5 (by omega)),h.gs.mv m (n 6 (by omega)),h.gl,h.ok,Nat.le_trans h.hB m.size,h.er m (fun t' e=>by have:=ht _ e;omega),h.h0' m,h.b1⟩
theorem PC.below (h:PC K w B t p c oa cap next now L D vw vd q) (hb:Below w.heap.size w w') (N:Nat->Nat):PC (ext w K N) w' B t p c oa cap next now L D vw vd q:=h.to (Mv.of_below hb K N) (fun _ e=>e.elim)
theorem PC.next_ (h:PC K w B t p c oa cap next now L D vw vd q) (n:Int):PC K (w.setCell ⟨p,12,none⟩ (iI n)) B t p c oa cap n now L D vw vd q∧Mv (fun x=>x=t) w (w.setCell ⟨p,12,none⟩ (iI n)) K K:=by
 have m:=Mv.of_set w K ⟨p,12,none⟩ (iI n) h.cl.k;have me:=h.me;exact ⟨⟨⟨zae h.cl.at_ 12 _,h.cl.k⟩,h.wr.mv m (by omega),h.dn.mv m (by omega),fun x hx=>(h.cs x hx).mv m (by omega) (by omega),h.nd,me.mv m (by omega),h.gs.mv m (by omega),h.gl,h.ok,Nat.le_trans h.hB m.size,h.er m (fun t' e=>by omega),h.h0' m,h.b1⟩,m⟩
theorem PC.now_ (h:PC K w B t p c oa cap next now L D vw vd q) (n:Int):PC K (w.setCell ⟨p,13,none⟩ (iI n)) B t p c oa cap next n L D vw vd q∧Mv (fun x=>x=t) w (w.setCell ⟨p,13,none⟩ (iI n)) K K:=by
 have m:=Mv.of_set w K ⟨p,13,none⟩ (iI n) h.cl.k;have me:=h.me;exact ⟨⟨⟨zae h.cl.at_ 13 _,h.cl.k⟩,h.wr.mv m (by omega),h.dn.mv m (by omega),fun x hx=>(h.cs x hx).mv m (by omega) (by omega),h.nd,me.mv m (by omega),h.gs.mv m (by omega),h.gl,h.ok,Nat.le_trans h.hB m.size,h.er m (fun t' e=>by omega),h.h0' m,h.b1⟩,m⟩
theorem PC.nodone (h:PC K w B t p c oa cap next now L D vw vd q):PC K (w.setCell ⟨p,15,none⟩ (.slice none 0 0)) B t p c oa cap next now L [] vw (.slice none 0 0) q∧Mv (fun x=>x=t) w (w.setCell ⟨p,15,none⟩ (.slice none 0 0)) K K:=by
 have m:=Mv.of_set w K ⟨p,15,none⟩ (.slice none 0 0) h.cl.k;have me:=h.me;exact ⟨⟨⟨zae h.cl.at_ 15 _,h.cl.k⟩,h.wr.mv m (by omega),RW.nil _ _ _ _ _ _ _,fun x hx=>(h.cs x hx).mv m (by omega) (by omega),h.nd,me.mv m (by omega),h.gs.mv m (by omega),h.gl,h.ok,Nat.le_trans h.hB m.size,h.er m (fun t' e=>by omega),h.h0' m,h.b1⟩,m⟩
theorem PC.done_any (h:PC K w B t p c oa cap next now L D vw vd q):Calls Tryz.prog 22 #[ptr p] w fun e w'=>e=.returned vd∧PC K w' B t p c oa cap next now L [] vw (.slice none 0 0) q∧RW 80 9 ocC K w' B (t+2) vd D∧Mv (fun x=>x=t) w w' K K:=by
 obtain ⟨o,cp,e,_,_⟩:=h.dn.form;subst e;have c15:=h.ce (k:=15) rfl;have f15:=h.fz 15;obtain ⟨w1,hw1⟩:∃ w1,w.setCell ⟨p,15,none⟩ (.slice none 0 0)=w1:=⟨_,rfl⟩;have h1:=h.nodone;have h2:=h.dn.mv h1.2 (by omega);rw [hw1] at h1 h2;have HE:=hid (And.intro h1.1 (And.intro h2 h1.2));clear h h1 h2;go_enter Tryz.func22,Tryz.ntmps22
 go_wp2;go_ret;exact ⟨rfl,HE.out⟩
end
end Go.Proofs.YtfcbjcebkahehaaGreatDoor.Cl
