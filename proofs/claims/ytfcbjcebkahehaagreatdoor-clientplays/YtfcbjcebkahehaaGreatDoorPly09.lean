import Derived.Test.YtfcbjcebkahehaaGreatDoorPly08
import Derived.Test.YtfcbjcebkahehaaGreatDoorPly07
import Derived.Deep.MidRow
set_option maxRecDepth 8000
set_option maxHeartbeats 20000000
set_option linter.unusedSimpArgs false
namespace Go.Proofs.YtfcbjcebkahehaaGreatDoor
open Go.RowKit
def rdB (x:Nat) (d:Bool × Rs):ReplyP × Rs :=
 if d.1 then (⟨x,true,nulA,0,0,0,[],(d.2.go 0 (zai 1)).1,0⟩,(d.2.go 0 (zai 1)).2)
 else (⟨x,false,(za7 d.2).1,((za7 d.2).2.go 0 (zai 5)).1,0,0,[],0,0⟩,((za7 d.2).2.go 0 (zai 5)).2)
def rdO {α:Type} (s:Bool) (d:α) (f:Rs->α × Rs) (st:Rs):α × Rs:=if s then f st else (d,st)
structure EndQ where
 l:Nat × Rs
 h:Nat × Rs
 y:Nat × Rs
 t:List UInt8 × Rs
def rdEQ (m a s:Bool) (st:Rs):EndQ :=
 let l:=rdO m 0 (fun x=>x.go 0 zad) st
 let h:=rdO m 0 (fun x=>x.go 0 zad) l.2
 let y:=rdO a 0 (fun x=>x.go 0 (zai 14)) h.2
 ⟨l,h,y,rdO s [] zdd y.2⟩
def rdE (b:ReplyP × Rs):ReplyP × Rs :=
 (⟨b.1.xid,b.1.denied,b.1.verf,b.1.accept,(rdEQ (endM b.1) (endA b.1) (endS b.1) b.2).l.1,(rdEQ (endM b.1) (endA b.1) (endS b.1) b.2).h.1,(rdEQ (endM b.1) (endA b.1) (endS b.1) b.2).t.1,b.1.reject,(rdEQ (endM b.1) (endA b.1) (endS b.1) b.2).y.1⟩,(rdEQ (endM b.1) (endA b.1) (endS b.1) b.2).t.2)
def rdHD (st:Rs):Nat × (Bool × Rs):=((zde 1 st).1,(zde 1 st).2.go false rdBool)
def zcf (st:Rs):ReplyP × Rs:=rdE (rdB (rdHD st).1 (rdHD st).2)
def za0 (s:List UInt8):ReplyP × Int:=if zfz (zcf ⟨s,0⟩).2.l (zcf ⟨s,0⟩).2.e=0 then ((zcf ⟨s,0⟩).1,0) else (nulR,121)
def hdR (x:Nat) (d:Bool):ReplyP:=⟨x,d,nulA,0,0,0,[],0,0⟩
theorem rd_headR (st:Rs):rdT headR (st,zam nulR)=((rdHD st).2.2,zam (hdR (rdHD st).1 (rdHD st).2.1)):=rfl
theorem rd_bodyR (x:Nat) (d:Bool × Rs):rdT (zfe d.1) (d.2,zam (hdR x d.1))=((rdB x d).2,zam (rdB x d).1):=by
 obtain ⟨d,st⟩:=d;cases d
 · unfold rdB za7 zfe zam hdR;simp only [rdT,Fd.rd,if_true,if_false,Bool.not_false,Bool.false_eq_true,List.set_cons_succ,List.set_cons_zero]
 · unfold rdB zfe zam hdR;simp only [rdT,Fd.rd,if_true,if_false,Bool.not_true,Bool.false_eq_true,List.set_cons_succ,List.set_cons_zero]
theorem rd_endR_of (m a s:Bool) (st:Rs) (rx ra rj:Int) (rd:Bool) (rv:AuthP) :
 rdT (endR m a s) (st,zam ⟨rx,rd,rv,ra,0,0,[],rj,0⟩)=((rdEQ m a s st).t.2,zam ⟨rx,rd,rv,ra,(rdEQ m a s st).l.1,(rdEQ m a s st).h.1,(rdEQ m a s st).t.1,rj,(rdEQ m a s st).y.1⟩):=by
 unfold rdEQ endR zam zdd;cases m <;> cases a <;> cases s <;> simp only [rdT,rdO,Fd.rd,if_true,if_false,Bool.false_eq_true,List.set_cons_succ,List.set_cons_zero] <;> rfl
theorem rdB_zero (x:Nat) (d:Bool × Rs):(rdB x d).1=⟨(rdB x d).1.xid,(rdB x d).1.denied,(rdB x d).1.verf,(rdB x d).1.accept,0,0,[],(rdB x d).1.reject,0⟩:=by
 unfold rdB;split <;> rfl
theorem rd_endR (b:ReplyP × Rs) (h:b.1=⟨b.1.xid,b.1.denied,b.1.verf,b.1.accept,0,0,[],b.1.reject,0⟩):rdT (endR (endM b.1) (endA b.1) (endS b.1)) (b.2,zam b.1)=((rdE b).2,zam (rdE b).1):=by
 unfold rdE;rw [<- rd_endR_of,<- h]
theorem zgn (s:List UInt8) (w:World) (hT:ErrT w) (hl:s.length<=281474976710656) :
 Calls Tryz.prog 52 #[.string ⟨s.toArray⟩] w fun e w'=>e=.returned (.tuple #[.agg (zam (za0 s).1).toArray,iI (za0 s).2])∧Below w.heap.size w w':=by
 obtain ⟨wa,hwa⟩:∃ x,w.alloc (.cells #[iI 0,.bool false,iI 0,.string ⟨#[]⟩,iI 0,iI 0,iI 0,iI 0,iI 0,.string ⟨#[]⟩] 46)=x:=⟨_,rfl⟩;obtain ⟨wb,hwb⟩:∃ x,wa.alloc (.cells #[iI 0,.bool false,iI 0,.string ⟨#[]⟩,iI 0,iI 0,iI 0,iI 0,iI 0,.string ⟨#[]⟩] 46)=x:=⟨_,rfl⟩;obtain ⟨wc,hwc⟩:∃ x,x=wb.alloc (.cells #[.string ⟨s.toArray⟩,.nilIface] 225):=⟨_,rfl⟩;obtain ⟨hS,hK0,hB,hza,hzb⟩:=three_start [iI 0,.bool false,iI 0,.string ⟨#[]⟩,iI 0,iI 0,iI 0,iI 0,iI 0,.string ⟨#[]⟩] s _ w wa wb wc hwa hwb hwc;have HS:=hid hS;have Ao:=hid hK0;have HB:=hid hB;have Ap:=hid hT;have Af:Hid (Calls Tryz.prog 88 #[.string ⟨s.toArray⟩] wb fun e w'=>e=.returned (.pointer (some ⟨w.heap.size+1+1,0,none⟩))∧w'=wc):=by rw [hwc,<- hzb];exact rnew_rd s wb
 have HL:=hid hl;obtain ⟨x,d,hx⟩:∃ x d,rdHD ⟨s,0⟩=(x,d):=⟨_,_,rfl⟩;obtain ⟨b,hb⟩:∃ b,rdB x d=b:=⟨_,rfl⟩;obtain ⟨z,hz⟩:∃ z,rdE b=z:=⟨_,rfl⟩;have hX1:rdT headR (⟨s,0⟩,[iI 0,.bool false,iI 0,.string ⟨#[]⟩,iI 0,iI 0,iI 0,iI 0,iI 0,.string ⟨#[]⟩])=(d.2,zam (hdR x d.1)):=by
  have:=rd_headR ⟨s,0⟩
  rw [hx] at this;exact this
 have hX2:rdT (zfe d.1) (d.2,zam (hdR x d.1))=(b.2,zam b.1):=by rw [rd_bodyR,hb]
 have hX3:rdT (endR (endM b.1) (endA b.1) (endS b.1)) (b.2,zam b.1)=(z.2,zam z.1):=by rw [rd_endR b (hb ▸ rdB_zero x d),hz]
 have Ag:Hid (d.2.l.length<=281474976710656):=by
  have:=(rdT_len headR (⟨s,0⟩,[iI 0,.bool false,iI 0,.string ⟨#[]⟩,iI 0,iI 0,iI 0,iI 0,iI 0,.string ⟨#[]⟩])).1
  rw [hX1] at this;exact Nat.le_trans this hl
 have Aq:Hid (b.2.l.length<=281474976710656):=by
  have:=(rdT_len (zfe d.1) (d.2,zam (hdR x d.1))).1
  rw [hX2] at this;exact Nat.le_trans this Ag.out
 have Ar:=hid hX1;have Au:=hid hX2;have Ah:=hid hX3;have Av:=hid (fitC headR 10 rfl);have Aw:Hid (∀ r∈zfe d.1,r.2.fits 10):=fitC (zfe d.1) 10 rfl;have Ax:Hid (∀ r∈endR (endM b.1) (endA b.1) (endS b.1),r.2.fits 10):=fitC _ 10 rfl;have Ay:Hid ((zfe d.1).length=4):=rfl;have Az:Hid ((endR (endM b.1) (endA b.1) (endS b.1)).length=4):=rfl;have HH:=hid (zhn (w.heap.size+1));have Ai:Hid (∀ w1,Bk w1 (w.heap.size+1) (zam (hdR x d.1)) 46->Calls Tryz.prog 79 #[.pointer (some ⟨w.heap.size+1,0,none⟩)] w1 (zdf (w.heap.size+1) (zfe d.1) w1)):=fun w1 h1=>zho _ _ w1 (h1.cell 1 rfl);have Aj:Hid (∀ w1,Bk w1 (w.heap.size+1) (zam b.1) 46->Calls Tryz.prog 80 #[.pointer (some ⟨w.heap.size+1,0,none⟩)] w1 (zdf (w.heap.size+1) (endR (endM b.1) (endA b.1) (endS b.1)) w1)):=fun w1 h1=>replyEnd_any _ b.1 w1 h1;obtain ⟨D,hD⟩:∃ D,zfz z.2.l z.2.e=D:=⟨_,rfl⟩;have HD:=hid hD;obtain ⟨R,hR⟩:∃ R,za0 s=R:=⟨_,rfl⟩;obtain ⟨Z,hZ⟩:∃ Z,z.1=Z:=⟨_,rfl⟩;have Ak:Hid ((D=0->R=(Z,0))∧(D≠0->R=(nulR,121))):=by
  have e1:zcf ⟨s,0⟩=z:=by unfold zcf;rw [hx,hb,hz]
  rw [<- hR];unfold za0;rw [e1,hD,hZ];exact ⟨fun h=>by rw [if_pos h],fun h=>by rw [if_neg h]⟩
 rw [hR];rw [hZ] at Ah;generalize zfe d.1=TB at *;generalize endR (endM b.1) (endA b.1) (endS b.1)=TE at *;generalize hdR x d.1=Y1 at *;generalize b.1=Y2 at *;clear hS hK0 hB hT hwc hl hD hR hx hb hz hX1 hX2 hX3 hZ;go_enter Tryz.func52,Tryz.ntmps52
 go_wp2_with fail
 refine Af.out.mono ?_;rintro e w1 ⟨rfl,hw1⟩;have hw2:=hw1.symm;clear hw1 Af;subst hw2;go_wp2_with fail
 refine (HH.out _).mono ?_;rintro e w2 ⟨rfl,hq2,hB2,hz2⟩;have H3:=hid (HS.out.reads hq2 hB2 hz2 (by decide) Av.out HL.out);rw [Ar.out] at H3;clear hq2 hB2 hz2 HH;go_wp2_with fail
 refine H3.out.mono ?_;rintro e w3 ⟨rfl,hS3⟩;have Al:=hid hS3;clear hS3 H3;go_wp2_with fail
 refine (Ai.out _ Al.out.k).mono ?_;rintro e w4 ⟨rfl,hq4,hB4,hz4⟩;have H5:=hid (Al.out.reads hq4 hB4 hz4 (by rw [Ay.out];decide) Aw.out Ag.out);rw [Au.out] at H5;clear hq4 hB4 hz4 Ai;go_wp2_with fail
 refine H5.out.mono ?_;rintro e w5 ⟨rfl,hS5⟩;have Am:=hid hS5;clear hS5 H5;go_wp2_with fail
 refine (Aj.out _ Am.out.k).mono ?_;rintro e w6 ⟨rfl,hq6,hB6,hz6⟩;have H7:=hid (Am.out.reads hq6 hB6 hz6 (by rw [Az.out];decide) Ax.out Aq.out);rw [Ah.out] at H7;clear hq6 hB6 hz6 Aj;go_wp2_with fail
 refine H7.out.mono ?_;rintro e w8 ⟨rfl,hS8⟩;have Ac:=hid hS8;have Ad:Hid (Below w.heap.size w w8):=HB.out.trans (hS8.low.mono (by omega));have H9:=hid (rdone_rd _ _ _ w8 hS8.r (Ap.out.below Ad.out));simp only [HD.out] at H9;clear hS8 H7;go_wp2_with fail
 refine H9.out.mono ?_;rintro e w9 ⟨rfl,hB9⟩;have Ab:=hid (Ac.out.below hB9);have HK:Hid (Bk w9 w.heap.size [iI 0,.bool false,iI 0,.string ⟨#[]⟩,iI 0,iI 0,iI 0,iI 0,iI 0,.string ⟨#[]⟩] 46):=(Ao.out.below Ac.out.low (by omega)).below hB9 (by have:=Ac.out.k.lt;omega);have An:Hid (Below w.heap.size w w9):=Ad.out.trans (hB9.mono Ad.out.size);clear hB9 H9;have k0:=HK.out.cell 0 rfl;have f0:=HK.out.frozen 0;have k1:=HK.out.cell 1 rfl;have f1:=HK.out.frozen 1;have k2:=HK.out.cell 2 rfl;have f2:=HK.out.frozen 2;have k3:=HK.out.cell 3 rfl;have f3:=HK.out.frozen 3;have k4:=HK.out.cell 4 rfl;have f4:=HK.out.frozen 4;have k5:=HK.out.cell 5 rfl;have f5:=HK.out.frozen 5;have k6:=HK.out.cell 6 rfl;have f6:=HK.out.frozen 6;have k7:=HK.out.cell 7 rfl;have f7:=HK.out.frozen 7;have k8:=HK.out.cell 8 rfl;have f8:=HK.out.frozen 8;have k9:=HK.out.cell 9 rfl;have f9:=HK.out.frozen 9;by_cases hd:D=0
 · have hR:=Ak.out.1 hd;subst hR;subst hd;have c0:w9.cell? ⟨w.heap.size+1,0,none⟩=some (iI Z.xid):=Ab.out.k.cell 0 rfl;have c1:w9.cell? ⟨w.heap.size+1,1,none⟩=some (.bool Z.denied):=Ab.out.k.cell 1 rfl;have c2:w9.cell? ⟨w.heap.size+1,2,none⟩=some (iI Z.verf.flavor):=Ab.out.k.cell 2 rfl;have c3:w9.cell? ⟨w.heap.size+1,3,none⟩=some (.string ⟨Z.verf.body.toArray⟩):=Ab.out.k.cell 3 rfl;have c4:w9.cell? ⟨w.heap.size+1,4,none⟩=some (iI Z.accept):=Ab.out.k.cell 4 rfl;have c5:w9.cell? ⟨w.heap.size+1,5,none⟩=some (iI Z.reject):=Ab.out.k.cell 5 rfl;have c6:w9.cell? ⟨w.heap.size+1,6,none⟩=some (iI Z.why):=Ab.out.k.cell 6 rfl;have c7:w9.cell? ⟨w.heap.size+1,7,none⟩=some (iI Z.low):=Ab.out.k.cell 7 rfl;have c8:w9.cell? ⟨w.heap.size+1,8,none⟩=some (iI Z.high):=Ab.out.k.cell 8 rfl;have c9:w9.cell? ⟨w.heap.size+1,9,none⟩=some (.string ⟨Z.results.toArray⟩):=Ab.out.k.cell 9 rfl;have Aa:=HK.out.set10 (iI Z.xid) (.bool Z.denied) (iI Z.verf.flavor) (.string ⟨Z.verf.body.toArray⟩) (iI Z.accept) (iI Z.reject) (iI Z.why) (iI Z.low) (iI Z.high) (.string ⟨Z.results.toArray⟩);have q0:=Aa.cell 0 rfl;have q1:=Aa.cell 1 rfl;have q2:=Aa.cell 2 rfl;have q3:=Aa.cell 3 rfl;have q4:=Aa.cell 4 rfl;have q5:=Aa.cell 5 rfl;have q6:=Aa.cell 6 rfl;have q7:=Aa.cell 7 rfl;have q8:=Aa.cell 8 rfl;have q9:=Aa.cell 9 rfl;have Ae:=hid (zas (b:=w.heap.size) An.out (Nat.le_refl _) (iI Z.xid) (.bool Z.denied) (iI Z.verf.flavor) (.string ⟨Z.verf.body.toArray⟩) (iI Z.accept) (iI Z.reject) (iI Z.why) (iI Z.low) (iI Z.high) (.string ⟨Z.results.toArray⟩));clear Aa;go_wp2;refine bodyPost_ret (v:=.tuple #[.agg #[iI Z.xid,.bool Z.denied,iI Z.verf.flavor,.string ⟨Z.verf.body.toArray⟩,iI Z.accept,iI Z.reject,iI Z.why,iI Z.low,iI Z.high,.string ⟨Z.results.toArray⟩],iI 0]) (by simp [results,Tryz.results52,go_sem,q0,q1,q2,q3,q4,q5,q6,q7,q8,q9]) rfl ⟨rfl,Ae.out⟩
 · have hR:=Ak.out.2 hd;subst hR;have hd2:(D != 0)=true:=bne_iff_ne.2 hd;have Aa:=HK.out.set10 (iI 0) (.bool false) (iI 0) (.string ⟨#[]⟩) (iI 0) (iI 0) (iI 0) (iI 0) (iI 0) (.string ⟨#[]⟩);have q0:=Aa.cell 0 rfl;have q1:=Aa.cell 1 rfl;have q2:=Aa.cell 2 rfl;have q3:=Aa.cell 3 rfl;have q4:=Aa.cell 4 rfl;have q5:=Aa.cell 5 rfl;have q6:=Aa.cell 6 rfl;have q7:=Aa.cell 7 rfl;have q8:=Aa.cell 8 rfl;have q9:=Aa.cell 9 rfl;have Ae:=hid (zas (b:=w.heap.size) An.out (Nat.le_refl _) (iI 0) (.bool false) (iI 0) (.string ⟨#[]⟩) (iI 0) (iI 0) (iI 0) (iI 0) (iI 0) (.string ⟨#[]⟩));clear Aa;go_wp2;refine bodyPost_ret (v:=.tuple #[.agg #[iI 0,.bool false,iI 0,.string ⟨#[]⟩,iI 0,iI 0,iI 0,iI 0,iI 0,.string ⟨#[]⟩],iI 121]) (by simp [results,Tryz.results52,go_sem,q0,q1,q2,q3,q4,q5,q6,q7,q8,q9]) rfl ⟨rfl,Ae.out⟩
end Go.Proofs.YtfcbjcebkahehaaGreatDoor
namespace Go.Proofs.YtfcbjcebkahehaaGreatDoor.Cl
open Go.RowKit
def zcy (r:ReplyP):Oc:=if r.denied then ⟨0,5,0,r.reject,r.why,r.low,r.high,[],0⟩ else if r.accept=0 then ⟨0,1,0,0,0,0,0,r.results,0⟩ else if r.accept=5 then ⟨0,3,0,0,0,0,0,[],0⟩ else ⟨0,4,r.accept,0,0,r.low,r.high,[],0⟩
theorem bld80_den (rej:Int) (why:Int) (low:Int) (high:Int) (w:World):(Instr.build 80 #[(1,iI 5),(3,iI rej),(4,iI why),(5,iI low),(6,iI high)]).run Tryz.prog w=.ok (.agg #[iI 0,iI 5,iI 0,iI rej,iI why,iI low,iI high,.string ⟨#[]⟩,iI 0]) w:=by kernel_rfl
theorem bld80_suc (res:ByteArray) (w:World):(Instr.build 80 #[(1,iI 1),(7,.string res)]).run Tryz.prog w=.ok (.agg #[iI 0,iI 1,iI 0,iI 0,iI 0,iI 0,iI 0,.string res,iI 0]) w:=by kernel_rfl
theorem bld80_ref (w:World):(Instr.build 80 #[(1,iI 3)]).run Tryz.prog w=.ok (.agg #[iI 0,iI 3,iI 0,iI 0,iI 0,iI 0,iI 0,.string ⟨#[]⟩,iI 0]) w:=by kernel_rfl
theorem bld80_acc (low:Int) (high:Int) (acc:Int) (w:World):(Instr.build 80 #[(1,iI 4),(2,iI acc),(5,iI low),(6,iI high)]).run Tryz.prog w=.ok (.agg #[iI 0,iI 4,iI acc,iI 0,iI 0,iI low,iI high,.string ⟨#[]⟩,iI 0]) w:=by kernel_rfl
theorem outcome_den (xid fl acc rej why low high:Int) (dn:Bool) (bo res:ByteArray) (w:World) (h0:dn=true) :
 Calls Tryz.prog 87 #[.agg #[iI xid,.bool dn,iI fl,.string bo,iI acc,iI rej,iI why,iI low,iI high,.string res]] w fun e w'=>e=.returned (.agg #[iI 0,iI 5,iI 0,iI rej,iI why,iI low,iI high,.string ⟨#[]⟩,iI 0])∧Below w.heap.size w w':=by
 subst h0;obtain ⟨S1,hS1⟩:∃ y,w.heap.size=y:=⟨_,rfl⟩;obtain ⟨w1,hw1⟩:∃ y,w.alloc (.cells #[iI xid,.bool true,iI fl,.string bo,iI acc,iI rej,iI why,iI low,iI high,.string res] 46)=y:=⟨_,rfl⟩;have B1:Below w.heap.size w w1:=by rw [<- hw1];exact (Below.refl _ _).alloc (Nat.le_refl _) _
 have k1:w1.heap[S1]?=some (.cells #[iI xid,.bool true,iI fl,.string bo,iI acc,iI rej,iI why,iI low,iI high,.string res] 46):=by rw [<- hw1,<- hS1];exact (MapKept.heap_alloc w _).1
 obtain ⟨S2,hS2⟩:∃ y,w1.heap.size=y:=⟨_,rfl⟩;obtain ⟨w2,hw2⟩:∃ y,w1.alloc (.cells #[iI 0,iI 0,iI 0,iI 0,iI 0,iI 0,iI 0,.string ⟨#[]⟩,iI 0] 80)=y:=⟨_,rfl⟩;have B2:Below w.heap.size w w2:=by rw [<- hw2];exact B1.alloc B1.size _
 have k2:w2.heap[S2]?=some (.cells #[iI 0,iI 0,iI 0,iI 0,iI 0,iI 0,iI 0,.string ⟨#[]⟩,iI 0] 80):=by rw [<- hw2,<- hS2];exact (MapKept.heap_alloc w1 _).1
 have hlt1:S1<S2:=by rw [<- hS2];exact (Array.getElem?_eq_some_iff.1 k1).1
 have k21:w2.heap[S1]?=some (.cells #[iI xid,.bool true,iI fl,.string bo,iI acc,iI rej,iI why,iI low,iI high,.string res] 46):=by rw [<- hw2];exact (Below.heap_alloc _ _ _ (by omega)).trans k1
 have hleS:w.heap.size<=S2:=by omega
 have a1:w2.cell? ⟨S1,1,none⟩=some (.bool true):=zaa k21 rfl;have a4:w2.cell? ⟨S1,4,none⟩=some (iI acc):=zaa k21 rfl;have a5:w2.cell? ⟨S1,5,none⟩=some (iI rej):=zaa k21 rfl;have a6:w2.cell? ⟨S1,6,none⟩=some (iI why):=zaa k21 rfl;have a7:w2.cell? ⟨S1,7,none⟩=some (iI low):=zaa k21 rfl;have a8:w2.cell? ⟨S1,8,none⟩=some (iI high):=zaa k21 rfl;have a9:w2.cell? ⟨S1,9,none⟩=some (.string res):=zaa k21 rfl;obtain ⟨v1,hv1⟩:∃ y,w2.setCell ⟨S2,0,none⟩ (iI 0)=y:=⟨_,rfl⟩;have z0:w2.cell? ⟨S2,0,none⟩=some (iI 0):=zaa k2 rfl;have f0:w2.frozen? ⟨S2,0,none⟩=false:=zab k2 0;have kv1:v1.heap[S2]?=some (.cells #[iI 0,iI 0,iI 0,iI 0,iI 0,iI 0,iI 0,.string ⟨#[]⟩,iI 0] 80):=by rw [<- hv1];exact zae k2 0 _
 have Bv1:Below w.heap.size w v1:=by rw [<- hv1];exact zac B2 hleS
 obtain ⟨v2,hv2⟩:∃ y,v1.setCell ⟨S2,1,none⟩ (iI 5)=y:=⟨_,rfl⟩;have z1:v1.cell? ⟨S2,1,none⟩=some (iI 0):=zaa kv1 rfl;have f1:v1.frozen? ⟨S2,1,none⟩=false:=zab kv1 1;have kv2:v2.heap[S2]?=some (.cells #[iI 0,iI 5,iI 0,iI 0,iI 0,iI 0,iI 0,.string ⟨#[]⟩,iI 0] 80):=by rw [<- hv2];exact zae kv1 1 _
 have Bv2:Below w.heap.size w v2:=by rw [<- hv2];exact zac Bv1 hleS
 clear kv1 Bv1;obtain ⟨v3,hv3⟩:∃ y,v2.setCell ⟨S2,2,none⟩ (iI 0)=y:=⟨_,rfl⟩;have z2:v2.cell? ⟨S2,2,none⟩=some (iI 0):=zaa kv2 rfl;have f2:v2.frozen? ⟨S2,2,none⟩=false:=zab kv2 2;have kv3:v3.heap[S2]?=some (.cells #[iI 0,iI 5,iI 0,iI 0,iI 0,iI 0,iI 0,.string ⟨#[]⟩,iI 0] 80):=by rw [<- hv3];exact zae kv2 2 _
 have Bv3:Below w.heap.size w v3:=by rw [<- hv3];exact zac Bv2 hleS
 clear kv2 Bv2;obtain ⟨v4,hv4⟩:∃ y,v3.setCell ⟨S2,3,none⟩ (iI rej)=y:=⟨_,rfl⟩;have z3:v3.cell? ⟨S2,3,none⟩=some (iI 0):=zaa kv3 rfl;have f3:v3.frozen? ⟨S2,3,none⟩=false:=zab kv3 3;have kv4:v4.heap[S2]?=some (.cells #[iI 0,iI 5,iI 0,iI rej,iI 0,iI 0,iI 0,.string ⟨#[]⟩,iI 0] 80):=by rw [<- hv4];exact zae kv3 3 _
 have Bv4:Below w.heap.size w v4:=by rw [<- hv4];exact zac Bv3 hleS
 clear kv3 Bv3;obtain ⟨v5,hv5⟩:∃ y,v4.setCell ⟨S2,4,none⟩ (iI why)=y:=⟨_,rfl⟩;have z4:v4.cell? ⟨S2,4,none⟩=some (iI 0):=zaa kv4 rfl;have f4:v4.frozen? ⟨S2,4,none⟩=false:=zab kv4 4;have kv5:v5.heap[S2]?=some (.cells #[iI 0,iI 5,iI 0,iI rej,iI why,iI 0,iI 0,.string ⟨#[]⟩,iI 0] 80):=by rw [<- hv5];exact zae kv4 4 _
 have Bv5:Below w.heap.size w v5:=by rw [<- hv5];exact zac Bv4 hleS
 clear kv4 Bv4;obtain ⟨v6,hv6⟩:∃ y,v5.setCell ⟨S2,5,none⟩ (iI low)=y:=⟨_,rfl⟩;have z5:v5.cell? ⟨S2,5,none⟩=some (iI 0):=zaa kv5 rfl;have f5:v5.frozen? ⟨S2,5,none⟩=false:=zab kv5 5;have kv6:v6.heap[S2]?=some (.cells #[iI 0,iI 5,iI 0,iI rej,iI why,iI low,iI 0,.string ⟨#[]⟩,iI 0] 80):=by rw [<- hv6];exact zae kv5 5 _
 have Bv6:Below w.heap.size w v6:=by rw [<- hv6];exact zac Bv5 hleS
 clear kv5 Bv5;obtain ⟨v7,hv7⟩:∃ y,v6.setCell ⟨S2,6,none⟩ (iI high)=y:=⟨_,rfl⟩;have z6:v6.cell? ⟨S2,6,none⟩=some (iI 0):=zaa kv6 rfl;have f6:v6.frozen? ⟨S2,6,none⟩=false:=zab kv6 6;have kv7:v7.heap[S2]?=some (.cells #[iI 0,iI 5,iI 0,iI rej,iI why,iI low,iI high,.string ⟨#[]⟩,iI 0] 80):=by rw [<- hv7];exact zae kv6 6 _
 have Bv7:Below w.heap.size w v7:=by rw [<- hv7];exact zac Bv6 hleS
 clear kv6 Bv6;obtain ⟨v8,hv8⟩:∃ y,v7.setCell ⟨S2,7,none⟩ (.string ⟨#[]⟩)=y:=⟨_,rfl⟩;have z7:v7.cell? ⟨S2,7,none⟩=some (.string ⟨#[]⟩):=zaa kv7 rfl;have f7:v7.frozen? ⟨S2,7,none⟩=false:=zab kv7 7;have kv8:v8.heap[S2]?=some (.cells #[iI 0,iI 5,iI 0,iI rej,iI why,iI low,iI high,.string ⟨#[]⟩,iI 0] 80):=by rw [<- hv8];exact zae kv7 7 _
 have Bv8:Below w.heap.size w v8:=by rw [<- hv8];exact zac Bv7 hleS
 clear kv7 Bv7;obtain ⟨v9,hv9⟩:∃ y,v8.setCell ⟨S2,8,none⟩ (iI 0)=y:=⟨_,rfl⟩;have z8:v8.cell? ⟨S2,8,none⟩=some (iI 0):=zaa kv8 rfl;have f8:v8.frozen? ⟨S2,8,none⟩=false:=zab kv8 8;have kv9:v9.heap[S2]?=some (.cells #[iI 0,iI 5,iI 0,iI rej,iI why,iI low,iI high,.string ⟨#[]⟩,iI 0] 80):=by rw [<- hv9];exact zae kv8 8 _
 have Bv9:Below w.heap.size w v9:=by rw [<- hv9];exact zac Bv8 hleS
 clear kv8 Bv8;have q0:v9.cell? ⟨S2,0,none⟩=some (iI 0):=zaa kv9 rfl;have q1:v9.cell? ⟨S2,1,none⟩=some (iI 5):=zaa kv9 rfl;have q2:v9.cell? ⟨S2,2,none⟩=some (iI 0):=zaa kv9 rfl;have q3:v9.cell? ⟨S2,3,none⟩=some (iI rej):=zaa kv9 rfl;have q4:v9.cell? ⟨S2,4,none⟩=some (iI why):=zaa kv9 rfl;have q5:v9.cell? ⟨S2,5,none⟩=some (iI low):=zaa kv9 rfl;have q6:v9.cell? ⟨S2,6,none⟩=some (iI high):=zaa kv9 rfl;have q7:v9.cell? ⟨S2,7,none⟩=some (.string ⟨#[]⟩):=zaa kv9 rfl;have q8:v9.cell? ⟨S2,8,none⟩=some (iI 0):=zaa kv9 rfl;have HB:=hid Bv9;have hb:=fun w=>bld80_den rej why low high w;clear kv9 Bv9 k2 B2 k1 B1 k21 hlt1 hleS;go_enter Tryz.func87,Tryz.ntmps87
 go_wp2;refine bodyPost_ret (v:=.agg #[iI 0,iI 5,iI 0,iI rej,iI why,iI low,iI high,.string ⟨#[]⟩,iI 0]) (by simp [results,Tryz.results87,go_sem,q0,q1,q2,q3,q4,q5,q6,q7,q8]) rfl ?_;exact ⟨rfl,HB.out⟩
theorem outcome_suc (xid fl acc rej why low high:Int) (dn:Bool) (bo res:ByteArray) (w:World) (h0:dn=false) (h1:acc=0) :
 Calls Tryz.prog 87 #[.agg #[iI xid,.bool dn,iI fl,.string bo,iI acc,iI rej,iI why,iI low,iI high,.string res]] w fun e w'=>e=.returned (.agg #[iI 0,iI 1,iI 0,iI 0,iI 0,iI 0,iI 0,.string res,iI 0])∧Below w.heap.size w w':=by
 subst h0 h1;obtain ⟨S1,hS1⟩:∃ y,w.heap.size=y:=⟨_,rfl⟩;obtain ⟨w1,hw1⟩:∃ y,w.alloc (.cells #[iI xid,.bool false,iI fl,.string bo,iI 0,iI rej,iI why,iI low,iI high,.string res] 46)=y:=⟨_,rfl⟩;have B1:Below w.heap.size w w1:=by rw [<- hw1];exact (Below.refl _ _).alloc (Nat.le_refl _) _
 have k1:w1.heap[S1]?=some (.cells #[iI xid,.bool false,iI fl,.string bo,iI 0,iI rej,iI why,iI low,iI high,.string res] 46):=by rw [<- hw1,<- hS1];exact (MapKept.heap_alloc w _).1
 obtain ⟨S2,hS2⟩:∃ y,w1.heap.size=y:=⟨_,rfl⟩;obtain ⟨w2,hw2⟩:∃ y,w1.alloc (.cells #[iI 0,iI 0,iI 0,iI 0,iI 0,iI 0,iI 0,.string ⟨#[]⟩,iI 0] 80)=y:=⟨_,rfl⟩;have B2:Below w.heap.size w w2:=by rw [<- hw2];exact B1.alloc B1.size _
 have k2:w2.heap[S2]?=some (.cells #[iI 0,iI 0,iI 0,iI 0,iI 0,iI 0,iI 0,.string ⟨#[]⟩,iI 0] 80):=by rw [<- hw2,<- hS2];exact (MapKept.heap_alloc w1 _).1
 have hlt1:S1<S2:=by rw [<- hS2];exact (Array.getElem?_eq_some_iff.1 k1).1
 have k21:w2.heap[S1]?=some (.cells #[iI xid,.bool false,iI fl,.string bo,iI 0,iI rej,iI why,iI low,iI high,.string res] 46):=by rw [<- hw2];exact (Below.heap_alloc _ _ _ (by omega)).trans k1
 have hleS:w.heap.size<=S2:=by omega
 have a1:w2.cell? ⟨S1,1,none⟩=some (.bool false):=zaa k21 rfl;have a4:w2.cell? ⟨S1,4,none⟩=some (iI 0):=zaa k21 rfl;have a5:w2.cell? ⟨S1,5,none⟩=some (iI rej):=zaa k21 rfl;have a6:w2.cell? ⟨S1,6,none⟩=some (iI why):=zaa k21 rfl;have a7:w2.cell? ⟨S1,7,none⟩=some (iI low):=zaa k21 rfl;have a8:w2.cell? ⟨S1,8,none⟩=some (iI high):=zaa k21 rfl;have a9:w2.cell? ⟨S1,9,none⟩=some (.string res):=zaa k21 rfl;obtain ⟨v1,hv1⟩:∃ y,w2.setCell ⟨S2,0,none⟩ (iI 0)=y:=⟨_,rfl⟩;have z0:w2.cell? ⟨S2,0,none⟩=some (iI 0):=zaa k2 rfl;have f0:w2.frozen? ⟨S2,0,none⟩=false:=zab k2 0;have kv1:v1.heap[S2]?=some (.cells #[iI 0,iI 0,iI 0,iI 0,iI 0,iI 0,iI 0,.string ⟨#[]⟩,iI 0] 80):=by rw [<- hv1];exact zae k2 0 _
 have Bv1:Below w.heap.size w v1:=by rw [<- hv1];exact zac B2 hleS
 obtain ⟨v2,hv2⟩:∃ y,v1.setCell ⟨S2,1,none⟩ (iI 1)=y:=⟨_,rfl⟩;have z1:v1.cell? ⟨S2,1,none⟩=some (iI 0):=zaa kv1 rfl;have f1:v1.frozen? ⟨S2,1,none⟩=false:=zab kv1 1;have kv2:v2.heap[S2]?=some (.cells #[iI 0,iI 1,iI 0,iI 0,iI 0,iI 0,iI 0,.string ⟨#[]⟩,iI 0] 80):=by rw [<- hv2];exact zae kv1 1 _
 have Bv2:Below w.heap.size w v2:=by rw [<- hv2];exact zac Bv1 hleS
 clear kv1 Bv1;obtain ⟨v3,hv3⟩:∃ y,v2.setCell ⟨S2,2,none⟩ (iI 0)=y:=⟨_,rfl⟩;have z2:v2.cell? ⟨S2,2,none⟩=some (iI 0):=zaa kv2 rfl;have f2:v2.frozen? ⟨S2,2,none⟩=false:=zab kv2 2;have kv3:v3.heap[S2]?=some (.cells #[iI 0,iI 1,iI 0,iI 0,iI 0,iI 0,iI 0,.string ⟨#[]⟩,iI 0] 80):=by rw [<- hv3];exact zae kv2 2 _
 have Bv3:Below w.heap.size w v3:=by rw [<- hv3];exact zac Bv2 hleS
 clear kv2 Bv2;obtain ⟨v4,hv4⟩:∃ y,v3.setCell ⟨S2,3,none⟩ (iI 0)=y:=⟨_,rfl⟩;have z3:v3.cell? ⟨S2,3,none⟩=some (iI 0):=zaa kv3 rfl;have f3:v3.frozen? ⟨S2,3,none⟩=false:=zab kv3 3;have kv4:v4.heap[S2]?=some (.cells #[iI 0,iI 1,iI 0,iI 0,iI 0,iI 0,iI 0,.string ⟨#[]⟩,iI 0] 80):=by rw [<- hv4];exact zae kv3 3 _
 have Bv4:Below w.heap.size w v4:=by rw [<- hv4];exact zac Bv3 hleS
 clear kv3 Bv3;obtain ⟨v5,hv5⟩:∃ y,v4.setCell ⟨S2,4,none⟩ (iI 0)=y:=⟨_,rfl⟩;have z4:v4.cell? ⟨S2,4,none⟩=some (iI 0):=zaa kv4 rfl;have f4:v4.frozen? ⟨S2,4,none⟩=false:=zab kv4 4;have kv5:v5.heap[S2]?=some (.cells #[iI 0,iI 1,iI 0,iI 0,iI 0,iI 0,iI 0,.string ⟨#[]⟩,iI 0] 80):=by rw [<- hv5];exact zae kv4 4 _
 have Bv5:Below w.heap.size w v5:=by rw [<- hv5];exact zac Bv4 hleS
 clear kv4 Bv4;obtain ⟨v6,hv6⟩:∃ y,v5.setCell ⟨S2,5,none⟩ (iI 0)=y:=⟨_,rfl⟩;have z5:v5.cell? ⟨S2,5,none⟩=some (iI 0):=zaa kv5 rfl;have f5:v5.frozen? ⟨S2,5,none⟩=false:=zab kv5 5;have kv6:v6.heap[S2]?=some (.cells #[iI 0,iI 1,iI 0,iI 0,iI 0,iI 0,iI 0,.string ⟨#[]⟩,iI 0] 80):=by rw [<- hv6];exact zae kv5 5 _
 have Bv6:Below w.heap.size w v6:=by rw [<- hv6];exact zac Bv5 hleS
 clear kv5 Bv5;obtain ⟨v7,hv7⟩:∃ y,v6.setCell ⟨S2,6,none⟩ (iI 0)=y:=⟨_,rfl⟩;have z6:v6.cell? ⟨S2,6,none⟩=some (iI 0):=zaa kv6 rfl;have f6:v6.frozen? ⟨S2,6,none⟩=false:=zab kv6 6;have kv7:v7.heap[S2]?=some (.cells #[iI 0,iI 1,iI 0,iI 0,iI 0,iI 0,iI 0,.string ⟨#[]⟩,iI 0] 80):=by rw [<- hv7];exact zae kv6 6 _
 have Bv7:Below w.heap.size w v7:=by rw [<- hv7];exact zac Bv6 hleS
 clear kv6 Bv6;obtain ⟨v8,hv8⟩:∃ y,v7.setCell ⟨S2,7,none⟩ (.string res)=y:=⟨_,rfl⟩;have z7:v7.cell? ⟨S2,7,none⟩=some (.string ⟨#[]⟩):=zaa kv7 rfl;have f7:v7.frozen? ⟨S2,7,none⟩=false:=zab kv7 7;have kv8:v8.heap[S2]?=some (.cells #[iI 0,iI 1,iI 0,iI 0,iI 0,iI 0,iI 0,.string res,iI 0] 80):=by rw [<- hv8];exact zae kv7 7 _
 have Bv8:Below w.heap.size w v8:=by rw [<- hv8];exact zac Bv7 hleS
 clear kv7 Bv7;obtain ⟨v9,hv9⟩:∃ y,v8.setCell ⟨S2,8,none⟩ (iI 0)=y:=⟨_,rfl⟩;have z8:v8.cell? ⟨S2,8,none⟩=some (iI 0):=zaa kv8 rfl;have f8:v8.frozen? ⟨S2,8,none⟩=false:=zab kv8 8;have kv9:v9.heap[S2]?=some (.cells #[iI 0,iI 1,iI 0,iI 0,iI 0,iI 0,iI 0,.string res,iI 0] 80):=by rw [<- hv9];exact zae kv8 8 _
 have Bv9:Below w.heap.size w v9:=by rw [<- hv9];exact zac Bv8 hleS
 clear kv8 Bv8;have q0:v9.cell? ⟨S2,0,none⟩=some (iI 0):=zaa kv9 rfl;have q1:v9.cell? ⟨S2,1,none⟩=some (iI 1):=zaa kv9 rfl;have q2:v9.cell? ⟨S2,2,none⟩=some (iI 0):=zaa kv9 rfl;have q3:v9.cell? ⟨S2,3,none⟩=some (iI 0):=zaa kv9 rfl;have q4:v9.cell? ⟨S2,4,none⟩=some (iI 0):=zaa kv9 rfl;have q5:v9.cell? ⟨S2,5,none⟩=some (iI 0):=zaa kv9 rfl;have q6:v9.cell? ⟨S2,6,none⟩=some (iI 0):=zaa kv9 rfl;have q7:v9.cell? ⟨S2,7,none⟩=some (.string res):=zaa kv9 rfl;have q8:v9.cell? ⟨S2,8,none⟩=some (iI 0):=zaa kv9 rfl;have HB:=hid Bv9;have hb:=fun w=>bld80_suc res w;clear kv9 Bv9 k2 B2 k1 B1 k21 hlt1 hleS;go_enter Tryz.func87,Tryz.ntmps87
 go_wp2;refine bodyPost_ret (v:=.agg #[iI 0,iI 1,iI 0,iI 0,iI 0,iI 0,iI 0,.string res,iI 0]) (by simp [results,Tryz.results87,go_sem,q0,q1,q2,q3,q4,q5,q6,q7,q8]) rfl ?_;exact ⟨rfl,HB.out⟩
theorem outcome_ref (xid fl acc rej why low high:Int) (dn:Bool) (bo res:ByteArray) (w:World) (h0:dn=false) (h1:acc=5) :
 Calls Tryz.prog 87 #[.agg #[iI xid,.bool dn,iI fl,.string bo,iI acc,iI rej,iI why,iI low,iI high,.string res]] w fun e w'=>e=.returned (.agg #[iI 0,iI 3,iI 0,iI 0,iI 0,iI 0,iI 0,.string ⟨#[]⟩,iI 0])∧Below w.heap.size w w':=by
 subst h0 h1;obtain ⟨S1,hS1⟩:∃ y,w.heap.size=y:=⟨_,rfl⟩;obtain ⟨w1,hw1⟩:∃ y,w.alloc (.cells #[iI xid,.bool false,iI fl,.string bo,iI 5,iI rej,iI why,iI low,iI high,.string res] 46)=y:=⟨_,rfl⟩;have B1:Below w.heap.size w w1:=by rw [<- hw1];exact (Below.refl _ _).alloc (Nat.le_refl _) _
 have k1:w1.heap[S1]?=some (.cells #[iI xid,.bool false,iI fl,.string bo,iI 5,iI rej,iI why,iI low,iI high,.string res] 46):=by rw [<- hw1,<- hS1];exact (MapKept.heap_alloc w _).1
 obtain ⟨S2,hS2⟩:∃ y,w1.heap.size=y:=⟨_,rfl⟩;obtain ⟨w2,hw2⟩:∃ y,w1.alloc (.cells #[iI 0,iI 0,iI 0,iI 0,iI 0,iI 0,iI 0,.string ⟨#[]⟩,iI 0] 80)=y:=⟨_,rfl⟩;have B2:Below w.heap.size w w2:=by rw [<- hw2];exact B1.alloc B1.size _
 have k2:w2.heap[S2]?=some (.cells #[iI 0,iI 0,iI 0,iI 0,iI 0,iI 0,iI 0,.string ⟨#[]⟩,iI 0] 80):=by rw [<- hw2,<- hS2];exact (MapKept.heap_alloc w1 _).1
 have hlt1:S1<S2:=by rw [<- hS2];exact (Array.getElem?_eq_some_iff.1 k1).1
 have k21:w2.heap[S1]?=some (.cells #[iI xid,.bool false,iI fl,.string bo,iI 5,iI rej,iI why,iI low,iI high,.string res] 46):=by rw [<- hw2];exact (Below.heap_alloc _ _ _ (by omega)).trans k1
 have hleS:w.heap.size<=S2:=by omega
 have a1:w2.cell? ⟨S1,1,none⟩=some (.bool false):=zaa k21 rfl;have a4:w2.cell? ⟨S1,4,none⟩=some (iI 5):=zaa k21 rfl;have a5:w2.cell? ⟨S1,5,none⟩=some (iI rej):=zaa k21 rfl;have a6:w2.cell? ⟨S1,6,none⟩=some (iI why):=zaa k21 rfl;have a7:w2.cell? ⟨S1,7,none⟩=some (iI low):=zaa k21 rfl;have a8:w2.cell? ⟨S1,8,none⟩=some (iI high):=zaa k21 rfl;have a9:w2.cell? ⟨S1,9,none⟩=some (.string res):=zaa k21 rfl;obtain ⟨v1,hv1⟩:∃ y,w2.setCell ⟨S2,0,none⟩ (iI 0)=y:=⟨_,rfl⟩;have z0:w2.cell? ⟨S2,0,none⟩=some (iI 0):=zaa k2 rfl;have f0:w2.frozen? ⟨S2,0,none⟩=false:=zab k2 0;have kv1:v1.heap[S2]?=some (.cells #[iI 0,iI 0,iI 0,iI 0,iI 0,iI 0,iI 0,.string ⟨#[]⟩,iI 0] 80):=by rw [<- hv1];exact zae k2 0 _
 have Bv1:Below w.heap.size w v1:=by rw [<- hv1];exact zac B2 hleS
 obtain ⟨v2,hv2⟩:∃ y,v1.setCell ⟨S2,1,none⟩ (iI 3)=y:=⟨_,rfl⟩;have z1:v1.cell? ⟨S2,1,none⟩=some (iI 0):=zaa kv1 rfl;have f1:v1.frozen? ⟨S2,1,none⟩=false:=zab kv1 1;have kv2:v2.heap[S2]?=some (.cells #[iI 0,iI 3,iI 0,iI 0,iI 0,iI 0,iI 0,.string ⟨#[]⟩,iI 0] 80):=by rw [<- hv2];exact zae kv1 1 _
 have Bv2:Below w.heap.size w v2:=by rw [<- hv2];exact zac Bv1 hleS
 clear kv1 Bv1;obtain ⟨v3,hv3⟩:∃ y,v2.setCell ⟨S2,2,none⟩ (iI 0)=y:=⟨_,rfl⟩;have z2:v2.cell? ⟨S2,2,none⟩=some (iI 0):=zaa kv2 rfl;have f2:v2.frozen? ⟨S2,2,none⟩=false:=zab kv2 2;have kv3:v3.heap[S2]?=some (.cells #[iI 0,iI 3,iI 0,iI 0,iI 0,iI 0,iI 0,.string ⟨#[]⟩,iI 0] 80):=by rw [<- hv3];exact zae kv2 2 _
 have Bv3:Below w.heap.size w v3:=by rw [<- hv3];exact zac Bv2 hleS
 clear kv2 Bv2;obtain ⟨v4,hv4⟩:∃ y,v3.setCell ⟨S2,3,none⟩ (iI 0)=y:=⟨_,rfl⟩;have z3:v3.cell? ⟨S2,3,none⟩=some (iI 0):=zaa kv3 rfl;have f3:v3.frozen? ⟨S2,3,none⟩=false:=zab kv3 3;have kv4:v4.heap[S2]?=some (.cells #[iI 0,iI 3,iI 0,iI 0,iI 0,iI 0,iI 0,.string ⟨#[]⟩,iI 0] 80):=by rw [<- hv4];exact zae kv3 3 _
 have Bv4:Below w.heap.size w v4:=by rw [<- hv4];exact zac Bv3 hleS
 clear kv3 Bv3;obtain ⟨v5,hv5⟩:∃ y,v4.setCell ⟨S2,4,none⟩ (iI 0)=y:=⟨_,rfl⟩;have z4:v4.cell? ⟨S2,4,none⟩=some (iI 0):=zaa kv4 rfl;have f4:v4.frozen? ⟨S2,4,none⟩=false:=zab kv4 4;have kv5:v5.heap[S2]?=some (.cells #[iI 0,iI 3,iI 0,iI 0,iI 0,iI 0,iI 0,.string ⟨#[]⟩,iI 0] 80):=by rw [<- hv5];exact zae kv4 4 _
 have Bv5:Below w.heap.size w v5:=by rw [<- hv5];exact zac Bv4 hleS
 clear kv4 Bv4;obtain ⟨v6,hv6⟩:∃ y,v5.setCell ⟨S2,5,none⟩ (iI 0)=y:=⟨_,rfl⟩;have z5:v5.cell? ⟨S2,5,none⟩=some (iI 0):=zaa kv5 rfl;have f5:v5.frozen? ⟨S2,5,none⟩=false:=zab kv5 5;have kv6:v6.heap[S2]?=some (.cells #[iI 0,iI 3,iI 0,iI 0,iI 0,iI 0,iI 0,.string ⟨#[]⟩,iI 0] 80):=by rw [<- hv6];exact zae kv5 5 _
 have Bv6:Below w.heap.size w v6:=by rw [<- hv6];exact zac Bv5 hleS
 clear kv5 Bv5;obtain ⟨v7,hv7⟩:∃ y,v6.setCell ⟨S2,6,none⟩ (iI 0)=y:=⟨_,rfl⟩;have z6:v6.cell? ⟨S2,6,none⟩=some (iI 0):=zaa kv6 rfl;have f6:v6.frozen? ⟨S2,6,none⟩=false:=zab kv6 6;have kv7:v7.heap[S2]?=some (.cells #[iI 0,iI 3,iI 0,iI 0,iI 0,iI 0,iI 0,.string ⟨#[]⟩,iI 0] 80):=by rw [<- hv7];exact zae kv6 6 _
 have Bv7:Below w.heap.size w v7:=by rw [<- hv7];exact zac Bv6 hleS
 clear kv6 Bv6;obtain ⟨v8,hv8⟩:∃ y,v7.setCell ⟨S2,7,none⟩ (.string ⟨#[]⟩)=y:=⟨_,rfl⟩;have z7:v7.cell? ⟨S2,7,none⟩=some (.string ⟨#[]⟩):=zaa kv7 rfl;have f7:v7.frozen? ⟨S2,7,none⟩=false:=zab kv7 7;have kv8:v8.heap[S2]?=some (.cells #[iI 0,iI 3,iI 0,iI 0,iI 0,iI 0,iI 0,.string ⟨#[]⟩,iI 0] 80):=by rw [<- hv8];exact zae kv7 7 _
 have Bv8:Below w.heap.size w v8:=by rw [<- hv8];exact zac Bv7 hleS
 clear kv7 Bv7;obtain ⟨v9,hv9⟩:∃ y,v8.setCell ⟨S2,8,none⟩ (iI 0)=y:=⟨_,rfl⟩;have z8:v8.cell? ⟨S2,8,none⟩=some (iI 0):=zaa kv8 rfl;have f8:v8.frozen? ⟨S2,8,none⟩=false:=zab kv8 8;have kv9:v9.heap[S2]?=some (.cells #[iI 0,iI 3,iI 0,iI 0,iI 0,iI 0,iI 0,.string ⟨#[]⟩,iI 0] 80):=by rw [<- hv9];exact zae kv8 8 _
 have Bv9:Below w.heap.size w v9:=by rw [<- hv9];exact zac Bv8 hleS
 clear kv8 Bv8;have q0:v9.cell? ⟨S2,0,none⟩=some (iI 0):=zaa kv9 rfl;have q1:v9.cell? ⟨S2,1,none⟩=some (iI 3):=zaa kv9 rfl;have q2:v9.cell? ⟨S2,2,none⟩=some (iI 0):=zaa kv9 rfl;have q3:v9.cell? ⟨S2,3,none⟩=some (iI 0):=zaa kv9 rfl;have q4:v9.cell? ⟨S2,4,none⟩=some (iI 0):=zaa kv9 rfl;have q5:v9.cell? ⟨S2,5,none⟩=some (iI 0):=zaa kv9 rfl;have q6:v9.cell? ⟨S2,6,none⟩=some (iI 0):=zaa kv9 rfl;have q7:v9.cell? ⟨S2,7,none⟩=some (.string ⟨#[]⟩):=zaa kv9 rfl;have q8:v9.cell? ⟨S2,8,none⟩=some (iI 0):=zaa kv9 rfl;have HB:=hid Bv9;have hb:=fun w=>bld80_ref w;clear kv9 Bv9 k2 B2 k1 B1 k21 hlt1 hleS;go_enter Tryz.func87,Tryz.ntmps87
 go_wp2;refine bodyPost_ret (v:=.agg #[iI 0,iI 3,iI 0,iI 0,iI 0,iI 0,iI 0,.string ⟨#[]⟩,iI 0]) (by simp [results,Tryz.results87,go_sem,q0,q1,q2,q3,q4,q5,q6,q7,q8]) rfl ?_;exact ⟨rfl,HB.out⟩
theorem outcome_acc (xid fl acc rej why low high:Int) (dn:Bool) (bo res:ByteArray) (w:World) (h0:dn=false) (h1:acc≠0) (h2:acc≠5) :
 Calls Tryz.prog 87 #[.agg #[iI xid,.bool dn,iI fl,.string bo,iI acc,iI rej,iI why,iI low,iI high,.string res]] w fun e w'=>e=.returned (.agg #[iI 0,iI 4,iI acc,iI 0,iI 0,iI low,iI high,.string ⟨#[]⟩,iI 0])∧Below w.heap.size w w':=by
 subst h0;have e0:(acc==0)=false:=by simpa using h1
 have e5:(acc==5)=false:=by simpa using h2
 clear h1 h2;obtain ⟨S1,hS1⟩:∃ y,w.heap.size=y:=⟨_,rfl⟩;obtain ⟨w1,hw1⟩:∃ y,w.alloc (.cells #[iI xid,.bool false,iI fl,.string bo,iI acc,iI rej,iI why,iI low,iI high,.string res] 46)=y:=⟨_,rfl⟩;have B1:Below w.heap.size w w1:=by rw [<- hw1];exact (Below.refl _ _).alloc (Nat.le_refl _) _
 have k1:w1.heap[S1]?=some (.cells #[iI xid,.bool false,iI fl,.string bo,iI acc,iI rej,iI why,iI low,iI high,.string res] 46):=by rw [<- hw1,<- hS1];exact (MapKept.heap_alloc w _).1
 obtain ⟨S2,hS2⟩:∃ y,w1.heap.size=y:=⟨_,rfl⟩;obtain ⟨w2,hw2⟩:∃ y,w1.alloc (.cells #[iI 0,iI 0,iI 0,iI 0,iI 0,iI 0,iI 0,.string ⟨#[]⟩,iI 0] 80)=y:=⟨_,rfl⟩;have B2:Below w.heap.size w w2:=by rw [<- hw2];exact B1.alloc B1.size _
 have k2:w2.heap[S2]?=some (.cells #[iI 0,iI 0,iI 0,iI 0,iI 0,iI 0,iI 0,.string ⟨#[]⟩,iI 0] 80):=by rw [<- hw2,<- hS2];exact (MapKept.heap_alloc w1 _).1
 have hlt1:S1<S2:=by rw [<- hS2];exact (Array.getElem?_eq_some_iff.1 k1).1
 have k21:w2.heap[S1]?=some (.cells #[iI xid,.bool false,iI fl,.string bo,iI acc,iI rej,iI why,iI low,iI high,.string res] 46):=by rw [<- hw2];exact (Below.heap_alloc _ _ _ (by omega)).trans k1
 have hleS:w.heap.size<=S2:=by omega
 have a1:w2.cell? ⟨S1,1,none⟩=some (.bool false):=zaa k21 rfl;have a4:w2.cell? ⟨S1,4,none⟩=some (iI acc):=zaa k21 rfl;have a5:w2.cell? ⟨S1,5,none⟩=some (iI rej):=zaa k21 rfl;have a6:w2.cell? ⟨S1,6,none⟩=some (iI why):=zaa k21 rfl;have a7:w2.cell? ⟨S1,7,none⟩=some (iI low):=zaa k21 rfl;have a8:w2.cell? ⟨S1,8,none⟩=some (iI high):=zaa k21 rfl;have a9:w2.cell? ⟨S1,9,none⟩=some (.string res):=zaa k21 rfl;obtain ⟨v1,hv1⟩:∃ y,w2.setCell ⟨S2,0,none⟩ (iI 0)=y:=⟨_,rfl⟩;have z0:w2.cell? ⟨S2,0,none⟩=some (iI 0):=zaa k2 rfl;have f0:w2.frozen? ⟨S2,0,none⟩=false:=zab k2 0;have kv1:v1.heap[S2]?=some (.cells #[iI 0,iI 0,iI 0,iI 0,iI 0,iI 0,iI 0,.string ⟨#[]⟩,iI 0] 80):=by rw [<- hv1];exact zae k2 0 _
 have Bv1:Below w.heap.size w v1:=by rw [<- hv1];exact zac B2 hleS
 obtain ⟨v2,hv2⟩:∃ y,v1.setCell ⟨S2,1,none⟩ (iI 4)=y:=⟨_,rfl⟩;have z1:v1.cell? ⟨S2,1,none⟩=some (iI 0):=zaa kv1 rfl;have f1:v1.frozen? ⟨S2,1,none⟩=false:=zab kv1 1;have kv2:v2.heap[S2]?=some (.cells #[iI 0,iI 4,iI 0,iI 0,iI 0,iI 0,iI 0,.string ⟨#[]⟩,iI 0] 80):=by rw [<- hv2];exact zae kv1 1 _
 have Bv2:Below w.heap.size w v2:=by rw [<- hv2];exact zac Bv1 hleS
 clear kv1 Bv1;obtain ⟨v3,hv3⟩:∃ y,v2.setCell ⟨S2,2,none⟩ (iI acc)=y:=⟨_,rfl⟩;have z2:v2.cell? ⟨S2,2,none⟩=some (iI 0):=zaa kv2 rfl;have f2:v2.frozen? ⟨S2,2,none⟩=false:=zab kv2 2;have kv3:v3.heap[S2]?=some (.cells #[iI 0,iI 4,iI acc,iI 0,iI 0,iI 0,iI 0,.string ⟨#[]⟩,iI 0] 80):=by rw [<- hv3];exact zae kv2 2 _
 have Bv3:Below w.heap.size w v3:=by rw [<- hv3];exact zac Bv2 hleS
 clear kv2 Bv2;obtain ⟨v4,hv4⟩:∃ y,v3.setCell ⟨S2,3,none⟩ (iI 0)=y:=⟨_,rfl⟩;have z3:v3.cell? ⟨S2,3,none⟩=some (iI 0):=zaa kv3 rfl;have f3:v3.frozen? ⟨S2,3,none⟩=false:=zab kv3 3;have kv4:v4.heap[S2]?=some (.cells #[iI 0,iI 4,iI acc,iI 0,iI 0,iI 0,iI 0,.string ⟨#[]⟩,iI 0] 80):=by rw [<- hv4];exact zae kv3 3 _
 have Bv4:Below w.heap.size w v4:=by rw [<- hv4];exact zac Bv3 hleS
 clear kv3 Bv3;obtain ⟨v5,hv5⟩:∃ y,v4.setCell ⟨S2,4,none⟩ (iI 0)=y:=⟨_,rfl⟩;have z4:v4.cell? ⟨S2,4,none⟩=some (iI 0):=zaa kv4 rfl;have f4:v4.frozen? ⟨S2,4,none⟩=false:=zab kv4 4;have kv5:v5.heap[S2]?=some (.cells #[iI 0,iI 4,iI acc,iI 0,iI 0,iI 0,iI 0,.string ⟨#[]⟩,iI 0] 80):=by rw [<- hv5];exact zae kv4 4 _
 have Bv5:Below w.heap.size w v5:=by rw [<- hv5];exact zac Bv4 hleS
 clear kv4 Bv4;obtain ⟨v6,hv6⟩:∃ y,v5.setCell ⟨S2,5,none⟩ (iI low)=y:=⟨_,rfl⟩;have z5:v5.cell? ⟨S2,5,none⟩=some (iI 0):=zaa kv5 rfl;have f5:v5.frozen? ⟨S2,5,none⟩=false:=zab kv5 5;have kv6:v6.heap[S2]?=some (.cells #[iI 0,iI 4,iI acc,iI 0,iI 0,iI low,iI 0,.string ⟨#[]⟩,iI 0] 80):=by rw [<- hv6];exact zae kv5 5 _
 have Bv6:Below w.heap.size w v6:=by rw [<- hv6];exact zac Bv5 hleS
 clear kv5 Bv5;obtain ⟨v7,hv7⟩:∃ y,v6.setCell ⟨S2,6,none⟩ (iI high)=y:=⟨_,rfl⟩;have z6:v6.cell? ⟨S2,6,none⟩=some (iI 0):=zaa kv6 rfl;have f6:v6.frozen? ⟨S2,6,none⟩=false:=zab kv6 6;have kv7:v7.heap[S2]?=some (.cells #[iI 0,iI 4,iI acc,iI 0,iI 0,iI low,iI high,.string ⟨#[]⟩,iI 0] 80):=by rw [<- hv7];exact zae kv6 6 _
 have Bv7:Below w.heap.size w v7:=by rw [<- hv7];exact zac Bv6 hleS
 clear kv6 Bv6;obtain ⟨v8,hv8⟩:∃ y,v7.setCell ⟨S2,7,none⟩ (.string ⟨#[]⟩)=y:=⟨_,rfl⟩;have z7:v7.cell? ⟨S2,7,none⟩=some (.string ⟨#[]⟩):=zaa kv7 rfl;have f7:v7.frozen? ⟨S2,7,none⟩=false:=zab kv7 7;have kv8:v8.heap[S2]?=some (.cells #[iI 0,iI 4,iI acc,iI 0,iI 0,iI low,iI high,.string ⟨#[]⟩,iI 0] 80):=by rw [<- hv8];exact zae kv7 7 _
 have Bv8:Below w.heap.size w v8:=by rw [<- hv8];exact zac Bv7 hleS
 clear kv7 Bv7;obtain ⟨v9,hv9⟩:∃ y,v8.setCell ⟨S2,8,none⟩ (iI 0)=y:=⟨_,rfl⟩;have z8:v8.cell? ⟨S2,8,none⟩=some (iI 0):=zaa kv8 rfl;have f8:v8.frozen? ⟨S2,8,none⟩=false:=zab kv8 8;have kv9:v9.heap[S2]?=some (.cells #[iI 0,iI 4,iI acc,iI 0,iI 0,iI low,iI high,.string ⟨#[]⟩,iI 0] 80):=by rw [<- hv9];exact zae kv8 8 _
 have Bv9:Below w.heap.size w v9:=by rw [<- hv9];exact zac Bv8 hleS
 clear kv8 Bv8;have q0:v9.cell? ⟨S2,0,none⟩=some (iI 0):=zaa kv9 rfl;have q1:v9.cell? ⟨S2,1,none⟩=some (iI 4):=zaa kv9 rfl;have q2:v9.cell? ⟨S2,2,none⟩=some (iI acc):=zaa kv9 rfl;have q3:v9.cell? ⟨S2,3,none⟩=some (iI 0):=zaa kv9 rfl;have q4:v9.cell? ⟨S2,4,none⟩=some (iI 0):=zaa kv9 rfl;have q5:v9.cell? ⟨S2,5,none⟩=some (iI low):=zaa kv9 rfl;have q6:v9.cell? ⟨S2,6,none⟩=some (iI high):=zaa kv9 rfl;have q7:v9.cell? ⟨S2,7,none⟩=some (.string ⟨#[]⟩):=zaa kv9 rfl;have q8:v9.cell? ⟨S2,8,none⟩=some (iI 0):=zaa kv9 rfl;have HB:=hid Bv9;have hb:=fun w=>bld80_acc low high acc w;clear kv9 Bv9 k2 B2 k1 B1 k21 hlt1 hleS;go_enter Tryz.func87,Tryz.ntmps87
 go_wp2;refine bodyPost_ret (v:=.agg #[iI 0,iI 4,iI acc,iI 0,iI 0,iI low,iI high,.string ⟨#[]⟩,iI 0]) (by simp [results,Tryz.results87,go_sem,q0,q1,q2,q3,q4,q5,q6,q7,q8]) rfl ?_;exact ⟨rfl,HB.out⟩
theorem outcome_any (r:ReplyP) (w:World):Calls Tryz.prog 87 #[.agg (zam r).toArray] w fun e w'=>e=.returned (.agg (ocC (zcy r)).toArray)∧Below w.heap.size w w':=by
 obtain ⟨xid,dn,vf,acc,low,high,res,rej,why⟩:=r;unfold zcy;dsimp only
 cases dn
 · by_cases h0:acc=0
   · rw [if_neg (by decide),if_pos h0];exact outcome_suc xid _ acc rej why low high false _ _ w rfl h0
   · by_cases h5:acc=5
     · rw [if_neg (by decide),if_neg h0,if_pos h5];exact outcome_ref xid _ acc rej why low high false _ _ w rfl h5
     · rw [if_neg (by decide),if_neg h0,if_neg h5];exact outcome_acc xid _ acc rej why low high false _ _ w rfl h0 h5
 · rw [if_pos rfl];exact outcome_den xid _ acc rej why low high true _ _ w rfl
theorem zbs (n:Int) (w:World):Calls Tryz.prog 61 #[iI n] w fun e w'=>e=.returned (.bool (inB n 0 4294967295))∧w'=w:=by
 unfold inB;cases h1:decide (0<=n) <;> cases h2:decide (n<=4294967295)
 all_goals (
  go_enter Tryz.func61,Tryz.ntmps61
  go_wp2;go_ret
  exact ⟨rfl,rfl⟩)
theorem zhh {x:Int} (h:-4000000000000<=x) (h' : x<=4000000000000):wrap64 x=x:=by unfold wrap64;omega
theorem meas32 {n:Nat} {q:Int} (hq:q=(n:Int)+1) (h:n+1<=32):32 - (intOf (iI q)).toNat<32 - (intOf (iI (n:Int))).toNat:=by
 show 32 - q.toNat<32 - (n:Int).toNat
 omega
def dcnt (b c t now iss:Int):Nat->Nat->Nat
 | 0,n=>n
 | k+1,n=>if (n:Int)<t∧iss+Pc.totP b c t n<=now then dcnt b c t now iss k (n+1) else n
theorem zez {b c t now iss:Int} {k n:Nat} (h:(n:Int)<t∧iss+Pc.totP b c t n<=now):dcnt b c t now iss (k+1) n=dcnt b c t now iss k (n+1):=if_pos h
theorem zcs {b c t now iss:Int} {n:Nat} (h:¬ ((n:Int)<t∧iss+Pc.totP b c t n<=now)):∀ k,dcnt b c t now iss k n=n
 | 0=>rfl
 | _+1=>if_neg h
section
variable {K K' : Nat->Nat} {w w' : World} {B t p:Nat} {c:Cf} {oa:Option Addr} {cap:Nat} {next now:Int} {L:List Dw} {D:List Oc} {vw vd:Value} {q:Mq}
theorem DC.dues_any (h:DC K w B t p c oa cap next now L D vw vd q) (x:Dw) (hi:-1000000000000<=x.iss∧x.iss<=1000000000000) :
 Calls Tryz.prog 62 #[ptr p,.agg (dwC x).toArray] w fun e w'=>e=.returned (iI (dcnt c.pb c.pc c.pt now x.iss 40 0))∧Below w.heap.size w w':=by
 have hok:=h.ok;have hpt:c.pt<=32:=by
  unfold okC Pc.rightP at hok;simp only [Bool.and_eq_true,decide_eq_true_eq,inB,Pc.inB] at hok;omega
 obtain ⟨S,hS⟩:∃ S,w.heap.size=S:=⟨_,rfl⟩;obtain ⟨w0,hw0⟩:∃ y,w.alloc (.cells (dwC x).toArray 126)=y:=⟨_,rfl⟩;have B0:Below w.heap.size w w0:=by rw [<- hw0];exact (Below.refl _ _).alloc (Nat.le_refl _) _
 have k0:w0.heap[S]?=some (.cells (dwC x).toArray 126):=by rw [<- hw0,<- hS];exact (MapKept.heap_alloc w _).1
 have P0:=h.below B0 (fun _=>t+7);have c4:w0.cell? ⟨p,4,none⟩=some (iI c.pb):=P0.ce rfl;have c5:w0.cell? ⟨p,5,none⟩=some (iI c.pc):=P0.ce rfl;have c6:w0.cell? ⟨p,6,none⟩=some (iI c.pt):=P0.ce rfl;have c12:w0.cell? ⟨p,12,none⟩=some (iI now):=P0.ce rfl;have a11:w0.cell? ⟨S,11,none⟩=some (iI x.iss):=zaa k0 rfl;have Aa:=hid B0;have HC:Hid (∀ u,Below w0.heap.size w0 u->u.cell? ⟨p,4,none⟩=some (iI c.pb)∧u.cell? ⟨p,5,none⟩=some (iI c.pc)∧u.cell? ⟨p,6,none⟩=some (iI c.pt)∧u.cell? ⟨p,12,none⟩=some (iI now)):=fun u hb=>by
  have P1:=P0.below hb (fun _=>t+7);exact ⟨P1.ce rfl,P1.ce rfl,P1.ce rfl,P1.ce rfl⟩
 have HI:=hid hi;have HT:=hid hpt;have HW:=hid (fun u n hn=>Pc.dwait_any u c.pb c.pc c.pt n hn);obtain ⟨R,hR⟩:∃ R,dcnt c.pb c.pc c.pt now x.iss 40 0=R:=⟨_,rfl⟩;rw [hR];have HR:=hid hR;unfold dwC at *;clear h hok hpt hi P0 B0 k0 hR;go_enter Tryz.func62,Tryz.ntmps62
 go_wp2_with fail
 go_loopw [5,6] (fun u5 u6 wr=>∃ (n:Nat) (a:Int),u5=iI (n:Int)∧u6=iI a∧n<=32∧Hid (x.iss+Pc.totP c.pb c.pc c.pt n=a∧dcnt c.pb c.pc c.pt now x.iss (40 - n) n=R∧Below w0.heap.size w0 wr)) (fun u5 _ _=>32 - (intOf u5).toNat)
 case atStart=>exact ⟨0,x.iss,rfl,rfl,by omega,by unfold Pc.totP;omega,HR.out,Below.refl _ _⟩
 case round =>
  obtain ⟨n,a,rfl,rfl,hn,HN⟩:=hrel;clear c4 c5 c6 c12 a11 hw0;obtain ⟨c4,c5,c6,c12⟩:=HC.out wr HN.out.2.2;by_cases hg:(n:Int)<c.pt∧a<=now
  · obtain ⟨hg1,hg2⟩:=hg;obtain ⟨v,hv⟩:∃ v,Pc.waitP c.pb c.pc c.pt (n:Int)=v:=⟨_,rfl⟩;(have HV:Hid (∀ u,Calls Tryz.prog 98 #[Pc.paV c.pb c.pc c.pt,iI (n:Int)] u fun e w'=>e=.returned (iI v)∧Below u.heap.size u w'):=fun u=>by rw [<- hv];exact HW.out u _ (by omega));obtain ⟨h32,ha1,ha2,hf0⟩:n+1<=32∧-4000000000000<=a+v∧a+v<=4000000000000∧x.iss+Pc.totP c.pb c.pc c.pt (n+1)=a+v:=by
     have hwv:=Pc.wait_in c.pb c.pc c.pt (n:Int);have htv:=Pc.tot_in c.pb c.pc c.pt n;have hav:=HN.out.1;have hi:=HI.out;have h0:=HT.out;rw [hv] at hwv;have e:Pc.totP c.pb c.pc c.pt (n+1)=Pc.totP c.pb c.pc c.pt n+Pc.waitP c.pb c.pc c.pt (n:Int):=rfl;rw [hv] at e;generalize Pc.totP c.pb c.pc c.pt (n+1)=T1 at *;generalize Pc.totP c.pb c.pc c.pt n=T0 at *;clear HN HC Aa HW HV;omega
    have hHF:Hid (∀ u,Below wr.heap.size wr u->x.iss+Pc.totP c.pb c.pc c.pt (n+1)=a+v∧dcnt c.pb c.pc c.pt now x.iss (40 - (n+1)) (n+1)=R∧Below w0.heap.size w0 u):=fun u hb=>by
     obtain ⟨e1,e2,e3⟩:=HN.out;refine ⟨hf0,?_,e3.trans (hb.mono e3.size)⟩;rw [<- e2,show 40 - n=(40 - (n+1))+1 by omega,zez ⟨hg1,by rw [e1];exact hg2⟩]
    have HF:=hHF;have hadd:wrap64 (a+v)=a+v:=zhh ha1 ha2;have hn1:wrap64 ((n:Int)+1)=(n:Int)+1:=zb0 (Nat.le_trans hn (by decide));clear hv HN hHF ha1 ha2 hf0;(go_wp2_with fail);refine (HV.out _).mono ?_;rintro _ w1 ⟨rfl,hb⟩;have Ab:=hid (HF.out _ hb);clear hb HF c4 c5 c6 c12;go_wp2;go_roundw
    case rel=>exact ⟨n+1,a+v,by first|rfl|rw [hn1];rfl,by first|rfl|rw [hadd],h32,Ab.out⟩
    case measure=>exact meas32 (by first|rfl|exact hn1) h32
  · have HE:Hid ((n:Int)=(R:Int)∧Below S w wr):=by
     rw [<- hS];obtain ⟨e1,e2,e3⟩:=HN.out;refine ⟨?_,Aa.out.trans (e3.mono Aa.out.size)⟩;rw [zcs (by rw [e1];exact hg)] at e2;rw [e2]
    clear HN;by_cases hg1:(n:Int)<c.pt
    · have hg2:¬ a<=now:=fun e=>hg ⟨hg1,e⟩;clear hg;go_wp2;go_ret;exact ⟨by rw [HE.out.1];rfl,HE.out.2⟩
    · clear hg;go_wp2;go_ret;exact ⟨by rw [HE.out.1];rfl,HE.out.2⟩
end
section
variable {P:Program} {ops:Array Oper} {rest:List Oper} {op:Oper} {a:Act} {w:World} {Q:Exit->Act->World->Prop}
theorem zbj (ty:TypeId) {x:Operand} (_ho:op.op=.load ty x) (h:Hid (wpList P ops Q (op::rest) a w)):wpList P ops Q (op::rest) a w:=h
theorem zba (ty:TypeId) {x y:Operand} (_ho:op.op=.store ty x y) (h:Hid (wpList P ops Q (op::rest) a w)):wpList P ops Q (op::rest) a w:=h
def putC:Array Value->Nat->List Value->Array Value
 | cs,_,[]=>cs
 | cs,o,v::vs=>putC (cs.setIfInBounds o v) (o+1) vs
theorem setCells_at:∀ (vs:List Value) (o:Nat) {w:World} {S:Nat} {cs:Array Value} {t:TypeId},w.heap[S]?=some (.cells cs t)->(w.setCells S o vs).heap[S]?=some (.cells (putC cs o vs) t)
 | [],_,_,_,_,_,h=>h
 | _::vs,o,_,_,_,_,h=>setCells_at vs (o+1) (zae h o _)
theorem zbm:∀ (vs:List Value) (o:Nat) (w:World) (S b:Nat),b≠S->(w.setCells S o vs).heap[b]?=w.heap[b]?
 | [],_,_,_,_,_=>rfl
 | _::vs,o,_,S,b,h=>(zbm vs (o+1) _ S b h).trans (Below.heap_setCell _ _ _ _ h)
theorem zc7:∀ (vs:List Value) (o:Nat) (w:World) (S:Nat),(w.setCells S o vs).os=w.os∧(w.setCells S o vs).tape=w.tape∧(w.setCells S o vs).output=w.output∧(w.setCells S o vs).heap.size=w.heap.size
 | [],_,_,_=>⟨rfl,rfl,rfl,rfl⟩
 | v::vs,o,w,S=>by
  obtain ⟨a,b,c,d⟩:=zc7 vs (o+1) (w.setCell ⟨S,o,none⟩ v) S;exact ⟨a,b,c,by simp only [World.setCells];rw [d];simp⟩
theorem mv_sets (w:World) (K:Nat->Nat) (S o:Nat) (vs:List Value) {t:Nat} (hp:K S=t):Mv (fun x=>x=t) w (w.setCells S o vs) K K:=by
 obtain ⟨a,b,c,d⟩:=zc7 vs o w S;exact ⟨a,b,c,Nat.le_of_eq d.symm,fun _ _=>rfl,fun x _ ht=>zbm vs o w S x (fun e=>ht (by rw [e];exact hp))⟩
theorem za1 {w w' : World} {B S o:Nat} {vs:List Value} (h:Below B w w') (hS:B<=S):Below B w (w'.setCells S o vs):=by
 obtain ⟨a,b,c,d⟩:=zc7 vs o w' S;exact ⟨a.trans h.os,b.trans h.tape,c.trans h.output,by rw [d];exact h.size,fun x hx=>(zbm vs o w' S x (by omega)).trans (h.block x hx)⟩
theorem there_of {w:World} {S o n:Nat} {cs:Array Value} {t:TypeId} (h:w.heap[S]?=some (.cells cs t)) (hl:o+n<=cs.size):w.there S o n:=fun j hj=>by
 refine ⟨?_,zab h _⟩;rw [zaa h (Array.getElem?_eq_getElem (by omega))];rfl
theorem za6 (hgd:op.guard=none) (ty:TypeId) {x y:Operand} (ho:op.op=.store ty x y) (S o:Nat) (vs:List Value) {cs:Array Value} {t:TypeId} (hb:w.heap[S]?=some (.cells cs t)) (hx:a.eval x=.pointer (some ⟨S,o,none⟩)) (hy:a.eval y=.agg vs.toArray)
 (hl:o+vs.length<=cs.size) (hi:(P.info? ty).map (·.size)=some vs.length) (h1:∀ v∈vs,v.oneCell'=true) {w' : World} (hw:w.setCells S o vs=w') (h:wpList P ops Q rest (a.put op.dst undef) w'):wpList P ops Q (op::rest) a w:=by
 subst hw;exact wpList_store_mid hgd ty x y ho S o vs.toArray hx hy (there_of hb (by simpa using hl)) (by simpa using hi) (all_oneCell_toArray h1) (by simpa using h)
theorem zbh (hgd:op.guard=none) (ty:TypeId) {x:Operand} (ho:op.op=.load ty x) (S o:Nat) (vs:List Value) (hx:a.eval x=.pointer (some ⟨S,o,none⟩)) (hc:w.rangeAt S o vs) {d:TypeDesc} (hu:P.underlying ty=some d) (hd:d.isRow=true) (hi:(P.info? ty).map (·.size)=some vs.length)
 (h:wpList P ops Q rest (a.put op.dst (.agg vs.toArray)) w):wpList P ops Q (op::rest) a w :=
 wpList_load_mid hgd ty x ho S o hx vs d hc hu hd hi h
end
theorem zal {w:World} {S:Nat} {vs:List Value} {t:TypeId} (h:w.heap[S]?=some (.cells vs.toArray t)):w.rangeAt S 0 vs:=fun j v hv=>by
 rw [Nat.zero_add];exact zaa h (by simpa using hv)
theorem RW.range {α:Type} {e sz:Nat} {cf:α->List Value} {K:Nat->Nat} {w:World} {B t:Nat} {l:List α} (hcf:∀ x,(cf x).length=sz) {g cap n:Nat} (h:RW e sz cf K w B t (.slice (some ⟨g,0,none⟩) n cap) l) (hn:l.length=n) {j:Nat} {x:α} (hx:l[j]?=some x):w.rangeAt g (j*sz) (cf x):=fun k v hv=>by
 rw [h.cell hcf hn hx k (by rw [<- hcf x];exact (List.getElem?_eq_some_iff.1 hv).1)];exact hv
def setL:List Value->Nat->List Value->List Value
 | xs,_,[]=>xs
 | xs,o,v::vs=>setL (xs.set o v) (o+1) vs
theorem setL_mid:∀ (vs M A C:List Value),vs.length=M.length->setL (A++(M++C)) A.length vs=A++(vs++C)
 | [],[],_,_,_=>rfl
 | [],_::_,_,_,h=>by simp at h
 | _::_,[],_,_,h=>by simp at h
 | v::vs,m::M,A,C,h=>by
  have e:(A++(m::M++C)).set A.length v=(A++[v])++(M++C):=by
   rw [List.set_append_right _ _ (Nat.le_refl _),Nat.sub_self];simp
  have k:=setL_mid vs M (A++[v]) C (by simpa using h);rw [List.length_append,List.length_singleton] at k;unfold setL;rw [e,k];simp
theorem own_sets {base:Nat} {e:TypeId} {size g n cap:Nat} : ∀ (vs:List Value) (o:Nat) (xs:List Value) {w:World},w.ownsRow base e size (.slice (some ⟨g,0,none⟩) n cap) n xs->(w.setCells g o vs).ownsRow base e size (.slice (some ⟨g,0,none⟩) n cap) n (setL xs o vs)
 | [],_,_,_,h=>h
 | v::vs,o,_,_,h=>own_sets vs (o+1) _ (h.stored o v).1
theorem RW.sets {α:Type} {e sz:Nat} {cf:α->List Value} {K:Nat->Nat} {w:World} {B t:Nat} (hcf:∀ x,(cf x).length=sz) {g cap n:Nat} {L1 L2:List α} {x x' : α} (h:RW e sz cf K w B t (.slice (some ⟨g,0,none⟩) n cap) (L1++x::L2)) (hn:(L1++x::L2).length=n) :
 RW e sz cf K (w.setCells g (L1.length*sz) (cf x')) B t (.slice (some ⟨g,0,none⟩) n cap) (L1++x'::L2)∧Mv (fun y=>y=t) w (w.setCells g (L1.length*sz) (cf x')) K K:=by
 have ho:=h.own;have hn2:(L1++x'::L2).length=n:=by rw [<- hn];simp
 refine ⟨⟨?_,h.k⟩,mv_sets w K g _ _ (h.k g rfl)⟩;rw [hn] at ho;rw [hn2];have k:=own_sets (cf x') (L1.length*sz) _ ho;rw [List.flatMap_append,List.flatMap_cons,<- fm_len hcf L1,setL_mid (cf x') (cf x) _ _ (by rw [hcf,hcf]),fm_len hcf L1] at k;rw [List.flatMap_append,List.flatMap_cons];exact k
theorem own_apps {α:Type} {e sz:Nat} {cf:α->List Value} {w:World} {B:Nat} {v:Value} {l:List α} {ty:TypeId} {i:TypeInfo} {z:Value} {bytes:Nat} (hty:Tryz.prog.underlying ty=some (.slice e)) (hi:Tryz.prog.info? e=some i) (hz:i.zero=some z) (hs:i.size=sz) (hby:i.bytes=bytes) (hzs:z.cells.size=sz) (hsz:0<sz) (hcf:∀ x,(cf x).length=sz) (h1:∀ x,∀ u∈cf x,u.oneCell'=true)
 (h:w.ownsRow B e sz v l.length (l.flatMap cf)) (hB:B<=w.heap.size) (g off cap:Nat) (M:List α) (hr:∀ j x,M[j]?=some x->w.rangeAt g (off+j*sz) (cf x)) (hm:(l.length+M.length)*bytes<=140737488355328) (hm2:l.length+M.length<=1000000000000) :
 ∃ v' w',(∀ r,(Builtin.append_ #[ty,ty] r #[v,.slice (some ⟨g,off,none⟩) M.length cap]).run Tryz.prog w=.ok v' w')∧w'.ownsRow B e sz v' (l++M).length ((l++M).flatMap cf)∧w.grownBy w' v.ownBlock∧(v'.ownBlock=v.ownBlock∨v'.ownBlock=some w.heap.size):=by
 have hnews:∀ j u,(M.flatMap cf)[j]?=some u->w.cell? ((⟨g,off,none⟩:Addr).add j)=some u:=fun j u hu=>by
  rw [Addr.add_mid];have hj:j<(M.flatMap cf).length:=(List.getElem?_eq_some_iff.1 hu).1;rw [fm_len hcf] at hj;have hd:=Nat.div_add_mod j sz;have hmod:=Nat.mod_lt j hsz;have hq:j / sz<M.length:=Nat.div_lt_of_lt_mul (by rw [Nat.mul_comm];exact hj);obtain ⟨x,hx⟩:∃ x,M[j / sz]?=some x:=⟨_,List.getElem?_eq_getElem hq⟩;have k:=fm_get hcf M (j / sz) (j % sz) x hmod hx;rw [Nat.mul_comm,hd] at k;rw [k] at hu;have:=hr _ x hx (j % sz) u hu
  rwa [show off+j / sz*sz+j % sz=off+j by rw [Nat.mul_comm (j / sz),Nat.add_assoc,hd]] at this
 obtain ⟨v',w',hrun,ho,hg,_,hat⟩:=run_append_own_at (P:=Tryz.prog) w B ty 0 e i z sz bytes hty hi hz hs hby hzs hsz v l.length (l.flatMap cf) h ⟨g,off,none⟩ M.length cap (M.flatMap cf) (fm_len hcf M) hnews (fun u hu=>by obtain ⟨x,_,hx⟩:=List.mem_flatMap.1 hu;exact h1 x u hx) (by unfold maxLen;omega) hm hB;refine ⟨v',w',fun r=>hrun,?_,hg,hat⟩;rw [List.flatMap_append,List.length_append];exact ho
theorem zcj {P:Program} {ops:Array Oper} {o:Oper} {a:Act} {w:World} {K:Act->World->Prop} {Q:Exit->Act->World->Prop} {E:Prop} (hg:o.guard=none) (ty:TypeId) (x y:Operand) (ho:o.op=.store ty x y) (S k:Nat) (vs:List Value) {cs:Array Value} {t:TypeId} (hb:w.heap[S]?=some (.cells cs t))
 (hx:a.eval x=.pointer (some ⟨S,k,none⟩)) (hy:a.eval y=.agg vs.toArray) (hl:k+vs.length<=cs.size) (hi:(P.info? ty).map (·.size)=some vs.length) (h1:∀ v∈vs,v.oneCell'=true) {w' : World} (hw:w.setCells S k vs=w') (h:K (a.put o.dst undef) w') :
 if Region.wanted o (yielded ops a.tmps)=true then Oper.wp P o a w K Q else E:=by
 subst hw;have hw:Region.wanted o (yielded ops a.tmps)=true:=by simp [Region.wanted,hg]
 rw [if_pos hw];exact wp_store_mid ty x y ho S k vs.toArray hx hy (there_of hb (by simpa using hl)) (by simpa using hi) (all_oneCell_toArray h1) (by simpa using h)
end Go.Proofs.YtfcbjcebkahehaaGreatDoor.Cl
namespace Go.Proofs.YtfcbjcebkahehaaGreatDoor.Cl
set_option linter.unusedSimpArgs false
open Go.RowKit
theorem zh0:∃ i z,Tryz.prog.info? 126=some i∧i.zero=some z∧i.size=15∧i.bytes=144∧z.cells.size=15 :=
 ⟨(Tryz.prog.info? 126).getD default,.agg #[iI 0,iI 0,iI 0,iI 0,iI 0,iI 0,.string ⟨#[]⟩,iI 0,.string ⟨#[]⟩,.string ⟨#[]⟩,iI 0,iI 0,iI 0,iI 0,iI 0],by kernel_rfl,by kernel_rfl,by kernel_rfl,by kernel_rfl,by kernel_rfl⟩
theorem zd6:Tryz.prog.underlying 121=some (.slice 126):=by kernel_rfl
theorem head121 (w:World) (g n c j:Nat) (h:j<=c):(Instr.slice 121 (.slice (some ⟨g,0,none⟩) n c) none (some (iI (j:Int))) none).run Tryz.prog w=.ok (.slice (some ⟨g,0,none⟩) j c) w:=by
 obtain ⟨i,z,hi,_,hs,_,_⟩:=zh0;simp [Instr.slice,run_underlying zd6,Instr.sliceBounds,Instr.sliceBound,asIntOf,sizeOf,typeInfo,hi,Addr.add]
 exact fun h=>absurd h (by omega)
theorem tail121 (g n c l:Nat) (h:l<=n) (hn:n<=c):∃ of,(∀ w,(Instr.slice 121 (.slice (some ⟨g,0,none⟩) n c) (some (iI (l:Int))) none none).run Tryz.prog w=.ok (.slice (some ⟨g,of,none⟩) (n - l) (c - l)) w)∧(l<n->of=l*15):=by
 obtain ⟨i,z,hi,_,hs,_,_⟩:=zh0;refine ⟨if c=l then 0 else l*15,fun w=>?_,fun h=>by rw [if_neg (by omega)]⟩;have e1:¬ (l:Int)<0:=by omega
 by_cases hc:c=l
 · rw [if_pos hc];subst hc;have:n=c:=by omega
   subst this;simp [Instr.slice,run_underlying zd6,Instr.sliceBounds,Instr.sliceBound,asIntOf,sizeOf,typeInfo,hi,Addr.add]
 · rw [if_neg hc];have e3:(if l*15=0 then (⟨g,0,none⟩:Addr) else ⟨g,l*15,none⟩)=⟨g,l*15,none⟩:=by
    split
    · rename_i h0;rw [h0]
    · rfl
   simp [Instr.slice,run_underlying zd6,Instr.sliceBounds,Instr.sliceBound,asIntOf,sizeOf,typeInfo,hi,Addr.add,hc,hs]
   rw [if_pos h,e3]
theorem app121 {w:World} {B:Nat} {v:Value} {l:List Dw} (h:w.ownsRow B 126 15 v l.length (l.flatMap dwC)) (hB:B<=w.heap.size) (g off cap:Nat) (M:List Dw) (hr:∀ j x,M[j]?=some x->w.rangeAt g (off+j*15) (dwC x)) (hl:l.length+M.length<=100000000) :
 ∃ v' w',(∀ r,(Builtin.append_ #[121,121] r #[v,.slice (some ⟨g,off,none⟩) M.length cap]).run Tryz.prog w=.ok v' w')∧w'.ownsRow B 126 15 v' (l++M).length ((l++M).flatMap dwC)∧w.grownBy w' v.ownBlock∧(v'.ownBlock=v.ownBlock∨v'.ownBlock=some w.heap.size):=by
 obtain ⟨i,z,hi,hz,hs,hby,hzs⟩:=zh0;exact own_apps (ty:=121) zd6 hi hz hs hby hzs (by omega) dwL dwO h hB g off cap M hr (by omega) (by omega)
section
variable {K K' : Nat->Nat} {w w' : World} {B t p:Nat} {c:Cf} {oa:Option Addr} {cap:Nat} {next now:Int} {L:List Dw} {D:List Oc} {vw vd:Value} {q:Mq}
theorem DC.re (h:DC K w B t p c oa cap next now L D vw vd q) {T:Nat->Prop} (m:Mv T w w' K K') (hT:¬ T t∧¬ T (t+5)∧¬ T (t+6)) {next' now' : Int} {L' : List Dw} {D' : List Oc} {vw' vd' : Value} (hw:RW 126 15 dwC K' w' B (t+1) vw' L') (hd:RW 80 9 ocC K' w' B (t+2) vd' D') (k:Nat) (v:Value) (hb:(w'.setCell ⟨p,k,none⟩ v).heap[p]?=some (dcB c oa cap now' next' vw' vd' q)) :
 DC K' (w'.setCell ⟨p,k,none⟩ v) B t p c oa cap next' now' L' D' vw' vd' q∧Mv (fun u=>T u∨u=t) w (w'.setCell ⟨p,k,none⟩ v) K K':=by
 have k1:K' p=t:=(m.old p h.cl.lt).trans h.cl.k;have m2:=Mv.of_set w' K' ⟨p,k,none⟩ v k1;refine ⟨⟨⟨hb,k1⟩,hw.mv m2 (by omega),hd.mv m2 (by omega),(h.me.mv m hT.2.1).mv m2 (by omega),(h.gs.mv m hT.2.2).mv m2 (by omega),h.gl,h.ok,Nat.le_trans h.hB (Nat.le_trans m.size m2.size),fun b hb=>by rw [m.old b (Nat.lt_of_lt_of_le hb h.hB)];exact h.h0 b hb⟩,?_⟩;exact (m.mono (fun _ e=>.inl e)).trans (m2.mono (fun _ e=>.inr e))
theorem DC.ends_any {L1 L2:List Dw} {x:Dw} (h:DC K w B t p c oa cap next now (L1++x::L2) D vw vd q) (o:Oc) (hl:D.length<=100000000) (hL:L1.length+L2.length+1<=100000000) :
 Calls Tryz.prog 66 #[ptr p,iI (L1.length:Int),.agg (ocC o).toArray] w fun e w'=>(∃ v,e=.returned v)∧Hid (∃ K' vw' vd',DC K' w' B t p c oa cap next now (L1++L2) (D++[{ o with seq:=x.seq,at_:=now }]) vw' vd' q∧Mv (fun u=>u=t∨u=t+1∨u=t+2) w w' K K'):=by
 obtain ⟨s0,st,acc,rej,why,low,high,res,at0⟩:=o;show Calls Tryz.prog 66 #[ptr p,iI (L1.length:Int),.agg #[iI s0,iI st,iI acc,iI rej,iI why,iI low,iI high,.string ⟨res.toArray⟩,iI at0]] w fun e w'=>(∃ v,e=.returned v)∧Hid (∃ K' vw' vd',DC K' w' B t p c oa cap next now (L1++L2) (D++[⟨x.seq,st,acc,rej,why,low,high,res,now⟩]) vw' vd' q∧Mv (fun u=>u=t∨u=t+1∨u=t+2) w w' K K');obtain ⟨S,hS⟩:∃ y,w.heap.size=y:=⟨_,rfl⟩;obtain ⟨w1,hw1⟩:∃ y,w.alloc (.cells #[iI s0,iI st,iI acc,iI rej,iI why,iI low,iI high,.string ⟨res.toArray⟩,iI at0] 80)=y:=⟨_,rfl⟩;have hB1:Below w.heap.size w w1:=by rw [<- hw1];exact (Below.refl _ _).alloc (Nat.le_refl _) _
 have P1:=h.below hB1 (fun _=>t+7);have m1:=Mv.of_below hB1 K (fun _=>t+7);have k1:w1.heap[S]?=some (.cells #[iI s0,iI st,iI acc,iI rej,iI why,iI low,iI high,.string ⟨res.toArray⟩,iI at0] 80):=by rw [<- hw1,<- hS];exact (MapKept.heap_alloc w _).1
 have hKS:ext w K (fun _=>t+7) S=t+7:=za2 (Nat.le_of_eq hS);generalize ext w K (fun _=>t+7)=K1 at P1 m1 hKS;obtain ⟨o14,c14,e14,hc14,hg⟩:=P1.wr.form;obtain ⟨g,rfl⟩:=hg (by simp;omega);obtain ⟨n,hn⟩:∃ n,(L1++x::L2).length=n:=⟨_,rfl⟩;rw [hn] at e14 hc14;subst e14;obtain ⟨a,ha⟩:∃ a,L1.length=a:=⟨_,rfl⟩;have han:a+L2.length+1=n:=by rw [<- hn,<- ha];simp;omega
 obtain ⟨o15,c15,e15,_,_⟩:=P1.dn.form;obtain ⟨d,hd⟩:∃ d,D.length=d:=⟨_,rfl⟩;rw [hd] at e15;subst e15;have c14' : w1.cell? ⟨p,14,none⟩=some (.slice (some ⟨g,0,none⟩) n c14):=P1.ce rfl;have hx0:w1.cell? ⟨g,a*15,none⟩=some (iI x.seq):=P1.cell_ rfl hn (j:=a) (x:=x) (by rw [<- ha];simp) 0 (by omega);have nS:∀ {u b:Nat} {ob:Obj},TB K1 w1 u b ob->u<t+7->b≠S:=fun hb hu e=>by have:=hb.k;rw [e,hKS] at this;omega
 have hpS:p≠S:=nS P1.cl (by omega);have y0:w1.cell? ⟨S,0,none⟩=some (iI s0):=zaa k1 rfl;have f0:w1.frozen? ⟨S,0,none⟩=false:=zab k1 0;obtain ⟨wA,hwA⟩:∃ y,w1.setCell ⟨S,0,none⟩ (iI x.seq)=y:=⟨_,rfl⟩;have kA:wA.heap[S]?=some (.cells #[iI x.seq,iI st,iI acc,iI rej,iI why,iI low,iI high,.string ⟨res.toArray⟩,iI at0] 80):=by rw [<- hwA];exact zae k1 0 _
 have mA:Mv (fun u=>u=t+7) w1 wA K1 K1:=by rw [<- hwA];exact Mv.of_set w1 K1 ⟨S,0,none⟩ _ hKS
 have PA:=P1.to mA (fun t' e=>by omega);have c12A:wA.cell? ⟨p,12,none⟩=some (iI now):=PA.ce rfl;have y8:wA.cell? ⟨S,8,none⟩=some (iI at0):=zaa kA rfl;have f8:wA.frozen? ⟨S,8,none⟩=false:=zab kA 8;obtain ⟨wB,hwB⟩:∃ y,wA.setCell ⟨S,8,none⟩ (iI now)=y:=⟨_,rfl⟩;have kB:wB.heap[S]?=some (.cells #[iI x.seq,iI st,iI acc,iI rej,iI why,iI low,iI high,.string ⟨res.toArray⟩,iI now] 80):=by rw [<- hwB];exact zae kA 8 _
 have mB:Mv (fun u=>u=t+7) wA wB K1 K1:=by rw [<- hwB];exact Mv.of_set wA K1 ⟨S,8,none⟩ _ hKS
 have PB:=PA.to mB (fun t' e=>by omega);have hltB:S<wB.heap.size:=(Array.getElem?_eq_some_iff.1 kB).1;have s3:wB.drew.cell? ⟨p,15,none⟩=some (.slice o15 d c15)∧wB.drew.cell? ⟨S,0,none⟩=some (iI x.seq)∧wB.drew.cell? ⟨S,1,none⟩=some (iI st)∧wB.drew.cell? ⟨S,2,none⟩=some (iI acc)∧wB.drew.cell? ⟨S,3,none⟩=some (iI rej)∧wB.drew.cell? ⟨S,4,none⟩=some (iI why)∧wB.drew.cell? ⟨S,5,none⟩=some (iI low)∧wB.drew.cell? ⟨S,6,none⟩=some (iI high)∧wB.drew.cell? ⟨S,7,none⟩=some (.string ⟨res.toArray⟩)∧wB.drew.cell? ⟨S,8,none⟩=some (iI now):=⟨zaa (w:=wB.drew) PB.cl.at_ rfl,zaa (w:=wB.drew) kB rfl,zaa (w:=wB.drew) kB rfl,zaa (w:=wB.drew) kB rfl,zaa (w:=wB.drew) kB rfl,zaa (w:=wB.drew) kB rfl,zaa (w:=wB.drew) kB rfl,zaa (w:=wB.drew) kB rfl,zaa (w:=wB.drew) kB rfl,zaa (w:=wB.drew) kB rfl⟩;obtain ⟨N4,hN4⟩:∃ y,wB.drew.heap.size=y:=⟨_,rfl⟩;obtain ⟨w4,hw4⟩:∃ y,wB.drew.alloc (.cells #[iI x.seq,iI st,iI acc,iI rej,iI why,iI low,iI high,.string ⟨res.toArray⟩,iI now] 80)=y:=⟨_,rfl⟩;have b4:Below wB.heap.size wB w4:=by rw [<- hw4];exact (show Below wB.heap.size wB wB.drew from ⟨rfl,rfl,rfl,Nat.le_refl _,fun _ _=>rfl⟩).alloc (Nat.le_refl _) _
 have P4:=PB.below b4 (fun _=>t+8);have m4:=Mv.of_below b4 K1 (fun _=>t+8);have hN:w4.heap[N4]?=some (.cells (ocC ⟨x.seq,st,acc,rej,why,low,high,res,now⟩).toArray 80):=by rw [<- hw4,<- hN4];exact (MapKept.heap_alloc wB.drew _).1
 have hK4:ext wB K1 (fun _=>t+8) S=t+7:=(zbd hltB).trans hKS;generalize ext wB K1 (fun _=>t+8)=K4 at P4 m4 hK4;have k4:w4.heap[S]?=some (.cells #[iI x.seq,iI st,iI acc,iI rej,iI why,iI low,iI high,.string ⟨res.toArray⟩,iI now] 80):=(b4.block S hltB).trans kB;have s4:w4.cell? ⟨p,15,none⟩=some (.slice o15 d c15)∧w4.cell? ⟨S,0,none⟩=some (iI x.seq)∧w4.cell? ⟨S,1,none⟩=some (iI st)∧w4.cell? ⟨S,2,none⟩=some (iI acc)∧w4.cell? ⟨S,3,none⟩=some (iI rej)∧w4.cell? ⟨S,4,none⟩=some (iI why)∧w4.cell? ⟨S,5,none⟩=some (iI low)∧w4.cell? ⟨S,6,none⟩=some (iI high)∧w4.cell? ⟨S,7,none⟩=some (.string ⟨res.toArray⟩)∧w4.cell? ⟨S,8,none⟩=some (iI now):=⟨zaa P4.cl.at_ rfl,zaa k4 rfl,zaa k4 rfl,zaa k4 rfl,zaa k4 rfl,zaa k4 rfl,zaa k4 rfl,zaa k4 rfl,zaa k4 rfl,zaa k4 rfl⟩;obtain ⟨o5,c5,w5,K5,hr5,R5,m5⟩:=app75 P4.dn P4.hB hN hl;rw [hd] at hr5 R5;have k5:w5.heap[S]?=some (.cells #[iI x.seq,iI st,iI acc,iI rej,iI why,iI low,iI high,.string ⟨res.toArray⟩,iI now] 80):=(m5.kept S (Array.getElem?_eq_some_iff.1 k4).1 (by rw [hK4];omega)).trans k4;have cl5:=P4.cl.mv m5 (by omega);have s5:w5.cell? ⟨p,15,none⟩=some (.slice o15 d c15)∧w5.cell? ⟨S,0,none⟩=some (iI x.seq)∧w5.cell? ⟨S,1,none⟩=some (iI st)∧w5.cell? ⟨S,2,none⟩=some (iI acc)∧w5.cell? ⟨S,3,none⟩=some (iI rej)∧w5.cell? ⟨S,4,none⟩=some (iI why)∧w5.cell? ⟨S,5,none⟩=some (iI low)∧w5.cell? ⟨S,6,none⟩=some (iI high)∧w5.cell? ⟨S,7,none⟩=some (.string ⟨res.toArray⟩)∧w5.cell? ⟨S,8,none⟩=some (iI now):=⟨zaa cl5.at_ rfl,zaa k5 rfl,zaa k5 rfl,zaa k5 rfl,zaa k5 rfl,zaa k5 rfl,zaa k5 rfl,zaa k5 rfl,zaa k5 rfl,zaa k5 rfl⟩;have f15:w5.frozen? ⟨p,15,none⟩=false:=zab cl5.at_ 15;have c15' : w5.cell? ⟨p,15,none⟩=some (.slice o15 d c15):=zaa cl5.at_ rfl;obtain ⟨w6,hw6⟩:∃ y,w5.setCell ⟨p,15,none⟩ (.slice o5 (d+1) c5)=y:=⟨_,rfl⟩;obtain ⟨P6,m6⟩:=P4.re m5 ⟨by omega,by omega,by omega⟩ (P4.wr.mv m5 (by omega)) R5 15 _ (zae cl5.at_ 15 _);rw [hw6] at P6 m6;have Ac:=hid hr5;have c6:w6.cell? ⟨p,14,none⟩=some (.slice (some ⟨g,0,none⟩) n c14):=P6.ce rfl;have hs1:=fun w=>head121 w g n c14 a (by omega);have rng:∀ w' K',DC K' w' B t p c oa cap next now (L1++x::L2) (D++[⟨x.seq,st,acc,rej,why,low,high,res,now⟩]) (.slice (some ⟨g,0,none⟩) n c14) (.slice o5 (d+1) c5) q->∀ j y,(L1++x::L2)[j]?=some y->w'.rangeAt g (j*15) (dwC y):=fun w' K' P j y hj=>P.wr.range dwL hn hj
 obtain ⟨v7,w7,hr7,R7,g7,t7⟩:=app121 (w:=w6) (B:=B) (v:=.slice none 0 0) (l:=[]) ⟨by simp,.inl ⟨rfl,rfl⟩⟩ P6.hB g 0 c14 L1 (fun j y hj=>by
  rw [Nat.zero_add]
  exact rng w6 K5 P6 j y (by rw [List.getElem?_append_left (List.getElem?_eq_some_iff.1 hj).1];exact hj)) (by simp;omega)
 rw [List.nil_append] at R7;rw [ha] at hr7;have Ab:=hid hr7;have b7:Below w6.heap.size w6 w7:=⟨g7.os,g7.tape,g7.output,g7.size,fun b hb=>g7.block b hb (by intro e;cases e)⟩;have P7:=P6.below b7 (fun _=>t+1);have c7:w7.cell? ⟨p,14,none⟩=some (.slice (some ⟨g,0,none⟩) n c14):=P7.ce rfl;obtain ⟨of,hs2z,hof⟩:=tail121 g n c14 (a+1) (by omega) hc14;have hs2:∀ w,(Instr.slice 121 (.slice (some ⟨g,0,none⟩) n c14) (some (iI ((a:Int)+1))) none none).run Tryz.prog w=.ok (.slice (some ⟨g,of,none⟩) (n - (a+1)) (c14 - (a+1))) w:=hs2z;have e2:n - (a+1)=L2.length:=by omega
 obtain ⟨v8,w8,hr8,R8,g8,t8⟩:=app121 (w:=w7) (B:=B) (l:=L1) R7 P7.hB g of (c14 - (a+1)) L2 (fun j y hj=>by
  have hj2:=(List.getElem?_eq_some_iff.1 hj).1;rw [hof (by omega),show (a+1)*15+j*15=(a+1+j)*15 by omega];refine rng w7 _ P7 _ y ?_;rw [List.getElem?_append_right (by omega),show a+1+j - L1.length=j+1 by omega]
  exact hj) (by omega)
 rw [<- e2] at hr8;have Aa:=hid hr8;have n7:∀ g',v7.ownBlock=some g'->w6.heap.size<=g':=fun g' e=>by
  rcases t7 with k|k
  · rw [k] at e;cases e
  · rw [k] at e;cases e;exact Nat.le_refl _
 have b8:Below w6.heap.size w6 w8:=⟨g8.os.trans b7.os,g8.tape.trans b7.tape,g8.output.trans b7.output,Nat.le_trans b7.size g8.size,fun b hb=>(g8.block b (Nat.lt_of_lt_of_le hb b7.size) (fun e=>by have:=n7 b e.symm;omega)).trans (b7.block b hb)⟩;have n8:∀ g',v8.ownBlock=some g'->w6.heap.size<=g':=fun g' e=>by
  rcases t8 with k|k
  · rw [k] at e;exact n7 g' e
  · rw [k] at e;cases e;exact b7.size
 have P8:=P6.below b8 (fun _=>t+1);have c14e:w8.cell? ⟨p,14,none⟩=some (.slice (some ⟨g,0,none⟩) n c14):=P8.ce rfl;have f14e:w8.frozen? ⟨p,14,none⟩=false:=P8.fz 14;have HF:∀ w9,w8.setCell ⟨p,14,none⟩ v8=w9->Hid (∃ K' vw' vd',DC K' w9 B t p c oa cap next now (L1++L2) (D++[⟨x.seq,st,acc,rej,why,low,high,res,now⟩]) vw' vd' q∧Mv (fun u=>u=t∨u=t+1∨u=t+2) w w9 K K'):=by
  intro w9 hw9;have R9:RW 126 15 dwC (ext w6 K5 (fun _=>t+1)) w8 B (t+1) v8 (L1++L2):=⟨R8,fun g' e=>za2 (n8 g' e)⟩;obtain ⟨P9,m9⟩:=P8.re (T:=fun _=>False) (Mv.refl _ _ _) ⟨fun e=>e,fun e=>e,fun e=>e⟩ R9 P8.dn 14 v8 (zae P8.cl.at_ 14 _);rw [hw9] at P9 m9;have m8:=Mv.of_below b8 K5 (fun _=>t+1);have mAB:Mv (fun _=>False) w wB K K1:=by
   have mm:=mA.trans mB;refine ⟨mm.os.trans m1.os,mm.tape.trans m1.tape,mm.output.trans m1.output,Nat.le_trans m1.size mm.size,fun b hb=>m1.old b hb,fun b hb hf=>?_⟩;have hne:b≠S:=by omega
   rw [<- hwB,Below.heap_setCell _ _ _ _ hne,<- hwA,Below.heap_setCell _ _ _ _ hne];exact m1.kept b hb hf
  exact ⟨_,_,_,P9,(mAB.mono (fun _ e=>e.elim)).trans ((m4.mono (fun _ e=>e.elim)).trans ((m6.mono (fun u e=>e.elim (fun e=>.inr (.inr e)) .inl)).trans ((m8.mono (fun _ e=>e.elim)).trans (m9.mono (fun u e=>e.elim (fun e=>e.elim) .inl)))))⟩
 obtain ⟨oe8,ce8,e8,_,_⟩:=RW.form (e:=126) (sz:=15) (cf:=dwC) (K:=ext w6 K5 (fun _=>t+1)) (t:=t+1) ⟨R8,fun g' e=>za2 (n8 g' e)⟩;subst e8;obtain ⟨oe7,ce7,e7,_,_⟩:=RW.form (e:=126) (sz:=15) (cf:=dwC) (K:=ext w6 K5 (fun _=>t+1)) (t:=t+1) ⟨R7,fun g' e=>za2 (n7 g' e)⟩;subst e7;have hb75:=fun v0 v1 v2 v3 v4 v5 v6 v8 s w=>bls75 v0 v1 v2 v3 v4 v5 v6 v8 s w;have hwr:wrap64 ((a:Int)+1)=(a:Int)+1:=zb0 (by omega);have hai:(a:Int)<(n:Int):=by omega
 obtain ⟨w9,hw9⟩:∃ y,w8.setCell ⟨p,14,none⟩ (.slice oe8 (L1++L2).length ce8)=y:=⟨_,rfl⟩;have HE:=hid (HF w9 hw9);rw [ha];obtain ⟨n8',hn8⟩:∃ y,(L1++L2).length=y:=⟨_,rfl⟩;rw [hn8] at hw9 Aa;obtain ⟨m7',hm7⟩:∃ y,L1.length=y:=⟨_,rfl⟩;rw [hm7] at Ab Aa;clear hs2z h hl hB1 P1 m1 k1 hKS hn ha han hd nS hpS kA mA PA kB mB PB hltB P4 m4 hN hK4 k4 hr5 R5 m5 k5 cl5 P6 m6 rng hr7 R7 g7 t7 b7 P7 hof e2 hr8 R8 g8 t8 n7 b8 n8 P8 HF hL hg hc14 hn8 hm7 b4;go_enter Tryz.func66,Tryz.ntmps66
 go_wp2_with fail
 refine zah (S:=fun w'=>w'.cell? ⟨p,15,none⟩=some (.slice o15 d c15)∧w'.cell? ⟨S,0,none⟩=some (iI x.seq)∧w'.cell? ⟨S,1,none⟩=some (iI st)∧w'.cell? ⟨S,2,none⟩=some (iI acc)∧w'.cell? ⟨S,3,none⟩=some (iI rej)∧w'.cell? ⟨S,4,none⟩=some (iI why)∧w'.cell? ⟨S,5,none⟩=some (iI low)∧w'.cell? ⟨S,6,none⟩=some (iI high)∧w'.cell? ⟨S,7,none⟩=some (.string ⟨res.toArray⟩)∧w'.cell? ⟨S,8,none⟩=some (iI now)) (n:=10) (by kernel_rfl) rfl (by kernel_rfl) (by kernel_rfl) ?_ (fun hHeld3=>?_)
 · exact s3
 refine tk 0 ?_ rfl ?_ ?_;rotate_left
 · (intro w hs;(try dsimp only at hs);go_simp;try with_reducible rfl)
 try simp only [gA,gB,gC,Act.put,gE,gF,gG]
 refine tk 1 ?_ rfl ?_ ?_;rotate_left
 · (intro w hs;(try dsimp only at hs);go_simp;try with_reducible rfl)
 try simp only [gA,gB,gC,Act.put,gE,gF,gG]
 refine tk 2 ?_ rfl ?_ ?_;rotate_left
 · (intro w hs;(try dsimp only at hs);go_simp;try with_reducible rfl)
 try simp only [gA,gB,gC,Act.put,gE,gF,gG]
 refine tk 3 ?_ rfl ?_ ?_;rotate_left
 · (intro w hs;(try dsimp only at hs);go_simp;try with_reducible rfl)
 try simp only [gA,gB,gC,Act.put,gE,gF,gG]
 refine tk 4 ?_ rfl ?_ ?_;rotate_left
 · (intro w hs;(try dsimp only at hs);go_simp;try with_reducible rfl)
 try simp only [gA,gB,gC,Act.put,gE,gF,gG]
 refine tk 5 ?_ rfl ?_ ?_;rotate_left
 · (intro w hs;(try dsimp only at hs);go_simp;try with_reducible rfl)
 try simp only [gA,gB,gC,Act.put,gE,gF,gG]
 refine rd 6 rfl (fun KK hK=>?_);go_simp
 refine hK.out _ _ ?_ (fun hHeld4=>?_)
 · exact s4
 clear hK hHeld3;try simp only [gA,gB,gC,Act.put,gE,gF,gG]
 refine rd 7 rfl (fun KK hK=>?_);refine zbk rfl (.tmp 26) (.tmp 28) 75 rfl (.slice o15 d c15) (.slice (some ⟨N4,0,none⟩) 1 1) _ _ (by go_simp) (by go_simp) (Ac.out _) ?_;refine hK.out _ _ ?_ (fun hHeld5=>?_)
 · exact s5
 clear hK hHeld4;try simp only [gA,gB,gC,Act.put,gE,gF,gG]
 refine tk 8 ?_ rfl ?_ ?_;rotate_left
 · (intro w hs;(try dsimp only at hs);go_simp;try with_reducible rfl)
 try simp only [gA,gB,gC,Act.put,gE,gF,gG]
 refine tk 9 ?_ rfl ?_ ?_;rotate_left
 · (intro w hs;(try dsimp only at hs);go_simp;try with_reducible rfl)
 try simp only [gA,gB,gC,Act.put,gE,gF,gG]
 refine wpAnyH_done (by kernel_rfl) ?_ _;refine zbx.done ?_;refine wpOp_step (i:=10) rfl (fun KK hK=>?_);have HK:=hid hK;clear hK;go_simp
 refine HK.out _ _ ?_;clear HK;clear hHeld5 s3 s4 s5;go_wp2_with (at_builtin;refine Hid.out ?_)
 refine (show Hid _ from ?_);refine za5 rfl _ _ 121 rfl _ _ _ _ rfl rfl (Ab.out _) ?_;go_wp2_with (at_builtin;refine Hid.out ?_)
 refine (show Hid _ from ?_);refine za5 rfl _ _ 121 rfl _ _ _ _ rfl rfl (Aa.out _) ?_;go_wp2;first|go_end0|((try simp only [Exit.inBlock,Exit.then]);refine bodyPost_ret (results_none rfl _ _ _) rfl ?_)
 exact ⟨⟨_,rfl⟩,HE.out⟩
end
end Go.Proofs.YtfcbjcebkahehaaGreatDoor.Cl
