import Derived.Test.YtfcbjcebkahehaaGreatDoorPly11
set_option maxRecDepth 8000
set_option maxHeartbeats 20000000
set_option linter.unusedSimpArgs false
namespace Go.Proofs.YtfcbjcebkahehaaGreatDoor
open Go.RowKit
theorem equalInA (w:World) (f g:Int) (x y:ByteArray):(Op.equalIn 10000 44 (.agg #[iI f,.string x]) (.agg #[iI g,.string y])).run Tryz.prog w=.ok (f==g&&x.toList==y.toList) w:=by
 rw [run_equalIn_agg (ht:=fieldsA) (hp:=stoodA),fieldsOfA];have ek:∀ x y:Int,(Op.equalIn 9999 3 (iI x) (iI y)).run Tryz.prog w=.ok (x==y) w:=fun (x y:Int)=>run_equalIn_int (P:=Tryz.prog) w 9998 3 .i64 .i64 x y Tryz.underlying3;have es:∀ x y:ByteArray,(Op.equalIn 9999 9 (.string x) (.string y)).run Tryz.prog w=.ok (x.toList==y.toList) w:=fun (x y:ByteArray)=>run_equalIn_string (P:=Tryz.prog) w 9998 9 x y Tryz.underlying9
 have n1 : "Flavor"≠ "_" := by decide
 have n2 : "Body"≠ "_" := by decide
 simp only [Op.eqFields,if_pos n1,if_pos n2,Sem.run_bind];rw [zfb w _ 0 (iI f) rfl];simp only [Result.andThen_ok];rw [zfb w _ 0 (iI g) rfl];simp only [Result.andThen_ok];rw [ek];simp only [Result.andThen_ok];cases f==g
 · rfl
 simp only [Bool.not_true,Bool.false_eq_true,if_false,Sem.run_bind];rw [partS w _ 1 (.string x) rfl];simp only [Result.andThen_ok];rw [partS w _ 1 (.string y) rfl];simp only [Result.andThen_ok];rw [es];simp only [Result.andThen_ok];cases x.toList==y.toList
 · rfl
 · rfl
theorem neqA (w:World) (f g:Int) (x y:ByteArray):(binOp .neq 44 (.agg #[iI f,.string x]) (.agg #[iI g,.string y])).run Tryz.prog w=.ok (.bool (!(f==g&&x.toList==y.toList))) w:=by
 rw [run_neq_struct,equalInA];rfl
theorem guardA:Tryz.prog.eqGuardType Tryz.prog.depth 44=false:=by kernel_rfl
theorem guardAn (w:World) (op:BinOp) (x y:Operand) (xs ys:Array Value):(eqGuard op 44 x y (.agg xs) (.agg ys)).run Tryz.prog w=.ok () w:=run_eqGuard_agg w op 44 x y xs ys guardA
theorem nil_dec (l:List UInt8):((⟨l.toArray⟩:ByteArray).toList==(⟨#[]⟩:ByteArray).toList)=decide (l=[]):=by
 rw [zc2,show (⟨#[]⟩:ByteArray).toList=[] from by rw [ByteArray.toList_eq]];cases l <;> rfl
theorem den_dec (r:ReplyP) (h:r.denied=true):decide r.may=(decide (isW r.xid)&&(r.verf.flavor==0&&decide (r.verf.body=[]))&&(r.accept==0)&&decide (r.results=[])&&(if r.reject==0 then decide (isW r.low)&&decide (isW r.high)&&(r.why==0) else if r.reject==1 then (r.low==0&&r.high==0)&&decide (0<=r.why)&&decide (r.why<=14) else false)):=by
 obtain ⟨rx,rd,⟨vf,vb⟩,ra,rl,rh,rr,rj,rw_⟩:=r;have h:rd=true:=h;subst h;rw [Bool.eq_iff_iff,decide_eq_true_eq];unfold ReplyP.may;simp only [if_true,auth_nul,Bool.and_eq_true,decide_eq_true_eq,beq_iff_eq];by_cases h0:rj=0
 · subst h0;simp only [if_true,Bool.and_eq_true,decide_eq_true_eq,beq_iff_eq,show ¬ (0:Int)=1 by decide,false_and,or_false,true_and];constructor
   · rintro ⟨h1,h2,h3,h4,h5,h6,h7⟩;exact ⟨⟨⟨⟨h1,h2⟩,h3⟩,h4⟩,⟨h5,h6⟩,h7⟩
   · rintro ⟨⟨⟨⟨h1,h2⟩,h3⟩,h4⟩,⟨h5,h6⟩,h7⟩;exact ⟨h1,h2,h3,h4,h5,h6,h7⟩
 · by_cases h1:rj=1
   · subst h1;simp only [if_true,if_false,Bool.and_eq_true,decide_eq_true_eq,beq_iff_eq,show ¬ (1:Int)=0 by decide,false_and,false_or,true_and];constructor
     · rintro ⟨h1,h2,h3,h4,h5,h6,h7,h8⟩;exact ⟨⟨⟨⟨h1,h2⟩,h3⟩,h4⟩,⟨⟨h5,h6⟩,h7⟩,h8⟩
     · rintro ⟨⟨⟨⟨h1,h2⟩,h3⟩,h4⟩,⟨⟨h5,h6⟩,h7⟩,h8⟩;exact ⟨h1,h2,h3,h4,h5,h6,h7,h8⟩
   · simp only [h0,h1,Bool.false_eq_true,if_false,false_and,or_false,and_false]
theorem acc_dec (r:ReplyP) (h:r.denied=false):decide r.may=(decide (isW r.xid)&&decide r.verf.may&&(r.reject==0)&&(r.why==0)&&decide (0<=r.accept)&&decide (r.accept<=5)&&(if r.accept==0 then decide (za8 r.results)&&(r.low==0&&r.high==0) else if r.accept==2 then decide (isW r.low)&&decide (isW r.high)&&decide (r.results=[]) else (r.low==0&&r.high==0)&&decide (r.results=[]))):=by
 obtain ⟨rx,rd,rv,ra,rl,rh,rr,rj,rw_⟩:=r;have h:rd=false:=h;subst h;rw [Bool.eq_iff_iff,decide_eq_true_eq];unfold ReplyP.may;simp only [Bool.false_eq_true,if_false,Bool.and_eq_true,decide_eq_true_eq,beq_iff_eq];by_cases h0:ra=0
 · subst h0;simp only [if_true,Bool.and_eq_true,decide_eq_true_eq,beq_iff_eq,show ¬ (0:Int)=2 by decide,false_and,or_false,true_and,ne_eq,not_true];constructor
   · rintro ⟨h1,h2,h3,h4,h5,h6,h7,h8,h9⟩;exact ⟨⟨⟨⟨⟨⟨h1,h2⟩,h3⟩,h4⟩,h5⟩,h6⟩,h7,h8,h9⟩
   · rintro ⟨⟨⟨⟨⟨⟨h1,h2⟩,h3⟩,h4⟩,h5⟩,h6⟩,h7,h8,h9⟩;exact ⟨h1,h2,h3,h4,h5,h6,h7,h8,h9⟩
 · by_cases h1:ra=2
   · subst h1;simp only [if_true,if_false,Bool.and_eq_true,decide_eq_true_eq,show ¬ (2:Int)=0 by decide,false_and,false_or,or_false,true_and,ne_eq,not_true,and_false,not_false_eq_true];constructor
     · rintro ⟨h1,h2,h3,h4,h5,h6,h7,h8,h9⟩;exact ⟨⟨⟨⟨⟨⟨h1,h2⟩,h3⟩,h4⟩,h5⟩,h6⟩,⟨h7,h8⟩,h9⟩
     · rintro ⟨⟨⟨⟨⟨⟨h1,h2⟩,h3⟩,h4⟩,h5⟩,h6⟩,⟨h7,h8⟩,h9⟩;exact ⟨h1,h2,h3,h4,h5,h6,h7,h8,h9⟩
   · simp only [h0,h1,if_false,false_and,false_or,ne_eq,not_false_eq_true,true_and,Bool.and_eq_true,decide_eq_true_eq,beq_iff_eq];constructor
     · rintro ⟨h1,h2,h3,h4,h5,h6,h7,h8,h9⟩;exact ⟨⟨⟨⟨⟨⟨h1,h2⟩,h3⟩,h4⟩,h5⟩,h6⟩,⟨h7,h8⟩,h9⟩
     · rintro ⟨⟨⟨⟨⟨⟨h1,h2⟩,h3⟩,h4⟩,h5⟩,h6⟩,⟨h7,h8⟩,h9⟩;exact ⟨h1,h2,h3,h4,h5,h6,h7,h8,h9⟩
theorem dreply_den (rx vf ra rj rw_ rl rh:Int) (VB RR:ByteArray) (A LO HI eV eS:Bool) (w:World)
 (H1:Hid (∀ w,Calls Tryz.prog 142 #[iI rx] w fun e w'=>e=.returned (.bool A)∧w'=w))
 (H2:Hid (∀ w,Calls Tryz.prog 142 #[iI rl] w fun e w'=>e=.returned (.bool LO)∧w'=w))
 (H3:Hid (∀ w,Calls Tryz.prog 142 #[iI rh] w fun e w'=>e=.returned (.bool HI)∧w'=w))
 (hV:∀ w,(binOp .neq 44 (.agg #[iI vf,.string VB]) (.agg #[iI 0,.string ⟨#[]⟩])).run Tryz.prog w=.ok (.bool (!eV)) w)
 (hS:RR.toList.isEmpty=eS) :
 Calls Tryz.prog 107 #[.agg #[iI rx,.bool true,iI vf,.string VB,iI ra,iI rj,iI rw_,iI rl,iI rh,.string RR]] w fun e w'=>e=.returned (.bool (A&&eV&&(ra==0)&&eS&&(if rj==0 then LO&&HI&&(rw_==0) else if rj==1 then (rl==0&&rh==0)&&decide (0<=rw_)&&decide (rw_<=14) else false)))∧Below w.heap.size w w':=by
 obtain ⟨wa,hwa⟩:∃ x,w.alloc (.cells #[iI rx,.bool true,iI vf,.string VB,iI ra,iI rj,iI rw_,iI rl,iI rh,.string RR] 46)=x:=⟨_,rfl⟩;obtain ⟨hk,hB,hz⟩:=boxed w wa _ _ hwa;have HK:Hid (Bk wa w.heap.size [iI rx,.bool true,iI vf,.string VB,iI ra,iI rj,iI rw_,iI rl,iI rh,.string RR] 46):=hk;have HB:=hid hB;have a0:=hk.cell 0 rfl;have a1:=hk.cell 1 rfl;have a2:=hk.cell 2 rfl;have a3:=hk.cell 3 rfl;have a4:=hk.cell 4 rfl;have a5:=hk.cell 5 rfl;have a6:=hk.cell 6 rfl;have a7:=hk.cell 7 rfl;have a8:=hk.cell 8 rfl;have a9:=hk.cell 9 rfl;clear hk hB hz;go_enter Tryz.func107,Tryz.ntmps107
 have gA:=guardAn;go_wp2_with fail
 refine (H1.out _).mono ?_;rintro e w0 ⟨rfl,hw0⟩;have hw1:=hw0.symm;clear hw0;subst hw1;go_wp2_with fail
 refine (H2.out _).mono ?_;rintro e w0 ⟨rfl,hw0⟩;have hw1:=hw0.symm;clear hw0;subst hw1;go_wp2_with fail
 refine (H3.out _).mono ?_;rintro e w0 ⟨rfl,hw0⟩;have hw1:=hw0.symm;clear hw0;subst hw1;by_cases hl0:rl=0
 · subst hl0;by_cases hh0:rh=0
   · subst hh0;cases A
     · go_wp2;all_goals (go_ret;exact ⟨by first|rfl|(simp_all;done)|(simp_all;intros;omega),HB.out⟩)
     cases eV
     · go_wp2;all_goals (go_ret;exact ⟨by first|rfl|(simp_all;done)|(simp_all;intros;omega),HB.out⟩)
     (by_cases h4:ra=0);rotate_left
     · have h5:(ra==0)=false:=beq_eq_false_iff_ne.2 h4;go_wp2;all_goals (go_ret;exact ⟨by first|rfl|(simp_all;done)|(simp_all;intros;omega),HB.out⟩)
     subst h4;cases eS
     · go_wp2;all_goals (go_ret;exact ⟨by first|rfl|(simp_all;done)|(simp_all;intros;omega),HB.out⟩)
     by_cases h6:rj=0
     · subst h6;cases LO
       · go_wp2;all_goals (go_ret;exact ⟨by first|rfl|(simp_all;done)|(simp_all;intros;omega),HB.out⟩)
       cases HI
       · go_wp2;all_goals (go_ret;exact ⟨by first|rfl|(simp_all;done)|(simp_all;intros;omega),HB.out⟩)
       go_wp2;all_goals (go_ret;exact ⟨by first|rfl|(simp_all;done)|(simp_all;intros;omega),HB.out⟩)
     · have h7:(rj==0)=false:=beq_eq_false_iff_ne.2 h6;by_cases h8:rj=1
       · subst h8;by_cases h9:0<=rw_
         · skip
           go_wp2;all_goals (go_ret;exact ⟨by first|rfl|(simp_all;done)|(simp_all;intros;omega),HB.out⟩)
         · skip
           go_wp2;all_goals (go_ret;exact ⟨by first|rfl|(simp_all;done)|(simp_all;intros;omega),HB.out⟩)
       · have h9:(rj==1)=false:=beq_eq_false_iff_ne.2 h8;go_wp2;all_goals (go_ret;exact ⟨by first|rfl|(simp_all;done)|(simp_all;intros;omega),HB.out⟩)
   · have hh1:(rh==0)=false:=beq_eq_false_iff_ne.2 hh0;cases A
     · go_wp2;all_goals (go_ret;exact ⟨by first|rfl|(simp_all;done)|(simp_all;intros;omega),HB.out⟩)
     cases eV
     · go_wp2;all_goals (go_ret;exact ⟨by first|rfl|(simp_all;done)|(simp_all;intros;omega),HB.out⟩)
     (by_cases h4:ra=0);rotate_left
     · have h5:(ra==0)=false:=beq_eq_false_iff_ne.2 h4;go_wp2;all_goals (go_ret;exact ⟨by first|rfl|(simp_all;done)|(simp_all;intros;omega),HB.out⟩)
     subst h4;cases eS
     · go_wp2;all_goals (go_ret;exact ⟨by first|rfl|(simp_all;done)|(simp_all;intros;omega),HB.out⟩)
     by_cases h6:rj=0
     · subst h6;cases LO
       · go_wp2;all_goals (go_ret;exact ⟨by first|rfl|(simp_all;done)|(simp_all;intros;omega),HB.out⟩)
       cases HI
       · go_wp2;all_goals (go_ret;exact ⟨by first|rfl|(simp_all;done)|(simp_all;intros;omega),HB.out⟩)
       go_wp2;all_goals (go_ret;exact ⟨by first|rfl|(simp_all;done)|(simp_all;intros;omega),HB.out⟩)
     · have h7:(rj==0)=false:=beq_eq_false_iff_ne.2 h6;by_cases h8:rj=1
       · subst h8;by_cases h9:0<=rw_
         · skip
           go_wp2;all_goals (go_ret;exact ⟨by first|rfl|(simp_all;done)|(simp_all;intros;omega),HB.out⟩)
         · skip
           go_wp2;all_goals (go_ret;exact ⟨by first|rfl|(simp_all;done)|(simp_all;intros;omega),HB.out⟩)
       · have h9:(rj==1)=false:=beq_eq_false_iff_ne.2 h8;go_wp2;all_goals (go_ret;exact ⟨by first|rfl|(simp_all;done)|(simp_all;intros;omega),HB.out⟩)
 · have hl1:(rl==0)=false:=beq_eq_false_iff_ne.2 hl0;cases A
   · go_wp2;all_goals (go_ret;exact ⟨by first|rfl|(simp_all;done)|(simp_all;intros;omega),HB.out⟩)
   cases eV
   · go_wp2;all_goals (go_ret;exact ⟨by first|rfl|(simp_all;done)|(simp_all;intros;omega),HB.out⟩)
   by_cases h4:ra=0
   rotate_left
   · have h5:(ra==0)=false:=beq_eq_false_iff_ne.2 h4;go_wp2;all_goals (go_ret;exact ⟨by first|rfl|(simp_all;done)|(simp_all;intros;omega),HB.out⟩)
   subst h4;cases eS
   · go_wp2;all_goals (go_ret;exact ⟨by first|rfl|(simp_all;done)|(simp_all;intros;omega),HB.out⟩)
   by_cases h6:rj=0
   · subst h6;cases LO
     · go_wp2;all_goals (go_ret;exact ⟨by first|rfl|(simp_all;done)|(simp_all;intros;omega),HB.out⟩)
     cases HI
     · go_wp2;all_goals (go_ret;exact ⟨by first|rfl|(simp_all;done)|(simp_all;intros;omega),HB.out⟩)
     go_wp2;all_goals (go_ret;exact ⟨by first|rfl|(simp_all;done)|(simp_all;intros;omega),HB.out⟩)
   · have h7:(rj==0)=false:=beq_eq_false_iff_ne.2 h6;by_cases h8:rj=1
     · subst h8;by_cases h9:0<=rw_
       · skip
         go_wp2;all_goals (go_ret;exact ⟨by first|rfl|(simp_all;done)|(simp_all;intros;omega),HB.out⟩)
       · skip
         go_wp2;all_goals (go_ret;exact ⟨by first|rfl|(simp_all;done)|(simp_all;intros;omega),HB.out⟩)
     · have h9:(rj==1)=false:=beq_eq_false_iff_ne.2 h8;go_wp2;all_goals (go_ret;exact ⟨by first|rfl|(simp_all;done)|(simp_all;intros;omega),HB.out⟩)
theorem dreply_acc (rx vf ra rj rw_ rl rh:Int) (VB RR:ByteArray) (A LO HI eS V P:Bool) (w:World)
 (H1:Hid (∀ w,Calls Tryz.prog 142 #[iI rx] w fun e w'=>e=.returned (.bool A)∧w'=w))
 (H2:Hid (∀ w,Calls Tryz.prog 142 #[iI rl] w fun e w'=>e=.returned (.bool LO)∧w'=w))
 (H3:Hid (∀ w,Calls Tryz.prog 142 #[iI rh] w fun e w'=>e=.returned (.bool HI)∧w'=w))
 (H4:Hid (∀ w,Calls Tryz.prog 143 #[.agg #[iI vf,.string VB]] w fun e w'=>e=.returned (.bool V)∧Below w.heap.size w w'))
 (H5:Hid (∀ w,Calls Tryz.prog 144 #[.string RR] w fun e w'=>e=.returned (.bool P)∧w'=w))
 (hS:RR.toList.isEmpty=eS) :
 Calls Tryz.prog 107 #[.agg #[iI rx,.bool false,iI vf,.string VB,iI ra,iI rj,iI rw_,iI rl,iI rh,.string RR]] w fun e w'=>e=.returned (.bool (A&&V&&(rj==0)&&(rw_==0)&&decide (0<=ra)&&decide (ra<=5)&&(if ra==0 then P&&(rl==0&&rh==0) else if ra==2 then LO&&HI&&eS else (rl==0&&rh==0)&&eS)))∧Below w.heap.size w w':=by
 obtain ⟨wa,hwa⟩:∃ x,w.alloc (.cells #[iI rx,.bool false,iI vf,.string VB,iI ra,iI rj,iI rw_,iI rl,iI rh,.string RR] 46)=x:=⟨_,rfl⟩;obtain ⟨hk,hB,hz⟩:=boxed w wa _ _ hwa;have HK:Hid (Bk wa w.heap.size [iI rx,.bool false,iI vf,.string VB,iI ra,iI rj,iI rw_,iI rl,iI rh,.string RR] 46):=hk;have HB:=hid hB;have a0:=hk.cell 0 rfl;have a1:=hk.cell 1 rfl;have a2:=hk.cell 2 rfl;have a3:=hk.cell 3 rfl;have a4:=hk.cell 4 rfl;have a5:=hk.cell 5 rfl;have a6:=hk.cell 6 rfl;have a7:=hk.cell 7 rfl;have a8:=hk.cell 8 rfl;have a9:=hk.cell 9 rfl;clear hk hB hz;go_enter Tryz.func107,Tryz.ntmps107
 go_wp2_with fail
 refine (H1.out _).mono ?_;rintro e w0 ⟨rfl,hw0⟩;have hw1:=hw0.symm;clear hw0;subst hw1;go_wp2_with fail
 refine (H2.out _).mono ?_;rintro e w0 ⟨rfl,hw0⟩;have hw1:=hw0.symm;clear hw0;subst hw1;go_wp2_with fail
 refine (H3.out _).mono ?_;rintro e w0 ⟨rfl,hw0⟩;have hw1:=hw0.symm;clear hw0;subst hw1;by_cases hl0:rl=0
 · subst hl0;by_cases hh0:rh=0
   · subst hh0;(go_wp2_with fail);refine (H4.out _).mono ?_;rintro e wu ⟨rfl,hBn⟩;have Ab:=hid (HK.out.below hBn HK.out.lt);have Aa:Hid (Below w.heap.size w wu):=HB.out.trans (hBn.mono HB.out.size);clear hBn a0 a1 a2 a3 a4 a5 a6 a7 a8 a9;have a0:=Ab.out.cell 0 rfl;have a1:=Ab.out.cell 1 rfl;have a2:=Ab.out.cell 2 rfl;have a3:=Ab.out.cell 3 rfl;have a4:=Ab.out.cell 4 rfl;have a5:=Ab.out.cell 5 rfl;have a6:=Ab.out.cell 6 rfl;have a7:=Ab.out.cell 7 rfl;have a8:=Ab.out.cell 8 rfl;have a9:=Ab.out.cell 9 rfl;(go_wp2_with fail);refine (H5.out _).mono ?_;rintro e w0 ⟨rfl,hw0⟩;have hw1:=hw0.symm;clear hw0;subst hw1;cases A
     · go_wp2;all_goals (go_ret;exact ⟨by first|rfl|(simp_all;done)|(simp_all;intros;omega),Aa.out⟩)
     cases V
     · go_wp2;all_goals (go_ret;exact ⟨by first|rfl|(simp_all;done)|(simp_all;intros;omega),Aa.out⟩)
     (by_cases h4:rj=0);rotate_left
     · have h5:(rj==0)=false:=beq_eq_false_iff_ne.2 h4;go_wp2;all_goals (go_ret;exact ⟨by first|rfl|(simp_all;done)|(simp_all;intros;omega),Aa.out⟩)
     subst h4;(by_cases h4:rw_=0);rotate_left
     · have h5:(rw_==0)=false:=beq_eq_false_iff_ne.2 h4;go_wp2;all_goals (go_ret;exact ⟨by first|rfl|(simp_all;done)|(simp_all;intros;omega),Aa.out⟩)
     subst h4;(by_cases h4:0<=ra);rotate_left
     · skip
       go_wp2;all_goals (go_ret;exact ⟨by first|rfl|(simp_all;done)|(simp_all;intros;omega),Aa.out⟩)
     (by_cases h5:ra<=5);rotate_left
     · skip
       go_wp2;all_goals (go_ret;exact ⟨by first|rfl|(simp_all;done)|(simp_all;intros;omega),Aa.out⟩)
     by_cases h6:ra=0
     · subst h6;cases P
       · go_wp2;all_goals (go_ret;exact ⟨by first|rfl|(simp_all;done)|(simp_all;intros;omega),Aa.out⟩)
       go_wp2;all_goals (go_ret;exact ⟨by first|rfl|(simp_all;done)|(simp_all;intros;omega),Aa.out⟩)
     · have h7:(ra==0)=false:=beq_eq_false_iff_ne.2 h6;by_cases h8:ra=2
       · subst h8;cases LO
         · go_wp2;all_goals (go_ret;exact ⟨by first|rfl|(simp_all;done)|(simp_all;intros;omega),Aa.out⟩)
         cases HI
         · go_wp2;all_goals (go_ret;exact ⟨by first|rfl|(simp_all;done)|(simp_all;intros;omega),Aa.out⟩)
         cases eS
         · go_wp2;all_goals (go_ret;exact ⟨by first|rfl|(simp_all;done)|(simp_all;intros;omega),Aa.out⟩)
         go_wp2;all_goals (go_ret;exact ⟨by first|rfl|(simp_all;done)|(simp_all;intros;omega),Aa.out⟩)
       · have h9:(ra==2)=false:=beq_eq_false_iff_ne.2 h8;cases eS
         · go_wp2;all_goals (go_ret;exact ⟨by first|rfl|(simp_all;done)|(simp_all;intros;omega),Aa.out⟩)
         go_wp2;all_goals (go_ret;exact ⟨by first|rfl|(simp_all;done)|(simp_all;intros;omega),Aa.out⟩)
   · have hh1:(rh==0)=false:=beq_eq_false_iff_ne.2 hh0;(go_wp2_with fail);refine (H4.out _).mono ?_;rintro e wu ⟨rfl,hBn⟩;have Ab:=hid (HK.out.below hBn HK.out.lt);have Aa:Hid (Below w.heap.size w wu):=HB.out.trans (hBn.mono HB.out.size);clear hBn a0 a1 a2 a3 a4 a5 a6 a7 a8 a9;have a0:=Ab.out.cell 0 rfl;have a1:=Ab.out.cell 1 rfl;have a2:=Ab.out.cell 2 rfl;have a3:=Ab.out.cell 3 rfl;have a4:=Ab.out.cell 4 rfl;have a5:=Ab.out.cell 5 rfl;have a6:=Ab.out.cell 6 rfl;have a7:=Ab.out.cell 7 rfl;have a8:=Ab.out.cell 8 rfl;have a9:=Ab.out.cell 9 rfl;(go_wp2_with fail);refine (H5.out _).mono ?_;rintro e w0 ⟨rfl,hw0⟩;have hw1:=hw0.symm;clear hw0;subst hw1;cases A
     · go_wp2;all_goals (go_ret;exact ⟨by first|rfl|(simp_all;done)|(simp_all;intros;omega),Aa.out⟩)
     cases V
     · go_wp2;all_goals (go_ret;exact ⟨by first|rfl|(simp_all;done)|(simp_all;intros;omega),Aa.out⟩)
     (by_cases h4:rj=0);rotate_left
     · have h5:(rj==0)=false:=beq_eq_false_iff_ne.2 h4;go_wp2;all_goals (go_ret;exact ⟨by first|rfl|(simp_all;done)|(simp_all;intros;omega),Aa.out⟩)
     subst h4;(by_cases h4:rw_=0);rotate_left
     · have h5:(rw_==0)=false:=beq_eq_false_iff_ne.2 h4;go_wp2;all_goals (go_ret;exact ⟨by first|rfl|(simp_all;done)|(simp_all;intros;omega),Aa.out⟩)
     subst h4;(by_cases h4:0<=ra);rotate_left
     · skip
       go_wp2;all_goals (go_ret;exact ⟨by first|rfl|(simp_all;done)|(simp_all;intros;omega),Aa.out⟩)
     (by_cases h5:ra<=5);rotate_left
     · skip
       go_wp2;all_goals (go_ret;exact ⟨by first|rfl|(simp_all;done)|(simp_all;intros;omega),Aa.out⟩)
     by_cases h6:ra=0
     · subst h6;cases P
       · go_wp2;all_goals (go_ret;exact ⟨by first|rfl|(simp_all;done)|(simp_all;intros;omega),Aa.out⟩)
       go_wp2;all_goals (go_ret;exact ⟨by first|rfl|(simp_all;done)|(simp_all;intros;omega),Aa.out⟩)
     · have h7:(ra==0)=false:=beq_eq_false_iff_ne.2 h6;by_cases h8:ra=2
       · subst h8;cases LO
         · go_wp2;all_goals (go_ret;exact ⟨by first|rfl|(simp_all;done)|(simp_all;intros;omega),Aa.out⟩)
         cases HI
         · go_wp2;all_goals (go_ret;exact ⟨by first|rfl|(simp_all;done)|(simp_all;intros;omega),Aa.out⟩)
         cases eS
         · go_wp2;all_goals (go_ret;exact ⟨by first|rfl|(simp_all;done)|(simp_all;intros;omega),Aa.out⟩)
         go_wp2;all_goals (go_ret;exact ⟨by first|rfl|(simp_all;done)|(simp_all;intros;omega),Aa.out⟩)
       · have h9:(ra==2)=false:=beq_eq_false_iff_ne.2 h8;cases eS
         · go_wp2;all_goals (go_ret;exact ⟨by first|rfl|(simp_all;done)|(simp_all;intros;omega),Aa.out⟩)
         go_wp2;all_goals (go_ret;exact ⟨by first|rfl|(simp_all;done)|(simp_all;intros;omega),Aa.out⟩)
 · have hl1:(rl==0)=false:=beq_eq_false_iff_ne.2 hl0;go_wp2_with fail
   refine (H4.out _).mono ?_;rintro e wu ⟨rfl,hBn⟩;have Ab:=hid (HK.out.below hBn HK.out.lt);have Aa:Hid (Below w.heap.size w wu):=HB.out.trans (hBn.mono HB.out.size);clear hBn a0 a1 a2 a3 a4 a5 a6 a7 a8 a9;have a0:=Ab.out.cell 0 rfl;have a1:=Ab.out.cell 1 rfl;have a2:=Ab.out.cell 2 rfl;have a3:=Ab.out.cell 3 rfl;have a4:=Ab.out.cell 4 rfl;have a5:=Ab.out.cell 5 rfl;have a6:=Ab.out.cell 6 rfl;have a7:=Ab.out.cell 7 rfl;have a8:=Ab.out.cell 8 rfl;have a9:=Ab.out.cell 9 rfl;go_wp2_with fail
   refine (H5.out _).mono ?_;rintro e w0 ⟨rfl,hw0⟩;have hw1:=hw0.symm;clear hw0;subst hw1;cases A
   · go_wp2;all_goals (go_ret;exact ⟨by first|rfl|(simp_all;done)|(simp_all;intros;omega),Aa.out⟩)
   cases V
   · go_wp2;all_goals (go_ret;exact ⟨by first|rfl|(simp_all;done)|(simp_all;intros;omega),Aa.out⟩)
   by_cases h4:rj=0
   rotate_left
   · have h5:(rj==0)=false:=beq_eq_false_iff_ne.2 h4;go_wp2;all_goals (go_ret;exact ⟨by first|rfl|(simp_all;done)|(simp_all;intros;omega),Aa.out⟩)
   subst h4;by_cases h4:rw_=0
   rotate_left
   · have h5:(rw_==0)=false:=beq_eq_false_iff_ne.2 h4;go_wp2;all_goals (go_ret;exact ⟨by first|rfl|(simp_all;done)|(simp_all;intros;omega),Aa.out⟩)
   subst h4;by_cases h4:0<=ra
   rotate_left
   · skip
     go_wp2;all_goals (go_ret;exact ⟨by first|rfl|(simp_all;done)|(simp_all;intros;omega),Aa.out⟩)
   by_cases h5:ra<=5
   rotate_left
   · skip
     go_wp2;all_goals (go_ret;exact ⟨by first|rfl|(simp_all;done)|(simp_all;intros;omega),Aa.out⟩)
   by_cases h6:ra=0
   · subst h6;cases P
     · go_wp2;all_goals (go_ret;exact ⟨by first|rfl|(simp_all;done)|(simp_all;intros;omega),Aa.out⟩)
     go_wp2;all_goals (go_ret;exact ⟨by first|rfl|(simp_all;done)|(simp_all;intros;omega),Aa.out⟩)
   · have h7:(ra==0)=false:=beq_eq_false_iff_ne.2 h6;by_cases h8:ra=2
     · subst h8;cases LO
       · go_wp2;all_goals (go_ret;exact ⟨by first|rfl|(simp_all;done)|(simp_all;intros;omega),Aa.out⟩)
       cases HI
       · go_wp2;all_goals (go_ret;exact ⟨by first|rfl|(simp_all;done)|(simp_all;intros;omega),Aa.out⟩)
       cases eS
       · go_wp2;all_goals (go_ret;exact ⟨by first|rfl|(simp_all;done)|(simp_all;intros;omega),Aa.out⟩)
       go_wp2;all_goals (go_ret;exact ⟨by first|rfl|(simp_all;done)|(simp_all;intros;omega),Aa.out⟩)
     · have h9:(ra==2)=false:=beq_eq_false_iff_ne.2 h8;cases eS
       · go_wp2;all_goals (go_ret;exact ⟨by first|rfl|(simp_all;done)|(simp_all;intros;omega),Aa.out⟩)
       go_wp2;all_goals (go_ret;exact ⟨by first|rfl|(simp_all;done)|(simp_all;intros;omega),Aa.out⟩)
theorem empty_dec (l:List UInt8):(⟨l.toArray⟩:ByteArray).toList.isEmpty=decide (l=[]):=by
 rw [zc2];cases l <;> rfl
theorem zb8 (r:ReplyP) (w:World) (hl:r.results.length<=140737488355328) :
 Calls Tryz.prog 107 #[.agg (zam r).toArray] w fun e w'=>e=.returned (.bool (decide r.may))∧Below w.heap.size w w':=by
 by_cases hd:r.denied=true
 · rw [den_dec r hd];have hV:∀ w,(binOp .neq 44 (.agg #[iI r.verf.flavor,.string ⟨r.verf.body.toArray⟩]) (.agg #[iI 0,.string ⟨#[]⟩])).run Tryz.prog w=.ok (.bool (!(r.verf.flavor==0&&decide (r.verf.body=[])))) w:=fun w=>by
    (have:=neqA w r.verf.flavor 0 ⟨r.verf.body.toArray⟩ ⟨#[]⟩);rw [nil_dec] at this;exact this
   have:=dreply_den r.xid r.verf.flavor r.accept r.reject r.why r.low r.high ⟨r.verf.body.toArray⟩ ⟨r.results.toArray⟩ _ _ _ _ _ w (za3 r.xid) (za3 r.low) (za3 r.high) hV (empty_dec r.results)
   unfold zam;rw [hd];exact this
 · have hd:r.denied=false:=by simpa using hd
   rw [acc_dec r hd];have:=dreply_acc r.xid r.verf.flavor r.accept r.reject r.why r.low r.high ⟨r.verf.body.toArray⟩ ⟨r.results.toArray⟩ _ _ _ _ _ _ w (za3 r.xid) (za3 r.low) (za3 r.high) (zdp r.verf) (fun w=>zha r.results w hl) (empty_dec r.results)
   unfold zam;rw [hd];exact this
theorem layGs_snoc (gs:List Int) (k:Nat) (h:k<gs.length):zbr (gs.take (k+1))=zbr (gs.take k)++nbL 4 (gs.getD k 0).toNat:=by
 induction gs generalizing k with
 | nil=>simp at h
 | cons g gs ih =>
  cases k with
  | zero=>simp [zbr]
  | succ k =>
   simp only [List.take_succ_cons,zbr,List.append_assoc];rw [ih k (by simpa using h)];simp
theorem ints_at (gs:List Int) (j:Nat) (h:j<gs.length):(gs.map fun g=>Value.int .i64 g)[j]?=some (iI (gs.getD j 0)):=by
 rw [List.getElem?_map,List.getElem?_eq_getElem h,List.getD_eq_getElem?_getD,List.getElem?_eq_getElem h];rfl
theorem getD_all {gs:List Int} (h:∀ g∈gs,isW g) (j:Nat) (hj:j<gs.length):isW (gs.getD j 0):=by
 rw [List.getD_eq_getElem?_getD,List.getElem?_eq_getElem hj];exact h _ (List.getElem_mem hj)
def gsC (c:CallP):List Int:=[c.xid,0,c.rpc,c.prog,c.vers,c.proc]
theorem gsC_lay (c:CallP):zbr (gsC c)++c.cred.lay++c.verf.lay++c.args=c.lay:=by
 unfold gsC CallP.lay;simp only [zbr,List.append_assoc,List.nil_append];rfl
theorem zgq (c:CallP) (w:World) (hm:¬ c.may) (hl:c.args.length<=140737488355328) :
 Calls Tryz.prog 64 #[.agg (zdc c).toArray] w fun e w'=>e=.returned (.tuple #[.string ⟨#[]⟩,iI 120])∧Below w.heap.size w w':=by
 have H1:=hid (fun w=>ze6 c w hl);rw [decide_eq_false hm] at H1;simp only [zdc] at H1 ⊢;obtain ⟨wa,hwa⟩:∃ x,w.alloc (.cells #[iI c.xid,iI c.rpc,iI c.prog,iI c.vers,iI c.proc,iI c.cred.flavor,.string ⟨c.cred.body.toArray⟩,iI c.verf.flavor,.string ⟨c.verf.body.toArray⟩,.string ⟨c.args.toArray⟩] 108)=x:=⟨_,rfl⟩;obtain ⟨hk,hB,hz⟩:=boxed w wa _ _ hwa;have HB:=hid hB;have a0:=hk.cell 0 rfl;have a1:=hk.cell 1 rfl;have a2:=hk.cell 2 rfl;have a3:=hk.cell 3 rfl;have a4:=hk.cell 4 rfl;have a5:=hk.cell 5 rfl;have a6:=hk.cell 6 rfl;have a7:=hk.cell 7 rfl;have a8:=hk.cell 8 rfl;have a9:=hk.cell 9 rfl;clear hk hB hz hm hl;go_enter Tryz.func64,Tryz.ntmps64
 go_wp2_with fail
 refine (H1.out _).mono ?_;rintro e w1 ⟨rfl,hB1⟩;have Aa:Hid (Below w.heap.size w w1):=HB.out.trans (hB1.mono HB.out.size);clear hB1;go_wp2;refine bodyPost_ret (v:=.tuple #[.string ⟨#[]⟩,iI 120]) (by simp [results,Tryz.results64,go_sem]) rfl ⟨rfl,Aa.out⟩
theorem zh7 (c:CallP) (w:World) (hm:c.may) :
 Calls Tryz.prog 64 #[.agg (zdc c).toArray] w fun e w'=>e=.returned (.tuple #[.string ⟨c.lay.toArray⟩,iI 0])∧Below w.heap.size w w':=by
 have H1:=hid (fun w=>ze6 c w (Nat.le_trans hm.2.2.2.2.2.2.2.1 (by decide)));rw [decide_eq_true hm] at H1;obtain ⟨gs,hgs⟩:∃ g,gsC c=g:=⟨_,rfl⟩;have hg6:gs.length=6:=by rw [<- hgs];rfl
 have hgw:∀ g∈gs,isW g:=by
  rw [<- hgs];intro g hg;simp only [gsC,List.mem_cons,List.not_mem_nil,or_false] at hg;rcases hg with rfl|rfl|rfl|rfl|rfl|rfl
  · exact hm.1
  · decide
  · rw [hm.2.1];decide
  · exact hm.2.2.1
  · exact hm.2.2.2.1
  · exact hm.2.2.2.2.1
 have au1:=zfp _ hm.2.2.2.2.2.1;have au2:=zfp _ hm.2.2.2.2.2.2.1;have hmc:=hm.2.2.2.2.2.1;have hmv:=hm.2.2.2.2.2.2.1;have hpl:=hm.2.2.2.2.2.2.2;have hgl:(zbr gs).length=24:=by rw [zdl,hg6]
 have Am:Hid (∀ p w,RL w p 4096 (zbr gs)->Calls Tryz.prog 105 #[.pointer (some ⟨p,0,none⟩),.agg #[iI c.cred.flavor,.string ⟨c.cred.body.toArray⟩]] w (zbt p 4096 (zbr gs++c.cred.lay) w)):=fun p w h=>zen p c.cred 4096 _ w h hmc (by decide) (by omega);have An:Hid (∀ p w,RL w p 4096 (zbr gs++c.cred.lay)->Calls Tryz.prog 105 #[.pointer (some ⟨p,0,none⟩),.agg #[iI c.verf.flavor,.string ⟨c.verf.body.toArray⟩]] w (zbt p 4096 (zbr gs++c.cred.lay++c.verf.lay) w)):=fun p w h=>zen p c.verf 4096 _ w h hmv (by decide) (by rw [List.length_append];omega);have HU:Hid (∀ p j w,j<6->RL w p 4096 (zbr (gs.take j))->Calls Tryz.prog 104 #[.pointer (some ⟨p,0,none⟩),iI (gs.getD j 0)] w (zbt p 4096 (zbr (gs.take (j+1))) w)):=fun p j w hj h=>by
  rw [layGs_snoc gs j (by omega)];exact zbb p _ 4096 _ w h (getD_all hgw j (by omega)) (by decide) (by rw [zdl,List.length_take];omega)
 have HY:Hid ((⟨(zbr gs++c.cred.lay++c.verf.lay).toArray⟩:ByteArray)++⟨c.args.toArray⟩=⟨c.lay.toArray⟩):=by
  show _=_;rw [bapp,<- hgs,gsC_lay]
 have s1:(⟨(zbr gs++c.cred.lay++c.verf.lay).toArray⟩:ByteArray).size<=2000:=by
  rw [zar,List.length_append,List.length_append];omega
 have s2:(⟨c.args.toArray⟩:ByteArray).size<=1000:=by rw [zar];exact hpl.1
 have Ao:Hid (gs.take 6=gs):=List.take_of_length_le (by omega);have Ap:Hid ((gs.map fun g=>Value.int .i64 g)=[iI c.xid,iI 0,iI c.rpc,iI c.prog,iI c.vers,iI c.proc]):=by rw [<- hgs];rfl
 have Aq:=hid hg6;simp only [zdc] at H1 ⊢;obtain ⟨wa,hwa⟩:∃ x,w.alloc (.cells #[iI c.xid,iI c.rpc,iI c.prog,iI c.vers,iI c.proc,iI c.cred.flavor,.string ⟨c.cred.body.toArray⟩,iI c.verf.flavor,.string ⟨c.verf.body.toArray⟩,.string ⟨c.args.toArray⟩] 108)=x:=⟨_,rfl⟩;obtain ⟨hk,hB,hz⟩:=boxed w wa _ _ hwa;have HB:=hid hB;have HK:=hid hk;have a0:=hk.cell 0 rfl;have a1:=hk.cell 1 rfl;have a2:=hk.cell 2 rfl;have a3:=hk.cell 3 rfl;have a4:=hk.cell 4 rfl;have a5:=hk.cell 5 rfl;have a6:=hk.cell 6 rfl;have a7:=hk.cell 7 rfl;have a8:=hk.cell 8 rfl;have a9:=hk.cell 9 rfl;clear hk hB hz hm hgs hgw hg6 au1 au2 hmc hmv hpl hgl;generalize hLAY:(⟨c.lay.toArray⟩:ByteArray)=LAY at *;clear hLAY;go_enter Tryz.func64,Tryz.ntmps64
 go_wp2_with fail
 refine (H1.out _).mono ?_;rintro e w1 ⟨rfl,hB1⟩;have Ag:Hid (Below w.heap.size w w1):=HB.out.trans (hB1.mono HB.out.size);have Ad:=hid (HK.out.below hB1 HK.out.lt);have HN:=hid (l_new w1);clear hB1 H1 HK a0 a1 a2 a3 a4 a5 a6 a7 a8 a9;go_wp2_with fail
 refine HN.out.mono ?_;rintro e w2 ⟨rfl,hR2,hB2,hz2⟩;have Ah:Hid (Below w.heap.size w w2):=Ag.out.trans (hB2.mono Ag.out.size);have Aa:=hid (Ad.out.below hB2 Ad.out.lt);have b0:=Aa.out.cell 0 rfl;have b1:=Aa.out.cell 1 rfl;have b2:=Aa.out.cell 2 rfl;have b3:=Aa.out.cell 3 rfl;have b4:=Aa.out.cell 4 rfl;obtain ⟨w3,hw3⟩:∃ x,w2.alloc (.cells #[iI c.xid,iI 0,iI c.rpc,iI c.prog,iI c.vers,iI c.proc] 3)=x:=⟨_,rfl⟩;obtain ⟨hk3,hB3,hz3⟩:=boxed w2 w3 _ _ hw3;have Ar:=hid (RL.below hR2 hB3);have Au:=hid (Aa.out.below hB3 Aa.out.lt);have Av:Hid (Bk w3 w2.heap.size (gs.map fun g=>Value.int .i64 g) 3):=by rw [Ap.out];exact hk3
 have Ai:Hid (Below w.heap.size w w3):=Ah.out.trans (hB3.mono Ah.out.size);have Ab:Hid (w.heap.size<w1.heap.size∧w1.heap.size<w2.heap.size):=⟨Ad.out.lt,by omega⟩;clear hR2 hB2 hz2 hk3 hB3 hz3 HN;go_wp2_with fail
 go_loopw [7] (fun ix wr=>∃ j:Nat,ix=iI j∧j<=6∧Hid (RL wr w1.heap.size 4096 (zbr (gs.take j)))∧Hid (Only w1.heap.size w3 wr)) (fun ix _=>200 - (intOf ix).toNat)
 case atStart=>exact ⟨0,rfl,by omega,Ar,Only.refl _ _⟩
 case round =>
  obtain ⟨j,rfl,hj,HW,HO⟩:=hrel;by_cases hlt:j<6
  · have q0:=(Av.out.only HO.out (by have:=Ab.out;omega)).cell j (ints_at gs j (by have:=Aq.out;omega));have Aj:=hid (HU.out w1.heap.size j wr hlt HW.out);generalize gs.getD j 0=G at *;(go_wp2_with fail);refine Aj.out.mono ?_;rintro e w6 ⟨rfl,h6,hO6⟩;have Aw:=hid h6;have Ax:=hid (HO.out.trans hO6);clear h6 hO6 Aj;go_wp2;go_roundw
    case rel=>exact ⟨j+1,by go_num,by omega,Aw,Ax⟩
    case measure=>simp [intOf];omega
  · obtain rfl:j=6:=(by omega);have hW:=HW.out;rw [Ao.out] at hW;have Ae:=hid (Au.out.only HO.out (by have:=Ab.out;omega));have b5:=Ae.out.cell 5 rfl;have b6:=Ae.out.cell 6 rfl;have Ak:=hid (Am.out _ wr hW);clear hW;(go_wp2_with fail);refine Ak.out.mono ?_;rintro e w7 ⟨rfl,h7,hO7⟩;have Ay:=hid (HO.out.trans hO7);have Af:=hid (Ae.out.only hO7 (by have:=Ab.out;omega));have Al:=hid (An.out _ w7 h7);clear b5 b6 h7 hO7 Ak;have b7:=Af.out.cell 7 rfl;have b8:=Af.out.cell 8 rfl;(go_wp2_with fail);refine Al.out.mono ?_;rintro e w8 ⟨rfl,h8,hO8⟩;have Ac:=hid (Ay.out.trans hO8);have Az:=hid (Af.out.only hO8 (by have:=Ab.out;omega));have Ba:=hid (l_done _ _ _ w8 h8);clear b7 b8 h8 hO8 Al;have b9:=Az.out.cell 9 rfl;(go_wp2_with fail);refine Ba.out.mono ?_;rintro e w9 ⟨rfl,hw9⟩;have hw10:=hw9.symm;clear hw9;subst hw10;have Bb:Hid (Below w.heap.size w w8):=Ai.out.trans ⟨Ac.out.os,Ac.out.tape,Ac.out.output,Ac.out.size,fun k hk=>Ac.out.block k (by have:=Ai.out.size;omega) (by have:=Ab.out;omega)⟩;have hY:=HY.out;clear HY;generalize (⟨(zbr gs++c.cred.lay++c.verf.lay).toArray⟩:ByteArray)=S3 at *;generalize (⟨c.args.toArray⟩:ByteArray)=AR at *;go_wp2;refine bodyPost_ret (v:=.tuple #[.string LAY,iI 0]) (by simp [results,Tryz.results64,go_sem]) rfl ⟨rfl,Bb.out⟩
theorem zgr (c:CallP) (w:World) (hl:c.args.length<=140737488355328) :
 Calls Tryz.prog 64 #[.agg (zdc c).toArray] w fun e w'=>e=.returned (.tuple #[.string ⟨(pcP c).1.toArray⟩,iI (pcP c).2])∧Below w.heap.size w w':=by
 unfold pcP prM;by_cases hm:c.may
 · rw [if_pos hm];exact zh7 c w hm
 · rw [if_neg hm];exact zgq c w hm hl
theorem pr_may {r:ReplyP} (h:r.may):prP r=(r.lay,0):=by unfold prP prM;rw [if_pos h]
inductive Is (s:List UInt8) (A:CallP) (l:Int) (B:ReplyP) (m:Int):Prop
 | call:l=0->m=121->B=nulR->A.rpc=2->A.may->A.lay=s->Is s A l B m
 | other:l=0->m=121->B=nulR->A.rpc≠2->Is s A l B m
 | reply:l=121->A=nulC->m=0->B.may->B.lay=s->Is s A l B m
 | none:l=121->A=nulC->m=121->B=nulR->Is s A l B m
theorem zd9 {r:ReplyP} (h:r.may):r.results.length<=140737488355328:=by
 obtain ⟨rx,rd,rv,ra,rl,rh,rr,rj,rw_⟩:=r;obtain ⟨_,h2⟩:=h;cases rd
 · simp only [Bool.false_eq_true,if_false] at h2;obtain ⟨_,_,_,_,_,h7⟩:=h2;rcases h7 with ⟨_,a1,_⟩|⟨_,_,_,rfl⟩|⟨_,_,_,_,rfl⟩
   · exact Nat.le_trans a1.1 (by decide)
   · exact Nat.zero_le _
   · exact Nat.zero_le _
 · simp only [if_true] at h2;obtain ⟨_,_,rfl,_⟩:=h2;exact Nat.zero_le _
theorem dpr_d0 (rx rl rh:Int) (w:World) (hm:ReplyP.may ⟨rx,true,nulA,0,rl,rh,[],0,0⟩) (wx:isW rx) (wl:isW rl) (wh:isW rh) :
 Calls Tryz.prog 67 #[.agg #[iI rx,.bool true,iI 0,.string ⟨#[]⟩,iI 0,iI 0,iI 0,iI rl,iI rh,.string ⟨#[]⟩]] w fun e w'=>e=.returned (.tuple #[.string ⟨(ReplyP.lay ⟨rx,true,nulA,0,rl,rh,[],0,0⟩).toArray⟩,iI 0])∧Below w.heap.size w w':=by
 have H1:Hid (∀ w,Calls Tryz.prog 107 #[.agg #[iI rx,.bool true,iI 0,.string ⟨#[]⟩,iI 0,iI 0,iI 0,iI rl,iI rh,.string ⟨#[]⟩]] w fun e w'=>e=.returned (.bool true)∧Below w.heap.size w w'):=fun w=>by
  have:=zb8 ⟨rx,true,nulA,0,rl,rh,[],0,0⟩ w (zd9 hm)
  rw [decide_eq_true hm] at this;exact this
 obtain ⟨wa,hwa⟩:∃ x,w.alloc (.cells #[iI rx,.bool true,iI 0,.string ⟨#[]⟩,iI 0,iI 0,iI 0,iI rl,iI rh,.string ⟨#[]⟩] 46)=x:=⟨_,rfl⟩;obtain ⟨hk,hB,hz⟩:=boxed w wa _ _ hwa;have HB:=hid hB;have HK:Hid (Bk wa w.heap.size [iI rx,.bool true,iI 0,.string ⟨#[]⟩,iI 0,iI 0,iI 0,iI rl,iI rh,.string ⟨#[]⟩] 46):=hk;have a0:=hk.cell 0 rfl;have a1:=hk.cell 1 rfl;have a2:=hk.cell 2 rfl;have a3:=hk.cell 3 rfl;have a4:=hk.cell 4 rfl;have a5:=hk.cell 5 rfl;have a6:=hk.cell 6 rfl;have a7:=hk.cell 7 rfl;have a8:=hk.cell 8 rfl;have a9:=hk.cell 9 rfl;clear hk hB hz hm;have Bb:Hid (∀ p w,RL w p 4096 []->Calls Tryz.prog 104 #[.pointer (some ⟨p,0,none⟩),iI rx] w (zbt p 4096 ([]++nbL 4 (rx:Int).toNat) w)):=fun p w h=>zbb p rx 4096 _ w h (wx) (by decide) (by decide);have Bc:Hid (∀ p w,RL w p 4096 ([]++nbL 4 (rx:Int).toNat)->Calls Tryz.prog 104 #[.pointer (some ⟨p,0,none⟩),iI 1] w (zbt p 4096 (([]++nbL 4 (rx:Int).toNat)++nbL 4 (1:Int).toNat) w)):=fun p w h=>zbb p 1 4096 _ w h (by decide) (by decide) (by simp only [List.length_append,zaf,List.length_nil];omega);have Bd:Hid (∀ p w,RL w p 4096 (([]++nbL 4 (rx:Int).toNat)++nbL 4 (1:Int).toNat)->Calls Tryz.prog 104 #[.pointer (some ⟨p,0,none⟩),iI 1] w (zbt p 4096 ((([]++nbL 4 (rx:Int).toNat)++nbL 4 (1:Int).toNat)++nbL 4 (1:Int).toNat) w)):=fun p w h=>zbb p 1 4096 _ w h (by decide) (by decide) (by simp only [List.length_append,zaf,List.length_nil];omega);have Be:Hid (∀ p w,RL w p 4096 ((([]++nbL 4 (rx:Int).toNat)++nbL 4 (1:Int).toNat)++nbL 4 (1:Int).toNat)->Calls Tryz.prog 104 #[.pointer (some ⟨p,0,none⟩),iI 0] w (zbt p 4096 (((([]++nbL 4 (rx:Int).toNat)++nbL 4 (1:Int).toNat)++nbL 4 (1:Int).toNat)++nbL 4 (0:Int).toNat) w)):=fun p w h=>zbb p 0 4096 _ w h (by decide) (by decide) (by simp only [List.length_append,zaf,List.length_nil];omega);have Bf:Hid (∀ p w,RL w p 4096 (((([]++nbL 4 (rx:Int).toNat)++nbL 4 (1:Int).toNat)++nbL 4 (1:Int).toNat)++nbL 4 (0:Int).toNat)->Calls Tryz.prog 104 #[.pointer (some ⟨p,0,none⟩),iI rl] w (zbt p 4096 ((((([]++nbL 4 (rx:Int).toNat)++nbL 4 (1:Int).toNat)++nbL 4 (1:Int).toNat)++nbL 4 (0:Int).toNat)++nbL 4 (rl:Int).toNat) w)):=fun p w h=>zbb p rl 4096 _ w h (wl) (by decide) (by simp only [List.length_append,zaf,List.length_nil];omega);have Bg:Hid (∀ p w,RL w p 4096 ((((([]++nbL 4 (rx:Int).toNat)++nbL 4 (1:Int).toNat)++nbL 4 (1:Int).toNat)++nbL 4 (0:Int).toNat)++nbL 4 (rl:Int).toNat)->Calls Tryz.prog 104 #[.pointer (some ⟨p,0,none⟩),iI rh] w (zbt p 4096 (((((([]++nbL 4 (rx:Int).toNat)++nbL 4 (1:Int).toNat)++nbL 4 (1:Int).toNat)++nbL 4 (0:Int).toNat)++nbL 4 (rl:Int).toNat)++nbL 4 (rh:Int).toNat) w)):=fun p w h=>zbb p rh 4096 _ w h (wh) (by decide) (by simp only [List.length_append,zaf,List.length_nil];omega);have HY:Hid ((⟨((((((([]++nbL 4 (rx:Int).toNat)++nbL 4 (1:Int).toNat)++nbL 4 (1:Int).toNat)++nbL 4 (0:Int).toNat)++nbL 4 (rl:Int).toNat)++nbL 4 (rh:Int).toNat):List UInt8).toArray⟩:ByteArray)=⟨(ReplyP.lay ⟨rx,true,nulA,0,rl,rh,[],0,0⟩).toArray⟩):=by
  show _=_;unfold ReplyP.lay;simp [List.append_assoc]
 generalize hLAY:(⟨(ReplyP.lay ⟨rx,true,nulA,0,rl,rh,[],0,0⟩).toArray⟩:ByteArray)=LAY at *;clear hLAY;go_enter Tryz.func67,Tryz.ntmps67
 go_wp2_with fail
 refine (H1.out _).mono ?_;rintro e w1 ⟨rfl,hB1⟩;have Ar:Hid (Below w.heap.size w w1):=HB.out.trans (hB1.mono HB.out.size);have Aq:=hid (HK.out.below hB1 HK.out.lt);have HN:=hid (l_new w1);clear hB1 H1 HK a0 a1 a2 a3 a4 a5 a6 a7 a8 a9;go_wp2_with fail
 refine HN.out.mono ?_;rintro e w2 ⟨rfl,hR2,hB2,hz2⟩;have Au:Hid (Below w.heap.size w w2):=Ar.out.trans (hB2.mono Ar.out.size);have Aa:=hid (Aq.out.below hB2 Aq.out.lt);have Aj:Hid (w.heap.size<w1.heap.size):=Aq.out.lt;have Ah:=hid hR2;have Ak:Hid (Only w1.heap.size w2 w2):=Only.refl _ _;clear hR2 hB2 hz2 HN;have Av:=hid (Bb.out _ w2 Ah.out);have b0:=Aa.out.cell 0 rfl;have b1:=Aa.out.cell 1 rfl;have b2:=Aa.out.cell 2 rfl;have b3:=Aa.out.cell 3 rfl;have b4:=Aa.out.cell 4 rfl;have b5:=Aa.out.cell 5 rfl;have b6:=Aa.out.cell 6 rfl;have b7:=Aa.out.cell 7 rfl;have b8:=Aa.out.cell 8 rfl;have b9:=Aa.out.cell 9 rfl;clear Ah;go_wp2_with fail
 refine Av.out.mono ?_;rintro e v1 ⟨rfl,hR,hO⟩;have Ah:=hid hR;have Ab:=hid (Aa.out.only hO (by have:=Aj.out;omega));have Al:=hid (Ak.out.trans hO);clear hR hO Av Aa Ak b0 b1 b2 b3 b4 b5 b6 b7 b8 b9;have Aw:=hid (Bc.out _ v1 Ah.out);have b0:=Ab.out.cell 0 rfl;have b1:=Ab.out.cell 1 rfl;have b2:=Ab.out.cell 2 rfl;have b3:=Ab.out.cell 3 rfl;have b4:=Ab.out.cell 4 rfl;have b5:=Ab.out.cell 5 rfl;have b6:=Ab.out.cell 6 rfl;have b7:=Ab.out.cell 7 rfl;have b8:=Ab.out.cell 8 rfl;have b9:=Ab.out.cell 9 rfl;clear Ah;go_wp2_with fail
 refine Aw.out.mono ?_;rintro e v2 ⟨rfl,hR,hO⟩;have Ah:=hid hR;have Ac:=hid (Ab.out.only hO (by have:=Aj.out;omega));have Am:=hid (Al.out.trans hO);clear hR hO Aw Ab Al b0 b1 b2 b3 b4 b5 b6 b7 b8 b9;have Ax:=hid (Bd.out _ v2 Ah.out);have b0:=Ac.out.cell 0 rfl;have b1:=Ac.out.cell 1 rfl;have b2:=Ac.out.cell 2 rfl;have b3:=Ac.out.cell 3 rfl;have b4:=Ac.out.cell 4 rfl;have b5:=Ac.out.cell 5 rfl;have b6:=Ac.out.cell 6 rfl;have b7:=Ac.out.cell 7 rfl;have b8:=Ac.out.cell 8 rfl;have b9:=Ac.out.cell 9 rfl;clear Ah;go_wp2_with fail
 refine Ax.out.mono ?_;rintro e v3 ⟨rfl,hR,hO⟩;have Ah:=hid hR;have Ad:=hid (Ac.out.only hO (by have:=Aj.out;omega));have An:=hid (Am.out.trans hO);clear hR hO Ax Ac Am b0 b1 b2 b3 b4 b5 b6 b7 b8 b9;have Ay:=hid (Be.out _ v3 Ah.out);have b0:=Ad.out.cell 0 rfl;have b1:=Ad.out.cell 1 rfl;have b2:=Ad.out.cell 2 rfl;have b3:=Ad.out.cell 3 rfl;have b4:=Ad.out.cell 4 rfl;have b5:=Ad.out.cell 5 rfl;have b6:=Ad.out.cell 6 rfl;have b7:=Ad.out.cell 7 rfl;have b8:=Ad.out.cell 8 rfl;have b9:=Ad.out.cell 9 rfl;clear Ah;go_wp2_with fail
 refine Ay.out.mono ?_;rintro e v4 ⟨rfl,hR,hO⟩;have Ah:=hid hR;have Ae:=hid (Ad.out.only hO (by have:=Aj.out;omega));have Ao:=hid (An.out.trans hO);clear hR hO Ay Ad An b0 b1 b2 b3 b4 b5 b6 b7 b8 b9;have Az:=hid (Bf.out _ v4 Ah.out);have b0:=Ae.out.cell 0 rfl;have b1:=Ae.out.cell 1 rfl;have b2:=Ae.out.cell 2 rfl;have b3:=Ae.out.cell 3 rfl;have b4:=Ae.out.cell 4 rfl;have b5:=Ae.out.cell 5 rfl;have b6:=Ae.out.cell 6 rfl;have b7:=Ae.out.cell 7 rfl;have b8:=Ae.out.cell 8 rfl;have b9:=Ae.out.cell 9 rfl;clear Ah;go_wp2_with fail
 refine Az.out.mono ?_;rintro e v5 ⟨rfl,hR,hO⟩;have Ah:=hid hR;have Af:=hid (Ae.out.only hO (by have:=Aj.out;omega));have Ap:=hid (Ao.out.trans hO);clear hR hO Az Ae Ao b0 b1 b2 b3 b4 b5 b6 b7 b8 b9;have Ba:=hid (Bg.out _ v5 Ah.out);have b0:=Af.out.cell 0 rfl;have b1:=Af.out.cell 1 rfl;have b2:=Af.out.cell 2 rfl;have b3:=Af.out.cell 3 rfl;have b4:=Af.out.cell 4 rfl;have b5:=Af.out.cell 5 rfl;have b6:=Af.out.cell 6 rfl;have b7:=Af.out.cell 7 rfl;have b8:=Af.out.cell 8 rfl;have b9:=Af.out.cell 9 rfl;clear Ah;go_wp2_with fail
 refine Ba.out.mono ?_;rintro e v6 ⟨rfl,hR,hO⟩;have Ah:=hid hR;have Ag:=hid (Af.out.only hO (by have:=Aj.out;omega));have Ai:=hid (Ap.out.trans hO);clear hR hO Ba Af Ap b0 b1 b2 b3 b4 b5 b6 b7 b8 b9;have HD:=hid (l_done _ _ _ v6 Ah.out);have b0:=Ag.out.cell 0 rfl;have b1:=Ag.out.cell 1 rfl;have b2:=Ag.out.cell 2 rfl;have b3:=Ag.out.cell 3 rfl;have b4:=Ag.out.cell 4 rfl;have b5:=Ag.out.cell 5 rfl;have b6:=Ag.out.cell 6 rfl;have b7:=Ag.out.cell 7 rfl;have b8:=Ag.out.cell 8 rfl;have b9:=Ag.out.cell 9 rfl;go_wp2_with fail
 refine HD.out.mono ?_;rintro e w9 ⟨rfl,hw9⟩;have hw10:=hw9.symm;clear hw9;subst hw10;have Bh:Hid (Below w.heap.size w v6):=Au.out.trans ⟨Ai.out.os,Ai.out.tape,Ai.out.output,Ai.out.size,fun k hk=>Ai.out.block k (by have:=Au.out.size;omega) (by have:=Aj.out;omega)⟩;have hY:=HY.out;clear HY HD Ah;generalize (⟨((((((([]++nbL 4 (rx:Int).toNat)++nbL 4 (1:Int).toNat)++nbL 4 (1:Int).toNat)++nbL 4 (0:Int).toNat)++nbL 4 (rl:Int).toNat)++nbL 4 (rh:Int).toNat):List UInt8).toArray⟩:ByteArray)=S3 at *;subst hY;go_wp2;refine bodyPost_ret (v:=.tuple #[.string S3,iI 0]) (by simp [results,Tryz.results67,go_sem]) rfl ⟨rfl,Bh.out⟩
theorem dpr_d1 (rx rw_:Int) (w:World) (hm:ReplyP.may ⟨rx,true,nulA,0,0,0,[],1,rw_⟩) (wx:isW rx) (ww:isW rw_) :
 Calls Tryz.prog 67 #[.agg #[iI rx,.bool true,iI 0,.string ⟨#[]⟩,iI 0,iI 1,iI rw_,iI 0,iI 0,.string ⟨#[]⟩]] w fun e w'=>e=.returned (.tuple #[.string ⟨(ReplyP.lay ⟨rx,true,nulA,0,0,0,[],1,rw_⟩).toArray⟩,iI 0])∧Below w.heap.size w w':=by
 have H1:Hid (∀ w,Calls Tryz.prog 107 #[.agg #[iI rx,.bool true,iI 0,.string ⟨#[]⟩,iI 0,iI 1,iI rw_,iI 0,iI 0,.string ⟨#[]⟩]] w fun e w'=>e=.returned (.bool true)∧Below w.heap.size w w'):=fun w=>by
  have:=zb8 ⟨rx,true,nulA,0,0,0,[],1,rw_⟩ w (zd9 hm)
  rw [decide_eq_true hm] at this;exact this
 obtain ⟨wa,hwa⟩:∃ x,w.alloc (.cells #[iI rx,.bool true,iI 0,.string ⟨#[]⟩,iI 0,iI 1,iI rw_,iI 0,iI 0,.string ⟨#[]⟩] 46)=x:=⟨_,rfl⟩;obtain ⟨hk,hB,hz⟩:=boxed w wa _ _ hwa;have HB:=hid hB;have HK:Hid (Bk wa w.heap.size [iI rx,.bool true,iI 0,.string ⟨#[]⟩,iI 0,iI 1,iI rw_,iI 0,iI 0,.string ⟨#[]⟩] 46):=hk;have a0:=hk.cell 0 rfl;have a1:=hk.cell 1 rfl;have a2:=hk.cell 2 rfl;have a3:=hk.cell 3 rfl;have a4:=hk.cell 4 rfl;have a5:=hk.cell 5 rfl;have a6:=hk.cell 6 rfl;have a7:=hk.cell 7 rfl;have a8:=hk.cell 8 rfl;have a9:=hk.cell 9 rfl;clear hk hB hz hm;have Ay:Hid (∀ p w,RL w p 4096 []->Calls Tryz.prog 104 #[.pointer (some ⟨p,0,none⟩),iI rx] w (zbt p 4096 ([]++nbL 4 (rx:Int).toNat) w)):=fun p w h=>zbb p rx 4096 _ w h (wx) (by decide) (by decide);have Az:Hid (∀ p w,RL w p 4096 ([]++nbL 4 (rx:Int).toNat)->Calls Tryz.prog 104 #[.pointer (some ⟨p,0,none⟩),iI 1] w (zbt p 4096 (([]++nbL 4 (rx:Int).toNat)++nbL 4 (1:Int).toNat) w)):=fun p w h=>zbb p 1 4096 _ w h (by decide) (by decide) (by simp only [List.length_append,zaf,List.length_nil];omega);have Ba:Hid (∀ p w,RL w p 4096 (([]++nbL 4 (rx:Int).toNat)++nbL 4 (1:Int).toNat)->Calls Tryz.prog 104 #[.pointer (some ⟨p,0,none⟩),iI 1] w (zbt p 4096 ((([]++nbL 4 (rx:Int).toNat)++nbL 4 (1:Int).toNat)++nbL 4 (1:Int).toNat) w)):=fun p w h=>zbb p 1 4096 _ w h (by decide) (by decide) (by simp only [List.length_append,zaf,List.length_nil];omega);have Bb:Hid (∀ p w,RL w p 4096 ((([]++nbL 4 (rx:Int).toNat)++nbL 4 (1:Int).toNat)++nbL 4 (1:Int).toNat)->Calls Tryz.prog 104 #[.pointer (some ⟨p,0,none⟩),iI 1] w (zbt p 4096 (((([]++nbL 4 (rx:Int).toNat)++nbL 4 (1:Int).toNat)++nbL 4 (1:Int).toNat)++nbL 4 (1:Int).toNat) w)):=fun p w h=>zbb p 1 4096 _ w h (by decide) (by decide) (by simp only [List.length_append,zaf,List.length_nil];omega);have Bc:Hid (∀ p w,RL w p 4096 (((([]++nbL 4 (rx:Int).toNat)++nbL 4 (1:Int).toNat)++nbL 4 (1:Int).toNat)++nbL 4 (1:Int).toNat)->Calls Tryz.prog 104 #[.pointer (some ⟨p,0,none⟩),iI rw_] w (zbt p 4096 ((((([]++nbL 4 (rx:Int).toNat)++nbL 4 (1:Int).toNat)++nbL 4 (1:Int).toNat)++nbL 4 (1:Int).toNat)++nbL 4 (rw_:Int).toNat) w)):=fun p w h=>zbb p rw_ 4096 _ w h (ww) (by decide) (by simp only [List.length_append,zaf,List.length_nil];omega);have HY:Hid ((⟨(((((([]++nbL 4 (rx:Int).toNat)++nbL 4 (1:Int).toNat)++nbL 4 (1:Int).toNat)++nbL 4 (1:Int).toNat)++nbL 4 (rw_:Int).toNat):List UInt8).toArray⟩:ByteArray)=⟨(ReplyP.lay ⟨rx,true,nulA,0,0,0,[],1,rw_⟩).toArray⟩):=by
  show _=_;unfold ReplyP.lay;simp [List.append_assoc]
 generalize hLAY:(⟨(ReplyP.lay ⟨rx,true,nulA,0,0,0,[],1,rw_⟩).toArray⟩:ByteArray)=LAY at *;clear hLAY;go_enter Tryz.func67,Tryz.ntmps67
 go_wp2_with fail
 refine (H1.out _).mono ?_;rintro e w1 ⟨rfl,hB1⟩;have Ap:Hid (Below w.heap.size w w1):=HB.out.trans (hB1.mono HB.out.size);have Ao:=hid (HK.out.below hB1 HK.out.lt);have HN:=hid (l_new w1);clear hB1 H1 HK a0 a1 a2 a3 a4 a5 a6 a7 a8 a9;go_wp2_with fail
 refine HN.out.mono ?_;rintro e w2 ⟨rfl,hR2,hB2,hz2⟩;have Aq:Hid (Below w.heap.size w w2):=Ap.out.trans (hB2.mono Ap.out.size);have Aa:=hid (Ao.out.below hB2 Ao.out.lt);have Ai:Hid (w.heap.size<w1.heap.size):=Ao.out.lt;have Ag:=hid hR2;have Aj:Hid (Only w1.heap.size w2 w2):=Only.refl _ _;clear hR2 hB2 hz2 HN;have Ar:=hid (Ay.out _ w2 Ag.out);have b0:=Aa.out.cell 0 rfl;have b1:=Aa.out.cell 1 rfl;have b2:=Aa.out.cell 2 rfl;have b3:=Aa.out.cell 3 rfl;have b4:=Aa.out.cell 4 rfl;have b5:=Aa.out.cell 5 rfl;have b6:=Aa.out.cell 6 rfl;have b7:=Aa.out.cell 7 rfl;have b8:=Aa.out.cell 8 rfl;have b9:=Aa.out.cell 9 rfl;clear Ag;go_wp2_with fail
 refine Ar.out.mono ?_;rintro e v1 ⟨rfl,hR,hO⟩;have Ag:=hid hR;have Ab:=hid (Aa.out.only hO (by have:=Ai.out;omega));have Ak:=hid (Aj.out.trans hO);clear hR hO Ar Aa Aj b0 b1 b2 b3 b4 b5 b6 b7 b8 b9;have Au:=hid (Az.out _ v1 Ag.out);have b0:=Ab.out.cell 0 rfl;have b1:=Ab.out.cell 1 rfl;have b2:=Ab.out.cell 2 rfl;have b3:=Ab.out.cell 3 rfl;have b4:=Ab.out.cell 4 rfl;have b5:=Ab.out.cell 5 rfl;have b6:=Ab.out.cell 6 rfl;have b7:=Ab.out.cell 7 rfl;have b8:=Ab.out.cell 8 rfl;have b9:=Ab.out.cell 9 rfl;clear Ag;go_wp2_with fail
 refine Au.out.mono ?_;rintro e v2 ⟨rfl,hR,hO⟩;have Ag:=hid hR;have Ac:=hid (Ab.out.only hO (by have:=Ai.out;omega));have Al:=hid (Ak.out.trans hO);clear hR hO Au Ab Ak b0 b1 b2 b3 b4 b5 b6 b7 b8 b9;have Av:=hid (Ba.out _ v2 Ag.out);have b0:=Ac.out.cell 0 rfl;have b1:=Ac.out.cell 1 rfl;have b2:=Ac.out.cell 2 rfl;have b3:=Ac.out.cell 3 rfl;have b4:=Ac.out.cell 4 rfl;have b5:=Ac.out.cell 5 rfl;have b6:=Ac.out.cell 6 rfl;have b7:=Ac.out.cell 7 rfl;have b8:=Ac.out.cell 8 rfl;have b9:=Ac.out.cell 9 rfl;clear Ag;go_wp2_with fail
 refine Av.out.mono ?_;rintro e v3 ⟨rfl,hR,hO⟩;have Ag:=hid hR;have Ad:=hid (Ac.out.only hO (by have:=Ai.out;omega));have Am:=hid (Al.out.trans hO);clear hR hO Av Ac Al b0 b1 b2 b3 b4 b5 b6 b7 b8 b9;have Aw:=hid (Bb.out _ v3 Ag.out);have b0:=Ad.out.cell 0 rfl;have b1:=Ad.out.cell 1 rfl;have b2:=Ad.out.cell 2 rfl;have b3:=Ad.out.cell 3 rfl;have b4:=Ad.out.cell 4 rfl;have b5:=Ad.out.cell 5 rfl;have b6:=Ad.out.cell 6 rfl;have b7:=Ad.out.cell 7 rfl;have b8:=Ad.out.cell 8 rfl;have b9:=Ad.out.cell 9 rfl;clear Ag;go_wp2_with fail
 refine Aw.out.mono ?_;rintro e v4 ⟨rfl,hR,hO⟩;have Ag:=hid hR;have Ae:=hid (Ad.out.only hO (by have:=Ai.out;omega));have An:=hid (Am.out.trans hO);clear hR hO Aw Ad Am b0 b1 b2 b3 b4 b5 b6 b7 b8 b9;have Ax:=hid (Bc.out _ v4 Ag.out);have b0:=Ae.out.cell 0 rfl;have b1:=Ae.out.cell 1 rfl;have b2:=Ae.out.cell 2 rfl;have b3:=Ae.out.cell 3 rfl;have b4:=Ae.out.cell 4 rfl;have b5:=Ae.out.cell 5 rfl;have b6:=Ae.out.cell 6 rfl;have b7:=Ae.out.cell 7 rfl;have b8:=Ae.out.cell 8 rfl;have b9:=Ae.out.cell 9 rfl;clear Ag;go_wp2_with fail
 refine Ax.out.mono ?_;rintro e v5 ⟨rfl,hR,hO⟩;have Ag:=hid hR;have Af:=hid (Ae.out.only hO (by have:=Ai.out;omega));have Ah:=hid (An.out.trans hO);clear hR hO Ax Ae An b0 b1 b2 b3 b4 b5 b6 b7 b8 b9;have HD:=hid (l_done _ _ _ v5 Ag.out);have b0:=Af.out.cell 0 rfl;have b1:=Af.out.cell 1 rfl;have b2:=Af.out.cell 2 rfl;have b3:=Af.out.cell 3 rfl;have b4:=Af.out.cell 4 rfl;have b5:=Af.out.cell 5 rfl;have b6:=Af.out.cell 6 rfl;have b7:=Af.out.cell 7 rfl;have b8:=Af.out.cell 8 rfl;have b9:=Af.out.cell 9 rfl;go_wp2_with fail
 refine HD.out.mono ?_;rintro e w9 ⟨rfl,hw9⟩;have hw10:=hw9.symm;clear hw9;subst hw10;have Bd:Hid (Below w.heap.size w v5):=Aq.out.trans ⟨Ah.out.os,Ah.out.tape,Ah.out.output,Ah.out.size,fun k hk=>Ah.out.block k (by have:=Aq.out.size;omega) (by have:=Ai.out;omega)⟩;have hY:=HY.out;clear HY HD Ag;generalize (⟨(((((([]++nbL 4 (rx:Int).toNat)++nbL 4 (1:Int).toNat)++nbL 4 (1:Int).toNat)++nbL 4 (1:Int).toNat)++nbL 4 (rw_:Int).toNat):List UInt8).toArray⟩:ByteArray)=S3 at *;subst hY;go_wp2;refine bodyPost_ret (v:=.tuple #[.string S3,iI 0]) (by simp [results,Tryz.results67,go_sem]) rfl ⟨rfl,Bd.out⟩
theorem dpr_a2 (rx rl rh:Int) (rv:AuthP) (w:World) (hm:ReplyP.may ⟨rx,false,rv,2,rl,rh,[],0,0⟩) (wx:isW rx) (wl:isW rl) (wh:isW rh) (wv:rv.may) :
 Calls Tryz.prog 67 #[.agg #[iI rx,.bool false,iI rv.flavor,.string ⟨rv.body.toArray⟩,iI 2,iI 0,iI 0,iI rl,iI rh,.string ⟨#[]⟩]] w fun e w'=>e=.returned (.tuple #[.string ⟨(ReplyP.lay ⟨rx,false,rv,2,rl,rh,[],0,0⟩).toArray⟩,iI 0])∧Below w.heap.size w w':=by
 have H1:Hid (∀ w,Calls Tryz.prog 107 #[.agg #[iI rx,.bool false,iI rv.flavor,.string ⟨rv.body.toArray⟩,iI 2,iI 0,iI 0,iI rl,iI rh,.string ⟨#[]⟩]] w fun e w'=>e=.returned (.bool true)∧Below w.heap.size w w'):=fun w=>by
  have:=zb8 ⟨rx,false,rv,2,rl,rh,[],0,0⟩ w (zd9 hm)
  rw [decide_eq_true hm] at this;exact this
 obtain ⟨wa,hwa⟩:∃ x,w.alloc (.cells #[iI rx,.bool false,iI rv.flavor,.string ⟨rv.body.toArray⟩,iI 2,iI 0,iI 0,iI rl,iI rh,.string ⟨#[]⟩] 46)=x:=⟨_,rfl⟩;obtain ⟨hk,hB,hz⟩:=boxed w wa _ _ hwa;have HB:=hid hB;have HK:Hid (Bk wa w.heap.size [iI rx,.bool false,iI rv.flavor,.string ⟨rv.body.toArray⟩,iI 2,iI 0,iI 0,iI rl,iI rh,.string ⟨#[]⟩] 46):=hk;have a0:=hk.cell 0 rfl;have a1:=hk.cell 1 rfl;have a2:=hk.cell 2 rfl;have a3:=hk.cell 3 rfl;have a4:=hk.cell 4 rfl;have a5:=hk.cell 5 rfl;have a6:=hk.cell 6 rfl;have a7:=hk.cell 7 rfl;have a8:=hk.cell 8 rfl;have a9:=hk.cell 9 rfl;clear hk hB hz hm;have al:=zfp rv wv;have Be:Hid (∀ p w,RL w p 4096 []->Calls Tryz.prog 104 #[.pointer (some ⟨p,0,none⟩),iI rx] w (zbt p 4096 ([]++nbL 4 (rx:Int).toNat) w)):=fun p w h=>zbb p rx 4096 _ w h (wx) (by decide) (by decide);have Bf:Hid (∀ p w,RL w p 4096 ([]++nbL 4 (rx:Int).toNat)->Calls Tryz.prog 104 #[.pointer (some ⟨p,0,none⟩),iI 1] w (zbt p 4096 (([]++nbL 4 (rx:Int).toNat)++nbL 4 (1:Int).toNat) w)):=fun p w h=>zbb p 1 4096 _ w h (by decide) (by decide) (by simp only [List.length_append,zaf,List.length_nil];omega);have Bg:Hid (∀ p w,RL w p 4096 (([]++nbL 4 (rx:Int).toNat)++nbL 4 (1:Int).toNat)->Calls Tryz.prog 104 #[.pointer (some ⟨p,0,none⟩),iI 0] w (zbt p 4096 ((([]++nbL 4 (rx:Int).toNat)++nbL 4 (1:Int).toNat)++nbL 4 (0:Int).toNat) w)):=fun p w h=>zbb p 0 4096 _ w h (by decide) (by decide) (by simp only [List.length_append,zaf,List.length_nil];omega);have Bh:Hid (∀ p w,RL w p 4096 ((([]++nbL 4 (rx:Int).toNat)++nbL 4 (1:Int).toNat)++nbL 4 (0:Int).toNat)->Calls Tryz.prog 105 #[.pointer (some ⟨p,0,none⟩),.agg #[iI rv.flavor,.string ⟨rv.body.toArray⟩]] w (zbt p 4096 (((([]++nbL 4 (rx:Int).toNat)++nbL 4 (1:Int).toNat)++nbL 4 (0:Int).toNat)++rv.lay) w)):=fun p w h=>zen p rv 4096 _ w h wv (by decide) (by simp only [List.length_append,zaf,List.length_nil];omega);have Bi:Hid (∀ p w,RL w p 4096 (((([]++nbL 4 (rx:Int).toNat)++nbL 4 (1:Int).toNat)++nbL 4 (0:Int).toNat)++rv.lay)->Calls Tryz.prog 104 #[.pointer (some ⟨p,0,none⟩),iI 2] w (zbt p 4096 ((((([]++nbL 4 (rx:Int).toNat)++nbL 4 (1:Int).toNat)++nbL 4 (0:Int).toNat)++rv.lay)++nbL 4 (2:Int).toNat) w)):=fun p w h=>zbb p 2 4096 _ w h (by decide) (by decide) (by simp only [List.length_append,zaf,List.length_nil];omega);have Bj:Hid (∀ p w,RL w p 4096 ((((([]++nbL 4 (rx:Int).toNat)++nbL 4 (1:Int).toNat)++nbL 4 (0:Int).toNat)++rv.lay)++nbL 4 (2:Int).toNat)->Calls Tryz.prog 104 #[.pointer (some ⟨p,0,none⟩),iI rl] w (zbt p 4096 (((((([]++nbL 4 (rx:Int).toNat)++nbL 4 (1:Int).toNat)++nbL 4 (0:Int).toNat)++rv.lay)++nbL 4 (2:Int).toNat)++nbL 4 (rl:Int).toNat) w)):=fun p w h=>zbb p rl 4096 _ w h (wl) (by decide) (by simp only [List.length_append,zaf,List.length_nil];omega)
 have Bl:Hid (∀ p w,RL w p 4096 (((((([]++nbL 4 (rx:Int).toNat)++nbL 4 (1:Int).toNat)++nbL 4 (0:Int).toNat)++rv.lay)++nbL 4 (2:Int).toNat)++nbL 4 (rl:Int).toNat)->Calls Tryz.prog 104 #[.pointer (some ⟨p,0,none⟩),iI rh] w (zbt p 4096 ((((((([]++nbL 4 (rx:Int).toNat)++nbL 4 (1:Int).toNat)++nbL 4 (0:Int).toNat)++rv.lay)++nbL 4 (2:Int).toNat)++nbL 4 (rl:Int).toNat)++nbL 4 (rh:Int).toNat) w)):=fun p w h=>zbb p rh 4096 _ w h (wh) (by decide) (by simp only [List.length_append,zaf,List.length_nil];omega);have HY:Hid ((⟨(((((((([]++nbL 4 (rx:Int).toNat)++nbL 4 (1:Int).toNat)++nbL 4 (0:Int).toNat)++rv.lay)++nbL 4 (2:Int).toNat)++nbL 4 (rl:Int).toNat)++nbL 4 (rh:Int).toNat):List UInt8).toArray⟩:ByteArray)++⟨#[]⟩=⟨(ReplyP.lay ⟨rx,false,rv,2,rl,rh,[],0,0⟩).toArray⟩):=by
  show (⟨(((((((([]++nbL 4 (rx:Int).toNat)++nbL 4 (1:Int).toNat)++nbL 4 (0:Int).toNat)++rv.lay)++nbL 4 (2:Int).toNat)++nbL 4 (rl:Int).toNat)++nbL 4 (rh:Int).toNat):List UInt8).toArray⟩:ByteArray)++⟨([]:List UInt8).toArray⟩=_;rw [bapp];unfold ReplyP.lay;simp [List.append_assoc]
 have s1:(⟨(((((((([]++nbL 4 (rx:Int).toNat)++nbL 4 (1:Int).toNat)++nbL 4 (0:Int).toNat)++rv.lay)++nbL 4 (2:Int).toNat)++nbL 4 (rl:Int).toNat)++nbL 4 (rh:Int).toNat):List UInt8).toArray⟩:ByteArray).size<=2000:=by
  rw [zar];simp only [List.length_append,zaf,List.length_nil];omega
 generalize hLAY:(⟨(ReplyP.lay ⟨rx,false,rv,2,rl,rh,[],0,0⟩).toArray⟩:ByteArray)=LAY at *;clear hLAY;go_enter Tryz.func67,Tryz.ntmps67
 go_wp2_with fail
 refine (H1.out _).mono ?_;rintro e w1 ⟨rfl,hB1⟩;have Av:Hid (Below w.heap.size w w1):=HB.out.trans (hB1.mono HB.out.size);have Au:=hid (HK.out.below hB1 HK.out.lt);have HN:=hid (l_new w1);clear hB1 H1 HK a0 a1 a2 a3 a4 a5 a6 a7 a8 a9;go_wp2_with fail
 refine HN.out.mono ?_;rintro e w2 ⟨rfl,hR2,hB2,hz2⟩;have Aw:Hid (Below w.heap.size w w2):=Av.out.trans (hB2.mono Av.out.size);have Aa:=hid (Au.out.below hB2 Au.out.lt);have Ak:Hid (w.heap.size<w1.heap.size):=Au.out.lt;have Ah:=hid hR2;have Al:Hid (Only w1.heap.size w2 w2):=Only.refl _ _;clear hR2 hB2 hz2 HN;have Ax:=hid (Be.out _ w2 Ah.out);have b0:=Aa.out.cell 0 rfl;have b1:=Aa.out.cell 1 rfl;have b2:=Aa.out.cell 2 rfl;have b3:=Aa.out.cell 3 rfl;have b4:=Aa.out.cell 4 rfl;have b5:=Aa.out.cell 5 rfl;have b6:=Aa.out.cell 6 rfl;have b7:=Aa.out.cell 7 rfl;have b8:=Aa.out.cell 8 rfl;have b9:=Aa.out.cell 9 rfl;clear Ah;go_wp2_with fail
 refine Ax.out.mono ?_;rintro e v1 ⟨rfl,hR,hO⟩;have Ah:=hid hR;have Ab:=hid (Aa.out.only hO (by have:=Ak.out;omega));have Am:=hid (Al.out.trans hO);clear hR hO Ax Aa Al b0 b1 b2 b3 b4 b5 b6 b7 b8 b9;have Ay:=hid (Bf.out _ v1 Ah.out);have b0:=Ab.out.cell 0 rfl;have b1:=Ab.out.cell 1 rfl;have b2:=Ab.out.cell 2 rfl;have b3:=Ab.out.cell 3 rfl;have b4:=Ab.out.cell 4 rfl;have b5:=Ab.out.cell 5 rfl;have b6:=Ab.out.cell 6 rfl;have b7:=Ab.out.cell 7 rfl;have b8:=Ab.out.cell 8 rfl;have b9:=Ab.out.cell 9 rfl;clear Ah;go_wp2_with fail
 refine Ay.out.mono ?_;rintro e v2 ⟨rfl,hR,hO⟩;have Ah:=hid hR;have Ac:=hid (Ab.out.only hO (by have:=Ak.out;omega));have An:=hid (Am.out.trans hO);clear hR hO Ay Ab Am b0 b1 b2 b3 b4 b5 b6 b7 b8 b9;have Az:=hid (Bg.out _ v2 Ah.out);have b0:=Ac.out.cell 0 rfl;have b1:=Ac.out.cell 1 rfl;have b2:=Ac.out.cell 2 rfl;have b3:=Ac.out.cell 3 rfl;have b4:=Ac.out.cell 4 rfl;have b5:=Ac.out.cell 5 rfl;have b6:=Ac.out.cell 6 rfl;have b7:=Ac.out.cell 7 rfl;have b8:=Ac.out.cell 8 rfl;have b9:=Ac.out.cell 9 rfl;clear Ah;go_wp2_with fail
 refine Az.out.mono ?_;rintro e v3 ⟨rfl,hR,hO⟩;have Ah:=hid hR;have Ad:=hid (Ac.out.only hO (by have:=Ak.out;omega));have Ao:=hid (An.out.trans hO);clear hR hO Az Ac An b0 b1 b2 b3 b4 b5 b6 b7 b8 b9;have Ba:=hid (Bh.out _ v3 Ah.out);have b0:=Ad.out.cell 0 rfl;have b1:=Ad.out.cell 1 rfl;have b2:=Ad.out.cell 2 rfl;have b3:=Ad.out.cell 3 rfl;have b4:=Ad.out.cell 4 rfl;have b5:=Ad.out.cell 5 rfl;have b6:=Ad.out.cell 6 rfl;have b7:=Ad.out.cell 7 rfl;have b8:=Ad.out.cell 8 rfl;have b9:=Ad.out.cell 9 rfl;clear Ah;go_wp2_with fail
 refine Ba.out.mono ?_;rintro e v4 ⟨rfl,hR,hO⟩;have Ah:=hid hR;have Ae:=hid (Ad.out.only hO (by have:=Ak.out;omega));have Ap:=hid (Ao.out.trans hO);clear hR hO Ba Ad Ao b0 b1 b2 b3 b4 b5 b6 b7 b8 b9;have Bb:=hid (Bi.out _ v4 Ah.out);have b0:=Ae.out.cell 0 rfl;have b1:=Ae.out.cell 1 rfl;have b2:=Ae.out.cell 2 rfl;have b3:=Ae.out.cell 3 rfl;have b4:=Ae.out.cell 4 rfl;have b5:=Ae.out.cell 5 rfl;have b6:=Ae.out.cell 6 rfl;have b7:=Ae.out.cell 7 rfl;have b8:=Ae.out.cell 8 rfl;have b9:=Ae.out.cell 9 rfl;clear Ah;go_wp2_with fail
 refine Bb.out.mono ?_;rintro e v5 ⟨rfl,hR,hO⟩;have Ah:=hid hR;have Af:=hid (Ae.out.only hO (by have:=Ak.out;omega));have Aq:=hid (Ap.out.trans hO);clear hR hO Bb Ae Ap b0 b1 b2 b3 b4 b5 b6 b7 b8 b9;have Bc:=hid (Bj.out _ v5 Ah.out);have b0:=Af.out.cell 0 rfl;have b1:=Af.out.cell 1 rfl;have b2:=Af.out.cell 2 rfl;have b3:=Af.out.cell 3 rfl;have b4:=Af.out.cell 4 rfl;have b5:=Af.out.cell 5 rfl;have b6:=Af.out.cell 6 rfl;have b7:=Af.out.cell 7 rfl;have b8:=Af.out.cell 8 rfl;have b9:=Af.out.cell 9 rfl;clear Ah;go_wp2_with fail
 refine Bc.out.mono ?_;rintro e v6 ⟨rfl,hR,hO⟩;have Ah:=hid hR;have Ag:=hid (Af.out.only hO (by have:=Ak.out;omega));have Ar:=hid (Aq.out.trans hO);clear hR hO Bc Af Aq b0 b1 b2 b3 b4 b5 b6 b7 b8 b9;have Bd:=hid (Bl.out _ v6 Ah.out);have b0:=Ag.out.cell 0 rfl;have b1:=Ag.out.cell 1 rfl;have b2:=Ag.out.cell 2 rfl;have b3:=Ag.out.cell 3 rfl;have b4:=Ag.out.cell 4 rfl;have b5:=Ag.out.cell 5 rfl;have b6:=Ag.out.cell 6 rfl;have b7:=Ag.out.cell 7 rfl;have b8:=Ag.out.cell 8 rfl;have b9:=Ag.out.cell 9 rfl;clear Ah;go_wp2_with fail
 refine Bd.out.mono ?_;rintro e v7 ⟨rfl,hR,hO⟩;have Ah:=hid hR;have Ai:=hid (Ag.out.only hO (by have:=Ak.out;omega));have Aj:=hid (Ar.out.trans hO);clear hR hO Bd Ag Ar b0 b1 b2 b3 b4 b5 b6 b7 b8 b9;have HD:=hid (l_done _ _ _ v7 Ah.out);have b0:=Ai.out.cell 0 rfl;have b1:=Ai.out.cell 1 rfl;have b2:=Ai.out.cell 2 rfl;have b3:=Ai.out.cell 3 rfl;have b4:=Ai.out.cell 4 rfl;have b5:=Ai.out.cell 5 rfl;have b6:=Ai.out.cell 6 rfl;have b7:=Ai.out.cell 7 rfl;have b8:=Ai.out.cell 8 rfl;have b9:=Ai.out.cell 9 rfl;go_wp2_with fail
 refine HD.out.mono ?_;rintro e w9 ⟨rfl,hw9⟩;have hw10:=hw9.symm;clear hw9;subst hw10;have Bm:Hid (Below w.heap.size w v7):=Aw.out.trans ⟨Aj.out.os,Aj.out.tape,Aj.out.output,Aj.out.size,fun k hk=>Aj.out.block k (by have:=Aw.out.size;omega) (by have:=Ak.out;omega)⟩;have hY:=HY.out;clear HY HD Ah;generalize (⟨(((((((([]++nbL 4 (rx:Int).toNat)++nbL 4 (1:Int).toNat)++nbL 4 (0:Int).toNat)++rv.lay)++nbL 4 (2:Int).toNat)++nbL 4 (rl:Int).toNat)++nbL 4 (rh:Int).toNat):List UInt8).toArray⟩:ByteArray)=S3 at *;go_wp2;refine bodyPost_ret (v:=.tuple #[.string LAY,iI 0]) (by simp [results,Tryz.results67,go_sem]) rfl ⟨rfl,Bm.out⟩
theorem dpr_an (rx ra:Int) (rv:AuthP) (rr:List UInt8) (w:World) (hm:ReplyP.may ⟨rx,false,rv,ra,0,0,rr,0,0⟩) (wx:isW rx) (wa_:isW ra) (wv:rv.may) (wr:rr.length<=1000) (hn:ra≠2) :
 Calls Tryz.prog 67 #[.agg #[iI rx,.bool false,iI rv.flavor,.string ⟨rv.body.toArray⟩,iI ra,iI 0,iI 0,iI 0,iI 0,.string ⟨rr.toArray⟩]] w fun e w'=>e=.returned (.tuple #[.string ⟨(ReplyP.lay ⟨rx,false,rv,ra,0,0,rr,0,0⟩).toArray⟩,iI 0])∧Below w.heap.size w w':=by
 have H1:Hid (∀ w,Calls Tryz.prog 107 #[.agg #[iI rx,.bool false,iI rv.flavor,.string ⟨rv.body.toArray⟩,iI ra,iI 0,iI 0,iI 0,iI 0,.string ⟨rr.toArray⟩]] w fun e w'=>e=.returned (.bool true)∧Below w.heap.size w w'):=fun w=>by
  have:=zb8 ⟨rx,false,rv,ra,0,0,rr,0,0⟩ w (zd9 hm)
  rw [decide_eq_true hm] at this;exact this
 obtain ⟨wa,hwa⟩:∃ x,w.alloc (.cells #[iI rx,.bool false,iI rv.flavor,.string ⟨rv.body.toArray⟩,iI ra,iI 0,iI 0,iI 0,iI 0,.string ⟨rr.toArray⟩] 46)=x:=⟨_,rfl⟩;obtain ⟨hk,hB,hz⟩:=boxed w wa _ _ hwa;have HB:=hid hB;have HK:Hid (Bk wa w.heap.size [iI rx,.bool false,iI rv.flavor,.string ⟨rv.body.toArray⟩,iI ra,iI 0,iI 0,iI 0,iI 0,.string ⟨rr.toArray⟩] 46):=hk;have a0:=hk.cell 0 rfl;have a1:=hk.cell 1 rfl;have a2:=hk.cell 2 rfl;have a3:=hk.cell 3 rfl;have a4:=hk.cell 4 rfl;have a5:=hk.cell 5 rfl;have a6:=hk.cell 6 rfl;have a7:=hk.cell 7 rfl;have a8:=hk.cell 8 rfl;have a9:=hk.cell 9 rfl;clear hk hB hz hm;have hn2:(ra==2)=false:=beq_eq_false_iff_ne.2 hn;have al:=zfp rv wv;have Ay:Hid (∀ p w,RL w p 4096 []->Calls Tryz.prog 104 #[.pointer (some ⟨p,0,none⟩),iI rx] w (zbt p 4096 ([]++nbL 4 (rx:Int).toNat) w)):=fun p w h=>zbb p rx 4096 _ w h (wx) (by decide) (by decide);have Az:Hid (∀ p w,RL w p 4096 ([]++nbL 4 (rx:Int).toNat)->Calls Tryz.prog 104 #[.pointer (some ⟨p,0,none⟩),iI 1] w (zbt p 4096 (([]++nbL 4 (rx:Int).toNat)++nbL 4 (1:Int).toNat) w)):=fun p w h=>zbb p 1 4096 _ w h (by decide) (by decide) (by simp only [List.length_append,zaf,List.length_nil];omega);have Ba:Hid (∀ p w,RL w p 4096 (([]++nbL 4 (rx:Int).toNat)++nbL 4 (1:Int).toNat)->Calls Tryz.prog 104 #[.pointer (some ⟨p,0,none⟩),iI 0] w (zbt p 4096 ((([]++nbL 4 (rx:Int).toNat)++nbL 4 (1:Int).toNat)++nbL 4 (0:Int).toNat) w)):=fun p w h=>zbb p 0 4096 _ w h (by decide) (by decide) (by simp only [List.length_append,zaf,List.length_nil];omega);have Bb:Hid (∀ p w,RL w p 4096 ((([]++nbL 4 (rx:Int).toNat)++nbL 4 (1:Int).toNat)++nbL 4 (0:Int).toNat)->Calls Tryz.prog 105 #[.pointer (some ⟨p,0,none⟩),.agg #[iI rv.flavor,.string ⟨rv.body.toArray⟩]] w (zbt p 4096 (((([]++nbL 4 (rx:Int).toNat)++nbL 4 (1:Int).toNat)++nbL 4 (0:Int).toNat)++rv.lay) w)):=fun p w h=>zen p rv 4096 _ w h wv (by decide) (by simp only [List.length_append,zaf,List.length_nil];omega);have Bc:Hid (∀ p w,RL w p 4096 (((([]++nbL 4 (rx:Int).toNat)++nbL 4 (1:Int).toNat)++nbL 4 (0:Int).toNat)++rv.lay)->Calls Tryz.prog 104 #[.pointer (some ⟨p,0,none⟩),iI ra] w (zbt p 4096 ((((([]++nbL 4 (rx:Int).toNat)++nbL 4 (1:Int).toNat)++nbL 4 (0:Int).toNat)++rv.lay)++nbL 4 (ra:Int).toNat) w)):=fun p w h=>zbb p ra 4096 _ w h (wa_) (by decide) (by simp only [List.length_append,zaf,List.length_nil];omega);have HY:Hid ((⟨(((((([]++nbL 4 (rx:Int).toNat)++nbL 4 (1:Int).toNat)++nbL 4 (0:Int).toNat)++rv.lay)++nbL 4 (ra:Int).toNat):List UInt8).toArray⟩:ByteArray)++⟨rr.toArray⟩=⟨(ReplyP.lay ⟨rx,false,rv,ra,0,0,rr,0,0⟩).toArray⟩):=by
  show (⟨(((((([]++nbL 4 (rx:Int).toNat)++nbL 4 (1:Int).toNat)++nbL 4 (0:Int).toNat)++rv.lay)++nbL 4 (ra:Int).toNat):List UInt8).toArray⟩:ByteArray)++⟨(rr:List UInt8).toArray⟩=_;rw [bapp];unfold ReplyP.lay;simp [List.append_assoc,hn]
 have s1:(⟨(((((([]++nbL 4 (rx:Int).toNat)++nbL 4 (1:Int).toNat)++nbL 4 (0:Int).toNat)++rv.lay)++nbL 4 (ra:Int).toNat):List UInt8).toArray⟩:ByteArray).size<=2000:=by
  rw [zar];simp only [List.length_append,zaf,List.length_nil];omega
 have s2:(⟨rr.toArray⟩:ByteArray).size<=1000:=by rw [zar];exact wr
 generalize hLAY:(⟨(ReplyP.lay ⟨rx,false,rv,ra,0,0,rr,0,0⟩).toArray⟩:ByteArray)=LAY at *;clear hLAY;go_enter Tryz.func67,Tryz.ntmps67
 go_wp2_with fail
 refine (H1.out _).mono ?_;rintro e w1 ⟨rfl,hB1⟩;have Ap:Hid (Below w.heap.size w w1):=HB.out.trans (hB1.mono HB.out.size);have Ao:=hid (HK.out.below hB1 HK.out.lt);have HN:=hid (l_new w1);clear hB1 H1 HK a0 a1 a2 a3 a4 a5 a6 a7 a8 a9;go_wp2_with fail
 refine HN.out.mono ?_;rintro e w2 ⟨rfl,hR2,hB2,hz2⟩;have Aq:Hid (Below w.heap.size w w2):=Ap.out.trans (hB2.mono Ap.out.size);have Aa:=hid (Ao.out.below hB2 Ao.out.lt);have Ai:Hid (w.heap.size<w1.heap.size):=Ao.out.lt;have Ag:=hid hR2;have Aj:Hid (Only w1.heap.size w2 w2):=Only.refl _ _;clear hR2 hB2 hz2 HN;have Ar:=hid (Ay.out _ w2 Ag.out);have b0:=Aa.out.cell 0 rfl;have b1:=Aa.out.cell 1 rfl;have b2:=Aa.out.cell 2 rfl;have b3:=Aa.out.cell 3 rfl;have b4:=Aa.out.cell 4 rfl;have b5:=Aa.out.cell 5 rfl;have b6:=Aa.out.cell 6 rfl;have b7:=Aa.out.cell 7 rfl;have b8:=Aa.out.cell 8 rfl;have b9:=Aa.out.cell 9 rfl;clear Ag;go_wp2_with fail
 refine Ar.out.mono ?_;rintro e v1 ⟨rfl,hR,hO⟩;have Ag:=hid hR;have Ab:=hid (Aa.out.only hO (by have:=Ai.out;omega));have Ak:=hid (Aj.out.trans hO);clear hR hO Ar Aa Aj b0 b1 b2 b3 b4 b5 b6 b7 b8 b9;have Au:=hid (Az.out _ v1 Ag.out);have b0:=Ab.out.cell 0 rfl;have b1:=Ab.out.cell 1 rfl;have b2:=Ab.out.cell 2 rfl;have b3:=Ab.out.cell 3 rfl;have b4:=Ab.out.cell 4 rfl;have b5:=Ab.out.cell 5 rfl;have b6:=Ab.out.cell 6 rfl;have b7:=Ab.out.cell 7 rfl;have b8:=Ab.out.cell 8 rfl;have b9:=Ab.out.cell 9 rfl;clear Ag;go_wp2_with fail
 refine Au.out.mono ?_;rintro e v2 ⟨rfl,hR,hO⟩;have Ag:=hid hR;have Ac:=hid (Ab.out.only hO (by have:=Ai.out;omega));have Al:=hid (Ak.out.trans hO);clear hR hO Au Ab Ak b0 b1 b2 b3 b4 b5 b6 b7 b8 b9;have Av:=hid (Ba.out _ v2 Ag.out);have b0:=Ac.out.cell 0 rfl;have b1:=Ac.out.cell 1 rfl;have b2:=Ac.out.cell 2 rfl;have b3:=Ac.out.cell 3 rfl;have b4:=Ac.out.cell 4 rfl;have b5:=Ac.out.cell 5 rfl;have b6:=Ac.out.cell 6 rfl;have b7:=Ac.out.cell 7 rfl;have b8:=Ac.out.cell 8 rfl;have b9:=Ac.out.cell 9 rfl;clear Ag;go_wp2_with fail
 refine Av.out.mono ?_;rintro e v3 ⟨rfl,hR,hO⟩;have Ag:=hid hR;have Ad:=hid (Ac.out.only hO (by have:=Ai.out;omega));have Am:=hid (Al.out.trans hO);clear hR hO Av Ac Al b0 b1 b2 b3 b4 b5 b6 b7 b8 b9;have Aw:=hid (Bb.out _ v3 Ag.out);have b0:=Ad.out.cell 0 rfl;have b1:=Ad.out.cell 1 rfl;have b2:=Ad.out.cell 2 rfl;have b3:=Ad.out.cell 3 rfl;have b4:=Ad.out.cell 4 rfl;have b5:=Ad.out.cell 5 rfl;have b6:=Ad.out.cell 6 rfl;have b7:=Ad.out.cell 7 rfl;have b8:=Ad.out.cell 8 rfl;have b9:=Ad.out.cell 9 rfl;clear Ag;go_wp2_with fail
 refine Aw.out.mono ?_;rintro e v4 ⟨rfl,hR,hO⟩;have Ag:=hid hR;have Ae:=hid (Ad.out.only hO (by have:=Ai.out;omega));have An:=hid (Am.out.trans hO);clear hR hO Aw Ad Am b0 b1 b2 b3 b4 b5 b6 b7 b8 b9;have Ax:=hid (Bc.out _ v4 Ag.out);have b0:=Ae.out.cell 0 rfl;have b1:=Ae.out.cell 1 rfl;have b2:=Ae.out.cell 2 rfl;have b3:=Ae.out.cell 3 rfl;have b4:=Ae.out.cell 4 rfl;have b5:=Ae.out.cell 5 rfl;have b6:=Ae.out.cell 6 rfl;have b7:=Ae.out.cell 7 rfl;have b8:=Ae.out.cell 8 rfl;have b9:=Ae.out.cell 9 rfl;clear Ag;go_wp2_with fail
 refine Ax.out.mono ?_;rintro e v5 ⟨rfl,hR,hO⟩;have Ag:=hid hR;have Af:=hid (Ae.out.only hO (by have:=Ai.out;omega));have Ah:=hid (An.out.trans hO);clear hR hO Ax Ae An b0 b1 b2 b3 b4 b5 b6 b7 b8 b9;have HD:=hid (l_done _ _ _ v5 Ag.out);have b0:=Af.out.cell 0 rfl;have b1:=Af.out.cell 1 rfl;have b2:=Af.out.cell 2 rfl;have b3:=Af.out.cell 3 rfl;have b4:=Af.out.cell 4 rfl;have b5:=Af.out.cell 5 rfl;have b6:=Af.out.cell 6 rfl;have b7:=Af.out.cell 7 rfl;have b8:=Af.out.cell 8 rfl;have b9:=Af.out.cell 9 rfl;go_wp2_with fail
 refine HD.out.mono ?_;rintro e w9 ⟨rfl,hw9⟩;have hw10:=hw9.symm;clear hw9;subst hw10;have Bd:Hid (Below w.heap.size w v5):=Aq.out.trans ⟨Ah.out.os,Ah.out.tape,Ah.out.output,Ah.out.size,fun k hk=>Ah.out.block k (by have:=Aq.out.size;omega) (by have:=Ai.out;omega)⟩;have hY:=HY.out;clear HY HD Ag;generalize (⟨(((((([]++nbL 4 (rx:Int).toNat)++nbL 4 (1:Int).toNat)++nbL 4 (0:Int).toNat)++rv.lay)++nbL 4 (ra:Int).toNat):List UInt8).toArray⟩:ByteArray)=S3 at *;generalize (⟨rr.toArray⟩:ByteArray)=AR at *;go_wp2;refine bodyPost_ret (v:=.tuple #[.string LAY,iI 0]) (by simp [results,Tryz.results67,go_sem]) rfl ⟨rfl,Bd.out⟩
theorem zgb (r:ReplyP) (w:World) (hm:¬ r.may) (hl:r.results.length<=140737488355328) :
 Calls Tryz.prog 67 #[.agg (zam r).toArray] w fun e w'=>e=.returned (.tuple #[.string ⟨#[]⟩,iI 120])∧Below w.heap.size w w':=by
 have H1:=hid (fun w=>zb8 r w hl);rw [decide_eq_false hm] at H1;simp only [zam] at H1 ⊢;obtain ⟨wa,hwa⟩:∃ x,w.alloc (.cells #[iI r.xid,.bool r.denied,iI r.verf.flavor,.string ⟨r.verf.body.toArray⟩,iI r.accept,iI r.reject,iI r.why,iI r.low,iI r.high,.string ⟨r.results.toArray⟩] 46)=x:=⟨_,rfl⟩;obtain ⟨hk,hB,hz⟩:=boxed w wa _ _ hwa;have HB:=hid hB;have a0:=hk.cell 0 rfl;have a1:=hk.cell 1 rfl;have a2:=hk.cell 2 rfl;have a3:=hk.cell 3 rfl;have a4:=hk.cell 4 rfl;have a5:=hk.cell 5 rfl;have a6:=hk.cell 6 rfl;have a7:=hk.cell 7 rfl;have a8:=hk.cell 8 rfl;have a9:=hk.cell 9 rfl;clear hk hB hz hm hl;go_enter Tryz.func67,Tryz.ntmps67
 go_wp2_with fail
 refine (H1.out _).mono ?_;rintro e w1 ⟨rfl,hB1⟩;have Aa:Hid (Below w.heap.size w w1):=HB.out.trans (hB1.mono HB.out.size);clear hB1;go_wp2;refine bodyPost_ret (v:=.tuple #[.string ⟨#[]⟩,iI 120]) (by simp [results,Tryz.results67,go_sem]) rfl ⟨rfl,Aa.out⟩
theorem zbn (r:ReplyP) (w:World) (hl:r.results.length<=140737488355328) :
 Calls Tryz.prog 67 #[.agg (zam r).toArray] w fun e w'=>e=.returned (.tuple #[.string ⟨(prP r).1.toArray⟩,iI (prP r).2])∧Below w.heap.size w w':=by
 unfold prP prM;by_cases hm:r.may
 · rw [if_pos hm];obtain ⟨rx,rd,rv,ra,rl,rh,rr,rj,rw_⟩:=r;have hm0:=hm;obtain ⟨h1,h2⟩:=hm;cases rd
   · simp only [Bool.false_eq_true,if_false] at h2;obtain ⟨hv,rfl,rfl,ha0,ha5,h7⟩:=h2;rcases h7 with ⟨rfl,a1,rfl,rfl⟩|⟨rfl,a1,a2,rfl⟩|⟨a0,a1,rfl,rfl,rfl⟩
     · exact dpr_an rx 0 rv rr w hm0 h1 (by decide) hv a1.1 (by decide)
     · exact dpr_a2 rx rl rh rv w hm0 h1 a1 a2 hv
     · exact dpr_an rx ra rv [] w hm0 h1 ⟨ha0,by omega⟩ hv (Nat.zero_le _) a1
   · simp only [if_true] at h2;obtain ⟨rfl,rfl,rfl,h5⟩:=h2;rcases h5 with ⟨rfl,a1,a2,rfl⟩|⟨rfl,rfl,rfl,a3,a4⟩
     · exact dpr_d0 rx rl rh w hm0 h1 a1 a2
     · exact dpr_d1 rx rw_ w hm0 h1 ⟨a3,by omega⟩
 · rw [if_neg hm];exact zgb r w hm hl
theorem drest_A (p:Nat) (E:Int) (w:World) (hE:(E != 0)=true) (h1:w.cell? ⟨p,1,none⟩=some (iI E)) :
 Calls Tryz.prog 150 #[.pointer (some ⟨p,0,none⟩)] w fun e w'=>e=.returned (.string ⟨#[]⟩)∧w'=w:=by
 go_enter Tryz.func150,Tryz.ntmps150
 go_wp2;go_ret;exact ⟨rfl,rfl⟩
theorem drest_B {Q:World->Prop} (p:Nat) (s t:ByteArray) (w:World) (h0:w.cell? ⟨p,0,none⟩=some (.string s)) (h1:w.cell? ⟨p,1,none⟩=some (iI 0)) (HK:Hid (Calls Tryz.prog 171 #[.pointer (some ⟨p,0,none⟩),iI s.size] w fun e w'=>e=.returned (.string t)∧Q w')) :
 Calls Tryz.prog 150 #[.pointer (some ⟨p,0,none⟩)] w fun e w'=>e=.returned (.string t)∧Q w':=by
 go_enter Tryz.func150,Tryz.ntmps150
 go_wp2_with fail
 refine HK.out.mono ?_;rintro e w9 ⟨rfl,hQ⟩;have HQ:Hid (Q w9):=hQ;clear hQ;go_wp2;go_ret;exact ⟨rfl,HQ.out⟩
theorem drest_any (p:Nat) (l:List UInt8) (E:Int) (w:World) (h:DR w p l E):Calls Tryz.prog 150 #[.pointer (some ⟨p,0,none⟩)] w (zdq p l E [] zbv (fun s=>Bs s) w):=by
 by_cases hE:E=0
 · subst hE;refine (drest_B p _ _ w h.l h.e (by rw [za4];exact zfr p l.length l 0 w h (Nat.le_refl _))).mono ?_;rw [List.take_length];exact fun e w' hp=>zdq.good (k:=l.length) (x:=l) rfl hp
 · refine (drest_A p E w (bne_iff_ne.2 hE) h.e).mono ?_;rintro e w' ⟨rfl,rfl⟩;exact zdq.bad (F:=E) (by rw [if_neg hE]) hE ⟨rfl,h,Sole.refl _ _⟩
theorem dread_any (p:Nat) (st:Rs) (w:World) (h:DR w p st.l st.e) :
 Calls Tryz.prog 149 #[.pointer (some ⟨p,0,none⟩)] w fun e w'=>e=.returned (.agg #[iI (za7 st).1.flavor,.string ⟨(za7 st).1.body.toArray⟩])∧DR w' p (za7 st).2.l (za7 st).2.e∧Sole p w w':=by
 obtain ⟨wa,hwa⟩:∃ x,w.alloc (.cells #[iI 0,.string ⟨#[]⟩] 44)=x:=⟨_,rfl⟩;obtain ⟨hk,hB,hz⟩:=boxed w wa _ _ hwa;have hp:=h.lt;have H1:=hid (duint_any p st.l st.e wa (h.below hB));have H2:Hid (∀ w1,DR w1 p (st.go 0 zad).2.l (st.go 0 zad).2.e->Calls Tryz.prog 173 #[.pointer (some ⟨p,0,none⟩),iI 400] w1 (zdq p (st.go 0 zad).2.l (st.go 0 zad).2.e [] (zao 400) (fun s=>Bs s) w1)):=fun w1 h1=>dopaque_any p 400 _ _ w1 h1;have HK:Hid (Bk wa w.heap.size [iI 0,.string ⟨#[]⟩] 44∧w.heap.size≠p∧Sole p w wa):=⟨hk,by omega,Sole.of_below hB⟩;have HD:Hid (za7 st=(⟨(st.go 0 zad).1,((st.go 0 zad).2.go [] (zao 400)).1⟩,((st.go 0 zad).2.go [] (zao 400)).2)):=rfl;rw [HD.out];clear hk hB hz hp h HD;go_enter Tryz.func149,Tryz.ntmps149
 go_wp2_with fail
 refine H1.out.mono ?_;rintro e w1 ⟨rfl,h1,hS1⟩;have H3:=hid (H2.out w1 h1);have Ac:=hid hS1;clear h1 hS1 H1 H2;go_wp2_with fail
 refine H3.out.mono ?_;rintro e w2 ⟨rfl,h2,hS2⟩;have Aa:=hid h2;have Ab:Hid (Sole p wa w2):=Ac.out.trans hS2;have hk2:=HK.out.1.sole Ab.out HK.out.2.1;have k0:=hk2.cell 0 rfl;have k1:=hk2.cell 1 rfl;have f0:=hk2.frozen 0;have f1:=hk2.frozen 1;have HZ:=(hk2.set 0 (iI ((st.go 0 zad).1:Int))).set 1 (.string ⟨((st.go 0 zad).2.go [] (zao 400)).1.toArray⟩);have q0:=HZ.cell 0 rfl;have q1:=HZ.cell 1 rfl;have HE:Hid (DR ((w2.setCell ⟨w.heap.size,0,none⟩ (iI ((st.go 0 zad).1:Int))).setCell ⟨w.heap.size,1,none⟩ (.string ⟨((st.go 0 zad).2.go [] (zao 400)).1.toArray⟩)) p ((st.go 0 zad).2.go [] (zao 400)).2.l ((st.go 0 zad).2.go [] (zao 400)).2.e∧Sole p w ((w2.setCell ⟨w.heap.size,0,none⟩ (iI ((st.go 0 zad).1:Int))).setCell ⟨w.heap.size,1,none⟩ (.string ⟨((st.go 0 zad).2.go [] (zao 400)).1.toArray⟩))):=by
  have hb:∀ k,k≠w.heap.size->((w2.setCell ⟨w.heap.size,0,none⟩ (iI ((st.go 0 zad).1:Int))).setCell ⟨w.heap.size,1,none⟩ (.string ⟨((st.go 0 zad).2.go [] (zao 400)).1.toArray⟩)).heap[k]?=w2.heap[k]?:=fun k hk=>by
   rw [Below.heap_setCell _ _ _ k hk,Below.heap_setCell _ _ _ k hk]
  have hs:=HK.out.2.2.trans Ab.out;refine ⟨?_,hs.os,hs.tape,hs.output,by simpa [World.setCell] using hs.size,fun k hk hne=>(hb k (by omega)).trans (hs.block k hk hne)⟩;have e:=hb p (fun e=>HK.out.2.1 e.symm);exact ⟨(zaj e 0).1.trans Aa.out.l,(zaj e 1).1.trans Aa.out.e,(zaj e 0).2.trans Aa.out.f0,(zaj e 1).2.trans Aa.out.f1⟩
 clear h2 hS2 hk2 HZ H3;unfold Bs;go_wp2;refine bodyPost_ret (v:=.agg #[iI ((st.go 0 zad).1:Int),.string ⟨((st.go 0 zad).2.go [] (zao 400)).1.toArray⟩]) (by simp [results,Tryz.results149,go_sem,q0,q1]) rfl ⟨rfl,HE.out⟩
theorem rest_all {st:Rs} (h:st.e=0):(st.go [] zbv).1=st.l:=by
 unfold Rs.go zbv;rw [if_neg (by simp [h])];simp
structure DT (w0 w:World) (n:Nat) (st:Rs) (cs zs:List Value) (t:TypeId):Prop where
 r:DR w (n+1) st.l st.e
 k:Bk w (n+1+1) cs t
 z:Bk w n zs t
 low:Below n w0 w
theorem DT.call {w0 w w' : World} {n:Nat} {st st' : Rs} {cs zs:List Value} {t:TypeId} (h:DT w0 w n st cs zs t) (hr:DR w' (n+1) st'.l st'.e) (hS:Sole (n+1) w w'):DT w0 w' n st' cs zs t :=
 ⟨hr,h.k.sole hS (by omega),h.z.sole hS (by omega),h.low.trans (hS.belowB (by omega) (by have:=h.z.lt;omega))⟩
theorem DT.set {w0 w:World} {n:Nat} {st:Rs} {cs zs:List Value} {t:TypeId} (h:DT w0 w n st cs zs t) (i:Nat) (v:Value):DT w0 (w.setCell ⟨n+1+1,i,none⟩ v) n st (cs.set i v) zs t:=by
 have e:(w.setCell ⟨n+1+1,i,none⟩ v).heap[n+1]?=w.heap[n+1]?:=Below.heap_setCell _ _ _ _ (show n+1≠n+1+1 by omega);exact ⟨⟨(zaj e 0).1.trans h.r.l,(zaj e 1).1.trans h.r.e,(zaj e 0).2.trans h.r.f0,(zaj e 1).2.trans h.r.f1⟩,h.k.set i v,h.z.set_ne (by omega) i v,h.low.setCell (show n<=n+1+1 by omega) v⟩
theorem DT.below {w0 w w' : World} {n:Nat} {st:Rs} {cs zs:List Value} {t:TypeId} (h:DT w0 w n st cs zs t) (hB:Below w.heap.size w w'):DT w0 w' n st cs zs t :=
 ⟨h.r.below hB,h.k.below hB h.k.lt,h.z.below hB h.z.lt,h.low.trans (hB.mono (by have:=h.z.lt;omega))⟩
theorem DT.uint {w0 w:World} {n:Nat} {st:Rs} {cs zs:List Value} {t:TypeId} (h:DT w0 w n st cs zs t) :
 Calls Tryz.prog 148 #[.pointer (some ⟨n+1,0,none⟩)] w fun e w'=>e=.returned (iI ((st.go 0 zad).1:Int))∧DT w0 w' n (st.go 0 zad).2 cs zs t :=
 (duint_any _ st.l st.e w h.r).mono fun _ _ hp=>⟨hp.1,h.call hp.2.1 hp.2.2⟩
theorem DT.auth {w0 w:World} {n:Nat} {st:Rs} {cs zs:List Value} {t:TypeId} (h:DT w0 w n st cs zs t) :
 Calls Tryz.prog 149 #[.pointer (some ⟨n+1,0,none⟩)] w fun e w'=>e=.returned (.agg #[iI (za7 st).1.flavor,.string ⟨(za7 st).1.body.toArray⟩])∧DT w0 w' n (za7 st).2 cs zs t :=
 (dread_any _ st w h.r).mono fun _ _ hp=>⟨hp.1,h.call hp.2.1 hp.2.2⟩
theorem DT.rest {w0 w:World} {n:Nat} {st:Rs} {cs zs:List Value} {t:TypeId} (h:DT w0 w n st cs zs t) :
 Calls Tryz.prog 150 #[.pointer (some ⟨n+1,0,none⟩)] w fun e w'=>e=.returned (.string ⟨(st.go [] zbv).1.toArray⟩)∧DT w0 w' n (st.go [] zbv).2 cs zs t :=
 (drest_any _ st.l st.e w h.r).mono fun _ _ hp=>⟨hp.1,h.call hp.2.1 hp.2.2⟩
theorem DT.start (zs:List Value) (s:List UInt8) (t:TypeId) (w wa wb wc:World) (ha:w.alloc (.cells zs.toArray t)=wa) (hb:wb=wa.alloc (.cells #[.string ⟨s.toArray⟩,iI 0] 261)) (hc:wb.alloc (.cells zs.toArray t)=wc) :
 DT w wc w.heap.size ⟨s,0⟩ zs zs t∧wa.heap.size=w.heap.size+1∧wb.heap.size=w.heap.size+1+1:=by
 obtain ⟨k1,B1,z1⟩:=boxed w wa zs t ha;obtain ⟨k3,B3,z3⟩:=boxed wb wc zs t hc;have z2:wb.heap.size=wa.heap.size+1:=by rw [hb];simp
 have B2:Below wa.heap.size wa wb:=by rw [hb];exact zav _ _
 have hr:=DR.new s wa;rw [<- hb,z1] at hr;rw [z2,z1] at k3;refine ⟨⟨hr.below B3,k3,(k1.below B2 (by omega)).below B3 (by omega),(B1.trans (B2.mono (by omega))).trans (B3.mono (by omega))⟩,z1,by omega⟩
theorem zhz {a b:List UInt8} (h:a≠b):((⟨a.toArray⟩:ByteArray).toList==(⟨b.toArray⟩:ByteArray).toList)=false:=by
 rw [zc2,zc2];exact beq_eq_false_iff_ne.2 h

end Go.Proofs.YtfcbjcebkahehaaGreatDoor
