/- What the document's reading of a reply tells is what the program's tells, plainly. The document reads a reply: no reply. -/
import Derived.Test.YtebjheaohichpaaGreatDoorGu
import Derived.Test.YtebjheaohichpaaGreatDoorSc
namespace Go.Proofs.YtebjheaohichpaaGreatDoor
open Go.RowKit
/-- the document's reading of an accepted reply -/
def drAcc (x:Nat) (st:Rs):ReplyP:=
 let a:=(rdAuth st).2.go 0 rdWord
 if a.1=2 then ⟨x,false,(rdAuth st).1,2,(a.2.go 0 rdWord).1,((a.2.go 0 rdWord).2.go 0 rdWord).1,(((a.2.go 0 rdWord).2.go 0 rdWord).2.go [] rdRest).1,0,0⟩
 else ⟨x,false,(rdAuth st).1,a.1,0,0,(a.2.go [] rdRest).1,0,0⟩
theorem rest0 (l:List UInt8):((⟨l,0⟩:Rs).go [] rdRest).1=l:=rest_all rfl
theorem accD_there (r:ReplyP) (h:r.may) (hd:r.denied=false) (x:Nat) (hx:(x:Int)=r.xid):drAcc x ⟨r.verf.lay++(nbL 4 r.accept.toNat++((if r.accept=2 then nbL 4 r.low.toNat++nbL 4 r.high.toNat else [])++r.results)),0⟩=r:=by
 obtain ⟨rx,rd,rv,ra,rl,rh,rr,rj,rw_⟩:=r
 obtain ⟨_,h2⟩:=h
 simp only at hd h2 hx ⊢
 subst hd
 rw [if_neg (by decide)] at h2
 obtain ⟨h3,rfl,rfl,h4,h5,h6⟩:=h2
 have hw:isW ra:=by unfold isW;omega
 unfold drAcc
 rw [auth_there _ h3]
 simp only []
 rw [go_word hw]
 simp only []
 rcases h6 with ⟨rfl,_,rfl,rfl⟩|⟨rfl,h7,h8,rfl⟩|⟨h7,h8,rfl,rfl,rfl⟩
 · rw [if_neg (by decide),if_neg (by decide)]
   simp only [hx,List.nil_append,rest0]
   rfl
 · rw [if_pos (by decide),if_pos (by decide),List.append_assoc,go_word h7]
   simp only []
   rw [go_word h8]
   simp only [(toNat_w h7).2,(toNat_w h8).2,hx,rest0]
 · rw [if_neg (by omega),if_neg (by omega)]
   simp only [hx,List.nil_append,(toNat_w hw).2,rest0]
/-- what the document's reading of a reply tells -/
noncomputable def drP (s:List UInt8):ReplyP×Int:=
 let x:=(⟨s,0⟩:Rs).go 0 rdWord
 let k:=x.2.go 0 rdWord
 let d:=k.2.go 0 rdWord
 if (k.1:Int)≠1∨1<(d.1:Int) then (nulR,121)
 else
  let r:=if (d.1:Int)=1 then (rdDen x.1 d.2).1 else drAcc x.1 d.2
  if r.may∧r.lay=s then (r,0) else (nulR,121)
theorem drP_is (s:List UInt8):drP s=parseR s:=by
 rcases parseR_form s with ⟨h1,_,h3,h4⟩|h1
 · obtain ⟨r,hr⟩:∃ r,(parseR s).1=r:=⟨_,rfl⟩
   rw [hr] at h3 h4
   have hxw:isW r.xid:=h3.1
   have hp:parseR s=(r,0):=Prod.ext hr h1
   rw [hp]
   have e1:(⟨s,0⟩:Rs).go 0 rdWord=(r.xid.toNat,⟨nbL 4 1++(if r.denied then nbL 4 1++(nbL 4 r.reject.toNat++(if r.reject=1 then nbL 4 r.why.toNat else nbL 4 r.low.toNat++nbL 4 r.high.toNat)) else nbL 4 0++(r.verf.lay++(nbL 4 r.accept.toNat++((if r.accept=2 then nbL 4 r.low.toNat++nbL 4 r.high.toNat else [])++r.results)))),0⟩):=by
    conv=>lhs;rw [h4]
    unfold ReplyP.lay
    exact go_word hxw _
   unfold drP
   simp only [e1]
   have e2:=go_word (n:=1) (by decide) (if r.denied then nbL 4 1++(nbL 4 r.reject.toNat++(if r.reject=1 then nbL 4 r.why.toNat else nbL 4 r.low.toNat++nbL 4 r.high.toNat)) else nbL 4 0++(r.verf.lay++(nbL 4 r.accept.toNat++((if r.accept=2 then nbL 4 r.low.toNat++nbL 4 r.high.toNat else [])++r.results))))
   have e2':(⟨nbL 4 1++(if r.denied then nbL 4 1++(nbL 4 r.reject.toNat++(if r.reject=1 then nbL 4 r.why.toNat else nbL 4 r.low.toNat++nbL 4 r.high.toNat)) else nbL 4 0++(r.verf.lay++(nbL 4 r.accept.toNat++((if r.accept=2 then nbL 4 r.low.toNat++nbL 4 r.high.toNat else [])++r.results)))),0⟩:Rs).go 0 rdWord=(1,_):=e2
   simp only [e2']
   have hx:((r.xid.toNat:Nat):Int)=r.xid:=(toNat_w hxw).2
   cases hd:r.denied
   · have e3:=go_word (n:=0) (by decide) (r.verf.lay++(nbL 4 r.accept.toNat++((if r.accept=2 then nbL 4 r.low.toNat++nbL 4 r.high.toNat else [])++r.results)))
     have e3':(⟨nbL 4 0++(r.verf.lay++(nbL 4 r.accept.toNat++((if r.accept=2 then nbL 4 r.low.toNat++nbL 4 r.high.toNat else [])++r.results))),0⟩:Rs).go 0 rdWord=(0,_):=e3
     simp only [Bool.false_eq_true,if_false,e3']
     rw [if_neg (show ¬ (((1:Nat):Int)≠1∨1<((0:Nat):Int)) by decide),if_neg (show ¬ ((0:Nat):Int)=1 by decide),accD_there r h3 hd _ hx,if_pos ⟨h3,h4.symm⟩]
   · have e3:=go_word (n:=1) (by decide) (nbL 4 r.reject.toNat++(if r.reject=1 then nbL 4 r.why.toNat else nbL 4 r.low.toNat++nbL 4 r.high.toNat))
     have e3':(⟨nbL 4 1++(nbL 4 r.reject.toNat++(if r.reject=1 then nbL 4 r.why.toNat else nbL 4 r.low.toNat++nbL 4 r.high.toNat)),0⟩:Rs).go 0 rdWord=(1,_):=e3
     simp only [if_true,e3']
     rw [if_neg (show ¬ (((1:Nat):Int)≠1∨1<((1:Nat):Int)) by decide),if_pos (show ((1:Nat):Int)=1 by decide),den_there r h3 hd _ hx,if_pos ⟨h3,h4.symm⟩]
 · have key:∀ R:ReplyP,(if R.may∧R.lay=s then (R,(0:Int)) else (nulR,121))=(nulR,121):=fun R=>by
    split
    · rename_i hm
      have h4:=parseR_there _ hm.1
      rw [hm.2,h1] at h4
      exact absurd (congrArg Prod.snd h4) (by show ¬ (121:Int)=0;decide)
    · rfl
   rw [h1]
   unfold drP
   simp only []
   by_cases hc:((((⟨s,0⟩:Rs).go 0 rdWord).2.go 0 rdWord).1:Int)≠1∨1<(((((⟨s,0⟩:Rs).go 0 rdWord).2.go 0 rdWord).2.go 0 rdWord).1:Int)
   · rw [if_pos hc]
   · rw [if_neg hc]
     exact key _
end Go.Proofs.YtebjheaohichpaaGreatDoor
namespace Go.Proofs.YtebjheaohichpaaGreatDoor
open Go.RowKit

set_option maxRecDepth 8000 in
set_option maxHeartbeats 8000000 in
theorem dpr_K (s : List UInt8) (w : World) (x : Nat × Rs) (k : Nat × Rs) (d : Nat × Rs) (hx : (⟨s, 0⟩ : Rs).go 0 rdWord = x) (hk : x.2.go 0 rdWord = k) (hd : k.2.go 0 rdWord = d) (k1 : (k.1 : Int) ≠ 1) :
    Calls Tryz.prog 32 #[.string ⟨s.toArray⟩] w fun e w' => e = .returned (.tuple #[.agg (replyV nulR).toArray, .int .i64 121]) ∧ Below w.heap.size w w' := by
  have HNC : Hid (replyV nulR = [.int .i64 0, .bool false, .int .i64 0, .string ⟨#[]⟩, .int .i64 0, .int .i64 0, .int .i64 0, .int .i64 0, .int .i64 0, .string ⟨#[]⟩]) := rfl
  obtain ⟨wa, hwa⟩ : ∃ y, w.alloc (.cells #[.int .i64 0, .bool false, .int .i64 0, .string ⟨#[]⟩, .int .i64 0, .int .i64 0, .int .i64 0, .int .i64 0, .int .i64 0, .string ⟨#[]⟩] 27) = y := ⟨_, rfl⟩
  obtain ⟨wb, hwb⟩ : ∃ y, y = wa.alloc (.cells #[.string ⟨s.toArray⟩, .int .i64 0] 142) := ⟨_, rfl⟩
  obtain ⟨wc, hwc⟩ : ∃ y, wb.alloc (.cells #[.int .i64 0, .bool false, .int .i64 0, .string ⟨#[]⟩, .int .i64 0, .int .i64 0, .int .i64 0, .int .i64 0, .int .i64 0, .string ⟨#[]⟩] 27) = y := ⟨_, rfl⟩
  obtain ⟨hS0, hza, hzb⟩ := DT.start [.int .i64 0, .bool false, .int .i64 0, .string ⟨#[]⟩, .int .i64 0, .int .i64 0, .int .i64 0, .int .i64 0, .int .i64 0, .string ⟨#[]⟩] s _ w wa wb wc hwa hwb hwc
  have HNR : Hid (Calls Tryz.prog 59 #[.string ⟨s.toArray⟩] wa fun e w' => e = .returned (.pointer (some ⟨w.heap.size + 1, 0, none⟩)) ∧ w' = wb) := by rw [hwb, ← hza]; exact dnew_any s wa
  have HS0 := hid hS0
  have HXx := hid hx
  have HXk := hid hk
  have HXd := hid hd
  have e1 : ((k.1 : Int) != 1) = true := bne_iff_ne.2 k1
  have F0 := hid e1
  clear hx hk hd e1 hwb hS0 k1
  go_enter Tryz.func32, Tryz.ntmps32
  go_wp2_with fail
  refine HNR.out.mono ?_
  rintro e w1 ⟨rfl, hw1⟩
  have hw2 := hw1.symm
  clear hw1 HNR
  subst hw2
  have G0 := hid HS0.out.uint
  rw [HXx.out] at G0
  go_wp2_with fail
  clear hwa hwc
  refine G0.out.mono ?_
  rintro e v0 ⟨rfl, h0⟩
  clear G0 HS0
  have k0 := h0.k.cell 0 rfl
  have f0 := h0.k.frozen 0
  obtain ⟨s0, hs0⟩ : ∃ y, (v0.setCell ⟨w.heap.size + 1 + 1, 0, none⟩ (.int .i64 (x.1 : Int))) = y := ⟨_, rfl⟩
  have HS1 : Hid (DT w s0 w.heap.size x.2 [.int .i64 (x.1 : Int), .bool false, .int .i64 0, .string ⟨#[]⟩, .int .i64 0, .int .i64 0, .int .i64 0, .int .i64 0, .int .i64 0, .string ⟨#[]⟩] [.int .i64 0, .bool false, .int .i64 0, .string ⟨#[]⟩, .int .i64 0, .int .i64 0, .int .i64 0, .int .i64 0, .int .i64 0, .string ⟨#[]⟩] 27) := by rw [← hs0]; exact (h0.set 0 _)
  clear h0
  have G1 := hid HS1.out.uint
  rw [HXk.out] at G1
  go_wp2_with fail
  clear k0 f0 hs0
  refine G1.out.mono ?_
  rintro e v1 ⟨rfl, h1⟩
  clear G1 HS1
  have HS2 : Hid (DT w v1 w.heap.size k.2 [.int .i64 (x.1 : Int), .bool false, .int .i64 0, .string ⟨#[]⟩, .int .i64 0, .int .i64 0, .int .i64 0, .int .i64 0, .int .i64 0, .string ⟨#[]⟩] [.int .i64 0, .bool false, .int .i64 0, .string ⟨#[]⟩, .int .i64 0, .int .i64 0, .int .i64 0, .int .i64 0, .int .i64 0, .string ⟨#[]⟩] 27) := h1
  clear h1
  have G2 := hid HS2.out.uint
  rw [HXd.out] at G2
  go_wp2_with fail
  refine G2.out.mono ?_
  rintro e v2 ⟨rfl, h2⟩
  clear G2 HS2
  have e1 := F0.out
  have HS3 : Hid (DT w v2 w.heap.size d.2 [.int .i64 (x.1 : Int), .bool false, .int .i64 0, .string ⟨#[]⟩, .int .i64 0, .int .i64 0, .int .i64 0, .int .i64 0, .int .i64 0, .string ⟨#[]⟩] [.int .i64 0, .bool false, .int .i64 0, .string ⟨#[]⟩, .int .i64 0, .int .i64 0, .int .i64 0, .int .i64 0, .int .i64 0, .string ⟨#[]⟩] 27) := h2
  clear h2
  have k0 : v2.cell? ⟨w.heap.size, 0, none⟩ = some (.int .i64 0) := HS3.out.z.cell 0 rfl
  have f0 := HS3.out.z.frozen 0
  have k1 : v2.cell? ⟨w.heap.size, 1, none⟩ = some (.bool false) := HS3.out.z.cell 1 rfl
  have f1 := HS3.out.z.frozen 1
  have k2 : v2.cell? ⟨w.heap.size, 2, none⟩ = some (.int .i64 0) := HS3.out.z.cell 2 rfl
  have f2 := HS3.out.z.frozen 2
  have k3 : v2.cell? ⟨w.heap.size, 3, none⟩ = some (.string ⟨#[]⟩) := HS3.out.z.cell 3 rfl
  have f3 := HS3.out.z.frozen 3
  have k4 : v2.cell? ⟨w.heap.size, 4, none⟩ = some (.int .i64 0) := HS3.out.z.cell 4 rfl
  have f4 := HS3.out.z.frozen 4
  have k5 : v2.cell? ⟨w.heap.size, 5, none⟩ = some (.int .i64 0) := HS3.out.z.cell 5 rfl
  have f5 := HS3.out.z.frozen 5
  have k6 : v2.cell? ⟨w.heap.size, 6, none⟩ = some (.int .i64 0) := HS3.out.z.cell 6 rfl
  have f6 := HS3.out.z.frozen 6
  have k7 : v2.cell? ⟨w.heap.size, 7, none⟩ = some (.int .i64 0) := HS3.out.z.cell 7 rfl
  have f7 := HS3.out.z.frozen 7
  have k8 : v2.cell? ⟨w.heap.size, 8, none⟩ = some (.int .i64 0) := HS3.out.z.cell 8 rfl
  have f8 := HS3.out.z.frozen 8
  have k9 : v2.cell? ⟨w.heap.size, 9, none⟩ = some (.string ⟨#[]⟩) := HS3.out.z.cell 9 rfl
  have f9 := HS3.out.z.frozen 9
  have HZ9 := HS3.out.z.set10 (.int .i64 0) (.bool false) (.int .i64 0) (.string ⟨#[]⟩) (.int .i64 0) (.int .i64 0) (.int .i64 0) (.int .i64 0) (.int .i64 0) (.string ⟨#[]⟩)
  have q0 := HZ9.cell 0 rfl
  have q1 := HZ9.cell 1 rfl
  have q2 := HZ9.cell 2 rfl
  have q3 := HZ9.cell 3 rfl
  have q4 := HZ9.cell 4 rfl
  have q5 := HZ9.cell 5 rfl
  have q6 := HZ9.cell 6 rfl
  have q7 := HZ9.cell 7 rfl
  have q8 := HZ9.cell 8 rfl
  have q9 := HZ9.cell 9 rfl
  have HB9 := hid (below_set10 (b := w.heap.size) HS3.out.low (Nat.le_refl _) (.int .i64 0) (.bool false) (.int .i64 0) (.string ⟨#[]⟩) (.int .i64 0) (.int .i64 0) (.int .i64 0) (.int .i64 0) (.int .i64 0) (.string ⟨#[]⟩))
  clear HZ9
  go_wp2
  refine bodyPost_ret (v := .tuple #[.agg #[.int .i64 0, .bool false, .int .i64 0, .string ⟨#[]⟩, .int .i64 0, .int .i64 0, .int .i64 0, .int .i64 0, .int .i64 0, .string ⟨#[]⟩], .int .i64 121]) (by simp [results, Tryz.results32, go_sem, q0, q1, q2, q3, q4, q5, q6, q7, q8, q9]) rfl ⟨rfl, HB9.out⟩

set_option maxRecDepth 8000 in
set_option maxHeartbeats 8000000 in
theorem dpr_E (s : List UInt8) (w : World) (x : Nat × Rs) (k : Nat × Rs) (d : Nat × Rs) (hx : (⟨s, 0⟩ : Rs).go 0 rdWord = x) (hk : x.2.go 0 rdWord = k) (hd : k.2.go 0 rdWord = d) (k1 : (k.1 : Int) = 1) (d1 : 1 < (d.1 : Int)) :
    Calls Tryz.prog 32 #[.string ⟨s.toArray⟩] w fun e w' => e = .returned (.tuple #[.agg (replyV nulR).toArray, .int .i64 121]) ∧ Below w.heap.size w w' := by
  have HNC : Hid (replyV nulR = [.int .i64 0, .bool false, .int .i64 0, .string ⟨#[]⟩, .int .i64 0, .int .i64 0, .int .i64 0, .int .i64 0, .int .i64 0, .string ⟨#[]⟩]) := rfl
  obtain ⟨wa, hwa⟩ : ∃ y, w.alloc (.cells #[.int .i64 0, .bool false, .int .i64 0, .string ⟨#[]⟩, .int .i64 0, .int .i64 0, .int .i64 0, .int .i64 0, .int .i64 0, .string ⟨#[]⟩] 27) = y := ⟨_, rfl⟩
  obtain ⟨wb, hwb⟩ : ∃ y, y = wa.alloc (.cells #[.string ⟨s.toArray⟩, .int .i64 0] 142) := ⟨_, rfl⟩
  obtain ⟨wc, hwc⟩ : ∃ y, wb.alloc (.cells #[.int .i64 0, .bool false, .int .i64 0, .string ⟨#[]⟩, .int .i64 0, .int .i64 0, .int .i64 0, .int .i64 0, .int .i64 0, .string ⟨#[]⟩] 27) = y := ⟨_, rfl⟩
  obtain ⟨hS0, hza, hzb⟩ := DT.start [.int .i64 0, .bool false, .int .i64 0, .string ⟨#[]⟩, .int .i64 0, .int .i64 0, .int .i64 0, .int .i64 0, .int .i64 0, .string ⟨#[]⟩] s _ w wa wb wc hwa hwb hwc
  have HNR : Hid (Calls Tryz.prog 59 #[.string ⟨s.toArray⟩] wa fun e w' => e = .returned (.pointer (some ⟨w.heap.size + 1, 0, none⟩)) ∧ w' = wb) := by rw [hwb, ← hza]; exact dnew_any s wa
  have HS0 := hid hS0
  have HXx := hid hx
  have HXk := hid hk
  have HXd := hid hd
  have e1 : ((k.1 : Int) != 1) = false := bne_eq_false_iff_eq.2 k1
  have e2 : decide (1 < (d.1 : Int)) = true := decide_eq_true d1
  have F0 := hid e1
  have F1 := hid e2
  clear hx hk hd e1 e2 hwb hS0 k1 d1
  go_enter Tryz.func32, Tryz.ntmps32
  go_wp2_with fail
  refine HNR.out.mono ?_
  rintro e w1 ⟨rfl, hw1⟩
  have hw2 := hw1.symm
  clear hw1 HNR
  subst hw2
  have G0 := hid HS0.out.uint
  rw [HXx.out] at G0
  go_wp2_with fail
  clear hwa hwc
  refine G0.out.mono ?_
  rintro e v0 ⟨rfl, h0⟩
  clear G0 HS0
  have k0 := h0.k.cell 0 rfl
  have f0 := h0.k.frozen 0
  obtain ⟨s0, hs0⟩ : ∃ y, (v0.setCell ⟨w.heap.size + 1 + 1, 0, none⟩ (.int .i64 (x.1 : Int))) = y := ⟨_, rfl⟩
  have HS1 : Hid (DT w s0 w.heap.size x.2 [.int .i64 (x.1 : Int), .bool false, .int .i64 0, .string ⟨#[]⟩, .int .i64 0, .int .i64 0, .int .i64 0, .int .i64 0, .int .i64 0, .string ⟨#[]⟩] [.int .i64 0, .bool false, .int .i64 0, .string ⟨#[]⟩, .int .i64 0, .int .i64 0, .int .i64 0, .int .i64 0, .int .i64 0, .string ⟨#[]⟩] 27) := by rw [← hs0]; exact (h0.set 0 _)
  clear h0
  have G1 := hid HS1.out.uint
  rw [HXk.out] at G1
  go_wp2_with fail
  clear k0 f0 hs0
  refine G1.out.mono ?_
  rintro e v1 ⟨rfl, h1⟩
  clear G1 HS1
  have HS2 : Hid (DT w v1 w.heap.size k.2 [.int .i64 (x.1 : Int), .bool false, .int .i64 0, .string ⟨#[]⟩, .int .i64 0, .int .i64 0, .int .i64 0, .int .i64 0, .int .i64 0, .string ⟨#[]⟩] [.int .i64 0, .bool false, .int .i64 0, .string ⟨#[]⟩, .int .i64 0, .int .i64 0, .int .i64 0, .int .i64 0, .int .i64 0, .string ⟨#[]⟩] 27) := h1
  clear h1
  have G2 := hid HS2.out.uint
  rw [HXd.out] at G2
  go_wp2_with fail
  refine G2.out.mono ?_
  rintro e v2 ⟨rfl, h2⟩
  clear G2 HS2
  have e1 := F0.out
  have e2 := F1.out
  have HS3 : Hid (DT w v2 w.heap.size d.2 [.int .i64 (x.1 : Int), .bool false, .int .i64 0, .string ⟨#[]⟩, .int .i64 0, .int .i64 0, .int .i64 0, .int .i64 0, .int .i64 0, .string ⟨#[]⟩] [.int .i64 0, .bool false, .int .i64 0, .string ⟨#[]⟩, .int .i64 0, .int .i64 0, .int .i64 0, .int .i64 0, .int .i64 0, .string ⟨#[]⟩] 27) := h2
  clear h2
  have k0 : v2.cell? ⟨w.heap.size, 0, none⟩ = some (.int .i64 0) := HS3.out.z.cell 0 rfl
  have f0 := HS3.out.z.frozen 0
  have k1 : v2.cell? ⟨w.heap.size, 1, none⟩ = some (.bool false) := HS3.out.z.cell 1 rfl
  have f1 := HS3.out.z.frozen 1
  have k2 : v2.cell? ⟨w.heap.size, 2, none⟩ = some (.int .i64 0) := HS3.out.z.cell 2 rfl
  have f2 := HS3.out.z.frozen 2
  have k3 : v2.cell? ⟨w.heap.size, 3, none⟩ = some (.string ⟨#[]⟩) := HS3.out.z.cell 3 rfl
  have f3 := HS3.out.z.frozen 3
  have k4 : v2.cell? ⟨w.heap.size, 4, none⟩ = some (.int .i64 0) := HS3.out.z.cell 4 rfl
  have f4 := HS3.out.z.frozen 4
  have k5 : v2.cell? ⟨w.heap.size, 5, none⟩ = some (.int .i64 0) := HS3.out.z.cell 5 rfl
  have f5 := HS3.out.z.frozen 5
  have k6 : v2.cell? ⟨w.heap.size, 6, none⟩ = some (.int .i64 0) := HS3.out.z.cell 6 rfl
  have f6 := HS3.out.z.frozen 6
  have k7 : v2.cell? ⟨w.heap.size, 7, none⟩ = some (.int .i64 0) := HS3.out.z.cell 7 rfl
  have f7 := HS3.out.z.frozen 7
  have k8 : v2.cell? ⟨w.heap.size, 8, none⟩ = some (.int .i64 0) := HS3.out.z.cell 8 rfl
  have f8 := HS3.out.z.frozen 8
  have k9 : v2.cell? ⟨w.heap.size, 9, none⟩ = some (.string ⟨#[]⟩) := HS3.out.z.cell 9 rfl
  have f9 := HS3.out.z.frozen 9
  have HZ9 := HS3.out.z.set10 (.int .i64 0) (.bool false) (.int .i64 0) (.string ⟨#[]⟩) (.int .i64 0) (.int .i64 0) (.int .i64 0) (.int .i64 0) (.int .i64 0) (.string ⟨#[]⟩)
  have q0 := HZ9.cell 0 rfl
  have q1 := HZ9.cell 1 rfl
  have q2 := HZ9.cell 2 rfl
  have q3 := HZ9.cell 3 rfl
  have q4 := HZ9.cell 4 rfl
  have q5 := HZ9.cell 5 rfl
  have q6 := HZ9.cell 6 rfl
  have q7 := HZ9.cell 7 rfl
  have q8 := HZ9.cell 8 rfl
  have q9 := HZ9.cell 9 rfl
  have HB9 := hid (below_set10 (b := w.heap.size) HS3.out.low (Nat.le_refl _) (.int .i64 0) (.bool false) (.int .i64 0) (.string ⟨#[]⟩) (.int .i64 0) (.int .i64 0) (.int .i64 0) (.int .i64 0) (.int .i64 0) (.string ⟨#[]⟩))
  clear HZ9
  go_wp2
  refine bodyPost_ret (v := .tuple #[.agg #[.int .i64 0, .bool false, .int .i64 0, .string ⟨#[]⟩, .int .i64 0, .int .i64 0, .int .i64 0, .int .i64 0, .int .i64 0, .string ⟨#[]⟩], .int .i64 121]) (by simp [results, Tryz.results32, go_sem, q0, q1, q2, q3, q4, q5, q6, q7, q8, q9]) rfl ⟨rfl, HB9.out⟩
end Go.Proofs.YtebjheaohichpaaGreatDoor
