/- message: ParseCall, ParseReply: what they tell, plainly; ten cells set. -/
import Derived.Test.YtfkggcinpklgmaaGreatDoorMu
namespace Go.Proofs.YtfkggcinpklgmaaGreatDoor
open Go.RowKit
theorem Bk.set10 {w : World} {b : Nat} {x0 x1 x2 x3 x4 x5 x6 x7 x8 x9 : Value} {t : TypeId} (h : Bk w b [x0, x1, x2, x3, x4, x5, x6, x7, x8, x9] t) (v0 v1 v2 v3 v4 v5 v6 v7 v8 v9 : Value) :
    Bk ((((((((((w.setCell ⟨b, 0, none⟩ v0).setCell ⟨b, 1, none⟩ v1).setCell ⟨b, 2, none⟩ v2).setCell ⟨b, 3, none⟩ v3).setCell ⟨b, 4, none⟩ v4).setCell ⟨b, 5, none⟩ v5).setCell ⟨b, 6, none⟩ v6).setCell ⟨b, 7, none⟩ v7).setCell ⟨b, 8, none⟩ v8).setCell ⟨b, 9, none⟩ v9) b [v0, v1, v2, v3, v4, v5, v6, v7, v8, v9] t :=
  (((((((((h.set 0 v0).set 1 v1).set 2 v2).set 3 v3).set 4 v4).set 5 v5).set 6 v6).set 7 v7).set 8 v8).set 9 v9
theorem below_set10 {w0 w : World} {b B : Nat} (h : Below B w0 w) (hb : B ≤ b) (v0 v1 v2 v3 v4 v5 v6 v7 v8 v9 : Value) : Below B w0 ((((((((((w.setCell ⟨b, 0, none⟩ v0).setCell ⟨b, 1, none⟩ v1).setCell ⟨b, 2, none⟩ v2).setCell ⟨b, 3, none⟩ v3).setCell ⟨b, 4, none⟩ v4).setCell ⟨b, 5, none⟩ v5).setCell ⟨b, 6, none⟩ v6).setCell ⟨b, 7, none⟩ v7).setCell ⟨b, 8, none⟩ v8).setCell ⟨b, 9, none⟩ v9) :=
  (((((((((h.setCell hb v0).setCell hb v1).setCell hb v2).setCell hb v3).setCell hb v4).setCell hb v5).setCell hb v6).setCell hb v7).setCell hb v8).setCell hb v9
theorem set10_ne (w : World) (b k : Nat) (v0 v1 v2 v3 v4 v5 v6 v7 v8 v9 : Value) (h : k ≠ b) : (((((((((((w.setCell ⟨b, 0, none⟩ v0).setCell ⟨b, 1, none⟩ v1).setCell ⟨b, 2, none⟩ v2).setCell ⟨b, 3, none⟩ v3).setCell ⟨b, 4, none⟩ v4).setCell ⟨b, 5, none⟩ v5).setCell ⟨b, 6, none⟩ v6).setCell ⟨b, 7, none⟩ v7).setCell ⟨b, 8, none⟩ v8).setCell ⟨b, 9, none⟩ v9)).heap[k]? = w.heap[k]? := by
  rw [Below.heap_setCell _ _ _ k h, Below.heap_setCell _ _ _ k h, Below.heap_setCell _ _ _ k h, Below.heap_setCell _ _ _ k h, Below.heap_setCell _ _ _ k h, Below.heap_setCell _ _ _ k h, Below.heap_setCell _ _ _ k h, Below.heap_setCell _ _ _ k h, Below.heap_setCell _ _ _ k h, Below.heap_setCell _ _ _ k h]
def nulC : CallP := ⟨0, 0, 0, 0, 0, nulA, nulA, []⟩
def nulR : ReplyP := ⟨0, false, nulA, 0, 0, 0, [], 0, 0⟩
/-- the first number, and the sign of a message -/
def rdHead (n : Int) (st : Rs) : Nat × Rs := ((st.go 0 rdWord).1, if (((st.go 0 rdWord).2.go 0 rdWord).1 : Int) = n then ((st.go 0 rdWord).2.go 0 rdWord).2 else ((st.go 0 rdWord).2.go 0 rdWord).2.fail 121)
/-- what stands at the end -/
def rdTail (st : Rs) : List UInt8 × Rs := (if plainB st.l then st else st.fail 121).go [] rdRest
structure CallQ where
  h : Nat × Rs
  r : Nat × Rs
  p : Nat × Rs
  v : Nat × Rs
  q : Nat × Rs
  c : AuthP × Rs
  f : AuthP × Rs
  a : List UInt8 × Rs
def rdCallQ (st : Rs) : CallQ :=
  let h := rdHead 0 st
  let r := h.2.go 0 rdWord
  let p := r.2.go 0 rdWord
  let v := p.2.go 0 rdWord
  let q := v.2.go 0 rdWord
  let c := rdAuth q.2
  let f := rdAuth c.2
  ⟨h, r, p, v, q, c, f, rdTail f.2⟩
def CallQ.two (x : CallQ) : CallP := ⟨x.h.1, x.r.1, 0, 0, 0, nulA, nulA, []⟩
def CallQ.all (x : CallQ) : CallP := ⟨x.h.1, x.r.1, x.p.1, x.v.1, x.q.1, x.c.1, x.f.1, x.a.1⟩
def parseC (s : List UInt8) : CallP × Int :=
  if (rdCallQ ⟨s, 0⟩).r.2.e = 0 ∧ ((rdCallQ ⟨s, 0⟩).r.1 : Int) ≠ 2 then ((rdCallQ ⟨s, 0⟩).two, 0)
  else if rdDone (rdCallQ ⟨s, 0⟩).a.2.l (rdCallQ ⟨s, 0⟩).a.2.e = 0 then ((rdCallQ ⟨s, 0⟩).all, 0) else (nulC, 121)
theorem rd_headC (st : Rs) : rdT headC (st, callV nulC) = ((rdCallQ st).r.2, callV (rdCallQ st).two) := rfl
theorem rd_bodyC_of (st : Rs) (x r : Int) (p v q : Nat × Rs) (c f : AuthP × Rs) (a : List UInt8 × Rs) (hp : st.go 0 rdWord = p) (hv : p.2.go 0 rdWord = v) (hq : v.2.go 0 rdWord = q) (hc : rdAuth q.2 = c) (hf : rdAuth c.2 = f) (ha : rdTail f.2 = a) :
    rdT bodyC (st, callV ⟨x, r, 0, 0, 0, nulA, nulA, []⟩) = (a.2, callV ⟨x, r, p.1, v.1, q.1, c.1, f.1, a.1⟩) := by
  subst ha hf hc
  unfold bodyC callV rdTail rdAuth
  simp only [rdT, Fd.rd, if_true, List.set_cons_succ, List.set_cons_zero, hp, hv, hq]
theorem rd_bodyC (st : Rs) : rdT bodyC ((rdCallQ st).r.2, callV (rdCallQ st).two) = ((rdCallQ st).a.2, callV (rdCallQ st).all) := rd_bodyC_of _ _ _ _ _ _ _ _ _ rfl rfl rfl rfl rfl rfl
end Go.Proofs.YtfkggcinpklgmaaGreatDoor
