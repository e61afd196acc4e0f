/- The client: Hear. -/
import Derived.Test.YtfcbjcebkahehaaGreatDoorJz
import Derived.Test.YtfcbjcebkahehaaGreatDoorZbc
import Derived.Test.YtfcbjcebkahehaaGreatDoorKc
namespace Go.Proofs.YtfcbjcebkahehaaGreatDoor.Cl
open Go.RowKit
/-- the document's meter makes such a step -/
def Twin (h : Bool) (a b : Nat) (n : Int) (a' b' : Nat) : Prop := ∀ w A, Mt w 120 A h a b → Calls Tryz.prog 109 #[ptr A, .int .i64 n] w fun e w' => e = .returned (.tuple #[]) ∧ Mt w' 120 A true a' b' ∧ Own A w w'
/-- what a meter has behind a reply -/
def MqR (q q' : Mq) (now : Int) (x : Wt) : Prop := q'.blk = q.blk ∧ (x.tms ≠ 1 → q' = q) ∧ (x.tms = 1 → q'.h = true ∧ Twin q.h q.m q.s (now - x.last) q'.m q'.s)
section
variable {K K' : Nat → Nat} {w w' : World} {B t p : Nat} {c : Cf} {oa : Option Addr} {cap : Nat} {next now : Int} {L : List Wt} {D : List Oc} {vw vd : Value} {q : Mq}
theorem PC.meter_any (h : PC K w B t p c oa cap next now L D vw vd q) (n : Int) : ∃ a' b', (∀ m, Calls Tryz.prog 86 #[ptr q.blk, .int .i64 n] (w.drewN m) fun e w' => e = .returned (.tuple #[]) ∧ Hid (PC K w' B t p c oa cap next now L D vw vd ⟨q.blk, true, a', b'⟩ ∧ Mv (fun u => u = t + 5) w w' K K)) ∧ Twin q.h q.m q.s n a' b' := by
  obtain ⟨a', b', h1, h2, ok⟩ := hear_both h.me.ok n
  refine ⟨a', b', fun m => ?_, h2⟩
  have h0 := h.to (mv_drewN w K m) (fun _ e => e.elim)
  refine (h1 _ _ ⟨h0.me.tb.at_⟩).mono ?_
  rintro e w' ⟨rfl, mt, ow⟩
  have mv : Mv (fun u => u = t + 5) (w.drewN m) w' K K := ⟨ow.os, ow.tape, ow.output, ow.size, fun _ _ => rfl, fun b hb hne => ow.kept b hb (fun e => hne (by rw [e]; exact h0.me.tb.k))⟩
  exact ⟨rfl, ⟨h0.cl.mv mv (by omega), h0.wr.mv mv (by omega), h0.dn.mv mv (by omega), fun y hy => (h0.cs y hy).mv mv (by omega) (by omega), h0.nd, ⟨⟨mt.at_, h0.me.tb.k⟩, ok⟩, h0.gs.mv mv (by omega), h0.gl, h0.ok, Nat.le_trans h0.hB mv.size, h0.er mv (fun t' e => by omega), h0.h0' mv, h0.b1⟩, ((mv_drewN w K m).mono (fun _ e => e.elim)).trans mv⟩
/-- what Hear does -/
def HearQ (K : Nat → Nat) (w w' : World) (B t p : Nat) (c : Cf) (oa : Option Addr) (cap : Nat) (next now : Int) (L : List Wt) (D : List Oc) (q : Mq) (src dst : Int) (r : ReplyP × Int) (e : Ending) : Prop :=
  (e = .returned (.int .i64 0) ∧ (dst ≠ c.ad ∨ r.2 ≠ 0 ∨ ∀ y ∈ L, hitW r.1.xid src y = false) ∧ Hid (Below w.heap.size w w')) ∨
  (∃ A x R, e = .returned (.int .i64 r.1.xid) ∧ dst = c.ad ∧ r.2 = 0 ∧ L = A ++ x :: R ∧ hitW r.1.xid src x = true ∧ (∀ y ∈ A, hitW r.1.xid src y = false) ∧ Hid (∃ K' vw' vd' q', PC K' w' B t p c oa cap next now (A ++ R) (D ++ [{ outOf r.1 with seq := x.seq, at_ := now }]) vw' vd' q' ∧ MqR q q' now x ∧ Mv (fun u => u = t ∨ u = t + 1 ∨ u = t + 2 ∨ u = t + 5) w w' K K'))
theorem drewB (w : World) (k : Nat) : Below w.heap.size w (w.drewN k) := ⟨rfl, rfl, rfl, Nat.le_refl _, fun _ _ => rfl⟩
set_option maxRecDepth 8000 in
set_option maxHeartbeats 4000000 in
theorem PC.hear_far (h : PC K w B t p c oa cap next now L D vw vd q) (src dst : Int) (data : List UInt8) (hd : dst ≠ c.ad) : Calls Tryz.prog 51 #[ptr p, .agg #[.int .i64 src, .int .i64 dst, .string ⟨data.toArray⟩]] w fun e w' => HearQ K w w' B t p c oa cap next now L D q src dst (parseR data) e := by
  obtain ⟨S, hS⟩ : ∃ y, w.heap.size = y := ⟨_, rfl⟩
  obtain ⟨ds, hds⟩ : ∃ ds : ByteArray, (⟨data.toArray⟩ : ByteArray) = ds := ⟨_, rfl⟩
  obtain ⟨w0, hw0⟩ : ∃ y, w.alloc (.cells #[.int .i64 src, .int .i64 dst, .string ds] 78) = y := ⟨_, rfl⟩
  have B0 : Below w.heap.size w w0 := by rw [← hw0]; exact (Below.refl _ _).alloc (Nat.le_refl _) _
  have k0 : w0.heap[S]? = some (.cells #[.int .i64 src, .int .i64 dst, .string ds] 78) := by rw [← hw0, ← hS]; exact (MapKept.heap_alloc w _).1
  have hl0 := (Array.getElem?_eq_some_iff.1 k0).1
  have P0 := h.below B0 (fun _ => t + 7)
  have a1 : w0.cell? ⟨S, 1, none⟩ = some (.int .i64 dst) := cell_at k0 rfl
  have a2 : w0.cell? ⟨S, 2, none⟩ = some (.string ds) := cell_at k0 rfl
  have c0 : w0.cell? ⟨p, 0, none⟩ = some (.int .i64 c.ad) := P0.ce rfl
  have hne : (dst != c.ad) = true := by simpa using hd
  have HF : Hid (∀ k, Below w.heap.size w (w0.drewN k)) := fun k => B0.trans ((drewB w0 k).mono B0.size)
  have HD := hid hd
  rw [hds]
  clear h hd P0 k0 B0 hl0 hds
  go_enter Tryz.func51, Tryz.ntmps51
  go_wp2_with fail
  go_quiet (fail)
  go_wp2
  go_ret
  exact .inl ⟨rfl, .inl HD.out, HF.out _⟩
set_option maxRecDepth 8000 in
set_option maxHeartbeats 4000000 in
theorem PC.hear_any (h : PC K w B t p c oa cap next now L D vw vd q) (src dst : Int) (data : List UInt8) (hlen : data.length ≤ 281474976710656) (hL : L.length ≤ 100000000) (hD : D.length ≤ 100000000) (hnow : ∀ x ∈ L, -1000000000000 ≤ now - x.last ∧ now - x.last ≤ 1000000000000) : Calls Tryz.prog 51 #[ptr p, .agg #[.int .i64 src, .int .i64 dst, .string ⟨data.toArray⟩]] w fun e w' => HearQ K w w' B t p c oa cap next now L D q src dst (parseR data) e := by
  by_cases hd : dst ≠ c.ad
  · exact h.hear_far src dst data hd
  have hd : dst = c.ad := Classical.byContradiction hd
  subst hd
  obtain ⟨S, hS⟩ : ∃ y, w.heap.size = y := ⟨_, rfl⟩
  obtain ⟨ds, hds⟩ : ∃ ds : ByteArray, (⟨data.toArray⟩ : ByteArray) = ds := ⟨_, rfl⟩
  obtain ⟨w0, hw0⟩ : ∃ y, w.alloc (.cells #[.int .i64 src, .int .i64 c.ad, .string ds] 78) = y := ⟨_, rfl⟩
  have B0 : Below w.heap.size w w0 := by rw [← hw0]; exact (Below.refl _ _).alloc (Nat.le_refl _) _
  have k0 : w0.heap[S]? = some (.cells #[.int .i64 src, .int .i64 c.ad, .string ds] 78) := by rw [← hw0, ← hS]; exact (MapKept.heap_alloc w _).1
  have hl0 := (Array.getElem?_eq_some_iff.1 k0).1
  have P0 := h.below B0 (fun _ => t + 7)
  have a1 : w0.cell? ⟨S, 1, none⟩ = some (.int .i64 c.ad) := cell_at k0 rfl
  have a2 : w0.cell? ⟨S, 2, none⟩ = some (.string ds) := cell_at k0 rfl
  have c0 : w0.cell? ⟨p, 0, none⟩ = some (.int .i64 c.ad) := P0.ce rfl
  have HP : Hid (∀ k, Calls Tryz.prog 52 #[.string ds] (w0.drewN k) fun e w' => e = .returned (.tuple #[.agg (replyV (parseR data).1).toArray, .int .i64 (parseR data).2]) ∧ Below (w0.drewN k).heap.size (w0.drewN k) w') := fun k => by rw [← hds]; exact parseReply_any data _ (P0.to (mv_drewN w0 _ k) (fun _ e => e.elim)).err hlen
  obtain ⟨pr, hpr⟩ : ∃ pr, parseR data = pr := ⟨_, rfl⟩
  rw [hpr] at HP ⊢
  rw [hds]
  clear hds hpr hlen
  obtain ⟨r, er⟩ := pr
  obtain ⟨xid, dn, vf, acc, low, high, results, rej, why⟩ := r
  obtain ⟨fl, body⟩ := vf
  dsimp only at HP ⊢
  obtain ⟨rr, hrr⟩ : ∃ rr : ReplyP, rr = ⟨xid, dn, ⟨fl, body⟩, acc, low, high, results, rej, why⟩ := ⟨_, rfl⟩
  have HP : Hid (∀ k, Calls Tryz.prog 52 #[.string ds] (w0.drewN k) fun e w' => e = .returned (.tuple #[.agg (replyV rr).toArray, .int .i64 er]) ∧ Below (w0.drewN k).heap.size (w0.drewN k) w') := by rw [hrr]; exact HP
  obtain ⟨bo, hbo⟩ : ∃ bo : ByteArray, (⟨body.toArray⟩ : ByteArray) = bo := ⟨_, rfl⟩
  obtain ⟨res, hres⟩ : ∃ res : ByteArray, (⟨results.toArray⟩ : ByteArray) = res := ⟨_, rfl⟩
  have hrV : (replyV rr).toArray = #[.int .i64 xid, .bool dn, .int .i64 fl, .string bo, .int .i64 acc, .int .i64 rej, .int .i64 why, .int .i64 low, .int .i64 high, .string res] := by rw [hrr, ← hbo, ← hres]; rfl
  have hxid : rr.xid = xid := by rw [hrr]
  have HO : Hid (∀ w', Calls Tryz.prog 87 #[.agg #[.int .i64 xid, .bool dn, .int .i64 fl, .string bo, .int .i64 acc, .int .i64 rej, .int .i64 why, .int .i64 low, .int .i64 high, .string res]] w' fun e w'' => e = .returned (.agg (ocC (outOf rr)).toArray) ∧ Below w'.heap.size w' w'') := fun w' => by
    rw [← hrV]; exact outcome_any rr w'
  rw [hrV] at HP
  have hg : HearQ K w w B t p c oa cap next now L D q src c.ad (⟨xid, dn, ⟨fl, body⟩, acc, low, high, results, rej, why⟩, er) = HearQ K w w B t p c oa cap next now L D q src c.ad (rr, er) := by rw [hrr]
  rw [show (⟨xid, dn, ⟨fl, body⟩, acc, low, high, results, rej, why⟩ : ReplyP) = rr from hrr.symm]
  clear hg hrV hrr hbo hres
  have HH := hid (And.intro h (And.intro P0 (And.intro B0 (And.intro k0 (And.intro hl0 hnow)))))
  have HL := hid (And.intro hL hD)
  clear h P0 B0 k0 hl0 hL hD hnow
  go_enter Tryz.func51, Tryz.ntmps51
  go_wp2_with fail
  go_quiet (fail)
  go_wp2_with fail
  refine (HP.out _).mono ?_
  rintro _ w1 ⟨rfl, hb1⟩
  obtain ⟨nq, hb1⟩ : ∃ nq, Below (w0.drewN nq).heap.size (w0.drewN nq) w1 := ⟨_, hb1⟩
  clear HP c0
  obtain ⟨S2, hS2⟩ : ∃ y, w1.heap.size = y := ⟨_, rfl⟩
  obtain ⟨y0, hy0⟩ : ∃ y, w1.alloc (.cells #[.int .i64 0, .bool false, .int .i64 0, .string ⟨#[]⟩, .int .i64 0, .int .i64 0, .int .i64 0, .int .i64 0, .int .i64 0, .string ⟨#[]⟩] 46) = y := ⟨_, rfl⟩
  have ky0 : y0.heap[S2]? = some (.cells #[.int .i64 0, .bool false, .int .i64 0, .string ⟨#[]⟩, .int .i64 0, .int .i64 0, .int .i64 0, .int .i64 0, .int .i64 0, .string ⟨#[]⟩] 46) := by rw [← hy0, ← hS2]; exact (MapKept.heap_alloc w1 _).1
  have By0 : Below w1.heap.size w1 y0 := by rw [← hy0]; exact (Below.refl _ _).alloc (Nat.le_refl _) _
  have hley : w1.heap.size ≤ S2 := by omega
  obtain ⟨y1, hy1⟩ : ∃ y, y0.setCell ⟨S2, 0, none⟩ (.int .i64 xid) = y := ⟨_, rfl⟩
  have zy0 : y0.cell? ⟨S2, 0, none⟩ = some (.int .i64 0) := cell_at ky0 rfl
  have fy0 : y0.frozen? ⟨S2, 0, none⟩ = false := frozen_at ky0 0
  have ky1 : y1.heap[S2]? = some (.cells #[.int .i64 xid, .bool false, .int .i64 0, .string ⟨#[]⟩, .int .i64 0, .int .i64 0, .int .i64 0, .int .i64 0, .int .i64 0, .string ⟨#[]⟩] 46) := by rw [← hy1]; exact set_at ky0 0 _
  have By1 : Below w1.heap.size w1 y1 := by rw [← hy1]; exact below_set By0 hley
  obtain ⟨y2, hy2⟩ : ∃ y, y1.setCell ⟨S2, 1, none⟩ (.bool dn) = y := ⟨_, rfl⟩
  have zy1 : y1.cell? ⟨S2, 1, none⟩ = some (.bool false) := cell_at ky1 rfl
  have fy1 : y1.frozen? ⟨S2, 1, none⟩ = false := frozen_at ky1 1
  have ky2 : y2.heap[S2]? = some (.cells #[.int .i64 xid, .bool dn, .int .i64 0, .string ⟨#[]⟩, .int .i64 0, .int .i64 0, .int .i64 0, .int .i64 0, .int .i64 0, .string ⟨#[]⟩] 46) := by rw [← hy2]; exact set_at ky1 1 _
  have By2 : Below w1.heap.size w1 y2 := by rw [← hy2]; exact below_set By1 hley
  clear ky1 By1
  obtain ⟨y3, hy3⟩ : ∃ y, y2.setCell ⟨S2, 2, none⟩ (.int .i64 fl) = y := ⟨_, rfl⟩
  have zy2 : y2.cell? ⟨S2, 2, none⟩ = some (.int .i64 0) := cell_at ky2 rfl
  have fy2 : y2.frozen? ⟨S2, 2, none⟩ = false := frozen_at ky2 2
  have ky3 : y3.heap[S2]? = some (.cells #[.int .i64 xid, .bool dn, .int .i64 fl, .string ⟨#[]⟩, .int .i64 0, .int .i64 0, .int .i64 0, .int .i64 0, .int .i64 0, .string ⟨#[]⟩] 46) := by rw [← hy3]; exact set_at ky2 2 _
  have By3 : Below w1.heap.size w1 y3 := by rw [← hy3]; exact below_set By2 hley
  clear ky2 By2
  obtain ⟨y4, hy4⟩ : ∃ y, y3.setCell ⟨S2, 3, none⟩ (.string bo) = y := ⟨_, rfl⟩
  have zy3 : y3.cell? ⟨S2, 3, none⟩ = some (.string ⟨#[]⟩) := cell_at ky3 rfl
  have fy3 : y3.frozen? ⟨S2, 3, none⟩ = false := frozen_at ky3 3
  have ky4 : y4.heap[S2]? = some (.cells #[.int .i64 xid, .bool dn, .int .i64 fl, .string bo, .int .i64 0, .int .i64 0, .int .i64 0, .int .i64 0, .int .i64 0, .string ⟨#[]⟩] 46) := by rw [← hy4]; exact set_at ky3 3 _
  have By4 : Below w1.heap.size w1 y4 := by rw [← hy4]; exact below_set By3 hley
  clear ky3 By3
  obtain ⟨y5, hy5⟩ : ∃ y, y4.setCell ⟨S2, 4, none⟩ (.int .i64 acc) = y := ⟨_, rfl⟩
  have zy4 : y4.cell? ⟨S2, 4, none⟩ = some (.int .i64 0) := cell_at ky4 rfl
  have fy4 : y4.frozen? ⟨S2, 4, none⟩ = false := frozen_at ky4 4
  have ky5 : y5.heap[S2]? = some (.cells #[.int .i64 xid, .bool dn, .int .i64 fl, .string bo, .int .i64 acc, .int .i64 0, .int .i64 0, .int .i64 0, .int .i64 0, .string ⟨#[]⟩] 46) := by rw [← hy5]; exact set_at ky4 4 _
  have By5 : Below w1.heap.size w1 y5 := by rw [← hy5]; exact below_set By4 hley
  clear ky4 By4
  obtain ⟨y6, hy6⟩ : ∃ y, y5.setCell ⟨S2, 5, none⟩ (.int .i64 rej) = y := ⟨_, rfl⟩
  have zy5 : y5.cell? ⟨S2, 5, none⟩ = some (.int .i64 0) := cell_at ky5 rfl
  have fy5 : y5.frozen? ⟨S2, 5, none⟩ = false := frozen_at ky5 5
  have ky6 : y6.heap[S2]? = some (.cells #[.int .i64 xid, .bool dn, .int .i64 fl, .string bo, .int .i64 acc, .int .i64 rej, .int .i64 0, .int .i64 0, .int .i64 0, .string ⟨#[]⟩] 46) := by rw [← hy6]; exact set_at ky5 5 _
  have By6 : Below w1.heap.size w1 y6 := by rw [← hy6]; exact below_set By5 hley
  clear ky5 By5
  obtain ⟨y7, hy7⟩ : ∃ y, y6.setCell ⟨S2, 6, none⟩ (.int .i64 why) = y := ⟨_, rfl⟩
  have zy6 : y6.cell? ⟨S2, 6, none⟩ = some (.int .i64 0) := cell_at ky6 rfl
  have fy6 : y6.frozen? ⟨S2, 6, none⟩ = false := frozen_at ky6 6
  have ky7 : y7.heap[S2]? = some (.cells #[.int .i64 xid, .bool dn, .int .i64 fl, .string bo, .int .i64 acc, .int .i64 rej, .int .i64 why, .int .i64 0, .int .i64 0, .string ⟨#[]⟩] 46) := by rw [← hy7]; exact set_at ky6 6 _
  have By7 : Below w1.heap.size w1 y7 := by rw [← hy7]; exact below_set By6 hley
  clear ky6 By6
  obtain ⟨y8, hy8⟩ : ∃ y, y7.setCell ⟨S2, 7, none⟩ (.int .i64 low) = y := ⟨_, rfl⟩
  have zy7 : y7.cell? ⟨S2, 7, none⟩ = some (.int .i64 0) := cell_at ky7 rfl
  have fy7 : y7.frozen? ⟨S2, 7, none⟩ = false := frozen_at ky7 7
  have ky8 : y8.heap[S2]? = some (.cells #[.int .i64 xid, .bool dn, .int .i64 fl, .string bo, .int .i64 acc, .int .i64 rej, .int .i64 why, .int .i64 low, .int .i64 0, .string ⟨#[]⟩] 46) := by rw [← hy8]; exact set_at ky7 7 _
  have By8 : Below w1.heap.size w1 y8 := by rw [← hy8]; exact below_set By7 hley
  clear ky7 By7
  obtain ⟨y9, hy9⟩ : ∃ y, y8.setCell ⟨S2, 8, none⟩ (.int .i64 high) = y := ⟨_, rfl⟩
  have zy8 : y8.cell? ⟨S2, 8, none⟩ = some (.int .i64 0) := cell_at ky8 rfl
  have fy8 : y8.frozen? ⟨S2, 8, none⟩ = false := frozen_at ky8 8
  have ky9 : y9.heap[S2]? = some (.cells #[.int .i64 xid, .bool dn, .int .i64 fl, .string bo, .int .i64 acc, .int .i64 rej, .int .i64 why, .int .i64 low, .int .i64 high, .string ⟨#[]⟩] 46) := by rw [← hy9]; exact set_at ky8 8 _
  have By9 : Below w1.heap.size w1 y9 := by rw [← hy9]; exact below_set By8 hley
  clear ky8 By8
  obtain ⟨w2, hw2⟩ : ∃ y, y9.setCell ⟨S2, 9, none⟩ (.string res) = y := ⟨_, rfl⟩
  have zy9 : y9.cell? ⟨S2, 9, none⟩ = some (.string ⟨#[]⟩) := cell_at ky9 rfl
  have fy9 : y9.frozen? ⟨S2, 9, none⟩ = false := frozen_at ky9 9
  have kw2 : w2.heap[S2]? = some (.cells #[.int .i64 xid, .bool dn, .int .i64 fl, .string bo, .int .i64 acc, .int .i64 rej, .int .i64 why, .int .i64 low, .int .i64 high, .string res] 46) := by rw [← hw2]; exact set_at ky9 9 _
  have Bw2 : Below w1.heap.size w1 w2 := by rw [← hw2]; exact below_set By9 hley
  clear ky9 By9
  clear ky0 By0 hley
  have HB2 : Hid (Below w0.heap.size w0 w2) := ((drewB w0 nq).trans hb1).trans (Bw2.mono hb1.size)
  have HK2 := hid kw2
  have r0 : w2.cell? ⟨S2, 0, none⟩ = some (.int .i64 xid) := cell_at kw2 rfl
  have s0 : w2.cell? ⟨S, 0, none⟩ = some (.int .i64 src) := cell_at ((HB2.out.block S HH.out.2.2.2.2.1).trans HH.out.2.2.2.1) rfl
  obtain ⟨K2, hK2⟩ : ∃ K2, ext w0 (ext w K (fun _ => t + 7)) (fun _ => t + 7) = K2 := ⟨_, rfl⟩
  have P2 : PC K2 w2 B t p c oa cap next now L D vw vd q := by rw [← hK2]; exact HH.out.2.1.below HB2.out (fun _ => t + 7)
  have m2 : Mv (fun _ => False) w w2 K K2 := by rw [← hK2]; exact (Mv.of_below HH.out.2.2.1 K _).trans (Mv.of_below HB2.out _ _)
  have HBw : Hid (Below w.heap.size w w2) := HH.out.2.2.1.trans (HB2.out.mono HH.out.2.2.1.size)
  have HK : Hid (K2 S2 = t + 7) := by
    rw [← hK2]
    refine ext_new ?_
    have := hb1.size
    have h2 : (w0.drewN nq).heap.size = w0.heap.size := rfl
    omega
  clear kw2 Bw2 hb1 HB2 hK2
  by_cases he : er = 0
  case neg =>
    have hne : (er != 0) = true := by simpa using he
    have HE := hid he
    clear P2 m2 he
    go_wp2
    go_ret
    exact .inl ⟨rfl, .inr (.inl HE.out), HBw.out⟩
  subst he
  have hI := P2.index_any S2 S xid src r0 s0 HL.out.1
  have HI := hid hI
  have c14 := P2.ce (k := 14) rfl
  obtain ⟨o14, c14', ew, _, hg⟩ := P2.wr.form
  rw [List.length_map] at ew hg
  subst ew
  obtain ⟨n, hn⟩ : ∃ n, L.length = n := ⟨_, rfl⟩
  rw [hn] at c14 HI
  have HP2 := hid P2
  have HM2 := hid m2
  have HG := hid hg
  have HN := hid hn
  clear P2 m2 hI hg hn
  go_wp2_with fail
  refine HI.out.mono ?_
  clear HI
  rintro _ w3 ⟨⟨nk, hw3⟩, hor⟩
  rcases hor with ⟨A, x, R, hLe, hea, hx, hA⟩ | ⟨rfl, hno⟩
  case inr =>
    have HF : Hid (∀ y ∈ L, hitW rr.xid src y = false) := by rw [hxid]; exact hno
    have HBB : Hid (Below w.heap.size w w3) := by rw [hw3]; exact HBw.out.trans ((drewB w2 nk).mono HBw.out.size)
    clear hno hw3 r0 s0
    go_wp2
    go_ret
    exact .inl ⟨rfl, .inr (.inr HF.out), HBB.out⟩
  obtain ⟨a, ha⟩ : ∃ a, A.length = a := ⟨_, rfl⟩
  rw [ha] at hea
  subst hea
  have han : a < n := by rw [← HN.out, hLe, ← ha]; simp
  have hai : (a : Int) < (n : Int) := by omega
  obtain ⟨g, rfl⟩ := HG.out (by rw [HN.out]; omega)
  have P3 := HP2.out.to (mv_drewN w2 K2 nk) (fun _ e => e.elim)
  rw [← hw3] at P3
  have m3 : Mv (fun _ => False) w w3 K K2 := HM2.out.trans (by rw [hw3]; exact mv_drewN w2 K2 nk)
  have c14 : w3.cell? ⟨p, 14, none⟩ = some (.slice (some ⟨g, 0, none⟩) n c14') := by rw [← HN.out]; exact P3.ce (k := 14) rfl
  have xg : w3.cell? ⟨g, a, none⟩ = some (ptr x.b) := by
    have := P3.wr.cell ptrL (by rw [List.length_map]) (j := a) (x := x.b) (by rw [hLe, List.map_append, List.getElem?_append_right (by simp; omega)]; simp [ha]) 0 (by omega)
    simpa [ptrC] using this
  have hxm : x ∈ L := by rw [hLe]; simp
  have hx3 := (P3.cs x hxm).me
  have x6 : w3.cell? ⟨x.b, 6, none⟩ = some (.int .i64 x.tms) := cell_at hx3.at_ rfl
  have x7 : w3.cell? ⟨x.b, 7, none⟩ = some (.int .i64 x.last) := cell_at hx3.at_ rfl
  have c13 : w3.cell? ⟨p, 13, none⟩ = some (.int .i64 now) := P3.ce (k := 13) rfl
  have c16 : w3.cell? ⟨p, 16, none⟩ = some (ptr q.blk) := P3.ce (k := 16) rfl
  have k3 : w3.heap[S2]? = some (.cells #[.int .i64 xid, .bool dn, .int .i64 fl, .string bo, .int .i64 acc, .int .i64 rej, .int .i64 why, .int .i64 low, .int .i64 high, .string res] 46) := by rw [hw3]; exact HK2.out
  have hnow := HH.out.2.2.2.2.2 x hxm
  have HX : Hid (A.length = a ∧ L = A ++ x :: R ∧ hitW xid src x = true ∧ (∀ y ∈ A, hitW xid src y = false)) := ⟨ha, hLe, hx, hA⟩
  have hxt : x.seq = xid := by
    unfold hitW at hx
    simp only [Bool.and_eq_true, decide_eq_true_eq] at hx
    exact hx.1
  have HQ : Hid (∀ w4 q', PC K2 w4 B t p c oa cap next now L D (.slice (some ⟨g, 0, none⟩) L.length c14') vd q' → Mv (fun u => u = t + 5) w3 w4 K2 K2 → MqR q q' now x →
      w4.heap[S2]? = some (.cells #[.int .i64 xid, .bool dn, .int .i64 fl, .string bo, .int .i64 acc, .int .i64 rej, .int .i64 why, .int .i64 low, .int .i64 high, .string res] 46) ∧ ∀ w5, Below w4.heap.size w4 w5 → Calls Tryz.prog 58 #[ptr p, .int .i64 (a : Int), .agg (ocC (outOf rr)).toArray] w5 fun e w' => (∃ v, e = .returned v) ∧ w'.cell? ⟨S2, 0, none⟩ = some (.int .i64 xid) ∧ Hid (∃ K' vw' vd' q', PC K' w' B t p c oa cap next now (A ++ R) (D ++ [{ outOf rr with seq := x.seq, at_ := now }]) vw' vd' q' ∧ MqR q q' now x ∧ Mv (fun u => u = t ∨ u = t + 1 ∨ u = t + 2 ∨ u = t + 5) w w' K K')) := by
    intro w4 q' P4 m4 hq
    have hl3 := (Array.getElem?_eq_some_iff.1 k3).1
    have k4 : w4.heap[S2]? = some (.cells #[.int .i64 xid, .bool dn, .int .i64 fl, .string bo, .int .i64 acc, .int .i64 rej, .int .i64 why, .int .i64 low, .int .i64 high, .string res] 46) := (m4.kept S2 hl3 (by rw [HK.out]; omega)).trans k3
    have hl4 := (Array.getElem?_eq_some_iff.1 k4).1
    refine ⟨k4, fun w5 hb5 => ?_⟩
    have P5 := P4.below hb5 (fun _ => t + 7)
    have m5 := Mv.of_below hb5 K2 (fun _ => t + 7)
    have hK5 : ext w4 K2 (fun _ => t + 7) S2 = t + 7 := (ext_old hl4).trans HK.out
    generalize ext w4 K2 (fun _ => t + 7) = K5 at P5 m5 hK5
    rw [hLe] at P5
    have hf := PC.finish_any (L1 := A) (L2 := R) (x := x) P5 (outOf rr) HL.out.2 (by have := HL.out.1; rw [hLe] at this; simp at this; omega)
    rw [ha] at hf
    refine hf.mono ?_
    rintro e w6 ⟨he, hh⟩
    obtain ⟨K6, vw6, vd6, P6, m6⟩ := hh.out
    have hl5 : S2 < w5.heap.size := Nat.lt_of_lt_of_le hl4 hb5.size
    refine ⟨he, ?_, ⟨K6, vw6, vd6, q', P6, hq, (m3.mono (fun _ e => e.elim)).trans ((m4.mono (fun u e => .inr (.inr (.inr e)))).trans ((m5.mono (fun _ e => e.elim)).trans (m6.mono (fun u e => e.elim .inl (fun e => e.elim (fun e => .inr (.inl e)) (fun e => .inr (.inr (.inl e))))))))⟩⟩
    exact cell_at (((m6.kept S2 hl5 (by rw [hK5]; omega)).trans (hb5.block S2 hl4)).trans k4) rfl
  have hfin : ∀ (e : Ending) (w6 : World), Hid (∃ K' vw' vd' q', PC K' w6 B t p c oa cap next now (A ++ R) (D ++ [{ outOf rr with seq := x.seq, at_ := now }]) vw' vd' q' ∧ MqR q q' now x ∧ Mv (fun u => u = t ∨ u = t + 1 ∨ u = t + 2 ∨ u = t + 5) w w6 K K') → e = .returned (.int .i64 xid) → HearQ K w w6 B t p c oa cap next now L D q src c.ad (rr, 0) e := by
    intro e w6 h6 he
    exact .inr ⟨A, x, R, by rw [hxid]; exact he, rfl, rfl, hLe, by rw [hxid]; exact hx, by rw [hxid]; exact hA, h6⟩
  have HFin := hid hfin
  by_cases h1 : x.tms = 1
  case neg =>
    have ht1 : (x.tms == 1) = false := by simpa using h1
    obtain ⟨k4, H5⟩ := HQ.out w3 q P3 (Mv.refl _ _ _) ⟨rfl, fun _ => rfl, fun e => absurd e h1⟩
    have H5 := hid H5
    have rv0 : w3.cell? ⟨S2, 0, none⟩ = some (.int .i64 xid) := cell_at k4 rfl
    have rv1 : w3.cell? ⟨S2, 1, none⟩ = some (.bool dn) := cell_at k4 rfl
    have rv2 : w3.cell? ⟨S2, 2, none⟩ = some (.int .i64 fl) := cell_at k4 rfl
    have rv3 : w3.cell? ⟨S2, 3, none⟩ = some (.string bo) := cell_at k4 rfl
    have rv4 : w3.cell? ⟨S2, 4, none⟩ = some (.int .i64 acc) := cell_at k4 rfl
    have rv5 : w3.cell? ⟨S2, 5, none⟩ = some (.int .i64 rej) := cell_at k4 rfl
    have rv6 : w3.cell? ⟨S2, 6, none⟩ = some (.int .i64 why) := cell_at k4 rfl
    have rv7 : w3.cell? ⟨S2, 7, none⟩ = some (.int .i64 low) := cell_at k4 rfl
    have rv8 : w3.cell? ⟨S2, 8, none⟩ = some (.int .i64 high) := cell_at k4 rfl
    have rv9 : w3.cell? ⟨S2, 9, none⟩ = some (.string res) := cell_at k4 rfl
    clear P3 m3 HX hx hA HQ hfin k3 k4 h1 hxt hxm hx3 hnow HK2 HP2 HM2 HBw HK hLe ha hw3 r0 s0 x7 c13 c16
    go_wp2_with fail
    refine (HO.out _).mono ?_
    rintro _ w5 ⟨rfl, hb5⟩
    have H6 := hid (H5.out w5 hb5)
    clear H5 hb5
    go_wp2_with fail
    refine H6.out.mono ?_
    rintro _ w6 ⟨⟨v6, rfl⟩, r6, H7⟩
    clear H6
    go_wp2
    go_ret
    exact HFin.out _ _ H7 rfl
  obtain ⟨a', b', hm, htw⟩ := P3.meter_any (now - x.last)
  have hsb : wrap64 (now - x.last) = now - x.last := by unfold wrap64; omega
  have hsi : IntKind.i64.wrap (now - x.last) = now - x.last := by rw [IntWalk.i64_left]; exact hsb
  have s0' : w3.drew.cell? ⟨p, 16, none⟩ = some (ptr q.blk) ∧ w3.drew.cell? ⟨p, 13, none⟩ = some (.int .i64 now) ∧ w3.drew.cell? ⟨x.b, 7, none⟩ = some (.int .i64 x.last) := ⟨c16, c13, x7⟩
  have HM : Hid (Calls Tryz.prog 86 #[ptr q.blk, .int .i64 (now - x.last)] w3.drew fun e w' => e = .returned (.tuple #[]) ∧ w'.heap[S2]? = some (.cells #[.int .i64 xid, .bool dn, .int .i64 fl, .string bo, .int .i64 acc, .int .i64 rej, .int .i64 why, .int .i64 low, .int .i64 high, .string res] 46) ∧ Hid (∀ w5, Below w'.heap.size w' w5 → Calls Tryz.prog 58 #[ptr p, .int .i64 (a : Int), .agg (ocC (outOf rr)).toArray] w5 fun e w' => (∃ v, e = .returned v) ∧ w'.cell? ⟨S2, 0, none⟩ = some (.int .i64 xid) ∧ Hid (∃ K' vw' vd' q', PC K' w' B t p c oa cap next now (A ++ R) (D ++ [{ outOf rr with seq := x.seq, at_ := now }]) vw' vd' q' ∧ MqR q q' now x ∧ Mv (fun u => u = t ∨ u = t + 1 ∨ u = t + 2 ∨ u = t + 5) w w' K K'))) := by
    refine (hm 1).mono ?_
    rintro e w4 ⟨he, h4⟩
    obtain ⟨k4, h5⟩ := HQ.out w4 _ h4.out.1 h4.out.2 ⟨rfl, fun e => absurd h1 e, fun _ => ⟨rfl, htw⟩⟩
    exact ⟨he, k4, h5⟩
  obtain ⟨df, hdf⟩ : ∃ df, now - x.last = df := ⟨_, rfl⟩
  rw [hdf] at hsb hsi HM
  rw [h1] at x6
  clear P3 m3 HX hx hA HQ hfin k3 h1 hxt hxm hx3 hnow HK2 HP2 HM2 HBw HK hLe ha hw3 r0 s0 hm htw
  go_wp2_with fail
  refine wp_region_last (S := fun w' => w'.cell? ⟨p, 16, none⟩ = some (ptr q.blk) ∧ w'.cell? ⟨p, 13, none⟩ = some (.int .i64 now) ∧ w'.cell? ⟨x.b, 7, none⟩ = some (.int .i64 x.last)) (n := 13) (by kernel_rfl) rfl (by kernel_rfl) (by kernel_rfl) ?_ (fun hHeld => ?_)
  · exact s0'
  refine wpAnyH_take (i := 0) (v := ?_) rfl (by kernel_rfl) (by kernel_rfl) (by kernel_rfl) (fun _ _ _ h => h) (Or.inl ⟨by rfl, ?_⟩) (by assumption) ?_
  rotate_left
  · (intro w hSw; (try dsimp only at hSw); go_simp; try with_reducible rfl)
  try simp only [Act.put]
  try simp only [List.setIfInBounds_toArray]
  try simp only [List.set_cons_succ]
  try simp only [List.set_cons_zero]
  refine wpAnyH_take (i := 1) (v := ?_) rfl (by kernel_rfl) (by kernel_rfl) (by kernel_rfl) (fun _ _ _ h => h) (Or.inl ⟨by rfl, ?_⟩) (by assumption) ?_
  rotate_left
  · (intro w hSw; (try dsimp only at hSw); go_simp; try with_reducible rfl)
  try simp only [Act.put]
  try simp only [List.setIfInBounds_toArray]
  try simp only [List.set_cons_succ]
  try simp only [List.set_cons_zero]
  refine wpAnyH_take (i := 2) (v := ?_) rfl (by kernel_rfl) (by kernel_rfl) (by kernel_rfl) (fun _ _ _ h => h) (Or.inl ⟨by rfl, ?_⟩) (by assumption) ?_
  rotate_left
  · (intro w hSw; (try dsimp only at hSw); go_simp; try with_reducible rfl)
  try simp only [Act.put]
  try simp only [List.setIfInBounds_toArray]
  try simp only [List.set_cons_succ]
  try simp only [List.set_cons_zero]
  refine wpAnyH_take (i := 3) (v := ?_) rfl (by kernel_rfl) (by kernel_rfl) (by kernel_rfl) (fun _ _ _ h => h) (Or.inl ⟨by rfl, ?_⟩) (by assumption) ?_
  rotate_left
  · (intro w hSw; (try dsimp only at hSw); go_simp; try with_reducible rfl)
  try simp only [Act.put]
  try simp only [List.setIfInBounds_toArray]
  try simp only [List.set_cons_succ]
  try simp only [List.set_cons_zero]
  refine wpAnyH_take (i := 4) (v := ?_) rfl (by kernel_rfl) (by kernel_rfl) (by kernel_rfl) (fun _ _ _ h => h) (Or.inl ⟨by rfl, ?_⟩) (by assumption) ?_
  rotate_left
  · (intro w hSw; (try dsimp only at hSw); go_simp; try with_reducible rfl)
  try simp only [Act.put]
  try simp only [List.setIfInBounds_toArray]
  try simp only [List.set_cons_succ]
  try simp only [List.set_cons_zero]
  refine wpAnyH_take (i := 5) (v := ?_) rfl (by kernel_rfl) (by kernel_rfl) (by kernel_rfl) (fun _ _ _ h => h) (Or.inl ⟨by rfl, ?_⟩) (by assumption) ?_
  rotate_left
  · (intro w hSw; (try dsimp only at hSw); go_simp; try with_reducible rfl)
  try simp only [Act.put]
  try simp only [List.setIfInBounds_toArray]
  try simp only [List.set_cons_succ]
  try simp only [List.set_cons_zero]
  refine wpAnyH_take (i := 6) (v := ?_) rfl (by kernel_rfl) (by kernel_rfl) (by kernel_rfl) (fun _ _ _ h => h) (Or.inl ⟨by rfl, ?_⟩) (by assumption) ?_
  rotate_left
  · (intro w hSw; (try dsimp only at hSw); go_simp; try with_reducible rfl)
  try simp only [Act.put]
  try simp only [List.setIfInBounds_toArray]
  try simp only [List.set_cons_succ]
  try simp only [List.set_cons_zero]
  refine wpAnyH_take (i := 7) (v := ?_) rfl (by kernel_rfl) (by kernel_rfl) (by kernel_rfl) (fun _ _ _ h => h) (Or.inl ⟨by rfl, ?_⟩) (by assumption) ?_
  rotate_left
  · (intro w hSw; (try dsimp only at hSw); go_simp; try with_reducible rfl)
  try simp only [Act.put]
  try simp only [List.setIfInBounds_toArray]
  try simp only [List.set_cons_succ]
  try simp only [List.set_cons_zero]
  refine wpAnyH_take (i := 8) (v := ?_) rfl (by kernel_rfl) (by kernel_rfl) (by kernel_rfl) (fun _ _ _ h => h) (Or.inl ⟨by rfl, ?_⟩) (by assumption) ?_
  rotate_left
  · (intro w hSw; (try dsimp only at hSw); go_simp; try with_reducible rfl)
  try simp only [Act.put]
  try simp only [List.setIfInBounds_toArray]
  try simp only [List.set_cons_succ]
  try simp only [List.set_cons_zero]
  refine wpAnyH_take (i := 9) (v := ?_) rfl (by kernel_rfl) (by kernel_rfl) (by kernel_rfl) (fun _ _ _ h => h) (Or.inl ⟨by rfl, ?_⟩) (by assumption) ?_
  rotate_left
  · (intro w hSw; (try dsimp only at hSw); go_simp; try with_reducible rfl)
  try simp only [Act.put]
  try simp only [List.setIfInBounds_toArray]
  try simp only [List.set_cons_succ]
  try simp only [List.set_cons_zero]
  refine wpAnyH_take (i := 10) (v := ?_) rfl (by kernel_rfl) (by kernel_rfl) (by kernel_rfl) (fun _ _ _ h => h) (Or.inl ⟨by rfl, ?_⟩) (by assumption) ?_
  rotate_left
  · (intro w hSw; (try dsimp only at hSw); go_simp; try with_reducible rfl)
  try simp only [Act.put]
  try simp only [List.setIfInBounds_toArray]
  try simp only [List.set_cons_succ]
  try simp only [List.set_cons_zero]
  refine wpAnyH_take (i := 11) (v := ?_) rfl (by kernel_rfl) (by kernel_rfl) (by kernel_rfl) (fun _ _ _ h => h) (Or.inl ⟨by rfl, ?_⟩) (by assumption) ?_
  rotate_left
  · (intro w hSw; (try dsimp only at hSw); go_simp; try with_reducible rfl)
  try simp only [Act.put]
  try simp only [List.setIfInBounds_toArray]
  try simp only [List.set_cons_succ]
  try simp only [List.set_cons_zero]
  refine wpAnyH_take (i := 12) (v := ?_) rfl (by kernel_rfl) (by kernel_rfl) (by kernel_rfl) (fun _ _ _ h => h) (Or.inl ⟨by rfl, ?_⟩) (by assumption) ?_
  rotate_left
  · (intro w hSw; (try dsimp only at hSw); go_simp; try with_reducible rfl)
  try simp only [Act.put]
  try simp only [List.setIfInBounds_toArray]
  try simp only [List.set_cons_succ]
  try simp only [List.set_cons_zero]
  refine wpAnyH_done (by kernel_rfl) ?_ _
  refine LastQ.done ?_
  refine wpOp_step (i := 13) rfl (fun KK hK => ?_)
  have HK := hid hK
  clear hK
  go_simp
  refine HM.out.mono ?_
  rintro _ w4 ⟨rfl, k4, H5⟩
  have rv0 : w4.cell? ⟨S2, 0, none⟩ = some (.int .i64 xid) := cell_at k4 rfl
  have rv1 : w4.cell? ⟨S2, 1, none⟩ = some (.bool dn) := cell_at k4 rfl
  have rv2 : w4.cell? ⟨S2, 2, none⟩ = some (.int .i64 fl) := cell_at k4 rfl
  have rv3 : w4.cell? ⟨S2, 3, none⟩ = some (.string bo) := cell_at k4 rfl
  have rv4 : w4.cell? ⟨S2, 4, none⟩ = some (.int .i64 acc) := cell_at k4 rfl
  have rv5 : w4.cell? ⟨S2, 5, none⟩ = some (.int .i64 rej) := cell_at k4 rfl
  have rv6 : w4.cell? ⟨S2, 6, none⟩ = some (.int .i64 why) := cell_at k4 rfl
  have rv7 : w4.cell? ⟨S2, 7, none⟩ = some (.int .i64 low) := cell_at k4 rfl
  have rv8 : w4.cell? ⟨S2, 8, none⟩ = some (.int .i64 high) := cell_at k4 rfl
  have rv9 : w4.cell? ⟨S2, 9, none⟩ = some (.string res) := cell_at k4 rfl
  refine HK.out _ _ ?_
  clear HK
  clear HM x6 x7 c13 c16 c14 xg hHeld
  go_wp2_with fail
  refine (HO.out _).mono ?_
  rintro _ w5 ⟨rfl, hb5⟩
  have H6 := hid (H5.out w5 hb5)
  clear H5 hb5
  go_wp2_with fail
  refine H6.out.mono ?_
  rintro _ w6 ⟨⟨v6, rfl⟩, r6, H7⟩
  clear H6
  go_wp2
  go_ret
  exact HFin.out _ _ H7 rfl
end
end Go.Proofs.YtfcbjcebkahehaaGreatDoor.Cl
