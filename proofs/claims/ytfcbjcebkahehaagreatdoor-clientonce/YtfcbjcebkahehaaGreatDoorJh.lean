/- The client: what is sent again. -/
import Derived.Test.YtfcbjcebkahehaaGreatDoorZbg
namespace Go.Proofs.YtfcbjcebkahehaaGreatDoor.Cl
open Go.RowKit
theorem requester_any (c : Cf) (oa : Option Addr) (cap : Nat) (dst seq prog vers proc : Int) (args : ByteArray) (w : World) :
    Calls Tryz.prog 55 #[.agg (cfA c oa cap), .int .i64 dst, .agg #[.int .i64 seq, .int .i64 2, .int .i64 prog, .int .i64 vers, .int .i64 proc, .int .i64 0, .string ⟨#[]⟩, .int .i64 0, .string ⟨#[]⟩, .string args]] w fun e w' =>
      e = .returned (.func (.func 93) #[] #[ptr (w.heap.size + 1 + 1), ptr w.heap.size, ptr (w.heap.size + 1)]) ∧ w' = ((w.alloc (cfB c oa cap)).alloc (.cells #[.int .i64 dst] 3)).alloc (.cells #[.int .i64 seq, .int .i64 2, .int .i64 prog, .int .i64 vers, .int .i64 proc, .int .i64 0, .string ⟨#[]⟩, .int .i64 0, .string ⟨#[]⟩, .string args] 108) := by
  go_enter Tryz.func55, Tryz.ntmps55
  go_wp2
  go_ret
  exact ⟨rfl, rfl⟩
/-- whom a request says to be from, and its water -/
def Wt.mark (x : Wt) (c : Cf) (water : Int) : MarkP := ⟨c.inst, x.seq, water, c.sys⟩
def credM (m : MarkP) : AuthP := if m.may then ⟨1296126539, m.body⟩ else ⟨0, []⟩
def Wt.reqC (x : Wt) (c : Cf) (water : Int) : CallP := ⟨x.seq, 2, x.prog, x.vers, x.proc, credM (x.mark c water), ⟨0, []⟩, x.args⟩
def Wt.data (x : Wt) (c : Cf) (water : Int) : List UInt8 := (pcP (x.reqC c water)).1
theorem prM_is (m : MarkP) : ∃ e, prV 1296126539 (printM m) = .tuple #[.agg #[.int .i64 (credM m).flavor, .string ⟨(credM m).body.toArray⟩], .int .i64 e] := by
  unfold printM credM
  by_cases h : m.may
  · rw [if_pos h, if_pos h]; exact ⟨_, rfl⟩
  · rw [if_neg h, if_neg h]; exact ⟨_, rfl⟩
section
variable {K K' : Nat → Nat} {w w' : World} {B t p : Nat} {c : Cf} {oa : Option Addr} {cap : Nat} {next now : Int} {L : List Wt} {D : List Oc} {vw vd : Value} {q : Mq}
set_option maxRecDepth 8000 in
set_option maxHeartbeats 4000000 in
theorem WtAt.request_any {x : Wt} (h : WtAt K w t c oa cap x) (water : Int) (hT : ErrT w) (hg : GsAt w w.heap.size oa c.sys.groups) (hcap : c.sys.groups.length ≤ cap) (hlen : (c.sys.groups.length : Int) ≤ 9223372036854775807) (ha : x.args.length ≤ 1000) :
    Calls Tryz.prog 93 #[.int .i64 water, ptr x.bx, ptr x.bc, ptr x.bt] w fun e w' => e = .returned (.agg #[.int .i64 c.ad, .int .i64 x.dst, .string ⟨(x.data c water).toArray⟩]) ∧ Below w.heap.size w w' := by
  have l1 : x.bx < w.heap.size := h.bx.lt
  have l2 : x.bc < w.heap.size := h.bc.lt
  have l3 : x.bt < w.heap.size := h.bt.lt
  have HC : Hid (∀ w', Below w.heap.size w w' → w'.heap[x.bx]? = some x.bxB ∧ w'.heap[x.bc]? = some (cfB c oa cap) ∧ w'.heap[x.bt]? = some (.cells #[.int .i64 x.dst] 3)) := fun w' hb => ⟨(hb.block _ l1).trans h.bx.at_, (hb.block _ l2).trans h.bc.at_, (hb.block _ l3).trans h.bt.at_⟩
  obtain ⟨S1, hS1⟩ : ∃ S1, w.heap.size = S1 := ⟨_, rfl⟩
  obtain ⟨w1, hw1⟩ : ∃ w1, w.alloc (.cells #[.int .i64 0, .int .i64 0, .string ⟨#[]⟩] 78) = w1 := ⟨_, rfl⟩
  have B1 : Below w.heap.size w w1 := by rw [← hw1]; exact (Below.refl _ _).alloc (Nat.le_refl _) _
  have k1 : w1.heap[S1]? = some (.cells #[.int .i64 0, .int .i64 0, .string ⟨#[]⟩] 78) := by rw [← hw1, ← hS1]; exact (MapKept.heap_alloc w _).1
  obtain ⟨S2, hS2⟩ : ∃ S2, w1.heap.size = S2 := ⟨_, rfl⟩
  obtain ⟨w2, hw2⟩ : ∃ w2, w1.alloc (.cells #[.int .i64 0, .int .i64 0, .int .i64 0, .int .i64 0, .int .i64 0, .int .i64 0, .string ⟨#[]⟩, .int .i64 0, .string ⟨#[]⟩, .string ⟨#[]⟩] 108) = w2 := ⟨_, rfl⟩
  have B2 : Below w.heap.size w w2 := by rw [← hw2]; exact B1.alloc B1.size _
  have k2 : w2.heap[S2]? = some (.cells #[.int .i64 0, .int .i64 0, .int .i64 0, .int .i64 0, .int .i64 0, .int .i64 0, .string ⟨#[]⟩, .int .i64 0, .string ⟨#[]⟩, .string ⟨#[]⟩] 108) := by rw [← hw2, ← hS2]; exact (MapKept.heap_alloc w1 _).1
  have hlt1 : S1 < S2 := by rw [← hS2]; exact (Array.getElem?_eq_some_iff.1 k1).1
  have k21 : w2.heap[S1]? = some (.cells #[.int .i64 0, .int .i64 0, .string ⟨#[]⟩] 78) := by rw [← hw2]; exact (Below.heap_alloc _ _ _ (by omega)).trans k1
  have hne : S1 ≠ S2 := by omega
  have hleS : w.heap.size ≤ S2 := by omega
  obtain ⟨v1, hv1⟩ : ∃ y, w2.setCell ⟨S2, 0, none⟩ (.int .i64 x.seq) = y := ⟨_, rfl⟩
  have z0 : w2.cell? ⟨S2, 0, none⟩ = some (.int .i64 0) := cell_at k2 rfl
  have f0 : w2.frozen? ⟨S2, 0, none⟩ = false := frozen_at k2 0
  have kv1 : v1.heap[S2]? = some (.cells #[.int .i64 x.seq, .int .i64 0, .int .i64 0, .int .i64 0, .int .i64 0, .int .i64 0, .string ⟨#[]⟩, .int .i64 0, .string ⟨#[]⟩, .string ⟨#[]⟩] 108) := by rw [← hv1]; exact set_at k2 0 _
  have Bv1 : Below w.heap.size w v1 := by rw [← hv1]; exact below_set B2 hleS
  have kw1 : v1.heap[S1]? = some (.cells #[.int .i64 0, .int .i64 0, .string ⟨#[]⟩] 78) := by rw [← hv1, Below.heap_setCell _ _ _ _ hne]; exact k21
  obtain ⟨v2, hv2⟩ : ∃ y, v1.setCell ⟨S2, 1, none⟩ (.int .i64 2) = y := ⟨_, rfl⟩
  have z1 : v1.cell? ⟨S2, 1, none⟩ = some (.int .i64 0) := cell_at kv1 rfl
  have f1 : v1.frozen? ⟨S2, 1, none⟩ = false := frozen_at kv1 1
  have kv2 : v2.heap[S2]? = some (.cells #[.int .i64 x.seq, .int .i64 2, .int .i64 0, .int .i64 0, .int .i64 0, .int .i64 0, .string ⟨#[]⟩, .int .i64 0, .string ⟨#[]⟩, .string ⟨#[]⟩] 108) := by rw [← hv2]; exact set_at kv1 1 _
  have Bv2 : Below w.heap.size w v2 := by rw [← hv2]; exact below_set Bv1 hleS
  have kw2 : v2.heap[S1]? = some (.cells #[.int .i64 0, .int .i64 0, .string ⟨#[]⟩] 78) := by rw [← hv2, Below.heap_setCell _ _ _ _ hne]; exact kw1
  clear kv1 Bv1 kw1
  obtain ⟨v3, hv3⟩ : ∃ y, v2.setCell ⟨S2, 2, none⟩ (.int .i64 x.prog) = y := ⟨_, rfl⟩
  have z2 : v2.cell? ⟨S2, 2, none⟩ = some (.int .i64 0) := cell_at kv2 rfl
  have f2 : v2.frozen? ⟨S2, 2, none⟩ = false := frozen_at kv2 2
  have kv3 : v3.heap[S2]? = some (.cells #[.int .i64 x.seq, .int .i64 2, .int .i64 x.prog, .int .i64 0, .int .i64 0, .int .i64 0, .string ⟨#[]⟩, .int .i64 0, .string ⟨#[]⟩, .string ⟨#[]⟩] 108) := by rw [← hv3]; exact set_at kv2 2 _
  have Bv3 : Below w.heap.size w v3 := by rw [← hv3]; exact below_set Bv2 hleS
  have kw3 : v3.heap[S1]? = some (.cells #[.int .i64 0, .int .i64 0, .string ⟨#[]⟩] 78) := by rw [← hv3, Below.heap_setCell _ _ _ _ hne]; exact kw2
  clear kv2 Bv2 kw2
  obtain ⟨v4, hv4⟩ : ∃ y, v3.setCell ⟨S2, 3, none⟩ (.int .i64 x.vers) = y := ⟨_, rfl⟩
  have z3 : v3.cell? ⟨S2, 3, none⟩ = some (.int .i64 0) := cell_at kv3 rfl
  have f3 : v3.frozen? ⟨S2, 3, none⟩ = false := frozen_at kv3 3
  have kv4 : v4.heap[S2]? = some (.cells #[.int .i64 x.seq, .int .i64 2, .int .i64 x.prog, .int .i64 x.vers, .int .i64 0, .int .i64 0, .string ⟨#[]⟩, .int .i64 0, .string ⟨#[]⟩, .string ⟨#[]⟩] 108) := by rw [← hv4]; exact set_at kv3 3 _
  have Bv4 : Below w.heap.size w v4 := by rw [← hv4]; exact below_set Bv3 hleS
  have kw4 : v4.heap[S1]? = some (.cells #[.int .i64 0, .int .i64 0, .string ⟨#[]⟩] 78) := by rw [← hv4, Below.heap_setCell _ _ _ _ hne]; exact kw3
  clear kv3 Bv3 kw3
  obtain ⟨v5, hv5⟩ : ∃ y, v4.setCell ⟨S2, 4, none⟩ (.int .i64 x.proc) = y := ⟨_, rfl⟩
  have z4 : v4.cell? ⟨S2, 4, none⟩ = some (.int .i64 0) := cell_at kv4 rfl
  have f4 : v4.frozen? ⟨S2, 4, none⟩ = false := frozen_at kv4 4
  have kv5 : v5.heap[S2]? = some (.cells #[.int .i64 x.seq, .int .i64 2, .int .i64 x.prog, .int .i64 x.vers, .int .i64 x.proc, .int .i64 0, .string ⟨#[]⟩, .int .i64 0, .string ⟨#[]⟩, .string ⟨#[]⟩] 108) := by rw [← hv5]; exact set_at kv4 4 _
  have Bv5 : Below w.heap.size w v5 := by rw [← hv5]; exact below_set Bv4 hleS
  have kw5 : v5.heap[S1]? = some (.cells #[.int .i64 0, .int .i64 0, .string ⟨#[]⟩] 78) := by rw [← hv5, Below.heap_setCell _ _ _ _ hne]; exact kw4
  clear kv4 Bv4 kw4
  obtain ⟨v6, hv6⟩ : ∃ y, v5.setCell ⟨S2, 5, none⟩ (.int .i64 0) = y := ⟨_, rfl⟩
  have z5 : v5.cell? ⟨S2, 5, none⟩ = some (.int .i64 0) := cell_at kv5 rfl
  have f5 : v5.frozen? ⟨S2, 5, none⟩ = false := frozen_at kv5 5
  have kv6 : v6.heap[S2]? = some (.cells #[.int .i64 x.seq, .int .i64 2, .int .i64 x.prog, .int .i64 x.vers, .int .i64 x.proc, .int .i64 0, .string ⟨#[]⟩, .int .i64 0, .string ⟨#[]⟩, .string ⟨#[]⟩] 108) := by rw [← hv6]; exact set_at kv5 5 _
  have Bv6 : Below w.heap.size w v6 := by rw [← hv6]; exact below_set Bv5 hleS
  have kw6 : v6.heap[S1]? = some (.cells #[.int .i64 0, .int .i64 0, .string ⟨#[]⟩] 78) := by rw [← hv6, Below.heap_setCell _ _ _ _ hne]; exact kw5
  clear kv5 Bv5 kw5
  obtain ⟨v7, hv7⟩ : ∃ y, v6.setCell ⟨S2, 6, none⟩ (.string ⟨#[]⟩) = y := ⟨_, rfl⟩
  have z6 : v6.cell? ⟨S2, 6, none⟩ = some (.string ⟨#[]⟩) := cell_at kv6 rfl
  have f6 : v6.frozen? ⟨S2, 6, none⟩ = false := frozen_at kv6 6
  have kv7 : v7.heap[S2]? = some (.cells #[.int .i64 x.seq, .int .i64 2, .int .i64 x.prog, .int .i64 x.vers, .int .i64 x.proc, .int .i64 0, .string ⟨#[]⟩, .int .i64 0, .string ⟨#[]⟩, .string ⟨#[]⟩] 108) := by rw [← hv7]; exact set_at kv6 6 _
  have Bv7 : Below w.heap.size w v7 := by rw [← hv7]; exact below_set Bv6 hleS
  have kw7 : v7.heap[S1]? = some (.cells #[.int .i64 0, .int .i64 0, .string ⟨#[]⟩] 78) := by rw [← hv7, Below.heap_setCell _ _ _ _ hne]; exact kw6
  clear kv6 Bv6 kw6
  obtain ⟨v8, hv8⟩ : ∃ y, v7.setCell ⟨S2, 7, none⟩ (.int .i64 0) = y := ⟨_, rfl⟩
  have z7 : v7.cell? ⟨S2, 7, none⟩ = some (.int .i64 0) := cell_at kv7 rfl
  have f7 : v7.frozen? ⟨S2, 7, none⟩ = false := frozen_at kv7 7
  have kv8 : v8.heap[S2]? = some (.cells #[.int .i64 x.seq, .int .i64 2, .int .i64 x.prog, .int .i64 x.vers, .int .i64 x.proc, .int .i64 0, .string ⟨#[]⟩, .int .i64 0, .string ⟨#[]⟩, .string ⟨#[]⟩] 108) := by rw [← hv8]; exact set_at kv7 7 _
  have Bv8 : Below w.heap.size w v8 := by rw [← hv8]; exact below_set Bv7 hleS
  have kw8 : v8.heap[S1]? = some (.cells #[.int .i64 0, .int .i64 0, .string ⟨#[]⟩] 78) := by rw [← hv8, Below.heap_setCell _ _ _ _ hne]; exact kw7
  clear kv7 Bv7 kw7
  obtain ⟨v9, hv9⟩ : ∃ y, v8.setCell ⟨S2, 8, none⟩ (.string ⟨#[]⟩) = y := ⟨_, rfl⟩
  have z8 : v8.cell? ⟨S2, 8, none⟩ = some (.string ⟨#[]⟩) := cell_at kv8 rfl
  have f8 : v8.frozen? ⟨S2, 8, none⟩ = false := frozen_at kv8 8
  have kv9 : v9.heap[S2]? = some (.cells #[.int .i64 x.seq, .int .i64 2, .int .i64 x.prog, .int .i64 x.vers, .int .i64 x.proc, .int .i64 0, .string ⟨#[]⟩, .int .i64 0, .string ⟨#[]⟩, .string ⟨#[]⟩] 108) := by rw [← hv9]; exact set_at kv8 8 _
  have Bv9 : Below w.heap.size w v9 := by rw [← hv9]; exact below_set Bv8 hleS
  have kw9 : v9.heap[S1]? = some (.cells #[.int .i64 0, .int .i64 0, .string ⟨#[]⟩] 78) := by rw [← hv9, Below.heap_setCell _ _ _ _ hne]; exact kw8
  clear kv8 Bv8 kw8
  obtain ⟨w3, hw3⟩ : ∃ y, v9.setCell ⟨S2, 9, none⟩ (.string ⟨x.args.toArray⟩) = y := ⟨_, rfl⟩
  have z9 : v9.cell? ⟨S2, 9, none⟩ = some (.string ⟨#[]⟩) := cell_at kv9 rfl
  have f9 : v9.frozen? ⟨S2, 9, none⟩ = false := frozen_at kv9 9
  have k3 : w3.heap[S2]? = some (.cells #[.int .i64 x.seq, .int .i64 2, .int .i64 x.prog, .int .i64 x.vers, .int .i64 x.proc, .int .i64 0, .string ⟨#[]⟩, .int .i64 0, .string ⟨#[]⟩, .string ⟨x.args.toArray⟩] 108) := by rw [← hw3]; exact set_at kv9 9 _
  have B3 : Below w.heap.size w w3 := by rw [← hw3]; exact below_set Bv9 hleS
  have k31 : w3.heap[S1]? = some (.cells #[.int .i64 0, .int .i64 0, .string ⟨#[]⟩] 78) := by rw [← hw3, Below.heap_setCell _ _ _ _ hne]; exact kw9
  clear kv9 Bv9 kw9
  have hle : w.heap.size ≤ S2 := by omega
  have a0 : w1.cell? ⟨x.bx, 0, none⟩ = some (.int .i64 x.seq) := cell_at (HC.out w1 B1).1 rfl
  have a1 : w1.cell? ⟨x.bx, 1, none⟩ = some (.int .i64 2) := cell_at (HC.out w1 B1).1 rfl
  have a2 : w1.cell? ⟨x.bx, 2, none⟩ = some (.int .i64 x.prog) := cell_at (HC.out w1 B1).1 rfl
  have a3 : w1.cell? ⟨x.bx, 3, none⟩ = some (.int .i64 x.vers) := cell_at (HC.out w1 B1).1 rfl
  have a4 : w1.cell? ⟨x.bx, 4, none⟩ = some (.int .i64 x.proc) := cell_at (HC.out w1 B1).1 rfl
  have a5 : w1.cell? ⟨x.bx, 5, none⟩ = some (.int .i64 0) := cell_at (HC.out w1 B1).1 rfl
  have a6 : w1.cell? ⟨x.bx, 6, none⟩ = some (.string ⟨#[]⟩) := cell_at (HC.out w1 B1).1 rfl
  have a7 : w1.cell? ⟨x.bx, 7, none⟩ = some (.int .i64 0) := cell_at (HC.out w1 B1).1 rfl
  have a8 : w1.cell? ⟨x.bx, 8, none⟩ = some (.string ⟨#[]⟩) := cell_at (HC.out w1 B1).1 rfl
  have a9 : w1.cell? ⟨x.bx, 9, none⟩ = some (.string ⟨x.args.toArray⟩) := cell_at (HC.out w1 B1).1 rfl
  have e0 : w3.cell? ⟨x.bx, 0, none⟩ = some (.int .i64 x.seq) := cell_at (HC.out w3 B3).1 rfl
  have c0 : w3.cell? ⟨x.bc, 0, none⟩ = some (.int .i64 c.ad) := cell_at (HC.out w3 B3).2.1 rfl
  have c1 : w3.cell? ⟨x.bc, 1, none⟩ = some (.int .i64 c.inst) := cell_at (HC.out w3 B3).2.1 rfl
  have c7 : w3.cell? ⟨x.bc, 7, none⟩ = some (.int .i64 c.sys.stamp) := cell_at (HC.out w3 B3).2.1 rfl
  have c8 : w3.cell? ⟨x.bc, 8, none⟩ = some (.string ⟨c.sys.machine.toArray⟩) := cell_at (HC.out w3 B3).2.1 rfl
  have c9 : w3.cell? ⟨x.bc, 9, none⟩ = some (.int .i64 c.sys.user) := cell_at (HC.out w3 B3).2.1 rfl
  have c10 : w3.cell? ⟨x.bc, 10, none⟩ = some (.int .i64 c.sys.group) := cell_at (HC.out w3 B3).2.1 rfl
  have c11 : w3.cell? ⟨x.bc, 11, none⟩ = some (.slice oa c.sys.groups.length cap) := cell_at (HC.out w3 B3).2.1 rfl
  obtain ⟨ec, hpr⟩ := prM_is (x.mark c water)
  have HM : Hid (Calls Tryz.prog 94 #[.agg #[.int .i64 c.inst, .int .i64 x.seq, .int .i64 water, .int .i64 c.sys.stamp, .string ⟨c.sys.machine.toArray⟩, .int .i64 c.sys.user, .int .i64 c.sys.group, .slice oa c.sys.groups.length cap]] w3 fun e w' => e = .returned (.tuple #[.agg #[.int .i64 (credM (x.mark c water)).flavor, .string ⟨(credM (x.mark c water)).body.toArray⟩], .int .i64 ec]) ∧ Below w3.heap.size w3 w') := by
    have := printMark_any (x.mark c water) oa cap w3 (hT.below B3) (fun h0 => by
      obtain ⟨q, off, e1, e2, e3⟩ := (hg.below B3) h0
      exact ⟨q, off, e1, Nat.lt_of_lt_of_le e2 B3.size, e3⟩) hcap hlen
    rw [hpr] at this
    exact this
  obtain ⟨fl, hfl⟩ : ∃ fl, (credM (x.mark c water)).flavor = fl := ⟨_, rfl⟩
  obtain ⟨bo, hbo⟩ : ∃ bo, (⟨(credM (x.mark c water)).body.toArray⟩ : ByteArray) = bo := ⟨_, rfl⟩
  rw [hfl, hbo] at HM
  have HP : Hid (∀ w', ErrT w' → Calls Tryz.prog 95 #[.agg #[.int .i64 x.seq, .int .i64 2, .int .i64 x.prog, .int .i64 x.vers, .int .i64 x.proc, .int .i64 fl, .string bo, .int .i64 0, .string ⟨#[]⟩, .string ⟨x.args.toArray⟩]] w' fun e w'' => ∃ ed, e = .returned (.tuple #[.string ⟨(x.data c water).toArray⟩, .int .i64 ed]) ∧ Below w'.heap.size w' w'') := fun w' hT' => by
    refine (printCall_any (x.reqC c water) w' hT' (by show x.args.length ≤ _; omega)).mono ?_ |> fun hh => by
      rw [← hfl, ← hbo]
      exact hh
    rintro _ w'' ⟨rfl, hb⟩
    exact ⟨_, rfl, hb⟩
  have HK : Hid (w3.heap[S2]? = some (.cells #[.int .i64 x.seq, .int .i64 2, .int .i64 x.prog, .int .i64 x.vers, .int .i64 x.proc, .int .i64 0, .string ⟨#[]⟩, .int .i64 0, .string ⟨#[]⟩, .string ⟨x.args.toArray⟩] 108) ∧ w3.heap[S1]? = some (.cells #[.int .i64 0, .int .i64 0, .string ⟨#[]⟩] 78) ∧ Below w.heap.size w w3 ∧ w.heap.size = S1 ∧ S1 < S2 ∧ ErrT w3) := ⟨k3, k31, B3, hS1, hlt1, hT.below B3⟩
  have HT0 := hid hT
  clear h hT hg hcap hlen ha l1 l2 l3 B1 k1 B2 k2 k21 k3 B3 k31 hle hlt1 hpr hfl hbo hne hleS
  go_enter Tryz.func93, Tryz.ntmps93
  go_wp2_with fail
  refine HM.out.mono ?_
  rintro _ w4 ⟨rfl, hb4⟩
  clear a0 a1 a2 a3 a4 a5 a6 a7 a8 a9 z0 z1 z2 z3 z4 z5 z6 z7 z8 z9 f0 f1 f2 f3 f4 f5 f6 f7 f8 f9 hv1 hv2 hv3 hv4 hv5 hv6 hv7 hv8 hv9 e0 c0 c1 c7 c8 c9 c10 c11 hw1 hw2 hw3 HM
  have k4 : w4.heap[S2]? = some (.cells #[.int .i64 x.seq, .int .i64 2, .int .i64 x.prog, .int .i64 x.vers, .int .i64 x.proc, .int .i64 0, .string ⟨#[]⟩, .int .i64 0, .string ⟨#[]⟩, .string ⟨x.args.toArray⟩] 108) := (hb4.block _ (Array.getElem?_eq_some_iff.1 HK.out.1).1).trans HK.out.1
  have k41 := (hb4.block _ (Array.getElem?_eq_some_iff.1 HK.out.2.1).1).trans HK.out.2.1
  have B4 : Below w.heap.size w w4 := HK.out.2.2.1.trans (hb4.mono HK.out.2.2.1.size)
  obtain ⟨w5, hw5⟩ : ∃ w5, (w4.setCell ⟨S2, 5, none⟩ (.int .i64 fl)).setCell ⟨S2, 6, none⟩ (.string bo) = w5 := ⟨_, rfl⟩
  have k5 : w5.heap[S2]? = some (.cells #[.int .i64 x.seq, .int .i64 2, .int .i64 x.prog, .int .i64 x.vers, .int .i64 x.proc, .int .i64 fl, .string bo, .int .i64 0, .string ⟨#[]⟩, .string ⟨x.args.toArray⟩] 108) := by
    rw [← hw5]
    exact set_at (set_at k4 5 _) 6 _
  have hle : w.heap.size ≤ S2 := by have := HK.out.2.2.2; omega
  have B5 : Below w.heap.size w w5 := by rw [← hw5]; exact below_set (below_set B4 hle) hle
  have k51 : w5.heap[S1]? = some (.cells #[.int .i64 0, .int .i64 0, .string ⟨#[]⟩] 78) := by
    rw [← hw5]
    have hne : S1 ≠ S2 := by have := HK.out.2.2.2; omega
    rw [Below.heap_setCell _ _ _ _ hne, Below.heap_setCell _ _ _ _ hne]
    exact k41
  have z5 : w4.cell? ⟨S2, 5, none⟩ = some (.int .i64 0) := cell_at k4 rfl
  have z6 : w4.cell? ⟨S2, 6, none⟩ = some (.string ⟨#[]⟩) := cell_at k4 rfl
  have f4 : ∀ n, w4.frozen? ⟨S2, n, none⟩ = false := fun n => frozen_at k4 n
  have g0 : w5.cell? ⟨S2, 0, none⟩ = some (.int .i64 x.seq) := cell_at k5 rfl
  have g1 : w5.cell? ⟨S2, 1, none⟩ = some (.int .i64 2) := cell_at k5 rfl
  have g2 : w5.cell? ⟨S2, 2, none⟩ = some (.int .i64 x.prog) := cell_at k5 rfl
  have g3 : w5.cell? ⟨S2, 3, none⟩ = some (.int .i64 x.vers) := cell_at k5 rfl
  have g4 : w5.cell? ⟨S2, 4, none⟩ = some (.int .i64 x.proc) := cell_at k5 rfl
  have g5 : w5.cell? ⟨S2, 5, none⟩ = some (.int .i64 fl) := cell_at k5 rfl
  have g6 : w5.cell? ⟨S2, 6, none⟩ = some (.string bo) := cell_at k5 rfl
  have g7 : w5.cell? ⟨S2, 7, none⟩ = some (.int .i64 0) := cell_at k5 rfl
  have g8 : w5.cell? ⟨S2, 8, none⟩ = some (.string ⟨#[]⟩) := cell_at k5 rfl
  have g9 : w5.cell? ⟨S2, 9, none⟩ = some (.string ⟨x.args.toArray⟩) := cell_at k5 rfl
  have E5 : ErrT w5 := HT0.out.below B5
  have HP5 := hid (HP.out w5 E5)
  have HK5 : Hid (w5.heap[S1]? = some (.cells #[.int .i64 0, .int .i64 0, .string ⟨#[]⟩] 78) ∧ Below w.heap.size w w5) := ⟨k51, B5⟩
  clear k4 k41 B4 k5 hle B5 k51 E5 hb4 HP
  go_wp2_with fail
  refine HP5.out.mono ?_
  rintro _ w6 ⟨ed, rfl, hb6⟩
  have k6 := (hb6.block _ (Array.getElem?_eq_some_iff.1 HK5.out.1).1).trans HK5.out.1
  have B6 : Below w.heap.size w w6 := HK5.out.2.trans (hb6.mono HK5.out.2.size)
  have q0 : w6.cell? ⟨x.bc, 0, none⟩ = some (.int .i64 c.ad) := cell_at (HC.out w6 B6).2.1 rfl
  have q1 : w6.cell? ⟨x.bt, 0, none⟩ = some (.int .i64 x.dst) := cell_at (HC.out w6 B6).2.2 rfl
  have r0 : w6.cell? ⟨S1, 0, none⟩ = some (.int .i64 0) := cell_at k6 rfl
  have r1 : w6.cell? ⟨S1, 1, none⟩ = some (.int .i64 0) := cell_at k6 rfl
  have r2 : w6.cell? ⟨S1, 2, none⟩ = some (.string ⟨#[]⟩) := cell_at k6 rfl
  have f6 : ∀ n, w6.frozen? ⟨S1, n, none⟩ = false := fun n => frozen_at k6 n
  obtain ⟨dt, hdt⟩ : ∃ dt, (⟨(x.data c water).toArray⟩ : ByteArray) = dt := ⟨_, rfl⟩
  rw [hdt]
  obtain ⟨w7, hw7⟩ : ∃ w7, ((w6.setCell ⟨S1, 0, none⟩ (.int .i64 c.ad)).setCell ⟨S1, 1, none⟩ (.int .i64 x.dst)).setCell ⟨S1, 2, none⟩ (.string dt) = w7 := ⟨_, rfl⟩
  have k7 : w7.heap[S1]? = some (.cells #[.int .i64 c.ad, .int .i64 x.dst, .string dt] 78) := by rw [← hw7]; exact set_at (set_at (set_at k6 0 _) 1 _) 2 _
  have HB7 : Hid (Below w.heap.size w w7) := by
    have hle : w.heap.size ≤ S1 := by have := HK.out.2.2.2; omega
    show Below _ _ _
    rw [← hw7]
    exact below_set (below_set (below_set B6 hle) hle) hle
  have p0 : w7.cell? ⟨S1, 0, none⟩ = some (.int .i64 c.ad) := cell_at k7 rfl
  have p1 : w7.cell? ⟨S1, 1, none⟩ = some (.int .i64 x.dst) := cell_at k7 rfl
  have p2 : w7.cell? ⟨S1, 2, none⟩ = some (.string dt) := cell_at k7 rfl
  clear k6 k7 hb6 B6 g0 g1 g2 g3 g4 g5 g6 g7 g8 g9 z5 z6 f4 hw5 HP5 HC HK HK5
  go_wp2
  refine bodyPost_ret (v := .agg #[.int .i64 c.ad, .int .i64 x.dst, .string dt]) (by simp [results, Tryz.results93, go_sem, p0, p1, p2]) rfl ⟨by rw [hdt], HB7.out⟩
end
end Go.Proofs.YtfcbjcebkahehaaGreatDoor.Cl
