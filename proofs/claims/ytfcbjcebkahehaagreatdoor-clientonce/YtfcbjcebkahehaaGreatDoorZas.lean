/- The client: what is sent again. The client: a call that is due, and given. The client: kept; Done; who is refused. -/
import Derived.Test.YtfcbjcebkahehaaGreatDoorZaq
namespace Go.Proofs.YtfcbjcebkahehaaGreatDoor.Cl
open Go.RowKit
theorem requester_any (c : Cf) (oa : Option Addr) (cap : Nat) (dst seq prog vers proc : Int) (args : ByteArray) (w : World) :
    Calls Tryz.prog 55 #[.agg (cfA c oa cap), .int .i64 dst, .agg #[.int .i64 seq, .int .i64 2, .int .i64 prog, .int .i64 vers, .int .i64 proc, .int .i64 0, .string ⟨#[]⟩, .int .i64 0, .string ⟨#[]⟩, .string args]] w fun e w' =>
      e = .returned (.func (.func 93) #[] #[ptr (w.heap.size + 1 + 1), ptr w.heap.size, ptr (w.heap.size + 1)]) ∧ w' = ((w.alloc (cfB c oa cap)).alloc (.cells #[.int .i64 dst] 3)).alloc (.cells #[.int .i64 seq, .int .i64 2, .int .i64 prog, .int .i64 vers, .int .i64 proc, .int .i64 0, .string ⟨#[]⟩, .int .i64 0, .string ⟨#[]⟩, .string args] 108) := by
  go_enter Tryz.func55, Tryz.ntmps55
  go_wp2
  go_ret
  exact ⟨rfl, rfl⟩
/-- whom a request says to be from, and its water -/
def Wt.mark (x : Wt) (c : Cf) (water : Int) : MarkP := ⟨c.inst, x.seq, water, c.sys⟩
def credM (m : MarkP) : AuthP := if m.may then ⟨1296126539, m.body⟩ else ⟨0, []⟩
def Wt.reqC (x : Wt) (c : Cf) (water : Int) : CallP := ⟨x.seq, 2, x.prog, x.vers, x.proc, credM (x.mark c water), ⟨0, []⟩, x.args⟩
def Wt.data (x : Wt) (c : Cf) (water : Int) : List UInt8 := (pcP (x.reqC c water)).1
theorem prM_is (m : MarkP) : ∃ e, prV 1296126539 (printM m) = .tuple #[.agg #[.int .i64 (credM m).flavor, .string ⟨(credM m).body.toArray⟩], .int .i64 e] := by
  unfold printM credM
  by_cases h : m.may
  · rw [if_pos h, if_pos h]; exact ⟨_, rfl⟩
  · rw [if_neg h, if_neg h]; exact ⟨_, rfl⟩
section
variable {K K' : Nat → Nat} {w w' : World} {B t p : Nat} {c : Cf} {oa : Option Addr} {cap : Nat} {next now : Int} {L : List Wt} {D : List Oc} {vw vd : Value} {q : Mq}
set_option maxRecDepth 8000 in
set_option maxHeartbeats 4000000 in
theorem WtAt.request_any {x : Wt} (h : WtAt K w t c oa cap x) (water : Int) (hT : ErrT w) (hg : GsAt w w.heap.size oa c.sys.groups) (hcap : c.sys.groups.length ≤ cap) (hlen : (c.sys.groups.length : Int) ≤ 9223372036854775807) (ha : x.args.length ≤ 1000) :
    Calls Tryz.prog 93 #[.int .i64 water, ptr x.bx, ptr x.bc, ptr x.bt] w fun e w' => e = .returned (.agg #[.int .i64 c.ad, .int .i64 x.dst, .string ⟨(x.data c water).toArray⟩]) ∧ Below w.heap.size w w' := by
  have l1 : x.bx < w.heap.size := h.bx.lt
  have l2 : x.bc < w.heap.size := h.bc.lt
  have l3 : x.bt < w.heap.size := h.bt.lt
  have HC : Hid (∀ w', Below w.heap.size w w' → w'.heap[x.bx]? = some x.bxB ∧ w'.heap[x.bc]? = some (cfB c oa cap) ∧ w'.heap[x.bt]? = some (.cells #[.int .i64 x.dst] 3)) := fun w' hb => ⟨(hb.block _ l1).trans h.bx.at_, (hb.block _ l2).trans h.bc.at_, (hb.block _ l3).trans h.bt.at_⟩
  obtain ⟨S1, hS1⟩ : ∃ S1, w.heap.size = S1 := ⟨_, rfl⟩
  obtain ⟨w1, hw1⟩ : ∃ w1, w.alloc (.cells #[.int .i64 0, .int .i64 0, .string ⟨#[]⟩] 78) = w1 := ⟨_, rfl⟩
  have B1 : Below w.heap.size w w1 := by rw [← hw1]; exact (Below.refl _ _).alloc (Nat.le_refl _) _
  have k1 : w1.heap[S1]? = some (.cells #[.int .i64 0, .int .i64 0, .string ⟨#[]⟩] 78) := by rw [← hw1, ← hS1]; exact (MapKept.heap_alloc w _).1
  obtain ⟨S2, hS2⟩ : ∃ S2, w1.heap.size = S2 := ⟨_, rfl⟩
  obtain ⟨w2, hw2⟩ : ∃ w2, w1.alloc (.cells #[.int .i64 0, .int .i64 0, .int .i64 0, .int .i64 0, .int .i64 0, .int .i64 0, .string ⟨#[]⟩, .int .i64 0, .string ⟨#[]⟩, .string ⟨#[]⟩] 108) = w2 := ⟨_, rfl⟩
  have B2 : Below w.heap.size w w2 := by rw [← hw2]; exact B1.alloc B1.size _
  have k2 : w2.heap[S2]? = some (.cells #[.int .i64 0, .int .i64 0, .int .i64 0, .int .i64 0, .int .i64 0, .int .i64 0, .string ⟨#[]⟩, .int .i64 0, .string ⟨#[]⟩, .string ⟨#[]⟩] 108) := by rw [← hw2, ← hS2]; exact (MapKept.heap_alloc w1 _).1
  have hlt1 : S1 < S2 := by rw [← hS2]; exact (Array.getElem?_eq_some_iff.1 k1).1
  have k21 : w2.heap[S1]? = some (.cells #[.int .i64 0, .int .i64 0, .string ⟨#[]⟩] 78) := by rw [← hw2]; exact (Below.heap_alloc _ _ _ (by omega)).trans k1
  have hne : S1 ≠ S2 := by omega
  have hleS : w.heap.size ≤ S2 := by omega
  obtain ⟨v1, hv1⟩ : ∃ y, w2.setCell ⟨S2, 0, none⟩ (.int .i64 x.seq) = y := ⟨_, rfl⟩
  have z0 : w2.cell? ⟨S2, 0, none⟩ = some (.int .i64 0) := cell_at k2 rfl
  have f0 : w2.frozen? ⟨S2, 0, none⟩ = false := frozen_at k2 0
  have kv1 : v1.heap[S2]? = some (.cells #[.int .i64 x.seq, .int .i64 0, .int .i64 0, .int .i64 0, .int .i64 0, .int .i64 0, .string ⟨#[]⟩, .int .i64 0, .string ⟨#[]⟩, .string ⟨#[]⟩] 108) := by rw [← hv1]; exact set_at k2 0 _
  have Bv1 : Below w.heap.size w v1 := by rw [← hv1]; exact below_set B2 hleS
  have kw1 : v1.heap[S1]? = some (.cells #[.int .i64 0, .int .i64 0, .string ⟨#[]⟩] 78) := by rw [← hv1, Below.heap_setCell _ _ _ _ hne]; exact k21
  obtain ⟨v2, hv2⟩ : ∃ y, v1.setCell ⟨S2, 1, none⟩ (.int .i64 2) = y := ⟨_, rfl⟩
  have z1 : v1.cell? ⟨S2, 1, none⟩ = some (.int .i64 0) := cell_at kv1 rfl
  have f1 : v1.frozen? ⟨S2, 1, none⟩ = false := frozen_at kv1 1
  have kv2 : v2.heap[S2]? = some (.cells #[.int .i64 x.seq, .int .i64 2, .int .i64 0, .int .i64 0, .int .i64 0, .int .i64 0, .string ⟨#[]⟩, .int .i64 0, .string ⟨#[]⟩, .string ⟨#[]⟩] 108) := by rw [← hv2]; exact set_at kv1 1 _
  have Bv2 : Below w.heap.size w v2 := by rw [← hv2]; exact below_set Bv1 hleS
  have kw2 : v2.heap[S1]? = some (.cells #[.int .i64 0, .int .i64 0, .string ⟨#[]⟩] 78) := by rw [← hv2, Below.heap_setCell _ _ _ _ hne]; exact kw1
  clear kv1 Bv1 kw1
  obtain ⟨v3, hv3⟩ : ∃ y, v2.setCell ⟨S2, 2, none⟩ (.int .i64 x.prog) = y := ⟨_, rfl⟩
  have z2 : v2.cell? ⟨S2, 2, none⟩ = some (.int .i64 0) := cell_at kv2 rfl
  have f2 : v2.frozen? ⟨S2, 2, none⟩ = false := frozen_at kv2 2
  have kv3 : v3.heap[S2]? = some (.cells #[.int .i64 x.seq, .int .i64 2, .int .i64 x.prog, .int .i64 0, .int .i64 0, .int .i64 0, .string ⟨#[]⟩, .int .i64 0, .string ⟨#[]⟩, .string ⟨#[]⟩] 108) := by rw [← hv3]; exact set_at kv2 2 _
  have Bv3 : Below w.heap.size w v3 := by rw [← hv3]; exact below_set Bv2 hleS
  have kw3 : v3.heap[S1]? = some (.cells #[.int .i64 0, .int .i64 0, .string ⟨#[]⟩] 78) := by rw [← hv3, Below.heap_setCell _ _ _ _ hne]; exact kw2
  clear kv2 Bv2 kw2
  obtain ⟨v4, hv4⟩ : ∃ y, v3.setCell ⟨S2, 3, none⟩ (.int .i64 x.vers) = y := ⟨_, rfl⟩
  have z3 : v3.cell? ⟨S2, 3, none⟩ = some (.int .i64 0) := cell_at kv3 rfl
  have f3 : v3.frozen? ⟨S2, 3, none⟩ = false := frozen_at kv3 3
  have kv4 : v4.heap[S2]? = some (.cells #[.int .i64 x.seq, .int .i64 2, .int .i64 x.prog, .int .i64 x.vers, .int .i64 0, .int .i64 0, .string ⟨#[]⟩, .int .i64 0, .string ⟨#[]⟩, .string ⟨#[]⟩] 108) := by rw [← hv4]; exact set_at kv3 3 _
  have Bv4 : Below w.heap.size w v4 := by rw [← hv4]; exact below_set Bv3 hleS
  have kw4 : v4.heap[S1]? = some (.cells #[.int .i64 0, .int .i64 0, .string ⟨#[]⟩] 78) := by rw [← hv4, Below.heap_setCell _ _ _ _ hne]; exact kw3
  clear kv3 Bv3 kw3
  obtain ⟨v5, hv5⟩ : ∃ y, v4.setCell ⟨S2, 4, none⟩ (.int .i64 x.proc) = y := ⟨_, rfl⟩
  have z4 : v4.cell? ⟨S2, 4, none⟩ = some (.int .i64 0) := cell_at kv4 rfl
  have f4 : v4.frozen? ⟨S2, 4, none⟩ = false := frozen_at kv4 4
  have kv5 : v5.heap[S2]? = some (.cells #[.int .i64 x.seq, .int .i64 2, .int .i64 x.prog, .int .i64 x.vers, .int .i64 x.proc, .int .i64 0, .string ⟨#[]⟩, .int .i64 0, .string ⟨#[]⟩, .string ⟨#[]⟩] 108) := by rw [← hv5]; exact set_at kv4 4 _
  have Bv5 : Below w.heap.size w v5 := by rw [← hv5]; exact below_set Bv4 hleS
  have kw5 : v5.heap[S1]? = some (.cells #[.int .i64 0, .int .i64 0, .string ⟨#[]⟩] 78) := by rw [← hv5, Below.heap_setCell _ _ _ _ hne]; exact kw4
  clear kv4 Bv4 kw4
  obtain ⟨v6, hv6⟩ : ∃ y, v5.setCell ⟨S2, 5, none⟩ (.int .i64 0) = y := ⟨_, rfl⟩
  have z5 : v5.cell? ⟨S2, 5, none⟩ = some (.int .i64 0) := cell_at kv5 rfl
  have f5 : v5.frozen? ⟨S2, 5, none⟩ = false := frozen_at kv5 5
  have kv6 : v6.heap[S2]? = some (.cells #[.int .i64 x.seq, .int .i64 2, .int .i64 x.prog, .int .i64 x.vers, .int .i64 x.proc, .int .i64 0, .string ⟨#[]⟩, .int .i64 0, .string ⟨#[]⟩, .string ⟨#[]⟩] 108) := by rw [← hv6]; exact set_at kv5 5 _
  have Bv6 : Below w.heap.size w v6 := by rw [← hv6]; exact below_set Bv5 hleS
  have kw6 : v6.heap[S1]? = some (.cells #[.int .i64 0, .int .i64 0, .string ⟨#[]⟩] 78) := by rw [← hv6, Below.heap_setCell _ _ _ _ hne]; exact kw5
  clear kv5 Bv5 kw5
  obtain ⟨v7, hv7⟩ : ∃ y, v6.setCell ⟨S2, 6, none⟩ (.string ⟨#[]⟩) = y := ⟨_, rfl⟩
  have z6 : v6.cell? ⟨S2, 6, none⟩ = some (.string ⟨#[]⟩) := cell_at kv6 rfl
  have f6 : v6.frozen? ⟨S2, 6, none⟩ = false := frozen_at kv6 6
  have kv7 : v7.heap[S2]? = some (.cells #[.int .i64 x.seq, .int .i64 2, .int .i64 x.prog, .int .i64 x.vers, .int .i64 x.proc, .int .i64 0, .string ⟨#[]⟩, .int .i64 0, .string ⟨#[]⟩, .string ⟨#[]⟩] 108) := by rw [← hv7]; exact set_at kv6 6 _
  have Bv7 : Below w.heap.size w v7 := by rw [← hv7]; exact below_set Bv6 hleS
  have kw7 : v7.heap[S1]? = some (.cells #[.int .i64 0, .int .i64 0, .string ⟨#[]⟩] 78) := by rw [← hv7, Below.heap_setCell _ _ _ _ hne]; exact kw6
  clear kv6 Bv6 kw6
  obtain ⟨v8, hv8⟩ : ∃ y, v7.setCell ⟨S2, 7, none⟩ (.int .i64 0) = y := ⟨_, rfl⟩
  have z7 : v7.cell? ⟨S2, 7, none⟩ = some (.int .i64 0) := cell_at kv7 rfl
  have f7 : v7.frozen? ⟨S2, 7, none⟩ = false := frozen_at kv7 7
  have kv8 : v8.heap[S2]? = some (.cells #[.int .i64 x.seq, .int .i64 2, .int .i64 x.prog, .int .i64 x.vers, .int .i64 x.proc, .int .i64 0, .string ⟨#[]⟩, .int .i64 0, .string ⟨#[]⟩, .string ⟨#[]⟩] 108) := by rw [← hv8]; exact set_at kv7 7 _
  have Bv8 : Below w.heap.size w v8 := by rw [← hv8]; exact below_set Bv7 hleS
  have kw8 : v8.heap[S1]? = some (.cells #[.int .i64 0, .int .i64 0, .string ⟨#[]⟩] 78) := by rw [← hv8, Below.heap_setCell _ _ _ _ hne]; exact kw7
  clear kv7 Bv7 kw7
  obtain ⟨v9, hv9⟩ : ∃ y, v8.setCell ⟨S2, 8, none⟩ (.string ⟨#[]⟩) = y := ⟨_, rfl⟩
  have z8 : v8.cell? ⟨S2, 8, none⟩ = some (.string ⟨#[]⟩) := cell_at kv8 rfl
  have f8 : v8.frozen? ⟨S2, 8, none⟩ = false := frozen_at kv8 8
  have kv9 : v9.heap[S2]? = some (.cells #[.int .i64 x.seq, .int .i64 2, .int .i64 x.prog, .int .i64 x.vers, .int .i64 x.proc, .int .i64 0, .string ⟨#[]⟩, .int .i64 0, .string ⟨#[]⟩, .string ⟨#[]⟩] 108) := by rw [← hv9]; exact set_at kv8 8 _
  have Bv9 : Below w.heap.size w v9 := by rw [← hv9]; exact below_set Bv8 hleS
  have kw9 : v9.heap[S1]? = some (.cells #[.int .i64 0, .int .i64 0, .string ⟨#[]⟩] 78) := by rw [← hv9, Below.heap_setCell _ _ _ _ hne]; exact kw8
  clear kv8 Bv8 kw8
  obtain ⟨w3, hw3⟩ : ∃ y, v9.setCell ⟨S2, 9, none⟩ (.string ⟨x.args.toArray⟩) = y := ⟨_, rfl⟩
  have z9 : v9.cell? ⟨S2, 9, none⟩ = some (.string ⟨#[]⟩) := cell_at kv9 rfl
  have f9 : v9.frozen? ⟨S2, 9, none⟩ = false := frozen_at kv9 9
  have k3 : w3.heap[S2]? = some (.cells #[.int .i64 x.seq, .int .i64 2, .int .i64 x.prog, .int .i64 x.vers, .int .i64 x.proc, .int .i64 0, .string ⟨#[]⟩, .int .i64 0, .string ⟨#[]⟩, .string ⟨x.args.toArray⟩] 108) := by rw [← hw3]; exact set_at kv9 9 _
  have B3 : Below w.heap.size w w3 := by rw [← hw3]; exact below_set Bv9 hleS
  have k31 : w3.heap[S1]? = some (.cells #[.int .i64 0, .int .i64 0, .string ⟨#[]⟩] 78) := by rw [← hw3, Below.heap_setCell _ _ _ _ hne]; exact kw9
  clear kv9 Bv9 kw9
  have hle : w.heap.size ≤ S2 := by omega
  have a0 : w1.cell? ⟨x.bx, 0, none⟩ = some (.int .i64 x.seq) := cell_at (HC.out w1 B1).1 rfl
  have a1 : w1.cell? ⟨x.bx, 1, none⟩ = some (.int .i64 2) := cell_at (HC.out w1 B1).1 rfl
  have a2 : w1.cell? ⟨x.bx, 2, none⟩ = some (.int .i64 x.prog) := cell_at (HC.out w1 B1).1 rfl
  have a3 : w1.cell? ⟨x.bx, 3, none⟩ = some (.int .i64 x.vers) := cell_at (HC.out w1 B1).1 rfl
  have a4 : w1.cell? ⟨x.bx, 4, none⟩ = some (.int .i64 x.proc) := cell_at (HC.out w1 B1).1 rfl
  have a5 : w1.cell? ⟨x.bx, 5, none⟩ = some (.int .i64 0) := cell_at (HC.out w1 B1).1 rfl
  have a6 : w1.cell? ⟨x.bx, 6, none⟩ = some (.string ⟨#[]⟩) := cell_at (HC.out w1 B1).1 rfl
  have a7 : w1.cell? ⟨x.bx, 7, none⟩ = some (.int .i64 0) := cell_at (HC.out w1 B1).1 rfl
  have a8 : w1.cell? ⟨x.bx, 8, none⟩ = some (.string ⟨#[]⟩) := cell_at (HC.out w1 B1).1 rfl
  have a9 : w1.cell? ⟨x.bx, 9, none⟩ = some (.string ⟨x.args.toArray⟩) := cell_at (HC.out w1 B1).1 rfl
  have e0 : w3.cell? ⟨x.bx, 0, none⟩ = some (.int .i64 x.seq) := cell_at (HC.out w3 B3).1 rfl
  have c0 : w3.cell? ⟨x.bc, 0, none⟩ = some (.int .i64 c.ad) := cell_at (HC.out w3 B3).2.1 rfl
  have c1 : w3.cell? ⟨x.bc, 1, none⟩ = some (.int .i64 c.inst) := cell_at (HC.out w3 B3).2.1 rfl
  have c7 : w3.cell? ⟨x.bc, 7, none⟩ = some (.int .i64 c.sys.stamp) := cell_at (HC.out w3 B3).2.1 rfl
  have c8 : w3.cell? ⟨x.bc, 8, none⟩ = some (.string ⟨c.sys.machine.toArray⟩) := cell_at (HC.out w3 B3).2.1 rfl
  have c9 : w3.cell? ⟨x.bc, 9, none⟩ = some (.int .i64 c.sys.user) := cell_at (HC.out w3 B3).2.1 rfl
  have c10 : w3.cell? ⟨x.bc, 10, none⟩ = some (.int .i64 c.sys.group) := cell_at (HC.out w3 B3).2.1 rfl
  have c11 : w3.cell? ⟨x.bc, 11, none⟩ = some (.slice oa c.sys.groups.length cap) := cell_at (HC.out w3 B3).2.1 rfl
  obtain ⟨ec, hpr⟩ := prM_is (x.mark c water)
  have HM : Hid (Calls Tryz.prog 94 #[.agg #[.int .i64 c.inst, .int .i64 x.seq, .int .i64 water, .int .i64 c.sys.stamp, .string ⟨c.sys.machine.toArray⟩, .int .i64 c.sys.user, .int .i64 c.sys.group, .slice oa c.sys.groups.length cap]] w3 fun e w' => e = .returned (.tuple #[.agg #[.int .i64 (credM (x.mark c water)).flavor, .string ⟨(credM (x.mark c water)).body.toArray⟩], .int .i64 ec]) ∧ Below w3.heap.size w3 w') := by
    have := printMark_any (x.mark c water) oa cap w3 (hT.below B3) (fun h0 => by
      obtain ⟨q, off, e1, e2, e3⟩ := (hg.below B3) h0
      exact ⟨q, off, e1, Nat.lt_of_lt_of_le e2 B3.size, e3⟩) hcap hlen
    rw [hpr] at this
    exact this
  obtain ⟨fl, hfl⟩ : ∃ fl, (credM (x.mark c water)).flavor = fl := ⟨_, rfl⟩
  obtain ⟨bo, hbo⟩ : ∃ bo, (⟨(credM (x.mark c water)).body.toArray⟩ : ByteArray) = bo := ⟨_, rfl⟩
  rw [hfl, hbo] at HM
  have HP : Hid (∀ w', ErrT w' → Calls Tryz.prog 95 #[.agg #[.int .i64 x.seq, .int .i64 2, .int .i64 x.prog, .int .i64 x.vers, .int .i64 x.proc, .int .i64 fl, .string bo, .int .i64 0, .string ⟨#[]⟩, .string ⟨x.args.toArray⟩]] w' fun e w'' => ∃ ed, e = .returned (.tuple #[.string ⟨(x.data c water).toArray⟩, .int .i64 ed]) ∧ Below w'.heap.size w' w'') := fun w' hT' => by
    refine (printCall_any (x.reqC c water) w' hT' (by show x.args.length ≤ _; omega)).mono ?_ |> fun hh => by
      rw [← hfl, ← hbo]
      exact hh
    rintro _ w'' ⟨rfl, hb⟩
    exact ⟨_, rfl, hb⟩
  have HK : Hid (w3.heap[S2]? = some (.cells #[.int .i64 x.seq, .int .i64 2, .int .i64 x.prog, .int .i64 x.vers, .int .i64 x.proc, .int .i64 0, .string ⟨#[]⟩, .int .i64 0, .string ⟨#[]⟩, .string ⟨x.args.toArray⟩] 108) ∧ w3.heap[S1]? = some (.cells #[.int .i64 0, .int .i64 0, .string ⟨#[]⟩] 78) ∧ Below w.heap.size w w3 ∧ w.heap.size = S1 ∧ S1 < S2 ∧ ErrT w3) := ⟨k3, k31, B3, hS1, hlt1, hT.below B3⟩
  have HT0 := hid hT
  clear h hT hg hcap hlen ha l1 l2 l3 B1 k1 B2 k2 k21 k3 B3 k31 hle hlt1 hpr hfl hbo hne hleS
  go_enter Tryz.func93, Tryz.ntmps93
  go_wp2_with fail
  refine HM.out.mono ?_
  rintro _ w4 ⟨rfl, hb4⟩
  clear a0 a1 a2 a3 a4 a5 a6 a7 a8 a9 z0 z1 z2 z3 z4 z5 z6 z7 z8 z9 f0 f1 f2 f3 f4 f5 f6 f7 f8 f9 hv1 hv2 hv3 hv4 hv5 hv6 hv7 hv8 hv9 e0 c0 c1 c7 c8 c9 c10 c11 hw1 hw2 hw3 HM
  have k4 : w4.heap[S2]? = some (.cells #[.int .i64 x.seq, .int .i64 2, .int .i64 x.prog, .int .i64 x.vers, .int .i64 x.proc, .int .i64 0, .string ⟨#[]⟩, .int .i64 0, .string ⟨#[]⟩, .string ⟨x.args.toArray⟩] 108) := (hb4.block _ (Array.getElem?_eq_some_iff.1 HK.out.1).1).trans HK.out.1
  have k41 := (hb4.block _ (Array.getElem?_eq_some_iff.1 HK.out.2.1).1).trans HK.out.2.1
  have B4 : Below w.heap.size w w4 := HK.out.2.2.1.trans (hb4.mono HK.out.2.2.1.size)
  obtain ⟨w5, hw5⟩ : ∃ w5, (w4.setCell ⟨S2, 5, none⟩ (.int .i64 fl)).setCell ⟨S2, 6, none⟩ (.string bo) = w5 := ⟨_, rfl⟩
  have k5 : w5.heap[S2]? = some (.cells #[.int .i64 x.seq, .int .i64 2, .int .i64 x.prog, .int .i64 x.vers, .int .i64 x.proc, .int .i64 fl, .string bo, .int .i64 0, .string ⟨#[]⟩, .string ⟨x.args.toArray⟩] 108) := by
    rw [← hw5]
    exact set_at (set_at k4 5 _) 6 _
  have hle : w.heap.size ≤ S2 := by have := HK.out.2.2.2; omega
  have B5 : Below w.heap.size w w5 := by rw [← hw5]; exact below_set (below_set B4 hle) hle
  have k51 : w5.heap[S1]? = some (.cells #[.int .i64 0, .int .i64 0, .string ⟨#[]⟩] 78) := by
    rw [← hw5]
    have hne : S1 ≠ S2 := by have := HK.out.2.2.2; omega
    rw [Below.heap_setCell _ _ _ _ hne, Below.heap_setCell _ _ _ _ hne]
    exact k41
  have z5 : w4.cell? ⟨S2, 5, none⟩ = some (.int .i64 0) := cell_at k4 rfl
  have z6 : w4.cell? ⟨S2, 6, none⟩ = some (.string ⟨#[]⟩) := cell_at k4 rfl
  have f4 : ∀ n, w4.frozen? ⟨S2, n, none⟩ = false := fun n => frozen_at k4 n
  have g0 : w5.cell? ⟨S2, 0, none⟩ = some (.int .i64 x.seq) := cell_at k5 rfl
  have g1 : w5.cell? ⟨S2, 1, none⟩ = some (.int .i64 2) := cell_at k5 rfl
  have g2 : w5.cell? ⟨S2, 2, none⟩ = some (.int .i64 x.prog) := cell_at k5 rfl
  have g3 : w5.cell? ⟨S2, 3, none⟩ = some (.int .i64 x.vers) := cell_at k5 rfl
  have g4 : w5.cell? ⟨S2, 4, none⟩ = some (.int .i64 x.proc) := cell_at k5 rfl
  have g5 : w5.cell? ⟨S2, 5, none⟩ = some (.int .i64 fl) := cell_at k5 rfl
  have g6 : w5.cell? ⟨S2, 6, none⟩ = some (.string bo) := cell_at k5 rfl
  have g7 : w5.cell? ⟨S2, 7, none⟩ = some (.int .i64 0) := cell_at k5 rfl
  have g8 : w5.cell? ⟨S2, 8, none⟩ = some (.string ⟨#[]⟩) := cell_at k5 rfl
  have g9 : w5.cell? ⟨S2, 9, none⟩ = some (.string ⟨x.args.toArray⟩) := cell_at k5 rfl
  have E5 : ErrT w5 := HT0.out.below B5
  have HP5 := hid (HP.out w5 E5)
  have HK5 : Hid (w5.heap[S1]? = some (.cells #[.int .i64 0, .int .i64 0, .string ⟨#[]⟩] 78) ∧ Below w.heap.size w w5) := ⟨k51, B5⟩
  clear k4 k41 B4 k5 hle B5 k51 E5 hb4 HP
  go_wp2_with fail
  refine HP5.out.mono ?_
  rintro _ w6 ⟨ed, rfl, hb6⟩
  have k6 := (hb6.block _ (Array.getElem?_eq_some_iff.1 HK5.out.1).1).trans HK5.out.1
  have B6 : Below w.heap.size w w6 := HK5.out.2.trans (hb6.mono HK5.out.2.size)
  have q0 : w6.cell? ⟨x.bc, 0, none⟩ = some (.int .i64 c.ad) := cell_at (HC.out w6 B6).2.1 rfl
  have q1 : w6.cell? ⟨x.bt, 0, none⟩ = some (.int .i64 x.dst) := cell_at (HC.out w6 B6).2.2 rfl
  have r0 : w6.cell? ⟨S1, 0, none⟩ = some (.int .i64 0) := cell_at k6 rfl
  have r1 : w6.cell? ⟨S1, 1, none⟩ = some (.int .i64 0) := cell_at k6 rfl
  have r2 : w6.cell? ⟨S1, 2, none⟩ = some (.string ⟨#[]⟩) := cell_at k6 rfl
  have f6 : ∀ n, w6.frozen? ⟨S1, n, none⟩ = false := fun n => frozen_at k6 n
  obtain ⟨dt, hdt⟩ : ∃ dt, (⟨(x.data c water).toArray⟩ : ByteArray) = dt := ⟨_, rfl⟩
  rw [hdt]
  obtain ⟨w7, hw7⟩ : ∃ w7, ((w6.setCell ⟨S1, 0, none⟩ (.int .i64 c.ad)).setCell ⟨S1, 1, none⟩ (.int .i64 x.dst)).setCell ⟨S1, 2, none⟩ (.string dt) = w7 := ⟨_, rfl⟩
  have k7 : w7.heap[S1]? = some (.cells #[.int .i64 c.ad, .int .i64 x.dst, .string dt] 78) := by rw [← hw7]; exact set_at (set_at (set_at k6 0 _) 1 _) 2 _
  have HB7 : Hid (Below w.heap.size w w7) := by
    have hle : w.heap.size ≤ S1 := by have := HK.out.2.2.2; omega
    show Below _ _ _
    rw [← hw7]
    exact below_set (below_set (below_set B6 hle) hle) hle
  have p0 : w7.cell? ⟨S1, 0, none⟩ = some (.int .i64 c.ad) := cell_at k7 rfl
  have p1 : w7.cell? ⟨S1, 1, none⟩ = some (.int .i64 x.dst) := cell_at k7 rfl
  have p2 : w7.cell? ⟨S1, 2, none⟩ = some (.string dt) := cell_at k7 rfl
  clear k6 k7 hb6 B6 g0 g1 g2 g3 g4 g5 g6 g7 g8 g9 z5 z6 f4 hw5 HP5 HC HK HK5
  go_wp2
  refine bodyPost_ret (v := .agg #[.int .i64 c.ad, .int .i64 x.dst, .string dt]) (by simp [results, Tryz.results93, go_sem, p0, p1, p2]) rfl ⟨by rw [hdt], HB7.out⟩
end
end Go.Proofs.YtfcbjcebkahehaaGreatDoor.Cl
namespace Go.Proofs.YtfcbjcebkahehaaGreatDoor.Cl
open Go.RowKit
abbrev paB (b c t : Int) : Obj := .cells #[.int .i64 b, .int .i64 c, .int .i64 t] 23
def dueB (pt now snd due : Int) : Bool := decide (snd < pt) && decide (due ≤ now)
theorem isDue_any (pb pc pt now snd due : Int) (b : Nat) (w : World) (h3 : w.cell? ⟨b, 3, none⟩ = some (.int .i64 snd)) (h4 : w.cell? ⟨b, 4, none⟩ = some (.int .i64 due)) :
    Calls Tryz.prog 56 #[ptr b, .agg #[.int .i64 pb, .int .i64 pc, .int .i64 pt], .int .i64 now] w fun e w' => e = .returned (.bool (dueB pt now snd due)) ∧ Below w.heap.size w w' := by
  obtain ⟨w0, hw0⟩ : ∃ w0, w.alloc (paB pb pc pt) = w0 := ⟨_, rfl⟩
  obtain ⟨S0, hS0⟩ : ∃ S0, w.heap.size = S0 := ⟨_, rfl⟩
  have B0 : Below w.heap.size w w0 := by rw [← hw0]; exact (Below.refl _ _).alloc (Nat.le_refl _) _
  have k0 : w0.heap[S0]? = some (paB pb pc pt) := by rw [← hw0, ← hS0]; exact (MapKept.heap_alloc w _).1
  have c2 : w0.cell? ⟨S0, 2, none⟩ = some (.int .i64 pt) := cell_at k0 rfl
  have d3 : w0.cell? ⟨b, 3, none⟩ = some (.int .i64 snd) := (World.cell?_of_block (a := ⟨b, 3, none⟩) (B0.block b (World.block_lt_of_cell? _ _ h3))).trans h3
  have d4 : w0.cell? ⟨b, 4, none⟩ = some (.int .i64 due) := (World.cell?_of_block (a := ⟨b, 4, none⟩) (B0.block b (World.block_lt_of_cell? _ _ h4))).trans h4
  have HB : Hid (∀ n, Below w.heap.size w (w0.drewN n)) := fun n => ⟨B0.os, B0.tape, B0.output, B0.size, B0.block⟩
  unfold dueB
  rw [hS0] at HB ⊢
  clear h3 h4 k0 B0
  cases e1 : decide (snd < pt)
  · go_enter Tryz.func56, Tryz.ntmps56
    go_wp2_with fail
    go_quiet (fail)
    go_wp2
    go_ret
    exact ⟨rfl, HB.out _⟩
  · cases e2 : decide (due ≤ now)
    all_goals (
      go_enter Tryz.func56, Tryz.ntmps56
      go_wp2_with fail
      go_quiet (fail)
      go_wp2
      go_ret
      exact ⟨rfl, HB.out _⟩)
/-- how far the sendings are that are due -/
def runG (pb pc pt now : Int) : Nat → Int × Int → Int × Int
  | 0, s => s
  | k + 1, s => if dueB pt now s.1 s.2 then runG pb pc pt now k (s.1 + 1, s.2 + Pc.waitP pb pc pt s.1) else s
theorem runG_stop {pb pc pt now : Int} {s : Int × Int} (h : dueB pt now s.1 s.2 = false) : ∀ k, runG pb pc pt now k s = s
  | 0 => rfl
  | k + 1 => by show (if dueB pt now s.1 s.2 then _ else s) = s; rw [h]; simp
theorem runG_go {pb pc pt now : Int} {s : Int × Int} (h : dueB pt now s.1 s.2 = true) (k : Nat) : runG pb pc pt now (k + 1) s = runG pb pc pt now k (s.1 + 1, s.2 + Pc.waitP pb pc pt s.1) := by
  show (if dueB pt now s.1 s.2 then _ else s) = _; rw [h]; simp
abbrev gvB (q0 q1 f : Value) (snd due fin tms last : Int) : Obj := .cells #[q0, q1, f, .int .i64 snd, .int .i64 due, .int .i64 fin, .int .i64 tms, .int .i64 last] 113
def numC (b : Nat) (w : World) : Int := match w.cell? ⟨b, 3, none⟩ with | some (.int _ n) => n | _ => 0
/-- while it is given -/
structure Gv (w0 w : World) (b S0 : Nat) (q0 q1 f : Value) (pb pc pt snd due fin tms last : Int) : Prop where
  at_ : w.heap[b]? = some (gvB q0 q1 f snd due fin tms last)
  box : w.heap[S0]? = some (paB pb pc pt)
  fr : w0.grownBy w (some b)
  lt : b < S0
theorem grown_below {w0 w w' : World} {b : Nat} (h : w0.grownBy w (some b)) (hb : Below w.heap.size w w') : w0.grownBy w' (some b) :=
  ⟨hb.os.trans h.os, hb.tape.trans h.tape, hb.output.trans h.output, Nat.le_trans h.size hb.size, fun k hk hn => (hb.block k (Nat.lt_of_lt_of_le hk h.size)).trans (h.block k hk hn)⟩
theorem grown_set {w0 w : World} {b k : Nat} {v : Value} (h : w0.grownBy w (some b)) : w0.grownBy (w.setCell ⟨b, k, none⟩ v) (some b) :=
  ⟨h.os, h.tape, h.output, by simpa [World.setCell] using h.size, fun i hi hn => by rw [Below.heap_setCell _ _ _ _ (show i ≠ b from fun e => hn (by rw [e]))]; exact h.block i hi hn⟩
theorem Gv.below {w0 w w' : World} {b S0 : Nat} {q0 q1 f : Value} {pb pc pt snd due fin tms last : Int} (h : Gv w0 w b S0 q0 q1 f pb pc pt snd due fin tms last) (hb : Below w.heap.size w w') : Gv w0 w' b S0 q0 q1 f pb pc pt snd due fin tms last :=
  ⟨(hb.block b (Array.getElem?_eq_some_iff.1 h.at_).1).trans h.at_, (hb.block S0 (Array.getElem?_eq_some_iff.1 h.box).1).trans h.box, grown_below h.fr hb, h.lt⟩
theorem Gv.set {w0 w : World} {b S0 : Nat} {q0 q1 f : Value} {pb pc pt snd due fin tms last : Int} (h : Gv w0 w b S0 q0 q1 f pb pc pt snd due fin tms last) (n : Int) :
    Gv w0 (w.setCell ⟨b, 3, none⟩ (.int .i64 n)) b S0 q0 q1 f pb pc pt n due fin tms last ∧ Gv w0 (w.setCell ⟨b, 4, none⟩ (.int .i64 n)) b S0 q0 q1 f pb pc pt snd n fin tms last ∧ Gv w0 (w.setCell ⟨b, 6, none⟩ (.int .i64 n)) b S0 q0 q1 f pb pc pt snd due fin n last ∧ Gv w0 (w.setCell ⟨b, 7, none⟩ (.int .i64 n)) b S0 q0 q1 f pb pc pt snd due fin tms n := by
  have hne : S0 ≠ b := by have := h.lt; omega
  have hb : ∀ k v, (w.setCell ⟨b, k, none⟩ v).heap[S0]? = some (paB pb pc pt) := fun k v => (Below.heap_setCell _ _ _ _ hne).trans h.box
  exact ⟨⟨set_at h.at_ 3 _, hb _ _, grown_set h.fr, h.lt⟩, ⟨set_at h.at_ 4 _, hb _ _, grown_set h.fr, h.lt⟩, ⟨set_at h.at_ 6 _, hb _ _, grown_set h.fr, h.lt⟩, ⟨set_at h.at_ 7 _, hb _ _, grown_set h.fr, h.lt⟩⟩
set_option maxRecDepth 8000 in
set_option maxHeartbeats 4000000 in
theorem give_any (b : Nat) (q0 q1 f : Value) (pb pc pt now snd due fin tms last : Int) (w : World) (h : w.heap[b]? = some (gvB q0 q1 f snd due fin tms last)) (hs : 0 ≤ snd) (hp : pt ≤ 32) (hd : -1000000000000 ≤ due ∧ due ≤ 1000000000000) (ht : 0 ≤ tms ∧ tms ≤ 1000000000000) :
    Calls Tryz.prog 57 #[ptr b, .agg #[.int .i64 pb, .int .i64 pc, .int .i64 pt], .int .i64 now] w fun e w' => (∃ v, e = .returned v) ∧ w'.heap[b]? = some (gvB q0 q1 f (runG pb pc pt now 40 (snd, due)).1 (runG pb pc pt now 40 (snd, due)).2 fin (tms + 1) now) ∧ w.grownBy w' (some b) := by
  obtain ⟨w0, hw0⟩ : ∃ w0, w.alloc (paB pb pc pt) = w0 := ⟨_, rfl⟩
  obtain ⟨S0, hS0⟩ : ∃ S0, w.heap.size = S0 := ⟨_, rfl⟩
  have hlt : b < w.heap.size := (Array.getElem?_eq_some_iff.1 h).1
  have HG : Hid (Gv w w0 b S0 q0 q1 f pb pc pt snd due fin tms last) := by
    refine ⟨?_, ?_, ?_, by omega⟩
    · rw [← hw0]; exact (Below.heap_alloc _ _ _ hlt).trans h
    · rw [← hw0, ← hS0]; exact (MapKept.heap_alloc w _).1
    · rw [← hw0]; exact ⟨rfl, rfl, rfl, by simp, fun k hk _ => Below.heap_alloc _ _ _ hk⟩
  have HH : Hid (0 ≤ snd ∧ pt ≤ 32 ∧ (-1000000000000 ≤ due ∧ due ≤ 1000000000000)) := ⟨hs, hp, hd⟩
  have HT : Hid (0 ≤ tms ∧ tms ≤ 1000000000000) := ht
  clear h hlt hs hp hd ht
  go_enter Tryz.func57, Tryz.ntmps57
  go_wp2_with fail
  go_loopw [] (fun wr => ∃ (j : Nat) (s d : Int), Hid (Gv w wr b S0 q0 q1 f pb pc pt s d fin tms last ∧ s = snd + j ∧ j ≤ 40 ∧ (d ≤ due + j * 1048576 ∧ due ≤ d) ∧ runG pb pc pt now 40 (snd, due) = runG pb pc pt now (40 - j) (s, d))) (fun wr => (40 - (numC b wr)).toNat)
  case atStart => exact ⟨0, snd, due, HG.out, by omega, by omega, by omega, rfl⟩
  case round =>
    obtain ⟨j, s, d, HR⟩ := hrel
    clear HG
    obtain ⟨wo, hwo⟩ : ∃ yy, yy = wr := ⟨_, rfl⟩
    subst hwo
    have p0 : wo.cell? ⟨S0, 0, none⟩ = some (.int .i64 pb) := cell_at HR.out.1.box rfl
    have p1 : wo.cell? ⟨S0, 1, none⟩ = some (.int .i64 pc) := cell_at HR.out.1.box rfl
    have p2 : wo.cell? ⟨S0, 2, none⟩ = some (.int .i64 pt) := cell_at HR.out.1.box rfl
    have HD := hid (isDue_any pb pc pt now s d b wo (cell_at HR.out.1.at_ rfl) (cell_at HR.out.1.at_ rfl))
    obtain ⟨bd, hbd⟩ : ∃ bd, dueB pt now s d = bd := ⟨_, rfl⟩
    rw [hbd] at HD
    have HBD := hid hbd
    clear hbd
    go_wp2_with fail
    refine HD.out.mono ?_
    rintro _ w1 ⟨rfl, hb1⟩
    have HG1 := hid (HR.out.1.below hb1)
    clear HD p0 p1 p2 hb1
    cases bd
    · have HF := runG_stop (s := (s, d)) (pb := pb) (pc := pc) HBD.out (40 - j)
      have hrun : runG pb pc pt now 40 (snd, due) = (s, d) := HR.out.2.2.2.2.trans HF
      have c6 : w1.cell? ⟨b, 6, none⟩ = some (.int .i64 tms) := cell_at HG1.out.at_ rfl
      have f6 := frozen_at HG1.out.at_ 6
      have hwt : wrap64 (tms + 1) = tms + 1 := by have := HT.out; unfold wrap64; omega
      obtain ⟨w2, hw2⟩ : ∃ w2, w1.setCell ⟨b, 6, none⟩ (.int .i64 (tms + 1)) = w2 := ⟨_, rfl⟩
      have g2 := (HG1.out.set (tms + 1)).2.2.1
      rw [hw2] at g2
      have c7 : w2.cell? ⟨b, 7, none⟩ = some (.int .i64 last) := cell_at g2.at_ rfl
      have f7 := frozen_at g2.at_ 7
      obtain ⟨w3, hw3⟩ : ∃ w3, w2.setCell ⟨b, 7, none⟩ (.int .i64 now) = w3 := ⟨_, rfl⟩
      have g3 := (g2.set now).2.2.2
      rw [hw3] at g3
      have HE : Hid (w3.heap[b]? = some (gvB q0 q1 f (runG pb pc pt now 40 (snd, due)).1 (runG pb pc pt now 40 (snd, due)).2 fin (tms + 1) now) ∧ w.grownBy w3 (some b)) := ⟨by rw [hrun]; exact g3.at_, g3.fr⟩
      clear HR HG1 g2 g3 HF hrun HBD HH HT
      go_wp2
      first | go_end0 | ((try simp only [Exit.inBlock, Exit.then]); refine bodyPost_ret (results_none rfl _ _ _) rfl ?_)
      exact ⟨⟨_, rfl⟩, HE.out⟩
    · obtain ⟨wt, hwt⟩ : ∃ wt, Pc.waitP pb pc pt s = wt := ⟨_, rfl⟩
      have hwi := Pc.wait_in pb pc pt s
      rw [hwt] at hwi
      have hlt : s < pt := by
        have h1 := HBD.out
        unfold dueB at h1
        simp only [Bool.and_eq_true, decide_eq_true_eq] at h1
        exact h1.1
      have hhh := HH.out
      have hrr := HR.out.2
      have HWt : Hid (∀ w' : World, Calls Tryz.prog 91 #[.agg #[.int .i64 pb, .int .i64 pc, .int .i64 pt], .int .i64 s] w' fun e w'' => e = .returned (.int .i64 wt) ∧ Below w'.heap.size w' w'') := fun w' => by
        rw [← hwt]
        exact Pc.wait_any w' pb pc pt s (by omega)
      have hj40 : j < 40 := by omega
      have HRN : Hid (s + 1 = snd + (j + 1 : Nat) ∧ j + 1 ≤ 40 ∧ (d + wt ≤ due + (j + 1 : Nat) * 1048576 ∧ due ≤ d + wt) ∧ runG pb pc pt now 40 (snd, due) = runG pb pc pt now (40 - (j + 1)) (s + 1, d + wt)) := by
        refine ⟨by omega, by omega, by omega, ?_⟩
        rw [hrr.2.2.2, show 40 - j = (40 - (j + 1)) + 1 by omega, runG_go (s := (s, d)) HBD.out, hwt]
      have hdw : IntKind.i64.wrap (d + wt) = d + wt := by rw [IntWalk.i64_left]; unfold wrap64; omega
      have hs1 : wrap64 (s + 1) = s + 1 := by unfold wrap64; omega
      have HM : Hid (s < 40 ∧ 0 ≤ s) := ⟨by omega, by omega⟩
      have HN0 : Hid (numC b wo = s) := by
        show _ = _
        unfold numC
        rw [show wo.cell? ⟨b, 3, none⟩ = some (.int .i64 s) from cell_at HR.out.1.at_ rfl]
      clear hwi hlt hhh hrr hwt hj40 HR HBD HH HT
      go_wp2_with fail
      go_cut [20] (fun _ wx => Hid (Gv w wx b S0 q0 q1 f pb pc pt s (d + wt) fin tms last))
      case first =>
        have p0 : w1.cell? ⟨S0, 0, none⟩ = some (.int .i64 pb) := cell_at HG1.out.box rfl
        have p1 : w1.cell? ⟨S0, 1, none⟩ = some (.int .i64 pc) := cell_at HG1.out.box rfl
        have p2 : w1.cell? ⟨S0, 2, none⟩ = some (.int .i64 pt) := cell_at HG1.out.box rfl
        have a3 : w1.cell? ⟨b, 3, none⟩ = some (.int .i64 s) := cell_at HG1.out.at_ rfl
        have a4 : w1.cell? ⟨b, 4, none⟩ = some (.int .i64 d) := cell_at HG1.out.at_ rfl
        go_region_with (first
          | (go_at_call 91
             refine (HWt.out _).mono ?_
             rintro _ w3 ⟨rfl, hb3⟩
             have G3 := HG1.out.below (w' := w3) ⟨hb3.os, hb3.tape, hb3.output, hb3.size, hb3.block⟩
             have b4 : w3.cell? ⟨b, 4, none⟩ = some (.int .i64 d) := cell_at G3.at_ rfl
             have f4 := frozen_at G3.at_ 4
             have HG3 := hid G3
             clear G3 hb3))
        all_goals (
          go_wp2_with fail
          go_meet
          exact (HG3.out.set (d + wt)).2.1)
      case rest =>
        have G4 := hcut.out
        obtain ⟨w4, hw4⟩ : ∃ yy, yy = wc := ⟨_, rfl⟩
        subst hw4
        have a3 : w4.cell? ⟨b, 3, none⟩ = some (.int .i64 s) := cell_at G4.at_ rfl
        have f3 := frozen_at G4.at_ 3
        obtain ⟨w5, hw5⟩ : ∃ w5, w4.setCell ⟨b, 3, none⟩ (.int .i64 (s + 1)) = w5 := ⟨_, rfl⟩
        have g5 := (G4.set (s + 1)).1
        rw [hw5] at g5
        have HG5 := hid g5
        have HN5 : Hid (numC b w5 = s + 1) := by
          show _ = _
          unfold numC
          rw [show w5.cell? ⟨b, 3, none⟩ = some (.int .i64 (s + 1)) from cell_at g5.at_ rfl]
        clear G4 g5 hcut
        go_wp2
        go_roundw
        case rel => exact ⟨j + 1, s + 1, d + wt, HG5.out, HRN.out⟩
        case measure =>
          have h1 := HN0.out
          have h2 := HN5.out
          have h3 := HM.out
          simp only [h1, h2]
          omega
end Go.Proofs.YtfcbjcebkahehaaGreatDoor.Cl
namespace Go.Proofs.YtfcbjcebkahehaaGreatDoor.Cl
open Go.RowKit
section
variable {K K' : Nat → Nat} {w w' : World} {B t p : Nat} {c : Cf} {oa : Option Addr} {cap : Nat} {next now : Int} {L : List Wt} {D : List Oc} {vw vd : Value} {q : Mq}
theorem err_mv {T : Nat → Prop} (h : ErrT w) (m : Mv T w w' K K') (hk : ¬ T (K 1)) : ErrT w' := by
  have hs := h.size
  unfold ErrT at *
  rw [← h]
  exact World.cell?_of_block (a := ⟨1, 0, none⟩) (m.kept 1 hs hk)
theorem PC.er {T : Nat → Prop} (h : PC K w B t p c oa cap next now L D vw vd q) (m : Mv T w w' K K') (hl : ∀ t', T t' → t ≤ t') : ErrT w' := err_mv h.err m (fun e => by have := hl _ e; have := h.h0 1 h.b1; omega)
theorem PC.h0' {T : Nat → Prop} (h : PC K w B t p c oa cap next now L D vw vd q) (m : Mv T w w' K K') : ∀ b, b < B → K' b < t := fun b hb => by rw [m.old b (Nat.lt_of_lt_of_le hb h.hB)]; exact h.h0 b hb
theorem PC.to {T : Nat → Prop} (h : PC K w B t p c oa cap next now L D vw vd q) (m : Mv T w w' K K') (ht : ∀ t', T t' → t + 6 < t') : PC K' w' B t p c oa cap next now L D vw vd q := by
  have me := h.me
  have n : ∀ j, j ≤ 6 → ¬ T (t + j) := fun j hj e => by have := ht _ e; omega
  exact ⟨h.cl.mv m (n 0 (by omega)), h.wr.mv m (n 1 (by omega)), h.dn.mv m (n 2 (by omega)), fun x hx => (h.cs x hx).mv m (n 3 (by omega)) (n 4 (by omega)), h.nd, me.mv m (n 5 (by omega)), h.gs.mv m (n 6 (by omega)), h.gl, h.ok, Nat.le_trans h.hB m.size, h.er m (fun t' e => by have := ht _ e; omega), h.h0' m, h.b1⟩
theorem PC.below (h : PC K w B t p c oa cap next now L D vw vd q) (hb : Below w.heap.size w w') (N : Nat → Nat) : PC (ext w K N) w' B t p c oa cap next now L D vw vd q := h.to (Mv.of_below hb K N) (fun _ e => e.elim)
/-- one cell of the client's own block written -/
theorem PC.next_ (h : PC K w B t p c oa cap next now L D vw vd q) (n : Int) : PC K (w.setCell ⟨p, 12, none⟩ (.int .i64 n)) B t p c oa cap n now L D vw vd q ∧ Mv (fun x => x = t) w (w.setCell ⟨p, 12, none⟩ (.int .i64 n)) K K := by
  have m := Mv.of_set w K ⟨p, 12, none⟩ (.int .i64 n) h.cl.k
  have me := h.me
  exact ⟨⟨⟨set_at h.cl.at_ 12 _, h.cl.k⟩, h.wr.mv m (by omega), h.dn.mv m (by omega), fun x hx => (h.cs x hx).mv m (by omega) (by omega), h.nd, me.mv m (by omega), h.gs.mv m (by omega), h.gl, h.ok, Nat.le_trans h.hB m.size, h.er m (fun t' e => by omega), h.h0' m, h.b1⟩, m⟩
theorem PC.now_ (h : PC K w B t p c oa cap next now L D vw vd q) (n : Int) : PC K (w.setCell ⟨p, 13, none⟩ (.int .i64 n)) B t p c oa cap next n L D vw vd q ∧ Mv (fun x => x = t) w (w.setCell ⟨p, 13, none⟩ (.int .i64 n)) K K := by
  have m := Mv.of_set w K ⟨p, 13, none⟩ (.int .i64 n) h.cl.k
  have me := h.me
  exact ⟨⟨⟨set_at h.cl.at_ 13 _, h.cl.k⟩, h.wr.mv m (by omega), h.dn.mv m (by omega), fun x hx => (h.cs x hx).mv m (by omega) (by omega), h.nd, me.mv m (by omega), h.gs.mv m (by omega), h.gl, h.ok, Nat.le_trans h.hB m.size, h.er m (fun t' e => by omega), h.h0' m, h.b1⟩, m⟩
theorem PC.nodone (h : PC K w B t p c oa cap next now L D vw vd q) : PC K (w.setCell ⟨p, 15, none⟩ (.slice none 0 0)) B t p c oa cap next now L [] vw (.slice none 0 0) q ∧ Mv (fun x => x = t) w (w.setCell ⟨p, 15, none⟩ (.slice none 0 0)) K K := by
  have m := Mv.of_set w K ⟨p, 15, none⟩ (.slice none 0 0) h.cl.k
  have me := h.me
  exact ⟨⟨⟨set_at h.cl.at_ 15 _, h.cl.k⟩, h.wr.mv m (by omega), RW.nil _ _ _ _ _ _ _, fun x hx => (h.cs x hx).mv m (by omega) (by omega), h.nd, me.mv m (by omega), h.gs.mv m (by omega), h.gl, h.ok, Nat.le_trans h.hB m.size, h.er m (fun t' e => by omega), h.h0' m, h.b1⟩, m⟩
theorem PC.done_any (h : PC K w B t p c oa cap next now L D vw vd q) : Calls Tryz.prog 22 #[ptr p] w fun e w' => e = .returned vd ∧ PC K w' B t p c oa cap next now L [] vw (.slice none 0 0) q ∧ RW 80 9 ocC K w' B (t + 2) vd D ∧ Mv (fun x => x = t) w w' K K := by
  obtain ⟨o, cp, e, _, _⟩ := h.dn.form
  subst e
  have c15 := h.ce (k := 15) rfl
  have f15 := h.fz 15
  obtain ⟨w1, hw1⟩ : ∃ w1, w.setCell ⟨p, 15, none⟩ (.slice none 0 0) = w1 := ⟨_, rfl⟩
  have h1 := h.nodone
  have h2 := h.dn.mv h1.2 (by omega)
  rw [hw1] at h1 h2
  have HE := hid (And.intro h1.1 (And.intro h2 h1.2))
  clear h h1 h2
  go_enter Tryz.func22, Tryz.ntmps22
  go_wp2
  go_ret
  exact ⟨rfl, HE.out⟩
end
end Go.Proofs.YtfcbjcebkahehaaGreatDoor.Cl
