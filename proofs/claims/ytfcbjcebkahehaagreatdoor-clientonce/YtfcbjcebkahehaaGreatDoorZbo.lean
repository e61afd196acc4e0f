/- ClientOnce: Call, Due, Tick, Hear beside the book. ClientOnce: acts, ahead of its kinds. ClientOnce: acts, Due. ClientOnce: acts, a tick. ClientOnce: acts, a reply. -/
import Derived.Test.YtfcbjcebkahehaaGreatDoorKl
namespace Go.Proofs.YtfcbjcebkahehaaGreatDoor.Cl
open Go.RowKit
section
variable {K K' : Nat → Nat} {w w' : World} {B t p xb S : Nat} {c : Cf} {oa : Option Addr} {cap : Nat} {next now : Int} {L : List Wt} {D R : List Oc} {vw vd v : Value} {q : Mq} {vi : Value} {I : List Is} {n1 n2 : Int}
set_option maxRecDepth 8000 in
set_option maxHeartbeats 4000000 in
theorem PC.call_no (h : PC K w B t p c oa cap next now L D vw vd q) (dst prog vers proc : Int) (s : ByteArray) (r : Int) (hx : -1000000000000 ≤ next ∧ next ≤ 1000000000000) (hy : -1000000000000 ≤ waterL next L ∧ waterL next L ≤ 1000000000000) (hr : refP c.win next (waterL next L) dst prog vers proc s.size = r) (hr0 : r ≠ 0) :
    Calls Tryz.prog 19 #[ptr p, .int .i64 dst, .int .i64 prog, .int .i64 vers, .int .i64 proc, .string s] w fun e w' => e = .returned (.tuple #[.int .i64 0, .int .i64 r]) ∧ ∃ k, w' = w.drewN k := by
  have HR := hid (h.refuse_any dst prog vers proc s hx hy)
  rw [hr] at HR
  have hne : (r != 0) = true := by simpa using hr0
  clear h hx hy hr hr0
  go_enter Tryz.func19, Tryz.ntmps19
  go_wp2_with fail
  refine HR.out.mono ?_
  rintro _ w1 ⟨rfl, k, hk⟩
  have HK : Hid (∃ k, w1 = w.drewN k) := ⟨k, hk⟩
  clear HR hk
  go_wp2
  go_ret2
  exact ⟨rfl, HK.out⟩
/-- Tick, beside the book -/
theorem LF.tick_any (h : LF K w B t p xb c oa cap next now L [] vw vd q vi I n1 n2) (hn : now + 1 ≤ 100000000) :
    Calls Tryz.prog 21 #[ptr p] w fun e w' => (∃ v, e = .returned v) ∧ Hid (∃ K' L' D' vw' vd', LF K' w' B t p xb c oa cap next (now + 1) L' D' vw' vd' q vi I n1 n2 ∧ D'.length ≤ 50000000 ∧ Mv (fun u => t ≤ u) w w' K K') := by
  have hL := h.om.lenL
  have hI := h.hI
  have h0 := h.om.now0
  refine (h.pc.tick_any (by omega) (by simp; omega)).mono ?_
  rintro e w' ⟨he, hh⟩
  obtain ⟨K', vw', vd', P, m⟩ := hh.out
  refine ⟨he, K', _, _, vw', vd', ⟨P, h.me.mv m (by omega), h.is.mv m (by omega), ?_, h.hc, h.hI, hn⟩, ?_, m.mono (fun u e => by omega)⟩
  · have := h.om.tick
    simpa using this
  · have h1 : (L.takeWhile (overB (now + 1))).length ≤ L.length := (List.takeWhile_prefix _).length_le
    simp only [List.nil_append, List.length_map]
    omega
/-- Hear, beside the book -/
theorem LF.hear_any (h : LF K w B t p xb c oa cap next now L [] vw vd q vi I n1 n2) (src dst : Int) (data : List UInt8) (hl : data.length ≤ 281474976710656) :
    Calls Tryz.prog 51 #[ptr p, .agg #[.int .i64 src, .int .i64 dst, .string ⟨data.toArray⟩]] w fun e w' => ∃ z : Int, e = .returned (.int .i64 z) ∧
      ((z = 0 ∧ (dst ≠ 65537 ∨ (parseR data).2 ≠ 0 ∨ src ≠ 65636 ∨ ∀ y ∈ L, y.seq ≠ (parseR data).1.xid)) ∨ (z = (parseR data).1.xid ∧ 9 ≤ z ∧ dst = 65537 ∧ (parseR data).2 = 0 ∧ src = 65636 ∧ ∃ y ∈ L, y.seq = (parseR data).1.xid)) ∧
      Hid (∃ K' L' D' vw' vd' q', LF K' w' B t p xb c oa cap next now L' D' vw' vd' q' vi I n1 n2 ∧ D'.length ≤ 50000000 ∧ Mv (fun u => t ≤ u ∧ u ≤ t + 5) w w' K K') := by
  have hL := h.om.lenL
  have hI := h.hI
  have hnb := h.hn
  have hdst : ∀ y ∈ L, y.dst = 65636 := fun y hy => by
    obtain ⟨k, i, a1, a2, a3, a4⟩ := h.om.wt y hy
    exact a3.dst
  refine (h.pc.hear_any src dst data hl (by omega) (by simp) (fun x hx => ?_)).mono ?_
  · obtain ⟨k, i, a1, a2, a3, a4⟩ := h.om.wt x hx
    have := a3.l0
    have := a3.l1
    omega
  rintro e w' (⟨he, hw, hb⟩ | ⟨A, x, R, he, hd, hr, hLe, hx, hA, hh⟩)
  · refine ⟨0, he, .inl ⟨rfl, ?_⟩, ?_⟩
    · rcases hw with e | e | e
      · exact .inl (by rw [← h.hc.ad]; exact e)
      · exact .inr (.inl e)
      · by_cases hs : src = 65636
        · refine .inr (.inr (.inr fun y hy ey => ?_))
          have := e y hy
          unfold hitW at this
          rw [decide_eq_true ey, decide_eq_true ((hdst y hy).trans hs.symm)] at this
          cases this
        · exact .inr (.inr (.inl hs))
    · have m := Mv.of_below hb.out K (fun _ => t + 22)
      exact ⟨_, L, [], vw, vd, q, h.to m (fun _ e => e.elim), by simp, m.mono (fun _ e => e.elim)⟩
  · obtain ⟨K', vw', vd', q', P, hq, m⟩ := hh.out
    have hxm : x ∈ L := by rw [hLe]; simp
    have hxx : x.seq = (parseR data).1.xid ∧ x.dst = src := by
      unfold hitW at hx
      simp only [Bool.and_eq_true, decide_eq_true_eq] at hx
      exact hx
    have hs := (h.om.seq_lt hxm).1
    refine ⟨_, he, .inr ⟨rfl, by omega, hd.trans h.hc.ad, hr, hxx.2.symm.trans (hdst x hxm), x, hxm, hxx.1⟩, K', A ++ R, _, vw', vd', q', ⟨P, h.me.mv m (by omega), h.is.mv m (by omega), ?_, h.hc, h.hI, h.hn⟩, by simp, m.mono (fun u e => by omega)⟩
    have om := h.om
    rw [hLe] at om
    exact om.hear rfl rfl
/-- Hear of what comes from elsewhere, or is for another -/
theorem LF.far_any (h : LF K w B t p xb c oa cap next now L [] vw vd q vi I n1 n2) (src dst : Int) (data : List UInt8) (hl : data.length ≤ 281474976710656) (hf : dst ≠ 65537 ∨ src ≠ 65636) :
    Calls Tryz.prog 51 #[ptr p, .agg #[.int .i64 src, .int .i64 dst, .string ⟨data.toArray⟩]] w fun e w' => e = .returned (.int .i64 0) ∧ Hid (∃ K', LF K' w' B t p xb c oa cap next now L [] vw vd q vi I n1 n2 ∧ Mv (fun u => t ≤ u) w w' K K') := by
  have hL := h.om.lenL
  have hI := h.hI
  have hnb := h.hn
  refine (h.pc.hear_any src dst data hl (by omega) (by simp) (fun x hx => ?_)).mono ?_
  · obtain ⟨k, i, a1, a2, a3, a4⟩ := h.om.wt x hx
    have := a3.l0
    have := a3.l1
    omega
  rintro e w' (⟨he, hw, hb⟩ | ⟨A, x, R, he, hd, hr, hLe, hx, hA, hh⟩)
  · have m := Mv.of_below hb.out K (fun _ => t + 22)
    exact ⟨he, _, h.to m (fun _ e => e.elim), m.mono (fun _ e => e.elim)⟩
  · exfalso
    have hxm : x ∈ L := by rw [hLe]; simp
    obtain ⟨k, i, a1, a2, a3, a4⟩ := h.om.wt x hxm
    have hxx : x.dst = src := by
      unfold hitW at hx
      simp only [Bool.and_eq_true, decide_eq_true_eq] at hx
      exact hx.2
    rcases hf with e | e
    · exact e (hd.trans h.hc.ad)
    · exact e (hxx.symm.trans a3.dst)
end
end Go.Proofs.YtfcbjcebkahehaaGreatDoor.Cl
namespace Go.Proofs.YtfcbjcebkahehaaGreatDoor.Cl
open Go.RowKit
def pickV (c n : Int) : Int := (if c < 0 then -(c + 1) else c) % n
theorem pickV_in (c : Int) {n : Int} (hn : 0 < n) : 0 ≤ pickV c n ∧ pickV c n < n := ⟨Int.emod_nonneg _ (by omega), Int.emod_lt_of_pos _ hn⟩
theorem pickv_any (c : Int) (n : Int) (hc : -9223372036854775808 ≤ c ∧ c ≤ 9223372036854775807) (hn : 0 < n) (w : World) : Calls Tryz.prog 10 #[.int .i64 c, .int .i64 n] w fun e w' => e = .returned (.int .i64 (pickV c n)) ∧ w' = w := by
  unfold pickV
  by_cases h : c < 0
  · rw [if_pos h]
    obtain ⟨d, hd⟩ : ∃ d, -(c + 1) = d := ⟨_, rfl⟩
    rw [hd]
    have hd0 : 0 ≤ d := by omega
    go_enter Tryz.func10, Tryz.ntmps10
    go_wp2
    go_ret
    exact ⟨by first | rfl | (rw [← hd]; rfl), rfl⟩
  · rw [if_neg h]
    go_enter Tryz.func10, Tryz.ntmps10
    go_wp2
    go_ret
    exact ⟨rfl, rfl⟩
/-- the reply that a step speaks of -/
def repR (n : Int) : ReplyP := ⟨n, false, nulA, 0, 0, 0, [119, 120, 121, 122], 0, 0⟩
theorem repR_may {n : Int} (h : isW n) : (repR n).may := by
  unfold ReplyP.may
  have e : (repR n).denied = false := rfl
  refine ⟨h, ?_⟩
  rw [if_neg (by rw [e]; decide)]
  exact ⟨(by decide : nulA.may), rfl, rfl, (by decide : (0 : Int) ≤ 0), (by decide : (0 : Int) ≤ 5), .inl ⟨rfl, (by decide : plainB [119, 120, 121, 122]), rfl, rfl⟩⟩
theorem repR_read {n : Int} (h : isW n) : parseR (repR n).lay = (repR n, 0) := parseR_there _ (repR_may h)
theorem repR_print {n : Int} (h : isW n) : prP (repR n) = ((repR n).lay, 0) := by unfold prP prM; rw [if_pos (repR_may h)]
theorem repR_len (n : Int) : (repR n).lay.length ≤ 1000 := by
  have e : (repR n).denied = false := rfl
  have e2 : (repR n).accept = 0 := rfl
  have e3 : (repR n).verf = nulA := rfl
  have e4 : (repR n).results = [119, 120, 121, 122] := rfl
  unfold ReplyP.lay
  rw [if_neg (by rw [e]; decide), if_neg (by rw [e2]; decide), e3, e4]
  simp only [List.length_append, nbL_len]
  decide
theorem bld46r (nn : Int) (w : World) : (Instr.build 46 #[(0, .int .i64 nn), (8, .string ⟨#[119, 120, 121, 122]⟩)]).run Tryz.prog w = .ok (.agg #[.int .i64 nn, .bool false, .int .i64 0, .string ⟨#[]⟩, .int .i64 0, .int .i64 0, .int .i64 0, .int .i64 0, .int .i64 0, .string ⟨#[119, 120, 121, 122]⟩]) w := by kernel_rfl
section
variable {K K' : Nat → Nat} {w w' : World} {B t p xb S S1 S2 : Nat} {c : Cf} {oa : Option Addr} {cap : Nat} {next now : Int} {L : List Wt} {D R : List Oc} {vw vd v : Value} {q : Mq} {vi : Value} {I : List Is} {n1 n2 : Int}
/-- the book beside the boxes of a step -/
structure AC (K : Nat → Nat) (w : World) (B t p xb S1 S2 : Nat) (c : Cf) (oa : Option Addr) (cap : Nat) (next now : Int) (L : List Wt) (vw vd : Value) (q : Mq) (vi : Value) (I : List Is) (n1 n2 kind N : Int) (s : ByteArray) : Prop where
  lf : LF K w B t p xb c oa cap next now L [] vw vd q vi I n1 n2
  a : TB K w (t + 30) S1 (.cells #[.int .i64 kind, .int .i64 N, .string s] 66)
  b : TB K w (t + 30) S2 (.cells #[.int .i64 c.pb, .int .i64 c.pc, .int .i64 c.pt] 23)
theorem AC.to {kind N : Int} {s : ByteArray} {T : Nat → Prop} (h : AC K w B t p xb S1 S2 c oa cap next now L vw vd q vi I n1 n2 kind N s) (m : Mv T w w' K K') (ht : ∀ t', T t' → t + 30 < t') : AC K' w' B t p xb S1 S2 c oa cap next now L vw vd q vi I n1 n2 kind N s :=
  ⟨h.lf.to m (fun t' e => by have := ht t' e; omega), h.a.mv m (fun e => by have := ht _ e; omega), h.b.mv m (fun e => by have := ht _ e; omega)⟩
/-- how a step begins: the boxes, the sequence it speaks of, whether that one waits, the reply -/
structure Beg (w : World) (K : Nat → Nat) (w2 : World) (B t p xb S1 S2 : Nat) (c : Cf) (oa : Option Addr) (cap : Nat) (next now : Int) (L : List Wt) (vw vd : Value) (q : Mq) (vi : Value) (I : List Is) (n1 n2 kind N : Int) (s : ByteArray) (K2 : Nat → Nat) (mI : Nat) (kk : Nat) : Prop where
  ac : AC K2 w2 B t p xb S1 S2 c oa cap next now L vw vd q vi I n1 n2 kind N s
  mv : Mv (fun u => t ≤ u) w w2 K K2
  pk : ∀ m, Calls Tryz.prog 10 #[.int .i64 N, .int .i64 ((mI : Int) + 1)] (w2.drewN m) fun e w' => e = .returned (.int .i64 (kk : Int)) ∧ w' = w2.drewN m
  kle : kk ≤ mI
  of_ : ∀ m, Calls Tryz.prog 48 #[ptr xb, .int .i64 (9 + (kk : Int))] (w2.drewN m) fun e w' => e = .returned (.int .i64 (if kk < mI then (kk : Int) else -1)) ∧ AC K2 w' B t p xb S1 S2 c oa cap next now L vw vd q vi I n1 n2 kind N s ∧ Mv (fun u => t ≤ u) w w' K K2
  pr : ∀ w' K', AC K' w' B t p xb S1 S2 c oa cap next now L vw vd q vi I n1 n2 kind N s → Calls Tryz.prog 49 #[.agg (replyV (repR (9 + (kk : Int)))).toArray] w' fun e w'' => e = .returned (.tuple #[.string ⟨(repR (9 + (kk : Int))).lay.toArray⟩, .int .i64 0]) ∧ Hid (∃ K'', AC K'' w'' B t p xb S1 S2 c oa cap next now L vw vd q vi I n1 n2 kind N s ∧ Mv (fun u => t ≤ u) w' w'' K' K'')
theorem LF.beg (h : LF K w B t p xb c oa cap next now L [] vw vd q vi I n1 n2) (kind N : Int) (s : ByteArray) (hN : -9223372036854775808 ≤ N ∧ N ≤ 9223372036854775807) {w2 : World} {mI : Nat} (hm : I.length = mI)
    (hw2 : (w.alloc (.cells #[.int .i64 kind, .int .i64 N, .string s] 66)).alloc (.cells #[.int .i64 c.pb, .int .i64 c.pc, .int .i64 c.pt] 23) = w2) :
    ∃ K2 kk, Beg w K w2 B t p xb w.heap.size (w.heap.size + 1) c oa cap next now L vw vd q vi I n1 n2 kind N s K2 mI kk := by
  obtain ⟨w1, hw1⟩ : ∃ y, w.alloc (.cells #[.int .i64 kind, .int .i64 N, .string s] 66) = y := ⟨_, rfl⟩
  rw [hw1] at hw2
  have B1 : Below w.heap.size w w1 := by rw [← hw1]; exact (Below.refl _ _).alloc (Nat.le_refl _) _
  have k1 : w1.heap[w.heap.size]? = some (.cells #[.int .i64 kind, .int .i64 N, .string s] 66) := by rw [← hw1]; exact (MapKept.heap_alloc w _).1
  have hz : w1.heap.size = w.heap.size + 1 := by rw [← hw1]; simp
  have B2 : Below w1.heap.size w1 w2 := by rw [← hw2]; exact (Below.refl _ _).alloc (Nat.le_refl _) _
  have k2 : w2.heap[w.heap.size + 1]? = some (.cells #[.int .i64 c.pb, .int .i64 c.pc, .int .i64 c.pt] 23) := by rw [← hw2, ← hz]; exact (MapKept.heap_alloc w1 _).1
  have m1 := Mv.of_below B1 K (fun _ => t + 30)
  have m2 := Mv.of_below B2 (ext w K (fun _ => t + 30)) (fun _ => t + 30)
  obtain ⟨K2, hK2⟩ : ∃ K2, ext w1 (ext w K (fun _ => t + 30)) (fun _ => t + 30) = K2 := ⟨_, rfl⟩
  have e1 : K2 w.heap.size = t + 30 := by rw [← hK2, ext_old (by omega), ext_new (Nat.le_refl _)]
  have e2 : K2 (w.heap.size + 1) = t + 30 := by rw [← hK2, ext_new (by omega)]
  rw [hK2] at m2
  have ac : AC K2 w2 B t p xb w.heap.size (w.heap.size + 1) c oa cap next now L vw vd q vi I n1 n2 kind N s := ⟨(h.to m1 (fun _ e => e.elim)).to m2 (fun _ e => e.elim), ⟨(B2.block _ (by omega)).trans k1, e1⟩, ⟨k2, e2⟩⟩
  have mv : Mv (fun u => t ≤ u) w w2 K K2 := (m1.mono (fun _ e => e.elim)).trans (m2.mono (fun _ e => e.elim))
  have hp := pickV_in N (n := (mI : Int) + 1) (by omega)
  obtain ⟨kk, hkk⟩ : ∃ kk : Nat, pickV N ((mI : Int) + 1) = kk := ⟨(pickV N ((mI : Int) + 1)).toNat, by omega⟩
  have hI := h.hI
  rw [hkk] at hp
  refine ⟨K2, kk, ac, mv, fun m => by rw [← hkk]; exact pickv_any N _ hN (by omega) _, by omega, fun m => ?_, fun w' K' a' => ?_⟩
  · have am := ac.to (mv_drewN w2 K2 m) (fun _ e => e.elim)
    refine (am.lf.of_any (9 + (kk : Int))).mono ?_
    rintro e w' ⟨rfl, rfl⟩
    refine ⟨?_, am, mv.trans ((mv_drewN w2 K2 m).mono (fun _ e => e.elim))⟩
    unfold ofP
    rw [hm]
    by_cases hlt : kk < mI
    · rw [if_pos hlt, if_pos (by omega), show (9 : Int) + kk - 9 = kk by omega]
    · rw [if_neg hlt, if_neg (by omega)]
  · have hw : isW (9 + (kk : Int)) := by unfold isW; omega
    have := printReply_any (repR (9 + (kk : Int))) w' a'.lf.pc.err (by show ([119, 120, 121, 122] : List UInt8).length ≤ _; decide)
    rw [repR_print hw] at this
    refine this.mono ?_
    rintro e w'' ⟨he, hb⟩
    have m := Mv.of_below hb K' (fun _ => t + 31)
    exact ⟨he, _, a'.to m (fun _ e => e.elim), m.mono (fun _ e => e.elim)⟩
end
end Go.Proofs.YtfcbjcebkahehaaGreatDoor.Cl
namespace Go.Proofs.YtfcbjcebkahehaaGreatDoor.Cl
open Go.RowKit
section
variable {K K' : Nat → Nat} {w w' : World} {B t p xb S S1 S2 : Nat} {c : Cf} {oa : Option Addr} {cap : Nat} {next now : Int} {L : List Wt} {D R : List Oc} {vw vd v : Value} {q : Mq} {vi : Value} {I : List Is} {n1 n2 : Int}
set_option maxRecDepth 8000 in
set_option maxHeartbeats 8000000 in
theorem LF.acts_due (h : LF K w B t p xb c oa cap next now L [] vw vd q vi I n1 n2) (N : Int) (s : ByteArray) (hN : -9223372036854775808 ≤ N ∧ N ≤ 9223372036854775807) (hI : I.length + 1 ≤ 50000000) (hn : now + 1 ≤ 100000000) (hs : s.size ≤ 281474976710656) :
    Calls Tryz.prog 15 #[ptr xb, .agg #[.int .i64 1, .int .i64 N, .string s], .agg #[.int .i64 c.pb, .int .i64 c.pc, .int .i64 c.pt], .int .i64 c.win] w fun e w' => e = .returned (.bool true) ∧ Hid (∃ K' next' now' L' D' vw' vd' q' vi' I' n2', LF K' w' B t p xb c oa cap next' now' L' D' vw' vd' q' vi' I' n1 n2' ∧ (I'.length ≤ I.length + 1 ∧ now' ≤ now + 1 ∧ D'.length ≤ 50000000) ∧ Mv (fun u => t ≤ u) w w' K K') := by
  obtain ⟨mI, hmI⟩ : ∃ m, I.length = m := ⟨_, rfl⟩
  obtain ⟨w2, hw2⟩ : ∃ y, (w.alloc (.cells #[.int .i64 1, .int .i64 N, .string s] 66)).alloc (.cells #[.int .i64 c.pb, .int .i64 c.pc, .int .i64 c.pt] 23) = y := ⟨_, rfl⟩
  obtain ⟨K2, kk, BE⟩ := h.beg 1 N s hN hmI hw2
  obtain ⟨S1, hS1⟩ : ∃ y, w.heap.size = y := ⟨_, rfl⟩
  obtain ⟨w1, hw1⟩ : ∃ y, w.alloc (.cells #[.int .i64 1, .int .i64 N, .string s] 66) = y := ⟨_, rfl⟩
  obtain ⟨S2, hS2⟩ : ∃ y, w1.heap.size = y := ⟨_, rfl⟩
  have hS12 : w.heap.size + 1 = S2 := by rw [← hS2, ← hw1]; simp
  rw [hw1] at hw2
  rw [hS12, hS1] at BE
  obtain ⟨oI, cI, evi, _, hgI⟩ := h.is.form
  rw [hmI] at evi
  subst evi
  have a1 : w2.cell? ⟨S1, 1, none⟩ = some (.int .i64 N) := cell_at BE.ac.a.at_ rfl
  have x1 : w2.cell? ⟨xb, 1, none⟩ = some (.slice oI mI cI) := BE.ac.lf.ce0.2.1
  have HPk := hid BE.pk
  have HOf := hid BE.of_
  have HPr := hid BE.pr
  have hkk := BE.kle
  have hmB : (mI : Int) ≤ 50000000 := by omega
  obtain ⟨mj, hmj⟩ : ∃ mj : Int, (mI : Int) + 1 = mj := ⟨_, rfl⟩
  have b1 : -9223372036854775808 ≤ (mI : Int) + 1 ∧ (mI : Int) + 1 ≤ 9223372036854775807 := by omega
  obtain ⟨nn, hnn⟩ : ∃ nn : Int, 9 + (kk : Int) = nn := ⟨_, rfl⟩
  have b2 : -9223372036854775808 ≤ 9 + (kk : Int) ∧ 9 + (kk : Int) ≤ 9223372036854775807 := by omega
  obtain ⟨kv, hkv⟩ : ∃ kv : Int, (if kk < mI then (kk : Int) else -1) = kv := ⟨_, rfl⟩
  have hkvi : Hid ((kk < mI ∧ kv = kk ∧ nn = 9 + kk) ∨ (kk = mI ∧ kv = -1 ∧ nn = 9 + kk)) := by
    rw [← hkv, ← hnn]
    by_cases e : kk < mI
    · exact .inl ⟨e, if_pos e, rfl⟩
    · exact .inr ⟨by omega, if_neg e, rfl⟩
  have hw9 : isW nn := by unfold isW; omega
  obtain ⟨txt, htxt⟩ : ∃ txt : ByteArray, (⟨(repR nn).lay.toArray⟩ : ByteArray) = txt := ⟨_, rfl⟩
  have HT := hid (And.intro htxt (And.intro hw9 (And.intro hmI (And.intro hI (And.intro hn (And.intro hs h))))))
  have HG := hid hgI
  rw [hmj] at HPk
  rw [hkv] at HOf
  have HPr : Hid (∀ w' K', AC K' w' B t p xb S1 S2 c oa cap next now L vw vd q (.slice oI mI cI) I n1 n2 1 N s → Calls Tryz.prog 49 #[.agg #[.int .i64 nn, .bool false, .int .i64 0, .string ⟨#[]⟩, .int .i64 0, .int .i64 0, .int .i64 0, .int .i64 0, .int .i64 0, .string ⟨#[119, 120, 121, 122]⟩]] w' fun e w'' => e = .returned (.tuple #[.string txt, .int .i64 0]) ∧ Hid (∃ K'', AC K'' w'' B t p xb S1 S2 c oa cap next now L vw vd q (.slice oI mI cI) I n1 n2 1 N s ∧ Mv (fun u => t ≤ u) w' w'' K' K'')) := fun w' K' a' => by
    have := HPr.out w' K' a'
    rw [hnn, htxt] at this
    exact this
  rw [hnn] at HOf
  have hb46 := fun nn w => bld46r nn w
  have hr1 : IntKind.i64.wrap ((mI : Int) + 1) = mj := by rw [IntWalk.i64_left, wrap_in b1, hmj]
  have hr1' : wrap64 ((mI : Int) + 1) = mj := by rw [wrap_in b1, hmj]
  have hr2 : IntKind.i64.wrap (9 + (kk : Int)) = nn := by rw [IntWalk.i64_left, wrap_in b2, hnn]
  have hr2' : wrap64 (9 + (kk : Int)) = nn := by rw [wrap_in b2, hnn]
  clear h BE hgI hN hmI hI hn hs hS12 hkk hmB hmj b1 b2 hnn hkv hw9 htxt
  go_enter Tryz.func15, Tryz.ntmps15
  go_wp2_with fail
  go_quiet ((go_at_call 10; exact Calls.quiet_of_same (HPk.out _)))
  go_wp2_with fail
  refine (HOf.out _).mono ?_
  rintro _ w3 ⟨rfl, A3, m3⟩
  clear HPk HOf a1 x1 hr1 hr1' hr2 hr2'
  have x1 : w3.cell? ⟨xb, 1, none⟩ = some (.slice oI mI cI) := A3.lf.ce0.2.1
  have H49 := hid (HPr.out w3 K2 A3)
  have HM3 := hid (And.intro A3 m3)
  clear HPr m3
  rcases hkvi.out with ⟨hlt, rfl, hnk⟩ | ⟨hke, rfl, hnk⟩
  · obtain ⟨gI, rfl⟩ := HG.out (by rw [HT.out.2.2.1]; omega)
    obtain ⟨i, hi⟩ : ∃ i, I[kk]? = some i := ⟨_, List.getElem?_eq_getElem (by rw [HT.out.2.2.1]; omega)⟩
    obtain ⟨ib, hib⟩ : ∃ ib, i.over = ib := ⟨_, rfl⟩
    have y3 : w3.cell? ⟨gI, kk * 4 + 3, none⟩ = some (.bool ib) := by rw [← hib]; exact (A3.lf.is.is4 HT.out.2.2.1 hi).2.2.2
    have hk0 : decide ((0 : Int) ≤ (kk : Int)) = true := decide_eq_true (by omega)
    have hkm : (kk : Int) < (mI : Int) := by omega
    have hkm0 : (0 : Int) ≤ (kk : Int) := by omega
    obtain ⟨wb, hwb⟩ : ∃ wb, (!ib) = wb := ⟨_, rfl⟩
    have HW : Hid (wb = true ↔ ∃ y ∈ L, y.seq = nn) := by
      have hnum := A3.lf.om.num kk i hi
      refine ⟨fun e => ?_, fun ⟨y, hy, ey⟩ => ?_⟩
      · have hf : i.over = false := by rw [hib]; rw [e] at hwb; simpa using hwb
        rcases A3.lf.om.all kk i hi hf with ⟨x, hx, ex⟩ | ⟨d, hd, _⟩
        · exact ⟨x, hx, by omega⟩
        · cases hd
      · obtain ⟨k', i', b1, b2, b3, b4⟩ := A3.lf.om.wt y hy
        obtain ⟨_, e2⟩ := A3.lf.om.same_at b1 hi (by have := b3.seq; omega)
        rw [← hwb, ← hib, ← e2, b2]; rfl
    clear A3 hi hib hlt hnk
    go_wp2_with fail
    refine H49.out.mono ?_
    rintro _ w4 ⟨rfl, H4⟩
    clear H49
    obtain ⟨K4, A4, m4⟩ := H4.out
    have am := HM3.out.2.trans m4
    have a0 : w4.cell? ⟨S1, 0, none⟩ = some (.int .i64 1) := cell_at A4.a.at_ rfl
    have c0 : w4.cell? ⟨S2, 0, none⟩ = some (.int .i64 c.pb) := cell_at A4.b.at_ rfl
    have c1 : w4.cell? ⟨S2, 1, none⟩ = some (.int .i64 c.pc) := cell_at A4.b.at_ rfl
    have c2 : w4.cell? ⟨S2, 2, none⟩ = some (.int .i64 c.pt) := cell_at A4.b.at_ rfl
    have HD := hid A4.lf.due_any
    have HA := hid am
    clear A4 m4 am H4 HM3 HW
    go_wp2_with fail
    refine HD.out.mono ?_
    rintro _ w5 ⟨rfl, H5⟩
    clear HD
    go_wp2
    go_ret
    refine ⟨rfl, ?_⟩
    obtain ⟨K5, I5, n5, L5, e5, m5⟩ := H5.out
    exact ⟨K5, _, _, _, [], _, _, _, _, I5, n5, L5, ⟨by rw [e5]; omega, by omega, by simp⟩, HA.out.trans m5⟩
  · have HW : Hid (false = true ↔ ∃ y ∈ L, y.seq = nn) := by
      refine ⟨fun e => by (cases e), fun ⟨y, hy, ey⟩ => ?_⟩
      have h1 := (A3.lf.om.seq_lt hy).2
      have h2 := A3.lf.om.nxt
      rw [HT.out.2.2.1] at h2
      omega
    clear A3 hke hnk
    go_wp2_with fail
    refine H49.out.mono ?_
    rintro _ w4 ⟨rfl, H4⟩
    clear H49
    obtain ⟨K4, A4, m4⟩ := H4.out
    have am := HM3.out.2.trans m4
    have a0 : w4.cell? ⟨S1, 0, none⟩ = some (.int .i64 1) := cell_at A4.a.at_ rfl
    have c0 : w4.cell? ⟨S2, 0, none⟩ = some (.int .i64 c.pb) := cell_at A4.b.at_ rfl
    have c1 : w4.cell? ⟨S2, 1, none⟩ = some (.int .i64 c.pc) := cell_at A4.b.at_ rfl
    have c2 : w4.cell? ⟨S2, 2, none⟩ = some (.int .i64 c.pt) := cell_at A4.b.at_ rfl
    have HD := hid A4.lf.due_any
    have HA := hid am
    clear A4 m4 am H4 HM3 HW
    go_wp2_with fail
    refine HD.out.mono ?_
    rintro _ w5 ⟨rfl, H5⟩
    clear HD
    go_wp2
    go_ret
    refine ⟨rfl, ?_⟩
    obtain ⟨K5, I5, n5, L5, e5, m5⟩ := H5.out
    exact ⟨K5, _, _, _, [], _, _, _, _, I5, n5, L5, ⟨by rw [e5]; omega, by omega, by simp⟩, HA.out.trans m5⟩
end
end Go.Proofs.YtfcbjcebkahehaaGreatDoor.Cl
namespace Go.Proofs.YtfcbjcebkahehaaGreatDoor.Cl
open Go.RowKit
section
variable {K K' : Nat → Nat} {w w' : World} {B t p xb S S1 S2 : Nat} {c : Cf} {oa : Option Addr} {cap : Nat} {next now : Int} {L : List Wt} {D R : List Oc} {vw vd v : Value} {q : Mq} {vi : Value} {I : List Is} {n1 n2 : Int}
set_option maxRecDepth 8000 in
set_option maxHeartbeats 8000000 in
theorem LF.acts_tick (h : LF K w B t p xb c oa cap next now L [] vw vd q vi I n1 n2) (N : Int) (s : ByteArray) (hN : -9223372036854775808 ≤ N ∧ N ≤ 9223372036854775807) (hI : I.length + 1 ≤ 50000000) (hn : now + 1 ≤ 100000000) (hs : s.size ≤ 281474976710656) (kd : Int) (h0 : (kd == 0) = false) (h1 : (kd == 1) = false) (h3 : (kd == 3) = false) (h4 : (kd == 4) = false) (h5 : (kd == 5) = false) :
    Calls Tryz.prog 15 #[ptr xb, .agg #[.int .i64 kd, .int .i64 N, .string s], .agg #[.int .i64 c.pb, .int .i64 c.pc, .int .i64 c.pt], .int .i64 c.win] w fun e w' => e = .returned (.bool true) ∧ Hid (∃ K' next' now' L' D' vw' vd' q' vi' I' n2', LF K' w' B t p xb c oa cap next' now' L' D' vw' vd' q' vi' I' n1 n2' ∧ (I'.length ≤ I.length + 1 ∧ now' ≤ now + 1 ∧ D'.length ≤ 50000000) ∧ Mv (fun u => t ≤ u) w w' K K') := by
  obtain ⟨mI, hmI⟩ : ∃ m, I.length = m := ⟨_, rfl⟩
  obtain ⟨w2, hw2⟩ : ∃ y, (w.alloc (.cells #[.int .i64 kd, .int .i64 N, .string s] 66)).alloc (.cells #[.int .i64 c.pb, .int .i64 c.pc, .int .i64 c.pt] 23) = y := ⟨_, rfl⟩
  obtain ⟨K2, kk, BE⟩ := h.beg kd N s hN hmI hw2
  obtain ⟨S1, hS1⟩ : ∃ y, w.heap.size = y := ⟨_, rfl⟩
  obtain ⟨w1, hw1⟩ : ∃ y, w.alloc (.cells #[.int .i64 kd, .int .i64 N, .string s] 66) = y := ⟨_, rfl⟩
  obtain ⟨S2, hS2⟩ : ∃ y, w1.heap.size = y := ⟨_, rfl⟩
  have hS12 : w.heap.size + 1 = S2 := by rw [← hS2, ← hw1]; simp
  rw [hw1] at hw2
  rw [hS12, hS1] at BE
  obtain ⟨oI, cI, evi, _, hgI⟩ := h.is.form
  rw [hmI] at evi
  subst evi
  have a1 : w2.cell? ⟨S1, 1, none⟩ = some (.int .i64 N) := cell_at BE.ac.a.at_ rfl
  have x1 : w2.cell? ⟨xb, 1, none⟩ = some (.slice oI mI cI) := BE.ac.lf.ce0.2.1
  have HPk := hid BE.pk
  have HOf := hid BE.of_
  have HPr := hid BE.pr
  have hkk := BE.kle
  have hmB : (mI : Int) ≤ 50000000 := by omega
  obtain ⟨mj, hmj⟩ : ∃ mj : Int, (mI : Int) + 1 = mj := ⟨_, rfl⟩
  have b1 : -9223372036854775808 ≤ (mI : Int) + 1 ∧ (mI : Int) + 1 ≤ 9223372036854775807 := by omega
  obtain ⟨nn, hnn⟩ : ∃ nn : Int, 9 + (kk : Int) = nn := ⟨_, rfl⟩
  have b2 : -9223372036854775808 ≤ 9 + (kk : Int) ∧ 9 + (kk : Int) ≤ 9223372036854775807 := by omega
  obtain ⟨kv, hkv⟩ : ∃ kv : Int, (if kk < mI then (kk : Int) else -1) = kv := ⟨_, rfl⟩
  have hkvi : Hid ((kk < mI ∧ kv = kk ∧ nn = 9 + kk) ∨ (kk = mI ∧ kv = -1 ∧ nn = 9 + kk)) := by
    rw [← hkv, ← hnn]
    by_cases e : kk < mI
    · exact .inl ⟨e, if_pos e, rfl⟩
    · exact .inr ⟨by omega, if_neg e, rfl⟩
  have hw9 : isW nn := by unfold isW; omega
  obtain ⟨txt, htxt⟩ : ∃ txt : ByteArray, (⟨(repR nn).lay.toArray⟩ : ByteArray) = txt := ⟨_, rfl⟩
  have HT := hid (And.intro htxt (And.intro hw9 (And.intro hmI (And.intro hI (And.intro hn (And.intro hs h))))))
  have HG := hid hgI
  rw [hmj] at HPk
  rw [hkv] at HOf
  have HPr : Hid (∀ w' K', AC K' w' B t p xb S1 S2 c oa cap next now L vw vd q (.slice oI mI cI) I n1 n2 kd N s → Calls Tryz.prog 49 #[.agg #[.int .i64 nn, .bool false, .int .i64 0, .string ⟨#[]⟩, .int .i64 0, .int .i64 0, .int .i64 0, .int .i64 0, .int .i64 0, .string ⟨#[119, 120, 121, 122]⟩]] w' fun e w'' => e = .returned (.tuple #[.string txt, .int .i64 0]) ∧ Hid (∃ K'', AC K'' w'' B t p xb S1 S2 c oa cap next now L vw vd q (.slice oI mI cI) I n1 n2 kd N s ∧ Mv (fun u => t ≤ u) w' w'' K' K'')) := fun w' K' a' => by
    have := HPr.out w' K' a'
    rw [hnn, htxt] at this
    exact this
  rw [hnn] at HOf
  have hb46 := fun nn w => bld46r nn w
  have hr1 : IntKind.i64.wrap ((mI : Int) + 1) = mj := by rw [IntWalk.i64_left, wrap_in b1, hmj]
  have hr1' : wrap64 ((mI : Int) + 1) = mj := by rw [wrap_in b1, hmj]
  have hr2 : IntKind.i64.wrap (9 + (kk : Int)) = nn := by rw [IntWalk.i64_left, wrap_in b2, hnn]
  have hr2' : wrap64 (9 + (kk : Int)) = nn := by rw [wrap_in b2, hnn]
  clear h BE hgI hN hmI hI hn hs hS12 hkk hmB hmj b1 b2 hnn hkv hw9 htxt
  go_enter Tryz.func15, Tryz.ntmps15
  go_wp2_with fail
  go_quiet ((go_at_call 10; exact Calls.quiet_of_same (HPk.out _)))
  go_wp2_with fail
  refine (HOf.out _).mono ?_
  rintro _ w3 ⟨rfl, A3, m3⟩
  clear HPk HOf a1 x1 hr1 hr1' hr2 hr2'
  have x1 : w3.cell? ⟨xb, 1, none⟩ = some (.slice oI mI cI) := A3.lf.ce0.2.1
  have H49 := hid (HPr.out w3 K2 A3)
  have HM3 := hid (And.intro A3 m3)
  clear HPr m3
  rcases hkvi.out with ⟨hlt, rfl, hnk⟩ | ⟨hke, rfl, hnk⟩
  · obtain ⟨gI, rfl⟩ := HG.out (by rw [HT.out.2.2.1]; omega)
    obtain ⟨i, hi⟩ : ∃ i, I[kk]? = some i := ⟨_, List.getElem?_eq_getElem (by rw [HT.out.2.2.1]; omega)⟩
    obtain ⟨ib, hib⟩ : ∃ ib, i.over = ib := ⟨_, rfl⟩
    have y3 : w3.cell? ⟨gI, kk * 4 + 3, none⟩ = some (.bool ib) := by rw [← hib]; exact (A3.lf.is.is4 HT.out.2.2.1 hi).2.2.2
    have hk0 : decide ((0 : Int) ≤ (kk : Int)) = true := decide_eq_true (by omega)
    have hkm : (kk : Int) < (mI : Int) := by omega
    have hkm0 : (0 : Int) ≤ (kk : Int) := by omega
    obtain ⟨wb, hwb⟩ : ∃ wb, (!ib) = wb := ⟨_, rfl⟩
    have HW : Hid (wb = true ↔ ∃ y ∈ L, y.seq = nn) := by
      have hnum := A3.lf.om.num kk i hi
      refine ⟨fun e => ?_, fun ⟨y, hy, ey⟩ => ?_⟩
      · have hf : i.over = false := by rw [hib]; rw [e] at hwb; simpa using hwb
        rcases A3.lf.om.all kk i hi hf with ⟨x, hx, ex⟩ | ⟨d, hd, _⟩
        · exact ⟨x, hx, by omega⟩
        · cases hd
      · obtain ⟨k', i', b1, b2, b3, b4⟩ := A3.lf.om.wt y hy
        obtain ⟨_, e2⟩ := A3.lf.om.same_at b1 hi (by have := b3.seq; omega)
        rw [← hwb, ← hib, ← e2, b2]; rfl
    clear A3 hi hib hlt hnk
    go_wp2_with fail
    refine H49.out.mono ?_
    rintro _ w4 ⟨rfl, H4⟩
    clear H49
    obtain ⟨K4, A4, m4⟩ := H4.out
    have am := HM3.out.2.trans m4
    have a0 : w4.cell? ⟨S1, 0, none⟩ = some (.int .i64 kd) := cell_at A4.a.at_ rfl
    have z0 : w4.cell? ⟨xb, 0, none⟩ = some (ptr p) := A4.lf.ce0.1
    have HD := hid (A4.lf.tick_any HT.out.2.2.2.2.1)
    have HA := hid am
    clear A4 m4 am H4 HM3 HW
    go_wp2_with fail
    refine HD.out.mono ?_
    rintro _ w5 ⟨⟨v5, rfl⟩, H5⟩
    clear HD
    go_wp2
    go_ret
    refine ⟨rfl, ?_⟩
    obtain ⟨K5, L5, D5, vw5, vd5, F5, e5, m5⟩ := H5.out
    exact ⟨K5, _, _, L5, D5, vw5, vd5, _, _, I, n2, F5, ⟨by omega, by omega, e5⟩, HA.out.trans m5⟩
  · have HW : Hid (false = true ↔ ∃ y ∈ L, y.seq = nn) := by
      refine ⟨fun e => by (cases e), fun ⟨y, hy, ey⟩ => ?_⟩
      have h1 := (A3.lf.om.seq_lt hy).2
      have h2 := A3.lf.om.nxt
      rw [HT.out.2.2.1] at h2
      omega
    clear A3 hke hnk
    go_wp2_with fail
    refine H49.out.mono ?_
    rintro _ w4 ⟨rfl, H4⟩
    clear H49
    obtain ⟨K4, A4, m4⟩ := H4.out
    have am := HM3.out.2.trans m4
    have a0 : w4.cell? ⟨S1, 0, none⟩ = some (.int .i64 kd) := cell_at A4.a.at_ rfl
    have z0 : w4.cell? ⟨xb, 0, none⟩ = some (ptr p) := A4.lf.ce0.1
    have HD := hid (A4.lf.tick_any HT.out.2.2.2.2.1)
    have HA := hid am
    clear A4 m4 am H4 HM3 HW
    go_wp2_with fail
    refine HD.out.mono ?_
    rintro _ w5 ⟨⟨v5, rfl⟩, H5⟩
    clear HD
    go_wp2
    go_ret
    refine ⟨rfl, ?_⟩
    obtain ⟨K5, L5, D5, vw5, vd5, F5, e5, m5⟩ := H5.out
    exact ⟨K5, _, _, L5, D5, vw5, vd5, _, _, I, n2, F5, ⟨by omega, by omega, e5⟩, HA.out.trans m5⟩
end
end Go.Proofs.YtfcbjcebkahehaaGreatDoor.Cl
namespace Go.Proofs.YtfcbjcebkahehaaGreatDoor.Cl
open Go.RowKit
section
variable {K K' : Nat → Nat} {w w' : World} {B t p xb S S1 S2 : Nat} {c : Cf} {oa : Option Addr} {cap : Nat} {next now : Int} {L : List Wt} {D R : List Oc} {vw vd v : Value} {q : Mq} {vi : Value} {I : List Is} {n1 n2 : Int}
set_option maxRecDepth 8000 in
set_option maxHeartbeats 8000000 in
theorem LF.acts_hear (h : LF K w B t p xb c oa cap next now L [] vw vd q vi I n1 n2) (N : Int) (s : ByteArray) (hN : -9223372036854775808 ≤ N ∧ N ≤ 9223372036854775807) (hI : I.length + 1 ≤ 50000000) (hn : now + 1 ≤ 100000000) (hs : s.size ≤ 281474976710656) :
    Calls Tryz.prog 15 #[ptr xb, .agg #[.int .i64 3, .int .i64 N, .string s], .agg #[.int .i64 c.pb, .int .i64 c.pc, .int .i64 c.pt], .int .i64 c.win] w fun e w' => e = .returned (.bool true) ∧ Hid (∃ K' next' now' L' D' vw' vd' q' vi' I' n2', LF K' w' B t p xb c oa cap next' now' L' D' vw' vd' q' vi' I' n1 n2' ∧ (I'.length ≤ I.length + 1 ∧ now' ≤ now + 1 ∧ D'.length ≤ 50000000) ∧ Mv (fun u => t ≤ u) w w' K K') := by
  obtain ⟨mI, hmI⟩ : ∃ m, I.length = m := ⟨_, rfl⟩
  obtain ⟨w2, hw2⟩ : ∃ y, (w.alloc (.cells #[.int .i64 3, .int .i64 N, .string s] 66)).alloc (.cells #[.int .i64 c.pb, .int .i64 c.pc, .int .i64 c.pt] 23) = y := ⟨_, rfl⟩
  obtain ⟨K2, kk, BE⟩ := h.beg 3 N s hN hmI hw2
  obtain ⟨S1, hS1⟩ : ∃ y, w.heap.size = y := ⟨_, rfl⟩
  obtain ⟨w1, hw1⟩ : ∃ y, w.alloc (.cells #[.int .i64 3, .int .i64 N, .string s] 66) = y := ⟨_, rfl⟩
  obtain ⟨S2, hS2⟩ : ∃ y, w1.heap.size = y := ⟨_, rfl⟩
  have hS12 : w.heap.size + 1 = S2 := by rw [← hS2, ← hw1]; simp
  rw [hw1] at hw2
  rw [hS12, hS1] at BE
  obtain ⟨oI, cI, evi, _, hgI⟩ := h.is.form
  rw [hmI] at evi
  subst evi
  have a1 : w2.cell? ⟨S1, 1, none⟩ = some (.int .i64 N) := cell_at BE.ac.a.at_ rfl
  have x1 : w2.cell? ⟨xb, 1, none⟩ = some (.slice oI mI cI) := BE.ac.lf.ce0.2.1
  have HPk := hid BE.pk
  have HOf := hid BE.of_
  have HPr := hid BE.pr
  have hkk := BE.kle
  have hmB : (mI : Int) ≤ 50000000 := by omega
  obtain ⟨mj, hmj⟩ : ∃ mj : Int, (mI : Int) + 1 = mj := ⟨_, rfl⟩
  have b1 : -9223372036854775808 ≤ (mI : Int) + 1 ∧ (mI : Int) + 1 ≤ 9223372036854775807 := by omega
  obtain ⟨nn, hnn⟩ : ∃ nn : Int, 9 + (kk : Int) = nn := ⟨_, rfl⟩
  have b2 : -9223372036854775808 ≤ 9 + (kk : Int) ∧ 9 + (kk : Int) ≤ 9223372036854775807 := by omega
  obtain ⟨kv, hkv⟩ : ∃ kv : Int, (if kk < mI then (kk : Int) else -1) = kv := ⟨_, rfl⟩
  have hkvi : Hid ((kk < mI ∧ kv = kk ∧ nn = 9 + kk) ∨ (kk = mI ∧ kv = -1 ∧ nn = 9 + kk)) := by
    rw [← hkv, ← hnn]
    by_cases e : kk < mI
    · exact .inl ⟨e, if_pos e, rfl⟩
    · exact .inr ⟨by omega, if_neg e, rfl⟩
  have hw9 : isW nn := by unfold isW; omega
  obtain ⟨txt, htxt⟩ : ∃ txt : ByteArray, (⟨(repR nn).lay.toArray⟩ : ByteArray) = txt := ⟨_, rfl⟩
  have HT := hid (And.intro htxt (And.intro hw9 (And.intro hmI (And.intro hI (And.intro hn (And.intro hs h))))))
  have HG := hid hgI
  rw [hmj] at HPk
  rw [hkv] at HOf
  have HPr : Hid (∀ w' K', AC K' w' B t p xb S1 S2 c oa cap next now L vw vd q (.slice oI mI cI) I n1 n2 3 N s → Calls Tryz.prog 49 #[.agg #[.int .i64 nn, .bool false, .int .i64 0, .string ⟨#[]⟩, .int .i64 0, .int .i64 0, .int .i64 0, .int .i64 0, .int .i64 0, .string ⟨#[119, 120, 121, 122]⟩]] w' fun e w'' => e = .returned (.tuple #[.string txt, .int .i64 0]) ∧ Hid (∃ K'', AC K'' w'' B t p xb S1 S2 c oa cap next now L vw vd q (.slice oI mI cI) I n1 n2 3 N s ∧ Mv (fun u => t ≤ u) w' w'' K' K'')) := fun w' K' a' => by
    have := HPr.out w' K' a'
    rw [hnn, htxt] at this
    exact this
  rw [hnn] at HOf
  have hb46 := fun nn w => bld46r nn w
  have hr1 : IntKind.i64.wrap ((mI : Int) + 1) = mj := by rw [IntWalk.i64_left, wrap_in b1, hmj]
  have hr1' : wrap64 ((mI : Int) + 1) = mj := by rw [wrap_in b1, hmj]
  have hr2 : IntKind.i64.wrap (9 + (kk : Int)) = nn := by rw [IntWalk.i64_left, wrap_in b2, hnn]
  have hr2' : wrap64 (9 + (kk : Int)) = nn := by rw [wrap_in b2, hnn]
  clear h BE hgI hN hmI hI hn hs hS12 hkk hmB hmj b1 b2 hnn hkv hw9 htxt
  go_enter Tryz.func15, Tryz.ntmps15
  go_wp2_with fail
  go_quiet ((go_at_call 10; exact Calls.quiet_of_same (HPk.out _)))
  go_wp2_with fail
  refine (HOf.out _).mono ?_
  rintro _ w3 ⟨rfl, A3, m3⟩
  clear HPk HOf a1 x1 hr1 hr1' hr2 hr2'
  have x1 : w3.cell? ⟨xb, 1, none⟩ = some (.slice oI mI cI) := A3.lf.ce0.2.1
  have H49 := hid (HPr.out w3 K2 A3)
  have HM3 := hid (And.intro A3 m3)
  clear HPr m3
  rcases hkvi.out with ⟨hlt, rfl, hnk⟩ | ⟨hke, rfl, hnk⟩
  · obtain ⟨gI, rfl⟩ := HG.out (by rw [HT.out.2.2.1]; omega)
    obtain ⟨i, hi⟩ : ∃ i, I[kk]? = some i := ⟨_, List.getElem?_eq_getElem (by rw [HT.out.2.2.1]; omega)⟩
    obtain ⟨ib, hib⟩ : ∃ ib, i.over = ib := ⟨_, rfl⟩
    have y3 : w3.cell? ⟨gI, kk * 4 + 3, none⟩ = some (.bool ib) := by rw [← hib]; exact (A3.lf.is.is4 HT.out.2.2.1 hi).2.2.2
    have hk0 : decide ((0 : Int) ≤ (kk : Int)) = true := decide_eq_true (by omega)
    have hkm : (kk : Int) < (mI : Int) := by omega
    have hkm0 : (0 : Int) ≤ (kk : Int) := by omega
    obtain ⟨wb, hwb⟩ : ∃ wb, (!ib) = wb := ⟨_, rfl⟩
    have HW : Hid (wb = true ↔ ∃ y ∈ L, y.seq = nn) := by
      have hnum := A3.lf.om.num kk i hi
      refine ⟨fun e => ?_, fun ⟨y, hy, ey⟩ => ?_⟩
      · have hf : i.over = false := by rw [hib]; rw [e] at hwb; simpa using hwb
        rcases A3.lf.om.all kk i hi hf with ⟨x, hx, ex⟩ | ⟨d, hd, _⟩
        · exact ⟨x, hx, by omega⟩
        · cases hd
      · obtain ⟨k', i', b1, b2, b3, b4⟩ := A3.lf.om.wt y hy
        obtain ⟨_, e2⟩ := A3.lf.om.same_at b1 hi (by have := b3.seq; omega)
        rw [← hwb, ← hib, ← e2, b2]; rfl
    clear A3 hi hib hlt hnk
    go_wp2_with fail
    refine H49.out.mono ?_
    rintro _ w4 ⟨rfl, H4⟩
    clear H49
    obtain ⟨K4, A4, m4⟩ := H4.out
    have am := HM3.out.2.trans m4
    have a0 : w4.cell? ⟨S1, 0, none⟩ = some (.int .i64 3) := cell_at A4.a.at_ rfl
    have z0 : w4.cell? ⟨xb, 0, none⟩ = some (ptr p) := A4.lf.ce0.1
    have HH := A4.lf.hear_any 65636 65537 (repR nn).lay (by have := repR_len nn; omega)
    rw [repR_read HT.out.2.1, HT.out.1] at HH
    have HD := hid HH
    have HA := hid am
    clear A4 m4 am H4 HM3 HH
    go_wp2_with fail
    refine HD.out.mono ?_
    rintro _ w5 ⟨z, rfl, hz, H5⟩
    have HR : Hid (∃ K' next' now5 L' D' vw5 vd' q' vi' I' n2', LF K' w5 B t p xb c oa cap next' now5 L' D' vw5 vd' q' vi' I' n1 n2' ∧ (I'.length ≤ I.length + 1 ∧ now5 ≤ now + 1 ∧ D'.length ≤ 50000000) ∧ Mv (fun u => t ≤ u) w w5 K K') := by
      obtain ⟨K5, L5, D5, vw5, vd5, q5, F5, e5, m5⟩ := H5.out
      exact ⟨K5, _, _, L5, D5, vw5, vd5, q5, _, I, n2, F5, ⟨by omega, by omega, e5⟩, HA.out.trans (m5.mono (fun u e => e.1))⟩
    have hzz : Hid ((wb = true ∧ z = nn) ∨ (wb = false ∧ z = 0)) := by
      have hr : (repR nn).xid = nn := rfl
      rcases hz with ⟨e1, e2⟩ | ⟨e1, _, _, _, _, e2⟩
      · refine .inr ⟨?_, e1⟩
        rcases e2 with e | e | e | e
        · exact absurd rfl e
        · exact absurd rfl e
        · exact absurd rfl e
        · cases hb : wb
          · rfl
          · obtain ⟨y, hy, ey⟩ := HW.out.1 hb
            exact absurd ey (e y hy)
      · exact .inl ⟨HW.out.2 e2, e1⟩
    have hn0 : (nn == 0) = false := by
      have := hkvi.out
      simp
      omega
    clear HD H5 hz HW HA
    rcases hzz.out with ⟨rfl, rfl⟩ | ⟨rfl, rfl⟩
    · clear hzz
      go_wp2
      go_ret
      exact ⟨rfl, HR.out⟩
    · clear hzz
      go_wp2
      go_ret
      exact ⟨rfl, HR.out⟩
  · have HW : Hid (false = true ↔ ∃ y ∈ L, y.seq = nn) := by
      refine ⟨fun e => by (cases e), fun ⟨y, hy, ey⟩ => ?_⟩
      have h1 := (A3.lf.om.seq_lt hy).2
      have h2 := A3.lf.om.nxt
      rw [HT.out.2.2.1] at h2
      omega
    clear A3 hke hnk
    go_wp2_with fail
    refine H49.out.mono ?_
    rintro _ w4 ⟨rfl, H4⟩
    clear H49
    obtain ⟨K4, A4, m4⟩ := H4.out
    have am := HM3.out.2.trans m4
    have a0 : w4.cell? ⟨S1, 0, none⟩ = some (.int .i64 3) := cell_at A4.a.at_ rfl
    have z0 : w4.cell? ⟨xb, 0, none⟩ = some (ptr p) := A4.lf.ce0.1
    have HH := A4.lf.hear_any 65636 65537 (repR nn).lay (by have := repR_len nn; omega)
    rw [repR_read HT.out.2.1, HT.out.1] at HH
    have HD := hid HH
    have HA := hid am
    clear A4 m4 am H4 HM3 HH
    go_wp2_with fail
    refine HD.out.mono ?_
    rintro _ w5 ⟨z, rfl, hz, H5⟩
    have HR : Hid (∃ K' next' now5 L' D' vw5 vd' q' vi' I' n2', LF K' w5 B t p xb c oa cap next' now5 L' D' vw5 vd' q' vi' I' n1 n2' ∧ (I'.length ≤ I.length + 1 ∧ now5 ≤ now + 1 ∧ D'.length ≤ 50000000) ∧ Mv (fun u => t ≤ u) w w5 K K') := by
      obtain ⟨K5, L5, D5, vw5, vd5, q5, F5, e5, m5⟩ := H5.out
      exact ⟨K5, _, _, L5, D5, vw5, vd5, q5, _, I, n2, F5, ⟨by omega, by omega, e5⟩, HA.out.trans (m5.mono (fun u e => e.1))⟩
    have hz0 : Hid (z = 0) := by
      rcases hz with ⟨e1, _⟩ | ⟨_, _, _, _, _, e2⟩
      · exact e1
      · exact absurd (HW.out.2 e2) (by decide)
    clear HD H5 hz HW HA
    obtain rfl := hz0.out
    go_wp2
    go_ret
    exact ⟨rfl, HR.out⟩
end
end Go.Proofs.YtfcbjcebkahehaaGreatDoor.Cl
