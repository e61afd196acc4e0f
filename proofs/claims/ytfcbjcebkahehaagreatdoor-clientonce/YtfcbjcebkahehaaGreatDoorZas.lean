/- The client: small functions. The client: a config that may be. -/
import Derived.Test.YtfcbjcebkahehaaGreatDoorJa
import Derived.Test.YtfcbjcebkahehaaGreatDoorZad
namespace Go.Proofs.YtfcbjcebkahehaaGreatDoor.Cl
open Go.RowKit
def inB (n l h : Int) : Bool := decide (l ≤ n) && decide (n ≤ h)
theorem within_any (w : World) (n l h : Int) : Calls Tryz.prog 73 #[.int .i64 n, .int .i64 l, .int .i64 h] w fun e w' => e = .returned (.bool (inB n l h)) ∧ w' = w := by
  unfold inB
  cases h1 : decide (l ≤ n) <;> cases h2 : decide (n ≤ h)
  all_goals (
    go_enter Tryz.func73, Tryz.ntmps73
    go_wp2
    go_ret
    exact ⟨rfl, rfl⟩)
theorem address_any (w : World) (n : Int) : Calls Tryz.prog 72 #[.int .i64 n] w fun e w' => e = .returned (.bool (inB n 1 16777215)) ∧ w' = w := by
  have H := hid (within_any w n 1 16777215)
  generalize inB n 1 16777215 = b at *
  go_enter Tryz.func72, Tryz.ntmps72
  go_wp2_with fail
  refine H.out.mono ?_
  rintro _ w' ⟨rfl, hw'⟩
  subst hw'
  go_wp2
  go_ret
  exact ⟨rfl, rfl⟩
theorem word_any (w : World) (n : Int) : Calls Tryz.prog 92 #[.int .i64 n] w fun e w' => e = .returned (.bool (inB n 0 4294967295)) ∧ w' = w := by
  have H := hid (within_any w n 0 4294967295)
  generalize inB n 0 4294967295 = b at *
  go_enter Tryz.func92, Tryz.ntmps92
  go_wp2_with fail
  refine H.out.mono ?_
  rintro _ w' ⟨rfl, hw'⟩
  subst hw'
  go_wp2
  go_ret
  exact ⟨rfl, rfl⟩
end Go.Proofs.YtfcbjcebkahehaaGreatDoor.Cl
namespace Go.Proofs.YtfcbjcebkahehaaGreatDoor.Cl
open Go.RowKit
structure Cf where
  ad : Int
  inst : Int
  first : Int
  win : Int
  pb : Int
  pc : Int
  pt : Int
  sys : SysP
abbrev cfA (c : Cf) (oa : Option Addr) (cap : Nat) : Array Value := #[.int .i64 c.ad, .int .i64 c.inst, .int .i64 c.first, .int .i64 c.win, .int .i64 c.pb, .int .i64 c.pc, .int .i64 c.pt, .int .i64 c.sys.stamp, .string ⟨c.sys.machine.toArray⟩, .int .i64 c.sys.user, .int .i64 c.sys.group, .slice oa c.sys.groups.length cap]
def okC (c : Cf) : Bool := decide c.sys.may && (inB c.ad 1 16777215 && (inB c.inst 1 4611686018427387904 && (inB c.first 1 4294967295 && (inB c.win 1 64 && Pc.rightP c.pb c.pc c.pt))))
theorem prS_is (s : SysP) : ∃ fl bo, prV 1 (printS s) = .tuple #[.agg #[.int .i64 fl, .string bo], .int .i64 (if decide s.may then 0 else 110)] := by
  unfold printS
  by_cases h : s.may
  · rw [if_pos h, decide_eq_true h]; exact ⟨_, _, rfl⟩
  · rw [if_neg h, decide_eq_false h]; exact ⟨_, _, rfl⟩
set_option maxRecDepth 8000 in
set_option maxHeartbeats 4000000 in
theorem mayBe_any (c : Cf) (oa : Option Addr) (cap : Nat) (w : World) (hT : ErrT w) (hg : GsAt w w.heap.size oa c.sys.groups) (hcap : c.sys.groups.length ≤ cap) (hlen : (c.sys.groups.length : Int) ≤ 9223372036854775807) :
    Calls Tryz.prog 44 #[.agg (cfA c oa cap)] w fun e w' => e = .returned (.bool (okC c)) ∧ Below w.heap.size w w' := by
  obtain ⟨w0, hw0⟩ : ∃ w0, w.alloc (.cells (cfA c oa cap) 28) = w0 := ⟨_, rfl⟩
  obtain ⟨S0, hS0⟩ : ∃ S0, w.heap.size = S0 := ⟨_, rfl⟩
  have B0 : Below w.heap.size w w0 := by rw [← hw0]; exact (Below.refl _ _).alloc (Nat.le_refl _) _
  have k0 : w0.heap[S0]? = some (.cells (cfA c oa cap) 28) := by rw [← hw0, ← hS0]; exact (MapKept.heap_alloc w _).1
  have hlt : S0 < w0.heap.size := (Array.getElem?_eq_some_iff.1 k0).1
  obtain ⟨fl, bo, hprs⟩ := prS_is c.sys
  have HP : Hid (Calls Tryz.prog 71 #[.agg #[.int .i64 c.sys.stamp, .string ⟨c.sys.machine.toArray⟩, .int .i64 c.sys.user, .int .i64 c.sys.group, .slice oa c.sys.groups.length cap]] w0 fun e w' => e = .returned (.tuple #[.agg #[.int .i64 fl, .string bo], .int .i64 (if decide c.sys.may then 0 else 110)]) ∧ Below w0.heap.size w0 w') := by
    have := printSys_any c.sys oa cap w0 (hT.below B0) (fun h0 => by
      obtain ⟨q, off, e1, e2, e3⟩ := (hg.below B0) h0
      exact ⟨q, off, e1, Nat.lt_of_lt_of_le e2 B0.size, e3⟩) hcap hlen
    rw [hprs] at this
    exact this
  have hc : ∀ w', Below w0.heap.size w0 w' → ∀ k v, (cfA c oa cap)[k]? = some v → w'.cell? ⟨S0, k, none⟩ = some v := fun w' hb k v hk => by
    unfold World.cell?
    rw [hb.block S0 hlt, k0]
    exact hk
  have HB : Hid (∀ w', Below w0.heap.size w0 w' → Below w.heap.size w w') := fun w' hb => B0.trans (hb.mono B0.size)
  have p0 := hc w0 (Below.refl _ _) 7 _ rfl
  have p1 := hc w0 (Below.refl _ _) 8 _ rfl
  have p2 := hc w0 (Below.refl _ _) 9 _ rfl
  have p3 := hc w0 (Below.refl _ _) 10 _ rfl
  have p4 := hc w0 (Below.refl _ _) 11 _ rfl
  have HC := hid hc
  obtain ⟨b0, hb0⟩ : ∃ b, decide c.sys.may = b := ⟨_, rfl⟩
  obtain ⟨b1, hb1⟩ : ∃ b, inB c.ad 1 16777215 = b := ⟨_, rfl⟩
  obtain ⟨b2, hb2⟩ : ∃ b, inB c.inst 1 4611686018427387904 = b := ⟨_, rfl⟩
  obtain ⟨b3, hb3⟩ : ∃ b, inB c.first 1 4294967295 = b := ⟨_, rfl⟩
  obtain ⟨b4, hb4⟩ : ∃ b, inB c.win 1 64 = b := ⟨_, rfl⟩
  obtain ⟨b5, hb5⟩ : ∃ b, Pc.rightP c.pb c.pc c.pt = b := ⟨_, rfl⟩
  have H1 : Hid (∀ w, Calls Tryz.prog 72 #[.int .i64 c.ad] w fun e w' => e = .returned (.bool b1) ∧ w' = w) := fun w => by rw [← hb1]; exact address_any w _
  have H2 : Hid (∀ w, Calls Tryz.prog 73 #[.int .i64 c.inst, .int .i64 1, .int .i64 4611686018427387904] w fun e w' => e = .returned (.bool b2) ∧ w' = w) := fun w => by rw [← hb2]; exact within_any w _ _ _
  have H3 : Hid (∀ w, Calls Tryz.prog 73 #[.int .i64 c.first, .int .i64 1, .int .i64 4294967295] w fun e w' => e = .returned (.bool b3) ∧ w' = w) := fun w => by rw [← hb3]; exact within_any w _ _ _
  have H4 : Hid (∀ w, Calls Tryz.prog 73 #[.int .i64 c.win, .int .i64 1, .int .i64 64] w fun e w' => e = .returned (.bool b4) ∧ w' = w) := fun w => by rw [← hb4]; exact within_any w _ _ _
  have H5 : Hid (∀ w, Calls Tryz.prog 74 #[.agg #[.int .i64 c.pb, .int .i64 c.pc, .int .i64 c.pt]] w fun e w' => e = .returned (.bool b5) ∧ Below w.heap.size w w') := fun w => by rw [← hb5]; exact Pc.right_any w _ _ _
  have hok : okC c = (b0 && (b1 && (b2 && (b3 && (b4 && b5))))) := by unfold okC; rw [hb0, hb1, hb2, hb3, hb4, hb5]
  rw [hok]
  rw [hb0] at HP
  have HZ := hid (And.intro hlt k0)
  clear hT hg hcap hlen B0 k0 hc hb0 hb1 hb2 hb3 hb4 hb5 hok hlt hprs
  go_enter Tryz.func44, Tryz.ntmps44
  go_wp2_with fail
  refine HP.out.mono ?_
  rintro _ w1 ⟨rfl, hb1⟩
  obtain ⟨S2, hS2⟩ : ∃ S2, w1.heap.size = S2 := ⟨_, rfl⟩
  obtain ⟨w2, hw2⟩ : ∃ w2, w1.alloc (.cells #[.int .i64 0, .string ⟨#[]⟩] 44) = w2 := ⟨_, rfl⟩
  obtain ⟨w3, hw3⟩ : ∃ w3, w2.setCell ⟨S2, 0, none⟩ (.int .i64 fl) = w3 := ⟨_, rfl⟩
  obtain ⟨w4, hw4⟩ : ∃ w4, w3.setCell ⟨S2, 1, none⟩ (.string bo) = w4 := ⟨_, rfl⟩
  have k2 : w2.heap[S2]? = some (.cells #[.int .i64 0, .string ⟨#[]⟩] 44) := by rw [← hw2, ← hS2]; exact (MapKept.heap_alloc w1 _).1
  have k3 : w3.heap[S2]? = some (.cells #[.int .i64 fl, .string ⟨#[]⟩] 44) := by rw [← hw3]; unfold World.setCell; simp [Array.getElem?_modify, k2]
  have c20 : w2.cell? ⟨S2, 0, none⟩ = some (.int .i64 0) := by unfold World.cell?; rw [k2]; rfl
  have c21 : w2.cell? ⟨S2, 1, none⟩ = some (.string ⟨#[]⟩) := by unfold World.cell?; rw [k2]; rfl
  have c31 : w3.cell? ⟨S2, 1, none⟩ = some (.string ⟨#[]⟩) := by unfold World.cell?; rw [k3]; rfl
  have f2 : ∀ n, w2.frozen? ⟨S2, n, none⟩ = false := fun n => by unfold World.frozen?; rw [k2]; rfl
  have f3 : ∀ n, w3.frozen? ⟨S2, n, none⟩ = false := fun n => by unfold World.frozen?; rw [k3]; rfl
  have hB4 : Below w0.heap.size w0 w4 := by
    have hs := hb1.size
    have b2 : Below w0.heap.size w0 w2 := by rw [← hw2]; exact hb1.alloc hs _
    refine ⟨?_, ?_, ?_, ?_, fun b hb => ?_⟩
    · rw [← hw4, ← hw3]; exact b2.os
    · rw [← hw4, ← hw3]; exact b2.tape
    · rw [← hw4, ← hw3]; exact b2.output
    · rw [← hw4, ← hw3]; simpa [World.setCell] using b2.size
    · rw [← hw4, Below.heap_setCell _ _ _ _ (show b ≠ S2 by omega), ← hw3, Below.heap_setCell _ _ _ _ (show b ≠ S2 by omega)]; exact b2.block b hb
  have q0 := HC.out w4 hB4 0 _ rfl
  have q1 := HC.out w4 hB4 1 _ rfl
  have q2 := HC.out w4 hB4 2 _ rfl
  have q3 := HC.out w4 hB4 3 _ rfl
  have q4 := HC.out w4 hB4 4 _ rfl
  have q5 := HC.out w4 hB4 5 _ rfl
  have q6 := HC.out w4 hB4 6 _ rfl
  have HBE := hid (HB.out w4 hB4)
  clear hb1 k2 k3 hB4 HC HP p0 p1 p2 p3 p4 HZ HB
  cases b0
  · go_wp2
    go_ret
    exact ⟨rfl, HBE.out⟩
  · go_wp2_with fail
    refine (H1.out _).mono ?_
    rintro _ v1 ⟨rfl, hv1⟩
    rw [hv1]
    clear hv1 v1
    cases b1
    · go_wp2
      go_ret
      exact ⟨rfl, HBE.out⟩
    · go_wp2_with fail
      refine (H2.out _).mono ?_
      rintro _ v2 ⟨rfl, hv2⟩
      rw [hv2]
      clear hv2 v2
      cases b2
      · go_wp2
        go_ret
        exact ⟨rfl, HBE.out⟩
      · go_wp2_with fail
        refine (H3.out _).mono ?_
        rintro _ v3 ⟨rfl, hv3⟩
        rw [hv3]
        clear hv3 v3
        cases b3
        · go_wp2
          go_ret
          exact ⟨rfl, HBE.out⟩
        · go_wp2_with fail
          refine (H4.out _).mono ?_
          rintro _ v4 ⟨rfl, hv4⟩
          rw [hv4]
          clear hv4 v4
          cases b4
          · go_wp2
            go_ret
            exact ⟨rfl, HBE.out⟩
          · go_wp2_with fail
            refine (H5.out _).mono ?_
            rintro _ v5 ⟨rfl, hv5⟩
            have HV5 : Hid (Below w.heap.size w v5) := HBE.out.trans (hv5.mono HBE.out.size)
            clear hv5
            cases b5
            all_goals (
              go_wp2
              go_ret
              exact ⟨rfl, HV5.out⟩)
end Go.Proofs.YtfcbjcebkahehaaGreatDoor.Cl
