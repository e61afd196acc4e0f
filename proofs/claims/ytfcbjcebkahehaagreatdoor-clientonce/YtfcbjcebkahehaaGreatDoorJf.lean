/- The client: New, walked. -/
import Derived.Test.YtfcbjcebkahehaaGreatDoorZat
namespace Go.Proofs.YtfcbjcebkahehaaGreatDoor.Cl
open Go.RowKit
abbrev cfB (c : Cf) (oa : Option Addr) (cap : Nat) : Obj := .cells (cfA c oa cap) 28
theorem cell_at {w : World} {S : Nat} {cs : Array Value} {t : TypeId} (h : w.heap[S]? = some (.cells cs t)) {k : Nat} {v : Value} (hk : cs[k]? = some v) : w.cell? ⟨S, k, none⟩ = some v := by
  unfold World.cell?; rw [h]; exact hk
theorem frozen_at {w : World} {S : Nat} {cs : Array Value} {t : TypeId} (h : w.heap[S]? = some (.cells cs t)) (k : Nat) : w.frozen? ⟨S, k, none⟩ = false := by
  unfold World.frozen?; rw [h]; rfl
theorem set_at {w : World} {S : Nat} {cs : Array Value} {t : TypeId} (h : w.heap[S]? = some (.cells cs t)) (k : Nat) (v : Value) : (w.setCell ⟨S, k, none⟩ v).heap[S]? = some (.cells (cs.setIfInBounds k v) t) := by
  unfold World.setCell; simp [Array.getElem?_modify, h]
theorem below_set {w w' : World} {B S k : Nat} {v : Value} (h : Below B w w') (hS : B ≤ S) : Below B w (w'.setCell ⟨S, k, none⟩ v) :=
  ⟨h.os, h.tape, h.output, by simpa [World.setCell] using h.size, fun b hb => by rw [Below.heap_setCell _ _ _ _ (show b ≠ S by omega)]; exact h.block b hb⟩
/-- a client that has not called -/
structure NewC (w w' : World) (c : Cf) (p : Nat) : Prop where
  cl : ∃ q oa cap, w'.heap[p]? = some (clB c oa cap c.first 0 (.slice none 0 0) (.slice none 0 0) q) ∧ w'.heap[q]? = some meB ∧ c.sys.groups.length ≤ cap ∧ GsN w' w.heap.size oa c.sys.groups ∧ w.heap.size ≤ q ∧ p ≠ q ∧ (∀ a, oa = some a → a.spot = none ∧ w.heap.size ≤ a.block ∧ a.block ≠ p ∧ a.block ≠ q)
  new : w.heap.size ≤ p
  be : Below w.heap.size w w'
set_option maxRecDepth 8000 in
set_option maxHeartbeats 4000000 in
theorem new_any (c : Cf) (oa : Option Addr) (cap : Nat) (w : World) (hT : ErrT w) (hg : GsAt w w.heap.size oa c.sys.groups) (hcap : c.sys.groups.length ≤ cap) (hlen : (c.sys.groups.length : Int) ≤ 9223372036854775807) (hsp : ∀ a, oa = some a → a.spot = none) (hmc : c.sys.machine.length ≤ 281474976710656) :
    Calls Tryz.prog 14 #[.agg (cfA c oa cap)] w fun e w' => (okC c = false ∧ e = .returned (.tuple #[.pointer none, .int .i64 170]) ∧ Below w.heap.size w w') ∨ (okC c = true ∧ ∃ p, e = .returned (.tuple #[ptr p, .int .i64 0]) ∧ NewC w w' c p) := by
  obtain ⟨w0, hw0⟩ : ∃ w0, w.alloc (cfB c oa cap) = w0 := ⟨_, rfl⟩
  obtain ⟨S0, hS0⟩ : ∃ S0, w.heap.size = S0 := ⟨_, rfl⟩
  have B0 : Below w.heap.size w w0 := by rw [← hw0]; exact (Below.refl _ _).alloc (Nat.le_refl _) _
  have k0 : w0.heap[S0]? = some (cfB c oa cap) := by rw [← hw0, ← hS0]; exact (MapKept.heap_alloc w _).1
  have hlt : S0 < w0.heap.size := (Array.getElem?_eq_some_iff.1 k0).1
  have g0 : GsAt w0 w0.heap.size oa c.sys.groups := fun h0 => by
    obtain ⟨q, off, e1, e2, e3⟩ := (hg.below B0) h0
    exact ⟨q, off, e1, Nat.lt_of_lt_of_le e2 B0.size, e3⟩
  have HM := hid (mayBe_any c oa cap w0 (hT.below B0) g0 hcap hlen)
  have a0 := cell_at k0 (k := 0) rfl
  have a1 := cell_at k0 (k := 1) rfl
  have a2 := cell_at k0 (k := 2) rfl
  have a3 := cell_at k0 (k := 3) rfl
  have a4 := cell_at k0 (k := 4) rfl
  have a5 := cell_at k0 (k := 5) rfl
  have a6 := cell_at k0 (k := 6) rfl
  have a7 := cell_at k0 (k := 7) rfl
  have a8 := cell_at k0 (k := 8) rfl
  have a9 := cell_at k0 (k := 9) rfl
  have a10 := cell_at k0 (k := 10) rfl
  have a11 := cell_at k0 (k := 11) rfl
  have HK : Hid (w0.heap[S0]? = some (cfB c oa cap) ∧ S0 < w0.heap.size ∧ Below w.heap.size w w0 ∧ w.heap.size = S0) := ⟨k0, hlt, B0, hS0⟩
  have HG : Hid (GsAt w w.heap.size oa c.sys.groups ∧ c.sys.groups.length ≤ cap ∧ (∀ a, oa = some a → a.spot = none) ∧ c.sys.machine.length ≤ 281474976710656) := ⟨hg, hcap, hsp, hmc⟩
  obtain ⟨ok, hok⟩ : ∃ ok, okC c = ok := ⟨_, rfl⟩
  have HOK : Hid (ok = true → c.sys.groups.length ≤ 16) := fun h => by
    rw [← hok] at h
    unfold okC at h
    simp only [Bool.and_eq_true, decide_eq_true_eq] at h
    exact h.1.2.2.2.2.1
  rw [hok] at HM ⊢
  clear hT hg hcap hlen hsp hmc B0 k0 hlt g0 hok
  go_enter Tryz.func14, Tryz.ntmps14
  go_wp2_with fail
  refine HM.out.mono ?_
  rintro _ w1 ⟨rfl, hb1⟩
  clear a0 a1 a2 a3 a4 a5 a6 a7 a8 a9 a10 a11 HM
  have HB1 := hid hb1
  clear hb1
  cases ok
  · have HE : Hid (Below w.heap.size w w1) := HK.out.2.2.1.trans (HB1.out.mono HK.out.2.2.1.size)
    go_wp2
    go_ret2
    refine ⟨rfl, ?_⟩
    rw [← HK.out.2.2.2]
    exact HE.out
  · have k1 : w1.heap[S0]? = some (cfB c oa cap) := (HB1.out.block S0 HK.out.2.1).trans HK.out.1
    have a8 := cell_at k1 (k := 8) rfl
    have HC := hid (clone_any ⟨c.sys.machine.toArray⟩ w1 (by have := HG.out.2.2.2; simpa [ByteArray.size] using this))
    have HK1 := hid k1
    clear k1
    go_wp2_with fail
    refine HC.out.mono ?_
    rintro _ w2 ⟨rfl, hb2⟩
    have k2 : w2.heap[S0]? = some (cfB c oa cap) := (hb2.block S0 (Array.getElem?_eq_some_iff.1 HK1.out).1).trans HK1.out
    have a8 := cell_at k2 (k := 8) rfl
    have f8 := frozen_at k2 8
    obtain ⟨w3, hw3⟩ : ∃ w3, w2.setCell ⟨S0, 8, none⟩ (.string ⟨c.sys.machine.toArray⟩) = w3 := ⟨_, rfl⟩
    have k3 : w3.heap[S0]? = some (cfB c oa cap) := by rw [← hw3]; exact set_at k2 8 _
    have B3 : Below S0 w w3 := by
      rw [← hw3]
      have h1 := HK.out
      have h2 : Below w.heap.size w w2 := (h1.2.2.1.trans (HB1.out.mono h1.2.2.1.size)).trans (hb2.mono (Nat.le_trans h1.2.2.1.size HB1.out.size))
      rw [h1.2.2.2] at h2
      exact below_set h2 (Nat.le_refl _)
    have a11 := cell_at k3 (k := 11) rfl
    have g3 : GsAt w3 w3.heap.size oa c.sys.groups := fun h0 => by
      have B3' := B3
      rw [← HK.out.2.2.2] at B3'
      obtain ⟨q, off, e1, e2, e3⟩ := (HG.out.1.below B3') h0
      exact ⟨q, off, e1, Nat.lt_of_lt_of_le e2 B3'.size, e3⟩
    have HC2 := hid (gclone_any c.sys.groups oa cap w3 g3 HG.out.2.2.1 (by have := HOK.out trivial; omega))
    have HK3 : Hid (w3.heap[S0]? = some (cfB c oa cap) ∧ Below S0 w w3) := ⟨k3, B3⟩
    clear k2 k3 B3 g3 hb2 HC
    go_wp2_with fail
    refine HC2.out.mono ?_
    rintro _ w4 ⟨oa4, cap4, rfl, hc4, hg4, hb4, hs4⟩
    have hl3 : S0 < w3.heap.size := (Array.getElem?_eq_some_iff.1 HK3.out.1).1
    have k4 : w4.heap[S0]? = some (cfB c oa cap) := (hb4.block S0 hl3).trans HK3.out.1
    have a11 := cell_at k4 (k := 11) rfl
    have f11 := frozen_at k4 11
    obtain ⟨w5, hw5⟩ : ∃ w5, w4.setCell ⟨S0, 11, none⟩ (.slice oa4 c.sys.groups.length cap4) = w5 := ⟨_, rfl⟩
    have k5 : w5.heap[S0]? = some (cfB c oa4 cap4) := by rw [← hw5]; exact set_at k4 11 _
    have hz5 : w5.heap.size = w4.heap.size := by rw [← hw5]; simp [World.setCell]
    have HB5 : Hid (Below S0 w w5 ∧ GsN w5 S0 oa4 c.sys.groups ∧ c.sys.groups.length ≤ cap4 ∧ (∀ a, oa4 = some a → a.spot = none ∧ S0 ≤ a.block ∧ a.block < w5.heap.size) ∧ S0 < w5.heap.size) := by
      have h3 := HK3.out.2.size
      have h0 := HK.out.2.2.2
      refine ⟨?_, ?_, hc4, fun a ha => ⟨(hs4 a ha).1, by have := (hs4 a ha).2; omega, by have := (hs4 a ha).2; omega⟩, by have := hb4.size; omega⟩
      · rw [← hw5]
        exact below_set (HK3.out.2.trans (hb4.mono (by omega))) (Nat.le_refl _)
      · refine (hg4.kept (by omega) (fun q hq _ _ => ?_)).lo (by omega)
        rw [← hw5, Below.heap_setCell _ _ _ _ (show q ≠ S0 by omega)]
    obtain ⟨Q, hQ⟩ : ∃ Q, w5.heap.size = Q := ⟨_, rfl⟩
    have s0 : w5.cell? ⟨S0, 0, none⟩ = some (.int .i64 c.ad) ∧ w5.cell? ⟨S0, 1, none⟩ = some (.int .i64 c.inst) ∧ w5.cell? ⟨S0, 2, none⟩ = some (.int .i64 c.first) ∧ w5.cell? ⟨S0, 3, none⟩ = some (.int .i64 c.win) ∧ w5.cell? ⟨S0, 4, none⟩ = some (.int .i64 c.pb) ∧ w5.cell? ⟨S0, 5, none⟩ = some (.int .i64 c.pc) ∧ w5.cell? ⟨S0, 6, none⟩ = some (.int .i64 c.pt) ∧ w5.cell? ⟨S0, 7, none⟩ = some (.int .i64 c.sys.stamp) ∧ w5.cell? ⟨S0, 8, none⟩ = some (.string ⟨c.sys.machine.toArray⟩) ∧ w5.cell? ⟨S0, 9, none⟩ = some (.int .i64 c.sys.user) ∧ w5.cell? ⟨S0, 10, none⟩ = some (.int .i64 c.sys.group) ∧ w5.cell? ⟨S0, 11, none⟩ = some (.slice oa4 c.sys.groups.length cap4) := ⟨cell_at k5 (k := 0) rfl, cell_at k5 (k := 1) rfl, cell_at k5 (k := 2) rfl, cell_at k5 (k := 3) rfl, cell_at k5 (k := 4) rfl, cell_at k5 (k := 5) rfl, cell_at k5 (k := 6) rfl, cell_at k5 (k := 7) rfl, cell_at k5 (k := 8) rfl, cell_at k5 (k := 9) rfl, cell_at k5 (k := 10) rfl, cell_at k5 (k := 11) rfl⟩
    have s1 : ∀ i, (w5.drewN i).cell? ⟨S0, 0, none⟩ = some (.int .i64 c.ad) ∧ (w5.drewN i).cell? ⟨S0, 1, none⟩ = some (.int .i64 c.inst) ∧ (w5.drewN i).cell? ⟨S0, 2, none⟩ = some (.int .i64 c.first) ∧ (w5.drewN i).cell? ⟨S0, 3, none⟩ = some (.int .i64 c.win) ∧ (w5.drewN i).cell? ⟨S0, 4, none⟩ = some (.int .i64 c.pb) ∧ (w5.drewN i).cell? ⟨S0, 5, none⟩ = some (.int .i64 c.pc) ∧ (w5.drewN i).cell? ⟨S0, 6, none⟩ = some (.int .i64 c.pt) ∧ (w5.drewN i).cell? ⟨S0, 7, none⟩ = some (.int .i64 c.sys.stamp) ∧ (w5.drewN i).cell? ⟨S0, 8, none⟩ = some (.string ⟨c.sys.machine.toArray⟩) ∧ (w5.drewN i).cell? ⟨S0, 9, none⟩ = some (.int .i64 c.sys.user) ∧ (w5.drewN i).cell? ⟨S0, 10, none⟩ = some (.int .i64 c.sys.group) ∧ (w5.drewN i).cell? ⟨S0, 11, none⟩ = some (.slice oa4 c.sys.groups.length cap4) := fun _ => s0
    have HMt : Hid (∀ i, Calls Tryz.prog 47 #[] (w5.drewN i) fun e w' => e = .returned (ptr Q) ∧ Hid (Below w5.heap.size w5 w' ∧ w'.heap[Q]? = some meB ∧ w'.heap.size = Q + 1)) := fun i => by
      refine (meter_any (w5.drewN i)).mono ?_
      rintro _ w' ⟨rfl, rfl⟩
      refine ⟨by rw [← hQ]; rfl, ⟨rfl, rfl, rfl, by simp, fun b hb => Below.heap_alloc (w5.drewN i) _ b hb⟩, ?_, ?_⟩
      · rw [← hQ]; exact (MapKept.heap_alloc (w5.drewN i) _).1
      · rw [← hQ]; simp
    have HK5 := hid k5
    have hb96 := fun w => bld96b c oa4 cap4 Q w
    clear k4 k5 hz5 hc4 hg4 hb4 hs4 hl3 HC2
    go_wp2_with fail
    go_region_held3 (fun w' => w'.cell? ⟨S0, 0, none⟩ = some (.int .i64 c.ad) ∧ w'.cell? ⟨S0, 1, none⟩ = some (.int .i64 c.inst) ∧ w'.cell? ⟨S0, 2, none⟩ = some (.int .i64 c.first) ∧ w'.cell? ⟨S0, 3, none⟩ = some (.int .i64 c.win) ∧ w'.cell? ⟨S0, 4, none⟩ = some (.int .i64 c.pb) ∧ w'.cell? ⟨S0, 5, none⟩ = some (.int .i64 c.pc) ∧ w'.cell? ⟨S0, 6, none⟩ = some (.int .i64 c.pt) ∧ w'.cell? ⟨S0, 7, none⟩ = some (.int .i64 c.sys.stamp) ∧ w'.cell? ⟨S0, 8, none⟩ = some (.string ⟨c.sys.machine.toArray⟩) ∧ w'.cell? ⟨S0, 9, none⟩ = some (.int .i64 c.sys.user) ∧ w'.cell? ⟨S0, 10, none⟩ = some (.int .i64 c.sys.group) ∧ w'.cell? ⟨S0, 11, none⟩ = some (.slice oa4 c.sys.groups.length cap4)) (first | with_reducible exact s0 | with_reducible exact s1 _ | with_reducible exact s7 | with_reducible exact s9 | exact s9 | exact s0) (first
      | (go_at_call 47
         refine (HMt.out _).mono ?_
         rintro _ w6 ⟨rfl, H6⟩
         have k6 : w6.heap[S0]? = some (cfB c oa4 cap4) := (H6.out.1.block S0 HB5.out.2.2.2.2).trans HK5.out
         have s7 : w6.cell? ⟨S0, 0, none⟩ = some (.int .i64 c.ad) ∧ w6.cell? ⟨S0, 1, none⟩ = some (.int .i64 c.inst) ∧ w6.cell? ⟨S0, 2, none⟩ = some (.int .i64 c.first) ∧ w6.cell? ⟨S0, 3, none⟩ = some (.int .i64 c.win) ∧ w6.cell? ⟨S0, 4, none⟩ = some (.int .i64 c.pb) ∧ w6.cell? ⟨S0, 5, none⟩ = some (.int .i64 c.pc) ∧ w6.cell? ⟨S0, 6, none⟩ = some (.int .i64 c.pt) ∧ w6.cell? ⟨S0, 7, none⟩ = some (.int .i64 c.sys.stamp) ∧ w6.cell? ⟨S0, 8, none⟩ = some (.string ⟨c.sys.machine.toArray⟩) ∧ w6.cell? ⟨S0, 9, none⟩ = some (.int .i64 c.sys.user) ∧ w6.cell? ⟨S0, 10, none⟩ = some (.int .i64 c.sys.group) ∧ w6.cell? ⟨S0, 11, none⟩ = some (.slice oa4 c.sys.groups.length cap4) := ⟨cell_at k6 (k := 0) rfl, cell_at k6 (k := 1) rfl, cell_at k6 (k := 2) rfl, cell_at k6 (k := 3) rfl, cell_at k6 (k := 4) rfl, cell_at k6 (k := 5) rfl, cell_at k6 (k := 6) rfl, cell_at k6 (k := 7) rfl, cell_at k6 (k := 8) rfl, cell_at k6 (k := 9) rfl, cell_at k6 (k := 10) rfl, cell_at k6 (k := 11) rfl⟩
         obtain ⟨P, hP⟩ : ∃ P, w6.heap.size = P := ⟨_, rfl⟩
         obtain ⟨w7, hw7⟩ : ∃ w7, w6.alloc (clB c oa4 cap4 c.first 0 (.slice none 0 0) (.slice none 0 0) Q) = w7 := ⟨_, rfl⟩
         have k7 : w7.heap[S0]? = some (cfB c oa4 cap4) := by rw [← hw7]; exact (Below.heap_alloc _ _ _ (Array.getElem?_eq_some_iff.1 k6).1).trans k6
         have s9 : w7.cell? ⟨S0, 0, none⟩ = some (.int .i64 c.ad) ∧ w7.cell? ⟨S0, 1, none⟩ = some (.int .i64 c.inst) ∧ w7.cell? ⟨S0, 2, none⟩ = some (.int .i64 c.first) ∧ w7.cell? ⟨S0, 3, none⟩ = some (.int .i64 c.win) ∧ w7.cell? ⟨S0, 4, none⟩ = some (.int .i64 c.pb) ∧ w7.cell? ⟨S0, 5, none⟩ = some (.int .i64 c.pc) ∧ w7.cell? ⟨S0, 6, none⟩ = some (.int .i64 c.pt) ∧ w7.cell? ⟨S0, 7, none⟩ = some (.int .i64 c.sys.stamp) ∧ w7.cell? ⟨S0, 8, none⟩ = some (.string ⟨c.sys.machine.toArray⟩) ∧ w7.cell? ⟨S0, 9, none⟩ = some (.int .i64 c.sys.user) ∧ w7.cell? ⟨S0, 10, none⟩ = some (.int .i64 c.sys.group) ∧ w7.cell? ⟨S0, 11, none⟩ = some (.slice oa4 c.sys.groups.length cap4) := ⟨cell_at k7 (k := 0) rfl, cell_at k7 (k := 1) rfl, cell_at k7 (k := 2) rfl, cell_at k7 (k := 3) rfl, cell_at k7 (k := 4) rfl, cell_at k7 (k := 5) rfl, cell_at k7 (k := 6) rfl, cell_at k7 (k := 7) rfl, cell_at k7 (k := 8) rfl, cell_at k7 (k := 9) rfl, cell_at k7 (k := 10) rfl, cell_at k7 (k := 11) rfl⟩
         have HE : Hid (NewC w w7 c P) := by
           have h0 := HK.out.2.2.2
           have hq := H6.out.2.2
           have hb7 : Below w5.heap.size w5 w7 := by rw [← hw7]; exact H6.out.1.alloc H6.out.1.size _
           refine ⟨⟨Q, oa4, cap4, by rw [← hw7, ← hP]; exact (MapKept.heap_alloc w6 _).1, by rw [← hw7]; exact (Below.heap_alloc _ _ _ (by omega)).trans H6.out.2.1, HB5.out.2.2.1, ?_, by have := HB5.out.2.2.2.2; omega, by omega, fun a ha => ⟨(HB5.out.2.2.2.1 a ha).1, by have := (HB5.out.2.2.2.1 a ha).2; omega, by have := (HB5.out.2.2.2.1 a ha).2; have := H6.out.1.size; omega, by have := (HB5.out.2.2.2.1 a ha).2; omega⟩⟩, by have := HB5.out.2.2.2.2; omega, ?_⟩
           · rw [h0]
             exact HB5.out.2.1.kept hb7.size (fun q _ hq _ => hb7.block q hq)
           · rw [h0]
             exact HB5.out.1.trans (hb7.mono (by have := HB5.out.2.2.2.2; omega))
         clear k6 k7))
    go_wp2
    go_ret2
    exact ⟨P, rfl, HE.out⟩
end Go.Proofs.YtfcbjcebkahehaaGreatDoor.Cl
