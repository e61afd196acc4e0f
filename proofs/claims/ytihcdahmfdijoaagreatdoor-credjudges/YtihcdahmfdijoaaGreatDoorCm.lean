/- The program's Reader: something is wrong; a mark is told. -/
import Derived.Test.YtihcdahmfdijoaaGreatDoorCl
namespace Go.Proofs.YtihcdahmfdijoaaGreatDoor
open Go.RowKit
theorem rfail_first (p : Nat) (E F : Int) (l : List UInt8) (w : World) (h : RR w p l E) (hE : E = 0) :
    Calls Tryz.prog 49 #[.pointer (some ⟨p, 0, none⟩), .int .i64 F] w fun e w' => e = .returned (.tuple #[]) ∧ ∃ k, w' = (w.drewN k).setCell ⟨p, 1, none⟩ (trW F) := by
  have H1 : Hid (∀ w, Calls Tryz.prog 73 #[.int .i64 F] w fun r w' => r = .returned (trW F) ∧ w' = w) := fun w => faultOf_any_rd F w
  have H2 : Hid (∀ k, Calls Tryz.prog 72 #[.pointer (some ⟨p, 1, none⟩), trW F] (w.drewN k) fun r w' => r = .returned (.tuple #[]) ∧ w' = (w.drewN k).setCell ⟨p, 1, none⟩ (trW F)) := fun k => note_first_rd ⟨p, 1, none⟩ F (w.drewN k) (by subst hE; exact h.e) h.f1
  clear h hE
  go_enter Tryz.func49, Tryz.ntmps49
  go_wp2_with fail
  go_region_with (first | (go_at_call 73; refine (H1.out _).mono ?_; rintro e w' ⟨rfl, rfl⟩) | (go_at_call 72; refine (H2.out 1).mono ?_; rintro e w' ⟨rfl, rfl⟩))
  go_wp2
  first | go_end0 | refine bodyPost_ret (results_none rfl _ _ _) rfl ?_
  exact ⟨rfl, 1, rfl⟩
theorem rfail_later (p : Nat) (E F : Int) (l : List UInt8) (w : World) (h : RR w p l E) (hE : E ≠ 0) :
    Calls Tryz.prog 49 #[.pointer (some ⟨p, 0, none⟩), .int .i64 F] w fun e w' => e = .returned (.tuple #[]) ∧ ∃ k, w' = w.drewN k := by
  have H1 : Hid (∀ w, Calls Tryz.prog 73 #[.int .i64 F] w fun r w' => r = .returned (trW F) ∧ w' = w) := fun w => faultOf_any_rd F w
  have H2 : Hid (∀ k, Calls Tryz.prog 72 #[.pointer (some ⟨p, 1, none⟩), trW F] (w.drewN k) fun r w' => r = .returned (.tuple #[]) ∧ w' = w.drewN k) := fun k => by
    have he := h.e
    rw [trW_ne hE] at he
    exact note_later_rd ⟨p, 1, none⟩ (trW F) _ (w.drewN k) he
  clear h hE
  go_enter Tryz.func49, Tryz.ntmps49
  go_wp2_with fail
  go_region_with (first | (go_at_call 73; refine (H1.out _).mono ?_; rintro e w' ⟨rfl, rfl⟩) | (go_at_call 72; refine (H2.out 1).mono ?_; rintro e w' ⟨rfl, rfl⟩))
  go_wp2
  first | go_end0 | refine bodyPost_ret (results_none rfl _ _ _) rfl ?_
  exact ⟨rfl, 1, rfl⟩
theorem RR.drewN {w : World} {p : Nat} {l : List UInt8} {E : Int} (h : RR w p l E) (k : Nat) : RR (w.drewN k) p l E := ⟨h.l, h.e, h.f0, h.f1⟩
theorem rfail_any (p : Nat) (F : Int) (st : Rs) (w : World) (h : RR w p st.l st.e) : Calls Tryz.prog 49 #[.pointer (some ⟨p, 0, none⟩), .int .i64 F] w fun e w' => e = .returned (.tuple #[]) ∧ RR w' p st.l (if st.e = 0 then F else st.e) ∧ Sole p w w' := by
  by_cases hE : st.e = 0
  · rw [if_pos hE]
    refine (rfail_first p _ F _ w h hE).mono ?_
    rintro e w' ⟨rfl, k, rfl⟩
    exact ⟨rfl, (h.drewN k).setE F, (Sole.drewN p w k).trans (Sole.setCell _ 1 _)⟩
  · rw [if_neg hE]
    refine (rfail_later p _ F _ w h hE).mono ?_
    rintro e w' ⟨rfl, k, rfl⟩
    exact ⟨rfl, h.drewN k, Sole.drewN p w k⟩
theorem Bk.drew {w : World} {b : Nat} {cs : List Value} {t : TypeId} (h : Bk w b cs t) : Bk w.drew b cs t := h
theorem Bk.set8 {w : World} {b : Nat} {x0 x1 x2 x3 x4 x5 x6 x7 : Value} {t : TypeId} (h : Bk w b [x0, x1, x2, x3, x4, x5, x6, x7] t) (v0 v1 v2 v3 v4 v5 v6 v7 : Value) :
    Bk ((((((((w.setCell ⟨b, 0, none⟩ v0).setCell ⟨b, 1, none⟩ v1).setCell ⟨b, 2, none⟩ v2).setCell ⟨b, 3, none⟩ v3).setCell ⟨b, 4, none⟩ v4).setCell ⟨b, 5, none⟩ v5).setCell ⟨b, 6, none⟩ v6).setCell ⟨b, 7, none⟩ v7) b [v0, v1, v2, v3, v4, v5, v6, v7] t :=
  (((((((h.set 0 v0).set 1 v1).set 2 v2).set 3 v3).set 4 v4).set 5 v5).set 6 v6).set 7 v7
theorem set8_ne (w : World) (b k : Nat) (v0 v1 v2 v3 v4 v5 v6 v7 : Value) (h : k ≠ b) : ((((((((w.setCell ⟨b, 0, none⟩ v0).setCell ⟨b, 1, none⟩ v1).setCell ⟨b, 2, none⟩ v2).setCell ⟨b, 3, none⟩ v3).setCell ⟨b, 4, none⟩ v4).setCell ⟨b, 5, none⟩ v5).setCell ⟨b, 6, none⟩ v6).setCell ⟨b, 7, none⟩ v7).heap[k]? = w.heap[k]? := by
  iterate 8 rw [Below.heap_setCell _ _ _ k h]
theorem below_set8 {w0 w : World} {b B : Nat} (h : Below B w0 w) (hb : B ≤ b) (v0 v1 v2 v3 v4 v5 v6 v7 : Value) : Below B w0 ((((((((w.setCell ⟨b, 0, none⟩ v0).setCell ⟨b, 1, none⟩ v1).setCell ⟨b, 2, none⟩ v2).setCell ⟨b, 3, none⟩ v3).setCell ⟨b, 4, none⟩ v4).setCell ⟨b, 5, none⟩ v5).setCell ⟨b, 6, none⟩ v6).setCell ⟨b, 7, none⟩ v7) :=
  (((((((h.setCell hb v0).setCell hb v1).setCell hb v2).setCell hb v3).setCell hb v4).setCell hb v5).setCell hb v6).setCell hb v7
set_option maxRecDepth 4000 in
set_option maxHeartbeats 1000000 in
theorem told_any (b : Nat) (st us gr i q u : Int) (mc : List UInt8) (oa : Option Addr) (n cap : Nat) (w : World) (hk : Bk w b [.int .i64 st, .string ⟨mc.toArray⟩, .int .i64 us, .int .i64 gr, .slice oa n cap, .int .i64 i, .int .i64 q, .int .i64 u] 63) :
    Calls Tryz.prog 27 #[.pointer (some ⟨b, 0, none⟩)] w fun e w' => e = .returned (.agg #[.int .i64 i, .int .i64 q, .int .i64 u, .int .i64 st, .string ⟨mc.toArray⟩, .int .i64 us, .int .i64 gr, .slice oa n cap]) ∧ Below w.heap.size w w' := by
  have hlt := hk.lt
  obtain ⟨wa, hwa⟩ : ∃ x, w.alloc (.cells #[.int .i64 0, .int .i64 0, .int .i64 0, .int .i64 0, .string ⟨#[]⟩, .int .i64 0, .int .i64 0, .slice none 0 0] 35) = x := ⟨_, rfl⟩
  have HWA := hid hwa
  have hka : Bk wa b _ _ := hwa ▸ hk.below (below_new _ _) hlt
  have hkr : Bk wa w.heap.size [.int .i64 0, .int .i64 0, .int .i64 0, .int .i64 0, .string ⟨#[]⟩, .int .i64 0, .int .i64 0, .slice none 0 0] 35 := hwa ▸ Bk.new _ _ _
  have hB : Below w.heap.size w wa := hwa ▸ below_new _ _
  have c0 := hka.cell 0 rfl
  have c1 := hka.cell 1 rfl
  have c2 := hka.cell 2 rfl
  have c3 := hka.cell 3 rfl
  have c4 := hka.cell 4 rfl
  have c5 := hka.cell 5 rfl
  have c6 := hka.cell 6 rfl
  have c7 := hka.cell 7 rfl
  have k0 := hkr.cell 0 rfl
  have k1 := hkr.cell 1 rfl
  have k2 := hkr.cell 2 rfl
  have k3 := hkr.cell 3 rfl
  have k4 := hkr.cell 4 rfl
  have k5 := hkr.cell 5 rfl
  have k6 := hkr.cell 6 rfl
  have k7 := hkr.cell 7 rfl
  have f0 := hkr.frozen 0
  have f1 := hkr.frozen 1
  have f2 := hkr.frozen 2
  have f3 := hkr.frozen 3
  have f4 := hkr.frozen 4
  have f5 := hkr.frozen 5
  have f6 := hkr.frozen 6
  have f7 := hkr.frozen 7
  have HKR := hid hkr
  have HB := hid hB
  clear hk hka hkr hlt hwa hB
  go_enter Tryz.func27, Tryz.ntmps27
  go_wp2_with fail
  rw [HWA.out]
  go_region
  go_wp2
  generalize hW : World.drew _ = W
  have HZ : Bk W w.heap.size [.int .i64 i, .int .i64 q, .int .i64 u, .int .i64 st, .string ⟨mc.toArray⟩, .int .i64 us, .int .i64 gr, .slice oa n cap] 35 := by rw [← hW]; exact (HKR.out.set8 _ _ _ _ _ _ _ _).drew
  have HBW : Below w.heap.size w W := by rw [← hW]; exact (below_set8 HB.out (Nat.le_refl _) _ _ _ _ _ _ _ _).drew
  clear hW
  have q0 := HZ.cell 0 rfl
  have q1 := HZ.cell 1 rfl
  have q2 := HZ.cell 2 rfl
  have q3 := HZ.cell 3 rfl
  have q4 := HZ.cell 4 rfl
  have q5 := HZ.cell 5 rfl
  have q6 := HZ.cell 6 rfl
  have q7 := HZ.cell 7 rfl
  exact bodyPost_ret (v := .agg #[.int .i64 i, .int .i64 q, .int .i64 u, .int .i64 st, .string ⟨mc.toArray⟩, .int .i64 us, .int .i64 gr, .slice oa n cap]) (by simp [results, Tryz.results27, go_sem, q0, q1, q2, q3, q4, q5, q6, q7]) rfl ⟨rfl, HBW⟩
end Go.Proofs.YtihcdahmfdijoaaGreatDoor
