/- The program's Writer: one laying, where something was wrong already. -/
import Derived.Test.YthnnmgiihpdblaaDoorXn
namespace Go.Proofs.YthnnmgiihpdblaaDoor
open Go.RowKit

theorem any_true (p : Nat) (E : Int) (w : World) (h : w.cell? ⟨p, 2, none⟩ = some (trV E)) (hE : E ≠ 0) : Calls Tryd.prog 101 #[.pointer (some ⟨p, 2, none⟩)] w fun r w' => r = .returned (.bool true) ∧ w' = w := by
  refine (any_any ⟨p, 2, none⟩ E w h).mono ?_
  rintro e w' ⟨h1, h2⟩
  exact ⟨by rw [h1]; simp [hE], h2⟩

set_option maxRecDepth 4000 in
set_option maxHeartbeats 4000000 in
theorem lay_wrong (p q : Nat) (v : Value) (M E : Int) (xs : List Value) (ps : List ByteArray) (w : World) (h : PW w p v M xs E) (hE : E ≠ 0) (hc : ∀ j, j < ps.length → w.cell? ⟨q, j, none⟩ = some (.string (ps.getD j ⟨#[]⟩)))
    (hm : ps.length ≤ 100) (hM0 : 0 ≤ M) (hM1 : M ≤ 9223372036854775807) (hT : (tot ps ps.length : Int) ≤ 140737488355328) (hn : (xs.length : Int) ≤ 140737488355328) :
    Calls Tryd.prog 97 #[.pointer (some ⟨p, 0, none⟩), .slice (some ⟨q, 0, none⟩) ps.length ps.length] w fun e w' => e = .returned (.tuple #[]) ∧ ∃ k, w' = w.drewN k := by
  obtain ⟨a, cap, hv⟩ := own_form h.own
  have H1 : Hid (∀ k, Calls Tryd.prog 84 #[.pointer (some ⟨p, 0, none⟩), .int .i64 23] (w.drewN k) fun e w' => e = .returned (.tuple #[]) ∧ ∃ k2, w' = (w.drewN k).drewN k2) := fun k =>
    pfail_later p v M E 23 xs (w.drewN k) ⟨h.m, h.s, h.e, h.f1, h.f2, h.own⟩ hE
  have H2 : Hid (∀ k, Calls Tryd.prog 101 #[.pointer (some ⟨p, 2, none⟩)] (w.drewN k) fun r w' => r = .returned (.bool true) ∧ w' = w.drewN k) := fun k =>
    any_true p E (w.drewN k) h.e hE
  have hcm := h.m
  have hcs := h.s
  rw [hv] at hcs
  obtain ⟨T, hTT⟩ : ∃ T : Int, (tot ps ps.length : Int) = T := ⟨_, rfl⟩
  rw [hTT] at hT
  have HTT : Hid ((tot ps ps.length : Int) = T) := hTT
  obtain ⟨n, hnn⟩ : ∃ n : Nat, xs.length = n := ⟨_, rfl⟩
  rw [hnn] at hcs hn
  obtain ⟨m, hmm⟩ : ∃ m : Nat, ps.length = m := ⟨_, rfl⟩
  have HMM : Hid (ps.length = m) := hmm
  have HC : Hid (∀ j, j < m → w.cell? ⟨q, j, none⟩ = some (.string (ps.getD j ⟨#[]⟩))) := fun j hj => hc j (by rw [hmm]; exact hj)
  rw [hmm] at hm ⊢
  clear h hv hTT hnn hmm hc
  go_enter Tryd.func97, Tryd.ntmps97
  go_wp2_with fail
  go_loop [4, 11] (fun sz ix => ∃ (k : Nat) (Z : Int), ix = .int .i64 k ∧ sz = .int .i64 Z ∧ k ≤ m ∧ 0 ≤ Z ∧ Z ≤ 140737488355328 ∧ Hid (Z = (tot ps k : Int))) (fun _ ix => 200 - (intOf ix).toNat)
  case atStart => exact ⟨0, 0, rfl, rfl, by omega, by omega, by omega, (show (0 : Int) = (tot ps 0 : Int) from by rw [tot_zero]; rfl)⟩
  case round =>
    obtain ⟨k, Z, rfl, rfl, hk, hZ0, hZ1, HZ⟩ := hrel
    by_cases hlt : k < m
    · have hcell := HC.out k hlt
      obtain ⟨t, ht⟩ : ∃ t, ps.getD k ⟨#[]⟩ = t := ⟨_, rfl⟩
      rw [ht] at hcell
      have hsz : Z + (t.size : Int) ≤ 140737488355328 := by
        have h1 := tot_succ ps k (by rw [HMM.out]; exact hlt)
        have h2 := tot_mono ps (k + 1) (by rw [HMM.out]; omega)
        have h3 := HZ.out
        have h4 := HTT.out
        rw [ht] at h1
        omega
      have HZ2 : Hid (Z + (t.size : Int) = (tot ps (k + 1) : Int)) := by
        show Z + (t.size : Int) = (tot ps (k + 1) : Int)
        have h1 := tot_succ ps k (by rw [HMM.out]; exact hlt)
        have h3 := HZ.out
        rw [ht] at h1
        omega
      clear ht hcm hcs
      go_wp2
      go_round
      case rel => exact ⟨k + 1, Z + (t.size : Int), by go_num, rfl, by omega, by omega, hsz, HZ2.out⟩
      case measure => simp [intOf]; omega
    · obtain rfl : k = m := by omega
      obtain rfl : Z = T := by rw [HZ.out, ← HTT.out, HMM.out]
      have hw : IntKind.i64.wrap (M - (n : Int)) = M - (n : Int) := by rw [IntKind.wrap_i64]; omega
      by_cases hl : M - (n : Int) < Z
      · go_wp2_with fail
        go_quiet (fail)
        go_wp2_with fail
        refine (H1.out _).mono ?_
        rintro e w2 ⟨rfl, k2, hw2⟩
        rw [World.drewN_drewN] at hw2
        subst hw2
        go_wp2_with fail
        refine (H2.out _).mono ?_
        rintro e w2 ⟨rfl, rfl⟩
        go_wp2
        first | go_end0 | refine bodyPost_ret (results_none rfl _ _ _) rfl ?_
        exact ⟨rfl, _, rfl⟩
      · go_wp2_with fail
        go_quiet (fail)
        go_wp2_with fail
        refine (H2.out _).mono ?_
        rintro e w2 ⟨rfl, rfl⟩
        go_wp2
        first | go_end0 | refine bodyPost_ret (results_none rfl _ _ _) rfl ?_
        exact ⟨rfl, _, rfl⟩

end Go.Proofs.YthnnmgiihpdblaaDoor
