/- The document's shelf: Drop, New, Keys. -/
import Derived.Test.YtkkamilmjaochaaPBd
import Derived.Test.YtkkamilmjaochaaPYk
import Derived.Deep.CutBlock
import Derived.Deep.CutRange
namespace Go.Proofs.Ytkkamilmjaochaa
open Go.RowKit
section
variable {K K' : Nat → Nat} {w w' : World} {B t x most : Nat} {v : Value} {L : List Pr}
def DropPost (K : Nat → Nat) (w : World) (B t x most : Nat) (L : List Pr) (k : KeyP) (e : Ending) (w' : World) : Prop :=
  ∃ c L' K' v', e = .returned (.int .i64 c) ∧ DropR L k c L' ∧ DS K' w' B t x most v' L' ∧ Mv (T2 t) w w' K K'
set_option maxHeartbeats 1000000 in
theorem ddrop_any (h : DS K w B t x most v L) (hB : B ≤ w.heap.size) (hl : L.length ≤ 10000000) (k : KeyP) : Calls Try.prog 44 #[ptr x, keyV k] w (DropPost K w B t x most L k) := by
  generalize hPO : DropPost K w B t x most L k = PO
  have HPO := hid hPO
  clear hPO
  obtain ⟨w0, hw0⟩ : ∃ w0, w.alloc (.cells #[.string k.s, .int .i64 k.n] 32) = w0 := ⟨_, rfl⟩
  have B0 : Below w.heap.size w w0 := by rw [← hw0]; exact (Below.refl _ _).alloc (Nat.le_refl _) _
  obtain ⟨A0, hA⟩ : ∃ A0, w.heap.size = A0 := ⟨_, rfl⟩
  have kb : w0.heap[A0]? = some (.cells #[.string k.s, .int .i64 k.n] 32) := by rw [← hw0, ← hA]; exact (MapKept.heap_alloc w _).1
  have m0 := Mv.of_below B0 K (fun _ => t + 9)
  have h0 := h.mv m0 id id
  have HF := hid (find_any h0 hl k)
  have k0 : w0.cell? ⟨A0, 0, none⟩ = some (.string k.s) := by unfold World.cell?; rw [kb]; rfl
  have k1 : w0.cell? ⟨A0, 1, none⟩ = some (.int .i64 k.n) := by unfold World.cell?; rw [kb]; rfl
  have HH := hid (And.intro h0 m0)
  have HN := hid (And.intro hl hB)
  clear h h0 m0 B0 hl hB kb
  go_enter Try.func44, Try.ntmps44
  go_wp2_with fail
  refine HF.out.mono ?_
  rintro _ w1 ⟨i, rfl, hf, b1⟩
  have m1 := Mv.of_below b1 (ext w K (fun _ => t + 9)) (fun _ => t + 9)
  obtain ⟨K1, hK1⟩ : ∃ K1, ext w0 (ext w K (fun _ => t + 9)) (fun _ => t + 9) = K1 := ⟨_, rfl⟩
  rw [hK1] at m1
  have h1 := HH.out.1.mv m1 id id
  have mt : Mv (T2 t) w w1 K K1 := (HH.out.2.trans m1).mono (fun _ h => h.elim)
  rcases hf with ⟨rfl, hno⟩ | ⟨L1, L2, y, hL, rfl, hyk, hfi⟩
  · have HE : Hid (PO (.returned (.int .i64 141)) w1) := by
      rw [← HPO.out]
      exact ⟨_, _, _, _, rfl, .none hno, h1, mt⟩
    clear h1 mt m1 hK1 b1 hno HF k0 k1
    go_wp2
    exact HE.out
  · obtain ⟨oa, cap, e1, hcap, hg⟩ := h1.l.form
    subst e1
    have hlen : L1.length + L2.length + 1 = L.length := by rw [hL]; simp; omega
    obtain ⟨g9, hg9⟩ := hg (by omega)
    subst hg9
    obtain ⟨n, hn⟩ : ∃ n, L.length = n := ⟨_, rfl⟩
    have c1 := h1.c1
    rw [hn] at c1 hlen hcap
    have hd := h1
    rw [hn] at hd
    rw [hL] at hd
    have hBW : B ≤ w1.heap.size := Nat.le_trans HN.out.2 mt.size
    obtain ⟨oad, hoad⟩ : ∃ oad : Option Addr, (if cap = L1.length + 1 then some (⟨g9, 0, none⟩ : Addr) else some ⟨g9, (L1.length + 1) * 3, none⟩) = oad := ⟨_, rfl⟩
    obtain ⟨ad, had, had2⟩ : ∃ ad, oad = some ad ∧ (0 < L2.length → ad = ⟨g9, (L1.length + 1) * 3, none⟩) := by
      by_cases hc : cap = L1.length + 1
      · exact ⟨⟨g9, 0, none⟩, by rw [← hoad, if_pos hc], fun hp => by omega⟩
      · exact ⟨⟨g9, (L1.length + 1) * 3, none⟩, by rw [← hoad, if_neg hc], fun _ => rfl⟩
    obtain ⟨o1, cc1, w2, o2, c3, w3, r1, x2, r2, x3, f3, hd3, mv3⟩ := drop_rows hd (by rw [← hL]; exact hn) hBW (by have := HN.out.1; omega) had had2 (cap - (L1.length + 1))
    have s1 := fun w => cut_to g9 n cap L1.length (by omega) w
    have s2 : ∀ w, (Instr.slice 103 (.slice (some ⟨g9, 0, none⟩) n cap) (some (.int .i64 ((L1.length + 1 : Nat) : Int))) none none).run Try.prog w = .ok (.slice oad L2.length (cap - (L1.length + 1))) w := fun w => by
      have := cut_from g9 n cap (L1.length + 1) (by omega) w
      rw [hoad, show n - (L1.length + 1) = L2.length by omega] at this
      exact this
    have HE : Hid (PO (.returned (.int .i64 0)) (w3.setCell ⟨x, 1, none⟩ (.slice o2 (L1.length + L2.length) c3))) := by
      rw [← HPO.out]
      exact ⟨_, _, _, _, rfl, .some L1 L2 y hL hyk hfi, hd3, mt.trans mv3⟩
    obtain ⟨jn, hjn⟩ : ∃ jn, L1.length = jn := ⟨_, rfl⟩
    obtain ⟨jI, hjI⟩ : ∃ jI : Int, ((jn + 1 : Nat) : Int) = jI := ⟨_, rfl⟩
    rw [hjn] at s1 s2 r1 r2 HE hlen ⊢
    rw [hjI] at s2
    have hj1 : ¬ (jn : Int) < 0 := by omega
    have hw1 : wrap64 ((jn : Int) + 1) = jI := by have := HN.out.1; unfold wrap64; omega
    have R1 := hid r1
    have R2 := hid r2
    obtain ⟨HD, hHD⟩ : ∃ HD : Prop, HD := ⟨True, trivial⟩
    have HHD := hid hHD
    clear h1 mt m1 hK1 b1 HF k0 k1 hd hd3 mv3 r1 r2 hHD had had2 hoad hL hyk hfi hg HH hBW
    go_upto_region 5 with fail
    go_wp2_with (at_builtin; refine decoy (D := HD) ?_ ?_)
    · exact HHD.out
    refine (show Hid _ from ?_)
    refine wpList_app rfl _ _ 103 rfl _ _ _ _ rfl rfl (R1.out _) ?_
    go_upto_region 6 with fail
    go_wp2_with (at_builtin; refine decoy (D := HD) ?_ ?_)
    · exact HHD.out
    refine (show Hid _ from ?_)
    refine wpList_app rfl _ _ 103 rfl _ _ _ _ rfl rfl (R2.out _) ?_
    clear R1 R2 HHD s1 s2
    go_wp2
    exact HE.out
theorem bld105 (w : World) (n : Int) : (Instr.build 105 #[(0, .int .i64 n)]).run Try.prog w = .ok (.agg #[.int .i64 n, .slice none 0 0]) w := by kernel_rfl
theorem dnew_bad (w : World) (n : Int) (h : (decide (n < 0) || decide (1048576 < n)) = true) : Calls Try.prog 9 #[.int .i64 n] w fun e w' => e = .returned (.tuple #[.pointer none, .int .i64 1]) ∧ w' = w := by
  by_cases h1 : n < 0
  · have d1 : decide (n < 0) = true := by simpa using h1
    go_enter Try.func9, Try.ntmps9
    go_wp2
    go_ret2
    exact ⟨rfl, rfl⟩
  · have d1 : decide (n < 0) = false := by simpa using h1
    have d2 : decide (1048576 < n) = true := by rw [d1] at h; simpa using h
    go_enter Try.func9, Try.ntmps9
    go_wp2
    go_ret2
    exact ⟨rfl, rfl⟩
theorem dnew_good (w : World) (K : Nat → Nat) (B t : Nat) (n : Int) (k : Nat) (hk : n = k) (hm : k ≤ 1048576) : Calls Try.prog 9 #[.int .i64 n] w fun e w' => ∃ x K', e = .returned (.tuple #[ptr x, .int .i64 0]) ∧ DS K' w' B t x k (.slice none 0 0) [] ∧ Mv (fun _ => False) w w' K K' := by
  have d1 : decide (n < 0) = false := by simp; omega
  have d2 : decide (1048576 < n) = false := by simp; omega
  have hb := bld105
  obtain ⟨w0, hw0⟩ : ∃ w0, w.alloc (.cells #[.int .i64 n, .slice none 0 0] 105) = w0 := ⟨_, rfl⟩
  obtain ⟨A, hA⟩ : ∃ A, w.heap.size = A := ⟨_, rfl⟩
  have HE : Hid (∃ K', DS K' w0 B t A k (.slice none 0 0) [] ∧ Mv (fun _ => False) w w0 K K') := by
    have v1 := Mv.alloc w K (fun _ => t) (.cells #[.int .i64 n, .slice none 0 0] 105)
    have t1 := TB.new w K (fun _ => t) (.cells #[.int .i64 n, .slice none 0 0] 105) (t := t) rfl
    rw [hw0] at v1 t1
    rw [hA] at t1
    rw [hk] at t1
    exact ⟨_, ⟨t1, RW.nil _ _ _ _ _ _ _⟩, v1⟩
  clear hk hm
  go_enter Try.func9, Try.ntmps9
  go_wp2
  go_ret2
  obtain ⟨K', q1, q2⟩ := HE.out
  exact ⟨A, K', rfl, q1, q2⟩
end
end Go.Proofs.Ytkkamilmjaochaa
