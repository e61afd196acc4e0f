/- Services: what Run has to tell. -/
import Derived.Test.YtcpjihaicmlmjaaPTb
import Derived.Test.YtcpjihaicmlmjaaPTz
namespace Go.Proofs.Ytcpjihaicmlmjaa
open Go.RowKit
def wouldP (p : Int) (a : List UInt8) : Int × ByteArray := toldP (handledP p a).1 (handledP p a).2
set_option maxRecDepth 8000 in
theorem would_any (p : Int) (a : List UInt8) (hl : a.length ≤ 281474976710656) (w : World) :
    Calls Try.prog 27 #[.int .i64 p, .string ⟨a.toArray⟩] w fun e w' => e = .returned (tup (wouldP p a)) ∧ Below w.heap.size w w' := by
  cases hr : tellsP p a with
  | none =>
    have hW : wouldP p a = (5, noB) := by unfold wouldP handledP; rw [hr]; rfl
    rw [hW]
    cases a with
    | nil => cases hr
    | cons x s =>
      simp only [tellsP] at hr
      split at hr
      · rename_i hx
        have hi0 : ∀ w, (Instr.index 9 (.string ⟨(x :: s).toArray⟩) (.int .i64 0)).run Try.prog w = .ok (.int .u8 (x.toNat : Int)) w := fun w => by kernel_rfl
        have hsz : (0 : Int) < ((⟨(x :: s).toArray⟩ : ByteArray).size : Int) := by simp only [ByteArray.size, List.size_toArray, List.length_cons]; omega
        obtain ⟨n, hn⟩ : ∃ n, (x.toNat : Int) = n := ⟨_, rfl⟩
        have h1 : (200 : Int) ≤ n := by omega
        have h2 : n < 255 := by omega
        rw [hn] at hi0
        generalize (⟨(x :: s).toArray⟩ : ByteArray) = B at *
        clear hn hr hx hl hW
        go_enter Try.func27, Try.ntmps27
        go_wp2
        go_ret2
        exact ⟨rfl, Below.refl _ _⟩
      · cases hr
  | some r =>
    have hW : wouldP p a = toldP r.1 ⟨r.2.toArray⟩ := by unfold wouldP handledP; rw [hr]
    have HT := hid (tells_ok p a r hr hl w)
    have HD := hid (fun w => told_any r.1 ⟨r.2.toArray⟩ w)
    rw [hW]
    have hfin : ∀ (B : ByteArray) (n : Int), (B.size = 0 ∨ ((∀ w, (Instr.index 9 (.string B) (.int .i64 0)).run Try.prog w = .ok (.int .u8 n) w) ∧ 0 < B.size ∧ (n < 200 ∨ n = 255))) → Hid (Calls Try.prog 15 #[.int .i64 p, .string B] w fun e w' => e = .returned (tupL r) ∧ Below w.heap.size w w') →
        Calls Try.prog 27 #[.int .i64 p, .string B] w fun e w' => e = .returned (tup (toldP r.1 ⟨r.2.toArray⟩)) ∧ Below w.heap.size w w' := by
      intro B n hB HT
      rcases hB with h0 | ⟨hi0, h0, hn⟩
      · have h0' : ((B.size : Nat) : Int) = 0 := by omega
        clear h0 hW hl hr
        go_enter Try.func27, Try.ntmps27
        go_wp2_with fail
        refine HT.out.mono ?_
        rintro _ w1 ⟨rfl, hb1⟩
        have HB1 := hid hb1
        clear hb1
        go_wp2_with fail
        refine (HD.out _).mono ?_
        rintro _ w2 ⟨rfl, hw2⟩
        subst hw2
        go_wp2
        go_ret2
        exact ⟨rfl, HB1.out⟩
      · have h0' : (0 : Int) < ((B.size : Nat) : Int) := by omega
        clear h0 hW hl hr
        rcases hn with hn | rfl
        · have hn' : ¬ (200 : Int) ≤ n := by omega
          go_enter Try.func27, Try.ntmps27
          go_wp2_with fail
          refine HT.out.mono ?_
          rintro _ w1 ⟨rfl, hb1⟩
          have HB1 := hid hb1
          clear hb1
          go_wp2_with fail
          refine (HD.out _).mono ?_
          rintro _ w2 ⟨rfl, hw2⟩
          subst hw2
          go_wp2
          go_ret2
          exact ⟨rfl, HB1.out⟩
        · go_enter Try.func27, Try.ntmps27
          go_wp2_with fail
          refine HT.out.mono ?_
          rintro _ w1 ⟨rfl, hb1⟩
          have HB1 := hid hb1
          clear hb1
          go_wp2_with fail
          refine (HD.out _).mono ?_
          rintro _ w2 ⟨rfl, hw2⟩
          subst hw2
          go_wp2
          go_ret2
          exact ⟨rfl, HB1.out⟩
    cases a with
    | nil => exact hfin _ 0 (.inl rfl) HT
    | cons x s =>
      refine hfin _ (x.toNat : Int) (.inr ⟨fun w => by kernel_rfl, by simp [ByteArray.size], ?_⟩) HT
      simp only [tellsP] at hr
      split at hr
      · cases hr
      · rename_i hx
        have := x.toNat_lt
        omega
set_option maxRecDepth 8000 in
theorem drun_any {K : Nat → Nat} {w : World} {t u b : Nat} {vv : Value} {L : List Sv} (h : RR K w t u b vv L) (o : OpR) (hl : o.args.length ≤ 281474976710656) :
    Calls Try.prog 12 #[ptr b, .agg (opA o)] w fun e w' => e = .returned (tup (ranP (findP L o.prog o.vers o.proc).1 o.proc o.args)) ∧ Below w.heap.size w w' := by
  obtain ⟨w0, hw0⟩ : ∃ w0, w.alloc (.cells (opA o) 34) = w0 := ⟨_, rfl⟩
  obtain ⟨S0, hS0⟩ : ∃ S0, w.heap.size = S0 := ⟨_, rfl⟩
  have B0 : Below w.heap.size w w0 := by rw [← hw0]; exact (Below.refl _ _).alloc (Nat.le_refl _) _
  have k0 : w0.heap[S0]? = some (.cells (opA o) 34) := by rw [← hw0, ← hS0]; exact (MapKept.heap_alloc w _).1
  have hlt0 : S0 < w0.heap.size := (Array.getElem?_eq_some_iff.1 k0).1
  have HC : Hid (∀ w', Below w0.heap.size w0 w' → w'.heap[S0]? = some (.cells (opA o) 34)) := fun w' hb => (hb.block S0 hlt0).trans k0
  obtain ⟨_, _, _, _, c4, c5, c6, _, _⟩ := op_cells k0
  have HF := hid (dfind_any (h.below B0 (fun _ => 9)) o.prog o.vers o.proc)
  have HB0 := hid B0
  obtain ⟨⟨f, g1, g2⟩, hf⟩ : ∃ f, findP L o.prog o.vers o.proc = f := ⟨_, rfl⟩
  rw [hf] at HF ⊢
  simp only []
  have HD := hid (fun w => null_any o.args w)
  have HW := hid (fun w => would_any o.proc o.args hl w)
  obtain ⟨R, hR⟩ : ∃ R, ranP f o.proc o.args = R := ⟨_, rfl⟩
  have HRR := hid hR
  rw [hR]
  unfold ranP at HRR
  clear h hf hR hl B0 k0 hlt0
  go_enter Try.func12, Try.ntmps12
  go_wp2_with fail
  refine HF.out.mono ?_
  rintro _ w1 ⟨rfl, hb1⟩
  have HB1 := hid (HB0.out.trans (hb1.mono HB0.out.size))
  obtain ⟨_, _, _, _, _, _, d6, _, d8⟩ := op_cells (HC.out _ hb1)
  clear hb1 HF c4 c5 c6
  by_cases hf0 : f = 0
  · subst hf0
    rw [if_neg (by simp)] at HRR
    cases hc : (o.proc == 0)
    · have hc0 : ¬ o.proc = 0 := by simpa using hc
      rw [if_neg hc0] at HRR
      have hR : wouldP o.proc o.args = R := HRR.out
      subst hR
      go_wp2_with fail
      refine (HW.out _).mono ?_
      rintro _ w2 ⟨rfl, hb2⟩
      have HB2 := hid (HB1.out.trans (hb2.mono HB1.out.size))
      clear hb2
      go_wp2
      go_ret2
      exact ⟨rfl, HB2.out⟩
    · rw [if_pos (by simpa using hc)] at HRR
      have hR : (nullP o.args, noB) = R := HRR.out
      subst hR
      go_wp2_with fail
      refine (HD.out _).mono ?_
      rintro _ w2 ⟨rfl, hw2⟩
      have HB2 : Hid (Below w.heap.size w w2) := by rw [hw2]; exact HB1.out
      clear hw2
      go_wp2
      go_ret2
      exact ⟨rfl, HB2.out⟩
  · rw [if_pos hf0] at HRR
    have hR : (f, noB) = R := HRR.out
    subst hR
    go_wp2
    go_ret2
    exact ⟨rfl, HB1.out⟩
end Go.Proofs.Ytcpjihaicmlmjaa
