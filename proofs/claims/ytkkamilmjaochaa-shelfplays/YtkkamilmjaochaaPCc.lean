/- ShelfPlays: a script weighed. -/
import Derived.Test.YtkkamilmjaochaaPCb
namespace Go.Proofs.Ytkkamilmjaochaa
open Go.RowKit
structure OpsAt (w : World) (b off len : Nat) (O : Nat → OpP) : Prop where
  c0 : ∀ i, i < len → w.cell? ⟨b, off + i * 7, none⟩ = some (.int .i64 (O i).kd)
  c1 : ∀ i, i < len → w.cell? ⟨b, off + i * 7 + 1, none⟩ = some (.int .i64 (O i).on)
  c2 : ∀ i, i < len → w.cell? ⟨b, off + i * 7 + 2, none⟩ = some (.string (O i).k.s)
  c3 : ∀ i, i < len → w.cell? ⟨b, off + i * 7 + 3, none⟩ = some (.int .i64 (O i).k.n)
  c4 : ∀ i, i < len → w.cell? ⟨b, off + i * 7 + 4, none⟩ = some (.int .i64 (O i).v)
  c5 : ∀ i, i < len → w.cell? ⟨b, off + i * 7 + 5, none⟩ = some (.int .i64 (O i).n)
  c6 : ∀ i, i < len → w.cell? ⟨b, off + i * 7 + 6, none⟩ = some (.int .i64 (O i).m)
  on : ∀ i, i < len → I64 (O i).on
  v : ∀ i, i < len → I64 (O i).v
  n : ∀ i, i < len → I64 (O i).n
  m : ∀ i, i < len → I64 (O i).m
  kn : ∀ i, i < len → (Lit.int .i64 (O i).k.n).wf = true
  s : ∀ i, i < len → ((O i).k.s.size : Int) ≤ 9223372036854775807
theorem OpsAt.lt {w : World} {b off len : Nat} {O : Nat → OpP} (h : OpsAt w b off len O) (hl : 0 < len) : b < w.heap.size := by
  have := h.c0 0 hl
  unfold World.cell? at this
  by_cases hb : b < w.heap.size
  · exact hb
  · simp only at this
    rw [show w.heap[b]? = none from Array.getElem?_eq_none (by omega)] at this
    simp at this
theorem OpsAt.below {w w' : World} {b off len : Nat} {O : Nat → OpP} (h : OpsAt w b off len O) (hB : Below w.heap.size w w') : OpsAt w' b off len O := by
  have hb : 0 < len → w'.heap[b]? = w.heap[b]? := fun h0 => hB.block b (h.lt h0)
  have k : ∀ {i q : Nat} {u : Value}, i < len → w.cell? ⟨b, q, none⟩ = some u → w'.cell? ⟨b, q, none⟩ = some u := fun hi hc => (World.cell?_of_block (a := ⟨b, _, none⟩) (hb (by omega))).trans hc
  exact ⟨fun i hi => k hi (h.c0 i hi), fun i hi => k hi (h.c1 i hi), fun i hi => k hi (h.c2 i hi), fun i hi => k hi (h.c3 i hi), fun i hi => k hi (h.c4 i hi), fun i hi => k hi (h.c5 i hi), fun i hi => k hi (h.c6 i hi), h.on, h.v, h.n, h.m, h.kn, h.s⟩
def addP (n m : Int) : Int := if 2147483647 < n ∨ 2147483647 < m then 2147483648 else n + m
theorem adds_any (n m : Int) (w : World) (hn : 0 ≤ n) (hm : 0 ≤ m) : Calls Try.prog 32 #[.int .i64 n, .int .i64 m] w fun e w' => e = .returned (.int .i64 (addP n m)) ∧ w' = w := by
  by_cases h1 : 2147483647 < n
  · have e : addP n m = 2147483648 := by unfold addP; rw [if_pos (.inl h1)]
    have d1 : decide (2147483647 < n) = true := by simp [h1]
    rw [e]
    go_enter Try.func32, Try.ntmps32
    go_wp2
    go_ret
    exact ⟨rfl, rfl⟩
  · have d1 : decide (2147483647 < n) = false := by simp; omega
    by_cases h2 : 2147483647 < m
    · have e : addP n m = 2147483648 := by unfold addP; rw [if_pos (.inr h2)]
      have d2 : decide (2147483647 < m) = true := by simp [h2]
      rw [e]
      go_enter Try.func32, Try.ntmps32
      go_wp2
      go_ret
      exact ⟨rfl, rfl⟩
    · have d2 : decide (2147483647 < m) = false := by simp; omega
      have e : addP n m = n + m := by unfold addP; rw [if_neg (by omega)]
      have hw : wrap64 (n + m) = n + m := by unfold wrap64; omega
      rw [e]
      go_enter Try.func32, Try.ntmps32
      go_wp2
      go_ret
      exact ⟨rfl, rfl⟩
theorem addP_in (n m : Int) (hn : 0 ≤ n) (hm : 0 ≤ m) : 0 ≤ addP n m ∧ addP n m ≤ 4294967294 ∧ (addP n m ≤ 2147483647 → n ≤ addP n m ∧ m ≤ addP n m) := by
  unfold addP
  split
  · omega
  · omega
theorem weighs_any (oa : Option Addr) (b off len cap : Nat) (O : Nat → OpP) (w : World) (hoa : 0 < len → oa = some ⟨b, off, none⟩) (hO : OpsAt w b off len O) (hlen : (len : Int) ≤ 9223372036854775807) :
    Calls Try.prog 6 #[.slice oa len cap] w fun e w' => ∃ s : Int, e = .returned (.int .i64 s) ∧ (s ≤ 2147483647 → len ≤ 2147483647 ∧ ∀ i, i < len → (O i).k.s.size ≤ 2147483647) ∧ w' = w := by
  have HA0 := hid (adds_any 0 (len : Int) w (by omega) (by omega))
  have r0 := addP_in 0 (len : Int) (by omega) (by omega)
  obtain ⟨A0, hA0⟩ : ∃ A, addP 0 (len : Int) = A := ⟨_, rfl⟩
  rw [hA0] at r0 HA0
  have HR0 : Hid (0 ≤ A0 ∧ A0 ≤ 4294967294 ∧ (A0 ≤ 2147483647 → (len : Int) ≤ A0)) := ⟨r0.1, r0.2.1, fun h => (r0.2.2 h).2⟩
  have HO := hid hO
  have HOA := hid hoa
  clear hO hoa r0 hA0
  go_enter Try.func6, Try.ntmps6
  go_wp2_with fail
  refine HA0.out.mono ?_
  rintro _ w' ⟨rfl, hw'⟩
  subst hw'
  clear HA0
  go_wp2_with fail
  go_loopw [3, 4] (fun u3 u4 wr => ∃ (j : Nat) (T : Int), u3 = .int .i64 T ∧ u4 = .int .i64 j ∧ j ≤ len ∧ wr = w' ∧ Hid (0 ≤ T ∧ T ≤ 4294967294 ∧ (T ≤ 2147483647 → (len : Int) ≤ 2147483647 ∧ ∀ i, i < j → (O i).k.s.size ≤ 2147483647))) (fun _ u4 _ => len - (intOf u4).toNat)
  case atStart => exact ⟨0, A0, rfl, rfl, Nat.zero_le _, rfl, HR0.out.1, HR0.out.2.1, fun h => ⟨by have := HR0.out.2.2 h; omega, fun i hi => by omega⟩⟩
  case round =>
    obtain ⟨j, T, rfl, rfl, hj, rfl, HT⟩ := hrel
    clear HR0
    by_cases hjl : j < len
    · have hj' : (j : Int) < (len : Int) := by omega
      have hj0 : (0 : Int) ≤ (j : Int) := by omega
      by_cases hT : T ≤ 2147483647
      · have dT : decide (T ≤ 2147483647) = true := by simp [hT]
        have e := HOA.out (Nat.lt_of_le_of_lt (Nat.zero_le _) hjl)
        subst e
        have c2 := HO.out.c2 j hjl
        obtain ⟨ss, hss⟩ : ∃ ss, (O j).k.s = ss := ⟨_, rfl⟩
        have hsz := HO.out.s j hjl
        rw [hss] at c2 hsz
        have HA := hid (adds_any T (ss.size : Int) wr HT.out.1 (by omega))
        have r1 := addP_in T (ss.size : Int) HT.out.1 (by omega)
        obtain ⟨A1, hA1⟩ : ∃ A, addP T (ss.size : Int) = A := ⟨_, rfl⟩
        rw [hA1] at r1 HA
        have HR : Hid (0 ≤ A1 ∧ A1 ≤ 4294967294 ∧ (A1 ≤ 2147483647 → (len : Int) ≤ 2147483647 ∧ ∀ i, i < j + 1 → (O i).k.s.size ≤ 2147483647)) := by
          refine ⟨r1.1, r1.2.1, fun h => ⟨(HT.out.2.2 hT).1, fun i hi => ?_⟩⟩
          by_cases e : i = j
          · subst e
            rw [hss]
            have := (r1.2.2 h).2
            omega
          · exact (HT.out.2.2 hT).2 i (by omega)
        have HJ := hid hjl
        have hl2 : (len : Int) ≤ 2147483647 := (HT.out.2.2 hT).1
        clear HT r1 hA1 hss hjl hj
        go_wp2_with fail
        refine HA.out.mono ?_
        rintro _ w2 ⟨rfl, hw2⟩
        subst hw2
        go_wp2
        go_roundw
        case rel => exact ⟨j + 1, A1, rfl, by first | rfl | (rw [wrapS (j := j) (by omega)]; rfl), HJ.out, trivial, HR.out⟩
        case measure => first | exact meas6 rfl HJ.out | exact meas6 (wrapS (j := j) (by omega)) HJ.out
      · have dT : decide (T ≤ 2147483647) = false := by simp; omega
        have HE : Hid (T ≤ 2147483647 → len ≤ 2147483647 ∧ ∀ i, i < len → (O i).k.s.size ≤ 2147483647) := fun h => by omega
        go_wp2
        go_ret
        exact ⟨_, rfl, HE.out, rfl⟩
    · obtain rfl : j = len := by omega
      have HE : Hid (T ≤ 2147483647 → j ≤ 2147483647 ∧ ∀ i, i < j → (O i).k.s.size ≤ 2147483647) := fun h => ⟨by have := (HT.out.2.2 h).1; omega, (HT.out.2.2 h).2⟩
      clear HT
      go_wp2
      go_ret
      exact ⟨_, rfl, HE.out, rfl⟩
end Go.Proofs.Ytkkamilmjaochaa
