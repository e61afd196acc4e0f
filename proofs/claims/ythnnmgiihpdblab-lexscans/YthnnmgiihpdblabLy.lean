/- LexParts' pieces in memory; would their source be too long? -/
import Derived.Test.YthnnmgiihpdblabLw
namespace Go.Proofs.Ythnnmgiihpdblab
open Go.RowKit

/-- pieces that lie in memory, the gaps' slices beside -/
structure PcsAt (w : World) (v : Value) (ps : List Pc) (gv : Nat → Option Addr × Nat) : Prop where
  ex : ∃ oa cap g off, v = .slice oa ps.length cap ∧ (0 < ps.length → oa = some ⟨g, off, none⟩) ∧ ∀ i p, ps[i]? = some p →
    w.cell? ⟨g, off + i * 4, none⟩ = some (.int .i64 p.what) ∧ w.cell? ⟨g, off + i * 4 + 1, none⟩ = some (.int .i64 p.n) ∧ w.cell? ⟨g, off + i * 4 + 2, none⟩ = some (S p.s) ∧
    w.cell? ⟨g, off + i * 4 + 3, none⟩ = some (.slice (gv i).1 p.gap.length (gv i).2) ∧ IntAt w (.slice (gv i).1 p.gap.length (gv i).2) p.gap ∧ (-9223372036854775808 ≤ p.n ∧ p.n ≤ 9223372036854775807) ∧ (p.s.length : Int) ≤ 9223372036854775807 ∧ (p.gap.length : Int) ≤ 9223372036854775807

def wOf (x : Nat) : Nat := 20 * min x 2147483647
def wSum : List Pc → Nat
  | [] => 0
  | p :: r => 40 + wOf p.gap.length + wSum r
theorem wSum_snoc (l : List Pc) (p : Pc) : wSum (l ++ [p]) = wSum l + (40 + wOf p.gap.length) := by
  induction l with
  | nil => simp [wSum]
  | cons a r ih => simp [wSum, ih]; omega
theorem wSum_take_le (l : List Pc) (k : Nat) : wSum (l.take k) ≤ wSum l := by
  induction l generalizing k with
  | nil => simp
  | cons a r ih =>
    cases k with
    | zero => simp [wSum]
    | succ k => have := ih k; simp [wSum]; omega
theorem wOf_le (x : Nat) : wOf x ≤ 42949672940 := by unfold wOf; omega

def LongPost (m : Nat) (w : World) (e : Ending) (w' : World) : Prop := ∃ b, e = .returned (.bool b) ∧ w' = w ∧ (b = false → m ≤ 2147483647)

set_option maxHeartbeats 2000000 in
theorem long_any (ps : List Pc) (bs : List Int) (v vb : Value) (gv : Nat → Option Addr × Nat) (w : World) (h : PcsAt w v ps gv) (hb : ∃ oa cap, vb = .slice oa bs.length cap) (hl : (ps.length : Int) ≤ 9223372036854775807) (hl2 : (bs.length : Int) ≤ 9223372036854775807) :
    Calls Try.prog 15 #[v, vb] w (LongPost (wOf bs.length + wSum ps) w) := by
  obtain ⟨oa, cap, g, off, rfl, hoa, hc⟩ := h.ex
  obtain ⟨ob, capb, rfl⟩ := hb
  clear h
  obtain ⟨n, hn⟩ : ∃ n, ps.length = n := ⟨_, rfl⟩
  rw [hn] at hl hoa ⊢
  have HN : Hid (ps.length = n) := hn
  clear hn
  have hw1 := wOf_le bs.length
  rcases Int.lt_or_le 2147483647 (bs.length : Int) with hbM | hbM
  all_goals (
    go_enter Try.func15, Try.ntmps15
    go_wp2_with fail
    go_loop [5, 6] (fun s i => ∃ (k N : Nat), i = .int .i64 k ∧ s = .int .i64 N ∧ k ≤ n ∧ (N : Int) ≤ 200000000000 ∧ Hid (N = wOf bs.length + wSum (ps.take k))) (fun _ i => n - (intOf i).toNat)
    case atStart =>
      refine ⟨0, wOf bs.length, rfl, ?_, by omega, by omega, by show _ = _; simp [wSum]⟩
      first | (congr 1; unfold wOf; omega)
    case round =>
      obtain ⟨k, N, rfl, rfl, hk, hN, HW⟩ := hrel
      by_cases hgo : k < n ∧ N ≤ 2147483647
      · obtain ⟨hlt, hNM⟩ := hgo
        have hk' : (k : Int) < n := by omega
        have hNM' : (N : Int) ≤ 2147483647 := by omega
        have hoa' := hoa (by omega)
        subst hoa'
        obtain ⟨p, hp⟩ : ∃ p, ps[k]? = some p := ⟨_, List.getElem?_eq_getElem (by rw [HN.out]; exact hlt)⟩
        have hpc := hc k p hp
        have c3 := hpc.2.2.2.1
        have hgl := hpc.2.2.2.2.2.2.2
        have hw2 := wOf_le p.gap.length
        have HW2 : Hid (N + (40 + wOf p.gap.length) = wOf bs.length + wSum (ps.take (k + 1))) := by
          show _ = _
          rw [List.take_add_one, hp]
          show _ = _ + wSum (ps.take k ++ [p])
          rw [wSum_snoc, HW.out]; omega
        have HG : Hid (∀ X : Int, (2147483647 < (p.gap.length : Int) → X = 2147483647) → ((p.gap.length : Int) ≤ 2147483647 → X = p.gap.length) → 20 * X = ((wOf p.gap.length : Nat) : Int)) := fun X h1 h2 => by
          unfold wOf
          rcases Int.lt_or_le 2147483647 (p.gap.length : Int) with h | h
          · rw [h1 h]; omega
          · rw [h2 h]; omega
        clear hp hpc hc HW
        generalize wOf p.gap.length = W at *
        rcases Int.lt_or_le 2147483647 (p.gap.length : Int) with hgM | hgM
        · have hX : (42949672940 : Int) = (W : Int) := HG.out 2147483647 (fun _ => rfl) (fun h => by omega)
          clear HG
          go_wp2
          go_round
          case rel => exact ⟨k + 1, N + (40 + W), by go_num, by rw [show ((N + (40 + W) : Nat) : Int) = (N : Int) + 40 + W by omega, ← hX], by omega, by omega, HW2.out⟩
          case measure => simp [intOf]; omega
        · have hX : (20 * (p.gap.length : Int)) = (W : Int) := HG.out p.gap.length (fun h => by omega) (fun _ => rfl)
          have HX : Hid ((20 * (p.gap.length : Int)) = (W : Int)) := hX
          clear HG hX
          go_wp2
          go_round
          case rel => exact ⟨k + 1, N + (40 + W), by go_num, by rw [show ((N + (40 + W) : Nat) : Int) = (N : Int) + 40 + W by omega, ← HX.out], by omega, by omega, HW2.out⟩
          case measure => simp [intOf]; omega
      · have hq : decide (k < n) = false ∨ (k < n ∧ decide ((N : Int) ≤ 2147483647) = false) := by
          by_cases h : k < n
          · exact .inr ⟨h, decide_eq_false (fun h2 => hgo ⟨h, by omega⟩)⟩
          · exact .inl (decide_eq_false h)
        rcases hq with hq | ⟨hq1, hq2⟩
        · have HF : Hid (decide ((2147483647 : Int) < N) = false → wOf bs.length + wSum ps ≤ 2147483647) := fun h => by
            have h1 := of_decide_eq_false h
            have h2 := of_decide_eq_false hq
            have h3 := HW.out
            rw [List.take_of_length_le (by rw [HN.out]; omega)] at h3
            omega
          obtain ⟨b, hb⟩ : ∃ b, decide ((2147483647 : Int) < N) = b := ⟨_, rfl⟩
          rw [hb] at HF
          clear hgo HW
          go_wp2
          go_ret
          exact ⟨b, rfl, rfl, HF.out⟩
        · have hk' : (k : Int) < n := by omega
          have hb : decide ((2147483647 : Int) < N) = true := decide_eq_true (by have := of_decide_eq_false hq2; omega)
          clear hgo HW
          go_wp2
          go_ret
          exact ⟨true, rfl, rfl, fun h => by cases h⟩)

end Go.Proofs.Ythnnmgiihpdblab
