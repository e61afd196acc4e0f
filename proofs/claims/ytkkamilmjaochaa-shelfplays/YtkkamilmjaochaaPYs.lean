/- The shelf S: Keys. -/
import Derived.Test.YtkkamilmjaochaaPJs
namespace Go.Proofs.Ytkkamilmjaochaa
open Go.RowKit
def kcS (k : ByteArray) : List Value := [.string k]
def kcsS (l : List ByteArray) : List Value := l.flatMap kcS
theorem kinfoS : ∃ i : TypeInfo, Try.prog.info? 9 = some i ∧ i.zero = some ((fun k : ByteArray => .string k) ⟨#[]⟩) ∧ i.size = 1 ∧ i.bytes = 16 :=
  ⟨(Try.prog.info? 9).getD default, by kernel_rfl, by kernel_rfl, by kernel_rfl, by kernel_rfl⟩
theorem kcsS_one (l : List ByteArray) : ∀ u ∈ kcsS l, u.oneCell' = true := by
  intro u hu
  obtain ⟨k, _, hk⟩ := List.mem_flatMap.1 hu
  simp [kcS] at hk
  rcases hk with rfl <;> rfl
theorem kcsS_len (l : List ByteArray) : (kcsS l).length = l.length * 1 := by
  induction l with
  | nil => rfl
  | cons t ts ih => simp [kcsS, kcS] at ih ⊢; try omega
/-- a list of keys, grown by one: where its block lies -/
theorem kappS {w : World} {B n : Nat} {v : Value} {xs : List Value} (h : w.ownsRow B 9 1 v n xs) (hB : B ≤ w.heap.size) (k : ByteArray) {N : Nat} (hb : w.heap[N]? = some (.cells #[.string k] 9 (0, 0))) (hn : n ≤ 100000000000) :
    ∃ g cap w', (∀ ty, (Builtin.append_ #[53, 53] ty #[v, .slice (some ⟨N, 0, none⟩) 1 1]).run Try.prog w = .ok (.slice (some ⟨g, 0, none⟩) (n + 1) cap) w') ∧ w'.ownsRow B 9 1 (.slice (some ⟨g, 0, none⟩) (n + 1) cap) (n + 1) (xs ++ kcS k) ∧ w.grownBy w' v.ownBlock ∧ (v.ownBlock = some g ∨ g = w.heap.size) ∧ g < w'.heap.size := by
  obtain ⟨i, hi, hz, hs, hby⟩ := kinfoS
  obtain ⟨g, cap, w', hr, ho, hg, hat, hlt⟩ := run_append_lies (P := Try.prog) w 53 0 B 9 i _ 1 16 Try.underlying53 hi hz hs hby rfl (by decide) v n xs h ⟨N, 0, none⟩ 1 1 (kcS k) rfl (World.news_of_block hb) (fun u hu => kcsS_one [k] u (by simpa [kcsS] using hu)) (by omega) (by unfold maxLen; omega) (by omega) hB w.heap.size rfl
  exact ⟨g, cap, w', fun ty => hr, ho, hg, hat, hlt⟩
def KRS (w : World) (r B n : Nat) (L : List (Th ByteArray Int)) (j x g cap : Nat) (wr : World) : Prop :=
  j ≤ n ∧ (r :: bs L)[j]? = some x ∧ wr.ownsRow B 9 1 (.slice (some ⟨g, 0, none⟩) j cap) j (kcsS ((L.take j).map Th.k)) ∧ Below B w wr
theorem keysS_any {w : World} {p most m r : Nat} {L : List (Th ByteArray Int)} (h : SH kdS w p most m r L) :
    Calls Try.prog 35 #[ptr p] w fun e w' => ∃ g cap, e = .returned (.slice (some ⟨g, 0, none⟩) L.length cap) ∧ w'.ownsRow w.heap.size 9 1 (.slice (some ⟨g, 0, none⟩) L.length cap) L.length (kcsS (L.map Th.k)) ∧ Below w.heap.size w w' := by
  obtain ⟨i, hi, hz, hs, hby⟩ := kinfoS
  have h20 := h.m20
  have hll := h.len
  obtain ⟨w0, m1, m2, m3⟩ := run_make_own (P := Try.prog) w w.heap.size 53 9 i _ 1 Try.underlying53 hi hz hs .i64 .i64 L.length (by rw [hby]; omega) (by unfold maxLen; omega) (Nat.le_refl _)
  have B0 : Below w.heap.size w w0 := ⟨m3.os, m3.tape, m3.output, m3.size, fun k hk => m3.block k hk (by simp)⟩
  have h1 := h.c1
  have h2 : ∀ ty, (Builtin.len_ #[150] ty #[.map (some m)]).run Try.prog w = .ok (.int .i64 L.length) w := h.mp.len
  have h3 : ∀ ty, (Builtin.len_ #[150] ty #[.map (some m)]).run Try.prog w0 = .ok (.int .i64 L.length) w0 := (h.below B0).mp.len
  have h4 := (h.below B0).c1
  have h5 := (h.below B0).c2
  obtain ⟨n, hn⟩ : ∃ n, n = L.length := ⟨_, rfl⟩
  obtain ⟨B, hB⟩ : ∃ B, B = w.heap.size := ⟨_, rfl⟩
  have HH := hid h
  have HB0 := hid B0
  have HO := hid m2
  have HL : Hid (n = L.length ∧ n ≤ 1048576) := ⟨hn, by omega⟩
  have HB := hid hB
  rw [← hn] at h2 h3 m1 HO ⊢
  rw [← hB] at HO m1 HB0 ⊢
  clear h h20 hll hi hz hs hby m2 m3 B0 hn hB
  go_enter Try.func35, Try.ntmps35
  go_wp2
  go_loopw [3, 4, 20] (fun v t i wr => ∃ j x g cap : Nat, i = .int .i64 j ∧ t = ptr x ∧ v = .slice (some ⟨g, 0, none⟩) j cap ∧ KRS w r B n L j x g cap wr) (fun _ _ i _ => n - (intOf i).toNat)
  case atStart => exact ⟨0, r, B, n, rfl, rfl, rfl, by omega, rfl, HO.out, HB0.out⟩
  case round =>
    obtain ⟨j, x, g, cap, rfl, rfl, rfl, e1, e2, e3, e4⟩ := hrel
    obtain ⟨hnL, hn20⟩ := HL.out
    by_cases hlt : j < n
    · have hj' : (j : Int) < (n : Int) := by omega
      have hjL : j < L.length := by omega
      have hBw := HB.out
      obtain ⟨⟨k0, v0, a0, n1⟩, a2, c2, n2⟩ := (HH.out.below (hBw ▸ e4)).next e2 (List.getElem?_eq_getElem hjL)
      have hbs : B ≤ wr.heap.size := by rw [hBw]; exact e4.size
      have x1 : wr.cell? ⟨x, 3, none⟩ = some (ptr (L[j]'hjL).b) := by unfold World.cell?; rw [show wr.heap[x]? = some (ndS _ _ _ _) from n1]; rfl
      have n2' : wr.heap[(L[j]'hjL).b]? = some (ndS (L[j]'hjL).k (L[j]'hjL).v a2 c2) := n2
      obtain ⟨w1, hw1⟩ : ∃ w1, wr.alloc (.cells ((fun k : ByteArray => #[.string k]) (L[j]'hjL).k) 9) = w1 := ⟨_, rfl⟩
      have B1 : Below B w w1 := by rw [← hw1]; exact e4.alloc hbs _
      obtain ⟨N, hN⟩ : ∃ N, wr.heap.size = N := ⟨_, rfl⟩
      obtain ⟨g', cap', w2, hap, ho, hg, hat, hl2⟩ := kappS (w := w1) (B := B) (n := j) (v := .slice (some ⟨g, 0, none⟩) j cap) (by rw [← hw1]; exact own_block e3 (fun b hb => by cases hb; exact Below.heap_alloc _ _ _ (e3.lt g rfl).2)) (by rw [← hw1]; simp; omega) (L[j]'hjL).k (N := N) (by rw [← hw1, ← hN]; exact (MapKept.heap_alloc wr _).1) (by omega)
      have HR : Hid (KRS w r B n L (j + 1) (L[j]'hjL).b g' cap' w2) := by
        refine ⟨hlt, by simp [hjL], ?_, B1.grown hg (by rw [← hw1]; simp; omega) (fun k hk => ?_)⟩
        · rw [List.take_add_one, List.getElem?_eq_getElem hjL]
          simp only [Option.toList_some, List.map_append, List.map_cons, List.map_nil]
          rw [show kcsS (List.map Th.k (L.take j) ++ [(L[j]'hjL).k]) = kcsS (List.map Th.k (L.take j)) ++ kcS (L[j]'hjL).k by simp [kcsS]]
          exact ho
        · cases hk
          exact (e3.lt g rfl).1
      have hwr : wrap64 ((j : Int) + 1) = (j : Int) + 1 := by unfold wrap64; omega
      generalize (L[j]'hjL) = t at *
      obtain ⟨b, k, v⟩ := t
      simp only at x1 n2' hw1 HR
      have x2 : wr.cell? ⟨b, 0, none⟩ = some (.string k) := by unfold World.cell?; rw [n2']; rfl
      clear n1 n2 n2' e1 e2 e3 e4 hbs B1 ho hg hat hl2 hBw hnL hn20 hjL hlt
      go_wp2_with (at_builtin; refine Hid.out ?_)
      refine (show Hid _ from ?_)
      refine wpList_app rfl _ _ 53 rfl _ _ _ _ rfl rfl (hap _) ?_
      go_wp2
      go_roundw
      case rel => exact ⟨j + 1, _, _, _, by rw [hwr]; rfl, rfl, rfl, HR.out⟩
      case measure => exact meas hwr hj'
    · obtain rfl : j = n := by omega
      have HR : Hid (wr.ownsRow B 9 1 (.slice (some ⟨g, 0, none⟩) j cap) j (kcsS (L.map Th.k)) ∧ Below B w wr) := by
        rw [List.take_of_length_le (by omega)] at e3
        exact ⟨e3, e4⟩
      clear e1 e2 e3 e4 hnL hn20 hlt HL HH HB0 HO
      go_wp2
      go_ret
      exact ⟨_, _, rfl, HR.out⟩
end Go.Proofs.Ytkkamilmjaochaa
