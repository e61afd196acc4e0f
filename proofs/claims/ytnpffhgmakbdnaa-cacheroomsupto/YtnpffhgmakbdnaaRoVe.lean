/- CacheRooms: a call is appended, asked, answered. -/
import Derived.Test.YtnpffhgmakbdnaaRoVc
namespace Go.Proofs.Ytnpffhgmakbdnaa
open Go.RowKit
section
variable {W w w1 w2 w4 w5 w6 : World} {K K4 : Nat → Nat} {p mm Wb Nb n most : Nat} {C C' : List Cl} {cs ns cs4 ns4 : Array Value} {nx lo ln : Nat → Nat} {i x k l : Nat}
theorem RS.small (h : RS W w K p mm Wb Nb n most C cs ns nx lo ln i) (hk : nx x = k) (hl : ln x = l) (h1 : 1 ≤ k) : l + 1 ≤ k := by
  have := h.rm.le x
  omega
theorem RS.push (h : RS W w K p mm Wb Nb n most C cs ns nx lo ln i) (hx : x < 8) {v : Value} (hv : cs[x]? = some v) (hk : nx x = k) (hl : ln x = l) (h1 : 1 ≤ k) (hi : i ≤ 1048576)
    (e1 : w.setCell ⟨Nb, x, none⟩ (.int .i64 ((k + 1 : Nat) : Int)) = w1) (e2 : w1.alloc (.cells #[.int .i64 (k : Nat)] 3) = w2) {N : Nat} (eN : w1.heap.size = N) :
    w1.cell? ⟨Wb, x, none⟩ = some v ∧ ∃ v' w3 K4, (∃ o' c', v' = .slice o' (l + 1) c') ∧ (∀ r, (Builtin.append_ #[57, 57] r #[v, .slice (some ⟨N, 0, none⟩) 1 1]).run Try.prog w2 = .ok v' w3) ∧ w3.cell? ⟨Wb, x, none⟩ = some v ∧ w3.frozen? ⟨Wb, x, none⟩ = false ∧
      MS W (w3.setCell ⟨Wb, x, none⟩ v') K4 Wb Nb (cs.setIfInBounds x v') (ns.setIfInBounds x (.int .i64 ((k + 1 : Nat) : Int))) (upd nx x (k + 1)) (upd lo x (k - l)) (upd ln x (l + 1)) ∧ TC K4 (w3.setCell ⟨Wb, x, none⟩ v') 1 p (gR n most) mm C := by
  have hs := h.small hk hl h1
  have hbd := h.bd x
  obtain ⟨m1, v1⟩ := h.ms.setN hx (k + 1)
  rw [e1] at m1 v1
  have v2 := Mv.alloc w1 K (fun _ => 9) (.cells #[.int .i64 (k : Nat)] 3)
  rw [e2] at v2
  have m2 := m1.mv v2 (fun _ _ q => q)
  have hb : w2.heap[N]? = some (.cells #[.int .i64 (k : Nat)] 3 (0, 0)) := by rw [← e2, ← eN]; exact (MapKept.heap_alloc w1 _).1
  have htie := h.tie x
  obtain ⟨v', w3, K4, r1, r2, r3, r4, r5⟩ := m2.push hx hv (k := k) hb (by omega) (by omega) (by omega)
  rw [hl] at r4
  have hform : ∃ o' c', v' = .slice o' (l + 1) c' := by
    obtain ⟨u, hu, hwt⟩ := r4.wt x hx
    rw [Array.getElem?_setIfInBounds, if_pos rfl, if_pos (by rw [h.ms.cz]; exact hx)] at hu
    cases hu
    obtain ⟨o', c', e, _⟩ := hwt.form
    rw [upd_same] at e
    exact ⟨o', c', e⟩
  refine ⟨?_, v', w3, K4, hform, r1, r2, r3, r4, ?_⟩
  · unfold World.cell?; rw [m1.wb.at_]; exact hv
  · refine ((h.tc.mv v1 (by omega)).mv v2 id).mv r5 ?_
    rintro (q | q) <;> omega
theorem RS.newly (h : RS W w K p mm Wb Nb n most C cs ns nx lo ln i) (hx : x < n) (hn8 : n ≤ 8) (hm1 : 1 ≤ most) (hk : nx x = k) (hl : ln x = l) (h1 : 1 ≤ k) (hroom : l < most) (hi : i ≤ 1048576)
    (m4 : MS W w4 K4 Wb Nb cs4 ns4 (upd nx x (k + 1)) (upd lo x (k - l)) (upd ln x (l + 1))) (t4 : TC K4 w4 1 p (gR n most) mm C) (b5 : Below w4.heap.size w4 w5) {v : Int} {s : ByteArray} (hA : AskR (gR n most) C (whA x) (whI x) (k : Int) ((k : Int) - l) v s C')
    (hP : PC w6 p (gR n most) mm C') (hC : Chg (foot p mm C) (foot p mm C') w5 w6) :
    v = 1 ∧ (∃ K6, RS W w6 K6 p mm Wb Nb n most C' cs4 ns4 (upd nx x (k + 1)) (upd lo x (k - l)) (upd ln x (l + 1)) (i + 1)) ∧ ∃ c ∈ C', c.is (whA x) (whI x) ∧ busyE (enAt c.ents k) = true := by
  have hs := h.small hk hl h1
  have hbd := h.bd x
  have v5 := Mv.of_below b5 K4 (fun _ => 9)
  have m5 := m4.mv v5 (fun _ _ q => q)
  have t5 := t4.mv v5 id
  obtain ⟨K6, t6, v6⟩ := t5.chg hP hC
  rw [← hk, ← hl] at hA
  obtain ⟨q1, q2, q3⟩ := rm_new (most := most) h.rm t4.pc.st hn8 hx rfl hm1 (by omega) (by omega) (by omega) hA
  rw [hk, hl] at q2
  rw [hk] at q3
  refine ⟨q1, ⟨K6, m5.mv v6 (fun y hy q => by omega), t6, q2, fun y => ?_, fun y => ?_⟩, q3⟩
  · by_cases e : y = x
    · subst e; rw [upd_same, upd_same, upd_same]; omega
    · rw [upd_ne nx _ e, upd_ne lo _ e, upd_ne ln _ e]; exact h.tie y
  · by_cases e : y = x
    · subst e; rw [upd_same]; omega
    · rw [upd_ne nx _ e]; have := h.bd y; omega
theorem RS.again (h : RS W w K p mm Wb Nb n most C cs ns nx lo ln i) (hx : x < n) (hn8 : n ≤ 8) (hk : nx x = k) (hl : ln x = l) (hi : i ≤ 1048576) {s : Int} (h1 : (k : Int) - l ≤ s) (h2 : s < k) (b5 : Below w.heap.size w w5) {v : Int} {rep : ByteArray} (hA : AskR (gR n most) C (whA x) (whI x) s ((k : Int) - l) v rep C')
    (hP : PC w6 p (gR n most) mm C') (hC : Chg (foot p mm C) (foot p mm C') w5 w6) :
    (v = 2 ∨ v = 3) ∧ (∃ K6, RS W w6 K6 p mm Wb Nb n most C' cs ns nx lo ln (i + 1)) ∧ (v = 2 → ∃ c ∈ C', c.is (whA x) (whI x) ∧ busyE (enAt c.ents s) = true) := by
  have hbd := h.bd x
  have v5 := Mv.of_below b5 K (fun _ => 9)
  have m5 := h.ms.mv v5 (fun _ _ q => q)
  have t5 := h.tc.mv v5 id
  obtain ⟨K6, t6, v6⟩ := t5.chg hP hC
  rw [← hk, ← hl] at hA
  obtain ⟨q1, q2, q3⟩ := rm_wait h.rm h.tc.pc.st hn8 hx (by omega) (by omega) (by omega) hA
  exact ⟨q1, ⟨K6, m5.mv v6 (fun y hy q => by omega), t6, q2, h.tie, fun y => by have := h.bd y; omega⟩, q3⟩
theorem RS.answered (h : RS W w K p mm Wb Nb n most C cs ns nx lo ln i) (hx : x < n) (hn8 : n ≤ 8) {s : Int} {rep : ByteArray} (hrep : rep.size = 6) (hb : ∃ c ∈ C, c.is (whA x) (whI x) ∧ busyE (enAt c.ents s) = true) (b5 : Below w.heap.size w w5) {v : Int} (hD : DoneR (gR n most) C (whA x) (whI x) s rep v C')
    (hP : PC w6 p (gR n most) mm C') (hC : Chg (foot p mm C) (foot p mm C') w5 w6) : v = 0 ∧ ∃ K6, RS W w6 K6 p mm Wb Nb n most C' cs ns nx lo ln i := by
  have v5 := Mv.of_below b5 K (fun _ => 9)
  have m5 := h.ms.mv v5 (fun _ _ q => q)
  have t5 := h.tc.mv v5 id
  obtain ⟨K6, t6, v6⟩ := t5.chg hP hC
  obtain ⟨q1, q2⟩ := rm_done h.rm hn8 hx (show 6 ≤ 64 by omega) hrep hb hD
  exact ⟨q1, K6, m5.mv v6 (fun y hy q => by omega), t6, q2, h.tie, h.bd⟩
end
end Go.Proofs.Ytnpffhgmakbdnaa
