/- LexFaults' walk: where there is a fault. -/
import Derived.Test.YthnnmgiihpdblacLq
namespace Go.Proofs.Ythnnmgiihpdblac
open Go.RowKit

theorem S_front (l : List UInt8) (p : Nat) : (⟨l.toArray⟩ : ByteArray).extract 0 p = ⟨(l.take p).toArray⟩ := by
  rw [S_extract]; simp
theorem S_app (a b : List UInt8) : (⟨a.toArray⟩ : ByteArray) ++ ⟨b.toArray⟩ = ⟨(a ++ b).toArray⟩ := by
  apply ByteArray.ext; simp

set_option maxRecDepth 4000 in
set_option maxHeartbeats 2000000 in
theorem lf_long (l m : List UInt8) (w : World) (h : ¬ 2147467645 < m.length) (hl : 16000 < l.length) : Calls Try.prog 3 #[S l, S m] w fun e w' => e = .returned (.bool true) ∧ Below w.heap.size w w' := by
  have h' : decide ((2147467645 : Int) < m.length) = false := decide_eq_false (by omega)
  have H0 : Hid (∀ w, Calls Try.prog 4 #[] w fun e w' => e = .returned (.bool true) ∧ Below w.heap.size w w') := fun w => known_any w
  have H1 : Hid (∀ w, Calls Try.prog 5 #[S l] w (ScanPost (.err 34 16000) w)) := fun w => by
    have := scan_any l w
    rwa [show scanP l = .err 34 16000 by unfold scanP; rw [if_pos hl]] at this
  have hl' : decide ((16000 : Int) < l.length) = true := decide_eq_true (by omega)
  clear h
  go_enter Try.func3, Try.ntmps3
  go_wp2_with fail
  refine (H0.out _).mono ?_
  rintro e w1 ⟨rfl, hB⟩
  have HB : Hid (Below w.heap.size w w1) := hB
  clear hB
  go_wp2_with fail
  refine (H1.out _).mono ?_
  rintro e w2 ⟨rfl, hB⟩
  have HB2 : Hid (Below w.heap.size w w2) := HB.out.trans (hB.mono HB.out.size)
  clear hB
  go_wp2
  go_ret
  exact ⟨rfl, HB2.out⟩

set_option maxRecDepth 4000 in
set_option maxHeartbeats 4000000 in
theorem lf_comment (l m : List UInt8) (p : Nat) (w : World) (h : ¬ 2147467645 < m.length) (hl : l.length ≤ 16000) (hR : scanP l = .err 33 p) : Calls Try.prog 3 #[S l, S m] w fun e w' => e = .returned (.bool true) ∧ Below w.heap.size w w' := by
  have h' : decide ((2147467645 : Int) < m.length) = false := decide_eq_false (by omega)
  obtain ⟨us, _, hp, _⟩ := fault_reach hR hl
  obtain ⟨ts1, ht1⟩ := fault_ahead hR hl
  have H0 : Hid (∀ w, Calls Try.prog 4 #[] w fun e w' => e = .returned (.bool true) ∧ Below w.heap.size w w') := fun w => known_any w
  have H1 : Hid (∀ w, Calls Try.prog 5 #[S l] w (ScanPost (.err 33 p) w)) := fun w => by rw [← hR]; exact scan_any l w
  have H2 : Hid (∀ w, Calls Try.prog 5 #[.string ((⟨l.toArray⟩ : ByteArray).extract 0 p)] w (ScanPost (.ok ts1) w)) := fun w => by rw [S_front, ← ht1]; exact scan_any _ w
  have H3 : Hid (∀ w, Calls Try.prog 5 #[.string ((⟨l.toArray⟩ : ByteArray).extract 0 p ++ ⟨#[47, 42, 32]⟩ ++ ⟨#[42, 47]⟩)] w (ScanPost (scanP (l.take p ++ [47, 42, 32, 42, 47])) w)) := fun w => by
    have e : (⟨l.toArray⟩ : ByteArray).extract 0 p ++ ⟨#[47, 42, 32]⟩ ++ ⟨#[42, 47]⟩ = ⟨(l.take p ++ [47, 42, 32, 42, 47]).toArray⟩ := by
      rw [S_front, show (⟨#[47, 42, 32]⟩ : ByteArray) = ⟨([47, 42, 32] : List UInt8).toArray⟩ from rfl, show (⟨#[42, 47]⟩ : ByteArray) = ⟨([42, 47] : List UInt8).toArray⟩ from rfl, S_app, S_app, List.append_assoc]; rfl
    rw [e]; exact scan_any _ w
  have hc : p + 5 ≤ 16000 → ∃ ts, scanP (l.take p ++ [47, 42, 32, 42, 47]) = .ok ts := fun h5 => fault_comment hR hl h5
  have HC : Hid ((decide ((16000 : Int) < (p : Int) + 5) = false ∧ ∃ ts, scanP (l.take p ++ [47, 42, 32, 42, 47]) = .ok ts) ∨ (decide ((16000 : Int) < (p : Int) + 5) = true ∧ scanP (l.take p ++ [47, 42, 32, 42, 47]) = .err 34 16000)) := by
    by_cases h5 : p + 5 ≤ 16000
    · exact .inl ⟨decide_eq_false (by omega), hc h5⟩
    · refine .inr ⟨decide_eq_true (by omega), ?_⟩
      unfold scanP
      rw [if_pos]
      simp; omega
  generalize scanP (l.take p ++ [47, 42, 32, 42, 47]) = R3 at *
  have hp1 : decide ((p : Int) < 0) = false := decide_eq_false (by omega)
  have hp2 : decide ((l.length : Int) ≤ (p : Int)) = false := decide_eq_false (by omega)
  have hp3 : (p : Int) ≤ l.length := by omega
  have hl2 : (l.length : Int) ≤ 16000 := by omega
  clear h hR ht1 hc
  go_enter Try.func3, Try.ntmps3
  go_wp2_with fail
  refine (H0.out _).mono ?_
  rintro e w1 ⟨rfl, hB⟩
  have HB : Hid (Below w.heap.size w w1) := hB
  clear hB
  go_wp2_with fail
  refine (H1.out _).mono ?_
  rintro e w2 ⟨rfl, hB⟩
  have HB2 : Hid (Below w.heap.size w w2) := HB.out.trans (hB.mono HB.out.size)
  clear hB
  go_wp2_with fail
  refine (H2.out _).mono ?_
  rintro e w3 ⟨g, cap, rfl, ho, hB⟩
  have HB3 : Hid (Below w.heap.size w w3) := HB2.out.trans (hB.mono HB2.out.size)
  clear hB ho
  go_wp2_with fail
  refine (H3.out _).mono ?_
  rcases HC.out with ⟨h5, ts, rfl⟩ | ⟨h5, rfl⟩
  · rintro e w4 ⟨g4, cap4, rfl, ho, hB⟩
    have HB4 : Hid (Below w.heap.size w w4) := HB3.out.trans (hB.mono HB3.out.size)
    clear hB ho
    go_wp2
    go_ret
    exact ⟨rfl, HB4.out⟩
  · rintro e w4 ⟨rfl, hB⟩
    have HB4 : Hid (Below w.heap.size w w4) := HB3.out.trans (hB.mono HB3.out.size)
    clear hB
    go_wp2
    go_ret
    exact ⟨rfl, HB4.out⟩

theorem run_stop_le {l : List UInt8} {i k : Nat} (hi : i ≤ k) (h : ∀ j, i ≤ j → j < k → runB (l.getD j 0) = true) (hs : runB (l.getD k 0) = false) : runEnd l i = k := by
  rw [runEnd_to hi h, runEnd_stop hs]

set_option maxRecDepth 4000 in
set_option maxHeartbeats 8000000 in
theorem lf_other (l m : List UInt8) (e0 : Int) (p : Nat) (w : World) (h : ¬ 2147467645 < m.length) (hl : l.length ≤ 16000) (hR : scanP l = .err e0 p) (he : e0 ≠ 33) : Calls Try.prog 3 #[S l, S m] w fun e w' => e = .returned (.bool true) ∧ Below w.heap.size w w' := by
  have h' : decide ((2147467645 : Int) < m.length) = false := decide_eq_false (by omega)
  have hm : (m.length : Int) ≤ 2147467645 := by omega
  obtain ⟨us, _, hp, hst⟩ := fault_reach hR hl
  have hk := fault_kinds hst
  obtain ⟨ts1, ht1⟩ := fault_ahead hR hl
  have H0 : Hid (∀ w, Calls Try.prog 4 #[] w fun e w' => e = .returned (.bool true) ∧ Below w.heap.size w w') := fun w => known_any w
  have H1 : Hid (∀ w, Calls Try.prog 5 #[S l] w (ScanPost (.err e0 p) w)) := fun w => by rw [← hR]; exact scan_any l w
  have H2 : Hid (∀ w, Calls Try.prog 5 #[.string ((⟨l.toArray⟩ : ByteArray).extract 0 p)] w (ScanPost (.ok ts1) w)) := fun w => by rw [S_front, ← ht1]; exact scan_any _ w
  have H3 : Hid (∀ k w, Calls Try.prog 5 #[.string ((⟨l.toArray⟩ : ByteArray).extract 0 k ++ ⟨#[32]⟩ ++ ⟨m.toArray⟩)] w (ScanPost (scanP (l.take k ++ [32] ++ m)) w)) := fun k w => by
    have e : (⟨l.toArray⟩ : ByteArray).extract 0 k ++ ⟨#[32]⟩ ++ ⟨m.toArray⟩ = ⟨(l.take k ++ [32] ++ m).toArray⟩ := by
      rw [S_front, show (⟨#[32]⟩ : ByteArray) = ⟨([32] : List UInt8).toArray⟩ from rfl, S_app, S_app]
    rw [e]; exact scan_any _ w
  have HC : Hid (∀ k, k = faultEnd l e0 p → k ≤ l.length → (decide ((16000 : Int) < (k : Int) + 1 + m.length) = false ∧ scanP (l.take k ++ [32] ++ m) = .err e0 p) ∨ (decide ((16000 : Int) < (k : Int) + 1 + m.length) = true ∧ scanP (l.take k ++ [32] ++ m) = .err 34 16000)) := fun k hk0 hkl => by
    have hlen : (l.take k ++ [32] ++ m).length = k + 1 + m.length := by simp; omega
    by_cases h5 : k + 1 + m.length ≤ 16000
    · refine .inl ⟨decide_eq_false (by omega), ?_⟩
      subst hk0
      exact fault_behind hR hl he (by omega)
    · refine .inr ⟨decide_eq_true (by omega), ?_⟩
      unfold scanP
      rw [if_pos (by omega)]
  have hp1 : decide ((p : Int) < 0) = false := decide_eq_false (by omega)
  have hp2 : decide ((l.length : Int) ≤ (p : Int)) = false := decide_eq_false (by omega)
  have hp3 : (p : Int) ≤ l.length := by omega
  have hl2 : (l.length : Int) ≤ 16000 := by omega
  have he0 : (e0 == 0) = false := beq_eq_false_iff_ne.2 (by omega)
  have he34 : (e0 == 34) = false := beq_eq_false_iff_ne.2 (by omega)
  have he33 : (e0 == 33) = false := beq_eq_false_iff_ne.2 he
  have HE : Hid ((e0 = 30 ∧ faultEnd l e0 p = p + 1) ∨ (e0 ≠ 30 ∧ faultEnd l e0 p = runEnd l (p + 1))) := by
    unfold faultEnd
    by_cases h30 : e0 = 30
    · exact .inl ⟨h30, by rw [if_pos h30]⟩
    · exact .inr ⟨h30, by rw [if_neg h30]⟩
  generalize faultEnd l e0 p = E at *
  clear h hR ht1 he hk hst
  go_enter Try.func3, Try.ntmps3
  go_wp2_with fail
  refine (H0.out _).mono ?_
  rintro e w1 ⟨rfl, hB⟩
  have HB : Hid (Below w.heap.size w w1) := hB
  clear hB
  go_wp2_with fail
  refine (H1.out _).mono ?_
  rintro e w2 ⟨rfl, hB⟩
  have HB2 : Hid (Below w.heap.size w w2) := HB.out.trans (hB.mono HB.out.size)
  clear hB
  go_wp2_with fail
  refine (H2.out _).mono ?_
  rintro e w3 ⟨g, cap, rfl, ho, hB⟩
  have HB3 : Hid (Below w.heap.size w w3) := HB2.out.trans (hB.mono HB2.out.size)
  clear hB ho
  go_wp2_with fail
  go_loop [15] (fun i => ∃ k : Nat, i = .int .i64 k ∧ p + 1 ≤ k ∧ k ≤ l.length ∧ Hid (∀ j, p + 1 ≤ j → j < k → runB (l.getD j 0) = true) ∧ Hid (e0 = 30 → k = p + 1)) (fun i => l.length - (intOf i).toNat)
  case atStart => exact ⟨p + 1, by go_num, by omega, by omega, fun j h1 h2 => by omega, fun _ => rfl⟩
  case round =>
    obtain ⟨k, rfl, hk0, hk, HJ, H30⟩ := hrel
    have stop : ∀ (hx : k = E), k = E := fun h => h
    by_cases hgo : k < l.length ∧ e0 ≠ 30 ∧ runB (l.getD k 0) = true
    · obtain ⟨hlt, h30, hv⟩ := hgo
      have hk' : (k : Int) < l.length := by omega
      have hcs : ({ data := l.toArray } : ByteArray)[k]'hlt = l.getD k 0 := (getD_lt hlt).symm
      have hb30 : (e0 == 30) = false := beq_eq_false_iff_ne.2 h30
      have hb32 : ¬ e0 = 30 := h30
      have HC0 : Hid (∀ w, Calls Try.prog 6 #[.int .u8 ((l.getD k 0).toNat : Int)] w fun e w' => e = .returned (.bool true) ∧ w' = w) := fun w => by
        have := lwithin_any ((l.getD k 0).toNat : Int) w
        rwa [show runP ((l.getD k 0).toNat : Int) = true from hv] at this
      have HJ2 : Hid (∀ j, p + 1 ≤ j → j < k + 1 → runB (l.getD j 0) = true) := fun j h1 h2 => by
        rcases Nat.lt_or_ge j k with h3 | h3
        · exact HJ.out j h1 h3
        · obtain rfl : j = k := by omega
          exact hv
      have H302 : Hid (e0 = 30 → k + 1 = p + 1) := fun h => absurd h h30
      clear hv h30
      generalize l.getD k 0 = d at *
      go_wp2_with (go_at_call 6; refine (HC0.out _).mono ?_; rintro e w' ⟨rfl, rfl⟩)
      go_round
      case rel => exact ⟨k + 1, by go_num, by omega, by omega, HJ2.out, H302.out⟩
      case measure => simp [intOf]; omega
    · have hE : k = E := by
        rcases HE.out with ⟨h1, h2⟩ | ⟨h1, h2⟩
        · rw [h2]; exact H30.out h1
        · rw [h2]
          by_cases hlt : k < l.length
          · have hv : runB (l.getD k 0) = false := by
              cases hv : runB (l.getD k 0)
              · rfl
              · exact absurd ⟨hlt, h1, hv⟩ hgo
            exact (run_stop_le hk0 HJ.out hv).symm
          · exact (run_stop_le hk0 HJ.out (by rw [getD_ge (by omega)]; decide)).symm
      have HCk := HC.out k hE hk
      have HCC : Hid ((decide ((16000 : Int) < (k : Int) + 1 + m.length) = false ∧ scanP (l.take k ++ [32] ++ m) = .err e0 p) ∨ (decide ((16000 : Int) < (k : Int) + 1 + m.length) = true ∧ scanP (l.take k ++ [32] ++ m) = .err 34 16000)) := HCk
      have H3k : Hid (∀ w, Calls Try.prog 5 #[.string ((⟨l.toArray⟩ : ByteArray).extract 0 k ++ ⟨#[32]⟩ ++ ⟨m.toArray⟩)] w (ScanPost (scanP (l.take k ++ [32] ++ m)) w)) := fun w => H3.out k w
      have hkl : (k : Int) ≤ l.length := by omega
      clear hE HCk stop
      generalize scanP (l.take k ++ [32] ++ m) = R3 at *
      have hcases : decide (k < l.length) = false ∨ (k < l.length ∧ e0 = 30) ∨ (k < l.length ∧ e0 ≠ 30 ∧ runB (l.getD k 0) = false) := by
        by_cases hlt : k < l.length
        · by_cases h30 : e0 = 30
          · exact .inr (.inl ⟨hlt, h30⟩)
          · refine .inr (.inr ⟨hlt, h30, ?_⟩)
            cases hv : runB (l.getD k 0)
            · rfl
            · exact absurd ⟨hlt, h30, hv⟩ hgo
        · exact .inl (decide_eq_false (by omega))
      clear hgo
      rcases hcases with hlt | ⟨hlt, rfl⟩ | ⟨hlt, h30, hv⟩
      · go_wp2_with fail
        refine (H3k.out _).mono ?_
        rcases HCC.out with ⟨h5, rfl⟩ | ⟨h5, rfl⟩
        · rintro e w4 ⟨rfl, hB⟩
          have HB4 : Hid (Below w.heap.size w w4) := HB3.out.trans (hB.mono HB3.out.size)
          clear hB
          go_wp2
          go_ret
          exact ⟨rfl, HB4.out⟩
        · rintro e w4 ⟨rfl, hB⟩
          have HB4 : Hid (Below w.heap.size w w4) := HB3.out.trans (hB.mono HB3.out.size)
          clear hB
          go_wp2
          go_ret
          exact ⟨rfl, HB4.out⟩
      · have hk' : (k : Int) < l.length := by omega
        go_wp2_with fail
        refine (H3k.out _).mono ?_
        rcases HCC.out with ⟨h5, rfl⟩ | ⟨h5, rfl⟩
        · rintro e w4 ⟨rfl, hB⟩
          have HB4 : Hid (Below w.heap.size w w4) := HB3.out.trans (hB.mono HB3.out.size)
          clear hB
          go_wp2
          go_ret
          exact ⟨rfl, HB4.out⟩
        · rintro e w4 ⟨rfl, hB⟩
          have HB4 : Hid (Below w.heap.size w w4) := HB3.out.trans (hB.mono HB3.out.size)
          clear hB
          go_wp2
          go_ret
          exact ⟨rfl, HB4.out⟩
      · have hk' : (k : Int) < l.length := by omega
        have hcs : ({ data := l.toArray } : ByteArray)[k]'hlt = l.getD k 0 := (getD_lt hlt).symm
        have hb30 : (e0 == 30) = false := beq_eq_false_iff_ne.2 h30
        have HC0 : Hid (∀ w, Calls Try.prog 6 #[.int .u8 ((l.getD k 0).toNat : Int)] w fun e w' => e = .returned (.bool false) ∧ w' = w) := fun w => by
          have := lwithin_any ((l.getD k 0).toNat : Int) w
          rwa [show runP ((l.getD k 0).toNat : Int) = false from hv] at this
        clear hv
        generalize l.getD k 0 = d at *
        go_wp2_with fail
        refine (HC0.out _).mono ?_
        rintro e w5 ⟨rfl, hw⟩
        have hw1 := hw.symm
        clear hw
        subst hw1
        go_wp2_with fail
        refine (H3k.out _).mono ?_
        rcases HCC.out with ⟨h5, rfl⟩ | ⟨h5, rfl⟩
        · rintro e w4 ⟨rfl, hB⟩
          have HB4 : Hid (Below w.heap.size w w4) := HB3.out.trans (hB.mono HB3.out.size)
          clear hB
          go_wp2
          go_ret
          exact ⟨rfl, HB4.out⟩
        · rintro e w4 ⟨rfl, hB⟩
          have HB4 : Hid (Below w.heap.size w w4) := HB3.out.trans (hB.mono HB3.out.size)
          clear hB
          go_wp2
          go_ret
          exact ⟨rfl, HB4.out⟩

theorem lexFaults_any (l m : List UInt8) (w : World) : Calls Try.prog 3 #[S l, S m] w fun e w' => e = .returned (.bool true) ∧ Below w.heap.size w w' := by
  by_cases h : 2147467645 < m.length
  · exact lf_more l m w h
  by_cases hl : 16000 < l.length
  · exact lf_long l m w h hl
  cases hR : scanP l with
  | ok ts => exact lf_ok l m ts w h hR (by omega)
  | err e p =>
    by_cases h33 : e = 33
    · subst h33; exact lf_comment l m p w h (by omega) hR
    · exact lf_other l m e p w h (by omega) hR h33

end Go.Proofs.Ythnnmgiihpdblac
