/- The client: which call a reply is for (slices.IndexFunc with Hear's closure). -/
import Derived.Test.YtfcbjcebkahehaaGreatDoorZax
namespace Go.Proofs.YtfcbjcebkahehaaGreatDoor.Cl
open Go.RowKit
/-- is a reply of the sequence n from src for the call x? -/
def hitW (n src : Int) (x : Wt) : Bool := decide (x.seq = n) && decide (x.dst = src)
theorem hit_any (b rb sb : Nat) (seq dst n src : Int) (w : World) (h0 : w.cell? ⟨b, 0, none⟩ = some (.int .i64 seq)) (h1 : w.cell? ⟨b, 1, none⟩ = some (.int .i64 dst)) (hr : w.cell? ⟨rb, 0, none⟩ = some (.int .i64 n)) (hs : w.cell? ⟨sb, 0, none⟩ = some (.int .i64 src)) :
    Calls Tryz.prog 85 #[ptr b, ptr rb, ptr sb] w fun e w' => e = .returned (.bool (decide (seq = n) && decide (dst = src))) ∧ ∃ k, w' = w.drewN k := by
  by_cases e1 : seq = n
  · subst e1
    by_cases e2 : dst = src
    · subst e2
      go_enter Tryz.func85, Tryz.ntmps85
      go_wp2_with fail
      go_quiet (fail)
      go_wp2
      go_ret
      exact ⟨by simp, _, rfl⟩
    · have e3 : (dst == src) = false := by simpa using e2
      go_enter Tryz.func85, Tryz.ntmps85
      go_wp2_with fail
      go_quiet (fail)
      go_wp2
      go_ret
      exact ⟨by simp [e2], _, rfl⟩
  · have e3 : (seq == n) = false := by simpa using e1
    go_enter Tryz.func85, Tryz.ntmps85
    go_wp2_with fail
    go_quiet (fail)
    go_wp2
    go_ret
    exact ⟨by simp [e1], _, rfl⟩
section
variable {K K' : Nat → Nat} {w w' : World} {B t p : Nat} {c : Cf} {oa : Option Addr} {cap : Nat} {next now : Int} {L : List Wt} {D : List Oc} {vw vd : Value} {q : Mq}
set_option maxRecDepth 8000 in
set_option maxHeartbeats 4000000 in
theorem PC.index_any (h : PC K w B t p c oa cap next now L D vw vd q) (rb sb : Nat) (m src : Int) (hr : w.cell? ⟨rb, 0, none⟩ = some (.int .i64 m)) (hs : w.cell? ⟨sb, 0, none⟩ = some (.int .i64 src)) (hL : L.length ≤ 100000000) :
    Calls Tryz.prog 84 #[vw, .func (.func 85) #[] #[ptr rb, ptr sb]] w fun e w' => (∃ k, w' = w.drewN k) ∧ ((∃ A x R, L = A ++ x :: R ∧ e = .returned (.int .i64 (A.length : Int)) ∧ hitW m src x = true ∧ ∀ y ∈ A, hitW m src y = false) ∨ (e = .returned (.int .i64 (-1)) ∧ ∀ y ∈ L, hitW m src y = false)) := by
  obtain ⟨o14, c14', ew, _, hg⟩ := h.wr.form
  rw [List.length_map] at ew hg
  subst ew
  obtain ⟨n, hn⟩ : ∃ n, L.length = n := ⟨_, rfl⟩
  have HH : Hid (PC K w B t p c oa cap next now L D (.slice o14 n c14') vd q ∧ w.cell? ⟨rb, 0, none⟩ = some (.int .i64 m) ∧ w.cell? ⟨sb, 0, none⟩ = some (.int .i64 src) ∧ n ≤ 100000000) := ⟨by rw [← hn]; exact h, hr, hs, by omega⟩
  have HG := hid hg
  have HN := hid hn
  rw [hn]
  clear h hr hs hg hn hL
  go_enter Tryz.func84, Tryz.ntmps84
  go_wp2_with fail
  go_loopw [8] (fun u8 wr => ∃ (A R : List Wt) (j : Nat), u8 = .int .i64 (j : Int) ∧ j ≤ n ∧ Hid (A.length = j ∧ A ++ R = L ∧ (∀ y ∈ A, hitW m src y = false) ∧ ∃ k, wr = w.drewN k)) (fun u8 _ => n - (intOf u8).toNat)
  case atStart => exact ⟨[], L, 0, rfl, by omega, rfl, rfl, by simp, 0, rfl⟩
  case round =>
    obtain ⟨A, R, j, rfl, hjn, HR⟩ := hrel
    obtain ⟨wo, hwo⟩ : ∃ yy, yy = wr := ⟨_, rfl⟩
    subst hwo
    obtain ⟨hjA, hAR, hall, k, hk⟩ := HR.out
    have hle : A.length + R.length = n := by rw [← HN.out, ← hAR]; simp
    cases R with
    | nil =>
      have hj : j = n := by simp at hle; omega
      subst hj
      have HF : Hid ((∃ k, wo = w.drewN k) ∧ ∀ y ∈ L, hitW m src y = false) := ⟨⟨k, hk⟩, by rw [← hAR, List.append_nil]; exact hall⟩
      clear hjA hAR hall hk hle HR HH HG
      go_wp2
      go_ret
      exact ⟨HF.out.1, .inr ⟨rfl, HF.out.2⟩⟩
    | cons x R =>
      have hjl : j < n := by simp at hle; omega
      have hji : (j : Int) < (n : Int) := by omega
      obtain ⟨g, rfl⟩ := HG.out (by rw [HN.out]; omega)
      obtain ⟨P, hr, hs, hnb⟩ := HH.out
      have hx := P.cs x (by rw [← hAR]; simp)
      have xg : wo.cell? ⟨g, j, none⟩ = some (ptr x.b) := by
        have := P.wr.cell ptrL (by rw [List.length_map]; exact HN.out) (j := j) (x := x.b) (by rw [← hAR, List.map_append, List.getElem?_append_right (by simp; omega)]; simp [hjA]) 0 (by omega)
        rw [hk]
        show w.cell? _ = _
        simpa [ptrC] using this
      have HC := hid (hit_any x.b rb sb x.seq x.dst m src wo (by rw [hk]; exact cell_at (w := w) hx.me.at_ rfl) (by rw [hk]; exact cell_at (w := w) hx.me.at_ rfl) (by rw [hk]; exact hr) (by rw [hk]; exact hs))
      obtain ⟨bd, hbd⟩ : ∃ bd, (decide (x.seq = m) && decide (x.dst = src)) = bd := ⟨_, rfl⟩
      rw [hbd] at HC
      have hj1 : wrap64 ((j : Int) + 1) = (j : Int) + 1 := wrapS (by omega)
      have HD : Hid (hitW m src x = bd ∧ A.length = j ∧ A ++ x :: R = L ∧ (∀ y ∈ A, hitW m src y = false) ∧ wo = w.drewN k) := ⟨hbd, hjA, hAR, hall, hk⟩
      clear hjA hAR hall hk hle HR HH HG P hr hs hnb hx hbd HN
      go_wp2_with fail
      refine HC.out.mono ?_
      rintro _ w1 ⟨rfl, k1, hk1⟩
      have HW : Hid (∃ k, w1 = w.drewN k) := ⟨k + k1, by
        rw [hk1, HD.out.2.2.2.2]
        simp [World.drewN, Nat.add_assoc]⟩
      clear HC hk1
      cases bd
      · go_wp2
        go_roundw
        case rel => exact ⟨A ++ [x], R, j + 1, by rw [hj1]; simp, by omega, by have := HD.out.2.1; simp; omega, by rw [List.append_assoc]; exact HD.out.2.2.1, fun y hy => by
            rcases List.mem_append.1 hy with e | e
            · exact HD.out.2.2.2.1 y e
            · simp at e; rw [e]; exact HD.out.1, HW.out⟩
        case measure => exact meas hj1 hji
      · go_wp2
        go_ret
        exact ⟨HW.out, .inl ⟨A, x, R, HD.out.2.2.1.symm, by rw [HD.out.2.1]; rfl, HD.out.1, HD.out.2.2.2.1⟩⟩
end
end Go.Proofs.YtfcbjcebkahehaaGreatDoor.Cl
