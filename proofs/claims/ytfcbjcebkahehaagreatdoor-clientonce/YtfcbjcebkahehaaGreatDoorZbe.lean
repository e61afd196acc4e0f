/- message: the table of a reply's end. message: PrintCall. -/
import Derived.Test.YtfcbjcebkahehaaGreatDoorMo
import Derived.StillTailTactics
import Derived.Test.YtfcbjcebkahehaaGreatDoorZbd
namespace Go.Proofs.YtfcbjcebkahehaaGreatDoor
open Go.RowKit
set_option maxRecDepth 8000 in
set_option maxHeartbeats 4000000 in
theorem replyEnd_den (b : Nat) (j : Int) (w : World) (h : w.cell? ⟨b, 1, none⟩ = some (.bool true)) (hj : w.cell? ⟨b, 5, none⟩ = some (.int .i64 j)) : Calls Tryz.prog 80 #[.pointer (some ⟨b, 0, none⟩)] w (Makes b (endR (j == 0) (j == 1) false) w) := by
  by_cases h0 : j = 0
  · subst h0
    go_enter Tryz.func80, Tryz.ntmps80
    go_wp2_with fail
    go_still_tail 28, (by kernel_rfl)
    go_wp2
    go_ret
    exact Makes.of (b := b) (tab := endR true false false) 1
  · have e0 : (j == 0) = false := beq_eq_false_iff_ne.2 h0
    rw [e0]
    generalize hz : (j == 1) = z
    go_enter Tryz.func80, Tryz.ntmps80
    go_wp2_with fail
    go_still_tail 28, (by kernel_rfl)
    go_wp2
    go_ret
    exact Makes.of (b := b) (tab := endR false z false) 1
set_option maxRecDepth 8000 in
set_option maxHeartbeats 4000000 in
theorem replyEnd_acc (b : Nat) (a : Int) (w : World) (h : w.cell? ⟨b, 1, none⟩ = some (.bool false)) (hj : w.cell? ⟨b, 4, none⟩ = some (.int .i64 a)) : Calls Tryz.prog 80 #[.pointer (some ⟨b, 0, none⟩)] w (Makes b (endR (a == 2) false (a == 0)) w) := by
  generalize hz : (a == 0) = z
  generalize hy : (a == 2) = y
  go_enter Tryz.func80, Tryz.ntmps80
  go_wp2_with fail
  go_still_tail 28, (by kernel_rfl)
  go_wp2
  go_ret
  exact Makes.of (b := b) (tab := endR y false z) 1
end Go.Proofs.YtfcbjcebkahehaaGreatDoor
namespace Go.Proofs.YtfcbjcebkahehaaGreatDoor
open Go.RowKit
theorem WrK.new (F : Nat → Prop) (m : Int) (w w' : World) (hm : 0 ≤ m) (h : w' = w.alloc (.cells #[.int .i64 m, .slice none 0 0, .nilIface] 181)) : WrK F w' w.heap.size m True [] := by
  subst h
  have h := PW.new m w
  rw [show max m 0 = m by omega] at h
  exact ⟨_, _, _, h, hm, by simp, fun _ => rfl, fun b e => by simp [Value.ownBlock] at e⟩
/-- how long it is, as far as it may be -/
def Room (r : List (Prop × List UInt8)) (n : Nat) : Prop := ∀ j, allA (r.take j) → (allL (r.take j)).length ≤ n
theorem Room.nil : Room [] 0 := fun j _ => by simp [allL]
theorem Room.cons {A : Prop} {x : List UInt8} {r : List (Prop × List UInt8)} {n m : Nat} (h : A → x.length ≤ n) (hr : Room r m) : Room ((A, x) :: r) (n + m) := fun j hj => by
  cases j with
  | zero => simp [allL]
  | succ j =>
    have h1 := h hj.1
    have h2 := hr j hj.2
    simp only [List.take_succ_cons, allL, List.length_append]
    omega
theorem Room.full {r : List (Prop × List UInt8)} {n : Nat} (h : Room r n) (ha : allA r) : (allL r).length ≤ n := by
  have := h r.length
  rw [List.take_length] at this
  exact this ha
theorem word_room (n : Int) : isW n → (nbL 4 n.toNat).length ≤ 4 := fun _ => by rw [nbL_len]; exact Nat.le_refl _
theorem sign_room (n : Nat) : True → (nbL 4 n).length ≤ 4 := fun _ => by rw [nbL_len]; exact Nat.le_refl _
theorem none_room (A : Prop) : A → ([] : List UInt8).length ≤ 0 := fun _ => Nat.le_refl _
theorem small_room (n m : Int) : (0 ≤ n ∧ n ≤ m) → (nbL 4 n.toNat).length ≤ 4 := fun _ => by rw [nbL_len]; exact Nat.le_refl _
theorem body_room (s : List UInt8) : ((s.length : Nat) : Int) ≤ 400 → (nbL 4 s.length ++ (s ++ padB s.length)).length ≤ 404 := fun h => by
  simp only [List.length_append, nbL_len, padB_len]
  unfold pads
  omega
theorem tail_room (s : List UInt8) : plainB s → s.length ≤ 1000 := fun h => h.1
set_option maxRecDepth 4000 in
theorem printed_ok (F : Nat → Prop) (p : Nat) (M : Int) (P : Prop) (l : List UInt8) (w : World) (h : WrK F w p M P l) (hT : ErrT w) (hP : P) :
    Calls Tryz.prog 81 #[.pointer (some ⟨p, 0, none⟩)] w fun e w' => e = .returned (.tuple #[.string ⟨l.toArray⟩, .int .i64 0]) ∧ Below w.heap.size w w' := by
  have H := hid (w_done_ok p M P l w h.toP hT hP)
  clear h hT hP
  go_enter Tryz.func81, Tryz.ntmps81
  go_wp2_with fail
  refine H.out.mono ?_
  rintro e w1 ⟨rfl, hB⟩
  have HB := hid hB
  clear hB
  go_wp2
  refine bodyPost_ret (v := .tuple #[.string ⟨l.toArray⟩, .int .i64 0]) (by simp [results, Tryz.results81, go_sem]) rfl ⟨rfl, HB.out⟩
set_option maxRecDepth 4000 in
theorem printed_bad (F : Nat → Prop) (p : Nat) (M : Int) (P : Prop) (l : List UInt8) (w : World) (h : WrK F w p M P l) (hT : ErrT w) (hP : ¬ P) :
    Calls Tryz.prog 81 #[.pointer (some ⟨p, 0, none⟩)] w fun e w' => e = .returned (.tuple #[.string ⟨#[]⟩, .int .i64 120]) ∧ Below w.heap.size w w' := by
  have H := hid (w_done_bad p M P l w h.toP hT hP)
  clear h hT hP
  go_enter Tryz.func81, Tryz.ntmps81
  go_wp2_with fail
  refine H.out.mono ?_
  rintro e w1 ⟨⟨E, hE, rfl⟩, hB⟩
  have HB := hid hB
  have hE2 : (E != 0) = true := bne_iff_ne.2 hE
  clear hB
  go_wp2
  refine bodyPost_ret (v := .tuple #[.string ⟨#[]⟩, .int .i64 120]) (by simp [results, Tryz.results81, go_sem]) rfl ⟨rfl, HB.out⟩
/-- what is printed: bytes, or that it may not be -/
def prM (P : Prop) [Decidable P] (l : List UInt8) : List UInt8 × Int := if P then (l, 0) else ([], 120)
theorem printed_any (F : Nat → Prop) (p : Nat) (M : Int) (P Q : Prop) [Decidable Q] (l m : List UInt8) (w : World) (h : WrK F w p M P l) (hT : ErrT w) (hQ : Q ↔ P) (hl : P → l = m) :
    Calls Tryz.prog 81 #[.pointer (some ⟨p, 0, none⟩)] w fun e w' => e = .returned (.tuple #[.string ⟨(prM Q m).1.toArray⟩, .int .i64 (prM Q m).2]) ∧ Below w.heap.size w w' := by
  unfold prM
  by_cases hq : Q
  · rw [if_pos hq, ← hl (hQ.1 hq)]
    exact printed_ok F p M P l w h hT (hQ.1 hq)
  · rw [if_neg hq]
    exact printed_bad F p M P l w h hT (fun x => hq (hQ.2 x))
/-- a table more is laid down: from one Writer to the next -/
structure WS (w0 w : World) (b p : Nat) (cs : List Value) (t : TypeId) (M : Int) (P : Prop) (l : List UInt8) : Prop where
  wr : WrK (fun k => k < p) w p M P l
  k : Bk w b cs t
  low : Below p w0 w
  bp : b < p
theorem WS.lays {w0 w w1 : World} {b p : Nat} {cs : List Value} {t : TypeId} {M : Int} {P : Prop} {l : List UInt8} {tab : List (Bool × Fd)} {ats : List (Prop × List UInt8)} {n : Nat} (h : WS w0 w b p cs t M P l) (hT : Tab cs tab ats)
    (hq : Bk w1 w.heap.size (rowsV b tab) 185) (hB : Below w.heap.size w w1) (hz : w1.heap.size = w.heap.size + 1) (hn : tab.length ≤ 100) (hM0 : 0 ≤ M) (hM1 : M ≤ 2147483647) (hR : Room ats n) (hr : P → (l.length : Int) + n ≤ M) :
    Calls Tryz.prog 77 #[.pointer (some ⟨p, 0, none⟩), .slice (some ⟨w.heap.size, 0, none⟩) tab.length tab.length] w1 fun e w' => e = .returned (.tuple #[]) ∧ WS w0 w' b p cs t M (P ∧ allA ats) (l ++ allL ats) := by
  have hp := h.wr.lt
  have h1 : WrK (fun k => k < p ∨ k = w.heap.size) w1 p M P l := h.wr.more hB fun k hk => hk.imp id fun e => by omega
  have hF : Ok (fun k => k < p ∨ k = w.heap.size) w1 p := fun k hk => hk.elim (fun e => ⟨by omega, by omega⟩) fun e => ⟨by omega, by omega⟩
  refine (layRows_any _ b p w.heap.size tab ats cs t _ M P l w1 hT h1 hF (h.k.below hB h.k.lt) (.inl h.bp) hq (.inr rfl) hn hM0 hM1 (fun j q a => by have := hr q; have := hR j a; omega)).mono fun e w' hp => ⟨hp.1, ?_⟩
  have hpz := h.wr.lt
  exact ⟨hp.2.1.less fun k hk => .inl hk, (h.k.below hB h.k.lt).of (hp.2.2.block b (.inl h.bp)), (h.low.trans (hB.mono (by omega))).trans (hp.2.2.below fun k hk => .inl hk), h.bp⟩
end Go.Proofs.YtfcbjcebkahehaaGreatDoor
