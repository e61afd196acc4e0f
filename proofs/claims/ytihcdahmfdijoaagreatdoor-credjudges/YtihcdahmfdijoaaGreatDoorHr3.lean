/- The program's Reader in memory: note, any, take. The program's Reader: its calls. The program's Reader: more of its calls. The program's Reader: Int, Hyper. The program's Reader: Bool, numbers with a point. -/
import Derived.Test.YtihcdahmfdijoaaGreatDoorHr2
namespace Go.Proofs.YtihcdahmfdijoaaGreatDoor
open Go.RowKit
theorem eql_iface_rd (v : Value) (w : World) : (binOp .eql 77 (.iface 111 v) .nilIface).run Tryz.prog w = .ok (.bool false) w := by kernel_rfl
theorem neq_iface_rd (v : Value) (w : World) : (binOp .neq 77 (.iface 111 v) .nilIface).run Tryz.prog w = .ok (.bool true) w := by kernel_rfl

theorem faultOf_zero_rd (w : World) : Calls Tryz.prog 73 #[.int .i64 0] w fun e w' => e = .returned (trW 0) ∧ w' = w := by
  go_enter Tryz.func73, Tryz.ntmps73
  go_wp2
  go_ret
  exact ⟨rfl, rfl⟩
theorem faultOf_other_rd (e : Int) (w : World) (h : e ≠ 0) : Calls Tryz.prog 73 #[.int .i64 e] w fun r w' => r = .returned (trW e) ∧ w' = w := by
  have hb : (e == 0) = false := beq_eq_false_iff_ne.2 h
  have hT : Hid (trW e = .iface 111 (.agg #[.int .i64 e])) := by show trW e = _; unfold trW; rw [if_neg h]
  clear h
  rw [hT.out]
  go_enter Tryz.func73, Tryz.ntmps73
  go_wp2
  go_ret
  exact ⟨rfl, rfl⟩
theorem faultOf_any_rd (e : Int) (w : World) : Calls Tryz.prog 73 #[.int .i64 e] w fun r w' => r = .returned (trW e) ∧ w' = w := by
  by_cases h : e = 0
  · subst h; exact faultOf_zero_rd w
  · exact faultOf_other_rd e w h

theorem note_nil_rd (tp : Addr) (w : World) (hc : w.cell? tp = some .nilIface) (hf : w.frozen? tp = false) :
    Calls Tryz.prog 72 #[.pointer (some tp), .nilIface] w fun r w' => r = .returned (.tuple #[]) ∧ w' = w.setCell tp .nilIface := by
  go_enter Tryz.func72, Tryz.ntmps72
  go_wp2
  first | go_end0 | refine bodyPost_ret (results_none rfl _ _ _) rfl ?_
  exact ⟨rfl, rfl⟩
theorem note_fault_rd (tp : Addr) (x : Int) (w : World) (hc : w.cell? tp = some .nilIface) (hf : w.frozen? tp = false) :
    Calls Tryz.prog 72 #[.pointer (some tp), .iface 111 (.agg #[.int .i64 x])] w fun r w' => r = .returned (.tuple #[]) ∧ w' = w.setCell tp (.iface 111 (.agg #[.int .i64 x])) := by
  go_enter Tryz.func72, Tryz.ntmps72
  go_wp2
  first | go_end0 | refine bodyPost_ret (results_none rfl _ _ _) rfl ?_
  exact ⟨rfl, rfl⟩
theorem note_first_rd (tp : Addr) (e : Int) (w : World) (hc : w.cell? tp = some (trW 0)) (hf : w.frozen? tp = false) :
    Calls Tryz.prog 72 #[.pointer (some tp), trW e] w fun r w' => r = .returned (.tuple #[]) ∧ w' = w.setCell tp (trW e) := by
  have hc2 : w.cell? tp = some .nilIface := hc
  unfold trW
  by_cases h : e = 0
  · rw [if_pos h]; exact note_nil_rd tp w hc2 hf
  · rw [if_neg h]; exact note_fault_rd tp e w hc2 hf
theorem note_later_rd (tp : Addr) (v x : Value) (w : World) (hc : w.cell? tp = some (.iface 111 x)) :
    Calls Tryz.prog 72 #[.pointer (some tp), v] w fun r w' => r = .returned (.tuple #[]) ∧ w' = w := by
  have q := eql_iface_rd x
  go_enter Tryz.func72, Tryz.ntmps72
  go_wp2
  first | go_end0 | refine bodyPost_ret (results_none rfl _ _ _) rfl ?_
  exact ⟨rfl, rfl⟩
theorem any_no_rd (tp : Addr) (w : World) (hc : w.cell? tp = some .nilIface) : Calls Tryz.prog 42 #[.pointer (some tp)] w fun r w' => r = .returned (.bool false) ∧ w' = w := by
  go_enter Tryz.func42, Tryz.ntmps42
  go_wp2
  go_ret
  exact ⟨rfl, rfl⟩
theorem any_yes_rd (tp : Addr) (x : Value) (w : World) (hc : w.cell? tp = some (.iface 111 x)) : Calls Tryz.prog 42 #[.pointer (some tp)] w fun r w' => r = .returned (.bool true) ∧ w' = w := by
  have q := neq_iface_rd x
  go_enter Tryz.func42, Tryz.ntmps42
  go_wp2
  go_ret
  exact ⟨rfl, rfl⟩
theorem any_any_rd (tp : Addr) (e : Int) (w : World) (hc : w.cell? tp = some (trW e)) : Calls Tryz.prog 42 #[.pointer (some tp)] w fun r w' => r = .returned (.bool (e != 0)) ∧ w' = w := by
  unfold trW at hc
  by_cases h : e = 0
  · rw [if_pos h] at hc; subst h; exact any_no_rd tp w hc
  · rw [if_neg h] at hc
    have : (e != 0) = true := by rw [bne_iff_ne]; exact h
    rw [this]; exact any_yes_rd tp _ w hc

set_option maxHeartbeats 1000000 in

structure Sole (p : Nat) (w w' : World) : Prop where
  os : w'.os = w.os
  tape : w'.tape = w.tape
  output : w'.output = w.output
  size : w.heap.size ≤ w'.heap.size
  block : ∀ b, b < w.heap.size → b ≠ p → w'.heap[b]? = w.heap[b]?

theorem Sole.refl (p : Nat) (w : World) : Sole p w w := ⟨rfl, rfl, rfl, Nat.le_refl _, fun _ _ _ => rfl⟩
theorem Sole.trans {p : Nat} {a b c : World} (h : Sole p a b) (k : Sole p b c) : Sole p a c :=
  ⟨k.os.trans h.os, k.tape.trans h.tape, k.output.trans h.output, Nat.le_trans h.size k.size, fun i hi hp => (k.block i (Nat.lt_of_lt_of_le hi h.size) hp).trans (h.block i hi hp)⟩
theorem Sole.of_below {p : Nat} {a b : World} (h : Below a.heap.size a b) : Sole p a b := ⟨h.os, h.tape, h.output, h.size, fun i hi _ => h.block i hi⟩
theorem Sole.drewN (p : Nat) (w : World) (k : Nat) : Sole p w (w.drewN k) := Sole.of_below (below_drew (Below.refl _ _) k)
theorem Sole.setCell {p : Nat} (w : World) (o : Nat) (v : Value) : Sole p w (w.setCell ⟨p, o, none⟩ v) :=
  ⟨rfl, rfl, rfl, by simp [World.setCell], fun b _ hb => Below.heap_setCell _ _ _ _ hb⟩

/-- A Reader of the program's: what is left, what was wrong first. -/
structure RR (w : World) (p : Nat) (l : List UInt8) (E : Int) : Prop where
  l : w.cell? ⟨p, 0, none⟩ = some (Bs l)
  e : w.cell? ⟨p, 1, none⟩ = some (trW E)
  f0 : w.frozen? ⟨p, 0, none⟩ = false
  f1 : w.frozen? ⟨p, 1, none⟩ = false

theorem RR.setE {w : World} {p : Nat} {l : List UInt8} {E : Int} (h : RR w p l E) (F : Int) : RR (w.setCell ⟨p, 1, none⟩ (trW F)) p l F :=
  ⟨by rw [World.cell?_setCell_other _ _ _ _ (by simp)]; exact h.l, World.cell?_setCell_same _ _ _ h.e, by rw [World.frozen?_setCell]; exact h.f0, by rw [World.frozen?_setCell]; exact h.f1⟩
theorem RR.setL {w : World} {p : Nat} {l : List UInt8} {E : Int} (h : RR w p l E) (m : List UInt8) : RR (w.setCell ⟨p, 0, none⟩ (Bs m)) p m E :=
  ⟨World.cell?_setCell_same _ _ _ h.l, by rw [World.cell?_setCell_other _ _ _ _ (by simp)]; exact h.e, by rw [World.frozen?_setCell]; exact h.f0, by rw [World.frozen?_setCell]; exact h.f1⟩

theorem trW_ne {e : Int} (h : e ≠ 0) : trW e = .iface 111 (.agg #[.int .i64 e]) := by unfold trW; rw [if_neg h]

/-- something was wrong already -/
theorem take_was (p : Nat) (n E : Int) (l : List UInt8) (v : Value) (w : World) (h : RR w p l E) (hE : E ≠ 0) :
    Calls Tryz.prog 62 #[.pointer (some ⟨p, 0, none⟩), .int .i64 n, v] w fun e w' => e = .returned (.bool false) ∧ w' = w := by
  have he := h.e
  rw [trW_ne hE] at he
  have H1 : Hid (Calls Tryz.prog 72 #[.pointer (some ⟨p, 1, none⟩), v] w fun r w' => r = .returned (.tuple #[]) ∧ w' = w) := note_later_rd ⟨p, 1, none⟩ v _ w he
  have H2 : Hid (Calls Tryz.prog 42 #[.pointer (some ⟨p, 1, none⟩)] w fun r w' => r = .returned (.bool true) ∧ w' = w) := any_yes_rd ⟨p, 1, none⟩ _ w he
  clear h he hE
  go_enter Tryz.func62, Tryz.ntmps62
  go_wp2_with fail
  refine H1.out.mono ?_
  rintro e w1 ⟨rfl, hw⟩
  have hw1 := hw.symm
  clear hw
  subst hw1
  go_wp2_with fail
  refine H2.out.mono ?_
  rintro e w1 ⟨rfl, hw⟩
  have hw1 := hw.symm
  clear hw
  subst hw1
  go_wp2
  go_ret
  exact ⟨rfl, rfl⟩

/-- it goes wrong -/
theorem take_wrong (p : Nat) (n F : Int) (l : List UInt8) (w : World) (h : RR w p l 0) (hF : F ≠ 0) :
    Calls Tryz.prog 62 #[.pointer (some ⟨p, 0, none⟩), .int .i64 n, trW F] w fun e w' => e = .returned (.bool false) ∧ w' = w.setCell ⟨p, 1, none⟩ (trW F) := by
  have H1 : Hid (Calls Tryz.prog 72 #[.pointer (some ⟨p, 1, none⟩), trW F] w fun r w' => r = .returned (.tuple #[]) ∧ w' = w.setCell ⟨p, 1, none⟩ (trW F)) := note_first_rd ⟨p, 1, none⟩ F w h.e h.f1
  have H2 : Hid (Calls Tryz.prog 42 #[.pointer (some ⟨p, 1, none⟩)] (w.setCell ⟨p, 1, none⟩ (trW F)) fun r w' => r = .returned (.bool true) ∧ w' = w.setCell ⟨p, 1, none⟩ (trW F)) := by
    have he := (h.setE F).e
    have := any_any_rd ⟨p, 1, none⟩ F _ he
    rwa [show (F != 0) = true from bne_iff_ne.2 hF] at this
  obtain ⟨V, hV⟩ : ∃ V, trW F = V := ⟨_, rfl⟩
  rw [hV] at H1 H2 ⊢
  clear h hF hV
  go_enter Tryz.func62, Tryz.ntmps62
  go_wp2_with fail
  refine H1.out.mono ?_
  rintro e w1 ⟨rfl, hw⟩
  subst hw
  go_wp2_with fail
  refine H2.out.mono ?_
  rintro e w1 ⟨rfl, hw⟩
  subst hw
  go_wp2
  go_ret
  exact ⟨rfl, rfl⟩

/-- nothing is wrong -/
theorem take_ok (p n : Nat) (l : List UInt8) (w : World) (h : RR w p l 0) (hn : n ≤ l.length) :
    Calls Tryz.prog 62 #[.pointer (some ⟨p, 0, none⟩), .int .i64 n, .nilIface] w fun e w' => e = .returned (.bool true) ∧ RR w' p (l.drop n) 0 ∧ Sole p w w' := by
  have h1 : w.cell? ⟨p, 1, none⟩ = some .nilIface := h.e
  have H1 : Hid (Calls Tryz.prog 72 #[.pointer (some ⟨p, 1, none⟩), .nilIface] w fun r w' => r = .returned (.tuple #[]) ∧ w' = w.setCell ⟨p, 1, none⟩ .nilIface) := note_nil_rd ⟨p, 1, none⟩ w h1 h.f1
  have H2 : Hid (Calls Tryz.prog 42 #[.pointer (some ⟨p, 1, none⟩)] (w.setCell ⟨p, 1, none⟩ .nilIface) fun r w' => r = .returned (.bool false) ∧ w' = w.setCell ⟨p, 1, none⟩ .nilIface) := any_no_rd ⟨p, 1, none⟩ _ (World.cell?_setCell_same _ _ _ h1)
  have HS : RR (w.setCell ⟨p, 1, none⟩ .nilIface) p l 0 := h.setE 0
  have HP : Hid (RR ((w.setCell ⟨p, 1, none⟩ .nilIface).setCell ⟨p, 0, none⟩ (.string ((⟨l.toArray⟩ : ByteArray).extract n l.length))) p (l.drop n) 0) := by
    show RR _ _ _ _
    rw [Bs_from]; exact HS.setL _
  have h0 : w.cell? ⟨p, 0, none⟩ = some (.string ⟨l.toArray⟩) := h.l
  have h2 := h.f0
  have hn' : (n : Int) ≤ l.length := by omega
  clear h HS
  go_enter Tryz.func62, Tryz.ntmps62
  go_wp2_with fail
  refine H1.out.mono ?_
  rintro e w1 ⟨rfl, hw⟩
  subst hw
  go_wp2_with fail
  refine H2.out.mono ?_
  rintro e w1 ⟨rfl, hw⟩
  subst hw
  go_wp2
  go_ret
  exact ⟨rfl, HP.out, (Sole.setCell w 1 _).trans (Sole.setCell _ 0 _)⟩

end Go.Proofs.YtihcdahmfdijoaaGreatDoor
namespace Go.Proofs.YtihcdahmfdijoaaGreatDoor
open Go.RowKit
theorem RR.lt {w : World} {p : Nat} {l : List UInt8} {E : Int} (h : RR w p l E) : p < w.heap.size := by
  rcases Nat.lt_or_ge p w.heap.size with h1 | h1
  · exact h1
  · have := h.l
    simp [World.cell?, Array.getElem?_eq_none h1] at this

theorem cells_same {w w' : World} {b : Nat} (h : w'.heap[b]? = w.heap[b]?) (o : Nat) : w'.cell? ⟨b, o, none⟩ = w.cell? ⟨b, o, none⟩ ∧ w'.frozen? ⟨b, o, none⟩ = w.frozen? ⟨b, o, none⟩ := by
  constructor
  · simp only [World.cell?, h]
  · simp only [World.frozen?, h]

theorem RR.below {w w' : World} {p : Nat} {l : List UInt8} {E : Int} (h : RR w p l E) (hB : Below w.heap.size w w') : RR w' p l E := by
  have hb := hB.block p h.lt
  exact ⟨(cells_same hb 0).1.trans h.l, (cells_same hb 1).1.trans h.e, (cells_same hb 0).2.trans h.f0, (cells_same hb 1).2.trans h.f1⟩

/-- the end of every reading -/
theorem take_any (p : Nat) (n E F : Int) (l : List UInt8) (w : World) (b : Bool) (h : RR w p l E) (hb : decide (E = 0 ∧ F = 0) = b) (hn : b = true → 0 ≤ n ∧ n ≤ l.length) :
    Calls Tryz.prog 62 #[.pointer (some ⟨p, 0, none⟩), .int .i64 n, trW F] w fun e w' => e = .returned (.bool b) ∧ RR w' p (if b then l.drop n.toNat else l) (if E = 0 then F else E) ∧ Sole p w w' := by
  cases b with
  | true =>
    obtain ⟨rfl, rfl⟩ := of_decide_eq_true hb
    obtain ⟨h0, h1⟩ := hn rfl
    obtain ⟨m, rfl⟩ : ∃ m : Nat, n = m := ⟨n.toNat, by omega⟩
    rw [Int.toNat_natCast]
    exact take_ok p m l w h (by omega)
  | false =>
    have hb2 := of_decide_eq_false hb
    by_cases hE : E = 0
    · subst hE
      have hF : F ≠ 0 := fun e => hb2 ⟨rfl, e⟩
      refine (take_wrong p n F l w h hF).mono ?_
      rintro e w' ⟨rfl, rfl⟩
      exact ⟨rfl, h.setE F, Sole.setCell w 1 _⟩
    · rw [if_neg hE]
      refine (take_was p n E l _ w h hE).mono ?_
      rintro e w' ⟨rfl, rfl⟩
      exact ⟨rfl, h, Sole.refl _ _⟩

/-- what a call answers, and what stands behind it -/
def RPost {α : Type} (p : Nat) (l : List UInt8) (E : Int) (d : α) (f : List UInt8 → Rd α) (v : α → Value) (w : World) (e : Ending) (w' : World) : Prop :=
  e = .returned (v ((⟨l, E⟩ : Rs).go d f).1) ∧ RR w' p ((⟨l, E⟩ : Rs).go d f).2.l ((⟨l, E⟩ : Rs).go d f).2.e ∧ Sole p w w'

theorem go_case {α : Type} (l : List UInt8) (E : Int) (d : α) (f : List UInt8 → Rd α) : (⟨l, E⟩ : Rs).go d f = if decide (E = 0 ∧ (f l).wrong = 0) = true then ((f l).val, ⟨l.drop (f l).size, if E = 0 then (f l).wrong else E⟩) else (d, ⟨l, if E = 0 then (f l).wrong else E⟩) := by
  unfold Rs.go
  by_cases hE : E = 0
  · subst hE
    by_cases hF : (f l).wrong = 0
    · simp [hF]
    · simp [hF]
  · simp [hE]

theorem rdWord_size (l : List UInt8) : (rdWord l).size = 4 ∧ ((rdWord l).wrong = 0 → 4 ≤ l.length) ∧ (rdWord l).val < 4294967296 := by
  refine ⟨by unfold rdWord; split <;> rfl, fun h => ?_, ?_⟩
  · have := (one_word l h).1
    rwa [show (rdWord l).size = 4 by unfold rdWord; split <;> rfl] at this
  · by_cases h : (rdWord l).wrong = 0
    · exact (one_word l h).2.2
    · unfold rdWord at h ⊢
      split at h
      · rename_i h2; rw [if_pos h2]; decide
      · exact absurd rfl h

set_option maxRecDepth 4000 in
theorem ruint_any (p : Nat) (l : List UInt8) (E : Int) (w : World) (h : RR w p l E) : Calls Tryz.prog 39 #[.pointer (some ⟨p, 0, none⟩)] w (RPost p l E 0 rdWord (fun n => .int .i64 (n : Int)) w) := by
  unfold RPost
  rw [go_case]
  obtain ⟨hs, hle, hlt⟩ := rdWord_size l
  obtain ⟨b, hb⟩ : ∃ b, decide (E = 0 ∧ (rdWord l).wrong = 0) = b := ⟨_, rfl⟩
  have H1 : Hid (Calls Tryz.prog 61 #[.string ⟨l.toArray⟩] w fun e w' => e = .returned (.tuple #[.int .u32 (rdWord l).val, trW (rdWord l).wrong]) ∧ Below w.heap.size w w') := frontWord_any l w
  have H2 : Hid (∀ w1, Below w.heap.size w w1 → Calls Tryz.prog 62 #[.pointer (some ⟨p, 0, none⟩), .int .i64 4, trW (rdWord l).wrong] w1 fun e w' => e = .returned (.bool b) ∧ RR w' p (if b then l.drop 4 else l) (if E = 0 then (rdWord l).wrong else E) ∧ Sole p w w') := fun w1 hB =>
    (take_any p 4 E _ l w1 b (h.below hB) hb (fun e => by
      subst e
      have := hle (of_decide_eq_true hb).2
      omega)).mono fun e w' hp => ⟨hp.1, hp.2.1, (Sole.of_below hB).trans hp.2.2⟩
  rw [hb, hs]
  have h0 : w.cell? ⟨p, 0, none⟩ = some (.string ⟨l.toArray⟩) := h.l
  obtain ⟨V, hV⟩ : ∃ V, trW (rdWord l).wrong = V := ⟨_, rfl⟩
  rw [hV] at H1 H2
  generalize (if E = 0 then (rdWord l).wrong else E) = E2 at *
  generalize (rdWord l).val = n at *
  have hn0 : 0 ≤ (n : Int) := by omega
  have hn1 : (n : Int) < 4294967296 := by omega
  clear h hs hle hlt hb hV
  cases b
  · obtain ⟨L, hL⟩ : ∃ L, l = L := ⟨_, rfl⟩
    have H3 : Hid (∀ w1, Below w.heap.size w w1 → Calls Tryz.prog 62 #[.pointer (some ⟨p, 0, none⟩), .int .i64 4, V] w1 fun e w' => e = .returned (.bool false) ∧ RR w' p L E2 ∧ Sole p w w') := by rw [← hL]; exact H2.out
    show Calls Tryz.prog 39 _ w fun e w' => e = .returned (.int .i64 0) ∧ RR w' p l E2 ∧ Sole p w w'
    have HL : Hid (l = L) := hL
    suffices hh : Calls Tryz.prog 39 #[.pointer (some ⟨p, 0, none⟩)] w fun e w' => e = .returned (.int .i64 0) ∧ RR w' p L E2 ∧ Sole p w w' by rw [← HL.out] at hh; exact hh
    clear H2 hL HL
    go_enter Tryz.func39, Tryz.ntmps39
    go_wp2_with fail
    refine H1.out.mono ?_
    rintro e w1 ⟨rfl, hB⟩
    have HB : Hid (Below w.heap.size w w1) := hB
    clear hB
    go_wp2_with fail
    refine (H3.out _ HB.out).mono ?_
    rintro e w2 ⟨rfl, hR, hS⟩
    have HR : Hid (RR w2 p L E2 ∧ Sole p w w2) := ⟨hR, hS⟩
    clear hR hS
    go_wp2
    go_ret
    exact ⟨rfl, HR.out.1, HR.out.2⟩
  · obtain ⟨L, hL⟩ : ∃ L, l.drop 4 = L := ⟨_, rfl⟩
    have H3 : Hid (∀ w1, Below w.heap.size w w1 → Calls Tryz.prog 62 #[.pointer (some ⟨p, 0, none⟩), .int .i64 4, V] w1 fun e w' => e = .returned (.bool true) ∧ RR w' p L E2 ∧ Sole p w w') := by rw [← hL]; exact H2.out
    show Calls Tryz.prog 39 _ w fun e w' => e = .returned (.int .i64 (n : Int)) ∧ RR w' p (l.drop 4) E2 ∧ Sole p w w'
    rw [hL]
    clear H2 hL
    go_enter Tryz.func39, Tryz.ntmps39
    go_wp2_with fail
    refine H1.out.mono ?_
    rintro e w1 ⟨rfl, hB⟩
    have HB : Hid (Below w.heap.size w w1) := hB
    clear hB
    go_wp2_with fail
    refine (H3.out _ HB.out).mono ?_
    rintro e w2 ⟨rfl, hR, hS⟩
    have HR : Hid (RR w2 p L E2 ∧ Sole p w w2) := ⟨hR, hS⟩
    clear hR hS
    go_wp2
    go_ret
    exact ⟨rfl, HR.out.1, HR.out.2⟩

end Go.Proofs.YtihcdahmfdijoaaGreatDoor
namespace Go.Proofs.YtihcdahmfdijoaaGreatDoor
open Go.RowKit
theorem rdCount_size (most : Int) (l : List UInt8) : (rdCount most l).size = 4 ∧ ((rdCount most l).wrong = 0 → 4 ≤ l.length) ∧ (rdCount most l).val < 4294967296 := by
  have hs : (rdCount most l).size = 4 := by
    unfold rdCount; split
    · rfl
    · split
      · rfl
      · split <;> rfl
  refine ⟨hs, fun h => ?_, ?_⟩
  · have := (one_count most l h).1
    rwa [hs] at this
  · by_cases h : (rdCount most l).wrong = 0
    · have := (one_count most l h).2.2; omega
    · unfold rdCount at h ⊢
      split
      · decide
      · rename_i h1
        rw [if_neg h1] at h
        split
        · decide
        · rename_i h2
          rw [if_neg h2] at h
          split
          · decide
          · rename_i h3; rw [if_neg h3] at h; exact absurd rfl h

set_option maxRecDepth 4000 in
theorem rcount_any (p : Nat) (most : Int) (l : List UInt8) (E : Int) (w : World) (h : RR w p l E) : Calls Tryz.prog 41 #[.pointer (some ⟨p, 0, none⟩), .int .i64 most] w (RPost p l E 0 (rdCount most) (fun n => .int .i64 (n : Int)) w) := by
  unfold RPost
  rw [go_case]
  obtain ⟨hs, hle, hlt⟩ := rdCount_size most l
  obtain ⟨b, hb⟩ : ∃ b, decide (E = 0 ∧ (rdCount most l).wrong = 0) = b := ⟨_, rfl⟩
  have H1 : Hid (Calls Tryz.prog 63 #[.string ⟨l.toArray⟩, .int .i64 most] w fun e w' => e = .returned (.tuple #[.int .i64 (rdCount most l).val, trW (rdCount most l).wrong]) ∧ Below w.heap.size w w') := frontCount_any most l w
  have H2 : Hid (∀ w1, Below w.heap.size w w1 → Calls Tryz.prog 62 #[.pointer (some ⟨p, 0, none⟩), .int .i64 4, trW (rdCount most l).wrong] w1 fun e w' => e = .returned (.bool b) ∧ RR w' p (if b then l.drop 4 else l) (if E = 0 then (rdCount most l).wrong else E) ∧ Sole p w w') := fun w1 hB =>
    (take_any p 4 E _ l w1 b (h.below hB) hb (fun e => by
      subst e
      have := hle (of_decide_eq_true hb).2
      omega)).mono fun e w' hp => ⟨hp.1, hp.2.1, (Sole.of_below hB).trans hp.2.2⟩
  rw [hb, hs]
  have h0 : w.cell? ⟨p, 0, none⟩ = some (.string ⟨l.toArray⟩) := h.l
  obtain ⟨V, hV⟩ : ∃ V, trW (rdCount most l).wrong = V := ⟨_, rfl⟩
  rw [hV] at H1 H2
  generalize (if E = 0 then (rdCount most l).wrong else E) = E2 at *
  generalize (rdCount most l).val = n at *
  have hn0 : 0 ≤ (n : Int) := by omega
  have hn1 : (n : Int) < 4294967296 := by omega
  clear h hs hle hlt hb hV
  cases b
  · obtain ⟨L, hL⟩ : ∃ L, l = L := ⟨_, rfl⟩
    have H3 : Hid (∀ w1, Below w.heap.size w w1 → Calls Tryz.prog 62 #[.pointer (some ⟨p, 0, none⟩), .int .i64 4, V] w1 fun e w' => e = .returned (.bool false) ∧ RR w' p L E2 ∧ Sole p w w') := by rw [← hL]; exact H2.out
    show Calls Tryz.prog 41 _ w fun e w' => e = .returned (.int .i64 0) ∧ RR w' p l E2 ∧ Sole p w w'
    have HL : Hid (l = L) := hL
    suffices hh : Calls Tryz.prog 41 #[.pointer (some ⟨p, 0, none⟩), .int .i64 most] w fun e w' => e = .returned (.int .i64 0) ∧ RR w' p L E2 ∧ Sole p w w' by rw [← HL.out] at hh; exact hh
    clear H2 hL HL
    go_enter Tryz.func41, Tryz.ntmps41
    go_wp2_with fail
    refine H1.out.mono ?_
    rintro e w1 ⟨rfl, hB⟩
    have HB : Hid (Below w.heap.size w w1) := hB
    clear hB
    go_wp2_with fail
    refine (H3.out _ HB.out).mono ?_
    rintro e w2 ⟨rfl, hR, hS⟩
    have HR : Hid (RR w2 p L E2 ∧ Sole p w w2) := ⟨hR, hS⟩
    clear hR hS
    go_wp2
    go_ret
    exact ⟨rfl, HR.out.1, HR.out.2⟩
  · obtain ⟨L, hL⟩ : ∃ L, l.drop 4 = L := ⟨_, rfl⟩
    have H3 : Hid (∀ w1, Below w.heap.size w w1 → Calls Tryz.prog 62 #[.pointer (some ⟨p, 0, none⟩), .int .i64 4, V] w1 fun e w' => e = .returned (.bool true) ∧ RR w' p L E2 ∧ Sole p w w') := by rw [← hL]; exact H2.out
    show Calls Tryz.prog 41 _ w fun e w' => e = .returned (.int .i64 (n : Int)) ∧ RR w' p (l.drop 4) E2 ∧ Sole p w w'
    rw [hL]
    clear H2 hL
    go_enter Tryz.func41, Tryz.ntmps41
    go_wp2_with fail
    refine H1.out.mono ?_
    rintro e w1 ⟨rfl, hB⟩
    have HB : Hid (Below w.heap.size w w1) := hB
    clear hB
    go_wp2_with fail
    refine (H3.out _ HB.out).mono ?_
    rintro e w2 ⟨rfl, hR, hS⟩
    have HR : Hid (RR w2 p L E2 ∧ Sole p w w2) := ⟨hR, hS⟩
    clear hR hS
    go_wp2
    go_ret
    exact ⟨rfl, HR.out.1, HR.out.2⟩

end Go.Proofs.YtihcdahmfdijoaaGreatDoor
namespace Go.Proofs.YtihcdahmfdijoaaGreatDoor
open Go.RowKit
def sgn64r (n : Nat) : Int := if n < 9223372036854775808 then n else (n : Int) - 18446744073709551616

theorem rdHyper_size (l : List UInt8) : (rdHyper l).size = 8 ∧ ((rdHyper l).wrong = 0 → 8 ≤ l.length) ∧ (rdHyper l).val < 18446744073709551616 := by
  refine ⟨by unfold rdHyper; split <;> rfl, fun h => ?_, ?_⟩
  · have := (one_hyper l h).1
    rwa [show (rdHyper l).size = 8 by unfold rdHyper; split <;> rfl] at this
  · by_cases h : (rdHyper l).wrong = 0
    · exact (one_hyper l h).2.2
    · unfold rdHyper at h ⊢
      split at h
      · rename_i h2; rw [if_pos h2]; decide
      · exact absurd rfl h

set_option maxRecDepth 4000 in
theorem rhyper_any (p : Nat) (l : List UInt8) (E : Int) (w : World) (h : RR w p l E) : Calls Tryz.prog 47 #[.pointer (some ⟨p, 0, none⟩)] w (RPost p l E 0 rdHyper (fun n => .int .i64 (sgn64r n)) w) := by
  unfold RPost
  rw [go_case]
  obtain ⟨hs, hle, hlt⟩ := rdHyper_size l
  obtain ⟨b, hb⟩ : ∃ b, decide (E = 0 ∧ (rdHyper l).wrong = 0) = b := ⟨_, rfl⟩
  have H1 : Hid (Calls Tryz.prog 70 #[.string ⟨l.toArray⟩] w fun e w' => e = .returned (.tuple #[.int .u64 (rdHyper l).val, trW (rdHyper l).wrong]) ∧ Below w.heap.size w w') := frontHyper_any l w
  have H2 : Hid (∀ w1, Below w.heap.size w w1 → Calls Tryz.prog 62 #[.pointer (some ⟨p, 0, none⟩), .int .i64 8, trW (rdHyper l).wrong] w1 fun e w' => e = .returned (.bool b) ∧ RR w' p (if b then l.drop 8 else l) (if E = 0 then (rdHyper l).wrong else E) ∧ Sole p w w') := fun w1 hB =>
    (take_any p 8 E _ l w1 b (h.below hB) hb (fun e => by
      subst e
      have := hle (of_decide_eq_true hb).2
      omega)).mono fun e w' hp => ⟨hp.1, hp.2.1, (Sole.of_below hB).trans hp.2.2⟩
  rw [hb, hs]
  have h0 : w.cell? ⟨p, 0, none⟩ = some (.string ⟨l.toArray⟩) := h.l
  obtain ⟨V, hV⟩ : ∃ V, trW (rdHyper l).wrong = V := ⟨_, rfl⟩
  rw [hV] at H1 H2
  generalize (if E = 0 then (rdHyper l).wrong else E) = E2 at *
  generalize (rdHyper l).val = n at *
  have hn0 : 0 ≤ (n : Int) := by omega
  have hn1 : (n : Int) < 18446744073709551616 := by omega
  clear h hs hle hlt hb hV
  cases b
  · obtain ⟨L, hL⟩ : ∃ L, l = L := ⟨_, rfl⟩
    have H3 : Hid (∀ w1, Below w.heap.size w w1 → Calls Tryz.prog 62 #[.pointer (some ⟨p, 0, none⟩), .int .i64 8, V] w1 fun e w' => e = .returned (.bool false) ∧ RR w' p L E2 ∧ Sole p w w') := by rw [← hL]; exact H2.out
    show Calls Tryz.prog 47 _ w fun e w' => e = .returned (.int .i64 0) ∧ RR w' p l E2 ∧ Sole p w w'
    have HL : Hid (l = L) := hL
    suffices hh : Calls Tryz.prog 47 #[.pointer (some ⟨p, 0, none⟩)] w fun e w' => e = .returned (.int .i64 0) ∧ RR w' p L E2 ∧ Sole p w w' by rw [← HL.out] at hh; exact hh
    clear H2 hL HL
    go_enter Tryz.func47, Tryz.ntmps47
    go_wp2_with fail
    refine H1.out.mono ?_
    rintro e w1 ⟨rfl, hB⟩
    have HB : Hid (Below w.heap.size w w1) := hB
    clear hB
    go_wp2_with fail
    refine (H3.out _ HB.out).mono ?_
    rintro e w2 ⟨rfl, hR, hS⟩
    have HR : Hid (RR w2 p L E2 ∧ Sole p w w2) := ⟨hR, hS⟩
    clear hR hS
    go_wp2
    go_ret
    exact ⟨rfl, HR.out.1, HR.out.2⟩
  · obtain ⟨L, hL⟩ : ∃ L, l.drop 8 = L := ⟨_, rfl⟩
    have H3 : Hid (∀ w1, Below w.heap.size w w1 → Calls Tryz.prog 62 #[.pointer (some ⟨p, 0, none⟩), .int .i64 8, V] w1 fun e w' => e = .returned (.bool true) ∧ RR w' p L E2 ∧ Sole p w w') := by rw [← hL]; exact H2.out
    show Calls Tryz.prog 47 _ w fun e w' => e = .returned (.int .i64 (sgn64r n)) ∧ RR w' p (l.drop 8) E2 ∧ Sole p w w'
    rw [hL]
    clear H2 hL
    go_enter Tryz.func47, Tryz.ntmps47
    go_wp2_with fail
    refine H1.out.mono ?_
    rintro e w1 ⟨rfl, hB⟩
    have HB : Hid (Below w.heap.size w w1) := hB
    clear hB
    go_wp2_with fail
    refine (H3.out _ HB.out).mono ?_
    rintro e w2 ⟨rfl, hR, hS⟩
    have HR : Hid (RR w2 p L E2 ∧ Sole p w w2) := ⟨hR, hS⟩
    clear hR hS
    have HN : Hid (n < 18446744073709551616) := by show n < _; omega
    go_wp2
    go_ret
    refine ⟨?_, HR.out.1, HR.out.2⟩
    have hn := HN.out
    have e : wrap64 (n : Int) = sgn64r n := by unfold wrap64 sgn64r; split <;> omega
    rw [← e]; rfl

end Go.Proofs.YtihcdahmfdijoaaGreatDoor
namespace Go.Proofs.YtihcdahmfdijoaaGreatDoor
open Go.RowKit
/-- the end of a reading that goes wrong -/
theorem tk_bad (p : Nat) (E F : Int) (l : List UInt8) (w : World) (h : RR w p l E) (hF : F ≠ 0) : ∀ (n : Int) (w1 : World), Below w.heap.size w w1 →
    Calls Tryz.prog 62 #[.pointer (some ⟨p, 0, none⟩), .int .i64 n, trW F] w1 fun e w' => e = .returned (.bool false) ∧ RR w' p l (if E = 0 then F else E) ∧ Sole p w w' := fun n w1 hB =>
  (take_any p n E F l w1 false (h.below hB) (decide_eq_false fun c => hF c.2) (fun c => by cases c)).mono fun e w' hp => ⟨hp.1, hp.2.1, (Sole.of_below hB).trans hp.2.2⟩

/-- the end of a reading that may be -/
theorem tk_good (p n : Nat) (E : Int) (l : List UInt8) (b : Bool) (w : World) (h : RR w p l E) (hb : decide (E = 0) = b) (hn : n ≤ l.length) : ∀ (w1 : World), Below w.heap.size w w1 →
    Calls Tryz.prog 62 #[.pointer (some ⟨p, 0, none⟩), .int .i64 n, .nilIface] w1 fun e w' => e = .returned (.bool b) ∧ RR w' p (if b then l.drop n else l) E ∧ Sole p w w' := fun w1 hB => by
  have h1 := take_any p n E 0 l w1 b (h.below hB) (by rw [← hb]; simp) (fun _ => by omega)
  rw [Int.toNat_natCast, show (if E = 0 then (0 : Int) else E) = E by split <;> omega] at h1
  exact h1.mono fun e w' hp => ⟨hp.1, hp.2.1, (Sole.of_below hB).trans hp.2.2⟩

theorem RPost.bad {α : Type} {p : Nat} {l : List UInt8} {E F : Int} {d : α} {f : List UInt8 → Rd α} {v : α → Value} {w : World} {e : Ending} {w' : World} (hF : (f l).wrong = F) (hF0 : F ≠ 0)
    (h : e = .returned (v d) ∧ RR w' p l (if E = 0 then F else E) ∧ Sole p w w') : RPost p l E d f v w e w' := by
  unfold RPost
  rw [go_case, hF, if_neg (by rw [decide_eq_true_eq]; exact fun c => hF0 c.2)]
  exact h
theorem RPost.good {α : Type} {p k : Nat} {l : List UInt8} {E : Int} {d x : α} {f : List UInt8 → Rd α} {v : α → Value} {w : World} {e : Ending} {w' : World} (b : Bool) (hb : decide (E = 0) = b) (hf : f l = ⟨0, k, x⟩)
    (h : e = .returned (v (if b then x else d)) ∧ RR w' p (if b then l.drop k else l) E ∧ Sole p w w') : RPost p l E d f v w e w' := by
  unfold RPost
  rw [go_case, hf]
  subst hb
  by_cases hE : E = 0
  · subst hE; simpa using h
  · simpa [hE] using h

end Go.Proofs.YtihcdahmfdijoaaGreatDoor
