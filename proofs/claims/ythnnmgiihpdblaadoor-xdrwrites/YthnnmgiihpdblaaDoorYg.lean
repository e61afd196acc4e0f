/- The Reader of the chapter's example: a word, a text of three bytes, the end. -/
import Derived.Test.YthnnmgiihpdblaaDoorXv
import Derived.Test.YthnnmgiihpdblaaDoorYf
namespace Go.Proofs.YthnnmgiihpdblaaDoor
open Go.RowKit

/-- A Reader of the program's: what is left, what was wrong first. -/
structure PR (w : World) (p : Nat) (L : ByteArray) (E : Int) : Prop where
  l : w.cell? ⟨p, 0, none⟩ = some (.string L)
  e : w.cell? ⟨p, 1, none⟩ = some (trV E)
  f0 : w.frozen? ⟨p, 0, none⟩ = false
  f1 : w.frozen? ⟨p, 1, none⟩ = false

theorem PR.lt {w : World} {p : Nat} {L : ByteArray} {E : Int} (h : PR w p L E) : p < w.heap.size := by
  rcases Nat.lt_or_ge p w.heap.size with h1 | h1
  · exact h1
  · have := h.l
    simp [World.cell?, Array.getElem?_eq_none h1] at this

theorem PR.of_block {w w' : World} {p : Nat} {L : ByteArray} {E : Int} (h : PR w p L E) (hb : w'.heap[p]? = w.heap[p]?) : PR w' p L E :=
  ⟨(cells_of_block hb 0).1.trans h.l, (cells_of_block hb 1).1.trans h.e, (cells_of_block hb 0).2.trans h.f0, (cells_of_block hb 1).2.trans h.f1⟩

theorem rdnew (s : ByteArray) (w : World) : Calls Tryd.prog 55 #[.string s] w fun e w' => e = .returned (.pointer (some ⟨w.heap.size, 0, none⟩)) ∧ w' = w.alloc (.cells #[.string s, .nilIface] 108) := by
  go_enter Tryd.func55, Tryd.ntmps55
  go_wp2
  go_ret
  exact ⟨rfl, rfl⟩

theorem PR.new (s : ByteArray) (w : World) : PR (w.alloc (.cells #[.string s, .nilIface] 108)) w.heap.size s 0 := by
  refine ⟨?_, ?_, ?_, ?_⟩ <;> simp [trV]

theorem frontWord_ex (w : World) : Calls Tryd.prog 103 #[.string ⟨#[0, 0, 0, 2, 97, 98, 99, 0]⟩] w fun e w' => e = .returned (.tuple #[.int .u32 2, .nilIface]) ∧ Below w.heap.size w w' := by
  go_enter Tryd.func103, Tryd.ntmps103
  go_wp2
  go_quiet (fail)
  go_wp2
  go_ret2
  refine ⟨?_, ?_⟩
  · rfl
  · exact below_drewN (Below.refl _ _) _

theorem frontText_ex (w : World) : Calls Tryd.prog 105 #[.string ⟨#[97, 98, 99, 0]⟩, .int .i64 3] w fun e w' => e = .returned (.tuple #[.string ⟨#[97, 98, 99]⟩, .nilIface]) ∧ Below w.heap.size w w' := by
  have HG : Hid (∀ w, Calls Tryd.prog 99 #[.int .i64 3] w fun e w' => e = .returned (.bool true) ∧ w' = w) := fun w => isWord_any 3 w
  have H1 : Hid (∀ w, Calls Tryd.prog 100 #[.int .i64 3] w fun e w' => e = .returned (.string ⟨#[0]⟩) ∧ w' = w) := fun w => padding_any 3 w (by decide)
  have hx : (⟨#[97, 98, 99, 0]⟩ : ByteArray).extract 3 4 = ⟨#[0]⟩ := by rfl
  go_enter Tryd.func105, Tryd.ntmps105
  go_wp2_with (first | (go_at_call 99; refine (HG.out _).mono ?_; rintro e w' ⟨rfl, rfl⟩) | (go_at_call 100; refine (H1.out _).mono ?_; rintro e w' ⟨rfl, rfl⟩))
  go_quiet (first | (go_at_call 100; exact Calls.quiet_of_same (H1.out _)) | (go_at_call 100; exact Calls.quiet_of_same (H1.out _)))
  go_wp2
  go_ret2
  refine ⟨?_, ?_⟩
  · rfl
  · exact below_drewN (Below.refl _ _) _

theorem take_ok (p n : Nat) (L : ByteArray) (w : World) (h : PR w p L 0) (hn : n ≤ L.size) :
    Calls Tryd.prog 104 #[.pointer (some ⟨p, 0, none⟩), .int .i64 n, .nilIface] w fun e w' => e = .returned (.bool true) ∧ PR w' p (L.extract n L.size) 0 ∧ Only p w w' := by
  have h0 := h.l
  have h1 : w.cell? ⟨p, 1, none⟩ = some .nilIface := h.e
  have h2 := h.f0
  have h3 := h.f1
  have H1 : Hid (Calls Tryd.prog 112 #[.pointer (some ⟨p, 1, none⟩), .nilIface] w fun r w' => r = .returned (.tuple #[]) ∧ w' = w.setCell ⟨p, 1, none⟩ .nilIface) := note_nil ⟨p, 1, none⟩ w h1 h3
  have H2 : Hid (Calls Tryd.prog 101 #[.pointer (some ⟨p, 1, none⟩)] (w.setCell ⟨p, 1, none⟩ .nilIface) fun r w' => r = .returned (.bool false) ∧ w' = w.setCell ⟨p, 1, none⟩ .nilIface) := any_no ⟨p, 1, none⟩ _ (World.cell?_setCell_same _ _ _ h1)
  have HP : Hid (PR ((w.setCell ⟨p, 1, none⟩ .nilIface).setCell ⟨p, 0, none⟩ (.string (L.extract n L.size))) p (L.extract n L.size) 0) :=
    ⟨World.cell?_setCell_same _ _ _ (show (w.setCell ⟨p, 1, none⟩ .nilIface).cell? ⟨p, 0, none⟩ = some (.string L) by rw [World.cell?_setCell_other _ _ _ _ (by simp)]; exact h0),
     by rw [World.cell?_setCell_other _ _ _ _ (by simp)]; exact World.cell?_setCell_same _ _ _ h1, by rw [World.frozen?_setCell, World.frozen?_setCell]; exact h2, by rw [World.frozen?_setCell, World.frozen?_setCell]; exact h3⟩
  clear h
  go_enter Tryd.func104, Tryd.ntmps104
  go_wp2_with (first | (go_at_call 112; refine H1.out.mono ?_; rintro e w' ⟨rfl, rfl⟩) | (go_at_call 101; refine H2.out.mono ?_; rintro e w' ⟨rfl, rfl⟩))
  go_ret
  exact ⟨rfl, HP.out, (Only.setCell w 1 _).trans (Only.setCell _ 0 _)⟩

theorem rduint_ex (p : Nat) (w : World) (h : PR w p ⟨#[0, 0, 0, 2, 97, 98, 99, 0]⟩ 0) :
    Calls Tryd.prog 61 #[.pointer (some ⟨p, 0, none⟩)] w fun e w' => e = .returned (.int .i64 2) ∧ PR w' p ⟨#[97, 98, 99, 0]⟩ 0 ∧ Only p w w' := by
  have hl := h.lt
  have h0 := h.l
  have H1 : Hid (Calls Tryd.prog 103 #[.string ⟨#[0, 0, 0, 2, 97, 98, 99, 0]⟩] w fun e w' => e = .returned (.tuple #[.int .u32 2, .nilIface]) ∧ Below w.heap.size w w') := frontWord_ex w
  have H2 : Hid (∀ w1, Below w.heap.size w w1 → Calls Tryd.prog 104 #[.pointer (some ⟨p, 0, none⟩), .int .i64 4, .nilIface] w1 fun e w' => e = .returned (.bool true) ∧ PR w' p ⟨#[97, 98, 99, 0]⟩ 0 ∧ Only p w w') := fun w1 hb =>
    (take_ok p 4 ⟨#[0, 0, 0, 2, 97, 98, 99, 0]⟩ w1 (h.of_block (hb.block p hl)) (by decide)).mono fun e w' hp => ⟨hp.1, hp.2.1, (Only.of_below hb).trans hp.2.2⟩
  clear h hl
  go_enter Tryd.func61, Tryd.ntmps61
  go_wp2_with fail
  refine H1.out.mono ?_
  rintro e w1 ⟨rfl, hb⟩
  have HB : Hid (Below w.heap.size w w1) := hb
  clear hb
  go_wp2_with fail
  refine (H2.out _ HB.out).mono ?_
  rintro e w2 ⟨rfl, hp⟩
  have HP : Hid (PR w2 p ⟨#[97, 98, 99, 0]⟩ 0 ∧ Only p w w2) := hp
  clear hp
  go_wp2
  go_ret
  exact ⟨rfl, HP.out⟩

theorem rdfixed_ex (p : Nat) (w : World) (h : PR w p ⟨#[97, 98, 99, 0]⟩ 0) :
    Calls Tryd.prog 62 #[.pointer (some ⟨p, 0, none⟩), .int .i64 3] w fun e w' => e = .returned (.string ⟨#[97, 98, 99]⟩) ∧ PR w' p ⟨#[]⟩ 0 ∧ Only p w w' := by
  have hl := h.lt
  have h0 := h.l
  have H0 : Hid (∀ w, Calls Tryd.prog 100 #[.int .i64 3] w fun e w' => e = .returned (.string ⟨#[0]⟩) ∧ w' = w) := fun w => padding_any 3 w (by decide)
  have H1 : Hid (Calls Tryd.prog 105 #[.string ⟨#[97, 98, 99, 0]⟩, .int .i64 3] w fun e w' => e = .returned (.tuple #[.string ⟨#[97, 98, 99]⟩, .nilIface]) ∧ Below w.heap.size w w') := frontText_ex w
  have H2 : Hid (∀ w1, Below w.heap.size w w1 → Calls Tryd.prog 104 #[.pointer (some ⟨p, 0, none⟩), .int .i64 4, .nilIface] w1 fun e w' => e = .returned (.bool true) ∧ PR w' p ⟨#[]⟩ 0 ∧ Only p w w') := fun w1 hb =>
    (take_ok p 4 ⟨#[97, 98, 99, 0]⟩ w1 (h.of_block (hb.block p hl)) (by decide)).mono fun e w' hp => ⟨hp.1, hp.2.1, (Only.of_below hb).trans hp.2.2⟩
  have H3 : Hid (∀ w, Calls Tryd.prog 106 #[.string ⟨#[97, 98, 99]⟩] w fun e w' => e = .returned (.string ⟨#[97, 98, 99]⟩) ∧ Below w.heap.size w w') := fun w => clone_any _ w (by decide)
  clear h hl
  go_enter Tryd.func62, Tryd.ntmps62
  go_wp2_with fail
  refine H1.out.mono ?_
  rintro e w1 ⟨rfl, hb⟩
  have HB : Hid (Below w.heap.size w w1) := hb
  clear hb
  go_wp2_with fail
  refine (H0.out _).mono ?_
  rintro e w2 ⟨rfl, hw2⟩
  have hw3 := hw2.symm
  clear hw2
  subst hw3
  go_wp2_with fail
  refine (H2.out _ HB.out).mono ?_
  rintro e w2 ⟨rfl, hp⟩
  have HP : Hid (PR w2 p ⟨#[]⟩ 0 ∧ Only p w w2) := hp
  clear hp
  go_wp2_with fail
  refine (H3.out _).mono ?_
  rintro e w3 ⟨rfl, hb⟩
  have HB3 : Hid (Below w2.heap.size w2 w3) := hb
  clear hb
  go_wp2
  go_ret
  exact ⟨rfl, HP.out.1.of_block (HB3.out.block p HP.out.1.lt), HP.out.2.trans (Only.of_below HB3.out)⟩

theorem rddone_ex (p : Nat) (w : World) (h : PR w p ⟨#[]⟩ 0) :
    Calls Tryd.prog 63 #[.pointer (some ⟨p, 0, none⟩)] w fun e w' => e = .returned (.int .i64 0) ∧ Below w.heap.size w w' := by
  have h0 := h.l
  have h1 : w.cell? ⟨p, 1, none⟩ = some .nilIface := h.e
  have H1 : Hid (Calls Tryd.prog 101 #[.pointer (some ⟨p, 1, none⟩)] w fun r w' => r = .returned (.bool false) ∧ w' = w) := any_no ⟨p, 1, none⟩ w h1
  have H2 : Hid (Calls Tryd.prog 102 #[.pointer (some ⟨p, 1, none⟩)] w fun r w' => r = .returned (.int .i64 0) ∧ Below w.heap.size w w') := number_no ⟨p, 1, none⟩ w h1
  clear h
  go_enter Tryd.func63, Tryd.ntmps63
  go_wp2_with fail
  refine H1.out.mono ?_
  rintro e w2 ⟨rfl, hw2⟩
  have hw3 := hw2.symm
  clear hw2
  subst hw3
  go_wp2_with fail
  refine H2.out.mono ?_
  rintro e w2 ⟨rfl, hb⟩
  have HB : Hid (Below w.heap.size w w2) := hb
  clear hb
  go_wp2
  go_ret
  exact ⟨rfl, HB.out⟩

end Go.Proofs.YthnnmgiihpdblaaDoor
