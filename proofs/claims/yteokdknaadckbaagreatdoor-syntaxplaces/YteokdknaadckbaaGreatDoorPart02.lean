/- The program's parser: a constant. The program's parser: a field, given declarations. The program's parser: a declaration, a procedure's result. The program's parser: a type that is written out. The program's parser: the arm of all others. The program's parser: a version, given what is numbered. The program's parser: the bare types. -/
import Derived.Test.YteokdknaadckbaaGreatDoorPart01
namespace Go.Proofs.YteokdknaadckbaaGreatDoor
open Go.RowKit

def constP (s : PS) : Ans Tree := (s.want wConst).bind fun _ s => (nameP s).bind fun n s => (s.want [61]).bind fun _ s => (numberP s).bind fun v s => .ok (named 2 n [v]) s
set_option maxHeartbeats 2000000 in
set_option maxRecDepth 4000 in
theorem constant_any (p g cap : Nat) (ts : List Tok) (hE : Ends ts) (i : Nat) (d : Int) (full : Bool) (w : World) (h : PP w p g cap ts i d full) :
    Calls Tryz.prog 68 #[.pointer (some ⟨p, 0, none⟩)] w (PPost p g cap ts d (treeIs w.heap.size) (constP (PSof ts i full)) w) := by
  have HP : Hid (p < w.heap.size ∧ g < w.heap.size) := ⟨h.plt, h.glt⟩
  have HE : Hid (Ends ts) := hE
  have H : Hid (PP w p g cap ts i d full) := h
  obtain ⟨R, hR⟩ : ∃ R, constP (PSof ts i full) = R := ⟨_, rfl⟩
  rw [hR]
  obtain ⟨rc, hrc⟩ : ∃ rc, (PSof ts i full).want wConst = rc := ⟨_, rfl⟩
  have HR0 : Hid (R = rc.bind fun _ s => (nameP s).bind fun n s => (s.want [61]).bind fun _ s => (numberP s).bind fun v s => .ok (named 2 n [v]) s) := by
    show _ = _
    rw [← hR, ← hrc]; rfl
  obtain ⟨wa, hwa⟩ : ∃ wa, w.alloc (.cells #[.int .i64 0, .string ⟨#[]⟩, .int .i64 0, .int .i64 0, .slice none 0 0] 29) = wa := ⟨_, rfl⟩
  have hBa : Below w.heap.size w wa := by rw [← hwa]; exact (Below.refl _ _).alloc (Nat.le_refl _) _
  have HZa : Hid (Tre wa w.heap.size ∧ w.heap.size < wa.heap.size) := by
    refine ⟨?_, ?_⟩
    · rw [← hwa]; exact Tre.made w 29
    · rw [← hwa]; simp
  have HB : Hid (Below w.heap.size w wa) := hBa
  have HWC : Hid (Calls Tryz.prog 41 #[.pointer (some ⟨p, 0, none⟩), .slice (some ⟨wa.heap.size, 0, none⟩) 1 1] (wa.alloc (.cells #[.string ⟨#[99, 111, 110, 115, 116]⟩] 9)) (PPost p g cap ts d unitIs rc wa)) := by
    rw [← hrc]
    exact want_one p g cap ts hE i d full wConst (by simp [wConst]) wa (h.below hBa)
  have HWX : Hid (w.alloc (.cells #[.int .i64 0, .string ⟨#[]⟩, .int .i64 0, .int .i64 0, .slice none 0 0] 29) = wa) := hwa
  clear h hE hrc hR hBa
  go_enter Tryz.func68, Tryz.ntmps68
  go_wp2_with fail
  clear hwa
  refine HWC.out.mono ?_
  cases rc with
  | no why at_ =>
    rintro e w2 ⟨rfl, hS⟩
    have HS : Hid (Sole p w w2) := (Sole.of_below HB.out).trans hS
    clear hS
    go_wp2
    refine ⟨rfl, ?_⟩
    rw [HR0.out]
    exact ⟨rfl, HS.out⟩
  | ok u st =>
  rintro e w1 ⟨v, i, full, rfl, rfl, rfl, hP, hS⟩
  have HN : Hid (Calls Tryz.prog 108 #[.pointer (some ⟨p, 0, none⟩)] w1 (PPost p g cap ts d tokIs (nameP (PSof ts i full)) w1)) := name_any p g cap ts HE.out i d full w1 hP
  have HS1 : Hid (Sole p w w1) := (Sole.of_below HB.out).trans hS
  have HZ1 : Hid (Tre w1 w.heap.size ∧ w.heap.size < w1.heap.size) := ⟨HZa.out.1.block (hS.block _ HZa.out.2 (Nat.ne_of_gt HP.out.1)), Nat.lt_of_lt_of_le HZa.out.2 hS.size⟩
  obtain ⟨rn, hrn⟩ : ∃ rn, nameP (PSof ts i full) = rn := ⟨_, rfl⟩
  have HR : Hid (R = rn.bind fun n s => (s.want [61]).bind fun _ s => (numberP s).bind fun v s => .ok (named 2 n [v]) s) := by
    show _ = _
    rw [HR0.out, ← hrn]; rfl
  rw [hrn] at HN
  clear hP hS hrn
  go_wp2_with fail
  refine HN.out.mono ?_
  cases rn with
  | no why at_ =>
    rintro e w2 ⟨rfl, hS⟩
    have HS : Hid (Sole p w w2) := HS1.out.trans hS
    clear hS
    go_wp2
    refine ⟨rfl, ?_⟩
    rw [HR.out]
    exact ⟨rfl, HS.out⟩
  | ok t st =>
    rintro e w2 ⟨v, i, full, rfl, rfl, rfl, hP, hS⟩
    have hlt : w.heap.size < w2.heap.size := Nat.lt_of_lt_of_le HZ1.out.2 hS.size
    obtain ⟨w3, hw3⟩ : ∃ w3, w2.alloc (.cells #[.int .i64 t.kind, .string ⟨t.text.toArray⟩, .int .i64 t.num, .int .i64 t.at_] 41) = w3 := ⟨_, rfl⟩
    have hB3 : Below w2.heap.size w2 w3 := by rw [← hw3]; exact (Below.refl _ _).alloc (Nat.le_refl _) _
    have hs3 : w3.heap.size = w2.heap.size + 1 := by rw [← hw3]; simp
    have HP3 : Hid (PP w3 p g cap ts i d full) := hP.below hB3
    have HS3 : Hid (Sole p w w3) := (HS1.out.trans hS).trans (Sole.of_below hB3)
    have HZ3 : Hid (Tre w3 w.heap.size) := (HZ1.out.1.block (hS.block w.heap.size HZ1.out.2 (Nat.ne_of_gt HP.out.1))).block (hB3.block w.heap.size hlt)
    have HK3 : Hid (TokAt w3 w2.heap.size t) := by show TokAt w3 w2.heap.size t; rw [← hw3]; exact TokAt.made w2 t 41
    have HLT : Hid (w.heap.size < w2.heap.size ∧ w3.heap.size = w2.heap.size + 1) := ⟨hlt, hs3⟩
    have HWA : Hid (Calls Tryz.prog 41 #[.pointer (some ⟨p, 0, none⟩), .slice (some ⟨w3.heap.size, 0, none⟩) 1 1] (w3.alloc (.cells #[.string ⟨#[61]⟩] 9)) (PPost p g cap ts d unitIs ((PSof ts i full).want [61]) w3)) := want_one p g cap ts HE.out i d full [61] (by simp) w3 HP3.out
    obtain ⟨ru, hru⟩ : ∃ r, (PSof ts i full).want [61] = r := ⟨_, rfl⟩
    have HR2 : Hid (R = ru.bind fun _ s => (numberP s).bind fun v s => .ok (named 2 t [v]) s) := by
      show _ = _
      rw [HR.out, ← hru]; rfl
    rw [hru] at HWA
    clear hP hS hB3 hlt hs3 hru
    unfold tokV
    go_wp2_with fail
    refine HWA.out.mono ?_
    cases ru with
    | no why at_ =>
      rintro e w4 ⟨rfl, hS⟩
      have HS : Hid (Sole p w w4) := HS3.out.trans hS
      clear hS
      go_wp2
      refine ⟨rfl, ?_⟩
      rw [HR2.out]
      exact ⟨rfl, HS.out⟩
    | ok u st =>
      rintro e w4 ⟨v, i, full, rfl, rfl, rfl, hP, hS⟩
      have hp := HP.out.1
      have hl := HLT.out
      have HP4 : Hid (PP w4 p g cap ts i d full) := hP
      have HS4 : Hid (Sole p w w4) := HS3.out.trans hS
      have HZ4 : Hid (Tre w4 w.heap.size) := HZ3.out.block (hS.block _ (by omega) (by omega))
      have HK4 : Hid (TokAt w4 w2.heap.size t) := HK3.out.block (hS.block _ (by omega) (by omega))
      obtain ⟨t0, t1, t2, t3⟩ := HK4.out
      have HL4 : Hid (w2.heap.size < w4.heap.size) := by show _ < _; have := hS.size; omega
      obtain ⟨rv, hrv⟩ : ∃ r, numberP (PSof ts i full) = r := ⟨_, rfl⟩
      have HR3 : Hid (R = rv.bind fun v s => .ok (named 2 t [v]) s) := by
        show _ = _
        rw [HR2.out, ← hrv]; rfl
      have HVA : Hid (∀ m, Calls Tryz.prog 110 #[.pointer (some ⟨p, 0, none⟩)] (w4.drewN m) (PPost p g cap ts d (treeIs w4.heap.size) rv w4)) := fun m => by
        have hB : Below w4.heap.size w4 (w4.drewN m) := below_drew (Below.refl _ _) m
        rw [← hrv]
        exact (number_any p g cap ts HE.out i d full (w4.drewN m) (hP.below hB)).mono fun e w' hp => PPost.from_below hB hp
      clear hP hS hrv hp hl
      go_wp2_with fail
      cases rv with
      | no why at_ =>
        go_region_dies
        all_goals (
          refine (HVA.out _).mono ?_
          rintro e w5 ⟨rfl, hS⟩
          refine ⟨rfl, ?_⟩
          rw [HR3.out]
          exact ⟨rfl, HS4.out.trans hS⟩)
      | ok tv st =>
        obtain ⟨k9, n9, m9, a9, ks9⟩ := tv
        go_region_with (first
          | (go_at_call 110
             refine (HVA.out _).mono ?_
             rintro e w5 ⟨v, i, full, rfl, hT, rfl, hP, hS⟩
             obtain ⟨sl, rfl, hL⟩ := treeAt_node.1 hT
             obtain ⟨o9, len9, cap9, rfl⟩ := hL.shape
             have HT5 : Hid (treeIs w4.heap.size (.node k9 n9 m9 a9 ks9) w5 (kidV k9 n9 m9 a9 (.slice o9 len9 cap9))) := hT
             have HP5 : Hid (PP w5 p g cap ts i d full) := hP
             have HS5 : Hid (Sole p w4 w5) := hS
             have HK5 : Hid (TokAt w5 w2.heap.size t) := HK4.out.block (hS.block w2.heap.size HL4.out (by have := HP.out.1; have := HLT.out.1; omega))
             have hl2 : w2.heap.size < w5.heap.size := by have := hS.size; have := HL4.out; omega
             obtain ⟨wq, hwq⟩ : ∃ wq, w5.alloc (.cells #[.int .i64 k9, .string ⟨n9.toArray⟩, .int .i64 m9, .int .i64 a9, .slice o9 len9 cap9] 29) = wq := ⟨_, rfl⟩
             have hBq : Below w5.heap.size w5 wq := by rw [← hwq]; exact (Below.refl _ _).alloc (Nat.le_refl _) _
             obtain ⟨s0, s1, s2, s3⟩ := HK5.out
             obtain ⟨x0, x1, x2, x3⟩ := HK5.out.block (hBq.block _ hl2)
             have HWQ : Hid (w5.alloc (.cells #[.int .i64 k9, .string ⟨n9.toArray⟩, .int .i64 m9, .int .i64 a9, .slice o9 len9 cap9] 29) = wq) := hwq
             have HBQ : Hid (Below w5.heap.size w5 wq ∧ w2.heap.size < w5.heap.size ∧ wq.heap.size = w5.heap.size + 1) := ⟨hBq, hl2, by rw [← hwq]; simp⟩
             clear hT hL hP hS hl2 hBq
             unfold kidV)
          | (go_at_call 109
             refine (named_any 2 t (some ⟨w5.heap.size, 0, none⟩) 1 1 _).mono ?_
             rintro e w6 ⟨rfl, hB6⟩
             have HB6 : Hid (Below wq.heap.size wq w6) := hB6
             have hl5 : w.heap.size < w5.heap.size := by have := HBQ.out.2.1; have := HLT.out.1; omega
             obtain ⟨z0, z1, z2, z3, z4, y0, y1, y2, y3, y4⟩ := ((HZ4.out.block (HS5.out.block w.heap.size (by have := HL4.out; have := HLT.out.1; omega) (by have := HP.out.1; omega))).block (HBQ.out.1.block w.heap.size hl5)).block (hB6.block w.heap.size (by have := HBQ.out.2.2; omega))
             have HL5 : Hid (w.heap.size < w5.heap.size) := hl5
             clear hB6 hl5
             unfold kidV))
        all_goals (
          go_wp2
          have q := res5 w6 w.heap.size (.int .i64 2) (.string ⟨t.text.toArray⟩) (.int .i64 0) (.int .i64 t.at_) (.slice (some ⟨w5.heap.size, 0, none⟩) 1 1) z0 z1 z2 z3 z4
          have hBz := below_set5 w6 w.heap.size w.heap.size (.int .i64 2) (.string ⟨t.text.toArray⟩) (.int .i64 0) (.int .i64 t.at_) (.slice (some ⟨w5.heap.size, 0, none⟩) 1 1) (Nat.le_refl _)
          have hbt := but_set5 w6 w.heap.size (.int .i64 2) (.string ⟨t.text.toArray⟩) (.int .i64 0) (.int .i64 t.at_) (.slice (some ⟨w5.heap.size, 0, none⟩) 1 1)
          generalize ((((w6.setCell ⟨w.heap.size, 0, none⟩ (.int .i64 2)).setCell ⟨w.heap.size, 1, none⟩ (.string ⟨t.text.toArray⟩)).setCell ⟨w.heap.size, 2, none⟩ (.int .i64 0)).setCell ⟨w.heap.size, 3, none⟩ (.int .i64 t.at_)).setCell ⟨w.heap.size, 4, none⟩ (.slice (some ⟨w5.heap.size, 0, none⟩) 1 1) = wz at q hBz hbt ⊢
          obtain ⟨q0, q1, q2, q3, q4⟩ := q
          have hsq := HBQ.out.2.2
          have hl5 := HL5.out
          have hlp := HP.out
          have hl24 := HL4.out
          have hl12 := HLT.out.1
          have hz5 : ∀ b, b < w5.heap.size → b ≠ w.heap.size → wz.heap[b]? = w5.heap[b]? := fun b hb hbw => (hbt b hbw).trans ((HB6.out.block b (by omega)).trans (HBQ.out.1.block b hb))
          have hzq : wz.heap[w5.heap.size]? = wq.heap[w5.heap.size]? := (hbt _ (by omega)).trans (HB6.out.block _ (by omega))
          have hS6 : Sole p w w6 := (HS4.out.trans HS5.out).trans ((Sole.of_below HBQ.out.1).trans (Sole.of_below HB6.out))
          refine bodyPost_ret (v := .agg #[.int .i64 2, .string ⟨t.text.toArray⟩, .int .i64 0, .int .i64 t.at_, .slice (some ⟨w5.heap.size, 0, none⟩) 1 1]) (by simp [results, Tryz.results68, go_sem, q0, q1, q2, q3, q4]) rfl ?_
          rw [HR3.out]
          refine ⟨_, _, _, rfl, node_one HT5.out (by omega) (show w.heap.size < w4.heap.size by omega) (Nat.le_refl w5.heap.size) (by omega) hz5 (hzq.trans (by rw [← HWQ.out]; exact heap_alloc_new _ _)), rfl, HP5.out.of_blocks (hz5 p (by omega) (by omega)) (hz5 g (by omega) (by omega)), hS6.below_after hBz⟩)
end Go.Proofs.YteokdknaadckbaaGreatDoor
namespace Go.Proofs.YteokdknaadckbaaGreatDoor
open Go.RowKit

/-- the program's list of the bare types, as it lies in memory; the parser lies elsewhere -/
def baresA : Array Value := #[.int .i64 18, .bool false, .string ⟨#[105, 110, 116]⟩, .int .i64 19, .bool true, .string ⟨#[105, 110, 116]⟩, .int .i64 20, .bool false, .string ⟨#[104, 121, 112, 101, 114]⟩, .int .i64 21, .bool true, .string ⟨#[104, 121, 112, 101, 114]⟩, .int .i64 22, .bool false, .string ⟨#[102, 108, 111, 97, 116]⟩, .int .i64 23, .bool false, .string ⟨#[100, 111, 117, 98, 108, 101]⟩, .int .i64 24, .bool false, .string ⟨#[98, 111, 111, 108]⟩]
def BareAt (p : Nat) (w : World) : Prop := p ≠ 0 ∧ ∃ t fr, w.heap[0]? = some (.cells baresA t fr)
theorem BareAt.lt {p : Nat} {w : World} (h : BareAt p w) : 0 < w.heap.size := by
  obtain ⟨_, t, fr, h⟩ := h
  exact (Array.getElem?_eq_some_iff.1 h).1
theorem BareAt.block {p : Nat} {w w' : World} (h : BareAt p w) (e : w'.heap[0]? = w.heap[0]?) : BareAt p w' := by
  obtain ⟨h0, t, fr, h⟩ := h
  exact ⟨h0, t, fr, e.trans h⟩
theorem BareAt.below {p : Nat} {w w' : World} (h : BareAt p w) (hB : Below w.heap.size w w') : BareAt p w' := h.block (hB.block 0 h.lt)
theorem BareAt.sole {p : Nat} {w w' : World} (h : BareAt p w) (hS : Sole p w w') : BareAt p w' := h.block (hS.block 0 h.lt (Ne.symm h.1))

/-- a function of the parser keeps to its plain one -/
def Keeps (p g cap : Nat) (ts : List Tok) (d : Int) (f : Nat) (F : PS → Ans Tree) : Prop :=
  ∀ i full w, PP w p g cap ts i d full → BareAt p w → Calls Tryz.prog f #[.pointer (some ⟨p, 0, none⟩)] w (PPost p g cap ts d (treeIs w.heap.size) (F (PSof ts i full)) w)

/-- a tree's five cells -/
structure KidAt (w : World) (b : Nat) (k : Int) (n : List UInt8) (m : Int) (a : Nat) (sl : Value) : Prop where
  c0 : w.cell? ⟨b, 0, none⟩ = some (.int .i64 k)
  c1 : w.cell? ⟨b, 1, none⟩ = some (.string ⟨n.toArray⟩)
  c2 : w.cell? ⟨b, 2, none⟩ = some (.int .i64 m)
  c3 : w.cell? ⟨b, 3, none⟩ = some (.int .i64 a)
  c4 : w.cell? ⟨b, 4, none⟩ = some sl
theorem KidAt.block {w w' : World} {b : Nat} {k m : Int} {n : List UInt8} {a : Nat} {sl : Value} (h : KidAt w b k n m a sl) (e : w'.heap[b]? = w.heap[b]?) : KidAt w' b k n m a sl :=
  ⟨(cells_same e 0).1.trans h.c0, (cells_same e 1).1.trans h.c1, (cells_same e 2).1.trans h.c2, (cells_same e 3).1.trans h.c3, (cells_same e 4).1.trans h.c4⟩
theorem KidAt.made (w : World) (k : Int) (n : List UInt8) (m : Int) (a : Nat) (sl : Value) (y : TypeId) : KidAt (w.alloc (.cells #[.int .i64 k, .string ⟨n.toArray⟩, .int .i64 m, .int .i64 a, sl] y)) w.heap.size k n m a sl := by
  constructor <;> simp

set_option maxHeartbeats 1000000 in
set_option maxRecDepth 4000 in
theorem field_any (p g cap : Nat) (ts : List Tok) (hE : Ends ts) (d : Int) (B : PS → Ans Tree) (hD : Keeps p g cap ts d 146 (declarationP B)) : Keeps p g cap ts d 145 (fieldP B) := by
  intro i full w h hba
  have HP : Hid (p < w.heap.size ∧ g < w.heap.size) := ⟨h.plt, h.glt⟩
  have HE : Hid (Ends ts) := hE
  have HN : Hid (∀ w1, Below w.heap.size w w1 → Calls Tryz.prog 146 #[.pointer (some ⟨p, 0, none⟩)] w1 (PPost p g cap ts d (treeIs w1.heap.size) (declarationP B (PSof ts i full)) w1)) := fun w1 hB => hD i full w1 (h.below hB) (hba.below hB)
  obtain ⟨R, hR⟩ : ∃ R, fieldP B (PSof ts i full) = R := ⟨_, rfl⟩
  rw [hR]
  obtain ⟨rn, hrn⟩ : ∃ rn, declarationP B (PSof ts i full) = rn := ⟨_, rfl⟩
  have HR : Hid (R = rn.bind fun t s => (s.want [59]).bind fun _ s => .ok t s) := by
    show _ = _
    rw [← hR, ← hrn]; rfl
  rw [hrn] at HN
  clear h hE hrn hR hD hba
  go_enter Tryz.func145, Tryz.ntmps145
  go_wp2_with fail
  have HB : Hid (Below w.heap.size w (w.alloc (.cells #[.int .i64 0, .string ⟨#[]⟩, .int .i64 0, .int .i64 0, .slice none 0 0] 29))) := (Below.refl _ _).alloc (Nat.le_refl _) _
  refine (HN.out _ HB.out).mono ?_
  cases rn with
  | no why at_ =>
    rintro e w2 ⟨rfl, hS⟩
    have HS : Hid (Sole p w w2) := (Sole.of_below HB.out).trans hS
    clear hS
    go_wp2
    refine ⟨rfl, ?_⟩
    rw [HR.out]
    exact ⟨rfl, HS.out⟩
  | ok t st =>
    rintro e w2 ⟨v, i, full, rfl, hT, rfl, hP, hS⟩
    obtain ⟨k9, n9, m9, a9, ks9⟩ := t
    obtain ⟨sl, rfl, hL⟩ := treeAt_node.1 hT
    obtain ⟨o9, len9, cap9, rfl⟩ := hL.shape
    have hT' : treeIs (w.heap.size + 1) (.node k9 n9 m9 a9 ks9) w2 (kidV k9 n9 m9 a9 (.slice o9 len9 cap9)) := by
      have := hT
      rw [show (w.alloc (.cells #[.int .i64 0, .string ⟨#[]⟩, .int .i64 0, .int .i64 0, .slice none 0 0] 29)).heap.size = w.heap.size + 1 by simp] at this
      exact this
    have hlt : w.heap.size < w2.heap.size := by have := hS.size; simp at this; omega
    obtain ⟨w3, hw3⟩ : ∃ w3, w2.alloc (.cells #[.int .i64 k9, .string ⟨n9.toArray⟩, .int .i64 m9, .int .i64 a9, .slice o9 len9 cap9] 29) = w3 := ⟨_, rfl⟩
    have hB3 : Below w2.heap.size w2 w3 := by rw [← hw3]; exact (Below.refl _ _).alloc (Nat.le_refl _) _
    have hs3 : w3.heap.size = w2.heap.size + 1 := by rw [← hw3]; simp
    have HP3 : Hid (PP w3 p g cap ts i d full) := hP.below hB3
    have HS3 : Hid (Sole p w w3) := ((Sole.of_below HB.out).trans hS).trans (Sole.of_below hB3)
    have HZ3 : Hid (Tre w3 w.heap.size) := ((Tre.made w 29).block (hS.block w.heap.size (by simp) (Nat.ne_of_gt HP.out.1))).block (hB3.block w.heap.size hlt)
    have HK3 : Hid (KidAt w3 w2.heap.size k9 n9 m9 a9 (.slice o9 len9 cap9)) := by show KidAt _ _ _ _ _ _ _; rw [← hw3]; exact KidAt.made _ _ _ _ _ _ _
    have HT3 : Hid (treeIs (w.heap.size + 1) (.node k9 n9 m9 a9 ks9) w3 (kidV k9 n9 m9 a9 (.slice o9 len9 cap9))) := hT'.below (Nat.le_refl _) hB3 (Nat.le_refl _)
    have HLT : Hid (w.heap.size < w2.heap.size ∧ w3.heap.size = w2.heap.size + 1) := ⟨hlt, hs3⟩
    have HWA : Hid (Calls Tryz.prog 41 #[.pointer (some ⟨p, 0, none⟩), .slice (some ⟨w3.heap.size, 0, none⟩) 1 1] (w3.alloc (.cells #[.string ⟨#[59]⟩] 9)) (PPost p g cap ts d unitIs ((PSof ts i full).want [59]) w3)) := want_one p g cap ts HE.out i d full [59] (by simp) w3 HP3.out
    obtain ⟨ru, hru⟩ : ∃ r, (PSof ts i full).want [59] = r := ⟨_, rfl⟩
    have HR2 : Hid (R = ru.bind fun _ s => .ok (.node k9 n9 m9 a9 ks9) s) := by
      show _ = _
      rw [HR.out, ← hru]; rfl
    rw [hru] at HWA
    clear hP hS hB3 hlt hs3 hru hT hT' hL
    unfold kidV
    go_wp2_with fail
    refine HWA.out.mono ?_
    cases ru with
    | no why at_ =>
      rintro e w4 ⟨rfl, hS⟩
      have HS : Hid (Sole p w w4) := HS3.out.trans hS
      clear hS
      go_wp2
      refine ⟨rfl, ?_⟩
      rw [HR2.out]
      exact ⟨rfl, HS.out⟩
    | ok u st =>
      rintro e w4 ⟨v, i, full, rfl, rfl, rfl, hP, hS⟩
      have hp := HP.out.1
      have hl := HLT.out
      have HP4 : Hid (PP w4 p g cap ts i d full) := hP
      have HS4 : Hid (Sole p w w4) := HS3.out.trans hS
      obtain ⟨z0, z1, z2, z3, z4, y0, y1, y2, y3, y4⟩ := HZ3.out.block (hS.block _ (by omega) (by omega))
      obtain ⟨t0, t1, t2, t3, t4⟩ := HK3.out.block (hS.block _ (by omega) (by omega))
      have HT4 : Hid (treeIs (w.heap.size + 1) (.node k9 n9 m9 a9 ks9) w4 (kidV k9 n9 m9 a9 (.slice o9 len9 cap9))) := HT3.out.sole (Nat.le_refl _) (by omega) hS
      clear hP hS hp hl
      go_wp2
      have q := res5 w4 w.heap.size (.int .i64 k9) (.string ⟨n9.toArray⟩) (.int .i64 m9) (.int .i64 a9) (.slice o9 len9 cap9) z0 z1 z2 z3 z4
      have hBz := below_set5 w4 w.heap.size w.heap.size (.int .i64 k9) (.string ⟨n9.toArray⟩) (.int .i64 m9) (.int .i64 a9) (.slice o9 len9 cap9) (Nat.le_refl _)
      have hbt := but_set5 w4 w.heap.size (.int .i64 k9) (.string ⟨n9.toArray⟩) (.int .i64 m9) (.int .i64 a9) (.slice o9 len9 cap9)
      generalize ((((w4.setCell ⟨w.heap.size, 0, none⟩ (.int .i64 k9)).setCell ⟨w.heap.size, 1, none⟩ (.string ⟨n9.toArray⟩)).setCell ⟨w.heap.size, 2, none⟩ (.int .i64 m9)).setCell ⟨w.heap.size, 3, none⟩ (.int .i64 a9)).setCell ⟨w.heap.size, 4, none⟩ (.slice o9 len9 cap9) = wz at q hBz hbt ⊢
      obtain ⟨q0, q1, q2, q3, q4⟩ := q
      refine bodyPost_ret (v := .agg #[.int .i64 k9, .string ⟨n9.toArray⟩, .int .i64 m9, .int .i64 a9, .slice o9 len9 cap9]) (by simp [results, Tryz.results145, go_sem, q0, q1, q2, q3, q4]) rfl ?_
      rw [HR2.out]
      exact ⟨_, i, full, rfl, HT4.out.but (Nat.le_succ _) (Nat.lt_succ_self _) (fun b _ hb => hbt b hb), rfl, HP4.out.of_blocks (hBz.block p HP.out.1) (hBz.block g HP.out.2), HS4.out.below_after hBz⟩
end Go.Proofs.YteokdknaadckbaaGreatDoor
namespace Go.Proofs.YteokdknaadckbaaGreatDoor
open Go.RowKit

set_option maxRecDepth 4000 in
theorem declaration_void (p g cap : Nat) (ts : List Tok) (d : Int) (w : World) (hp : p < w.heap.size) (hg : g < w.heap.size) (r : Ans Tree)
    (H0 : Hid (∀ w1, Below w.heap.size w w1 → Calls Tryz.prog 75 #[.pointer (some ⟨p, 0, none⟩), .string ⟨#[118, 111, 105, 100]⟩] w1 fun e w' => e = .returned (.bool true) ∧ Below w1.heap.size w1 w'))
    (HT : Hid (∀ w1, Below w.heap.size w w1 → Calls Tryz.prog 112 #[.pointer (some ⟨p, 0, none⟩), .int .i64 13] w1 (PPost p g cap ts d (treeIs w1.heap.size) r w1))) :
    Calls Tryz.prog 146 #[.pointer (some ⟨p, 0, none⟩)] w (PPost p g cap ts d (treeIs w.heap.size) r w) := by
  have HP : Hid (p < w.heap.size ∧ g < w.heap.size) := ⟨hp, hg⟩
  clear hp hg
  go_enter Tryz.func146, Tryz.ntmps146
  go_wp2_with fail
  refine (H0.out _ ((Below.refl _ _).alloc (Nat.le_refl _) _)).mono ?_
  rintro e w1 ⟨rfl, hB⟩
  have HB1 : Hid (Below w.heap.size w w1) := ((Below.refl _ _).alloc (Nat.le_refl _) _).trans (hB.mono (by simp))
  have HZ : Hid (Tre w1 w.heap.size ∧ w.heap.size < w1.heap.size) := ⟨(Tre.made w 29).block (hB.block _ (by simp)), by have := hB.size; simp at this; omega⟩
  clear hB
  go_wp2_with fail
  refine (HT.out _ HB1.out).mono ?_
  cases r with
  | no why at_ =>
    rintro e w9 ⟨rfl, hS⟩
    have HS9 : Hid (Sole p w w9) := (Sole.of_below HB1.out).trans hS
    clear hS
    go_wp2
    exact ⟨rfl, rfl, HS9.out⟩
  | ok t st =>
    rintro e w9 ⟨v, i, full, rfl, hT, rfl, hP, hS⟩
    obtain ⟨k9, n9, m9, a9, ks9⟩ := t
    obtain ⟨sl, rfl, hL⟩ := treeAt_node.1 hT
    obtain ⟨o9, len9, cap9, rfl⟩ := hL.shape
    have HT9 : Hid (treeIs w1.heap.size (.node k9 n9 m9 a9 ks9) w9 (kidV k9 n9 m9 a9 (.slice o9 len9 cap9))) := hT
    have HP9 : Hid (PP w9 p g cap ts i d full) := hP
    have HS9 : Hid (Sole p w w9) := (Sole.of_below HB1.out).trans hS
    obtain ⟨z0, z1, z2, z3, z4, y0, y1, y2, y3, y4⟩ := HZ.out.1.block (hS.block w.heap.size HZ.out.2 (Nat.ne_of_gt HP.out.1))
    clear hP hS hT hL
    unfold kidV at HT9 ⊢
    go_wp2
    have q := res5 w9 w.heap.size (.int .i64 k9) (.string ⟨n9.toArray⟩) (.int .i64 m9) (.int .i64 a9) (.slice o9 len9 cap9) z0 z1 z2 z3 z4
    have hBz := below_set5 w9 w.heap.size w.heap.size (.int .i64 k9) (.string ⟨n9.toArray⟩) (.int .i64 m9) (.int .i64 a9) (.slice o9 len9 cap9) (Nat.le_refl _)
    have hbt := but_set5 w9 w.heap.size (.int .i64 k9) (.string ⟨n9.toArray⟩) (.int .i64 m9) (.int .i64 a9) (.slice o9 len9 cap9)
    generalize ((((w9.setCell ⟨w.heap.size, 0, none⟩ (.int .i64 k9)).setCell ⟨w.heap.size, 1, none⟩ (.string ⟨n9.toArray⟩)).setCell ⟨w.heap.size, 2, none⟩ (.int .i64 m9)).setCell ⟨w.heap.size, 3, none⟩ (.int .i64 a9)).setCell ⟨w.heap.size, 4, none⟩ (.slice o9 len9 cap9) = wz at q hBz hbt ⊢
    obtain ⟨q0, q1, q2, q3, q4⟩ := q
    exact bodyPost_ret (v := .agg #[.int .i64 k9, .string ⟨n9.toArray⟩, .int .i64 m9, .int .i64 a9, .slice o9 len9 cap9]) (by simp [results, Tryz.results146, go_sem, q0, q1, q2, q3, q4]) rfl
      ⟨_, i, full, rfl, HT9.out.but (Nat.le_of_lt HZ.out.2) HZ.out.2 (fun b _ hb => hbt b hb), rfl, HP9.out.of_blocks (hBz.block p HP.out.1) (hBz.block g HP.out.2), HS9.out.below_after hBz⟩

set_option maxRecDepth 4000 in
theorem declaration_else (p g cap : Nat) (ts : List Tok) (d : Int) (w : World) (hp : p < w.heap.size) (hg : g < w.heap.size) (r : Ans Tree)
    (H0 : Hid (∀ w1, Below w.heap.size w w1 → Calls Tryz.prog 75 #[.pointer (some ⟨p, 0, none⟩), .string ⟨#[118, 111, 105, 100]⟩] w1 fun e w' => e = .returned (.bool false) ∧ Below w1.heap.size w1 w'))
    (HT : Hid (∀ w1, Below w.heap.size w w1 → Calls Tryz.prog 70 #[.pointer (some ⟨p, 0, none⟩)] w1 (PPost p g cap ts d (treeIs w1.heap.size) r w1))) :
    Calls Tryz.prog 146 #[.pointer (some ⟨p, 0, none⟩)] w (PPost p g cap ts d (treeIs w.heap.size) r w) := by
  have HP : Hid (p < w.heap.size ∧ g < w.heap.size) := ⟨hp, hg⟩
  clear hp hg
  go_enter Tryz.func146, Tryz.ntmps146
  go_wp2_with fail
  refine (H0.out _ ((Below.refl _ _).alloc (Nat.le_refl _) _)).mono ?_
  rintro e w1 ⟨rfl, hB⟩
  have HB1 : Hid (Below w.heap.size w w1) := ((Below.refl _ _).alloc (Nat.le_refl _) _).trans (hB.mono (by simp))
  have HZ : Hid (Tre w1 w.heap.size ∧ w.heap.size < w1.heap.size) := ⟨(Tre.made w 29).block (hB.block _ (by simp)), by have := hB.size; simp at this; omega⟩
  clear hB
  go_wp2_with fail
  refine (HT.out _ HB1.out).mono ?_
  cases r with
  | no why at_ =>
    rintro e w9 ⟨rfl, hS⟩
    have HS9 : Hid (Sole p w w9) := (Sole.of_below HB1.out).trans hS
    clear hS
    go_wp2
    exact ⟨rfl, rfl, HS9.out⟩
  | ok t st =>
    rintro e w9 ⟨v, i, full, rfl, hT, rfl, hP, hS⟩
    obtain ⟨k9, n9, m9, a9, ks9⟩ := t
    obtain ⟨sl, rfl, hL⟩ := treeAt_node.1 hT
    obtain ⟨o9, len9, cap9, rfl⟩ := hL.shape
    have HT9 : Hid (treeIs w1.heap.size (.node k9 n9 m9 a9 ks9) w9 (kidV k9 n9 m9 a9 (.slice o9 len9 cap9))) := hT
    have HP9 : Hid (PP w9 p g cap ts i d full) := hP
    have HS9 : Hid (Sole p w w9) := (Sole.of_below HB1.out).trans hS
    obtain ⟨z0, z1, z2, z3, z4, y0, y1, y2, y3, y4⟩ := HZ.out.1.block (hS.block w.heap.size HZ.out.2 (Nat.ne_of_gt HP.out.1))
    clear hP hS hT hL
    unfold kidV at HT9 ⊢
    go_wp2
    have q := res5 w9 w.heap.size (.int .i64 k9) (.string ⟨n9.toArray⟩) (.int .i64 m9) (.int .i64 a9) (.slice o9 len9 cap9) z0 z1 z2 z3 z4
    have hBz := below_set5 w9 w.heap.size w.heap.size (.int .i64 k9) (.string ⟨n9.toArray⟩) (.int .i64 m9) (.int .i64 a9) (.slice o9 len9 cap9) (Nat.le_refl _)
    have hbt := but_set5 w9 w.heap.size (.int .i64 k9) (.string ⟨n9.toArray⟩) (.int .i64 m9) (.int .i64 a9) (.slice o9 len9 cap9)
    generalize ((((w9.setCell ⟨w.heap.size, 0, none⟩ (.int .i64 k9)).setCell ⟨w.heap.size, 1, none⟩ (.string ⟨n9.toArray⟩)).setCell ⟨w.heap.size, 2, none⟩ (.int .i64 m9)).setCell ⟨w.heap.size, 3, none⟩ (.int .i64 a9)).setCell ⟨w.heap.size, 4, none⟩ (.slice o9 len9 cap9) = wz at q hBz hbt ⊢
    obtain ⟨q0, q1, q2, q3, q4⟩ := q
    exact bodyPost_ret (v := .agg #[.int .i64 k9, .string ⟨n9.toArray⟩, .int .i64 m9, .int .i64 a9, .slice o9 len9 cap9]) (by simp [results, Tryz.results146, go_sem, q0, q1, q2, q3, q4]) rfl
      ⟨_, i, full, rfl, HT9.out.but (Nat.le_of_lt HZ.out.2) HZ.out.2 (fun b _ hb => hbt b hb), rfl, HP9.out.of_blocks (hBz.block p HP.out.1) (hBz.block g HP.out.2), HS9.out.below_after hBz⟩

set_option maxRecDepth 4000 in
theorem result_void (p g cap : Nat) (ts : List Tok) (d : Int) (w : World) (hp : p < w.heap.size) (hg : g < w.heap.size) (r : Ans Tree)
    (H0 : Hid (∀ w1, Below w.heap.size w w1 → Calls Tryz.prog 75 #[.pointer (some ⟨p, 0, none⟩), .string ⟨#[118, 111, 105, 100]⟩] w1 fun e w' => e = .returned (.bool true) ∧ Below w1.heap.size w1 w'))
    (HT : Hid (∀ w1, Below w.heap.size w w1 → Calls Tryz.prog 112 #[.pointer (some ⟨p, 0, none⟩), .int .i64 13] w1 (PPost p g cap ts d (treeIs w1.heap.size) r w1))) :
    Calls Tryz.prog 150 #[.pointer (some ⟨p, 0, none⟩)] w (PPost p g cap ts d (treeIs w.heap.size) r w) := by
  have HP : Hid (p < w.heap.size ∧ g < w.heap.size) := ⟨hp, hg⟩
  clear hp hg
  go_enter Tryz.func150, Tryz.ntmps150
  go_wp2_with fail
  refine (H0.out _ ((Below.refl _ _).alloc (Nat.le_refl _) _)).mono ?_
  rintro e w1 ⟨rfl, hB⟩
  have HB1 : Hid (Below w.heap.size w w1) := ((Below.refl _ _).alloc (Nat.le_refl _) _).trans (hB.mono (by simp))
  have HZ : Hid (Tre w1 w.heap.size ∧ w.heap.size < w1.heap.size) := ⟨(Tre.made w 29).block (hB.block _ (by simp)), by have := hB.size; simp at this; omega⟩
  clear hB
  go_wp2_with fail
  refine (HT.out _ HB1.out).mono ?_
  cases r with
  | no why at_ =>
    rintro e w9 ⟨rfl, hS⟩
    have HS9 : Hid (Sole p w w9) := (Sole.of_below HB1.out).trans hS
    clear hS
    go_wp2
    exact ⟨rfl, rfl, HS9.out⟩
  | ok t st =>
    rintro e w9 ⟨v, i, full, rfl, hT, rfl, hP, hS⟩
    obtain ⟨k9, n9, m9, a9, ks9⟩ := t
    obtain ⟨sl, rfl, hL⟩ := treeAt_node.1 hT
    obtain ⟨o9, len9, cap9, rfl⟩ := hL.shape
    have HT9 : Hid (treeIs w1.heap.size (.node k9 n9 m9 a9 ks9) w9 (kidV k9 n9 m9 a9 (.slice o9 len9 cap9))) := hT
    have HP9 : Hid (PP w9 p g cap ts i d full) := hP
    have HS9 : Hid (Sole p w w9) := (Sole.of_below HB1.out).trans hS
    obtain ⟨z0, z1, z2, z3, z4, y0, y1, y2, y3, y4⟩ := HZ.out.1.block (hS.block w.heap.size HZ.out.2 (Nat.ne_of_gt HP.out.1))
    clear hP hS hT hL
    unfold kidV at HT9 ⊢
    go_wp2
    have q := res5 w9 w.heap.size (.int .i64 k9) (.string ⟨n9.toArray⟩) (.int .i64 m9) (.int .i64 a9) (.slice o9 len9 cap9) z0 z1 z2 z3 z4
    have hBz := below_set5 w9 w.heap.size w.heap.size (.int .i64 k9) (.string ⟨n9.toArray⟩) (.int .i64 m9) (.int .i64 a9) (.slice o9 len9 cap9) (Nat.le_refl _)
    have hbt := but_set5 w9 w.heap.size (.int .i64 k9) (.string ⟨n9.toArray⟩) (.int .i64 m9) (.int .i64 a9) (.slice o9 len9 cap9)
    generalize ((((w9.setCell ⟨w.heap.size, 0, none⟩ (.int .i64 k9)).setCell ⟨w.heap.size, 1, none⟩ (.string ⟨n9.toArray⟩)).setCell ⟨w.heap.size, 2, none⟩ (.int .i64 m9)).setCell ⟨w.heap.size, 3, none⟩ (.int .i64 a9)).setCell ⟨w.heap.size, 4, none⟩ (.slice o9 len9 cap9) = wz at q hBz hbt ⊢
    obtain ⟨q0, q1, q2, q3, q4⟩ := q
    exact bodyPost_ret (v := .agg #[.int .i64 k9, .string ⟨n9.toArray⟩, .int .i64 m9, .int .i64 a9, .slice o9 len9 cap9]) (by simp [results, Tryz.results150, go_sem, q0, q1, q2, q3, q4]) rfl
      ⟨_, i, full, rfl, HT9.out.but (Nat.le_of_lt HZ.out.2) HZ.out.2 (fun b _ hb => hbt b hb), rfl, HP9.out.of_blocks (hBz.block p HP.out.1) (hBz.block g HP.out.2), HS9.out.below_after hBz⟩

set_option maxRecDepth 4000 in
theorem result_else (p g cap : Nat) (ts : List Tok) (d : Int) (w : World) (hp : p < w.heap.size) (hg : g < w.heap.size) (r : Ans Tree)
    (H0 : Hid (∀ w1, Below w.heap.size w w1 → Calls Tryz.prog 75 #[.pointer (some ⟨p, 0, none⟩), .string ⟨#[118, 111, 105, 100]⟩] w1 fun e w' => e = .returned (.bool false) ∧ Below w1.heap.size w1 w'))
    (HT : Hid (∀ w1, Below w.heap.size w w1 → Calls Tryz.prog 142 #[.pointer (some ⟨p, 0, none⟩)] w1 (PPost p g cap ts d (treeIs w1.heap.size) r w1))) :
    Calls Tryz.prog 150 #[.pointer (some ⟨p, 0, none⟩)] w (PPost p g cap ts d (treeIs w.heap.size) r w) := by
  have HP : Hid (p < w.heap.size ∧ g < w.heap.size) := ⟨hp, hg⟩
  clear hp hg
  go_enter Tryz.func150, Tryz.ntmps150
  go_wp2_with fail
  refine (H0.out _ ((Below.refl _ _).alloc (Nat.le_refl _) _)).mono ?_
  rintro e w1 ⟨rfl, hB⟩
  have HB1 : Hid (Below w.heap.size w w1) := ((Below.refl _ _).alloc (Nat.le_refl _) _).trans (hB.mono (by simp))
  have HZ : Hid (Tre w1 w.heap.size ∧ w.heap.size < w1.heap.size) := ⟨(Tre.made w 29).block (hB.block _ (by simp)), by have := hB.size; simp at this; omega⟩
  clear hB
  go_wp2_with fail
  refine (HT.out _ HB1.out).mono ?_
  cases r with
  | no why at_ =>
    rintro e w9 ⟨rfl, hS⟩
    have HS9 : Hid (Sole p w w9) := (Sole.of_below HB1.out).trans hS
    clear hS
    go_wp2
    exact ⟨rfl, rfl, HS9.out⟩
  | ok t st =>
    rintro e w9 ⟨v, i, full, rfl, hT, rfl, hP, hS⟩
    obtain ⟨k9, n9, m9, a9, ks9⟩ := t
    obtain ⟨sl, rfl, hL⟩ := treeAt_node.1 hT
    obtain ⟨o9, len9, cap9, rfl⟩ := hL.shape
    have HT9 : Hid (treeIs w1.heap.size (.node k9 n9 m9 a9 ks9) w9 (kidV k9 n9 m9 a9 (.slice o9 len9 cap9))) := hT
    have HP9 : Hid (PP w9 p g cap ts i d full) := hP
    have HS9 : Hid (Sole p w w9) := (Sole.of_below HB1.out).trans hS
    obtain ⟨z0, z1, z2, z3, z4, y0, y1, y2, y3, y4⟩ := HZ.out.1.block (hS.block w.heap.size HZ.out.2 (Nat.ne_of_gt HP.out.1))
    clear hP hS hT hL
    unfold kidV at HT9 ⊢
    go_wp2
    have q := res5 w9 w.heap.size (.int .i64 k9) (.string ⟨n9.toArray⟩) (.int .i64 m9) (.int .i64 a9) (.slice o9 len9 cap9) z0 z1 z2 z3 z4
    have hBz := below_set5 w9 w.heap.size w.heap.size (.int .i64 k9) (.string ⟨n9.toArray⟩) (.int .i64 m9) (.int .i64 a9) (.slice o9 len9 cap9) (Nat.le_refl _)
    have hbt := but_set5 w9 w.heap.size (.int .i64 k9) (.string ⟨n9.toArray⟩) (.int .i64 m9) (.int .i64 a9) (.slice o9 len9 cap9)
    generalize ((((w9.setCell ⟨w.heap.size, 0, none⟩ (.int .i64 k9)).setCell ⟨w.heap.size, 1, none⟩ (.string ⟨n9.toArray⟩)).setCell ⟨w.heap.size, 2, none⟩ (.int .i64 m9)).setCell ⟨w.heap.size, 3, none⟩ (.int .i64 a9)).setCell ⟨w.heap.size, 4, none⟩ (.slice o9 len9 cap9) = wz at q hBz hbt ⊢
    obtain ⟨q0, q1, q2, q3, q4⟩ := q
    exact bodyPost_ret (v := .agg #[.int .i64 k9, .string ⟨n9.toArray⟩, .int .i64 m9, .int .i64 a9, .slice o9 len9 cap9]) (by simp [results, Tryz.results150, go_sem, q0, q1, q2, q3, q4]) rfl
      ⟨_, i, full, rfl, HT9.out.but (Nat.le_of_lt HZ.out.2) HZ.out.2 (fun b _ hb => hbt b hb), rfl, HP9.out.of_blocks (hBz.block p HP.out.1) (hBz.block g HP.out.2), HS9.out.below_after hBz⟩

theorem declaration_any (p g cap : Nat) (ts : List Tok) (hE : Ends ts) (d : Int) (B : PS → Ans Tree) (hS : Keeps p g cap ts d 70 (somethingP B)) : Keeps p g cap ts d 146 (declarationP B) := by
  intro i full w h hba
  have HSE : ∀ w1, Below w.heap.size w w1 → Calls Tryz.prog 75 #[.pointer (some ⟨p, 0, none⟩), .string ⟨#[118, 111, 105, 100]⟩] w1 fun e w' => e = .returned (.bool ((PSof ts i full).sees wVoid)) ∧ Below w1.heap.size w1 w' := fun w1 hB => by
    have hx := sees_any p g cap ts i d full ⟨#[118, 111, 105, 100]⟩ w1 (h.below hB)
    rw [ByteArray.toList_mk] at hx
    exact hx
  show Calls _ _ _ _ (PPost p g cap ts d _ (if (PSof ts i full).sees wVoid then aloneP 13 (PSof ts i full) else somethingP B (PSof ts i full)) w)
  cases hse : (PSof ts i full).sees wVoid
  · rw [hse] at HSE
    rw [if_neg (by simp)]
    exact declaration_else p g cap ts d w h.plt h.glt _ HSE (fun w1 hB => hS i full w1 (h.below hB) (hba.below hB))
  · have hi : i + 1 < ts.length := by
      refine hE.text h.il ?_
      unfold PS.sees at hse
      rw [PSof_hd ts i full h.il] at hse
      rw [show (ts[i]'h.il).text = wVoid by simpa using hse]
      simp [wVoid]
    rw [hse] at HSE
    rw [if_pos rfl]
    exact declaration_void p g cap ts d w h.plt h.glt _ HSE (fun w1 hB => alone_any p g cap ts i d 13 full w1 (h.below hB) hi)
theorem result_any (p g cap : Nat) (ts : List Tok) (hE : Ends ts) (d : Int) (hS : Keeps p g cap ts d 142 bareP) : Keeps p g cap ts d 150 (resultP) := by
  intro i full w h hba
  have HSE : ∀ w1, Below w.heap.size w w1 → Calls Tryz.prog 75 #[.pointer (some ⟨p, 0, none⟩), .string ⟨#[118, 111, 105, 100]⟩] w1 fun e w' => e = .returned (.bool ((PSof ts i full).sees wVoid)) ∧ Below w1.heap.size w1 w' := fun w1 hB => by
    have hx := sees_any p g cap ts i d full ⟨#[118, 111, 105, 100]⟩ w1 (h.below hB)
    rw [ByteArray.toList_mk] at hx
    exact hx
  show Calls _ _ _ _ (PPost p g cap ts d _ (if (PSof ts i full).sees wVoid then aloneP 13 (PSof ts i full) else bareP (PSof ts i full)) w)
  cases hse : (PSof ts i full).sees wVoid
  · rw [hse] at HSE
    rw [if_neg (by simp)]
    exact result_else p g cap ts d w h.plt h.glt _ HSE (fun w1 hB => hS i full w1 (h.below hB) (hba.below hB))
  · have hi : i + 1 < ts.length := by
      refine hE.text h.il ?_
      unfold PS.sees at hse
      rw [PSof_hd ts i full h.il] at hse
      rw [show (ts[i]'h.il).text = wVoid by simpa using hse]
      simp [wVoid]
    rw [hse] at HSE
    rw [if_pos rfl]
    exact result_void p g cap ts d w h.plt h.glt _ HSE (fun w1 hB => alone_any p g cap ts i d 13 full w1 (h.below hB) hi)
end Go.Proofs.YteokdknaadckbaaGreatDoor
namespace Go.Proofs.YteokdknaadckbaaGreatDoor
open Go.RowKit

set_option maxRecDepth 4000 in
theorem written_enum (p g cap : Nat) (ts : List Tok) (d k m : Int) (t : List UInt8) (a : Nat) (w : World) (hp : p < w.heap.size) (hg : g < w.heap.size) (r : Ans Tree) (h1 : (t == [101, 110, 117, 109]) = true)
    (H0 : Hid (∀ w1, Below w.heap.size w w1 → Calls Tryz.prog 38 #[.pointer (some ⟨p, 0, none⟩)] w1 fun e w' => e = .returned (.agg #[.int .i64 k, .string ⟨t.toArray⟩, .int .i64 m, .int .i64 a]) ∧ Below w1.heap.size w1 w'))
    (HT : Hid (∀ w1, Below w.heap.size w w1 → Calls Tryz.prog 71 #[.pointer (some ⟨p, 0, none⟩), .bool false] w1 (PPost p g cap ts d (treeIs w1.heap.size) r w1))) :
    Calls Tryz.prog 113 #[.pointer (some ⟨p, 0, none⟩)] w (PPost p g cap ts d (treeIs w.heap.size) r w) := by
  have HP : Hid (p < w.heap.size ∧ g < w.heap.size) := ⟨hp, hg⟩
  clear hp hg
  have q0 := fld1 k m a ⟨t.toArray⟩
  go_enter Tryz.func113, Tryz.ntmps113
  go_wp2_with fail
  refine (H0.out _ ((Below.refl _ _).alloc (Nat.le_refl _) _)).mono ?_
  rintro e w1 ⟨rfl, hB⟩
  have HB1 : Hid (Below w.heap.size w w1) := ((Below.refl _ _).alloc (Nat.le_refl _) _).trans (hB.mono (by simp))
  have HZ : Hid (Tre w1 w.heap.size ∧ w.heap.size < w1.heap.size) := ⟨(Tre.made w 29).block (hB.block _ (by simp)), by have := hB.size; simp at this; omega⟩
  clear hB
  go_wp2_with fail
  refine (HT.out _ HB1.out).mono ?_
  cases r with
  | no why at_ =>
    rintro e w9 ⟨rfl, hS⟩
    have HS9 : Hid (Sole p w w9) := (Sole.of_below HB1.out).trans hS
    clear hS
    go_wp2
    exact ⟨rfl, rfl, HS9.out⟩
  | ok t st =>
    rintro e w9 ⟨v, i, full, rfl, hT, rfl, hP, hS⟩
    obtain ⟨k9, n9, m9, a9, ks9⟩ := t
    obtain ⟨sl, rfl, hL⟩ := treeAt_node.1 hT
    obtain ⟨o9, len9, cap9, rfl⟩ := hL.shape
    have HT9 : Hid (treeIs w1.heap.size (.node k9 n9 m9 a9 ks9) w9 (kidV k9 n9 m9 a9 (.slice o9 len9 cap9))) := hT
    have HP9 : Hid (PP w9 p g cap ts i d full) := hP
    have HS9 : Hid (Sole p w w9) := (Sole.of_below HB1.out).trans hS
    obtain ⟨z0, z1, z2, z3, z4, y0, y1, y2, y3, y4⟩ := HZ.out.1.block (hS.block w.heap.size HZ.out.2 (Nat.ne_of_gt HP.out.1))
    clear hP hS hT hL
    unfold kidV at HT9 ⊢
    go_wp2
    have q := res5 w9 w.heap.size (.int .i64 k9) (.string ⟨n9.toArray⟩) (.int .i64 m9) (.int .i64 a9) (.slice o9 len9 cap9) z0 z1 z2 z3 z4
    have hBz := below_set5 w9 w.heap.size w.heap.size (.int .i64 k9) (.string ⟨n9.toArray⟩) (.int .i64 m9) (.int .i64 a9) (.slice o9 len9 cap9) (Nat.le_refl _)
    have hbt := but_set5 w9 w.heap.size (.int .i64 k9) (.string ⟨n9.toArray⟩) (.int .i64 m9) (.int .i64 a9) (.slice o9 len9 cap9)
    generalize ((((w9.setCell ⟨w.heap.size, 0, none⟩ (.int .i64 k9)).setCell ⟨w.heap.size, 1, none⟩ (.string ⟨n9.toArray⟩)).setCell ⟨w.heap.size, 2, none⟩ (.int .i64 m9)).setCell ⟨w.heap.size, 3, none⟩ (.int .i64 a9)).setCell ⟨w.heap.size, 4, none⟩ (.slice o9 len9 cap9) = wz at q hBz hbt ⊢
    obtain ⟨q0, q1, q2, q3, q4⟩ := q
    exact bodyPost_ret (v := .agg #[.int .i64 k9, .string ⟨n9.toArray⟩, .int .i64 m9, .int .i64 a9, .slice o9 len9 cap9]) (by simp [results, Tryz.results113, go_sem, q0, q1, q2, q3, q4]) rfl
      ⟨_, i, full, rfl, HT9.out.but (Nat.le_of_lt HZ.out.2) HZ.out.2 (fun b _ hb => hbt b hb), rfl, HP9.out.of_blocks (hBz.block p HP.out.1) (hBz.block g HP.out.2), HS9.out.below_after hBz⟩

set_option maxRecDepth 4000 in
theorem written_struct (p g cap : Nat) (ts : List Tok) (d k m : Int) (t : List UInt8) (a : Nat) (w : World) (hp : p < w.heap.size) (hg : g < w.heap.size) (r : Ans Tree) (h1 : (t == [101, 110, 117, 109]) = false) (h2 : (t == [115, 116, 114, 117, 99, 116]) = true)
    (H0 : Hid (∀ w1, Below w.heap.size w w1 → Calls Tryz.prog 38 #[.pointer (some ⟨p, 0, none⟩)] w1 fun e w' => e = .returned (.agg #[.int .i64 k, .string ⟨t.toArray⟩, .int .i64 m, .int .i64 a]) ∧ Below w1.heap.size w1 w'))
    (HT : Hid (∀ w1, Below w.heap.size w w1 → Calls Tryz.prog 71 #[.pointer (some ⟨p, 0, none⟩), .bool false] w1 (PPost p g cap ts d (treeIs w1.heap.size) r w1))) :
    Calls Tryz.prog 113 #[.pointer (some ⟨p, 0, none⟩)] w (PPost p g cap ts d (treeIs w.heap.size) r w) := by
  have HP : Hid (p < w.heap.size ∧ g < w.heap.size) := ⟨hp, hg⟩
  clear hp hg
  have q0 := fld1 k m a ⟨t.toArray⟩
  go_enter Tryz.func113, Tryz.ntmps113
  go_wp2_with fail
  refine (H0.out _ ((Below.refl _ _).alloc (Nat.le_refl _) _)).mono ?_
  rintro e w1 ⟨rfl, hB⟩
  have HB1 : Hid (Below w.heap.size w w1) := ((Below.refl _ _).alloc (Nat.le_refl _) _).trans (hB.mono (by simp))
  have HZ : Hid (Tre w1 w.heap.size ∧ w.heap.size < w1.heap.size) := ⟨(Tre.made w 29).block (hB.block _ (by simp)), by have := hB.size; simp at this; omega⟩
  clear hB
  go_wp2_with fail
  refine (HT.out _ HB1.out).mono ?_
  cases r with
  | no why at_ =>
    rintro e w9 ⟨rfl, hS⟩
    have HS9 : Hid (Sole p w w9) := (Sole.of_below HB1.out).trans hS
    clear hS
    go_wp2
    exact ⟨rfl, rfl, HS9.out⟩
  | ok t st =>
    rintro e w9 ⟨v, i, full, rfl, hT, rfl, hP, hS⟩
    obtain ⟨k9, n9, m9, a9, ks9⟩ := t
    obtain ⟨sl, rfl, hL⟩ := treeAt_node.1 hT
    obtain ⟨o9, len9, cap9, rfl⟩ := hL.shape
    have HT9 : Hid (treeIs w1.heap.size (.node k9 n9 m9 a9 ks9) w9 (kidV k9 n9 m9 a9 (.slice o9 len9 cap9))) := hT
    have HP9 : Hid (PP w9 p g cap ts i d full) := hP
    have HS9 : Hid (Sole p w w9) := (Sole.of_below HB1.out).trans hS
    obtain ⟨z0, z1, z2, z3, z4, y0, y1, y2, y3, y4⟩ := HZ.out.1.block (hS.block w.heap.size HZ.out.2 (Nat.ne_of_gt HP.out.1))
    clear hP hS hT hL
    unfold kidV at HT9 ⊢
    go_wp2
    have q := res5 w9 w.heap.size (.int .i64 k9) (.string ⟨n9.toArray⟩) (.int .i64 m9) (.int .i64 a9) (.slice o9 len9 cap9) z0 z1 z2 z3 z4
    have hBz := below_set5 w9 w.heap.size w.heap.size (.int .i64 k9) (.string ⟨n9.toArray⟩) (.int .i64 m9) (.int .i64 a9) (.slice o9 len9 cap9) (Nat.le_refl _)
    have hbt := but_set5 w9 w.heap.size (.int .i64 k9) (.string ⟨n9.toArray⟩) (.int .i64 m9) (.int .i64 a9) (.slice o9 len9 cap9)
    generalize ((((w9.setCell ⟨w.heap.size, 0, none⟩ (.int .i64 k9)).setCell ⟨w.heap.size, 1, none⟩ (.string ⟨n9.toArray⟩)).setCell ⟨w.heap.size, 2, none⟩ (.int .i64 m9)).setCell ⟨w.heap.size, 3, none⟩ (.int .i64 a9)).setCell ⟨w.heap.size, 4, none⟩ (.slice o9 len9 cap9) = wz at q hBz hbt ⊢
    obtain ⟨q0, q1, q2, q3, q4⟩ := q
    exact bodyPost_ret (v := .agg #[.int .i64 k9, .string ⟨n9.toArray⟩, .int .i64 m9, .int .i64 a9, .slice o9 len9 cap9]) (by simp [results, Tryz.results113, go_sem, q0, q1, q2, q3, q4]) rfl
      ⟨_, i, full, rfl, HT9.out.but (Nat.le_of_lt HZ.out.2) HZ.out.2 (fun b _ hb => hbt b hb), rfl, HP9.out.of_blocks (hBz.block p HP.out.1) (hBz.block g HP.out.2), HS9.out.below_after hBz⟩

set_option maxRecDepth 4000 in
theorem written_union (p g cap : Nat) (ts : List Tok) (d k m : Int) (t : List UInt8) (a : Nat) (w : World) (hp : p < w.heap.size) (hg : g < w.heap.size) (r : Ans Tree) (h1 : (t == [101, 110, 117, 109]) = false) (h2 : (t == [115, 116, 114, 117, 99, 116]) = false) (h3 : (t == [117, 110, 105, 111, 110]) = true)
    (H0 : Hid (∀ w1, Below w.heap.size w w1 → Calls Tryz.prog 38 #[.pointer (some ⟨p, 0, none⟩)] w1 fun e w' => e = .returned (.agg #[.int .i64 k, .string ⟨t.toArray⟩, .int .i64 m, .int .i64 a]) ∧ Below w1.heap.size w1 w'))
    (HT : Hid (∀ w1, Below w.heap.size w w1 → Calls Tryz.prog 71 #[.pointer (some ⟨p, 0, none⟩), .bool false] w1 (PPost p g cap ts d (treeIs w1.heap.size) r w1))) :
    Calls Tryz.prog 113 #[.pointer (some ⟨p, 0, none⟩)] w (PPost p g cap ts d (treeIs w.heap.size) r w) := by
  have HP : Hid (p < w.heap.size ∧ g < w.heap.size) := ⟨hp, hg⟩
  clear hp hg
  have q0 := fld1 k m a ⟨t.toArray⟩
  go_enter Tryz.func113, Tryz.ntmps113
  go_wp2_with fail
  refine (H0.out _ ((Below.refl _ _).alloc (Nat.le_refl _) _)).mono ?_
  rintro e w1 ⟨rfl, hB⟩
  have HB1 : Hid (Below w.heap.size w w1) := ((Below.refl _ _).alloc (Nat.le_refl _) _).trans (hB.mono (by simp))
  have HZ : Hid (Tre w1 w.heap.size ∧ w.heap.size < w1.heap.size) := ⟨(Tre.made w 29).block (hB.block _ (by simp)), by have := hB.size; simp at this; omega⟩
  clear hB
  go_wp2_with fail
  refine (HT.out _ HB1.out).mono ?_
  cases r with
  | no why at_ =>
    rintro e w9 ⟨rfl, hS⟩
    have HS9 : Hid (Sole p w w9) := (Sole.of_below HB1.out).trans hS
    clear hS
    go_wp2
    exact ⟨rfl, rfl, HS9.out⟩
  | ok t st =>
    rintro e w9 ⟨v, i, full, rfl, hT, rfl, hP, hS⟩
    obtain ⟨k9, n9, m9, a9, ks9⟩ := t
    obtain ⟨sl, rfl, hL⟩ := treeAt_node.1 hT
    obtain ⟨o9, len9, cap9, rfl⟩ := hL.shape
    have HT9 : Hid (treeIs w1.heap.size (.node k9 n9 m9 a9 ks9) w9 (kidV k9 n9 m9 a9 (.slice o9 len9 cap9))) := hT
    have HP9 : Hid (PP w9 p g cap ts i d full) := hP
    have HS9 : Hid (Sole p w w9) := (Sole.of_below HB1.out).trans hS
    obtain ⟨z0, z1, z2, z3, z4, y0, y1, y2, y3, y4⟩ := HZ.out.1.block (hS.block w.heap.size HZ.out.2 (Nat.ne_of_gt HP.out.1))
    clear hP hS hT hL
    unfold kidV at HT9 ⊢
    go_wp2
    have q := res5 w9 w.heap.size (.int .i64 k9) (.string ⟨n9.toArray⟩) (.int .i64 m9) (.int .i64 a9) (.slice o9 len9 cap9) z0 z1 z2 z3 z4
    have hBz := below_set5 w9 w.heap.size w.heap.size (.int .i64 k9) (.string ⟨n9.toArray⟩) (.int .i64 m9) (.int .i64 a9) (.slice o9 len9 cap9) (Nat.le_refl _)
    have hbt := but_set5 w9 w.heap.size (.int .i64 k9) (.string ⟨n9.toArray⟩) (.int .i64 m9) (.int .i64 a9) (.slice o9 len9 cap9)
    generalize ((((w9.setCell ⟨w.heap.size, 0, none⟩ (.int .i64 k9)).setCell ⟨w.heap.size, 1, none⟩ (.string ⟨n9.toArray⟩)).setCell ⟨w.heap.size, 2, none⟩ (.int .i64 m9)).setCell ⟨w.heap.size, 3, none⟩ (.int .i64 a9)).setCell ⟨w.heap.size, 4, none⟩ (.slice o9 len9 cap9) = wz at q hBz hbt ⊢
    obtain ⟨q0, q1, q2, q3, q4⟩ := q
    exact bodyPost_ret (v := .agg #[.int .i64 k9, .string ⟨n9.toArray⟩, .int .i64 m9, .int .i64 a9, .slice o9 len9 cap9]) (by simp [results, Tryz.results113, go_sem, q0, q1, q2, q3, q4]) rfl
      ⟨_, i, full, rfl, HT9.out.but (Nat.le_of_lt HZ.out.2) HZ.out.2 (fun b _ hb => hbt b hb), rfl, HP9.out.of_blocks (hBz.block p HP.out.1) (hBz.block g HP.out.2), HS9.out.below_after hBz⟩

set_option maxRecDepth 4000 in
theorem written_bare (p g cap : Nat) (ts : List Tok) (d k m : Int) (t : List UInt8) (a : Nat) (w : World) (hp : p < w.heap.size) (hg : g < w.heap.size) (r : Ans Tree) (h1 : (t == [101, 110, 117, 109]) = false) (h2 : (t == [115, 116, 114, 117, 99, 116]) = false) (h3 : (t == [117, 110, 105, 111, 110]) = false)
    (H0 : Hid (∀ w1, Below w.heap.size w w1 → Calls Tryz.prog 38 #[.pointer (some ⟨p, 0, none⟩)] w1 fun e w' => e = .returned (.agg #[.int .i64 k, .string ⟨t.toArray⟩, .int .i64 m, .int .i64 a]) ∧ Below w1.heap.size w1 w'))
    (HT : Hid (∀ w1, Below w.heap.size w w1 → Calls Tryz.prog 142 #[.pointer (some ⟨p, 0, none⟩)] w1 (PPost p g cap ts d (treeIs w1.heap.size) r w1))) :
    Calls Tryz.prog 113 #[.pointer (some ⟨p, 0, none⟩)] w (PPost p g cap ts d (treeIs w.heap.size) r w) := by
  have HP : Hid (p < w.heap.size ∧ g < w.heap.size) := ⟨hp, hg⟩
  clear hp hg
  have q0 := fld1 k m a ⟨t.toArray⟩
  go_enter Tryz.func113, Tryz.ntmps113
  go_wp2_with fail
  refine (H0.out _ ((Below.refl _ _).alloc (Nat.le_refl _) _)).mono ?_
  rintro e w1 ⟨rfl, hB⟩
  have HB1 : Hid (Below w.heap.size w w1) := ((Below.refl _ _).alloc (Nat.le_refl _) _).trans (hB.mono (by simp))
  have HZ : Hid (Tre w1 w.heap.size ∧ w.heap.size < w1.heap.size) := ⟨(Tre.made w 29).block (hB.block _ (by simp)), by have := hB.size; simp at this; omega⟩
  clear hB
  go_wp2_with fail
  refine (HT.out _ HB1.out).mono ?_
  cases r with
  | no why at_ =>
    rintro e w9 ⟨rfl, hS⟩
    have HS9 : Hid (Sole p w w9) := (Sole.of_below HB1.out).trans hS
    clear hS
    go_wp2
    exact ⟨rfl, rfl, HS9.out⟩
  | ok t st =>
    rintro e w9 ⟨v, i, full, rfl, hT, rfl, hP, hS⟩
    obtain ⟨k9, n9, m9, a9, ks9⟩ := t
    obtain ⟨sl, rfl, hL⟩ := treeAt_node.1 hT
    obtain ⟨o9, len9, cap9, rfl⟩ := hL.shape
    have HT9 : Hid (treeIs w1.heap.size (.node k9 n9 m9 a9 ks9) w9 (kidV k9 n9 m9 a9 (.slice o9 len9 cap9))) := hT
    have HP9 : Hid (PP w9 p g cap ts i d full) := hP
    have HS9 : Hid (Sole p w w9) := (Sole.of_below HB1.out).trans hS
    obtain ⟨z0, z1, z2, z3, z4, y0, y1, y2, y3, y4⟩ := HZ.out.1.block (hS.block w.heap.size HZ.out.2 (Nat.ne_of_gt HP.out.1))
    clear hP hS hT hL
    unfold kidV at HT9 ⊢
    go_wp2
    have q := res5 w9 w.heap.size (.int .i64 k9) (.string ⟨n9.toArray⟩) (.int .i64 m9) (.int .i64 a9) (.slice o9 len9 cap9) z0 z1 z2 z3 z4
    have hBz := below_set5 w9 w.heap.size w.heap.size (.int .i64 k9) (.string ⟨n9.toArray⟩) (.int .i64 m9) (.int .i64 a9) (.slice o9 len9 cap9) (Nat.le_refl _)
    have hbt := but_set5 w9 w.heap.size (.int .i64 k9) (.string ⟨n9.toArray⟩) (.int .i64 m9) (.int .i64 a9) (.slice o9 len9 cap9)
    generalize ((((w9.setCell ⟨w.heap.size, 0, none⟩ (.int .i64 k9)).setCell ⟨w.heap.size, 1, none⟩ (.string ⟨n9.toArray⟩)).setCell ⟨w.heap.size, 2, none⟩ (.int .i64 m9)).setCell ⟨w.heap.size, 3, none⟩ (.int .i64 a9)).setCell ⟨w.heap.size, 4, none⟩ (.slice o9 len9 cap9) = wz at q hBz hbt ⊢
    obtain ⟨q0, q1, q2, q3, q4⟩ := q
    exact bodyPost_ret (v := .agg #[.int .i64 k9, .string ⟨n9.toArray⟩, .int .i64 m9, .int .i64 a9, .slice o9 len9 cap9]) (by simp [results, Tryz.results113, go_sem, q0, q1, q2, q3, q4]) rfl
      ⟨_, i, full, rfl, HT9.out.but (Nat.le_of_lt HZ.out.2) HZ.out.2 (fun b _ hb => hbt b hb), rfl, HP9.out.of_blocks (hBz.block p HP.out.1) (hBz.block g HP.out.2), HS9.out.below_after hBz⟩

/-- what reads a body without a name keeps to B -/
def KeepsB (p g cap : Nat) (ts : List Tok) (d : Int) (B : PS → Ans Tree) : Prop :=
  ∀ i full w, i + 1 < ts.length → PP w p g cap ts i d full → BareAt p w → Calls Tryz.prog 71 #[.pointer (some ⟨p, 0, none⟩), .bool false] w (PPost p g cap ts d (treeIs w.heap.size) (B (PSof ts i full)) w)
theorem written_any (p g cap : Nat) (ts : List Tok) (hE : Ends ts) (d : Int) (B : PS → Ans Tree) (hB : KeepsB p g cap ts d B) (hS : Keeps p g cap ts d 142 bareP) : Keeps p g cap ts d 113 (writtenP B) := by
  intro i full w h hba
  have hix : ∀ t : List UInt8, t ≠ [] → ((ts[i]'h.il).text == t) = true → i + 1 < ts.length := fun t ht e => hE.text h.il (by rw [show (ts[i]'h.il).text = t by simpa using e]; exact ht)
  have HT : ∀ w1, Below w.heap.size w w1 → Calls Tryz.prog 38 #[.pointer (some ⟨p, 0, none⟩)] w1 fun e w' => e = .returned (tokV (ts[i]'h.il)) ∧ Below w1.heap.size w1 w' := fun w1 hB => token_any p g cap ts i d full w1 (h.below hB)
  unfold writtenP PS.sees
  rw [PSof_hd ts i full h.il]
  cases h1 : ((ts[i]'h.il).text == wEnum)
  · cases h2 : ((ts[i]'h.il).text == wStruct)
    · cases h3 : ((ts[i]'h.il).text == wUnion)
      · exact written_bare p g cap ts d _ _ (ts[i]'h.il).text _ w h.plt h.glt _ h1 h2 h3 HT (fun w1 hw => hS i full w1 (h.below hw) (hba.below hw))
      · exact written_union p g cap ts d _ _ (ts[i]'h.il).text _ w h.plt h.glt _ h1 h2 h3 HT (fun w1 hw => hB i full w1 (hix wUnion (by simp [wUnion]) h3) (h.below hw) (hba.below hw))
    · exact written_struct p g cap ts d _ _ (ts[i]'h.il).text _ w h.plt h.glt _ h1 h2 HT (fun w1 hw => hB i full w1 (hix wStruct (by simp [wStruct]) h2) (h.below hw) (hba.below hw))
  · exact written_enum p g cap ts d _ _ (ts[i]'h.il).text _ w h.plt h.glt _ h1 HT (fun w1 hw => hB i full w1 (hix wEnum (by simp [wEnum]) h1) (h.below hw) (hba.below hw))
end Go.Proofs.YteokdknaadckbaaGreatDoor
namespace Go.Proofs.YteokdknaadckbaaGreatDoor
open Go.RowKit

theorem node_one' {B B4 q : Nat} {w5 wz : World} {k9 m9 k m : Int} {n9 n : List UInt8} {a9 a : Nat} {ks9 : List Tree} {sl : Value} (hT : treeIs B4 (.node k9 n9 m9 a9 ks9) w5 (kidV k9 n9 m9 a9 sl)) (hB : B ≤ B4) (hq : w5.heap.size ≤ q) (hBq : B ≤ q)
    (hf : ∀ b, B4 ≤ b → b < w5.heap.size → wz.heap[b]? = w5.heap[b]?) (h : wz.heap[q]? = some (rowObj [.int .i64 k9, .string ⟨n9.toArray⟩, .int .i64 m9, .int .i64 a9, sl])) :
    treeIs B (.node k n m a [.node k9 n9 m9 a9 ks9]) wz (kidV k n m a (.slice (some ⟨q, 0, none⟩) 1 1)) := by
  refine treeAt_node.2 ⟨_, rfl, _, owns_lit h rfl (by omega), fun g e => by cases e; exact hBq, rowV_one ?_⟩
  refine TreeAt.frame (fun b hb => ⟨Nat.le_trans hB hb.1, fun e => ?_⟩) (fun b hb hl => hf b hb.1 hl) _ _ (TreeAt.there _ _ hT)
  have e2 : q = b := Option.some.inj e
  exact absurd hb.2 (by omega)

def otherwiseP (B : PS → Ans Tree) (s : PS) : Ans Tree :=
  (aloneP 9 s).bind fun e s => (s.want [58]).bind fun _ s => (fieldP B s).bind fun t s =>
    match e with
    | .node k n m i _ => .ok (.node k n m i [t]) s

set_option maxHeartbeats 1000000 in
set_option maxRecDepth 4000 in
theorem otherwise_any (p g cap : Nat) (ts : List Tok) (hE : Ends ts) (d : Int) (B : PS → Ans Tree) (hF : Keeps p g cap ts d 145 (fieldP B)) (i : Nat) (full : Bool) (w : World) (h : PP w p g cap ts i d full) (hba : BareAt p w) (hi : i + 1 < ts.length) :
    Calls Tryz.prog 148 #[.pointer (some ⟨p, 0, none⟩)] w (PPost p g cap ts d (treeIs w.heap.size) (otherwiseP B (PSof ts i full)) w) := by
  have HP : Hid (p < w.heap.size ∧ g < w.heap.size) := ⟨h.plt, h.glt⟩
  have HE : Hid (Ends ts) := hE
  have HBA : Hid (BareAt p w) := hba
  have HF : Hid (Keeps p g cap ts d 145 (fieldP B)) := hF
  have HN : Hid (∀ w1, Below w.heap.size w w1 → Calls Tryz.prog 112 #[.pointer (some ⟨p, 0, none⟩), .int .i64 9] w1 (PPost p g cap ts d (treeIs w1.heap.size) (aloneP 9 (PSof ts i full)) w1)) := fun w1 hB => alone_any p g cap ts i d 9 full w1 (h.below hB) hi
  obtain ⟨R, hR⟩ : ∃ R, otherwiseP B (PSof ts i full) = R := ⟨_, rfl⟩
  rw [hR]
  obtain ⟨rn, hrn⟩ : ∃ rn, aloneP 9 (PSof ts i full) = rn := ⟨_, rfl⟩
  have HR : Hid (R = rn.bind fun e s => (s.want [58]).bind fun _ s => (fieldP B s).bind fun t s =>
    match e with
    | .node k n m i _ => .ok (.node k n m i [t]) s) := by
    show _ = _
    rw [← hR, ← hrn]; rfl
  rw [hrn] at HN
  clear h hE hrn hR hF hi hba
  go_enter Tryz.func148, Tryz.ntmps148
  go_wp2_with fail
  have HB : Hid (Below w.heap.size w (w.alloc (.cells #[.int .i64 0, .string ⟨#[]⟩, .int .i64 0, .int .i64 0, .slice none 0 0] 29))) := (Below.refl _ _).alloc (Nat.le_refl _) _
  refine (HN.out _ HB.out).mono ?_
  cases rn with
  | no why at_ =>
    rintro e w2 ⟨rfl, hS⟩
    have HS : Hid (Sole p w w2) := (Sole.of_below HB.out).trans hS
    clear hS
    go_wp2
    refine ⟨rfl, ?_⟩
    rw [HR.out]
    exact ⟨rfl, HS.out⟩
  | ok t st =>
    rintro e w2 ⟨v, i, full, rfl, hT, rfl, hP, hS⟩
    obtain ⟨k8, n8, m8, a8, ks8⟩ := t
    obtain ⟨sl, rfl, hL⟩ := treeAt_node.1 hT
    obtain ⟨o8, len8, cap8, rfl⟩ := hL.shape
    have hlt : w.heap.size < w2.heap.size := by have := hS.size; simp at this; omega
    obtain ⟨w3, hw3⟩ : ∃ w3, w2.alloc (.cells #[.int .i64 k8, .string ⟨n8.toArray⟩, .int .i64 m8, .int .i64 a8, .slice o8 len8 cap8] 29) = w3 := ⟨_, rfl⟩
    have hB3 : Below w2.heap.size w2 w3 := by rw [← hw3]; exact (Below.refl _ _).alloc (Nat.le_refl _) _
    have hs3 : w3.heap.size = w2.heap.size + 1 := by rw [← hw3]; simp
    have HP3 : Hid (PP w3 p g cap ts i d full) := hP.below hB3
    have HS3 : Hid (Sole p w w3) := ((Sole.of_below HB.out).trans hS).trans (Sole.of_below hB3)
    have HZ3 : Hid (Tre w3 w.heap.size) := ((Tre.made w 29).block (hS.block w.heap.size (by simp) (Nat.ne_of_gt HP.out.1))).block (hB3.block w.heap.size hlt)
    have HK3 : Hid (KidAt w3 w2.heap.size k8 n8 m8 a8 (.slice o8 len8 cap8)) := by show KidAt _ _ _ _ _ _ _; rw [← hw3]; exact KidAt.made _ _ _ _ _ _ _
    have HY3 : Hid (w3.frozen? ⟨w2.heap.size, 4, none⟩ = false) := by show _ = _; rw [← hw3]; simp
    have HLT : Hid (w.heap.size < w2.heap.size ∧ w3.heap.size = w2.heap.size + 1) := ⟨hlt, hs3⟩
    have HWA : Hid (Calls Tryz.prog 41 #[.pointer (some ⟨p, 0, none⟩), .slice (some ⟨w3.heap.size, 0, none⟩) 1 1] (w3.alloc (.cells #[.string ⟨#[58]⟩] 9)) (PPost p g cap ts d unitIs ((PSof ts i full).want [58]) w3)) := want_one p g cap ts HE.out i d full [58] (by simp) w3 HP3.out
    obtain ⟨ru, hru⟩ : ∃ r, (PSof ts i full).want [58] = r := ⟨_, rfl⟩
    have HR2 : Hid (R = ru.bind fun _ s => (fieldP B s).bind fun t s => .ok (.node k8 n8 m8 a8 [t]) s) := by
      show _ = _
      rw [HR.out, ← hru]; rfl
    rw [hru] at HWA
    clear hP hS hB3 hlt hs3 hru hT hL
    unfold kidV
    go_wp2_with fail
    refine HWA.out.mono ?_
    cases ru with
    | no why at_ =>
      rintro e w4 ⟨rfl, hS⟩
      have HS : Hid (Sole p w w4) := HS3.out.trans hS
      clear hS
      go_wp2
      refine ⟨rfl, ?_⟩
      rw [HR2.out]
      exact ⟨rfl, HS.out⟩
    | ok u st =>
      rintro e w4 ⟨v, i, full, rfl, rfl, rfl, hP, hS⟩
      have hp := HP.out.1
      have hl := HLT.out
      have hs := hS.size
      have HS4 : Hid (Sole p w w4) := HS3.out.trans hS
      have HZ4 : Hid (Tre w4 w.heap.size) := HZ3.out.block (hS.block _ (by omega) (by omega))
      have HK4 : Hid (KidAt w4 w2.heap.size k8 n8 m8 a8 (.slice o8 len8 cap8) ∧ w4.frozen? ⟨w2.heap.size, 4, none⟩ = false) := ⟨HK3.out.block (hS.block _ (by omega) (by omega)), (cells_same (hS.block w2.heap.size (by omega) (by omega)) 4).2.trans HY3.out⟩
      have HL4 : Hid (w2.heap.size < w4.heap.size) := by show _ < _; omega
      have HFA : Hid (Calls Tryz.prog 145 #[.pointer (some ⟨p, 0, none⟩)] w4 (PPost p g cap ts d (treeIs w4.heap.size) (fieldP B (PSof ts i full)) w4)) := HF.out i full w4 hP (HBA.out.sole HS4.out)
      obtain ⟨rv, hrv⟩ : ∃ r, fieldP B (PSof ts i full) = r := ⟨_, rfl⟩
      have HR3 : Hid (R = rv.bind fun t s => .ok (.node k8 n8 m8 a8 [t]) s) := by
        show _ = _
        rw [HR2.out, ← hrv]; rfl
      rw [hrv] at HFA
      clear hP hS hp hl hs hrv
      go_wp2_with fail
      refine HFA.out.mono ?_
      cases rv with
      | no why at_ =>
        rintro e w5 ⟨rfl, hS⟩
        have HS : Hid (Sole p w w5) := HS4.out.trans hS
        clear hS
        go_wp2
        refine ⟨rfl, ?_⟩
        rw [HR3.out]
        exact ⟨rfl, HS.out⟩
      | ok tv st =>
        rintro e w5 ⟨v, i, full, rfl, hT, rfl, hP, hS⟩
        obtain ⟨k9, n9, m9, a9, ks9⟩ := tv
        obtain ⟨sl, rfl, hL⟩ := treeAt_node.1 hT
        obtain ⟨o9, len9, cap9, rfl⟩ := hL.shape
        have hp := HP.out
        have hl := HLT.out
        have hl4 := HL4.out
        have hs := hS.size
        have HT5 : Hid (treeIs w4.heap.size (.node k9 n9 m9 a9 ks9) w5 (kidV k9 n9 m9 a9 (.slice o9 len9 cap9))) := hT
        have HP5 : Hid (PP w5 p g cap ts i d full) := hP
        obtain ⟨wq, hwq⟩ : ∃ wq, w5.alloc (.cells #[.int .i64 k9, .string ⟨n9.toArray⟩, .int .i64 m9, .int .i64 a9, .slice o9 len9 cap9] 29) = wq := ⟨_, rfl⟩
        have hBq : Below w5.heap.size w5 wq := by rw [← hwq]; exact (Below.refl _ _).alloc (Nat.le_refl _) _
        have HBQ : Hid (Below w5.heap.size w5 wq ∧ w2.heap.size < w5.heap.size ∧ wq.heap[w5.heap.size]? = some (rowObj [.int .i64 k9, .string ⟨n9.toArray⟩, .int .i64 m9, .int .i64 a9, .slice o9 len9 cap9])) := ⟨hBq, by omega, by rw [← hwq]; exact heap_alloc_new _ _⟩
        have HSQ : Hid (Sole p w wq) := (HS4.out.trans hS).trans (Sole.of_below hBq)
        have e2 := (hBq.block w2.heap.size (by omega)).trans (hS.block w2.heap.size hl4 (by omega))
        obtain ⟨t0, t1, t2, t3, t4⟩ := HK4.out.1.block e2
        have y44 := (cells_same e2 4).2.trans HK4.out.2
        obtain ⟨z0, z1, z2, z3, z4, y0, y1, y2, y3, y4⟩ := (HZ4.out.block (hS.block w.heap.size (by omega) (by omega))).block (hBq.block w.heap.size (by omega))
        have hne : ¬ w2.heap.size = w.heap.size := by omega
        have hne2 : ¬ w.heap.size = w2.heap.size := by omega
        clear hP hS hT hL hs hp hl hl4 e2 hBq
        unfold kidV
        go_wp2
        have hbx : ∀ b, b ≠ w2.heap.size → (wq.setCell ⟨w2.heap.size, 4, none⟩ (.slice (some ⟨w5.heap.size, 0, none⟩) 1 1)).heap[b]? = wq.heap[b]? := fun b hb => Below.heap_setCell _ _ _ _ hb
        have hBx : Below w.heap.size wq (wq.setCell ⟨w2.heap.size, 4, none⟩ (.slice (some ⟨w5.heap.size, 0, none⟩) 1 1)) := Below.setCell (p := ⟨w2.heap.size, 4, none⟩) (Below.refl _ _) (Nat.le_of_lt HLT.out.1) _
        generalize wq.setCell ⟨w2.heap.size, 4, none⟩ (.slice (some ⟨w5.heap.size, 0, none⟩) 1 1) = wx at hbx hBx ⊢
        have ex : wx.heap[w.heap.size]? = wq.heap[w.heap.size]? := hbx _ hne2
        have q := res5 wx w.heap.size (.int .i64 k8) (.string ⟨n8.toArray⟩) (.int .i64 m8) (.int .i64 a8) (.slice (some ⟨w5.heap.size, 0, none⟩) 1 1) ((cells_same ex 0).1.trans z0) ((cells_same ex 1).1.trans z1) ((cells_same ex 2).1.trans z2) ((cells_same ex 3).1.trans z3) ((cells_same ex 4).1.trans z4)
        have hBz := below_set5 wx w.heap.size w.heap.size (.int .i64 k8) (.string ⟨n8.toArray⟩) (.int .i64 m8) (.int .i64 a8) (.slice (some ⟨w5.heap.size, 0, none⟩) 1 1) (Nat.le_refl _)
        have hbt := but_set5 wx w.heap.size (.int .i64 k8) (.string ⟨n8.toArray⟩) (.int .i64 m8) (.int .i64 a8) (.slice (some ⟨w5.heap.size, 0, none⟩) 1 1)
        generalize ((((wx.setCell ⟨w.heap.size, 0, none⟩ (.int .i64 k8)).setCell ⟨w.heap.size, 1, none⟩ (.string ⟨n8.toArray⟩)).setCell ⟨w.heap.size, 2, none⟩ (.int .i64 m8)).setCell ⟨w.heap.size, 3, none⟩ (.int .i64 a8)).setCell ⟨w.heap.size, 4, none⟩ (.slice (some ⟨w5.heap.size, 0, none⟩) 1 1) = wz at q hBz hbt ⊢
        obtain ⟨q0, q1, q2, q3, q4⟩ := q
        have hl := HLT.out
        have hl4 := HL4.out
        have hl25 := HBQ.out.2.1
        have hp := HP.out
        have hzq : ∀ b, b ≠ w.heap.size → b ≠ w2.heap.size → wz.heap[b]? = wq.heap[b]? := fun b h1 h2 => (hbt b h1).trans (hbx b h2)
        have hz5 : ∀ b, b < w5.heap.size → b ≠ w.heap.size → b ≠ w2.heap.size → wz.heap[b]? = w5.heap[b]? := fun b hb h1 h2 => (hzq b h1 h2).trans (HBQ.out.1.block b hb)
        refine bodyPost_ret (v := .agg #[.int .i64 k8, .string ⟨n8.toArray⟩, .int .i64 m8, .int .i64 a8, .slice (some ⟨w5.heap.size, 0, none⟩) 1 1]) (by simp [results, Tryz.results148, go_sem, q0, q1, q2, q3, q4]) rfl ?_
        rw [HR3.out]
        exact ⟨_, _, _, rfl, node_one' HT5.out (by omega) (Nat.le_refl w5.heap.size) (by omega) (fun b hb hl5 => hz5 b hl5 (by omega) (by omega)) ((hzq _ (by omega) (by omega)).trans HBQ.out.2.2), rfl, HP5.out.of_blocks (hz5 p (by omega) (by omega) (by omega)) (hz5 g (by omega) (by omega) (by omega)), (HSQ.out.below_after hBx).below_after hBz⟩
end Go.Proofs.YteokdknaadckbaaGreatDoor
namespace Go.Proofs.YteokdknaadckbaaGreatDoor
open Go.RowKit

set_option maxRecDepth 4000 in
theorem version_no (p a : Nat) (w : World)
    (H0 : Hid (∀ w1, Below w.heap.size w w1 → Calls Tryz.prog 75 #[.pointer (some ⟨p, 0, none⟩), .string ⟨#[118, 101, 114, 115, 105, 111, 110]⟩] w1 fun e w' => e = .returned (.bool false) ∧ Below w1.heap.size w1 w'))
    (HW : Hid (∀ w1, Below w.heap.size w w1 → Calls Tryz.prog 74 #[.pointer (some ⟨p, 0, none⟩), .int .i64 40] w1 fun e w' => e = .returned (.agg #[.int .i64 40, .int .i64 a]) ∧ Below w1.heap.size w1 w')) :
    Calls Tryz.prog 73 #[.pointer (some ⟨p, 0, none⟩)] w fun e w' => e = .panicked [{ v := .iface 50 (.agg #[.int .i64 40, .int .i64 a]), recovered := false }] ∧ Below w.heap.size w w' := by
  go_enter Tryz.func73, Tryz.ntmps73
  go_wp2_with fail
  refine (H0.out _ ((Below.refl _ _).alloc (Nat.le_refl _) _)).mono ?_
  rintro e w1 ⟨rfl, hB⟩
  have HB : Hid (Below w.heap.size w w1) := ((Below.refl _ _).alloc (Nat.le_refl _) _).trans (hB.mono (by simp))
  clear hB
  go_wp2_with fail
  refine (HW.out _ HB.out).mono ?_
  rintro e w2 ⟨rfl, hB⟩
  have HB2 : Hid (Below w.heap.size w w2) := HB.out.trans (hB.mono HB.out.size)
  clear hB
  go_wp2
  exact ⟨rfl, rfl, HB2.out⟩

set_option maxHeartbeats 1000000 in
set_option maxRecDepth 4000 in
theorem version_yes (p g cap : Nat) (ts : List Tok) (hE : Ends ts) (d : Int) (F : PS → Ans Tree) (i : Nat) (full : Bool) (w : World) (h : PP w p g cap ts i d full)
    (H0 : Hid (∀ w1, Below w.heap.size w w1 → Calls Tryz.prog 75 #[.pointer (some ⟨p, 0, none⟩), .string ⟨#[118, 101, 114, 115, 105, 111, 110]⟩] w1 fun e w' => e = .returned (.bool true) ∧ Below w1.heap.size w1 w'))
    (HN : Hid (∀ w1, Below w.heap.size w w1 → Calls Tryz.prog 72 #[.pointer (some ⟨p, 0, none⟩), .int .i64 11, .func (.func 119) #[.pointer (some ⟨p, 0, none⟩)] #[]] w1 (PPost p g cap ts d (treeIs w1.heap.size) (F (PSof ts i full)) w1))) :
    Calls Tryz.prog 73 #[.pointer (some ⟨p, 0, none⟩)] w (PPost p g cap ts d (treeIs w.heap.size) ((F (PSof ts i full)).bind fun t s => (s.want [59]).bind fun _ s => .ok t s) w) := by
  have HP : Hid (p < w.heap.size ∧ g < w.heap.size) := ⟨h.plt, h.glt⟩
  have HE : Hid (Ends ts) := hE
  obtain ⟨rn, hrn⟩ : ∃ rn, F (PSof ts i full) = rn := ⟨_, rfl⟩
  rw [hrn] at HN ⊢
  obtain ⟨R, hR⟩ : ∃ R, (rn.bind fun t s => (s.want [59]).bind fun _ s => Ans.ok t s) = R := ⟨_, rfl⟩
  rw [hR]
  have HR : Hid (R = rn.bind fun t s => (s.want [59]).bind fun _ s => .ok t s) := hR.symm
  clear h hE hrn hR
  go_enter Tryz.func73, Tryz.ntmps73
  go_wp2_with fail
  refine (H0.out _ ((Below.refl _ _).alloc (Nat.le_refl _) _)).mono ?_
  rintro e w1 ⟨rfl, hB⟩
  have HB : Hid (Below w.heap.size w w1) := ((Below.refl _ _).alloc (Nat.le_refl _) _).trans (hB.mono (by simp))
  have HZ1 : Hid (Tre w1 w.heap.size ∧ w.heap.size < w1.heap.size) := ⟨(Tre.made w 29).block (hB.block _ (by simp)), by have := hB.size; simp at this; omega⟩
  clear hB
  go_wp2_with fail
  refine (HN.out _ HB.out).mono ?_
  cases rn with
  | no why at_ =>
    rintro e w2 ⟨rfl, hS⟩
    have HS : Hid (Sole p w w2) := (Sole.of_below HB.out).trans hS
    clear hS
    go_wp2
    refine ⟨rfl, ?_⟩
    rw [HR.out]
    exact ⟨rfl, HS.out⟩
  | ok t st =>
    rintro e w2 ⟨v, i, full, rfl, hT, rfl, hP, hS⟩
    obtain ⟨k9, n9, m9, a9, ks9⟩ := t
    obtain ⟨sl, rfl, hL⟩ := treeAt_node.1 hT
    obtain ⟨o9, len9, cap9, rfl⟩ := hL.shape
    have hT' : treeIs (w.heap.size + 1) (.node k9 n9 m9 a9 ks9) w2 (kidV k9 n9 m9 a9 (.slice o9 len9 cap9)) := TreeAt.frame (fun _ hb => Nat.le_trans HZ1.out.2 hb) (fun _ _ _ => rfl) _ _ hT
    have hlt : w.heap.size < w2.heap.size := Nat.lt_of_lt_of_le HZ1.out.2 hS.size
    obtain ⟨w3, hw3⟩ : ∃ w3, w2.alloc (.cells #[.int .i64 k9, .string ⟨n9.toArray⟩, .int .i64 m9, .int .i64 a9, .slice o9 len9 cap9] 29) = w3 := ⟨_, rfl⟩
    have hB3 : Below w2.heap.size w2 w3 := by rw [← hw3]; exact (Below.refl _ _).alloc (Nat.le_refl _) _
    have hs3 : w3.heap.size = w2.heap.size + 1 := by rw [← hw3]; simp
    have HP3 : Hid (PP w3 p g cap ts i d full) := hP.below hB3
    have HS3 : Hid (Sole p w w3) := ((Sole.of_below HB.out).trans hS).trans (Sole.of_below hB3)
    have HZ3 : Hid (Tre w3 w.heap.size) := (HZ1.out.1.block (hS.block w.heap.size HZ1.out.2 (Nat.ne_of_gt HP.out.1))).block (hB3.block w.heap.size hlt)
    have HK3 : Hid (KidAt w3 w2.heap.size k9 n9 m9 a9 (.slice o9 len9 cap9)) := by show KidAt _ _ _ _ _ _ _; rw [← hw3]; exact KidAt.made _ _ _ _ _ _ _
    have HT3 : Hid (treeIs (w.heap.size + 1) (.node k9 n9 m9 a9 ks9) w3 (kidV k9 n9 m9 a9 (.slice o9 len9 cap9))) := hT'.below (Nat.le_refl _) hB3 (Nat.le_refl _)
    have HLT : Hid (w.heap.size < w2.heap.size ∧ w3.heap.size = w2.heap.size + 1) := ⟨hlt, hs3⟩
    have HWA : Hid (Calls Tryz.prog 41 #[.pointer (some ⟨p, 0, none⟩), .slice (some ⟨w3.heap.size, 0, none⟩) 1 1] (w3.alloc (.cells #[.string ⟨#[59]⟩] 9)) (PPost p g cap ts d unitIs ((PSof ts i full).want [59]) w3)) := want_one p g cap ts HE.out i d full [59] (by simp) w3 HP3.out
    obtain ⟨ru, hru⟩ : ∃ r, (PSof ts i full).want [59] = r := ⟨_, rfl⟩
    have HR2 : Hid (R = ru.bind fun _ s => .ok (.node k9 n9 m9 a9 ks9) s) := by
      show _ = _
      rw [HR.out, ← hru]; rfl
    rw [hru] at HWA
    clear hP hS hB3 hlt hs3 hru hT hT' hL
    unfold kidV
    go_wp2_with fail
    refine HWA.out.mono ?_
    cases ru with
    | no why at_ =>
      rintro e w4 ⟨rfl, hS⟩
      have HS : Hid (Sole p w w4) := HS3.out.trans hS
      clear hS
      go_wp2
      refine ⟨rfl, ?_⟩
      rw [HR2.out]
      exact ⟨rfl, HS.out⟩
    | ok u st =>
      rintro e w4 ⟨v, i, full, rfl, rfl, rfl, hP, hS⟩
      have hp := HP.out.1
      have hl := HLT.out
      have HP4 : Hid (PP w4 p g cap ts i d full) := hP
      have HS4 : Hid (Sole p w w4) := HS3.out.trans hS
      obtain ⟨z0, z1, z2, z3, z4, y0, y1, y2, y3, y4⟩ := HZ3.out.block (hS.block _ (by omega) (by omega))
      obtain ⟨t0, t1, t2, t3, t4⟩ := HK3.out.block (hS.block _ (by omega) (by omega))
      have HT4 : Hid (treeIs (w.heap.size + 1) (.node k9 n9 m9 a9 ks9) w4 (kidV k9 n9 m9 a9 (.slice o9 len9 cap9))) := HT3.out.sole (Nat.le_refl _) (by omega) hS
      clear hP hS hp hl
      go_wp2
      have q := res5 w4 w.heap.size (.int .i64 k9) (.string ⟨n9.toArray⟩) (.int .i64 m9) (.int .i64 a9) (.slice o9 len9 cap9) z0 z1 z2 z3 z4
      have hBz := below_set5 w4 w.heap.size w.heap.size (.int .i64 k9) (.string ⟨n9.toArray⟩) (.int .i64 m9) (.int .i64 a9) (.slice o9 len9 cap9) (Nat.le_refl _)
      have hbt := but_set5 w4 w.heap.size (.int .i64 k9) (.string ⟨n9.toArray⟩) (.int .i64 m9) (.int .i64 a9) (.slice o9 len9 cap9)
      generalize ((((w4.setCell ⟨w.heap.size, 0, none⟩ (.int .i64 k9)).setCell ⟨w.heap.size, 1, none⟩ (.string ⟨n9.toArray⟩)).setCell ⟨w.heap.size, 2, none⟩ (.int .i64 m9)).setCell ⟨w.heap.size, 3, none⟩ (.int .i64 a9)).setCell ⟨w.heap.size, 4, none⟩ (.slice o9 len9 cap9) = wz at q hBz hbt ⊢
      obtain ⟨q0, q1, q2, q3, q4⟩ := q
      refine bodyPost_ret (v := .agg #[.int .i64 k9, .string ⟨n9.toArray⟩, .int .i64 m9, .int .i64 a9, .slice o9 len9 cap9]) (by simp [results, Tryz.results73, go_sem, q0, q1, q2, q3, q4]) rfl ?_
      rw [HR2.out]
      exact ⟨_, i, full, rfl, HT4.out.but (Nat.le_succ _) (Nat.lt_succ_self _) (fun b _ hb => hbt b hb), rfl, HP4.out.of_blocks (hBz.block p HP.out.1) (hBz.block g HP.out.2), HS4.out.below_after hBz⟩
theorem version_any (p g cap : Nat) (ts : List Tok) (hE : Ends ts) (d : Int)
    (hN : ∀ i full w, i + 1 < ts.length → PP w p g cap ts i d full → BareAt p w → Calls Tryz.prog 72 #[.pointer (some ⟨p, 0, none⟩), .int .i64 11, .func (.func 119) #[.pointer (some ⟨p, 0, none⟩)] #[]] w (PPost p g cap ts d (treeIs w.heap.size) (numberedP 11 procedureP (PSof ts i full)) w)) :
    Keeps p g cap ts d 73 versionP := by
  intro i full w h hba
  have HSE : ∀ w1, Below w.heap.size w w1 → Calls Tryz.prog 75 #[.pointer (some ⟨p, 0, none⟩), .string ⟨#[118, 101, 114, 115, 105, 111, 110]⟩] w1 fun e w' => e = .returned (.bool ((PSof ts i full).sees wVersion)) ∧ Below w1.heap.size w1 w' := fun w1 hB => by
    have hx := sees_any p g cap ts i d full ⟨#[118, 101, 114, 115, 105, 111, 110]⟩ w1 (h.below hB)
    rw [ByteArray.toList_mk] at hx
    exact hx
  unfold versionP
  cases hse : (PSof ts i full).sees wVersion
  · rw [hse] at HSE
    rw [if_neg (by simp)]
    unfold PS.bad
    rw [PSof_hd ts i full h.il]
    refine (version_no p (ts[i]'h.il).at_ w HSE (fun w1 hB => wrong_any p g cap ts i d 40 full w1 (h.below hB))).mono ?_
    rintro e' w' ⟨rfl, hB⟩
    exact ⟨rfl, Sole.of_below hB⟩
  · have hi : i + 1 < ts.length := by
      refine hE.text h.il ?_
      unfold PS.sees at hse
      rw [PSof_hd ts i full h.il] at hse
      rw [show (ts[i]'h.il).text = wVersion by simpa using hse]
      simp [wVersion]
    rw [hse] at HSE
    rw [if_pos rfl]
    exact version_yes p g cap ts hE d (numberedP 11 procedureP) i full w h HSE (fun w1 hB => hN i full w1 hi (h.below hB) (hba.below hB))
end Go.Proofs.YteokdknaadckbaaGreatDoor
namespace Go.Proofs.YteokdknaadckbaaGreatDoor
open Go.RowKit

/-- the program's list of the bare types, as it lies in memory -/
structure Bares (w : World) : Prop where
  b0 : w.cell? ⟨0, 0, none⟩ = some (.int .i64 18)
  b1 : w.cell? ⟨0, 1, none⟩ = some (.bool false)
  b2 : w.cell? ⟨0, 2, none⟩ = some (.string ⟨#[105, 110, 116]⟩)
  b3 : w.cell? ⟨0, 3, none⟩ = some (.int .i64 19)
  b4 : w.cell? ⟨0, 4, none⟩ = some (.bool true)
  b5 : w.cell? ⟨0, 5, none⟩ = some (.string ⟨#[105, 110, 116]⟩)
  b6 : w.cell? ⟨0, 6, none⟩ = some (.int .i64 20)
  b7 : w.cell? ⟨0, 7, none⟩ = some (.bool false)
  b8 : w.cell? ⟨0, 8, none⟩ = some (.string ⟨#[104, 121, 112, 101, 114]⟩)
  b9 : w.cell? ⟨0, 9, none⟩ = some (.int .i64 21)
  b10 : w.cell? ⟨0, 10, none⟩ = some (.bool true)
  b11 : w.cell? ⟨0, 11, none⟩ = some (.string ⟨#[104, 121, 112, 101, 114]⟩)
  b12 : w.cell? ⟨0, 12, none⟩ = some (.int .i64 22)
  b13 : w.cell? ⟨0, 13, none⟩ = some (.bool false)
  b14 : w.cell? ⟨0, 14, none⟩ = some (.string ⟨#[102, 108, 111, 97, 116]⟩)
  b15 : w.cell? ⟨0, 15, none⟩ = some (.int .i64 23)
  b16 : w.cell? ⟨0, 16, none⟩ = some (.bool false)
  b17 : w.cell? ⟨0, 17, none⟩ = some (.string ⟨#[100, 111, 117, 98, 108, 101]⟩)
  b18 : w.cell? ⟨0, 18, none⟩ = some (.int .i64 24)
  b19 : w.cell? ⟨0, 19, none⟩ = some (.bool false)
  b20 : w.cell? ⟨0, 20, none⟩ = some (.string ⟨#[98, 111, 111, 108]⟩)
def baresV : Value := .agg #[.int .i64 18, .bool false, .string ⟨#[105, 110, 116]⟩, .int .i64 19, .bool true, .string ⟨#[105, 110, 116]⟩, .int .i64 20, .bool false, .string ⟨#[104, 121, 112, 101, 114]⟩, .int .i64 21, .bool true, .string ⟨#[104, 121, 112, 101, 114]⟩, .int .i64 22, .bool false, .string ⟨#[102, 108, 111, 97, 116]⟩, .int .i64 23, .bool false, .string ⟨#[100, 111, 117, 98, 108, 101]⟩, .int .i64 24, .bool false, .string ⟨#[98, 111, 111, 108]⟩]
theorem bares_at0 (w : World) : (Instr.index 125 baresV (.int .i64 0)).run Tryz.prog w = .ok (.agg #[.int .i64 18, .bool false, .string ⟨#[105, 110, 116]⟩]) w := by kernel_rfl
theorem bares_at1 (w : World) : (Instr.index 125 baresV (.int .i64 1)).run Tryz.prog w = .ok (.agg #[.int .i64 19, .bool true, .string ⟨#[105, 110, 116]⟩]) w := by kernel_rfl
theorem bares_at2 (w : World) : (Instr.index 125 baresV (.int .i64 2)).run Tryz.prog w = .ok (.agg #[.int .i64 20, .bool false, .string ⟨#[104, 121, 112, 101, 114]⟩]) w := by kernel_rfl
theorem bares_at3 (w : World) : (Instr.index 125 baresV (.int .i64 3)).run Tryz.prog w = .ok (.agg #[.int .i64 21, .bool true, .string ⟨#[104, 121, 112, 101, 114]⟩]) w := by kernel_rfl
theorem bares_at4 (w : World) : (Instr.index 125 baresV (.int .i64 4)).run Tryz.prog w = .ok (.agg #[.int .i64 22, .bool false, .string ⟨#[102, 108, 111, 97, 116]⟩]) w := by kernel_rfl
theorem bares_at5 (w : World) : (Instr.index 125 baresV (.int .i64 5)).run Tryz.prog w = .ok (.agg #[.int .i64 23, .bool false, .string ⟨#[100, 111, 117, 98, 108, 101]⟩]) w := by kernel_rfl
theorem bares_at6 (w : World) : (Instr.index 125 baresV (.int .i64 6)).run Tryz.prog w = .ok (.agg #[.int .i64 24, .bool false, .string ⟨#[98, 111, 111, 108]⟩]) w := by kernel_rfl
theorem bares_at (k : Nat) (hk : k < 7) (w : World) : (Instr.index 125 baresV (.int .i64 k)).run Tryz.prog w = .ok (.agg #[.int .i64 (baresL[k]'hk).1, .bool (baresL[k]'hk).2.1, .string ⟨(baresL[k]'hk).2.2.toArray⟩]) w := by
  rcases k with _ | _ | _ | _ | _ | _ | _ | k
  · exact bares_at0 w
  · exact bares_at1 w
  · exact bares_at2 w
  · exact bares_at3 w
  · exact bares_at4 w
  · exact bares_at5 w
  · exact bares_at6 w
  · omega
theorem Bares.block {w w' : World} (h : Bares w) (e : w'.heap[0]? = w.heap[0]?) : Bares w' :=
  ⟨(cells_same e 0).1.trans h.b0, (cells_same e 1).1.trans h.b1, (cells_same e 2).1.trans h.b2, (cells_same e 3).1.trans h.b3, (cells_same e 4).1.trans h.b4, (cells_same e 5).1.trans h.b5, (cells_same e 6).1.trans h.b6, (cells_same e 7).1.trans h.b7, (cells_same e 8).1.trans h.b8, (cells_same e 9).1.trans h.b9, (cells_same e 10).1.trans h.b10, (cells_same e 11).1.trans h.b11, (cells_same e 12).1.trans h.b12, (cells_same e 13).1.trans h.b13, (cells_same e 14).1.trans h.b14, (cells_same e 15).1.trans h.b15, (cells_same e 16).1.trans h.b16, (cells_same e 17).1.trans h.b17, (cells_same e 18).1.trans h.b18, (cells_same e 19).1.trans h.b19, (cells_same e 20).1.trans h.b20⟩
end Go.Proofs.YteokdknaadckbaaGreatDoor
