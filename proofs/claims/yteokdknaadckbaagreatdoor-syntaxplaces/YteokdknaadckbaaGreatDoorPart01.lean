/- The program's parser: a member of an enum. -/
import Derived.Test.YteokdknaadckbaaGreatDoorPart00
import Derived.RegionDies
namespace Go.Proofs.YteokdknaadckbaaGreatDoor
open Go.RowKit

/-- a token in four cells -/
structure TokAt (w : World) (b : Nat) (t : Tok) : Prop where
  c0 : w.cell? ⟨b, 0, none⟩ = some (.int .i64 t.kind)
  c1 : w.cell? ⟨b, 1, none⟩ = some (.string ⟨t.text.toArray⟩)
  c2 : w.cell? ⟨b, 2, none⟩ = some (.int .i64 t.num)
  c3 : w.cell? ⟨b, 3, none⟩ = some (.int .i64 t.at_)
theorem TokAt.block {w w' : World} {b : Nat} {t : Tok} (h : TokAt w b t) (e : w'.heap[b]? = w.heap[b]?) : TokAt w' b t :=
  ⟨(cells_same e 0).1.trans h.c0, (cells_same e 1).1.trans h.c1, (cells_same e 2).1.trans h.c2, (cells_same e 3).1.trans h.c3⟩
theorem TokAt.made (w : World) (t : Tok) (y : TypeId) : TokAt (w.alloc (.cells #[.int .i64 t.kind, .string ⟨t.text.toArray⟩, .int .i64 t.num, .int .i64 t.at_] y)) w.heap.size t := by
  constructor <;> simp

theorem wantL_one (t : List UInt8) (s : PS) : wantL [t] s = s.want t := by
  show (s.want t).bind (fun _ s => Ans.ok () s) = s.want t
  cases s.want t <;> rfl
theorem PPost.from_below {α : Type} {p g cap : Nat} {ts : List Tok} {d : Int} {val : α → World → Value → Prop} {r : Ans α} {w w1 : World} {e : Ending} {w' : World} (hB : Below w.heap.size w w1) (h : PPost p g cap ts d val r w1 e w') : PPost p g cap ts d val r w e w' := by
  cases r with
  | no why at_ => exact ⟨h.1, (Sole.of_below hB).trans h.2⟩
  | ok a s =>
    obtain ⟨v, i, full, h1, h2, h3, h4, h5⟩ := h
    exact ⟨v, i, full, h1, h2, h3, h4, (Sole.of_below hB).trans h5⟩
theorem want_one (p g cap : Nat) (ts : List Tok) (hE : Ends ts) (i : Nat) (d : Int) (full : Bool) (t : List UInt8) (ht : t ≠ []) (w : World) (h : PP w p g cap ts i d full) :
    Calls Tryz.prog 41 #[.pointer (some ⟨p, 0, none⟩), .slice (some ⟨w.heap.size, 0, none⟩) 1 1] (w.alloc (.cells #[.string ⟨t.toArray⟩] 9)) (PPost p g cap ts d unitIs ((PSof ts i full).want t) w) := by
  have hB : Below w.heap.size w (w.alloc (.cells #[.string ⟨t.toArray⟩] 9)) := (Below.refl _ _).alloc (Nat.le_refl _) _
  have hx := want_any p g cap ts hE i d full w.heap.size 1 [t] _ (h.below hB) (Nat.ne_of_gt h.plt) (by simp) (fun j hj => by
    have : j = 0 := by simp at hj; omega
    subst this
    simp) (fun x hx => by simp at hx; subst hx; exact ht) (by simp)
  rw [wantL_one] at hx
  exact hx.mono fun e w' hp => PPost.from_below hB hp

/-- a node with one kid that has just been laid into a block of its own -/
theorem node_one {B B4 r q : Nat} {w5 wz : World} {k9 m9 k m : Int} {n9 n : List UInt8} {a9 a : Nat} {ks9 : List Tree} {sl : Value} (hT : treeIs B4 (.node k9 n9 m9 a9 ks9) w5 (kidV k9 n9 m9 a9 sl)) (hB : B ≤ B4) (hr : r < B4) (hq : w5.heap.size ≤ q) (hBq : B ≤ q)
    (hf : ∀ b, b < w5.heap.size → b ≠ r → wz.heap[b]? = w5.heap[b]?) (h : wz.heap[q]? = some (rowObj [.int .i64 k9, .string ⟨n9.toArray⟩, .int .i64 m9, .int .i64 a9, sl])) :
    treeIs B (.node k n m a [.node k9 n9 m9 a9 ks9]) wz (kidV k n m a (.slice (some ⟨q, 0, none⟩) 1 1)) := by
  refine treeAt_node.2 ⟨_, rfl, _, owns_lit h rfl (by omega), fun g e => by cases e; exact hBq, rowV_one ?_⟩
  refine TreeAt.frame (fun b hb => ⟨Nat.le_trans hB hb.1, fun e => ?_⟩) (fun b hb hl => hf b hl (Nat.ne_of_gt (Nat.lt_of_lt_of_le hr hb.1))) _ _ (TreeAt.there _ _ hT)
  have e2 : q = b := Option.some.inj e
  exact absurd hb.2 (by omega)

set_option maxHeartbeats 2000000 in
set_option maxRecDepth 4000 in
theorem member_any (p g cap : Nat) (ts : List Tok) (hE : Ends ts) (i : Nat) (d : Int) (full : Bool) (w : World) (h : PP w p g cap ts i d full) :
    Calls Tryz.prog 144 #[.pointer (some ⟨p, 0, none⟩)] w (PPost p g cap ts d (treeIs w.heap.size) (memberP (PSof ts i full)) w) := by
  have HP : Hid (p < w.heap.size ∧ g < w.heap.size) := ⟨h.plt, h.glt⟩
  have HN : Hid (∀ w1, Below w.heap.size w w1 → Calls Tryz.prog 108 #[.pointer (some ⟨p, 0, none⟩)] w1 (PPost p g cap ts d tokIs (nameP (PSof ts i full)) w1)) := fun w1 hB => name_any p g cap ts hE i d full w1 (h.below hB)
  have HE : Hid (Ends ts) := hE
  obtain ⟨R, hR⟩ : ∃ R, memberP (PSof ts i full) = R := ⟨_, rfl⟩
  rw [hR]
  obtain ⟨rn, hrn⟩ : ∃ rn, nameP (PSof ts i full) = rn := ⟨_, rfl⟩
  have HR : Hid (R = rn.bind fun n s => (s.want [61]).bind fun _ s => (valueP s).bind fun v s => .ok (named 5 n [v]) s) := by
    show _ = _
    rw [← hR, ← hrn]; rfl
  rw [hrn] at HN
  clear h hE hrn hR
  go_enter Tryz.func144, Tryz.ntmps144
  go_wp2_with fail
  have HB : Hid (Below w.heap.size w (w.alloc (.cells #[.int .i64 0, .string ⟨#[]⟩, .int .i64 0, .int .i64 0, .slice none 0 0] 29))) := (Below.refl _ _).alloc (Nat.le_refl _) _
  refine (HN.out _ HB.out).mono ?_
  cases rn with
  | no why at_ =>
    rintro e w2 ⟨rfl, hS⟩
    have HS : Hid (Sole p w w2) := (Sole.of_below HB.out).trans hS
    clear hS
    go_wp2
    refine ⟨rfl, ?_⟩
    rw [HR.out]
    exact ⟨rfl, HS.out⟩
  | ok t st =>
    rintro e w2 ⟨v, i, full, rfl, rfl, rfl, hP, hS⟩
    have hlt : w.heap.size < w2.heap.size := by have := hS.size; simp at this; omega
    obtain ⟨w3, hw3⟩ : ∃ w3, w2.alloc (.cells #[.int .i64 t.kind, .string ⟨t.text.toArray⟩, .int .i64 t.num, .int .i64 t.at_] 41) = w3 := ⟨_, rfl⟩
    have hB3 : Below w2.heap.size w2 w3 := by rw [← hw3]; exact (Below.refl _ _).alloc (Nat.le_refl _) _
    have hs3 : w3.heap.size = w2.heap.size + 1 := by rw [← hw3]; simp
    have HP3 : Hid (PP w3 p g cap ts i d full) := hP.below hB3
    have HS3 : Hid (Sole p w w3) := ((Sole.of_below HB.out).trans hS).trans (Sole.of_below hB3)
    have HZ3 : Hid (Tre w3 w.heap.size) := ((Tre.made w 29).block (hS.block w.heap.size (by simp) (Nat.ne_of_gt HP.out.1))).block (hB3.block w.heap.size hlt)
    have HK3 : Hid (TokAt w3 w2.heap.size t) := by show TokAt w3 w2.heap.size t; rw [← hw3]; exact TokAt.made w2 t 41
    have HLT : Hid (w.heap.size < w2.heap.size ∧ w3.heap.size = w2.heap.size + 1) := ⟨hlt, hs3⟩
    have HWA : Hid (Calls Tryz.prog 41 #[.pointer (some ⟨p, 0, none⟩), .slice (some ⟨w3.heap.size, 0, none⟩) 1 1] (w3.alloc (.cells #[.string ⟨#[61]⟩] 9)) (PPost p g cap ts d unitIs ((PSof ts i full).want [61]) w3)) := want_one p g cap ts HE.out i d full [61] (by simp) w3 HP3.out
    obtain ⟨ru, hru⟩ : ∃ r, (PSof ts i full).want [61] = r := ⟨_, rfl⟩
    have HR2 : Hid (R = ru.bind fun _ s => (valueP s).bind fun v s => .ok (named 5 t [v]) s) := by
      show _ = _
      rw [HR.out, ← hru]; rfl
    rw [hru] at HWA
    clear hP hS hB3 hlt hs3 hru
    unfold tokV
    go_wp2_with fail
    refine HWA.out.mono ?_
    cases ru with
    | no why at_ =>
      rintro e w4 ⟨rfl, hS⟩
      have HS : Hid (Sole p w w4) := HS3.out.trans hS
      clear hS
      go_wp2
      refine ⟨rfl, ?_⟩
      rw [HR2.out]
      exact ⟨rfl, HS.out⟩
    | ok u st =>
      rintro e w4 ⟨v, i, full, rfl, rfl, rfl, hP, hS⟩
      have hp := HP.out.1
      have hl := HLT.out
      have HP4 : Hid (PP w4 p g cap ts i d full) := hP
      have HS4 : Hid (Sole p w w4) := HS3.out.trans hS
      have HZ4 : Hid (Tre w4 w.heap.size) := HZ3.out.block (hS.block _ (by omega) (by omega))
      have HK4 : Hid (TokAt w4 w2.heap.size t) := HK3.out.block (hS.block _ (by omega) (by omega))
      obtain ⟨t0, t1, t2, t3⟩ := HK4.out
      have HL4 : Hid (w2.heap.size < w4.heap.size) := by show _ < _; have := hS.size; omega
      obtain ⟨rv, hrv⟩ : ∃ r, valueP (PSof ts i full) = r := ⟨_, rfl⟩
      have HR3 : Hid (R = rv.bind fun v s => .ok (named 5 t [v]) s) := by
        show _ = _
        rw [HR2.out, ← hrv]; rfl
      have HVA : Hid (∀ m, Calls Tryz.prog 140 #[.pointer (some ⟨p, 0, none⟩)] (w4.drewN m) (PPost p g cap ts d (treeIs w4.heap.size) rv w4)) := fun m => by
        have hB : Below w4.heap.size w4 (w4.drewN m) := below_drew (Below.refl _ _) m
        rw [← hrv]
        exact (value_any p g cap ts HE.out i d full (w4.drewN m) (hP.below hB)).mono fun e w' hp => PPost.from_below hB hp
      clear hP hS hrv hp hl
      go_wp2_with fail
      cases rv with
      | no why at_ =>
        go_region_dies
        all_goals (
          refine (HVA.out _).mono ?_
          rintro e w5 ⟨rfl, hS⟩
          refine ⟨rfl, ?_⟩
          rw [HR3.out]
          exact ⟨rfl, HS4.out.trans hS⟩)
      | ok tv st =>
        obtain ⟨k9, n9, m9, a9, ks9⟩ := tv
        go_region_with (first
          | (go_at_call 140
             refine (HVA.out _).mono ?_
             rintro e w5 ⟨v, i, full, rfl, hT, rfl, hP, hS⟩
             obtain ⟨sl, rfl, hL⟩ := treeAt_node.1 hT
             obtain ⟨o9, len9, cap9, rfl⟩ := hL.shape
             have HT5 : Hid (treeIs w4.heap.size (.node k9 n9 m9 a9 ks9) w5 (kidV k9 n9 m9 a9 (.slice o9 len9 cap9))) := hT
             have HP5 : Hid (PP w5 p g cap ts i d full) := hP
             have HS5 : Hid (Sole p w4 w5) := hS
             have HK5 : Hid (TokAt w5 w2.heap.size t) := HK4.out.block (hS.block w2.heap.size HL4.out (by have := HP.out.1; have := HLT.out.1; omega))
             have hl2 : w2.heap.size < w5.heap.size := by have := hS.size; have := HL4.out; omega
             obtain ⟨wq, hwq⟩ : ∃ wq, w5.alloc (.cells #[.int .i64 k9, .string ⟨n9.toArray⟩, .int .i64 m9, .int .i64 a9, .slice o9 len9 cap9] 29) = wq := ⟨_, rfl⟩
             have hBq : Below w5.heap.size w5 wq := by rw [← hwq]; exact (Below.refl _ _).alloc (Nat.le_refl _) _
             obtain ⟨s0, s1, s2, s3⟩ := HK5.out
             obtain ⟨x0, x1, x2, x3⟩ := HK5.out.block (hBq.block _ hl2)
             have HWQ : Hid (w5.alloc (.cells #[.int .i64 k9, .string ⟨n9.toArray⟩, .int .i64 m9, .int .i64 a9, .slice o9 len9 cap9] 29) = wq) := hwq
             have HBQ : Hid (Below w5.heap.size w5 wq ∧ w2.heap.size < w5.heap.size ∧ wq.heap.size = w5.heap.size + 1) := ⟨hBq, hl2, by rw [← hwq]; simp⟩
             clear hT hL hP hS hl2 hBq
             unfold kidV)
          | (go_at_call 109
             refine (named_any 5 t (some ⟨w5.heap.size, 0, none⟩) 1 1 _).mono ?_
             rintro e w6 ⟨rfl, hB6⟩
             have HB6 : Hid (Below wq.heap.size wq w6) := hB6
             have hl5 : w.heap.size < w5.heap.size := by have := HBQ.out.2.1; have := HLT.out.1; omega
             obtain ⟨z0, z1, z2, z3, z4, y0, y1, y2, y3, y4⟩ := ((HZ4.out.block (HS5.out.block w.heap.size (by have := HL4.out; have := HLT.out.1; omega) (by have := HP.out.1; omega))).block (HBQ.out.1.block w.heap.size hl5)).block (hB6.block w.heap.size (by have := HBQ.out.2.2; omega))
             have HL5 : Hid (w.heap.size < w5.heap.size) := hl5
             clear hB6 hl5
             unfold kidV))
        all_goals (
          go_wp2
          have q := res5 w6 w.heap.size (.int .i64 5) (.string ⟨t.text.toArray⟩) (.int .i64 0) (.int .i64 t.at_) (.slice (some ⟨w5.heap.size, 0, none⟩) 1 1) z0 z1 z2 z3 z4
          have hBz := below_set5 w6 w.heap.size w.heap.size (.int .i64 5) (.string ⟨t.text.toArray⟩) (.int .i64 0) (.int .i64 t.at_) (.slice (some ⟨w5.heap.size, 0, none⟩) 1 1) (Nat.le_refl _)
          have hbt := but_set5 w6 w.heap.size (.int .i64 5) (.string ⟨t.text.toArray⟩) (.int .i64 0) (.int .i64 t.at_) (.slice (some ⟨w5.heap.size, 0, none⟩) 1 1)
          generalize ((((w6.setCell ⟨w.heap.size, 0, none⟩ (.int .i64 5)).setCell ⟨w.heap.size, 1, none⟩ (.string ⟨t.text.toArray⟩)).setCell ⟨w.heap.size, 2, none⟩ (.int .i64 0)).setCell ⟨w.heap.size, 3, none⟩ (.int .i64 t.at_)).setCell ⟨w.heap.size, 4, none⟩ (.slice (some ⟨w5.heap.size, 0, none⟩) 1 1) = wz at q hBz hbt ⊢
          obtain ⟨q0, q1, q2, q3, q4⟩ := q
          have hsq := HBQ.out.2.2
          have hl5 := HL5.out
          have hlp := HP.out
          have hl24 := HL4.out
          have hl12 := HLT.out.1
          have hz5 : ∀ b, b < w5.heap.size → b ≠ w.heap.size → wz.heap[b]? = w5.heap[b]? := fun b hb hbw => (hbt b hbw).trans ((HB6.out.block b (by omega)).trans (HBQ.out.1.block b hb))
          have hzq : wz.heap[w5.heap.size]? = wq.heap[w5.heap.size]? := (hbt _ (by omega)).trans (HB6.out.block _ (by omega))
          have hS6 : Sole p w w6 := (HS4.out.trans HS5.out).trans ((Sole.of_below HBQ.out.1).trans (Sole.of_below HB6.out))
          refine bodyPost_ret (v := .agg #[.int .i64 5, .string ⟨t.text.toArray⟩, .int .i64 0, .int .i64 t.at_, .slice (some ⟨w5.heap.size, 0, none⟩) 1 1]) (by simp [results, Tryz.results144, go_sem, q0, q1, q2, q3, q4]) rfl ?_
          rw [HR3.out]
          refine ⟨_, _, _, rfl, node_one HT5.out (by omega) (show w.heap.size < w4.heap.size by omega) (Nat.le_refl w5.heap.size) (by omega) hz5 (hzq.trans (by rw [← HWQ.out]; exact heap_alloc_new _ _)), rfl, HP5.out.of_blocks (hz5 p (by omega) (by omega)) (hz5 g (by omega) (by omega)), hS6.below_after hBz⟩)
end Go.Proofs.YteokdknaadckbaaGreatDoor
