/- The program's parser: a bare type. The program's parser: one of some words comes. The program's parser: room for one more, a bare type. Whole blocks: tokens, nodes, and what is kept of them. The program's parser: a list's declaration. -/
import Derived.Test.YteokdknaadckbaaGreatDoorPart02
import Derived.Test.YteokdknaadckbaaGreatDoorPart00
import Derived.Deep.RegionHeldLaw
import Derived.Deep.RegionLaw
namespace Go.Proofs.YteokdknaadckbaaGreatDoor
open Go.RowKit

set_option maxRecDepth 4000 in
theorem bare_ref (p g cap : Nat) (ts : List Tok) (d k m : Int) (s : ByteArray) (a : Nat) (w : World) (hp : p < w.heap.size) (hg : g < w.heap.size) (r : Ans Tree) (hk : (k == 1) = true)
    (H0 : Hid (∀ w1, Below w.heap.size w w1 → Calls Tryz.prog 38 #[.pointer (some ⟨p, 0, none⟩)] w1 fun e w' => e = .returned (.agg #[.int .i64 k, .string s, .int .i64 m, .int .i64 a]) ∧ Below w1.heap.size w1 w'))
    (HT : Hid (∀ w1, Below w.heap.size w w1 → Calls Tryz.prog 162 #[.pointer (some ⟨p, 0, none⟩)] w1 (PPost p g cap ts d (treeIs w1.heap.size) r w1))) :
    Calls Tryz.prog 142 #[.pointer (some ⟨p, 0, none⟩)] w (PPost p g cap ts d (treeIs w.heap.size) r w) := by
  have HP : Hid (p < w.heap.size ∧ g < w.heap.size) := ⟨hp, hg⟩
  clear hp hg
  go_enter Tryz.func142, Tryz.ntmps142
  go_wp2_with fail
  refine (H0.out _ ((Below.refl _ _).alloc (Nat.le_refl _) _)).mono ?_
  rintro e w1 ⟨rfl, hB⟩
  obtain ⟨w3, hw3⟩ : ∃ w3, w1.alloc (.cells #[.int .i64 k, .string s, .int .i64 m, .int .i64 a] 41) = w3 := ⟨_, rfl⟩
  have hB3 : Below w1.heap.size w1 w3 := by rw [← hw3]; exact (Below.refl _ _).alloc (Nat.le_refl _) _
  have hb1 : Below w.heap.size w w1 := ((Below.refl _ _).alloc (Nat.le_refl _) _).trans (hB.mono (by simp))
  have hl1 : w.heap.size < w1.heap.size := by have := hB.size; simp at this; omega
  have hs3 : w3.heap.size = w1.heap.size + 1 := by rw [← hw3]; simp
  have HB1 : Hid (Below w.heap.size w w3) := hb1.trans (hB3.mono (Nat.le_of_lt hl1))
  have HZ : Hid (Tre w3 w.heap.size ∧ w.heap.size < w3.heap.size) := ⟨((Tre.made w 29).block (hB.block _ (by simp))).block (hB3.block _ hl1), by omega⟩
  have HA : Hid (w3.cell? ⟨w1.heap.size, 3, none⟩ = some (.int .i64 a) ∧ w.heap.size < w1.heap.size ∧ w1.heap.size < w3.heap.size) := ⟨by rw [← hw3]; simp, hl1, by omega⟩
  have l0 : w3.cell? ⟨w1.heap.size, 0, none⟩ = some (.int .i64 k) := by rw [← hw3]; simp
  clear hB hB3 hb1 hl1 hs3
  go_wp2_with fail
  refine (HT.out _ HB1.out).mono ?_
  cases r with
  | no why at_ =>
    rintro e w9 ⟨rfl, hS⟩
    have HS9 : Hid (Sole p w w9) := (Sole.of_below HB1.out).trans hS
    clear hS
    go_wp2
    exact ⟨rfl, rfl, HS9.out⟩
  | ok t st =>
    rintro e w9 ⟨v, i, full, rfl, hT, rfl, hP, hS⟩
    obtain ⟨k9, n9, m9, a9, ks9⟩ := t
    obtain ⟨sl, rfl, hL⟩ := treeAt_node.1 hT
    obtain ⟨o9, len9, cap9, rfl⟩ := hL.shape
    have HT9 : Hid (treeIs w3.heap.size (.node k9 n9 m9 a9 ks9) w9 (kidV k9 n9 m9 a9 (.slice o9 len9 cap9))) := hT
    have HP9 : Hid (PP w9 p g cap ts i d full) := hP
    have HS9 : Hid (Sole p w w9) := (Sole.of_below HB1.out).trans hS
    obtain ⟨z0, z1, z2, z3, z4, y0, y1, y2, y3, y4⟩ := HZ.out.1.block (hS.block w.heap.size HZ.out.2 (Nat.ne_of_gt HP.out.1))
    clear hP hS hT hL
    unfold kidV at HT9 ⊢
    go_wp2
    have q := res5 w9 w.heap.size (.int .i64 k9) (.string ⟨n9.toArray⟩) (.int .i64 m9) (.int .i64 a9) (.slice o9 len9 cap9) z0 z1 z2 z3 z4
    have hBz := below_set5 w9 w.heap.size w.heap.size (.int .i64 k9) (.string ⟨n9.toArray⟩) (.int .i64 m9) (.int .i64 a9) (.slice o9 len9 cap9) (Nat.le_refl _)
    have hbt := but_set5 w9 w.heap.size (.int .i64 k9) (.string ⟨n9.toArray⟩) (.int .i64 m9) (.int .i64 a9) (.slice o9 len9 cap9)
    generalize ((((w9.setCell ⟨w.heap.size, 0, none⟩ (.int .i64 k9)).setCell ⟨w.heap.size, 1, none⟩ (.string ⟨n9.toArray⟩)).setCell ⟨w.heap.size, 2, none⟩ (.int .i64 m9)).setCell ⟨w.heap.size, 3, none⟩ (.int .i64 a9)).setCell ⟨w.heap.size, 4, none⟩ (.slice o9 len9 cap9) = wz at q hBz hbt ⊢
    obtain ⟨q0, q1, q2, q3, q4⟩ := q
    exact bodyPost_ret (v := .agg #[.int .i64 k9, .string ⟨n9.toArray⟩, .int .i64 m9, .int .i64 a9, .slice o9 len9 cap9]) (by simp [results, Tryz.results142, go_sem, q0, q1, q2, q3, q4]) rfl
      ⟨_, i, full, rfl, HT9.out.but (Nat.le_of_lt HZ.out.2) HZ.out.2 (fun b _ hb => hbt b hb), rfl, HP9.out.of_blocks (hBz.block p HP.out.1) (hBz.block g HP.out.2), HS9.out.below_after hBz⟩

/-- what is left of the list gone through -/
def bareRest (uns : Bool) (at_ : Nat) (l : List (Int × Bool × List UInt8)) (s : PS) : Ans Tree :=
  match l.find? fun b => b.2.1 == uns && s.sees b.2.2 with
  | some b => s.take.bind fun _ s => .ok (.node b.1 [] 0 at_ []) s
  | none => s.bad 40
end Go.Proofs.YteokdknaadckbaaGreatDoor
namespace Go.Proofs.YteokdknaadckbaaGreatDoor
open Go.RowKit

set_option maxRecDepth 4000 in
theorem seesAny_any (p g cap : Nat) (ts : List Tok) (i0 : Nat) (d : Int) (full0 : Bool) (b c : Nat) (ws : List (List UInt8)) (w : World) (h : PP w p g cap ts i0 d full0) (hbl : b < w.heap.size)
    (hw : ∀ j (hj : j < ws.length), w.cell? ⟨b, j, none⟩ = some (.string ⟨(ws[j]).toArray⟩)) (hl : ws.length ≤ 2) :
    Calls Tryz.prog 149 #[.pointer (some ⟨p, 0, none⟩), .slice (some ⟨b, 0, none⟩) ws.length c] w fun e w' => e = .returned (.bool (ws.any (PSof ts i0 full0).sees)) ∧ Below w.heap.size w w' := by
  obtain ⟨R, hR⟩ : ∃ R, ws.any (PSof ts i0 full0).sees = R := ⟨_, rfl⟩
  rw [hR]
  have HR : Hid (ws.any (PSof ts i0 full0).sees = R) := hR
  have HW : Hid (∀ j (hj : j < ws.length), w.cell? ⟨b, j, none⟩ = some (.string ⟨(ws[j]).toArray⟩)) := hw
  have H : Hid (PP w p g cap ts i0 d full0) := h
  have HBL : Hid (b < w.heap.size) := hbl
  clear hR hw h hbl
  go_enter Tryz.func149, Tryz.ntmps149
  go_wp2
  go_loopw [4, 9] (fun r i wr => ∃ k : Nat, r = .bool false ∧ i = .int .i64 k ∧ k ≤ ws.length ∧ Hid (Below w.heap.size w wr) ∧ Hid ((ws.drop k).any (PSof ts i0 full0).sees = R)) (fun _ i _ => ws.length - (intOf i).toNat)
  case atStart => exact ⟨0, rfl, rfl, Nat.zero_le _, Below.refl _ _, HR⟩
  case round =>
    obtain ⟨k, rfl, rfl, hk, HB, HK⟩ := hrel
    by_cases hlt : k < ws.length
    · have hk' : (k : Int) < ws.length := by omega
      obtain ⟨t, ht⟩ : ∃ t, ws[k] = t := ⟨_, rfl⟩
      have hc : wr.cell? ⟨b, k, none⟩ = some (.string ⟨t.toArray⟩) := by rw [(cells_same (HB.out.block b HBL.out) k).1, HW.out k hlt, ht]
      have HD : Hid (ws.drop k = t :: ws.drop (k + 1)) := by show _ = _; rw [List.drop_eq_getElem_cons hlt, ht]
      have HLT : Hid (k < ws.length) := hlt
      have HSE : Hid (Calls Tryz.prog 75 #[.pointer (some ⟨p, 0, none⟩), .string ⟨t.toArray⟩] wr fun e w' => e = .returned (.bool ((PSof ts i0 full0).sees t)) ∧ Below wr.heap.size wr w') := by
        have hx := sees_any p g cap ts i0 d full0 ⟨t.toArray⟩ wr (H.out.below HB.out)
        rw [ByteArray.toList_mk] at hx
        exact hx
      clear ht
      cases hse : (PSof ts i0 full0).sees t
      · rw [hse] at HSE
        have HK2 : Hid ((ws.drop (k + 1)).any (PSof ts i0 full0).sees = R) := by
          show _ = _
          have := HK.out
          rw [HD.out, List.any_cons, hse, Bool.false_or] at this
          exact this
        clear hse
        go_wp2_with fail
        refine HSE.out.mono ?_
        rintro e w1 ⟨rfl, hB⟩
        have HB1 : Hid (Below w.heap.size w w1) := HB.out.trans (hB.mono HB.out.size)
        clear hB
        go_wp2
        go_roundw
        case rel => exact ⟨k + 1, rfl, by go_num, HLT.out, HB1, HK2⟩
        case measure => simp [intOf]; omega
      · rw [hse] at HSE
        have HK2 : Hid (R = true) := by
          show _ = _
          rw [← HK.out, HD.out, List.any_cons, hse, Bool.true_or]
        clear hse
        go_wp2_with fail
        refine HSE.out.mono ?_
        rintro e w1 ⟨rfl, hB⟩
        have HB1 : Hid (Below w.heap.size w w1) := HB.out.trans (hB.mono HB.out.size)
        clear hB
        go_wp2
        go_ret
        rw [HK2.out]
        exact ⟨rfl, HB1.out⟩
    · have hke : k = ws.length := by omega
      subst hke
      have hk' : ¬ (ws.length : Int) < ws.length := by omega
      have HK2 : Hid (R = false) := by
        show _ = _
        rw [← HK.out, List.drop_length]
        rfl
      go_wp2
      go_ret
      rw [HK2.out]
      exact ⟨rfl, HB.out⟩
end Go.Proofs.YteokdknaadckbaaGreatDoor
namespace Go.Proofs.YteokdknaadckbaaGreatDoor
open Go.RowKit

def roomF (full : Bool) (a b : Nat) : Bool := full || a == b
theorem PSof_room (ts : List Tok) (i : Nat) (full : Bool) (a b : Nat) : (PSof ts i full).room a b = PSof ts i (roomF full a b) := by
  unfold PS.room roomF PSof
  by_cases h : a = b
  · simp [h]
  · simp [h]
theorem PP.fulled {w : World} {p g cap : Nat} {ts : List Tok} {i : Nat} {d : Int} {full : Bool} (h : PP w p g cap ts i d full) (b : Bool) : PP (w.setCell ⟨p, 3, none⟩ (.bool b)) p g cap ts i d b := by
  have ho : ∀ o, (w.setCell ⟨p, 3, none⟩ (.bool b)).cell? ⟨g, o, none⟩ = w.cell? ⟨g, o, none⟩ := fun o => World.cell?_setCell_other _ _ _ _ (by simp; intro e; exact absurd e.symm h.gp)
  refine ⟨?_, ?_, ?_, World.cell?_setCell_same _ _ _ h.c3, ?_, ?_, ?_, fun k hk => (ho _).trans (h.t0 k hk), fun k hk => (ho _).trans (h.t1 k hk), fun k hk => (ho _).trans (h.t2 k hk), fun k hk => (ho _).trans (h.t3 k hk), h.il, h.ln, h.gp⟩
  · rw [World.cell?_setCell_other _ _ _ _ (by simp)]; exact h.c0
  · rw [World.cell?_setCell_other _ _ _ _ (by simp)]; exact h.c1
  · rw [World.cell?_setCell_other _ _ _ _ (by simp)]; exact h.c2
  · rw [World.frozen?_setCell]; exact h.f1
  · rw [World.frozen?_setCell]; exact h.f2
  · rw [World.frozen?_setCell]; exact h.f3
theorem room_any (p g cap : Nat) (ts : List Tok) (i : Nat) (d : Int) (full : Bool) (a b : Nat) (w : World) (h : PP w p g cap ts i d full) :
    Calls Tryz.prog 39 #[.pointer (some ⟨p, 0, none⟩), .int .i64 a, .int .i64 b] w fun e w' => e = .returned (.tuple #[]) ∧ PP w' p g cap ts i d (roomF full a b) ∧ Sole p w w' ∧ w'.heap.size = w.heap.size := by
  by_cases e : a = b
  · subst e
    refine (room_yes p a _ w h.c3 h.f3).mono ?_
    rintro e w' ⟨rfl, rfl⟩
    exact ⟨rfl, by unfold roomF; simpa using h.fulled true, Sole.setCell w 3 _, by simp⟩
  · refine (room_no p a b w (by simp; omega)).mono ?_
    rintro e' w' ⟨rfl, hw⟩
    have hr : roomF full a b = full := by
      unfold roomF
      rw [show (a == b) = false by simp [e], Bool.or_false]
    rw [hw, hr]
    exact ⟨rfl, h, Sole.refl p w, rfl⟩

theorem bares_words (k : Nat) (hk : k < 7) : (baresL[k]'hk).2.2 ≠ [] := by
  rcases k with _ | _ | _ | _ | _ | _ | _ | k
  · simp [baresL, wInt]
  · simp [baresL, wInt]
  · simp [baresL, wHyper]
  · simp [baresL, wHyper]
  · simp [baresL, wFloat]
  · simp [baresL, wDouble]
  · simp [baresL, wBool]
  · omega
set_option maxHeartbeats 1000000 in
set_option maxRecDepth 4000 in
theorem bare_plain (p g cap : Nat) (ts : List Tok) (hE : Ends ts) (d k m : Int) (s : ByteArray) (a : Nat) (w : World) (ix : Nat) (full : Bool) (h : PP w p g cap ts ix d full) (hb : BareAt p w) (hk : (k == 1) = false)
    (H0 : Hid (∀ w1, Below w.heap.size w w1 → Calls Tryz.prog 38 #[.pointer (some ⟨p, 0, none⟩)] w1 fun e w' => e = .returned (.agg #[.int .i64 k, .string s, .int .i64 m, .int .i64 a]) ∧ Below w1.heap.size w1 w'))
    (HS : Hid (∀ w1, Below w.heap.size w w1 → Calls Tryz.prog 75 #[.pointer (some ⟨p, 0, none⟩), .string ⟨#[117, 110, 115, 105, 103, 110, 101, 100]⟩] w1 fun e w' => e = .returned (.bool false) ∧ Below w1.heap.size w1 w')) :
    Calls Tryz.prog 142 #[.pointer (some ⟨p, 0, none⟩)] w (PPost p g cap ts d (treeIs w.heap.size) (bareRest false a baresL (PSof ts ix full)) w) := by
  have HP : Hid (p < w.heap.size ∧ g < w.heap.size) := ⟨h.plt, h.glt⟩
  have HE : Hid (Ends ts) := hE
  have H : Hid (PP w p g cap ts ix d full ∧ BareAt p w) := ⟨h, hb⟩
  obtain ⟨R, hR⟩ : ∃ R, bareRest false a baresL (PSof ts ix full) = R := ⟨_, rfl⟩
  rw [hR]
  have HR5 : Hid (R = bareRest false a (baresL.drop 0) (PSof ts ix full)) := hR.symm
  clear h hb hE hR
  go_enter Tryz.func142, Tryz.ntmps142
  go_wp2_with fail
  refine (H0.out _ ((Below.refl _ _).alloc (Nat.le_refl _) _)).mono ?_
  rintro e w1 ⟨rfl, hB⟩
  obtain ⟨w3, hw3⟩ : ∃ w3, w1.alloc (.cells #[.int .i64 k, .string s, .int .i64 m, .int .i64 a] 41) = w3 := ⟨_, rfl⟩
  have hB3 : Below w1.heap.size w1 w3 := by rw [← hw3]; exact (Below.refl _ _).alloc (Nat.le_refl _) _
  have hb1 : Below w.heap.size w w1 := ((Below.refl _ _).alloc (Nat.le_refl _) _).trans (hB.mono (by simp))
  have hl1 : w.heap.size < w1.heap.size := by have := hB.size; simp at this; omega
  have hs3 : w3.heap.size = w1.heap.size + 1 := by rw [← hw3]; simp
  have HB1 : Hid (Below w.heap.size w w3) := hb1.trans (hB3.mono (Nat.le_of_lt hl1))
  have HZ : Hid (Tre w3 w.heap.size ∧ w.heap.size < w3.heap.size) := ⟨((Tre.made w 29).block (hB.block _ (by simp))).block (hB3.block _ hl1), by omega⟩
  have HA : Hid (w3.cell? ⟨w1.heap.size, 3, none⟩ = some (.int .i64 a) ∧ w.heap.size < w1.heap.size ∧ w1.heap.size < w3.heap.size) := ⟨by rw [← hw3]; simp, hl1, by omega⟩
  have l0 : w3.cell? ⟨w1.heap.size, 0, none⟩ = some (.int .i64 k) := by rw [← hw3]; simp
  clear hB hB3 hb1 hl1 hs3
  go_wp2_with fail
  refine (HS.out _ HB1.out).mono ?_
  rintro e w5 ⟨rfl, hB⟩
  have HB5 : Hid (Below w.heap.size w w5) := HB1.out.trans (hB.mono (Nat.le_of_lt HZ.out.2))
  have HZ5 : Hid (Tre w5 w.heap.size ∧ w.heap.size < w5.heap.size) := ⟨HZ.out.1.block (hB.block _ HZ.out.2), Nat.lt_of_lt_of_le HZ.out.2 hB.size⟩
  have HA5 : Hid (w5.cell? ⟨w1.heap.size, 3, none⟩ = some (.int .i64 a) ∧ w.heap.size < w1.heap.size ∧ w1.heap.size < w5.heap.size) := ⟨(cells_same (hB.block _ HA.out.2.2) 3).1.trans HA.out.1, HA.out.2.1, Nat.lt_of_lt_of_le HA.out.2.2 hB.size⟩
  have HBA : Hid (BareAt p w5) := H.out.2.below HB5.out
  have HP5 : Hid (PP w5 p g cap ts ix d full) := H.out.1.below HB5.out
  have HS5 : Hid (Sole p w w5) := Sole.of_below HB5.out
  clear hB

  obtain ⟨_, bt, bfr, hbar⟩ := HBA.out
  have HBX : Hid (w5.heap[0]? = some (.cells baresA bt bfr)) := hbar
  have HPW : Hid (∀ w1, Below w5.heap.size w5 w1 → PP w1 p g cap ts ix d full) := fun w1 hB => HP5.out.below hB
  clear hbar
  go_wp2_with (refine wpList_load_row rfl 125 _ rfl 0 rfl bt baresA bfr _ HBX.out Tryz.underlying125 rfl (by kernel_rfl) ?_)
  go_loopw [20] (fun i wr => ∃ k : Nat, i = .int .i64 k ∧ k ≤ 7 ∧ Hid (Below w5.heap.size w5 wr) ∧ Hid (R = bareRest false a (baresL.drop k) (PSof ts ix full))) (fun i _ => 7 - (intOf i).toNat)
  case atStart => exact ⟨0, rfl, by omega, Below.refl _ _, HR5⟩
  case round =>
    obtain ⟨k, rfl, hk7, HBW, HK⟩ := hrel
    by_cases hlt : k < 7
    · have hlt' : (k : Int) < 7 := by omega
      obtain ⟨kk, uu, ww, HEL⟩ : ∃ kk uu ww, Hid (baresL[k]'hlt = (kk, uu, ww)) := ⟨_, _, _, rfl⟩
      have hat : ∀ w, (Instr.index 125 (.agg baresA) (.int .i64 k)).run Tryz.prog w = .ok (.agg #[.int .i64 kk, .bool uu, .string ⟨ww.toArray⟩]) w := fun w => by
        have := bares_at k hlt w
        rw [HEL.out] at this
        exact this
      have HD : Hid (baresL.drop k = (kk, uu, ww) :: baresL.drop (k + 1)) := by show _ = _; rw [List.drop_eq_getElem_cons hlt, HEL.out]
      have HWN : Hid (ww ≠ []) := by
        show ww ≠ []
        have := bares_words k hlt
        rw [HEL.out] at this
        exact this
      obtain ⟨wb, hwb⟩ : ∃ wb, wr.alloc (.cells #[.int .i64 kk, .bool uu, .string ⟨ww.toArray⟩] 124) = wb := ⟨_, rfl⟩
      have l0 : wb.cell? ⟨wr.heap.size, 0, none⟩ = some (.int .i64 kk) := by rw [← hwb]; simp
      have l1 : wb.cell? ⟨wr.heap.size, 1, none⟩ = some (.bool uu) := by rw [← hwb]; simp
      have l2 : wb.cell? ⟨wr.heap.size, 2, none⟩ = some (.string ⟨ww.toArray⟩) := by rw [← hwb]; simp
      have HBB : Hid (Below w5.heap.size w5 wb ∧ w5.heap.size ≤ wr.heap.size ∧ wr.heap.size < wb.heap.size) := by
        refine ⟨?_, HBW.out.size, by rw [← hwb]; simp⟩
        rw [← hwb]; exact HBW.out.alloc HBW.out.size _
      have HL0 : Hid (wb.cell? ⟨wr.heap.size, 0, none⟩ = some (.int .i64 kk)) := l0
      have HSE : Hid (∀ w1, Below w5.heap.size w5 w1 → Calls Tryz.prog 75 #[.pointer (some ⟨p, 0, none⟩), .string ⟨ww.toArray⟩] w1 fun e w' => e = .returned (.bool ((PSof ts ix full).sees ww)) ∧ Below w1.heap.size w1 w') := fun w1 hB => by
        have hx := sees_any p g cap ts ix d full ⟨ww.toArray⟩ w1 (HPW.out w1 hB)
        rw [ByteArray.toList_mk] at hx
        exact hx
      have HKL : Hid (k < 7) := hlt
      by_cases huu : uu = false
      · have hue : (uu == false) = true := by rw [huu]; rfl
        cases hse : (PSof ts ix full).sees ww
        · rw [hse] at HSE
          have HK2 : Hid (R = bareRest false a (baresL.drop (k + 1)) (PSof ts ix full)) := by
            show _ = _
            rw [HK.out, HD.out]
            unfold bareRest
            rw [List.find?_cons_of_neg (by simp [hse])]
          clear hse huu
          go_wp2_with fail
          refine (HSE.out _ HBB.out.1).mono ?_
          rintro e w6 ⟨rfl, hB⟩
          have HB6 : Hid (Below w5.heap.size w5 w6) := HBB.out.1.trans (hB.mono HBB.out.1.size)
          clear hB
          go_wp2
          go_roundw
          case rel => exact ⟨k + 1, by go_num, HKL.out, HB6, HK2⟩
          case measure => simp [intOf]; omega
        · rw [hse] at HSE
          have HRN : Hid (R = (PSof ts ix full).take.bind fun _ s => .ok (.node kk [] 0 a []) s) := by
            show _ = _
            rw [HK.out, HD.out]
            unfold bareRest
            rw [List.find?_cons_of_pos (by simp [hse, huu])]
          have hix : ix + 1 < ts.length := by
            refine HE.out.text HP5.out.il ?_
            unfold PS.sees at hse
            rw [PSof_hd ts ix full HP5.out.il] at hse
            rw [show (ts[ix]'HP5.out.il).text = ww by simpa using hse]
            exact HWN.out
          have HTK : Hid (∀ w1, Below w5.heap.size w5 w1 → Calls Tryz.prog 69 #[.pointer (some ⟨p, 0, none⟩)] w1 (PPost p g cap ts d tokIs (PSof ts ix full).take w1)) := fun w1 hB => take_any p g cap ts ix d full w1 (HPW.out w1 hB) hix
          clear hse hix huu
          generalize (PSof ts ix full).take = r at HRN HTK
          go_wp2_with fail
          refine (HSE.out _ HBB.out.1).mono ?_
          rintro e w6 ⟨rfl, hB⟩
          have HB6 : Hid (Below w5.heap.size w5 w6 ∧ w6.heap[wr.heap.size]? = wb.heap[wr.heap.size]? ∧ wr.heap.size < w6.heap.size) := ⟨HBB.out.1.trans (hB.mono HBB.out.1.size), hB.block _ HBB.out.2.2, Nat.lt_of_lt_of_le HBB.out.2.2 hB.size⟩
          clear hB
          go_wp2_with fail
          refine (HTK.out _ HB6.out.1).mono ?_
          cases r with
          | no why at_ =>
            rintro e w9 ⟨rfl, hS⟩
            have HS9 : Hid (Sole p w w9) := (HS5.out.trans (Sole.of_below HB6.out.1)).trans hS
            clear hS
            go_wp2
            refine ⟨rfl, ?_⟩
            rw [HRN.out]
            exact ⟨rfl, HS9.out⟩
          | ok t st =>
            rintro e w9 ⟨v, i9, full9, rfl, rfl, rfl, hP, hS⟩
            have HP9 : Hid (PP w9 p g cap ts i9 d full9) := hP
            have HS9 : Hid (Sole p w w9) := (HS5.out.trans (Sole.of_below HB6.out.1)).trans hS
            have hp := HP.out
            have h56 := HB6.out.1.size
            have hz5 := HZ5.out.2
            have ha5 := HA5.out
            have hbb := HBB.out
            have hb6 := HB6.out.2.2
            obtain ⟨z0, z1, z2, z3, z4, y0, y1, y2, y3, y4⟩ := (HZ5.out.1.block (HB6.out.1.block _ hz5)).block (hS.block w.heap.size (by omega) (by omega))
            have m0 : w9.cell? ⟨wr.heap.size, 0, none⟩ = some (.int .i64 kk) := by
              rw [(cells_same ((hS.block wr.heap.size (by omega) (by omega)).trans HB6.out.2.1) 0).1]
              exact HL0.out
            have m3 : w9.cell? ⟨w1.heap.size, 3, none⟩ = some (.int .i64 a) := by
              rw [(cells_same ((hS.block w1.heap.size (by omega) (by omega)).trans (HB6.out.1.block _ ha5.2.2)) 3).1]
              exact ha5.1
            have qb := bld03 kk a
            clear hP hS h56 hz5 ha5 hbb hb6 hp
            unfold tokV
            go_wp2
            have q := res5 w9 w.heap.size (.int .i64 kk) (.string ⟨#[]⟩) (.int .i64 0) (.int .i64 a) (.slice none 0 0) z0 z1 z2 z3 z4
            have hBz := below_set5 w9 w.heap.size w.heap.size (.int .i64 kk) (.string ⟨#[]⟩) (.int .i64 0) (.int .i64 a) (.slice none 0 0) (Nat.le_refl _)
            generalize ((((w9.setCell ⟨w.heap.size, 0, none⟩ (.int .i64 kk)).setCell ⟨w.heap.size, 1, none⟩ (.string ⟨#[]⟩)).setCell ⟨w.heap.size, 2, none⟩ (.int .i64 0)).setCell ⟨w.heap.size, 3, none⟩ (.int .i64 a)).setCell ⟨w.heap.size, 4, none⟩ (.slice none 0 0) = wz at q hBz ⊢
            obtain ⟨q0, q1, q2, q3, q4⟩ := q
            refine bodyPost_ret (v := .agg #[.int .i64 kk, .string ⟨#[]⟩, .int .i64 0, .int .i64 a, .slice none 0 0]) (by simp [results, Tryz.results142, go_sem, q0, q1, q2, q3, q4]) rfl ?_
            rw [HRN.out]
            exact ⟨_, i9, full9, rfl, treeAt_node.2 ⟨_, rfl, listAt_nil⟩, rfl, HP9.out.of_blocks (hBz.block p HP.out.1) (hBz.block g HP.out.2), HS9.out.below_after hBz⟩
      · have hue : (uu == false) = false := by cases uu <;> simp_all
        have HK2 : Hid (R = bareRest false a (baresL.drop (k + 1)) (PSof ts ix full)) := by
          show _ = _
          rw [HK.out, HD.out]
          unfold bareRest
          rw [List.find?_cons_of_neg (by simp [hue])]
        clear huu
        go_wp2
        go_roundw
        case rel => exact ⟨k + 1, by go_num, HKL.out, HBB.out.1, HK2⟩
        case measure => simp [intOf]; omega
    · have hke : k = 7 := by omega
      subst hke
      have HRN : Hid (R = .no 40 (ts[ix]'HP5.out.il).at_) := by
        show _ = _
        rw [HK.out]
        show PS.bad _ _ = _
        unfold PS.bad
        rw [PSof_hd ts ix full HP5.out.il]
      have HWR : Hid (∀ w1, Below w5.heap.size w5 w1 → Calls Tryz.prog 74 #[.pointer (some ⟨p, 0, none⟩), .int .i64 40] w1 fun e w' => e = .returned (.agg #[.int .i64 40, .int .i64 ((ts[ix]'HP5.out.il).at_ : Nat)]) ∧ Below w1.heap.size w1 w') := fun w1 hB => wrong_any p g cap ts ix d 40 full w1 (HPW.out w1 hB)
      rw [show ((7 : Nat) : Int) = 7 from rfl]
      go_wp2_with fail
      refine (HWR.out _ HBW.out).mono ?_
      rintro e w2 ⟨rfl, hB⟩
      have HB2 : Hid (Below w5.heap.size w5 w2) := HBW.out.trans (hB.mono HBW.out.size)
      clear hB
      go_wp2
      refine ⟨rfl, ?_⟩
      rw [HRN.out]
      exact ⟨rfl, HS5.out.trans (Sole.of_below HB2.out)⟩

set_option maxHeartbeats 1000000 in
set_option maxRecDepth 4000 in
theorem bare_uns (p g cap : Nat) (ts : List Tok) (hE : Ends ts) (d k m : Int) (s : ByteArray) (a : Nat) (w : World) (i0 : Nat) (full0 : Bool) (h : PP w p g cap ts i0 d full0) (hb : BareAt p w) (hi : i0 + 1 < ts.length) (hk : (k == 1) = false)
    (H0 : Hid (∀ w1, Below w.heap.size w w1 → Calls Tryz.prog 38 #[.pointer (some ⟨p, 0, none⟩)] w1 fun e w' => e = .returned (.agg #[.int .i64 k, .string s, .int .i64 m, .int .i64 a]) ∧ Below w1.heap.size w1 w'))
    (HS : Hid (∀ w1, Below w.heap.size w w1 → Calls Tryz.prog 75 #[.pointer (some ⟨p, 0, none⟩), .string ⟨#[117, 110, 115, 105, 103, 110, 101, 100]⟩] w1 fun e w' => e = .returned (.bool true) ∧ Below w1.heap.size w1 w')) :
    Calls Tryz.prog 142 #[.pointer (some ⟨p, 0, none⟩)] w (PPost p g cap ts d (treeIs w.heap.size) ((PSof ts i0 full0).take.bind fun _ s => bareRest true a baresL s) w) := by
  have HP : Hid (p < w.heap.size ∧ g < w.heap.size) := ⟨h.plt, h.glt⟩
  have HE : Hid (Ends ts) := hE
  have H : Hid (PP w p g cap ts i0 d full0 ∧ BareAt p w) := ⟨h, hb⟩
  have HT : Hid (∀ w1, Below w.heap.size w w1 → Calls Tryz.prog 69 #[.pointer (some ⟨p, 0, none⟩)] w1 (PPost p g cap ts d tokIs (PSof ts i0 full0).take w1)) := fun w1 hB => take_any p g cap ts i0 d full0 w1 (h.below hB) hi
  obtain ⟨R, hR⟩ : ∃ R, ((PSof ts i0 full0).take.bind fun _ s => bareRest true a baresL s) = R := ⟨_, rfl⟩
  rw [hR]
  obtain ⟨r0, hr0⟩ : ∃ r0, (PSof ts i0 full0).take = r0 := ⟨_, rfl⟩
  rw [hr0] at HT hR
  have HR0 : Hid (R = r0.bind fun _ s => bareRest true a baresL s) := hR.symm
  clear h hb hE hR hr0 hi
  go_enter Tryz.func142, Tryz.ntmps142
  go_wp2_with fail
  refine (H0.out _ ((Below.refl _ _).alloc (Nat.le_refl _) _)).mono ?_
  rintro e w1 ⟨rfl, hB⟩
  obtain ⟨w3, hw3⟩ : ∃ w3, w1.alloc (.cells #[.int .i64 k, .string s, .int .i64 m, .int .i64 a] 41) = w3 := ⟨_, rfl⟩
  have hB3 : Below w1.heap.size w1 w3 := by rw [← hw3]; exact (Below.refl _ _).alloc (Nat.le_refl _) _
  have hb1 : Below w.heap.size w w1 := ((Below.refl _ _).alloc (Nat.le_refl _) _).trans (hB.mono (by simp))
  have hl1 : w.heap.size < w1.heap.size := by have := hB.size; simp at this; omega
  have hs3 : w3.heap.size = w1.heap.size + 1 := by rw [← hw3]; simp
  have HB1 : Hid (Below w.heap.size w w3) := hb1.trans (hB3.mono (Nat.le_of_lt hl1))
  have HZ : Hid (Tre w3 w.heap.size ∧ w.heap.size < w3.heap.size) := ⟨((Tre.made w 29).block (hB.block _ (by simp))).block (hB3.block _ hl1), by omega⟩
  have HA : Hid (w3.cell? ⟨w1.heap.size, 3, none⟩ = some (.int .i64 a) ∧ w.heap.size < w1.heap.size ∧ w1.heap.size < w3.heap.size) := ⟨by rw [← hw3]; simp, hl1, by omega⟩
  have l0 : w3.cell? ⟨w1.heap.size, 0, none⟩ = some (.int .i64 k) := by rw [← hw3]; simp
  clear hB hB3 hb1 hl1 hs3
  go_wp2_with fail
  refine (HS.out _ HB1.out).mono ?_
  rintro e w4 ⟨rfl, hB⟩
  have HB4 : Hid (Below w.heap.size w w4) := HB1.out.trans (hB.mono (Nat.le_of_lt HZ.out.2))
  have HZ4 : Hid (Tre w4 w.heap.size ∧ w.heap.size < w4.heap.size) := ⟨HZ.out.1.block (hB.block _ HZ.out.2), Nat.lt_of_lt_of_le HZ.out.2 hB.size⟩
  have HA4 : Hid (w4.cell? ⟨w1.heap.size, 3, none⟩ = some (.int .i64 a) ∧ w.heap.size < w1.heap.size ∧ w1.heap.size < w4.heap.size) := ⟨(cells_same (hB.block _ HA.out.2.2) 3).1.trans HA.out.1, HA.out.2.1, Nat.lt_of_lt_of_le HA.out.2.2 hB.size⟩
  clear hB
  go_wp2_with fail
  refine (HT.out _ HB4.out).mono ?_
  cases r0 with
  | no why at_ =>
    rintro e w9 ⟨rfl, hS⟩
    have HS9 : Hid (Sole p w w9) := (Sole.of_below HB4.out).trans hS
    clear hS
    go_wp2
    refine ⟨rfl, ?_⟩
    rw [HR0.out]
    exact ⟨rfl, HS9.out⟩
  | ok tk st =>
    rintro e w5 ⟨v, ix, full, rfl, rfl, rfl, hP, hS⟩
    have hp := HP.out
    have hz4 := HZ4.out.2
    have ha4 := HA4.out.2
    have HP5 : Hid (PP w5 p g cap ts ix d full) := hP
    have HS5 : Hid (Sole p w w5) := (Sole.of_below HB4.out).trans hS
    have HZ5 : Hid (Tre w5 w.heap.size ∧ w.heap.size < w5.heap.size) := ⟨HZ4.out.1.block (hS.block _ hz4 (by omega)), Nat.lt_of_lt_of_le hz4 hS.size⟩
    have HA5 : Hid (w5.cell? ⟨w1.heap.size, 3, none⟩ = some (.int .i64 a) ∧ w.heap.size < w1.heap.size ∧ w1.heap.size < w5.heap.size) := ⟨(cells_same (hS.block w1.heap.size (by omega) (by omega)) 3).1.trans HA4.out.1, ha4.1, Nat.lt_of_lt_of_le ha4.2 hS.size⟩
    have HBA : Hid (BareAt p w5) := (H.out.2.below HB4.out).sole hS
    have HR5 : Hid (R = bareRest true a (baresL.drop 0) (PSof ts ix full)) := HR0.out
    clear hP hS hp hz4 ha4
    unfold tokV

    obtain ⟨_, bt, bfr, hbar⟩ := HBA.out
    have HBX : Hid (w5.heap[0]? = some (.cells baresA bt bfr)) := hbar
    have HPW : Hid (∀ w1, Below w5.heap.size w5 w1 → PP w1 p g cap ts ix d full) := fun w1 hB => HP5.out.below hB
    clear hbar
    go_wp2_with (refine wpList_load_row rfl 125 _ rfl 0 rfl bt baresA bfr _ HBX.out Tryz.underlying125 rfl (by kernel_rfl) ?_)
    go_loopw [20] (fun i wr => ∃ k : Nat, i = .int .i64 k ∧ k ≤ 7 ∧ Hid (Below w5.heap.size w5 wr) ∧ Hid (R = bareRest true a (baresL.drop k) (PSof ts ix full))) (fun i _ => 7 - (intOf i).toNat)
    case atStart => exact ⟨0, rfl, by omega, Below.refl _ _, HR5⟩
    case round =>
      obtain ⟨k, rfl, hk7, HBW, HK⟩ := hrel
      by_cases hlt : k < 7
      · have hlt' : (k : Int) < 7 := by omega
        obtain ⟨kk, uu, ww, HEL⟩ : ∃ kk uu ww, Hid (baresL[k]'hlt = (kk, uu, ww)) := ⟨_, _, _, rfl⟩
        have hat : ∀ w, (Instr.index 125 (.agg baresA) (.int .i64 k)).run Tryz.prog w = .ok (.agg #[.int .i64 kk, .bool uu, .string ⟨ww.toArray⟩]) w := fun w => by
          have := bares_at k hlt w
          rw [HEL.out] at this
          exact this
        have HD : Hid (baresL.drop k = (kk, uu, ww) :: baresL.drop (k + 1)) := by show _ = _; rw [List.drop_eq_getElem_cons hlt, HEL.out]
        have HWN : Hid (ww ≠ []) := by
          show ww ≠ []
          have := bares_words k hlt
          rw [HEL.out] at this
          exact this
        obtain ⟨wb, hwb⟩ : ∃ wb, wr.alloc (.cells #[.int .i64 kk, .bool uu, .string ⟨ww.toArray⟩] 124) = wb := ⟨_, rfl⟩
        have l0 : wb.cell? ⟨wr.heap.size, 0, none⟩ = some (.int .i64 kk) := by rw [← hwb]; simp
        have l1 : wb.cell? ⟨wr.heap.size, 1, none⟩ = some (.bool uu) := by rw [← hwb]; simp
        have l2 : wb.cell? ⟨wr.heap.size, 2, none⟩ = some (.string ⟨ww.toArray⟩) := by rw [← hwb]; simp
        have HBB : Hid (Below w5.heap.size w5 wb ∧ w5.heap.size ≤ wr.heap.size ∧ wr.heap.size < wb.heap.size) := by
          refine ⟨?_, HBW.out.size, by rw [← hwb]; simp⟩
          rw [← hwb]; exact HBW.out.alloc HBW.out.size _
        have HL0 : Hid (wb.cell? ⟨wr.heap.size, 0, none⟩ = some (.int .i64 kk)) := l0
        have HSE : Hid (∀ w1, Below w5.heap.size w5 w1 → Calls Tryz.prog 75 #[.pointer (some ⟨p, 0, none⟩), .string ⟨ww.toArray⟩] w1 fun e w' => e = .returned (.bool ((PSof ts ix full).sees ww)) ∧ Below w1.heap.size w1 w') := fun w1 hB => by
          have hx := sees_any p g cap ts ix d full ⟨ww.toArray⟩ w1 (HPW.out w1 hB)
          rw [ByteArray.toList_mk] at hx
          exact hx
        have HKL : Hid (k < 7) := hlt
        by_cases huu : uu = true
        · have hue : (uu == true) = true := by rw [huu]; rfl
          cases hse : (PSof ts ix full).sees ww
          · rw [hse] at HSE
            have HK2 : Hid (R = bareRest true a (baresL.drop (k + 1)) (PSof ts ix full)) := by
              show _ = _
              rw [HK.out, HD.out]
              unfold bareRest
              rw [List.find?_cons_of_neg (by simp [hse])]
            clear hse huu
            go_wp2_with fail
            refine (HSE.out _ HBB.out.1).mono ?_
            rintro e w6 ⟨rfl, hB⟩
            have HB6 : Hid (Below w5.heap.size w5 w6) := HBB.out.1.trans (hB.mono HBB.out.1.size)
            clear hB
            go_wp2
            go_roundw
            case rel => exact ⟨k + 1, by go_num, HKL.out, HB6, HK2⟩
            case measure => simp [intOf]; omega
          · rw [hse] at HSE
            have HRN : Hid (R = (PSof ts ix full).take.bind fun _ s => .ok (.node kk [] 0 a []) s) := by
              show _ = _
              rw [HK.out, HD.out]
              unfold bareRest
              rw [List.find?_cons_of_pos (by simp [hse, huu])]
            have hix : ix + 1 < ts.length := by
              refine HE.out.text HP5.out.il ?_
              unfold PS.sees at hse
              rw [PSof_hd ts ix full HP5.out.il] at hse
              rw [show (ts[ix]'HP5.out.il).text = ww by simpa using hse]
              exact HWN.out
            have HTK : Hid (∀ w1, Below w5.heap.size w5 w1 → Calls Tryz.prog 69 #[.pointer (some ⟨p, 0, none⟩)] w1 (PPost p g cap ts d tokIs (PSof ts ix full).take w1)) := fun w1 hB => take_any p g cap ts ix d full w1 (HPW.out w1 hB) hix
            clear hse hix huu
            generalize (PSof ts ix full).take = r at HRN HTK
            go_wp2_with fail
            refine (HSE.out _ HBB.out.1).mono ?_
            rintro e w6 ⟨rfl, hB⟩
            have HB6 : Hid (Below w5.heap.size w5 w6 ∧ w6.heap[wr.heap.size]? = wb.heap[wr.heap.size]? ∧ wr.heap.size < w6.heap.size) := ⟨HBB.out.1.trans (hB.mono HBB.out.1.size), hB.block _ HBB.out.2.2, Nat.lt_of_lt_of_le HBB.out.2.2 hB.size⟩
            clear hB
            go_wp2_with fail
            refine (HTK.out _ HB6.out.1).mono ?_
            cases r with
            | no why at_ =>
              rintro e w9 ⟨rfl, hS⟩
              have HS9 : Hid (Sole p w w9) := (HS5.out.trans (Sole.of_below HB6.out.1)).trans hS
              clear hS
              go_wp2
              refine ⟨rfl, ?_⟩
              rw [HRN.out]
              exact ⟨rfl, HS9.out⟩
            | ok t st =>
              rintro e w9 ⟨v, i9, full9, rfl, rfl, rfl, hP, hS⟩
              have HP9 : Hid (PP w9 p g cap ts i9 d full9) := hP
              have HS9 : Hid (Sole p w w9) := (HS5.out.trans (Sole.of_below HB6.out.1)).trans hS
              have hp := HP.out
              have h56 := HB6.out.1.size
              have hz5 := HZ5.out.2
              have ha5 := HA5.out
              have hbb := HBB.out
              have hb6 := HB6.out.2.2
              obtain ⟨z0, z1, z2, z3, z4, y0, y1, y2, y3, y4⟩ := (HZ5.out.1.block (HB6.out.1.block _ hz5)).block (hS.block w.heap.size (by omega) (by omega))
              have m0 : w9.cell? ⟨wr.heap.size, 0, none⟩ = some (.int .i64 kk) := by
                rw [(cells_same ((hS.block wr.heap.size (by omega) (by omega)).trans HB6.out.2.1) 0).1]
                exact HL0.out
              have m3 : w9.cell? ⟨w1.heap.size, 3, none⟩ = some (.int .i64 a) := by
                rw [(cells_same ((hS.block w1.heap.size (by omega) (by omega)).trans (HB6.out.1.block _ ha5.2.2)) 3).1]
                exact ha5.1
              have qb := bld03 kk a
              clear hP hS h56 hz5 ha5 hbb hb6 hp
              unfold tokV
              go_wp2
              have q := res5 w9 w.heap.size (.int .i64 kk) (.string ⟨#[]⟩) (.int .i64 0) (.int .i64 a) (.slice none 0 0) z0 z1 z2 z3 z4
              have hBz := below_set5 w9 w.heap.size w.heap.size (.int .i64 kk) (.string ⟨#[]⟩) (.int .i64 0) (.int .i64 a) (.slice none 0 0) (Nat.le_refl _)
              generalize ((((w9.setCell ⟨w.heap.size, 0, none⟩ (.int .i64 kk)).setCell ⟨w.heap.size, 1, none⟩ (.string ⟨#[]⟩)).setCell ⟨w.heap.size, 2, none⟩ (.int .i64 0)).setCell ⟨w.heap.size, 3, none⟩ (.int .i64 a)).setCell ⟨w.heap.size, 4, none⟩ (.slice none 0 0) = wz at q hBz ⊢
              obtain ⟨q0, q1, q2, q3, q4⟩ := q
              refine bodyPost_ret (v := .agg #[.int .i64 kk, .string ⟨#[]⟩, .int .i64 0, .int .i64 a, .slice none 0 0]) (by simp [results, Tryz.results142, go_sem, q0, q1, q2, q3, q4]) rfl ?_
              rw [HRN.out]
              exact ⟨_, i9, full9, rfl, treeAt_node.2 ⟨_, rfl, listAt_nil⟩, rfl, HP9.out.of_blocks (hBz.block p HP.out.1) (hBz.block g HP.out.2), HS9.out.below_after hBz⟩
        · have hue : (uu == true) = false := by cases uu <;> simp_all
          have HK2 : Hid (R = bareRest true a (baresL.drop (k + 1)) (PSof ts ix full)) := by
            show _ = _
            rw [HK.out, HD.out]
            unfold bareRest
            rw [List.find?_cons_of_neg (by simp [hue])]
          clear huu
          go_wp2
          go_roundw
          case rel => exact ⟨k + 1, by go_num, HKL.out, HBB.out.1, HK2⟩
          case measure => simp [intOf]; omega
      · have hke : k = 7 := by omega
        subst hke
        have HRN : Hid (R = .no 40 (ts[ix]'HP5.out.il).at_) := by
          show _ = _
          rw [HK.out]
          show PS.bad _ _ = _
          unfold PS.bad
          rw [PSof_hd ts ix full HP5.out.il]
        have HWR : Hid (∀ w1, Below w5.heap.size w5 w1 → Calls Tryz.prog 74 #[.pointer (some ⟨p, 0, none⟩), .int .i64 40] w1 fun e w' => e = .returned (.agg #[.int .i64 40, .int .i64 ((ts[ix]'HP5.out.il).at_ : Nat)]) ∧ Below w1.heap.size w1 w') := fun w1 hB => wrong_any p g cap ts ix d 40 full w1 (HPW.out w1 hB)
        rw [show ((7 : Nat) : Int) = 7 from rfl]
        go_wp2_with fail
        refine (HWR.out _ HBW.out).mono ?_
        rintro e w2 ⟨rfl, hB⟩
        have HB2 : Hid (Below w5.heap.size w5 w2) := HBW.out.trans (hB.mono HBW.out.size)
        clear hB
        go_wp2
        refine ⟨rfl, ?_⟩
        rw [HRN.out]
        exact ⟨rfl, HS5.out.trans (Sole.of_below HB2.out)⟩

theorem bare_any (p g cap : Nat) (ts : List Tok) (hE : Ends ts) (d : Int) : Keeps p g cap ts d 142 bareP := by
  intro i full w h hba
  have HT : ∀ w1, Below w.heap.size w w1 → Calls Tryz.prog 38 #[.pointer (some ⟨p, 0, none⟩)] w1 fun e w' => e = .returned (tokV (ts[i]'h.il)) ∧ Below w1.heap.size w1 w' := fun w1 hB => token_any p g cap ts i d full w1 (h.below hB)
  have HSE : ∀ w1, Below w.heap.size w w1 → Calls Tryz.prog 75 #[.pointer (some ⟨p, 0, none⟩), .string ⟨#[117, 110, 115, 105, 103, 110, 101, 100]⟩] w1 fun e w' => e = .returned (.bool ((PSof ts i full).sees wUnsigned)) ∧ Below w1.heap.size w1 w' := fun w1 hB => by
    have hx := sees_any p g cap ts i d full ⟨#[117, 110, 115, 105, 103, 110, 101, 100]⟩ w1 (h.below hB)
    rw [ByteArray.toList_mk] at hx
    exact hx
  have hd := PSof_hd ts i full h.il
  by_cases hk : (ts[i]'h.il).kind = 1
  · have e1 : bareP (PSof ts i full) = refP (PSof ts i full) := by unfold bareP; rw [hd, if_pos hk]
    rw [e1]
    exact bare_ref p g cap ts d _ _ _ _ w h.plt h.glt _ (by simp [hk]) HT (fun w1 hB => reference_any p g cap ts hE i d full w1 (h.below hB))
  · cases hse : (PSof ts i full).sees wUnsigned
    · have e1 : bareP (PSof ts i full) = bareRest false (ts[i]'h.il).at_ baresL (PSof ts i full) := by
        unfold bareP
        rw [hd, if_neg hk, hse]
        rfl
      rw [e1]
      rw [hse] at HSE
      exact bare_plain p g cap ts hE d _ _ _ _ w i full h hba (by simp [hk]) HT HSE
    · have e1 : bareP (PSof ts i full) = (PSof ts i full).take.bind fun _ s => bareRest true (ts[i]'h.il).at_ baresL s := by
        unfold bareP
        rw [hd, if_neg hk, hse]
        show ((PSof ts i full).take.bind fun _ s => Ans.ok () s).bind _ = _
        cases (PSof ts i full).take <;> rfl
      rw [e1]
      rw [hse] at HSE
      refine bare_uns p g cap ts hE d _ _ _ _ w i full h hba (hE.text h.il ?_) (by simp [hk]) HT HSE
      unfold PS.sees at hse
      rw [hd] at hse
      rw [show (ts[i]'h.il).text = wUnsigned by simpa using hse]
      simp [wUnsigned]
end Go.Proofs.YteokdknaadckbaaGreatDoor
namespace Go.Proofs.YteokdknaadckbaaGreatDoor
open Go.RowKit

def kidO (k : Int) (n : List UInt8) (m : Int) (a : Nat) (sl : Value) : Obj := .cells #[.int .i64 k, .string ⟨n.toArray⟩, .int .i64 m, .int .i64 a, sl] 29 (0, 0)
def tokO (t : Tok) : Obj := .cells #[.int .i64 t.kind, .string ⟨t.text.toArray⟩, .int .i64 t.num, .int .i64 t.at_] 41 (0, 0)
theorem kid_cells {w : World} {b : Nat} {k : Int} {n : List UInt8} {m : Int} {a : Nat} {sl : Value} (h : w.heap[b]? = some (kidO k n m a sl)) :
    (w.cell? ⟨b, 0, none⟩ = some (.int .i64 k) ∧ w.cell? ⟨b, 1, none⟩ = some (.string ⟨n.toArray⟩) ∧ w.cell? ⟨b, 2, none⟩ = some (.int .i64 m) ∧ w.cell? ⟨b, 3, none⟩ = some (.int .i64 a) ∧ w.cell? ⟨b, 4, none⟩ = some sl) ∧
    (w.frozen? ⟨b, 0, none⟩ = false ∧ w.frozen? ⟨b, 1, none⟩ = false ∧ w.frozen? ⟨b, 2, none⟩ = false ∧ w.frozen? ⟨b, 3, none⟩ = false ∧ w.frozen? ⟨b, 4, none⟩ = false) := by
  unfold kidO at h
  simp [World.cell?, World.frozen?, h]
theorem tok_cells {w : World} {b : Nat} {t : Tok} (h : w.heap[b]? = some (tokO t)) :
    w.cell? ⟨b, 0, none⟩ = some (.int .i64 t.kind) ∧ w.cell? ⟨b, 1, none⟩ = some (.string ⟨t.text.toArray⟩) ∧ w.cell? ⟨b, 2, none⟩ = some (.int .i64 t.num) ∧ w.cell? ⟨b, 3, none⟩ = some (.int .i64 t.at_) := by
  unfold tokO at h
  simp [World.cell?, h]
theorem blk_lt {w : World} {b : Nat} {o : Obj} (h : w.heap[b]? = some o) : b < w.heap.size := (Array.getElem?_eq_some_iff.1 h).1
theorem Sole.blk {p : Nat} {w w' : World} (hS : Sole p w w') {b : Nat} {o : Obj} (h : w.heap[b]? = some o) (hb : b ≠ p) : w'.heap[b]? = some o := (hS.block b (blk_lt h) hb).trans h
theorem below_blk {w w' : World} (hB : Below w.heap.size w w') {b : Nat} {o : Obj} (h : w.heap[b]? = some o) : w'.heap[b]? = some o := (hB.block b (blk_lt h)).trans h
theorem alloc_blk {w : World} {x : Obj} {b : Nat} {o : Obj} (h : w.heap[b]? = some o) : (w.alloc x).heap[b]? = some o := (heap_alloc_old w x (blk_lt h)).trans h

theorem setCell_blk {u : World} {r o : Nat} {cs : Array Value} {t : TypeId} {v : Value} (h : u.heap[r]? = some (.cells cs t (0, 0))) : (u.setCell ⟨r, o, none⟩ v).heap[r]? = some (.cells (cs.setIfInBounds o v) t (0, 0)) := by
  simp [World.setCell, Array.getElem?_modify, h]
/-- a node's block written over -/
theorem set5_blk {u : World} {r : Nat} {k0 m0 k m : Int} {n0 n : List UInt8} {a0 a : Nat} {s0 sl : Value} (h : u.heap[r]? = some (kidO k0 n0 m0 a0 s0)) :
    (((((u.setCell ⟨r, 0, none⟩ (.int .i64 k)).setCell ⟨r, 1, none⟩ (.string ⟨n.toArray⟩)).setCell ⟨r, 2, none⟩ (.int .i64 m)).setCell ⟨r, 3, none⟩ (.int .i64 a)).setCell ⟨r, 4, none⟩ sl).heap[r]? = some (kidO k n m a sl) :=
  setCell_blk (setCell_blk (setCell_blk (setCell_blk (setCell_blk h))))
theorem set4_blk {u : World} {r : Nat} {k m : Int} {n : List UInt8} {a : Nat} {s0 sl : Value} (h : u.heap[r]? = some (kidO k n m a s0)) : (u.setCell ⟨r, 4, none⟩ sl).heap[r]? = some (kidO k n m a sl) := setCell_blk h

/-- a tree is laid into the result's block and read back -/
theorem fin5 {p : Nat} {w w9 : World} {k m : Int} {n : List UInt8} {a : Nat} {sl : Value} {r : Nat} (hr : w.heap.size ≤ r) (hS : Sole p w w9) (wz : World)
    (e : ((((w9.setCell ⟨r, 0, none⟩ (.int .i64 k)).setCell ⟨r, 1, none⟩ (.string ⟨n.toArray⟩)).setCell ⟨r, 2, none⟩ (.int .i64 m)).setCell ⟨r, 3, none⟩ (.int .i64 a)).setCell ⟨r, 4, none⟩ sl = wz) :
    Sole p w wz ∧ (∀ b, b ≠ r → wz.heap[b]? = w9.heap[b]?) := by
  subst e
  exact ⟨hS.below_after (below_set5 w9 w.heap.size r _ _ _ _ _ hr), but_set5 w9 r _ _ _ _ _⟩
theorem PP.sole_but {w9 wz : World} {p g cap : Nat} {ts : List Tok} {i : Nat} {d : Int} {full : Bool} {r : Nat} (h : PP w9 p g cap ts i d full) (hp : p < r) (hg : g < r) (hz : ∀ b, b ≠ r → wz.heap[b]? = w9.heap[b]?) : PP wz p g cap ts i d full :=
  h.of_blocks (hz p (by omega)) (hz g (by omega))

/-- a block that this call has made: what stands in it -/
def Kep (w cur : World) (b : Nat) (o : Obj) : Prop := cur.heap[b]? = some o ∧ w.heap.size ≤ b
theorem Kep.sole {p : Nat} {w cur nxt : World} {b : Nat} {o : Obj} (h : Kep w cur b o) (hp : p < w.heap.size) (hS : Sole p cur nxt) : Kep w nxt b o := ⟨hS.blk h.1 (by have := h.2; omega), h.2⟩
theorem Kep.below {w cur nxt : World} {b : Nat} {o : Obj} (h : Kep w cur b o) (hB : Below cur.heap.size cur nxt) : Kep w nxt b o := ⟨below_blk hB h.1, h.2⟩
theorem Kep.alloc {w cur : World} {b : Nat} {o : Obj} (h : Kep w cur b o) (x : Obj) : Kep w (cur.alloc x) b o := ⟨alloc_blk h.1, h.2⟩
theorem Kep.new {w cur : World} (hs : w.heap.size ≤ cur.heap.size) (o : Obj) : Kep w (cur.alloc o) cur.heap.size o := ⟨heap_alloc_new _ _, hs⟩
theorem Kep.lt {w cur : World} {b : Nat} {o : Obj} (h : Kep w cur b o) : b < cur.heap.size := blk_lt h.1
theorem Kep.but {w cur nxt : World} {b : Nat} {o : Obj} (h : Kep w cur b o) {r : Nat} (hz : ∀ b, b ≠ r → nxt.heap[b]? = cur.heap[b]?) (hr : b ≠ r) : Kep w nxt b o := ⟨(hz b hr).trans h.1, h.2⟩
theorem below_alloc (w : World) (x : Obj) : Below w.heap.size w (w.alloc x) := (Below.refl _ _).alloc (Nat.le_refl _) _
theorem Sole.alloc {p : Nat} {w cur : World} (h : Sole p w cur) (x : Obj) : Sole p w (cur.alloc x) := h.trans (Sole.of_below (below_alloc cur x))
theorem PP.alloc {w : World} {p g cap : Nat} {ts : List Tok} {i : Nat} {d : Int} {full : Bool} (h : PP w p g cap ts i d full) (x : Obj) : PP (w.alloc x) p g cap ts i d full := h.below (below_alloc w x)
theorem treeIs.alloc {B : Nat} {w : World} {t : Tree} {v : Value} (h : treeIs B t w v) (x : Obj) : treeIs B t (w.alloc x) v := h.below (Nat.le_refl _) (below_alloc w x) (Nat.le_refl _)
theorem listIs.alloc {B : Nat} {w : World} {t : List Tree} {v : Value} (h : listIs B t w v) (x : Obj) : listIs B t (w.alloc x) v := h.below (Nat.le_refl _) (below_alloc w x) (Nat.le_refl _)

theorem TreeAt.sole {A : Nat → Prop} {p : Nat} {cur nxt : World} {t : Tree} {v : Value} (h : TreeAt A cur t v) (hA : ∀ b, A b → b ≠ p) (hS : Sole p cur nxt) : TreeAt A nxt t v := TreeAt.frame (fun _ h => h) (fun b hb hl => hS.block b hl (hA b hb)) t v h
theorem TreeAt.below {A : Nat → Prop} {cur nxt : World} {t : Tree} {v : Value} (h : TreeAt A cur t v) (hB : Below cur.heap.size cur nxt) : TreeAt A nxt t v := TreeAt.frame (fun _ h => h) (fun b _ hl => hB.block b hl) t v h
theorem ListAt.sole {A : Nat → Prop} {p : Nat} {cur nxt : World} {t : List Tree} {v : Value} (h : ListAt A cur t v) (hA : ∀ b, A b → b ≠ p) (hS : Sole p cur nxt) : ListAt A nxt t v := ListAt.frame (fun _ h => h) (fun b hb hl => hS.block b hl (hA b hb)) h
theorem ListAt.below {A : Nat → Prop} {cur nxt : World} {t : List Tree} {v : Value} (h : ListAt A cur t v) (hB : Below cur.heap.size cur nxt) : ListAt A nxt t v := ListAt.frame (fun _ h => h) (fun b _ hl => hB.block b hl) h
theorem ListAt.but {A : Nat → Prop} {cur nxt : World} {t : List Tree} {v : Value} {r : Nat} (h : ListAt A cur t v) (hA : ∀ b, A b → b ≠ r) (hz : ∀ b, b ≠ r → nxt.heap[b]? = cur.heap[b]?) : ListAt A nxt t v := ListAt.frame (fun _ h => h) (fun b hb _ => hz b (hA b hb)) h
theorem ListAt.weaken {A A' : Nat → Prop} {w : World} {t : List Tree} {v : Value} (h : ListAt A w t v) (hA : ∀ b, A b → A' b) : ListAt A' w t v := ListAt.frame hA (fun _ _ _ => rfl) h
theorem TreeAt.weaken {A A' : Nat → Prop} {w : World} {t : Tree} {v : Value} (h : TreeAt A w t v) (hA : ∀ b, A b → A' b) : TreeAt A' w t v := TreeAt.frame hA (fun _ _ _ => rfl) _ _ h
/-- trees that lie in block q -/
theorem listAt_lit {A : Nat → Prop} {w : World} {q : Nat} {ks : List Tree} {xs : List Value} (h : w.heap[q]? = some (rowObj xs)) (hn : ks.length ≤ 1000) (hA : A q) (hr : RowV (fun b => A b ∧ b ≠ q) w ks xs) : ListAt A w ks (.slice (some ⟨q, 0, none⟩) ks.length ks.length) :=
  ⟨xs, owns_lit h (rowV_len _ _ hr) hn, (fun g e => by cases e; exact hA), RowV.frame (fun b hb => ⟨hb.1, fun e => hb.2 (Option.some.inj e).symm⟩) (fun _ _ _ => rfl) _ _ hr⟩
/-- trees appended to a list that lies elsewhere -/
theorem listAt_more {A : Nat → Prop} {w w' : World} {ks us : List Tree} {sl v' : Value} {xs ys : List Value} (hb : ∀ g, sl.ownBlock = some g → A g) (hr : RowV (fun b => A b ∧ sl.ownBlock ≠ some b) w ks xs)
    (hu : RowV (fun b => A b ∧ sl.ownBlock ≠ some b) w us ys) (ho' : w'.ownsRow 0 29 5 v' (ks.length + us.length) (xs ++ ys)) (hg : w.grownBy w' sl.ownBlock) (H : Nat) (hH : w.heap.size ≤ H) (hAH : A H) (hat : v'.ownBlock = sl.ownBlock ∨ v'.ownBlock = some H) : ListAt A w' (ks ++ us) v' := by
  refine ⟨xs ++ ys, by rw [List.length_append]; exact ho', ?_, ?_⟩
  · intro g e
    rcases hat with h | h
    · exact hb g (h ▸ e)
    · rw [h] at e; cases e; exact hAH
  · have hall := RowV.there _ _ (RowV.append ks us xs ys hr hu)
    refine RowV.frame (fun b hb => ⟨hb.1.1, ?_⟩) (fun b hb hl => hg.block b hl (fun e => hb.1.2 e.symm)) _ _ hall
    rcases hat with h | h
    · rw [h]; exact hb.1.2
    · rw [h]; intro e; cases e; exact absurd hb.2 (by omega)
/-- a node that is laid into the result's block -/
theorem node_fin {A : Nat → Prop} {B r : Nat} {w9 wz : World} {k m : Int} {n : List UInt8} {a : Nat} {ks : List Tree} {sl : Value} (h : ListAt A w9 ks sl) (hB : ∀ b, A b → B ≤ b) (hr : ∀ b, A b → b ≠ r) (hz : ∀ b, b ≠ r → wz.heap[b]? = w9.heap[b]?) : treeIs B (.node k n m a ks) wz (kidV k n m a sl) :=
  treeAt_node.2 ⟨_, rfl, ListAt.frame (fun b hb => hB b hb) (fun b hb _ => hz b (hr b hb)) h⟩
theorem node_finA {A A' : Nat → Prop} {r : Nat} {w9 wz : World} {k m : Int} {n : List UInt8} {a : Nat} {ks : List Tree} {sl : Value} (h : ListAt A w9 ks sl) (hB : ∀ b, A b → A' b) (hr : ∀ b, A b → b ≠ r) (hz : ∀ b, b ≠ r → wz.heap[b]? = w9.heap[b]?) : TreeAt A' wz (.node k n m a ks) (kidV k n m a sl) :=
  treeAt_node.2 ⟨_, rfl, ListAt.frame (fun b hb => hB b hb) (fun b hb _ => hz b (hr b hb)) h⟩
/-- of older blocks, or of new ones -/
def Mix (A0 : Nat → Prop) (B : Nat) : Nat → Prop := fun b => A0 b ∨ B ≤ b
def mixIs (A0 : Nat → Prop) (B : Nat) (t : Tree) (w : World) (v : Value) : Prop := TreeAt (Mix A0 B) w t v
/-- what the world has grown by, if the row lies behind w -/
theorem Sole.grown {p : Nat} {w cur nxt : World} {q : Nat} (h : Sole p w cur) (hg : cur.grownBy nxt (some q)) (hq : w.heap.size ≤ q) : Sole p w nxt :=
  ⟨hg.os.trans h.os, hg.tape.trans h.tape, hg.output.trans h.output, Nat.le_trans h.size hg.size, fun b hb hp => (hg.block b (Nat.lt_of_lt_of_le hb h.size) (fun e => by cases e; omega)).trans (h.block b hb hp)⟩
theorem Kep.grown {w cur nxt : World} {b q : Nat} {o : Obj} (h : Kep w cur b o) (hg : cur.grownBy nxt (some q)) (hne : b ≠ q) : Kep w nxt b o := ⟨(hg.block b h.lt (fun e => hne (Option.some.inj e))).trans h.1, h.2⟩
theorem PP.grown {w nxt : World} {p g cap : Nat} {ts : List Tok} {i : Nat} {d : Int} {full : Bool} (h : PP w p g cap ts i d full) {q : Nat} (hg : w.grownBy nxt (some q)) (hp : p ≠ q) (hgq : g ≠ q) : PP nxt p g cap ts i d full :=
  h.of_blocks (hg.block p h.plt (fun e => hp (Option.some.inj e))) (hg.block g h.glt (fun e => hgq (Option.some.inj e)))

/-- a call of a function by its contract, as one step of a region that draws its order -/
theorem step_calls {P : Program} {ops : Array Oper} {o : Oper} {a : Act} {w : World} {K : Act → World → Prop} {Q : Exit → Act → World → Prop} {E : Prop} (hg : o.guard = none) (f : FuncId) (args : Array Value)
    (hrun : (execOp a.eval o).run P w = .ok (.enter f args) w) (post : Ending → World → Prop) (hC : Calls P f args w post) (h : ∀ e w', post e w' → ∃ v, e = .returned v ∧ K (a.put o.dst v) w') :
    if Region.wanted o (yielded ops a.tmps) = true then Oper.wp P o a w K Q else E := by
  have hw : Region.wanted o (yielded ops a.tmps) = true := by simp [Region.wanted, hg]
  rw [if_pos hw]
  unfold Oper.wp
  rw [hrun, Oper.upon_enter]
  refine hC.mono fun e w' hp => ?_
  obtain ⟨v, rfl, hk⟩ := h e w' hp
  exact hk
end Go.Proofs.YteokdknaadckbaaGreatDoor
namespace Go.Proofs.YteokdknaadckbaaGreatDoor
open Go.RowKit

theorem info29_ex : ∃ i : TypeInfo, Tryz.prog.info? 29 = some i ∧ i.zero = some (.agg #[.int .i64 0, .string ⟨#[]⟩, .int .i64 0, .int .i64 0, .slice none 0 0]) ∧ i.size = 5 ∧ i.bytes = 64 :=
  ⟨(Tryz.prog.info? 29).getD default, by kernel_rfl, by kernel_rfl, by kernel_rfl, by kernel_rfl⟩
/-- what stands behind a list's name -/
def listP (n : Tok) (of : Tree) (s : PS) : Ans Tree :=
  (s.want [60]).bind fun _ s =>
    if s.sees [62] then (s.want [62]).bind fun _ s => .ok (named 16 n [of]) s
    else (valueP s).bind fun v s => (s.want [62]).bind fun _ s => .ok (named 16 n [of, v]) s

set_option maxHeartbeats 2000000 in
set_option maxRecDepth 4000 in
theorem list_any (p g cap : Nat) (ts : List Tok) (hE : Ends ts) (i : Nat) (d : Int) (full : Bool) (t : Tok) (k9 : Int) (n9 : List UInt8) (m9 : Int) (a9 : Nat) (ks9 : List Tree) (o9 : Option Addr) (l9 c9 : Nat) (A0 : Nat → Prop) (w : World) (h : PP w p g cap ts i d full)
    (hA0 : ∀ b, A0 b → b ≠ p ∧ b < w.heap.size) (hT : TreeAt A0 w (.node k9 n9 m9 a9 ks9) (kidV k9 n9 m9 a9 (.slice o9 l9 c9))) :
    Calls Tryz.prog 141 #[.pointer (some ⟨p, 0, none⟩), tokV t, (kidV k9 n9 m9 a9 (.slice o9 l9 c9))] w (PPost p g cap ts d (mixIs A0 w.heap.size) (listP t (.node k9 n9 m9 a9 ks9) (PSof ts i full)) w) := by
  have HP : Hid (p < w.heap.size ∧ g < w.heap.size) := ⟨h.plt, h.glt⟩
  have HBB : Hid (∀ b, A0 b → b ≠ p ∧ b < w.heap.size) := hA0
  have HE : Hid (Ends ts) := hE
  obtain ⟨R, hR⟩ : ∃ R, listP t (.node k9 n9 m9 a9 ks9) (PSof ts i full) = R := ⟨_, rfl⟩
  rw [hR]
  have HR0 : Hid (R = listP t (.node k9 n9 m9 a9 ks9) (PSof ts i full)) := hR.symm
  have hT0 : TreeAt A0 w (.node k9 n9 m9 a9 ks9) (kidV k9 n9 m9 a9 (.slice o9 l9 c9)) := hT
  unfold tokV kidV
  obtain ⟨wa1, hwa1⟩ : ∃ x, w.alloc (.cells #[.int .i64 t.kind, .string ⟨t.text.toArray⟩, .int .i64 t.num, .int .i64 t.at_] 41) = x := ⟨_, rfl⟩
  obtain ⟨wa2, hwa2⟩ : ∃ x, wa1.alloc (.cells #[.int .i64 k9, .string ⟨n9.toArray⟩, .int .i64 m9, .int .i64 a9, .slice o9 l9 c9] 29) = x := ⟨_, rfl⟩
  obtain ⟨wa, hwa⟩ : ∃ x, wa2.alloc (.cells #[.int .i64 0, .string ⟨#[]⟩, .int .i64 0, .int .i64 0, .slice none 0 0] 29) = x := ⟨_, rfl⟩
  obtain ⟨wq, hwq⟩ : ∃ x, wa.alloc (.cells #[.int .i64 k9, .string ⟨n9.toArray⟩, .int .i64 m9, .int .i64 a9, .slice o9 l9 c9] 29) = x := ⟨_, rfl⟩
  have b1 : Below w.heap.size w wa1 := by rw [← hwa1]; exact below_alloc _ _
  have b2 : Below w.heap.size w wa2 := by rw [← hwa2]; exact b1.alloc b1.size _
  have b3 : Below w.heap.size w wa := by rw [← hwa]; exact b2.alloc b2.size _
  have b4 : Below w.heap.size w wq := by rw [← hwq]; exact b3.alloc b3.size _
  have kr : Kep w wq wa2.heap.size (kidO 0 [] 0 0 (.slice none 0 0)) := by rw [← hwq, ← hwa]; exact (Kep.new b2.size _).alloc _
  have kq : Kep w wq wa.heap.size (kidO k9 n9 m9 a9 (.slice o9 l9 c9)) := by rw [← hwq]; exact Kep.new b3.size _
  have kta : Kep w wa w.heap.size (tokO t) := by rw [← hwa, ← hwa2, ← hwa1]; exact ((Kep.new (Nat.le_refl _) _).alloc _).alloc _
  have koa : Kep w wa wa1.heap.size (kidO k9 n9 m9 a9 (.slice o9 l9 c9)) := by rw [← hwa, ← hwa2]; exact (Kep.new b1.size _).alloc _
  obtain ⟨t0, t1, t2, t3⟩ := tok_cells kta.1
  obtain ⟨⟨v0, v1, v2, v3, v4⟩, _⟩ := kid_cells koa.1
  have HNM : Hid (Calls Tryz.prog 109 #[.int .i64 16, tokV t, .slice (some ⟨wa.heap.size, 0, none⟩) 1 1] wq fun e w' => e = .returned (kidV 16 t.text 0 t.at_ (.slice (some ⟨wa.heap.size, 0, none⟩) 1 1)) ∧ Below wq.heap.size wq w') := named_any 16 t (some ⟨wa.heap.size, 0, none⟩) 1 1 wq
  have HQ : Hid (Below w.heap.size w wq ∧ Kep w wq wa2.heap.size (kidO 0 [] 0 0 (.slice none 0 0)) ∧ Kep w wq wa.heap.size (kidO k9 n9 m9 a9 (.slice o9 l9 c9)) ∧ PP w p g cap ts i d full ∧ TreeAt A0 w (.node k9 n9 m9 a9 ks9) (kidV k9 n9 m9 a9 (.slice o9 l9 c9)) ∧ wa2.heap.size < wa.heap.size) := ⟨b4, kr, kq, h, hT0, by rw [← hwa]; simp⟩
  clear b1 b2 b3 b4 kr kq kta koa h hT hE hA0 hR hT0
  unfold tokV at HNM
  go_enter Tryz.func141, Tryz.ntmps141
  go_wp2_with fail
  refine HNM.out.mono ?_
  rintro e w1 ⟨rfl, hB1⟩
  obtain ⟨wl, hwl⟩ : ∃ x, w1.alloc (.cells #[.int .i64 16, .string ⟨t.text.toArray⟩, .int .i64 0, .int .i64 t.at_, .slice (some ⟨wa.heap.size, 0, none⟩) 1 1] 29) = x := ⟨_, rfl⟩
  have hs1 : Below w.heap.size w w1 := HQ.out.1.trans (hB1.mono HQ.out.1.size)
  have hsl : Below w.heap.size w wl := by rw [← hwl]; exact hs1.alloc hs1.size _
  have HSl : Hid (Sole p w wl) := Sole.of_below hsl
  have HPl : Hid (PP wl p g cap ts i d full) := HQ.out.2.2.2.1.below hsl
  have HTl : Hid (TreeAt A0 wl (.node k9 n9 m9 a9 ks9) (kidV k9 n9 m9 a9 (.slice o9 l9 c9))) := HQ.out.2.2.2.2.1.below hsl
  have HKr : Hid (Kep w wl wa2.heap.size (kidO 0 [] 0 0 (.slice none 0 0))) := by show Kep w wl _ _; rw [← hwl]; exact (HQ.out.2.1.below hB1).alloc _
  have HKq : Hid (Kep w wl wa.heap.size (kidO k9 n9 m9 a9 (.slice o9 l9 c9))) := by show Kep w wl _ _; rw [← hwl]; exact (HQ.out.2.2.1.below hB1).alloc _
  have HKl : Hid (Kep w wl w1.heap.size (kidO 16 t.text 0 t.at_ (.slice (some ⟨wa.heap.size, 0, none⟩) 1 1))) := by show Kep w wl _ _; rw [← hwl]; exact Kep.new hs1.size _
  have HLT : Hid (wa2.heap.size < wa.heap.size ∧ wa.heap.size < w1.heap.size) := ⟨HQ.out.2.2.2.2.2, (HQ.out.2.2.1.below hB1).lt⟩
  have HWA : Hid (Calls Tryz.prog 41 #[.pointer (some ⟨p, 0, none⟩), .slice (some ⟨wl.heap.size, 0, none⟩) 1 1] (wl.alloc (.cells #[.string ⟨#[60]⟩] 9)) (PPost p g cap ts d unitIs ((PSof ts i full).want [60]) wl)) := want_one p g cap ts HE.out i d full [60] (by simp) wl HPl.out
  obtain ⟨ru, hru⟩ : ∃ r, (PSof ts i full).want [60] = r := ⟨_, rfl⟩
  have HR1 : Hid (R = ru.bind fun _ s => if s.sees [62] then (s.want [62]).bind fun _ s => .ok (named 16 t [(.node k9 n9 m9 a9 ks9)]) s else (valueP s).bind fun v s => (s.want [62]).bind fun _ s => .ok (named 16 t [(.node k9 n9 m9 a9 ks9), v]) s) := by
    show _ = _
    rw [HR0.out, ← hru]; rfl
  rw [hru] at HWA
  clear hB1 hs1 hsl hru hwa1 hwa2 hwa hwq HNM HQ
  unfold kidV
  go_wp2_with fail
  clear hwl
  refine HWA.out.mono ?_
  cases ru with
  | no why at_ =>
    rintro e w4 ⟨rfl, hS⟩
    have HS : Hid (Sole p w w4) := HSl.out.trans hS
    clear hS
    go_wp2
    refine ⟨rfl, ?_⟩
    rw [HR1.out]
    exact ⟨rfl, HS.out⟩
  | ok u st =>
    rintro e w2 ⟨v, i, full, rfl, rfl, rfl, hP, hS⟩
    have hp := HP.out.1
    have hbb := HBB.out
    have HSE : Hid (Calls Tryz.prog 75 #[.pointer (some ⟨p, 0, none⟩), .string ⟨#[62]⟩] w2 fun e w' => e = .returned (.bool ((PSof ts i full).sees [62])) ∧ Below w2.heap.size w2 w') := by
      have hx := sees_any p g cap ts i d full ⟨#[62]⟩ w2 hP
      rw [ByteArray.toList_mk] at hx
      exact hx
    have HP2 : Hid (PP w2 p g cap ts i d full) := hP
    have HS2 : Hid (Sole p w w2) := HSl.out.trans hS
    have HT2 : Hid (TreeAt A0 w2 (.node k9 n9 m9 a9 ks9) (kidV k9 n9 m9 a9 (.slice o9 l9 c9))) := HTl.out.sole (fun b h => (hbb b h).1) hS
    have HKr2 : Hid (Kep w w2 wa2.heap.size (kidO 0 [] 0 0 (.slice none 0 0))) := HKr.out.sole hp hS
    have HKq2 : Hid (Kep w w2 wa.heap.size (kidO k9 n9 m9 a9 (.slice o9 l9 c9))) := HKq.out.sole hp hS
    have HKl2 : Hid (Kep w w2 w1.heap.size (kidO 16 t.text 0 t.at_ (.slice (some ⟨wa.heap.size, 0, none⟩) 1 1))) := HKl.out.sole hp hS
    clear hP hS hp hbb
    cases hse : (PSof ts i full).sees [62]
    · rw [hse] at HSE
      obtain ⟨rv, hrv⟩ : ∃ r, valueP (PSof ts i full) = r := ⟨_, rfl⟩
      have HR2 : Hid (R = rv.bind fun v s => (s.want [62]).bind fun _ s => .ok (named 16 t [(.node k9 n9 m9 a9 ks9), v]) s) := by
        show _ = _
        rw [HR1.out, ← hrv]
        show (if _ then _ else _) = _
        rw [hse, if_neg (by simp)]
      have HVA : Hid (∀ w3, Below w2.heap.size w2 w3 → Calls Tryz.prog 140 #[.pointer (some ⟨p, 0, none⟩)] w3 (PPost p g cap ts d (treeIs w3.heap.size) rv w3)) := fun w3 hB => by
        rw [← hrv]
        exact value_any p g cap ts HE.out i d full w3 (HP2.out.below hB)
      clear hse hrv
      go_wp2_with fail
      refine HSE.out.mono ?_
      rintro e w3 ⟨rfl, hB3⟩
      have HS3 : Hid (Sole p w w3) := HS2.out.trans (Sole.of_below hB3)
      have HT3 : Hid (TreeAt A0 w3 (.node k9 n9 m9 a9 ks9) (kidV k9 n9 m9 a9 (.slice o9 l9 c9))) := HT2.out.below hB3
      have HKr3 : Hid (Kep w w3 wa2.heap.size (kidO 0 [] 0 0 (.slice none 0 0))) := HKr2.out.below hB3
      have HKq3 : Hid (Kep w w3 wa.heap.size (kidO k9 n9 m9 a9 (.slice o9 l9 c9))) := HKq2.out.below hB3
      have HKl3 : Hid (Kep w w3 w1.heap.size (kidO 16 t.text 0 t.at_ (.slice (some ⟨wa.heap.size, 0, none⟩) 1 1))) := HKl2.out.below hB3
      obtain ⟨⟨l0, l1, l2, l3, l4⟩, ⟨f0, f1, f2, f3, f4⟩⟩ := kid_cells HKl3.out.1
      have HVB : Hid (∀ m, Calls Tryz.prog 140 #[.pointer (some ⟨p, 0, none⟩)] (w3.drewN m) (PPost p g cap ts d (treeIs w3.heap.size) rv w3)) := fun m => by
        have hB : Below w3.heap.size w3 (w3.drewN m) := below_drew (Below.refl _ _) m
        exact (HVA.out _ (hB3.trans (hB.mono hB3.size))).mono fun e w' hp => PPost.from_below hB hp
      clear hB3
      go_wp2_with fail
      cases rv with
      | no why at_ =>
        go_region_dies
        all_goals (
          refine (HVB.out _).mono ?_
          rintro e w5 ⟨rfl, hS⟩
          refine ⟨rfl, ?_⟩
          rw [HR2.out]
          exact ⟨rfl, HS3.out.trans hS⟩)
      | ok tv st =>
        obtain ⟨k8, n8, m8, a8, ks8⟩ := tv
        obtain ⟨inf, hi1, hi2, hi3, hi4⟩ := info29_ex
        have HI : Hid (Tryz.prog.info? 29 = some inf ∧ inf.zero = some (.agg #[.int .i64 0, .string ⟨#[]⟩, .int .i64 0, .int .i64 0, .slice none 0 0]) ∧ inf.size = 5 ∧ inf.bytes = 64) := ⟨hi1, hi2, hi3, hi4⟩
        clear hi1 hi2 hi3 hi4
        go_region_law (first
          | (refine step_calls rfl 140 #[.pointer (some ⟨p, 0, none⟩)] (by go_simp) _ (HVB.out _) ?_
             rintro e w5 ⟨v, i, full, rfl, hT, rfl, hP, hS⟩
             refine ⟨_, rfl, ?_⟩
             obtain ⟨sl, rfl, hL⟩ := treeAt_node.1 hT
             obtain ⟨o8, l8, c8, rfl⟩ := hL.shape
             have hp := HP.out
             have hbb := HBB.out
             have HP5 : Hid (PP w5 p g cap ts i d full) := hP
             have HS5 : Hid (Sole p w w5) := HS3.out.trans hS
             have HV5 : Hid (treeIs w3.heap.size (.node k8 n8 m8 a8 ks8) w5 (kidV k8 n8 m8 a8 (.slice o8 l8 c8))) := hT
             have HT5 : Hid (TreeAt A0 w5 (.node k9 n9 m9 a9 ks9) (kidV k9 n9 m9 a9 (.slice o9 l9 c9))) := HT3.out.sole (fun b h => (hbb b h).1) hS
             have HKr5 : Hid (Kep w w5 wa2.heap.size (kidO 0 [] 0 0 (.slice none 0 0))) := HKr3.out.sole hp.1 hS
             have HKq5 : Hid (Kep w w5 wa.heap.size (kidO k9 n9 m9 a9 (.slice o9 l9 c9))) := HKq3.out.sole hp.1 hS
             have HKl5 : Hid (Kep w w5 w1.heap.size (kidO 16 t.text 0 t.at_ (.slice (some ⟨wa.heap.size, 0, none⟩) 1 1))) := HKl3.out.sole hp.1 hS
             have HL35 : Hid (w3.heap.size ≤ w5.heap.size) := hS.size
             have u4 := (kid_cells HKl5.out.1).1.2.2.2.2
             obtain ⟨wb, hwb⟩ : ∃ x, w5.alloc (.cells #[.int .i64 k8, .string ⟨n8.toArray⟩, .int .i64 m8, .int .i64 a8, .slice o8 l8 c8] 29) = x := ⟨_, rfl⟩
             have HWB : Hid (w5.alloc (.cells #[.int .i64 k8, .string ⟨n8.toArray⟩, .int .i64 m8, .int .i64 a8, .slice o8 l8 c8] 29) = wb) := hwb
             have x4 : wb.cell? ⟨w1.heap.size, 4, none⟩ = some (.slice (some ⟨wa.heap.size, 0, none⟩) 1 1) := by rw [← hwb]; exact (kid_cells (HKl5.out.alloc _).1).1.2.2.2.2
             have HBX : Hid (wb.heap[wa.heap.size]? = some (rowObj [.int .i64 k9, .string ⟨n9.toArray⟩, .int .i64 m9, .int .i64 a9, .slice o9 l9 c9]) ∧ wb.heap[w5.heap.size]? = some (.cells #[.int .i64 k8, .string ⟨n8.toArray⟩, .int .i64 m8, .int .i64 a8, .slice o8 l8 c8] 29 (0, 0))) := by
               refine ⟨?_, ?_⟩
               · rw [← hwb]; exact (HKq5.out.alloc _).1
               · rw [← hwb]; exact heap_alloc_new _ _
             clear hT hL hP hS hp hbb
             unfold kidV)
          | (refine step_append_lies _ rfl _ _ 27 rfl 0 29 inf (.agg #[.int .i64 0, .string ⟨#[]⟩, .int .i64 0, .int .i64 0, .slice none 0 0]) 5 64 Tryz.underlying27 HI.out.1 HI.out.2.1 HI.out.2.2.1 HI.out.2.2.2 rfl (by decide) (.slice (some ⟨wa.heap.size, 0, none⟩) 1 1) 1 [.int .i64 k9, .string ⟨n9.toArray⟩, .int .i64 m9, .int .i64 a9, .slice o9 l9 c9] rfl (owns_lit HBX.out.1 rfl (by decide)) ⟨w5.heap.size, 0, none⟩ 1 1 [.int .i64 k8, .string ⟨n8.toArray⟩, .int .i64 m8, .int .i64 a8, .slice o8 l8 c8] rfl rfl (World.news_of_block (cs := #[.int .i64 k8, .string ⟨n8.toArray⟩, .int .i64 m8, .int .i64 a8, .slice o8 l8 c8]) (t := 29) (fr := (0, 0)) HBX.out.2) (by simp [Value.oneCell']) (by decide) (by decide) (by decide) (Nat.zero_le _) _ rfl ?_
             intro gq cq w6 hown hgrow hat hlt
             have hp := HP.out
             have hbb := HBB.out
             have hlt2 := HLT.out
             have hl1 := HKl5.out.lt
             have hr2 := HKr5.out.2
             have hq2 := HKq5.out.2
             have hwl2 := HKl5.out.2
             have h3l := HKl3.out.lt
             have hl35 := HL35.out
             have hBw : Below w5.heap.size w5 wb := by rw [← HWB.out]; exact below_alloc _ _
             have hsb : wb.heap.size = w5.heap.size + 1 := by rw [← HWB.out]; simp
             have hgr : wb.grownBy w6 (some wa.heap.size) := hgrow
             have HKr6 : Hid (Kep w w6 wa2.heap.size (kidO 0 [] 0 0 (.slice none 0 0))) := (HKr5.out.below hBw).grown hgr (by omega)
             have HKl6 : Hid (Kep w w6 w1.heap.size (kidO 16 t.text 0 t.at_ (.slice (some ⟨wa.heap.size, 0, none⟩) 1 1))) := (HKl5.out.below hBw).grown hgr (by omega)
             have HP6 : Hid (PP w6 p g cap ts i d full) := (HP5.out.below hBw).grown hgr (by omega) (by omega)
             have HS6 : Hid (Sole p w w6) := (HS5.out.trans (Sole.of_below hBw)).grown hgr hq2
             have HL6 : Hid (ListAt (fun b => Mix A0 w.heap.size b ∧ b ≠ w1.heap.size ∧ b ≠ wa2.heap.size) w6 [(.node k9 n9 m9 a9 ks9), .node k8 n8 m8 a8 ks8] (.slice (some ⟨gq, 0, none⟩) 2 cq)) := by
               refine listAt_more (ks := [(.node k9 n9 m9 a9 ks9)]) (us := [.node k8 n8 m8 a8 ks8]) (sl := .slice (some ⟨wa.heap.size, 0, none⟩) 1 1) (fun g e => ?_) (rowV_one ((HT5.out.below hBw).weaken (fun b h => ?_))) (rowV_one ((TreeAt.below (TreeAt.there _ _ HV5.out) hBw).weaken (fun b h => ?_))) hown hgrow wb.heap.size (Nat.le_refl _) ⟨Or.inr (by omega), by omega, by omega⟩ ?_
               · have e2 : wa.heap.size = g := Option.some.inj e
                 exact ⟨Or.inr (by omega), by omega, by omega⟩
               · have h0 := hbb b h
                 refine ⟨⟨Or.inl h, by omega, by omega⟩, fun e => ?_⟩
                 have e2 : wa.heap.size = b := Option.some.inj e
                 omega
               · have h1 : w3.heap.size ≤ b := h.1
                 refine ⟨⟨Or.inr (by omega), by omega, by omega⟩, fun e => ?_⟩
                 have e2 : wa.heap.size = b := Option.some.inj e
                 omega
               · rcases hat with e | e
                 · exact Or.inl e.symm
                 · exact Or.inr (by rw [e]; rfl)
             obtain ⟨⟨j0, j1, j2, j3, j4⟩, ⟨g0, g1, g2, g3, g4⟩⟩ := kid_cells HKl6.out.1
             clear hown hgrow hat hlt hp hbb hlt2 hl1 hr2 hq2 hwl2 h3l hl35 hBw hsb hgr))
        all_goals (
          have hp := HP.out
          have hlt2 := HLT.out
          have hwl2 := HKl6.out.2
          have hz6 : ∀ b, b ≠ w1.heap.size → (w6.setCell ⟨w1.heap.size, 4, none⟩ (.slice (some ⟨gq, 0, none⟩) 2 cq)).heap[b]? = w6.heap[b]? := fun b hb => Below.heap_setCell _ _ _ _ hb
          have HKlc : Hid (Kep w (w6.setCell ⟨w1.heap.size, 4, none⟩ (.slice (some ⟨gq, 0, none⟩) 2 cq)) w1.heap.size (kidO 16 t.text 0 t.at_ (.slice (some ⟨gq, 0, none⟩) 2 cq))) := ⟨set4_blk HKl6.out.1, HKl6.out.2⟩
          have HKrc : Hid (Kep w (w6.setCell ⟨w1.heap.size, 4, none⟩ (.slice (some ⟨gq, 0, none⟩) 2 cq)) wa2.heap.size (kidO 0 [] 0 0 (.slice none 0 0))) := HKr6.out.but hz6 (by omega)
          have HPc : Hid (PP (w6.setCell ⟨w1.heap.size, 4, none⟩ (.slice (some ⟨gq, 0, none⟩) 2 cq)) p g cap ts i d full) := HP6.out.sole_but (by omega) (by omega) hz6
          have HSc : Hid (Sole p w (w6.setCell ⟨w1.heap.size, 4, none⟩ (.slice (some ⟨gq, 0, none⟩) 2 cq))) := HS6.out.below_after ((Below.refl _ _).setCell hwl2 _)
          have HLc : Hid (ListAt (fun b => Mix A0 w.heap.size b ∧ b ≠ w1.heap.size ∧ b ≠ wa2.heap.size) (w6.setCell ⟨w1.heap.size, 4, none⟩ (.slice (some ⟨gq, 0, none⟩) 2 cq)) [(.node k9 n9 m9 a9 ks9), .node k8 n8 m8 a8 ks8] (.slice (some ⟨gq, 0, none⟩) 2 cq)) := HL6.out.but (fun b h => h.2.1) hz6
          generalize w6.setCell ⟨w1.heap.size, 4, none⟩ (.slice (some ⟨gq, 0, none⟩) 2 cq) = wc at HKlc HKrc HPc HSc HLc ⊢
          clear hp hlt2 hwl2 hz6
          have HWB : Hid (Calls Tryz.prog 41 #[.pointer (some ⟨p, 0, none⟩), .slice (some ⟨wc.heap.size, 0, none⟩) 1 1] (wc.alloc (.cells #[.string ⟨#[62]⟩] 9)) (PPost p g cap ts d unitIs ((PSof ts i full).want [62]) wc)) := want_one p g cap ts HE.out i d full [62] (by simp) wc HPc.out
          obtain ⟨rw_, hrw⟩ : ∃ r, (PSof ts i full).want [62] = r := ⟨_, rfl⟩
          have HRW : Hid (R = rw_.bind fun _ s => .ok (named 16 t [(.node k9 n9 m9 a9 ks9), .node k8 n8 m8 a8 ks8]) s) := by
            show _ = _
            rw [HR2.out]; first | (rw [← hrw]; done) | (rw [← hrw]; rfl)
          rw [hrw] at HWB
          clear hrw
          go_wp2_with fail
          refine HWB.out.mono ?_
          cases rw_ with
          | no why at_ =>
            rintro e w8 ⟨rfl, hS⟩
            have HS : Hid (Sole p w w8) := HSc.out.trans hS
            clear hS
            go_wp2
            refine ⟨rfl, ?_⟩
            rw [HRW.out]
            exact ⟨rfl, HS.out⟩
          | ok u st =>
            rintro e w8 ⟨v, i, full, rfl, rfl, rfl, hP, hS⟩
            have hp := HP.out
            have hb := HBB.out
            have HP8 : Hid (PP w8 p g cap ts i d full) := hP
            have HS8 : Hid (Sole p w w8) := HSc.out.trans hS
            have HL8 : Hid (ListAt (fun b => Mix A0 w.heap.size b ∧ b ≠ w1.heap.size ∧ b ≠ wa2.heap.size) w8 [(.node k9 n9 m9 a9 ks9), .node k8 n8 m8 a8 ks8] (.slice (some ⟨gq, 0, none⟩) 2 cq)) := HLc.out.sole (fun b h => by rcases h.1 with h1 | h1; exact (hb b h1).1; omega) hS
            have HKr8 : Hid (Kep w w8 wa2.heap.size (kidO 0 [] 0 0 (.slice none 0 0))) := HKrc.out.sole hp.1 hS
            obtain ⟨⟨z0, z1, z2, z3, z4⟩, ⟨y0, y1, y2, y3, y4⟩⟩ := kid_cells HKr8.out.1
            obtain ⟨⟨l0, l1, l2, l3, l4⟩, _⟩ := kid_cells (HKlc.out.sole hp.1 hS).1
            clear hP hS hp hb
            go_wp2
            have q := res5 w8 wa2.heap.size (.int .i64 16) (.string ⟨t.text.toArray⟩) (.int .i64 0) (.int .i64 t.at_) (.slice (some ⟨gq, 0, none⟩) 2 cq) z0 z1 z2 z3 z4
            have hf := fin5 (k := 16) (n := t.text) (m := 0) (a := t.at_) (sl := (.slice (some ⟨gq, 0, none⟩) 2 cq)) HKr8.out.2 HS8.out _ rfl
            generalize ((((w8.setCell ⟨wa2.heap.size, 0, none⟩ (.int .i64 16)).setCell ⟨wa2.heap.size, 1, none⟩ (.string ⟨t.text.toArray⟩)).setCell ⟨wa2.heap.size, 2, none⟩ (.int .i64 0)).setCell ⟨wa2.heap.size, 3, none⟩ (.int .i64 t.at_)).setCell ⟨wa2.heap.size, 4, none⟩ (.slice (some ⟨gq, 0, none⟩) 2 cq) = wz at q hf ⊢
            obtain ⟨q0, q1, q2, q3, q4⟩ := q
            refine bodyPost_ret (v := .agg #[.int .i64 16, .string ⟨t.text.toArray⟩, .int .i64 0, .int .i64 t.at_, (.slice (some ⟨gq, 0, none⟩) 2 cq)]) (by simp [results, Tryz.results141, go_sem, q0, q1, q2, q3, q4]) rfl ?_
            rw [HRW.out]
            have hr2 := HKr8.out.2
            have hp := HP.out
            exact ⟨_, i, full, rfl, node_finA HL8.out (fun b h => h.1) (fun b h => h.2.2) hf.2, rfl, HP8.out.sole_but (by omega) (by omega) hf.2, hf.1⟩)
    · rw [hse] at HSE
      have HR2 : Hid (R = ((PSof ts i full).want [62]).bind fun _ s => .ok (named 16 t [(.node k9 n9 m9 a9 ks9)]) s) := by
        show _ = _
        rw [HR1.out]
        show (if _ then _ else _) = _
        rw [hse, if_pos rfl]
      clear hse
      go_wp2_with fail
      refine HSE.out.mono ?_
      rintro e w3 ⟨rfl, hB3⟩
      have hp := HP.out
      have hbb := HBB.out
      have hlt2 := HLT.out
      have hr2 := HKr2.out.2
      have HPc : Hid (PP w3 p g cap ts i d full) := HP2.out.below hB3
      have HSc : Hid (Sole p w w3) := HS2.out.trans (Sole.of_below hB3)
      have HLc : Hid (ListAt (fun b => Mix A0 w.heap.size b ∧ b ≠ w1.heap.size ∧ b ≠ wa2.heap.size) w3 [(.node k9 n9 m9 a9 ks9)] (.slice (some ⟨wa.heap.size, 0, none⟩) 1 1)) := by
        refine listAt_lit (HKq2.out.below hB3).1 (by simp) ⟨Or.inr (by omega), by omega, by omega⟩ (rowV_one ((HT2.out.below hB3).weaken (fun b h => ?_)))
        have h0 := hbb b h
        exact ⟨⟨Or.inl h, by omega, by omega⟩, by omega⟩
      have HKrc : Hid (Kep w w3 wa2.heap.size (kidO 0 [] 0 0 (.slice none 0 0))) := HKr2.out.below hB3
      have HKlc : Hid (Kep w w3 w1.heap.size (kidO 16 t.text 0 t.at_ (.slice (some ⟨wa.heap.size, 0, none⟩) 1 1))) := HKl2.out.below hB3
      clear hB3 hp hbb hlt2 hr2
      have HWB : Hid (Calls Tryz.prog 41 #[.pointer (some ⟨p, 0, none⟩), .slice (some ⟨w3.heap.size, 0, none⟩) 1 1] (w3.alloc (.cells #[.string ⟨#[62]⟩] 9)) (PPost p g cap ts d unitIs ((PSof ts i full).want [62]) w3)) := want_one p g cap ts HE.out i d full [62] (by simp) w3 HPc.out
      obtain ⟨rw_, hrw⟩ : ∃ r, (PSof ts i full).want [62] = r := ⟨_, rfl⟩
      have HRW : Hid (R = rw_.bind fun _ s => .ok (named 16 t [(.node k9 n9 m9 a9 ks9)]) s) := by
        show _ = _
        rw [HR2.out]; first | (rw [← hrw]; done) | (rw [← hrw]; rfl)
      rw [hrw] at HWB
      clear hrw
      go_wp2_with fail
      refine HWB.out.mono ?_
      cases rw_ with
      | no why at_ =>
        rintro e w8 ⟨rfl, hS⟩
        have HS : Hid (Sole p w w8) := HSc.out.trans hS
        clear hS
        go_wp2
        refine ⟨rfl, ?_⟩
        rw [HRW.out]
        exact ⟨rfl, HS.out⟩
      | ok u st =>
        rintro e w8 ⟨v, i, full, rfl, rfl, rfl, hP, hS⟩
        have hp := HP.out
        have hb := HBB.out
        have HP8 : Hid (PP w8 p g cap ts i d full) := hP
        have HS8 : Hid (Sole p w w8) := HSc.out.trans hS
        have HL8 : Hid (ListAt (fun b => Mix A0 w.heap.size b ∧ b ≠ w1.heap.size ∧ b ≠ wa2.heap.size) w8 [(.node k9 n9 m9 a9 ks9)] (.slice (some ⟨wa.heap.size, 0, none⟩) 1 1)) := HLc.out.sole (fun b h => by rcases h.1 with h1 | h1; exact (hb b h1).1; omega) hS
        have HKr8 : Hid (Kep w w8 wa2.heap.size (kidO 0 [] 0 0 (.slice none 0 0))) := HKrc.out.sole hp.1 hS
        obtain ⟨⟨z0, z1, z2, z3, z4⟩, ⟨y0, y1, y2, y3, y4⟩⟩ := kid_cells HKr8.out.1
        obtain ⟨⟨l0, l1, l2, l3, l4⟩, _⟩ := kid_cells (HKlc.out.sole hp.1 hS).1
        clear hP hS hp hb
        go_wp2
        have q := res5 w8 wa2.heap.size (.int .i64 16) (.string ⟨t.text.toArray⟩) (.int .i64 0) (.int .i64 t.at_) (.slice (some ⟨wa.heap.size, 0, none⟩) 1 1) z0 z1 z2 z3 z4
        have hf := fin5 (k := 16) (n := t.text) (m := 0) (a := t.at_) (sl := (.slice (some ⟨wa.heap.size, 0, none⟩) 1 1)) HKr8.out.2 HS8.out _ rfl
        generalize ((((w8.setCell ⟨wa2.heap.size, 0, none⟩ (.int .i64 16)).setCell ⟨wa2.heap.size, 1, none⟩ (.string ⟨t.text.toArray⟩)).setCell ⟨wa2.heap.size, 2, none⟩ (.int .i64 0)).setCell ⟨wa2.heap.size, 3, none⟩ (.int .i64 t.at_)).setCell ⟨wa2.heap.size, 4, none⟩ (.slice (some ⟨wa.heap.size, 0, none⟩) 1 1) = wz at q hf ⊢
        obtain ⟨q0, q1, q2, q3, q4⟩ := q
        refine bodyPost_ret (v := .agg #[.int .i64 16, .string ⟨t.text.toArray⟩, .int .i64 0, .int .i64 t.at_, (.slice (some ⟨wa.heap.size, 0, none⟩) 1 1)]) (by simp [results, Tryz.results141, go_sem, q0, q1, q2, q3, q4]) rfl ?_
        rw [HRW.out]
        have hr2 := HKr8.out.2
        have hp := HP.out
        exact ⟨_, i, full, rfl, node_finA HL8.out (fun b h => h.1) (fun b h => h.2.2) hf.2, rfl, HP8.out.sole_but (by omega) (by omega) hf.2, hf.1⟩

end Go.Proofs.YteokdknaadckbaaGreatDoor
