/- The program's parser: a declaration that is not void. -/
import Derived.Test.YteokdknaadckbaaGreatDoorPart04
namespace Go.Proofs.YteokdknaadckbaaGreatDoor
open Go.RowKit

theorem tokV_eq (t : Tok) : tokV t = .agg #[.int .i64 t.kind, .string ⟨t.text.toArray⟩, .int .i64 t.num, .int .i64 t.at_] := rfl
/-- a tree that a call has just made, and nothing else in its set -/
theorem treeIs.made {B : Nat} {w : World} {t : Tree} {v : Value} (h : treeIs B t w v) : TreeAt (fun b => B ≤ b ∧ b < w.heap.size) w t v := TreeAt.there _ _ h

set_option maxHeartbeats 1000000 in
set_option maxRecDepth 4000 in
theorem something_opaque (p g cap : Nat) (ts : List Tok) (hE : Ends ts) (d : Int) (i : Nat) (full : Bool) (w : World) (h : PP w p g cap ts i d full) (hw : ((ts[i]'h.il).text == [111, 112, 97, 113, 117, 101]) = true) :
    Calls Tryz.prog 70 #[.pointer (some ⟨p, 0, none⟩)] w (PPost p g cap ts d (treeIs w.heap.size) ((aloneP 25 (PSof ts i full)).bind fun t s => sizedP 25 t s) w) := by
  have hix : i + 1 < ts.length := hE.text h.il (by rw [show (ts[i]'h.il).text = [111, 112, 97, 113, 117, 101] by simpa using hw]; simp)
  have HP : Hid (p < w.heap.size ∧ g < w.heap.size) := ⟨h.plt, h.glt⟩
  have HE : Hid (Ends ts) := hE
  have H : Hid (PP w p g cap ts i d full) := h
  obtain ⟨tk, htk⟩ : ∃ x, ts[i]'h.il = x := ⟨_, rfl⟩
  obtain ⟨wa, hwa⟩ : ∃ x, w.alloc (.cells #[.int .i64 0, .string ⟨#[]⟩, .int .i64 0, .int .i64 0, .slice none 0 0] 29) = x := ⟨_, rfl⟩
  have b1 : Below w.heap.size w wa := by rw [← hwa]; exact below_alloc _ _
  have HKa : Hid (Kep w wa w.heap.size (kidO 0 [] 0 0 (.slice none 0 0))) := by show Kep w wa _ _; rw [← hwa]; exact Kep.new (Nat.le_refl _) _
  have HBa : Hid (Below w.heap.size w wa) := b1
  have HT0 : Hid (Calls Tryz.prog 38 #[.pointer (some ⟨p, 0, none⟩)] wa fun e w' => e = .returned (.agg #[.int .i64 tk.kind, .string ⟨tk.text.toArray⟩, .int .i64 tk.num, .int .i64 tk.at_]) ∧ Below wa.heap.size wa w') := by
    have hx := token_any p g cap ts i d full wa (h.below b1)
    rw [htk] at hx
    exact hx
  have q1 := fld1 tk.kind tk.num tk.at_ ⟨tk.text.toArray⟩
  rw [htk] at hw
  obtain ⟨R, hR⟩ : ∃ R, ((aloneP 25 (PSof ts i full)).bind fun t s => sizedP 25 t s) = R := ⟨_, rfl⟩
  rw [hR]
  have HIX : Hid (i + 1 < ts.length) := hix
  have HR0 : Hid (R = (aloneP 25 (PSof ts i full)).bind fun t s => sizedP 25 t s) := hR.symm
  clear h hE hR htk b1 hix
  go_enter Tryz.func70, Tryz.ntmps70
  go_wp2_with fail
  refine HT0.out.mono ?_
  rintro e w1 ⟨rfl, hB1⟩
  have hb01 : Below w.heap.size w w1 := HBa.out.trans (hB1.mono HBa.out.size)
  have HP1 : Hid (PP w1 p g cap ts i d full) := H.out.below hb01
  have HS1 : Hid (Sole p w w1) := Sole.of_below hb01
  have HK1 : Hid (Kep w w1 w.heap.size (kidO 0 [] 0 0 (.slice none 0 0))) := HKa.out.below hB1
  have HAL : Hid (Calls Tryz.prog 112 #[.pointer (some ⟨p, 0, none⟩), .int .i64 25] w1 (PPost p g cap ts d (treeIs w1.heap.size) (aloneP 25 (PSof ts i full)) w1)) := alone_any p g cap ts i d 25 full w1 HP1.out HIX.out
  obtain ⟨ra, hra⟩ : ∃ r, aloneP 25 (PSof ts i full) = r := ⟨_, rfl⟩
  have HR1 : Hid (R = ra.bind fun t s => sizedP 25 t s) := by
    show _ = _
    rw [HR0.out]; first | (rw [← hra]; done) | (rw [← hra]; rfl)
  have HKD : Hid (∀ t s, ra = .ok t s → t.kind = 25) := fun t s e => by
    rw [← hra] at e
    unfold aloneP at e
    cases hx : (PSof ts i full).take with
    | no a b => rw [hx] at e; cases e
    | ok a b => rw [hx] at e; cases e; rfl
  rw [hra] at HAL
  clear hra hb01 hB1
  go_wp2_with fail
  clear hwa
  refine HAL.out.mono ?_
  cases ra with
  | no why at_ =>
    rintro e w99 ⟨rfl, hS⟩
    have HS99 : Hid (Sole p w w99) := HS1.out.trans hS
    clear hS
    go_wp2
    refine ⟨rfl, ?_⟩
    rw [HR1.out]
    exact ⟨rfl, HS99.out⟩
  | ok tv st =>
    rintro e w2 ⟨v, i, full, rfl, hT, rfl, hP, hS⟩
    obtain ⟨k9, n9, m9, a9, ks9⟩ := tv
    obtain ⟨sl, rfl, hL⟩ := treeAt_node.1 hT
    obtain ⟨o9, l9, c9, rfl⟩ := hL.shape
    have hkk : k9 = 25 := HKD.out _ _ rfl
    subst hkk
    have HSZ : Hid (Calls Tryz.prog 111 #[.pointer (some ⟨p, 0, none⟩), (kidV 25 n9 m9 a9 (.slice o9 l9 c9))] w2 (PPost p g cap ts d (mixIs (fun b => w1.heap.size ≤ b ∧ b < w2.heap.size) w2.heap.size) (sizedP 25 (.node 25 n9 m9 a9 ks9) (PSof ts i full)) w2)) :=
      sized_any p g cap ts HE.out i d full 25 n9 m9 a9 ks9 o9 l9 c9 (fun b => w1.heap.size ≤ b ∧ b < w2.heap.size) w2 hP (fun b hb => ⟨by have := HP.out.1; have := HS1.out.size; omega, hb.2⟩) (treeIs.made hT)
    have HS2 : Hid (Sole p w w2) := HS1.out.trans hS
    have HK2 : Hid (Kep w w2 w.heap.size (kidO 0 [] 0 0 (.slice none 0 0))) := HK1.out.sole HP.out.1 hS
    have HLT : Hid (w.heap.size < w1.heap.size) := HK1.out.lt
    obtain ⟨rz, hrz⟩ : ∃ r, sizedP 25 (.node 25 n9 m9 a9 ks9) (PSof ts i full) = r := ⟨_, rfl⟩
    have HR2 : Hid (R = rz) := by
      show _ = _
      rw [HR1.out, ← hrz]; rfl
    rw [hrz] at HSZ
    clear hrz hT hL hP hS
    unfold kidV at HSZ ⊢
    go_wp2_with fail
    refine HSZ.out.mono ?_
    cases rz with
    | no why at_ =>
      rintro e w99 ⟨rfl, hS⟩
      have HS99 : Hid (Sole p w w99) := HS2.out.trans hS
      clear hS
      go_wp2
      refine ⟨rfl, ?_⟩
      rw [HR2.out]
      exact ⟨rfl, HS99.out⟩
    | ok tw st =>
      rintro e w6 ⟨v, i, full, rfl, hT, rfl, hP, hS⟩
      obtain ⟨k8, n8, m8, a8, ks8⟩ := tw
      obtain ⟨sl, rfl, hL⟩ := treeAt_node.1 hT
      obtain ⟨o8, l8, c8, rfl⟩ := hL.shape
      have hlt := HLT.out
      have hl2 := HK2.out.lt
      have HP6 : Hid (PP w6 p g cap ts i d full) := hP
      have HS6 : Hid (Sole p w w6) := HS2.out.trans hS
      have HK6 : Hid (Kep w w6 w.heap.size (kidO 0 [] 0 0 (.slice none 0 0))) := HK2.out.sole HP.out.1 hS
      have HL6 : Hid (ListAt (fun b => w.heap.size < b) w6 ks8 (.slice o8 l8 c8)) := hL.weaken (fun b h => by
        rcases h with h | h
        · omega
        · omega)
      clear hP hS hT hL hlt hl2
      unfold kidV
      obtain ⟨⟨z0, z1, z2, z3, z4⟩, ⟨y0, y1, y2, y3, y4⟩⟩ := kid_cells HK6.out.1
      go_wp2
      have q := res5 w6 w.heap.size (.int .i64 k8) (.string ⟨n8.toArray⟩) (.int .i64 m8) (.int .i64 a8) (.slice o8 l8 c8) z0 z1 z2 z3 z4
      have hf := fin5 (r := w.heap.size) (w9 := w6) (k := k8) (n := n8) (m := m8) (a := a8) (sl := (.slice o8 l8 c8)) HK6.out.2 HS6.out _ rfl
      generalize ((((w6.setCell ⟨w.heap.size, 0, none⟩ (.int .i64 k8)).setCell ⟨w.heap.size, 1, none⟩ (.string ⟨n8.toArray⟩)).setCell ⟨w.heap.size, 2, none⟩ (.int .i64 m8)).setCell ⟨w.heap.size, 3, none⟩ (.int .i64 a8)).setCell ⟨w.heap.size, 4, none⟩ (.slice o8 l8 c8) = wz at q hf ⊢
      obtain ⟨q0, q1, q2, q3, q4⟩ := q
      refine bodyPost_ret (v := .agg #[.int .i64 k8, .string ⟨n8.toArray⟩, .int .i64 m8, .int .i64 a8, (.slice o8 l8 c8)]) (by simp [results, Tryz.results70, go_sem, q0, q1, q2, q3, q4]) rfl ?_
      rw [HR2.out]
      have hr2 := HK6.out.2
      have hpg := HP.out
      exact ⟨_, _, _, rfl, node_fin HL6.out (fun b h => Nat.le_of_lt h) (fun b h => Nat.ne_of_gt h) hf.2, rfl, HP6.out.sole_but (by omega) (by omega) hf.2, hf.1⟩

set_option maxHeartbeats 1000000 in
set_option maxRecDepth 4000 in
theorem something_string (p g cap : Nat) (ts : List Tok) (hE : Ends ts) (d : Int) (i : Nat) (full : Bool) (w : World) (h : PP w p g cap ts i d full) (hw0 : ((ts[i]'h.il).text == [111, 112, 97, 113, 117, 101]) = false) (hw : ((ts[i]'h.il).text == [115, 116, 114, 105, 110, 103]) = true) :
    Calls Tryz.prog 70 #[.pointer (some ⟨p, 0, none⟩)] w (PPost p g cap ts d (treeIs w.heap.size) ((aloneP 26 (PSof ts i full)).bind fun t s => sizedP 26 t s) w) := by
  have hix : i + 1 < ts.length := hE.text h.il (by rw [show (ts[i]'h.il).text = [115, 116, 114, 105, 110, 103] by simpa using hw]; simp)
  have HP : Hid (p < w.heap.size ∧ g < w.heap.size) := ⟨h.plt, h.glt⟩
  have HE : Hid (Ends ts) := hE
  have H : Hid (PP w p g cap ts i d full) := h
  obtain ⟨tk, htk⟩ : ∃ x, ts[i]'h.il = x := ⟨_, rfl⟩
  obtain ⟨wa, hwa⟩ : ∃ x, w.alloc (.cells #[.int .i64 0, .string ⟨#[]⟩, .int .i64 0, .int .i64 0, .slice none 0 0] 29) = x := ⟨_, rfl⟩
  have b1 : Below w.heap.size w wa := by rw [← hwa]; exact below_alloc _ _
  have HKa : Hid (Kep w wa w.heap.size (kidO 0 [] 0 0 (.slice none 0 0))) := by show Kep w wa _ _; rw [← hwa]; exact Kep.new (Nat.le_refl _) _
  have HBa : Hid (Below w.heap.size w wa) := b1
  have HT0 : Hid (Calls Tryz.prog 38 #[.pointer (some ⟨p, 0, none⟩)] wa fun e w' => e = .returned (.agg #[.int .i64 tk.kind, .string ⟨tk.text.toArray⟩, .int .i64 tk.num, .int .i64 tk.at_]) ∧ Below wa.heap.size wa w') := by
    have hx := token_any p g cap ts i d full wa (h.below b1)
    rw [htk] at hx
    exact hx
  have q1 := fld1 tk.kind tk.num tk.at_ ⟨tk.text.toArray⟩
  rw [htk] at hw hw0
  obtain ⟨R, hR⟩ : ∃ R, ((aloneP 26 (PSof ts i full)).bind fun t s => sizedP 26 t s) = R := ⟨_, rfl⟩
  rw [hR]
  have HIX : Hid (i + 1 < ts.length) := hix
  have HR0 : Hid (R = (aloneP 26 (PSof ts i full)).bind fun t s => sizedP 26 t s) := hR.symm
  clear h hE hR htk b1 hix
  go_enter Tryz.func70, Tryz.ntmps70
  go_wp2_with fail
  refine HT0.out.mono ?_
  rintro e w1 ⟨rfl, hB1⟩
  have hb01 : Below w.heap.size w w1 := HBa.out.trans (hB1.mono HBa.out.size)
  have HP1 : Hid (PP w1 p g cap ts i d full) := H.out.below hb01
  have HS1 : Hid (Sole p w w1) := Sole.of_below hb01
  have HK1 : Hid (Kep w w1 w.heap.size (kidO 0 [] 0 0 (.slice none 0 0))) := HKa.out.below hB1
  have HAL : Hid (Calls Tryz.prog 112 #[.pointer (some ⟨p, 0, none⟩), .int .i64 26] w1 (PPost p g cap ts d (treeIs w1.heap.size) (aloneP 26 (PSof ts i full)) w1)) := alone_any p g cap ts i d 26 full w1 HP1.out HIX.out
  obtain ⟨ra, hra⟩ : ∃ r, aloneP 26 (PSof ts i full) = r := ⟨_, rfl⟩
  have HR1 : Hid (R = ra.bind fun t s => sizedP 26 t s) := by
    show _ = _
    rw [HR0.out]; first | (rw [← hra]; done) | (rw [← hra]; rfl)
  have HKD : Hid (∀ t s, ra = .ok t s → t.kind = 26) := fun t s e => by
    rw [← hra] at e
    unfold aloneP at e
    cases hx : (PSof ts i full).take with
    | no a b => rw [hx] at e; cases e
    | ok a b => rw [hx] at e; cases e; rfl
  rw [hra] at HAL
  clear hra hb01 hB1
  go_wp2_with fail
  clear hwa
  refine HAL.out.mono ?_
  cases ra with
  | no why at_ =>
    rintro e w99 ⟨rfl, hS⟩
    have HS99 : Hid (Sole p w w99) := HS1.out.trans hS
    clear hS
    go_wp2
    refine ⟨rfl, ?_⟩
    rw [HR1.out]
    exact ⟨rfl, HS99.out⟩
  | ok tv st =>
    rintro e w2 ⟨v, i, full, rfl, hT, rfl, hP, hS⟩
    obtain ⟨k9, n9, m9, a9, ks9⟩ := tv
    obtain ⟨sl, rfl, hL⟩ := treeAt_node.1 hT
    obtain ⟨o9, l9, c9, rfl⟩ := hL.shape
    have hkk : k9 = 26 := HKD.out _ _ rfl
    subst hkk
    have HSZ : Hid (Calls Tryz.prog 111 #[.pointer (some ⟨p, 0, none⟩), (kidV 26 n9 m9 a9 (.slice o9 l9 c9))] w2 (PPost p g cap ts d (mixIs (fun b => w1.heap.size ≤ b ∧ b < w2.heap.size) w2.heap.size) (sizedP 26 (.node 26 n9 m9 a9 ks9) (PSof ts i full)) w2)) :=
      sized_any p g cap ts HE.out i d full 26 n9 m9 a9 ks9 o9 l9 c9 (fun b => w1.heap.size ≤ b ∧ b < w2.heap.size) w2 hP (fun b hb => ⟨by have := HP.out.1; have := HS1.out.size; omega, hb.2⟩) (treeIs.made hT)
    have HS2 : Hid (Sole p w w2) := HS1.out.trans hS
    have HK2 : Hid (Kep w w2 w.heap.size (kidO 0 [] 0 0 (.slice none 0 0))) := HK1.out.sole HP.out.1 hS
    have HLT : Hid (w.heap.size < w1.heap.size) := HK1.out.lt
    obtain ⟨rz, hrz⟩ : ∃ r, sizedP 26 (.node 26 n9 m9 a9 ks9) (PSof ts i full) = r := ⟨_, rfl⟩
    have HR2 : Hid (R = rz) := by
      show _ = _
      rw [HR1.out, ← hrz]; rfl
    rw [hrz] at HSZ
    clear hrz hT hL hP hS
    unfold kidV at HSZ ⊢
    go_wp2_with fail
    refine HSZ.out.mono ?_
    cases rz with
    | no why at_ =>
      rintro e w99 ⟨rfl, hS⟩
      have HS99 : Hid (Sole p w w99) := HS2.out.trans hS
      clear hS
      go_wp2
      refine ⟨rfl, ?_⟩
      rw [HR2.out]
      exact ⟨rfl, HS99.out⟩
    | ok tw st =>
      rintro e w6 ⟨v, i, full, rfl, hT, rfl, hP, hS⟩
      obtain ⟨k8, n8, m8, a8, ks8⟩ := tw
      obtain ⟨sl, rfl, hL⟩ := treeAt_node.1 hT
      obtain ⟨o8, l8, c8, rfl⟩ := hL.shape
      have hlt := HLT.out
      have hl2 := HK2.out.lt
      have HP6 : Hid (PP w6 p g cap ts i d full) := hP
      have HS6 : Hid (Sole p w w6) := HS2.out.trans hS
      have HK6 : Hid (Kep w w6 w.heap.size (kidO 0 [] 0 0 (.slice none 0 0))) := HK2.out.sole HP.out.1 hS
      have HL6 : Hid (ListAt (fun b => w.heap.size < b) w6 ks8 (.slice o8 l8 c8)) := hL.weaken (fun b h => by
        rcases h with h | h
        · omega
        · omega)
      clear hP hS hT hL hlt hl2
      unfold kidV
      obtain ⟨⟨z0, z1, z2, z3, z4⟩, ⟨y0, y1, y2, y3, y4⟩⟩ := kid_cells HK6.out.1
      go_wp2
      have q := res5 w6 w.heap.size (.int .i64 k8) (.string ⟨n8.toArray⟩) (.int .i64 m8) (.int .i64 a8) (.slice o8 l8 c8) z0 z1 z2 z3 z4
      have hf := fin5 (r := w.heap.size) (w9 := w6) (k := k8) (n := n8) (m := m8) (a := a8) (sl := (.slice o8 l8 c8)) HK6.out.2 HS6.out _ rfl
      generalize ((((w6.setCell ⟨w.heap.size, 0, none⟩ (.int .i64 k8)).setCell ⟨w.heap.size, 1, none⟩ (.string ⟨n8.toArray⟩)).setCell ⟨w.heap.size, 2, none⟩ (.int .i64 m8)).setCell ⟨w.heap.size, 3, none⟩ (.int .i64 a8)).setCell ⟨w.heap.size, 4, none⟩ (.slice o8 l8 c8) = wz at q hf ⊢
      obtain ⟨q0, q1, q2, q3, q4⟩ := q
      refine bodyPost_ret (v := .agg #[.int .i64 k8, .string ⟨n8.toArray⟩, .int .i64 m8, .int .i64 a8, (.slice o8 l8 c8)]) (by simp [results, Tryz.results70, go_sem, q0, q1, q2, q3, q4]) rfl ?_
      rw [HR2.out]
      have hr2 := HK6.out.2
      have hpg := HP.out
      exact ⟨_, _, _, rfl, node_fin HL6.out (fun b h => Nat.le_of_lt h) (fun b h => Nat.ne_of_gt h) hf.2, rfl, HP6.out.sole_but (by omega) (by omega) hf.2, hf.1⟩

set_option maxHeartbeats 2000000 in
set_option maxRecDepth 4000 in
theorem something_else (p g cap : Nat) (ts : List Tok) (hE : Ends ts) (d : Int) (B : PS → Ans Tree) (hW : Keeps p g cap ts d 113 (writtenP B)) (i : Nat) (full : Bool) (w : World) (h : PP w p g cap ts i d full) (hba : BareAt p w) (hw0 : ((ts[i]'h.il).text == [111, 112, 97, 113, 117, 101]) = false) (hw : ((ts[i]'h.il).text == [115, 116, 114, 105, 110, 103]) = false) :
    Calls Tryz.prog 70 #[.pointer (some ⟨p, 0, none⟩)] w (PPost p g cap ts d (treeIs w.heap.size) ((writtenP B (PSof ts i full)).bind fun of s => if s.sees [42] then s.take.bind fun _ s => (nameP s).bind fun n s => .ok (named 17 n [of]) s else sizedP of.kind of s) w) := by
  have HWR : Hid (∀ w1, Below w.heap.size w w1 → Calls Tryz.prog 113 #[.pointer (some ⟨p, 0, none⟩)] w1 (PPost p g cap ts d (treeIs w1.heap.size) (writtenP B (PSof ts i full)) w1)) := fun w1 hB => hW i full w1 (h.below hB) (hba.below hB)
  have HP : Hid (p < w.heap.size ∧ g < w.heap.size) := ⟨h.plt, h.glt⟩
  have HE : Hid (Ends ts) := hE
  have H : Hid (PP w p g cap ts i d full) := h
  obtain ⟨tk, htk⟩ : ∃ x, ts[i]'h.il = x := ⟨_, rfl⟩
  obtain ⟨wa, hwa⟩ : ∃ x, w.alloc (.cells #[.int .i64 0, .string ⟨#[]⟩, .int .i64 0, .int .i64 0, .slice none 0 0] 29) = x := ⟨_, rfl⟩
  have b1 : Below w.heap.size w wa := by rw [← hwa]; exact below_alloc _ _
  have HKa : Hid (Kep w wa w.heap.size (kidO 0 [] 0 0 (.slice none 0 0))) := by show Kep w wa _ _; rw [← hwa]; exact Kep.new (Nat.le_refl _) _
  have HBa : Hid (Below w.heap.size w wa) := b1
  have HT0 : Hid (Calls Tryz.prog 38 #[.pointer (some ⟨p, 0, none⟩)] wa fun e w' => e = .returned (.agg #[.int .i64 tk.kind, .string ⟨tk.text.toArray⟩, .int .i64 tk.num, .int .i64 tk.at_]) ∧ Below wa.heap.size wa w') := by
    have hx := token_any p g cap ts i d full wa (h.below b1)
    rw [htk] at hx
    exact hx
  have q1 := fld1 tk.kind tk.num tk.at_ ⟨tk.text.toArray⟩
  rw [htk] at hw hw0
  obtain ⟨R, hR⟩ : ∃ R, ((writtenP B (PSof ts i full)).bind fun of s => if s.sees [42] then s.take.bind fun _ s => (nameP s).bind fun n s => .ok (named 17 n [of]) s else sizedP of.kind of s) = R := ⟨_, rfl⟩
  rw [hR]
  obtain ⟨ra, hra⟩ : ∃ r, writtenP B (PSof ts i full) = r := ⟨_, rfl⟩
  rw [hra] at hR HWR
  have HR1 : Hid (R = ra.bind fun of s => if s.sees [42] then s.take.bind fun _ s => (nameP s).bind fun n s => .ok (named 17 n [of]) s else sizedP of.kind of s) := hR.symm
  clear h hE hR htk b1 hra hW hba
  go_enter Tryz.func70, Tryz.ntmps70
  go_wp2_with fail
  refine HT0.out.mono ?_
  rintro e w1 ⟨rfl, hB1⟩
  have hb01 : Below w.heap.size w w1 := HBa.out.trans (hB1.mono HBa.out.size)
  have HP1 : Hid (PP w1 p g cap ts i d full) := H.out.below hb01
  have HS1 : Hid (Sole p w w1) := Sole.of_below hb01
  have HK1 : Hid (Kep w w1 w.heap.size (kidO 0 [] 0 0 (.slice none 0 0))) := HKa.out.below hB1
  have HAL : Hid (Calls Tryz.prog 113 #[.pointer (some ⟨p, 0, none⟩)] w1 (PPost p g cap ts d (treeIs w1.heap.size) ra w1)) := HWR.out w1 hb01
  clear hb01 hB1
  go_wp2_with fail
  clear hwa
  refine HAL.out.mono ?_
  cases ra with
  | no why at_ =>
    rintro e w99 ⟨rfl, hS⟩
    have HS99 : Hid (Sole p w w99) := HS1.out.trans hS
    clear hS
    go_wp2
    refine ⟨rfl, ?_⟩
    rw [HR1.out]
    exact ⟨rfl, HS99.out⟩
  | ok tv st =>
    rintro e w2 ⟨v, i, full, rfl, hT, rfl, hP, hS⟩
    obtain ⟨k9, n9, m9, a9, ks9⟩ := tv
    obtain ⟨sl, rfl, hL⟩ := treeAt_node.1 hT
    obtain ⟨o9, l9, c9, rfl⟩ := hL.shape
    obtain ⟨w3, hw3⟩ : ∃ x, w2.alloc (.cells #[.int .i64 k9, .string ⟨n9.toArray⟩, .int .i64 m9, .int .i64 a9, .slice o9 l9 c9] 29) = x := ⟨_, rfl⟩
    have hB3 : Below w2.heap.size w2 w3 := by rw [← hw3]; exact below_alloc _ _
    have hs2 : Sole p w w2 := HS1.out.trans hS
    have HP3 : Hid (PP w3 p g cap ts i d full) := hP.below hB3
    have HS3 : Hid (Sole p w w3) := hs2.trans (Sole.of_below hB3)
    have HKr3 : Hid (Kep w w3 w.heap.size (kidO 0 [] 0 0 (.slice none 0 0))) := (HK1.out.sole HP.out.1 hS).below hB3
    have HKo3 : Hid (Kep w w3 w2.heap.size (kidO k9 n9 m9 a9 (.slice o9 l9 c9))) := by show Kep w w3 _ _; rw [← hw3]; exact Kep.new hs2.size _
    have HT3 : Hid (TreeAt (fun b => w1.heap.size ≤ b ∧ b < w2.heap.size) w3 (.node k9 n9 m9 a9 ks9) (kidV k9 n9 m9 a9 (.slice o9 l9 c9))) := TreeAt.below (treeIs.made hT) hB3
    have HLT : Hid (w.heap.size < w1.heap.size ∧ w1.heap.size ≤ w2.heap.size ∧ w2.heap.size < w3.heap.size) := ⟨HK1.out.lt, hS.size, by rw [← hw3]; simp⟩
    have HS42 : Hid (Calls Tryz.prog 75 #[.pointer (some ⟨p, 0, none⟩), .string ⟨#[42]⟩] w3 fun e w' => e = .returned (.bool ((PSof ts i full).sees [42])) ∧ Below w3.heap.size w3 w') := sees_lit p g cap ts i d full [42] w3 HP3.out
    clear hP hS hT hL hB3 hs2
    unfold kidV
    cases hse : (PSof ts i full).sees [42]
    · rw [hse] at HS42
      have HR2' : Hid (R = sizedP k9 (.node k9 n9 m9 a9 ks9) (PSof ts i full)) := by
        show _ = _
        rw [HR1.out]
        show (if _ then _ else _) = _
        rw [hse, if_neg (by simp)]
        rfl
      clear hse
      go_wp2_with fail
      clear hw3
      refine HS42.out.mono ?_
      rintro e w4 ⟨rfl, hB4⟩
      have HP4 : Hid (PP w4 p g cap ts i d full) := HP3.out.below hB4
      have HS2 : Hid (Sole p w w4) := HS3.out.trans (Sole.of_below hB4)
      have HK2 : Hid (Kep w w4 w.heap.size (kidO 0 [] 0 0 (.slice none 0 0))) := HKr3.out.below hB4
      obtain ⟨⟨v0, v1, v2, v3, v4⟩, _⟩ := kid_cells (HKo3.out.below hB4).1
      have HSZ : Hid (Calls Tryz.prog 111 #[.pointer (some ⟨p, 0, none⟩), (kidV k9 n9 m9 a9 (.slice o9 l9 c9))] w4 (PPost p g cap ts d (mixIs (fun b => w1.heap.size ≤ b ∧ b < w2.heap.size) w4.heap.size) (sizedP k9 (.node k9 n9 m9 a9 ks9) (PSof ts i full)) w4)) :=
        sized_any p g cap ts HE.out i d full k9 n9 m9 a9 ks9 o9 l9 c9 (fun b => w1.heap.size ≤ b ∧ b < w2.heap.size) w4 HP4.out (fun b hb => by have := HP.out.1; have := HLT.out; have := hB4.size; omega) (HT3.out.below hB4)
      obtain ⟨rz, hrz⟩ : ∃ r, sizedP k9 (.node k9 n9 m9 a9 ks9) (PSof ts i full) = r := ⟨_, rfl⟩
      have HR2 : Hid (R = rz) := HR2'.out.trans hrz
      rw [hrz] at HSZ
      clear hrz hB4
      unfold kidV at HSZ
      go_wp2_with fail
      refine HSZ.out.mono ?_
      cases rz with
      | no why at_ =>
        rintro e w99 ⟨rfl, hS⟩
        have HS99 : Hid (Sole p w w99) := HS2.out.trans hS
        clear hS
        go_wp2
        refine ⟨rfl, ?_⟩
        rw [HR2.out]
        exact ⟨rfl, HS99.out⟩
      | ok tw st =>
        rintro e w6 ⟨v, i, full, rfl, hT, rfl, hP, hS⟩
        obtain ⟨k8, n8, m8, a8, ks8⟩ := tw
        obtain ⟨sl, rfl, hL⟩ := treeAt_node.1 hT
        obtain ⟨o8, l8, c8, rfl⟩ := hL.shape
        have hlt := HLT.out.1
        have hl2 := HK2.out.lt
        have HP6 : Hid (PP w6 p g cap ts i d full) := hP
        have HS6 : Hid (Sole p w w6) := HS2.out.trans hS
        have HK6 : Hid (Kep w w6 w.heap.size (kidO 0 [] 0 0 (.slice none 0 0))) := HK2.out.sole HP.out.1 hS
        have HL6 : Hid (ListAt (fun b => w.heap.size < b) w6 ks8 (.slice o8 l8 c8)) := hL.weaken (fun b h => by
          rcases h with h | h
          · omega
          · omega)
        clear hP hS hT hL hlt hl2
        unfold kidV
        obtain ⟨⟨z0, z1, z2, z3, z4⟩, ⟨y0, y1, y2, y3, y4⟩⟩ := kid_cells HK6.out.1
        go_wp2
        have q := res5 w6 w.heap.size (.int .i64 k8) (.string ⟨n8.toArray⟩) (.int .i64 m8) (.int .i64 a8) (.slice o8 l8 c8) z0 z1 z2 z3 z4
        have hf := fin5 (r := w.heap.size) (w9 := w6) (k := k8) (n := n8) (m := m8) (a := a8) (sl := (.slice o8 l8 c8)) HK6.out.2 HS6.out _ rfl
        generalize ((((w6.setCell ⟨w.heap.size, 0, none⟩ (.int .i64 k8)).setCell ⟨w.heap.size, 1, none⟩ (.string ⟨n8.toArray⟩)).setCell ⟨w.heap.size, 2, none⟩ (.int .i64 m8)).setCell ⟨w.heap.size, 3, none⟩ (.int .i64 a8)).setCell ⟨w.heap.size, 4, none⟩ (.slice o8 l8 c8) = wz at q hf ⊢
        obtain ⟨q0, q1, q2, q3, q4⟩ := q
        refine bodyPost_ret (v := .agg #[.int .i64 k8, .string ⟨n8.toArray⟩, .int .i64 m8, .int .i64 a8, (.slice o8 l8 c8)]) (by simp [results, Tryz.results70, go_sem, q0, q1, q2, q3, q4]) rfl ?_
        rw [HR2.out]
        have hr2 := HK6.out.2
        have hpg := HP.out
        exact ⟨_, _, _, rfl, node_fin HL6.out (fun b h => Nat.le_of_lt h) (fun b h => Nat.ne_of_gt h) hf.2, rfl, HP6.out.sole_but (by omega) (by omega) hf.2, hf.1⟩
    · rw [hse] at HS42
      have hix := HE.out.sees HP3.out.il (t := [42]) (by simp) hse
      obtain ⟨rt, hrt⟩ : ∃ r, (PSof ts i full).take = r := ⟨_, rfl⟩
      have HR2 : Hid (R = rt.bind fun _ s => (nameP s).bind fun n s => .ok (named 17 n [(.node k9 n9 m9 a9 ks9)]) s) := by
        show _ = _
        rw [HR1.out, ← hrt]
        show (if _ then _ else _) = _
        rw [hse, if_pos rfl]
      clear hse
      go_wp2_with fail
      clear hw3
      refine HS42.out.mono ?_
      rintro e w4 ⟨rfl, hB4⟩
      have HP4 : Hid (PP w4 p g cap ts i d full) := HP3.out.below hB4
      have HS4 : Hid (Sole p w w4) := HS3.out.trans (Sole.of_below hB4)
      have HKr4 : Hid (Kep w w4 w.heap.size (kidO 0 [] 0 0 (.slice none 0 0))) := HKr3.out.below hB4
      have HKo4 : Hid (Kep w w4 w2.heap.size (kidO k9 n9 m9 a9 (.slice o9 l9 c9))) := HKo3.out.below hB4
      have HT4 : Hid (TreeAt (fun b => w1.heap.size ≤ b ∧ b < w2.heap.size) w4 (.node k9 n9 m9 a9 ks9) (kidV k9 n9 m9 a9 (.slice o9 l9 c9))) := HT3.out.below hB4
      have HL34 : Hid (w3.heap.size ≤ w4.heap.size) := hB4.size
      have HTK : Hid (Calls Tryz.prog 69 #[.pointer (some ⟨p, 0, none⟩)] w4 (PPost p g cap ts d tokIs (PSof ts i full).take w4)) := take_any p g cap ts i d full w4 HP4.out hix
      rw [hrt] at HTK
      clear hrt hix hB4
      go_wp2_with fail
      refine HTK.out.mono ?_
      cases rt with
      | no why at_ =>
        rintro e w99 ⟨rfl, hS⟩
        have HS99 : Hid (Sole p w w99) := HS4.out.trans hS
        clear hS
        go_wp2
        refine ⟨rfl, ?_⟩
        rw [HR2.out]
        exact ⟨rfl, HS99.out⟩
      | ok tk9 st =>
        rintro e w5 ⟨v, i, full, rfl, rfl, rfl, hP, hS⟩
        have hp := HP.out.1
        have hlt := HLT.out
        have h34 := HL34.out
        have HS5 : Hid (Sole p w w5) := HS4.out.trans hS
        have HKr5 : Hid (Kep w w5 w.heap.size (kidO 0 [] 0 0 (.slice none 0 0))) := HKr4.out.sole hp hS
        have HKo5 : Hid (Kep w w5 w2.heap.size (kidO k9 n9 m9 a9 (.slice o9 l9 c9))) := HKo4.out.sole hp hS
        have HT5 : Hid (TreeAt (fun b => w1.heap.size ≤ b ∧ b < w2.heap.size) w5 (.node k9 n9 m9 a9 ks9) (kidV k9 n9 m9 a9 (.slice o9 l9 c9))) := HT4.out.sole (fun b h => by omega) hS
        have HL45 : Hid (w4.heap.size ≤ w5.heap.size) := hS.size
        have HNA : Hid (∀ wx, Below w5.heap.size w5 wx → Calls Tryz.prog 108 #[.pointer (some ⟨p, 0, none⟩)] wx (PPost p g cap ts d tokIs (nameP (PSof ts i full)) wx)) := fun wx hB => name_any p g cap ts HE.out i d full _ (hP.below hB)
        obtain ⟨rv, hrv⟩ : ∃ r, nameP (PSof ts i full) = r := ⟨_, rfl⟩
        have HR3 : Hid (R = rv.bind fun n s => .ok (named 17 n [(.node k9 n9 m9 a9 ks9)]) s) := by
          show _ = _
          rw [HR2.out, ← hrv]; rfl
        rw [hrv] at HNA
        obtain ⟨⟨v0, v1, v2, v3, v4⟩, _⟩ := kid_cells HKo5.out.1
        obtain ⟨wq5, hwq5⟩ : ∃ x, w5.alloc (.cells #[.int .i64 k9, .string ⟨n9.toArray⟩, .int .i64 m9, .int .i64 a9, .slice o9 l9 c9] 29) = x := ⟨_, rfl⟩
        have hb5 : Below w5.heap.size w5 wq5 := by rw [← hwq5]; exact below_alloc _ _
        have HBQ : Hid (Below w5.heap.size w5 wq5) := hb5
        have HQ5 : Hid (Kep w wq5 w5.heap.size (kidO k9 n9 m9 a9 (.slice o9 l9 c9))) := by show Kep w wq5 _ _; rw [← hwq5]; exact Kep.new HS5.out.size _
        obtain ⟨⟨g0, g1, g2, g3, g4⟩, _⟩ := kid_cells (HKo5.out.below hb5).1
        clear hP hS hp hrv hlt h34 hb5
        unfold tokV
        go_wp2_with fail
        cases rv with
        | no why at_ =>
          go_region_dies
          all_goals (
            refine (HNA.out _ ?_).mono ?_
            · first | exact below_drew (Below.refl _ _) 1 | exact below_drew HBQ.out 1
            · rintro e w9 ⟨rfl, hS⟩
              refine ⟨rfl, ?_⟩
              rw [HR3.out]
              first
                | exact ⟨rfl, HS5.out.trans ((Sole.of_below (below_drew (Below.refl _ _) 1)).trans hS)⟩
                | exact ⟨rfl, HS5.out.trans ((Sole.of_below (below_drew HBQ.out 1)).trans hS)⟩)
        | ok t st =>
          go_region_with (first
            | (go_at_call 108
               refine (HNA.out _ ?_).mono ?_
               (first | exact below_drew (Below.refl _ _) 1 | exact below_drew HBQ.out 1)
               rintro e w6 ⟨v, i, full, rfl, rfl, rfl, hP, hS0⟩
               have hp := HP.out.1
               have hlt := HLT.out
               have h34 := HL34.out
               have h45 := HL45.out
               have hS : Sole p w5 w6 := by first | exact (Sole.of_below (below_drew (Below.refl _ _) 1)).trans hS0 | exact (Sole.of_below (below_drew HBQ.out 1)).trans hS0
               have HP6 : Hid (PP w6 p g cap ts i d full) := hP
               have HS6 : Hid (Sole p w w6) := HS5.out.trans hS
               have HKr6 : Hid (Kep w w6 w.heap.size (kidO 0 [] 0 0 (.slice none 0 0))) := HKr5.out.sole hp hS
               have HKo6 : Hid (Kep w w6 w2.heap.size (kidO k9 n9 m9 a9 (.slice o9 l9 c9))) := HKo5.out.sole hp hS
               have HT6 : Hid (TreeAt (fun b => w1.heap.size ≤ b ∧ b < w2.heap.size) w6 (.node k9 n9 m9 a9 ks9) (kidV k9 n9 m9 a9 (.slice o9 l9 c9))) := HT5.out.sole (fun b h => by omega) hS
               (first | (have HQ6 : Hid (Kep w w6 w5.heap.size (kidO k9 n9 m9 a9 (.slice o9 l9 c9))) := Kep.sole (cur := wq5.drewN 1) HQ5.out hp hS0) | skip)
               have HL56 : Hid (w5.heap.size ≤ w6.heap.size) := hS.size
               obtain ⟨⟨c0, c1, c2, c3, c4⟩, _⟩ := kid_cells HKo6.out.1
               obtain ⟨wq6, hwq6⟩ : ∃ x, w6.alloc (.cells #[.int .i64 k9, .string ⟨n9.toArray⟩, .int .i64 m9, .int .i64 a9, .slice o9 l9 c9] 29) = x := ⟨_, rfl⟩
               have hb6 : Below w6.heap.size w6 wq6 := by rw [← hwq6]; exact below_alloc _ _
               have HBQ6 : Hid (Below w6.heap.size w6 wq6) := hb6
               have HQQ6 : Hid (Kep w wq6 w6.heap.size (kidO k9 n9 m9 a9 (.slice o9 l9 c9))) := by show Kep w wq6 _ _; rw [← hwq6]; exact Kep.new HS6.out.size _
               obtain ⟨⟨d0, d1, d2, d3, d4⟩, _⟩ := kid_cells (HKo6.out.below hb6).1
               clear hP hS hS0 hp hlt h34 h45 hb6
               unfold tokV)
            | (go_at_call_of 109 (Value.slice (some (Addr.mk w6.heap.size 0 none)) 1 1)
               refine (named_any 17 t (some ⟨w6.heap.size, 0, none⟩) 1 1 wq6).mono ?_
               rintro e w9 ⟨rfl, hB9⟩
               have hbb : Below w6.heap.size w6 w9 := HBQ6.out.trans (hB9.mono HBQ6.out.size)
               have HPC : Hid (PP w9 p g cap ts i d full) := HP6.out.below hbb
               have HSC : Hid (Sole p w w9) := HS6.out.trans (Sole.of_below hbb)
               have HKC : Hid (Kep w w9 w.heap.size (kidO 0 [] 0 0 (.slice none 0 0))) := HKr6.out.below hbb
               have HLC : Hid (ListAt (fun b => w.heap.size < b) w9 [(.node k9 n9 m9 a9 ks9)] (.slice (some ⟨w6.heap.size, 0, none⟩) 1 1)) := by
                 have hlt := HLT.out
                 have h34 := HL34.out
                 have h45 := HL45.out
                 have h56 := HL56.out
                 refine listAt_lit (HQQ6.out.below hB9).1 (by simp) (by omega) (rowV_one ((HT6.out.below hbb).weaken (fun b h => ?_)))
                 omega
               obtain ⟨⟨z0, z1, z2, z3, z4⟩, ⟨y0, y1, y2, y3, y4⟩⟩ := kid_cells HKC.out.1
               clear hB9 hbb
               unfold kidV)
            | (go_at_call_of 109 (Value.slice (some (Addr.mk w5.heap.size 0 none)) 1 1)
               refine (named_any 17 t (some ⟨w5.heap.size, 0, none⟩) 1 1 w6).mono ?_
               rintro e w9 ⟨rfl, hB9⟩
               have HPC : Hid (PP w9 p g cap ts i d full) := HP6.out.below hB9
               have HSC : Hid (Sole p w w9) := HS6.out.trans (Sole.of_below hB9)
               have HKC : Hid (Kep w w9 w.heap.size (kidO 0 [] 0 0 (.slice none 0 0))) := HKr6.out.below hB9
               have HLC : Hid (ListAt (fun b => w.heap.size < b) w9 [(.node k9 n9 m9 a9 ks9)] (.slice (some ⟨w5.heap.size, 0, none⟩) 1 1)) := by
                 have hlt := HLT.out
                 have h34 := HL34.out
                 have h45 := HL45.out
                 have h56 := HL56.out
                 have hq : Kep w w6 w5.heap.size (kidO k9 n9 m9 a9 (.slice o9 l9 c9)) := HQ6.out
                 refine listAt_lit (hq.below hB9).1 (by simp) (by omega) (rowV_one ((HT6.out.below hB9).weaken (fun b h => ?_)))
                 omega
               obtain ⟨⟨z0, z1, z2, z3, z4⟩, ⟨y0, y1, y2, y3, y4⟩⟩ := kid_cells HKC.out.1
               clear hB9
               unfold kidV))
          all_goals (
            first
            | (
               have hgd := (show ListAt _ w9 _ (Value.slice (some ⟨w6.heap.size, 0, none⟩) 1 1) from HLC.out)
               clear hgd
               go_wp2
               have q := res5 w9 w.heap.size (.int .i64 17) (.string ⟨t.text.toArray⟩) (.int .i64 0) (.int .i64 t.at_) (.slice (some ⟨w6.heap.size, 0, none⟩) 1 1) z0 z1 z2 z3 z4
               have hf := fin5 (r := w.heap.size) (w9 := w9) (k := 17) (n := t.text) (m := 0) (a := t.at_) (sl := (.slice (some ⟨w6.heap.size, 0, none⟩) 1 1)) HKC.out.2 HSC.out _ rfl
               generalize ((((w9.setCell ⟨w.heap.size, 0, none⟩ (.int .i64 17)).setCell ⟨w.heap.size, 1, none⟩ (.string ⟨t.text.toArray⟩)).setCell ⟨w.heap.size, 2, none⟩ (.int .i64 0)).setCell ⟨w.heap.size, 3, none⟩ (.int .i64 t.at_)).setCell ⟨w.heap.size, 4, none⟩ (.slice (some ⟨w6.heap.size, 0, none⟩) 1 1) = wz at q hf ⊢
               obtain ⟨q0, q1, q2, q3, q4⟩ := q
               refine bodyPost_ret (v := .agg #[.int .i64 17, .string ⟨t.text.toArray⟩, .int .i64 0, .int .i64 t.at_, (.slice (some ⟨w6.heap.size, 0, none⟩) 1 1)]) (by simp [results, Tryz.results70, go_sem, q0, q1, q2, q3, q4]) rfl ?_
               rw [HR3.out]
               have hr2 := HKC.out.2
               have hpg := HP.out
               exact ⟨_, _, _, rfl, node_fin HLC.out (fun b h => Nat.le_of_lt h) (fun b h => Nat.ne_of_gt h) hf.2, rfl, HPC.out.sole_but (by omega) (by omega) hf.2, hf.1⟩
              )
            | (
               go_wp2
               have q := res5 w9 w.heap.size (.int .i64 17) (.string ⟨t.text.toArray⟩) (.int .i64 0) (.int .i64 t.at_) (.slice (some ⟨w5.heap.size, 0, none⟩) 1 1) z0 z1 z2 z3 z4
               have hf := fin5 (r := w.heap.size) (w9 := w9) (k := 17) (n := t.text) (m := 0) (a := t.at_) (sl := (.slice (some ⟨w5.heap.size, 0, none⟩) 1 1)) HKC.out.2 HSC.out _ rfl
               generalize ((((w9.setCell ⟨w.heap.size, 0, none⟩ (.int .i64 17)).setCell ⟨w.heap.size, 1, none⟩ (.string ⟨t.text.toArray⟩)).setCell ⟨w.heap.size, 2, none⟩ (.int .i64 0)).setCell ⟨w.heap.size, 3, none⟩ (.int .i64 t.at_)).setCell ⟨w.heap.size, 4, none⟩ (.slice (some ⟨w5.heap.size, 0, none⟩) 1 1) = wz at q hf ⊢
               obtain ⟨q0, q1, q2, q3, q4⟩ := q
               refine bodyPost_ret (v := .agg #[.int .i64 17, .string ⟨t.text.toArray⟩, .int .i64 0, .int .i64 t.at_, (.slice (some ⟨w5.heap.size, 0, none⟩) 1 1)]) (by simp [results, Tryz.results70, go_sem, q0, q1, q2, q3, q4]) rfl ?_
               rw [HR3.out]
               have hr2 := HKC.out.2
               have hpg := HP.out
               exact ⟨_, _, _, rfl, node_fin HLC.out (fun b h => Nat.le_of_lt h) (fun b h => Nat.ne_of_gt h) hf.2, rfl, HPC.out.sole_but (by omega) (by omega) hf.2, hf.1⟩
              ))
end Go.Proofs.YteokdknaadckbaaGreatDoor
