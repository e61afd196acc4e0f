/- The program's parser: a definition. -/
import Derived.Test.YteokdknaadckbaaGreatDoorPart10
namespace Go.Proofs.YteokdknaadckbaaGreatDoor
open Go.RowKit

theorem bld034 (k a : Int) (o : Option Addr) (n c : Nat) (w : World) : (Instr.build 29 #[(0, .int .i64 k), (3, .int .i64 a), (4, .slice o n c)]).run Tryz.prog w = .ok (.agg #[.int .i64 k, .string ⟨#[]⟩, .int .i64 0, .int .i64 a, .slice o n c]) w := by kernel_rfl
theorem versionK (p g cap : Nat) (ts : List Tok) (hE : Ends ts) (d : Int) : Keeps p g cap ts d 73 versionP :=
  version_any p g cap ts hE d fun i full w hi h hba => numbered_any p g cap ts hE d 11 119 procedureP (procedure_any p g cap ts hE d) strict_procedure bodied_119 i full w hi h hba

set_option maxRecDepth 4000 in
theorem definition_const (p g cap : Nat) (ts : List Tok) (d k m : Int) (t : List UInt8) (a : Nat) (w : World) (hp : p < w.heap.size) (hg : g < w.heap.size) (r : Ans Tree) (hconst : (t == [99, 111, 110, 115, 116]) = true)
    (H0 : Hid (∀ w1, Below w.heap.size w w1 → Calls Tryz.prog 38 #[.pointer (some ⟨p, 0, none⟩)] w1 fun e w' => e = .returned (.agg #[.int .i64 k, .string ⟨t.toArray⟩, .int .i64 m, .int .i64 a]) ∧ Below w1.heap.size w1 w'))
    (HT : Hid (∀ w1, Below w.heap.size w w1 → Calls Tryz.prog 68 #[.pointer (some ⟨p, 0, none⟩)] w1 (PPost p g cap ts d (treeIs w1.heap.size) r w1))) :
    Calls Tryz.prog 40 #[.pointer (some ⟨p, 0, none⟩)] w (PPost p g cap ts d (treeIs w.heap.size) r w) := by
  have HP : Hid (p < w.heap.size ∧ g < w.heap.size) := ⟨hp, hg⟩
  clear hp hg
  have hmf : ∀ (fn : Fn) (first cap : Array Value) (w : World), (Instr.makeFunc fn first cap).run Tryz.prog w = .ok (.func fn first cap) w := fun _ _ _ _ => rfl
  have q1 := fld1 k m a ⟨t.toArray⟩
  obtain ⟨wa, hwa⟩ : ∃ x, w.alloc (.cells #[.int .i64 0, .string ⟨#[]⟩, .int .i64 0, .int .i64 0, .slice none 0 0] 29) = x := ⟨_, rfl⟩
  have b1 : Below w.heap.size w wa := by rw [← hwa]; exact below_alloc _ _
  have HKa : Hid (Kep w wa w.heap.size (kidO 0 [] 0 0 (.slice none 0 0))) := by show Kep w wa _ _; rw [← hwa]; exact Kep.new (Nat.le_refl _) _
  have HBa : Hid (Below w.heap.size w wa) := b1
  have HT0 : Hid (Calls Tryz.prog 38 #[.pointer (some ⟨p, 0, none⟩)] wa fun e w' => e = .returned (.agg #[.int .i64 k, .string ⟨t.toArray⟩, .int .i64 m, .int .i64 a]) ∧ Below wa.heap.size wa w') := H0.out wa b1
  clear b1
  go_enter Tryz.func40, Tryz.ntmps40
  go_wp2_with fail
  refine HT0.out.mono ?_
  rintro e w1 ⟨rfl, hB1⟩
  have hb01 : Below w.heap.size w w1 := HBa.out.trans (hB1.mono HBa.out.size)
  have HS1 : Hid (Sole p w w1) := Sole.of_below hb01
  have HB1 : Hid (Below w.heap.size w w1) := hb01
  have HK1 : Hid (Kep w w1 w.heap.size (kidO 0 [] 0 0 (.slice none 0 0))) := HKa.out.below hB1
  clear hb01 hB1
  go_wp2_with fail
  clear hwa
  refine (HT.out w1 HB1.out).mono ?_
  cases r with
  | no why at_ =>
    rintro e w99 ⟨rfl, hS⟩
    have HS99 : Hid (Sole p w w99) := HS1.out.trans hS
    clear hS
    go_wp2
    exact ⟨rfl, rfl, HS99.out⟩
  | ok tv st =>
    rintro e w6 ⟨v, i, full, rfl, hT, rfl, hP, hS⟩
    obtain ⟨k8, n8, m8, a8, ks8⟩ := tv
    obtain ⟨sl, rfl, hL⟩ := treeAt_node.1 hT
    obtain ⟨o8, l8, c8, rfl⟩ := hL.shape
    have hlt := HK1.out.lt
    have HP6 : Hid (PP w6 p g cap ts i d full) := hP
    have HS6 : Hid (Sole p w w6) := HS1.out.trans hS
    have HK6 : Hid (Kep w w6 w.heap.size (kidO 0 [] 0 0 (.slice none 0 0))) := HK1.out.sole HP.out.1 hS
    have HL6 : Hid (ListAt (fun b => w.heap.size < b) w6 ks8 (.slice o8 l8 c8)) := hL.weaken (fun b h => by have h1 : w1.heap.size ≤ b := h; omega)
    clear hP hS hT hL hlt
    unfold kidV
    obtain ⟨⟨z0, z1, z2, z3, z4⟩, ⟨y0, y1, y2, y3, y4⟩⟩ := kid_cells HK6.out.1
    go_wp2
    have q := res5 w6 w.heap.size (.int .i64 k8) (.string ⟨n8.toArray⟩) (.int .i64 m8) (.int .i64 a8) (.slice o8 l8 c8) z0 z1 z2 z3 z4
    have hf := fin5 (r := w.heap.size) (w9 := w6) (k := k8) (n := n8) (m := m8) (a := a8) (sl := (.slice o8 l8 c8)) HK6.out.2 HS6.out _ rfl
    generalize ((((w6.setCell ⟨w.heap.size, 0, none⟩ (.int .i64 k8)).setCell ⟨w.heap.size, 1, none⟩ (.string ⟨n8.toArray⟩)).setCell ⟨w.heap.size, 2, none⟩ (.int .i64 m8)).setCell ⟨w.heap.size, 3, none⟩ (.int .i64 a8)).setCell ⟨w.heap.size, 4, none⟩ (.slice o8 l8 c8) = wz at q hf ⊢
    obtain ⟨q0, q1, q2, q3, q4⟩ := q
    refine bodyPost_ret (v := .agg #[.int .i64 k8, .string ⟨n8.toArray⟩, .int .i64 m8, .int .i64 a8, (.slice o8 l8 c8)]) (by simp [results, Tryz.results40, go_sem, q0, q1, q2, q3, q4]) rfl ?_
    have hr2 := HK6.out.2
    have hpg := HP.out
    exact ⟨_, _, _, rfl, node_fin HL6.out (fun b h => Nat.le_of_lt h) (fun b h => Nat.ne_of_gt h) hf.2, rfl, HP6.out.sole_but (by omega) (by omega) hf.2, hf.1⟩

set_option maxRecDepth 4000 in
theorem definition_enum (p g cap : Nat) (ts : List Tok) (d k m : Int) (t : List UInt8) (a : Nat) (w : World) (hp : p < w.heap.size) (hg : g < w.heap.size) (r : Ans Tree) (hconst : (t == [99, 111, 110, 115, 116]) = false) (htypedef : (t == [116, 121, 112, 101, 100, 101, 102]) = false) (henum : (t == [101, 110, 117, 109]) = true)
    (H0 : Hid (∀ w1, Below w.heap.size w w1 → Calls Tryz.prog 38 #[.pointer (some ⟨p, 0, none⟩)] w1 fun e w' => e = .returned (.agg #[.int .i64 k, .string ⟨t.toArray⟩, .int .i64 m, .int .i64 a]) ∧ Below w1.heap.size w1 w'))
    (HT : Hid (∀ w1, Below w.heap.size w w1 → Calls Tryz.prog 71 #[.pointer (some ⟨p, 0, none⟩), .bool true] w1 (PPost p g cap ts d (treeIs w1.heap.size) r w1))) :
    Calls Tryz.prog 40 #[.pointer (some ⟨p, 0, none⟩)] w (PPost p g cap ts d (treeIs w.heap.size) r w) := by
  have HP : Hid (p < w.heap.size ∧ g < w.heap.size) := ⟨hp, hg⟩
  clear hp hg
  have hmf : ∀ (fn : Fn) (first cap : Array Value) (w : World), (Instr.makeFunc fn first cap).run Tryz.prog w = .ok (.func fn first cap) w := fun _ _ _ _ => rfl
  have q1 := fld1 k m a ⟨t.toArray⟩
  obtain ⟨wa, hwa⟩ : ∃ x, w.alloc (.cells #[.int .i64 0, .string ⟨#[]⟩, .int .i64 0, .int .i64 0, .slice none 0 0] 29) = x := ⟨_, rfl⟩
  have b1 : Below w.heap.size w wa := by rw [← hwa]; exact below_alloc _ _
  have HKa : Hid (Kep w wa w.heap.size (kidO 0 [] 0 0 (.slice none 0 0))) := by show Kep w wa _ _; rw [← hwa]; exact Kep.new (Nat.le_refl _) _
  have HBa : Hid (Below w.heap.size w wa) := b1
  have HT0 : Hid (Calls Tryz.prog 38 #[.pointer (some ⟨p, 0, none⟩)] wa fun e w' => e = .returned (.agg #[.int .i64 k, .string ⟨t.toArray⟩, .int .i64 m, .int .i64 a]) ∧ Below wa.heap.size wa w') := H0.out wa b1
  clear b1
  go_enter Tryz.func40, Tryz.ntmps40
  go_wp2_with fail
  refine HT0.out.mono ?_
  rintro e w1 ⟨rfl, hB1⟩
  have hb01 : Below w.heap.size w w1 := HBa.out.trans (hB1.mono HBa.out.size)
  have HS1 : Hid (Sole p w w1) := Sole.of_below hb01
  have HB1 : Hid (Below w.heap.size w w1) := hb01
  have HK1 : Hid (Kep w w1 w.heap.size (kidO 0 [] 0 0 (.slice none 0 0))) := HKa.out.below hB1
  clear hb01 hB1
  go_wp2_with fail
  clear hwa
  refine (HT.out w1 HB1.out).mono ?_
  cases r with
  | no why at_ =>
    rintro e w99 ⟨rfl, hS⟩
    have HS99 : Hid (Sole p w w99) := HS1.out.trans hS
    clear hS
    go_wp2
    exact ⟨rfl, rfl, HS99.out⟩
  | ok tv st =>
    rintro e w6 ⟨v, i, full, rfl, hT, rfl, hP, hS⟩
    obtain ⟨k8, n8, m8, a8, ks8⟩ := tv
    obtain ⟨sl, rfl, hL⟩ := treeAt_node.1 hT
    obtain ⟨o8, l8, c8, rfl⟩ := hL.shape
    have hlt := HK1.out.lt
    have HP6 : Hid (PP w6 p g cap ts i d full) := hP
    have HS6 : Hid (Sole p w w6) := HS1.out.trans hS
    have HK6 : Hid (Kep w w6 w.heap.size (kidO 0 [] 0 0 (.slice none 0 0))) := HK1.out.sole HP.out.1 hS
    have HL6 : Hid (ListAt (fun b => w.heap.size < b) w6 ks8 (.slice o8 l8 c8)) := hL.weaken (fun b h => by have h1 : w1.heap.size ≤ b := h; omega)
    clear hP hS hT hL hlt
    unfold kidV
    obtain ⟨⟨z0, z1, z2, z3, z4⟩, ⟨y0, y1, y2, y3, y4⟩⟩ := kid_cells HK6.out.1
    go_wp2
    have q := res5 w6 w.heap.size (.int .i64 k8) (.string ⟨n8.toArray⟩) (.int .i64 m8) (.int .i64 a8) (.slice o8 l8 c8) z0 z1 z2 z3 z4
    have hf := fin5 (r := w.heap.size) (w9 := w6) (k := k8) (n := n8) (m := m8) (a := a8) (sl := (.slice o8 l8 c8)) HK6.out.2 HS6.out _ rfl
    generalize ((((w6.setCell ⟨w.heap.size, 0, none⟩ (.int .i64 k8)).setCell ⟨w.heap.size, 1, none⟩ (.string ⟨n8.toArray⟩)).setCell ⟨w.heap.size, 2, none⟩ (.int .i64 m8)).setCell ⟨w.heap.size, 3, none⟩ (.int .i64 a8)).setCell ⟨w.heap.size, 4, none⟩ (.slice o8 l8 c8) = wz at q hf ⊢
    obtain ⟨q0, q1, q2, q3, q4⟩ := q
    refine bodyPost_ret (v := .agg #[.int .i64 k8, .string ⟨n8.toArray⟩, .int .i64 m8, .int .i64 a8, (.slice o8 l8 c8)]) (by simp [results, Tryz.results40, go_sem, q0, q1, q2, q3, q4]) rfl ?_
    have hr2 := HK6.out.2
    have hpg := HP.out
    exact ⟨_, _, _, rfl, node_fin HL6.out (fun b h => Nat.le_of_lt h) (fun b h => Nat.ne_of_gt h) hf.2, rfl, HP6.out.sole_but (by omega) (by omega) hf.2, hf.1⟩

set_option maxRecDepth 4000 in
theorem definition_struct (p g cap : Nat) (ts : List Tok) (d k m : Int) (t : List UInt8) (a : Nat) (w : World) (hp : p < w.heap.size) (hg : g < w.heap.size) (r : Ans Tree) (hconst : (t == [99, 111, 110, 115, 116]) = false) (htypedef : (t == [116, 121, 112, 101, 100, 101, 102]) = false) (henum : (t == [101, 110, 117, 109]) = false) (hstruct : (t == [115, 116, 114, 117, 99, 116]) = true)
    (H0 : Hid (∀ w1, Below w.heap.size w w1 → Calls Tryz.prog 38 #[.pointer (some ⟨p, 0, none⟩)] w1 fun e w' => e = .returned (.agg #[.int .i64 k, .string ⟨t.toArray⟩, .int .i64 m, .int .i64 a]) ∧ Below w1.heap.size w1 w'))
    (HT : Hid (∀ w1, Below w.heap.size w w1 → Calls Tryz.prog 71 #[.pointer (some ⟨p, 0, none⟩), .bool true] w1 (PPost p g cap ts d (treeIs w1.heap.size) r w1))) :
    Calls Tryz.prog 40 #[.pointer (some ⟨p, 0, none⟩)] w (PPost p g cap ts d (treeIs w.heap.size) r w) := by
  have HP : Hid (p < w.heap.size ∧ g < w.heap.size) := ⟨hp, hg⟩
  clear hp hg
  have hmf : ∀ (fn : Fn) (first cap : Array Value) (w : World), (Instr.makeFunc fn first cap).run Tryz.prog w = .ok (.func fn first cap) w := fun _ _ _ _ => rfl
  have q1 := fld1 k m a ⟨t.toArray⟩
  obtain ⟨wa, hwa⟩ : ∃ x, w.alloc (.cells #[.int .i64 0, .string ⟨#[]⟩, .int .i64 0, .int .i64 0, .slice none 0 0] 29) = x := ⟨_, rfl⟩
  have b1 : Below w.heap.size w wa := by rw [← hwa]; exact below_alloc _ _
  have HKa : Hid (Kep w wa w.heap.size (kidO 0 [] 0 0 (.slice none 0 0))) := by show Kep w wa _ _; rw [← hwa]; exact Kep.new (Nat.le_refl _) _
  have HBa : Hid (Below w.heap.size w wa) := b1
  have HT0 : Hid (Calls Tryz.prog 38 #[.pointer (some ⟨p, 0, none⟩)] wa fun e w' => e = .returned (.agg #[.int .i64 k, .string ⟨t.toArray⟩, .int .i64 m, .int .i64 a]) ∧ Below wa.heap.size wa w') := H0.out wa b1
  clear b1
  go_enter Tryz.func40, Tryz.ntmps40
  go_wp2_with fail
  refine HT0.out.mono ?_
  rintro e w1 ⟨rfl, hB1⟩
  have hb01 : Below w.heap.size w w1 := HBa.out.trans (hB1.mono HBa.out.size)
  have HS1 : Hid (Sole p w w1) := Sole.of_below hb01
  have HB1 : Hid (Below w.heap.size w w1) := hb01
  have HK1 : Hid (Kep w w1 w.heap.size (kidO 0 [] 0 0 (.slice none 0 0))) := HKa.out.below hB1
  clear hb01 hB1
  go_wp2_with fail
  clear hwa
  refine (HT.out w1 HB1.out).mono ?_
  cases r with
  | no why at_ =>
    rintro e w99 ⟨rfl, hS⟩
    have HS99 : Hid (Sole p w w99) := HS1.out.trans hS
    clear hS
    go_wp2
    exact ⟨rfl, rfl, HS99.out⟩
  | ok tv st =>
    rintro e w6 ⟨v, i, full, rfl, hT, rfl, hP, hS⟩
    obtain ⟨k8, n8, m8, a8, ks8⟩ := tv
    obtain ⟨sl, rfl, hL⟩ := treeAt_node.1 hT
    obtain ⟨o8, l8, c8, rfl⟩ := hL.shape
    have hlt := HK1.out.lt
    have HP6 : Hid (PP w6 p g cap ts i d full) := hP
    have HS6 : Hid (Sole p w w6) := HS1.out.trans hS
    have HK6 : Hid (Kep w w6 w.heap.size (kidO 0 [] 0 0 (.slice none 0 0))) := HK1.out.sole HP.out.1 hS
    have HL6 : Hid (ListAt (fun b => w.heap.size < b) w6 ks8 (.slice o8 l8 c8)) := hL.weaken (fun b h => by have h1 : w1.heap.size ≤ b := h; omega)
    clear hP hS hT hL hlt
    unfold kidV
    obtain ⟨⟨z0, z1, z2, z3, z4⟩, ⟨y0, y1, y2, y3, y4⟩⟩ := kid_cells HK6.out.1
    go_wp2
    have q := res5 w6 w.heap.size (.int .i64 k8) (.string ⟨n8.toArray⟩) (.int .i64 m8) (.int .i64 a8) (.slice o8 l8 c8) z0 z1 z2 z3 z4
    have hf := fin5 (r := w.heap.size) (w9 := w6) (k := k8) (n := n8) (m := m8) (a := a8) (sl := (.slice o8 l8 c8)) HK6.out.2 HS6.out _ rfl
    generalize ((((w6.setCell ⟨w.heap.size, 0, none⟩ (.int .i64 k8)).setCell ⟨w.heap.size, 1, none⟩ (.string ⟨n8.toArray⟩)).setCell ⟨w.heap.size, 2, none⟩ (.int .i64 m8)).setCell ⟨w.heap.size, 3, none⟩ (.int .i64 a8)).setCell ⟨w.heap.size, 4, none⟩ (.slice o8 l8 c8) = wz at q hf ⊢
    obtain ⟨q0, q1, q2, q3, q4⟩ := q
    refine bodyPost_ret (v := .agg #[.int .i64 k8, .string ⟨n8.toArray⟩, .int .i64 m8, .int .i64 a8, (.slice o8 l8 c8)]) (by simp [results, Tryz.results40, go_sem, q0, q1, q2, q3, q4]) rfl ?_
    have hr2 := HK6.out.2
    have hpg := HP.out
    exact ⟨_, _, _, rfl, node_fin HL6.out (fun b h => Nat.le_of_lt h) (fun b h => Nat.ne_of_gt h) hf.2, rfl, HP6.out.sole_but (by omega) (by omega) hf.2, hf.1⟩

set_option maxRecDepth 4000 in
theorem definition_union (p g cap : Nat) (ts : List Tok) (d k m : Int) (t : List UInt8) (a : Nat) (w : World) (hp : p < w.heap.size) (hg : g < w.heap.size) (r : Ans Tree) (hconst : (t == [99, 111, 110, 115, 116]) = false) (htypedef : (t == [116, 121, 112, 101, 100, 101, 102]) = false) (henum : (t == [101, 110, 117, 109]) = false) (hstruct : (t == [115, 116, 114, 117, 99, 116]) = false) (hunion : (t == [117, 110, 105, 111, 110]) = true)
    (H0 : Hid (∀ w1, Below w.heap.size w w1 → Calls Tryz.prog 38 #[.pointer (some ⟨p, 0, none⟩)] w1 fun e w' => e = .returned (.agg #[.int .i64 k, .string ⟨t.toArray⟩, .int .i64 m, .int .i64 a]) ∧ Below w1.heap.size w1 w'))
    (HT : Hid (∀ w1, Below w.heap.size w w1 → Calls Tryz.prog 71 #[.pointer (some ⟨p, 0, none⟩), .bool true] w1 (PPost p g cap ts d (treeIs w1.heap.size) r w1))) :
    Calls Tryz.prog 40 #[.pointer (some ⟨p, 0, none⟩)] w (PPost p g cap ts d (treeIs w.heap.size) r w) := by
  have HP : Hid (p < w.heap.size ∧ g < w.heap.size) := ⟨hp, hg⟩
  clear hp hg
  have hmf : ∀ (fn : Fn) (first cap : Array Value) (w : World), (Instr.makeFunc fn first cap).run Tryz.prog w = .ok (.func fn first cap) w := fun _ _ _ _ => rfl
  have q1 := fld1 k m a ⟨t.toArray⟩
  obtain ⟨wa, hwa⟩ : ∃ x, w.alloc (.cells #[.int .i64 0, .string ⟨#[]⟩, .int .i64 0, .int .i64 0, .slice none 0 0] 29) = x := ⟨_, rfl⟩
  have b1 : Below w.heap.size w wa := by rw [← hwa]; exact below_alloc _ _
  have HKa : Hid (Kep w wa w.heap.size (kidO 0 [] 0 0 (.slice none 0 0))) := by show Kep w wa _ _; rw [← hwa]; exact Kep.new (Nat.le_refl _) _
  have HBa : Hid (Below w.heap.size w wa) := b1
  have HT0 : Hid (Calls Tryz.prog 38 #[.pointer (some ⟨p, 0, none⟩)] wa fun e w' => e = .returned (.agg #[.int .i64 k, .string ⟨t.toArray⟩, .int .i64 m, .int .i64 a]) ∧ Below wa.heap.size wa w') := H0.out wa b1
  clear b1
  go_enter Tryz.func40, Tryz.ntmps40
  go_wp2_with fail
  refine HT0.out.mono ?_
  rintro e w1 ⟨rfl, hB1⟩
  have hb01 : Below w.heap.size w w1 := HBa.out.trans (hB1.mono HBa.out.size)
  have HS1 : Hid (Sole p w w1) := Sole.of_below hb01
  have HB1 : Hid (Below w.heap.size w w1) := hb01
  have HK1 : Hid (Kep w w1 w.heap.size (kidO 0 [] 0 0 (.slice none 0 0))) := HKa.out.below hB1
  clear hb01 hB1
  go_wp2_with fail
  clear hwa
  refine (HT.out w1 HB1.out).mono ?_
  cases r with
  | no why at_ =>
    rintro e w99 ⟨rfl, hS⟩
    have HS99 : Hid (Sole p w w99) := HS1.out.trans hS
    clear hS
    go_wp2
    exact ⟨rfl, rfl, HS99.out⟩
  | ok tv st =>
    rintro e w6 ⟨v, i, full, rfl, hT, rfl, hP, hS⟩
    obtain ⟨k8, n8, m8, a8, ks8⟩ := tv
    obtain ⟨sl, rfl, hL⟩ := treeAt_node.1 hT
    obtain ⟨o8, l8, c8, rfl⟩ := hL.shape
    have hlt := HK1.out.lt
    have HP6 : Hid (PP w6 p g cap ts i d full) := hP
    have HS6 : Hid (Sole p w w6) := HS1.out.trans hS
    have HK6 : Hid (Kep w w6 w.heap.size (kidO 0 [] 0 0 (.slice none 0 0))) := HK1.out.sole HP.out.1 hS
    have HL6 : Hid (ListAt (fun b => w.heap.size < b) w6 ks8 (.slice o8 l8 c8)) := hL.weaken (fun b h => by have h1 : w1.heap.size ≤ b := h; omega)
    clear hP hS hT hL hlt
    unfold kidV
    obtain ⟨⟨z0, z1, z2, z3, z4⟩, ⟨y0, y1, y2, y3, y4⟩⟩ := kid_cells HK6.out.1
    go_wp2
    have q := res5 w6 w.heap.size (.int .i64 k8) (.string ⟨n8.toArray⟩) (.int .i64 m8) (.int .i64 a8) (.slice o8 l8 c8) z0 z1 z2 z3 z4
    have hf := fin5 (r := w.heap.size) (w9 := w6) (k := k8) (n := n8) (m := m8) (a := a8) (sl := (.slice o8 l8 c8)) HK6.out.2 HS6.out _ rfl
    generalize ((((w6.setCell ⟨w.heap.size, 0, none⟩ (.int .i64 k8)).setCell ⟨w.heap.size, 1, none⟩ (.string ⟨n8.toArray⟩)).setCell ⟨w.heap.size, 2, none⟩ (.int .i64 m8)).setCell ⟨w.heap.size, 3, none⟩ (.int .i64 a8)).setCell ⟨w.heap.size, 4, none⟩ (.slice o8 l8 c8) = wz at q hf ⊢
    obtain ⟨q0, q1, q2, q3, q4⟩ := q
    refine bodyPost_ret (v := .agg #[.int .i64 k8, .string ⟨n8.toArray⟩, .int .i64 m8, .int .i64 a8, (.slice o8 l8 c8)]) (by simp [results, Tryz.results40, go_sem, q0, q1, q2, q3, q4]) rfl ?_
    have hr2 := HK6.out.2
    have hpg := HP.out
    exact ⟨_, _, _, rfl, node_fin HL6.out (fun b h => Nat.le_of_lt h) (fun b h => Nat.ne_of_gt h) hf.2, rfl, HP6.out.sole_but (by omega) (by omega) hf.2, hf.1⟩

set_option maxRecDepth 4000 in
theorem definition_program (p g cap : Nat) (ts : List Tok) (d k m : Int) (t : List UInt8) (a : Nat) (w : World) (hp : p < w.heap.size) (hg : g < w.heap.size) (r : Ans Tree) (hconst : (t == [99, 111, 110, 115, 116]) = false) (htypedef : (t == [116, 121, 112, 101, 100, 101, 102]) = false) (henum : (t == [101, 110, 117, 109]) = false) (hstruct : (t == [115, 116, 114, 117, 99, 116]) = false) (hunion : (t == [117, 110, 105, 111, 110]) = false) (hprogram : (t == [112, 114, 111, 103, 114, 97, 109]) = true)
    (H0 : Hid (∀ w1, Below w.heap.size w w1 → Calls Tryz.prog 38 #[.pointer (some ⟨p, 0, none⟩)] w1 fun e w' => e = .returned (.agg #[.int .i64 k, .string ⟨t.toArray⟩, .int .i64 m, .int .i64 a]) ∧ Below w1.heap.size w1 w'))
    (HT : Hid (∀ w1, Below w.heap.size w w1 → Calls Tryz.prog 72 #[.pointer (some ⟨p, 0, none⟩), .int .i64 10, .func (.func 73) #[.pointer (some ⟨p, 0, none⟩)] #[]] w1 (PPost p g cap ts d (treeIs w1.heap.size) r w1))) :
    Calls Tryz.prog 40 #[.pointer (some ⟨p, 0, none⟩)] w (PPost p g cap ts d (treeIs w.heap.size) r w) := by
  have HP : Hid (p < w.heap.size ∧ g < w.heap.size) := ⟨hp, hg⟩
  clear hp hg
  have hmf : ∀ (fn : Fn) (first cap : Array Value) (w : World), (Instr.makeFunc fn first cap).run Tryz.prog w = .ok (.func fn first cap) w := fun _ _ _ _ => rfl
  have q1 := fld1 k m a ⟨t.toArray⟩
  obtain ⟨wa, hwa⟩ : ∃ x, w.alloc (.cells #[.int .i64 0, .string ⟨#[]⟩, .int .i64 0, .int .i64 0, .slice none 0 0] 29) = x := ⟨_, rfl⟩
  have b1 : Below w.heap.size w wa := by rw [← hwa]; exact below_alloc _ _
  have HKa : Hid (Kep w wa w.heap.size (kidO 0 [] 0 0 (.slice none 0 0))) := by show Kep w wa _ _; rw [← hwa]; exact Kep.new (Nat.le_refl _) _
  have HBa : Hid (Below w.heap.size w wa) := b1
  have HT0 : Hid (Calls Tryz.prog 38 #[.pointer (some ⟨p, 0, none⟩)] wa fun e w' => e = .returned (.agg #[.int .i64 k, .string ⟨t.toArray⟩, .int .i64 m, .int .i64 a]) ∧ Below wa.heap.size wa w') := H0.out wa b1
  clear b1
  go_enter Tryz.func40, Tryz.ntmps40
  go_wp2_with fail
  refine HT0.out.mono ?_
  rintro e w1 ⟨rfl, hB1⟩
  have hb01 : Below w.heap.size w w1 := HBa.out.trans (hB1.mono HBa.out.size)
  have HS1 : Hid (Sole p w w1) := Sole.of_below hb01
  have HB1 : Hid (Below w.heap.size w w1) := hb01
  have HK1 : Hid (Kep w w1 w.heap.size (kidO 0 [] 0 0 (.slice none 0 0))) := HKa.out.below hB1
  clear hb01 hB1
  go_wp2_with fail
  clear hwa
  refine (HT.out w1 HB1.out).mono ?_
  cases r with
  | no why at_ =>
    rintro e w99 ⟨rfl, hS⟩
    have HS99 : Hid (Sole p w w99) := HS1.out.trans hS
    clear hS
    go_wp2
    exact ⟨rfl, rfl, HS99.out⟩
  | ok tv st =>
    rintro e w6 ⟨v, i, full, rfl, hT, rfl, hP, hS⟩
    obtain ⟨k8, n8, m8, a8, ks8⟩ := tv
    obtain ⟨sl, rfl, hL⟩ := treeAt_node.1 hT
    obtain ⟨o8, l8, c8, rfl⟩ := hL.shape
    have hlt := HK1.out.lt
    have HP6 : Hid (PP w6 p g cap ts i d full) := hP
    have HS6 : Hid (Sole p w w6) := HS1.out.trans hS
    have HK6 : Hid (Kep w w6 w.heap.size (kidO 0 [] 0 0 (.slice none 0 0))) := HK1.out.sole HP.out.1 hS
    have HL6 : Hid (ListAt (fun b => w.heap.size < b) w6 ks8 (.slice o8 l8 c8)) := hL.weaken (fun b h => by have h1 : w1.heap.size ≤ b := h; omega)
    clear hP hS hT hL hlt
    unfold kidV
    obtain ⟨⟨z0, z1, z2, z3, z4⟩, ⟨y0, y1, y2, y3, y4⟩⟩ := kid_cells HK6.out.1
    go_wp2
    have q := res5 w6 w.heap.size (.int .i64 k8) (.string ⟨n8.toArray⟩) (.int .i64 m8) (.int .i64 a8) (.slice o8 l8 c8) z0 z1 z2 z3 z4
    have hf := fin5 (r := w.heap.size) (w9 := w6) (k := k8) (n := n8) (m := m8) (a := a8) (sl := (.slice o8 l8 c8)) HK6.out.2 HS6.out _ rfl
    generalize ((((w6.setCell ⟨w.heap.size, 0, none⟩ (.int .i64 k8)).setCell ⟨w.heap.size, 1, none⟩ (.string ⟨n8.toArray⟩)).setCell ⟨w.heap.size, 2, none⟩ (.int .i64 m8)).setCell ⟨w.heap.size, 3, none⟩ (.int .i64 a8)).setCell ⟨w.heap.size, 4, none⟩ (.slice o8 l8 c8) = wz at q hf ⊢
    obtain ⟨q0, q1, q2, q3, q4⟩ := q
    refine bodyPost_ret (v := .agg #[.int .i64 k8, .string ⟨n8.toArray⟩, .int .i64 m8, .int .i64 a8, (.slice o8 l8 c8)]) (by simp [results, Tryz.results40, go_sem, q0, q1, q2, q3, q4]) rfl ?_
    have hr2 := HK6.out.2
    have hpg := HP.out
    exact ⟨_, _, _, rfl, node_fin HL6.out (fun b h => Nat.le_of_lt h) (fun b h => Nat.ne_of_gt h) hf.2, rfl, HP6.out.sole_but (by omega) (by omega) hf.2, hf.1⟩

set_option maxRecDepth 4000 in
theorem definition_bad (p g cap : Nat) (ts : List Tok) (d k m : Int) (t : List UInt8) (a : Nat) (w : World) (hp : p < w.heap.size) (hg : g < w.heap.size) (hconst : (t == [99, 111, 110, 115, 116]) = false) (htypedef : (t == [116, 121, 112, 101, 100, 101, 102]) = false) (henum : (t == [101, 110, 117, 109]) = false) (hstruct : (t == [115, 116, 114, 117, 99, 116]) = false) (hunion : (t == [117, 110, 105, 111, 110]) = false) (hprogram : (t == [112, 114, 111, 103, 114, 97, 109]) = false)
    (H0 : Hid (∀ w1, Below w.heap.size w w1 → Calls Tryz.prog 38 #[.pointer (some ⟨p, 0, none⟩)] w1 fun e w' => e = .returned (.agg #[.int .i64 k, .string ⟨t.toArray⟩, .int .i64 m, .int .i64 a]) ∧ Below w1.heap.size w1 w'))
    (HT : Hid (∀ w1, Below w.heap.size w w1 → Calls Tryz.prog 74 #[.pointer (some ⟨p, 0, none⟩), .int .i64 40] w1 fun e w' => e = .returned (.agg #[.int .i64 40, .int .i64 (a : Int)]) ∧ Below w1.heap.size w1 w')) :
    Calls Tryz.prog 40 #[.pointer (some ⟨p, 0, none⟩)] w (PPost p g cap ts d (treeIs w.heap.size) (.no 40 a) w) := by
  have HP : Hid (p < w.heap.size ∧ g < w.heap.size) := ⟨hp, hg⟩
  clear hp hg
  have hmf : ∀ (fn : Fn) (first cap : Array Value) (w : World), (Instr.makeFunc fn first cap).run Tryz.prog w = .ok (.func fn first cap) w := fun _ _ _ _ => rfl
  have q1 := fld1 k m a ⟨t.toArray⟩
  obtain ⟨wa, hwa⟩ : ∃ x, w.alloc (.cells #[.int .i64 0, .string ⟨#[]⟩, .int .i64 0, .int .i64 0, .slice none 0 0] 29) = x := ⟨_, rfl⟩
  have b1 : Below w.heap.size w wa := by rw [← hwa]; exact below_alloc _ _
  have HKa : Hid (Kep w wa w.heap.size (kidO 0 [] 0 0 (.slice none 0 0))) := by show Kep w wa _ _; rw [← hwa]; exact Kep.new (Nat.le_refl _) _
  have HBa : Hid (Below w.heap.size w wa) := b1
  have HT0 : Hid (Calls Tryz.prog 38 #[.pointer (some ⟨p, 0, none⟩)] wa fun e w' => e = .returned (.agg #[.int .i64 k, .string ⟨t.toArray⟩, .int .i64 m, .int .i64 a]) ∧ Below wa.heap.size wa w') := H0.out wa b1
  clear b1
  go_enter Tryz.func40, Tryz.ntmps40
  go_wp2_with fail
  refine HT0.out.mono ?_
  rintro e w1 ⟨rfl, hB1⟩
  have hb01 : Below w.heap.size w w1 := HBa.out.trans (hB1.mono HBa.out.size)
  have HS1 : Hid (Sole p w w1) := Sole.of_below hb01
  have HB1 : Hid (Below w.heap.size w w1) := hb01
  have HK1 : Hid (Kep w w1 w.heap.size (kidO 0 [] 0 0 (.slice none 0 0))) := HKa.out.below hB1
  clear hb01 hB1
  go_wp2_with fail
  clear hwa
  refine (HT.out w1 HB1.out).mono ?_
  rintro e w2 ⟨rfl, hB⟩
  have HS2 : Hid (Sole p w w2) := HS1.out.trans (Sole.of_below hB)
  clear hB
  go_wp2
  exact ⟨rfl, rfl, HS2.out⟩
set_option maxHeartbeats 1000000 in
set_option maxRecDepth 4000 in
theorem definition_typedef (p g cap : Nat) (ts : List Tok) (d k m : Int) (t : List UInt8) (a : Nat) (w : World) (hp : p < w.heap.size) (hg : g < w.heap.size) (rt : Ans Tok) (F : PS → Ans Tree) (hF : Keeps p g cap ts d 70 F) (hba : BareAt p w) (hconst : (t == [99, 111, 110, 115, 116]) = false) (htypedef : (t == [116, 121, 112, 101, 100, 101, 102]) = true)
    (H0 : Hid (∀ w1, Below w.heap.size w w1 → Calls Tryz.prog 38 #[.pointer (some ⟨p, 0, none⟩)] w1 fun e w' => e = .returned (.agg #[.int .i64 k, .string ⟨t.toArray⟩, .int .i64 m, .int .i64 a]) ∧ Below w1.heap.size w1 w'))
    (HT : Hid (∀ w1, Below w.heap.size w w1 → Calls Tryz.prog 69 #[.pointer (some ⟨p, 0, none⟩)] w1 (PPost p g cap ts d tokIs rt w1))) :
    Calls Tryz.prog 40 #[.pointer (some ⟨p, 0, none⟩)] w (PPost p g cap ts d (treeIs w.heap.size) (rt.bind fun t s => (F s).bind fun d_ s => .ok (.node 3 [] 0 t.at_ [d_]) s) w) := by
  obtain ⟨R, hR⟩ : ∃ R, (rt.bind fun t s => (F s).bind fun d_ s => Ans.ok (Tree.node 3 [] 0 t.at_ [d_]) s) = R := ⟨_, rfl⟩
  rw [hR]
  have HR0 : Hid (R = rt.bind fun t s => (F s).bind fun d_ s => .ok (.node 3 [] 0 t.at_ [d_]) s) := hR.symm
  have HF : Hid (Keeps p g cap ts d 70 F) := hF
  have HBA : Hid (BareAt p w) := hba
  clear hR hF hba
  have HP : Hid (p < w.heap.size ∧ g < w.heap.size) := ⟨hp, hg⟩
  clear hp hg
  have hmf : ∀ (fn : Fn) (first cap : Array Value) (w : World), (Instr.makeFunc fn first cap).run Tryz.prog w = .ok (.func fn first cap) w := fun _ _ _ _ => rfl
  have q1 := fld1 k m a ⟨t.toArray⟩
  obtain ⟨wa, hwa⟩ : ∃ x, w.alloc (.cells #[.int .i64 0, .string ⟨#[]⟩, .int .i64 0, .int .i64 0, .slice none 0 0] 29) = x := ⟨_, rfl⟩
  have b1 : Below w.heap.size w wa := by rw [← hwa]; exact below_alloc _ _
  have HKa : Hid (Kep w wa w.heap.size (kidO 0 [] 0 0 (.slice none 0 0))) := by show Kep w wa _ _; rw [← hwa]; exact Kep.new (Nat.le_refl _) _
  have HBa : Hid (Below w.heap.size w wa) := b1
  have HT0 : Hid (Calls Tryz.prog 38 #[.pointer (some ⟨p, 0, none⟩)] wa fun e w' => e = .returned (.agg #[.int .i64 k, .string ⟨t.toArray⟩, .int .i64 m, .int .i64 a]) ∧ Below wa.heap.size wa w') := H0.out wa b1
  clear b1
  go_enter Tryz.func40, Tryz.ntmps40
  go_wp2_with fail
  refine HT0.out.mono ?_
  rintro e w1 ⟨rfl, hB1⟩
  have hb01 : Below w.heap.size w w1 := HBa.out.trans (hB1.mono HBa.out.size)
  have HS1 : Hid (Sole p w w1) := Sole.of_below hb01
  have HB1 : Hid (Below w.heap.size w w1) := hb01
  have HK1 : Hid (Kep w w1 w.heap.size (kidO 0 [] 0 0 (.slice none 0 0))) := HKa.out.below hB1
  clear hb01 hB1
  go_wp2_with fail
  clear hwa
  refine (HT.out w1 HB1.out).mono ?_
  cases rt with
  | no why at_ =>
    rintro e w99 ⟨rfl, hS⟩
    have HS99 : Hid (Sole p w w99) := HS1.out.trans hS
    clear hS
    go_wp2
    refine ⟨rfl, ?_⟩
    rw [HR0.out]
    exact ⟨rfl, HS99.out⟩
  | ok tk st =>
    rintro e w2 ⟨v, i, full, rfl, rfl, rfl, hP, hS⟩
    obtain ⟨w3, hw3⟩ : ∃ x, w2.alloc (.cells #[.int .i64 tk.kind, .string ⟨tk.text.toArray⟩, .int .i64 tk.num, .int .i64 tk.at_] 41) = x := ⟨_, rfl⟩
    have hB3 : Below w2.heap.size w2 w3 := by rw [← hw3]; exact below_alloc _ _
    have hs2 : Sole p w w2 := HS1.out.trans hS
    have HS3 : Hid (Sole p w w3) := hs2.trans (Sole.of_below hB3)
    have HKr3 : Hid (Kep w w3 w.heap.size (kidO 0 [] 0 0 (.slice none 0 0))) := (HK1.out.sole HP.out.1 hS).below hB3
    have HKt3 : Hid (Kep w w3 w2.heap.size (tokO tk)) := by show Kep w w3 _ _; rw [← hw3]; exact Kep.new hs2.size _
    obtain ⟨rv, hrv⟩ : ∃ r, F (PSof ts i full) = r := ⟨_, rfl⟩
    have HR1 : Hid (R = rv.bind fun d_ s => .ok (.node 3 [] 0 tk.at_ [d_]) s) := by
      show _ = _
      rw [HR0.out]; first | (rw [← hrv]; done) | (rw [← hrv]; rfl)
    have HVB : Hid (∀ m, Calls Tryz.prog 70 #[.pointer (some ⟨p, 0, none⟩)] (w3.drewN m) (PPost p g cap ts d (treeIs w3.heap.size) rv w3)) := fun m => by
      have hB : Below w3.heap.size w3 (w3.drewN m) := below_drew (Below.refl _ _) m
      rw [← hrv]
      exact (HF.out i full _ ((hP.below hB3).below hB) ((HBA.out.sole HS3.out).below hB)).mono fun e w' hp => PPost.from_below hB hp
    obtain ⟨t0, t1, t2, t3⟩ := tok_cells HKt3.out.1
    have hlt : w.heap.size < w3.heap.size := HKr3.out.lt
    have HLT : Hid (w.heap.size < w3.heap.size) := hlt
    clear hP hS hrv hB3 hs2 hlt
    unfold tokV
    go_wp2_with fail
    clear hw3
    cases rv with
    | no why at_ =>
      go_region_dies
      all_goals (
        refine (HVB.out _).mono ?_
        rintro e w5 ⟨rfl, hS⟩
        refine ⟨rfl, ?_⟩
        rw [HR1.out]
        exact ⟨rfl, HS3.out.trans hS⟩)
    | ok tv st =>
      obtain ⟨k8, n8, m8, a8, ks8⟩ := tv
      go_region_with (go_at_call 70
                      refine (HVB.out _).mono ?_
                      rintro e w5 ⟨v, i, full, rfl, hT, rfl, hP, hS⟩
                      obtain ⟨sl, rfl, hL⟩ := treeAt_node.1 hT
                      obtain ⟨o8, l8, c8, rfl⟩ := hL.shape
                      have hp := HP.out
                      have hlt := HLT.out
                      obtain ⟨wq, hwq⟩ : ∃ x, w5.alloc (.cells #[.int .i64 k8, .string ⟨n8.toArray⟩, .int .i64 m8, .int .i64 a8, .slice o8 l8 c8] 29) = x := ⟨_, rfl⟩
                      have hBq : Below w5.heap.size w5 wq := by rw [← hwq]; exact below_alloc _ _
                      have kt5 : Kep w w5 w2.heap.size (tokO tk) := HKt3.out.sole hp.1 hS
                      have HPq : Hid (PP wq p g cap ts i d full) := hP.below hBq
                      have HSq : Hid (Sole p w wq) := (HS3.out.trans hS).trans (Sole.of_below hBq)
                      have HKrq : Hid (Kep w wq w.heap.size (kidO 0 [] 0 0 (.slice none 0 0))) := (HKr3.out.sole hp.1 hS).below hBq
                      have HLq : Hid (ListAt (fun b => w.heap.size < b) wq [(.node k8 n8 m8 a8 ks8)] (.slice (some ⟨w5.heap.size, 0, none⟩) 1 1)) := by
                        have h5 := hS.size
                        refine listAt_lit (show wq.heap[w5.heap.size]? = some (rowObj [.int .i64 k8, .string ⟨n8.toArray⟩, .int .i64 m8, .int .i64 a8, .slice o8 l8 c8]) from by rw [← hwq]; exact heap_alloc_new _ _) (by simp) (by omega) (rowV_one ((TreeAt.below (treeIs.made hT) hBq).weaken (fun b h => ⟨by omega, by omega⟩)))
                      have u3 := (tok_cells kt5.1).2.2.2
                      have x3 := (tok_cells (kt5.below hBq).1).2.2.2
                      obtain ⟨⟨z0, z1, z2, z3, z4⟩, ⟨y0, y1, y2, y3, y4⟩⟩ := kid_cells HKrq.out.1
                      have qb := bld034 3 tk.at_ (some ⟨w5.heap.size, 0, none⟩) 1 1
                      clear hT hL hP hS hp hlt hBq kt5
                      unfold kidV)
      all_goals (
        go_wp2
        have q := res5 wq w.heap.size (.int .i64 3) (.string ⟨#[]⟩) (.int .i64 0) (.int .i64 tk.at_) (.slice (some ⟨w5.heap.size, 0, none⟩) 1 1) z0 z1 z2 z3 z4
        have hf := fin5 (r := w.heap.size) (w9 := wq) (k := 3) (n := []) (m := 0) (a := tk.at_) (sl := (.slice (some ⟨w5.heap.size, 0, none⟩) 1 1)) HKrq.out.2 HSq.out _ rfl
        generalize ((((wq.setCell ⟨w.heap.size, 0, none⟩ (.int .i64 3)).setCell ⟨w.heap.size, 1, none⟩ (.string ⟨#[]⟩)).setCell ⟨w.heap.size, 2, none⟩ (.int .i64 0)).setCell ⟨w.heap.size, 3, none⟩ (.int .i64 tk.at_)).setCell ⟨w.heap.size, 4, none⟩ (.slice (some ⟨w5.heap.size, 0, none⟩) 1 1) = wz at q hf ⊢
        obtain ⟨q0, q1, q2, q3, q4⟩ := q
        refine bodyPost_ret (v := .agg #[.int .i64 3, .string ⟨#[]⟩, .int .i64 0, .int .i64 tk.at_, (.slice (some ⟨w5.heap.size, 0, none⟩) 1 1)]) (by simp [results, Tryz.results40, go_sem, q0, q1, q2, q3, q4]) rfl ?_
        rw [HR1.out]
        have hr2 := HKrq.out.2
        have hpg := HP.out
        exact ⟨_, _, _, rfl, node_fin HLq.out (fun b h => Nat.le_of_lt h) (fun b h => Nat.ne_of_gt h) hf.2, rfl, HPq.out.sole_but (by omega) (by omega) hf.2, hf.1⟩)
theorem definition_any (p g cap : Nat) (ts : List Tok) (hE : Ends ts) : Keeps p g cap ts 0 40 definitionP := by
  intro i full w h hba
  have hd := PSof_hd ts i full h.il
  have HT : ∀ w1, Below w.heap.size w w1 → Calls Tryz.prog 38 #[.pointer (some ⟨p, 0, none⟩)] w1 fun e w' => e = .returned (tokV (ts[i]'h.il)) ∧ Below w1.heap.size w1 w' := fun w1 hB => token_any p g cap ts i 0 full w1 (h.below hB)
  have hix : ∀ t : List UInt8, t ≠ [] → ((ts[i]'h.il).text == t) = true → i + 1 < ts.length := fun t ht e => hE.text h.il (by rw [show (ts[i]'h.il).text = t by simpa using e]; exact ht)
  unfold definitionP PS.sees PS.bad
  rw [hd]
  cases h1 : ((ts[i]'h.il).text == wConst)
  · rw [if_neg (by simp)]
    cases h2 : ((ts[i]'h.il).text == wTypedef)
    · rw [if_neg (by simp)]
      cases h3 : ((ts[i]'h.il).text == wEnum)
      · cases h4 : ((ts[i]'h.il).text == wStruct)
        · cases h5 : ((ts[i]'h.il).text == wUnion)
          · rw [if_neg (by simp)]
            cases h6 : ((ts[i]'h.il).text == wProgram)
            · rw [if_neg (by simp)]
              exact definition_bad p g cap ts 0 _ _ (ts[i]'h.il).text (ts[i]'h.il).at_ w h.plt h.glt h1 h2 h3 h4 h5 h6 HT (fun w1 hB => wrong_any p g cap ts i 0 40 full w1 (h.below hB))
            · rw [if_pos rfl]
              exact definition_program p g cap ts 0 _ _ (ts[i]'h.il).text _ w h.plt h.glt _ h1 h2 h3 h4 h5 h6 HT (fun w1 hB => numbered_any p g cap ts hE 0 10 73 versionP (versionK p g cap ts hE 0) strict_version bodied_73 i full w1 (hix wProgram (by simp [wProgram]) h6) (h.below hB) (hba.below hB))
          · rw [if_pos (by simp)]
            exact definition_union p g cap ts 0 _ _ (ts[i]'h.il).text _ w h.plt h.glt _ h1 h2 h3 h4 h5 HT (fun w1 hB => body_top p g cap ts hE true i full w1 (hix wUnion (by simp [wUnion]) h5) (h.below hB) (hba.below hB))
        · rw [if_pos (by simp)]
          exact definition_struct p g cap ts 0 _ _ (ts[i]'h.il).text _ w h.plt h.glt _ h1 h2 h3 h4 HT (fun w1 hB => body_top p g cap ts hE true i full w1 (hix wStruct (by simp [wStruct]) h4) (h.below hB) (hba.below hB))
      · rw [if_pos (by simp)]
        exact definition_enum p g cap ts 0 _ _ (ts[i]'h.il).text _ w h.plt h.glt _ h1 h2 h3 HT (fun w1 hB => body_top p g cap ts hE true i full w1 (hix wEnum (by simp [wEnum]) h3) (h.below hB) (hba.below hB))
    · rw [if_pos rfl]
      exact definition_typedef p g cap ts 0 _ _ (ts[i]'h.il).text _ w h.plt h.glt _ _ (tower_top p g cap ts hE).something hba h1 h2 HT (fun w1 hB => take_any p g cap ts i 0 full w1 (h.below hB) (hix wTypedef (by simp [wTypedef]) h2))
  · rw [if_pos rfl]
    exact definition_const p g cap ts 0 _ _ (ts[i]'h.il).text _ w h.plt h.glt _ h1 HT (fun w1 hB => constant_any p g cap ts hE i 0 full w1 (h.below hB))
end Go.Proofs.YteokdknaadckbaaGreatDoor
