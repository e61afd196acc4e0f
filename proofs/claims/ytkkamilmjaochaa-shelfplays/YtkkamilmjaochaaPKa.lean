/- awake. -/
import Derived.Test.YtkkamilmjaochaaPYs
namespace Go.Proofs.Ytkkamilmjaochaa
open Go.RowKit
abbrev sA : ByteArray := ⟨#[97]⟩
abbrev sB : ByteArray := ⟨#[98]⟩
abbrev sC : ByteArray := ⟨#[99]⟩
theorem ok_of (s : ByteArray) (h : s.size ≤ 100) : kdS.ok s := by show s.size ≤ maxLen; unfold maxLen; omega
set_option maxRecDepth 8000 in
theorem awake_any (w : World) : Calls Try.prog 7 #[] w fun e w' => e = .returned (.bool true) ∧ Below w.heap.size w w' := by
  obtain ⟨r, hr⟩ : ∃ r, r = w.heap.size := ⟨_, rfl⟩
  have HQ := hid hr
  rw [← hr]
  go_enter Try.func7, Try.ntmps7
  go_wp2_with fail
  refine (newS_good w 2 2 rfl (by omega)).mono ?_
  rw [← hr]
  rintro _ w1 ⟨rfl, h1, c1⟩
  have O1 : Hid (OS kdS r w w1 (r + 2) 2 (r + 1) r []) := ⟨h1, c1, by simp, by rw [hr]; exact c1.size⟩
  generalize r + 2 = p at *
  generalize r + 1 = m at *
  clear h1 c1 hr
  go_wp2_with fail
  refine (newS_bad w1 (-1) (by decide)).mono ?_
  rintro _ _ ⟨rfl, rfl⟩
  go_wp2_with fail
  -- Put(a, 1)
  refine (putS_new O1.out.sh sA 1 (ok_of _ (by decide)) (by simp) (by simp)).mono ?_
  rintro _ w2 ⟨rfl, h1, c1⟩
  have O2 := hid (O1.out.step h1 c1)
  clear h1 c1 O1
  go_wp2_with fail
  -- Put(b, 2)
  refine (putS_new O2.out.sh sB 2 (ok_of _ (by decide)) (by simp) (by simp)).mono ?_
  rintro _ w3 ⟨rfl, h1, c1⟩
  have O3 := hid (O2.out.step h1 c1)
  clear h1 c1 O2
  simp only [List.nil_append, List.cons_append] at O3
  obtain ⟨b1, b2, O3⟩ : ∃ b1 b2, Hid (OS kdS r w w3 p 2 m r [⟨b1, sA, 1⟩, ⟨b2, sB, 2⟩]) := ⟨_, _, O3⟩
  go_wp2_with fail
  -- Put(c, 3)
  refine (putS_full O3.out.sh sC 3 (ok_of _ (by decide)) (by simp) (by simp)).mono ?_
  rintro _ w4 ⟨rfl, h1, c1⟩
  have O4 := hid (O3.out.step h1 c1)
  clear h1 c1
  go_wp2_with fail
  -- Put(a, 9)
  refine (putS_some (A := []) (t := ⟨b1, sA, 1⟩) (B := [⟨b2, sB, 2⟩]) O4.out.sh 9).mono ?_
  rintro _ w5 ⟨rfl, h1, c1⟩
  have O5 := hid (O4.out.step h1 c1)
  clear h1 c1
  simp only [List.nil_append] at O5
  go_wp2_with fail
  -- Keys
  refine (keysS_any O5.out.sh).mono ?_
  rintro _ w6 ⟨g, cap, rfl, k1, c1⟩
  have O6 := hid (O5.out.below c1)
  have x0 : w6.cell? ⟨g, 0, none⟩ = some (.string ⟨#[97]⟩) := k1.cells (g := g) rfl 0 _ rfl
  have x1 : w6.cell? ⟨g, 1, none⟩ = some (.string ⟨#[98]⟩) := k1.cells (g := g) rfl 1 _ rfl
  simp only [List.length_cons, List.length_nil]
  have HG : Hid (g < w6.heap.size ∧ g ∉ foot p m r [⟨b1, sA, 9⟩, ⟨b2, sB, 2⟩]) := ⟨(k1.lt g rfl).2, fun e => by have := (k1.lt g rfl).1; have := O5.out.sh.lt g e; omega⟩
  clear c1 k1
  go_wp2_with fail
  -- Get(a), Get(c)
  refine (getS_some O6.out.sh (t := ⟨b1, sA, 9⟩) (by simp)).mono ?_
  rintro _ _ ⟨rfl, rfl⟩
  go_wp2_with fail
  refine (getS_none O6.out.sh sC (ok_of _ (by decide)) (by simp)).mono ?_
  rintro _ _ ⟨rfl, rfl⟩
  go_wp2_with fail
  -- Drop(a), Drop(a)
  refine (dropS_some (A := []) (t := ⟨b1, sA, 9⟩) (B := [⟨b2, sB, 2⟩]) O6.out.sh).mono ?_
  rintro _ w7 ⟨rfl, h1, c1⟩
  have O7 := hid (O6.out.step h1 c1)
  have y0 : w7.cell? ⟨g, 0, none⟩ = some (.string ⟨#[97]⟩) := (World.cell?_of_block (a := ⟨g, 0, none⟩) (c1.kept g HG.out.1 HG.out.2)).trans x0
  have y1 : w7.cell? ⟨g, 1, none⟩ = some (.string ⟨#[98]⟩) := (World.cell?_of_block (a := ⟨g, 1, none⟩) (c1.kept g HG.out.1 HG.out.2)).trans x1
  clear h1 c1 x0 x1
  simp only [List.nil_append] at O7
  go_wp2_with fail
  refine (dropS_none O7.out.sh sA (ok_of _ (by decide)) (by simp)).mono ?_
  rintro _ _ ⟨rfl, rfl⟩
  go_wp2_with fail
  -- Len
  refine (lenS_any O7.out.sh).mono ?_
  rintro _ _ ⟨rfl, rfl⟩
  have HB := hid O7.out.be
  go_wp2
  go_ret
  exact ⟨rfl, HB.out⟩
end Go.Proofs.Ytkkamilmjaochaa
