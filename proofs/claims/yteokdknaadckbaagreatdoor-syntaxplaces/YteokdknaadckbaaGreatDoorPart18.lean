/- The chapter's example: awake. SyntaxPlaces' walk: its bounds; where nothing is to be shown. SyntaxPlaces' walk. -/
import Derived.Test.YteokdknaadckbaaGreatDoorPart17
namespace Go.Proofs.YteokdknaadckbaaGreatDoor
open Go.RowKit

theorem pair0 (a b : Value) (w : World) : (Instr.extract (.tuple #[a, b]) 0).run Tryz.prog w = .ok a w := rfl
theorem pair1 (a b : Value) (w : World) : (Instr.extract (.tuple #[a, b]) 1).run Tryz.prog w = .ok b w := rfl
theorem bld99 (w : World) : (Instr.build 29 #[(0, .int .i64 99)]).run Tryz.prog w = .ok (.agg #[.int .i64 99, .string ⟨#[]⟩, .int .i64 0, .int .i64 0, .slice none 0 0]) w := by kernel_rfl
set_option maxHeartbeats 2000000 in
set_option maxRecDepth 4000 in
theorem awake_any (w : World) (hG : GlobAt w) : Calls Tryz.prog 10 #[] w (fun e w' => e = .returned (.bool true) ∧ Below w.heap.size w w') := by
  have HG : Hid (GlobAt w) := hG
  have HP1 : Hid (Calls Tryz.prog 11 #[.string ⟨[99, 111, 110, 115, 116, 32, 65, 32, 61, 32, 48, 120, 49, 48, 59].toArray⟩] w (ParsePost (.ok exTree) w)) := by
    have hp := parse_any [99, 111, 110, 115, 116, 32, 65, 32, 61, 32, 48, 120, 49, 48, 59] w hG
    rw [parse_ex] at hp
    exact hp
  clear hG
  have x0 := ext0
  have x1 := ext1
  have x2 := ext2
  have y0 := pair0
  have y1 := pair1
  have qb := bld99
  go_enter Tryz.func10, Tryz.ntmps10
  go_wp2_with fail
  refine HP1.out.mono ?_
  rintro e w1 ⟨v, rfl, hT, hB1⟩
  obtain ⟨g, c, g1, c1, o2, c2, rfl, hex⟩ := ex_at hT
  have HB1 : Hid (Below w.heap.size w w1) := hB1
  obtain ⟨wb, hwb⟩ : ∃ x, w1.alloc (.cells #[.int .i64 1, .string ⟨#[]⟩, .int .i64 0, .int .i64 0, .slice (some ⟨g, 0, none⟩) 1 c] 29) = x := ⟨_, rfl⟩
  have hbb : Below w1.heap.size w1 wb := by rw [← hwb]; exact below_alloc _ _
  have HEX : Hid (ExAt wb g c g1 c1 o2 c2) := hex.below hbb
  have HBB : Hid (Below w.heap.size w wb) := hB1.trans (hbb.mono hB1.size)
  have HKB : Hid (wb.heap[w1.heap.size]? = some (kidOI 1 [] 0 0 (.slice (some ⟨g, 0, none⟩) 1 c))) := by show _ = _; rw [← hwb]; exact heap_alloc_new _ _
  obtain ⟨⟨z0, z1, z2, z3, z4⟩, _⟩ := kid_cellsI HKB.out
  clear hT hB1 hex hbb
  unfold kidVI
  go_wp2_with fail
  refine (ex_print HEX.out).mono ?_
  rintro e w2 ⟨rfl, hB2⟩
  clear hwb z0 z1 z2 z3 z4
  have HB2 : Hid (Below wb.heap.size wb w2) := hB2
  have HBW2 : Hid (Below w.heap.size w w2) := HBB.out.trans (hB2.mono HBB.out.size)
  have HP2 : Hid (Calls Tryz.prog 11 #[.string ⟨[116, 121, 112, 101, 100, 101, 102, 32, 118, 111, 105, 100, 59].toArray⟩] w2 (ParsePost (.err 40 8) w2)) := by
    have hp := parse_any [116, 121, 112, 101, 100, 101, 102, 32, 118, 111, 105, 100, 59] w2 (HG.out.below HBW2.out)
    rw [parse_ex2] at hp
    exact hp
  clear hB2
  go_wp2_with fail
  refine HP2.out.mono ?_
  rintro e w3 ⟨rfl, hB3⟩
  have HB3 : Hid (Below wb.heap.size wb w3) := HB2.out.trans (hB3.mono HB2.out.size)
  clear hB3
  unfold kidV
  go_wp2_with fail
  refine (none_print _).mono ?_
  rintro e w4 ⟨rfl, hB4⟩
  have HB4 : Hid (Below wb.heap.size wb w4) := by
    have hb := HB3.out.alloc HB3.out.size (.cells #[.int .i64 0, .string ⟨#[]⟩, .int .i64 0, .int .i64 0, .slice none 0 0] 29)
    exact hb.trans (hB4.mono hb.size)
  clear hB4
  have HS : Hid (∀ wx, Below wb.heap.size wb wx → (wx.cell? ⟨w1.heap.size, 0, none⟩ = some (.int .i64 1) ∧ wx.cell? ⟨w1.heap.size, 1, none⟩ = some (.string ⟨#[]⟩) ∧ wx.cell? ⟨w1.heap.size, 2, none⟩ = some (.int .i64 0) ∧ wx.cell? ⟨w1.heap.size, 3, none⟩ = some (.int .i64 0) ∧ wx.cell? ⟨w1.heap.size, 4, none⟩ = some (.slice (some ⟨g, 0, none⟩) 1 c) ∧ wx.cell? ⟨g, 0, none⟩ = some (.int .i64 2) ∧ wx.cell? ⟨g, 1, none⟩ = some (.string ⟨#[65]⟩) ∧ wx.cell? ⟨g, 2, none⟩ = some (.int .i64 0) ∧ wx.cell? ⟨g, 3, none⟩ = some (.int .i64 6) ∧ wx.cell? ⟨g, 4, none⟩ = some (.slice (some ⟨g1, 0, none⟩) 1 c1))) := by
    show ∀ wx, _
    intro wx hb
    obtain ⟨⟨z0, z1, z2, z3, z4⟩, _⟩ := kid_cellsI (below_blk hb HKB.out)
    have he := HEX.out.below hb
    exact ⟨z0, z1, z2, z3, z4, he.kid.c0, he.kid.c1, he.kid.c2, he.kid.c3, he.kid.c4⟩
  have s0 := HS.out w4 HB4.out
  have s1 : ∀ i, ((w4.drewN i).cell? ⟨w1.heap.size, 0, none⟩ = some (.int .i64 1) ∧ (w4.drewN i).cell? ⟨w1.heap.size, 1, none⟩ = some (.string ⟨#[]⟩) ∧ (w4.drewN i).cell? ⟨w1.heap.size, 2, none⟩ = some (.int .i64 0) ∧ (w4.drewN i).cell? ⟨w1.heap.size, 3, none⟩ = some (.int .i64 0) ∧ (w4.drewN i).cell? ⟨w1.heap.size, 4, none⟩ = some (.slice (some ⟨g, 0, none⟩) 1 c) ∧ (w4.drewN i).cell? ⟨g, 0, none⟩ = some (.int .i64 2) ∧ (w4.drewN i).cell? ⟨g, 1, none⟩ = some (.string ⟨#[65]⟩) ∧ (w4.drewN i).cell? ⟨g, 2, none⟩ = some (.int .i64 0) ∧ (w4.drewN i).cell? ⟨g, 3, none⟩ = some (.int .i64 6) ∧ (w4.drewN i).cell? ⟨g, 4, none⟩ = some (.slice (some ⟨g1, 0, none⟩) 1 c1)) := fun _ => s0
  obtain ⟨z0, z1, z2, z3, z4, k0, k1, k2, k3, k4⟩ := s0
  have n2 : w4.cell? ⟨g1, 2, none⟩ = some (.int .i64 16) := (HEX.out.below HB4.out).num.c2
  go_wp2_with fail
  have s0 := HS.out w4 HB4.out
  clear z0 z1 z2 z3 z4 k0 k1 k2 k3 k4 n2
  go_region_held (fun w' => (w'.cell? ⟨w1.heap.size, 0, none⟩ = some (.int .i64 1) ∧ w'.cell? ⟨w1.heap.size, 1, none⟩ = some (.string ⟨#[]⟩) ∧ w'.cell? ⟨w1.heap.size, 2, none⟩ = some (.int .i64 0) ∧ w'.cell? ⟨w1.heap.size, 3, none⟩ = some (.int .i64 0) ∧ w'.cell? ⟨w1.heap.size, 4, none⟩ = some (.slice (some ⟨g, 0, none⟩) 1 c) ∧ w'.cell? ⟨g, 0, none⟩ = some (.int .i64 2) ∧ w'.cell? ⟨g, 1, none⟩ = some (.string ⟨#[65]⟩) ∧ w'.cell? ⟨g, 2, none⟩ = some (.int .i64 0) ∧ w'.cell? ⟨g, 3, none⟩ = some (.int .i64 6) ∧ w'.cell? ⟨g, 4, none⟩ = some (.slice (some ⟨g1, 0, none⟩) 1 c1))) (first | with_reducible exact s0 | with_reducible exact s1 _ | with_reducible exact s5 | with_reducible exact s6 | with_reducible exact s7 | exact s0) (first
    | (go_at_call_of 23 (Value.slice (some (Addr.mk g1 0 none)) 1 c1)
       refine (ex_other (g := g) (c := c) (g1 := g1) (c1 := c1) (o2 := o2) (c2 := c2) ?_).mono ?_
       exact HEX.out.below HB5.out
       rintro e w6 ⟨rfl, hB0⟩
       have HB6 : Hid (Below wb.heap.size wb w6) := HB5.out.trans (hB0.mono HB5.out.size)
       have s6 := HS.out w6 HB6.out
       clear hB0)
    | (go_at_call 23
       refine (ex_same (g := g) (c := c) (g1 := g1) (c1 := c1) (o2 := o2) (c2 := c2) ?_).mono ?_
       exact HEX.out.below (belowT_drew HB4.out _)
       rintro e w5 ⟨rfl, hB0⟩
       have HB5 : Hid (Below wb.heap.size wb w5) := (belowT_drew HB4.out _).trans (hB0.mono (belowT_drew HB4.out _).size)
       have s5 := HS.out w5 HB5.out
       clear hB0))
  go_wp2
  go_ret
  exact ⟨rfl, HBB.out.trans (HB6.out.mono HBB.out.size)⟩
end Go.Proofs.YteokdknaadckbaaGreatDoor
namespace Go.Proofs.YteokdknaadckbaaGreatDoor
open Go.RowKit

def addP (n m : Nat) : Nat := if n + m ≤ 2147483647 then n + m else 2147483648
theorem add_le (n m : Nat) : addP n m ≤ 2147483648 := by unfold addP; split <;> omega
theorem add_any (n m : Nat) (hn : n ≤ 9223372036854775807) (hm : m ≤ 9223372036854775807) (w : World) : Calls Tryz.prog 9 #[.int .i64 n, .int .i64 m] w fun e w' => e = .returned (.int .i64 (addP n m)) ∧ w' = w := by
  have h1 : (n : Int) ≤ 9223372036854775807 := by omega
  have h2 : (m : Int) ≤ 9223372036854775807 := by omega
  by_cases h : n + m ≤ 2147483647
  · have e : addP n m = n + m := if_pos h
    rw [e]
    have h3 : ¬ (m : Int) > 2147483647 - (n : Int) := by omega
    have h4 : decide ((2147483647 - (n : Int)) < (m : Int)) = false := by simp; omega
    have h5 : (n : Int) + (m : Int) ≤ 2147483647 := by omega
    go_enter Tryz.func9, Tryz.ntmps9
    go_wp2
    go_ret
    exact ⟨rfl, rfl⟩
  · have e : addP n m = 2147483648 := if_neg h
    rw [e]
    have h4 : decide ((2147483647 - (n : Int)) < (m : Int)) = true := by simp; omega
    have h3 : (2147483647 - (n : Int)) < (m : Int) := by omega
    go_enter Tryz.func9, Tryz.ntmps9
    go_wp2
    go_ret
    exact ⟨rfl, rfl⟩
def thriceP (n : Nat) : Nat := addP n (addP n n)
theorem thrice_le (n : Nat) : thriceP n ≤ 2147483648 := add_le _ _
theorem thrice_any (n : Nat) (hn : n ≤ 9223372036854775807) (w : World) : Calls Tryz.prog 8 #[.int .i64 n] w fun e w' => e = .returned (.int .i64 (thriceP n)) ∧ w' = w := by
  have h1 : (n : Int) ≤ 9223372036854775807 := by omega
  have H1 : Hid (∀ w, Calls Tryz.prog 9 #[.int .i64 n, .int .i64 n] w fun e w' => e = .returned (.int .i64 (addP n n)) ∧ w' = w) := fun w => add_any n n hn hn w
  have H2 : Hid (∀ w, Calls Tryz.prog 9 #[.int .i64 n, .int .i64 (addP n n : Nat)] w fun e w' => e = .returned (.int .i64 (thriceP n)) ∧ w' = w) := fun w => add_any n _ hn (by have := add_le n n; omega) w
  generalize addP n n = y at *
  go_enter Tryz.func8, Tryz.ntmps8
  go_wp2_with fail
  refine (H1.out _).mono ?_
  rintro e w1 ⟨rfl, hw⟩
  rw [hw]
  clear hw
  go_wp2_with fail
  refine (H2.out _).mono ?_
  rintro e w2 ⟨rfl, hw⟩
  rw [hw]
  clear hw
  go_wp2
  go_ret
  exact ⟨rfl, rfl⟩
def guardP (l m : List UInt8) : Nat := thriceP (addP (thriceP l.length) (thriceP m.length))
theorem add_small {n m : Nat} (h : addP n m ≤ 2147483647) : n + m ≤ 2147483647 := by
  unfold addP at h
  split at h <;> omega
theorem guard_small {l m : List UInt8} (h : guardP l m ≤ 2147483647) : l.length ≤ 2147483647 ∧ m.length ≤ 2147483647 := by
  have h1 := add_small h
  have h2 := add_small (show addP (thriceP l.length) (thriceP m.length) ≤ 2147483647 by omega)
  have h3 := add_small (show addP l.length (addP l.length l.length) ≤ 2147483647 by unfold thriceP at h2; omega)
  have h4 := add_small (show addP m.length (addP m.length m.length) ≤ 2147483647 by unfold thriceP at h2; omega)
  omega
structure Grd (l m : List UInt8) : Prop where
  a : ∀ w, Calls Tryz.prog 8 #[.int .i64 l.length] w fun e w' => e = .returned (.int .i64 (thriceP l.length)) ∧ w' = w
  b : ∀ w, Calls Tryz.prog 8 #[.int .i64 m.length] w fun e w' => e = .returned (.int .i64 (thriceP m.length)) ∧ w' = w
  c : ∀ w, Calls Tryz.prog 9 #[.int .i64 (thriceP l.length : Nat), .int .i64 (thriceP m.length : Nat)] w fun e w' => e = .returned (.int .i64 (addP (thriceP l.length) (thriceP m.length))) ∧ w' = w
  d : ∀ w, Calls Tryz.prog 8 #[.int .i64 (addP (thriceP l.length) (thriceP m.length) : Nat)] w fun e w' => e = .returned (.int .i64 (guardP l m)) ∧ w' = w
theorem grd {l m : List UInt8} (hl : l.length ≤ 9223372036854775807) (hm : m.length ≤ 9223372036854775807) : Grd l m :=
  ⟨thrice_any _ hl, thrice_any _ hm, add_any _ _ (by have := thrice_le l.length; omega) (by have := thrice_le m.length; omega), thrice_any _ (by have := add_le (thriceP l.length) (thriceP m.length); omega)⟩
theorem tok_place {w : World} {base g cap : Nat} {ts : List Tok} (ho : w.ownsRow base 41 4 (.slice (some ⟨g, 0, none⟩) ts.length cap) ts.length (Lx.tokCells ts)) (j : Nat) (hj : j < ts.length) : w.cell? ⟨g, j * 4 + 3, none⟩ = some (.int .i64 (ts[j]).at_) := by
  rw [ho.cellAt _ (by omega)]
  exact (tokCells_get ts j hj).2.2.2
end Go.Proofs.YteokdknaadckbaaGreatDoor
namespace Go.Proofs.YteokdknaadckbaaGreatDoor
open Go.RowKit

set_option maxRecDepth 4000 in
set_option maxHeartbeats 1000000 in
theorem sp_more (l m : List UInt8) (w : World) (hl : l.length ≤ 9223372036854775807) (hm : m.length ≤ 9223372036854775807) (h : ¬ guardP l m ≤ 2147483647) : Calls Tryz.prog 7 #[.string ⟨l.toArray⟩, .string ⟨m.toArray⟩] w fun e w' => e = .returned (.bool true) ∧ Below w.heap.size w w' := by
  have HGR : Hid (Grd l m) := grd hl hm
  have h1 : (2147483647 : Int) < (guardP l m : Nat) := by omega
  have h2 : decide ((2147483647 : Int) < (guardP l m : Nat)) = true := by simp; omega
  clear h hl hm
  go_enter Tryz.func7, Tryz.ntmps7
  go_wp2_with (first | (go_at_call_of 8 (Value.int .i64 (l.length : Int)); refine (HGR.out.a _).mono ?_; rintro e wi ⟨rfl, hwi⟩; rw [hwi]; clear hwi wi) | (go_at_call_of 8 (Value.int .i64 (m.length : Int)); refine (HGR.out.b _).mono ?_; rintro e wi ⟨rfl, hwi⟩; rw [hwi]; clear hwi wi) | (go_at_call 9; refine (HGR.out.c _).mono ?_; rintro e wi ⟨rfl, hwi⟩; rw [hwi]; clear hwi wi) | (go_at_call 8; refine (HGR.out.d _).mono ?_; rintro e wi ⟨rfl, hwi⟩; rw [hwi]; clear hwi wi))
  go_ret
  exact ⟨rfl, Below.refl _ _⟩
set_option maxRecDepth 4000 in
set_option maxHeartbeats 1000000 in
theorem sp_lex (l m : List UInt8) (w : World) (hG : GlobAt w) (hl : l.length ≤ 9223372036854775807) (hm : m.length ≤ 9223372036854775807) (h : guardP l m ≤ 2147483647) (r : Int) (i : Nat) (hs : scanP l = .err r i) (hr : 30 ≤ r ∧ r < 40) : Calls Tryz.prog 7 #[.string ⟨l.toArray⟩, .string ⟨m.toArray⟩] w fun e w' => e = .returned (.bool true) ∧ Below w.heap.size w w' := by
  have HGR : Hid (Grd l m) := grd hl hm
  have h1 : ¬ (2147483647 : Int) < (guardP l m : Nat) := by omega
  have h2 : decide ((2147483647 : Int) < (guardP l m : Nat)) = false := by simp; omega
  have HA : Hid (Calls Tryz.prog 10 #[] w (fun e w' => e = .returned (.bool true) ∧ Below w.heap.size w w')) := awake_any w hG
  have HS : Hid (∀ w, Calls Tryz.prog 16 #[.string ⟨l.toArray⟩] w (Lx.ScanPost (.err r i) w)) := by
    show ∀ w, _
    intro w
    have := Lx.scan_any l w
    rw [hs] at this
    exact this
  have HP : Hid (∀ w, GlobAt w → Calls Tryz.prog 11 #[.string ⟨l.toArray⟩] w (ParsePost (.err r i) w)) := by
    show ∀ w, _
    intro w hG
    have := parse_any l w hG
    rw [show parseP l = .err r i by unfold parseP; rw [hs]] at this
    exact this
  have HG : Hid (GlobAt w) := hG
  have r1 : (r != 0) = true := by simp; omega
  have r2 : (r == 0) = false := by simp; omega
  have r3 : (30 : Int) ≤ r := hr.1
  have r4 : decide ((30 : Int) ≤ r) = true := by simp; omega
  have r5 : r < (40 : Int) := hr.2
  have r6 : decide (r < (40 : Int)) = true := by simp; omega
  have x0 := ext0
  have x1 := ext1
  have x2 := ext2
  clear h hl hm hG hs hr
  go_enter Tryz.func7, Tryz.ntmps7
  go_wp2_with (first | (go_at_call_of 8 (Value.int .i64 (l.length : Int)); refine (HGR.out.a _).mono ?_; rintro e wi ⟨rfl, hwi⟩; rw [hwi]; clear hwi wi) | (go_at_call_of 8 (Value.int .i64 (m.length : Int)); refine (HGR.out.b _).mono ?_; rintro e wi ⟨rfl, hwi⟩; rw [hwi]; clear hwi wi) | (go_at_call 9; refine (HGR.out.c _).mono ?_; rintro e wi ⟨rfl, hwi⟩; rw [hwi]; clear hwi wi) | (go_at_call 8; refine (HGR.out.d _).mono ?_; rintro e wi ⟨rfl, hwi⟩; rw [hwi]; clear hwi wi))
  refine HA.out.mono ?_
  rintro e w1 ⟨rfl, hB⟩
  have HB1 : Hid (Below w.heap.size w w1) := hB
  clear hB
  go_wp2_with fail
  refine (HS.out _).mono ?_
  rintro e w2 ⟨rfl, hB⟩
  have HB2 : Hid (Below w.heap.size w w2) := HB1.out.trans (hB.mono HB1.out.size)
  clear hB
  go_wp2_with fail
  refine (HP.out _ (HG.out.below HB2.out)).mono ?_
  rintro e w3 ⟨rfl, hB⟩
  have HB3 : Hid (Below w.heap.size w (w3.alloc (.cells #[.int .i64 0, .string ⟨#[]⟩, .int .i64 0, .int .i64 0, .slice none 0 0] 29))) := (HB2.out.trans (hB.mono HB2.out.size)).alloc (HB2.out.trans (hB.mono HB2.out.size)).size _
  clear hB
  unfold kidV
  go_wp2
  go_ret
  exact ⟨rfl, HB3.out⟩
set_option maxRecDepth 4000 in
set_option maxHeartbeats 1000000 in
theorem sp_ok (l m : List UInt8) (w : World) (hG : GlobAt w) (hl : l.length ≤ 9223372036854775807) (hm : m.length ≤ 9223372036854775807) (h : guardP l m ≤ 2147483647) (ts : List Tok) (hs : scanP l = .ok ts) (t : Tree) (hp : parseP l = .ok t) : Calls Tryz.prog 7 #[.string ⟨l.toArray⟩, .string ⟨m.toArray⟩] w fun e w' => e = .returned (.bool true) ∧ Below w.heap.size w w' := by
  have HGR : Hid (Grd l m) := grd hl hm
  have h1 : ¬ (2147483647 : Int) < (guardP l m : Nat) := by omega
  have h2 : decide ((2147483647 : Int) < (guardP l m : Nat)) = false := by simp; omega
  have HA : Hid (Calls Tryz.prog 10 #[] w (fun e w' => e = .returned (.bool true) ∧ Below w.heap.size w w')) := awake_any w hG
  have HS : Hid (∀ w, Calls Tryz.prog 16 #[.string ⟨l.toArray⟩] w (Lx.ScanPost (.ok ts) w)) := by
    show ∀ w, _
    intro w
    have := Lx.scan_any l w
    rw [hs] at this
    exact this
  have HP : Hid (∀ w, GlobAt w → Calls Tryz.prog 11 #[.string ⟨l.toArray⟩] w (ParsePost (.ok t) w)) := by
    show ∀ w, _
    intro w hG
    have := parse_any l w hG
    rw [hp] at this
    exact this
  have HG : Hid (GlobAt w) := hG
  have x0 := ext0
  have x1 := ext1
  have x2 := ext2
  clear h hl hm hG hs hp
  go_enter Tryz.func7, Tryz.ntmps7
  go_wp2_with (first | (go_at_call_of 8 (Value.int .i64 (l.length : Int)); refine (HGR.out.a _).mono ?_; rintro e wi ⟨rfl, hwi⟩; rw [hwi]; clear hwi wi) | (go_at_call_of 8 (Value.int .i64 (m.length : Int)); refine (HGR.out.b _).mono ?_; rintro e wi ⟨rfl, hwi⟩; rw [hwi]; clear hwi wi) | (go_at_call 9; refine (HGR.out.c _).mono ?_; rintro e wi ⟨rfl, hwi⟩; rw [hwi]; clear hwi wi) | (go_at_call 8; refine (HGR.out.d _).mono ?_; rintro e wi ⟨rfl, hwi⟩; rw [hwi]; clear hwi wi))
  refine HA.out.mono ?_
  rintro e w1 ⟨rfl, hB⟩
  have HB1 : Hid (Below w.heap.size w w1) := hB
  clear hB
  go_wp2_with fail
  refine (HS.out _).mono ?_
  rintro e w2 ⟨g, cap, rfl, ho, hB⟩
  have HB2 : Hid (Below w.heap.size w w2) := HB1.out.trans (hB.mono HB1.out.size)
  clear hB ho
  go_wp2_with fail
  refine (HP.out _ (HG.out.below HB2.out)).mono ?_
  rintro e w3 ⟨v, rfl, hT, hB⟩
  obtain ⟨k8, n8, m8, a8, ks8⟩ := t
  obtain ⟨sl, rfl, hL⟩ := treeAt_node.1 hT
  obtain ⟨o8, l8, c8, rfl⟩ := hL.shape
  have HB3 : Hid (Below w.heap.size w (w3.alloc (.cells #[.int .i64 k8, .string ⟨n8.toArray⟩, .int .i64 m8, .int .i64 a8, .slice o8 l8 c8] 29))) := (HB2.out.trans (hB.mono HB2.out.size)).alloc (HB2.out.trans (hB.mono HB2.out.size)).size _
  clear hB hT hL
  unfold kidV
  go_wp2
  go_ret
  exact ⟨rfl, HB3.out⟩
end Go.Proofs.YteokdknaadckbaaGreatDoor
