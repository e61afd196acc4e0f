/- XdrWrites: two Writers of any room, every row of calls. -/
import Derived.Test.YthnnmgiihpdblaaDoorYi
import Derived.Test.YthnnmgiihpdblaaDoorYh
namespace Go.Proofs.YthnnmgiihpdblaaDoor
open Go.RowKit

/-- A script in memory. -/
structure Ops (w : World) (b off len : Nat) (K N MM : Nat → Int) (O : Nat → Bool) (T : Nat → ByteArray) (A B : Nat → Nat) : Prop where
  c0 : ∀ i, i < len → w.cell? ⟨b, off + i * 7, none⟩ = some (.int .i64 (K i))
  c1 : ∀ i, i < len → w.cell? ⟨b, off + i * 7 + 1, none⟩ = some (.int .i64 (N i))
  c2 : ∀ i, i < len → w.cell? ⟨b, off + i * 7 + 2, none⟩ = some (.int .i64 (MM i))
  c3 : ∀ i, i < len → w.cell? ⟨b, off + i * 7 + 3, none⟩ = some (.bool (O i))
  c4 : ∀ i, i < len → w.cell? ⟨b, off + i * 7 + 4, none⟩ = some (.string (T i))
  c5 : ∀ i, i < len → w.cell? ⟨b, off + i * 7 + 5, none⟩ = some (.int .u32 (A i))
  c6 : ∀ i, i < len → w.cell? ⟨b, off + i * 7 + 6, none⟩ = some (.int .u64 (B i))
  n : ∀ i, i < len → -9223372036854775808 ≤ N i ∧ N i ≤ 9223372036854775807
  m : ∀ i, i < len → -9223372036854775808 ≤ MM i ∧ MM i ≤ 9223372036854775807
  a : ∀ i, i < len → A i < 4294967296
  b : ∀ i, i < len → B i < 18446744073709551616

theorem Ops.below {w w' : World} {b off len : Nat} {K N MM : Nat → Int} {O : Nat → Bool} {T : Nat → ByteArray} {A B : Nat → Nat} (h : Ops w b off len K N MM O T A B) (hb : w'.heap[b]? = w.heap[b]?) : Ops w' b off len K N MM O T A B :=
  ⟨fun i hi => (cells_of_block hb _).1.trans (h.c0 i hi), fun i hi => (cells_of_block hb _).1.trans (h.c1 i hi), fun i hi => (cells_of_block hb _).1.trans (h.c2 i hi), fun i hi => (cells_of_block hb _).1.trans (h.c3 i hi),
   fun i hi => (cells_of_block hb _).1.trans (h.c4 i hi), fun i hi => (cells_of_block hb _).1.trans (h.c5 i hi), fun i hi => (cells_of_block hb _).1.trans (h.c6 i hi), h.n, h.m, h.a, h.b⟩

theorem Ops.lt {w : World} {b off len : Nat} {K N MM : Nat → Int} {O : Nat → Bool} {T : Nat → ByteArray} {A B : Nat → Nat} (h : Ops w b off len K N MM O T A B) (hl : 0 < len) : b < w.heap.size := by
  rcases Nat.lt_or_ge b w.heap.size with h1 | h1
  · exact h1
  · have := h.c0 0 hl
    simp [World.cell?, Array.getElem?_eq_none h1] at this

set_option maxRecDepth 4000 in
set_option maxHeartbeats 8000000 in
theorem xdrWrites_any (one two : Int) (oa : Option Addr) (b off len cap : Nat) (K N MM : Nat → Int) (O : Nat → Bool) (T : Nat → ByteArray) (A B : Nat → Nat) (w : World) (hoa : 0 < len → oa = some ⟨b, off, none⟩) (hops : Ops w b off len K N MM O T A B)
    (hlen : (len : Int) ≤ 9223372036854775807) (hE : ErrT w) (hone : one ≤ 9223372036854775807) (htwo : two ≤ 9223372036854775807)
    (hawake : Calls Tryd.prog 37 #[] w fun e w' => e = .returned (.bool true) ∧ Below w.heap.size w w') :
    Calls Tryd.prog 8 #[.int .i64 one, .int .i64 two, .slice oa len cap] w fun e w' => e = .returned (.bool true) ∧ Below w.heap.size w w' := by
  have HW := weighs_any oa b off len cap T w hoa hops.c4 hlen
  have HWE : Hid (Calls Tryd.prog 36 #[.slice oa len cap] w fun e w' => ∃ n : Int, e = .returned (.int .i64 n) ∧ w' = w ∧ (n ≤ 2147483647 → n = (len : Int) + (wsum T len : Int))) := HW
  have HAW : Hid (Calls Tryd.prog 37 #[] w fun e w' => e = .returned (.bool true) ∧ Below w.heap.size w w') := hawake
  obtain ⟨m1, hm1⟩ : ∃ m1, max one 0 = m1 := ⟨_, rfl⟩
  obtain ⟨m2, hm2⟩ : ∃ m2, max two 0 = m2 := ⟨_, rfl⟩
  have r1 : Hid (0 ≤ m1 ∧ m1 ≤ 9223372036854775807) := ⟨by omega, by omega⟩
  have r2 : Hid (0 ≤ m2 ∧ m2 ≤ 9223372036854775807) := ⟨by omega, by omega⟩
  have HP1 : Hid (∀ w, Calls Tryd.prog 38 #[.int .i64 one] w fun e w' => e = .returned (.pointer (some ⟨w.heap.size, 0, none⟩)) ∧ w' = w.alloc (.cells #[.int .i64 m1, .slice none 0 0, .nilIface] 93)) := fun w => hm1 ▸ pnew one w
  have HP2 : Hid (∀ w, Calls Tryd.prog 38 #[.int .i64 two] w fun e w' => e = .returned (.pointer (some ⟨w.heap.size, 0, none⟩)) ∧ w' = w.alloc (.cells #[.int .i64 m2, .slice none 0 0, .nilIface] 93)) := fun w => hm2 ▸ pnew two w
  have HR1 : Hid (∀ w, Calls Tryd.prog 39 #[.int .i64 one] w fun e w' => e = .returned (.pointer (some ⟨w.heap.size, 0, none⟩)) ∧ w' = w.alloc (.cells #[.string ⟨#[]⟩, .int .i64 m1, .int .i64 0] 95)) := fun w => hm1 ▸ rnew one w
  have HR2 : Hid (∀ w, Calls Tryd.prog 39 #[.int .i64 two] w fun e w' => e = .returned (.pointer (some ⟨w.heap.size, 0, none⟩)) ∧ w' = w.alloc (.cells #[.string ⟨#[]⟩, .int .i64 m2, .int .i64 0] 95)) := fun w => hm2 ▸ rnew two w
  have HST : Hid (∀ w1, Below w.heap.size w w1 → Inv w.heap.size w w1.heap.size (w1.heap.size + 2) (w1.heap.size + 1) (w1.heap.size + 3) m1 m2 0
      ((((w1.alloc (.cells #[.int .i64 m1, .slice none 0 0, .nilIface] 93)).alloc (.cells #[.int .i64 m2, .slice none 0 0, .nilIface] 93)).alloc (.cells #[.string ⟨#[]⟩, .int .i64 m1, .int .i64 0] 95)).alloc (.cells #[.string ⟨#[]⟩, .int .i64 m2, .int .i64 0] 95))) := fun w1 h1 => by
    rw [← hm1, ← hm2]; exact Inv.start w.heap.size w w1 h1 h1.size one two
  have HWR : Hid (∀ p q p2 q2 M M2 c wr, Inv w.heap.size w p q p2 q2 M M2 c wr → Calls Tryd.prog 41 #[.pointer (some ⟨p, 0, none⟩), .pointer (some ⟨q, 0, none⟩)] wr fun e w' => e = .returned (.bool true) ∧ Inv w.heap.size w p q p2 q2 M M2 c w') :=
    fun p q p2 q2 M M2 c wr hi => hi.written (Nat.le_refl _) hE hE.size
  have HO : Hid (0 < len → oa = some ⟨b, off, none⟩) := hoa
  have HOP : Hid (Ops w b off len K N MM O T A B) := hops
  clear hawake HW hm1 hm2 hone htwo hoa hops hE
  go_enter Tryd.func8, Tryd.ntmps8
  go_wp2_with fail
  refine HWE.out.mono ?_
  rintro e w0 ⟨n, rfl, hw0, hn⟩
  have hw1 := hw0.symm
  clear hw0
  subst hw1
  have HN : Hid (n ≤ 2147483647 → n = (len : Int) + (wsum T len : Int)) := hn
  clear hn
  by_cases hb : 2147483647 < n
  · go_wp2
    go_ret
    exact ⟨rfl, Below.refl _ _⟩
  have HS : Hid (wsum T len ≤ 2147483647) := by
    show wsum T len ≤ 2147483647
    have := HN.out (by omega)
    omega
  clear HN
  go_wp2_with fail
  refine HAW.out.mono ?_
  rintro e w1 ⟨rfl, hB1⟩
  have HB1 : Hid (Below w.heap.size w w1) := hB1
  clear hB1
  go_wp2_with fail
  refine (HP1.out _).mono ?_
  rintro e w2 ⟨rfl, rfl⟩
  go_wp2_with fail
  refine (HP2.out _).mono ?_
  rintro e w2 ⟨rfl, rfl⟩
  go_wp2_with fail
  refine (HR1.out _).mono ?_
  rintro e w2 ⟨rfl, rfl⟩
  go_wp2_with fail
  refine (HR2.out _).mono ?_
  rintro e w2 ⟨rfl, rfl⟩
  go_wp2_with fail
  go_loopw [12] (fun i wr => ∃ k : Nat, i = .int .i64 k ∧ k ≤ len ∧ Hid (Inv w.heap.size w w1.heap.size (w1.heap.size + 2) (w1.heap.size + 1) (w1.heap.size + 3) m1 m2 (wsum T k) wr)) (fun i _ => len - (intOf i).toNat)
  case atStart => exact ⟨0, rfl, by omega, HST.out w1 HB1.out⟩
  case round =>
    obtain ⟨k, rfl, hk, HI⟩ := hrel
    by_cases hlt : k < len
    · obtain rfl := HO.out (by omega)
      have hwr : Ops wr b off len K N MM O T A B := HOP.out.below (HI.out.frame.block b (HOP.out.lt (by omega)))
      have d0 := hwr.c0 k hlt
      have d1 := hwr.c1 k hlt
      have d2 := hwr.c2 k hlt
      have d3 := hwr.c3 k hlt
      have d4 := hwr.c4 k hlt
      have d5 := hwr.c5 k hlt
      have d6 := hwr.c6 k hlt
      have hcs : wsum T k + (16 + (T k).size) ≤ 140737488355328 := by
        have h1 := wsum_mono T (k + 1) len hlt
        have h2 := HS.out
        have h3 : wsum T (k + 1) = wsum T k + (16 + (T k).size) := rfl
        omega
      have H40a : Hid (Calls Tryd.prog 40 #[.pointer (some ⟨w1.heap.size, 0, none⟩), .pointer (some ⟨w1.heap.size + 2, 0, none⟩), opcV (K k) (N k) (MM k) (O k) (T k) (A k) (B k)] wr fun e w' => e = .returned (.tuple #[]) ∧ Inv w.heap.size w w1.heap.size (w1.heap.size + 2) (w1.heap.size + 1) (w1.heap.size + 3) m1 m2 (wsum T (k + 1)) w') :=
        HI.out.step (Nat.le_refl _) (K k) (N k) (MM k) (O k) (T k) (A k) (B k) r1.out.1 r1.out.2 hcs (hwr.n k hlt).1 (hwr.n k hlt).2 (hwr.m k hlt).1 (hwr.m k hlt).2 (hwr.a k hlt) (hwr.b k hlt)
      have H40b : Hid (Calls Tryd.prog 40 #[.pointer (some ⟨w1.heap.size + 1, 0, none⟩), .pointer (some ⟨w1.heap.size + 3, 0, none⟩), opcV (K k) (N k) (MM k) (O k) (T k) (A k) (B k)] wr fun e w' => e = .returned (.tuple #[]) ∧ Inv w.heap.size w w1.heap.size (w1.heap.size + 2) (w1.heap.size + 1) (w1.heap.size + 3) m1 m2 (wsum T (k + 1)) w') :=
        (HI.out.swap.step (Nat.le_refl _) (K k) (N k) (MM k) (O k) (T k) (A k) (B k) r2.out.1 r2.out.2 hcs (hwr.n k hlt).1 (hwr.n k hlt).2 (hwr.m k hlt).1 (hwr.m k hlt).2 (hwr.a k hlt) (hwr.b k hlt)).mono fun e w' hp => ⟨hp.1, hp.2.swap⟩
      unfold opcV at H40a H40b
      obtain ⟨cs, hcsE⟩ : ∃ cs, wsum T (k + 1) = cs := ⟨_, rfl⟩
      have HCS : Hid (wsum T (k + 1) = cs) := hcsE
      rw [hcsE] at H40a H40b
      clear hcsE hcs hwr
      cases hO : O k
      · rw [hO] at H40a d3
        clear hO H40b
        go_wp2_with fail
        refine H40a.out.mono ?_
        rintro e w2 ⟨rfl, hi⟩
        have HI2 : Hid (Inv w.heap.size w w1.heap.size (w1.heap.size + 2) (w1.heap.size + 1) (w1.heap.size + 3) m1 m2 cs w2) := hi
        clear hi H40a
        go_wp2_with fail
        refine (HWR.out _ _ _ _ _ _ _ _ HI2.out).mono ?_
        rintro e w3 ⟨rfl, hi⟩
        have HI3 : Hid (Inv w.heap.size w w1.heap.size (w1.heap.size + 2) (w1.heap.size + 1) (w1.heap.size + 3) m1 m2 cs w3) := hi
        clear hi
        go_wp2_with fail
        refine (HWR.out _ _ _ _ _ _ _ _ HI3.out.swap).mono ?_
        rintro e w4 ⟨rfl, hi⟩
        have HI4 : Hid (Inv w.heap.size w w1.heap.size (w1.heap.size + 2) (w1.heap.size + 1) (w1.heap.size + 3) m1 m2 cs w4) := hi.swap
        clear hi
        go_wp2
        go_roundw
        case rel => exact ⟨k + 1, by go_num, by omega, HCS.out ▸ HI4.out⟩
        case measure => simp [intOf]; omega
      · rw [hO] at H40b d3
        clear hO H40a
        go_wp2_with fail
        refine H40b.out.mono ?_
        rintro e w2 ⟨rfl, hi⟩
        have HI2 : Hid (Inv w.heap.size w w1.heap.size (w1.heap.size + 2) (w1.heap.size + 1) (w1.heap.size + 3) m1 m2 cs w2) := hi
        clear hi H40b
        go_wp2_with fail
        refine (HWR.out _ _ _ _ _ _ _ _ HI2.out).mono ?_
        rintro e w3 ⟨rfl, hi⟩
        have HI3 : Hid (Inv w.heap.size w w1.heap.size (w1.heap.size + 2) (w1.heap.size + 1) (w1.heap.size + 3) m1 m2 cs w3) := hi
        clear hi
        go_wp2_with fail
        refine (HWR.out _ _ _ _ _ _ _ _ HI3.out.swap).mono ?_
        rintro e w4 ⟨rfl, hi⟩
        have HI4 : Hid (Inv w.heap.size w w1.heap.size (w1.heap.size + 2) (w1.heap.size + 1) (w1.heap.size + 3) m1 m2 cs w4) := hi.swap
        clear hi
        go_wp2
        go_roundw
        case rel => exact ⟨k + 1, by go_num, by omega, HCS.out ▸ HI4.out⟩
        case measure => simp [intOf]; omega
    · obtain rfl : k = len := by omega
      go_wp2
      go_ret
      exact ⟨rfl, HI.out.frame⟩

end Go.Proofs.YthnnmgiihpdblaaDoor
