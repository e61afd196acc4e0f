/- The program lays down who somebody says to be. Blocks as they are; a body that was laid down as a credential. PrintSys. The numbers of a mark. A mark, laid down; PrintMark. -/
import Derived.Test.YtfcbjcebkahehaaGreatDoorZag
import Derived.Deep.RegionHeld3
import Derived.Lib.MinMax
namespace Go.Proofs.YtfcbjcebkahehaaGreatDoor
open Go.RowKit
/-- numbers that can be read at a slice's address, all of them in blocks below p -/
def GsAt (w : World) (p : Nat) (oa : Option Addr) (gs : List Int) : Prop :=
  0 < gs.length → ∃ q off, oa = some ⟨q, off, none⟩ ∧ q < p ∧ ∀ i, i < gs.length → w.cell? ⟨q, off + i, none⟩ = some (.int .i64 (gs.getD i 0))
theorem GsAt.below {w w' : World} {p : Nat} {oa : Option Addr} {gs : List Int} (h : GsAt w p oa gs) (hB : Below p w w') : GsAt w' p oa gs := fun h0 => by
  obtain ⟨q, off, h1, h2, h3⟩ := h h0
  exact ⟨q, off, h1, h2, fun i hi => (cells_of_block (hB.block q h2) _).1.trans (h3 i hi)⟩
theorem layGs_take (gs : List Int) (k : Nat) (h : k < gs.length) : layGs (gs.take (k + 1)) = layGs (gs.take k) ++ nbL 4 (gs.getD k 0).toNat := by
  induction gs generalizing k with
  | nil => simp at h
  | cons g gs ih =>
    cases k with
    | zero => simp [layGs]
    | succ k =>
      simp only [List.take_succ_cons, layGs, List.append_assoc]
      rw [ih k (by simpa using h)]
      simp
theorem all_take (gs : List Int) (k : Nat) (h : k < gs.length) : (∀ g ∈ gs.take (k + 1), isW g) ↔ ((∀ g ∈ gs.take k, isW g) ∧ isW (gs.getD k 0)) := by
  rw [List.take_add_one, List.getElem?_eq_getElem h]
  simp only [List.mem_append, Option.toList_some, List.mem_singleton]
  have e : gs.getD k 0 = gs[k] := by rw [List.getD_eq_getElem?_getD, List.getElem?_eq_getElem h]; rfl
  rw [e]
  constructor
  · exact fun H => ⟨fun g hg => H g (.inl hg), H _ (.inr rfl)⟩
  · rintro ⟨H1, H2⟩ g (hg | rfl)
    · exact H1 g hg
    · exact H2
set_option maxRecDepth 4000 in
set_option maxHeartbeats 2000000 in
theorem layWho_any (b p : Nat) (s : SysP) (oa : Option Addr) (cap : Nat) (M : Int) (P : Prop) (l : List UInt8) (w : World) (h : WrP w p M P l) (hM0 : 0 ≤ M) (hM1 : M ≤ 2147483647) (hb : b < p)
    (c0 : w.cell? ⟨b, 0, none⟩ = some (.int .i64 s.stamp)) (c1 : w.cell? ⟨b, 1, none⟩ = some (.string ⟨s.machine.toArray⟩)) (c2 : w.cell? ⟨b, 2, none⟩ = some (.int .i64 s.user)) (c3 : w.cell? ⟨b, 3, none⟩ = some (.int .i64 s.group))
    (c4 : w.cell? ⟨b, 4, none⟩ = some (.slice oa s.groups.length cap)) (hg : GsAt w p oa s.groups) (hcap : s.groups.length ≤ cap) (hlen : (s.groups.length : Int) ≤ 9223372036854775807) (hr : P → (l.length : Int) + 340 ≤ M) :
    Calls Tryz.prog 112 #[.pointer (some ⟨b, 0, none⟩), .pointer (some ⟨p, 0, none⟩)] w (WPost p M (P ∧ s.may) (l ++ s.body) w) := by
  obtain ⟨stamp, machine, user, group, gs⟩ := s
  obtain ⟨n, hn⟩ : ∃ n, gs.length = n := ⟨_, rfl⟩
  have HN : Hid (gs.length = n) := hn
  have HR : Hid (P → (l.length : Int) + 340 ≤ M) := hr
  have HM : Hid (0 ≤ M ∧ M ≤ 2147483647) := ⟨hM0, hM1⟩
  simp only [hn] at c0 c1 c2 c3 c4 hcap hlen
  have HW0 : Hid (WrP w p M P l) := h
  have HG0 : Hid (GsAt w p oa gs) := hg
  have K : Hid (∀ w1 : World, Below p w w1 → ∀ o, w1.cell? ⟨b, o, none⟩ = w.cell? ⟨b, o, none⟩) := fun w1 hB o => (cells_of_block (hB.block b hb) o).1
  have S1 : Hid (Calls Tryz.prog 116 #[.pointer (some ⟨p, 0, none⟩), .int .i64 stamp] w (WPost p M (P ∧ isW stamp) (l ++ nbL 4 stamp.toNat) w)) := w_uint p stamp M P l w h hM0 hM1 (fun q => by have := hr q; omega)
  clear h hg hr hM0 hM1 hn
  go_enter Tryz.func112, Tryz.ntmps112
  go_wp2_with fail
  refine S1.out.mono ?_
  rintro e w1 ⟨rfl, hw1, hB1⟩
  have HB1 : Hid (Below p w w1) := hB1
  have d1 := (K.out w1 hB1 1).trans c1
  have d2 := (K.out w1 hB1 2).trans c2
  have d3 := (K.out w1 hB1 3).trans c3
  have d4 := (K.out w1 hB1 4).trans c4
  have S2 : Hid (Calls Tryz.prog 122 #[.pointer (some ⟨p, 0, none⟩), .int .i64 255, .string ⟨machine.toArray⟩] w1 (WPost p M ((P ∧ isW stamp) ∧ (machine.length : Int) ≤ 255) (l ++ nbL 4 stamp.toNat ++ (nbL 4 machine.length ++ (machine ++ padB machine.length))) w1)) :=
    w_opaque p 255 M machine _ _ w1 hw1 HM.out.1 HM.out.2 (by decide) (by decide) (fun q q2 => by have := HR.out q.1; rw [List.length_append, nbL_len]; unfold pads; omega)
  clear hB1 hw1 c0 c1 c2 c3 c4 S1
  go_wp2_with fail
  refine S2.out.mono ?_
  rintro e w2 ⟨rfl, hw2, hB2⟩
  have HB2 : Hid (Below p w w2) := HB1.out.trans hB2
  have d2 := (cells_of_block (hB2.block b hb) 2).1.trans d2
  have d3 := (cells_of_block (hB2.block b hb) 3).1.trans d3
  have d4 := (cells_of_block (hB2.block b hb) 4).1.trans d4
  obtain ⟨l2, hl2⟩ : ∃ x, l ++ nbL 4 stamp.toNat ++ (nbL 4 machine.length ++ (machine ++ padB machine.length)) = x := ⟨_, rfl⟩
  have HL2 : Hid ((machine.length : Int) ≤ 255 → (l2.length : Int) ≤ l.length + 264) := fun q => by
    rw [← hl2]; simp only [List.length_append, nbL_len, padB_len]; unfold pads; omega
  have HE2 : Hid (l2 = l ++ nbL 4 stamp.toNat ++ (nbL 4 machine.length ++ (machine ++ padB machine.length))) := hl2.symm
  rw [hl2] at hw2
  have S3 : Hid (Calls Tryz.prog 116 #[.pointer (some ⟨p, 0, none⟩), .int .i64 user] w2 (WPost p M (((P ∧ isW stamp) ∧ (machine.length : Int) ≤ 255) ∧ isW user) (l2 ++ nbL 4 user.toNat) w2)) :=
    w_uint p user M _ l2 w2 hw2 HM.out.1 HM.out.2 (fun q => by have := HR.out q.1.1; have := HL2.out q.2; omega)
  clear hB2 hw2 d1 hl2 S2
  go_wp2_with fail
  refine S3.out.mono ?_
  rintro e w3 ⟨rfl, hw3, hB3⟩
  have HB3 : Hid (Below p w w3) := HB2.out.trans hB3
  have d3 := (cells_of_block (hB3.block b hb) 3).1.trans d3
  have d4 := (cells_of_block (hB3.block b hb) 4).1.trans d4
  have S4 : Hid (Calls Tryz.prog 116 #[.pointer (some ⟨p, 0, none⟩), .int .i64 group] w3 (WPost p M ((((P ∧ isW stamp) ∧ (machine.length : Int) ≤ 255) ∧ isW user) ∧ isW group) (l2 ++ nbL 4 user.toNat ++ nbL 4 group.toNat) w3)) :=
    w_uint p group M _ _ w3 hw3 HM.out.1 HM.out.2 (fun q => by have := HR.out q.1.1.1; have := HL2.out q.1.2; rw [List.length_append, nbL_len]; omega)
  clear hB3 hw3 d2 S3
  go_wp2_with fail
  refine S4.out.mono ?_
  rintro e w4 ⟨rfl, hw4, hB4⟩
  have HB4 : Hid (Below p w w4) := HB3.out.trans hB4
  have d4 := (cells_of_block (hB4.block b hb) 4).1.trans d4
  obtain ⟨l4, hl4⟩ : ∃ x, l2 ++ nbL 4 user.toNat ++ nbL 4 group.toNat = x := ⟨_, rfl⟩
  have HL4 : Hid ((machine.length : Int) ≤ 255 → (l4.length : Int) ≤ l.length + 272) := fun q => by
    have := HL2.out q
    rw [← hl4]; simp only [List.length_append, nbL_len]; omega
  have HE4 : Hid (l4 = l2 ++ nbL 4 user.toNat ++ nbL 4 group.toNat) := hl4.symm
  rw [hl4] at hw4
  have S5 : Hid (Calls Tryz.prog 120 #[.pointer (some ⟨p, 0, none⟩), .int .i64 16, .int .i64 n] w4 (WPost p M (((((P ∧ isW stamp) ∧ (machine.length : Int) ≤ 255) ∧ isW user) ∧ isW group) ∧ (n : Int) ≤ 16) (l4 ++ nbL 4 n) w4)) :=
    w_count p 16 M n _ l4 w4 hw4 HM.out.1 HM.out.2 (by decide) (by decide) (fun q => by have := HR.out q.1.1.1.1; have := HL4.out q.1.1.2; omega)
  clear hB4 hw4 d3 hl4 S4
  go_wp2_with fail
  refine S5.out.mono ?_
  rintro e w5 ⟨rfl, hw5, hB5⟩
  have HB5 : Hid (Below p w w5) := HB4.out.trans hB5
  have d4 := (cells_of_block (hB5.block b hb) 4).1.trans d4
  obtain ⟨P5, hP5⟩ : ∃ x, (((((P ∧ isW stamp) ∧ (machine.length : Int) ≤ 255) ∧ isW user) ∧ isW group) ∧ (n : Int) ≤ 16) = x := ⟨_, rfl⟩
  have HP5 : Hid (P5 ↔ (((((P ∧ isW stamp) ∧ (machine.length : Int) ≤ 255) ∧ isW user) ∧ isW group) ∧ (n : Int) ≤ 16)) := by rw [hP5]; exact Iff.rfl
  rw [hP5] at hw5
  have HW5 : Hid (WrP w5 p M P5 (l4 ++ nbL 4 n)) := hw5
  clear hB5 hw5 hP5 S5
  obtain ⟨k, hk⟩ : ∃ k : Nat, min n 16 = k := ⟨_, rfl⟩
  have hkn : k ≤ n := by omega
  have hk16 : k ≤ 16 := by omega
  have hki : min (n : Int) 16 = (k : Int) := by omega
  have HK : Hid (min n 16 = k) := hk
  have hkc : k ≤ cap := by omega
  clear hk
  clear HB1 HB2 HB3 HB4 K
  go_wp2_with fail
  go_region
  go_wp2_with fail
  go_loopw [56] (fun ix wr => ∃ j : Nat, ix = .int .i64 j ∧ j ≤ k ∧ Hid (WrP wr p M (P5 ∧ ∀ g ∈ gs.take j, isW g) (l4 ++ nbL 4 n ++ layGs (gs.take j))) ∧ Hid (Below p w wr)) (fun ix _ => 200 - (intOf ix).toNat)
  case atStart =>
    refine ⟨0, rfl, by omega, ?_, ?_⟩
    · exact (show WrP _ p M _ _ from (HW5.out.iff (Q := P5 ∧ ∀ g ∈ gs.take 0, isW g) ⟨fun x => x.1, fun x => ⟨x, fun g hg => by simp at hg⟩⟩ (m := l4 ++ nbL 4 n ++ layGs (gs.take 0)) (fun _ => by simp [layGs])).below (below_drew (Below.refl _ _) _))
    · exact (show Below p w _ from below_drew HB5.out _)
  case round =>
    obtain ⟨j, rfl, hj, HW, HB⟩ := hrel
    by_cases hlt : j < k
    · obtain ⟨q, off, ho, hq, hc⟩ := HG0.out (by have := HN.out; omega)
      have hcell : wr.cell? ⟨q, off + j, none⟩ = some (.int .i64 (gs.getD j 0)) := (cells_of_block (HB.out.block q hq) _).1.trans (hc j (by have := HN.out; omega))
      subst ho
      have S6 : Hid (Calls Tryz.prog 116 #[.pointer (some ⟨p, 0, none⟩), .int .i64 (gs.getD j 0)] wr (WPost p M ((P5 ∧ ∀ g ∈ gs.take j, isW g) ∧ isW (gs.getD j 0)) (l4 ++ nbL 4 n ++ layGs (gs.take j) ++ nbL 4 (gs.getD j 0).toNat) wr)) :=
        w_uint p _ M _ _ wr HW.out HM.out.1 HM.out.2 (fun x => by
          have h5 := HP5.out.1 x.1
          have := HR.out h5.1.1.1.1.1
          have := HL4.out h5.1.1.1.2
          simp only [List.length_append, nbL_len, layGs_len, List.length_take]
          omega)
      have HJ : Hid (j < gs.length) := by have := HN.out; show j < gs.length; omega
      clear hc
      obtain ⟨G, hG⟩ : ∃ G, gs.getD j 0 = G := ⟨_, rfl⟩
      have HGJ : Hid (gs.getD j 0 = G) := hG
      rw [hG] at hcell S6
      clear hG
      go_wp2_with fail
      refine S6.out.mono ?_
      rintro e w6 ⟨rfl, hw6, hB6⟩
      have HB6 : Hid (Below p w w6) := HB.out.trans hB6
      have HW6 : Hid (WrP w6 p M (P5 ∧ ∀ g ∈ gs.take (j + 1), isW g) (l4 ++ nbL 4 n ++ layGs (gs.take (j + 1)))) := hw6.iff
        ⟨fun x => ⟨⟨x.1, ((all_take gs j HJ.out).1 x.2).1⟩, HGJ.out ▸ ((all_take gs j HJ.out).1 x.2).2⟩, fun x => ⟨x.1.1, (all_take gs j HJ.out).2 ⟨x.1.2, HGJ.out.symm ▸ x.2⟩⟩⟩
        (fun _ => by rw [layGs_take gs j HJ.out, HGJ.out, List.append_assoc (l4 ++ nbL 4 n)])
      clear hw6 hB6 S6
      go_wp2
      go_roundw
      case rel => exact ⟨j + 1, by go_num, by omega, HW6, HB6⟩
      case measure => simp [intOf]; omega
    · obtain rfl : j = k := by omega
      go_wp2
      first | go_end0 | refine bodyPost_ret (results_none rfl _ _ _) rfl ?_
      have hn := HN.out
      have hk := HK.out
      refine ⟨rfl, HW.out.iff ?_ ?_, HB.out⟩
      · unfold SysP.may
        rw [HP5.out]
        constructor
        · rintro ⟨x0, x1, x2, x3, x4, x5, x6⟩
          exact ⟨⟨⟨⟨⟨⟨x0, x1⟩, Int.ofNat_le.2 x4⟩, x2⟩, x3⟩, by simp only at x5; omega⟩, fun g hg => x6 g (List.mem_of_mem_take hg)⟩
        · rintro ⟨⟨⟨⟨⟨⟨x0, x1⟩, x4⟩, x2⟩, x3⟩, x5⟩, x6⟩
          refine ⟨x0, x1, x2, x3, Int.ofNat_le.1 x4, by simp only; omega, fun g hg => x6 g ?_⟩
          rw [List.take_of_length_le (by omega)]
          exact hg
      · intro x
        have h5 := (HP5.out.1 x.1).2
        rw [List.take_of_length_le (by omega), HE4.out, HE2.out]
        unfold SysP.body
        simp only [List.append_assoc, hn]
end Go.Proofs.YtfcbjcebkahehaaGreatDoor
namespace Go.Proofs.YtfcbjcebkahehaaGreatDoor
open Go.RowKit
/-- a block whole -/
def Bk (w : World) (b : Nat) (cs : List Value) (t : TypeId) : Prop := w.heap[b]? = some (.cells cs.toArray t)
theorem Bk.cell {w : World} {b : Nat} {cs : List Value} {t : TypeId} (h : Bk w b cs t) (i : Nat) {v : Value} (hv : cs[i]? = some v) : w.cell? ⟨b, i, none⟩ = some v := by
  unfold Bk at h
  simp [World.cell?, h, hv]
theorem Bk.frozen {w : World} {b : Nat} {cs : List Value} {t : TypeId} (h : Bk w b cs t) (i : Nat) : w.frozen? ⟨b, i, none⟩ = false := by
  unfold Bk at h
  simp [World.frozen?, h]
theorem Bk.lt {w : World} {b : Nat} {cs : List Value} {t : TypeId} (h : Bk w b cs t) : b < w.heap.size := by
  rcases Nat.lt_or_ge b w.heap.size with h1 | h1
  · exact h1
  · unfold Bk at h
    rw [Array.getElem?_eq_none h1] at h
    cases h
theorem Bk.set {w : World} {b : Nat} {cs : List Value} {t : TypeId} (h : Bk w b cs t) (i : Nat) (v : Value) : Bk (w.setCell ⟨b, i, none⟩ v) b (cs.set i v) t := by
  unfold Bk at h ⊢
  simp [World.setCell, Array.getElem?_modify, h]
theorem Bk.set_ne {w : World} {b b' : Nat} {cs : List Value} {t : TypeId} (h : Bk w b cs t) (hb : b ≠ b') (i : Nat) (v : Value) : Bk (w.setCell ⟨b', i, none⟩ v) b cs t :=
  (Below.heap_setCell w _ v b hb).trans h
theorem Bk.new (w : World) (cs : List Value) (t : TypeId) : Bk (w.alloc (.cells cs.toArray t)) w.heap.size cs t := by
  show (w.heap.push _)[w.heap.size]? = _
  simp
theorem Bk.below {w w' : World} {b B : Nat} {cs : List Value} {t : TypeId} (h : Bk w b cs t) (hB : Below B w w') (hb : b < B) : Bk w' b cs t := (hB.block b hb).trans h
theorem below_new (w : World) (o : Obj) : Below w.heap.size w (w.alloc o) := (Below.refl _ _).alloc (Nat.le_refl _) _
/-- a credential, or that a field may not be -/
def prV (f : Int) : Option (List UInt8) → Value
  | some l => .tuple #[.agg #[.int .i64 f, .string ⟨l.toArray⟩], .int .i64 0]
  | none => .tuple #[.agg #[.int .i64 0, .string ⟨#[]⟩], .int .i64 110]
set_option maxRecDepth 4000 in
theorem authOf_ok (p : Nat) (f M : Int) (P : Prop) (l : List UInt8) (w : World) (h : WrP w p M P l) (hT : ErrT w) (hP : P) :
    Calls Tryz.prog 113 #[.int .i64 f, .pointer (some ⟨p, 0, none⟩)] w fun e w' => e = .returned (prV f (some l)) ∧ Below w.heap.size w w' := by
  obtain ⟨wa, hwa⟩ : ∃ wa, w.alloc (.cells #[.int .i64 0, .string ⟨#[]⟩] 44) = wa := ⟨_, rfl⟩
  have hBa : Below w.heap.size w wa := hwa ▸ below_new _ _
  have hz : wa.heap.size = w.heap.size + 1 := by rw [← hwa]; simp
  have H1 : Hid (Calls Tryz.prog 126 #[.pointer (some ⟨p, 0, none⟩)] wa fun e w' => e = .returned (.tuple #[.string ⟨l.toArray⟩, .int .i64 0]) ∧ Below wa.heap.size wa w') := w_done_ok p M P l wa (h.below hBa) (hT.below hBa) hP
  have HR : Hid (Bk wa w.heap.size [.int .i64 0, .string ⟨#[]⟩] 44 ∧ Below w.heap.size w wa ∧ wa.heap.size = w.heap.size + 1) := ⟨hwa ▸ Bk.new _ _ _, hBa, hz⟩
  have HWA : Hid (w.alloc (.cells #[.int .i64 0, .string ⟨#[]⟩] 44) = wa) := hwa
  clear h hT hP hBa hz hwa
  go_enter Tryz.func113, Tryz.ntmps113
  go_wp2_with fail
  rw [HWA.out]
  refine H1.out.mono ?_
  rintro e w1 ⟨rfl, hB⟩
  have hk : Bk w1 w.heap.size _ _ := HR.out.1.below hB (by have := HR.out.2.2; omega)
  have c0 := hk.cell 0 rfl
  have c1 := hk.cell 1 rfl
  have f0 := hk.frozen 0
  have f1 := hk.frozen 1
  have q0 := ((hk.set 0 (.int .i64 f)).set 1 (.string ⟨l.toArray⟩)).cell 0 rfl
  have q1 := ((hk.set 0 (.int .i64 f)).set 1 (.string ⟨l.toArray⟩)).cell 1 rfl
  have HE : Hid (Below w.heap.size w ((w1.setCell ⟨w.heap.size, 0, none⟩ (.int .i64 f)).setCell ⟨w.heap.size, 1, none⟩ (.string ⟨l.toArray⟩))) :=
    (((HR.out.2.1.trans (hB.mono (by have := HR.out.2.2; omega))).setCell (Nat.le_refl _) _).setCell (Nat.le_refl _) _)
  clear hB hk
  go_wp2
  refine bodyPost_ret (v := prV f (some l)) (by unfold prV; simp [results, Tryz.results113, go_sem, q0, q1]) rfl ⟨rfl, HE.out⟩
set_option maxRecDepth 4000 in
theorem authOf_bad (p : Nat) (f M : Int) (P : Prop) (l : List UInt8) (w : World) (h : WrP w p M P l) (hT : ErrT w) (hP : ¬ P) :
    Calls Tryz.prog 113 #[.int .i64 f, .pointer (some ⟨p, 0, none⟩)] w fun e w' => e = .returned (prV f none) ∧ Below w.heap.size w w' := by
  obtain ⟨wa, hwa⟩ : ∃ wa, w.alloc (.cells #[.int .i64 0, .string ⟨#[]⟩] 44) = wa := ⟨_, rfl⟩
  have hBa : Below w.heap.size w wa := hwa ▸ below_new _ _
  have hz : wa.heap.size = w.heap.size + 1 := by rw [← hwa]; simp
  have H1 : Hid (Calls Tryz.prog 126 #[.pointer (some ⟨p, 0, none⟩)] wa fun e w' => (∃ E, E ≠ 0 ∧ e = .returned (.tuple #[.string ⟨#[]⟩, .int .i64 E])) ∧ Below wa.heap.size wa w') := w_done_bad p M P l wa (h.below hBa) (hT.below hBa) hP
  have HR : Hid (Bk wa w.heap.size [.int .i64 0, .string ⟨#[]⟩] 44 ∧ Below w.heap.size w wa ∧ wa.heap.size = w.heap.size + 1) := ⟨hwa ▸ Bk.new _ _ _, hBa, hz⟩
  have HWA : Hid (w.alloc (.cells #[.int .i64 0, .string ⟨#[]⟩] 44) = wa) := hwa
  clear h hT hP hBa hz hwa
  go_enter Tryz.func113, Tryz.ntmps113
  go_wp2_with fail
  rw [HWA.out]
  refine H1.out.mono ?_
  rintro e w1 ⟨⟨E, hE, rfl⟩, hB⟩
  have hk : Bk w1 w.heap.size _ _ := HR.out.1.below hB (by have := HR.out.2.2; omega)
  have c0 := hk.cell 0 rfl
  have c1 := hk.cell 1 rfl
  have f0 := hk.frozen 0
  have f1 := hk.frozen 1
  have q0 := ((hk.set 0 (.int .i64 0)).set 1 (.string ⟨#[]⟩)).cell 0 rfl
  have q1 := ((hk.set 0 (.int .i64 0)).set 1 (.string ⟨#[]⟩)).cell 1 rfl
  have HE : Hid (Below w.heap.size w ((w1.setCell ⟨w.heap.size, 0, none⟩ (.int .i64 0)).setCell ⟨w.heap.size, 1, none⟩ (.string ⟨#[]⟩))) :=
    (((HR.out.2.1.trans (hB.mono (by have := HR.out.2.2; omega))).setCell (Nat.le_refl _) _).setCell (Nat.le_refl _) _)
  have hE2 : (E != 0) = true := bne_iff_ne.2 hE
  have hE3 : ¬ E = 0 := hE
  clear hB hk
  go_wp2
  refine bodyPost_ret (v := prV f none) (by unfold prV; simp [results, Tryz.results113, go_sem, q0, q1]) rfl ⟨rfl, HE.out⟩
theorem authOf_any (p : Nat) (f M : Int) (P : Prop) [Decidable P] (l : List UInt8) (w : World) (h : WrP w p M P l) (hT : ErrT w) :
    Calls Tryz.prog 113 #[.int .i64 f, .pointer (some ⟨p, 0, none⟩)] w fun e w' => e = .returned (prV f (if P then some l else none)) ∧ Below w.heap.size w w' := by
  by_cases hP : P
  · rw [if_pos hP]; exact authOf_ok p f M P l w h hT hP
  · rw [if_neg hP]; exact authOf_bad p f M P l w h hT hP
end Go.Proofs.YtfcbjcebkahehaaGreatDoor
namespace Go.Proofs.YtfcbjcebkahehaaGreatDoor
open Go.RowKit
theorem GsAt.mono {w : World} {p p' : Nat} {oa : Option Addr} {gs : List Int} (h : GsAt w p oa gs) (hp : p ≤ p') : GsAt w p' oa gs := fun h0 => by
  obtain ⟨q, off, h1, h2, h3⟩ := h h0
  exact ⟨q, off, h1, by omega, h3⟩
theorem WrP.alloc {m : Int} {w wa : World} (hm : 0 ≤ m) (h : wa = w.alloc (.cells #[.int .i64 m, .slice none 0 0, .nilIface] 181)) : WrP wa w.heap.size m True [] ∧ Below w.heap.size w wa ∧ wa.heap.size = w.heap.size + 1 := by
  subst h
  exact ⟨WrP.new m w hm, below_new _ _, by simp⟩
theorem prV_some (f : Int) (o : Option (List UInt8)) : ∃ (x : Int) (s : ByteArray) (y : Int), prV f o = .tuple #[.agg #[.int .i64 x, .string s], .int .i64 y] := by
  cases o with
  | none => exact ⟨_, _, _, rfl⟩
  | some l => exact ⟨_, _, _, rfl⟩
set_option maxRecDepth 4000 in
theorem printSys_any (s : SysP) (oa : Option Addr) (cap : Nat) (w : World) (hT : ErrT w) (hg : GsAt w w.heap.size oa s.groups) (hcap : s.groups.length ≤ cap) (hlen : (s.groups.length : Int) ≤ 9223372036854775807) :
    Calls Tryz.prog 71 #[.agg #[.int .i64 s.stamp, .string ⟨s.machine.toArray⟩, .int .i64 s.user, .int .i64 s.group, .slice oa s.groups.length cap]] w fun e w' => e = .returned (prV 1 (printS s)) ∧ Below w.heap.size w w' := by
  obtain ⟨w3, hw3⟩ : ∃ x, ((w.alloc (.cells #[.int .i64 s.stamp, .string ⟨s.machine.toArray⟩, .int .i64 s.user, .int .i64 s.group, .slice oa s.groups.length cap] 26)).alloc (.cells #[.int .i64 0, .string ⟨#[]⟩] 44)).alloc (.cells #[.int .i64 s.stamp, .string ⟨s.machine.toArray⟩, .int .i64 s.user, .int .i64 s.group, .slice oa s.groups.length cap] 171) = x := ⟨_, rfl⟩
  have HW3 := hid hw3
  have hz3 : w3.heap.size = w.heap.size + 1 + 1 + 1 := by rw [← hw3]; simp
  have hB3 : Below w.heap.size w w3 := by
    rw [← hw3]
    exact ((below_new _ _).alloc (by simp) _).alloc (by simp; omega) _
  have hk3 : Bk w3 (w.heap.size + 1 + 1) [.int .i64 s.stamp, .string ⟨s.machine.toArray⟩, .int .i64 s.user, .int .i64 s.group, .slice oa s.groups.length cap] 171 := by
    rw [← hw3]; have := Bk.new ((w.alloc (.cells #[.int .i64 s.stamp, .string ⟨s.machine.toArray⟩, .int .i64 s.user, .int .i64 s.group, .slice oa s.groups.length cap] 26)).alloc (.cells #[.int .i64 0, .string ⟨#[]⟩] 44)) [.int .i64 s.stamp, .string ⟨s.machine.toArray⟩, .int .i64 s.user, .int .i64 s.group, .slice oa s.groups.length cap] 171
    simpa using this
  have hr3 : Bk w3 (w.heap.size + 1) [.int .i64 0, .string ⟨#[]⟩] 44 := by
    rw [← hw3]
    refine Bk.below ?_ (below_new _ _) (by simp)
    have := Bk.new (w.alloc (.cells #[.int .i64 s.stamp, .string ⟨s.machine.toArray⟩, .int .i64 s.user, .int .i64 s.group, .slice oa s.groups.length cap] 26)) [.int .i64 0, .string ⟨#[]⟩] 44
    simpa using this
  have HN : Hid (∀ w, Calls Tryz.prog 76 #[.int .i64 400] w fun e w' => e = .returned (.pointer (some ⟨w.heap.size, 0, none⟩)) ∧ w' = w.alloc (.cells #[.int .i64 400, .slice none 0 0, .nilIface] 181)) := fun w => w_new 400 w (by decide)
  have H3 : Hid (w3.heap.size = w.heap.size + 1 + 1 + 1 ∧ Below w.heap.size w w3 ∧ Bk w3 (w.heap.size + 1) [.int .i64 0, .string ⟨#[]⟩] 44 ∧ ErrT w3) := ⟨hz3, hB3, hr3, hT.below hB3⟩
  have HS : Hid (∀ w4, w4 = w3.alloc (.cells #[.int .i64 400, .slice none 0 0, .nilIface] 181) → Calls Tryz.prog 112 #[.pointer (some ⟨w.heap.size + 1 + 1, 0, none⟩), .pointer (some ⟨w3.heap.size, 0, none⟩)] w4 (WPost w3.heap.size 400 (True ∧ s.may) ([] ++ s.body) w4)) := fun w4 h4 => by
    obtain ⟨h1, h2, h3⟩ := WrP.alloc (by decide) h4
    have hk4 := hk3.below h2 (by omega)
    exact layWho_any (w.heap.size + 1 + 1) w3.heap.size s oa cap 400 True [] w4 h1 (by decide) (by decide) (by omega) (hk4.cell 0 rfl) (hk4.cell 1 rfl) (hk4.cell 2 rfl) (hk4.cell 3 rfl) (hk4.cell 4 rfl) (((hg.below hB3).mono (by omega)).below h2) hcap hlen (fun _ => by simp)
  have HP : Hid (∀ w5, WrP w5 w3.heap.size 400 (True ∧ s.may) ([] ++ s.body) → ErrT w5 → Calls Tryz.prog 113 #[.int .i64 1, .pointer (some ⟨w3.heap.size, 0, none⟩)] w5 fun e w' => e = .returned (prV 1 (printS s)) ∧ Below w5.heap.size w5 w') := fun w5 h5 hT5 => by
    have := authOf_any w3.heap.size 1 400 s.may s.body w5 (h5.iff (by simp) (fun _ => by simp)) hT5
    exact this
  obtain ⟨st, mc, us, gr, gs⟩ := s
  simp only at hg hcap hlen HS HP HW3 ⊢
  clear hz3 hB3 hk3 hr3 hg hT hw3
  go_enter Tryz.func71, Tryz.ntmps71
  go_wp2_with fail
  rw [HW3.out]
  refine (HN.out _).mono ?_
  rintro e w4 ⟨rfl, h4⟩
  have H4 := hid h4
  clear h4
  go_wp2_with fail
  refine (HS.out _ H4.out).mono ?_
  rintro e w5 ⟨rfl, h5, hB5⟩
  have H5 : Hid (WrP w5 w3.heap.size 400 (True ∧ SysP.may ⟨st, mc, us, gr, gs⟩) ([] ++ SysP.body ⟨st, mc, us, gr, gs⟩)) := h5
  have HB5 : Hid (Below w3.heap.size w3 w5) := (WrP.alloc (by decide) H4.out).2.1.trans hB5
  have HT5 : Hid (ErrT w5) := H3.out.2.2.2.below (HB5.out)
  clear h5 hB5
  go_wp2_with fail
  refine (HP.out _ H5.out HT5.out).mono ?_
  rintro e w6 ⟨rfl, hB6⟩
  have hk : Bk w6 (w.heap.size + 1) _ _ := (H3.out.2.2.1.below HB5.out (by have := H3.out.1; omega)).below hB6 (by have := H3.out.1; have := HB5.out.size; omega)
  obtain ⟨x, sb, y, hv⟩ := prV_some 1 (printS ⟨st, mc, us, gr, gs⟩)
  rw [hv]
  have c0 := hk.cell 0 rfl
  have c1 := hk.cell 1 rfl
  have f0 := hk.frozen 0
  have f1 := hk.frozen 1
  have q0 := ((hk.set 0 (.int .i64 x)).set 1 (.string sb)).cell 0 rfl
  have q1 := ((hk.set 0 (.int .i64 x)).set 1 (.string sb)).cell 1 rfl
  have HE : Hid (Below w.heap.size w ((w6.setCell ⟨w.heap.size + 1, 0, none⟩ (.int .i64 x)).setCell ⟨w.heap.size + 1, 1, none⟩ (.string sb))) :=
    (((H3.out.2.1.trans (HB5.out.mono (by have := H3.out.1; omega))).trans (hB6.mono (by have := H3.out.1; have := HB5.out.size; omega))).setCell (by simp) _).setCell (by simp) _
  have HV := hid hv
  clear hB6 hk hv
  go_wp2
  refine bodyPost_ret (v := .tuple #[.agg #[.int .i64 x, .string sb], .int .i64 y]) (by simp [results, Tryz.results71, go_sem, q0, q1]) rfl ⟨by rw [HV.out], HE.out⟩
end Go.Proofs.YtfcbjcebkahehaaGreatDoor
namespace Go.Proofs.YtfcbjcebkahehaaGreatDoor
open Go.RowKit
def from1 (m n : Int) : Bool := decide (1 ≤ n) && decide (n ≤ m)
theorem isFrom1To_any (m n : Int) (w : World) : Calls Tryz.prog 182 #[.int .i64 m, .int .i64 n] w fun e w' => e = .returned (.bool (from1 m n)) ∧ w' = w := by
  unfold from1
  by_cases h0 : 1 ≤ n
  · by_cases h1 : n ≤ m
    · rw [decide_eq_true h0, decide_eq_true h1]
      have h2 : decide (1 ≤ n) = true := decide_eq_true h0
      have h3 : decide (n ≤ m) = true := decide_eq_true h1
      go_enter Tryz.func182, Tryz.ntmps182
      go_wp2
      go_ret
      exact ⟨rfl, rfl⟩
    · rw [decide_eq_true h0, decide_eq_false h1]
      have h2 : decide (1 ≤ n) = true := decide_eq_true h0
      have h3 : decide (n ≤ m) = false := decide_eq_false h1
      go_enter Tryz.func182, Tryz.ntmps182
      go_wp2
      go_ret
      exact ⟨rfl, rfl⟩
  · rw [decide_eq_false h0]
    have h2 : decide (1 ≤ n) = false := decide_eq_false h0
    go_enter Tryz.func182, Tryz.ntmps182
    go_wp2
    go_ret
    exact ⟨rfl, rfl⟩
def numsB (i q u : Int) : Bool := from1 4611686018427387904 i && (from1 4294967295 q && from1 4294967295 u)
theorem numsB_iff (i q u : Int) : numsB i q u = true ↔ (1 ≤ i ∧ i ≤ 4611686018427387904) ∧ (1 ≤ q ∧ q ≤ 4294967295) ∧ (1 ≤ u ∧ u ≤ 4294967295) := by
  unfold numsB from1
  simp only [Bool.and_eq_true, decide_eq_true_eq]
set_option maxRecDepth 4000 in
theorem nums_core (b : Nat) (i q u : Int) (x y z : Bool) (w : World) (c5 : w.cell? ⟨b, 5, none⟩ = some (.int .i64 i)) (c6 : w.cell? ⟨b, 6, none⟩ = some (.int .i64 q)) (c7 : w.cell? ⟨b, 7, none⟩ = some (.int .i64 u))
    (H1 : Hid (Calls Tryz.prog 182 #[.int .i64 4611686018427387904, .int .i64 i] w fun e w' => e = .returned (.bool x) ∧ w' = w)) (H2 : Hid (Calls Tryz.prog 182 #[.int .i64 4294967295, .int .i64 q] w fun e w' => e = .returned (.bool y) ∧ w' = w))
    (H3 : Hid (Calls Tryz.prog 182 #[.int .i64 4294967295, .int .i64 u] w fun e w' => e = .returned (.bool z) ∧ w' = w)) :
    Calls Tryz.prog 167 #[.pointer (some ⟨b, 0, none⟩)] w fun e w' => e = .returned (.bool (x && (y && z))) ∧ w' = w := by
  cases x
  · go_enter Tryz.func167, Tryz.ntmps167
    go_wp2_with fail
    refine H1.out.mono ?_
    rintro e w1 ⟨rfl, hw⟩
    rw [hw]
    clear hw
    go_wp2
    go_ret
    exact ⟨rfl, rfl⟩
  · cases y
    · go_enter Tryz.func167, Tryz.ntmps167
      go_wp2_with fail
      refine H1.out.mono ?_
      rintro e w1 ⟨rfl, hw⟩
      rw [hw]
      clear hw
      go_wp2_with fail
      refine H2.out.mono ?_
      rintro e w1 ⟨rfl, hw⟩
      rw [hw]
      clear hw
      go_wp2
      go_ret
      exact ⟨rfl, rfl⟩
    · go_enter Tryz.func167, Tryz.ntmps167
      go_wp2_with fail
      refine H1.out.mono ?_
      rintro e w1 ⟨rfl, hw⟩
      rw [hw]
      clear hw
      go_wp2_with fail
      refine H2.out.mono ?_
      rintro e w1 ⟨rfl, hw⟩
      rw [hw]
      clear hw
      go_wp2_with fail
      refine H3.out.mono ?_
      rintro e w1 ⟨rfl, hw⟩
      rw [hw]
      clear hw
      go_wp2
      go_ret
      exact ⟨by cases z <;> rfl, rfl⟩
theorem nums_any (b : Nat) (i q u : Int) (w : World) (c5 : w.cell? ⟨b, 5, none⟩ = some (.int .i64 i)) (c6 : w.cell? ⟨b, 6, none⟩ = some (.int .i64 q)) (c7 : w.cell? ⟨b, 7, none⟩ = some (.int .i64 u)) :
    Calls Tryz.prog 167 #[.pointer (some ⟨b, 0, none⟩)] w fun e w' => e = .returned (.bool (numsB i q u)) ∧ w' = w :=
  nums_core b i q u _ _ _ w c5 c6 c7 (isFrom1To_any _ _ w) (isFrom1To_any _ _ w) (isFrom1To_any _ _ w)
end Go.Proofs.YtfcbjcebkahehaaGreatDoor
namespace Go.Proofs.YtfcbjcebkahehaaGreatDoor
open Go.RowKit
theorem mark_body (l : List UInt8) (m : MarkP) (h : m.may) : l ++ byL 8 m.inst ++ byL 8 m.seq ++ byL 8 m.water ++ m.sys.body = l ++ m.body := by
  obtain ⟨h1, h2, h3, _⟩ := h
  unfold MarkP.body
  rw [byL_nbL 8 m.inst (by omega) (by simp; omega), byL_nbL 8 m.seq (by omega) (by simp; omega), byL_nbL 8 m.water (by omega) (by simp; omega)]
  simp only [List.append_assoc]
theorem may_iff (m : MarkP) : m.may ↔ (numsB m.inst m.seq m.water = true ∧ m.sys.may) := by
  unfold MarkP.may
  rw [numsB_iff]
  constructor
  · rintro ⟨a, b, c, d⟩; exact ⟨⟨a, b, c⟩, d⟩
  · rintro ⟨⟨a, b, c⟩, d⟩; exact ⟨a, b, c, d⟩
set_option maxRecDepth 4000 in
set_option maxHeartbeats 2000000 in
theorem mlay_any (b p : Nat) (m : MarkP) (oa : Option Addr) (cap : Nat) (M : Int) (P : Prop) (l : List UInt8) (w : World) (h : WrP w p M P l) (hM0 : 0 ≤ M) (hM1 : M ≤ 2147483647) (hb : b < p)
    (c0 : w.cell? ⟨b, 0, none⟩ = some (.int .i64 m.sys.stamp)) (c1 : w.cell? ⟨b, 1, none⟩ = some (.string ⟨m.sys.machine.toArray⟩)) (c2 : w.cell? ⟨b, 2, none⟩ = some (.int .i64 m.sys.user)) (c3 : w.cell? ⟨b, 3, none⟩ = some (.int .i64 m.sys.group))
    (c4 : w.cell? ⟨b, 4, none⟩ = some (.slice oa m.sys.groups.length cap)) (c5 : w.cell? ⟨b, 5, none⟩ = some (.int .i64 m.inst)) (c6 : w.cell? ⟨b, 6, none⟩ = some (.int .i64 m.seq)) (c7 : w.cell? ⟨b, 7, none⟩ = some (.int .i64 m.water))
    (hg : GsAt w p oa m.sys.groups) (hcap : m.sys.groups.length ≤ cap) (hlen : (m.sys.groups.length : Int) ≤ 9223372036854775807) (hr : P → (l.length : Int) + 364 ≤ M) :
    Calls Tryz.prog 137 #[.pointer (some ⟨b, 0, none⟩), .pointer (some ⟨p, 0, none⟩)] w (WPost p M (P ∧ m.may) (l ++ m.body) w) := by
  have HF0 : Hid (∀ w4, WrP w4 p M ((P ∧ numsB m.inst m.seq m.water = true) ∧ m.sys.may) (l ++ byL 8 m.inst ++ byL 8 m.seq ++ byL 8 m.water ++ m.sys.body) → WrP w4 p M (P ∧ m.may) (l ++ m.body)) := fun w4 h4 =>
    h4.iff (by rw [may_iff]; exact ⟨fun x => ⟨⟨x.1, x.2.1⟩, x.2.2⟩, fun x => ⟨x.1.1, x.1.2, x.2⟩⟩) (fun x => mark_body l m ((may_iff m).2 ⟨x.1.2, x.2⟩))
  obtain ⟨i, q, u, s⟩ := m
  simp only at c0 c1 c2 c3 c4 c5 c6 c7 hg hcap hlen HF0
  have K : Hid (∀ w1 : World, Below p w w1 → ∀ o, w1.cell? ⟨b, o, none⟩ = w.cell? ⟨b, o, none⟩) := fun w1 hB o => (cells_of_block (hB.block b hb) o).1
  have HL : Hid (∀ w3 l3, Below p w w3 → WrP w3 p M (P ∧ numsB i q u = true) l3 → ((P ∧ numsB i q u = true) → (l3.length : Int) + 340 ≤ M) → Calls Tryz.prog 112 #[.pointer (some ⟨b, 0, none⟩), .pointer (some ⟨p, 0, none⟩)] w3 (WPost p M ((P ∧ numsB i q u = true) ∧ s.may) (l3 ++ s.body) w3)) := fun w3 l3 hB h3 hr3 =>
    layWho_any b p s oa cap M _ l3 w3 h3 hM0 hM1 hb ((K.out w3 hB 0).trans c0) ((K.out w3 hB 1).trans c1) ((K.out w3 hB 2).trans c2) ((K.out w3 hB 3).trans c3) ((K.out w3 hB 4).trans c4) (hg.below hB) hcap hlen hr3
  have HR : Hid ((P ∧ numsB i q u = true) → (l.length : Int) + 364 ≤ M) := fun x => hr x.1
  have HM : Hid (0 ≤ M ∧ M ≤ 2147483647) := ⟨hM0, hM1⟩
  have HNU := hid (nums_any b i q u w c5 c6 c7)
  have HFA : Hid (Calls Tryz.prog 115 #[.pointer (some ⟨p, 0, none⟩), .int .i64 110] w (WPost p M (P ∧ False) l w)) := w_fail p M 110 P l w h (by decide)
  have HWW := hid h
  have HF := HF0
  clear HF0 h hg hr c0 c1 c2 c3 c4 hM0 hM1 hcap hlen
  cases hnb : numsB i q u
  · rw [hnb] at HNU
    have HNB := hid hnb
    go_enter Tryz.func137, Tryz.ntmps137
    go_wp2_with fail
    refine HNU.out.mono ?_
    rintro e w9 ⟨rfl, hw⟩
    rw [hw]
    clear hw
    go_wp2_with fail
    refine HFA.out.mono ?_
    rintro e W0 ⟨rfl, hw0, hB0⟩
    have HB0 : Hid (Below p w W0) := hB0
    have HW0 : Hid (WrP W0 p M (P ∧ numsB i q u = true) l) := hw0.iff (by rw [HNB.out]; simp) (fun _ => rfl)
    have c5 := (K.out W0 hB0 5).trans c5
    generalize hP0 : (P ∧ numsB i q u = true) = P0 at HL HF HR HW0
    clear hP0 hB0 hw0 hnb HNB
    have S1 : Hid (Calls Tryz.prog 168 #[.pointer (some ⟨p, 0, none⟩), .int .i64 i] W0 (WPost p M P0 (l ++ byL 8 i) W0)) := w_hyper p i M P0 l W0 HW0.out HM.out.1 HM.out.2 (fun x => by have := HR.out x; omega)
    go_wp2_with fail
    refine S1.out.mono ?_
    rintro e w1 ⟨rfl, hw1, hB1⟩
    have HB1 : Hid (Below p w w1) := HB0.out.trans hB1
    have d6 := (K.out w1 HB1.out 6).trans c6
    have d7 := (K.out w1 HB1.out 7).trans c7
    have S2 : Hid (Calls Tryz.prog 168 #[.pointer (some ⟨p, 0, none⟩), .int .i64 q] w1 (WPost p M P0 (l ++ byL 8 i ++ byL 8 q) w1)) := w_hyper p q M P0 _ w1 hw1 HM.out.1 HM.out.2 (fun x => by have := HR.out x; rw [List.length_append, byL_len]; omega)
    clear hB1 hw1 S1
    go_wp2_with fail
    refine S2.out.mono ?_
    rintro e w2 ⟨rfl, hw2, hB2⟩
    have HB2 : Hid (Below p w w2) := HB1.out.trans hB2
    have e7 := (K.out w2 HB2.out 7).trans c7
    have S3 : Hid (Calls Tryz.prog 168 #[.pointer (some ⟨p, 0, none⟩), .int .i64 u] w2 (WPost p M P0 (l ++ byL 8 i ++ byL 8 q ++ byL 8 u) w2)) := w_hyper p u M P0 _ w2 hw2 HM.out.1 HM.out.2 (fun x => by have := HR.out x; simp only [List.length_append, byL_len]; omega)
    clear hB2 hw2 S2 d6 d7
    go_wp2_with fail
    refine S3.out.mono ?_
    rintro e w3 ⟨rfl, hw3, hB3⟩
    have HB3 : Hid (Below p w w3) := HB2.out.trans hB3
    have S4 : Hid (Calls Tryz.prog 112 #[.pointer (some ⟨b, 0, none⟩), .pointer (some ⟨p, 0, none⟩)] w3 (WPost p M (P0 ∧ s.may) (l ++ byL 8 i ++ byL 8 q ++ byL 8 u ++ s.body) w3)) := HL.out w3 _ HB3.out hw3 (fun x => by have := HR.out x; simp only [List.length_append, byL_len]; omega)
    clear hB3 hw3 S3 e7
    go_wp2_with fail
    refine S4.out.mono ?_
    rintro e w4 ⟨rfl, hw4, hB4⟩
    have HB4 : Hid (Below p w w4) := HB3.out.trans hB4
    have HW4 := hid hw4
    clear hB4 hw4 S4
    go_wp2
    first | go_end0 | refine bodyPost_ret (results_none rfl _ _ _) rfl ?_
    exact ⟨rfl, HF.out _ HW4.out, HB4.out⟩
  · rw [hnb] at HNU
    obtain ⟨W0, hW0⟩ : ∃ x, x = w := ⟨_, rfl⟩
    have HB0 : Hid (Below p w W0) := by rw [hW0]; exact Below.refl _ _
    have HW0 : Hid (WrP W0 p M (P ∧ numsB i q u = true) l) := by rw [hW0]; exact HWW.out.iff ⟨fun x => x.1, fun x => ⟨x, hnb⟩⟩ (fun _ => rfl)
    have HE0 := hid hW0
    generalize hP0 : (P ∧ numsB i q u = true) = P0 at HL HF HR HW0
    clear hP0 hnb hW0
    go_enter Tryz.func137, Tryz.ntmps137
    go_wp2_with fail
    refine HNU.out.mono ?_
    rintro e w9 ⟨rfl, hw⟩
    rw [hw]
    clear hw
    rw [← HE0.out]
    have c5 := (K.out W0 HB0.out 5).trans c5
    have S1 : Hid (Calls Tryz.prog 168 #[.pointer (some ⟨p, 0, none⟩), .int .i64 i] W0 (WPost p M P0 (l ++ byL 8 i) W0)) := w_hyper p i M P0 l W0 HW0.out HM.out.1 HM.out.2 (fun x => by have := HR.out x; omega)
    go_wp2_with fail
    refine S1.out.mono ?_
    rintro e w1 ⟨rfl, hw1, hB1⟩
    have HB1 : Hid (Below p w w1) := HB0.out.trans hB1
    have d6 := (K.out w1 HB1.out 6).trans c6
    have d7 := (K.out w1 HB1.out 7).trans c7
    have S2 : Hid (Calls Tryz.prog 168 #[.pointer (some ⟨p, 0, none⟩), .int .i64 q] w1 (WPost p M P0 (l ++ byL 8 i ++ byL 8 q) w1)) := w_hyper p q M P0 _ w1 hw1 HM.out.1 HM.out.2 (fun x => by have := HR.out x; rw [List.length_append, byL_len]; omega)
    clear hB1 hw1 S1
    go_wp2_with fail
    refine S2.out.mono ?_
    rintro e w2 ⟨rfl, hw2, hB2⟩
    have HB2 : Hid (Below p w w2) := HB1.out.trans hB2
    have e7 := (K.out w2 HB2.out 7).trans c7
    have S3 : Hid (Calls Tryz.prog 168 #[.pointer (some ⟨p, 0, none⟩), .int .i64 u] w2 (WPost p M P0 (l ++ byL 8 i ++ byL 8 q ++ byL 8 u) w2)) := w_hyper p u M P0 _ w2 hw2 HM.out.1 HM.out.2 (fun x => by have := HR.out x; simp only [List.length_append, byL_len]; omega)
    clear hB2 hw2 S2 d6 d7
    go_wp2_with fail
    refine S3.out.mono ?_
    rintro e w3 ⟨rfl, hw3, hB3⟩
    have HB3 : Hid (Below p w w3) := HB2.out.trans hB3
    have S4 : Hid (Calls Tryz.prog 112 #[.pointer (some ⟨b, 0, none⟩), .pointer (some ⟨p, 0, none⟩)] w3 (WPost p M (P0 ∧ s.may) (l ++ byL 8 i ++ byL 8 q ++ byL 8 u ++ s.body) w3)) := HL.out w3 _ HB3.out hw3 (fun x => by have := HR.out x; simp only [List.length_append, byL_len]; omega)
    clear hB3 hw3 S3 e7
    go_wp2_with fail
    refine S4.out.mono ?_
    rintro e w4 ⟨rfl, hw4, hB4⟩
    have HB4 : Hid (Below p w w4) := HB3.out.trans hB4
    have HW4 := hid hw4
    clear hB4 hw4 S4
    go_wp2
    first | go_end0 | refine bodyPost_ret (results_none rfl _ _ _) rfl ?_
    exact ⟨rfl, HF.out _ HW4.out, HB4.out⟩
end Go.Proofs.YtfcbjcebkahehaaGreatDoor
