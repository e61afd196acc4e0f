/- The program lays down who somebody says to be. Blocks as they are; a body that was laid down as a credential. -/
import Derived.Test.YtfcbjcebkahehaaGreatDoorZai
import Derived.Deep.RegionHeld3
import Derived.Lib.MinMax
namespace Go.Proofs.YtfcbjcebkahehaaGreatDoor
open Go.RowKit
/-- numbers that can be read at a slice's address, all of them in blocks below p -/
def GsAt (w : World) (p : Nat) (oa : Option Addr) (gs : List Int) : Prop :=
  0 < gs.length → ∃ q off, oa = some ⟨q, off, none⟩ ∧ q < p ∧ ∀ i, i < gs.length → w.cell? ⟨q, off + i, none⟩ = some (.int .i64 (gs.getD i 0))
theorem GsAt.below {w w' : World} {p : Nat} {oa : Option Addr} {gs : List Int} (h : GsAt w p oa gs) (hB : Below p w w') : GsAt w' p oa gs := fun h0 => by
  obtain ⟨q, off, h1, h2, h3⟩ := h h0
  exact ⟨q, off, h1, h2, fun i hi => (cells_of_block (hB.block q h2) _).1.trans (h3 i hi)⟩
theorem layGs_take (gs : List Int) (k : Nat) (h : k < gs.length) : layGs (gs.take (k + 1)) = layGs (gs.take k) ++ nbL 4 (gs.getD k 0).toNat := by
  induction gs generalizing k with
  | nil => simp at h
  | cons g gs ih =>
    cases k with
    | zero => simp [layGs]
    | succ k =>
      simp only [List.take_succ_cons, layGs, List.append_assoc]
      rw [ih k (by simpa using h)]
      simp
theorem all_take (gs : List Int) (k : Nat) (h : k < gs.length) : (∀ g ∈ gs.take (k + 1), isW g) ↔ ((∀ g ∈ gs.take k, isW g) ∧ isW (gs.getD k 0)) := by
  rw [List.take_add_one, List.getElem?_eq_getElem h]
  simp only [List.mem_append, Option.toList_some, List.mem_singleton]
  have e : gs.getD k 0 = gs[k] := by rw [List.getD_eq_getElem?_getD, List.getElem?_eq_getElem h]; rfl
  rw [e]
  constructor
  · exact fun H => ⟨fun g hg => H g (.inl hg), H _ (.inr rfl)⟩
  · rintro ⟨H1, H2⟩ g (hg | rfl)
    · exact H1 g hg
    · exact H2
set_option maxRecDepth 4000 in
set_option maxHeartbeats 2000000 in
theorem layWho_any (b p : Nat) (s : SysP) (oa : Option Addr) (cap : Nat) (M : Int) (P : Prop) (l : List UInt8) (w : World) (h : WrP w p M P l) (hM0 : 0 ≤ M) (hM1 : M ≤ 2147483647) (hb : b < p)
    (c0 : w.cell? ⟨b, 0, none⟩ = some (.int .i64 s.stamp)) (c1 : w.cell? ⟨b, 1, none⟩ = some (.string ⟨s.machine.toArray⟩)) (c2 : w.cell? ⟨b, 2, none⟩ = some (.int .i64 s.user)) (c3 : w.cell? ⟨b, 3, none⟩ = some (.int .i64 s.group))
    (c4 : w.cell? ⟨b, 4, none⟩ = some (.slice oa s.groups.length cap)) (hg : GsAt w p oa s.groups) (hcap : s.groups.length ≤ cap) (hlen : (s.groups.length : Int) ≤ 9223372036854775807) (hr : P → (l.length : Int) + 340 ≤ M) :
    Calls Tryz.prog 112 #[.pointer (some ⟨b, 0, none⟩), .pointer (some ⟨p, 0, none⟩)] w (WPost p M (P ∧ s.may) (l ++ s.body) w) := by
  obtain ⟨stamp, machine, user, group, gs⟩ := s
  obtain ⟨n, hn⟩ : ∃ n, gs.length = n := ⟨_, rfl⟩
  have HN : Hid (gs.length = n) := hn
  have HR : Hid (P → (l.length : Int) + 340 ≤ M) := hr
  have HM : Hid (0 ≤ M ∧ M ≤ 2147483647) := ⟨hM0, hM1⟩
  simp only [hn] at c0 c1 c2 c3 c4 hcap hlen
  have HW0 : Hid (WrP w p M P l) := h
  have HG0 : Hid (GsAt w p oa gs) := hg
  have K : Hid (∀ w1 : World, Below p w w1 → ∀ o, w1.cell? ⟨b, o, none⟩ = w.cell? ⟨b, o, none⟩) := fun w1 hB o => (cells_of_block (hB.block b hb) o).1
  have S1 : Hid (Calls Tryz.prog 116 #[.pointer (some ⟨p, 0, none⟩), .int .i64 stamp] w (WPost p M (P ∧ isW stamp) (l ++ nbL 4 stamp.toNat) w)) := w_uint p stamp M P l w h hM0 hM1 (fun q => by have := hr q; omega)
  clear h hg hr hM0 hM1 hn
  go_enter Tryz.func112, Tryz.ntmps112
  go_wp2_with fail
  refine S1.out.mono ?_
  rintro e w1 ⟨rfl, hw1, hB1⟩
  have HB1 : Hid (Below p w w1) := hB1
  have d1 := (K.out w1 hB1 1).trans c1
  have d2 := (K.out w1 hB1 2).trans c2
  have d3 := (K.out w1 hB1 3).trans c3
  have d4 := (K.out w1 hB1 4).trans c4
  have S2 : Hid (Calls Tryz.prog 122 #[.pointer (some ⟨p, 0, none⟩), .int .i64 255, .string ⟨machine.toArray⟩] w1 (WPost p M ((P ∧ isW stamp) ∧ (machine.length : Int) ≤ 255) (l ++ nbL 4 stamp.toNat ++ (nbL 4 machine.length ++ (machine ++ padB machine.length))) w1)) :=
    w_opaque p 255 M machine _ _ w1 hw1 HM.out.1 HM.out.2 (by decide) (by decide) (fun q q2 => by have := HR.out q.1; rw [List.length_append, nbL_len]; unfold pads; omega)
  clear hB1 hw1 c0 c1 c2 c3 c4 S1
  go_wp2_with fail
  refine S2.out.mono ?_
  rintro e w2 ⟨rfl, hw2, hB2⟩
  have HB2 : Hid (Below p w w2) := HB1.out.trans hB2
  have d2 := (cells_of_block (hB2.block b hb) 2).1.trans d2
  have d3 := (cells_of_block (hB2.block b hb) 3).1.trans d3
  have d4 := (cells_of_block (hB2.block b hb) 4).1.trans d4
  obtain ⟨l2, hl2⟩ : ∃ x, l ++ nbL 4 stamp.toNat ++ (nbL 4 machine.length ++ (machine ++ padB machine.length)) = x := ⟨_, rfl⟩
  have HL2 : Hid ((machine.length : Int) ≤ 255 → (l2.length : Int) ≤ l.length + 264) := fun q => by
    rw [← hl2]; simp only [List.length_append, nbL_len, padB_len]; unfold pads; omega
  have HE2 : Hid (l2 = l ++ nbL 4 stamp.toNat ++ (nbL 4 machine.length ++ (machine ++ padB machine.length))) := hl2.symm
  rw [hl2] at hw2
  have S3 : Hid (Calls Tryz.prog 116 #[.pointer (some ⟨p, 0, none⟩), .int .i64 user] w2 (WPost p M (((P ∧ isW stamp) ∧ (machine.length : Int) ≤ 255) ∧ isW user) (l2 ++ nbL 4 user.toNat) w2)) :=
    w_uint p user M _ l2 w2 hw2 HM.out.1 HM.out.2 (fun q => by have := HR.out q.1.1; have := HL2.out q.2; omega)
  clear hB2 hw2 d1 hl2 S2
  go_wp2_with fail
  refine S3.out.mono ?_
  rintro e w3 ⟨rfl, hw3, hB3⟩
  have HB3 : Hid (Below p w w3) := HB2.out.trans hB3
  have d3 := (cells_of_block (hB3.block b hb) 3).1.trans d3
  have d4 := (cells_of_block (hB3.block b hb) 4).1.trans d4
  have S4 : Hid (Calls Tryz.prog 116 #[.pointer (some ⟨p, 0, none⟩), .int .i64 group] w3 (WPost p M ((((P ∧ isW stamp) ∧ (machine.length : Int) ≤ 255) ∧ isW user) ∧ isW group) (l2 ++ nbL 4 user.toNat ++ nbL 4 group.toNat) w3)) :=
    w_uint p group M _ _ w3 hw3 HM.out.1 HM.out.2 (fun q => by have := HR.out q.1.1.1; have := HL2.out q.1.2; rw [List.length_append, nbL_len]; omega)
  clear hB3 hw3 d2 S3
  go_wp2_with fail
  refine S4.out.mono ?_
  rintro e w4 ⟨rfl, hw4, hB4⟩
  have HB4 : Hid (Below p w w4) := HB3.out.trans hB4
  have d4 := (cells_of_block (hB4.block b hb) 4).1.trans d4
  obtain ⟨l4, hl4⟩ : ∃ x, l2 ++ nbL 4 user.toNat ++ nbL 4 group.toNat = x := ⟨_, rfl⟩
  have HL4 : Hid ((machine.length : Int) ≤ 255 → (l4.length : Int) ≤ l.length + 272) := fun q => by
    have := HL2.out q
    rw [← hl4]; simp only [List.length_append, nbL_len]; omega
  have HE4 : Hid (l4 = l2 ++ nbL 4 user.toNat ++ nbL 4 group.toNat) := hl4.symm
  rw [hl4] at hw4
  have S5 : Hid (Calls Tryz.prog 120 #[.pointer (some ⟨p, 0, none⟩), .int .i64 16, .int .i64 n] w4 (WPost p M (((((P ∧ isW stamp) ∧ (machine.length : Int) ≤ 255) ∧ isW user) ∧ isW group) ∧ (n : Int) ≤ 16) (l4 ++ nbL 4 n) w4)) :=
    w_count p 16 M n _ l4 w4 hw4 HM.out.1 HM.out.2 (by decide) (by decide) (fun q => by have := HR.out q.1.1.1.1; have := HL4.out q.1.1.2; omega)
  clear hB4 hw4 d3 hl4 S4
  go_wp2_with fail
  refine S5.out.mono ?_
  rintro e w5 ⟨rfl, hw5, hB5⟩
  have HB5 : Hid (Below p w w5) := HB4.out.trans hB5
  have d4 := (cells_of_block (hB5.block b hb) 4).1.trans d4
  obtain ⟨P5, hP5⟩ : ∃ x, (((((P ∧ isW stamp) ∧ (machine.length : Int) ≤ 255) ∧ isW user) ∧ isW group) ∧ (n : Int) ≤ 16) = x := ⟨_, rfl⟩
  have HP5 : Hid (P5 ↔ (((((P ∧ isW stamp) ∧ (machine.length : Int) ≤ 255) ∧ isW user) ∧ isW group) ∧ (n : Int) ≤ 16)) := by rw [hP5]; exact Iff.rfl
  rw [hP5] at hw5
  have HW5 : Hid (WrP w5 p M P5 (l4 ++ nbL 4 n)) := hw5
  clear hB5 hw5 hP5 S5
  obtain ⟨k, hk⟩ : ∃ k : Nat, min n 16 = k := ⟨_, rfl⟩
  have hkn : k ≤ n := by omega
  have hk16 : k ≤ 16 := by omega
  have hki : min (n : Int) 16 = (k : Int) := by omega
  have HK : Hid (min n 16 = k) := hk
  have hkc : k ≤ cap := by omega
  clear hk
  clear HB1 HB2 HB3 HB4 K
  go_wp2_with fail
  go_region
  go_wp2_with fail
  go_loopw [56] (fun ix wr => ∃ j : Nat, ix = .int .i64 j ∧ j ≤ k ∧ Hid (WrP wr p M (P5 ∧ ∀ g ∈ gs.take j, isW g) (l4 ++ nbL 4 n ++ layGs (gs.take j))) ∧ Hid (Below p w wr)) (fun ix _ => 200 - (intOf ix).toNat)
  case atStart =>
    refine ⟨0, rfl, by omega, ?_, ?_⟩
    · exact (show WrP _ p M _ _ from (HW5.out.iff (Q := P5 ∧ ∀ g ∈ gs.take 0, isW g) ⟨fun x => x.1, fun x => ⟨x, fun g hg => by simp at hg⟩⟩ (m := l4 ++ nbL 4 n ++ layGs (gs.take 0)) (fun _ => by simp [layGs])).below (below_drew (Below.refl _ _) _))
    · exact (show Below p w _ from below_drew HB5.out _)
  case round =>
    obtain ⟨j, rfl, hj, HW, HB⟩ := hrel
    by_cases hlt : j < k
    · obtain ⟨q, off, ho, hq, hc⟩ := HG0.out (by have := HN.out; omega)
      have hcell : wr.cell? ⟨q, off + j, none⟩ = some (.int .i64 (gs.getD j 0)) := (cells_of_block (HB.out.block q hq) _).1.trans (hc j (by have := HN.out; omega))
      subst ho
      have S6 : Hid (Calls Tryz.prog 116 #[.pointer (some ⟨p, 0, none⟩), .int .i64 (gs.getD j 0)] wr (WPost p M ((P5 ∧ ∀ g ∈ gs.take j, isW g) ∧ isW (gs.getD j 0)) (l4 ++ nbL 4 n ++ layGs (gs.take j) ++ nbL 4 (gs.getD j 0).toNat) wr)) :=
        w_uint p _ M _ _ wr HW.out HM.out.1 HM.out.2 (fun x => by
          have h5 := HP5.out.1 x.1
          have := HR.out h5.1.1.1.1.1
          have := HL4.out h5.1.1.1.2
          simp only [List.length_append, nbL_len, layGs_len, List.length_take]
          omega)
      have HJ : Hid (j < gs.length) := by have := HN.out; show j < gs.length; omega
      clear hc
      obtain ⟨G, hG⟩ : ∃ G, gs.getD j 0 = G := ⟨_, rfl⟩
      have HGJ : Hid (gs.getD j 0 = G) := hG
      rw [hG] at hcell S6
      clear hG
      go_wp2_with fail
      refine S6.out.mono ?_
      rintro e w6 ⟨rfl, hw6, hB6⟩
      have HB6 : Hid (Below p w w6) := HB.out.trans hB6
      have HW6 : Hid (WrP w6 p M (P5 ∧ ∀ g ∈ gs.take (j + 1), isW g) (l4 ++ nbL 4 n ++ layGs (gs.take (j + 1)))) := hw6.iff
        ⟨fun x => ⟨⟨x.1, ((all_take gs j HJ.out).1 x.2).1⟩, HGJ.out ▸ ((all_take gs j HJ.out).1 x.2).2⟩, fun x => ⟨x.1.1, (all_take gs j HJ.out).2 ⟨x.1.2, HGJ.out.symm ▸ x.2⟩⟩⟩
        (fun _ => by rw [layGs_take gs j HJ.out, HGJ.out, List.append_assoc (l4 ++ nbL 4 n)])
      clear hw6 hB6 S6
      go_wp2
      go_roundw
      case rel => exact ⟨j + 1, by go_num, by omega, HW6, HB6⟩
      case measure => simp [intOf]; omega
    · obtain rfl : j = k := by omega
      go_wp2
      first | go_end0 | refine bodyPost_ret (results_none rfl _ _ _) rfl ?_
      have hn := HN.out
      have hk := HK.out
      refine ⟨rfl, HW.out.iff ?_ ?_, HB.out⟩
      · unfold SysP.may
        rw [HP5.out]
        constructor
        · rintro ⟨x0, x1, x2, x3, x4, x5, x6⟩
          exact ⟨⟨⟨⟨⟨⟨x0, x1⟩, Int.ofNat_le.2 x4⟩, x2⟩, x3⟩, by simp only at x5; omega⟩, fun g hg => x6 g (List.mem_of_mem_take hg)⟩
        · rintro ⟨⟨⟨⟨⟨⟨x0, x1⟩, x4⟩, x2⟩, x3⟩, x5⟩, x6⟩
          refine ⟨x0, x1, x2, x3, Int.ofNat_le.1 x4, by simp only; omega, fun g hg => x6 g ?_⟩
          rw [List.take_of_length_le (by omega)]
          exact hg
      · intro x
        have h5 := (HP5.out.1 x.1).2
        rw [List.take_of_length_le (by omega), HE4.out, HE2.out]
        unfold SysP.body
        simp only [List.append_assoc, hn]
end Go.Proofs.YtfcbjcebkahehaaGreatDoor
namespace Go.Proofs.YtfcbjcebkahehaaGreatDoor
open Go.RowKit
/-- a block whole -/
def Bk (w : World) (b : Nat) (cs : List Value) (t : TypeId) : Prop := w.heap[b]? = some (.cells cs.toArray t)
theorem Bk.cell {w : World} {b : Nat} {cs : List Value} {t : TypeId} (h : Bk w b cs t) (i : Nat) {v : Value} (hv : cs[i]? = some v) : w.cell? ⟨b, i, none⟩ = some v := by
  unfold Bk at h
  simp [World.cell?, h, hv]
theorem Bk.frozen {w : World} {b : Nat} {cs : List Value} {t : TypeId} (h : Bk w b cs t) (i : Nat) : w.frozen? ⟨b, i, none⟩ = false := by
  unfold Bk at h
  simp [World.frozen?, h]
theorem Bk.lt {w : World} {b : Nat} {cs : List Value} {t : TypeId} (h : Bk w b cs t) : b < w.heap.size := by
  rcases Nat.lt_or_ge b w.heap.size with h1 | h1
  · exact h1
  · unfold Bk at h
    rw [Array.getElem?_eq_none h1] at h
    cases h
theorem Bk.set {w : World} {b : Nat} {cs : List Value} {t : TypeId} (h : Bk w b cs t) (i : Nat) (v : Value) : Bk (w.setCell ⟨b, i, none⟩ v) b (cs.set i v) t := by
  unfold Bk at h ⊢
  simp [World.setCell, Array.getElem?_modify, h]
theorem Bk.set_ne {w : World} {b b' : Nat} {cs : List Value} {t : TypeId} (h : Bk w b cs t) (hb : b ≠ b') (i : Nat) (v : Value) : Bk (w.setCell ⟨b', i, none⟩ v) b cs t :=
  (Below.heap_setCell w _ v b hb).trans h
theorem Bk.new (w : World) (cs : List Value) (t : TypeId) : Bk (w.alloc (.cells cs.toArray t)) w.heap.size cs t := by
  show (w.heap.push _)[w.heap.size]? = _
  simp
theorem Bk.below {w w' : World} {b B : Nat} {cs : List Value} {t : TypeId} (h : Bk w b cs t) (hB : Below B w w') (hb : b < B) : Bk w' b cs t := (hB.block b hb).trans h
theorem below_new (w : World) (o : Obj) : Below w.heap.size w (w.alloc o) := (Below.refl _ _).alloc (Nat.le_refl _) _
/-- a credential, or that a field may not be -/
def prV (f : Int) : Option (List UInt8) → Value
  | some l => .tuple #[.agg #[.int .i64 f, .string ⟨l.toArray⟩], .int .i64 0]
  | none => .tuple #[.agg #[.int .i64 0, .string ⟨#[]⟩], .int .i64 110]
set_option maxRecDepth 4000 in
theorem authOf_ok (p : Nat) (f M : Int) (P : Prop) (l : List UInt8) (w : World) (h : WrP w p M P l) (hT : ErrT w) (hP : P) :
    Calls Tryz.prog 113 #[.int .i64 f, .pointer (some ⟨p, 0, none⟩)] w fun e w' => e = .returned (prV f (some l)) ∧ Below w.heap.size w w' := by
  obtain ⟨wa, hwa⟩ : ∃ wa, w.alloc (.cells #[.int .i64 0, .string ⟨#[]⟩] 44) = wa := ⟨_, rfl⟩
  have hBa : Below w.heap.size w wa := hwa ▸ below_new _ _
  have hz : wa.heap.size = w.heap.size + 1 := by rw [← hwa]; simp
  have H1 : Hid (Calls Tryz.prog 126 #[.pointer (some ⟨p, 0, none⟩)] wa fun e w' => e = .returned (.tuple #[.string ⟨l.toArray⟩, .int .i64 0]) ∧ Below wa.heap.size wa w') := w_done_ok p M P l wa (h.below hBa) (hT.below hBa) hP
  have HR : Hid (Bk wa w.heap.size [.int .i64 0, .string ⟨#[]⟩] 44 ∧ Below w.heap.size w wa ∧ wa.heap.size = w.heap.size + 1) := ⟨hwa ▸ Bk.new _ _ _, hBa, hz⟩
  have HWA : Hid (w.alloc (.cells #[.int .i64 0, .string ⟨#[]⟩] 44) = wa) := hwa
  clear h hT hP hBa hz hwa
  go_enter Tryz.func113, Tryz.ntmps113
  go_wp2_with fail
  rw [HWA.out]
  refine H1.out.mono ?_
  rintro e w1 ⟨rfl, hB⟩
  have hk : Bk w1 w.heap.size _ _ := HR.out.1.below hB (by have := HR.out.2.2; omega)
  have c0 := hk.cell 0 rfl
  have c1 := hk.cell 1 rfl
  have f0 := hk.frozen 0
  have f1 := hk.frozen 1
  have q0 := ((hk.set 0 (.int .i64 f)).set 1 (.string ⟨l.toArray⟩)).cell 0 rfl
  have q1 := ((hk.set 0 (.int .i64 f)).set 1 (.string ⟨l.toArray⟩)).cell 1 rfl
  have HE : Hid (Below w.heap.size w ((w1.setCell ⟨w.heap.size, 0, none⟩ (.int .i64 f)).setCell ⟨w.heap.size, 1, none⟩ (.string ⟨l.toArray⟩))) :=
    (((HR.out.2.1.trans (hB.mono (by have := HR.out.2.2; omega))).setCell (Nat.le_refl _) _).setCell (Nat.le_refl _) _)
  clear hB hk
  go_wp2
  refine bodyPost_ret (v := prV f (some l)) (by unfold prV; simp [results, Tryz.results113, go_sem, q0, q1]) rfl ⟨rfl, HE.out⟩
set_option maxRecDepth 4000 in
theorem authOf_bad (p : Nat) (f M : Int) (P : Prop) (l : List UInt8) (w : World) (h : WrP w p M P l) (hT : ErrT w) (hP : ¬ P) :
    Calls Tryz.prog 113 #[.int .i64 f, .pointer (some ⟨p, 0, none⟩)] w fun e w' => e = .returned (prV f none) ∧ Below w.heap.size w w' := by
  obtain ⟨wa, hwa⟩ : ∃ wa, w.alloc (.cells #[.int .i64 0, .string ⟨#[]⟩] 44) = wa := ⟨_, rfl⟩
  have hBa : Below w.heap.size w wa := hwa ▸ below_new _ _
  have hz : wa.heap.size = w.heap.size + 1 := by rw [← hwa]; simp
  have H1 : Hid (Calls Tryz.prog 126 #[.pointer (some ⟨p, 0, none⟩)] wa fun e w' => (∃ E, E ≠ 0 ∧ e = .returned (.tuple #[.string ⟨#[]⟩, .int .i64 E])) ∧ Below wa.heap.size wa w') := w_done_bad p M P l wa (h.below hBa) (hT.below hBa) hP
  have HR : Hid (Bk wa w.heap.size [.int .i64 0, .string ⟨#[]⟩] 44 ∧ Below w.heap.size w wa ∧ wa.heap.size = w.heap.size + 1) := ⟨hwa ▸ Bk.new _ _ _, hBa, hz⟩
  have HWA : Hid (w.alloc (.cells #[.int .i64 0, .string ⟨#[]⟩] 44) = wa) := hwa
  clear h hT hP hBa hz hwa
  go_enter Tryz.func113, Tryz.ntmps113
  go_wp2_with fail
  rw [HWA.out]
  refine H1.out.mono ?_
  rintro e w1 ⟨⟨E, hE, rfl⟩, hB⟩
  have hk : Bk w1 w.heap.size _ _ := HR.out.1.below hB (by have := HR.out.2.2; omega)
  have c0 := hk.cell 0 rfl
  have c1 := hk.cell 1 rfl
  have f0 := hk.frozen 0
  have f1 := hk.frozen 1
  have q0 := ((hk.set 0 (.int .i64 0)).set 1 (.string ⟨#[]⟩)).cell 0 rfl
  have q1 := ((hk.set 0 (.int .i64 0)).set 1 (.string ⟨#[]⟩)).cell 1 rfl
  have HE : Hid (Below w.heap.size w ((w1.setCell ⟨w.heap.size, 0, none⟩ (.int .i64 0)).setCell ⟨w.heap.size, 1, none⟩ (.string ⟨#[]⟩))) :=
    (((HR.out.2.1.trans (hB.mono (by have := HR.out.2.2; omega))).setCell (Nat.le_refl _) _).setCell (Nat.le_refl _) _)
  have hE2 : (E != 0) = true := bne_iff_ne.2 hE
  have hE3 : ¬ E = 0 := hE
  clear hB hk
  go_wp2
  refine bodyPost_ret (v := prV f none) (by unfold prV; simp [results, Tryz.results113, go_sem, q0, q1]) rfl ⟨rfl, HE.out⟩
theorem authOf_any (p : Nat) (f M : Int) (P : Prop) [Decidable P] (l : List UInt8) (w : World) (h : WrP w p M P l) (hT : ErrT w) :
    Calls Tryz.prog 113 #[.int .i64 f, .pointer (some ⟨p, 0, none⟩)] w fun e w' => e = .returned (prV f (if P then some l else none)) ∧ Below w.heap.size w w' := by
  by_cases hP : P
  · rw [if_pos hP]; exact authOf_ok p f M P l w h hT hP
  · rw [if_neg hP]; exact authOf_bad p f M P l w h hT hP
end Go.Proofs.YtfcbjcebkahehaaGreatDoor
