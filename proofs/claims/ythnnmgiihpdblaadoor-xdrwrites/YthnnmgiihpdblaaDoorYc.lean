/- One call of both Writers: Fixed, and what is no kind of a call. -/
import Derived.Test.YthnnmgiihpdblaaDoorYb
namespace Go.Proofs.YthnnmgiihpdblaaDoor
open Go.RowKit

set_option maxRecDepth 4000 in
set_option maxHeartbeats 8000000 in
theorem writes_fixed (m : Int) (p q c : Nat) (v : Value) (M E N MM : Int) (o : Bool) (S s : ByteArray) (a b : Nat) (w : World) (r : ByteArray × Int) (h : WW w p q v M S E)
    (hsz : ∀ w1, Calls Tryd.prog 77 #[opcV 7 N MM o s a b] w1 fun e w' => e = .returned (.int .i64 m) ∧ Below w1.heap.size w1 w')
    (hP : ∀ w1, PW w1 p v M (Lib.strCells S) E → Calls Tryd.prog 57 #[.pointer (some ⟨p, 0, none⟩), .int .i64 m, .string s] w1 (PWrote p v M r w1))
    (hR : ∀ w1, RW w1 q S M E → Calls Tryd.prog 78 #[.pointer (some ⟨q, 0, none⟩), .int .i64 m, .string s] w1 fun e w' => Wrote q M r w1 e w') (hr : r.1.size ≤ S.size + c) :
    Calls Tryd.prog 40 #[.pointer (some ⟨p, 0, none⟩), .pointer (some ⟨q, 0, none⟩), opcV 7 N MM o s a b] w (WPost p q v M S c w) := by
  have hB : Below w.heap.size w (w.alloc (.cells #[.int .i64 7, .int .i64 N, .int .i64 MM, .bool o, .string s, .int .u32 a, .int .u64 b] 63)) := (Below.refl _ _).alloc (Nat.le_refl _) _
  have hlt1 := h.pw.lt
  have hlt2 := h.rw.lt
  have hW := h.below hB
  have H0 : Hid (∀ w1, Below (w.alloc (.cells #[.int .i64 7, .int .i64 N, .int .i64 MM, .bool o, .string s, .int .u32 a, .int .u64 b] 63)).heap.size (w.alloc (.cells #[.int .i64 7, .int .i64 N, .int .i64 MM, .bool o, .string s, .int .u32 a, .int .u64 b] 63)) w1 → Calls Tryd.prog 77 #[.agg #[.int .i64 7, .int .i64 N, .int .i64 MM, .bool o, .string s, .int .u32 a, .int .u64 b]] w1 fun e w' => e = .returned (.int .i64 m) ∧ Below (w.alloc (.cells #[.int .i64 7, .int .i64 N, .int .i64 MM, .bool o, .string s, .int .u32 a, .int .u64 b] 63)).heap.size (w.alloc (.cells #[.int .i64 7, .int .i64 N, .int .i64 MM, .bool o, .string s, .int .u32 a, .int .u64 b] 63)) w' ∧ w'.cell? ⟨w.heap.size, 4, none⟩ = some (.string s)) := fun w1 h1 =>
    (hsz w1).mono fun e w' hp => ⟨hp.1, h1.trans (hp.2.mono h1.size), by rw [(cells_of_block ((h1.trans (hp.2.mono h1.size)).block w.heap.size (by simp)) 4).1]; simp⟩
  have H1 : Hid (∀ w1, Below (w.alloc (.cells #[.int .i64 7, .int .i64 N, .int .i64 MM, .bool o, .string s, .int .u32 a, .int .u64 b] 63)).heap.size (w.alloc (.cells #[.int .i64 7, .int .i64 N, .int .i64 MM, .bool o, .string s, .int .u32 a, .int .u64 b] 63)) w1 → Calls Tryd.prog 57 #[.pointer (some ⟨p, 0, none⟩), .int .i64 m, .string s] w1 fun e w' => e = .returned (.tuple #[]) ∧ ∃ v', WB (w.alloc (.cells #[.int .i64 7, .int .i64 N, .int .i64 MM, .bool o, .string s, .int .u32 a, .int .u64 b] 63)) w' p q v v' M S r.1 E r.2) := fun w1 h1 =>
    (hP w1 (hW.below h1).pw).mono fun e w' hp => by
      obtain ⟨he, v', hb⟩ := (hW.below h1).first hp
      exact ⟨he, v', ⟨hb.pw, hb.rw, hb.pq, hb.qv, KB.behind h1 hb.kb⟩⟩
  have HC : Hid (∀ v' w1, WB (w.alloc (.cells #[.int .i64 7, .int .i64 N, .int .i64 MM, .bool o, .string s, .int .u32 a, .int .u64 b] 63)) w1 p q v v' M S r.1 E r.2 → ∀ j, w1.cell? ⟨w.heap.size, j, none⟩ = (w.alloc (.cells #[.int .i64 7, .int .i64 N, .int .i64 MM, .bool o, .string s, .int .u32 a, .int .u64 b] 63)).cell? ⟨w.heap.size, j, none⟩) := fun v' w1 hb j =>
    (cells_of_block (hb.kb.block w.heap.size (by simp) (by omega) (by omega) (fun e => by have := (h.pw.own.lt _ e.symm).2; omega)) j).1
  have H2 : Hid (∀ v' w1, WB (w.alloc (.cells #[.int .i64 7, .int .i64 N, .int .i64 MM, .bool o, .string s, .int .u32 a, .int .u64 b] 63)) w1 p q v v' M S r.1 E r.2 → Calls Tryd.prog 77 #[.agg #[.int .i64 7, .int .i64 N, .int .i64 MM, .bool o, .string s, .int .u32 a, .int .u64 b]] w1 fun e w' => e = .returned (.int .i64 m) ∧ WB (w.alloc (.cells #[.int .i64 7, .int .i64 N, .int .i64 MM, .bool o, .string s, .int .u32 a, .int .u64 b] 63)) w' p q v v' M S r.1 E r.2 ∧ w'.cell? ⟨w.heap.size, 4, none⟩ = some (.string s)) := fun v' w1 hb =>
    (hsz w1).mono fun e w' hp => ⟨hp.1, hb.below hp.2, by rw [HC.out v' w' (hb.below hp.2) 4]; simp⟩
  have H3 : Hid (∀ v' w1, WB (w.alloc (.cells #[.int .i64 7, .int .i64 N, .int .i64 MM, .bool o, .string s, .int .u32 a, .int .u64 b] 63)) w1 p q v v' M S r.1 E r.2 → Calls Tryd.prog 78 #[.pointer (some ⟨q, 0, none⟩), .int .i64 m, .string s] w1 fun e w' => WPost p q v M S c w e w') := fun v' w1 hb =>
    (hR w1 hb.rw).mono fun e w' hp => ⟨(hb.second hp).1, v', r.1, r.2, (hb.second hp).2.1, KB.behind hB (hb.second hp).2.2, hr⟩
  clear h hP hR hr hB hlt1 hlt2 hW hsz
  unfold opcV
  go_enter Tryd.func40, Tryd.ntmps40
  go_wp2_with fail
  go_region_with (first
    | (go_at_call 77; refine (H0.out _ (by first | exact Below.refl _ _ | exact below_drewN (Below.refl _ _) _)).mono ?_; rintro e w1 ⟨rfl, hb1, hc1⟩; have HB1 : Hid (Below (w.alloc (.cells #[.int .i64 7, .int .i64 N, .int .i64 MM, .bool o, .string s, .int .u32 a, .int .u64 b] 63)).heap.size (w.alloc (.cells #[.int .i64 7, .int .i64 N, .int .i64 MM, .bool o, .string s, .int .u32 a, .int .u64 b] 63)) w1) := hb1; clear hb1)
    | (go_at_call 57; refine (H1.out _ (Hid.out (by assumption))).mono ?_; rintro e w2 ⟨rfl, v2, hb2⟩; have HB2 : Hid (WB (w.alloc (.cells #[.int .i64 7, .int .i64 N, .int .i64 MM, .bool o, .string s, .int .u32 a, .int .u64 b] 63)) w2 p q v v2 M S r.1 E r.2) := hb2; clear hb2))
  all_goals (
    have hd0 : w2.cell? ⟨w.heap.size, 0, none⟩ = some (.int .i64 7) := by rw [HC.out _ _ HB2.out 0]; simp
    have hd1 : w2.cell? ⟨w.heap.size, 1, none⟩ = some (.int .i64 N) := by rw [HC.out _ _ HB2.out 1]; simp
    have hd2 : w2.cell? ⟨w.heap.size, 2, none⟩ = some (.int .i64 MM) := by rw [HC.out _ _ HB2.out 2]; simp
    have hd3 : w2.cell? ⟨w.heap.size, 3, none⟩ = some (.bool o) := by rw [HC.out _ _ HB2.out 3]; simp
    have hd4 : w2.cell? ⟨w.heap.size, 4, none⟩ = some (.string s) := by rw [HC.out _ _ HB2.out 4]; simp
    have hd5 : w2.cell? ⟨w.heap.size, 5, none⟩ = some (.int .u32 a) := by rw [HC.out _ _ HB2.out 5]; simp
    have hd6 : w2.cell? ⟨w.heap.size, 6, none⟩ = some (.int .u64 b) := by rw [HC.out _ _ HB2.out 6]; simp
    go_wp2_with fail
    go_region_with (first
      | (go_at_call 77; refine (H2.out _ _ (by first | exact HB2.out | exact HB2.out.below (below_drewN (Below.refl _ _) _))).mono ?_; rintro e w3 ⟨rfl, hb3, hc3⟩; have HB3 : Hid (WB (w.alloc (.cells #[.int .i64 7, .int .i64 N, .int .i64 MM, .bool o, .string s, .int .u32 a, .int .u64 b] 63)) w3 p q v v2 M S r.1 E r.2) := hb3; clear hb3)
      | (go_at_call 78; refine (H3.out _ _ HB3.out).mono ?_; intro e w4 hp; have he : e = .returned (.tuple #[]) := hp.1; subst he; have HP : Hid (WPost p q v M S c w (.returned (.tuple #[])) w4) := hp; clear hp))
    all_goals (
      go_wp2
      first | go_end0 | refine bodyPost_ret (results_none rfl _ _ _) rfl ?_
      exact HP.out))

set_option maxRecDepth 4000 in
set_option maxHeartbeats 4000000 in
theorem writes_none (p q : Nat) (K N MM : Int) (o : Bool) (s : ByteArray) (a b : Nat) (w : World) (h1 : (K == 1) = false) (h2 : (K == 2) = false) (h3 : (K == 3) = false) (h4 : (K == 4) = false) (h5 : (K == 5) = false) (h6 : (K == 6) = false) (h7 : (K == 7) = false) (h8 : (K == 8) = false) (h9 : (K == 9) = false) (h10 : (K == 10) = false) (h11 : (K == 11) = false) :
    Calls Tryd.prog 40 #[.pointer (some ⟨p, 0, none⟩), .pointer (some ⟨q, 0, none⟩), opcV K N MM o s a b] w fun e w' => e = .returned (.tuple #[]) ∧ Below w.heap.size w w' := by
  unfold opcV
  go_enter Tryd.func40, Tryd.ntmps40
  go_wp2
  first | go_end0 | refine bodyPost_ret (results_none rfl _ _ _) rfl ?_
  exact ⟨rfl, (Below.refl _ _).alloc (Nat.le_refl _) _⟩

end Go.Proofs.YthnnmgiihpdblaaDoor
