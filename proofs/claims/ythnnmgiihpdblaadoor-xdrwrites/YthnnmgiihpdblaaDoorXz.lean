/- One call of both Writers: the kinds whose call takes what the script says as it is. -/
import Derived.Test.YthnnmgiihpdblaaDoorXy
namespace Go.Proofs.YthnnmgiihpdblaaDoor
open Go.RowKit

set_option maxRecDepth 4000 in
set_option maxHeartbeats 4000000 in
theorem writes_uint (p q c : Nat) (v : Value) (M E N MM : Int) (o : Bool) (S s : ByteArray) (a b : Nat) (w : World) (r : ByteArray × Int) (h : WW w p q v M S E)
    (hP : ∀ w1, PW w1 p v M (Lib.strCells S) E → Calls Tryd.prog 66 #[.pointer (some ⟨p, 0, none⟩), .int .i64 N] w1 (PWrote p v M r w1))
    (hR : ∀ w1, RW w1 q S M E → Calls Tryd.prog 67 #[.pointer (some ⟨q, 0, none⟩), .int .i64 N] w1 fun e w' => Wrote q M r w1 e w') (hr : r.1.size ≤ S.size + c) :
    Calls Tryd.prog 40 #[.pointer (some ⟨p, 0, none⟩), .pointer (some ⟨q, 0, none⟩), opcV 2 N MM o s a b] w (WPost p q v M S c w) := by
  have hB : Below w.heap.size w (w.alloc (.cells #[.int .i64 2, .int .i64 N, .int .i64 MM, .bool o, .string s, .int .u32 a, .int .u64 b] 63)) := (Below.refl _ _).alloc (Nat.le_refl _) _
  have hlt1 := h.pw.lt
  have hlt2 := h.rw.lt
  have hW := h.below hB
  have H1 : Hid (Calls Tryd.prog 66 #[.pointer (some ⟨p, 0, none⟩), .int .i64 N] (w.alloc (.cells #[.int .i64 2, .int .i64 N, .int .i64 MM, .bool o, .string s, .int .u32 a, .int .u64 b] 63)) fun e w' => e = .returned (.tuple #[]) ∧ ∃ v', WB (w.alloc (.cells #[.int .i64 2, .int .i64 N, .int .i64 MM, .bool o, .string s, .int .u32 a, .int .u64 b] 63)) w' p q v v' M S r.1 E r.2) :=
    (hP _ hW.pw).mono fun e w' hp => hW.first hp
  have H2 : Hid (∀ v' w1, WB (w.alloc (.cells #[.int .i64 2, .int .i64 N, .int .i64 MM, .bool o, .string s, .int .u32 a, .int .u64 b] 63)) w1 p q v v' M S r.1 E r.2 → Calls Tryd.prog 67 #[.pointer (some ⟨q, 0, none⟩), .int .i64 N] w1 fun e w' => WPost p q v M S c w e w') := fun v' w1 hb =>
    (hR w1 hb.rw).mono fun e w' hp => ⟨(hb.second hp).1, v', r.1, r.2, (hb.second hp).2.1, KB.behind hB (hb.second hp).2.2, hr⟩
  have HC : Hid (∀ v' w1, WB (w.alloc (.cells #[.int .i64 2, .int .i64 N, .int .i64 MM, .bool o, .string s, .int .u32 a, .int .u64 b] 63)) w1 p q v v' M S r.1 E r.2 → ∀ j, w1.cell? ⟨w.heap.size, j, none⟩ = (w.alloc (.cells #[.int .i64 2, .int .i64 N, .int .i64 MM, .bool o, .string s, .int .u32 a, .int .u64 b] 63)).cell? ⟨w.heap.size, j, none⟩) := fun v' w1 hb j =>
    (cells_of_block (hb.kb.block w.heap.size (by simp) (by omega) (by omega) (fun e => by have := (h.pw.own.lt _ e.symm).2; omega)) j).1
  clear h hP hR hr hB hlt1 hlt2 hW
  unfold opcV
  go_enter Tryd.func40, Tryd.ntmps40
  go_wp2_with fail
  refine H1.out.mono ?_
  rintro e w1 ⟨rfl, v', hb⟩
  have hc0 : w1.cell? ⟨w.heap.size, 1, none⟩ = some (.int .i64 N) := by rw [(HC.out v' w1 hb 1)]; simp
  have H3 := H2.out v' w1 hb
  have HH : Hid (Calls Tryd.prog 67 #[.pointer (some ⟨q, 0, none⟩), .int .i64 N] w1 fun e w' => WPost p q v M S c w e w') := H3
  clear H3 hb
  go_wp2_with fail
  refine HH.out.mono ?_
  intro e w2 hp
  have he : e = .returned (.tuple #[]) := hp.1
  subst he
  have HP : Hid (WPost p q v M S c w (.returned (.tuple #[])) w2) := hp
  clear hp
  go_wp2
  first | go_end0 | refine bodyPost_ret (results_none rfl _ _ _) rfl ?_
  exact HP.out

set_option maxRecDepth 4000 in
set_option maxHeartbeats 4000000 in
theorem writes_hyper (p q c : Nat) (v : Value) (M E N MM : Int) (o : Bool) (S s : ByteArray) (a b : Nat) (w : World) (r : ByteArray × Int) (h : WW w p q v M S E)
    (hP : ∀ w1, PW w1 p v M (Lib.strCells S) E → Calls Tryd.prog 68 #[.pointer (some ⟨p, 0, none⟩), .int .i64 N] w1 (PWrote p v M r w1))
    (hR : ∀ w1, RW w1 q S M E → Calls Tryd.prog 69 #[.pointer (some ⟨q, 0, none⟩), .int .i64 N] w1 fun e w' => Wrote q M r w1 e w') (hr : r.1.size ≤ S.size + c) :
    Calls Tryd.prog 40 #[.pointer (some ⟨p, 0, none⟩), .pointer (some ⟨q, 0, none⟩), opcV 3 N MM o s a b] w (WPost p q v M S c w) := by
  have hB : Below w.heap.size w (w.alloc (.cells #[.int .i64 3, .int .i64 N, .int .i64 MM, .bool o, .string s, .int .u32 a, .int .u64 b] 63)) := (Below.refl _ _).alloc (Nat.le_refl _) _
  have hlt1 := h.pw.lt
  have hlt2 := h.rw.lt
  have hW := h.below hB
  have H1 : Hid (Calls Tryd.prog 68 #[.pointer (some ⟨p, 0, none⟩), .int .i64 N] (w.alloc (.cells #[.int .i64 3, .int .i64 N, .int .i64 MM, .bool o, .string s, .int .u32 a, .int .u64 b] 63)) fun e w' => e = .returned (.tuple #[]) ∧ ∃ v', WB (w.alloc (.cells #[.int .i64 3, .int .i64 N, .int .i64 MM, .bool o, .string s, .int .u32 a, .int .u64 b] 63)) w' p q v v' M S r.1 E r.2) :=
    (hP _ hW.pw).mono fun e w' hp => hW.first hp
  have H2 : Hid (∀ v' w1, WB (w.alloc (.cells #[.int .i64 3, .int .i64 N, .int .i64 MM, .bool o, .string s, .int .u32 a, .int .u64 b] 63)) w1 p q v v' M S r.1 E r.2 → Calls Tryd.prog 69 #[.pointer (some ⟨q, 0, none⟩), .int .i64 N] w1 fun e w' => WPost p q v M S c w e w') := fun v' w1 hb =>
    (hR w1 hb.rw).mono fun e w' hp => ⟨(hb.second hp).1, v', r.1, r.2, (hb.second hp).2.1, KB.behind hB (hb.second hp).2.2, hr⟩
  have HC : Hid (∀ v' w1, WB (w.alloc (.cells #[.int .i64 3, .int .i64 N, .int .i64 MM, .bool o, .string s, .int .u32 a, .int .u64 b] 63)) w1 p q v v' M S r.1 E r.2 → ∀ j, w1.cell? ⟨w.heap.size, j, none⟩ = (w.alloc (.cells #[.int .i64 3, .int .i64 N, .int .i64 MM, .bool o, .string s, .int .u32 a, .int .u64 b] 63)).cell? ⟨w.heap.size, j, none⟩) := fun v' w1 hb j =>
    (cells_of_block (hb.kb.block w.heap.size (by simp) (by omega) (by omega) (fun e => by have := (h.pw.own.lt _ e.symm).2; omega)) j).1
  clear h hP hR hr hB hlt1 hlt2 hW
  unfold opcV
  go_enter Tryd.func40, Tryd.ntmps40
  go_wp2_with fail
  refine H1.out.mono ?_
  rintro e w1 ⟨rfl, v', hb⟩
  have hc0 : w1.cell? ⟨w.heap.size, 1, none⟩ = some (.int .i64 N) := by rw [(HC.out v' w1 hb 1)]; simp
  have H3 := H2.out v' w1 hb
  have HH : Hid (Calls Tryd.prog 69 #[.pointer (some ⟨q, 0, none⟩), .int .i64 N] w1 fun e w' => WPost p q v M S c w e w') := H3
  clear H3 hb
  go_wp2_with fail
  refine HH.out.mono ?_
  intro e w2 hp
  have he : e = .returned (.tuple #[]) := hp.1
  subst he
  have HP : Hid (WPost p q v M S c w (.returned (.tuple #[])) w2) := hp
  clear hp
  go_wp2
  first | go_end0 | refine bodyPost_ret (results_none rfl _ _ _) rfl ?_
  exact HP.out

set_option maxRecDepth 4000 in
set_option maxHeartbeats 4000000 in
theorem writes_opaque (p q c : Nat) (v : Value) (M E N MM : Int) (o : Bool) (S s : ByteArray) (a b : Nat) (w : World) (r : ByteArray × Int) (h : WW w p q v M S E)
    (hP : ∀ w1, PW w1 p v M (Lib.strCells S) E → Calls Tryd.prog 58 #[.pointer (some ⟨p, 0, none⟩), .int .i64 N, .string s] w1 (PWrote p v M r w1))
    (hR : ∀ w1, RW w1 q S M E → Calls Tryd.prog 79 #[.pointer (some ⟨q, 0, none⟩), .int .i64 N, .string s] w1 fun e w' => Wrote q M r w1 e w') (hr : r.1.size ≤ S.size + c) :
    Calls Tryd.prog 40 #[.pointer (some ⟨p, 0, none⟩), .pointer (some ⟨q, 0, none⟩), opcV 8 N MM o s a b] w (WPost p q v M S c w) := by
  have hB : Below w.heap.size w (w.alloc (.cells #[.int .i64 8, .int .i64 N, .int .i64 MM, .bool o, .string s, .int .u32 a, .int .u64 b] 63)) := (Below.refl _ _).alloc (Nat.le_refl _) _
  have hlt1 := h.pw.lt
  have hlt2 := h.rw.lt
  have hW := h.below hB
  have H1 : Hid (Calls Tryd.prog 58 #[.pointer (some ⟨p, 0, none⟩), .int .i64 N, .string s] (w.alloc (.cells #[.int .i64 8, .int .i64 N, .int .i64 MM, .bool o, .string s, .int .u32 a, .int .u64 b] 63)) fun e w' => e = .returned (.tuple #[]) ∧ ∃ v', WB (w.alloc (.cells #[.int .i64 8, .int .i64 N, .int .i64 MM, .bool o, .string s, .int .u32 a, .int .u64 b] 63)) w' p q v v' M S r.1 E r.2) :=
    (hP _ hW.pw).mono fun e w' hp => hW.first hp
  have H2 : Hid (∀ v' w1, WB (w.alloc (.cells #[.int .i64 8, .int .i64 N, .int .i64 MM, .bool o, .string s, .int .u32 a, .int .u64 b] 63)) w1 p q v v' M S r.1 E r.2 → Calls Tryd.prog 79 #[.pointer (some ⟨q, 0, none⟩), .int .i64 N, .string s] w1 fun e w' => WPost p q v M S c w e w') := fun v' w1 hb =>
    (hR w1 hb.rw).mono fun e w' hp => ⟨(hb.second hp).1, v', r.1, r.2, (hb.second hp).2.1, KB.behind hB (hb.second hp).2.2, hr⟩
  have HC : Hid (∀ v' w1, WB (w.alloc (.cells #[.int .i64 8, .int .i64 N, .int .i64 MM, .bool o, .string s, .int .u32 a, .int .u64 b] 63)) w1 p q v v' M S r.1 E r.2 → ∀ j, w1.cell? ⟨w.heap.size, j, none⟩ = (w.alloc (.cells #[.int .i64 8, .int .i64 N, .int .i64 MM, .bool o, .string s, .int .u32 a, .int .u64 b] 63)).cell? ⟨w.heap.size, j, none⟩) := fun v' w1 hb j =>
    (cells_of_block (hb.kb.block w.heap.size (by simp) (by omega) (by omega) (fun e => by have := (h.pw.own.lt _ e.symm).2; omega)) j).1
  clear h hP hR hr hB hlt1 hlt2 hW
  unfold opcV
  go_enter Tryd.func40, Tryd.ntmps40
  go_wp2_with fail
  refine H1.out.mono ?_
  rintro e w1 ⟨rfl, v', hb⟩
  have hc0 : w1.cell? ⟨w.heap.size, 1, none⟩ = some (.int .i64 N) := by rw [(HC.out v' w1 hb 1)]; simp
  have hc1 : w1.cell? ⟨w.heap.size, 4, none⟩ = some (.string s) := by rw [(HC.out v' w1 hb 4)]; simp
  have H3 := H2.out v' w1 hb
  have HH : Hid (Calls Tryd.prog 79 #[.pointer (some ⟨q, 0, none⟩), .int .i64 N, .string s] w1 fun e w' => WPost p q v M S c w e w') := H3
  clear H3 hb
  go_wp2_with fail
  refine HH.out.mono ?_
  intro e w2 hp
  have he : e = .returned (.tuple #[]) := hp.1
  subst he
  have HP : Hid (WPost p q v M S c w (.returned (.tuple #[])) w2) := hp
  clear hp
  go_wp2
  first | go_end0 | refine bodyPost_ret (results_none rfl _ _ _) rfl ?_
  exact HP.out

set_option maxRecDepth 4000 in
set_option maxHeartbeats 4000000 in
theorem writes_count (p q c : Nat) (v : Value) (M E N MM : Int) (o : Bool) (S s : ByteArray) (a b : Nat) (w : World) (r : ByteArray × Int) (h : WW w p q v M S E)
    (hP : ∀ w1, PW w1 p v M (Lib.strCells S) E → Calls Tryd.prog 80 #[.pointer (some ⟨p, 0, none⟩), .int .i64 N, .int .i64 MM] w1 (PWrote p v M r w1))
    (hR : ∀ w1, RW w1 q S M E → Calls Tryd.prog 81 #[.pointer (some ⟨q, 0, none⟩), .int .i64 N, .int .i64 MM] w1 fun e w' => Wrote q M r w1 e w') (hr : r.1.size ≤ S.size + c) :
    Calls Tryd.prog 40 #[.pointer (some ⟨p, 0, none⟩), .pointer (some ⟨q, 0, none⟩), opcV 9 N MM o s a b] w (WPost p q v M S c w) := by
  have hB : Below w.heap.size w (w.alloc (.cells #[.int .i64 9, .int .i64 N, .int .i64 MM, .bool o, .string s, .int .u32 a, .int .u64 b] 63)) := (Below.refl _ _).alloc (Nat.le_refl _) _
  have hlt1 := h.pw.lt
  have hlt2 := h.rw.lt
  have hW := h.below hB
  have H1 : Hid (Calls Tryd.prog 80 #[.pointer (some ⟨p, 0, none⟩), .int .i64 N, .int .i64 MM] (w.alloc (.cells #[.int .i64 9, .int .i64 N, .int .i64 MM, .bool o, .string s, .int .u32 a, .int .u64 b] 63)) fun e w' => e = .returned (.tuple #[]) ∧ ∃ v', WB (w.alloc (.cells #[.int .i64 9, .int .i64 N, .int .i64 MM, .bool o, .string s, .int .u32 a, .int .u64 b] 63)) w' p q v v' M S r.1 E r.2) :=
    (hP _ hW.pw).mono fun e w' hp => hW.first hp
  have H2 : Hid (∀ v' w1, WB (w.alloc (.cells #[.int .i64 9, .int .i64 N, .int .i64 MM, .bool o, .string s, .int .u32 a, .int .u64 b] 63)) w1 p q v v' M S r.1 E r.2 → Calls Tryd.prog 81 #[.pointer (some ⟨q, 0, none⟩), .int .i64 N, .int .i64 MM] w1 fun e w' => WPost p q v M S c w e w') := fun v' w1 hb =>
    (hR w1 hb.rw).mono fun e w' hp => ⟨(hb.second hp).1, v', r.1, r.2, (hb.second hp).2.1, KB.behind hB (hb.second hp).2.2, hr⟩
  have HC : Hid (∀ v' w1, WB (w.alloc (.cells #[.int .i64 9, .int .i64 N, .int .i64 MM, .bool o, .string s, .int .u32 a, .int .u64 b] 63)) w1 p q v v' M S r.1 E r.2 → ∀ j, w1.cell? ⟨w.heap.size, j, none⟩ = (w.alloc (.cells #[.int .i64 9, .int .i64 N, .int .i64 MM, .bool o, .string s, .int .u32 a, .int .u64 b] 63)).cell? ⟨w.heap.size, j, none⟩) := fun v' w1 hb j =>
    (cells_of_block (hb.kb.block w.heap.size (by simp) (by omega) (by omega) (fun e => by have := (h.pw.own.lt _ e.symm).2; omega)) j).1
  clear h hP hR hr hB hlt1 hlt2 hW
  unfold opcV
  go_enter Tryd.func40, Tryd.ntmps40
  go_wp2_with fail
  refine H1.out.mono ?_
  rintro e w1 ⟨rfl, v', hb⟩
  have hc0 : w1.cell? ⟨w.heap.size, 1, none⟩ = some (.int .i64 N) := by rw [(HC.out v' w1 hb 1)]; simp
  have hc1 : w1.cell? ⟨w.heap.size, 2, none⟩ = some (.int .i64 MM) := by rw [(HC.out v' w1 hb 2)]; simp
  have H3 := H2.out v' w1 hb
  have HH : Hid (Calls Tryd.prog 81 #[.pointer (some ⟨q, 0, none⟩), .int .i64 N, .int .i64 MM] w1 fun e w' => WPost p q v M S c w e w') := H3
  clear H3 hb
  go_wp2_with fail
  refine HH.out.mono ?_
  intro e w2 hp
  have he : e = .returned (.tuple #[]) := hp.1
  subst he
  have HP : Hid (WPost p q v M S c w (.returned (.tuple #[])) w2) := hp
  clear hp
  go_wp2
  first | go_end0 | refine bodyPost_ret (results_none rfl _ _ _) rfl ?_
  exact HP.out

set_option maxRecDepth 4000 in
set_option maxHeartbeats 4000000 in
theorem writes_raw (p q c : Nat) (v : Value) (M E N MM : Int) (o : Bool) (S s : ByteArray) (a b : Nat) (w : World) (r : ByteArray × Int) (h : WW w p q v M S E)
    (hP : ∀ w1, PW w1 p v M (Lib.strCells S) E → Calls Tryd.prog 82 #[.pointer (some ⟨p, 0, none⟩), .string s] w1 (PWrote p v M r w1))
    (hR : ∀ w1, RW w1 q S M E → Calls Tryd.prog 83 #[.pointer (some ⟨q, 0, none⟩), .string s] w1 fun e w' => Wrote q M r w1 e w') (hr : r.1.size ≤ S.size + c) :
    Calls Tryd.prog 40 #[.pointer (some ⟨p, 0, none⟩), .pointer (some ⟨q, 0, none⟩), opcV 10 N MM o s a b] w (WPost p q v M S c w) := by
  have hB : Below w.heap.size w (w.alloc (.cells #[.int .i64 10, .int .i64 N, .int .i64 MM, .bool o, .string s, .int .u32 a, .int .u64 b] 63)) := (Below.refl _ _).alloc (Nat.le_refl _) _
  have hlt1 := h.pw.lt
  have hlt2 := h.rw.lt
  have hW := h.below hB
  have H1 : Hid (Calls Tryd.prog 82 #[.pointer (some ⟨p, 0, none⟩), .string s] (w.alloc (.cells #[.int .i64 10, .int .i64 N, .int .i64 MM, .bool o, .string s, .int .u32 a, .int .u64 b] 63)) fun e w' => e = .returned (.tuple #[]) ∧ ∃ v', WB (w.alloc (.cells #[.int .i64 10, .int .i64 N, .int .i64 MM, .bool o, .string s, .int .u32 a, .int .u64 b] 63)) w' p q v v' M S r.1 E r.2) :=
    (hP _ hW.pw).mono fun e w' hp => hW.first hp
  have H2 : Hid (∀ v' w1, WB (w.alloc (.cells #[.int .i64 10, .int .i64 N, .int .i64 MM, .bool o, .string s, .int .u32 a, .int .u64 b] 63)) w1 p q v v' M S r.1 E r.2 → Calls Tryd.prog 83 #[.pointer (some ⟨q, 0, none⟩), .string s] w1 fun e w' => WPost p q v M S c w e w') := fun v' w1 hb =>
    (hR w1 hb.rw).mono fun e w' hp => ⟨(hb.second hp).1, v', r.1, r.2, (hb.second hp).2.1, KB.behind hB (hb.second hp).2.2, hr⟩
  have HC : Hid (∀ v' w1, WB (w.alloc (.cells #[.int .i64 10, .int .i64 N, .int .i64 MM, .bool o, .string s, .int .u32 a, .int .u64 b] 63)) w1 p q v v' M S r.1 E r.2 → ∀ j, w1.cell? ⟨w.heap.size, j, none⟩ = (w.alloc (.cells #[.int .i64 10, .int .i64 N, .int .i64 MM, .bool o, .string s, .int .u32 a, .int .u64 b] 63)).cell? ⟨w.heap.size, j, none⟩) := fun v' w1 hb j =>
    (cells_of_block (hb.kb.block w.heap.size (by simp) (by omega) (by omega) (fun e => by have := (h.pw.own.lt _ e.symm).2; omega)) j).1
  clear h hP hR hr hB hlt1 hlt2 hW
  unfold opcV
  go_enter Tryd.func40, Tryd.ntmps40
  go_wp2_with fail
  refine H1.out.mono ?_
  rintro e w1 ⟨rfl, v', hb⟩
  have hc0 : w1.cell? ⟨w.heap.size, 4, none⟩ = some (.string s) := by rw [(HC.out v' w1 hb 4)]; simp
  have H3 := H2.out v' w1 hb
  have HH : Hid (Calls Tryd.prog 83 #[.pointer (some ⟨q, 0, none⟩), .string s] w1 fun e w' => WPost p q v M S c w e w') := H3
  clear H3 hb
  go_wp2_with fail
  refine HH.out.mono ?_
  intro e w2 hp
  have he : e = .returned (.tuple #[]) := hp.1
  subst he
  have HP : Hid (WPost p q v M S c w (.returned (.tuple #[])) w2) := hp
  clear hp
  go_wp2
  first | go_end0 | refine bodyPost_ret (results_none rfl _ _ _) rfl ?_
  exact HP.out

set_option maxRecDepth 4000 in
set_option maxHeartbeats 4000000 in
theorem writes_fail (p q c : Nat) (v : Value) (M E N MM : Int) (o : Bool) (S s : ByteArray) (a b : Nat) (w : World) (r : ByteArray × Int) (h : WW w p q v M S E)
    (hP : ∀ w1, PW w1 p v M (Lib.strCells S) E → Calls Tryd.prog 84 #[.pointer (some ⟨p, 0, none⟩), .int .i64 N] w1 (PWrote p v M r w1))
    (hR : ∀ w1, RW w1 q S M E → Calls Tryd.prog 85 #[.pointer (some ⟨q, 0, none⟩), .int .i64 N] w1 fun e w' => Wrote q M r w1 e w') (hr : r.1.size ≤ S.size + c) :
    Calls Tryd.prog 40 #[.pointer (some ⟨p, 0, none⟩), .pointer (some ⟨q, 0, none⟩), opcV 11 N MM o s a b] w (WPost p q v M S c w) := by
  have hB : Below w.heap.size w (w.alloc (.cells #[.int .i64 11, .int .i64 N, .int .i64 MM, .bool o, .string s, .int .u32 a, .int .u64 b] 63)) := (Below.refl _ _).alloc (Nat.le_refl _) _
  have hlt1 := h.pw.lt
  have hlt2 := h.rw.lt
  have hW := h.below hB
  have H1 : Hid (Calls Tryd.prog 84 #[.pointer (some ⟨p, 0, none⟩), .int .i64 N] (w.alloc (.cells #[.int .i64 11, .int .i64 N, .int .i64 MM, .bool o, .string s, .int .u32 a, .int .u64 b] 63)) fun e w' => e = .returned (.tuple #[]) ∧ ∃ v', WB (w.alloc (.cells #[.int .i64 11, .int .i64 N, .int .i64 MM, .bool o, .string s, .int .u32 a, .int .u64 b] 63)) w' p q v v' M S r.1 E r.2) :=
    (hP _ hW.pw).mono fun e w' hp => hW.first hp
  have H2 : Hid (∀ v' w1, WB (w.alloc (.cells #[.int .i64 11, .int .i64 N, .int .i64 MM, .bool o, .string s, .int .u32 a, .int .u64 b] 63)) w1 p q v v' M S r.1 E r.2 → Calls Tryd.prog 85 #[.pointer (some ⟨q, 0, none⟩), .int .i64 N] w1 fun e w' => WPost p q v M S c w e w') := fun v' w1 hb =>
    (hR w1 hb.rw).mono fun e w' hp => ⟨(hb.second hp).1, v', r.1, r.2, (hb.second hp).2.1, KB.behind hB (hb.second hp).2.2, hr⟩
  have HC : Hid (∀ v' w1, WB (w.alloc (.cells #[.int .i64 11, .int .i64 N, .int .i64 MM, .bool o, .string s, .int .u32 a, .int .u64 b] 63)) w1 p q v v' M S r.1 E r.2 → ∀ j, w1.cell? ⟨w.heap.size, j, none⟩ = (w.alloc (.cells #[.int .i64 11, .int .i64 N, .int .i64 MM, .bool o, .string s, .int .u32 a, .int .u64 b] 63)).cell? ⟨w.heap.size, j, none⟩) := fun v' w1 hb j =>
    (cells_of_block (hb.kb.block w.heap.size (by simp) (by omega) (by omega) (fun e => by have := (h.pw.own.lt _ e.symm).2; omega)) j).1
  clear h hP hR hr hB hlt1 hlt2 hW
  unfold opcV
  go_enter Tryd.func40, Tryd.ntmps40
  go_wp2_with fail
  refine H1.out.mono ?_
  rintro e w1 ⟨rfl, v', hb⟩
  have hc0 : w1.cell? ⟨w.heap.size, 1, none⟩ = some (.int .i64 N) := by rw [(HC.out v' w1 hb 1)]; simp
  have H3 := H2.out v' w1 hb
  have HH : Hid (Calls Tryd.prog 85 #[.pointer (some ⟨q, 0, none⟩), .int .i64 N] w1 fun e w' => WPost p q v M S c w e w') := H3
  clear H3 hb
  go_wp2_with fail
  refine HH.out.mono ?_
  intro e w2 hp
  have he : e = .returned (.tuple #[]) := hp.1
  subst he
  have HP : Hid (WPost p q v M S c w (.returned (.tuple #[])) w2) := hp
  clear hp
  go_wp2
  first | go_end0 | refine bodyPost_ret (results_none rfl _ _ _) rfl ?_
  exact HP.out

end Go.Proofs.YthnnmgiihpdblaaDoor
