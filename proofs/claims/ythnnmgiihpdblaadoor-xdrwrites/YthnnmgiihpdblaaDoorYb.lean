/- One call of both Writers: numbers with a point. -/
import Derived.Test.YthnnmgiihpdblaaDoorYa
namespace Go.Proofs.YthnnmgiihpdblaaDoor
open Go.RowKit

set_option maxRecDepth 4000 in
set_option maxHeartbeats 4000000 in
theorem writes_double (p q c : Nat) (v : Value) (M E N MM : Int) (o : Bool) (S s : ByteArray) (a b : Nat) (w : World) (r : ByteArray × Int) (h : WW w p q v M S E) (hlim : b < 18446744073709551616)
    (hP : ∀ x w1, x < 18446744073709551616 → c64 x = c64 b → PW w1 p v M (Lib.strCells S) E → Calls Tryd.prog 74 #[.pointer (some ⟨p, 0, none⟩), .float .f64 x] w1 (PWrote p v M r w1))
    (hR : ∀ x w1, x < 18446744073709551616 → c64 x = c64 b → RW w1 q S M E → Calls Tryd.prog 76 #[.pointer (some ⟨q, 0, none⟩), .float .f64 x] w1 fun e w' => Wrote q M r w1 e w') (hr : r.1.size ≤ S.size + c) :
    Calls Tryd.prog 40 #[.pointer (some ⟨p, 0, none⟩), .pointer (some ⟨q, 0, none⟩), opcV 6 N MM o s a b] w (WPost p q v M S c w) := by
  have hB : Below w.heap.size w (w.alloc (.cells #[.int .i64 6, .int .i64 N, .int .i64 MM, .bool o, .string s, .int .u32 a, .int .u64 b] 63)) := (Below.refl _ _).alloc (Nat.le_refl _) _
  have hlt1 := h.pw.lt
  have hlt2 := h.rw.lt
  have hW := fun k => h.below (below_drewN hB k)
  have H0 : Hid (∀ w1, Calls Tryd.prog 75 #[.int .u64 b] w1 (AsBits64 b w1)) := fun w1 => double_any b w1 hlim
  have H1 : Hid (∀ x k, x < 18446744073709551616 → c64 x = c64 b → Calls Tryd.prog 74 #[.pointer (some ⟨p, 0, none⟩), .float .f64 x] ((w.alloc (.cells #[.int .i64 6, .int .i64 N, .int .i64 MM, .bool o, .string s, .int .u32 a, .int .u64 b] 63)).drewN k) fun e w' => e = .returned (.tuple #[]) ∧ ∃ v', WB ((w.alloc (.cells #[.int .i64 6, .int .i64 N, .int .i64 MM, .bool o, .string s, .int .u32 a, .int .u64 b] 63)).drewN k) w' p q v v' M S r.1 E r.2) :=
    fun x k h1 h2 => (hP x _ h1 h2 (hW k).pw).mono fun e w' hp => (hW k).first hp
  have H2 : Hid (∀ x k k2 v' w1, x < 18446744073709551616 → c64 x = c64 b → WB ((w.alloc (.cells #[.int .i64 6, .int .i64 N, .int .i64 MM, .bool o, .string s, .int .u32 a, .int .u64 b] 63)).drewN k) w1 p q v v' M S r.1 E r.2 → Calls Tryd.prog 76 #[.pointer (some ⟨q, 0, none⟩), .float .f64 x] (w1.drewN k2) fun e w' => WPost p q v M S c w e w') := fun x k k2 v' w1 h1 h2 hb =>
    have hb2 := hb.below (below_drewN (Below.refl w1.heap.size w1) k2)
    (hR x _ h1 h2 hb2.rw).mono fun e w' hp => ⟨(hb2.second hp).1, v', r.1, r.2, (hb2.second hp).2.1, KB.behind (below_drewN hB k) (hb2.second hp).2.2, hr⟩
  have HC : Hid (∀ k v' w1, WB ((w.alloc (.cells #[.int .i64 6, .int .i64 N, .int .i64 MM, .bool o, .string s, .int .u32 a, .int .u64 b] 63)).drewN k) w1 p q v v' M S r.1 E r.2 → ∀ j, w1.cell? ⟨w.heap.size, j, none⟩ = (w.alloc (.cells #[.int .i64 6, .int .i64 N, .int .i64 MM, .bool o, .string s, .int .u32 a, .int .u64 b] 63)).cell? ⟨w.heap.size, j, none⟩) := fun k v' w1 hb j =>
    (cells_of_block (hb.kb.block w.heap.size (by simp) (by omega) (by omega) (fun e => by have := (h.pw.own.lt _ e.symm).2; omega)) j).1
  clear h hP hR hr hB hlt1 hlt2 hW hlim
  unfold opcV
  go_enter Tryd.func40, Tryd.ntmps40
  go_wp2_with fail
  refine (H0.out _).mono ?_
  rintro e w0 ⟨x, rfl, hx1, hx2, k, hk⟩
  subst hk
  have HX := H1.out x k hx1 hx2
  have H1x : Hid (Calls Tryd.prog 74 #[.pointer (some ⟨p, 0, none⟩), .float .f64 x] ((w.alloc (.cells #[.int .i64 6, .int .i64 N, .int .i64 MM, .bool o, .string s, .int .u32 a, .int .u64 b] 63)).drewN k) fun e w' => e = .returned (.tuple #[]) ∧ ∃ v', WB ((w.alloc (.cells #[.int .i64 6, .int .i64 N, .int .i64 MM, .bool o, .string s, .int .u32 a, .int .u64 b] 63)).drewN k) w' p q v v' M S r.1 E r.2) := HX
  clear HX hx1 hx2
  go_wp2_with fail
  refine H1x.out.mono ?_
  rintro e w1 ⟨rfl, v', hb⟩
  have hc0 : w1.cell? ⟨w.heap.size, 6, none⟩ = some (.int .u64 b) := by rw [(HC.out k v' w1 hb 6)]; simp
  have HB : Hid (WB ((w.alloc (.cells #[.int .i64 6, .int .i64 N, .int .i64 MM, .bool o, .string s, .int .u32 a, .int .u64 b] 63)).drewN k) w1 p q v v' M S r.1 E r.2) := hb
  clear hb
  go_wp2_with fail
  refine (H0.out _).mono ?_
  rintro e w3 ⟨y, rfl, hy1, hy2, k2, hk2⟩
  subst hk2
  have H3 := H2.out y k k2 v' w1 hy1 hy2 HB.out
  have HH : Hid (Calls Tryd.prog 76 #[.pointer (some ⟨q, 0, none⟩), .float .f64 y] (w1.drewN k2) fun e w' => WPost p q v M S c w e w') := H3
  clear H3 hy1 hy2
  go_wp2_with fail
  refine HH.out.mono ?_
  intro e w2 hp
  have he : e = .returned (.tuple #[]) := hp.1
  subst he
  have HP : Hid (WPost p q v M S c w (.returned (.tuple #[])) w2) := hp
  clear hp
  go_wp2
  first | go_end0 | refine bodyPost_ret (results_none rfl _ _ _) rfl ?_
  exact HP.out

set_option maxRecDepth 4000 in
set_option maxHeartbeats 4000000 in
theorem writes_float (p q c : Nat) (v : Value) (M E N MM : Int) (o : Bool) (S s : ByteArray) (a b : Nat) (w : World) (r : ByteArray × Int) (h : WW w p q v M S E) (hlim : a < 4294967296)
    (hP : ∀ x w1, x < 4294967296 → c32 x = c32 a → PW w1 p v M (Lib.strCells S) E → Calls Tryd.prog 59 #[.pointer (some ⟨p, 0, none⟩), .float .f32 x] w1 (PWrote p v M r w1))
    (hR : ∀ x w1, x < 4294967296 → c32 x = c32 a → RW w1 q S M E → Calls Tryd.prog 73 #[.pointer (some ⟨q, 0, none⟩), .float .f32 x] w1 fun e w' => Wrote q M r w1 e w') (hr : r.1.size ≤ S.size + c) :
    Calls Tryd.prog 40 #[.pointer (some ⟨p, 0, none⟩), .pointer (some ⟨q, 0, none⟩), opcV 5 N MM o s a b] w (WPost p q v M S c w) := by
  have hB : Below w.heap.size w (w.alloc (.cells #[.int .i64 5, .int .i64 N, .int .i64 MM, .bool o, .string s, .int .u32 a, .int .u64 b] 63)) := (Below.refl _ _).alloc (Nat.le_refl _) _
  have hlt1 := h.pw.lt
  have hlt2 := h.rw.lt
  have hW := fun k => h.below (below_drewN hB k)
  have H0 : Hid (∀ w1, Calls Tryd.prog 72 #[.int .u32 a] w1 (AsBits32 a w1)) := fun w1 => single_any a w1 hlim
  have H1 : Hid (∀ x k, x < 4294967296 → c32 x = c32 a → Calls Tryd.prog 59 #[.pointer (some ⟨p, 0, none⟩), .float .f32 x] ((w.alloc (.cells #[.int .i64 5, .int .i64 N, .int .i64 MM, .bool o, .string s, .int .u32 a, .int .u64 b] 63)).drewN k) fun e w' => e = .returned (.tuple #[]) ∧ ∃ v', WB ((w.alloc (.cells #[.int .i64 5, .int .i64 N, .int .i64 MM, .bool o, .string s, .int .u32 a, .int .u64 b] 63)).drewN k) w' p q v v' M S r.1 E r.2) :=
    fun x k h1 h2 => (hP x _ h1 h2 (hW k).pw).mono fun e w' hp => (hW k).first hp
  have H2 : Hid (∀ x k k2 v' w1, x < 4294967296 → c32 x = c32 a → WB ((w.alloc (.cells #[.int .i64 5, .int .i64 N, .int .i64 MM, .bool o, .string s, .int .u32 a, .int .u64 b] 63)).drewN k) w1 p q v v' M S r.1 E r.2 → Calls Tryd.prog 73 #[.pointer (some ⟨q, 0, none⟩), .float .f32 x] (w1.drewN k2) fun e w' => WPost p q v M S c w e w') := fun x k k2 v' w1 h1 h2 hb =>
    have hb2 := hb.below (below_drewN (Below.refl w1.heap.size w1) k2)
    (hR x _ h1 h2 hb2.rw).mono fun e w' hp => ⟨(hb2.second hp).1, v', r.1, r.2, (hb2.second hp).2.1, KB.behind (below_drewN hB k) (hb2.second hp).2.2, hr⟩
  have HC : Hid (∀ k v' w1, WB ((w.alloc (.cells #[.int .i64 5, .int .i64 N, .int .i64 MM, .bool o, .string s, .int .u32 a, .int .u64 b] 63)).drewN k) w1 p q v v' M S r.1 E r.2 → ∀ j, w1.cell? ⟨w.heap.size, j, none⟩ = (w.alloc (.cells #[.int .i64 5, .int .i64 N, .int .i64 MM, .bool o, .string s, .int .u32 a, .int .u64 b] 63)).cell? ⟨w.heap.size, j, none⟩) := fun k v' w1 hb j =>
    (cells_of_block (hb.kb.block w.heap.size (by simp) (by omega) (by omega) (fun e => by have := (h.pw.own.lt _ e.symm).2; omega)) j).1
  clear h hP hR hr hB hlt1 hlt2 hW hlim
  unfold opcV
  go_enter Tryd.func40, Tryd.ntmps40
  go_wp2_with fail
  refine (H0.out _).mono ?_
  rintro e w0 ⟨x, rfl, hx1, hx2, k, hk⟩
  subst hk
  have HX := H1.out x k hx1 hx2
  have H1x : Hid (Calls Tryd.prog 59 #[.pointer (some ⟨p, 0, none⟩), .float .f32 x] ((w.alloc (.cells #[.int .i64 5, .int .i64 N, .int .i64 MM, .bool o, .string s, .int .u32 a, .int .u64 b] 63)).drewN k) fun e w' => e = .returned (.tuple #[]) ∧ ∃ v', WB ((w.alloc (.cells #[.int .i64 5, .int .i64 N, .int .i64 MM, .bool o, .string s, .int .u32 a, .int .u64 b] 63)).drewN k) w' p q v v' M S r.1 E r.2) := HX
  clear HX hx1 hx2
  go_wp2_with fail
  refine H1x.out.mono ?_
  rintro e w1 ⟨rfl, v', hb⟩
  have hc0 : w1.cell? ⟨w.heap.size, 5, none⟩ = some (.int .u32 a) := by rw [(HC.out k v' w1 hb 5)]; simp
  have HB : Hid (WB ((w.alloc (.cells #[.int .i64 5, .int .i64 N, .int .i64 MM, .bool o, .string s, .int .u32 a, .int .u64 b] 63)).drewN k) w1 p q v v' M S r.1 E r.2) := hb
  clear hb
  go_wp2_with fail
  refine (H0.out _).mono ?_
  rintro e w3 ⟨y, rfl, hy1, hy2, k2, hk2⟩
  subst hk2
  have H3 := H2.out y k k2 v' w1 hy1 hy2 HB.out
  have HH : Hid (Calls Tryd.prog 73 #[.pointer (some ⟨q, 0, none⟩), .float .f32 y] (w1.drewN k2) fun e w' => WPost p q v M S c w e w') := H3
  clear H3 hy1 hy2
  go_wp2_with fail
  refine HH.out.mono ?_
  intro e w2 hp
  have he : e = .returned (.tuple #[]) := hp.1
  subst he
  have HP : Hid (WPost p q v M S c w (.returned (.tuple #[])) w2) := hp
  clear hp
  go_wp2
  first | go_end0 | refine bodyPost_ret (results_none rfl _ _ _) rfl ?_
  exact HP.out

end Go.Proofs.YthnnmgiihpdblaaDoor
