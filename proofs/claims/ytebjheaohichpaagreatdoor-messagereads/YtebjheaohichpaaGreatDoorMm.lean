/- message: a table laid down. -/
import Derived.Test.YtebjheaohichpaaGreatDoorMl
namespace Go.Proofs.YtebjheaohichpaaGreatDoor
open Go.RowKit
/-- a table in memory -/
def rowsV (b : Nat) : List (Bool × Fd) → List Value
  | [] => []
  | r :: t => .bool r.1 :: .iface r.2.ty (r.2.agg b) :: rowsV b t
theorem rowsV_at (b : Nat) (tab : List (Bool × Fd)) (j : Nat) (r : Bool × Fd) (h : tab[j]? = some r) : (rowsV b tab)[j * 2]? = some (.bool r.1) ∧ (rowsV b tab)[j * 2 + 1]? = some (.iface r.2.ty (r.2.agg b)) := by
  induction tab generalizing j with
  | nil => simp at h
  | cons x t ih =>
    cases j with
    | zero =>
      simp at h
      subst h
      exact ⟨rfl, rfl⟩
    | succ j =>
      have := ih j (by simpa using h)
      exact ⟨by rw [show (j + 1) * 2 = j * 2 + 1 + 1 by omega]; exact this.1, by rw [show (j + 1) * 2 + 1 = j * 2 + 1 + 1 + 1 by omega]; exact this.2⟩
def allA : List (Prop × List UInt8) → Prop
  | [] => True
  | a :: r => a.1 ∧ allA r
def allL : List (Prop × List UInt8) → List UInt8
  | [] => []
  | a :: r => a.2 ++ allL r
theorem allA_snoc (l : List (Prop × List UInt8)) (a : Prop × List UInt8) : allA (l ++ [a]) ↔ (allA l ∧ a.1) := by
  induction l with
  | nil => simp [allA]
  | cons x l ih => simp only [List.cons_append, allA, ih, and_assoc]
theorem allL_snoc (l : List (Prop × List UInt8)) (a : Prop × List UInt8) : allL (l ++ [a]) = allL l ++ a.2 := by
  induction l with
  | nil => simp [allL]
  | cons x l ih => simp only [List.cons_append, allL, ih, List.append_assoc]
/-- what a table lays down, row by row -/
inductive Tab (cs : List Value) : List (Bool × Fd) → List (Prop × List UInt8) → Prop
  | nil : Tab cs [] []
  | cons {s : Bool} {f : Fd} {A : Prop} {x : List UInt8} {t : List (Bool × Fd)} {r : List (Prop × List UInt8)} : Lays cs s f A x → Tab cs t r → Tab cs ((s, f) :: t) ((A, x) :: r)
theorem Tab.len {cs : List Value} {t : List (Bool × Fd)} {r : List (Prop × List UInt8)} (h : Tab cs t r) : r.length = t.length := by
  induction h with
  | nil => rfl
  | cons _ _ ih => simp [ih]
theorem Tab.at {cs : List Value} {t : List (Bool × Fd)} {r : List (Prop × List UInt8)} (h : Tab cs t r) (j : Nat) (hj : j < t.length) : ∃ s f A x, t[j]? = some (s, f) ∧ r[j]? = some (A, x) ∧ Lays cs s f A x := by
  induction h generalizing j with
  | nil => simp at hj
  | @cons s f A x t r h1 _ ih =>
    cases j with
    | zero => exact ⟨s, f, A, x, rfl, rfl, h1⟩
    | succ j =>
      obtain ⟨s', f', A', x', e1, e2, e3⟩ := ih j (by simpa using hj)
      exact ⟨s', f', A', x', by simpa using e1, by simpa using e2, e3⟩
theorem disp_lay (b : Nat) (f : Fd) (w : World) : (method 303 f.ty (f.agg b) "callbox/message.lay").run Tryz.prog w = .ok (f.layK, f.agg b) w := by cases f <;> kernel_rfl
theorem disp_read (b : Nat) (f : Fd) (w : World) : (method 303 f.ty (f.agg b) "callbox/message.read").run Tryz.prog w = .ok (f.readK, f.agg b) w := by cases f <;> kernel_rfl
theorem disp_empty (b : Nat) (f : Fd) (w : World) : (method 303 f.ty (f.agg b) "callbox/message.isEmpty").run Tryz.prog w = .ok (f.emptyK, f.agg b) w := by cases f <;> kernel_rfl
theorem call_lay (f : Fd) (a : Array Value) (w : World) : (callFunc f.layK a).run Tryz.prog w = .ok (.enter f.layK a) w := by cases f <;> kernel_rfl
theorem call_read (f : Fd) (a : Array Value) (w : World) : (callFunc f.readK a).run Tryz.prog w = .ok (.enter f.readK a) w := by cases f <;> kernel_rfl
theorem call_empty (f : Fd) (a : Array Value) (w : World) : (callFunc f.emptyK a).run Tryz.prog w = .ok (.enter f.emptyK a) w := by cases f <;> kernel_rfl
theorem take_more {α : Type} {l : List α} {j : Nat} {a : α} (h : l[j]? = some a) : l.take (j + 1) = l.take j ++ [a] := by rw [List.take_add_one, h]; rfl
theorem allA_take {l : List (Prop × List UInt8)} (j : Nat) (h : allA l) : allA (l.take j) := by
  induction l generalizing j with
  | nil => simpa using h
  | cons a l ih =>
    cases j with
    | zero => trivial
    | succ j => exact ⟨h.1, ih j h.2⟩
set_option maxRecDepth 4000 in
set_option maxHeartbeats 4000000 in
theorem layRows_any (F : Nat → Prop) (b p q : Nat) (tab : List (Bool × Fd)) (ats : List (Prop × List UInt8)) (cs : List Value) (t t2 : TypeId) (M : Int) (P : Prop) (l : List UInt8) (w : World) (hT : Tab cs tab ats) (h : WrK F w p M P l) (hF : Ok F w p) (hb : Bk w b cs t) (hFb : F b)
    (hq : Bk w q (rowsV b tab) t2) (hFq : F q) (hn : tab.length ≤ 100) (hM0 : 0 ≤ M) (hM1 : M ≤ 2147483647) (hr : ∀ j, P → allA (ats.take j) → (l.length : Int) + (allL (ats.take j)).length ≤ M) :
    Calls Tryz.prog 17 #[.pointer (some ⟨p, 0, none⟩), .slice (some ⟨q, 0, none⟩) tab.length tab.length] w (KPost F p M (P ∧ allA ats) (l ++ allL ats) w) := by
  obtain ⟨n, hN⟩ : ∃ n, tab.length = n := ⟨_, rfl⟩
  have HN := hid hN
  rw [hN] at hn ⊢
  have H0 := hid h
  have HF := hid hF
  have HFB := hid (And.intro hFb hFq)
  have HBK := hid (And.intro hb hq)
  have HTB := hid hT
  have HRM := hid hr
  have HM := hid (And.intro hM0 hM1)
  clear h hF hb hFb hq hFq hT hr hM0 hM1 hN
  go_enter Tryz.func17, Tryz.ntmps17
  go_wp2_with fail
  go_loopw [8] (fun ix wr => ∃ j : Nat, ix = .int .i64 j ∧ j ≤ n ∧ Hid (WrK F wr p M (P ∧ allA (ats.take j)) (l ++ allL (ats.take j))) ∧ Hid (Fr F w wr)) (fun ix _ => 200 - (intOf ix).toNat)
  case atStart => exact ⟨0, rfl, by omega, H0.out.iff ⟨fun x => x.1, fun x => ⟨x, trivial⟩⟩ (fun _ => by simp [allL]), Fr.refl _ _⟩
  case round =>
    obtain ⟨j, rfl, hj, HW, HR⟩ := hrel
    by_cases hlt : j < n
    · obtain ⟨s, f, A, x, e1, e2, hL⟩ := HTB.out.at j (by rw [HN.out]; exact hlt)
      obtain ⟨v0, v1⟩ := rowsV_at b tab j (s, f) e1
      have hq1 : Bk wr q _ _ := HBK.out.2.of (HR.out.block q HFB.out.2)
      have hb1 : Bk wr b _ _ := HBK.out.1.of (HR.out.block b HFB.out.1)
      have c0 := hq1.cell (j * 2) v0
      have c1 := hq1.cell (j * 2 + 1) v1
      have hml := disp_lay b f
      have hme := disp_empty b f
      have hcl := call_lay f
      have hce := call_empty f
      have hFr : Ok F wr p := HF.out.below HR.out.size
      have HTM : Hid (ats.take (j + 1) = ats.take j ++ [(A, x)]) := take_more e2
      have HLY : Hid (s = true → ∀ w1, Below wr.heap.size wr w1 → Calls Tryz.prog f.layK #[f.agg b, .pointer (some ⟨p, 0, none⟩)] w1 fun e w' => e = .returned (.tuple #[]) ∧ WrK F w' p M (P ∧ allA (ats.take (j + 1))) (l ++ allL (ats.take (j + 1))) ∧ Fr F w w') := fun hs w1 hB => by
        subst hs
        have hr1 := HRM.out (j + 1)
        rw [HTM.out, allA_snoc, allL_snoc] at hr1
        refine (lay_fd hL (hb1.below hB hb1.lt) HFB.out.1 (HW.out.below hB) (hFr.below hB.size) HM.out.1 HM.out.2 (fun q a => by
          have := hr1 q.1 ⟨q.2, a⟩
          rw [List.length_append] at this ⊢
          simp only at this
          omega)).mono fun e w' hp => ?_
        refine ⟨hp.1, ?_, (HR.out.trans (Fr.of_below hB fun i hi => (hFr i hi).1)).trans hp.2.2⟩
        rw [HTM.out, allL_snoc]
        exact hp.2.1.iff (by rw [allA_snoc, and_assoc]) fun _ => by rw [List.append_assoc]
      have HEM : Hid (s = false → ∀ w1, Below wr.heap.size wr w1 → Calls Tryz.prog f.emptyK #[f.agg b] w1 fun e w' => (∃ y : Bool, e = .returned (.bool y) ∧ (y = true ↔ A)) ∧ Below wr.heap.size wr w') := fun hs w1 hB => by
        subst hs
        exact (empty_fd hL (hb1.below hB hb1.lt)).mono fun e w' hp => ⟨hp.1, hB.trans (hp.2.mono hB.size)⟩
      have HNB : Hid (s = false → x = []) := fun hs => by subst hs; exact no_bytes hL
      have HFR := hid hFr
      generalize f.layK = KL at hml hcl HLY
      generalize f.emptyK = KE at hme hce HEM
      generalize f.agg b = V at c1 hml hme HLY HEM
      generalize f.ty = Y at c1 hml hme
      clear hq1 v0 v1 hb1 hFr e1 e2 hL
      simp only at c0 c1
      obtain ⟨wx, hwx⟩ : ∃ y, wr.alloc (.cells #[.bool s, .iface Y V] 78) = y := ⟨_, rfl⟩
      obtain ⟨hk, hB, hz⟩ := boxed wr wx _ _ hwx
      have HB := hid hB
      have x0 := hk.cell 0 rfl
      have x1 := hk.cell 1 rfl
      clear hk hB hz
      cases s
      · have HEM2 := hid (HEM.out rfl)
        have HXN := hid (HNB.out rfl)
        clear HEM HNB HLY
        go_wp2_with fail
        refine (HEM2.out _ HB.out).mono ?_
        rintro e w2 ⟨⟨y, rfl, hy⟩, hB2⟩
        have HY := hid hy
        have HB2 := hid hB2
        clear hy hB2
        cases y
        · have HFL : Hid (Calls Tryz.prog 39 #[.pointer (some ⟨p, 0, none⟩), .int .i64 120] w2 (KPost F p M ((P ∧ allA (ats.take j)) ∧ False) (l ++ allL (ats.take j)) w2)) := k_fail F p M 120 _ _ w2 (HW.out.below HB2.out) (HFR.out.below HB2.out.size) (by decide)
          go_wp2_with fail
          refine HFL.out.mono ?_
          rintro e w3 ⟨rfl, hw3, hf3⟩
          have HW3 : Hid (WrK F w3 p M (P ∧ allA (ats.take (j + 1))) (l ++ allL (ats.take (j + 1)))) := hw3.iff (by
            rw [HTM.out, allA_snoc]
            have := HY.out
            constructor
            · exact fun q => absurd (this.2 q.2.2) (by simp)
            · exact fun q => q.2.elim) (fun q => q.2.elim)
          have HR3 : Hid (Fr F w w3) := (HR.out.trans (Fr.of_below HB2.out fun i hi => (HFR.out i hi).1)).trans hf3
          clear hw3 hf3 HFL
          go_wp2
          go_roundw
          case rel => exact ⟨j + 1, by go_num, by omega, HW3, HR3⟩
          case measure => simp [intOf]; omega
        · have HW3 : Hid (WrK F w2 p M (P ∧ allA (ats.take (j + 1))) (l ++ allL (ats.take (j + 1)))) := (HW.out.below HB2.out).iff (by
            rw [HTM.out, allA_snoc]
            exact ⟨fun q => ⟨q.1, q.2.1⟩, fun q => ⟨q.1, q.2, HY.out.1 rfl⟩⟩) (fun _ => by rw [HTM.out, allL_snoc, HXN.out, List.append_nil])
          have HR3 : Hid (Fr F w w2) := HR.out.trans (Fr.of_below HB2.out fun i hi => (HFR.out i hi).1)
          go_wp2
          go_roundw
          case rel => exact ⟨j + 1, by go_num, by omega, HW3, HR3⟩
          case measure => simp [intOf]; omega
      · have HLY2 := hid (HLY.out rfl)
        clear HEM HNB HLY
        go_wp2_with fail
        refine (HLY2.out _ HB.out).mono ?_
        rintro e w2 ⟨rfl, hw2, hf2⟩
        have HW3 := hid hw2
        have HR3 := hid hf2
        clear hw2 hf2 HLY2
        go_wp2
        go_roundw
        case rel => exact ⟨j + 1, by go_num, by omega, HW3, HR3⟩
        case measure => simp [intOf]; omega
    · obtain rfl : j = n := by omega
      have HE : Hid (ats.take j = ats) := List.take_of_length_le (by rw [HTB.out.len, HN.out]; exact Nat.le_refl _)
      go_wp2
      first | go_end0 | refine bodyPost_ret (results_none rfl _ _ _) rfl ?_
      rw [HE.out] at HW
      exact ⟨rfl, HW.out, HR.out⟩
end Go.Proofs.YtebjheaohichpaaGreatDoor
