/- message: a table laid down. message: a table read. -/
import Derived.Test.YtfcbjcebkahehaaGreatDoorZba
namespace Go.Proofs.YtfcbjcebkahehaaGreatDoor
open Go.RowKit
/-- a table in memory -/
def rowsV (b : Nat) : List (Bool × Fd) → List Value
  | [] => []
  | r :: t => .bool r.1 :: .iface r.2.ty (r.2.agg b) :: rowsV b t
theorem rowsV_at (b : Nat) (tab : List (Bool × Fd)) (j : Nat) (r : Bool × Fd) (h : tab[j]? = some r) : (rowsV b tab)[j * 2]? = some (.bool r.1) ∧ (rowsV b tab)[j * 2 + 1]? = some (.iface r.2.ty (r.2.agg b)) := by
  induction tab generalizing j with
  | nil => simp at h
  | cons x t ih =>
    cases j with
    | zero =>
      simp at h
      subst h
      exact ⟨rfl, rfl⟩
    | succ j =>
      have := ih j (by simpa using h)
      exact ⟨by rw [show (j + 1) * 2 = j * 2 + 1 + 1 by omega]; exact this.1, by rw [show (j + 1) * 2 + 1 = j * 2 + 1 + 1 + 1 by omega]; exact this.2⟩
def allA : List (Prop × List UInt8) → Prop
  | [] => True
  | a :: r => a.1 ∧ allA r
def allL : List (Prop × List UInt8) → List UInt8
  | [] => []
  | a :: r => a.2 ++ allL r
theorem allA_snoc (l : List (Prop × List UInt8)) (a : Prop × List UInt8) : allA (l ++ [a]) ↔ (allA l ∧ a.1) := by
  induction l with
  | nil => simp [allA]
  | cons x l ih => simp only [List.cons_append, allA, ih, and_assoc]
theorem allL_snoc (l : List (Prop × List UInt8)) (a : Prop × List UInt8) : allL (l ++ [a]) = allL l ++ a.2 := by
  induction l with
  | nil => simp [allL]
  | cons x l ih => simp only [List.cons_append, allL, ih, List.append_assoc]
/-- what a table lays down, row by row -/
inductive Tab (cs : List Value) : List (Bool × Fd) → List (Prop × List UInt8) → Prop
  | nil : Tab cs [] []
  | cons {s : Bool} {f : Fd} {A : Prop} {x : List UInt8} {t : List (Bool × Fd)} {r : List (Prop × List UInt8)} : Lays cs s f A x → Tab cs t r → Tab cs ((s, f) :: t) ((A, x) :: r)
theorem Tab.len {cs : List Value} {t : List (Bool × Fd)} {r : List (Prop × List UInt8)} (h : Tab cs t r) : r.length = t.length := by
  induction h with
  | nil => rfl
  | cons _ _ ih => simp [ih]
theorem Tab.at {cs : List Value} {t : List (Bool × Fd)} {r : List (Prop × List UInt8)} (h : Tab cs t r) (j : Nat) (hj : j < t.length) : ∃ s f A x, t[j]? = some (s, f) ∧ r[j]? = some (A, x) ∧ Lays cs s f A x := by
  induction h generalizing j with
  | nil => simp at hj
  | @cons s f A x t r h1 _ ih =>
    cases j with
    | zero => exact ⟨s, f, A, x, rfl, rfl, h1⟩
    | succ j =>
      obtain ⟨s', f', A', x', e1, e2, e3⟩ := ih j (by simpa using hj)
      exact ⟨s', f', A', x', by simpa using e1, by simpa using e2, e3⟩
theorem disp_lay (b : Nat) (f : Fd) (w : World) : (method 432 f.ty (f.agg b) "callbox/message.lay").run Tryz.prog w = .ok (f.layK, f.agg b) w := by cases f <;> kernel_rfl
theorem disp_read (b : Nat) (f : Fd) (w : World) : (method 432 f.ty (f.agg b) "callbox/message.read").run Tryz.prog w = .ok (f.readK, f.agg b) w := by cases f <;> kernel_rfl
theorem disp_empty (b : Nat) (f : Fd) (w : World) : (method 432 f.ty (f.agg b) "callbox/message.isEmpty").run Tryz.prog w = .ok (f.emptyK, f.agg b) w := by cases f <;> kernel_rfl
theorem call_lay (f : Fd) (a : Array Value) (w : World) : (callFunc f.layK a).run Tryz.prog w = .ok (.enter f.layK a) w := by cases f <;> kernel_rfl
theorem call_read (f : Fd) (a : Array Value) (w : World) : (callFunc f.readK a).run Tryz.prog w = .ok (.enter f.readK a) w := by cases f <;> kernel_rfl
theorem call_empty (f : Fd) (a : Array Value) (w : World) : (callFunc f.emptyK a).run Tryz.prog w = .ok (.enter f.emptyK a) w := by cases f <;> kernel_rfl
theorem take_more {α : Type} {l : List α} {j : Nat} {a : α} (h : l[j]? = some a) : l.take (j + 1) = l.take j ++ [a] := by rw [List.take_add_one, h]; rfl
theorem allA_take {l : List (Prop × List UInt8)} (j : Nat) (h : allA l) : allA (l.take j) := by
  induction l generalizing j with
  | nil => simpa using h
  | cons a l ih =>
    cases j with
    | zero => trivial
    | succ j => exact ⟨h.1, ih j h.2⟩
set_option maxRecDepth 4000 in
set_option maxHeartbeats 4000000 in
theorem layRows_any (F : Nat → Prop) (b p q : Nat) (tab : List (Bool × Fd)) (ats : List (Prop × List UInt8)) (cs : List Value) (t t2 : TypeId) (M : Int) (P : Prop) (l : List UInt8) (w : World) (hT : Tab cs tab ats) (h : WrK F w p M P l) (hF : Ok F w p) (hb : Bk w b cs t) (hFb : F b)
    (hq : Bk w q (rowsV b tab) t2) (hFq : F q) (hn : tab.length ≤ 100) (hM0 : 0 ≤ M) (hM1 : M ≤ 2147483647) (hr : ∀ j, P → allA (ats.take j) → (l.length : Int) + (allL (ats.take j)).length ≤ M) :
    Calls Tryz.prog 77 #[.pointer (some ⟨p, 0, none⟩), .slice (some ⟨q, 0, none⟩) tab.length tab.length] w (KPost F p M (P ∧ allA ats) (l ++ allL ats) w) := by
  obtain ⟨n, hN⟩ : ∃ n, tab.length = n := ⟨_, rfl⟩
  have HN := hid hN
  rw [hN] at hn ⊢
  have H0 := hid h
  have HF := hid hF
  have HFB := hid (And.intro hFb hFq)
  have HBK := hid (And.intro hb hq)
  have HTB := hid hT
  have HRM := hid hr
  have HM := hid (And.intro hM0 hM1)
  clear h hF hb hFb hq hFq hT hr hM0 hM1 hN
  go_enter Tryz.func77, Tryz.ntmps77
  go_wp2_with fail
  go_loopw [8] (fun ix wr => ∃ j : Nat, ix = .int .i64 j ∧ j ≤ n ∧ Hid (WrK F wr p M (P ∧ allA (ats.take j)) (l ++ allL (ats.take j))) ∧ Hid (Fr F w wr)) (fun ix _ => 200 - (intOf ix).toNat)
  case atStart => exact ⟨0, rfl, by omega, H0.out.iff ⟨fun x => x.1, fun x => ⟨x, trivial⟩⟩ (fun _ => by simp [allL]), Fr.refl _ _⟩
  case round =>
    obtain ⟨j, rfl, hj, HW, HR⟩ := hrel
    by_cases hlt : j < n
    · obtain ⟨s, f, A, x, e1, e2, hL⟩ := HTB.out.at j (by rw [HN.out]; exact hlt)
      obtain ⟨v0, v1⟩ := rowsV_at b tab j (s, f) e1
      have hq1 : Bk wr q _ _ := HBK.out.2.of (HR.out.block q HFB.out.2)
      have hb1 : Bk wr b _ _ := HBK.out.1.of (HR.out.block b HFB.out.1)
      have c0 := hq1.cell (j * 2) v0
      have c1 := hq1.cell (j * 2 + 1) v1
      have hml := disp_lay b f
      have hme := disp_empty b f
      have hcl := call_lay f
      have hce := call_empty f
      have hFr : Ok F wr p := HF.out.below HR.out.size
      have HTM : Hid (ats.take (j + 1) = ats.take j ++ [(A, x)]) := take_more e2
      have HLY : Hid (s = true → ∀ w1, Below wr.heap.size wr w1 → Calls Tryz.prog f.layK #[f.agg b, .pointer (some ⟨p, 0, none⟩)] w1 fun e w' => e = .returned (.tuple #[]) ∧ WrK F w' p M (P ∧ allA (ats.take (j + 1))) (l ++ allL (ats.take (j + 1))) ∧ Fr F w w') := fun hs w1 hB => by
        subst hs
        have hr1 := HRM.out (j + 1)
        rw [HTM.out, allA_snoc, allL_snoc] at hr1
        refine (lay_fd hL (hb1.below hB hb1.lt) HFB.out.1 (HW.out.below hB) (hFr.below hB.size) HM.out.1 HM.out.2 (fun q a => by
          have := hr1 q.1 ⟨q.2, a⟩
          rw [List.length_append] at this ⊢
          simp only at this
          omega)).mono fun e w' hp => ?_
        refine ⟨hp.1, ?_, (HR.out.trans (Fr.of_below hB fun i hi => (hFr i hi).1)).trans hp.2.2⟩
        rw [HTM.out, allL_snoc]
        exact hp.2.1.iff (by rw [allA_snoc, and_assoc]) fun _ => by rw [List.append_assoc]
      have HEM : Hid (s = false → ∀ w1, Below wr.heap.size wr w1 → Calls Tryz.prog f.emptyK #[f.agg b] w1 fun e w' => (∃ y : Bool, e = .returned (.bool y) ∧ (y = true ↔ A)) ∧ Below wr.heap.size wr w') := fun hs w1 hB => by
        subst hs
        exact (empty_fd hL (hb1.below hB hb1.lt)).mono fun e w' hp => ⟨hp.1, hB.trans (hp.2.mono hB.size)⟩
      have HNB : Hid (s = false → x = []) := fun hs => by subst hs; exact no_bytes hL
      have HFR := hid hFr
      generalize f.layK = KL at hml hcl HLY
      generalize f.emptyK = KE at hme hce HEM
      generalize f.agg b = V at c1 hml hme HLY HEM
      generalize f.ty = Y at c1 hml hme
      clear hq1 v0 v1 hb1 hFr e1 e2 hL
      simp only at c0 c1
      obtain ⟨wx, hwx⟩ : ∃ y, wr.alloc (.cells #[.bool s, .iface Y V] 185) = y := ⟨_, rfl⟩
      obtain ⟨hk, hB, hz⟩ := boxed wr wx _ _ hwx
      have HB := hid hB
      have x0 := hk.cell 0 rfl
      have x1 := hk.cell 1 rfl
      clear hk hB hz
      cases s
      · have HEM2 := hid (HEM.out rfl)
        have HXN := hid (HNB.out rfl)
        clear HEM HNB HLY
        go_wp2_with fail
        refine (HEM2.out _ HB.out).mono ?_
        rintro e w2 ⟨⟨y, rfl, hy⟩, hB2⟩
        have HY := hid hy
        have HB2 := hid hB2
        clear hy hB2
        cases y
        · have HFL : Hid (Calls Tryz.prog 115 #[.pointer (some ⟨p, 0, none⟩), .int .i64 120] w2 (KPost F p M ((P ∧ allA (ats.take j)) ∧ False) (l ++ allL (ats.take j)) w2)) := k_fail F p M 120 _ _ w2 (HW.out.below HB2.out) (HFR.out.below HB2.out.size) (by decide)
          go_wp2_with fail
          refine HFL.out.mono ?_
          rintro e w3 ⟨rfl, hw3, hf3⟩
          have HW3 : Hid (WrK F w3 p M (P ∧ allA (ats.take (j + 1))) (l ++ allL (ats.take (j + 1)))) := hw3.iff (by
            rw [HTM.out, allA_snoc]
            have := HY.out
            constructor
            · exact fun q => absurd (this.2 q.2.2) (by simp)
            · exact fun q => q.2.elim) (fun q => q.2.elim)
          have HR3 : Hid (Fr F w w3) := (HR.out.trans (Fr.of_below HB2.out fun i hi => (HFR.out i hi).1)).trans hf3
          clear hw3 hf3 HFL
          go_wp2
          go_roundw
          case rel => exact ⟨j + 1, by go_num, by omega, HW3, HR3⟩
          case measure => simp [intOf]; omega
        · have HW3 : Hid (WrK F w2 p M (P ∧ allA (ats.take (j + 1))) (l ++ allL (ats.take (j + 1)))) := (HW.out.below HB2.out).iff (by
            rw [HTM.out, allA_snoc]
            exact ⟨fun q => ⟨q.1, q.2.1⟩, fun q => ⟨q.1, q.2, HY.out.1 rfl⟩⟩) (fun _ => by rw [HTM.out, allL_snoc, HXN.out, List.append_nil])
          have HR3 : Hid (Fr F w w2) := HR.out.trans (Fr.of_below HB2.out fun i hi => (HFR.out i hi).1)
          go_wp2
          go_roundw
          case rel => exact ⟨j + 1, by go_num, by omega, HW3, HR3⟩
          case measure => simp [intOf]; omega
      · have HLY2 := hid (HLY.out rfl)
        clear HEM HNB HLY
        go_wp2_with fail
        refine (HLY2.out _ HB.out).mono ?_
        rintro e w2 ⟨rfl, hw2, hf2⟩
        have HW3 := hid hw2
        have HR3 := hid hf2
        clear hw2 hf2 HLY2
        go_wp2
        go_roundw
        case rel => exact ⟨j + 1, by go_num, by omega, HW3, HR3⟩
        case measure => simp [intOf]; omega
    · obtain rfl : j = n := by omega
      have HE : Hid (ats.take j = ats) := List.take_of_length_le (by rw [HTB.out.len, HN.out]; exact Nat.le_refl _)
      go_wp2
      first | go_end0 | refine bodyPost_ret (results_none rfl _ _ _) rfl ?_
      rw [HE.out] at HW
      exact ⟨rfl, HW.out, HR.out⟩
end Go.Proofs.YtfcbjcebkahehaaGreatDoor
namespace Go.Proofs.YtfcbjcebkahehaaGreatDoor
open Go.RowKit
/-- what a field reads, and what then lies in its block -/
def Fd.rd : Fd → Rs × List Value → Rs × List Value
  | .word i, x => ((x.1.go 0 rdWord).2, x.2.set i (.int .i64 ((x.1.go 0 rdWord).1 : Int)))
  | .flag i, x => ((x.1.go false rdBool).2, x.2.set i (.bool (x.1.go false rdBool).1))
  | .small i m, x => ((x.1.go 0 (rdCount m)).2, x.2.set i (.int .i64 ((x.1.go 0 (rdCount m)).1 : Int)))
  | .body i m, x => ((x.1.go [] (rdOpaque m)).2, x.2.set i (.string ⟨(x.1.go [] (rdOpaque m)).1.toArray⟩))
  | .sign n, x => (if ((x.1.go 0 rdWord).1 : Int) = n then (x.1.go 0 rdWord).2 else (x.1.go 0 rdWord).2.fail 121, x.2)
  | .tail i, x => (((if plainB x.1.l then x.1 else x.1.fail 121).go [] rdRest).2, x.2.set i (.string ⟨((if plainB x.1.l then x.1 else x.1.fail 121).go [] rdRest).1.toArray⟩))
/-- its place is one of the block's -/
def Fd.fits (n : Nat) : Fd → Prop
  | .word i => i < n
  | .flag i => i < n
  | .small i _ => i < n
  | .body i _ => i < n
  | .sign _ => True
  | .tail i => i < n
theorem fail_len (st : Rs) (n : Int) : (st.fail n).l = st.l := rfl
theorem Fd.rd_len (f : Fd) (x : Rs × List Value) : (f.rd x).1.l.length ≤ x.1.l.length ∧ (f.rd x).2.length = x.2.length := by
  cases f with
  | word i => exact ⟨go_len _ _ _, by simp [Fd.rd]⟩
  | flag i => exact ⟨go_len _ _ _, by simp [Fd.rd]⟩
  | small i m => exact ⟨go_len _ _ _, by simp [Fd.rd]⟩
  | body i m => exact ⟨go_len _ _ _, by simp [Fd.rd]⟩
  | sign n =>
    refine ⟨?_, rfl⟩
    simp only [Fd.rd]
    split
    · exact go_len _ _ _
    · rw [fail_len]; exact go_len _ _ _
  | tail i =>
    refine ⟨Nat.le_trans (go_len _ _ _) ?_, by simp [Fd.rd]⟩
    split
    · exact Nat.le_refl _
    · exact Nat.le_refl _
/-- blocks that are there, and neither the Reader's nor the message's -/
def OkR (F : Nat → Prop) (w : World) (b p : Nat) : Prop := ∀ k, F k → k < w.heap.size ∧ k ≠ b ∧ k ≠ p
theorem OkR.below {F : Nat → Prop} {w w' : World} {b p : Nat} (h : OkR F w b p) (hz : w.heap.size ≤ w'.heap.size) : OkR F w' b p := fun k hk => ⟨Nat.lt_of_lt_of_le (h k hk).1 hz, (h k hk).2⟩
/-- a Reader, and a message -/
structure RB (F : Nat → Prop) (w0 w : World) (b p : Nat) (x : Rs × List Value) (t : TypeId) : Prop where
  r : RR w p x.1.l x.1.e
  k : Bk w b x.2 t
  f : Fr F w0 w
theorem RB.set {F : Nat → Prop} {w0 w : World} {b p : Nat} {st : Rs} {cs : List Value} {t : TypeId} (h : RB F w0 w b p (st, cs) t) (hF : OkR F w0 b p) (hbp : b ≠ p) (i : Nat) (v : Value) : RB F w0 (w.setCell ⟨b, i, none⟩ v) b p (st, cs.set i v) t :=
  ⟨h.r.set_ne hbp.symm i v, h.k.set i v, h.f.trans ⟨rfl, rfl, rfl, by simp [World.setCell], fun k hk => Below.heap_setCell _ _ _ k (hF k hk).2.1⟩⟩
theorem RB.call {F : Nat → Prop} {w0 w w1 w' : World} {b p : Nat} {st st' : Rs} {cs : List Value} {t : TypeId} (h : RB F w0 w b p (st, cs) t) (hF : OkR F w0 b p) (hbp : b ≠ p) (hB : Below w.heap.size w w1) (hr : RR w' p st'.l st'.e) (hS : Sole p w1 w') : RB F w0 w' b p (st', cs) t :=
  ⟨hr, (h.k.below hB h.k.lt).sole hS hbp, (h.f.trans (Fr.of_below hB fun i hi => Nat.lt_of_lt_of_le (hF i hi).1 h.f.size)).trans ⟨hS.os, hS.tape, hS.output, hS.size, fun i hi => hS.block i (Nat.lt_of_lt_of_le (Nat.lt_of_lt_of_le (hF i hi).1 h.f.size) hB.size) (hF i hi).2.2⟩⟩
theorem RB.has {F : Nat → Prop} {w0 w : World} {b p : Nat} {x : Rs × List Value} {t : TypeId} {i : Nat} (hi : i < x.2.length) (h : RB F w0 w b p x t) : (∃ v, w.cell? ⟨b, i, none⟩ = some v) ∧ w.frozen? ⟨b, i, none⟩ = false :=
  ⟨⟨x.2[i], h.k.cell i (List.getElem?_eq_getElem hi)⟩, h.k.frozen i⟩
theorem plain_len (l : List UInt8) : decide (((l.length : Nat) : Int) ≤ 1000 ∧ ((l.length : Nat) : Int) % 4 = 0) = decide (plainB l) := by
  apply decide_eq_decide.2
  unfold plainB
  omega
theorem read_fd {F : Nat → Prop} {b p : Nat} {st : Rs} {cs : List Value} {t : TypeId} {w0 w : World} (f : Fd) (h : RB F w0 w b p (st, cs) t) (hF : OkR F w0 b p) (hbp : b ≠ p) (hi : f.fits cs.length) (hl : st.l.length ≤ 281474976710656) :
    Calls Tryz.prog f.readK #[f.agg b, .pointer (some ⟨p, 0, none⟩)] w fun e w' => e = .returned (.tuple #[]) ∧ RB F w0 w' b p (f.rd (st, cs)) t := by
  have hp := h.r.lt
  cases f with
  | word i =>
    exact (word_read (R := fun w' => RB F w0 w' b p ((st.go 0 rdWord).2, cs) t) b i p _ w hp (fun w1 hB => (ruint_any p st.l st.e w1 (h.r.below hB)).mono fun e w' hp => ⟨hp.1, h.call hF hbp hB hp.2.1 hp.2.2, hp.2.2⟩) (fun w' hR => RB.has (x := (_, cs)) (show i < cs.length from hi) hR)).mono fun e w'' hq => by
      obtain ⟨e1, w', h1, rfl⟩ := hq
      exact ⟨e1, h1.set hF hbp i _⟩
  | flag i =>
    exact (flag_read (R := fun w' => RB F w0 w' b p ((st.go false rdBool).2, cs) t) b i p _ w hp (fun w1 hB => (rbool_any p st.l st.e w1 (h.r.below hB)).mono fun e w' hp => ⟨hp.1, h.call hF hbp hB hp.2.1 hp.2.2, hp.2.2⟩) (fun w' hR => RB.has (x := (_, cs)) (show i < cs.length from hi) hR)).mono fun e w'' hq => by
      obtain ⟨e1, w', h1, rfl⟩ := hq
      exact ⟨e1, h1.set hF hbp i _⟩
  | small i m =>
    exact (small_read (R := fun w' => RB F w0 w' b p ((st.go 0 (rdCount m)).2, cs) t) b i p m _ w hp (fun w1 hB => (rcount_any p m st.l st.e w1 (h.r.below hB)).mono fun e w' hp => ⟨hp.1, h.call hF hbp hB hp.2.1 hp.2.2, hp.2.2⟩) (fun w' hR => RB.has (x := (_, cs)) (show i < cs.length from hi) hR)).mono fun e w'' hq => by
      obtain ⟨e1, w', h1, rfl⟩ := hq
      exact ⟨e1, h1.set hF hbp i _⟩
  | body i m =>
    exact (body_read (R := fun w' => RB F w0 w' b p ((st.go [] (rdOpaque m)).2, cs) t) b i p m _ w hp (fun w1 hB => (ropaque_any p m st.l st.e w1 (h.r.below hB) hl).mono fun e w' hp => ⟨hp.1, h.call hF hbp hB hp.2.1 hp.2.2, hp.2.2⟩) (fun w' hR => RB.has (x := (_, cs)) (show i < cs.length from hi) hR)).mono fun e w'' hq => by
      obtain ⟨e1, w', h1, rfl⟩ := hq
      exact ⟨e1, h1.set hF hbp i _⟩
  | sign n =>
    by_cases hn : ((st.go 0 rdWord).1 : Int) = n
    · refine (sign_read_ok (R := fun w' => RB F w0 w' b p ((st.go 0 rdWord).2, cs) t) p n _ w hp (bne_eq_false_iff_eq.2 hn) (fun w1 hB => (ruint_any p st.l st.e w1 (h.r.below hB)).mono fun e w' hp => ⟨hp.1, h.call hF hbp hB hp.2.1 hp.2.2, hp.2.2⟩)).mono fun e w'' hq => ⟨hq.1, ?_⟩
      simp only [Fd.rd, if_pos hn]
      exact hq.2
    · refine (sign_read_bad (R := fun w' => RB F w0 w' b p ((st.go 0 rdWord).2, cs) t) (Q := fun w' => RB F w0 w' b p ((st.go 0 rdWord).2.fail 121, cs) t) p n _ w hp (bne_iff_ne.2 hn) (fun w1 hB => (ruint_any p st.l st.e w1 (h.r.below hB)).mono fun e w' hp => ⟨hp.1, h.call hF hbp hB hp.2.1 hp.2.2, hp.2.2⟩)
        (fun w' hR => (rfail_any p 121 _ w' hR.r).mono fun e w'' hq => ⟨hq.1, hR.call hF hbp (Below.refl _ _) hq.2.1 hq.2.2⟩)).mono fun e w'' hq => ⟨hq.1, ?_⟩
      simp only [Fd.rd, if_neg hn]
      exact hq.2
  | tail i =>
    by_cases hn : plainB st.l
    · refine (tail_read_ok (R := fun w' => RB F w0 w' b p ((st.go [] rdRest).2, cs) t) b i p ⟨(st.go [] rdRest).1.toArray⟩ st.l.length w hp (by omega) (by rw [plain_len]; exact decide_eq_true hn) (fun w1 hB => by
        have := rleft_any p _ w1 (h.r.below hB).l
        rw [ba_size] at this
        exact this) (fun w1 hB => (rrest_any p st.l st.e w1 (h.r.below hB) hl).mono fun e w' hp => ⟨hp.1, h.call hF hbp hB hp.2.1 hp.2.2, hp.2.2⟩) (fun w' hR => RB.has (x := (_, cs)) (show i < cs.length from hi) hR)).mono fun e w'' hq => ?_
      obtain ⟨e1, w', h1, rfl⟩ := hq
      refine ⟨e1, ?_⟩
      simp only [Fd.rd, if_pos hn]
      exact h1.set hF hbp i _
    · refine (tail_read_bad (R := fun w' => RB F w0 w' b p (((st.fail 121).go [] rdRest).2, cs) t) (Q := fun w' => RB F w0 w' b p (st.fail 121, cs) t) b i p ⟨((st.fail 121).go [] rdRest).1.toArray⟩ st.l.length w hp (by omega) (by rw [plain_len]; exact decide_eq_false hn) (fun w1 hB => by
        have := rleft_any p _ w1 (h.r.below hB).l
        rw [ba_size] at this
        exact this) (fun w1 hB => (rfail_any p 121 st w1 (h.r.below hB)).mono fun e w' hp => ⟨hp.1, h.call hF hbp hB hp.2.1 hp.2.2, hp.2.2⟩)
        (fun w1 k hQ => by
          have hB : Below w1.heap.size w1 (w1.drewN k) := below_drew (Below.refl _ _) k
          exact (rrest_any p (st.fail 121).l (st.fail 121).e (w1.drewN k) (hQ.r.below hB) hl).mono fun e w' hp => ⟨hp.1, hQ.call hF hbp hB hp.2.1 hp.2.2, hp.2.2⟩) (fun w' hR => RB.has (x := (_, cs)) (show i < cs.length from hi) hR)).mono fun e w'' hq => ?_
      obtain ⟨e1, w', h1, rfl⟩ := hq
      refine ⟨e1, ?_⟩
      simp only [Fd.rd, if_neg hn]
      exact h1.set hF hbp i _
/-- a table read -/
def rdT : List (Bool × Fd) → Rs × List Value → Rs × List Value
  | [], x => x
  | r :: t, x => rdT t (if r.1 then r.2.rd x else x)
theorem rdT_append (a c : List (Bool × Fd)) (x : Rs × List Value) : rdT (a ++ c) x = rdT c (rdT a x) := by
  induction a generalizing x with
  | nil => rfl
  | cons r a ih => exact ih _
theorem rdT_len (t : List (Bool × Fd)) (x : Rs × List Value) : (rdT t x).1.l.length ≤ x.1.l.length ∧ (rdT t x).2.length = x.2.length := by
  induction t generalizing x with
  | nil => exact ⟨Nat.le_refl _, rfl⟩
  | cons r t ih =>
    have h1 := ih (if r.1 then r.2.rd x else x)
    have h2 : (if r.1 then r.2.rd x else x).1.l.length ≤ x.1.l.length ∧ (if r.1 then r.2.rd x else x).2.length = x.2.length := by
      split
      · exact Fd.rd_len _ _
      · exact ⟨Nat.le_refl _, rfl⟩
    exact ⟨Nat.le_trans h1.1 h2.1, h1.2.trans h2.2⟩
set_option maxRecDepth 4000 in
set_option maxHeartbeats 4000000 in
theorem readRows_any (F : Nat → Prop) (b p q : Nat) (tab : List (Bool × Fd)) (x : Rs × List Value) (t t2 : TypeId) (w : World) (hr : RR w p x.1.l x.1.e) (hb : Bk w b x.2 t) (hF : OkR F w b p) (hbp : b ≠ p)
    (hq : Bk w q (rowsV b tab) t2) (hFq : F q) (hn : tab.length ≤ 100) (hfit : ∀ r ∈ tab, r.2.fits x.2.length) (hl : x.1.l.length ≤ 281474976710656) :
    Calls Tryz.prog 89 #[.pointer (some ⟨p, 0, none⟩), .slice (some ⟨q, 0, none⟩) tab.length tab.length] w fun e w' => e = .returned (.tuple #[]) ∧ RB F w w' b p (rdT tab x) t := by
  obtain ⟨n, hN⟩ : ∃ n, tab.length = n := ⟨_, rfl⟩
  have HN := hid hN
  rw [hN] at hn ⊢
  have H0 : Hid (RB F w w b p x t) := ⟨hr, hb, Fr.refl _ _⟩
  have HF := hid hF
  have HQ := hid (And.intro hq hFq)
  have HBP := hid hbp
  have HFT := hid hfit
  have HL := hid hl
  clear hr hb hF hbp hq hFq hfit hl hN
  go_enter Tryz.func89, Tryz.ntmps89
  go_wp2_with fail
  go_loopw [8] (fun ix wr => ∃ j : Nat, ix = .int .i64 j ∧ j ≤ n ∧ Hid (RB F w wr b p (rdT (tab.take j) x) t)) (fun ix _ => 200 - (intOf ix).toNat)
  case atStart => exact ⟨0, rfl, by omega, H0⟩
  case round =>
    obtain ⟨j, rfl, hj, HR⟩ := hrel
    by_cases hlt : j < n
    · obtain ⟨⟨s, f⟩, e1⟩ : ∃ r, tab[j]? = some r := ⟨tab[j]'(by rw [HN.out]; exact hlt), List.getElem?_eq_getElem _⟩
      obtain ⟨v0, v1⟩ := rowsV_at b tab j (s, f) e1
      have hq1 : Bk wr q _ _ := HQ.out.1.of (HR.out.f.block q HQ.out.2)
      have c0 := hq1.cell (j * 2) v0
      have c1 := hq1.cell (j * 2 + 1) v1
      have hml := disp_read b f
      have hcl := call_read f
      have HTM : Hid (rdT (tab.take (j + 1)) x = if s then f.rd (rdT (tab.take j) x) else rdT (tab.take j) x) := by
        show _ = _
        rw [take_more e1, rdT_append]
        rfl
      have HRD : Hid (s = true → ∀ w1, Below wr.heap.size wr w1 → Calls Tryz.prog f.readK #[f.agg b, .pointer (some ⟨p, 0, none⟩)] w1 fun e w' => e = .returned (.tuple #[]) ∧ RB F w w' b p (rdT (tab.take (j + 1)) x) t) := fun hs w1 hB => by
        rw [HTM.out, if_pos hs]
        have h1 := HR.out
        have hlen := rdT_len (tab.take j) x
        have h2 : RB F w w1 b p (rdT (tab.take j) x) t := ⟨h1.r.below hB, h1.k.below hB h1.k.lt, h1.f.trans (Fr.of_below hB fun i hi => Nat.lt_of_lt_of_le (HF.out i hi).1 h1.f.size)⟩
        exact read_fd f h2 HF.out HBP.out (by rw [hlen.2]; exact HFT.out _ (List.mem_of_getElem? e1)) (Nat.le_trans hlen.1 HL.out)
      have HRN : Hid (s = false → RB F w wr b p (rdT (tab.take (j + 1)) x) t) := fun hs => by
        subst hs
        rw [HTM.out, if_neg (by decide)]
        exact HR.out
      generalize f.readK = KL at hml hcl HRD
      generalize f.agg b = V at c1 hml HRD
      generalize f.ty = Y at c1 hml
      clear hq1 v0 v1 e1
      simp only at c0 c1
      obtain ⟨wx, hwx⟩ : ∃ y, wr.alloc (.cells #[.bool s, .iface Y V] 185) = y := ⟨_, rfl⟩
      obtain ⟨hk, hB, hz⟩ := boxed wr wx _ _ hwx
      have HB := hid hB
      have x0 := hk.cell 0 rfl
      have x1 := hk.cell 1 rfl
      clear hk hB hz
      cases s
      · have HR3 : Hid (RB F w wx b p (rdT (tab.take (j + 1)) x) t) := by
          have h1 := HRN.out rfl
          exact ⟨h1.r.below HB.out, h1.k.below HB.out h1.k.lt, h1.f.trans (Fr.of_below HB.out fun i hi => Nat.lt_of_lt_of_le (HF.out i hi).1 h1.f.size)⟩
        clear HRD HRN
        go_wp2
        go_roundw
        case rel => exact ⟨j + 1, by go_num, by omega, HR3⟩
        case measure => simp [intOf]; omega
      · have HLY2 := hid (HRD.out rfl)
        clear HRD HRN
        go_wp2_with fail
        refine (HLY2.out _ HB.out).mono ?_
        rintro e w2 ⟨rfl, hw2⟩
        have HR3 := hid hw2
        clear hw2 HLY2
        go_wp2
        go_roundw
        case rel => exact ⟨j + 1, by go_num, by omega, HR3⟩
        case measure => simp [intOf]; omega
    · obtain rfl : j = n := by omega
      have HE : Hid (tab.take j = tab) := List.take_of_length_le (by rw [HN.out]; exact Nat.le_refl _)
      go_wp2
      first | go_end0 | refine bodyPost_ret (results_none rfl _ _ _) rfl ?_
      rw [HE.out] at HR
      exact ⟨rfl, HR.out⟩
end Go.Proofs.YtfcbjcebkahehaaGreatDoor
