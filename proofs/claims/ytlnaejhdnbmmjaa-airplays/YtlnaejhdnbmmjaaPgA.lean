/- Datagrams in memory: rows of them; are two the same? The program's Air in memory: has, cut, Now, Tick, New. The program's Air: Tick; one more; one less. -/
import Derived.Test.YtlnaejhdnbmmjaaRows
import Derived.WalkKit
import Derived.Below
import Derived.Deep.AppendLies
import Derived.Deep.RegionLaw
import Derived.BigRegion
import Derived.Laws.IdiomStrings
import Derived.Laws.StructEq
import Derived.Deep.QuietTactic
import Derived.BigQuiet
import Derived.StillTailTactics
namespace Go.Proofs.Ytlnaejhdnbmmjaa
open Go.RowKit

structure Pk where
  fr : Int
  to : Int
  da : ByteArray
deriving DecidableEq

abbrev pkA (p : Pk) : Value := .agg #[.int .i64 p.fr, .int .i64 p.to, .string p.da]
def pkC (p : Pk) : List Value := [.int .i64 p.fr, .int .i64 p.to, .string p.da]
def pks (l : List Pk) : List Value := l.flatMap pkC
theorem pks_len (l : List Pk) : (pks l).length = l.length * 3 := by
  induction l with
  | nil => rfl
  | cons t ts ih => simp [pks, pkC] at ih ⊢; omega
theorem pks_app (a b : List Pk) : pks (a ++ b) = pks a ++ pks b := by simp [pks]
theorem pks_one (p : Pk) : pks [p] = pkC p := by simp [pks]
theorem pks_take (l : List Pk) (n : Nat) : pks (l.take n) = (pks l).take (n * 3) := by
  induction l generalizing n with
  | nil => simp [pks]
  | cons x l ih =>
    cases n with
    | zero => simp [pks]
    | succ n =>
      have : pks (x :: l) = pkC x ++ pks l := rfl
      rw [List.take_succ_cons, show pks (x :: l.take n) = pkC x ++ pks (l.take n) from rfl, this, ih, List.take_append]
      have h3 : (pkC x).length = 3 := rfl
      rw [h3, List.take_of_length_le (l := pkC x) (by rw [h3]; omega), show (n + 1) * 3 - 3 = n * 3 by omega]
theorem pks_drop (l : List Pk) (n : Nat) : pks (l.drop n) = (pks l).drop (n * 3) := by
  induction l generalizing n with
  | nil => simp [pks]
  | cons x l ih =>
    cases n with
    | zero => simp [pks]
    | succ n =>
      have : pks (x :: l) = pkC x ++ pks l := rfl
      rw [List.drop_succ_cons, this, ih, List.drop_append]
      have h3 : (pkC x).length = 3 := rfl
      rw [h3, List.drop_of_length_le (l := pkC x) (by rw [h3]; omega), show (n + 1) * 3 - 3 = n * 3 by omega, List.nil_append]
theorem pks_at (l : List Pk) (i : Nat) (p : Pk) (h : l[i]? = some p) (o : Nat) (ho : o < 3) : (pks l)[i * 3 + o]? = (pkC p)[o]? := by
  induction l generalizing i with
  | nil => simp at h
  | cons x l ih =>
    have e : pks (x :: l) = pkC x ++ pks l := rfl
    have h3 : (pkC x).length = 3 := rfl
    rw [e]
    cases i with
    | zero =>
      simp only [List.getElem?_cons_zero, Option.some.injEq] at h
      subst h
      rw [List.getElem?_append_left (by omega)]; simp
    | succ i =>
      rw [List.getElem?_append_right (by omega), ← ih i (by simpa using h), h3]
      congr 1; omega
theorem pkC_one : ∀ (p : Pk) u, u ∈ pkC p → u.oneCell' = true := by intro p u h; simp [pkC] at h; rcases h with rfl | rfl | rfl <;> rfl
theorem pks_one' (l : List Pk) : ∀ u ∈ pks l, u.oneCell' = true := by
  intro u hu
  obtain ⟨p, _, hp⟩ := List.mem_flatMap.1 hu
  exact pkC_one p u hp

/-- datagrams that lie in memory -/
structure PkAt (w : World) (g off : Nat) (l : List Pk) : Prop where
  c0 : ∀ i t, l[i]? = some t → w.cell? ⟨g, off + i * 3, none⟩ = some (.int .i64 t.fr)
  c1 : ∀ i t, l[i]? = some t → w.cell? ⟨g, off + i * 3 + 1, none⟩ = some (.int .i64 t.to)
  c2 : ∀ i t, l[i]? = some t → w.cell? ⟨g, off + i * 3 + 2, none⟩ = some (.string t.da)
def PkRow (w : World) (v : Value) (l : List Pk) : Prop := ∃ oa cap g off, v = .slice oa l.length cap ∧ (0 < l.length → oa = some ⟨g, off, none⟩) ∧ PkAt w g off l
theorem PkAt.drewN {w : World} {g off : Nat} {l : List Pk} (h : PkAt w g off l) (n : Nat) : PkAt (w.drewN n) g off l := ⟨h.c0, h.c1, h.c2⟩
theorem PkAt.of_cells {w : World} {g off : Nat} {l : List Pk} (h : ∀ j u, (pks l)[j]? = some u → w.cell? ⟨g, off + j, none⟩ = some u) : PkAt w g off l := by
  refine ⟨fun i t ht => ?_, fun i t ht => ?_, fun i t ht => ?_⟩
  · have := h (i * 3 + 0) _ ((pks_at l i t ht 0 (by omega)).trans rfl)
    simpa [Nat.add_assoc] using this
  · have := h (i * 3 + 1) _ ((pks_at l i t ht 1 (by omega)).trans rfl)
    simpa [Nat.add_assoc] using this
  · have := h (i * 3 + 2) _ ((pks_at l i t ht 2 (by omega)).trans rfl)
    simpa [Nat.add_assoc] using this
theorem PkAt.cells {w : World} {g off : Nat} {l : List Pk} (h : PkAt w g off l) : ∀ j u, (pks l)[j]? = some u → w.cell? ⟨g, off + j, none⟩ = some u := by
  intro j u hu
  have hj : j < l.length * 3 := by
    have := (List.getElem?_eq_some_iff.1 hu).1
    rw [pks_len] at this; exact this
  have hi : j / 3 < l.length := by omega
  have ht := List.getElem?_eq_getElem hi
  have e := pks_at l (j / 3) _ ht (j % 3) (Nat.mod_lt _ (by omega))
  rw [show j / 3 * 3 + j % 3 = j by omega, hu] at e
  have hm : j % 3 = 0 ∨ j % 3 = 1 ∨ j % 3 = 2 := by omega
  rcases hm with hm | hm | hm <;> rw [hm] at e
  · have := h.c0 _ _ ht
    rw [show off + j / 3 * 3 = off + j by omega] at this
    rw [this]; exact e.symm
  · have := h.c1 _ _ ht
    rw [show off + j / 3 * 3 + 1 = off + j by omega] at this
    rw [this]; exact e.symm
  · have := h.c2 _ _ ht
    rw [show off + j / 3 * 3 + 2 = off + j by omega] at this
    rw [this]; exact e.symm
theorem PkAt.of_block {w w' : World} {g off : Nat} {l : List Pk} (h : PkAt w g off l) (e : w'.heap[g]? = w.heap[g]?) : PkAt w' g off l :=
  ⟨fun i t ht => (World.cell?_of_block (a := ⟨g, _, none⟩) e).trans (h.c0 i t ht), fun i t ht => (World.cell?_of_block (a := ⟨g, _, none⟩) e).trans (h.c1 i t ht), fun i t ht => (World.cell?_of_block (a := ⟨g, _, none⟩) e).trans (h.c2 i t ht)⟩
theorem PkAt.lt {w : World} {g off : Nat} {l : List Pk} (h : PkAt w g off l) (hl : 0 < l.length) : g < w.heap.size := by
  rcases Nat.lt_or_ge g w.heap.size with h1 | h1
  · exact h1
  · have := h.c0 0 _ (List.getElem?_eq_getElem hl)
    simp [World.cell?, Array.getElem?_eq_none h1] at this

theorem fields37 : Try.prog.underlying 37 = some (.struct (Try.prog.fieldsOf 37)) := by kernel_rfl
theorem fieldsOf37 : (Try.prog.fieldsOf 37).toList = [⟨"From", 3, 0, false, "", "", 0⟩, ⟨"To", 3, 1, false, "", "", 8⟩, ⟨"Data", 9, 2, false, "", "", 16⟩] := by unfold Program.fieldsOf; rw [Try.underlying37]
theorem stood37 : Try.prog.stoodInHeld 37 = false := by kernel_rfl
theorem guard37 : Try.prog.eqGuardType Try.prog.depth 37 = false := by kernel_rfl
theorem bytes_beq (a b : ByteArray) : (a.toList == b.toList) = decide (a = b) := by
  rw [ByteArray.toList_eq, ByteArray.toList_eq, Bool.eq_iff_iff]
  simp
  constructor
  · intro h; cases a; cases b; simpa using h
  · intro h; rw [h]
theorem pk_eq (a b : Pk) : decide (a = b) = (a.fr == b.fr && (a.to == b.to && decide (a.da = b.da))) := by
  obtain ⟨k1, t1, n1⟩ := a
  obtain ⟨k2, t2, n2⟩ := b
  rw [Bool.eq_iff_iff]; simp
theorem part3 (w : World) (xs : Array Value) (o : Nat) (v : Value) (h : xs[o]? = some v) : (part 3 xs o).run Try.prog w = .ok v w := by
  unfold part isAgg
  simp [run_underlying Try.underlying3, h]
theorem part9 (w : World) (xs : Array Value) (o : Nat) (v : Value) (h : xs[o]? = some v) : (part 9 xs o).run Try.prog w = .ok v w := by
  unfold part isAgg
  simp [run_underlying Try.underlying9, h]
theorem equalIn37 (w : World) (a b : Pk) : (Op.equalIn 10000 37 (pkA a) (pkA b)).run Try.prog w = .ok (decide (a = b)) w := by
  rw [run_equalIn_agg (ht := fields37) (hp := stood37), fieldsOf37, pk_eq]
  have ek : ∀ x y : Int, (Op.equalIn 9999 3 (.int .i64 x) (.int .i64 y)).run Try.prog w = .ok (x == y) w := fun (x y : Int) => run_equalIn_int (P := Try.prog) w 9998 3 .i64 .i64 x y Try.underlying3
  have es : ∀ x y : ByteArray, (Op.equalIn 9999 9 (.string x) (.string y)).run Try.prog w = .ok (x.toList == y.toList) w := fun (x y : ByteArray) => run_equalIn_string (P := Try.prog) w 9998 9 x y Try.underlying9
  have n1 : "From" ≠ "_" := by decide
  have n2 : "To" ≠ "_" := by decide
  have n3 : "Data" ≠ "_" := by decide
  simp only [Op.eqFields, if_pos n1, if_pos n2, if_pos n3, Sem.run_bind]
  rw [part3 w _ 0 (.int .i64 a.fr) rfl]
  simp only [Result.andThen_ok]
  rw [part3 w _ 0 (.int .i64 b.fr) rfl]
  simp only [Result.andThen_ok]
  rw [ek]
  simp only [Result.andThen_ok]
  cases a.fr == b.fr
  · rfl
  simp only [Bool.not_true, Bool.false_eq_true, if_false, Sem.run_bind]
  rw [part3 w _ 1 (.int .i64 a.to) rfl]
  simp only [Result.andThen_ok]
  rw [part3 w _ 1 (.int .i64 b.to) rfl]
  simp only [Result.andThen_ok]
  rw [ek]
  simp only [Result.andThen_ok]
  cases a.to == b.to
  · rfl
  simp only [Bool.not_true, Bool.false_eq_true, if_false, Sem.run_bind]
  rw [part9 w _ 2 (.string a.da) rfl]
  simp only [Result.andThen_ok]
  rw [part9 w _ 2 (.string b.da) rfl]
  simp only [Result.andThen_ok]
  rw [es, bytes_beq]
  simp only [Result.andThen_ok]
  cases decide (a.da = b.da)
  · rfl
  · rfl
theorem eql37 (w : World) (a b : Pk) : (binOp .eql 37 (pkA a) (pkA b)).run Try.prog w = .ok (.bool (decide (a = b))) w := by
  rw [run_eql_struct, equalIn37]; rfl
theorem neq37 (w : World) (a b : Pk) : (binOp .neq 37 (pkA a) (pkA b)).run Try.prog w = .ok (.bool (!decide (a = b))) w := by
  rw [run_neq_struct, equalIn37]; rfl
theorem guard37n (w : World) (op : BinOp) (x y : Operand) (xs ys : Array Value) : (eqGuard op 37 x y (.agg xs) (.agg ys)).run Try.prog w = .ok () w := run_eqGuard_agg w op 37 x y xs ys guard37

theorem take_succ_same {a b : List Pk} {k : Nat} {t u : Pk} (h : a.take k = b.take k) (ha : a[k]? = some t) (hb : b[k]? = some u) (e : t = u) : a.take (k + 1) = b.take (k + 1) := by
  rw [List.take_add_one, List.take_add_one, h, ha, hb, e]

set_option maxHeartbeats 1000000 in
theorem same_any (a b : List Pk) (va vb : Value) (w : World) (ha : PkRow w va a) (hb : PkRow w vb b) (hl : (a.length : Int) ≤ 1000000000000) :
    Calls Try.prog 16 #[va, vb] w fun e w' => e = .returned (.bool (decide (a = b))) ∧ ∃ n, w' = w.drewN n := by
  obtain ⟨oa, cap, g, off, rfl, hoa, hA⟩ := ha
  obtain ⟨ob, capb, g2, off2, rfl, hob, hB⟩ := hb
  obtain ⟨n, hn⟩ : ∃ n, a.length = n := ⟨_, rfl⟩
  by_cases hnm : a.length = b.length
  · rw [← hnm] at hob ⊢
    rw [hn] at hl hoa hob ⊢
    obtain ⟨R, hR⟩ : ∃ R, decide (a = b) = R := ⟨_, rfl⟩
    rw [hR]
    have HR : Hid (decide (a = b) = R) := hR
    have HN : Hid (a.length = n ∧ b.length = n) := ⟨hn, by omega⟩
    have hg := fun w op x y xs ys => guard37n w op x y xs ys
    clear hnm hn hR
    go_enter Try.func16, Try.ntmps16
    go_wp2_with fail
    go_loopw [5] (fun i wr => ∃ k m : Nat, i = .int .i64 k ∧ k ≤ n ∧ wr = w.drewN m ∧ Hid (a.take k = b.take k)) (fun i _ => n - (intOf i).toNat)
    case atStart => exact ⟨0, 0, rfl, by omega, rfl, rfl⟩
    case round =>
      obtain ⟨k, m, rfl, hk, rfl, HK⟩ := hrel
      by_cases hlt : k < n
      · have hk' : (k : Int) < n := by omega
        have hoa' := hoa (by omega)
        have hob' := hob (by omega)
        subst hoa' hob'
        obtain ⟨ta, hta⟩ : ∃ t, a[k]? = some t := ⟨_, List.getElem?_eq_getElem (by rw [HN.out.1]; exact hlt)⟩
        obtain ⟨tb, htb⟩ : ∃ t, b[k]? = some t := ⟨_, List.getElem?_eq_getElem (by rw [HN.out.2]; exact hlt)⟩
        have a0 := hA.c0 k ta hta
        have a1 := hA.c1 k ta hta
        have a2 := hA.c2 k ta hta
        have b0 := hB.c0 k tb htb
        have b1 := hB.c1 k tb htb
        have b2 := hB.c2 k tb htb
        have HTA : Hid (a[k]? = some ta) := hta
        have HTB : Hid (b[k]? = some tb) := htb
        have hq := fun w => neq37 w ta tb
        clear hoa hob hA hB hta htb
        cases hd : decide (ta = tb)
        · have HF : Hid (R = false) := by
            show _ = _
            rw [← HR.out]
            refine decide_eq_false fun e => ?_
            have h1 := HTA.out
            rw [e, HTB.out] at h1
            have h2 := of_decide_eq_false hd
            exact h2 (Option.some.inj h1).symm
          rw [hd] at hq
          clear hd
          go_wp2_with fail
          go_quiet (fail)
          go_wp2
          go_ret
          exact ⟨by rw [HF.out]; rfl, _, World.drewN_drewN _ _ _⟩
        · have HT : Hid (a.take (k + 1) = b.take (k + 1)) := take_succ_same HK.out HTA.out HTB.out (of_decide_eq_true hd)
          rw [hd] at hq
          clear hd
          go_wp2_with fail
          go_quiet (fail)
          go_wp2
          go_roundw
          case rel => exact ⟨k + 1, _, by go_num, by omega, rfl, HT.out⟩
          case measure => simp [intOf]; omega
      · obtain rfl : k = n := by omega
        have HF : Hid (R = true) := by
          show _ = _
          rw [← HR.out]
          have h1 := HK.out
          rw [List.take_of_length_le (by rw [HN.out.1]; omega), List.take_of_length_le (by rw [HN.out.2]; omega)] at h1
          exact decide_eq_true h1
        go_wp2
        go_ret
        exact ⟨by rw [HF.out]; rfl, _, rfl⟩
  · have hR : decide (a = b) = false := decide_eq_false fun e => hnm (by rw [e])
    rw [hR]
    have hne : ((a.length : Int) == (b.length : Int)) = false := beq_eq_false_iff_ne.2 (by omega)
    clear hnm hn hR
    go_enter Try.func16, Try.ntmps16
    go_wp2
    go_ret
    exact ⟨rfl, 0, rfl⟩
end Go.Proofs.Ytlnaejhdnbmmjaa
namespace Go.Proofs.Ytlnaejhdnbmmjaa
open Go.RowKit

theorem info37_ex : ∃ i : TypeInfo, Try.prog.info? 37 = some i ∧ i.zero = some (.agg #[.int .i64 0, .int .i64 0, .string ⟨#[]⟩]) ∧ i.size = 3 ∧ i.bytes = 32 :=
  ⟨(Try.prog.info? 37).getD default, by kernel_rfl, by kernel_rfl, by kernel_rfl, by kernel_rfl⟩

/-- nothing is appended -/
theorem app_none (w : World) (ty : TypeId) (oa ob : Option Addr) (n c d : Nat) (h : n ≤ c) :
    (Builtin.append_ #[43, 43] ty #[.slice oa n c, .slice ob 0 d]).run Try.prog w = .ok (.slice oa n c) w := by
  obtain ⟨i, hi, _, _, _⟩ := info37_ex
  cases oa <;> cases ob <;> simp [Builtin.append_, run_underlying Try.underlying43, sizeOf, typeInfo, hi, Builtin.lenOf, Builtin.firstCells, loadCells, loadCellsFrom, h, storeCells]

/-- something is appended where there is no room -/
theorem app_grow (w : World) (ty : TypeId) (oa : Option Addr) (n : Nat) (a b : List Pk) (g g2 off c : Nat) (hn : a.length = n) (hoa : oa = some ⟨g, 0, none⟩ ∨ oa = none ∧ n = 0) (ha : PkAt w g 0 a) (hb : PkAt w g2 off b) (h0 : 0 < b.length) (hm : n + b.length ≤ 1000000000) :
    ∃ cap w', (Builtin.append_ #[43, 43] ty #[.slice oa n n, .slice (some ⟨g2, off, none⟩) b.length c]).run Try.prog w = .ok (.slice (some ⟨w.heap.size, 0, none⟩) (n + b.length) cap) w' ∧
      w'.ownsRow w.heap.size 37 3 (.slice (some ⟨w.heap.size, 0, none⟩) (n + b.length) cap) (n + b.length) (pks (a ++ b)) ∧ w.grownBy w' none ∧ w'.heap.size = w.heap.size + 1 := by
  obtain ⟨i, hi, hz, hs, hby⟩ := info37_ex
  have hlen : (pks a ++ pks b).length = (n + b.length) * 3 := by rw [List.length_append, pks_len, pks_len, hn]; omega
  have hge := grownCap_ge w (n + b.length) n 37
  have hcm : grownCap w (n + b.length) n 37 ≤ maxLen := grownCap_le_maxLen w _ _ _ (by unfold maxLen; omega)
  have hlb : (pks b).length = b.length * i.size := by rw [pks_len, hs]
  have hnews : ∀ j v, (pks b)[j]? = some v → w.cell? ((⟨g2, off, none⟩ : Addr).add j) = some v := fun j v hv => by rw [Addr.add_lit]; exact hb.cells j v hv
  have key : (Builtin.append_ #[43, 43] ty #[.slice oa n n, .slice (some ⟨g2, off, none⟩) b.length c]).run Try.prog w = .ok (.slice (some ⟨w.heap.size, 0, none⟩) (n + b.length) (grownCap w (n + b.length) n 37))
        (w.drew.alloc (.cells ((pks a).toArray ++ (pks b).toArray ++ Builtin.zeroCells (Value.agg #[.int .i64 0, .int .i64 0, .string ⟨#[]⟩]).cells (grownCap w (n + b.length) n 37 - (n + b.length))) 37)) := by
    rcases hoa with rfl | ⟨rfl, rfl⟩
    · exact run_append_grow (P := Try.prog) w 43 ty 37 i _ Try.underlying43 hi hz ⟨g, 0, none⟩ n n (pks a) (by rw [pks_len, hs, hn]) (fun j v hv => by rw [Addr.add_lit]; exact ha.cells j v hv) ⟨g2, off, none⟩ b.length c (pks b) hlb hnews (by omega) (by omega) (by rw [hby]; exact growslice_fits (by omega) (by omega))
    · obtain rfl : a = [] := List.eq_nil_of_length_eq_zero hn
      have := run_append_nil (P := Try.prog) w 43 ty 37 i _ Try.underlying43 hi hz ⟨g2, off, none⟩ b.length c (pks b) hlb hnews h0 (by omega) (by rw [hby]; omega)
      simpa [pks] using this
  refine ⟨_, _, key, ⟨by rw [pks_app]; exact hlen, .inr ⟨w.heap.size, _, _, rfl, Nat.le_refl _, heap_alloc_new w.drew _, hge, hcm, ?_, ?_⟩⟩, ⟨rfl, rfl, rfl, by simp, fun k hk _ => Below.heap_alloc w.drew _ k hk⟩, by simp⟩
  · simp only [Array.size_append, List.size_toArray, size_zeroCells, pks_len, hn]
    simp [Value.cells]; omega
  · rw [pks_app]
    simp only [Array.toList_append, List.append_assoc]
    rw [← List.append_assoc, ← hlen]
    exact List.take_left

/-- append in a region that draws, its run being known -/
theorem step_app {P : Program} {ops : Array Oper} {o : Oper} {a : Act} {w : World} {K : Act → World → Prop} {Q : Exit → Act → World → Prop} {E : Prop}
    (hg : o.guard = none) (s x : Operand) (t : TypeId) (hop : o.op = Op.call { callee := Callee.builtin Builtin.append, args := #[s, x], argTypes := #[t, t] })
    (v1 v2 r : Value) (w' : World) (hs : a.eval s = v1) (hx : a.eval x = v2) (hrun : (Builtin.append_ #[t, t] o.type #[v1, v2]).run P w = .ok r w') (hK : K (a.put o.dst r) w') :
    if Region.wanted o (yielded ops a.tmps) = true then Oper.wp P o a w K Q else E := by
  have hw : Region.wanted o (yielded ops a.tmps) = true := by simp [Region.wanted, hg]
  rw [if_pos hw]
  unfold Oper.wp
  simp [execOp, hop, resolve, invoke, builtin, hs, hx, hrun, Result.andThen]
  exact hK
theorem wpList_app {P : Program} {ops : Array Oper} {rest : List Oper} {o : Oper} {a : Act} {Q : Exit → Act → World → Prop} {w : World} (hgd : o.guard = none) (s x : Operand) (t : TypeId)
    (ho : o.op = .call { callee := .builtin .append, args := #[s, x], argTypes := #[t, t] }) (v1 v2 r : Value) (w' : World) (hs : a.eval s = v1) (hx : a.eval x = v2) (hrun : (Builtin.append_ #[t, t] o.type #[v1, v2]).run P w = .ok r w')
    (h : wpList P ops Q rest (a.put o.dst r) w') : wpList P ops Q (o :: rest) a w := by
  refine wpList_plain hgd fun K hK => ?_
  unfold Oper.wp execOp
  simp only [ho, resolve, invoke, builtin, Sem.run_bind, Sem.run_pure, Result.andThen_ok, List.map_toArray, List.map_cons, List.map_nil, hs, hx, hrun]
  exact hK _ _ h
theorem step_calls {P : Program} {ops : Array Oper} {o : Oper} {a : Act} {w : World} {K : Act → World → Prop} {Q : Exit → Act → World → Prop} {E : Prop} (hg : o.guard = none) (f : FuncId) (args : Array Value)
    (hrun : (execOp a.eval o).run P w = .ok (.enter f args) w) (post : Ending → World → Prop) (hC : Calls P f args w post) (h : ∀ e w', post e w' → ∃ v, e = .returned v ∧ K (a.put o.dst v) w') :
    if Region.wanted o (yielded ops a.tmps) = true then Oper.wp P o a w K Q else E := by
  have hw : Region.wanted o (yielded ops a.tmps) = true := by simp [Region.wanted, hg]
  rw [if_pos hw]
  unfold Oper.wp
  rw [hrun, Oper.upon_enter]
  refine hC.mono fun e w' hp => ?_
  obtain ⟨v, rfl, hk⟩ := h e w' hp
  exact hk

theorem run_call {P : Program} {o : Oper} {a : Act} {w : World} (f : FuncId) (xs : Array Operand) (ts : Array TypeId) (hop : o.op = Op.call { callee := .value (.func f), args := xs, argTypes := ts }) (args : Array Value) (ha : xs.map a.eval = args)
   (hcf : ∀ ys w, (callFunc f ys).run P w = .ok (.enter f ys) w) : (execOp a.eval o).run P w = .ok (.enter f args) w := by
  subst ha
  simp [execOp, hop, resolve, invoke, Act.eval, Deferred.ofValue, hcf]
/-- the same, told by its operands -/
theorem step_call {P : Program} {ops : Array Oper} {o : Oper} {a : Act} {w : World} {K : Act → World → Prop} {Q : Exit → Act → World → Prop} {E : Prop} (hg : o.guard = none) (f : FuncId) (xs : Array Operand) (ts : Array TypeId)
    (hop : o.op = Op.call { callee := .value (.func f), args := xs, argTypes := ts }) (args : Array Value) (ha : xs.map a.eval = args) (hcf : ∀ ys w, (callFunc f ys).run P w = .ok (.enter f ys) w) (post : Ending → World → Prop) (hC : Calls P f args w post) (h : ∀ e w', post e w' → ∃ v, e = .returned v ∧ K (a.put o.dst v) w') :
    if Region.wanted o (yielded ops a.tmps) = true then Oper.wp P o a w K Q else E := step_calls hg f args (run_call f xs ts hop args ha hcf) post hC h
theorem step_call3 {P : Program} {ops : Array Oper} {o : Oper} {a : Act} {w : World} {K : Act → World → Prop} {Q : Exit → Act → World → Prop} {E : Prop} (hg : o.guard = none) (f : FuncId) (x y z : Operand) (ts : Array TypeId)
    (hop : o.op = Op.call { callee := .value (.func f), args := #[x, y, z], argTypes := ts }) (u v t : Value) (hx : a.eval x = u) (hy : a.eval y = v) (hz : a.eval z = t) (hcf : ∀ ys w, (callFunc f ys).run P w = .ok (.enter f ys) w) (post : Ending → World → Prop) (hC : Calls P f #[u, v, t] w post) (h : ∀ e w', post e w' → ∃ v, e = .returned v ∧ K (a.put o.dst v) w') :
    if Region.wanted o (yielded ops a.tmps) = true then Oper.wp P o a w K Q else E := step_call hg f _ ts hop #[u, v, t] (by simp [hx, hy, hz]) hcf post hC h
theorem cf33 (ys : Array Value) (w : World) : (callFunc 33 ys).run Try.prog w = .ok (.enter 33 ys) w := by
  simp [callFunc, Try.func33, Try.f33]

/-- The program's Air: its block; its list, which lies from a block's beginning on. -/
structure PA (w : World) (p : Nat) (l : List Pk) (now : Int) (oa : Option Addr) (c g : Nat) : Prop where
  blk : w.heap[p]? = some (.cells #[.slice oa l.length c, .int .i64 now] 53 (0, 0))
  lc : l.length ≤ c
  oa : oa = some ⟨g, 0, none⟩ ∨ oa = none ∧ l = [] ∧ c = 0
  at_ : PkAt w g 0 l
  most : l.length ≤ 1000

section
variable {w : World} {p : Nat} {l : List Pk} {now : Int} {oa : Option Addr} {c g : Nat}
theorem PA.lt (h : PA w p l now oa c g) : p < w.heap.size := (Array.getElem?_eq_some_iff.1 h.blk).1
theorem PA.c0 (h : PA w p l now oa c g) : w.cell? ⟨p, 0, none⟩ = some (.slice oa l.length c) := by unfold World.cell?; rw [h.blk]; rfl
theorem PA.c1 (h : PA w p l now oa c g) : w.cell? ⟨p, 1, none⟩ = some (.int .i64 now) := by unfold World.cell?; rw [h.blk]; rfl
theorem PA.f0 (h : PA w p l now oa c g) : w.frozen? ⟨p, 0, none⟩ = false := by unfold World.frozen?; rw [h.blk]; rfl
theorem PA.f1 (h : PA w p l now oa c g) : w.frozen? ⟨p, 1, none⟩ = false := by unfold World.frozen?; rw [h.blk]; rfl
theorem PA.ne (h : PA w p l now oa c g) (hl : 0 < l.length) : g ≠ p := fun e => by
  have h0 := h.at_.c0 0 _ (List.getElem?_eq_getElem hl)
  have h1 := h.c0
  subst e
  rw [show (0 + 0 * 3) = 0 from rfl, h1] at h0
  cases h0
/-- what leaves the Air's block alone and its list's -/
theorem PA.kept {w' : World} (h : PA w p l now oa c g) (h1 : w'.heap[p]? = w.heap[p]?) (h2 : 0 < l.length → w'.heap[g]? = w.heap[g]?) : PA w' p l now oa c g := by
  refine ⟨h1.trans h.blk, h.lc, h.oa, ?_, h.most⟩
  rcases Nat.eq_zero_or_pos l.length with h0 | h0
  · obtain rfl := List.eq_nil_of_length_eq_zero h0
    exact ⟨fun i t h => by simp at h, fun i t h => by simp at h, fun i t h => by simp at h⟩
  · exact h.at_.of_block (h2 h0)
theorem PA.below {w' : World} (h : PA w p l now oa c g) (hB : Below w.heap.size w w') : PA w' p l now oa c g :=
  h.kept (hB.block p h.lt) (fun h0 => hB.block g (h.at_.lt h0))
theorem PA.drewN (h : PA w p l now oa c g) (n : Nat) : PA (w.drewN n) p l now oa c g := ⟨h.blk, h.lc, h.oa, h.at_.drewN n, h.most⟩
theorem PA.drew (h : PA w p l now oa c g) : PA w.drew p l now oa c g := ⟨h.blk, h.lc, h.oa, ⟨h.at_.c0, h.at_.c1, h.at_.c2⟩, h.most⟩
end

/-- an Air behind a call: its list lies where it lay, or in new memory -/
def PAx (w w' : World) (p : Nat) (l : List Pk) (now : Int) (g : Nat) : Prop := ∃ oa' c' g', PA w' p l now oa' c' g' ∧ (g' = g ∨ w.heap.size ≤ g' ∧ g' < w'.heap.size)
theorem PA.x {w : World} {p : Nat} {l : List Pk} {now : Int} {oa : Option Addr} {c g : Nat} (h : PA w p l now oa c g) (w0 : World) : PAx w0 w p l now g := ⟨_, _, _, h, .inl rfl⟩
theorem PAx.mono {w w0 w' : World} {p : Nat} {l : List Pk} {now : Int} {g : Nat} (h : PAx w w' p l now g) (hs : w0.heap.size ≤ w.heap.size) : PAx w0 w' p l now g := by
  obtain ⟨a, b, c, h1, h2⟩ := h
  exact ⟨a, b, c, h1, h2.imp id fun h => ⟨Nat.le_trans hs h.1, h.2⟩⟩

def hasP (l : List Pk) (n : Int) : Bool := decide (0 ≤ n) && decide (n < (l.length : Int))

theorem has_any {w : World} {p : Nat} {l : List Pk} {now : Int} {oa : Option Addr} {c g : Nat} (n : Int) (h : PA w p l now oa c g) :
    Calls Try.prog 29 #[.pointer (some ⟨p, 0, none⟩), .int .i64 n] w fun e w' => e = .returned (.bool (hasP l n)) ∧ w' = w := by
  have h0 := h.c0
  unfold hasP
  generalize l.length = m at *
  clear h
  cases h1 : decide (0 ≤ n) <;> cases h2 : decide (n < (m : Int))
  all_goals (
    go_enter Try.func29, Try.ntmps29
    go_wp2
    go_ret
    exact ⟨rfl, rfl⟩)

def cutV (oa : Option Addr) (f t : Nat) : Value := .slice (if t = f then oa else oa.map (·.add (f * 3))) (t - f) (t - f)

theorem cut_run (w : World) (oa : Option Addr) (n c f t : Nat) (h1 : f ≤ t) (h2 : t ≤ c) :
    (Instr.slice 43 (.slice oa n c) (some (.int .i64 f)) (some (.int .i64 t)) (some (.int .i64 t))).run Try.prog w = .ok (cutV oa f t) w := by
  obtain ⟨i, hi, _, hs, _⟩ := info37_ex
  have e1 : ¬ ((t : Int) < (f : Int)) := by omega
  have a1 : (0 : Int) ≤ f ∧ (f : Int) ≤ t := by omega
  have a2 : (0 : Int) ≤ t ∧ (t : Int) ≤ c := by omega
  have a3 : (0 : Int) ≤ t ∧ (t : Int) ≤ t := by omega
  simp [Instr.slice, Instr.sliceBounds, Instr.sliceBound, run_underlying Try.underlying43, sizeOf, typeInfo, hi, hs, cutV, asIntOf, h1, h2]

theorem cut_any {w : World} {p : Nat} {l : List Pk} {now : Int} {oa : Option Addr} {c g : Nat} (f t : Nat) (h : PA w p l now oa c g) (h1 : f ≤ t) (h2 : t ≤ l.length) :
    Calls Try.prog 33 #[.pointer (some ⟨p, 0, none⟩), .int .i64 f, .int .i64 t] w fun e w' => e = .returned (cutV oa f t) ∧ w' = w := by
  have h0 := h.c0
  have hr := fun w => cut_run w oa l.length c f t h1 (Nat.le_trans h2 h.lc)
  generalize cutV oa f t = V at *
  generalize l.length = m at *
  clear h h1 h2
  go_enter Try.func33, Try.ntmps33
  go_wp2
  go_ret
  exact ⟨rfl, rfl⟩
theorem now_any {w : World} {p : Nat} {l : List Pk} {now : Int} {oa : Option Addr} {c g : Nat} (h : PA w p l now oa c g) :
    Calls Try.prog 18 #[.pointer (some ⟨p, 0, none⟩)] w fun e w' => e = .returned (.int .i64 now) ∧ w' = w := by
  have h0 := h.c1
  clear h
  go_enter Try.func18, Try.ntmps18
  go_wp2
  go_ret
  exact ⟨rfl, rfl⟩
theorem new_any (w : World) : Calls Try.prog 7 #[] w fun e w' => e = .returned (.pointer (some ⟨w.heap.size, 0, none⟩)) ∧ PA w' w.heap.size [] 0 none 0 0 ∧ Below w.heap.size w w' := by
  go_enter Try.func7, Try.ntmps7
  go_wp2
  go_ret
  refine ⟨rfl, ⟨heap_alloc_new _ _, Nat.le_refl _, .inr ⟨rfl, rfl, rfl⟩, ⟨fun i t h => by simp at h, fun i t h => by simp at h, fun i t h => by simp at h⟩, by simp⟩, (Below.refl _ _).alloc (Nat.le_refl _) _⟩
end Go.Proofs.Ytlnaejhdnbmmjaa
namespace Go.Proofs.Ytlnaejhdnbmmjaa
open Go.RowKit

theorem heap_set2 {w : World} {p : Nat} {a b : Value} {t : TypeId} (h : w.heap[p]? = some (.cells #[a, b] t (0, 0))) (u : Value) :
    (w.setCell ⟨p, 0, none⟩ u).heap[p]? = some (.cells #[u, b] t (0, 0)) ∧ (w.setCell ⟨p, 1, none⟩ u).heap[p]? = some (.cells #[a, u] t (0, 0)) := by
  constructor <;> (unfold World.setCell; simp [Array.getElem?_modify, h])

theorem tick_any {w : World} {p : Nat} {l : List Pk} {now : Int} {oa : Option Addr} {c g : Nat} (h : PA w p l now oa c g) (hn : -1000000000000 ≤ now ∧ now ≤ 1000000000000) :
    Calls Try.prog 20 #[.pointer (some ⟨p, 0, none⟩)] w fun e w' => e = .returned (.int .i64 (now + 1)) ∧ PA w' p l (now + 1) oa c g ∧ w.grownBy w' (some p) := by
  have h0 := h.c1
  have h1 := h.f1
  have HP : Hid (PA (w.setCell ⟨p, 1, none⟩ (.int .i64 (now + 1))) p l (now + 1) oa c g ∧ w.grownBy (w.setCell ⟨p, 1, none⟩ (.int .i64 (now + 1))) (some p)) := by
    refine ⟨⟨(heap_set2 h.blk _).2, h.lc, h.oa, ?_, h.most⟩, ⟨rfl, rfl, rfl, by simp, fun k _ hk => Below.heap_setCell _ _ _ k (fun e => hk (by rw [e]))⟩⟩
    rcases Nat.eq_zero_or_pos l.length with h0 | h0
    · obtain rfl := List.eq_nil_of_length_eq_zero h0
      exact ⟨fun i t h => by simp at h, fun i t h => by simp at h, fun i t h => by simp at h⟩
    · exact h.at_.of_block (Below.heap_setCell _ _ _ _ (h.ne h0))
  clear h
  go_enter Try.func20, Try.ntmps20
  go_wp2
  go_ret
  exact ⟨rfl, HP.out⟩

/-- a list written into the Air -/
theorem PA.write {w w1 : World} {p : Nat} {l l' : List Pk} {now : Int} {oa : Option Addr} {c g c' g' : Nat} (h : PA w p l now oa c g) (hg : w.grownBy w1 none) (hg' : g' ≠ p) (hlc : l'.length ≤ c') (hm : l'.length ≤ 1000) (ha : PkAt w1 g' 0 l') :
    (w1.cell? ⟨p, 0, none⟩ = some (.slice oa l.length c) ∧ w1.frozen? ⟨p, 0, none⟩ = false) ∧ PA (w1.setCell ⟨p, 0, none⟩ (.slice (some ⟨g', 0, none⟩) l'.length c')) p l' now (some ⟨g', 0, none⟩) c' g' ∧ w.grownBy (w1.setCell ⟨p, 0, none⟩ (.slice (some ⟨g', 0, none⟩) l'.length c')) (some p) := by
  have hb : w1.heap[p]? = w.heap[p]? := hg.block p h.lt (by simp)
  refine ⟨⟨(World.cell?_of_block (a := ⟨p, 0, none⟩) hb).trans h.c0, (World.frozen?_of_block (a := ⟨p, 0, none⟩) hb).trans h.f0⟩, ⟨(heap_set2 (hb.trans h.blk) _).1, hlc, .inl rfl, ha.of_block (Below.heap_setCell _ _ _ _ hg'), hm⟩, ⟨hg.os, hg.tape, hg.output, by simpa using hg.size, fun k hk hkp => ?_⟩⟩
  rw [Below.heap_setCell _ _ _ k (fun e => hkp (by rw [e]))]
  exact hg.block k hk (by simp)
theorem PkAt.of_own {w : World} {B g n cap : Nat} {l : List Pk} (h : w.ownsRow B 37 3 (.slice (some ⟨g, 0, none⟩) n cap) n (pks l)) : PkAt w g 0 l :=
  .of_cells fun j u hu => by have := h.cells (g := g) rfl j u hu; rwa [Addr.add_lit] at this
theorem own_cap {w : World} {B g n cap : Nat} {xs : List Value} (h : w.ownsRow B 37 3 (.slice (some ⟨g, 0, none⟩) n cap) n xs) : n ≤ cap := by
  rcases h.2 with ⟨h1, _⟩ | ⟨g2, c2, cur, h1, h2, h3, h4, h5, h6, h7⟩
  · cases h1
  · injection h1 with _ _ hc
    omega

theorem cutV0 (oa : Option Addr) (g t : Nat) (h : oa = some ⟨g, 0, none⟩ ∨ oa = none) : cutV oa 0 t = .slice oa t t := by
  unfold cutV
  rcases h with rfl | rfl <;> by_cases ht : t = 0 <;> simp [ht, Addr.add_lit]
theorem cutV1 (oa : Option Addr) (g f t : Nat) (h : oa = some ⟨g, 0, none⟩) (hf : f < t) : cutV oa f t = .slice (some ⟨g, f * 3, none⟩) (t - f) (t - f) := by
  unfold cutV
  subst h
  rw [if_neg (by omega)]
  simp [Addr.add_lit]
theorem cutV2 (oa : Option Addr) (f t : Nat) (hf : f = t) : cutV oa f t = .slice oa 0 0 := by
  unfold cutV
  simp [hf]

theorem PkAt.take {w : World} {g off : Nat} {l : List Pk} (h : PkAt w g off l) (n : Nat) : PkAt w g off (l.take n) := by
  have key : ∀ {i : Nat} {t : Pk}, (l.take n)[i]? = some t → l[i]? = some t := fun {i t} hi => by
    rw [List.getElem?_take] at hi
    split at hi
    · exact hi
    · cases hi
  exact ⟨fun i t hi => h.c0 i t (key hi), fun i t hi => h.c1 i t (key hi), fun i t hi => h.c2 i t (key hi)⟩
theorem PkAt.drop {w : World} {g off : Nat} {l : List Pk} (h : PkAt w g off l) (n : Nat) : PkAt w g (off + n * 3) (l.drop n) := by
  refine ⟨fun i t hi => ?_, fun i t hi => ?_, fun i t hi => ?_⟩ <;> rw [List.getElem?_drop] at hi
  · rw [show off + n * 3 + i * 3 = off + (n + i) * 3 by omega]; exact h.c0 _ _ hi
  · rw [show off + n * 3 + i * 3 + 1 = off + (n + i) * 3 + 1 by omega]; exact h.c1 _ _ hi
  · rw [show off + n * 3 + i * 3 + 2 = off + (n + i) * 3 + 2 by omega]; exact h.c2 _ _ hi

def without (l : List Pk) (n : Nat) : List Pk := l.take n ++ l.drop (n + 1)
theorem without_len (l : List Pk) (n : Nat) (h : n < l.length) : (without l n).length + 1 = l.length := by unfold without; simp; omega

/-- What take's append gives. -/
theorem take_run {w : World} {p : Nat} {l : List Pk} {now : Int} {oa : Option Addr} {c g : Nat} (n : Nat) (ty : TypeId) (h : PA w p l now oa c g) (hn : n < l.length) :
    ∃ g' c' w', (Builtin.append_ #[43, 43] ty #[cutV oa 0 n, cutV oa (n + 1) l.length]).run Try.prog w = .ok (.slice (some ⟨g', 0, none⟩) (without l n).length c') w' ∧ w.grownBy w' none ∧ g' ≠ p ∧ (without l n).length ≤ c' ∧ PkAt w' g' 0 (without l n) ∧ (g' = g ∨ w.heap.size ≤ g' ∧ g' < w'.heap.size) := by
  have hoa : oa = some ⟨g, 0, none⟩ := by
    rcases h.oa with e | ⟨_, e, _⟩
    · exact e
    · subst e; simp at hn
  rw [cutV0 oa g n (.inl hoa)]
  by_cases he : n + 1 = l.length
  · have hw : without l n = l.take n := by unfold without; rw [List.drop_of_length_le (by omega), List.append_nil]
    have hl : (l.take n).length = n := by simp; omega
    rw [cutV2 oa _ _ he, app_none w ty oa oa n n 0 (Nat.le_refl _), hw, hl]
    subst hoa
    exact ⟨g, n, w, rfl, ⟨rfl, rfl, rfl, Nat.le_refl _, fun _ _ _ => rfl⟩, h.ne (by omega), Nat.le_refl _, h.at_.take n, .inl rfl⟩
  · have hd : (l.drop (n + 1)).length = l.length - (n + 1) := by simp
    rw [cutV1 oa g _ _ hoa (by omega)]
    have hb := h.at_.drop (n + 1)
    rw [Nat.zero_add] at hb
    have hm := h.most
    obtain ⟨cap, w', hr, ho, hg, hs⟩ := app_grow w ty oa n (l.take n) (l.drop (n + 1)) g g ((n + 1) * 3) (l.length - (n + 1)) (by simp; omega) (.inl hoa) (h.at_.take n) hb (by omega) (by omega)
    rw [hd] at hr ho
    have hl : (without l n).length = n + (l.length - (n + 1)) := by have := without_len l n hn; omega
    rw [hl]
    exact ⟨w.heap.size, cap, w', hr, hg, (Nat.ne_of_lt h.lt).symm, own_cap ho, .of_own ho, .inr ⟨Nat.le_refl _, by omega⟩⟩

set_option maxHeartbeats 2000000 in
theorem take_any {w : World} {p : Nat} {l : List Pk} {now : Int} {oa : Option Addr} {c g : Nat} (n : Nat) (h : PA w p l now oa c g) (hn : n < l.length) :
    Calls Try.prog 30 #[.pointer (some ⟨p, 0, none⟩), .int .i64 n] w fun e w' => e = .returned (.tuple #[]) ∧ PAx w w' p (without l n) now g ∧ w.grownBy w' (some p) := by
  obtain ⟨g', c', w', hr, hg, hgp, hlc, hat, hgx⟩ := take_run n 43 h.drew hn
  have hm := h.most
  have HW : Hid (_ ∧ _ ∧ _) := PA.write h.drew hg hgp hlc (by have := without_len l n hn; omega) hat
  have hc0 := HW.out.1.1
  have hf0 := HW.out.1.2
  have H1 : Hid (Calls Try.prog 33 #[.pointer (some ⟨p, 0, none⟩), .int .i64 0, .int .i64 n] w.drew fun e w' => e = .returned (cutV oa 0 n) ∧ w' = w.drew) := cut_any 0 n h.drew (by omega) (by omega)
  have hwr : IntKind.i64.wrap ((n : Int) + 1) = ((n + 1 : Nat) : Int) := by rw [IntKind.wrap_i64] <;> omega
  have H2 : Hid (Calls Try.prog 33 #[.pointer (some ⟨p, 0, none⟩), .int .i64 (IntKind.i64.wrap ((n : Int) + 1)), .int .i64 l.length] w.drew fun e w' => e = .returned (cutV oa (n + 1) l.length) ∧ w' = w.drew) := by
    rw [hwr]; exact cut_any (n + 1) l.length h.drew (by omega) (by omega)
  clear hwr
  have HR : Hid ((Builtin.append_ #[43, 43] 43 #[cutV oa 0 n, cutV oa (n + 1) l.length]).run Try.prog w.drew = .ok (.slice (some ⟨g', 0, none⟩) (without l n).length c') w') := hr
  have h0 := h.c0
  generalize cutV oa 0 n = V1 at *
  generalize cutV oa (n + 1) l.length = V2 at *
  have HP : Hid (∀ w2, w2 = (w'.setCell ⟨p, 0, none⟩ (.slice (some ⟨g', 0, none⟩) (without l n).length c')) → (PAx w w2 p (without l n) now g ∧ w.grownBy w2 (some p))) := fun w2 e => by
    subst e
    have := HW.out.2.2
    exact ⟨⟨_, _, _, HW.out.2.1, hgx.imp id fun h => ⟨h.1, by simpa using h.2⟩⟩, ⟨this.os, this.tape, this.output, this.size, this.block⟩⟩
  generalize (without l n).length = m' at *
  generalize hL : l.length = m at *
  clear HW hr hg hgp hlc hat hgx h hL
  go_enter Try.func30, Try.ntmps30
  go_region_law (first
    | (refine step_call3 rfl 33 (.tmp 5) (.const (.int .i64 0)) (.tmp 6) #[25, 3, 3] rfl (.pointer (some ⟨p, 0, none⟩)) (.int .i64 0) (.int .i64 n) (by go_simp) (by go_simp) (by go_simp) cf33 _ H1.out ?_; rintro e w2 ⟨rfl, rfl⟩; refine ⟨_, rfl, ?_⟩)
    | (refine step_call3 rfl 33 (.tmp 8) (.tmp 10) (.tmp 15) #[25, 3, 3] rfl (.pointer (some ⟨p, 0, none⟩)) (.int .i64 (IntKind.i64.wrap ((n : Int) + 1))) (.int .i64 m) (by go_simp) (by go_simp) (by go_simp) cf33 _ H2.out ?_; rintro e w2 ⟨rfl, rfl⟩; refine ⟨_, rfl, ?_⟩)
    | (refine step_app rfl (.tmp 7) (.tmp 16) 43 rfl V1 V2 _ _ (by go_simp) (by go_simp) HR.out ?_))
  all_goals (
    go_wp2
    first | go_end0 | refine bodyPost_ret (results_none rfl _ _ _) rfl ?_
    exact ⟨rfl, HP.out _ rfl⟩)

/-- What put's append gives: x lies in a block of its own. -/
theorem put_run {w : World} {p : Nat} {l : List Pk} {now : Int} {oa : Option Addr} {c g q : Nat} (x : Pk) (ty : TypeId) (h : PA w p l now oa c g) (hq : PkAt w q 0 [x]) :
    ∃ g' c' w', (Builtin.append_ #[43, 43] ty #[cutV oa 0 l.length, .slice (some ⟨q, 0, none⟩) 1 1]).run Try.prog w = .ok (.slice (some ⟨g', 0, none⟩) (l.length + 1) c') w' ∧ w.grownBy w' none ∧ g' ≠ p ∧ l.length + 1 ≤ c' ∧ PkAt w' g' 0 (l ++ [x]) ∧ (g' = g ∨ w.heap.size ≤ g' ∧ g' < w'.heap.size) := by
  have hm := h.most
  have hoa : oa = some ⟨g, 0, none⟩ ∨ oa = none ∧ l.length = 0 := by
    rcases h.oa with e | ⟨e1, e2, _⟩
    · exact .inl e
    · exact .inr ⟨e1, by rw [e2]; rfl⟩
  rw [cutV0 oa g _ (by rcases hoa with e | e; exact .inl e; exact .inr e.1)]
  obtain ⟨cap, w', hr, ho, hg, hs⟩ := app_grow w ty oa l.length l [x] g q 0 1 rfl hoa h.at_ hq (by simp) (by simp; omega)
  exact ⟨w.heap.size, cap, w', hr, hg, (Nat.ne_of_lt h.lt).symm, own_cap ho, .of_own ho, .inr ⟨Nat.le_refl _, by omega⟩⟩

theorem PkAt.block1 {w : World} {q : Nat} {x : Pk} {t : TypeId} {fr : Nat × Nat} (h : w.heap[q]? = some (.cells #[.int .i64 x.fr, .int .i64 x.to, .string x.da] t fr)) : PkAt w q 0 [x] :=
  .of_cells fun j u hu => by
    rw [pks_one] at hu
    have := World.news_of_block h j u hu
    rwa [Addr.add_lit] at this
def putE (l : List Pk) : Int := if l.length < 1000 then 0 else 132
def putL (l : List Pk) (x : Pk) : List Pk := if l.length < 1000 then l ++ [x] else l
theorem grown_alloc {w w' : World} {o : Obj} {p : Nat} (h : (w.alloc o).grownBy w' (some p)) : w.grownBy w' (some p) := by
  have hs := h.size
  simp at hs
  refine ⟨h.os, h.tape, h.output, by omega, fun k hk hp => ?_⟩
  rw [h.block k (by simp; omega) hp]
  exact Below.heap_alloc _ _ _ hk

set_option maxHeartbeats 2000000 in
theorem put_any {w : World} {p : Nat} {l : List Pk} {now : Int} {oa : Option Addr} {c g : Nat} (x : Pk) (h : PA w p l now oa c g) :
    Calls Try.prog 31 #[.pointer (some ⟨p, 0, none⟩), pkA x] w fun e w' => e = .returned (.int .i64 (putE l)) ∧ PAx w w' p (putL l x) now g ∧ w.grownBy w' (some p) := by
  unfold putE putL
  obtain ⟨w1, hw1⟩ : ∃ w1, w.alloc (.cells #[.int .i64 x.fr, .int .i64 x.to, .string x.da] 37) = w1 := ⟨_, rfl⟩
  have hB1 : Below w.heap.size w w1 := by rw [← hw1]; exact (Below.refl _ _).alloc (Nat.le_refl _) _
  have h1 := h.below hB1
  have hs1 : w1.heap.size = w.heap.size + 1 := by rw [← hw1]; simp
  have hG : ∀ w2, w1.grownBy w2 (some p) → w.grownBy w2 (some p) := fun w2 hg => by rw [← hw1] at hg; exact grown_alloc hg
  by_cases hl : l.length < 1000
  · rw [if_pos hl, if_pos hl]
    have hbx : w1.heap[w.heap.size]? = some (.cells #[.int .i64 x.fr, .int .i64 x.to, .string x.da] 37 (0, 0)) := by rw [← hw1]; exact heap_alloc_new _ _
    have x0 : w1.cell? ⟨w.heap.size, 0, none⟩ = some (.int .i64 x.fr) := by unfold World.cell?; rw [hbx]; rfl
    have x1 : w1.cell? ⟨w.heap.size, 1, none⟩ = some (.int .i64 x.to) := by unfold World.cell?; rw [hbx]; rfl
    have x2 : w1.cell? ⟨w.heap.size, 2, none⟩ = some (.string x.da) := by unfold World.cell?; rw [hbx]; rfl
    have hB2 : Below w1.heap.size w1 ((w1.alloc (.cells #[.int .i64 x.fr, .int .i64 x.to, .string x.da] 37)).drew) := ((Below.refl _ _).alloc (Nat.le_refl _) _).drew
    have h2 := h1.below hB2
    obtain ⟨g', c', w', hr, hg, hgp, hlc, hat, hgx⟩ := put_run x 43 h2 (PkAt.block1 (heap_alloc_new w1 _))
    have hcl : (l ++ [x]).length = l.length + 1 := by simp
    have HW := PA.write (l' := l ++ [x]) h2 hg hgp (by rw [hcl]; exact hlc) (by rw [hcl]; omega) hat
    rw [hcl] at HW
    have hc0 := HW.1.1
    have hf0 := HW.1.2
    have h0 := h1.c0
    have h0' : (w1.alloc (.cells #[.int .i64 x.fr, .int .i64 x.to, .string x.da] 37)).cell? ⟨p, 0, none⟩ = some (.slice oa l.length c) := h2.c0
    have HC1 : Hid (Calls Try.prog 33 #[.pointer (some ⟨p, 0, none⟩), .int .i64 0, .int .i64 l.length] w1.drew fun e w' => e = .returned (cutV oa 0 l.length) ∧ w' = w1.drew) := cut_any 0 l.length h1.drew (by omega) (by omega)
    have HC2 : Hid (Calls Try.prog 33 #[.pointer (some ⟨p, 0, none⟩), .int .i64 0, .int .i64 l.length] (w1.alloc (.cells #[.int .i64 x.fr, .int .i64 x.to, .string x.da] 37)).drew fun e w' => e = .returned (cutV oa 0 l.length) ∧ w' = (w1.alloc (.cells #[.int .i64 x.fr, .int .i64 x.to, .string x.da] 37)).drew) := cut_any 0 l.length h2 (by omega) (by omega)
    have HR : Hid ((Builtin.append_ #[43, 43] 43 #[cutV oa 0 l.length, .slice (some ⟨w1.heap.size, 0, none⟩) 1 1]).run Try.prog ((w1.alloc (.cells #[.int .i64 x.fr, .int .i64 x.to, .string x.da] 37)).drew) = .ok (.slice (some ⟨g', 0, none⟩) (l.length + 1) c') w') := hr
    have HP : Hid (∀ w2, w2 = (w'.setCell ⟨p, 0, none⟩ (.slice (some ⟨g', 0, none⟩) (l.length + 1) c')) → (PAx w w2 p (l ++ [x]) now g ∧ w.grownBy w2 (some p))) := fun w2 e => by
      subst e
      have := HW.2.2
      exact ⟨⟨_, _, _, HW.2.1, hgx.imp id fun h => ⟨Nat.le_trans (by show w.heap.size ≤ (w1.alloc _).heap.size; simp; omega) h.1, by simpa using h.2⟩⟩, hG _ (grown_alloc ⟨this.os, this.tape, this.output, this.size, this.block⟩)⟩
    generalize cutV oa 0 l.length = V1 at *
    generalize l.length = m at *
    have HW1 : Hid (w.alloc (.cells #[.int .i64 x.fr, .int .i64 x.to, .string x.da] 37) = w1) := hw1
    have hl' : decide ((1000 : Int) ≤ (m : Int)) = false := decide_eq_false (by omega)
    clear HW hr hg hgp hlc hat hgx hcl h2 hB2 hbx h1 hB1 hG h hs1 hl
    go_enter Try.func31, Try.ntmps31
    go_wp2_with fail
    clear hw1
    go_region_law (first
      | (refine step_call3 rfl 33 (.tmp 12) (.const (.int .i64 0)) (.tmp 17) #[25, 3, 3] rfl (.pointer (some ⟨p, 0, none⟩)) (.int .i64 0) (.int .i64 m) (by go_simp) (by go_simp) (by go_simp) cf33 _ HC1.out ?_; rintro e w2 ⟨rfl, rfl⟩; refine ⟨_, rfl, ?_⟩)
      | (refine step_call3 rfl 33 (.tmp 12) (.const (.int .i64 0)) (.tmp 17) #[25, 3, 3] rfl (.pointer (some ⟨p, 0, none⟩)) (.int .i64 0) (.int .i64 m) (by go_simp) (by go_simp) (by go_simp) cf33 _ HC2.out ?_; rintro e w2 ⟨rfl, rfl⟩; refine ⟨_, rfl, ?_⟩)
      | (refine step_app rfl (.tmp 18) (.tmp 20) 43 rfl V1 (.slice (some ⟨w1.heap.size, 0, none⟩) 1 1) _ _ (by go_simp) (by go_simp) HR.out ?_))
    all_goals (
      go_wp2
      go_ret
      exact ⟨rfl, HP.out _ rfl⟩)
  · rw [if_neg hl, if_neg hl]
    have h0 := h1.c0
    have HP : Hid (PAx w w1 p l now g ∧ w.grownBy w1 (some p))   := ⟨h1.x _, hG _ ⟨rfl, rfl, rfl, Nat.le_refl _, fun _ _ _ => rfl⟩⟩
    generalize l.length = m at *
    have hl' : decide ((1000 : Int) ≤ (m : Int)) = true := decide_eq_true (by omega)
    clear h1 hB1 hG h hs1 hl
    go_enter Try.func31, Try.ntmps31
    go_wp2
    go_ret
    exact ⟨rfl, HP.out⟩
end Go.Proofs.Ytlnaejhdnbmmjaa
