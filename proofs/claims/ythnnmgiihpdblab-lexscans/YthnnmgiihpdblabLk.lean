/- Rows of tokens; are two the same? -/
import Derived.Test.YthnnmgiihpdblabLj
import Derived.Laws.StructEq
namespace Go.Proofs.Ythnnmgiihpdblab
open Go.RowKit

/-- tokens that lie in memory -/
structure TokAt (w : World) (g off : Nat) (ts : List Tok) : Prop where
  c0 : ∀ i t, ts[i]? = some t → w.cell? ⟨g, off + i * 4, none⟩ = some (.int .i64 t.kind)
  c1 : ∀ i t, ts[i]? = some t → w.cell? ⟨g, off + i * 4 + 1, none⟩ = some (S t.text)
  c2 : ∀ i t, ts[i]? = some t → w.cell? ⟨g, off + i * 4 + 2, none⟩ = some (.int .i64 t.num)
  c3 : ∀ i t, ts[i]? = some t → w.cell? ⟨g, off + i * 4 + 3, none⟩ = some (.int .i64 t.at_)

def TokRow (w : World) (v : Value) (ts : List Tok) : Prop := ∃ oa cap g off, v = .slice oa ts.length cap ∧ (0 < ts.length → oa = some ⟨g, off, none⟩) ∧ TokAt w g off ts

theorem fields37 : Try.prog.underlying 37 = some (.struct (Try.prog.fieldsOf 37)) := by kernel_rfl
theorem fieldsOf37 : (Try.prog.fieldsOf 37).toList = [⟨"Kind", 3, 0, false, "", "", 0⟩, ⟨"Text", 9, 1, false, "", "", 8⟩, ⟨"Number", 3, 2, false, "", "", 24⟩, ⟨"At", 3, 3, false, "", "", 32⟩] := by unfold Program.fieldsOf; rw [Try.underlying37]
theorem stood37 : Try.prog.stoodInHeld 37 = false := by kernel_rfl
theorem guard37 : Try.prog.eqGuardType Try.prog.depth 37 = false := by kernel_rfl

theorem bytes_beq (a b : List UInt8) : ((⟨a.toArray⟩ : ByteArray).toList == (⟨b.toArray⟩ : ByteArray).toList) = (a == b) := by
  rw [ByteArray.toList_eq, ByteArray.toList_eq]

theorem tok_eq (a b : Tok) : decide (a = b) = (a.kind == b.kind && (a.text == b.text && (a.num == b.num && (a.at_ : Int) == (b.at_ : Int)))) := by
  obtain ⟨k1, t1, n1, a1⟩ := a
  obtain ⟨k2, t2, n2, a2⟩ := b
  rw [Bool.eq_iff_iff]; simp; omega

theorem part3 (w : World) (xs : Array Value) (o : Nat) (v : Value) (h : xs[o]? = some v) : (part 3 xs o).run Try.prog w = .ok v w := by
  unfold part isAgg
  simp [run_underlying Try.underlying3, h]
theorem part9 (w : World) (xs : Array Value) (o : Nat) (v : Value) (h : xs[o]? = some v) : (part 9 xs o).run Try.prog w = .ok v w := by
  unfold part isAgg
  simp [run_underlying Try.underlying9, h]

theorem equalIn37 (w : World) (a b : Tok) : (Op.equalIn 10000 37 (.agg #[.int .i64 a.kind, S a.text, .int .i64 a.num, .int .i64 a.at_]) (.agg #[.int .i64 b.kind, S b.text, .int .i64 b.num, .int .i64 b.at_])).run Try.prog w = .ok (decide (a = b)) w := by
  rw [run_equalIn_agg (ht := fields37) (hp := stood37), fieldsOf37, tok_eq]
  have ek : ∀ x y : Int, (Op.equalIn 9999 3 (.int .i64 x) (.int .i64 y)).run Try.prog w = .ok (x == y) w := fun (x y : Int) => run_equalIn_int (P := Try.prog) w 9998 3 .i64 .i64 x y Try.underlying3
  have es : ∀ x y : ByteArray, (Op.equalIn 9999 9 (.string x) (.string y)).run Try.prog w = .ok (x.toList == y.toList) w := fun (x y : ByteArray) => run_equalIn_string (P := Try.prog) w 9998 9 x y Try.underlying9
  have n1 : "Kind" ≠ "_" := by decide
  have n2 : "Text" ≠ "_" := by decide
  have n3 : "Number" ≠ "_" := by decide
  have n4 : "At" ≠ "_" := by decide
  simp only [Op.eqFields, if_pos n1, if_pos n2, if_pos n3, if_pos n4, Sem.run_bind]
  rw [part3 w _ 0 (.int .i64 a.kind) rfl]
  simp only [Result.andThen_ok]
  rw [part3 w _ 0 (.int .i64 b.kind) rfl]
  simp only [Result.andThen_ok]
  rw [ek]
  simp only [Result.andThen_ok]
  cases a.kind == b.kind
  · rfl
  simp only [Bool.not_true, Bool.false_eq_true, if_false, Sem.run_bind]
  rw [part9 w _ 1 (S a.text) rfl]
  simp only [Result.andThen_ok]
  rw [part9 w _ 1 (S b.text) rfl]
  simp only [Result.andThen_ok]
  rw [es, bytes_beq]
  simp only [Result.andThen_ok]
  cases a.text == b.text
  · rfl
  simp only [Bool.not_true, Bool.false_eq_true, if_false, Sem.run_bind]
  rw [part3 w _ 2 (.int .i64 a.num) rfl]
  simp only [Result.andThen_ok]
  rw [part3 w _ 2 (.int .i64 b.num) rfl]
  simp only [Result.andThen_ok]
  rw [ek]
  simp only [Result.andThen_ok]
  cases a.num == b.num
  · rfl
  simp only [Bool.not_true, Bool.false_eq_true, if_false, Sem.run_bind]
  rw [part3 w _ 3 (.int .i64 a.at_) rfl]
  simp only [Result.andThen_ok]
  rw [part3 w _ 3 (.int .i64 b.at_) rfl]
  simp only [Result.andThen_ok]
  rw [ek]
  simp only [Result.andThen_ok]
  cases (a.at_ : Int) == (b.at_ : Int)
  · rfl
  · rfl

theorem eql37 (w : World) (a b : Tok) : (binOp .eql 37 (.agg #[.int .i64 a.kind, S a.text, .int .i64 a.num, .int .i64 a.at_]) (.agg #[.int .i64 b.kind, S b.text, .int .i64 b.num, .int .i64 b.at_])).run Try.prog w = .ok (.bool (decide (a = b))) w := by
  rw [run_eql_struct, equalIn37]; rfl
theorem neq37 (w : World) (a b : Tok) : (binOp .neq 37 (.agg #[.int .i64 a.kind, S a.text, .int .i64 a.num, .int .i64 a.at_]) (.agg #[.int .i64 b.kind, S b.text, .int .i64 b.num, .int .i64 b.at_])).run Try.prog w = .ok (.bool (!decide (a = b))) w := by
  rw [run_neq_struct, equalIn37]; rfl
theorem guard37n (w : World) (op : BinOp) (x y : Operand) (xs ys : Array Value) : (eqGuard op 37 x y (.agg xs) (.agg ys)).run Try.prog w = .ok () w := run_eqGuard_agg w op 37 x y xs ys guard37


theorem take_succ_same {a b : List Tok} {k : Nat} {t u : Tok} (h : a.take k = b.take k) (ha : a[k]? = some t) (hb : b[k]? = some u) (e : t = u) : a.take (k + 1) = b.take (k + 1) := by
  rw [List.take_add_one, List.take_add_one, h, ha, hb, e]

set_option maxHeartbeats 1000000 in
theorem same_any (a b : List Tok) (va vb : Value) (w : World) (ha : TokRow w va a) (hb : TokRow w vb b) (hl : (a.length : Int) ≤ 1000000000000) :
    Calls Try.prog 9 #[va, vb] w fun e w' => e = .returned (.bool (decide (a = b))) ∧ ∃ n, w' = w.drewN n := by
  obtain ⟨oa, cap, g, off, rfl, hoa, hA⟩ := ha
  obtain ⟨ob, capb, g2, off2, rfl, hob, hB⟩ := hb
  obtain ⟨n, hn⟩ : ∃ n, a.length = n := ⟨_, rfl⟩
  by_cases hnm : a.length = b.length
  · rw [← hnm] at hob ⊢
    rw [hn] at hl hoa hob ⊢
    obtain ⟨R, hR⟩ : ∃ R, decide (a = b) = R := ⟨_, rfl⟩
    rw [hR]
    have HR : Hid (decide (a = b) = R) := hR
    have HN : Hid (a.length = n ∧ b.length = n) := ⟨hn, by omega⟩
    have hg := fun w op x y xs ys => guard37n w op x y xs ys
    clear hnm hn hR
    go_enter Try.func9, Try.ntmps9
    go_wp2_with fail
    go_loopw [5] (fun i wr => ∃ k m : Nat, i = .int .i64 k ∧ k ≤ n ∧ wr = w.drewN m ∧ Hid (a.take k = b.take k)) (fun i _ => n - (intOf i).toNat)
    case atStart => exact ⟨0, 0, rfl, by omega, rfl, rfl⟩
    case round =>
      obtain ⟨k, m, rfl, hk, rfl, HK⟩ := hrel
      by_cases hlt : k < n
      · have hk' : (k : Int) < n := by omega
        have hoa' := hoa (by omega)
        have hob' := hob (by omega)
        subst hoa' hob'
        obtain ⟨ta, hta⟩ : ∃ t, a[k]? = some t := ⟨_, List.getElem?_eq_getElem (by rw [HN.out.1]; exact hlt)⟩
        obtain ⟨tb, htb⟩ : ∃ t, b[k]? = some t := ⟨_, List.getElem?_eq_getElem (by rw [HN.out.2]; exact hlt)⟩
        have a0 := hA.c0 k ta hta
        have a1 := hA.c1 k ta hta
        have a2 := hA.c2 k ta hta
        have a3 := hA.c3 k ta hta
        have b0 := hB.c0 k tb htb
        have b1 := hB.c1 k tb htb
        have b2 := hB.c2 k tb htb
        have b3 := hB.c3 k tb htb
        have HTA : Hid (a[k]? = some ta) := hta
        have HTB : Hid (b[k]? = some tb) := htb
        have hq := fun w => neq37 w ta tb
        clear hoa hob hA hB hta htb
        cases hd : decide (ta = tb)
        · have HF : Hid (R = false) := by
            show _ = _
            rw [← HR.out]
            refine decide_eq_false fun e => ?_
            have h1 := HTA.out
            rw [e, HTB.out] at h1
            have h2 := of_decide_eq_false hd
            exact h2 (Option.some.inj h1).symm
          rw [hd] at hq
          clear hd
          go_wp2_with fail
          go_quiet (fail)
          go_wp2
          go_ret
          exact ⟨by rw [HF.out]; rfl, _, World.drewN_drewN _ _ _⟩
        · have HT : Hid (a.take (k + 1) = b.take (k + 1)) := take_succ_same HK.out HTA.out HTB.out (of_decide_eq_true hd)
          rw [hd] at hq
          clear hd
          go_wp2_with fail
          go_quiet (fail)
          go_wp2
          go_roundw
          case rel => exact ⟨k + 1, _, by go_num, by omega, rfl, HT.out⟩
          case measure => simp [intOf]; omega
      · obtain rfl : k = n := by omega
        have HF : Hid (R = true) := by
          show _ = _
          rw [← HR.out]
          have h1 := HK.out
          rw [List.take_of_length_le (by rw [HN.out.1]; omega), List.take_of_length_le (by rw [HN.out.2]; omega)] at h1
          exact decide_eq_true h1
        go_wp2
        go_ret
        exact ⟨by rw [HF.out]; rfl, _, rfl⟩
  · have hR : decide (a = b) = false := decide_eq_false fun e => hnm (by rw [e])
    rw [hR]
    have hne : ((a.length : Int) == (b.length : Int)) = false := beq_eq_false_iff_ne.2 (by omega)
    clear hnm hn hR
    go_enter Try.func9, Try.ntmps9
    go_wp2
    go_ret
    exact ⟨rfl, 0, rfl⟩

/-- what is owned is a row -/
theorem TokAt.of_cells {w : World} {g : Nat} {ts : List Tok} (h : ∀ j u, (tokCells ts)[j]? = some u → w.cell? ⟨g, 0 + j, none⟩ = some u) : TokAt w g 0 ts := by
  have key : ∀ i t, ts[i]? = some t → ∀ o u, (tokC t)[o]? = some u → w.cell? ⟨g, 0 + i * 4 + o, none⟩ = some u := by
    intro i t ht o u hu
    have hc := h (i * 4 + o) u
    rw [show 0 + i * 4 + o = 0 + (i * 4 + o) by omega]
    apply hc
    clear h hc
    induction ts generalizing i with
    | nil => simp at ht
    | cons x ts ih =>
      have ho : o < 4 := by
        rcases Nat.lt_or_ge o 4 with h | h
        · exact h
        · rw [List.getElem?_eq_none (by simp [tokC]; omega)] at hu; cases hu
      cases i with
      | zero =>
        simp only [List.getElem?_cons_zero, Option.some.injEq] at ht
        subst ht
        show (tokC x ++ tokCells ts)[0 * 4 + o]? = some u
        rw [List.getElem?_append_left (by simp [tokC]; omega), Nat.zero_mul, Nat.zero_add]; exact hu
      | succ i =>
        have := ih i (by simpa using ht)
        show (tokC x ++ tokCells ts)[(i + 1) * 4 + o]? = some u
        rw [List.getElem?_append_right (by simp [tokC]; omega), ← this]
        congr 1
        simp [tokC]; omega
  exact ⟨fun i t ht => key i t ht 0 _ rfl, fun i t ht => key i t ht 1 _ rfl, fun i t ht => key i t ht 2 _ rfl, fun i t ht => key i t ht 3 _ rfl⟩

theorem TokAt.of_own {w : World} {base g n cap : Nat} {ts : List Tok} (h : w.ownsRow base 37 4 (.slice (some ⟨g, 0, none⟩) n cap) n (tokCells ts)) : TokAt w g 0 ts :=
  .of_cells fun j u hu => by have := h.cells (g := g) rfl j u hu; rwa [Addr.add_lit] at this

theorem TokRow.of_own {w : World} {base g cap : Nat} {ts : List Tok} (h : w.ownsRow base 37 4 (.slice (some ⟨g, 0, none⟩) ts.length cap) ts.length (tokCells ts)) : TokRow w (.slice (some ⟨g, 0, none⟩) ts.length cap) ts :=
  ⟨_, cap, g, 0, rfl, fun _ => rfl, .of_own h⟩

theorem TokRow.nil (w : World) : TokRow w (.slice none 0 0) [] := ⟨none, 0, 0, 0, rfl, fun h => by simp at h, fun i t h => by simp at h, fun i t h => by simp at h, fun i t h => by simp at h, fun i t h => by simp at h⟩

end Go.Proofs.Ythnnmgiihpdblab
