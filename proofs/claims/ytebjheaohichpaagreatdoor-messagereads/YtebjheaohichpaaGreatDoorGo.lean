/- The document's Writer, nothing wrong; the document's small questions. The document's questions: may a call be, may a reply be? The document's question: may a reply be? -/
import Derived.Test.YtebjheaohichpaaGreatDoorPm
import Derived.Test.YtebjheaohichpaaGreatDoorGk
namespace Go.Proofs.YtebjheaohichpaaGreatDoor
open Go.RowKit
/-- the document's Writer, nothing wrong -/
def RL (w : World) (p : Nat) (M : Int) (l : List UInt8) : Prop := RW w p ⟨l.toArray⟩ M 0
def LPost (p : Nat) (M : Int) (l : List UInt8) (w : World) (e : Ending) (w' : World) : Prop := e = .returned (.tuple #[]) ∧ RL w' p M l ∧ Only p w w'
theorem rlay_ok {M : Int} {l t : List UInt8} {s : ByteArray} (hs : s = ⟨t.toArray⟩) (h : (l.length : Int) + t.length ≤ M) : rlay M ⟨l.toArray⟩ 0 s = (⟨(l ++ t).toArray⟩, 0) := by
  subst hs
  unfold rlay
  rw [if_neg (by simp), if_neg (by rw [ba_size, ba_size]; omega), bapp]
theorem lpost {p : Nat} {M : Int} {l t : List UInt8} {s : ByteArray} {w w' : World} {e : Ending} (hs : s = ⟨t.toArray⟩) (h : (l.length : Int) + t.length ≤ M) (hw : Wrote p M (rlay M ⟨l.toArray⟩ 0 s) w e w') : LPost p M (l ++ t) w e w' := by
  rw [rlay_ok hs h] at hw
  exact hw
theorem l_uint (p : Nat) (n M : Int) (l : List UInt8) (w : World) (h : RL w p M l) (hn : isW n) (hM : M ≤ 2147483647) (hr : (l.length : Int) + 4 ≤ M) :
    Calls Tryz.prog 23 #[.pointer (some ⟨p, 0, none⟩), .int .i64 n] w (LPost p M (l ++ nbL 4 n.toNat) w) := by
  refine (ruint_ok p n _ M 0 w h (by rw [ba_size]; omega) hn.1 hn.2).mono fun e w' hp => ?_
  exact lpost (by rw [byL_nbL 4 n hn.1 (by have := hn.2; simp; omega)]) (by rw [nbL_len]; exact hr) hp
theorem l_opaque (p : Nat) (m M : Int) (s l : List UInt8) (w : World) (h : RL w p M l) (hm1 : m ≤ 4294967295) (hn : (s.length : Int) ≤ m) (hM : M ≤ 2147483647) (hr : (l.length : Int) + (4 + (s.length + pads s.length : Nat)) ≤ M) :
    Calls Tryz.prog 54 #[.pointer (some ⟨p, 0, none⟩), .int .i64 m, .string ⟨s.toArray⟩] w (LPost p M (l ++ (nbL 4 s.length ++ (s ++ padB s.length))) w) := by
  have hb := ba_size s
  have hp3 := padL_len (⟨s.toArray⟩ : ByteArray).size
  refine (ropaque_ok p m ⟨s.toArray⟩ _ M 0 w h (by have := ba_size l; omega) (by rw [decide_eq_true (by omega), decide_eq_true hm1]; rfl) (eq_false (by rw [byL_len]; omega)) (eq_false (by rw [byL_len]; omega)) (by omega) (by omega)).mono fun e w' hp => ?_
  have e4 := byL_nbL 4 (s.length : Int) (by omega) (by simp; omega)
  rw [Int.toNat_natCast] at e4
  refine lpost ?_ ?_ hp
  · rw [ba_size, e4, padL_padB, bapp, bapp, List.append_assoc]
  · rw [List.length_append, List.length_append, nbL_len, padB_len]; omega
theorem Bk.only {w w' : World} {p b : Nat} {cs : List Value} {t : TypeId} (h : Bk w b cs t) (hS : Only p w w') (hb : b ≠ p) : Bk w' b cs t := (hS.block b h.lt hb).trans h
theorem RL.below {w w' : World} {p : Nat} {M : Int} {l : List UInt8} (h : RL w p M l) (hB : Below w.heap.size w w') : RL w' p M l := RW.below h hB
theorem RL.lt {w : World} {p : Nat} {M : Int} {l : List UInt8} (h : RL w p M l) : p < w.heap.size := by
  rcases Nat.lt_or_ge p w.heap.size with h1 | h1
  · exact h1
  · have := h.s
    simp [World.cell?, Array.getElem?_eq_none h1] at this
theorem l_done (p : Nat) (M : Int) (l : List UInt8) (w : World) (h : RL w p M l) : Calls Tryz.prog 25 #[.pointer (some ⟨p, 0, none⟩)] w fun e w' => e = .returned (.tuple #[.string ⟨l.toArray⟩, .int .i64 0]) ∧ w' = w := by
  have h0 := h.s
  have h2 := h.e
  clear h
  generalize (⟨l.toArray⟩ : ByteArray) = S at *
  go_enter Tryz.func25, Tryz.ntmps25
  go_wp2
  refine bodyPost_ret (v := .tuple #[.string S, .int .i64 0]) (by simp [results, Tryz.results25, go_sem]) rfl ⟨rfl, rfl⟩
theorem l_new (w : World) : Calls Tryz.prog 22 #[.int .i64 4096] w fun e w' => e = .returned (.pointer (some ⟨w.heap.size, 0, none⟩)) ∧ (RL w' w.heap.size 4096 [] ∧ Below w.heap.size w w' ∧ w'.heap.size = w.heap.size + 1) :=
  (rnew 4096 w).mono fun e w' hp => ⟨hp.1, by
    have h1 := RW.new 4096 w
    rw [← hp.2] at h1
    exact h1, by rw [hp.2]; exact below_new _ _, by rw [hp.2]; simp⟩
theorem disWord_any (n : Int) (w : World) : Calls Tryz.prog 47 #[.int .i64 n] w fun e w' => e = .returned (.bool (decide (isW n))) ∧ w' = w := by
  rw [← isW_dec]
  by_cases h0 : 0 ≤ n
  · by_cases h1 : n ≤ 4294967295
    · rw [decide_eq_true h0, decide_eq_true h1]
      go_enter Tryz.func47, Tryz.ntmps47
      go_wp2
      go_ret
      exact ⟨rfl, rfl⟩
    · rw [decide_eq_true h0, decide_eq_false h1]
      go_enter Tryz.func47, Tryz.ntmps47
      go_wp2
      go_ret
      exact ⟨rfl, rfl⟩
  · rw [decide_eq_false h0]
    go_enter Tryz.func47, Tryz.ntmps47
    go_wp2
    go_ret
    exact ⟨rfl, rfl⟩
theorem dplain_any (s : List UInt8) (w : World) (hl : s.length ≤ 140737488355328) : Calls Tryz.prog 49 #[.string ⟨s.toArray⟩] w fun e w' => e = .returned (.bool (decide (plainB s))) ∧ w' = w := by
  rw [← plain_dec]
  have hs := ba_size s
  generalize (⟨s.toArray⟩ : ByteArray) = S at *
  have hl2 : S.size ≤ 140737488355328 := by omega
  clear hs
  by_cases h0 : (S.size : Int) ≤ 1000
  · by_cases h1 : (S.size : Int) % 4 = 0
    · have h2 : ((S.size : Int) % 4 == 0) = true := beq_iff_eq.2 h1
      rw [decide_eq_true ⟨h0, h1⟩]
      go_enter Tryz.func49, Tryz.ntmps49
      go_wp2
      go_ret
      exact ⟨rfl, rfl⟩
    · have h2 : ((S.size : Int) % 4 == 0) = false := beq_eq_false_iff_ne.2 h1
      rw [decide_eq_false (fun q => h1 q.2)]
      go_enter Tryz.func49, Tryz.ntmps49
      go_wp2
      go_ret
      exact ⟨rfl, rfl⟩
  · rw [decide_eq_false (fun q => h0 q.1)]
    go_enter Tryz.func49, Tryz.ntmps49
    go_wp2
    go_ret
    exact ⟨rfl, rfl⟩
theorem dauthMay_any (a : AuthP) (w : World) : Calls Tryz.prog 48 #[.agg #[.int .i64 a.flavor, .string ⟨a.body.toArray⟩]] w fun e w' => e = .returned (.bool (decide a.may)) ∧ Below w.heap.size w w' := by
  obtain ⟨f, s⟩ := a
  have hm : decide (AuthP.may ⟨f, s⟩) = (decide (isW f) && decide (((⟨s.toArray⟩ : ByteArray).size : Int) ≤ 400)) := by
    rw [ba_size, ← Bool.decide_and]
    apply decide_eq_decide.2
    exact ⟨fun h => ⟨h.1, Int.ofNat_le.2 h.2⟩, fun h => ⟨h.1, Int.ofNat_le.1 h.2⟩⟩
  rw [hm]
  have HW := hid (disWord_any f)
  generalize (⟨s.toArray⟩ : ByteArray) = S at *
  generalize decide (isW f) = b at *
  obtain ⟨wa, hwa⟩ : ∃ x, w.alloc (.cells #[.int .i64 f, .string S] 23) = x := ⟨_, rfl⟩
  obtain ⟨hk, hB, hz⟩ := boxed w wa _ _ hwa
  have a0 := hk.cell 0 rfl
  have a1 := hk.cell 1 rfl
  have HB := hid hB
  clear hk hB hz hm
  cases b
  all_goals (
    go_enter Tryz.func48, Tryz.ntmps48
    go_wp2_with fail
    refine (HW.out _).mono ?_
    rintro e w0 ⟨rfl, hw0⟩
    have hw1 := hw0.symm
    clear hw0
    subst hw1
    go_wp2
    go_ret
    exact ⟨rfl, HB.out⟩)
set_option maxRecDepth 4000 in
theorem dauth_any (p : Nat) (a : AuthP) (M : Int) (l : List UInt8) (w : World) (h : RL w p M l) (hm : a.may) (hM : M ≤ 2147483647) (hr : (l.length : Int) + 408 ≤ M) :
    Calls Tryz.prog 24 #[.pointer (some ⟨p, 0, none⟩), .agg #[.int .i64 a.flavor, .string ⟨a.body.toArray⟩]] w (LPost p M (l ++ a.lay) w) := by
  obtain ⟨wa, hwa⟩ : ∃ x, w.alloc (.cells #[.int .i64 a.flavor, .string ⟨a.body.toArray⟩] 23) = x := ⟨_, rfl⟩
  obtain ⟨hk, hB, hz⟩ := boxed w wa _ _ hwa
  have hp := h.lt
  have H1 := hid (l_uint p a.flavor M l wa (h.below hB) hm.1 hM (by omega))
  have H2 : Hid (∀ w1, RL w1 p M (l ++ nbL 4 a.flavor.toNat) → Calls Tryz.prog 54 #[.pointer (some ⟨p, 0, none⟩), .int .i64 400, .string ⟨a.body.toArray⟩] w1 (LPost p M (l ++ nbL 4 a.flavor.toNat ++ (nbL 4 a.body.length ++ (a.body ++ padB a.body.length))) w1)) := fun w1 h1 =>
    l_opaque p 400 M a.body _ w1 h1 (by decide) (by have := hm.2; omega) hM (by have := hm.2; rw [List.length_append, nbL_len]; unfold pads; omega)
  have HK : Hid (Bk wa w.heap.size [.int .i64 a.flavor, .string ⟨a.body.toArray⟩] 23 ∧ w.heap.size ≠ p ∧ Only p w wa) := ⟨hk, by omega, Only.of_below hB⟩
  have a0 := hk.cell 0 rfl
  have HY : Hid (l ++ nbL 4 a.flavor.toNat ++ (nbL 4 a.body.length ++ (a.body ++ padB a.body.length)) = l ++ a.lay) := by
    show _ = _
    unfold AuthP.lay
    rw [List.append_assoc]
  clear hk hB hz hp h hm hM hr
  go_enter Tryz.func24, Tryz.ntmps24
  go_wp2_with fail
  refine H1.out.mono ?_
  rintro e w1 ⟨rfl, h1, hO1⟩
  have a1 := (HK.out.1.only hO1 HK.out.2.1).cell 1 rfl
  have HO1 := hid hO1
  have H3 := hid (H2.out w1 h1)
  clear h1 hO1 H1 H2
  go_wp2_with fail
  refine H3.out.mono ?_
  rintro e w2 ⟨rfl, h2, hO2⟩
  rw [HY.out] at h2
  have HF : Hid (RL w2 p M (l ++ a.lay) ∧ Only p w w2) := ⟨h2, (HK.out.2.2.trans HO1.out).trans hO2⟩
  clear h2 hO2
  go_wp2
  first | go_end0 | refine bodyPost_ret (results_none rfl _ _ _) rfl ?_
  exact ⟨rfl, HF.out⟩
end Go.Proofs.YtebjheaohichpaaGreatDoor
namespace Go.Proofs.YtebjheaohichpaaGreatDoor
open Go.RowKit
theorem callMay_dec (c : CallP) : decide c.may = (decide (isW c.xid) && decide (isW c.prog) && decide (isW c.vers) && decide (isW c.proc) && decide c.cred.may && decide c.verf.may && decide (plainB c.args) && (c.rpc == 2)) := by
  rw [Bool.eq_iff_iff]
  simp only [decide_eq_true_eq, Bool.and_eq_true, beq_iff_eq]
  unfold CallP.may
  constructor
  · rintro ⟨h1, h2, h3, h4, h5, h6, h7, h8⟩
    exact ⟨⟨⟨⟨⟨⟨⟨h1, h3⟩, h4⟩, h5⟩, h6⟩, h7⟩, h8⟩, h2⟩
  · rintro ⟨⟨⟨⟨⟨⟨⟨h1, h3⟩, h4⟩, h5⟩, h6⟩, h7⟩, h8⟩, h2⟩
    exact ⟨h1, h2, h3, h4, h5, h6, h7, h8⟩
set_option maxRecDepth 8000 in
set_option maxHeartbeats 4000000 in
theorem dcallMay_any (c : CallP) (w : World) (hl : c.args.length ≤ 140737488355328) :
    Calls Tryz.prog 21 #[.agg (callV c).toArray] w fun e w' => e = .returned (.bool (decide c.may)) ∧ Below w.heap.size w w' := by
  rw [callMay_dec]
  simp only [callV]
  obtain ⟨wa, hwa⟩ : ∃ x, w.alloc (.cells #[.int .i64 c.xid, .int .i64 c.rpc, .int .i64 c.prog, .int .i64 c.vers, .int .i64 c.proc, .int .i64 c.cred.flavor, .string ⟨c.cred.body.toArray⟩, .int .i64 c.verf.flavor, .string ⟨c.verf.body.toArray⟩, .string ⟨c.args.toArray⟩] 25) = x := ⟨_, rfl⟩
  obtain ⟨hk, hB, hz⟩ := boxed w wa _ _ hwa
  have HK : Hid (Bk wa w.heap.size [.int .i64 c.xid, .int .i64 c.rpc, .int .i64 c.prog, .int .i64 c.vers, .int .i64 c.proc, .int .i64 c.cred.flavor, .string ⟨c.cred.body.toArray⟩, .int .i64 c.verf.flavor, .string ⟨c.verf.body.toArray⟩, .string ⟨c.args.toArray⟩] 25) := hk
  have HB := hid hB
  have H1 := hid (disWord_any c.xid)
  have H2 := hid (disWord_any c.prog)
  have H3 := hid (disWord_any c.vers)
  have H4 := hid (disWord_any c.proc)
  have H5 := hid (dauthMay_any c.cred)
  have H6 := hid (dauthMay_any c.verf)
  have H7 := hid (fun w => dplain_any c.args w hl)
  generalize decide (isW c.xid) = b1 at *
  generalize decide (isW c.prog) = b2 at *
  generalize decide (isW c.vers) = b3 at *
  generalize decide (isW c.proc) = b4 at *
  generalize decide c.cred.may = b5 at *
  generalize decide c.verf.may = b6 at *
  generalize decide (plainB c.args) = b7 at *
  have a0 := hk.cell 0 rfl
  have a1 := hk.cell 1 rfl
  have a2 := hk.cell 2 rfl
  have a3 := hk.cell 3 rfl
  have a4 := hk.cell 4 rfl
  have a5 := hk.cell 5 rfl
  have a6 := hk.cell 6 rfl
  have a7 := hk.cell 7 rfl
  have a8 := hk.cell 8 rfl
  have a9 := hk.cell 9 rfl
  clear hk hB hz hl
  go_enter Tryz.func21, Tryz.ntmps21
  go_wp2_with fail
  refine (H1.out _).mono ?_
  rintro e w0 ⟨rfl, hw0⟩
  have hw1 := hw0.symm
  clear hw0
  subst hw1
  go_wp2_with fail
  refine (H2.out _).mono ?_
  rintro e w0 ⟨rfl, hw0⟩
  have hw1 := hw0.symm
  clear hw0
  subst hw1
  go_wp2_with fail
  refine (H3.out _).mono ?_
  rintro e w0 ⟨rfl, hw0⟩
  have hw1 := hw0.symm
  clear hw0
  subst hw1
  go_wp2_with fail
  refine (H4.out _).mono ?_
  rintro e w0 ⟨rfl, hw0⟩
  have hw1 := hw0.symm
  clear hw0
  subst hw1
  go_wp2_with fail
  refine (H5.out _).mono ?_
  rintro e u1 ⟨rfl, hBn⟩
  have HKu1 : Hid (Bk u1 w.heap.size [.int .i64 c.xid, .int .i64 c.rpc, .int .i64 c.prog, .int .i64 c.vers, .int .i64 c.proc, .int .i64 c.cred.flavor, .string ⟨c.cred.body.toArray⟩, .int .i64 c.verf.flavor, .string ⟨c.verf.body.toArray⟩, .string ⟨c.args.toArray⟩] 25) := HK.out.below hBn HK.out.lt
  have HBu1 : Hid (Below w.heap.size w u1) := HB.out.trans (hBn.mono HB.out.size)
  clear hBn a0 a1 a2 a3 a4 a5 a6 a7 a8 a9
  have a0 := HKu1.out.cell 0 rfl
  have a1 := HKu1.out.cell 1 rfl
  have a2 := HKu1.out.cell 2 rfl
  have a3 := HKu1.out.cell 3 rfl
  have a4 := HKu1.out.cell 4 rfl
  have a5 := HKu1.out.cell 5 rfl
  have a6 := HKu1.out.cell 6 rfl
  have a7 := HKu1.out.cell 7 rfl
  have a8 := HKu1.out.cell 8 rfl
  have a9 := HKu1.out.cell 9 rfl
  go_wp2_with fail
  refine (H6.out _).mono ?_
  rintro e u2 ⟨rfl, hBn⟩
  have HKu2 : Hid (Bk u2 w.heap.size [.int .i64 c.xid, .int .i64 c.rpc, .int .i64 c.prog, .int .i64 c.vers, .int .i64 c.proc, .int .i64 c.cred.flavor, .string ⟨c.cred.body.toArray⟩, .int .i64 c.verf.flavor, .string ⟨c.verf.body.toArray⟩, .string ⟨c.args.toArray⟩] 25) := HKu1.out.below hBn HKu1.out.lt
  have HBu2 : Hid (Below w.heap.size w u2) := HBu1.out.trans (hBn.mono HBu1.out.size)
  clear hBn a0 a1 a2 a3 a4 a5 a6 a7 a8 a9
  have a0 := HKu2.out.cell 0 rfl
  have a1 := HKu2.out.cell 1 rfl
  have a2 := HKu2.out.cell 2 rfl
  have a3 := HKu2.out.cell 3 rfl
  have a4 := HKu2.out.cell 4 rfl
  have a5 := HKu2.out.cell 5 rfl
  have a6 := HKu2.out.cell 6 rfl
  have a7 := HKu2.out.cell 7 rfl
  have a8 := HKu2.out.cell 8 rfl
  have a9 := HKu2.out.cell 9 rfl
  go_wp2_with fail
  refine (H7.out _).mono ?_
  rintro e w0 ⟨rfl, hw0⟩
  have hw1 := hw0.symm
  clear hw0
  subst hw1
  cases b1
  · skip
    go_wp2
    go_ret
    exact ⟨rfl, HBu2.out⟩
  cases b2
  · skip
    go_wp2
    go_ret
    exact ⟨rfl, HBu2.out⟩
  cases b3
  · skip
    go_wp2
    go_ret
    exact ⟨rfl, HBu2.out⟩
  cases b4
  · skip
    go_wp2
    go_ret
    exact ⟨rfl, HBu2.out⟩
  cases b5
  · skip
    go_wp2
    go_ret
    exact ⟨rfl, HBu2.out⟩
  cases b6
  · skip
    go_wp2
    go_ret
    exact ⟨rfl, HBu2.out⟩
  cases b7
  · skip
    go_wp2
    go_ret
    exact ⟨rfl, HBu2.out⟩
  go_wp2
  go_ret
  exact ⟨rfl, HBu2.out⟩
end Go.Proofs.YtebjheaohichpaaGreatDoor
namespace Go.Proofs.YtebjheaohichpaaGreatDoor
open Go.RowKit
theorem equalInA (w : World) (f g : Int) (x y : ByteArray) : (Op.equalIn 10000 23 (.agg #[.int .i64 f, .string x]) (.agg #[.int .i64 g, .string y])).run Tryz.prog w = .ok (f == g && x.toList == y.toList) w := by
  rw [run_equalIn_agg (ht := fieldsA) (hp := stoodA), fieldsOfA]
  have ek : ∀ x y : Int, (Op.equalIn 9999 3 (.int .i64 x) (.int .i64 y)).run Tryz.prog w = .ok (x == y) w := fun (x y : Int) => run_equalIn_int (P := Tryz.prog) w 9998 3 .i64 .i64 x y Tryz.underlying3
  have es : ∀ x y : ByteArray, (Op.equalIn 9999 9 (.string x) (.string y)).run Tryz.prog w = .ok (x.toList == y.toList) w := fun (x y : ByteArray) => run_equalIn_string (P := Tryz.prog) w 9998 9 x y Tryz.underlying9
  have n1 : "Flavor" ≠ "_" := by decide
  have n2 : "Body" ≠ "_" := by decide
  simp only [Op.eqFields, if_pos n1, if_pos n2, Sem.run_bind]
  rw [partI w _ 0 (.int .i64 f) rfl]
  simp only [Result.andThen_ok]
  rw [partI w _ 0 (.int .i64 g) rfl]
  simp only [Result.andThen_ok]
  rw [ek]
  simp only [Result.andThen_ok]
  cases f == g
  · rfl
  simp only [Bool.not_true, Bool.false_eq_true, if_false, Sem.run_bind]
  rw [partS w _ 1 (.string x) rfl]
  simp only [Result.andThen_ok]
  rw [partS w _ 1 (.string y) rfl]
  simp only [Result.andThen_ok]
  rw [es]
  simp only [Result.andThen_ok]
  cases x.toList == y.toList
  · rfl
  · rfl
theorem neqA (w : World) (f g : Int) (x y : ByteArray) : (binOp .neq 23 (.agg #[.int .i64 f, .string x]) (.agg #[.int .i64 g, .string y])).run Tryz.prog w = .ok (.bool (!(f == g && x.toList == y.toList))) w := by
  rw [run_neq_struct, equalInA]; rfl
theorem guardA : Tryz.prog.eqGuardType Tryz.prog.depth 23 = false := by kernel_rfl
theorem guardAn (w : World) (op : BinOp) (x y : Operand) (xs ys : Array Value) : (eqGuard op 23 x y (.agg xs) (.agg ys)).run Tryz.prog w = .ok () w := run_eqGuard_agg w op 23 x y xs ys guardA
theorem nil_dec (l : List UInt8) : ((⟨l.toArray⟩ : ByteArray).toList == (⟨#[]⟩ : ByteArray).toList) = decide (l = []) := by
  rw [ba_toList, show (⟨#[]⟩ : ByteArray).toList = [] from by rw [ByteArray.toList_eq]]
  cases l <;> rfl
theorem den_dec (r : ReplyP) (h : r.denied = true) : decide r.may = (decide (isW r.xid) && (r.verf.flavor == 0 && decide (r.verf.body = [])) && (r.accept == 0) && decide (r.results = []) && (if r.reject == 0 then decide (isW r.low) && decide (isW r.high) && (r.why == 0) else if r.reject == 1 then (r.low == 0 && r.high == 0) && decide (0 ≤ r.why) && decide (r.why ≤ 14) else false)) := by
  obtain ⟨rx, rd, ⟨vf, vb⟩, ra, rl, rh, rr, rj, rw_⟩ := r
  have h : rd = true := h
  subst h
  rw [Bool.eq_iff_iff, decide_eq_true_eq]
  unfold ReplyP.may
  simp only [if_true, auth_nul, Bool.and_eq_true, decide_eq_true_eq, beq_iff_eq]
  by_cases h0 : rj = 0
  · subst h0
    simp only [if_true, Bool.and_eq_true, decide_eq_true_eq, beq_iff_eq, show ¬ (0 : Int) = 1 by decide, false_and, or_false, true_and]
    constructor
    · rintro ⟨h1, h2, h3, h4, h5, h6, h7⟩; exact ⟨⟨⟨⟨h1, h2⟩, h3⟩, h4⟩, ⟨h5, h6⟩, h7⟩
    · rintro ⟨⟨⟨⟨h1, h2⟩, h3⟩, h4⟩, ⟨h5, h6⟩, h7⟩; exact ⟨h1, h2, h3, h4, h5, h6, h7⟩
  · by_cases h1 : rj = 1
    · subst h1
      simp only [if_true, if_false, Bool.and_eq_true, decide_eq_true_eq, beq_iff_eq, show ¬ (1 : Int) = 0 by decide, false_and, false_or, true_and]
      constructor
      · rintro ⟨h1, h2, h3, h4, h5, h6, h7, h8⟩; exact ⟨⟨⟨⟨h1, h2⟩, h3⟩, h4⟩, ⟨⟨h5, h6⟩, h7⟩, h8⟩
      · rintro ⟨⟨⟨⟨h1, h2⟩, h3⟩, h4⟩, ⟨⟨h5, h6⟩, h7⟩, h8⟩; exact ⟨h1, h2, h3, h4, h5, h6, h7, h8⟩
    · simp only [h0, h1, Bool.false_eq_true, if_false, false_and, or_false, and_false]
theorem acc_dec (r : ReplyP) (h : r.denied = false) : decide r.may = (decide (isW r.xid) && decide r.verf.may && (r.reject == 0) && (r.why == 0) && decide (0 ≤ r.accept) && decide (r.accept ≤ 5) && (if r.accept == 0 then decide (plainB r.results) && (r.low == 0 && r.high == 0) else if r.accept == 2 then decide (isW r.low) && decide (isW r.high) && decide (r.results = []) else (r.low == 0 && r.high == 0) && decide (r.results = []))) := by
  obtain ⟨rx, rd, rv, ra, rl, rh, rr, rj, rw_⟩ := r
  have h : rd = false := h
  subst h
  rw [Bool.eq_iff_iff, decide_eq_true_eq]
  unfold ReplyP.may
  simp only [Bool.false_eq_true, if_false, Bool.and_eq_true, decide_eq_true_eq, beq_iff_eq]
  by_cases h0 : ra = 0
  · subst h0
    simp only [if_true, Bool.and_eq_true, decide_eq_true_eq, beq_iff_eq, show ¬ (0 : Int) = 2 by decide, false_and, or_false, true_and, ne_eq, not_true]
    constructor
    · rintro ⟨h1, h2, h3, h4, h5, h6, h7, h8, h9⟩; exact ⟨⟨⟨⟨⟨⟨h1, h2⟩, h3⟩, h4⟩, h5⟩, h6⟩, h7, h8, h9⟩
    · rintro ⟨⟨⟨⟨⟨⟨h1, h2⟩, h3⟩, h4⟩, h5⟩, h6⟩, h7, h8, h9⟩; exact ⟨h1, h2, h3, h4, h5, h6, h7, h8, h9⟩
  · by_cases h1 : ra = 2
    · subst h1
      simp only [if_true, if_false, Bool.and_eq_true, decide_eq_true_eq, show ¬ (2 : Int) = 0 by decide, false_and, false_or, or_false, true_and, ne_eq, not_true, and_false, not_false_eq_true]
      constructor
      · rintro ⟨h1, h2, h3, h4, h5, h6, h7, h8, h9⟩; exact ⟨⟨⟨⟨⟨⟨h1, h2⟩, h3⟩, h4⟩, h5⟩, h6⟩, ⟨h7, h8⟩, h9⟩
      · rintro ⟨⟨⟨⟨⟨⟨h1, h2⟩, h3⟩, h4⟩, h5⟩, h6⟩, ⟨h7, h8⟩, h9⟩; exact ⟨h1, h2, h3, h4, h5, h6, h7, h8, h9⟩
    · simp only [h0, h1, if_false, false_and, false_or, ne_eq, not_false_eq_true, true_and, Bool.and_eq_true, decide_eq_true_eq, beq_iff_eq]
      constructor
      · rintro ⟨h1, h2, h3, h4, h5, h6, h7, h8, h9⟩; exact ⟨⟨⟨⟨⟨⟨h1, h2⟩, h3⟩, h4⟩, h5⟩, h6⟩, ⟨h7, h8⟩, h9⟩
      · rintro ⟨⟨⟨⟨⟨⟨h1, h2⟩, h3⟩, h4⟩, h5⟩, h6⟩, ⟨h7, h8⟩, h9⟩; exact ⟨h1, h2, h3, h4, h5, h6, h7, h8, h9⟩
end Go.Proofs.YtebjheaohichpaaGreatDoor
