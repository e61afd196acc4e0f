/- The program's Writer, plainly: all is well so far (P), and what was laid down then. The program's Writer: a truth; bytes as they are. -/
import Derived.Test.YtfcbjcebkahehaaGreatDoorZag
import Derived.Test.YtfcbjcebkahehaaGreatDoorZah
namespace Go.Proofs.YtfcbjcebkahehaaGreatDoor
open Go.RowKit
theorem hid {T : Prop} (h : T) : Hid T := h
/-- a Writer: nothing was wrong just if P, and then l was laid down -/
def WrP (w : World) (p : Nat) (M : Int) (P : Prop) (l : List UInt8) : Prop :=
  ∃ v S E, PW w p v M (Lib.strCells S) E ∧ (S.size : Int) ≤ M ∧ (E = 0 ↔ P) ∧ (P → S = ⟨l.toArray⟩)
def WPost (p : Nat) (M : Int) (P : Prop) (l : List UInt8) (w : World) (e : Ending) (w' : World) : Prop :=
  e = .returned (.tuple #[]) ∧ WrP w' p M P l ∧ Below p w w'
theorem Kept.below_p {w w' : World} {p : Nat} {v v' : Value} {M E : Int} {xs : List Value} (h : PW w p v M xs E) (k : Kept p v v' w w') : Below p w w' :=
  ⟨k.os, k.tape, k.output, k.size, fun b hb => k.block b (by have := h.lt; omega) (by omega) (fun e => by have := (h.own.lt b e.symm).1; omega)⟩
theorem WrP.lt {w : World} {p : Nat} {M : Int} {P : Prop} {l : List UInt8} (h : WrP w p M P l) : p < w.heap.size := by
  obtain ⟨v, S, E, h1, _⟩ := h
  exact h1.lt
theorem WrP.iff {w : World} {p : Nat} {M : Int} {P Q : Prop} {l m : List UInt8} (h : WrP w p M P l) (hq : Q ↔ P) (hl : P → l = m) : WrP w p M Q m := by
  obtain ⟨v, S, E, h1, h2, h3, h4⟩ := h
  exact ⟨v, S, E, h1, h2, h3.trans hq.symm, fun q => by rw [← hl (hq.1 q)]; exact h4 (hq.1 q)⟩
theorem WrP.below {w w' : World} {p : Nat} {M : Int} {P : Prop} {l : List UInt8} (h : WrP w p M P l) (hB : Below w.heap.size w w') : WrP w' p M P l := by
  obtain ⟨v, S, E, h1, h2⟩ := h
  exact ⟨v, S, E, h1.below hB, h2⟩
theorem WrP.new (m : Int) (w : World) (hm : 0 ≤ m) : WrP (w.alloc (.cells #[.int .i64 m, .slice none 0 0, .nilIface] 181)) w.heap.size m True [] := by
  have h := PW.new m w
  rw [show max m 0 = m by omega] at h
  exact ⟨_, _, _, h, hm, by simp, fun _ => rfl⟩
theorem ba_size (l : List UInt8) : (⟨l.toArray⟩ : ByteArray).size = l.length := by simp [ByteArray.size]
theorem wpost_laid {p : Nat} {M : Int} {P : Prop} {l t : List UInt8} {v : Value} {S s : ByteArray} {E : Int} {w w' : World} {e : Ending} (h : PW w p v M (Lib.strCells S) E) (hz : (S.size : Int) ≤ M) (hP : E = 0 ↔ P) (hS : P → S = ⟨l.toArray⟩)
    (hs : s = ⟨t.toArray⟩) (hr : P → (l.length : Int) + t.length ≤ M) (hw : PWrote p v M (rlay M S E s) w e w') : WPost p M P (l ++ t) w e w' := by
  obtain ⟨h1, v', h2, h3⟩ := hw
  refine ⟨h1, ?_, h3.below_p h⟩
  subst hs
  by_cases hp : P
  · have e0 := hP.2 hp
    have eS := hS hp
    subst eS e0
    have hfit := hr hp
    have er : rlay M ⟨l.toArray⟩ 0 ⟨t.toArray⟩ = (⟨(l ++ t).toArray⟩, 0) := by
      unfold rlay
      rw [if_neg (by simp), if_neg (by rw [ba_size, ba_size]; omega), bapp]
    rw [er] at h2
    exact ⟨v', _, _, h2, by show (((⟨(l ++ t).toArray⟩ : ByteArray).size : Nat) : Int) ≤ M; rw [ba_size, List.length_append]; omega, by simp [hp], fun _ => rfl⟩
  · have e0 : E ≠ 0 := fun x => hp (hP.1 x)
    have er : rlay M S E ⟨t.toArray⟩ = (S, E) := by unfold rlay; rw [if_pos e0]
    rw [er] at h2
    exact ⟨v', _, _, h2, hz, hP, fun q => absurd q hp⟩
theorem wpost_fail {p : Nat} {M : Int} {P Q : Prop} {l : List UInt8} {v : Value} {S : ByteArray} {E F : Int} {w w' : World} {e : Ending} (h : PW w p v M (Lib.strCells S) E) (hz : (S.size : Int) ≤ M) (hF : F ≠ 0) (hQ : ¬ Q)
    (hw : PWrote p v M (S, firstE E F) w e w') : WPost p M (P ∧ Q) l w e w' := by
  obtain ⟨h1, v', h2, h3⟩ := hw
  refine ⟨h1, ⟨v', _, _, h2, hz, ?_, fun q => absurd q.2 hQ⟩, h3.below_p h⟩
  constructor
  · intro x
    have x' : firstE E F = 0 := x
    unfold firstE at x'
    split at x'
    · exact absurd x' hF
    · rename_i h0; exact absurd x' h0
  · exact fun q => absurd q.2 hQ
theorem WPost.more {p : Nat} {M : Int} {P Q : Prop} {l : List UInt8} {w w' : World} {e : Ending} (hq : Q) (h : WPost p M P l w e w') : WPost p M (P ∧ Q) l w e w' :=
  ⟨h.1, h.2.1.iff ⟨fun x => x.1, fun x => ⟨x, hq⟩⟩ fun _ => rfl, h.2.2⟩
theorem byL_nbL (k : Nat) (n : Int) (h0 : 0 ≤ n) (h1 : n < ((256 ^ k : Nat) : Int)) : byL k n = nbL k n.toNat := by
  unfold byL
  rw [Int.emod_eq_of_lt h0 h1]; rfl
theorem padL_padB (n : Nat) : padL n = padB n := by
  unfold padL padB
  rw [show padN n = pads n by unfold padN pads; omega]
theorem isW_dec (n : Int) : (decide (0 ≤ n) && decide (n ≤ 4294967295)) = decide (isW n) := by
  unfold isW
  by_cases h0 : 0 ≤ n <;> by_cases h1 : n ≤ 4294967295 <;> simp [h0, h1]
theorem w_uint (p : Nat) (n M : Int) (P : Prop) (l : List UInt8) (w : World) (h : WrP w p M P l) (hM0 : 0 ≤ M) (hM1 : M ≤ 2147483647) (hr : P → (l.length : Int) + 4 ≤ M) :
    Calls Tryz.prog 116 #[.pointer (some ⟨p, 0, none⟩), .int .i64 n] w (WPost p M (P ∧ isW n) (l ++ nbL 4 n.toNat) w) := by
  obtain ⟨v, S, E, h1, h2, h3, h4⟩ := h
  by_cases hn : isW n
  · refine (puint_ok p v n M E S w h1 hM0 (by omega) (by omega) (by rw [isW_dec]; exact decide_eq_true hn)).mono fun e w' hp => ?_
    have e4 := byL_nbL 4 n hn.1 (by have := hn.2; simp; omega)
    exact (wpost_laid (t := nbL 4 n.toNat) h1 h2 h3 h4 (by rw [e4]) (by rw [nbL_len]; exact hr) hp).more hn
  · refine (puint_bad p v n M E S w h1 (by rw [isW_dec]; exact decide_eq_false hn)).mono fun e w' hp => ?_
    exact wpost_fail h1 h2 (by decide) hn hp
theorem w_hyper (p : Nat) (n M : Int) (P : Prop) (l : List UInt8) (w : World) (h : WrP w p M P l) (hM0 : 0 ≤ M) (hM1 : M ≤ 2147483647) (hr : P → (l.length : Int) + 8 ≤ M) :
    Calls Tryz.prog 168 #[.pointer (some ⟨p, 0, none⟩), .int .i64 n] w (WPost p M P (l ++ byL 8 n) w) := by
  obtain ⟨v, S, E, h1, h2, h3, h4⟩ := h
  refine (phyper p v n M E S w h1 hM0 (by omega) (by omega)).mono fun e w' hp => ?_
  exact wpost_laid (t := byL 8 n) h1 h2 h3 h4 rfl (by rw [byL_len]; exact hr) hp
theorem w_opaque (p : Nat) (m M : Int) (s : List UInt8) (P : Prop) (l : List UInt8) (w : World) (h : WrP w p M P l) (hM0 : 0 ≤ M) (hM1 : M ≤ 2147483647) (hm0 : 0 ≤ m) (hm1 : m ≤ 4294967295) (hr : P → (s.length : Int) ≤ m → (l.length : Int) + (4 + (s.length + pads s.length : Nat)) ≤ M) :
    Calls Tryz.prog 122 #[.pointer (some ⟨p, 0, none⟩), .int .i64 m, .string ⟨s.toArray⟩] w (WPost p M (P ∧ (s.length : Int) ≤ m) (l ++ (nbL 4 s.length ++ (s ++ padB s.length))) w) := by
  obtain ⟨v, S, E, h1, h2, h3, h4⟩ := h
  have hmw : (decide (0 ≤ m) && decide (m ≤ 4294967295)) = true := by rw [decide_eq_true hm0, decide_eq_true hm1]; rfl
  by_cases hn : (s.length : Int) ≤ m
  · refine (popaque_ok p v m M E S ⟨s.toArray⟩ w h1 hM0 (by omega) (by have := ba_size s; omega) hmw (by have := ba_size s; omega)).mono fun e w' hp => ?_
    have e4 : byL 4 (s.length : Int) = nbL 4 s.length := by
      have := byL_nbL 4 (s.length : Int) (by omega) (by simp; omega)
      rwa [Int.toNat_natCast] at this
    refine (wpost_laid (P := P) (t := nbL 4 s.length ++ (s ++ padB s.length)) h1 h2 h3 h4 ?_ ?_ hp).more hn
    · rw [ba_size, e4, padL_padB, bapp, bapp, List.append_assoc]
    · intro q
      have := hr q hn
      rw [List.length_append, List.length_append, nbL_len, padB_len]
      omega
  · refine (popaque_long p v m M E S ⟨s.toArray⟩ w h1 hmw (by have := ba_size s; omega)).mono fun e w' hp => ?_
    exact wpost_fail h1 h2 (by decide) hn hp
theorem w_count (p : Nat) (m M : Int) (n : Nat) (P : Prop) (l : List UInt8) (w : World) (h : WrP w p M P l) (hM0 : 0 ≤ M) (hM1 : M ≤ 2147483647) (hm0 : 0 ≤ m) (hm1 : m ≤ 4294967295) (hr : P → (l.length : Int) + 4 ≤ M) :
    Calls Tryz.prog 120 #[.pointer (some ⟨p, 0, none⟩), .int .i64 m, .int .i64 n] w (WPost p M (P ∧ (n : Int) ≤ m) (l ++ nbL 4 n) w) := by
  obtain ⟨v, S, E, h1, h2, h3, h4⟩ := h
  have hmw : (decide (0 ≤ m) && decide (m ≤ 4294967295)) = true := by rw [decide_eq_true hm0, decide_eq_true hm1]; rfl
  by_cases hn : (n : Int) ≤ m
  · refine (pcount_ok p v m n M E S w h1 hM0 (by omega) (by omega) hmw (by omega) hn).mono fun e w' hp => ?_
    have e4 : byL 4 (n : Int) = nbL 4 n := by
      have := byL_nbL 4 (n : Int) (by omega) (by simp; omega)
      rwa [Int.toNat_natCast] at this
    exact (wpost_laid (t := nbL 4 n) h1 h2 h3 h4 (by rw [e4]) (by rw [nbL_len]; exact hr) hp).more hn
  · refine (pcount_long p v m n M E S w h1 hmw (by omega) (by omega)).mono fun e w' hp => ?_
    exact wpost_fail h1 h2 (by decide) hn hp
theorem w_fail (p : Nat) (M F : Int) (P : Prop) (l : List UInt8) (w : World) (h : WrP w p M P l) (hF : F ≠ 0) :
    Calls Tryz.prog 115 #[.pointer (some ⟨p, 0, none⟩), .int .i64 F] w (WPost p M (P ∧ False) l w) := by
  obtain ⟨v, S, E, h1, h2, h3, h4⟩ := h
  exact (pfail_any p v M E F S w h1).mono fun e w' hp => wpost_fail h1 h2 hF id hp
theorem w_done_ok (p : Nat) (M : Int) (P : Prop) (l : List UInt8) (w : World) (h : WrP w p M P l) (hT : ErrT w) (hP : P) :
    Calls Tryz.prog 126 #[.pointer (some ⟨p, 0, none⟩)] w fun e w' => e = .returned (.tuple #[.string ⟨l.toArray⟩, .int .i64 0]) ∧ Below w.heap.size w w' := by
  obtain ⟨v, S, E, h1, h2, h3, h4⟩ := h
  obtain rfl := h3.2 hP
  obtain rfl := h4 hP
  exact pdone_any p v M 0 _ w h1 hT
theorem w_done_bad (p : Nat) (M : Int) (P : Prop) (l : List UInt8) (w : World) (h : WrP w p M P l) (hT : ErrT w) (hP : ¬ P) :
    Calls Tryz.prog 126 #[.pointer (some ⟨p, 0, none⟩)] w fun e w' => (∃ E, E ≠ 0 ∧ e = .returned (.tuple #[.string ⟨#[]⟩, .int .i64 E])) ∧ Below w.heap.size w w' := by
  obtain ⟨v, S, E, h1, h2, h3, h4⟩ := h
  have hE : E ≠ 0 := fun x => hP (h3.1 x)
  refine (pdone_any p v M E _ w h1 hT).mono fun e w' hp => ⟨⟨E, hE, ?_⟩, hp.2⟩
  rw [hp.1, if_neg hE]
theorem w_new (m : Int) (w : World) (hm : 0 ≤ m) : Calls Tryz.prog 76 #[.int .i64 m] w fun e w' => e = .returned (.pointer (some ⟨w.heap.size, 0, none⟩)) ∧ w' = w.alloc (.cells #[.int .i64 m, .slice none 0 0, .nilIface] 181) := by
  have h := pnew m w
  rwa [show max m 0 = m by omega] at h
end Go.Proofs.YtfcbjcebkahehaaGreatDoor
namespace Go.Proofs.YtfcbjcebkahehaaGreatDoor
open Go.RowKit
set_option maxHeartbeats 1000000 in
theorem pbool_true (p : Nat) (v : Value) (M E : Int) (S : ByteArray) (w : World) (h : PW w p v M (Lib.strCells S) E) (hM0 : 0 ≤ M) (hM1 : M ≤ 9223372036854775807) (hb : S.size + 4 ≤ 140737488355328) :
    Calls Tryz.prog 118 #[.pointer (some ⟨p, 0, none⟩), .bool true] w (PWrote p v M (rlay M S E ⟨(byL 4 1).toArray⟩) w) := by
  have H : Hid (Calls Tryz.prog 116 #[.pointer (some ⟨p, 0, none⟩), .int .i64 1] w (PWrote p v M (rlay M S E ⟨(byL 4 1).toArray⟩) w)) := puint_ok p v 1 M E S w h hM0 hM1 hb (by decide)
  generalize rlay M S E ⟨(byL 4 1).toArray⟩ = r at H ⊢
  clear h hM0 hM1 hb
  go_enter Tryz.func118, Tryz.ntmps118
  go_wp2_with fail
  refine H.out.mono ?_
  intro e w2 hp
  obtain ⟨rfl, hp2⟩ := hp
  have HP : Hid (∃ v', PW w2 p v' M (Lib.strCells r.1) r.2 ∧ Kept p v v' w w2) := hp2
  clear hp2
  go_wp2
  first | go_end0 | refine bodyPost_ret (results_none rfl _ _ _) rfl ?_
  exact ⟨rfl, HP.out⟩

set_option maxHeartbeats 1000000 in
theorem pbool_false (p : Nat) (v : Value) (M E : Int) (S : ByteArray) (w : World) (h : PW w p v M (Lib.strCells S) E) (hM0 : 0 ≤ M) (hM1 : M ≤ 9223372036854775807) (hb : S.size + 4 ≤ 140737488355328) :
    Calls Tryz.prog 118 #[.pointer (some ⟨p, 0, none⟩), .bool false] w (PWrote p v M (rlay M S E ⟨(byL 4 0).toArray⟩) w) := by
  have H : Hid (Calls Tryz.prog 116 #[.pointer (some ⟨p, 0, none⟩), .int .i64 0] w (PWrote p v M (rlay M S E ⟨(byL 4 0).toArray⟩) w)) := puint_ok p v 0 M E S w h hM0 hM1 hb (by decide)
  generalize rlay M S E ⟨(byL 4 0).toArray⟩ = r at H ⊢
  clear h hM0 hM1 hb
  go_enter Tryz.func118, Tryz.ntmps118
  go_wp2_with fail
  refine H.out.mono ?_
  intro e w2 hp
  obtain ⟨rfl, hp2⟩ := hp
  have HP : Hid (∃ v', PW w2 p v' M (Lib.strCells r.1) r.2 ∧ Kept p v v' w w2) := hp2
  clear hp2
  go_wp2
  first | go_end0 | refine bodyPost_ret (results_none rfl _ _ _) rfl ?_
  exact ⟨rfl, HP.out⟩

set_option maxHeartbeats 1000000 in
theorem pcount_neg (p : Nat) (v : Value) (m n M E : Int) (S : ByteArray) (w : World) (h : PW w p v M (Lib.strCells S) E) (hw : (decide (0 ≤ m) && decide (m ≤ 4294967295)) = true) (hn : n < 0) :
    Calls Tryz.prog 120 #[.pointer (some ⟨p, 0, none⟩), .int .i64 m, .int .i64 n] w (PWrote p v M (S, firstE E 22) w) := by
  have H : Hid (Calls Tryz.prog 115 #[.pointer (some ⟨p, 0, none⟩), .int .i64 22] w (PWrote p v M (S, firstE E 22) w)) := pfail_any p v M E 22 S w h
  have HG : Hid (∀ w, Calls Tryz.prog 155 #[.int .i64 m] w fun e w' => e = .returned (.bool true) ∧ w' = w) := fun w => hw ▸ isWord_any m w
  clear h hw
  go_enter Tryz.func120, Tryz.ntmps120
  go_wp2_with fail
  refine (HG.out _).mono ?_
  rintro e w0 ⟨rfl, hw0⟩
  have hw1 := hw0.symm
  clear hw0
  subst hw1
  go_wp2_with fail
  refine H.out.mono ?_
  intro e w2 hp
  obtain ⟨rfl, hp2⟩ := hp
  have HP : Hid (∃ v', PW w2 p v' M (Lib.strCells (S, firstE E 22).1) (S, firstE E 22).2 ∧ Kept p v v' w w2) := hp2
  clear hp2
  go_wp2
  first | go_end0 | refine bodyPost_ret (results_none rfl _ _ _) rfl ?_
  exact ⟨rfl, HP.out⟩

/-- One laying of the program's Writer is the document's. -/
theorem lay_any2 (p q m : Nat) (v : Value) (M E : Int) (S J : ByteArray) (ps : List ByteArray) (w : World) (h : PW w p v M (Lib.strCells S) E) (hc : ∀ j, j < ps.length → w.cell? ⟨q, j, none⟩ = some (.string (ps.getD j ⟨#[]⟩)))
    (hq1 : q < w.heap.size) (hqp : q ≠ p) (hqv : some q ≠ v.ownBlock) (hps : ps.length = m) (hm : m ≤ 100) (hJ : cellsOf ps ps.length = Lib.strCells J) (hM0 : 0 ≤ M) (hM1 : M ≤ 2147483647) (hS : (S.size : Int) ≤ M) (hb : J.size ≤ 140737488355328) :
    Calls Tryz.prog 156 #[.pointer (some ⟨p, 0, none⟩), .slice (some ⟨q, 0, none⟩) m m] w (PWrote p v M (rlay M S E J) w) := by
  subst hps
  have hT : tot ps ps.length = J.size := by rw [← cellsOf_len ps _ (Nat.le_refl _), hJ, Lib.strCells_length]
  have hL : (Lib.strCells S).length = S.size := Lib.strCells_length S
  unfold rlay
  by_cases hE : E = 0
  · subst hE
    rw [if_neg (by simp)]
    by_cases hl : M < (S.size : Int) + (J.size : Int)
    · rw [if_pos hl]
      refine (lay_long p q v M (Lib.strCells S) ps w h hc hm hM0 (by omega) (by omega) (by omega) (by omega)).mono ?_
      rintro e w' ⟨rfl, k, rfl⟩
      exact ⟨rfl, v, (h.drewN k).setE 23, Kept.drewNSet p v w k 2 _⟩
    · rw [if_neg hl]
      refine (lay_fits p q v M (Lib.strCells S) ps w h hc hq1 hqp hqv hm hM0 (by omega) (by omega) (by omega) (by omega) (by omega)).mono ?_
      rintro e w' ⟨rfl, v', h1, h2⟩
      refine ⟨rfl, v', ?_, h2⟩
      have e1 : Lib.strCells (S ++ J) = Lib.strCells S ++ cellsOf ps ps.length := by rw [hJ]; simp [Lib.strCells]
      rw [e1]
      exact h1
  · rw [if_pos hE]
    refine (lay_wrong p q v M E (Lib.strCells S) ps w h hE hc hm hM0 (by omega) (by omega) (by omega)).mono ?_
    rintro e w' ⟨rfl, k, rfl⟩
    exact ⟨rfl, v, h.drewN k, Kept.drewN p v w k⟩

theorem lay_one2 (p q : Nat) (v : Value) (M E : Int) (S s : ByteArray) (w w1 : World) (h : PW w p v M (Lib.strCells S) E) (hB : Below w.heap.size w w1) (hq0 : w.heap.size ≤ q) (hq1 : q < w1.heap.size)
    (hc : w1.cell? ⟨q, 0, none⟩ = some (.string s)) (hM0 : 0 ≤ M) (hM1 : M ≤ 2147483647) (hS : (S.size : Int) ≤ M) (hb : s.size ≤ 140737488355328) :
    Calls Tryz.prog 156 #[.pointer (some ⟨p, 0, none⟩), .slice (some ⟨q, 0, none⟩) 1 1] w1 (PWrote p v M (rlay M S E s) w) := by
  have hlt := h.lt
  refine (lay_any2 p q 1 v M E S s [s] w1 (h.below hB) (fun j hj => by
    obtain rfl : j = 0 := by simp at hj; omega
    exact hc) hq1 (by omega) (fun e => ?_) rfl (by omega) (by simp [cellsOf]) hM0 hM1 hS hb).mono fun e w' hp => hp.behind hB
  have := (h.own.lt q e.symm).2
  omega
set_option maxHeartbeats 1000000 in
theorem praw_bad (p : Nat) (v : Value) (M E : Int) (S s : ByteArray) (w : World) (h : PW w p v M (Lib.strCells S) E) (h4 : ((s.size : Int) % 4 != 0) = true) :
    Calls Tryz.prog 124 #[.pointer (some ⟨p, 0, none⟩), .string s] w (PWrote p v M (S, firstE E 1) w) := by
  have H : Hid (Calls Tryz.prog 115 #[.pointer (some ⟨p, 0, none⟩), .int .i64 1] w (PWrote p v M (S, firstE E 1) w)) := pfail_any p v M E 1 S w h
  generalize (S, firstE E 1) = r at H ⊢
  clear h
  go_enter Tryz.func124, Tryz.ntmps124
  go_wp2_with fail
  refine H.out.mono ?_
  intro e w2 hp
  obtain ⟨rfl, hp2⟩ := hp
  have HP : Hid (∃ v', PW w2 p v' M (Lib.strCells r.1) r.2 ∧ Kept p v v' w w2) := hp2
  clear hp2
  go_wp2
  first | go_end0 | refine bodyPost_ret (results_none rfl _ _ _) rfl ?_
  exact ⟨rfl, HP.out⟩
set_option maxHeartbeats 1000000 in
theorem praw_ok (p : Nat) (v : Value) (M E : Int) (S s : ByteArray) (w : World) (h : PW w p v M (Lib.strCells S) E) (hM0 : 0 ≤ M) (hM1 : M ≤ 2147483647) (hS : (S.size : Int) ≤ M) (hb : s.size ≤ 140737488355328) (h4 : ((s.size : Int) % 4 != 0) = false) :
    Calls Tryz.prog 124 #[.pointer (some ⟨p, 0, none⟩), .string s] w (PWrote p v M (rlay M S E s) w) := by
  have H : Hid (∀ q w1, Below w.heap.size w w1 → w.heap.size ≤ q → q < w1.heap.size → w1.cell? ⟨q, 0, none⟩ = some (.string s) → Calls Tryz.prog 156 #[.pointer (some ⟨p, 0, none⟩), .slice (some ⟨q, 0, none⟩) 1 1] w1 (PWrote p v M (rlay M S E s) w)) :=
    fun q w1 hB h0 h1 hc => lay_one2 p q v M E S s w w1 h hB h0 h1 hc hM0 hM1 hS hb
  have HB : Hid (Below w.heap.size w w) := Below.refl _ _
  clear h hM0 hM1 hb hS
  go_enter Tryz.func124, Tryz.ntmps124
  go_wp2_with fail
  refine (H.out _ _ (HB.out.alloc HB.out.size _) HB.out.size (by simp) (by simp)).mono ?_
  intro e w2 hp
  obtain ⟨rfl, hp2⟩ := hp
  have HP : Hid (∃ v', PW w2 p v' M (Lib.strCells (rlay M S E s).1) (rlay M S E s).2 ∧ Kept p v v' w w2) := hp2
  clear hp2
  go_wp2
  first | go_end0 | refine bodyPost_ret (results_none rfl _ _ _) rfl ?_
  exact ⟨rfl, HP.out⟩
end Go.Proofs.YtfcbjcebkahehaaGreatDoor
