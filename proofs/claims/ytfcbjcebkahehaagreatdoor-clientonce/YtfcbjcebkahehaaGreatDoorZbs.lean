/- message: PrintReply. message: ParseCall, ParseReply: what they tell, plainly; ten cells set. message: ParseCall. message: ParseReply. -/
import Derived.Test.YtfcbjcebkahehaaGreatDoorMt
namespace Go.Proofs.YtfcbjcebkahehaaGreatDoor
open Go.RowKit
noncomputable instance ReplyP.dec (r : ReplyP) : Decidable r.may := Classical.propDecidable _
def replyV (r : ReplyP) : List Value := [.int .i64 r.xid, .bool r.denied, .int .i64 r.verf.flavor, .string ⟨r.verf.body.toArray⟩, .int .i64 r.accept, .int .i64 r.reject, .int .i64 r.why, .int .i64 r.low, .int .i64 r.high, .string ⟨r.results.toArray⟩]
noncomputable def prP (r : ReplyP) : List UInt8 × Int := prM r.may r.lay
def rtsH (r : ReplyP) : List (Prop × List UInt8) := [(isW r.xid, nbL 4 r.xid.toNat), (True, nbL 4 (1 : Int).toNat), (True, nbL 4 (if r.denied then 1 else 0))]
def rtsD (r : ReplyP) : List (Prop × List UInt8) := [(0 ≤ r.reject ∧ r.reject ≤ 1, nbL 4 r.reject.toNat), (r.verf.flavor = 0, []), (r.verf.body = [], []), (r.accept = 0, [])]
def rtsA (r : ReplyP) : List (Prop × List UInt8) := [(r.reject = 0, []), (isW r.verf.flavor, nbL 4 r.verf.flavor.toNat), (((r.verf.body.length : Nat) : Int) ≤ 400, nbL 4 r.verf.body.length ++ (r.verf.body ++ padB r.verf.body.length)), (0 ≤ r.accept ∧ r.accept ≤ 5, nbL 4 r.accept.toNat)]
def rtsB (r : ReplyP) : List (Prop × List UInt8) := if r.denied then rtsD r else rtsA r
def opt (s : Bool) (a b : Prop × List UInt8) : Prop × List UInt8 := if s then a else b
def rtsE (m a s : Bool) (r : ReplyP) : List (Prop × List UInt8) :=
  [opt m (isW r.low, nbL 4 r.low.toNat) (r.low = 0, []), opt m (isW r.high, nbL 4 r.high.toNat) (r.high = 0, []), opt a (0 ≤ r.why ∧ r.why ≤ 14, nbL 4 r.why.toNat) (r.why = 0, []), opt s (plainB r.results, r.results) (r.results = [], [])]
theorem tabRH (r : ReplyP) : Tab (replyV r) headR (rtsH r) := .cons (.word rfl) (.cons (.sign (by decide)) (.cons (.flag rfl) .nil))
theorem tabRB (r : ReplyP) : Tab (replyV r) (bodyR r.denied) (rtsB r) := by
  unfold rtsB bodyR
  cases r.denied
  · exact .cons (.noSmall rfl) (.cons (.word rfl) (.cons (.body rfl (by decide) (by decide)) (.cons (.small rfl (by decide) (by decide)) .nil)))
  · exact .cons (.small rfl (by decide) (by decide)) (.cons (.noWord rfl) (.cons (.noBody rfl) (.cons (.noSmall rfl) .nil)))
theorem tabRE (m a s : Bool) (r : ReplyP) (h : r.results.length ≤ 140737488355328) : Tab (replyV r) (endR m a s) (rtsE m a s r) := by
  have h1 : Lays (replyV r) m (.word 7) (opt m (isW r.low, nbL 4 r.low.toNat) (r.low = 0, [])).1 (opt m (isW r.low, nbL 4 r.low.toNat) (r.low = 0, [])).2 := by cases m; exact .noWord rfl; exact .word rfl
  have h2 : Lays (replyV r) m (.word 8) (opt m (isW r.high, nbL 4 r.high.toNat) (r.high = 0, [])).1 (opt m (isW r.high, nbL 4 r.high.toNat) (r.high = 0, [])).2 := by cases m; exact .noWord rfl; exact .word rfl
  have h3 : Lays (replyV r) a (.small 6 14) (opt a (0 ≤ r.why ∧ r.why ≤ 14, nbL 4 r.why.toNat) (r.why = 0, [])).1 (opt a (0 ≤ r.why ∧ r.why ≤ 14, nbL 4 r.why.toNat) (r.why = 0, [])).2 := by cases a; exact .noSmall rfl; exact .small rfl (by decide) (by decide)
  have h4 : Lays (replyV r) s (.tail 9) (opt s (plainB r.results, r.results) (r.results = [], [])).1 (opt s (plainB r.results, r.results) (r.results = [], [])).2 := by cases s; exact .noTail rfl; exact .tail rfl h
  exact .cons h1 (.cons h2 (.cons h3 (.cons h4 .nil)))
theorem roomRH (r : ReplyP) : Room (rtsH r) 12 := .cons (word_room _) (.cons (sign_room _) (.cons (sign_room _) .nil))
theorem roomRB (r : ReplyP) : Room (rtsB r) 412 := by
  unfold rtsB
  cases r.denied
  · exact .cons (n := 0) (none_room _) (.cons (word_room _) (.cons (body_room _) (.cons (small_room _ _) .nil)))
  · exact .cons (n := 4) (m := 408) (small_room _ _) (.cons (n := 0) (none_room _) (.cons (n := 0) (none_room _) (.cons (n := 408) (m := 0) (fun _ => by simp) .nil)))
theorem opt_room {s : Bool} {A B : Prop} {x : List UInt8} {n : Nat} (h : A → x.length ≤ n) : (opt s (A, x) (B, [])).1 → (opt s (A, x) (B, [])).2.length ≤ n := by
  cases s
  · exact fun _ => Nat.zero_le _
  · exact h
theorem roomRE (m a s : Bool) (r : ReplyP) : Room (rtsE m a s r) 1012 := .cons (opt_room (word_room _)) (.cons (opt_room (word_room _)) (.cons (opt_room (small_room _ _)) (.cons (opt_room (tail_room _)) .nil)))
/-- which end a reply has -/
def endM (r : ReplyP) : Bool := if r.denied then r.reject == 0 else r.accept == 2
def endA (r : ReplyP) : Bool := if r.denied then r.reject == 1 else false
def endS (r : ReplyP) : Bool := if r.denied then false else r.accept == 0
theorem opt_true (a b : Prop × List UInt8) : opt true a b = a := rfl
theorem opt_false (a b : Prop × List UInt8) : opt false a b = b := rfl
theorem auth_nul (a : AuthP) : a = nulA ↔ (a.flavor = 0 ∧ a.body = []) := by
  obtain ⟨f, b⟩ := a
  unfold nulA
  simp
theorem reply_may (r : ReplyP) : r.may ↔ (((True ∧ allA (rtsH r)) ∧ allA (rtsB r)) ∧ allA (rtsE (endM r) (endA r) (endS r) r)) := by
  obtain ⟨rx, rd, rv, ra, rl, rh, rr, rj, rw_⟩ := r
  unfold ReplyP.may rtsH rtsB rtsE endM endA endS
  cases rd
  · simp only [rtsA, allA, opt_false, Bool.false_eq_true, if_false]
    constructor
    · rintro ⟨h1, h2, h3, h4, h5, h6, h7⟩
      refine ⟨⟨⟨trivial, h1, trivial, trivial, trivial⟩, h3, h2.1, by have := h2.2; omega, ⟨h5, h6⟩, trivial⟩, ?_⟩
      rcases h7 with ⟨rfl, a1, a2, a3⟩ | ⟨rfl, a1, a2, a3⟩ | ⟨a0, a1, a2, a3, a4⟩
      · exact ⟨a2, a3, h4, a1, trivial⟩
      · exact ⟨a1, a2, h4, a3, trivial⟩
      · rw [show (ra == 0) = false from beq_eq_false_iff_ne.2 a0, show (ra == 2) = false from beq_eq_false_iff_ne.2 a1]
        exact ⟨a2, a3, h4, a4, trivial⟩
    · rintro ⟨⟨⟨_, h1, _⟩, h3, h2, h2', ⟨h5, h6⟩, _⟩, b1, b2, b3, b4, _⟩
      refine ⟨h1, ⟨h2, by omega⟩, h3, b3, h5, h6, ?_⟩
      by_cases e0 : ra = 0
      · subst e0
        exact .inl ⟨rfl, b4, b1, b2⟩
      · by_cases e2 : ra = 2
        · subst e2
          exact .inr (.inl ⟨rfl, b1, b2, b4⟩)
        · rw [show (ra == 2) = false from beq_eq_false_iff_ne.2 e2] at b1 b2
          rw [show (ra == 0) = false from beq_eq_false_iff_ne.2 e0] at b4
          exact .inr (.inr ⟨e0, e2, b1, b2, b4⟩)
  · simp only [rtsD, allA, opt_false, if_true, auth_nul]
    constructor
    · rintro ⟨h1, ⟨h2, h2'⟩, h3, h4, h5⟩
      rcases h5 with ⟨rfl, a1, a2, a3⟩ | ⟨rfl, a1, a2, a3, a4⟩
      · exact ⟨⟨⟨trivial, h1, trivial, trivial, trivial⟩, by decide, h2, h2', h3, trivial⟩, a1, a2, a3, h4, trivial⟩
      · exact ⟨⟨⟨trivial, h1, trivial, trivial, trivial⟩, by decide, h2, h2', h3, trivial⟩, a1, a2, ⟨a3, a4⟩, h4, trivial⟩
    · rintro ⟨⟨⟨_, h1, _⟩, h3, h2, h2', h5, _⟩, b1, b2, b3, b4, _⟩
      refine ⟨h1, ⟨h2, h2'⟩, h5, b4, ?_⟩
      by_cases e0 : rj = 0
      · subst e0
        exact .inl ⟨rfl, b1, b2, b3⟩
      · obtain rfl : rj = 1 := by omega
        exact .inr ⟨rfl, b1, b2, b3.1, b3.2⟩
theorem reply_lay_eq (r : ReplyP) (h : r.may) : (([] ++ allL (rtsH r)) ++ allL (rtsB r)) ++ allL (rtsE (endM r) (endA r) (endS r) r) = r.lay := by
  obtain ⟨rx, rd, rv, ra, rl, rh, rr, rj, rw_⟩ := r
  unfold ReplyP.may at h
  unfold ReplyP.lay AuthP.lay rtsH rtsB rtsE endM endA endS
  cases rd
  · simp only [Bool.false_eq_true, if_false] at h
    simp only [rtsA, allL, opt_false, Bool.false_eq_true, if_false, List.nil_append, List.append_nil, List.append_assoc]
    obtain ⟨_, _, _, _, _, _, h7⟩ := h
    rcases h7 with ⟨rfl, a1, rfl, rfl⟩ | ⟨rfl, a1, a2, rfl⟩ | ⟨a0, a1, rfl, rfl, rfl⟩
    · rfl
    · simp [opt]
    · rw [show (ra == 0) = false from beq_eq_false_iff_ne.2 a0, show (ra == 2) = false from beq_eq_false_iff_ne.2 a1]
      simp [opt, a1]
  · simp only [if_true] at h
    simp only [rtsD, allL, opt_false, if_true, List.nil_append, List.append_nil, List.append_assoc]
    obtain ⟨_, _, _, _, h5⟩ := h
    rcases h5 with ⟨rfl, a1, a2, rfl⟩ | ⟨rfl, rfl, rfl, a3, a4⟩
    · simp [opt]
    · simp [opt]
theorem replyEnd_any (b : Nat) (r : ReplyP) (w : World) (h : Bk w b (replyV r) 46) : Calls Tryz.prog 80 #[.pointer (some ⟨b, 0, none⟩)] w (Makes b (endR (endM r) (endA r) (endS r)) w) := by
  have h1 : w.cell? ⟨b, 1, none⟩ = some (.bool r.denied) := h.cell 1 rfl
  have h4 : w.cell? ⟨b, 4, none⟩ = some (.int .i64 r.accept) := h.cell 4 rfl
  have h5 : w.cell? ⟨b, 5, none⟩ = some (.int .i64 r.reject) := h.cell 5 rfl
  unfold endM endA endS
  generalize r.denied = d at *
  cases d
  · exact replyEnd_acc b r.accept w h1 h4
  · exact replyEnd_den b r.reject w h1 h5
set_option maxRecDepth 4000 in
theorem printReply_any (r : ReplyP) (w : World) (hT : ErrT w) (hl : r.results.length ≤ 140737488355328) :
    Calls Tryz.prog 49 #[.agg (replyV r).toArray] w fun e w' => e = .returned (.tuple #[.string ⟨(prP r).1.toArray⟩, .int .i64 (prP r).2]) ∧ Below w.heap.size w w' := by
  obtain ⟨wa, hwa⟩ : ∃ x, w.alloc (.cells (replyV r).toArray 46) = x := ⟨_, rfl⟩
  obtain ⟨hk, hB, hz⟩ := boxed w wa _ _ hwa
  obtain ⟨wb, hwb⟩ : ∃ x, x = wa.alloc (.cells #[.int .i64 1840, .slice none 0 0, .nilIface] 181) := ⟨_, rfl⟩
  have hBb : Below wa.heap.size wa wb := by rw [hwb]; exact below_new _ _
  have HS : Hid (WS wb wb w.heap.size wa.heap.size (replyV r) 46 1840 True []) := ⟨WrK.new _ 1840 wa wb (by decide) hwb, hk.below hBb (by omega), Below.refl _ _, by omega⟩
  have HB : Hid (Below w.heap.size w wb) := hB.trans (hBb.mono (by omega))
  have HTE := hid hT
  have HZ := hid hz
  have HN : Hid (Calls Tryz.prog 76 #[.int .i64 1840] wa fun e w' => e = .returned (.pointer (some ⟨wa.heap.size, 0, none⟩)) ∧ w' = wb) := by rw [hwb]; exact w_new 1840 wa (by decide)
  have HTH := hid (tabRH r)
  have HTB := hid (tabRB r)
  have HTD := hid (tabRE (endM r) (endA r) (endS r) r hl)
  have HRH := hid (roomRH r)
  have HRB := hid (roomRB r)
  have HRE := hid (roomRE (endM r) (endA r) (endS r) r)
  have HH := hid (replyHead_any w.heap.size)
  have HBD : Hid (∀ w1, Bk w1 w.heap.size (replyV r) 46 → Calls Tryz.prog 79 #[.pointer (some ⟨w.heap.size, 0, none⟩)] w1 (Makes w.heap.size (bodyR r.denied) w1)) := fun w1 h1 => replyBody_any _ _ w1 (h1.cell 1 rfl)
  have HED : Hid (∀ w1, Bk w1 w.heap.size (replyV r) 46 → Calls Tryz.prog 80 #[.pointer (some ⟨w.heap.size, 0, none⟩)] w1 (Makes w.heap.size (endR (endM r) (endA r) (endS r)) w1)) := fun w1 h1 => replyEnd_any _ r w1 h1
  have HPR : Hid (∀ w4, ErrT w4 → WS wb w4 w.heap.size wa.heap.size (replyV r) 46 1840 (((True ∧ allA (rtsH r)) ∧ allA (rtsB r)) ∧ allA (rtsE (endM r) (endA r) (endS r) r)) ((([] ++ allL (rtsH r)) ++ allL (rtsB r)) ++ allL (rtsE (endM r) (endA r) (endS r) r)) → Calls Tryz.prog 81 #[.pointer (some ⟨wa.heap.size, 0, none⟩)] w4 fun e w' => e = .returned (.tuple #[.string ⟨(prP r).1.toArray⟩, .int .i64 (prP r).2]) ∧ Below w4.heap.size w4 w') :=
    fun w4 hE h4 => printed_any _ _ 1840 _ r.may _ r.lay w4 h4.wr hE (reply_may r) (fun q => reply_lay_eq r ((reply_may r).2 q))
  have HLB : Hid ((bodyR r.denied).length = 4) := rfl
  have HLE : Hid ((endR (endM r) (endA r) (endS r)).length = 4) := rfl
  generalize prP r = R at *
  generalize replyV r = V at *
  generalize rtsH r = AH at *
  generalize rtsB r = AB at *
  generalize rtsE (endM r) (endA r) (endS r) r = AE at *
  generalize bodyR r.denied = TB at *
  generalize endR (endM r) (endA r) (endS r) = TE at *
  clear hk hB hz hwb hBb hT hl
  go_enter Tryz.func49, Tryz.ntmps49
  go_wp2_with fail
  refine HN.out.mono ?_
  rintro e w1 ⟨rfl, hw1⟩
  have hw2 := hw1.symm
  clear hw1 HN
  subst hw2
  go_wp2_with fail
  refine (HH.out _).mono ?_
  rintro e w2 ⟨rfl, hq2, hB2, hz2⟩
  have H3 := hid (HS.out.lays HTH.out hq2 hB2 hz2 (by decide) (by decide) (by decide) HRH.out (fun _ => by decide))
  clear hq2 hB2 hz2 HH HTH
  go_wp2_with fail
  refine H3.out.mono ?_
  rintro e w3 ⟨rfl, hS3⟩
  have HS3 := hid hS3
  clear hS3 H3
  go_wp2_with fail
  refine (HBD.out _ HS3.out.k).mono ?_
  rintro e w4 ⟨rfl, hq4, hB4, hz4⟩
  have H5 := hid (HS3.out.lays HTB.out hq4 hB4 hz4 (by rw [HLB.out]; decide) (by decide) (by decide) HRB.out (fun q => by
    have := HRH.out.full q.2
    rw [List.nil_append]
    omega))
  clear hq4 hB4 hz4 HBD HTB
  go_wp2_with fail
  refine H5.out.mono ?_
  rintro e w5 ⟨rfl, hS5⟩
  have HS5 := hid hS5
  clear hS5 H5
  go_wp2_with fail
  refine (HED.out _ HS5.out.k).mono ?_
  rintro e w6 ⟨rfl, hq6, hB6, hz6⟩
  have H7 := hid (HS5.out.lays HTD.out hq6 hB6 hz6 (by rw [HLE.out]; decide) (by decide) (by decide) HRE.out (fun q => by
    have := HRH.out.full q.1.2
    have := HRB.out.full q.2
    rw [List.nil_append, List.length_append]
    omega))
  clear hq6 hB6 hz6 HED HTD
  go_wp2_with fail
  refine H7.out.mono ?_
  rintro e w7 ⟨rfl, hS7⟩
  have HB7 : Hid (Below w.heap.size w w7) := HB.out.trans (hS7.low.mono (by have := HZ.out; omega))
  have H8 := hid (HPR.out w7 (HTE.out.below HB7.out) hS7)
  clear hS7 H7 HPR
  go_wp2_with fail
  refine H8.out.mono ?_
  rintro e w8 ⟨rfl, hB8⟩
  have HB8 : Hid (Below w.heap.size w w8) := HB7.out.trans (hB8.mono HB7.out.size)
  clear hB8 H8
  go_wp2
  refine bodyPost_ret (v := .tuple #[.string ⟨R.1.toArray⟩, .int .i64 R.2]) (by simp [results, Tryz.results49, go_sem]) rfl ⟨rfl, HB8.out⟩
end Go.Proofs.YtfcbjcebkahehaaGreatDoor
namespace Go.Proofs.YtfcbjcebkahehaaGreatDoor
open Go.RowKit
theorem Bk.set10 {w : World} {b : Nat} {x0 x1 x2 x3 x4 x5 x6 x7 x8 x9 : Value} {t : TypeId} (h : Bk w b [x0, x1, x2, x3, x4, x5, x6, x7, x8, x9] t) (v0 v1 v2 v3 v4 v5 v6 v7 v8 v9 : Value) :
    Bk ((((((((((w.setCell ⟨b, 0, none⟩ v0).setCell ⟨b, 1, none⟩ v1).setCell ⟨b, 2, none⟩ v2).setCell ⟨b, 3, none⟩ v3).setCell ⟨b, 4, none⟩ v4).setCell ⟨b, 5, none⟩ v5).setCell ⟨b, 6, none⟩ v6).setCell ⟨b, 7, none⟩ v7).setCell ⟨b, 8, none⟩ v8).setCell ⟨b, 9, none⟩ v9) b [v0, v1, v2, v3, v4, v5, v6, v7, v8, v9] t :=
  (((((((((h.set 0 v0).set 1 v1).set 2 v2).set 3 v3).set 4 v4).set 5 v5).set 6 v6).set 7 v7).set 8 v8).set 9 v9
theorem below_set10 {w0 w : World} {b B : Nat} (h : Below B w0 w) (hb : B ≤ b) (v0 v1 v2 v3 v4 v5 v6 v7 v8 v9 : Value) : Below B w0 ((((((((((w.setCell ⟨b, 0, none⟩ v0).setCell ⟨b, 1, none⟩ v1).setCell ⟨b, 2, none⟩ v2).setCell ⟨b, 3, none⟩ v3).setCell ⟨b, 4, none⟩ v4).setCell ⟨b, 5, none⟩ v5).setCell ⟨b, 6, none⟩ v6).setCell ⟨b, 7, none⟩ v7).setCell ⟨b, 8, none⟩ v8).setCell ⟨b, 9, none⟩ v9) :=
  (((((((((h.setCell hb v0).setCell hb v1).setCell hb v2).setCell hb v3).setCell hb v4).setCell hb v5).setCell hb v6).setCell hb v7).setCell hb v8).setCell hb v9
theorem set10_ne (w : World) (b k : Nat) (v0 v1 v2 v3 v4 v5 v6 v7 v8 v9 : Value) (h : k ≠ b) : (((((((((((w.setCell ⟨b, 0, none⟩ v0).setCell ⟨b, 1, none⟩ v1).setCell ⟨b, 2, none⟩ v2).setCell ⟨b, 3, none⟩ v3).setCell ⟨b, 4, none⟩ v4).setCell ⟨b, 5, none⟩ v5).setCell ⟨b, 6, none⟩ v6).setCell ⟨b, 7, none⟩ v7).setCell ⟨b, 8, none⟩ v8).setCell ⟨b, 9, none⟩ v9)).heap[k]? = w.heap[k]? := by
  rw [Below.heap_setCell _ _ _ k h, Below.heap_setCell _ _ _ k h, Below.heap_setCell _ _ _ k h, Below.heap_setCell _ _ _ k h, Below.heap_setCell _ _ _ k h, Below.heap_setCell _ _ _ k h, Below.heap_setCell _ _ _ k h, Below.heap_setCell _ _ _ k h, Below.heap_setCell _ _ _ k h, Below.heap_setCell _ _ _ k h]
def nulC : CallP := ⟨0, 0, 0, 0, 0, nulA, nulA, []⟩
def nulR : ReplyP := ⟨0, false, nulA, 0, 0, 0, [], 0, 0⟩
/-- the first number, and the sign of a message -/
def rdHead (n : Int) (st : Rs) : Nat × Rs := ((st.go 0 rdWord).1, if (((st.go 0 rdWord).2.go 0 rdWord).1 : Int) = n then ((st.go 0 rdWord).2.go 0 rdWord).2 else ((st.go 0 rdWord).2.go 0 rdWord).2.fail 121)
/-- what stands at the end -/
def rdTail (st : Rs) : List UInt8 × Rs := (if plainB st.l then st else st.fail 121).go [] rdRest
structure CallQ where
  h : Nat × Rs
  r : Nat × Rs
  p : Nat × Rs
  v : Nat × Rs
  q : Nat × Rs
  c : AuthP × Rs
  f : AuthP × Rs
  a : List UInt8 × Rs
def rdCallQ (st : Rs) : CallQ :=
  let h := rdHead 0 st
  let r := h.2.go 0 rdWord
  let p := r.2.go 0 rdWord
  let v := p.2.go 0 rdWord
  let q := v.2.go 0 rdWord
  let c := rdAuth q.2
  let f := rdAuth c.2
  ⟨h, r, p, v, q, c, f, rdTail f.2⟩
def CallQ.two (x : CallQ) : CallP := ⟨x.h.1, x.r.1, 0, 0, 0, nulA, nulA, []⟩
def CallQ.all (x : CallQ) : CallP := ⟨x.h.1, x.r.1, x.p.1, x.v.1, x.q.1, x.c.1, x.f.1, x.a.1⟩
def parseC (s : List UInt8) : CallP × Int :=
  if (rdCallQ ⟨s, 0⟩).r.2.e = 0 ∧ ((rdCallQ ⟨s, 0⟩).r.1 : Int) ≠ 2 then ((rdCallQ ⟨s, 0⟩).two, 0)
  else if rdDone (rdCallQ ⟨s, 0⟩).a.2.l (rdCallQ ⟨s, 0⟩).a.2.e = 0 then ((rdCallQ ⟨s, 0⟩).all, 0) else (nulC, 121)
theorem rd_headC (st : Rs) : rdT headC (st, callV nulC) = ((rdCallQ st).r.2, callV (rdCallQ st).two) := rfl
theorem rd_bodyC_of (st : Rs) (x r : Int) (p v q : Nat × Rs) (c f : AuthP × Rs) (a : List UInt8 × Rs) (hp : st.go 0 rdWord = p) (hv : p.2.go 0 rdWord = v) (hq : v.2.go 0 rdWord = q) (hc : rdAuth q.2 = c) (hf : rdAuth c.2 = f) (ha : rdTail f.2 = a) :
    rdT bodyC (st, callV ⟨x, r, 0, 0, 0, nulA, nulA, []⟩) = (a.2, callV ⟨x, r, p.1, v.1, q.1, c.1, f.1, a.1⟩) := by
  subst ha hf hc
  unfold bodyC callV rdTail rdAuth
  simp only [rdT, Fd.rd, if_true, List.set_cons_succ, List.set_cons_zero, hp, hv, hq]
theorem rd_bodyC (st : Rs) : rdT bodyC ((rdCallQ st).r.2, callV (rdCallQ st).two) = ((rdCallQ st).a.2, callV (rdCallQ st).all) := rd_bodyC_of _ _ _ _ _ _ _ _ _ rfl rfl rfl rfl rfl rfl
end Go.Proofs.YtfcbjcebkahehaaGreatDoor
namespace Go.Proofs.YtfcbjcebkahehaaGreatDoor
open Go.RowKit
/-- behind two blocks and a Reader a table is made, and read -/
structure RS (w0 w : World) (b p : Nat) (x : Rs × List Value) (t : TypeId) : Prop where
  r : RR w p x.1.l x.1.e
  k : Bk w b x.2 t
  low : Below b w0 w
  bp : b < p
theorem RS.reads {w0 w w1 : World} {b p : Nat} {x : Rs × List Value} {t : TypeId} {tab : List (Bool × Fd)} (h : RS w0 w b p x t) (hq : Bk w1 w.heap.size (rowsV b tab) 185) (hB : Below w.heap.size w w1) (hz : w1.heap.size = w.heap.size + 1)
    (hn : tab.length ≤ 100) (hfit : ∀ r ∈ tab, r.2.fits x.2.length) (hl : x.1.l.length ≤ 281474976710656) :
    Calls Tryz.prog 89 #[.pointer (some ⟨p, 0, none⟩), .slice (some ⟨w.heap.size, 0, none⟩) tab.length tab.length] w1 fun e w' => e = .returned (.tuple #[]) ∧ RS w0 w' b p (rdT tab x) t := by
  have hp := h.r.lt
  have hbl := h.k.lt
  have hbp := h.bp
  refine (readRows_any (fun k => k < b ∨ k = w.heap.size) b p w.heap.size tab x t _ w1 (h.r.below hB) (h.k.below hB hbl) (fun k hk => hk.elim (fun e => ⟨by omega, by omega, by omega⟩) fun e => ⟨by omega, by omega, by omega⟩) (by omega) hq (.inr rfl) hn hfit hl).mono fun e w' hp => ⟨hp.1, hp.2.r, hp.2.k, ?_, hbp⟩
  exact (h.low.trans (hB.mono (by omega))).trans (hp.2.f.below fun k hk => .inl hk)
theorem RS.below {w0 w w1 : World} {b p : Nat} {x : Rs × List Value} {t : TypeId} (h : RS w0 w b p x t) (hB : Below w.heap.size w w1) : RS w0 w1 b p x t := by
  have := h.k.lt
  exact ⟨h.r.below hB, h.k.below hB h.k.lt, h.low.trans (hB.mono (by omega)), h.bp⟩
theorem fitC (tab : List (Bool × Fd)) (n : Nat) (h : tab.all (fun r => match r.2 with | .word i => decide (i < n) | .flag i => decide (i < n) | .small i _ => decide (i < n) | .body i _ => decide (i < n) | .sign _ => true | .tail i => decide (i < n)) = true) : ∀ r ∈ tab, r.2.fits n := fun r hr => by
  have := List.all_eq_true.1 h r hr
  obtain ⟨s, f⟩ := r
  cases f <;> first | trivial | (show _ < n; exact of_decide_eq_true this)
/-- two blocks and a Reader -/
theorem three_start (cs : List Value) (s : List UInt8) (t : TypeId) (w wa wb wc : World) (ha : w.alloc (.cells cs.toArray t) = wa) (hb : wa.alloc (.cells cs.toArray t) = wb) (hc : wc = wb.alloc (.cells #[.string ⟨s.toArray⟩, .nilIface] 225)) :
    RS wc wc (w.heap.size + 1) (w.heap.size + 1 + 1) (⟨s, 0⟩, cs) t ∧ Bk wc w.heap.size cs t ∧ Below w.heap.size w wc ∧ wa.heap.size = w.heap.size + 1 ∧ wb.heap.size = w.heap.size + 1 + 1 := by
  obtain ⟨k1, B1, z1⟩ := boxed w wa cs t ha
  obtain ⟨k2, B2, z2⟩ := boxed wa wb cs t hb
  have B3 : Below wb.heap.size wb wc := by rw [hc]; exact below_new _ _
  have h3 := RR.new s wb
  rw [← hc] at h3
  rw [z1] at k2 z2 B2
  rw [z2] at h3 B3
  exact ⟨⟨h3, k2.below B3 (by omega), Below.refl _ _, by omega⟩, (k1.below B2 (by omega)).below B3 (by omega), (B1.trans (B2.mono (by omega))).trans (B3.mono (by omega)), z1, z2⟩
set_option maxRecDepth 4000 in
set_option maxHeartbeats 1000000 in
theorem parseCall_any (s : List UInt8) (w : World) (hT : ErrT w) (hl : s.length ≤ 281474976710656) :
    Calls Tryz.prog 82 #[.string ⟨s.toArray⟩] w fun e w' => e = .returned (.tuple #[.agg (callV (parseC s).1).toArray, .int .i64 (parseC s).2]) ∧ Below w.heap.size w w' := by
  obtain ⟨wa, hwa⟩ : ∃ x, w.alloc (.cells #[.int .i64 0, .int .i64 0, .int .i64 0, .int .i64 0, .int .i64 0, .int .i64 0, .string ⟨#[]⟩, .int .i64 0, .string ⟨#[]⟩, .string ⟨#[]⟩] 108) = x := ⟨_, rfl⟩
  obtain ⟨wb, hwb⟩ : ∃ x, wa.alloc (.cells #[.int .i64 0, .int .i64 0, .int .i64 0, .int .i64 0, .int .i64 0, .int .i64 0, .string ⟨#[]⟩, .int .i64 0, .string ⟨#[]⟩, .string ⟨#[]⟩] 108) = x := ⟨_, rfl⟩
  obtain ⟨wc, hwc⟩ : ∃ x, x = wb.alloc (.cells #[.string ⟨s.toArray⟩, .nilIface] 225) := ⟨_, rfl⟩
  obtain ⟨hS, hK0, hB, hza, hzb⟩ := three_start [.int .i64 0, .int .i64 0, .int .i64 0, .int .i64 0, .int .i64 0, .int .i64 0, .string ⟨#[]⟩, .int .i64 0, .string ⟨#[]⟩, .string ⟨#[]⟩] s _ w wa wb wc hwa hwb hwc
  have HS := hid hS
  have HK0 := hid hK0
  have HB := hid hB
  have HTE := hid hT
  have HNR : Hid (Calls Tryz.prog 88 #[.string ⟨s.toArray⟩] wb fun e w' => e = .returned (.pointer (some ⟨w.heap.size + 1 + 1, 0, none⟩)) ∧ w' = wc) := by rw [hwc, ← hzb]; exact rnew_rd s wb
  have HL := hid hl
  have HL1 : Hid ((rdCallQ ⟨s, 0⟩).r.2.l.length ≤ 281474976710656) := Nat.le_trans (rdT_len headC (⟨s, 0⟩, callV nulC)).1 hl
  have HX1 : Hid (rdT headC (⟨s, 0⟩, [.int .i64 0, .int .i64 0, .int .i64 0, .int .i64 0, .int .i64 0, .int .i64 0, .string ⟨#[]⟩, .int .i64 0, .string ⟨#[]⟩, .string ⟨#[]⟩]) = ((rdCallQ ⟨s, 0⟩).r.2, callV (rdCallQ ⟨s, 0⟩).two)) := rd_headC _
  have HX2 := hid (rd_bodyC ⟨s, 0⟩)
  have HFH := hid (fitC headC 10 rfl)
  have HFB : Hid (∀ r ∈ bodyC, r.2.fits 10) := fitC bodyC 10 rfl
  have HH := hid (callHead_any (w.heap.size + 1))
  have HBD := hid (callBody_any (w.heap.size + 1))
  obtain ⟨D, hD⟩ : ∃ D, rdDone (rdCallQ ⟨s, 0⟩).a.2.l (rdCallQ ⟨s, 0⟩).a.2.e = D := ⟨_, rfl⟩
  have HD := hid hD
  obtain ⟨R, hR⟩ : ∃ R, parseC s = R := ⟨_, rfl⟩
  have HRT : Hid ((rdCallQ ⟨s, 0⟩).r.2.e = 0 → (rdCallQ ⟨s, 0⟩).two.rpc ≠ 2 → R = ((rdCallQ ⟨s, 0⟩).two, 0)) := fun h1 h2 => by
    rw [← hR]; unfold parseC; exact if_pos ⟨h1, h2⟩
  have HRE : Hid (¬ ((rdCallQ ⟨s, 0⟩).r.2.e = 0 ∧ (rdCallQ ⟨s, 0⟩).two.rpc ≠ 2) → (D = 0 → R = ((rdCallQ ⟨s, 0⟩).all, 0)) ∧ (D ≠ 0 → R = (nulC, 121))) := fun h1 => by
    have h2 : ¬ ((rdCallQ ⟨s, 0⟩).r.2.e = 0 ∧ ((rdCallQ ⟨s, 0⟩).r.1 : Int) ≠ 2) := h1
    rw [← hR]; unfold parseC; rw [if_neg h2, hD]
    exact ⟨fun h => by rw [if_pos h], fun h => by rw [if_neg h]⟩
  rw [hR]
  clear hS hK0 hB hT hwc hl hD hR
  generalize (rdCallQ ⟨s, 0⟩).r.2 = st1 at *
  generalize (rdCallQ ⟨s, 0⟩).two = Y at *
  generalize (rdCallQ ⟨s, 0⟩).a.2 = st2 at *
  generalize (rdCallQ ⟨s, 0⟩).all = Z at *
  go_enter Tryz.func82, Tryz.ntmps82
  go_wp2_with fail
  refine HNR.out.mono ?_
  rintro e w1 ⟨rfl, hw1⟩
  have hw2 := hw1.symm
  clear hw1 HNR
  subst hw2
  go_wp2_with fail
  refine (HH.out _).mono ?_
  rintro e w2 ⟨rfl, hq2, hB2, hz2⟩
  have H3 := hid (HS.out.reads hq2 hB2 hz2 (by decide) HFH.out HL.out)
  rw [HX1.out] at H3
  clear hq2 hB2 hz2 HH
  go_wp2_with fail
  refine H3.out.mono ?_
  rintro e w3 ⟨rfl, hS3⟩
  have HS3 := hid hS3
  have HB3 : Hid (Below w.heap.size w w3) := HB.out.trans (hS3.low.mono (by omega))
  have H4 := hid (rwrong_any _ _ _ w3 hS3.r (HTE.out.below HB3.out))
  clear hS3 H3
  simp only at H4
  generalize st1.e = E0 at H4 HRT HRE
  go_wp2_with fail
  refine H4.out.mono ?_
  rintro e w6 ⟨rfl, hB6⟩
  have HS6 := hid (HS3.out.below hB6)
  have r1 : w6.cell? ⟨w.heap.size + 1, 1, none⟩ = some (.int .i64 Y.rpc) := HS6.out.k.cell 1 rfl
  have HB6 : Hid (Below w.heap.size w w6) := HB3.out.trans (hB6.mono HB3.out.size)
  have HK6 : Hid (Bk w6 w.heap.size [.int .i64 0, .int .i64 0, .int .i64 0, .int .i64 0, .int .i64 0, .int .i64 0, .string ⟨#[]⟩, .int .i64 0, .string ⟨#[]⟩, .string ⟨#[]⟩] 108) := (HK0.out.below HS3.out.low (by omega)).below hB6 (by have := HS3.out.k.lt; omega)
  clear hB6 H4
  by_cases h0 : E0 = 0
  · by_cases h2 : Y.rpc = 2
    · have HRZ := hid (HRE.out (fun q => q.2 h2))
      have e2 : (Y.rpc != 2) = false := bne_eq_false_iff_eq.2 h2
      subst h0
      go_wp2_with fail
      refine (HBD.out _).mono ?_
      rintro e w7 ⟨rfl, hq7, hB7, hz7⟩
      have H8 := hid (HS6.out.reads hq7 hB7 hz7 (by decide) HFB.out HL1.out)
      rw [HX2.out] at H8
      clear hq7 hB7 hz7 HBD r1
      go_wp2_with fail
      refine H8.out.mono ?_
      rintro e w8 ⟨rfl, hS8⟩
      have HS8 := hid hS8
      have HB8 : Hid (Below w.heap.size w w8) := HB.out.trans (hS8.low.mono (by omega))
      have H9 := hid (rdone_rd _ _ _ w8 hS8.r (HTE.out.below HB8.out))
      simp only [HD.out] at H9
      clear hS8 H8
      go_wp2_with fail
      refine H9.out.mono ?_
      rintro e w9 ⟨rfl, hB9⟩
      have HS9 := hid (HS8.out.below hB9)
      have HK : Hid (Bk w9 w.heap.size [.int .i64 0, .int .i64 0, .int .i64 0, .int .i64 0, .int .i64 0, .int .i64 0, .string ⟨#[]⟩, .int .i64 0, .string ⟨#[]⟩, .string ⟨#[]⟩] 108) := (HK0.out.below HS8.out.low (by omega)).below hB9 (by have := HS8.out.k.lt; omega)
      have HBK : Hid (Below w.heap.size w w9) := HB8.out.trans (hB9.mono HB8.out.size)
      clear hB9 H9
      have k0 := HK.out.cell 0 rfl
      have f0 := HK.out.frozen 0
      have k1 := HK.out.cell 1 rfl
      have f1 := HK.out.frozen 1
      have k2 := HK.out.cell 2 rfl
      have f2 := HK.out.frozen 2
      have k3 := HK.out.cell 3 rfl
      have f3 := HK.out.frozen 3
      have k4 := HK.out.cell 4 rfl
      have f4 := HK.out.frozen 4
      have k5 := HK.out.cell 5 rfl
      have f5 := HK.out.frozen 5
      have k6 := HK.out.cell 6 rfl
      have f6 := HK.out.frozen 6
      have k7 := HK.out.cell 7 rfl
      have f7 := HK.out.frozen 7
      have k8 := HK.out.cell 8 rfl
      have f8 := HK.out.frozen 8
      have k9 := HK.out.cell 9 rfl
      have f9 := HK.out.frozen 9
      by_cases hd : D = 0
      · have hR := HRZ.out.1 hd
        subst hR
        subst hd
        have c0 : w9.cell? ⟨w.heap.size + 1, 0, none⟩ = some (.int .i64 Z.xid) := HS9.out.k.cell 0 rfl
        have c1 : w9.cell? ⟨w.heap.size + 1, 1, none⟩ = some (.int .i64 Z.rpc) := HS9.out.k.cell 1 rfl
        have c2 : w9.cell? ⟨w.heap.size + 1, 2, none⟩ = some (.int .i64 Z.prog) := HS9.out.k.cell 2 rfl
        have c3 : w9.cell? ⟨w.heap.size + 1, 3, none⟩ = some (.int .i64 Z.vers) := HS9.out.k.cell 3 rfl
        have c4 : w9.cell? ⟨w.heap.size + 1, 4, none⟩ = some (.int .i64 Z.proc) := HS9.out.k.cell 4 rfl
        have c5 : w9.cell? ⟨w.heap.size + 1, 5, none⟩ = some (.int .i64 Z.cred.flavor) := HS9.out.k.cell 5 rfl
        have c6 : w9.cell? ⟨w.heap.size + 1, 6, none⟩ = some (.string ⟨Z.cred.body.toArray⟩) := HS9.out.k.cell 6 rfl
        have c7 : w9.cell? ⟨w.heap.size + 1, 7, none⟩ = some (.int .i64 Z.verf.flavor) := HS9.out.k.cell 7 rfl
        have c8 : w9.cell? ⟨w.heap.size + 1, 8, none⟩ = some (.string ⟨Z.verf.body.toArray⟩) := HS9.out.k.cell 8 rfl
        have c9 : w9.cell? ⟨w.heap.size + 1, 9, none⟩ = some (.string ⟨Z.args.toArray⟩) := HS9.out.k.cell 9 rfl
        have HZ9 := HK.out.set10 (.int .i64 Z.xid) (.int .i64 Z.rpc) (.int .i64 Z.prog) (.int .i64 Z.vers) (.int .i64 Z.proc) (.int .i64 Z.cred.flavor) (.string ⟨Z.cred.body.toArray⟩) (.int .i64 Z.verf.flavor) (.string ⟨Z.verf.body.toArray⟩) (.string ⟨Z.args.toArray⟩)
        have q0 := HZ9.cell 0 rfl
        have q1 := HZ9.cell 1 rfl
        have q2 := HZ9.cell 2 rfl
        have q3 := HZ9.cell 3 rfl
        have q4 := HZ9.cell 4 rfl
        have q5 := HZ9.cell 5 rfl
        have q6 := HZ9.cell 6 rfl
        have q7 := HZ9.cell 7 rfl
        have q8 := HZ9.cell 8 rfl
        have q9 := HZ9.cell 9 rfl
        have HB9 := hid (below_set10 (b := w.heap.size) HBK.out (Nat.le_refl _) (.int .i64 Z.xid) (.int .i64 Z.rpc) (.int .i64 Z.prog) (.int .i64 Z.vers) (.int .i64 Z.proc) (.int .i64 Z.cred.flavor) (.string ⟨Z.cred.body.toArray⟩) (.int .i64 Z.verf.flavor) (.string ⟨Z.verf.body.toArray⟩) (.string ⟨Z.args.toArray⟩))
        clear HZ9
        go_wp2
        refine bodyPost_ret (v := .tuple #[.agg #[.int .i64 Z.xid, .int .i64 Z.rpc, .int .i64 Z.prog, .int .i64 Z.vers, .int .i64 Z.proc, .int .i64 Z.cred.flavor, .string ⟨Z.cred.body.toArray⟩, .int .i64 Z.verf.flavor, .string ⟨Z.verf.body.toArray⟩, .string ⟨Z.args.toArray⟩], .int .i64 0]) (by simp [results, Tryz.results82, go_sem, q0, q1, q2, q3, q4, q5, q6, q7, q8, q9]) rfl ⟨rfl, HB9.out⟩
      · have hR := HRZ.out.2 hd
        subst hR
        have hd2 : (D != 0) = true := bne_iff_ne.2 hd
        have HZ9 := HK.out.set10 (.int .i64 0) (.int .i64 0) (.int .i64 0) (.int .i64 0) (.int .i64 0) (.int .i64 0) (.string ⟨#[]⟩) (.int .i64 0) (.string ⟨#[]⟩) (.string ⟨#[]⟩)
        have q0 := HZ9.cell 0 rfl
        have q1 := HZ9.cell 1 rfl
        have q2 := HZ9.cell 2 rfl
        have q3 := HZ9.cell 3 rfl
        have q4 := HZ9.cell 4 rfl
        have q5 := HZ9.cell 5 rfl
        have q6 := HZ9.cell 6 rfl
        have q7 := HZ9.cell 7 rfl
        have q8 := HZ9.cell 8 rfl
        have q9 := HZ9.cell 9 rfl
        have HB9 := hid (below_set10 (b := w.heap.size) HBK.out (Nat.le_refl _) (.int .i64 0) (.int .i64 0) (.int .i64 0) (.int .i64 0) (.int .i64 0) (.int .i64 0) (.string ⟨#[]⟩) (.int .i64 0) (.string ⟨#[]⟩) (.string ⟨#[]⟩))
        clear HZ9
        go_wp2
        refine bodyPost_ret (v := .tuple #[.agg #[.int .i64 0, .int .i64 0, .int .i64 0, .int .i64 0, .int .i64 0, .int .i64 0, .string ⟨#[]⟩, .int .i64 0, .string ⟨#[]⟩, .string ⟨#[]⟩], .int .i64 121]) (by simp [results, Tryz.results82, go_sem, q0, q1, q2, q3, q4, q5, q6, q7, q8, q9]) rfl ⟨rfl, HB9.out⟩
    · have hR := HRT.out h0 h2
      subst hR
      have e2 : (Y.rpc != 2) = true := bne_iff_ne.2 h2
      subst h0
      have HK := HK6
      have HBK := HB6
      clear r1
      have k0 := HK.out.cell 0 rfl
      have f0 := HK.out.frozen 0
      have k1 := HK.out.cell 1 rfl
      have f1 := HK.out.frozen 1
      have k2 := HK.out.cell 2 rfl
      have f2 := HK.out.frozen 2
      have k3 := HK.out.cell 3 rfl
      have f3 := HK.out.frozen 3
      have k4 := HK.out.cell 4 rfl
      have f4 := HK.out.frozen 4
      have k5 := HK.out.cell 5 rfl
      have f5 := HK.out.frozen 5
      have k6 := HK.out.cell 6 rfl
      have f6 := HK.out.frozen 6
      have k7 := HK.out.cell 7 rfl
      have f7 := HK.out.frozen 7
      have k8 := HK.out.cell 8 rfl
      have f8 := HK.out.frozen 8
      have k9 := HK.out.cell 9 rfl
      have f9 := HK.out.frozen 9
      have c0 : w6.cell? ⟨w.heap.size + 1, 0, none⟩ = some (.int .i64 Y.xid) := HS6.out.k.cell 0 rfl
      have c1 : w6.cell? ⟨w.heap.size + 1, 1, none⟩ = some (.int .i64 Y.rpc) := HS6.out.k.cell 1 rfl
      have c2 : w6.cell? ⟨w.heap.size + 1, 2, none⟩ = some (.int .i64 Y.prog) := HS6.out.k.cell 2 rfl
      have c3 : w6.cell? ⟨w.heap.size + 1, 3, none⟩ = some (.int .i64 Y.vers) := HS6.out.k.cell 3 rfl
      have c4 : w6.cell? ⟨w.heap.size + 1, 4, none⟩ = some (.int .i64 Y.proc) := HS6.out.k.cell 4 rfl
      have c5 : w6.cell? ⟨w.heap.size + 1, 5, none⟩ = some (.int .i64 Y.cred.flavor) := HS6.out.k.cell 5 rfl
      have c6 : w6.cell? ⟨w.heap.size + 1, 6, none⟩ = some (.string ⟨Y.cred.body.toArray⟩) := HS6.out.k.cell 6 rfl
      have c7 : w6.cell? ⟨w.heap.size + 1, 7, none⟩ = some (.int .i64 Y.verf.flavor) := HS6.out.k.cell 7 rfl
      have c8 : w6.cell? ⟨w.heap.size + 1, 8, none⟩ = some (.string ⟨Y.verf.body.toArray⟩) := HS6.out.k.cell 8 rfl
      have c9 : w6.cell? ⟨w.heap.size + 1, 9, none⟩ = some (.string ⟨Y.args.toArray⟩) := HS6.out.k.cell 9 rfl
      have HZ9 := HK.out.set10 (.int .i64 Y.xid) (.int .i64 Y.rpc) (.int .i64 Y.prog) (.int .i64 Y.vers) (.int .i64 Y.proc) (.int .i64 Y.cred.flavor) (.string ⟨Y.cred.body.toArray⟩) (.int .i64 Y.verf.flavor) (.string ⟨Y.verf.body.toArray⟩) (.string ⟨Y.args.toArray⟩)
      have q0 := HZ9.cell 0 rfl
      have q1 := HZ9.cell 1 rfl
      have q2 := HZ9.cell 2 rfl
      have q3 := HZ9.cell 3 rfl
      have q4 := HZ9.cell 4 rfl
      have q5 := HZ9.cell 5 rfl
      have q6 := HZ9.cell 6 rfl
      have q7 := HZ9.cell 7 rfl
      have q8 := HZ9.cell 8 rfl
      have q9 := HZ9.cell 9 rfl
      have HB9 := hid (below_set10 (b := w.heap.size) HBK.out (Nat.le_refl _) (.int .i64 Y.xid) (.int .i64 Y.rpc) (.int .i64 Y.prog) (.int .i64 Y.vers) (.int .i64 Y.proc) (.int .i64 Y.cred.flavor) (.string ⟨Y.cred.body.toArray⟩) (.int .i64 Y.verf.flavor) (.string ⟨Y.verf.body.toArray⟩) (.string ⟨Y.args.toArray⟩))
      clear HZ9
      go_wp2
      refine bodyPost_ret (v := .tuple #[.agg #[.int .i64 Y.xid, .int .i64 Y.rpc, .int .i64 Y.prog, .int .i64 Y.vers, .int .i64 Y.proc, .int .i64 Y.cred.flavor, .string ⟨Y.cred.body.toArray⟩, .int .i64 Y.verf.flavor, .string ⟨Y.verf.body.toArray⟩, .string ⟨Y.args.toArray⟩], .int .i64 0]) (by simp [results, Tryz.results82, go_sem, q0, q1, q2, q3, q4, q5, q6, q7, q8, q9]) rfl ⟨rfl, HB9.out⟩
  · have HRZ := hid (HRE.out (fun q => h0 q.1))
    have e0 : (E0 == 0) = false := beq_eq_false_iff_ne.2 h0
    go_wp2_with fail
    refine (HBD.out _).mono ?_
    rintro e w7 ⟨rfl, hq7, hB7, hz7⟩
    have H8 := hid (HS6.out.reads hq7 hB7 hz7 (by decide) HFB.out HL1.out)
    rw [HX2.out] at H8
    clear hq7 hB7 hz7 HBD r1
    go_wp2_with fail
    refine H8.out.mono ?_
    rintro e w8 ⟨rfl, hS8⟩
    have HS8 := hid hS8
    have HB8 : Hid (Below w.heap.size w w8) := HB.out.trans (hS8.low.mono (by omega))
    have H9 := hid (rdone_rd _ _ _ w8 hS8.r (HTE.out.below HB8.out))
    simp only [HD.out] at H9
    clear hS8 H8
    go_wp2_with fail
    refine H9.out.mono ?_
    rintro e w9 ⟨rfl, hB9⟩
    have HS9 := hid (HS8.out.below hB9)
    have HK : Hid (Bk w9 w.heap.size [.int .i64 0, .int .i64 0, .int .i64 0, .int .i64 0, .int .i64 0, .int .i64 0, .string ⟨#[]⟩, .int .i64 0, .string ⟨#[]⟩, .string ⟨#[]⟩] 108) := (HK0.out.below HS8.out.low (by omega)).below hB9 (by have := HS8.out.k.lt; omega)
    have HBK : Hid (Below w.heap.size w w9) := HB8.out.trans (hB9.mono HB8.out.size)
    clear hB9 H9
    have k0 := HK.out.cell 0 rfl
    have f0 := HK.out.frozen 0
    have k1 := HK.out.cell 1 rfl
    have f1 := HK.out.frozen 1
    have k2 := HK.out.cell 2 rfl
    have f2 := HK.out.frozen 2
    have k3 := HK.out.cell 3 rfl
    have f3 := HK.out.frozen 3
    have k4 := HK.out.cell 4 rfl
    have f4 := HK.out.frozen 4
    have k5 := HK.out.cell 5 rfl
    have f5 := HK.out.frozen 5
    have k6 := HK.out.cell 6 rfl
    have f6 := HK.out.frozen 6
    have k7 := HK.out.cell 7 rfl
    have f7 := HK.out.frozen 7
    have k8 := HK.out.cell 8 rfl
    have f8 := HK.out.frozen 8
    have k9 := HK.out.cell 9 rfl
    have f9 := HK.out.frozen 9
    by_cases hd : D = 0
    · have hR := HRZ.out.1 hd
      subst hR
      subst hd
      have c0 : w9.cell? ⟨w.heap.size + 1, 0, none⟩ = some (.int .i64 Z.xid) := HS9.out.k.cell 0 rfl
      have c1 : w9.cell? ⟨w.heap.size + 1, 1, none⟩ = some (.int .i64 Z.rpc) := HS9.out.k.cell 1 rfl
      have c2 : w9.cell? ⟨w.heap.size + 1, 2, none⟩ = some (.int .i64 Z.prog) := HS9.out.k.cell 2 rfl
      have c3 : w9.cell? ⟨w.heap.size + 1, 3, none⟩ = some (.int .i64 Z.vers) := HS9.out.k.cell 3 rfl
      have c4 : w9.cell? ⟨w.heap.size + 1, 4, none⟩ = some (.int .i64 Z.proc) := HS9.out.k.cell 4 rfl
      have c5 : w9.cell? ⟨w.heap.size + 1, 5, none⟩ = some (.int .i64 Z.cred.flavor) := HS9.out.k.cell 5 rfl
      have c6 : w9.cell? ⟨w.heap.size + 1, 6, none⟩ = some (.string ⟨Z.cred.body.toArray⟩) := HS9.out.k.cell 6 rfl
      have c7 : w9.cell? ⟨w.heap.size + 1, 7, none⟩ = some (.int .i64 Z.verf.flavor) := HS9.out.k.cell 7 rfl
      have c8 : w9.cell? ⟨w.heap.size + 1, 8, none⟩ = some (.string ⟨Z.verf.body.toArray⟩) := HS9.out.k.cell 8 rfl
      have c9 : w9.cell? ⟨w.heap.size + 1, 9, none⟩ = some (.string ⟨Z.args.toArray⟩) := HS9.out.k.cell 9 rfl
      have HZ9 := HK.out.set10 (.int .i64 Z.xid) (.int .i64 Z.rpc) (.int .i64 Z.prog) (.int .i64 Z.vers) (.int .i64 Z.proc) (.int .i64 Z.cred.flavor) (.string ⟨Z.cred.body.toArray⟩) (.int .i64 Z.verf.flavor) (.string ⟨Z.verf.body.toArray⟩) (.string ⟨Z.args.toArray⟩)
      have q0 := HZ9.cell 0 rfl
      have q1 := HZ9.cell 1 rfl
      have q2 := HZ9.cell 2 rfl
      have q3 := HZ9.cell 3 rfl
      have q4 := HZ9.cell 4 rfl
      have q5 := HZ9.cell 5 rfl
      have q6 := HZ9.cell 6 rfl
      have q7 := HZ9.cell 7 rfl
      have q8 := HZ9.cell 8 rfl
      have q9 := HZ9.cell 9 rfl
      have HB9 := hid (below_set10 (b := w.heap.size) HBK.out (Nat.le_refl _) (.int .i64 Z.xid) (.int .i64 Z.rpc) (.int .i64 Z.prog) (.int .i64 Z.vers) (.int .i64 Z.proc) (.int .i64 Z.cred.flavor) (.string ⟨Z.cred.body.toArray⟩) (.int .i64 Z.verf.flavor) (.string ⟨Z.verf.body.toArray⟩) (.string ⟨Z.args.toArray⟩))
      clear HZ9
      go_wp2
      refine bodyPost_ret (v := .tuple #[.agg #[.int .i64 Z.xid, .int .i64 Z.rpc, .int .i64 Z.prog, .int .i64 Z.vers, .int .i64 Z.proc, .int .i64 Z.cred.flavor, .string ⟨Z.cred.body.toArray⟩, .int .i64 Z.verf.flavor, .string ⟨Z.verf.body.toArray⟩, .string ⟨Z.args.toArray⟩], .int .i64 0]) (by simp [results, Tryz.results82, go_sem, q0, q1, q2, q3, q4, q5, q6, q7, q8, q9]) rfl ⟨rfl, HB9.out⟩
    · have hR := HRZ.out.2 hd
      subst hR
      have hd2 : (D != 0) = true := bne_iff_ne.2 hd
      have HZ9 := HK.out.set10 (.int .i64 0) (.int .i64 0) (.int .i64 0) (.int .i64 0) (.int .i64 0) (.int .i64 0) (.string ⟨#[]⟩) (.int .i64 0) (.string ⟨#[]⟩) (.string ⟨#[]⟩)
      have q0 := HZ9.cell 0 rfl
      have q1 := HZ9.cell 1 rfl
      have q2 := HZ9.cell 2 rfl
      have q3 := HZ9.cell 3 rfl
      have q4 := HZ9.cell 4 rfl
      have q5 := HZ9.cell 5 rfl
      have q6 := HZ9.cell 6 rfl
      have q7 := HZ9.cell 7 rfl
      have q8 := HZ9.cell 8 rfl
      have q9 := HZ9.cell 9 rfl
      have HB9 := hid (below_set10 (b := w.heap.size) HBK.out (Nat.le_refl _) (.int .i64 0) (.int .i64 0) (.int .i64 0) (.int .i64 0) (.int .i64 0) (.int .i64 0) (.string ⟨#[]⟩) (.int .i64 0) (.string ⟨#[]⟩) (.string ⟨#[]⟩))
      clear HZ9
      go_wp2
      refine bodyPost_ret (v := .tuple #[.agg #[.int .i64 0, .int .i64 0, .int .i64 0, .int .i64 0, .int .i64 0, .int .i64 0, .string ⟨#[]⟩, .int .i64 0, .string ⟨#[]⟩, .string ⟨#[]⟩], .int .i64 121]) (by simp [results, Tryz.results82, go_sem, q0, q1, q2, q3, q4, q5, q6, q7, q8, q9]) rfl ⟨rfl, HB9.out⟩
end Go.Proofs.YtfcbjcebkahehaaGreatDoor
namespace Go.Proofs.YtfcbjcebkahehaaGreatDoor
open Go.RowKit
/-- the middle of a reply -/
def rdB (x : Nat) (d : Bool × Rs) : ReplyP × Rs :=
  if d.1 then (⟨x, true, nulA, 0, 0, 0, [], (d.2.go 0 (rdCount 1)).1, 0⟩, (d.2.go 0 (rdCount 1)).2)
  else (⟨x, false, (rdAuth d.2).1, ((rdAuth d.2).2.go 0 (rdCount 5)).1, 0, 0, [], 0, 0⟩, ((rdAuth d.2).2.go 0 (rdCount 5)).2)
def rdO {α : Type} (s : Bool) (d : α) (f : Rs → α × Rs) (st : Rs) : α × Rs := if s then f st else (d, st)
structure EndQ where
  l : Nat × Rs
  h : Nat × Rs
  y : Nat × Rs
  t : List UInt8 × Rs
def rdEQ (m a s : Bool) (st : Rs) : EndQ :=
  let l := rdO m 0 (fun x => x.go 0 rdWord) st
  let h := rdO m 0 (fun x => x.go 0 rdWord) l.2
  let y := rdO a 0 (fun x => x.go 0 (rdCount 14)) h.2
  ⟨l, h, y, rdO s [] rdTail y.2⟩
/-- the end of a reply -/
def rdE (b : ReplyP × Rs) : ReplyP × Rs :=
  (⟨b.1.xid, b.1.denied, b.1.verf, b.1.accept, (rdEQ (endM b.1) (endA b.1) (endS b.1) b.2).l.1, (rdEQ (endM b.1) (endA b.1) (endS b.1) b.2).h.1, (rdEQ (endM b.1) (endA b.1) (endS b.1) b.2).t.1, b.1.reject, (rdEQ (endM b.1) (endA b.1) (endS b.1) b.2).y.1⟩, (rdEQ (endM b.1) (endA b.1) (endS b.1) b.2).t.2)
def rdHD (st : Rs) : Nat × (Bool × Rs) := ((rdHead 1 st).1, (rdHead 1 st).2.go false rdBool)
def rdReply (st : Rs) : ReplyP × Rs := rdE (rdB (rdHD st).1 (rdHD st).2)
def parseR (s : List UInt8) : ReplyP × Int := if rdDone (rdReply ⟨s, 0⟩).2.l (rdReply ⟨s, 0⟩).2.e = 0 then ((rdReply ⟨s, 0⟩).1, 0) else (nulR, 121)
def hdR (x : Nat) (d : Bool) : ReplyP := ⟨x, d, nulA, 0, 0, 0, [], 0, 0⟩
theorem rd_headR (st : Rs) : rdT headR (st, replyV nulR) = ((rdHD st).2.2, replyV (hdR (rdHD st).1 (rdHD st).2.1)) := rfl
theorem rd_bodyR (x : Nat) (d : Bool × Rs) : rdT (bodyR d.1) (d.2, replyV (hdR x d.1)) = ((rdB x d).2, replyV (rdB x d).1) := by
  obtain ⟨d, st⟩ := d
  cases d
  · unfold rdB rdAuth bodyR replyV hdR
    simp only [rdT, Fd.rd, if_true, if_false, Bool.not_false, Bool.false_eq_true, List.set_cons_succ, List.set_cons_zero]
  · unfold rdB bodyR replyV hdR
    simp only [rdT, Fd.rd, if_true, if_false, Bool.not_true, Bool.false_eq_true, List.set_cons_succ, List.set_cons_zero]
theorem rd_endR_of (m a s : Bool) (st : Rs) (rx ra rj : Int) (rd : Bool) (rv : AuthP) :
    rdT (endR m a s) (st, replyV ⟨rx, rd, rv, ra, 0, 0, [], rj, 0⟩) = ((rdEQ m a s st).t.2, replyV ⟨rx, rd, rv, ra, (rdEQ m a s st).l.1, (rdEQ m a s st).h.1, (rdEQ m a s st).t.1, rj, (rdEQ m a s st).y.1⟩) := by
  unfold rdEQ endR replyV rdTail
  cases m <;> cases a <;> cases s <;> simp only [rdT, rdO, Fd.rd, if_true, if_false, Bool.false_eq_true, List.set_cons_succ, List.set_cons_zero] <;> rfl
theorem rdB_zero (x : Nat) (d : Bool × Rs) : (rdB x d).1 = ⟨(rdB x d).1.xid, (rdB x d).1.denied, (rdB x d).1.verf, (rdB x d).1.accept, 0, 0, [], (rdB x d).1.reject, 0⟩ := by
  unfold rdB
  split <;> rfl
theorem rd_endR (b : ReplyP × Rs) (h : b.1 = ⟨b.1.xid, b.1.denied, b.1.verf, b.1.accept, 0, 0, [], b.1.reject, 0⟩) : rdT (endR (endM b.1) (endA b.1) (endS b.1)) (b.2, replyV b.1) = ((rdE b).2, replyV (rdE b).1) := by
  unfold rdE
  rw [← rd_endR_of, ← h]
set_option maxRecDepth 4000 in
set_option maxHeartbeats 1000000 in
theorem parseReply_any (s : List UInt8) (w : World) (hT : ErrT w) (hl : s.length ≤ 281474976710656) :
    Calls Tryz.prog 52 #[.string ⟨s.toArray⟩] w fun e w' => e = .returned (.tuple #[.agg (replyV (parseR s).1).toArray, .int .i64 (parseR s).2]) ∧ Below w.heap.size w w' := by
  obtain ⟨wa, hwa⟩ : ∃ x, w.alloc (.cells #[.int .i64 0, .bool false, .int .i64 0, .string ⟨#[]⟩, .int .i64 0, .int .i64 0, .int .i64 0, .int .i64 0, .int .i64 0, .string ⟨#[]⟩] 46) = x := ⟨_, rfl⟩
  obtain ⟨wb, hwb⟩ : ∃ x, wa.alloc (.cells #[.int .i64 0, .bool false, .int .i64 0, .string ⟨#[]⟩, .int .i64 0, .int .i64 0, .int .i64 0, .int .i64 0, .int .i64 0, .string ⟨#[]⟩] 46) = x := ⟨_, rfl⟩
  obtain ⟨wc, hwc⟩ : ∃ x, x = wb.alloc (.cells #[.string ⟨s.toArray⟩, .nilIface] 225) := ⟨_, rfl⟩
  obtain ⟨hS, hK0, hB, hza, hzb⟩ := three_start [.int .i64 0, .bool false, .int .i64 0, .string ⟨#[]⟩, .int .i64 0, .int .i64 0, .int .i64 0, .int .i64 0, .int .i64 0, .string ⟨#[]⟩] s _ w wa wb wc hwa hwb hwc
  have HS := hid hS
  have HK0 := hid hK0
  have HB := hid hB
  have HTE := hid hT
  have HNR : Hid (Calls Tryz.prog 88 #[.string ⟨s.toArray⟩] wb fun e w' => e = .returned (.pointer (some ⟨w.heap.size + 1 + 1, 0, none⟩)) ∧ w' = wc) := by rw [hwc, ← hzb]; exact rnew_rd s wb
  have HL := hid hl
  obtain ⟨x, d, hx⟩ : ∃ x d, rdHD ⟨s, 0⟩ = (x, d) := ⟨_, _, rfl⟩
  obtain ⟨b, hb⟩ : ∃ b, rdB x d = b := ⟨_, rfl⟩
  obtain ⟨z, hz⟩ : ∃ z, rdE b = z := ⟨_, rfl⟩
  have hX1 : rdT headR (⟨s, 0⟩, [.int .i64 0, .bool false, .int .i64 0, .string ⟨#[]⟩, .int .i64 0, .int .i64 0, .int .i64 0, .int .i64 0, .int .i64 0, .string ⟨#[]⟩]) = (d.2, replyV (hdR x d.1)) := by
    have := rd_headR ⟨s, 0⟩
    rw [hx] at this
    exact this
  have hX2 : rdT (bodyR d.1) (d.2, replyV (hdR x d.1)) = (b.2, replyV b.1) := by rw [rd_bodyR, hb]
  have hX3 : rdT (endR (endM b.1) (endA b.1) (endS b.1)) (b.2, replyV b.1) = (z.2, replyV z.1) := by rw [rd_endR b (hb ▸ rdB_zero x d), hz]
  have HL1 : Hid (d.2.l.length ≤ 281474976710656) := by
    have := (rdT_len headR (⟨s, 0⟩, [.int .i64 0, .bool false, .int .i64 0, .string ⟨#[]⟩, .int .i64 0, .int .i64 0, .int .i64 0, .int .i64 0, .int .i64 0, .string ⟨#[]⟩])).1
    rw [hX1] at this
    exact Nat.le_trans this hl
  have HL2 : Hid (b.2.l.length ≤ 281474976710656) := by
    have := (rdT_len (bodyR d.1) (d.2, replyV (hdR x d.1))).1
    rw [hX2] at this
    exact Nat.le_trans this HL1.out
  have HX1 := hid hX1
  have HX2 := hid hX2
  have HX3 := hid hX3
  have HFH := hid (fitC headR 10 rfl)
  have HFB : Hid (∀ r ∈ bodyR d.1, r.2.fits 10) := fitC (bodyR d.1) 10 rfl
  have HFE : Hid (∀ r ∈ endR (endM b.1) (endA b.1) (endS b.1), r.2.fits 10) := fitC _ 10 rfl
  have HLB : Hid ((bodyR d.1).length = 4) := rfl
  have HLE : Hid ((endR (endM b.1) (endA b.1) (endS b.1)).length = 4) := rfl
  have HH := hid (replyHead_any (w.heap.size + 1))
  have HBD : Hid (∀ w1, Bk w1 (w.heap.size + 1) (replyV (hdR x d.1)) 46 → Calls Tryz.prog 79 #[.pointer (some ⟨w.heap.size + 1, 0, none⟩)] w1 (Makes (w.heap.size + 1) (bodyR d.1) w1)) := fun w1 h1 => replyBody_any _ _ w1 (h1.cell 1 rfl)
  have HED : Hid (∀ w1, Bk w1 (w.heap.size + 1) (replyV b.1) 46 → Calls Tryz.prog 80 #[.pointer (some ⟨w.heap.size + 1, 0, none⟩)] w1 (Makes (w.heap.size + 1) (endR (endM b.1) (endA b.1) (endS b.1)) w1)) := fun w1 h1 => replyEnd_any _ b.1 w1 h1
  obtain ⟨D, hD⟩ : ∃ D, rdDone z.2.l z.2.e = D := ⟨_, rfl⟩
  have HD := hid hD
  obtain ⟨R, hR⟩ : ∃ R, parseR s = R := ⟨_, rfl⟩
  obtain ⟨Z, hZ⟩ : ∃ Z, z.1 = Z := ⟨_, rfl⟩
  have HRZ : Hid ((D = 0 → R = (Z, 0)) ∧ (D ≠ 0 → R = (nulR, 121))) := by
    have e1 : rdReply ⟨s, 0⟩ = z := by unfold rdReply; rw [hx, hb, hz]
    rw [← hR]; unfold parseR; rw [e1, hD, hZ]
    exact ⟨fun h => by rw [if_pos h], fun h => by rw [if_neg h]⟩
  rw [hR]
  rw [hZ] at HX3
  generalize bodyR d.1 = TB at *
  generalize endR (endM b.1) (endA b.1) (endS b.1) = TE at *
  generalize hdR x d.1 = Y1 at *
  generalize b.1 = Y2 at *
  clear hS hK0 hB hT hwc hl hD hR hx hb hz hX1 hX2 hX3 hZ
  go_enter Tryz.func52, Tryz.ntmps52
  go_wp2_with fail
  refine HNR.out.mono ?_
  rintro e w1 ⟨rfl, hw1⟩
  have hw2 := hw1.symm
  clear hw1 HNR
  subst hw2
  go_wp2_with fail
  refine (HH.out _).mono ?_
  rintro e w2 ⟨rfl, hq2, hB2, hz2⟩
  have H3 := hid (HS.out.reads hq2 hB2 hz2 (by decide) HFH.out HL.out)
  rw [HX1.out] at H3
  clear hq2 hB2 hz2 HH
  go_wp2_with fail
  refine H3.out.mono ?_
  rintro e w3 ⟨rfl, hS3⟩
  have HS3 := hid hS3
  clear hS3 H3
  go_wp2_with fail
  refine (HBD.out _ HS3.out.k).mono ?_
  rintro e w4 ⟨rfl, hq4, hB4, hz4⟩
  have H5 := hid (HS3.out.reads hq4 hB4 hz4 (by rw [HLB.out]; decide) HFB.out HL1.out)
  rw [HX2.out] at H5
  clear hq4 hB4 hz4 HBD
  go_wp2_with fail
  refine H5.out.mono ?_
  rintro e w5 ⟨rfl, hS5⟩
  have HS5 := hid hS5
  clear hS5 H5
  go_wp2_with fail
  refine (HED.out _ HS5.out.k).mono ?_
  rintro e w6 ⟨rfl, hq6, hB6, hz6⟩
  have H7 := hid (HS5.out.reads hq6 hB6 hz6 (by rw [HLE.out]; decide) HFE.out HL2.out)
  rw [HX3.out] at H7
  clear hq6 hB6 hz6 HED
  go_wp2_with fail
  refine H7.out.mono ?_
  rintro e w8 ⟨rfl, hS8⟩
  have HS8 := hid hS8
  have HB8 : Hid (Below w.heap.size w w8) := HB.out.trans (hS8.low.mono (by omega))
  have H9 := hid (rdone_rd _ _ _ w8 hS8.r (HTE.out.below HB8.out))
  simp only [HD.out] at H9
  clear hS8 H7
  go_wp2_with fail
  refine H9.out.mono ?_
  rintro e w9 ⟨rfl, hB9⟩
  have HS9 := hid (HS8.out.below hB9)
  have HK : Hid (Bk w9 w.heap.size [.int .i64 0, .bool false, .int .i64 0, .string ⟨#[]⟩, .int .i64 0, .int .i64 0, .int .i64 0, .int .i64 0, .int .i64 0, .string ⟨#[]⟩] 46) := (HK0.out.below HS8.out.low (by omega)).below hB9 (by have := HS8.out.k.lt; omega)
  have HBK : Hid (Below w.heap.size w w9) := HB8.out.trans (hB9.mono HB8.out.size)
  clear hB9 H9
  have k0 := HK.out.cell 0 rfl
  have f0 := HK.out.frozen 0
  have k1 := HK.out.cell 1 rfl
  have f1 := HK.out.frozen 1
  have k2 := HK.out.cell 2 rfl
  have f2 := HK.out.frozen 2
  have k3 := HK.out.cell 3 rfl
  have f3 := HK.out.frozen 3
  have k4 := HK.out.cell 4 rfl
  have f4 := HK.out.frozen 4
  have k5 := HK.out.cell 5 rfl
  have f5 := HK.out.frozen 5
  have k6 := HK.out.cell 6 rfl
  have f6 := HK.out.frozen 6
  have k7 := HK.out.cell 7 rfl
  have f7 := HK.out.frozen 7
  have k8 := HK.out.cell 8 rfl
  have f8 := HK.out.frozen 8
  have k9 := HK.out.cell 9 rfl
  have f9 := HK.out.frozen 9
  by_cases hd : D = 0
  · have hR := HRZ.out.1 hd
    subst hR
    subst hd
    have c0 : w9.cell? ⟨w.heap.size + 1, 0, none⟩ = some (.int .i64 Z.xid) := HS9.out.k.cell 0 rfl
    have c1 : w9.cell? ⟨w.heap.size + 1, 1, none⟩ = some (.bool Z.denied) := HS9.out.k.cell 1 rfl
    have c2 : w9.cell? ⟨w.heap.size + 1, 2, none⟩ = some (.int .i64 Z.verf.flavor) := HS9.out.k.cell 2 rfl
    have c3 : w9.cell? ⟨w.heap.size + 1, 3, none⟩ = some (.string ⟨Z.verf.body.toArray⟩) := HS9.out.k.cell 3 rfl
    have c4 : w9.cell? ⟨w.heap.size + 1, 4, none⟩ = some (.int .i64 Z.accept) := HS9.out.k.cell 4 rfl
    have c5 : w9.cell? ⟨w.heap.size + 1, 5, none⟩ = some (.int .i64 Z.reject) := HS9.out.k.cell 5 rfl
    have c6 : w9.cell? ⟨w.heap.size + 1, 6, none⟩ = some (.int .i64 Z.why) := HS9.out.k.cell 6 rfl
    have c7 : w9.cell? ⟨w.heap.size + 1, 7, none⟩ = some (.int .i64 Z.low) := HS9.out.k.cell 7 rfl
    have c8 : w9.cell? ⟨w.heap.size + 1, 8, none⟩ = some (.int .i64 Z.high) := HS9.out.k.cell 8 rfl
    have c9 : w9.cell? ⟨w.heap.size + 1, 9, none⟩ = some (.string ⟨Z.results.toArray⟩) := HS9.out.k.cell 9 rfl
    have HZ9 := HK.out.set10 (.int .i64 Z.xid) (.bool Z.denied) (.int .i64 Z.verf.flavor) (.string ⟨Z.verf.body.toArray⟩) (.int .i64 Z.accept) (.int .i64 Z.reject) (.int .i64 Z.why) (.int .i64 Z.low) (.int .i64 Z.high) (.string ⟨Z.results.toArray⟩)
    have q0 := HZ9.cell 0 rfl
    have q1 := HZ9.cell 1 rfl
    have q2 := HZ9.cell 2 rfl
    have q3 := HZ9.cell 3 rfl
    have q4 := HZ9.cell 4 rfl
    have q5 := HZ9.cell 5 rfl
    have q6 := HZ9.cell 6 rfl
    have q7 := HZ9.cell 7 rfl
    have q8 := HZ9.cell 8 rfl
    have q9 := HZ9.cell 9 rfl
    have HB9 := hid (below_set10 (b := w.heap.size) HBK.out (Nat.le_refl _) (.int .i64 Z.xid) (.bool Z.denied) (.int .i64 Z.verf.flavor) (.string ⟨Z.verf.body.toArray⟩) (.int .i64 Z.accept) (.int .i64 Z.reject) (.int .i64 Z.why) (.int .i64 Z.low) (.int .i64 Z.high) (.string ⟨Z.results.toArray⟩))
    clear HZ9
    go_wp2
    refine bodyPost_ret (v := .tuple #[.agg #[.int .i64 Z.xid, .bool Z.denied, .int .i64 Z.verf.flavor, .string ⟨Z.verf.body.toArray⟩, .int .i64 Z.accept, .int .i64 Z.reject, .int .i64 Z.why, .int .i64 Z.low, .int .i64 Z.high, .string ⟨Z.results.toArray⟩], .int .i64 0]) (by simp [results, Tryz.results52, go_sem, q0, q1, q2, q3, q4, q5, q6, q7, q8, q9]) rfl ⟨rfl, HB9.out⟩
  · have hR := HRZ.out.2 hd
    subst hR
    have hd2 : (D != 0) = true := bne_iff_ne.2 hd
    have HZ9 := HK.out.set10 (.int .i64 0) (.bool false) (.int .i64 0) (.string ⟨#[]⟩) (.int .i64 0) (.int .i64 0) (.int .i64 0) (.int .i64 0) (.int .i64 0) (.string ⟨#[]⟩)
    have q0 := HZ9.cell 0 rfl
    have q1 := HZ9.cell 1 rfl
    have q2 := HZ9.cell 2 rfl
    have q3 := HZ9.cell 3 rfl
    have q4 := HZ9.cell 4 rfl
    have q5 := HZ9.cell 5 rfl
    have q6 := HZ9.cell 6 rfl
    have q7 := HZ9.cell 7 rfl
    have q8 := HZ9.cell 8 rfl
    have q9 := HZ9.cell 9 rfl
    have HB9 := hid (below_set10 (b := w.heap.size) HBK.out (Nat.le_refl _) (.int .i64 0) (.bool false) (.int .i64 0) (.string ⟨#[]⟩) (.int .i64 0) (.int .i64 0) (.int .i64 0) (.int .i64 0) (.int .i64 0) (.string ⟨#[]⟩))
    clear HZ9
    go_wp2
    refine bodyPost_ret (v := .tuple #[.agg #[.int .i64 0, .bool false, .int .i64 0, .string ⟨#[]⟩, .int .i64 0, .int .i64 0, .int .i64 0, .int .i64 0, .int .i64 0, .string ⟨#[]⟩], .int .i64 121]) (by simp [results, Tryz.results52, go_sem, q0, q1, q2, q3, q4, q5, q6, q7, q8, q9]) rfl ⟨rfl, HB9.out⟩
end Go.Proofs.YtfcbjcebkahehaaGreatDoor
