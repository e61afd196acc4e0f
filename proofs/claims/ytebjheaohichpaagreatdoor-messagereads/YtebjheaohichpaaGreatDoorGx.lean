/- message: PrintCall. message: PrintReply. -/
import Derived.Test.YtebjheaohichpaaGreatDoorMs
namespace Go.Proofs.YtebjheaohichpaaGreatDoor
open Go.RowKit
def callV (c : CallP) : List Value := [.int .i64 c.xid, .int .i64 c.rpc, .int .i64 c.prog, .int .i64 c.vers, .int .i64 c.proc, .int .i64 c.cred.flavor, .string ⟨c.cred.body.toArray⟩, .int .i64 c.verf.flavor, .string ⟨c.verf.body.toArray⟩, .string ⟨c.args.toArray⟩]
def pcP (c : CallP) : List UInt8 × Int := prM c.may c.lay
def atsH (c : CallP) : List (Prop × List UInt8) := [(isW c.xid, nbL 4 c.xid.toNat), (True, nbL 4 (0 : Int).toNat), (isW c.rpc, nbL 4 c.rpc.toNat)]
def atsB (c : CallP) : List (Prop × List UInt8) := [(isW c.prog, nbL 4 c.prog.toNat), (isW c.vers, nbL 4 c.vers.toNat), (isW c.proc, nbL 4 c.proc.toNat), (isW c.cred.flavor, nbL 4 c.cred.flavor.toNat), (((c.cred.body.length : Nat) : Int) ≤ 400, nbL 4 c.cred.body.length ++ (c.cred.body ++ padB c.cred.body.length)), (isW c.verf.flavor, nbL 4 c.verf.flavor.toNat), (((c.verf.body.length : Nat) : Int) ≤ 400, nbL 4 c.verf.body.length ++ (c.verf.body ++ padB c.verf.body.length)), (plainB c.args, c.args)]
theorem tabH (c : CallP) : Tab (callV c) headC (atsH c) := .cons (.word rfl) (.cons (.sign (by decide)) (.cons (.word rfl) .nil))
theorem tabB (c : CallP) (h : c.args.length ≤ 140737488355328) : Tab (callV c) bodyC (atsB c) :=
  .cons (.word rfl) (.cons (.word rfl) (.cons (.word rfl) (.cons (.word rfl) (.cons (.body rfl (by decide) (by decide)) (.cons (.word rfl) (.cons (.body rfl (by decide) (by decide)) (.cons (.tail rfl h) .nil)))))))
theorem roomH (c : CallP) : Room (atsH c) 12 := .cons (word_room _) (.cons (sign_room _) (.cons (word_room _) .nil))
theorem roomB (c : CallP) : Room (atsB c) 1828 := .cons (word_room _) (.cons (word_room _) (.cons (word_room _) (.cons (word_room _) (.cons (body_room _) (.cons (word_room _) (.cons (body_room _) (.cons (tail_room _) .nil)))))))
theorem call_may (c : CallP) (h2 : c.rpc = 2) : c.may ↔ ((True ∧ allA (atsH c)) ∧ allA (atsB c)) := by
  unfold CallP.may AuthP.may atsH atsB
  simp only [allA, h2]
  constructor
  · rintro ⟨a1, _, a3, a4, a5, ⟨b1, b2⟩, ⟨b3, b4⟩, a8⟩
    exact ⟨⟨trivial, a1, trivial, by decide, trivial⟩, a3, a4, a5, b1, by omega, b3, by omega, a8, trivial⟩
  · rintro ⟨⟨_, a1, _, _, _⟩, a3, a4, a5, b1, b2, b3, b4, a8, _⟩
    exact ⟨a1, trivial, a3, a4, a5, ⟨b1, by omega⟩, ⟨b3, by omega⟩, a8⟩
theorem call_lay_eq (c : CallP) : ([] ++ allL (atsH c)) ++ allL (atsB c) = c.lay := by
  unfold CallP.lay AuthP.lay atsH atsB
  simp only [allL, List.nil_append, List.append_nil, List.append_assoc]
  rfl
set_option maxRecDepth 4000 in
theorem printCall_rpc (c : CallP) (w : World) (h2 : c.rpc ≠ 2) :
    Calls Tryz.prog 6 #[.agg (callV c).toArray] w fun e w' => e = .returned (.tuple #[.string ⟨(pcP c).1.toArray⟩, .int .i64 (pcP c).2]) ∧ Below w.heap.size w w' := by
  have e : pcP c = ([], 120) := by
    unfold pcP prM
    rw [if_neg (fun q => h2 q.2.1)]
  rw [e]
  obtain ⟨wa, hwa⟩ : ∃ x, w.alloc (.cells (callV c).toArray 25) = x := ⟨_, rfl⟩
  obtain ⟨hk, hB, hz⟩ := boxed w wa _ _ hwa
  have a1 : wa.cell? ⟨w.heap.size, 1, none⟩ = some (.int .i64 c.rpc) := hk.cell 1 rfl
  have HB := hid hB
  have h3 : (c.rpc != 2) = true := bne_iff_ne.2 h2
  generalize c.rpc = R at *
  generalize (callV c).toArray = V at *
  clear hk hB hz e
  go_enter Tryz.func6, Tryz.ntmps6
  go_wp2
  refine bodyPost_ret (v := .tuple #[.string ⟨#[]⟩, .int .i64 120]) (by simp [results, Tryz.results6, go_sem]) rfl ⟨rfl, HB.out⟩
set_option maxRecDepth 4000 in
theorem printCall_two (c : CallP) (w : World) (h2 : c.rpc = 2) (hT : ErrT w) (hl : c.args.length ≤ 140737488355328) :
    Calls Tryz.prog 6 #[.agg (callV c).toArray] w fun e w' => e = .returned (.tuple #[.string ⟨(pcP c).1.toArray⟩, .int .i64 (pcP c).2]) ∧ Below w.heap.size w w' := by
  obtain ⟨wa, hwa⟩ : ∃ x, w.alloc (.cells (callV c).toArray 25) = x := ⟨_, rfl⟩
  obtain ⟨hk, hB, hz⟩ := boxed w wa _ _ hwa
  have a1 : wa.cell? ⟨w.heap.size, 1, none⟩ = some (.int .i64 2) := h2 ▸ hk.cell 1 rfl
  obtain ⟨wb, hwb⟩ : ∃ x, x = wa.alloc (.cells #[.int .i64 1840, .slice none 0 0, .nilIface] 74) := ⟨_, rfl⟩
  have hBb : Below wa.heap.size wa wb := by rw [hwb]; exact below_new _ _
  have HS : Hid (WS wb wb w.heap.size wa.heap.size (callV c) 25 1840 True []) := ⟨WrK.new _ 1840 wa wb (by decide) hwb, hk.below hBb (by omega), Below.refl _ _, by omega⟩
  have HB : Hid (Below w.heap.size w wb) := hB.trans (hBb.mono (by omega))
  have HTE := hid hT
  have HZ := hid hz
  have HN : Hid (Calls Tryz.prog 16 #[.int .i64 1840] wa fun e w' => e = .returned (.pointer (some ⟨wa.heap.size, 0, none⟩)) ∧ w' = wb) := by rw [hwb]; exact w_new 1840 wa (by decide)
  have HTH := hid (tabH c)
  have HTB := hid (tabB c hl)
  have HRH := hid (roomH c)
  have HRB := hid (roomB c)
  have HH := hid (callHead_any w.heap.size)
  have HBD := hid (callBody_any w.heap.size)
  have HPR : Hid (∀ w4, ErrT w4 → WS wb w4 w.heap.size wa.heap.size (callV c) 25 1840 ((True ∧ allA (atsH c)) ∧ allA (atsB c)) (([] ++ allL (atsH c)) ++ allL (atsB c)) → Calls Tryz.prog 20 #[.pointer (some ⟨wa.heap.size, 0, none⟩)] w4 fun e w' => e = .returned (.tuple #[.string ⟨(pcP c).1.toArray⟩, .int .i64 (pcP c).2]) ∧ Below w4.heap.size w4 w') :=
    fun w4 hE h4 => printed_any _ _ 1840 _ c.may _ c.lay w4 h4.wr hE (call_may c h2) (fun _ => call_lay_eq c)
  generalize pcP c = R at *
  generalize callV c = V at *
  generalize atsH c = AH at *
  generalize atsB c = AB at *
  clear hk hB hz hwb hBb hT hl h2
  go_enter Tryz.func6, Tryz.ntmps6
  go_wp2_with fail
  refine HN.out.mono ?_
  rintro e w1 ⟨rfl, hw1⟩
  have hw2 := hw1.symm
  clear hw1 HN
  subst hw2
  go_wp2_with fail
  refine (HH.out _).mono ?_
  rintro e w2 ⟨rfl, hq2, hB2, hz2⟩
  have H3 := hid (HS.out.lays HTH.out hq2 hB2 hz2 (by decide) (by decide) (by decide) HRH.out (fun _ => by decide))
  clear hq2 hB2 hz2 HH HTH
  go_wp2_with fail
  refine H3.out.mono ?_
  rintro e w3 ⟨rfl, hS3⟩
  have HS3 := hid hS3
  clear hS3 H3
  go_wp2_with fail
  refine (HBD.out _).mono ?_
  rintro e w4 ⟨rfl, hq4, hB4, hz4⟩
  have H5 := hid (HS3.out.lays HTB.out hq4 hB4 hz4 (by decide) (by decide) (by decide) HRB.out (fun q => by
    have := HRH.out.full q.2
    rw [List.nil_append]
    omega))
  clear hq4 hB4 hz4 HBD HTB
  go_wp2_with fail
  refine H5.out.mono ?_
  rintro e w5 ⟨rfl, hS5⟩
  have HB5 : Hid (Below w.heap.size w w5) := HB.out.trans (hS5.low.mono (by have := HZ.out; omega))
  have H6 := hid (HPR.out w5 (HTE.out.below HB5.out) hS5)
  clear hS5 H5 HPR
  go_wp2_with fail
  refine H6.out.mono ?_
  rintro e w6 ⟨rfl, hB6⟩
  have HB6 : Hid (Below w.heap.size w w6) := HB5.out.trans (hB6.mono HB5.out.size)
  clear hB6 H6
  go_wp2
  refine bodyPost_ret (v := .tuple #[.string ⟨R.1.toArray⟩, .int .i64 R.2]) (by simp [results, Tryz.results6, go_sem]) rfl ⟨rfl, HB6.out⟩
theorem printCall_any (c : CallP) (w : World) (hT : ErrT w) (hl : c.args.length ≤ 140737488355328) :
    Calls Tryz.prog 6 #[.agg (callV c).toArray] w fun e w' => e = .returned (.tuple #[.string ⟨(pcP c).1.toArray⟩, .int .i64 (pcP c).2]) ∧ Below w.heap.size w w' := by
  by_cases h2 : c.rpc = 2
  · exact printCall_two c w h2 hT hl
  · exact printCall_rpc c w h2
end Go.Proofs.YtebjheaohichpaaGreatDoor
namespace Go.Proofs.YtebjheaohichpaaGreatDoor
open Go.RowKit
noncomputable instance ReplyP.dec (r : ReplyP) : Decidable r.may := Classical.propDecidable _
def replyV (r : ReplyP) : List Value := [.int .i64 r.xid, .bool r.denied, .int .i64 r.verf.flavor, .string ⟨r.verf.body.toArray⟩, .int .i64 r.accept, .int .i64 r.reject, .int .i64 r.why, .int .i64 r.low, .int .i64 r.high, .string ⟨r.results.toArray⟩]
noncomputable def prP (r : ReplyP) : List UInt8 × Int := prM r.may r.lay
def rtsH (r : ReplyP) : List (Prop × List UInt8) := [(isW r.xid, nbL 4 r.xid.toNat), (True, nbL 4 (1 : Int).toNat), (True, nbL 4 (if r.denied then 1 else 0))]
def rtsD (r : ReplyP) : List (Prop × List UInt8) := [(0 ≤ r.reject ∧ r.reject ≤ 1, nbL 4 r.reject.toNat), (r.verf.flavor = 0, []), (r.verf.body = [], []), (r.accept = 0, [])]
def rtsA (r : ReplyP) : List (Prop × List UInt8) := [(r.reject = 0, []), (isW r.verf.flavor, nbL 4 r.verf.flavor.toNat), (((r.verf.body.length : Nat) : Int) ≤ 400, nbL 4 r.verf.body.length ++ (r.verf.body ++ padB r.verf.body.length)), (0 ≤ r.accept ∧ r.accept ≤ 5, nbL 4 r.accept.toNat)]
def rtsB (r : ReplyP) : List (Prop × List UInt8) := if r.denied then rtsD r else rtsA r
def opt (s : Bool) (a b : Prop × List UInt8) : Prop × List UInt8 := if s then a else b
def rtsE (m a s : Bool) (r : ReplyP) : List (Prop × List UInt8) :=
  [opt m (isW r.low, nbL 4 r.low.toNat) (r.low = 0, []), opt m (isW r.high, nbL 4 r.high.toNat) (r.high = 0, []), opt a (0 ≤ r.why ∧ r.why ≤ 14, nbL 4 r.why.toNat) (r.why = 0, []), opt s (plainB r.results, r.results) (r.results = [], [])]
theorem tabRH (r : ReplyP) : Tab (replyV r) headR (rtsH r) := .cons (.word rfl) (.cons (.sign (by decide)) (.cons (.flag rfl) .nil))
theorem tabRB (r : ReplyP) : Tab (replyV r) (bodyR r.denied) (rtsB r) := by
  unfold rtsB bodyR
  cases r.denied
  · exact .cons (.noSmall rfl) (.cons (.word rfl) (.cons (.body rfl (by decide) (by decide)) (.cons (.small rfl (by decide) (by decide)) .nil)))
  · exact .cons (.small rfl (by decide) (by decide)) (.cons (.noWord rfl) (.cons (.noBody rfl) (.cons (.noSmall rfl) .nil)))
theorem tabRE (m a s : Bool) (r : ReplyP) (h : r.results.length ≤ 140737488355328) : Tab (replyV r) (endR m a s) (rtsE m a s r) := by
  have h1 : Lays (replyV r) m (.word 7) (opt m (isW r.low, nbL 4 r.low.toNat) (r.low = 0, [])).1 (opt m (isW r.low, nbL 4 r.low.toNat) (r.low = 0, [])).2 := by cases m; exact .noWord rfl; exact .word rfl
  have h2 : Lays (replyV r) m (.word 8) (opt m (isW r.high, nbL 4 r.high.toNat) (r.high = 0, [])).1 (opt m (isW r.high, nbL 4 r.high.toNat) (r.high = 0, [])).2 := by cases m; exact .noWord rfl; exact .word rfl
  have h3 : Lays (replyV r) a (.small 6 14) (opt a (0 ≤ r.why ∧ r.why ≤ 14, nbL 4 r.why.toNat) (r.why = 0, [])).1 (opt a (0 ≤ r.why ∧ r.why ≤ 14, nbL 4 r.why.toNat) (r.why = 0, [])).2 := by cases a; exact .noSmall rfl; exact .small rfl (by decide) (by decide)
  have h4 : Lays (replyV r) s (.tail 9) (opt s (plainB r.results, r.results) (r.results = [], [])).1 (opt s (plainB r.results, r.results) (r.results = [], [])).2 := by cases s; exact .noTail rfl; exact .tail rfl h
  exact .cons h1 (.cons h2 (.cons h3 (.cons h4 .nil)))
theorem roomRH (r : ReplyP) : Room (rtsH r) 12 := .cons (word_room _) (.cons (sign_room _) (.cons (sign_room _) .nil))
theorem roomRB (r : ReplyP) : Room (rtsB r) 412 := by
  unfold rtsB
  cases r.denied
  · exact .cons (n := 0) (none_room _) (.cons (word_room _) (.cons (body_room _) (.cons (small_room _ _) .nil)))
  · exact .cons (n := 4) (m := 408) (small_room _ _) (.cons (n := 0) (none_room _) (.cons (n := 0) (none_room _) (.cons (n := 408) (m := 0) (fun _ => by simp) .nil)))
theorem opt_room {s : Bool} {A B : Prop} {x : List UInt8} {n : Nat} (h : A → x.length ≤ n) : (opt s (A, x) (B, [])).1 → (opt s (A, x) (B, [])).2.length ≤ n := by
  cases s
  · exact fun _ => Nat.zero_le _
  · exact h
theorem roomRE (m a s : Bool) (r : ReplyP) : Room (rtsE m a s r) 1012 := .cons (opt_room (word_room _)) (.cons (opt_room (word_room _)) (.cons (opt_room (small_room _ _)) (.cons (opt_room (tail_room _)) .nil)))
/-- which end a reply has -/
def endM (r : ReplyP) : Bool := if r.denied then r.reject == 0 else r.accept == 2
def endA (r : ReplyP) : Bool := if r.denied then r.reject == 1 else false
def endS (r : ReplyP) : Bool := if r.denied then false else r.accept == 0
theorem opt_true (a b : Prop × List UInt8) : opt true a b = a := rfl
theorem opt_false (a b : Prop × List UInt8) : opt false a b = b := rfl
theorem auth_nul (a : AuthP) : a = nulA ↔ (a.flavor = 0 ∧ a.body = []) := by
  obtain ⟨f, b⟩ := a
  unfold nulA
  simp
theorem reply_may (r : ReplyP) : r.may ↔ (((True ∧ allA (rtsH r)) ∧ allA (rtsB r)) ∧ allA (rtsE (endM r) (endA r) (endS r) r)) := by
  obtain ⟨rx, rd, rv, ra, rl, rh, rr, rj, rw_⟩ := r
  unfold ReplyP.may rtsH rtsB rtsE endM endA endS
  cases rd
  · simp only [rtsA, allA, opt_false, Bool.false_eq_true, if_false]
    constructor
    · rintro ⟨h1, h2, h3, h4, h5, h6, h7⟩
      refine ⟨⟨⟨trivial, h1, trivial, trivial, trivial⟩, h3, h2.1, by have := h2.2; omega, ⟨h5, h6⟩, trivial⟩, ?_⟩
      rcases h7 with ⟨rfl, a1, a2, a3⟩ | ⟨rfl, a1, a2, a3⟩ | ⟨a0, a1, a2, a3, a4⟩
      · exact ⟨a2, a3, h4, a1, trivial⟩
      · exact ⟨a1, a2, h4, a3, trivial⟩
      · rw [show (ra == 0) = false from beq_eq_false_iff_ne.2 a0, show (ra == 2) = false from beq_eq_false_iff_ne.2 a1]
        exact ⟨a2, a3, h4, a4, trivial⟩
    · rintro ⟨⟨⟨_, h1, _⟩, h3, h2, h2', ⟨h5, h6⟩, _⟩, b1, b2, b3, b4, _⟩
      refine ⟨h1, ⟨h2, by omega⟩, h3, b3, h5, h6, ?_⟩
      by_cases e0 : ra = 0
      · subst e0
        exact .inl ⟨rfl, b4, b1, b2⟩
      · by_cases e2 : ra = 2
        · subst e2
          exact .inr (.inl ⟨rfl, b1, b2, b4⟩)
        · rw [show (ra == 2) = false from beq_eq_false_iff_ne.2 e2] at b1 b2
          rw [show (ra == 0) = false from beq_eq_false_iff_ne.2 e0] at b4
          exact .inr (.inr ⟨e0, e2, b1, b2, b4⟩)
  · simp only [rtsD, allA, opt_false, if_true, auth_nul]
    constructor
    · rintro ⟨h1, ⟨h2, h2'⟩, h3, h4, h5⟩
      rcases h5 with ⟨rfl, a1, a2, a3⟩ | ⟨rfl, a1, a2, a3, a4⟩
      · exact ⟨⟨⟨trivial, h1, trivial, trivial, trivial⟩, by decide, h2, h2', h3, trivial⟩, a1, a2, a3, h4, trivial⟩
      · exact ⟨⟨⟨trivial, h1, trivial, trivial, trivial⟩, by decide, h2, h2', h3, trivial⟩, a1, a2, ⟨a3, a4⟩, h4, trivial⟩
    · rintro ⟨⟨⟨_, h1, _⟩, h3, h2, h2', h5, _⟩, b1, b2, b3, b4, _⟩
      refine ⟨h1, ⟨h2, h2'⟩, h5, b4, ?_⟩
      by_cases e0 : rj = 0
      · subst e0
        exact .inl ⟨rfl, b1, b2, b3⟩
      · obtain rfl : rj = 1 := by omega
        exact .inr ⟨rfl, b1, b2, b3.1, b3.2⟩
theorem reply_lay_eq (r : ReplyP) (h : r.may) : (([] ++ allL (rtsH r)) ++ allL (rtsB r)) ++ allL (rtsE (endM r) (endA r) (endS r) r) = r.lay := by
  obtain ⟨rx, rd, rv, ra, rl, rh, rr, rj, rw_⟩ := r
  unfold ReplyP.may at h
  unfold ReplyP.lay AuthP.lay rtsH rtsB rtsE endM endA endS
  cases rd
  · simp only [Bool.false_eq_true, if_false] at h
    simp only [rtsA, allL, opt_false, Bool.false_eq_true, if_false, List.nil_append, List.append_nil, List.append_assoc]
    obtain ⟨_, _, _, _, _, _, h7⟩ := h
    rcases h7 with ⟨rfl, a1, rfl, rfl⟩ | ⟨rfl, a1, a2, rfl⟩ | ⟨a0, a1, rfl, rfl, rfl⟩
    · rfl
    · simp [opt]
    · rw [show (ra == 0) = false from beq_eq_false_iff_ne.2 a0, show (ra == 2) = false from beq_eq_false_iff_ne.2 a1]
      simp [opt, a1]
  · simp only [if_true] at h
    simp only [rtsD, allL, opt_false, if_true, List.nil_append, List.append_nil, List.append_assoc]
    obtain ⟨_, _, _, _, h5⟩ := h
    rcases h5 with ⟨rfl, a1, a2, rfl⟩ | ⟨rfl, rfl, rfl, a3, a4⟩
    · simp [opt]
    · simp [opt]
theorem replyEnd_any (b : Nat) (r : ReplyP) (w : World) (h : Bk w b (replyV r) 27) : Calls Tryz.prog 28 #[.pointer (some ⟨b, 0, none⟩)] w (Makes b (endR (endM r) (endA r) (endS r)) w) := by
  have h1 : w.cell? ⟨b, 1, none⟩ = some (.bool r.denied) := h.cell 1 rfl
  have h4 : w.cell? ⟨b, 4, none⟩ = some (.int .i64 r.accept) := h.cell 4 rfl
  have h5 : w.cell? ⟨b, 5, none⟩ = some (.int .i64 r.reject) := h.cell 5 rfl
  unfold endM endA endS
  generalize r.denied = d at *
  cases d
  · exact replyEnd_acc b r.accept w h1 h4
  · exact replyEnd_den b r.reject w h1 h5
set_option maxRecDepth 4000 in
theorem printReply_any (r : ReplyP) (w : World) (hT : ErrT w) (hl : r.results.length ≤ 140737488355328) :
    Calls Tryz.prog 8 #[.agg (replyV r).toArray] w fun e w' => e = .returned (.tuple #[.string ⟨(prP r).1.toArray⟩, .int .i64 (prP r).2]) ∧ Below w.heap.size w w' := by
  obtain ⟨wa, hwa⟩ : ∃ x, w.alloc (.cells (replyV r).toArray 27) = x := ⟨_, rfl⟩
  obtain ⟨hk, hB, hz⟩ := boxed w wa _ _ hwa
  obtain ⟨wb, hwb⟩ : ∃ x, x = wa.alloc (.cells #[.int .i64 1840, .slice none 0 0, .nilIface] 74) := ⟨_, rfl⟩
  have hBb : Below wa.heap.size wa wb := by rw [hwb]; exact below_new _ _
  have HS : Hid (WS wb wb w.heap.size wa.heap.size (replyV r) 27 1840 True []) := ⟨WrK.new _ 1840 wa wb (by decide) hwb, hk.below hBb (by omega), Below.refl _ _, by omega⟩
  have HB : Hid (Below w.heap.size w wb) := hB.trans (hBb.mono (by omega))
  have HTE := hid hT
  have HZ := hid hz
  have HN : Hid (Calls Tryz.prog 16 #[.int .i64 1840] wa fun e w' => e = .returned (.pointer (some ⟨wa.heap.size, 0, none⟩)) ∧ w' = wb) := by rw [hwb]; exact w_new 1840 wa (by decide)
  have HTH := hid (tabRH r)
  have HTB := hid (tabRB r)
  have HTD := hid (tabRE (endM r) (endA r) (endS r) r hl)
  have HRH := hid (roomRH r)
  have HRB := hid (roomRB r)
  have HRE := hid (roomRE (endM r) (endA r) (endS r) r)
  have HH := hid (replyHead_any w.heap.size)
  have HBD : Hid (∀ w1, Bk w1 w.heap.size (replyV r) 27 → Calls Tryz.prog 27 #[.pointer (some ⟨w.heap.size, 0, none⟩)] w1 (Makes w.heap.size (bodyR r.denied) w1)) := fun w1 h1 => replyBody_any _ _ w1 (h1.cell 1 rfl)
  have HED : Hid (∀ w1, Bk w1 w.heap.size (replyV r) 27 → Calls Tryz.prog 28 #[.pointer (some ⟨w.heap.size, 0, none⟩)] w1 (Makes w.heap.size (endR (endM r) (endA r) (endS r)) w1)) := fun w1 h1 => replyEnd_any _ r w1 h1
  have HPR : Hid (∀ w4, ErrT w4 → WS wb w4 w.heap.size wa.heap.size (replyV r) 27 1840 (((True ∧ allA (rtsH r)) ∧ allA (rtsB r)) ∧ allA (rtsE (endM r) (endA r) (endS r) r)) ((([] ++ allL (rtsH r)) ++ allL (rtsB r)) ++ allL (rtsE (endM r) (endA r) (endS r) r)) → Calls Tryz.prog 20 #[.pointer (some ⟨wa.heap.size, 0, none⟩)] w4 fun e w' => e = .returned (.tuple #[.string ⟨(prP r).1.toArray⟩, .int .i64 (prP r).2]) ∧ Below w4.heap.size w4 w') :=
    fun w4 hE h4 => printed_any _ _ 1840 _ r.may _ r.lay w4 h4.wr hE (reply_may r) (fun q => reply_lay_eq r ((reply_may r).2 q))
  have HLB : Hid ((bodyR r.denied).length = 4) := rfl
  have HLE : Hid ((endR (endM r) (endA r) (endS r)).length = 4) := rfl
  generalize prP r = R at *
  generalize replyV r = V at *
  generalize rtsH r = AH at *
  generalize rtsB r = AB at *
  generalize rtsE (endM r) (endA r) (endS r) r = AE at *
  generalize bodyR r.denied = TB at *
  generalize endR (endM r) (endA r) (endS r) = TE at *
  clear hk hB hz hwb hBb hT hl
  go_enter Tryz.func8, Tryz.ntmps8
  go_wp2_with fail
  refine HN.out.mono ?_
  rintro e w1 ⟨rfl, hw1⟩
  have hw2 := hw1.symm
  clear hw1 HN
  subst hw2
  go_wp2_with fail
  refine (HH.out _).mono ?_
  rintro e w2 ⟨rfl, hq2, hB2, hz2⟩
  have H3 := hid (HS.out.lays HTH.out hq2 hB2 hz2 (by decide) (by decide) (by decide) HRH.out (fun _ => by decide))
  clear hq2 hB2 hz2 HH HTH
  go_wp2_with fail
  refine H3.out.mono ?_
  rintro e w3 ⟨rfl, hS3⟩
  have HS3 := hid hS3
  clear hS3 H3
  go_wp2_with fail
  refine (HBD.out _ HS3.out.k).mono ?_
  rintro e w4 ⟨rfl, hq4, hB4, hz4⟩
  have H5 := hid (HS3.out.lays HTB.out hq4 hB4 hz4 (by rw [HLB.out]; decide) (by decide) (by decide) HRB.out (fun q => by
    have := HRH.out.full q.2
    rw [List.nil_append]
    omega))
  clear hq4 hB4 hz4 HBD HTB
  go_wp2_with fail
  refine H5.out.mono ?_
  rintro e w5 ⟨rfl, hS5⟩
  have HS5 := hid hS5
  clear hS5 H5
  go_wp2_with fail
  refine (HED.out _ HS5.out.k).mono ?_
  rintro e w6 ⟨rfl, hq6, hB6, hz6⟩
  have H7 := hid (HS5.out.lays HTD.out hq6 hB6 hz6 (by rw [HLE.out]; decide) (by decide) (by decide) HRE.out (fun q => by
    have := HRH.out.full q.1.2
    have := HRB.out.full q.2
    rw [List.nil_append, List.length_append]
    omega))
  clear hq6 hB6 hz6 HED HTD
  go_wp2_with fail
  refine H7.out.mono ?_
  rintro e w7 ⟨rfl, hS7⟩
  have HB7 : Hid (Below w.heap.size w w7) := HB.out.trans (hS7.low.mono (by have := HZ.out; omega))
  have H8 := hid (HPR.out w7 (HTE.out.below HB7.out) hS7)
  clear hS7 H7 HPR
  go_wp2_with fail
  refine H8.out.mono ?_
  rintro e w8 ⟨rfl, hB8⟩
  have HB8 : Hid (Below w.heap.size w w8) := HB7.out.trans (hB8.mono HB7.out.size)
  clear hB8 H8
  go_wp2
  refine bodyPost_ret (v := .tuple #[.string ⟨R.1.toArray⟩, .int .i64 R.2]) (by simp [results, Tryz.results8, go_sem]) rfl ⟨rfl, HB8.out⟩
end Go.Proofs.YtebjheaohichpaaGreatDoor
