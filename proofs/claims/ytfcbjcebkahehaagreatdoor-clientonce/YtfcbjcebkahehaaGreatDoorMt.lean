/- message: PrintCall. -/
import Derived.Test.YtfcbjcebkahehaaGreatDoorZbe
namespace Go.Proofs.YtfcbjcebkahehaaGreatDoor
open Go.RowKit
def callV (c : CallP) : List Value := [.int .i64 c.xid, .int .i64 c.rpc, .int .i64 c.prog, .int .i64 c.vers, .int .i64 c.proc, .int .i64 c.cred.flavor, .string ⟨c.cred.body.toArray⟩, .int .i64 c.verf.flavor, .string ⟨c.verf.body.toArray⟩, .string ⟨c.args.toArray⟩]
def pcP (c : CallP) : List UInt8 × Int := prM c.may c.lay
def atsH (c : CallP) : List (Prop × List UInt8) := [(isW c.xid, nbL 4 c.xid.toNat), (True, nbL 4 (0 : Int).toNat), (isW c.rpc, nbL 4 c.rpc.toNat)]
def atsB (c : CallP) : List (Prop × List UInt8) := [(isW c.prog, nbL 4 c.prog.toNat), (isW c.vers, nbL 4 c.vers.toNat), (isW c.proc, nbL 4 c.proc.toNat), (isW c.cred.flavor, nbL 4 c.cred.flavor.toNat), (((c.cred.body.length : Nat) : Int) ≤ 400, nbL 4 c.cred.body.length ++ (c.cred.body ++ padB c.cred.body.length)), (isW c.verf.flavor, nbL 4 c.verf.flavor.toNat), (((c.verf.body.length : Nat) : Int) ≤ 400, nbL 4 c.verf.body.length ++ (c.verf.body ++ padB c.verf.body.length)), (plainB c.args, c.args)]
theorem tabH (c : CallP) : Tab (callV c) headC (atsH c) := .cons (.word rfl) (.cons (.sign (by decide)) (.cons (.word rfl) .nil))
theorem tabB (c : CallP) (h : c.args.length ≤ 140737488355328) : Tab (callV c) bodyC (atsB c) :=
  .cons (.word rfl) (.cons (.word rfl) (.cons (.word rfl) (.cons (.word rfl) (.cons (.body rfl (by decide) (by decide)) (.cons (.word rfl) (.cons (.body rfl (by decide) (by decide)) (.cons (.tail rfl h) .nil)))))))
theorem roomH (c : CallP) : Room (atsH c) 12 := .cons (word_room _) (.cons (sign_room _) (.cons (word_room _) .nil))
theorem roomB (c : CallP) : Room (atsB c) 1828 := .cons (word_room _) (.cons (word_room _) (.cons (word_room _) (.cons (word_room _) (.cons (body_room _) (.cons (word_room _) (.cons (body_room _) (.cons (tail_room _) .nil)))))))
theorem call_may (c : CallP) (h2 : c.rpc = 2) : c.may ↔ ((True ∧ allA (atsH c)) ∧ allA (atsB c)) := by
  unfold CallP.may AuthP.may atsH atsB
  simp only [allA, h2]
  constructor
  · rintro ⟨a1, _, a3, a4, a5, ⟨b1, b2⟩, ⟨b3, b4⟩, a8⟩
    exact ⟨⟨trivial, a1, trivial, by decide, trivial⟩, a3, a4, a5, b1, by omega, b3, by omega, a8, trivial⟩
  · rintro ⟨⟨_, a1, _, _, _⟩, a3, a4, a5, b1, b2, b3, b4, a8, _⟩
    exact ⟨a1, trivial, a3, a4, a5, ⟨b1, by omega⟩, ⟨b3, by omega⟩, a8⟩
theorem call_lay_eq (c : CallP) : ([] ++ allL (atsH c)) ++ allL (atsB c) = c.lay := by
  unfold CallP.lay AuthP.lay atsH atsB
  simp only [allL, List.nil_append, List.append_nil, List.append_assoc]
  rfl
set_option maxRecDepth 4000 in
theorem printCall_rpc (c : CallP) (w : World) (h2 : c.rpc ≠ 2) :
    Calls Tryz.prog 95 #[.agg (callV c).toArray] w fun e w' => e = .returned (.tuple #[.string ⟨(pcP c).1.toArray⟩, .int .i64 (pcP c).2]) ∧ Below w.heap.size w w' := by
  have e : pcP c = ([], 120) := by
    unfold pcP prM
    rw [if_neg (fun q => h2 q.2.1)]
  rw [e]
  obtain ⟨wa, hwa⟩ : ∃ x, w.alloc (.cells (callV c).toArray 108) = x := ⟨_, rfl⟩
  obtain ⟨hk, hB, hz⟩ := boxed w wa _ _ hwa
  have a1 : wa.cell? ⟨w.heap.size, 1, none⟩ = some (.int .i64 c.rpc) := hk.cell 1 rfl
  have HB := hid hB
  have h3 : (c.rpc != 2) = true := bne_iff_ne.2 h2
  generalize c.rpc = R at *
  generalize (callV c).toArray = V at *
  clear hk hB hz e
  go_enter Tryz.func95, Tryz.ntmps95
  go_wp2
  refine bodyPost_ret (v := .tuple #[.string ⟨#[]⟩, .int .i64 120]) (by simp [results, Tryz.results95, go_sem]) rfl ⟨rfl, HB.out⟩
set_option maxRecDepth 4000 in
theorem printCall_two (c : CallP) (w : World) (h2 : c.rpc = 2) (hT : ErrT w) (hl : c.args.length ≤ 140737488355328) :
    Calls Tryz.prog 95 #[.agg (callV c).toArray] w fun e w' => e = .returned (.tuple #[.string ⟨(pcP c).1.toArray⟩, .int .i64 (pcP c).2]) ∧ Below w.heap.size w w' := by
  obtain ⟨wa, hwa⟩ : ∃ x, w.alloc (.cells (callV c).toArray 108) = x := ⟨_, rfl⟩
  obtain ⟨hk, hB, hz⟩ := boxed w wa _ _ hwa
  have a1 : wa.cell? ⟨w.heap.size, 1, none⟩ = some (.int .i64 2) := h2 ▸ hk.cell 1 rfl
  obtain ⟨wb, hwb⟩ : ∃ x, x = wa.alloc (.cells #[.int .i64 1840, .slice none 0 0, .nilIface] 181) := ⟨_, rfl⟩
  have hBb : Below wa.heap.size wa wb := by rw [hwb]; exact below_new _ _
  have HS : Hid (WS wb wb w.heap.size wa.heap.size (callV c) 108 1840 True []) := ⟨WrK.new _ 1840 wa wb (by decide) hwb, hk.below hBb (by omega), Below.refl _ _, by omega⟩
  have HB : Hid (Below w.heap.size w wb) := hB.trans (hBb.mono (by omega))
  have HTE := hid hT
  have HZ := hid hz
  have HN : Hid (Calls Tryz.prog 76 #[.int .i64 1840] wa fun e w' => e = .returned (.pointer (some ⟨wa.heap.size, 0, none⟩)) ∧ w' = wb) := by rw [hwb]; exact w_new 1840 wa (by decide)
  have HTH := hid (tabH c)
  have HTB := hid (tabB c hl)
  have HRH := hid (roomH c)
  have HRB := hid (roomB c)
  have HH := hid (callHead_any w.heap.size)
  have HBD := hid (callBody_any w.heap.size)
  have HPR : Hid (∀ w4, ErrT w4 → WS wb w4 w.heap.size wa.heap.size (callV c) 108 1840 ((True ∧ allA (atsH c)) ∧ allA (atsB c)) (([] ++ allL (atsH c)) ++ allL (atsB c)) → Calls Tryz.prog 81 #[.pointer (some ⟨wa.heap.size, 0, none⟩)] w4 fun e w' => e = .returned (.tuple #[.string ⟨(pcP c).1.toArray⟩, .int .i64 (pcP c).2]) ∧ Below w4.heap.size w4 w') :=
    fun w4 hE h4 => printed_any _ _ 1840 _ c.may _ c.lay w4 h4.wr hE (call_may c h2) (fun _ => call_lay_eq c)
  generalize pcP c = R at *
  generalize callV c = V at *
  generalize atsH c = AH at *
  generalize atsB c = AB at *
  clear hk hB hz hwb hBb hT hl h2
  go_enter Tryz.func95, Tryz.ntmps95
  go_wp2_with fail
  refine HN.out.mono ?_
  rintro e w1 ⟨rfl, hw1⟩
  have hw2 := hw1.symm
  clear hw1 HN
  subst hw2
  go_wp2_with fail
  refine (HH.out _).mono ?_
  rintro e w2 ⟨rfl, hq2, hB2, hz2⟩
  have H3 := hid (HS.out.lays HTH.out hq2 hB2 hz2 (by decide) (by decide) (by decide) HRH.out (fun _ => by decide))
  clear hq2 hB2 hz2 HH HTH
  go_wp2_with fail
  refine H3.out.mono ?_
  rintro e w3 ⟨rfl, hS3⟩
  have HS3 := hid hS3
  clear hS3 H3
  go_wp2_with fail
  refine (HBD.out _).mono ?_
  rintro e w4 ⟨rfl, hq4, hB4, hz4⟩
  have H5 := hid (HS3.out.lays HTB.out hq4 hB4 hz4 (by decide) (by decide) (by decide) HRB.out (fun q => by
    have := HRH.out.full q.2
    rw [List.nil_append]
    omega))
  clear hq4 hB4 hz4 HBD HTB
  go_wp2_with fail
  refine H5.out.mono ?_
  rintro e w5 ⟨rfl, hS5⟩
  have HB5 : Hid (Below w.heap.size w w5) := HB.out.trans (hS5.low.mono (by have := HZ.out; omega))
  have H6 := hid (HPR.out w5 (HTE.out.below HB5.out) hS5)
  clear hS5 H5 HPR
  go_wp2_with fail
  refine H6.out.mono ?_
  rintro e w6 ⟨rfl, hB6⟩
  have HB6 : Hid (Below w.heap.size w w6) := HB5.out.trans (hB6.mono HB5.out.size)
  clear hB6 H6
  go_wp2
  refine bodyPost_ret (v := .tuple #[.string ⟨R.1.toArray⟩, .int .i64 R.2]) (by simp [results, Tryz.results95, go_sem]) rfl ⟨rfl, HB6.out⟩
theorem printCall_any (c : CallP) (w : World) (hT : ErrT w) (hl : c.args.length ≤ 140737488355328) :
    Calls Tryz.prog 95 #[.agg (callV c).toArray] w fun e w' => e = .returned (.tuple #[.string ⟨(pcP c).1.toArray⟩, .int .i64 (pcP c).2]) ∧ Below w.heap.size w w' := by
  by_cases h2 : c.rpc = 2
  · exact printCall_two c w h2 hT hl
  · exact printCall_rpc c w h2
end Go.Proofs.YtfcbjcebkahehaaGreatDoor
