/- The program's parser: from a declaration's name on. -/
import Derived.Test.YteokdknaadckbaaGreatDoorPart03
namespace Go.Proofs.YteokdknaadckbaaGreatDoor
open Go.RowKit

theorem fld0_29 (k : Int) (s : ByteArray) (m a : Int) (v : Value) (w : World) : (Instr.field 29 (.agg #[.int .i64 k, .string s, .int .i64 m, .int .i64 a, v]) 0).run Tryz.prog w = .ok (.int .i64 k) w := by kernel_rfl
theorem Ends.sees {ts : List Tok} (hE : Ends ts) {i : Nat} {full : Bool} (hi : i < ts.length) {t : List UInt8} (ht : t ≠ []) (h : (PSof ts i full).sees t = true) : i + 1 < ts.length := by
  refine hE.text hi ?_
  unfold PS.sees at h
  rw [PSof_hd ts i full hi] at h
  rw [show (ts[i]'hi).text = t by simpa using h]
  exact ht
theorem sees_lit (p g cap : Nat) (ts : List Tok) (i : Nat) (d : Int) (full : Bool) (t : List UInt8) (w : World) (h : PP w p g cap ts i d full) :
    Calls Tryz.prog 75 #[.pointer (some ⟨p, 0, none⟩), .string ⟨t.toArray⟩] w fun e w' => e = .returned (.bool ((PSof ts i full).sees t)) ∧ Below w.heap.size w w' := by
  have hx := sees_any p g cap ts i d full ⟨t.toArray⟩ w h
  rw [ByteArray.toList_mk] at hx
  exact hx

set_option maxHeartbeats 2000000 in
set_option maxRecDepth 4000 in
theorem sized_any (p g cap : Nat) (ts : List Tok) (hE : Ends ts) (i : Nat) (d : Int) (full : Bool) (k9 : Int) (n9 : List UInt8) (m9 : Int) (a9 : Nat) (ks9 : List Tree) (o9 : Option Addr) (l9 c9 : Nat) (A0 : Nat → Prop) (w : World) (h : PP w p g cap ts i d full)
    (hA0 : ∀ b, A0 b → b ≠ p ∧ b < w.heap.size) (hT : TreeAt A0 w (.node k9 n9 m9 a9 ks9) (kidV k9 n9 m9 a9 (.slice o9 l9 c9))) :
    Calls Tryz.prog 111 #[.pointer (some ⟨p, 0, none⟩), (kidV k9 n9 m9 a9 (.slice o9 l9 c9))] w (PPost p g cap ts d (mixIs A0 w.heap.size) (sizedP k9 (.node k9 n9 m9 a9 ks9) (PSof ts i full)) w) := by
  have HP : Hid (p < w.heap.size ∧ g < w.heap.size) := ⟨h.plt, h.glt⟩
  have HBB : Hid (∀ b, A0 b → b ≠ p ∧ b < w.heap.size) := hA0
  have HE : Hid (Ends ts) := hE
  obtain ⟨R, hR⟩ : ∃ R, sizedP k9 (.node k9 n9 m9 a9 ks9) (PSof ts i full) = R := ⟨_, rfl⟩
  rw [hR]
  have HR0 : Hid (R = sizedP k9 (.node k9 n9 m9 a9 ks9) (PSof ts i full)) := hR.symm
  unfold kidV
  obtain ⟨wa1, hwa1⟩ : ∃ x, w.alloc (.cells #[.int .i64 k9, .string ⟨n9.toArray⟩, .int .i64 m9, .int .i64 a9, .slice o9 l9 c9] 29) = x := ⟨_, rfl⟩
  obtain ⟨wa, hwa⟩ : ∃ x, wa1.alloc (.cells #[.int .i64 0, .string ⟨#[]⟩, .int .i64 0, .int .i64 0, .slice none 0 0] 29) = x := ⟨_, rfl⟩
  have b1 : Below w.heap.size w wa1 := by rw [← hwa1]; exact below_alloc _ _
  have b2 : Below w.heap.size w wa := by rw [← hwa]; exact b1.alloc b1.size _
  have HKo : Hid (Kep w wa w.heap.size (kidO k9 n9 m9 a9 (.slice o9 l9 c9))) := by show Kep w wa _ _; rw [← hwa, ← hwa1]; exact (Kep.new (Nat.le_refl _) _).alloc _
  have HKr : Hid (Kep w wa wa1.heap.size (kidO 0 [] 0 0 (.slice none 0 0))) := by show Kep w wa _ _; rw [← hwa]; exact Kep.new b1.size _
  have HTa : Hid (TreeAt A0 wa (.node k9 n9 m9 a9 ks9) (kidV k9 n9 m9 a9 (.slice o9 l9 c9))) := hT.below b2
  have HSa : Hid (Sole p w wa) := Sole.of_below b2
  have HN : Hid (Calls Tryz.prog 108 #[.pointer (some ⟨p, 0, none⟩)] wa (PPost p g cap ts d tokIs (nameP (PSof ts i full)) wa)) := name_any p g cap ts hE i d full wa (h.below b2)
  obtain ⟨rn, hrn⟩ : ∃ r, nameP (PSof ts i full) = r := ⟨_, rfl⟩
  have HR1 : Hid (R = rn.bind fun t s => (if s.sees [91] && k9 != 26 then s.take.bind fun _ s => (valueP s).bind fun v s => (s.want [93]).bind fun _ s => .ok (named 15 t [(.node k9 n9 m9 a9 ks9), v]) s else if s.sees [60] then (s.want [60]).bind fun _ s => if s.sees [62] then (s.want [62]).bind fun _ s => .ok (named 16 t [(.node k9 n9 m9 a9 ks9)]) s else (valueP s).bind fun v s => (s.want [62]).bind fun _ s => .ok (named 16 t [(.node k9 n9 m9 a9 ks9), v]) s else if k9 == 25 || k9 == 26 then s.bad 40 else .ok (named 14 t [(.node k9 n9 m9 a9 ks9)]) s)) := by
    show _ = _
    rw [HR0.out, ← hrn]; rfl
  rw [hrn] at HN
  clear b1 b2 h hT hE hA0 hR hrn
  go_enter Tryz.func111, Tryz.ntmps111
  go_wp2_with fail
  refine HN.out.mono ?_
  cases rn with
  | no why at_ =>
    rintro e w99 ⟨rfl, hS⟩
    have HS99 : Hid (Sole p w w99) := HSa.out.trans hS
    clear hS
    go_wp2
    refine ⟨rfl, ?_⟩
    rw [HR1.out]
    exact ⟨rfl, HS99.out⟩
  | ok t st =>
    rintro e w2 ⟨v, i, full, rfl, rfl, rfl, hP, hS⟩
    obtain ⟨w3, hw3⟩ : ∃ x, w2.alloc (.cells #[.int .i64 t.kind, .string ⟨t.text.toArray⟩, .int .i64 t.num, .int .i64 t.at_] 41) = x := ⟨_, rfl⟩
    have hp := HP.out.1
    have hs2 : Sole p w w2 := HSa.out.trans hS
    have HP3 : Hid (PP w3 p g cap ts i d full) := by show PP w3 _ _ _ _ _ _ _; rw [← hw3]; exact hP.alloc _
    have HS3 : Hid (Sole p w w3) := by show Sole p w w3; rw [← hw3]; exact hs2.alloc _
    have HKo3 : Hid (Kep w w3 w.heap.size (kidO k9 n9 m9 a9 (.slice o9 l9 c9))) := by show Kep w w3 _ _; rw [← hw3]; exact (HKo.out.sole hp hS).alloc _
    have HKr3 : Hid (Kep w w3 wa1.heap.size (kidO 0 [] 0 0 (.slice none 0 0))) := by show Kep w w3 _ _; rw [← hw3]; exact (HKr.out.sole hp hS).alloc _
    have HKt3 : Hid (Kep w w3 w2.heap.size (tokO t)) := by show Kep w w3 _ _; rw [← hw3]; exact Kep.new hs2.size _
    have HT3 : Hid (TreeAt A0 w3 (.node k9 n9 m9 a9 ks9) (kidV k9 n9 m9 a9 (.slice o9 l9 c9))) := by show TreeAt _ w3 _ _; rw [← hw3]; exact (HTa.out.sole (fun b h => (HBB.out b h).1) hS).below (below_alloc _ _)
    have HS91 : Hid (Calls Tryz.prog 75 #[.pointer (some ⟨p, 0, none⟩), .string ⟨#[91]⟩] w3 fun e w' => e = .returned (.bool ((PSof ts i full).sees [91])) ∧ Below w3.heap.size w3 w') := sees_lit p g cap ts i d full [91] w3 HP3.out
    clear hP hS hp hs2 hwa1 hwa
    unfold tokV
    cases hse : (PSof ts i full).sees [91]
    · rw [hse] at HS91
      have HR2 : Hid (R = (if (PSof ts i full).sees [60] then ((PSof ts i full).want [60]).bind fun _ s => if s.sees [62] then (s.want [62]).bind fun _ s => .ok (named 16 t [(.node k9 n9 m9 a9 ks9)]) s else (valueP s).bind fun v s => (s.want [62]).bind fun _ s => .ok (named 16 t [(.node k9 n9 m9 a9 ks9), v]) s else if k9 == 25 || k9 == 26 then (PSof ts i full).bad 40 else .ok (named 14 t [(.node k9 n9 m9 a9 ks9)]) (PSof ts i full))) := by
        show _ = _
        rw [HR1.out]
        show (if _ then _ else _) = _
        rw [hse, if_neg (by simp)]
      clear hse
      go_wp2_with fail
      clear hw3
      refine HS91.out.mono ?_
      rintro e w4 ⟨rfl, hB4⟩
      have HP4 : Hid (PP w4 p g cap ts i d full) := HP3.out.below hB4
      have HS4 : Hid (Sole p w w4) := HS3.out.trans (Sole.of_below hB4)
      have HKo4 : Hid (Kep w w4 w.heap.size (kidO k9 n9 m9 a9 (.slice o9 l9 c9))) := HKo3.out.below hB4
      have HKr4 : Hid (Kep w w4 wa1.heap.size (kidO 0 [] 0 0 (.slice none 0 0))) := HKr3.out.below hB4
      have HKt4 : Hid (Kep w w4 w2.heap.size (tokO t)) := HKt3.out.below hB4
      have HT4 : Hid (TreeAt A0 w4 (.node k9 n9 m9 a9 ks9) (kidV k9 n9 m9 a9 (.slice o9 l9 c9))) := HT3.out.below hB4
      obtain ⟨⟨u0, u1, u2, u3, u4⟩, _⟩ := kid_cells HKo4.out.1
      clear hB4
      have HS60 : Hid (Calls Tryz.prog 75 #[.pointer (some ⟨p, 0, none⟩), .string ⟨#[60]⟩] w4 fun e w' => e = .returned (.bool ((PSof ts i full).sees [60])) ∧ Below w4.heap.size w4 w') := sees_lit p g cap ts i d full [60] w4 HP4.out
      cases hse : (PSof ts i full).sees [60]
      · rw [hse] at HS60
        by_cases hk25 : k9 = 25 ∨ k9 = 26
        · have HR3 : Hid (R = (PSof ts i full).bad 40) := by
            show _ = _
            rw [HR2.out, hse, if_neg (by simp), if_pos (by rcases hk25 with e | e <;> simp [e])]
          clear hse
          by_cases e25 : k9 = 25
          · have hk5 : (k9 == 25) = true := by simp [e25]
            clear hk25 e25
            go_wp2_with fail
            refine HS60.out.mono ?_
            rintro e w5 ⟨rfl, hB5⟩
            have HP5 : Hid (PP w5 p g cap ts i d full) := HP4.out.below hB5
            have HS5 : Hid (Sole p w w5) := HS4.out.trans (Sole.of_below hB5)
            have HKo5 : Hid (Kep w w5 w.heap.size (kidO k9 n9 m9 a9 (.slice o9 l9 c9))) := HKo4.out.below hB5
            have HKr5 : Hid (Kep w w5 wa1.heap.size (kidO 0 [] 0 0 (.slice none 0 0))) := HKr4.out.below hB5
            have HKt5 : Hid (Kep w w5 w2.heap.size (tokO t)) := HKt4.out.below hB5
            have HT5 : Hid (TreeAt A0 w5 (.node k9 n9 m9 a9 ks9) (kidV k9 n9 m9 a9 (.slice o9 l9 c9))) := HT4.out.below hB5
            clear hB5
            have HWR : Hid (Calls Tryz.prog 74 #[.pointer (some ⟨p, 0, none⟩), .int .i64 40] w5 fun e w' => e = .returned (.agg #[.int .i64 40, .int .i64 ((ts[i]'HP5.out.il).at_ : Nat)]) ∧ Below w5.heap.size w5 w') := wrong_any p g cap ts i d 40 full w5 HP5.out
            have HR4 : Hid (R = .no 40 (ts[i]'HP5.out.il).at_) := by
              show _ = _
              rw [HR3.out]
              unfold PS.bad
              rw [PSof_hd ts i full HP5.out.il]
            obtain ⟨⟨v0, v1, v2, v3, v4⟩, _⟩ := kid_cells HKo5.out.1
            go_wp2_with fail
            refine HWR.out.mono ?_
            rintro e w6 ⟨rfl, hB6⟩
            have HS6 : Hid (Sole p w w6) := HS5.out.trans (Sole.of_below hB6)
            clear hB6
            go_wp2
            refine ⟨rfl, ?_⟩
            rw [HR4.out]
            exact ⟨rfl, HS6.out⟩
          · have hk5 : (k9 == 25) = false := by simp [e25]
            have hk6 : (k9 == 26) = true := by rcases hk25 with e | e; exact absurd e e25; simp [e]
            clear hk25 e25
            go_wp2_with fail
            refine HS60.out.mono ?_
            rintro e w5 ⟨rfl, hB5⟩
            have HP5 : Hid (PP w5 p g cap ts i d full) := HP4.out.below hB5
            have HS5 : Hid (Sole p w w5) := HS4.out.trans (Sole.of_below hB5)
            have HKo5 : Hid (Kep w w5 w.heap.size (kidO k9 n9 m9 a9 (.slice o9 l9 c9))) := HKo4.out.below hB5
            have HKr5 : Hid (Kep w w5 wa1.heap.size (kidO 0 [] 0 0 (.slice none 0 0))) := HKr4.out.below hB5
            have HKt5 : Hid (Kep w w5 w2.heap.size (tokO t)) := HKt4.out.below hB5
            have HT5 : Hid (TreeAt A0 w5 (.node k9 n9 m9 a9 ks9) (kidV k9 n9 m9 a9 (.slice o9 l9 c9))) := HT4.out.below hB5
            clear hB5
            have HWR : Hid (Calls Tryz.prog 74 #[.pointer (some ⟨p, 0, none⟩), .int .i64 40] w5 fun e w' => e = .returned (.agg #[.int .i64 40, .int .i64 ((ts[i]'HP5.out.il).at_ : Nat)]) ∧ Below w5.heap.size w5 w') := wrong_any p g cap ts i d 40 full w5 HP5.out
            have HR4 : Hid (R = .no 40 (ts[i]'HP5.out.il).at_) := by
              show _ = _
              rw [HR3.out]
              unfold PS.bad
              rw [PSof_hd ts i full HP5.out.il]
            obtain ⟨⟨v0, v1, v2, v3, v4⟩, _⟩ := kid_cells HKo5.out.1
            go_wp2_with fail
            refine HWR.out.mono ?_
            rintro e w6 ⟨rfl, hB6⟩
            have HS6 : Hid (Sole p w w6) := HS5.out.trans (Sole.of_below hB6)
            clear hB6
            go_wp2
            refine ⟨rfl, ?_⟩
            rw [HR4.out]
            exact ⟨rfl, HS6.out⟩
        · have HR3 : Hid (R = .ok (named 14 t [(.node k9 n9 m9 a9 ks9)]) (PSof ts i full)) := by
            show _ = _
            rw [HR2.out, hse, if_neg (by simp), if_neg (by simp; omega)]
          have hk5 : (k9 == 25) = false := by simp; omega
          have hk6 : (k9 == 26) = false := by simp; omega
          clear hse hk25
          go_wp2_with fail
          refine HS60.out.mono ?_
          rintro e w5 ⟨rfl, hB5⟩
          have HP5 : Hid (PP w5 p g cap ts i d full) := HP4.out.below hB5
          have HS5 : Hid (Sole p w w5) := HS4.out.trans (Sole.of_below hB5)
          have HKo5 : Hid (Kep w w5 w.heap.size (kidO k9 n9 m9 a9 (.slice o9 l9 c9))) := HKo4.out.below hB5
          have HKr5 : Hid (Kep w w5 wa1.heap.size (kidO 0 [] 0 0 (.slice none 0 0))) := HKr4.out.below hB5
          have HKt5 : Hid (Kep w w5 w2.heap.size (tokO t)) := HKt4.out.below hB5
          have HT5 : Hid (TreeAt A0 w5 (.node k9 n9 m9 a9 ks9) (kidV k9 n9 m9 a9 (.slice o9 l9 c9))) := HT4.out.below hB5
          clear hB5
          obtain ⟨wq, hwq⟩ : ∃ x, w5.alloc (.cells #[.int .i64 k9, .string ⟨n9.toArray⟩, .int .i64 m9, .int .i64 a9, .slice o9 l9 c9] 29) = x := ⟨_, rfl⟩
          have hBq : Below w5.heap.size w5 wq := by rw [← hwq]; exact below_alloc _ _
          have HNM : Hid (Calls Tryz.prog 109 #[.int .i64 14, tokV t, .slice (some ⟨w5.heap.size, 0, none⟩) 1 1] wq fun e w' => e = .returned (kidV 14 t.text 0 t.at_ (.slice (some ⟨w5.heap.size, 0, none⟩) 1 1)) ∧ Below wq.heap.size wq w') := named_any 14 t (some ⟨w5.heap.size, 0, none⟩) 1 1 wq
          have HQ : Hid (Below w5.heap.size w5 wq ∧ wq.heap[w5.heap.size]? = some (rowObj [.int .i64 k9, .string ⟨n9.toArray⟩, .int .i64 m9, .int .i64 a9, .slice o9 l9 c9])) := ⟨hBq, by rw [← hwq]; exact heap_alloc_new _ _⟩
          clear hBq
          obtain ⟨t0, t1, t2, t3⟩ := tok_cells HKt5.out.1
          obtain ⟨⟨v0, v1, v2, v3, v4⟩, _⟩ := kid_cells HKo5.out.1
          unfold tokV at HNM
          go_wp2_with fail
          refine HNM.out.mono ?_
          rintro e w6 ⟨rfl, hB6⟩
          have hp := HP.out
          have hbb := HBB.out
          have h5 := HS5.out.size
          have hr5 := HKr5.out.lt
          have hB56 : Below w5.heap.size w5 w6 := HQ.out.1.trans (hB6.mono HQ.out.1.size)
          have HP6 : Hid (PP w6 p g cap ts i d full) := HP5.out.below hB56
          have HS6 : Hid (Sole p w w6) := HS5.out.trans (Sole.of_below hB56)
          have HKr6 : Hid (Kep w w6 wa1.heap.size (kidO 0 [] 0 0 (.slice none 0 0))) := HKr5.out.below hB56
          have HL6 : Hid (ListAt (fun b => Mix A0 w.heap.size b ∧ b ≠ wa1.heap.size) w6 [(.node k9 n9 m9 a9 ks9)] (.slice (some ⟨w5.heap.size, 0, none⟩) 1 1)) := by
            refine listAt_lit (below_blk hB6 HQ.out.2) (by simp) ⟨Or.inr (by omega), by omega⟩ (rowV_one ((HT5.out.below hB56).weaken (fun b h => ?_)))
            have h0 := hbb b h
            have := HKr5.out.2
            exact ⟨⟨Or.inl h, by omega⟩, by omega⟩
          clear hB6 hB56 hp hbb h5 hr5 hwq HQ
          unfold kidV
          obtain ⟨⟨z0, z1, z2, z3, z4⟩, ⟨y0, y1, y2, y3, y4⟩⟩ := kid_cells HKr6.out.1
          go_wp2
          have q := res5 w6 wa1.heap.size (.int .i64 14) (.string ⟨t.text.toArray⟩) (.int .i64 0) (.int .i64 t.at_) (.slice (some ⟨w5.heap.size, 0, none⟩) 1 1) z0 z1 z2 z3 z4
          have hf := fin5 (r := wa1.heap.size) (w9 := w6) (k := 14) (n := t.text) (m := 0) (a := t.at_) (sl := (.slice (some ⟨w5.heap.size, 0, none⟩) 1 1)) HKr6.out.2 HS6.out _ rfl
          generalize ((((w6.setCell ⟨wa1.heap.size, 0, none⟩ (.int .i64 14)).setCell ⟨wa1.heap.size, 1, none⟩ (.string ⟨t.text.toArray⟩)).setCell ⟨wa1.heap.size, 2, none⟩ (.int .i64 0)).setCell ⟨wa1.heap.size, 3, none⟩ (.int .i64 t.at_)).setCell ⟨wa1.heap.size, 4, none⟩ (.slice (some ⟨w5.heap.size, 0, none⟩) 1 1) = wz at q hf ⊢
          obtain ⟨q0, q1, q2, q3, q4⟩ := q
          refine bodyPost_ret (v := .agg #[.int .i64 14, .string ⟨t.text.toArray⟩, .int .i64 0, .int .i64 t.at_, (.slice (some ⟨w5.heap.size, 0, none⟩) 1 1)]) (by simp [results, Tryz.results111, go_sem, q0, q1, q2, q3, q4]) rfl ?_
          rw [HR3.out]
          have hr2 := HKr6.out.2
          have hpg := HP.out
          exact ⟨_, _, _, rfl, node_finA HL6.out (fun b h => h.1) (fun b h => h.2) hf.2, rfl, HP6.out.sole_but (by omega) (by omega) hf.2, hf.1⟩
      · rw [hse] at HS60
        have HR3 : Hid (R = listP t (.node k9 n9 m9 a9 ks9) (PSof ts i full)) := by
          show _ = _
          rw [HR2.out, hse, if_pos rfl]
          rfl
        clear hse
        go_wp2_with fail
        refine HS60.out.mono ?_
        rintro e w5 ⟨rfl, hB5⟩
        have HP5 : Hid (PP w5 p g cap ts i d full) := HP4.out.below hB5
        have HS5 : Hid (Sole p w w5) := HS4.out.trans (Sole.of_below hB5)
        have HKo5 : Hid (Kep w w5 w.heap.size (kidO k9 n9 m9 a9 (.slice o9 l9 c9))) := HKo4.out.below hB5
        have HKr5 : Hid (Kep w w5 wa1.heap.size (kidO 0 [] 0 0 (.slice none 0 0))) := HKr4.out.below hB5
        have HKt5 : Hid (Kep w w5 w2.heap.size (tokO t)) := HKt4.out.below hB5
        have HT5 : Hid (TreeAt A0 w5 (.node k9 n9 m9 a9 ks9) (kidV k9 n9 m9 a9 (.slice o9 l9 c9))) := HT4.out.below hB5
        clear hB5
        have HLI : Hid (Calls Tryz.prog 141 #[.pointer (some ⟨p, 0, none⟩), tokV t, (kidV k9 n9 m9 a9 (.slice o9 l9 c9))] w5 (PPost p g cap ts d (mixIs A0 w5.heap.size) (listP t (.node k9 n9 m9 a9 ks9) (PSof ts i full)) w5)) := list_any p g cap ts HE.out i d full t k9 n9 m9 a9 ks9 o9 l9 c9 A0 w5 HP5.out (fun b h => ⟨(HBB.out b h).1, Nat.lt_of_lt_of_le (HBB.out b h).2 HS5.out.size⟩) HT5.out
        obtain ⟨rl, hrl⟩ : ∃ r, listP t (.node k9 n9 m9 a9 ks9) (PSof ts i full) = r := ⟨_, rfl⟩
        have HR4 : Hid (R = rl) := HR3.out.trans hrl
        rw [hrl] at HLI
        clear hrl
        obtain ⟨t0, t1, t2, t3⟩ := tok_cells HKt5.out.1
        obtain ⟨⟨v0, v1, v2, v3, v4⟩, _⟩ := kid_cells HKo5.out.1
        unfold tokV kidV at HLI
        go_wp2_with fail
        refine HLI.out.mono ?_
        cases rl with
        | no why at_ =>
          rintro e w99 ⟨rfl, hS⟩
          have HS99 : Hid (Sole p w w99) := HS5.out.trans hS
          clear hS
          go_wp2
          refine ⟨rfl, ?_⟩
          rw [HR4.out]
          exact ⟨rfl, HS99.out⟩
        | ok tv st =>
          rintro e w6 ⟨v, i, full, rfl, hT, rfl, hP, hS⟩
          obtain ⟨k8, n8, m8, a8, ks8⟩ := tv
          obtain ⟨sl, rfl, hL⟩ := treeAt_node.1 hT
          obtain ⟨o8, l8, c8, rfl⟩ := hL.shape
          have HP6 : Hid (PP w6 p g cap ts i d full) := hP
          have HS6 : Hid (Sole p w w6) := HS5.out.trans hS
          have HKr6 : Hid (Kep w w6 wa1.heap.size (kidO 0 [] 0 0 (.slice none 0 0))) := HKr5.out.sole HP.out.1 hS
          have h5r := HKr5.out.lt
          have h5s := HS5.out.size
          have hr52 := HKr5.out.2
          have hbb := HBB.out
          have HL6 : Hid (ListAt (fun b => Mix A0 w.heap.size b ∧ b ≠ wa1.heap.size) w6 ks8 (.slice o8 l8 c8)) := hL.weaken (fun b h => by
            rcases h with h | h
            · have h0 := hbb b h
              exact ⟨Or.inl h, by omega⟩
            · exact ⟨Or.inr (by omega), by omega⟩)
          clear hP hS hT hL h5r h5s hr52 hbb
          unfold kidV
          obtain ⟨⟨z0, z1, z2, z3, z4⟩, ⟨y0, y1, y2, y3, y4⟩⟩ := kid_cells HKr6.out.1
          go_wp2
          have q := res5 w6 wa1.heap.size (.int .i64 k8) (.string ⟨n8.toArray⟩) (.int .i64 m8) (.int .i64 a8) (.slice o8 l8 c8) z0 z1 z2 z3 z4
          have hf := fin5 (r := wa1.heap.size) (w9 := w6) (k := k8) (n := n8) (m := m8) (a := a8) (sl := (.slice o8 l8 c8)) HKr6.out.2 HS6.out _ rfl
          generalize ((((w6.setCell ⟨wa1.heap.size, 0, none⟩ (.int .i64 k8)).setCell ⟨wa1.heap.size, 1, none⟩ (.string ⟨n8.toArray⟩)).setCell ⟨wa1.heap.size, 2, none⟩ (.int .i64 m8)).setCell ⟨wa1.heap.size, 3, none⟩ (.int .i64 a8)).setCell ⟨wa1.heap.size, 4, none⟩ (.slice o8 l8 c8) = wz at q hf ⊢
          obtain ⟨q0, q1, q2, q3, q4⟩ := q
          refine bodyPost_ret (v := .agg #[.int .i64 k8, .string ⟨n8.toArray⟩, .int .i64 m8, .int .i64 a8, (.slice o8 l8 c8)]) (by simp [results, Tryz.results111, go_sem, q0, q1, q2, q3, q4]) rfl ?_
          rw [HR4.out]
          have hr2 := HKr6.out.2
          have hpg := HP.out
          exact ⟨_, _, _, rfl, node_finA HL6.out (fun b h => h.1) (fun b h => h.2) hf.2, rfl, HP6.out.sole_but (by omega) (by omega) hf.2, hf.1⟩
    · rw [hse] at HS91
      by_cases hk : k9 = 26
      · have HR2 : Hid (R = (if (PSof ts i full).sees [60] then ((PSof ts i full).want [60]).bind fun _ s => if s.sees [62] then (s.want [62]).bind fun _ s => .ok (named 16 t [(.node k9 n9 m9 a9 ks9)]) s else (valueP s).bind fun v s => (s.want [62]).bind fun _ s => .ok (named 16 t [(.node k9 n9 m9 a9 ks9), v]) s else if k9 == 25 || k9 == 26 then (PSof ts i full).bad 40 else .ok (named 14 t [(.node k9 n9 m9 a9 ks9)]) (PSof ts i full))) := by
          show _ = _
          rw [HR1.out]
          show (if _ then _ else _) = _
          rw [if_neg (by simp [hk])]
        clear hse
        have hkn : (k9 != 26) = false := by simp [hk]
        go_wp2_with fail
        clear hw3
        refine HS91.out.mono ?_
        rintro e w4 ⟨rfl, hB4⟩
        have HP4 : Hid (PP w4 p g cap ts i d full) := HP3.out.below hB4
        have HS4 : Hid (Sole p w w4) := HS3.out.trans (Sole.of_below hB4)
        have HKo4 : Hid (Kep w w4 w.heap.size (kidO k9 n9 m9 a9 (.slice o9 l9 c9))) := HKo3.out.below hB4
        have HKr4 : Hid (Kep w w4 wa1.heap.size (kidO 0 [] 0 0 (.slice none 0 0))) := HKr3.out.below hB4
        have HKt4 : Hid (Kep w w4 w2.heap.size (tokO t)) := HKt3.out.below hB4
        have HT4 : Hid (TreeAt A0 w4 (.node k9 n9 m9 a9 ks9) (kidV k9 n9 m9 a9 (.slice o9 l9 c9))) := HT3.out.below hB4
        obtain ⟨⟨u0, u1, u2, u3, u4⟩, _⟩ := kid_cells HKo4.out.1
        clear hB4
        clear hkn
        have hkn : (k9 != 26) = false := by simp [hk]
        clear hk
        have HS60 : Hid (Calls Tryz.prog 75 #[.pointer (some ⟨p, 0, none⟩), .string ⟨#[60]⟩] w4 fun e w' => e = .returned (.bool ((PSof ts i full).sees [60])) ∧ Below w4.heap.size w4 w') := sees_lit p g cap ts i d full [60] w4 HP4.out
        cases hse : (PSof ts i full).sees [60]
        · rw [hse] at HS60
          by_cases hk25 : k9 = 25 ∨ k9 = 26
          · have HR3 : Hid (R = (PSof ts i full).bad 40) := by
              show _ = _
              rw [HR2.out, hse, if_neg (by simp), if_pos (by rcases hk25 with e | e <;> simp [e])]
            clear hse
            by_cases e25 : k9 = 25
            · have hk5 : (k9 == 25) = true := by simp [e25]
              clear hk25 e25
              go_wp2_with fail
              refine HS60.out.mono ?_
              rintro e w5 ⟨rfl, hB5⟩
              have HP5 : Hid (PP w5 p g cap ts i d full) := HP4.out.below hB5
              have HS5 : Hid (Sole p w w5) := HS4.out.trans (Sole.of_below hB5)
              have HKo5 : Hid (Kep w w5 w.heap.size (kidO k9 n9 m9 a9 (.slice o9 l9 c9))) := HKo4.out.below hB5
              have HKr5 : Hid (Kep w w5 wa1.heap.size (kidO 0 [] 0 0 (.slice none 0 0))) := HKr4.out.below hB5
              have HKt5 : Hid (Kep w w5 w2.heap.size (tokO t)) := HKt4.out.below hB5
              have HT5 : Hid (TreeAt A0 w5 (.node k9 n9 m9 a9 ks9) (kidV k9 n9 m9 a9 (.slice o9 l9 c9))) := HT4.out.below hB5
              clear hB5
              have HWR : Hid (Calls Tryz.prog 74 #[.pointer (some ⟨p, 0, none⟩), .int .i64 40] w5 fun e w' => e = .returned (.agg #[.int .i64 40, .int .i64 ((ts[i]'HP5.out.il).at_ : Nat)]) ∧ Below w5.heap.size w5 w') := wrong_any p g cap ts i d 40 full w5 HP5.out
              have HR4 : Hid (R = .no 40 (ts[i]'HP5.out.il).at_) := by
                show _ = _
                rw [HR3.out]
                unfold PS.bad
                rw [PSof_hd ts i full HP5.out.il]
              obtain ⟨⟨v0, v1, v2, v3, v4⟩, _⟩ := kid_cells HKo5.out.1
              go_wp2_with fail
              refine HWR.out.mono ?_
              rintro e w6 ⟨rfl, hB6⟩
              have HS6 : Hid (Sole p w w6) := HS5.out.trans (Sole.of_below hB6)
              clear hB6
              go_wp2
              refine ⟨rfl, ?_⟩
              rw [HR4.out]
              exact ⟨rfl, HS6.out⟩
            · have hk5 : (k9 == 25) = false := by simp [e25]
              have hk6 : (k9 == 26) = true := by rcases hk25 with e | e; exact absurd e e25; simp [e]
              clear hk25 e25
              go_wp2_with fail
              refine HS60.out.mono ?_
              rintro e w5 ⟨rfl, hB5⟩
              have HP5 : Hid (PP w5 p g cap ts i d full) := HP4.out.below hB5
              have HS5 : Hid (Sole p w w5) := HS4.out.trans (Sole.of_below hB5)
              have HKo5 : Hid (Kep w w5 w.heap.size (kidO k9 n9 m9 a9 (.slice o9 l9 c9))) := HKo4.out.below hB5
              have HKr5 : Hid (Kep w w5 wa1.heap.size (kidO 0 [] 0 0 (.slice none 0 0))) := HKr4.out.below hB5
              have HKt5 : Hid (Kep w w5 w2.heap.size (tokO t)) := HKt4.out.below hB5
              have HT5 : Hid (TreeAt A0 w5 (.node k9 n9 m9 a9 ks9) (kidV k9 n9 m9 a9 (.slice o9 l9 c9))) := HT4.out.below hB5
              clear hB5
              have HWR : Hid (Calls Tryz.prog 74 #[.pointer (some ⟨p, 0, none⟩), .int .i64 40] w5 fun e w' => e = .returned (.agg #[.int .i64 40, .int .i64 ((ts[i]'HP5.out.il).at_ : Nat)]) ∧ Below w5.heap.size w5 w') := wrong_any p g cap ts i d 40 full w5 HP5.out
              have HR4 : Hid (R = .no 40 (ts[i]'HP5.out.il).at_) := by
                show _ = _
                rw [HR3.out]
                unfold PS.bad
                rw [PSof_hd ts i full HP5.out.il]
              obtain ⟨⟨v0, v1, v2, v3, v4⟩, _⟩ := kid_cells HKo5.out.1
              go_wp2_with fail
              refine HWR.out.mono ?_
              rintro e w6 ⟨rfl, hB6⟩
              have HS6 : Hid (Sole p w w6) := HS5.out.trans (Sole.of_below hB6)
              clear hB6
              go_wp2
              refine ⟨rfl, ?_⟩
              rw [HR4.out]
              exact ⟨rfl, HS6.out⟩
          · have HR3 : Hid (R = .ok (named 14 t [(.node k9 n9 m9 a9 ks9)]) (PSof ts i full)) := by
              show _ = _
              rw [HR2.out, hse, if_neg (by simp), if_neg (by simp; omega)]
            have hk5 : (k9 == 25) = false := by simp; omega
            have hk6 : (k9 == 26) = false := by simp; omega
            clear hse hk25
            go_wp2_with fail
            refine HS60.out.mono ?_
            rintro e w5 ⟨rfl, hB5⟩
            have HP5 : Hid (PP w5 p g cap ts i d full) := HP4.out.below hB5
            have HS5 : Hid (Sole p w w5) := HS4.out.trans (Sole.of_below hB5)
            have HKo5 : Hid (Kep w w5 w.heap.size (kidO k9 n9 m9 a9 (.slice o9 l9 c9))) := HKo4.out.below hB5
            have HKr5 : Hid (Kep w w5 wa1.heap.size (kidO 0 [] 0 0 (.slice none 0 0))) := HKr4.out.below hB5
            have HKt5 : Hid (Kep w w5 w2.heap.size (tokO t)) := HKt4.out.below hB5
            have HT5 : Hid (TreeAt A0 w5 (.node k9 n9 m9 a9 ks9) (kidV k9 n9 m9 a9 (.slice o9 l9 c9))) := HT4.out.below hB5
            clear hB5
            obtain ⟨wq, hwq⟩ : ∃ x, w5.alloc (.cells #[.int .i64 k9, .string ⟨n9.toArray⟩, .int .i64 m9, .int .i64 a9, .slice o9 l9 c9] 29) = x := ⟨_, rfl⟩
            have hBq : Below w5.heap.size w5 wq := by rw [← hwq]; exact below_alloc _ _
            have HNM : Hid (Calls Tryz.prog 109 #[.int .i64 14, tokV t, .slice (some ⟨w5.heap.size, 0, none⟩) 1 1] wq fun e w' => e = .returned (kidV 14 t.text 0 t.at_ (.slice (some ⟨w5.heap.size, 0, none⟩) 1 1)) ∧ Below wq.heap.size wq w') := named_any 14 t (some ⟨w5.heap.size, 0, none⟩) 1 1 wq
            have HQ : Hid (Below w5.heap.size w5 wq ∧ wq.heap[w5.heap.size]? = some (rowObj [.int .i64 k9, .string ⟨n9.toArray⟩, .int .i64 m9, .int .i64 a9, .slice o9 l9 c9])) := ⟨hBq, by rw [← hwq]; exact heap_alloc_new _ _⟩
            clear hBq
            obtain ⟨t0, t1, t2, t3⟩ := tok_cells HKt5.out.1
            obtain ⟨⟨v0, v1, v2, v3, v4⟩, _⟩ := kid_cells HKo5.out.1
            unfold tokV at HNM
            go_wp2_with fail
            refine HNM.out.mono ?_
            rintro e w6 ⟨rfl, hB6⟩
            have hp := HP.out
            have hbb := HBB.out
            have h5 := HS5.out.size
            have hr5 := HKr5.out.lt
            have hB56 : Below w5.heap.size w5 w6 := HQ.out.1.trans (hB6.mono HQ.out.1.size)
            have HP6 : Hid (PP w6 p g cap ts i d full) := HP5.out.below hB56
            have HS6 : Hid (Sole p w w6) := HS5.out.trans (Sole.of_below hB56)
            have HKr6 : Hid (Kep w w6 wa1.heap.size (kidO 0 [] 0 0 (.slice none 0 0))) := HKr5.out.below hB56
            have HL6 : Hid (ListAt (fun b => Mix A0 w.heap.size b ∧ b ≠ wa1.heap.size) w6 [(.node k9 n9 m9 a9 ks9)] (.slice (some ⟨w5.heap.size, 0, none⟩) 1 1)) := by
              refine listAt_lit (below_blk hB6 HQ.out.2) (by simp) ⟨Or.inr (by omega), by omega⟩ (rowV_one ((HT5.out.below hB56).weaken (fun b h => ?_)))
              have h0 := hbb b h
              have := HKr5.out.2
              exact ⟨⟨Or.inl h, by omega⟩, by omega⟩
            clear hB6 hB56 hp hbb h5 hr5 hwq HQ
            unfold kidV
            obtain ⟨⟨z0, z1, z2, z3, z4⟩, ⟨y0, y1, y2, y3, y4⟩⟩ := kid_cells HKr6.out.1
            go_wp2
            have q := res5 w6 wa1.heap.size (.int .i64 14) (.string ⟨t.text.toArray⟩) (.int .i64 0) (.int .i64 t.at_) (.slice (some ⟨w5.heap.size, 0, none⟩) 1 1) z0 z1 z2 z3 z4
            have hf := fin5 (r := wa1.heap.size) (w9 := w6) (k := 14) (n := t.text) (m := 0) (a := t.at_) (sl := (.slice (some ⟨w5.heap.size, 0, none⟩) 1 1)) HKr6.out.2 HS6.out _ rfl
            generalize ((((w6.setCell ⟨wa1.heap.size, 0, none⟩ (.int .i64 14)).setCell ⟨wa1.heap.size, 1, none⟩ (.string ⟨t.text.toArray⟩)).setCell ⟨wa1.heap.size, 2, none⟩ (.int .i64 0)).setCell ⟨wa1.heap.size, 3, none⟩ (.int .i64 t.at_)).setCell ⟨wa1.heap.size, 4, none⟩ (.slice (some ⟨w5.heap.size, 0, none⟩) 1 1) = wz at q hf ⊢
            obtain ⟨q0, q1, q2, q3, q4⟩ := q
            refine bodyPost_ret (v := .agg #[.int .i64 14, .string ⟨t.text.toArray⟩, .int .i64 0, .int .i64 t.at_, (.slice (some ⟨w5.heap.size, 0, none⟩) 1 1)]) (by simp [results, Tryz.results111, go_sem, q0, q1, q2, q3, q4]) rfl ?_
            rw [HR3.out]
            have hr2 := HKr6.out.2
            have hpg := HP.out
            exact ⟨_, _, _, rfl, node_finA HL6.out (fun b h => h.1) (fun b h => h.2) hf.2, rfl, HP6.out.sole_but (by omega) (by omega) hf.2, hf.1⟩
        · rw [hse] at HS60
          have HR3 : Hid (R = listP t (.node k9 n9 m9 a9 ks9) (PSof ts i full)) := by
            show _ = _
            rw [HR2.out, hse, if_pos rfl]
            rfl
          clear hse
          go_wp2_with fail
          refine HS60.out.mono ?_
          rintro e w5 ⟨rfl, hB5⟩
          have HP5 : Hid (PP w5 p g cap ts i d full) := HP4.out.below hB5
          have HS5 : Hid (Sole p w w5) := HS4.out.trans (Sole.of_below hB5)
          have HKo5 : Hid (Kep w w5 w.heap.size (kidO k9 n9 m9 a9 (.slice o9 l9 c9))) := HKo4.out.below hB5
          have HKr5 : Hid (Kep w w5 wa1.heap.size (kidO 0 [] 0 0 (.slice none 0 0))) := HKr4.out.below hB5
          have HKt5 : Hid (Kep w w5 w2.heap.size (tokO t)) := HKt4.out.below hB5
          have HT5 : Hid (TreeAt A0 w5 (.node k9 n9 m9 a9 ks9) (kidV k9 n9 m9 a9 (.slice o9 l9 c9))) := HT4.out.below hB5
          clear hB5
          have HLI : Hid (Calls Tryz.prog 141 #[.pointer (some ⟨p, 0, none⟩), tokV t, (kidV k9 n9 m9 a9 (.slice o9 l9 c9))] w5 (PPost p g cap ts d (mixIs A0 w5.heap.size) (listP t (.node k9 n9 m9 a9 ks9) (PSof ts i full)) w5)) := list_any p g cap ts HE.out i d full t k9 n9 m9 a9 ks9 o9 l9 c9 A0 w5 HP5.out (fun b h => ⟨(HBB.out b h).1, Nat.lt_of_lt_of_le (HBB.out b h).2 HS5.out.size⟩) HT5.out
          obtain ⟨rl, hrl⟩ : ∃ r, listP t (.node k9 n9 m9 a9 ks9) (PSof ts i full) = r := ⟨_, rfl⟩
          have HR4 : Hid (R = rl) := HR3.out.trans hrl
          rw [hrl] at HLI
          clear hrl
          obtain ⟨t0, t1, t2, t3⟩ := tok_cells HKt5.out.1
          obtain ⟨⟨v0, v1, v2, v3, v4⟩, _⟩ := kid_cells HKo5.out.1
          unfold tokV kidV at HLI
          go_wp2_with fail
          refine HLI.out.mono ?_
          cases rl with
          | no why at_ =>
            rintro e w99 ⟨rfl, hS⟩
            have HS99 : Hid (Sole p w w99) := HS5.out.trans hS
            clear hS
            go_wp2
            refine ⟨rfl, ?_⟩
            rw [HR4.out]
            exact ⟨rfl, HS99.out⟩
          | ok tv st =>
            rintro e w6 ⟨v, i, full, rfl, hT, rfl, hP, hS⟩
            obtain ⟨k8, n8, m8, a8, ks8⟩ := tv
            obtain ⟨sl, rfl, hL⟩ := treeAt_node.1 hT
            obtain ⟨o8, l8, c8, rfl⟩ := hL.shape
            have HP6 : Hid (PP w6 p g cap ts i d full) := hP
            have HS6 : Hid (Sole p w w6) := HS5.out.trans hS
            have HKr6 : Hid (Kep w w6 wa1.heap.size (kidO 0 [] 0 0 (.slice none 0 0))) := HKr5.out.sole HP.out.1 hS
            have h5r := HKr5.out.lt
            have h5s := HS5.out.size
            have hr52 := HKr5.out.2
            have hbb := HBB.out
            have HL6 : Hid (ListAt (fun b => Mix A0 w.heap.size b ∧ b ≠ wa1.heap.size) w6 ks8 (.slice o8 l8 c8)) := hL.weaken (fun b h => by
              rcases h with h | h
              · have h0 := hbb b h
                exact ⟨Or.inl h, by omega⟩
              · exact ⟨Or.inr (by omega), by omega⟩)
            clear hP hS hT hL h5r h5s hr52 hbb
            unfold kidV
            obtain ⟨⟨z0, z1, z2, z3, z4⟩, ⟨y0, y1, y2, y3, y4⟩⟩ := kid_cells HKr6.out.1
            go_wp2
            have q := res5 w6 wa1.heap.size (.int .i64 k8) (.string ⟨n8.toArray⟩) (.int .i64 m8) (.int .i64 a8) (.slice o8 l8 c8) z0 z1 z2 z3 z4
            have hf := fin5 (r := wa1.heap.size) (w9 := w6) (k := k8) (n := n8) (m := m8) (a := a8) (sl := (.slice o8 l8 c8)) HKr6.out.2 HS6.out _ rfl
            generalize ((((w6.setCell ⟨wa1.heap.size, 0, none⟩ (.int .i64 k8)).setCell ⟨wa1.heap.size, 1, none⟩ (.string ⟨n8.toArray⟩)).setCell ⟨wa1.heap.size, 2, none⟩ (.int .i64 m8)).setCell ⟨wa1.heap.size, 3, none⟩ (.int .i64 a8)).setCell ⟨wa1.heap.size, 4, none⟩ (.slice o8 l8 c8) = wz at q hf ⊢
            obtain ⟨q0, q1, q2, q3, q4⟩ := q
            refine bodyPost_ret (v := .agg #[.int .i64 k8, .string ⟨n8.toArray⟩, .int .i64 m8, .int .i64 a8, (.slice o8 l8 c8)]) (by simp [results, Tryz.results111, go_sem, q0, q1, q2, q3, q4]) rfl ?_
            rw [HR4.out]
            have hr2 := HKr6.out.2
            have hpg := HP.out
            exact ⟨_, _, _, rfl, node_finA HL6.out (fun b h => h.1) (fun b h => h.2) hf.2, rfl, HP6.out.sole_but (by omega) (by omega) hf.2, hf.1⟩
      · have hix := HE.out.sees HP3.out.il (t := [91]) (by simp) hse
        obtain ⟨rt, hrt⟩ : ∃ r, (PSof ts i full).take = r := ⟨_, rfl⟩
        have HR2 : Hid (R = rt.bind fun _ s => (valueP s).bind fun v s => (s.want [93]).bind fun _ s => .ok (named 15 t [(.node k9 n9 m9 a9 ks9), v]) s) := by
          show _ = _
          rw [HR1.out, ← hrt]
          show (if _ then _ else _) = _
          rw [if_pos (by simp [hse, hk])]
        clear hse
        have hkn : (k9 != 26) = true := by simp [hk]
        go_wp2_with fail
        clear hw3
        refine HS91.out.mono ?_
        rintro e w4 ⟨rfl, hB4⟩
        have HP4 : Hid (PP w4 p g cap ts i d full) := HP3.out.below hB4
        have HS4 : Hid (Sole p w w4) := HS3.out.trans (Sole.of_below hB4)
        have HKo4 : Hid (Kep w w4 w.heap.size (kidO k9 n9 m9 a9 (.slice o9 l9 c9))) := HKo3.out.below hB4
        have HKr4 : Hid (Kep w w4 wa1.heap.size (kidO 0 [] 0 0 (.slice none 0 0))) := HKr3.out.below hB4
        have HKt4 : Hid (Kep w w4 w2.heap.size (tokO t)) := HKt3.out.below hB4
        have HT4 : Hid (TreeAt A0 w4 (.node k9 n9 m9 a9 ks9) (kidV k9 n9 m9 a9 (.slice o9 l9 c9))) := HT3.out.below hB4
        obtain ⟨⟨u0, u1, u2, u3, u4⟩, _⟩ := kid_cells HKo4.out.1
        clear hB4
        have HTK : Hid (Calls Tryz.prog 69 #[.pointer (some ⟨p, 0, none⟩)] w4 (PPost p g cap ts d tokIs (PSof ts i full).take w4)) := take_any p g cap ts i d full w4 HP4.out hix
        rw [hrt] at HTK
        clear hrt hix hk
        go_wp2_with fail
        refine HTK.out.mono ?_
        cases rt with
        | no why at_ =>
          rintro e w99 ⟨rfl, hS⟩
          have HS99 : Hid (Sole p w w99) := HS4.out.trans hS
          clear hS
          go_wp2
          refine ⟨rfl, ?_⟩
          rw [HR2.out]
          exact ⟨rfl, HS99.out⟩
        | ok tk st =>
          rintro e w5 ⟨v, i, full, rfl, rfl, rfl, hP, hS⟩
          have hp := HP.out.1
          have HVA : Hid (Calls Tryz.prog 140 #[.pointer (some ⟨p, 0, none⟩)] w5 (PPost p g cap ts d (treeIs w5.heap.size) (valueP (PSof ts i full)) w5)) := value_any p g cap ts HE.out i d full w5 hP
          have HS5 : Hid (Sole p w w5) := HS4.out.trans hS
          have HKo5 : Hid (Kep w w5 w.heap.size (kidO k9 n9 m9 a9 (.slice o9 l9 c9))) := HKo4.out.sole hp hS
          have HKr5 : Hid (Kep w w5 wa1.heap.size (kidO 0 [] 0 0 (.slice none 0 0))) := HKr4.out.sole hp hS
          have HKt5 : Hid (Kep w w5 w2.heap.size (tokO t)) := HKt4.out.sole hp hS
          have HT5 : Hid (TreeAt A0 w5 (.node k9 n9 m9 a9 ks9) (kidV k9 n9 m9 a9 (.slice o9 l9 c9))) := HT4.out.sole (fun b h => (HBB.out b h).1) hS
          obtain ⟨rv, hrv⟩ : ∃ r, valueP (PSof ts i full) = r := ⟨_, rfl⟩
          have HR3 : Hid (R = rv.bind fun v s => (s.want [93]).bind fun _ s => .ok (named 15 t [(.node k9 n9 m9 a9 ks9), v]) s) := by
            show _ = _
            rw [HR2.out, ← hrv]; rfl
          rw [hrv] at HVA
          clear hP hS hp hrv
          unfold tokV
          go_wp2_with fail
          refine HVA.out.mono ?_
          cases rv with
          | no why at_ =>
            rintro e w99 ⟨rfl, hS⟩
            have HS99 : Hid (Sole p w w99) := HS5.out.trans hS
            clear hS
            go_wp2
            refine ⟨rfl, ?_⟩
            rw [HR3.out]
            exact ⟨rfl, HS99.out⟩
          | ok tv st =>
            rintro e w6 ⟨v, i, full, rfl, hT, rfl, hP, hS⟩
            obtain ⟨k8, n8, m8, a8, ks8⟩ := tv
            obtain ⟨sl, rfl, hL⟩ := treeAt_node.1 hT
            obtain ⟨o8, l8, c8, rfl⟩ := hL.shape
            have hp := HP.out.1
            obtain ⟨w7, hw7⟩ : ∃ x, w6.alloc (.cells #[.int .i64 k8, .string ⟨n8.toArray⟩, .int .i64 m8, .int .i64 a8, .slice o8 l8 c8] 29) = x := ⟨_, rfl⟩
            have hB7 : Below w6.heap.size w6 w7 := by rw [← hw7]; exact below_alloc _ _
            have hs6 : Sole p w w6 := HS5.out.trans hS
            have HP7 : Hid (PP w7 p g cap ts i d full) := hP.below hB7
            have HS7 : Hid (Sole p w w7) := hs6.trans (Sole.of_below hB7)
            have HKo7 : Hid (Kep w w7 w.heap.size (kidO k9 n9 m9 a9 (.slice o9 l9 c9))) := (HKo5.out.sole hp hS).below hB7
            have HKr7 : Hid (Kep w w7 wa1.heap.size (kidO 0 [] 0 0 (.slice none 0 0))) := (HKr5.out.sole hp hS).below hB7
            have HKt7 : Hid (Kep w w7 w2.heap.size (tokO t)) := (HKt5.out.sole hp hS).below hB7
            have HKv7 : Hid (Kep w w7 w6.heap.size (kidO k8 n8 m8 a8 (.slice o8 l8 c8))) := by show Kep w w7 _ _; rw [← hw7]; exact Kep.new hs6.size _
            have HT7 : Hid (TreeAt A0 w7 (.node k9 n9 m9 a9 ks9) (kidV k9 n9 m9 a9 (.slice o9 l9 c9))) := (HT5.out.sole (fun b h => (HBB.out b h).1) hS).below hB7
            have HV7 : Hid (TreeAt (Fresh w5.heap.size) w7 (.node k8 n8 m8 a8 ks8) (kidV k8 n8 m8 a8 (.slice o8 l8 c8))) := TreeAt.below hT hB7
            have HLE : Hid (wa1.heap.size < w5.heap.size ∧ w.heap.size ≤ w5.heap.size ∧ w5.heap.size ≤ w6.heap.size ∧ w6.heap.size < w7.heap.size) := ⟨HKr5.out.lt, HS5.out.size, hS.size, by rw [← hw7]; simp⟩
            clear hP hS hp hB7 hs6 hT hL
            unfold kidV
            have HWA : Hid (Calls Tryz.prog 41 #[.pointer (some ⟨p, 0, none⟩), .slice (some ⟨w7.heap.size, 0, none⟩) 1 1] (w7.alloc (.cells #[.string ⟨#[93]⟩] 9)) (PPost p g cap ts d unitIs ((PSof ts i full).want [93]) w7)) := want_one p g cap ts HE.out i d full [93] (by simp) w7 HP7.out
            obtain ⟨ru, hru⟩ : ∃ r, (PSof ts i full).want [93] = r := ⟨_, rfl⟩
            have HR4 : Hid (R = ru.bind fun _ s => .ok (named 15 t [(.node k9 n9 m9 a9 ks9), (.node k8 n8 m8 a8 ks8)]) s) := by
              show _ = _
              rw [HR3.out]; first | (rw [← hru]; done) | (rw [← hru]; rfl)
            rw [hru] at HWA
            clear hru
            go_wp2_with fail
            refine HWA.out.mono ?_
            clear hw7
            cases ru with
            | no why at_ =>
              rintro e w99 ⟨rfl, hS⟩
              have HS99 : Hid (Sole p w w99) := HS7.out.trans hS
              clear hS
              go_wp2
              refine ⟨rfl, ?_⟩
              rw [HR4.out]
              exact ⟨rfl, HS99.out⟩
            | ok u st =>
              rintro e w8 ⟨v, i, full, rfl, rfl, rfl, hP, hS⟩
              have hp := HP.out.1
              have HP8 : Hid (PP w8 p g cap ts i d full) := hP
              have HS8 : Hid (Sole p w w8) := HS7.out.trans hS
              have HKr8 : Hid (Kep w w8 wa1.heap.size (kidO 0 [] 0 0 (.slice none 0 0))) := HKr7.out.sole hp hS
              have HT8 : Hid (TreeAt A0 w8 (.node k9 n9 m9 a9 ks9) (kidV k9 n9 m9 a9 (.slice o9 l9 c9))) := HT7.out.sole (fun b h => (HBB.out b h).1) hS
              have HV8 : Hid (TreeAt (Fresh w5.heap.size) w8 (.node k8 n8 m8 a8 ks8) (kidV k8 n8 m8 a8 (.slice o8 l8 c8))) := HV7.out.sole (fun b h => by have h1 : w5.heap.size ≤ b := h; have := HLE.out; omega) hS
              have HL8 : Hid (w7.heap.size ≤ w8.heap.size) := hS.size
              obtain ⟨t0, t1, t2, t3⟩ := tok_cells (HKt7.out.sole hp hS).1
              obtain ⟨⟨v0, v1, v2, v3, v4⟩, _⟩ := kid_cells (HKo7.out.sole hp hS).1
              obtain ⟨⟨x0, x1, x2, x3, x4⟩, _⟩ := kid_cells (HKv7.out.sole hp hS).1
              obtain ⟨wq, hwq⟩ : ∃ x, w8.alloc (.cells #[.int .i64 k9, .string ⟨n9.toArray⟩, .int .i64 m9, .int .i64 a9, .slice o9 l9 c9, .int .i64 k8, .string ⟨n8.toArray⟩, .int .i64 m8, .int .i64 a8, .slice o8 l8 c8] 29) = x := ⟨_, rfl⟩
              have hBq : Below w8.heap.size w8 wq := by rw [← hwq]; exact below_alloc _ _
              have HNM : Hid (Calls Tryz.prog 109 #[.int .i64 15, tokV t, .slice (some ⟨w8.heap.size, 0, none⟩) 2 2] wq fun e w' => e = .returned (kidV 15 t.text 0 t.at_ (.slice (some ⟨w8.heap.size, 0, none⟩) 2 2)) ∧ Below wq.heap.size wq w') := named_any 15 t (some ⟨w8.heap.size, 0, none⟩) 2 2 wq
              have HQ : Hid (Below w8.heap.size w8 wq ∧ wq.heap[w8.heap.size]? = some (rowObj [.int .i64 k9, .string ⟨n9.toArray⟩, .int .i64 m9, .int .i64 a9, .slice o9 l9 c9, .int .i64 k8, .string ⟨n8.toArray⟩, .int .i64 m8, .int .i64 a8, .slice o8 l8 c8])) := ⟨hBq, by rw [← hwq]; exact heap_alloc_new _ _⟩
              clear hP hS hp hBq
              unfold tokV at HNM
              go_wp2_with fail
              refine HNM.out.mono ?_
              rintro e w9 ⟨rfl, hB9⟩
              have hbb := HBB.out
              have hle := HLE.out
              have h78 := HL8.out
              have hr82 := HKr8.out.2
              have hB89 : Below w8.heap.size w8 w9 := HQ.out.1.trans (hB9.mono HQ.out.1.size)
              have HP9 : Hid (PP w9 p g cap ts i d full) := HP8.out.below hB89
              have HS9 : Hid (Sole p w w9) := HS8.out.trans (Sole.of_below hB89)
              have HKr9 : Hid (Kep w w9 wa1.heap.size (kidO 0 [] 0 0 (.slice none 0 0))) := HKr8.out.below hB89
              have HL9 : Hid (ListAt (fun b => Mix A0 w.heap.size b ∧ b ≠ wa1.heap.size) w9 [(.node k9 n9 m9 a9 ks9), (.node k8 n8 m8 a8 ks8)] (.slice (some ⟨w8.heap.size, 0, none⟩) 2 2)) := by
                refine listAt_lit (below_blk hB9 HQ.out.2) (by simp) ⟨Or.inr (by omega), by omega⟩ (RowV.append [_] [_] _ _ (rowV_one ((HT8.out.below hB89).weaken (fun b h => ?_))) (rowV_one ((TreeAt.below (TreeAt.there _ _ HV8.out) hB89).weaken (fun b h => ?_))))
                · have h0 := hbb b h
                  exact ⟨⟨Or.inl h, by omega⟩, by omega⟩
                · have h1 : w5.heap.size ≤ b := h.1
                  exact ⟨⟨Or.inr (by omega), by omega⟩, by omega⟩
              clear hB9 hB89 hbb hle h78 hr82 hwq HQ
              unfold kidV
              obtain ⟨⟨z0, z1, z2, z3, z4⟩, ⟨y0, y1, y2, y3, y4⟩⟩ := kid_cells HKr9.out.1
              go_wp2
              have q := res5 w9 wa1.heap.size (.int .i64 15) (.string ⟨t.text.toArray⟩) (.int .i64 0) (.int .i64 t.at_) (.slice (some ⟨w8.heap.size, 0, none⟩) 2 2) z0 z1 z2 z3 z4
              have hf := fin5 (r := wa1.heap.size) (w9 := w9) (k := 15) (n := t.text) (m := 0) (a := t.at_) (sl := (.slice (some ⟨w8.heap.size, 0, none⟩) 2 2)) HKr9.out.2 HS9.out _ rfl
              generalize ((((w9.setCell ⟨wa1.heap.size, 0, none⟩ (.int .i64 15)).setCell ⟨wa1.heap.size, 1, none⟩ (.string ⟨t.text.toArray⟩)).setCell ⟨wa1.heap.size, 2, none⟩ (.int .i64 0)).setCell ⟨wa1.heap.size, 3, none⟩ (.int .i64 t.at_)).setCell ⟨wa1.heap.size, 4, none⟩ (.slice (some ⟨w8.heap.size, 0, none⟩) 2 2) = wz at q hf ⊢
              obtain ⟨q0, q1, q2, q3, q4⟩ := q
              refine bodyPost_ret (v := .agg #[.int .i64 15, .string ⟨t.text.toArray⟩, .int .i64 0, .int .i64 t.at_, (.slice (some ⟨w8.heap.size, 0, none⟩) 2 2)]) (by simp [results, Tryz.results111, go_sem, q0, q1, q2, q3, q4]) rfl ?_
              rw [HR4.out]
              have hr2 := HKr9.out.2
              have hpg := HP.out
              exact ⟨_, _, _, rfl, node_finA HL9.out (fun b h => h.1) (fun b h => h.2) hf.2, rfl, HP9.out.sole_but (by omega) (by omega) hf.2, hf.1⟩

end Go.Proofs.YteokdknaadckbaaGreatDoor
