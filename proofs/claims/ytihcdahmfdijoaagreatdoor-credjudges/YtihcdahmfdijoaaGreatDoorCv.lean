/- awake: the chapter's examples, true. -/
import Derived.Test.YtihcdahmfdijoaaGreatDoorCs
import Derived.Test.YtihcdahmfdijoaaGreatDoorCu
namespace Go.Proofs.YtihcdahmfdijoaaGreatDoor
open Go.RowKit
def mkM : MarkP := ⟨5, 9, 8, knS⟩
theorem kn_may : knS.may := by decide
theorem mk_may : mkM.may := by decide
theorem aw1 : printS knS = some knS.body := if_pos kn_may
theorem aw2 : printM mkM = some mkM.body := if_pos mk_may
theorem aw3 : psP 1 knS.body = (knS, 0) := by unfold psP; rw [if_neg (by simp), (readS_iff _ _).2 ⟨kn_may, rfl⟩]
theorem aw4 : psP 1296126539 mkM.body = (nulS, 112) := by unfold psP; rw [if_pos (by decide)]
theorem aw5 : pmP 1296126539 mkM.body = (mkM, 0) := by unfold pmP; rw [if_neg (by simp), (readM_iff _ _).2 ⟨mk_may, rfl⟩]
theorem nob0 : nob 0 ⟨([] : List UInt8).toArray⟩ = true := by kernel_rfl
theorem aw6 : jP 9 1296126539 mkM.body 0 [] = (mkM, true, 0) := by
  have e : jcP 1296126539 mkM.body 9 = (mkM, true, 0) := by unfold jcP; rw [if_neg (by decide), if_neg (by decide), if_pos rfl, aw5]; rfl
  unfold jP
  rw [e, if_pos rfl, if_pos nob0]
theorem aw7 : jP 8 1296126539 mkM.body 0 [] = (nulM, false, 1) := by
  have e : jcP 1296126539 mkM.body 8 = (mkM, true, 1) := by unfold jcP; rw [if_neg (by decide), if_neg (by decide), if_pos rfl, aw5]; rfl
  unfold jP
  rw [e, if_neg (by decide)]
theorem aw8 : jP 0 2 [] 0 [] = (nulM, false, 2) := by
  have e : jcP 2 [] 0 = (nulM, false, 2) := by unfold jcP; rw [if_neg (by decide), if_neg (by decide), if_neg (by decide)]
  unfold jP
  rw [e, if_neg (by decide)]
theorem len28 : knS.body.length = 28 := by decide
theorem len52 : mkM.body.length = 52 := by decide
theorem drop24 : (⟨mkM.body.toArray⟩ : ByteArray).extract 24 52 = ⟨knS.body.toArray⟩ := by kernel_rfl
set_option maxRecDepth 8000 in
set_option maxHeartbeats 4000000 in
theorem awake_any (w : World) (hT : ErrT w) : Calls Tryz.prog 6 #[] w fun e w' => e = .returned (.bool true) ∧ Below w.heap.size w w' := by
  have HK := hid known_any
  have H1 : Hid (∀ g w, ErrT w → GsAt w w.heap.size (some ⟨g, 0, none⟩) [3] → Calls Tryz.prog 17 #[.agg #[.int .i64 7, .string ⟨#[97, 98]⟩, .int .i64 1, .int .i64 2, .slice (some ⟨g, 0, none⟩) 1 1]] w fun e w' => e = .returned (.tuple #[.agg #[.int .i64 1, .string ⟨knS.body.toArray⟩], .int .i64 0]) ∧ Below w.heap.size w w') := fun g w hT hg => by
    have := printSys_any knS (some ⟨g, 0, none⟩) 1 w hT hg (by decide) (by decide)
    rw [aw1] at this
    exact this
  have H2 : Hid (∀ g w, ErrT w → GsAt w w.heap.size (some ⟨g, 0, none⟩) [3] → Calls Tryz.prog 19 #[.agg #[.int .i64 5, .int .i64 9, .int .i64 8, .int .i64 7, .string ⟨#[97, 98]⟩, .int .i64 1, .int .i64 2, .slice (some ⟨g, 0, none⟩) 1 1]] w fun e w' => e = .returned (.tuple #[.agg #[.int .i64 1296126539, .string ⟨mkM.body.toArray⟩], .int .i64 0]) ∧ Below w.heap.size w w') := fun g w hT hg => by
    have := printMark_any mkM (some ⟨g, 0, none⟩) 1 w hT hg (by decide) (by decide)
    rw [aw2] at this
    exact this
  have H3 : Hid (∀ w, ErrT w → Calls Tryz.prog 7 #[.agg #[.int .i64 1, .string ⟨knS.body.toArray⟩]] w fun e w' => (∃ a cap, e = .returned (.tuple #[.agg #[.int .i64 7, .string ⟨#[97, 98]⟩, .int .i64 1, .int .i64 2, .slice a 1 cap], .int .i64 0])) ∧ Below w.heap.size w w') := fun w hT => by
    have := parseSys_any 1 knS.body w hT (by rw [len28]; decide)
    rw [aw3] at this
    refine this.mono fun e w' hp => ?_
    obtain ⟨a, cap, h1, _, h3⟩ := hp
    exact ⟨⟨a, cap, h1⟩, h3⟩
  have H4 : Hid (∀ w, ErrT w → Calls Tryz.prog 7 #[.agg #[.int .i64 1296126539, .string ⟨mkM.body.toArray⟩]] w fun e w' => (∃ a cap, e = .returned (.tuple #[.agg #[.int .i64 0, .string ⟨#[]⟩, .int .i64 0, .int .i64 0, .slice a 0 cap], .int .i64 112])) ∧ Below w.heap.size w w') := fun w hT => by
    have := parseSys_any 1296126539 mkM.body w hT (by rw [len52]; decide)
    rw [aw4] at this
    refine this.mono fun e w' hp => ?_
    obtain ⟨a, cap, h1, _, h3⟩ := hp
    exact ⟨⟨a, cap, h1⟩, h3⟩
  have H5 : Hid (∀ w, ErrT w → Calls Tryz.prog 15 #[.agg #[.int .i64 9, .int .i64 0, .int .i64 0, .int .i64 0, .int .i64 0, .int .i64 1296126539, .string ⟨mkM.body.toArray⟩, .int .i64 0, .string ⟨#[]⟩, .string ⟨#[]⟩]] w fun e w' => (∃ a cap, e = .returned (.tuple #[.agg #[.int .i64 5, .int .i64 9, .int .i64 8, .int .i64 7, .string ⟨#[97, 98]⟩, .int .i64 1, .int .i64 2, .slice a 1 cap], .bool true, .int .i64 0])) ∧ Below w.heap.size w w') := fun w hT => by
    have := judge_any 9 0 0 0 0 1296126539 0 mkM.body [] ⟨#[]⟩ w hT (by rw [len52]; decide)
    rw [aw6] at this
    refine this.mono fun e w' hp => ?_
    obtain ⟨a, cap, h1, _, h3⟩ := hp
    exact ⟨⟨a, cap, h1⟩, h3⟩
  have H6 : Hid (∀ w, ErrT w → Calls Tryz.prog 15 #[.agg #[.int .i64 8, .int .i64 0, .int .i64 0, .int .i64 0, .int .i64 0, .int .i64 1296126539, .string ⟨mkM.body.toArray⟩, .int .i64 0, .string ⟨#[]⟩, .string ⟨#[]⟩]] w fun e w' => (∃ a cap, e = .returned (.tuple #[.agg #[.int .i64 0, .int .i64 0, .int .i64 0, .int .i64 0, .string ⟨#[]⟩, .int .i64 0, .int .i64 0, .slice a 0 cap], .bool false, .int .i64 1])) ∧ Below w.heap.size w w') := fun w hT => by
    have := judge_any 8 0 0 0 0 1296126539 0 mkM.body [] ⟨#[]⟩ w hT (by rw [len52]; decide)
    rw [aw7] at this
    refine this.mono fun e w' hp => ?_
    obtain ⟨a, cap, h1, _, h3⟩ := hp
    exact ⟨⟨a, cap, h1⟩, h3⟩
  have H7 : Hid (∀ w, ErrT w → Calls Tryz.prog 15 #[.agg #[.int .i64 0, .int .i64 0, .int .i64 0, .int .i64 0, .int .i64 0, .int .i64 2, .string ⟨#[]⟩, .int .i64 0, .string ⟨#[]⟩, .string ⟨#[]⟩]] w fun e w' => (∃ a cap, e = .returned (.tuple #[.agg #[.int .i64 0, .int .i64 0, .int .i64 0, .int .i64 0, .string ⟨#[]⟩, .int .i64 0, .int .i64 0, .slice a 0 cap], .bool false, .int .i64 2])) ∧ Below w.heap.size w w') := fun w hT => by
    have := judge_any 0 0 0 0 0 2 0 [] [] ⟨#[]⟩ w hT (by decide)
    rw [aw8] at this
    refine this.mono fun e w' hp => ?_
    obtain ⟨a, cap, h1, _, h3⟩ := hp
    exact ⟨⟨a, cap, h1⟩, h3⟩
  have l28 := len28
  have l52 := len52
  have d24 := drop24
  generalize knS.body = KB at *
  generalize mkM.body = MB at *
  have HT := hid hT
  clear hT
  go_enter Tryz.func6, Tryz.ntmps6
  go_wp2_with fail
  refine (HK.out _).mono ?_
  rintro e w1 ⟨⟨g1, rfl, hg1⟩, hB1⟩
  have HB1 := hid hB1
  have HG1 := hid hg1
  clear hB1 hg1
  go_wp2_with fail
  refine (H1.out g1 _ (HT.out.below HB1.out) HG1.out).mono ?_
  rintro e w2 ⟨rfl, hB2⟩
  have HB2 : Hid (Below w.heap.size w w2) := HB1.out.trans (hB2.mono HB1.out.size)
  obtain ⟨w3, hw3⟩ : ∃ x, w2.alloc (.cells #[.int .i64 1, .string ⟨KB.toArray⟩] 23) = x := ⟨_, rfl⟩
  have HA3 : Hid (Bk w3 w2.heap.size [.int .i64 1, .string ⟨KB.toArray⟩] 23) := by rw [← hw3]; exact Bk.new _ _ _
  have HB3 : Hid (Below w.heap.size w w3) := HB2.out.trans (by rw [← hw3]; exact (below_new _ _).mono HB2.out.size)
  clear hB2
  go_wp2_with fail
  refine (HK.out _).mono ?_
  rintro e w4 ⟨⟨g4, rfl, hg4⟩, hB4⟩
  have HB4 : Hid (Below w.heap.size w w4) := HB3.out.trans (hB4.mono HB3.out.size)
  have HG4 := hid hg4
  have HA4 := hid (HA3.out.below hB4 HA3.out.lt)
  clear hB4 hg4 hw3
  go_wp2_with fail
  refine (H2.out g4 _ (HT.out.below HB4.out) HG4.out).mono ?_
  rintro e w5 ⟨rfl, hB5⟩
  have HB5 : Hid (Below w.heap.size w w5) := HB4.out.trans (hB5.mono HB4.out.size)
  obtain ⟨w6, hw6⟩ : ∃ x, w5.alloc (.cells #[.int .i64 1296126539, .string ⟨MB.toArray⟩] 23) = x := ⟨_, rfl⟩
  have h56 : Below w5.heap.size w5 w6 := by rw [← hw6]; exact below_new _ _
  have HD6 : Hid (Bk w6 w5.heap.size [.int .i64 1296126539, .string ⟨MB.toArray⟩] 23) := by rw [← hw6]; exact Bk.new _ _ _
  have HA5 := hid (HA4.out.below hB5 HA4.out.lt)
  have HA6 := hid (HA5.out.below h56 HA5.out.lt)
  have HB6 : Hid (Below w.heap.size w w6) := HB5.out.trans (h56.mono HB5.out.size)
  clear hB5 h56
  have a0 := HA6.out.cell 0 rfl
  have a1 := HA6.out.cell 1 rfl
  go_wp2_with fail
  refine (H3.out _ (HT.out.below HB6.out)).mono ?_
  rintro e w7 ⟨⟨oa7, cap7, rfl⟩, hB7⟩
  have HB7 : Hid (Below w.heap.size w w7) := HB6.out.trans (hB7.mono HB6.out.size)
  obtain ⟨w8, hw8⟩ : ∃ x, w7.alloc (.cells #[.int .i64 7, .string ⟨#[97, 98]⟩, .int .i64 1, .int .i64 2, .slice oa7 1 cap7] 30) = x := ⟨_, rfl⟩
  have h78 : Below w7.heap.size w7 w8 := by rw [← hw8]; exact below_new _ _
  have HS8 : Hid (Bk w8 w7.heap.size [.int .i64 7, .string ⟨#[97, 98]⟩, .int .i64 1, .int .i64 2, .slice oa7 1 cap7] 30) := by rw [← hw8]; exact Bk.new _ _ _
  have HA7 := hid (HA6.out.below hB7 HA6.out.lt)
  have HD7 := hid (HD6.out.below hB7 HD6.out.lt)
  have HA8 := hid (HA7.out.below h78 HA7.out.lt)
  have HD8 := hid (HD7.out.below h78 HD7.out.lt)
  have HB8 : Hid (Below w.heap.size w w8) := HB7.out.trans (h78.mono HB7.out.size)
  clear hB7 h78 hw6 a0 a1
  have a0 := HD8.out.cell 0 rfl
  have a1 := HD8.out.cell 1 rfl
  go_wp2_with fail
  refine (H4.out _ (HT.out.below HB8.out)).mono ?_
  rintro e w9 ⟨⟨oa9, cap9, rfl⟩, hB9⟩
  have HB9 : Hid (Below w.heap.size w w9) := HB8.out.trans (hB9.mono HB8.out.size)
  obtain ⟨wa, hwa⟩ : ∃ x, w9.alloc (.cells #[.int .i64 0, .string ⟨#[]⟩, .int .i64 0, .int .i64 0, .slice oa9 0 cap9] 30) = x := ⟨_, rfl⟩
  have h9a : Below w9.heap.size w9 wa := by rw [← hwa]; exact below_new _ _
  have HA9 := hid (HA8.out.below hB9 HA8.out.lt)
  have HD9 := hid (HD8.out.below hB9 HD8.out.lt)
  have HS9 := hid (HS8.out.below hB9 HS8.out.lt)
  have HAa := hid (HA9.out.below h9a HA9.out.lt)
  have HDa := hid (HD9.out.below h9a HD9.out.lt)
  have HSa := hid (HS9.out.below h9a HS9.out.lt)
  have HBa : Hid (Below w.heap.size w wa) := HB9.out.trans (h9a.mono HB9.out.size)
  clear hB9 h9a hw8 a0 a1
  have a0 := HDa.out.cell 0 rfl
  have a1 := HDa.out.cell 1 rfl
  go_wp2_with fail
  refine (H5.out _ (HT.out.below HBa.out)).mono ?_
  rintro e wb ⟨⟨oab, capb, rfl⟩, hBb⟩
  have HBb : Hid (Below w.heap.size w wb) := HBa.out.trans (hBb.mono HBa.out.size)
  obtain ⟨wc, hwc⟩ : ∃ x, wb.alloc (.cells #[.int .i64 5, .int .i64 9, .int .i64 8, .int .i64 7, .string ⟨#[97, 98]⟩, .int .i64 1, .int .i64 2, .slice oab 1 capb] 35) = x := ⟨_, rfl⟩
  have hbc : Below wb.heap.size wb wc := by rw [← hwc]; exact below_new _ _
  have HMc : Hid (Bk wc wb.heap.size [.int .i64 5, .int .i64 9, .int .i64 8, .int .i64 7, .string ⟨#[97, 98]⟩, .int .i64 1, .int .i64 2, .slice oab 1 capb] 35) := by rw [← hwc]; exact Bk.new _ _ _
  have HAb := hid (HAa.out.below hBb HAa.out.lt)
  have HDb := hid (HDa.out.below hBb HDa.out.lt)
  have HSb := hid (HSa.out.below hBb HSa.out.lt)
  have HAc := hid (HAb.out.below hbc HAb.out.lt)
  have HDc := hid (HDb.out.below hbc HDb.out.lt)
  have HSc := hid (HSb.out.below hbc HSb.out.lt)
  have HBc : Hid (Below w.heap.size w wc) := HBb.out.trans (hbc.mono HBb.out.size)
  clear hBb hbc hwa a0 a1
  have a0 := HDc.out.cell 0 rfl
  have a1 := HDc.out.cell 1 rfl
  go_wp2_with fail
  refine (H6.out _ (HT.out.below HBc.out)).mono ?_
  rintro e wd ⟨⟨oad, capd, rfl⟩, hBd⟩
  have HBd : Hid (Below w.heap.size w wd) := HBc.out.trans (hBd.mono HBc.out.size)
  obtain ⟨we, hwe⟩ : ∃ x, wd.alloc (.cells #[.int .i64 0, .int .i64 0, .int .i64 0, .int .i64 0, .string ⟨#[]⟩, .int .i64 0, .int .i64 0, .slice oad 0 capd] 35) = x := ⟨_, rfl⟩
  have hde : Below wd.heap.size wd we := by rw [← hwe]; exact below_new _ _
  have HAd := hid (HAc.out.below hBd HAc.out.lt)
  have HDd := hid (HDc.out.below hBd HDc.out.lt)
  have HSd := hid (HSc.out.below hBd HSc.out.lt)
  have HMd := hid (HMc.out.below hBd HMc.out.lt)
  have HAe := hid (HAd.out.below hde HAd.out.lt)
  have HDe := hid (HDd.out.below hde HDd.out.lt)
  have HSe := hid (HSd.out.below hde HSd.out.lt)
  have HMe := hid (HMd.out.below hde HMd.out.lt)
  have HBe : Hid (Below w.heap.size w we) := HBd.out.trans (hde.mono HBd.out.size)
  clear hBd hde hwc a0 a1
  go_wp2_with fail
  refine (H7.out _ (HT.out.below HBe.out)).mono ?_
  rintro e wf ⟨⟨oaf, capf, rfl⟩, hBf⟩
  have HBf : Hid (Below w.heap.size w wf) := HBe.out.trans (hBf.mono HBe.out.size)
  obtain ⟨wg, hwg⟩ : ∃ x, wf.alloc (.cells #[.int .i64 0, .int .i64 0, .int .i64 0, .int .i64 0, .string ⟨#[]⟩, .int .i64 0, .int .i64 0, .slice oaf 0 capf] 35) = x := ⟨_, rfl⟩
  have hfg : Below wf.heap.size wf wg := by rw [← hwg]; exact below_new _ _
  have HAf := hid (HAe.out.below hBf HAe.out.lt)
  have HDf := hid (HDe.out.below hBf HDe.out.lt)
  have HSf := hid (HSe.out.below hBf HSe.out.lt)
  have HMf := hid (HMe.out.below hBf HMe.out.lt)
  have HAg := hid (HAf.out.below hfg HAf.out.lt)
  have HDg := hid (HDf.out.below hfg HDf.out.lt)
  have HSg := hid (HSf.out.below hfg HSf.out.lt)
  have HMg := hid (HMf.out.below hfg HMf.out.lt)
  have HBg : Hid (Below w.heap.size w wg) := HBf.out.trans (hfg.mono HBf.out.size)
  clear hBf hfg hwe
  have a0 := HAg.out.cell 0 rfl
  have a1 := HAg.out.cell 1 rfl
  have b1 := HDg.out.cell 1 rfl
  have s1 := HSg.out.cell 1 rfl
  have s4 := HSg.out.cell 4 rfl
  have m1 := HMg.out.cell 1 rfl
  have m2 := HMg.out.cell 2 rfl
  go_wp2_with fail
  go_quiet (fail)
  go_wp2
  go_ret
  exact ⟨rfl, below_drew HBg.out _⟩
end Go.Proofs.YtihcdahmfdijoaaGreatDoor
