/- The program's parser: an arm of a union. -/
import Derived.Test.YteokdknaadckbaaGreatDoorPart06
namespace Go.Proofs.YteokdknaadckbaaGreatDoor
open Go.RowKit

theorem ans_assoc {α β γ : Type} (r : Ans α) (f : α → PS → Ans β) (k : β → PS → Ans γ) : (r.bind f).bind k = r.bind fun a s => (f a s).bind k := by cases r <;> rfl

set_option maxHeartbeats 4000000 in
set_option maxRecDepth 4000 in
theorem arm_any (p g cap : Nat) (ts : List Tok) (hE : Ends ts) (d : Int) (B : PS → Ans Tree) (hF : Keeps p g cap ts d 145 (fieldP B)) : Keeps p g cap ts d 147 (armP B) := by
  intro i0 full0 w h hba
  have HP : Hid (p < w.heap.size ∧ g < w.heap.size) := ⟨h.plt, h.glt⟩
  have HE : Hid (Ends ts) := hE
  have HBA : Hid (BareAt p w) := hba
  have HF : Hid (Keeps p g cap ts d 145 (fieldP B)) := hF
  have H : Hid (PP w p g cap ts i0 d full0) := h
  obtain ⟨tk, htk⟩ : ∃ x, ts[i0]'h.il = x := ⟨_, rfl⟩
  obtain ⟨AT, hAT⟩ : ∃ x, tk.at_ = x := ⟨_, rfl⟩
  obtain ⟨R, hR⟩ : ∃ R, armP B (PSof ts i0 full0) = R := ⟨_, rfl⟩
  rw [hR]
  have HR0 : Hid (R = (casesP (66 - 0) [] (PSof ts i0 full0)).bind fun l s => (fieldP B s).bind fun t s => Ans.ok (Tree.node 8 [] 0 AT (l ++ [t])) s) := by
    show _ = _
    rw [← hR, ← hAT, ← htk]
    unfold armP
    rw [PSof_hd ts i0 full0 h.il]
  obtain ⟨wa, hwa⟩ : ∃ x, w.alloc (.cells #[.int .i64 0, .string ⟨#[]⟩, .int .i64 0, .int .i64 0, .slice none 0 0] 29) = x := ⟨_, rfl⟩
  have b1 : Below w.heap.size w wa := by rw [← hwa]; exact below_alloc _ _
  have HKa : Hid (Kep w wa w.heap.size (kidO 0 [] 0 0 (.slice none 0 0))) := by show Kep w wa _ _; rw [← hwa]; exact Kep.new (Nat.le_refl _) _
  have HBa : Hid (Below w.heap.size w wa) := b1
  have HT0 : Hid (Calls Tryz.prog 38 #[.pointer (some ⟨p, 0, none⟩)] wa fun e w' => e = .returned (.agg #[.int .i64 tk.kind, .string ⟨tk.text.toArray⟩, .int .i64 tk.num, .int .i64 AT]) ∧ Below wa.heap.size wa w') := by
    have hx := token_any p g cap ts i0 d full0 wa (h.below b1)
    rw [htk] at hx
    rw [← hAT]
    exact hx
  have q3 := fld3 tk.kind tk.num AT ⟨tk.text.toArray⟩
  have qb := bld03 8 AT
  obtain ⟨inf, hi1, hi2, hi3, hi4⟩ := info29_ex
  have HI : Hid (Tryz.prog.info? 29 = some inf ∧ inf.zero = some (.agg #[.int .i64 0, .string ⟨#[]⟩, .int .i64 0, .int .i64 0, .slice none 0 0]) ∧ inf.size = 5 ∧ inf.bytes = 64) := ⟨hi1, hi2, hi3, hi4⟩
  clear h hba hE hF hR htk hAT b1 hi1 hi2 hi3 hi4
  go_enter Tryz.func147, Tryz.ntmps147
  go_wp2_with fail
  refine HT0.out.mono ?_
  rintro e w1 ⟨rfl, hB1⟩
  have hb01 : Below w.heap.size w w1 := HBa.out.trans (hB1.mono HBa.out.size)
  have HB1 : Hid (Below wa.heap.size wa w1) := hB1
  clear hB1 hb01 hwa
  go_wp2
  have hB1 := HB1.out
  have hb01 : Below w.heap.size w w1 := HBa.out.trans (hB1.mono HBa.out.size)
  obtain ⟨w2, hw2⟩ : ∃ x, w1.alloc (.cells #[.int .i64 8, .string ⟨#[]⟩, .int .i64 0, .int .i64 AT, .slice none 0 0] 29) = x := ⟨_, rfl⟩
  have hB2 : Below w1.heap.size w1 w2 := by rw [← hw2]; exact below_alloc _ _
  have HP2 : Hid (PP w2 p g cap ts i0 d full0) := (H.out.below hb01).below hB2
  have HS2 : Hid (Sole p w w2) := (Sole.of_below hb01).trans (Sole.of_below hB2)
  have HKr2 : Hid (Kep w w2 w.heap.size (kidO 0 [] 0 0 (.slice none 0 0))) := (HKa.out.below hB1).below hB2
  have HKl2 : Hid (Kep w w2 w1.heap.size (kidO 8 [] 0 AT (.slice none 0 0))) := by show Kep w w2 _ _; rw [← hw2]; exact Kep.new hb01.size _
  have HNE : Hid (w.heap.size < w1.heap.size) := (HKa.out.below hB1).lt
  rw [hw2]
  clear hB1 hb01 hB2
  clear hw2 q3 qb
  go_loopw [] (fun wr => ∃ (acc : List Tree) (N : Nat) (oq : Option Addr) (cq : Nat) (ix : Nat) (full : Bool), acc.length = N ∧ N ≤ 64 ∧ Hid (PP wr p g cap ts ix d full) ∧ Hid (Sole p w wr) ∧ Hid (Kep w wr w.heap.size (kidO 0 [] 0 0 (.slice none 0 0))) ∧ Hid (Kep w wr w1.heap.size (kidO 8 [] 0 AT (.slice oq N cq))) ∧ Hid (ListAt (fun b => w.heap.size < b ∧ b ≠ w1.heap.size) wr acc (.slice oq N cq)) ∧ Hid (R = (casesP (66 - N) acc (PSof ts ix full)).bind fun l s => (fieldP B s).bind fun t s => Ans.ok (Tree.node 8 [] 0 AT (l ++ [t])) s)) (fun wr => 65 - sliceLen ((wr.cell? ⟨w1.heap.size, 4, none⟩).getD (.int .i64 0)))
  case atStart => exact ⟨[], 0, none, 0, i0, full0, rfl, by omega, HP2, HS2, HKr2, HKl2, listAt_nil, HR0⟩
  case round =>
    obtain ⟨acc, N, oq, cq, ix, full, hN1, hN2, HPr, HSr, HKrr, HKlr, HLr, HRr⟩ := hrel
    have HN : Hid (acc.length = N ∧ N ≤ 64) := ⟨hN1, hN2⟩
    have HMR : Hid (sliceLen ((wr.cell? ⟨w1.heap.size, 4, none⟩).getD (.int .i64 0)) = N) := by
      show _ = _
      rw [(kid_cells HKlr.out.1).1.2.2.2.2]; rfl
    have HST : Hid (R = (if acc.isEmpty || (PSof ts ix full).sees wCase then (((PSof ts ix full).room N 64).want wCase).bind fun _ s => (valueP s).bind fun v s => (s.want [58]).bind fun _ s => casesP (65 - N) (acc ++ [v]) s else .ok acc (PSof ts ix full)).bind fun l s => (fieldP B s).bind fun t s => Ans.ok (Tree.node 8 [] 0 AT (l ++ [t])) s) := by
      show _ = _
      rw [HRr.out, show 66 - N = (65 - N) + 1 by omega, casesP, hN1]
    have HIS : Hid (acc.isEmpty = decide (N = 0)) := by
      show _ = _
      rw [← hN1]
      cases acc <;> simp
    obtain ⟨⟨r0, r1, r2, r3, r4⟩, _⟩ := kid_cells HKlr.out.1
    clear hN1 hN2
    by_cases h0 : N = 0
    · have hz : ((N : Int) == 0) = true := by simp [h0]
      have HIE : Hid (acc.isEmpty = true) := by show _ = _; rw [HIS.out]; simp [h0]
      have HGO : Hid (R = ((((PSof ts ix full).room N 64).want wCase).bind fun _ s => (valueP s).bind fun v s => (s.want [58]).bind fun _ s => casesP (65 - N) (acc ++ [v]) s).bind fun l s => (fieldP B s).bind fun t s => Ans.ok (Tree.node 8 [] 0 AT (l ++ [t])) s) := by
        show _ = _
        rw [HST.out, if_pos (by rw [HIE.out]; rfl)]
      obtain ⟨wv, hwv⟩ : ∃ x, wr = x := ⟨_, rfl⟩
      have HPv : Hid (PP wv p g cap ts ix d full) := hwv ▸ HPr
      have HSv : Hid (Sole p w wv) := hwv ▸ HSr
      have HKrv : Hid (Kep w wv w.heap.size (kidO 0 [] 0 0 (.slice none 0 0))) := hwv ▸ HKrr
      have HKlv : Hid (Kep w wv w1.heap.size (kidO 8 [] 0 AT (.slice oq N cq))) := hwv ▸ HKlr
      have HLv : Hid (ListAt (fun b => w.heap.size < b ∧ b ≠ w1.heap.size) wv acc (.slice oq N cq)) := hwv ▸ HLr
      clear h0
      subst hwv
      have HRM : Hid (Calls Tryz.prog 39 #[.pointer (some ⟨p, 0, none⟩), .int .i64 N, .int .i64 64] wr fun e w' => e = .returned (.tuple #[]) ∧ PP w' p g cap ts ix d (roomF full N 64) ∧ Sole p wr w' ∧ w'.heap.size = wr.heap.size) := room_any p g cap ts ix d full N 64 wr HPv.out
      obtain ⟨⟨p0, p1, p2, p3, p4⟩, _⟩ := kid_cells HKlv.out.1
      go_wp2_with fail
      refine HRM.out.mono ?_
      rintro e wx ⟨rfl, hP, hS, hz2⟩
      obtain ⟨fullx, hfx⟩ : ∃ x, roomF full N 64 = x := ⟨_, rfl⟩
      have HFX : Hid (roomF full N 64 = fullx) := hfx
      rw [hfx] at hP
      have hp := HP.out
      have HPx : Hid (PP wx p g cap ts ix d fullx) := hP
      have HSx : Hid (Sole p w wx) := HSv.out.trans hS
      have HKrx : Hid (Kep w wx w.heap.size (kidO 0 [] 0 0 (.slice none 0 0))) := HKrv.out.sole hp.1 hS
      have HKlx : Hid (Kep w wx w1.heap.size (kidO 8 [] 0 AT (.slice oq N cq))) := HKlv.out.sole hp.1 hS
      have HLx : Hid (ListAt (fun b => w.heap.size < b ∧ b ≠ w1.heap.size) wx acc (.slice oq N cq)) := HLv.out.sole (fun b h => by omega) hS
      have HWA : Hid (Calls Tryz.prog 41 #[.pointer (some ⟨p, 0, none⟩), .slice (some ⟨wx.heap.size, 0, none⟩) 1 1] (wx.alloc (.cells #[.string ⟨#[99, 97, 115, 101]⟩] 9)) (PPost p g cap ts d unitIs ((PSof ts ix fullx).want wCase) wx)) := want_one p g cap ts HE.out ix d fullx wCase (by simp [wCase]) wx HPx.out
      obtain ⟨ru, hru⟩ : ∃ r, (PSof ts ix fullx).want wCase = r := ⟨_, rfl⟩
      have HR1 : Hid (R = (ru.bind fun _ s => (valueP s).bind fun v s => (s.want [58]).bind fun _ s => casesP (65 - N) (acc ++ [v]) s).bind fun l s => (fieldP B s).bind fun t s => Ans.ok (Tree.node 8 [] 0 AT (l ++ [t])) s) := by
        show _ = _
        rw [HGO.out, PSof_room, HFX.out, hru]
      have HLXX : Hid (∀ t s, ru = .ok t s → N + 1 ≤ 64) := fun t s e => by
        rcases Nat.lt_or_ge N 64 with h1 | h1
        · exact h1
        · have hNN := HN.out
          have hN64 : N = 64 := by omega
          obtain ⟨x, y, hx⟩ := strict_want wCase (PSof ts ix fullx) (by rw [PSof_full, ← HFX.out]; unfold roomF; simp [hN64])
          have hx' : (PSof ts ix fullx).want wCase = .no x y := hx
          rw [← hru, hx'] at e
          cases e
      rw [hru] at HWA
      clear hP hS hz2 hp hru hfx
      go_wp2_with fail
      refine HWA.out.mono ?_
      cases ru with
      | no why at_ =>
        rintro e w99 ⟨rfl, hS⟩
        have HS99 : Hid (Sole p w w99) := HSx.out.trans hS
        clear hS
        go_wp2
        refine ⟨rfl, ?_⟩
        rw [HR1.out]
        exact ⟨rfl, HS99.out⟩
      | ok u st =>
        rintro e wy ⟨v, i, full, rfl, rfl, rfl, hP, hS⟩
        have hp := HP.out
        have HLT : Hid (N + 1 ≤ 64) := HLXX.out _ _ rfl
        have HS_ : Hid (Sole p w wy) := HSx.out.trans hS
        have HKr_ : Hid (Kep w wy w.heap.size (kidO 0 [] 0 0 (.slice none 0 0))) := HKrx.out.sole hp.1 hS
        have HKl_ : Hid (Kep w wy w1.heap.size (kidO 8 [] 0 AT (.slice oq N cq))) := HKlx.out.sole hp.1 hS
        have HL_ : Hid (ListAt (fun b => w.heap.size < b ∧ b ≠ w1.heap.size) wy acc (.slice oq N cq)) := HLx.out.sole (fun b h => by omega) hS
        obtain ⟨rv, hrv⟩ : ∃ r, valueP (PSof ts i full) = r := ⟨_, rfl⟩
        have HR2 : Hid (R = (rv.bind fun v s => (s.want [58]).bind fun _ s => casesP (65 - N) (acc ++ [v]) s).bind fun l s => (fieldP B s).bind fun t s => Ans.ok (Tree.node 8 [] 0 AT (l ++ [t])) s) := by
          show _ = _
          rw [HR1.out, ← hrv]; rfl
        have HVB : Hid (∀ m, Calls Tryz.prog 140 #[.pointer (some ⟨p, 0, none⟩)] (wy.drewN m) (PPost p g cap ts d (treeIs wy.heap.size) rv wy)) := fun m => by
          have hB : Below wy.heap.size wy (wy.drewN m) := below_drew (Below.refl _ _) m
          rw [← hrv]
          exact (value_any p g cap ts HE.out i d full _ (hP.below hB)).mono fun e w' hp => PPost.from_below hB hp
        obtain ⟨⟨l0, l1, l2, l3, l4⟩, ⟨f0, f1, f2, f3, f4⟩⟩ := kid_cells HKl_.out.1
        clear hP hS hp hrv p0 p1 p2 p3 p4
        go_wp2_with fail
        cases rv with
        | no why at_ =>
          go_region_dies
          all_goals (
            refine (HVB.out _).mono ?_
            rintro e w9 ⟨rfl, hS⟩
            refine ⟨rfl, ?_⟩
            rw [HR2.out]
            exact ⟨rfl, HS_.out.trans hS⟩)
        | ok tv st =>
          obtain ⟨k8, n8, m8, a8, ks8⟩ := tv
          go_region_law (first
            | (refine step_calls rfl 140 #[.pointer (some ⟨p, 0, none⟩)] (by go_simp) _ (HVB.out _) ?_
               rintro e w5 ⟨v, i, full, rfl, hT, rfl, hP, hS⟩
               refine ⟨_, rfl, ?_⟩
               obtain ⟨sl, rfl, hL⟩ := treeAt_node.1 hT
               obtain ⟨o8, l8, c8, rfl⟩ := hL.shape
               have hp := HP.out
               obtain ⟨wb, hwb⟩ : ∃ x, w5.alloc (.cells #[.int .i64 k8, .string ⟨n8.toArray⟩, .int .i64 m8, .int .i64 a8, .slice o8 l8 c8] 29) = x := ⟨_, rfl⟩
               have HWB : Hid (w5.alloc (.cells #[.int .i64 k8, .string ⟨n8.toArray⟩, .int .i64 m8, .int .i64 a8, .slice o8 l8 c8] 29) = wb) := hwb
               have hBb : Below w5.heap.size w5 wb := by rw [← hwb]; exact below_alloc _ _
               have HP5 : Hid (PP wb p g cap ts i d full) := hP.below hBb
               have HS5 : Hid (Sole p w wb) := (HS_.out.trans hS).trans (Sole.of_below hBb)
               have HT8 : Hid (TreeAt (Fresh wy.heap.size) wb (.node k8 n8 m8 a8 ks8) (kidV k8 n8 m8 a8 (.slice o8 l8 c8))) := TreeAt.below hT hBb
               have HKr5 : Hid (Kep w wb w.heap.size (kidO 0 [] 0 0 (.slice none 0 0))) := (HKr_.out.sole hp.1 hS).below hBb
               have kl5 : Kep w w5 w1.heap.size (kidO 8 [] 0 AT (.slice oq N cq)) := HKl_.out.sole hp.1 hS
               have HKl5 : Hid (Kep w wb w1.heap.size (kidO 8 [] 0 AT (.slice oq N cq))) := kl5.below hBb
               have hl3 : ListAt (fun b => w.heap.size < b ∧ b ≠ w1.heap.size) wb acc (.slice oq N cq) := (HL_.out.sole (fun b h => by omega) hS).below hBb
               have HLQ : Hid (∀ q, (Value.slice oq N cq).ownBlock = some q → (w.heap.size < q ∧ q ≠ w1.heap.size) ∧ q < wy.heap.size) := fun q e => HL_.out.own_lt e
               have HSZ : Hid (w1.heap.size < wy.heap.size ∧ wy.heap.size ≤ w5.heap.size ∧ wb.heap.size = w5.heap.size + 1) := ⟨HKl_.out.lt, hS.size, by rw [← hwb]; simp⟩
               obtain ⟨xs, how, hAq, hrq⟩ := hl3
               rw [HN.out.1] at how
               have HOW : Hid (wb.ownsRow 0 29 5 (.slice oq N cq) N xs) := how
               have HRQ : Hid (RowV (fun b => (fun b => w.heap.size < b ∧ b ≠ w1.heap.size) b ∧ (Value.slice oq N cq).ownBlock ≠ some b) wb acc xs) := hrq
               have HNB : Hid (wb.heap[w5.heap.size]? = some (.cells #[.int .i64 k8, .string ⟨n8.toArray⟩, .int .i64 m8, .int .i64 a8, .slice o8 l8 c8] 29 (0, 0))) := by show _ = _; rw [← hwb]; exact heap_alloc_new _ _
               have u4 := (kid_cells kl5.1).1.2.2.2.2
               have x4 := (kid_cells HKl5.out.1).1.2.2.2.2
               clear hT hL hP hS hp hBb how hAq hrq kl5
               unfold kidV)
            | (refine step_append_lies _ rfl _ _ 27 rfl 0 29 inf (.agg #[.int .i64 0, .string ⟨#[]⟩, .int .i64 0, .int .i64 0, .slice none 0 0]) 5 64 Tryz.underlying27 HI.out.1 HI.out.2.1 HI.out.2.2.1 HI.out.2.2.2 rfl (by decide) (.slice oq N cq) N xs rfl HOW.out ⟨w5.heap.size, 0, none⟩ 1 1 [.int .i64 k8, .string ⟨n8.toArray⟩, .int .i64 m8, .int .i64 a8, .slice o8 l8 c8] rfl rfl (World.news_of_block (cs := #[.int .i64 k8, .string ⟨n8.toArray⟩, .int .i64 m8, .int .i64 a8, .slice o8 l8 c8]) (t := 29) (fr := (0, 0)) HNB.out) (by simp [Value.oneCell']) (by decide) (by have := HN.out; unfold maxLen; omega) (by have := HN.out; omega) (Nat.zero_le _) _ rfl ?_
               intro gq cq2 w6 hown hgrow hat hlt
               have hp := HP.out
               have hsz := HSZ.out
               have hs5 := HS5.out.size
               have HP6 : Hid (PP w6 p g cap ts i d full) := HP5.out.grownO hgrow (fun e => by have := HLQ.out p e; omega) (fun e => by have := HLQ.out g e; omega)
               have HS6 : Hid (Sole p w w6) := HS5.out.grownO hgrow (fun q e => Nat.le_of_lt (HLQ.out q e).1.1)
               have HKr6 : Hid (Kep w w6 w.heap.size (kidO 0 [] 0 0 (.slice none 0 0))) := HKr5.out.grownO hgrow (fun e => by have := (HLQ.out _ e).1.1; omega)
               have HKl6 : Hid (Kep w w6 w1.heap.size (kidO 8 [] 0 AT (.slice oq N cq))) := HKl5.out.grownO hgrow (fun e => (HLQ.out _ e).1.2 rfl)
               have HL6 : Hid (ListAt (fun b => w.heap.size < b ∧ b ≠ w1.heap.size) w6 (acc ++ [(.node k8 n8 m8 a8 ks8)]) (.slice (some ⟨gq, 0, none⟩) (N + 1) cq2)) := by
                 refine listAt_more (sl := .slice oq N cq) (fun q e => (HLQ.out q e).1) HRQ.out (rowV_one (HT8.out.weaken (fun b h => ?_))) (by rw [HN.out.1]; exact hown) hgrow wb.heap.size (Nat.le_refl _) (by have := HKr5.out.lt; omega) ?_
                 · have h1 : wy.heap.size ≤ b := h
                   have h2 := HKr_.out.lt
                   exact ⟨by omega, fun e => by have := (HLQ.out b e).2; omega⟩
                 · rcases hat with e | e
                   · exact Or.inl e.symm
                   · exact Or.inr (by rw [e]; rfl)
               obtain ⟨⟨j0, j1, j2, j3, j4⟩, ⟨g0, g1, g2, g3, g4⟩⟩ := kid_cells HKl6.out.1
               clear hown hgrow hat hlt hp hsz hs5))
          all_goals (
            have hp := HP.out
            have hwl2 := HKl6.out.2
            have hwr2 := HKr6.out.lt
            have hne := HNE.out
            have hz6 : ∀ b, b ≠ w1.heap.size → (w6.setCell ⟨w1.heap.size, 4, none⟩ (.slice (some ⟨gq, 0, none⟩) (N + 1) cq2)).heap[b]? = w6.heap[b]? := fun b hb => Below.heap_setCell _ _ _ _ hb
            have HKlc : Hid (Kep w (w6.setCell ⟨w1.heap.size, 4, none⟩ (.slice (some ⟨gq, 0, none⟩) (N + 1) cq2)) w1.heap.size (kidO 8 [] 0 AT (.slice (some ⟨gq, 0, none⟩) (N + 1) cq2))) := ⟨set4_blk HKl6.out.1, HKl6.out.2⟩
            have HKrc : Hid (Kep w (w6.setCell ⟨w1.heap.size, 4, none⟩ (.slice (some ⟨gq, 0, none⟩) (N + 1) cq2)) w.heap.size (kidO 0 [] 0 0 (.slice none 0 0))) := HKr6.out.but hz6 (by omega)
            have HPc : Hid (PP (w6.setCell ⟨w1.heap.size, 4, none⟩ (.slice (some ⟨gq, 0, none⟩) (N + 1) cq2)) p g cap ts i d full) := HP6.out.sole_but (by omega) (by omega) hz6
            have HSc : Hid (Sole p w (w6.setCell ⟨w1.heap.size, 4, none⟩ (.slice (some ⟨gq, 0, none⟩) (N + 1) cq2))) := HS6.out.below_after ((Below.refl _ _).setCell hwl2 _)
            have HLc : Hid (ListAt (fun b => w.heap.size < b ∧ b ≠ w1.heap.size) (w6.setCell ⟨w1.heap.size, 4, none⟩ (.slice (some ⟨gq, 0, none⟩) (N + 1) cq2)) (acc ++ [(.node k8 n8 m8 a8 ks8)]) (.slice (some ⟨gq, 0, none⟩) (N + 1) cq2)) := HL6.out.but (fun b h => h.2) hz6
            generalize w6.setCell ⟨w1.heap.size, 4, none⟩ (.slice (some ⟨gq, 0, none⟩) (N + 1) cq2) = wc at HKlc HKrc HPc HSc HLc ⊢
            clear hp hwl2 hwr2 hne hz6
            have HWA : Hid (Calls Tryz.prog 41 #[.pointer (some ⟨p, 0, none⟩), .slice (some ⟨wc.heap.size, 0, none⟩) 1 1] (wc.alloc (.cells #[.string ⟨#[58]⟩] 9)) (PPost p g cap ts d unitIs ((PSof ts i full).want [58]) wc)) := want_one p g cap ts HE.out i d full [58] (by simp) wc HPc.out
            obtain ⟨ru, hru⟩ : ∃ r, (PSof ts i full).want [58] = r := ⟨_, rfl⟩
            have HR3 : Hid (R = ru.bind fun _ s => (casesP (65 - N) (acc ++ [(.node k8 n8 m8 a8 ks8)]) s).bind fun l s => (fieldP B s).bind fun t s => Ans.ok (Tree.node 8 [] 0 AT (l ++ [t])) s) := by
              show _ = _
              rw [HR2.out]; rw [← hru]; exact ans_assoc ((PSof ts i full).want [58]) (fun _ s => casesP (65 - N) (acc ++ [(.node k8 n8 m8 a8 ks8)]) s) (fun l s => (fieldP B s).bind fun t s => Ans.ok (Tree.node 8 [] 0 AT (l ++ [t])) s)
            rw [hru] at HWA
            clear hru
            go_wp2_with fail
            refine HWA.out.mono ?_
            cases ru with
            | no why at_ =>
              rintro e w99 ⟨rfl, hS⟩
              have HS99 : Hid (Sole p w w99) := HSc.out.trans hS
              clear hS
              go_wp2
              refine ⟨rfl, ?_⟩
              rw [HR3.out]
              exact ⟨rfl, HS99.out⟩
            | ok u st =>
              rintro e w7 ⟨v, i, full, rfl, rfl, rfl, hP, hS⟩
              have hp := HP.out
              have HP7 : Hid (PP w7 p g cap ts i d full) := hP
              have HS7 : Hid (Sole p w w7) := HSc.out.trans hS
              have HKr7 : Hid (Kep w w7 w.heap.size (kidO 0 [] 0 0 (.slice none 0 0))) := HKrc.out.sole hp.1 hS
              have HKl7 : Hid (Kep w w7 w1.heap.size (kidO 8 [] 0 AT (.slice (some ⟨gq, 0, none⟩) (N + 1) cq2))) := HKlc.out.sole hp.1 hS
              have HL7 : Hid (ListAt (fun b => w.heap.size < b ∧ b ≠ w1.heap.size) w7 (acc ++ [(.node k8 n8 m8 a8 ks8)]) (.slice (some ⟨gq, 0, none⟩) (N + 1) cq2)) := HLc.out.sole (fun b h => by omega) hS
              have hNN := HN.out
              have HR7 : Hid (R = (casesP (66 - (N + 1)) (acc ++ [(.node k8 n8 m8 a8 ks8)]) (PSof ts i full)).bind fun l s => (fieldP B s).bind fun t s => Ans.ok (Tree.node 8 [] 0 AT (l ++ [t])) s) := by
                show _ = _
                rw [show 66 - (N + 1) = 65 - N by omega]
                exact HR3.out
              have HM7 : Hid (sliceLen ((w7.cell? ⟨w1.heap.size, 4, none⟩).getD (.int .i64 0)) = N + 1) := by
                show _ = _
                rw [(kid_cells HKl7.out.1).1.2.2.2.2]; rfl
              clear hP hS hp
              go_wp2
              go_roundw
              case rel => exact ⟨acc ++ [(.node k8 n8 m8 a8 ks8)], N + 1, some ⟨gq, 0, none⟩, cq2, i, full, by simp [hNN.1], HLT.out, HP7, HS7, HKr7, HKl7, HL7, HR7⟩
              case measure =>
                have h1 := HM7.out
                have h2 := HMR.out
                have h3 := HLT.out
                omega)
    · have hz : ((N : Int) == 0) = false := by simp; omega
      have HIE : Hid (acc.isEmpty = false) := by show _ = _; rw [HIS.out]; simp [h0]
      have HSX : Hid (Calls Tryz.prog 75 #[.pointer (some ⟨p, 0, none⟩), .string ⟨#[99, 97, 115, 101]⟩] wr fun e w' => e = .returned (.bool ((PSof ts ix full).sees wCase)) ∧ Below wr.heap.size wr w') := sees_lit p g cap ts ix d full wCase wr HPr.out
      clear h0
      cases hse : (PSof ts ix full).sees wCase
      · rw [hse] at HSX
        obtain ⟨rv, hrv⟩ : ∃ r, fieldP B (PSof ts ix full) = r := ⟨_, rfl⟩
        have HR2 : Hid (R = rv.bind fun t s => .ok (.node 8 [] 0 AT (acc ++ [t])) s) := by
          show _ = _
          rw [HST.out, if_neg (by rw [hse, HIE.out]; simp), ← hrv]
          rfl
        clear hse
        go_wp2_with fail
        refine HSX.out.mono ?_
        rintro e wy ⟨rfl, hB⟩
        have hPy : PP wy p g cap ts ix d full := HPr.out.below hB
        have HS_ : Hid (Sole p w wy) := HSr.out.trans (Sole.of_below hB)
        have HKr_ : Hid (Kep w wy w.heap.size (kidO 0 [] 0 0 (.slice none 0 0))) := HKrr.out.below hB
        have HKl_ : Hid (Kep w wy w1.heap.size (kidO 8 [] 0 AT (.slice oq N cq))) := HKlr.out.below hB
        have HL_ : Hid (ListAt (fun b => w.heap.size < b ∧ b ≠ w1.heap.size) wy acc (.slice oq N cq)) := HLr.out.below hB
        have HVB : Hid (∀ m, Calls Tryz.prog 145 #[.pointer (some ⟨p, 0, none⟩)] (wy.drewN m) (PPost p g cap ts d (treeIs wy.heap.size) rv wy)) := fun m => by
          have hB' : Below wy.heap.size wy (wy.drewN m) := below_drew (Below.refl _ _) m
          rw [← hrv]
          exact (HF.out ix full _ (hPy.below hB') ((HBA.out.sole HS_.out).below hB')).mono fun e w' hp => PPost.from_below hB' hp
        obtain ⟨⟨l0, l1, l2, l3, l4⟩, ⟨f0, f1, f2, f3, f4⟩⟩ := kid_cells HKl_.out.1
        clear hB hrv hPy r0 r1 r2 r3 r4
        go_wp2_with fail
        cases rv with
        | no why at_ =>
          go_region_dies
          all_goals (
            refine (HVB.out _).mono ?_
            rintro e w9 ⟨rfl, hS⟩
            refine ⟨rfl, ?_⟩
            rw [HR2.out]
            exact ⟨rfl, HS_.out.trans hS⟩)
        | ok tv st =>
          obtain ⟨k8, n8, m8, a8, ks8⟩ := tv
          go_region_law (first
            | (refine step_calls rfl 145 #[.pointer (some ⟨p, 0, none⟩)] (by go_simp) _ (HVB.out _) ?_
               rintro e w5 ⟨v, i, full, rfl, hT, rfl, hP, hS⟩
               refine ⟨_, rfl, ?_⟩
               obtain ⟨sl, rfl, hL⟩ := treeAt_node.1 hT
               obtain ⟨o8, l8, c8, rfl⟩ := hL.shape
               have hp := HP.out
               obtain ⟨wb, hwb⟩ : ∃ x, w5.alloc (.cells #[.int .i64 k8, .string ⟨n8.toArray⟩, .int .i64 m8, .int .i64 a8, .slice o8 l8 c8] 29) = x := ⟨_, rfl⟩
               have HWB : Hid (w5.alloc (.cells #[.int .i64 k8, .string ⟨n8.toArray⟩, .int .i64 m8, .int .i64 a8, .slice o8 l8 c8] 29) = wb) := hwb
               have hBb : Below w5.heap.size w5 wb := by rw [← hwb]; exact below_alloc _ _
               have HP5 : Hid (PP wb p g cap ts i d full) := hP.below hBb
               have HS5 : Hid (Sole p w wb) := (HS_.out.trans hS).trans (Sole.of_below hBb)
               have HT8 : Hid (TreeAt (Fresh wy.heap.size) wb (.node k8 n8 m8 a8 ks8) (kidV k8 n8 m8 a8 (.slice o8 l8 c8))) := TreeAt.below hT hBb
               have HKr5 : Hid (Kep w wb w.heap.size (kidO 0 [] 0 0 (.slice none 0 0))) := (HKr_.out.sole hp.1 hS).below hBb
               have kl5 : Kep w w5 w1.heap.size (kidO 8 [] 0 AT (.slice oq N cq)) := HKl_.out.sole hp.1 hS
               have HKl5 : Hid (Kep w wb w1.heap.size (kidO 8 [] 0 AT (.slice oq N cq))) := kl5.below hBb
               have hl3 : ListAt (fun b => w.heap.size < b ∧ b ≠ w1.heap.size) wb acc (.slice oq N cq) := (HL_.out.sole (fun b h => by omega) hS).below hBb
               have HLQ : Hid (∀ q, (Value.slice oq N cq).ownBlock = some q → (w.heap.size < q ∧ q ≠ w1.heap.size) ∧ q < wy.heap.size) := fun q e => HL_.out.own_lt e
               have HSZ : Hid (w1.heap.size < wy.heap.size ∧ wy.heap.size ≤ w5.heap.size ∧ wb.heap.size = w5.heap.size + 1) := ⟨HKl_.out.lt, hS.size, by rw [← hwb]; simp⟩
               obtain ⟨xs, how, hAq, hrq⟩ := hl3
               rw [HN.out.1] at how
               have HOW : Hid (wb.ownsRow 0 29 5 (.slice oq N cq) N xs) := how
               have HRQ : Hid (RowV (fun b => (fun b => w.heap.size < b ∧ b ≠ w1.heap.size) b ∧ (Value.slice oq N cq).ownBlock ≠ some b) wb acc xs) := hrq
               have HNB : Hid (wb.heap[w5.heap.size]? = some (.cells #[.int .i64 k8, .string ⟨n8.toArray⟩, .int .i64 m8, .int .i64 a8, .slice o8 l8 c8] 29 (0, 0))) := by show _ = _; rw [← hwb]; exact heap_alloc_new _ _
               have u4 := (kid_cells kl5.1).1.2.2.2.2
               have x4 := (kid_cells HKl5.out.1).1.2.2.2.2
               clear hT hL hP hS hp hBb how hAq hrq kl5
               unfold kidV)
            | (refine step_append_lies _ rfl _ _ 27 rfl 0 29 inf (.agg #[.int .i64 0, .string ⟨#[]⟩, .int .i64 0, .int .i64 0, .slice none 0 0]) 5 64 Tryz.underlying27 HI.out.1 HI.out.2.1 HI.out.2.2.1 HI.out.2.2.2 rfl (by decide) (.slice oq N cq) N xs rfl HOW.out ⟨w5.heap.size, 0, none⟩ 1 1 [.int .i64 k8, .string ⟨n8.toArray⟩, .int .i64 m8, .int .i64 a8, .slice o8 l8 c8] rfl rfl (World.news_of_block (cs := #[.int .i64 k8, .string ⟨n8.toArray⟩, .int .i64 m8, .int .i64 a8, .slice o8 l8 c8]) (t := 29) (fr := (0, 0)) HNB.out) (by simp [Value.oneCell']) (by decide) (by have := HN.out; unfold maxLen; omega) (by have := HN.out; omega) (Nat.zero_le _) _ rfl ?_
               intro gq cq2 w6 hown hgrow hat hlt
               have hp := HP.out
               have hsz := HSZ.out
               have hs5 := HS5.out.size
               have HP6 : Hid (PP w6 p g cap ts i d full) := HP5.out.grownO hgrow (fun e => by have := HLQ.out p e; omega) (fun e => by have := HLQ.out g e; omega)
               have HS6 : Hid (Sole p w w6) := HS5.out.grownO hgrow (fun q e => Nat.le_of_lt (HLQ.out q e).1.1)
               have HKr6 : Hid (Kep w w6 w.heap.size (kidO 0 [] 0 0 (.slice none 0 0))) := HKr5.out.grownO hgrow (fun e => by have := (HLQ.out _ e).1.1; omega)
               have HKl6 : Hid (Kep w w6 w1.heap.size (kidO 8 [] 0 AT (.slice oq N cq))) := HKl5.out.grownO hgrow (fun e => (HLQ.out _ e).1.2 rfl)
               have HL6 : Hid (ListAt (fun b => w.heap.size < b ∧ b ≠ w1.heap.size) w6 (acc ++ [(.node k8 n8 m8 a8 ks8)]) (.slice (some ⟨gq, 0, none⟩) (N + 1) cq2)) := by
                 refine listAt_more (sl := .slice oq N cq) (fun q e => (HLQ.out q e).1) HRQ.out (rowV_one (HT8.out.weaken (fun b h => ?_))) (by rw [HN.out.1]; exact hown) hgrow wb.heap.size (Nat.le_refl _) (by have := HKr5.out.lt; omega) ?_
                 · have h1 : wy.heap.size ≤ b := h
                   have h2 := HKr_.out.lt
                   exact ⟨by omega, fun e => by have := (HLQ.out b e).2; omega⟩
                 · rcases hat with e | e
                   · exact Or.inl e.symm
                   · exact Or.inr (by rw [e]; rfl)
               obtain ⟨⟨j0, j1, j2, j3, j4⟩, ⟨g0, g1, g2, g3, g4⟩⟩ := kid_cells HKl6.out.1
               clear hown hgrow hat hlt hp hsz hs5))
          all_goals (
            have hp := HP.out
            have hwl2 := HKl6.out.2
            have hwr2 := HKr6.out.lt
            have hne := HNE.out
            have hz6 : ∀ b, b ≠ w1.heap.size → (w6.setCell ⟨w1.heap.size, 4, none⟩ (.slice (some ⟨gq, 0, none⟩) (N + 1) cq2)).heap[b]? = w6.heap[b]? := fun b hb => Below.heap_setCell _ _ _ _ hb
            have HKlc : Hid (Kep w (w6.setCell ⟨w1.heap.size, 4, none⟩ (.slice (some ⟨gq, 0, none⟩) (N + 1) cq2)) w1.heap.size (kidO 8 [] 0 AT (.slice (some ⟨gq, 0, none⟩) (N + 1) cq2))) := ⟨set4_blk HKl6.out.1, HKl6.out.2⟩
            have HKrc : Hid (Kep w (w6.setCell ⟨w1.heap.size, 4, none⟩ (.slice (some ⟨gq, 0, none⟩) (N + 1) cq2)) w.heap.size (kidO 0 [] 0 0 (.slice none 0 0))) := HKr6.out.but hz6 (by omega)
            have HPc : Hid (PP (w6.setCell ⟨w1.heap.size, 4, none⟩ (.slice (some ⟨gq, 0, none⟩) (N + 1) cq2)) p g cap ts i d full) := HP6.out.sole_but (by omega) (by omega) hz6
            have HSc : Hid (Sole p w (w6.setCell ⟨w1.heap.size, 4, none⟩ (.slice (some ⟨gq, 0, none⟩) (N + 1) cq2))) := HS6.out.below_after ((Below.refl _ _).setCell hwl2 _)
            have HLc : Hid (ListAt (fun b => w.heap.size < b ∧ b ≠ w1.heap.size) (w6.setCell ⟨w1.heap.size, 4, none⟩ (.slice (some ⟨gq, 0, none⟩) (N + 1) cq2)) (acc ++ [(.node k8 n8 m8 a8 ks8)]) (.slice (some ⟨gq, 0, none⟩) (N + 1) cq2)) := HL6.out.but (fun b h => h.2) hz6
            generalize w6.setCell ⟨w1.heap.size, 4, none⟩ (.slice (some ⟨gq, 0, none⟩) (N + 1) cq2) = wc at HKlc HKrc HPc HSc HLc ⊢
            clear hp hwl2 hwr2 hne hz6
            obtain ⟨⟨s0, s1, s2, s3, s4⟩, _⟩ := kid_cells HKlc.out.1
            obtain ⟨⟨z0, z1, z2, z3, z4⟩, ⟨y0, y1, y2, y3, y4⟩⟩ := kid_cells HKrc.out.1
            go_wp2
            have q := res5 wc w.heap.size (.int .i64 8) (.string ⟨#[]⟩) (.int .i64 0) (.int .i64 AT) (.slice (some ⟨gq, 0, none⟩) (N + 1) cq2) z0 z1 z2 z3 z4
            have hf := fin5 (r := w.heap.size) (w9 := wc) (k := 8) (n := []) (m := 0) (a := AT) (sl := (.slice (some ⟨gq, 0, none⟩) (N + 1) cq2)) HKrc.out.2 HSc.out _ rfl
            generalize ((((wc.setCell ⟨w.heap.size, 0, none⟩ (.int .i64 8)).setCell ⟨w.heap.size, 1, none⟩ (.string ⟨#[]⟩)).setCell ⟨w.heap.size, 2, none⟩ (.int .i64 0)).setCell ⟨w.heap.size, 3, none⟩ (.int .i64 AT)).setCell ⟨w.heap.size, 4, none⟩ (.slice (some ⟨gq, 0, none⟩) (N + 1) cq2) = wz at q hf ⊢
            obtain ⟨q0, q1, q2, q3, q4⟩ := q
            refine bodyPost_ret (v := .agg #[.int .i64 8, .string ⟨#[]⟩, .int .i64 0, .int .i64 AT, (.slice (some ⟨gq, 0, none⟩) (N + 1) cq2)]) (by simp [results, Tryz.results147, go_sem, q0, q1, q2, q3, q4]) rfl ?_
            rw [HR2.out]
            have hr2 := HKrc.out.2
            have hpg := HP.out
            exact ⟨_, _, _, rfl, node_fin HLc.out (fun b h => Nat.le_of_lt h.1) (fun b h => Nat.ne_of_gt h.1) hf.2, rfl, HPc.out.sole_but (by omega) (by omega) hf.2, hf.1⟩)
      · rw [hse] at HSX
        have HGO : Hid (R = ((((PSof ts ix full).room N 64).want wCase).bind fun _ s => (valueP s).bind fun v s => (s.want [58]).bind fun _ s => casesP (65 - N) (acc ++ [v]) s).bind fun l s => (fieldP B s).bind fun t s => Ans.ok (Tree.node 8 [] 0 AT (l ++ [t])) s) := by
          show _ = _
          rw [HST.out, if_pos (by rw [hse]; simp)]
        clear hse
        go_wp2_with fail
        refine HSX.out.mono ?_
        rintro e wv ⟨rfl, hB⟩
        have HPv : Hid (PP wv p g cap ts ix d full) := HPr.out.below hB
        have HSv : Hid (Sole p w wv) := HSr.out.trans (Sole.of_below hB)
        have HKrv : Hid (Kep w wv w.heap.size (kidO 0 [] 0 0 (.slice none 0 0))) := HKrr.out.below hB
        have HKlv : Hid (Kep w wv w1.heap.size (kidO 8 [] 0 AT (.slice oq N cq))) := HKlr.out.below hB
        have HLv : Hid (ListAt (fun b => w.heap.size < b ∧ b ≠ w1.heap.size) wv acc (.slice oq N cq)) := HLr.out.below hB
        clear hB r0 r1 r2 r3 r4
        have HRM : Hid (Calls Tryz.prog 39 #[.pointer (some ⟨p, 0, none⟩), .int .i64 N, .int .i64 64] wv fun e w' => e = .returned (.tuple #[]) ∧ PP w' p g cap ts ix d (roomF full N 64) ∧ Sole p wv w' ∧ w'.heap.size = wv.heap.size) := room_any p g cap ts ix d full N 64 wv HPv.out
        obtain ⟨⟨p0, p1, p2, p3, p4⟩, _⟩ := kid_cells HKlv.out.1
        go_wp2_with fail
        refine HRM.out.mono ?_
        rintro e wx ⟨rfl, hP, hS, hz2⟩
        obtain ⟨fullx, hfx⟩ : ∃ x, roomF full N 64 = x := ⟨_, rfl⟩
        have HFX : Hid (roomF full N 64 = fullx) := hfx
        rw [hfx] at hP
        have hp := HP.out
        have HPx : Hid (PP wx p g cap ts ix d fullx) := hP
        have HSx : Hid (Sole p w wx) := HSv.out.trans hS
        have HKrx : Hid (Kep w wx w.heap.size (kidO 0 [] 0 0 (.slice none 0 0))) := HKrv.out.sole hp.1 hS
        have HKlx : Hid (Kep w wx w1.heap.size (kidO 8 [] 0 AT (.slice oq N cq))) := HKlv.out.sole hp.1 hS
        have HLx : Hid (ListAt (fun b => w.heap.size < b ∧ b ≠ w1.heap.size) wx acc (.slice oq N cq)) := HLv.out.sole (fun b h => by omega) hS
        have HWA : Hid (Calls Tryz.prog 41 #[.pointer (some ⟨p, 0, none⟩), .slice (some ⟨wx.heap.size, 0, none⟩) 1 1] (wx.alloc (.cells #[.string ⟨#[99, 97, 115, 101]⟩] 9)) (PPost p g cap ts d unitIs ((PSof ts ix fullx).want wCase) wx)) := want_one p g cap ts HE.out ix d fullx wCase (by simp [wCase]) wx HPx.out
        obtain ⟨ru, hru⟩ : ∃ r, (PSof ts ix fullx).want wCase = r := ⟨_, rfl⟩
        have HR1 : Hid (R = (ru.bind fun _ s => (valueP s).bind fun v s => (s.want [58]).bind fun _ s => casesP (65 - N) (acc ++ [v]) s).bind fun l s => (fieldP B s).bind fun t s => Ans.ok (Tree.node 8 [] 0 AT (l ++ [t])) s) := by
          show _ = _
          rw [HGO.out, PSof_room, HFX.out, hru]
        have HLXX : Hid (∀ t s, ru = .ok t s → N + 1 ≤ 64) := fun t s e => by
          rcases Nat.lt_or_ge N 64 with h1 | h1
          · exact h1
          · have hNN := HN.out
            have hN64 : N = 64 := by omega
            obtain ⟨x, y, hx⟩ := strict_want wCase (PSof ts ix fullx) (by rw [PSof_full, ← HFX.out]; unfold roomF; simp [hN64])
            have hx' : (PSof ts ix fullx).want wCase = .no x y := hx
            rw [← hru, hx'] at e
            cases e
        rw [hru] at HWA
        clear hP hS hz2 hp hru hfx
        go_wp2_with fail
        refine HWA.out.mono ?_
        cases ru with
        | no why at_ =>
          rintro e w99 ⟨rfl, hS⟩
          have HS99 : Hid (Sole p w w99) := HSx.out.trans hS
          clear hS
          go_wp2
          refine ⟨rfl, ?_⟩
          rw [HR1.out]
          exact ⟨rfl, HS99.out⟩
        | ok u st =>
          rintro e wy ⟨v, i, full, rfl, rfl, rfl, hP, hS⟩
          have hp := HP.out
          have HLT : Hid (N + 1 ≤ 64) := HLXX.out _ _ rfl
          have HS_ : Hid (Sole p w wy) := HSx.out.trans hS
          have HKr_ : Hid (Kep w wy w.heap.size (kidO 0 [] 0 0 (.slice none 0 0))) := HKrx.out.sole hp.1 hS
          have HKl_ : Hid (Kep w wy w1.heap.size (kidO 8 [] 0 AT (.slice oq N cq))) := HKlx.out.sole hp.1 hS
          have HL_ : Hid (ListAt (fun b => w.heap.size < b ∧ b ≠ w1.heap.size) wy acc (.slice oq N cq)) := HLx.out.sole (fun b h => by omega) hS
          obtain ⟨rv, hrv⟩ : ∃ r, valueP (PSof ts i full) = r := ⟨_, rfl⟩
          have HR2 : Hid (R = (rv.bind fun v s => (s.want [58]).bind fun _ s => casesP (65 - N) (acc ++ [v]) s).bind fun l s => (fieldP B s).bind fun t s => Ans.ok (Tree.node 8 [] 0 AT (l ++ [t])) s) := by
            show _ = _
            rw [HR1.out, ← hrv]; rfl
          have HVB : Hid (∀ m, Calls Tryz.prog 140 #[.pointer (some ⟨p, 0, none⟩)] (wy.drewN m) (PPost p g cap ts d (treeIs wy.heap.size) rv wy)) := fun m => by
            have hB : Below wy.heap.size wy (wy.drewN m) := below_drew (Below.refl _ _) m
            rw [← hrv]
            exact (value_any p g cap ts HE.out i d full _ (hP.below hB)).mono fun e w' hp => PPost.from_below hB hp
          obtain ⟨⟨l0, l1, l2, l3, l4⟩, ⟨f0, f1, f2, f3, f4⟩⟩ := kid_cells HKl_.out.1
          clear hP hS hp hrv p0 p1 p2 p3 p4
          go_wp2_with fail
          cases rv with
          | no why at_ =>
            go_region_dies
            all_goals (
              refine (HVB.out _).mono ?_
              rintro e w9 ⟨rfl, hS⟩
              refine ⟨rfl, ?_⟩
              rw [HR2.out]
              exact ⟨rfl, HS_.out.trans hS⟩)
          | ok tv st =>
            obtain ⟨k8, n8, m8, a8, ks8⟩ := tv
            go_region_law (first
              | (refine step_calls rfl 140 #[.pointer (some ⟨p, 0, none⟩)] (by go_simp) _ (HVB.out _) ?_
                 rintro e w5 ⟨v, i, full, rfl, hT, rfl, hP, hS⟩
                 refine ⟨_, rfl, ?_⟩
                 obtain ⟨sl, rfl, hL⟩ := treeAt_node.1 hT
                 obtain ⟨o8, l8, c8, rfl⟩ := hL.shape
                 have hp := HP.out
                 obtain ⟨wb, hwb⟩ : ∃ x, w5.alloc (.cells #[.int .i64 k8, .string ⟨n8.toArray⟩, .int .i64 m8, .int .i64 a8, .slice o8 l8 c8] 29) = x := ⟨_, rfl⟩
                 have HWB : Hid (w5.alloc (.cells #[.int .i64 k8, .string ⟨n8.toArray⟩, .int .i64 m8, .int .i64 a8, .slice o8 l8 c8] 29) = wb) := hwb
                 have hBb : Below w5.heap.size w5 wb := by rw [← hwb]; exact below_alloc _ _
                 have HP5 : Hid (PP wb p g cap ts i d full) := hP.below hBb
                 have HS5 : Hid (Sole p w wb) := (HS_.out.trans hS).trans (Sole.of_below hBb)
                 have HT8 : Hid (TreeAt (Fresh wy.heap.size) wb (.node k8 n8 m8 a8 ks8) (kidV k8 n8 m8 a8 (.slice o8 l8 c8))) := TreeAt.below hT hBb
                 have HKr5 : Hid (Kep w wb w.heap.size (kidO 0 [] 0 0 (.slice none 0 0))) := (HKr_.out.sole hp.1 hS).below hBb
                 have kl5 : Kep w w5 w1.heap.size (kidO 8 [] 0 AT (.slice oq N cq)) := HKl_.out.sole hp.1 hS
                 have HKl5 : Hid (Kep w wb w1.heap.size (kidO 8 [] 0 AT (.slice oq N cq))) := kl5.below hBb
                 have hl3 : ListAt (fun b => w.heap.size < b ∧ b ≠ w1.heap.size) wb acc (.slice oq N cq) := (HL_.out.sole (fun b h => by omega) hS).below hBb
                 have HLQ : Hid (∀ q, (Value.slice oq N cq).ownBlock = some q → (w.heap.size < q ∧ q ≠ w1.heap.size) ∧ q < wy.heap.size) := fun q e => HL_.out.own_lt e
                 have HSZ : Hid (w1.heap.size < wy.heap.size ∧ wy.heap.size ≤ w5.heap.size ∧ wb.heap.size = w5.heap.size + 1) := ⟨HKl_.out.lt, hS.size, by rw [← hwb]; simp⟩
                 obtain ⟨xs, how, hAq, hrq⟩ := hl3
                 rw [HN.out.1] at how
                 have HOW : Hid (wb.ownsRow 0 29 5 (.slice oq N cq) N xs) := how
                 have HRQ : Hid (RowV (fun b => (fun b => w.heap.size < b ∧ b ≠ w1.heap.size) b ∧ (Value.slice oq N cq).ownBlock ≠ some b) wb acc xs) := hrq
                 have HNB : Hid (wb.heap[w5.heap.size]? = some (.cells #[.int .i64 k8, .string ⟨n8.toArray⟩, .int .i64 m8, .int .i64 a8, .slice o8 l8 c8] 29 (0, 0))) := by show _ = _; rw [← hwb]; exact heap_alloc_new _ _
                 have u4 := (kid_cells kl5.1).1.2.2.2.2
                 have x4 := (kid_cells HKl5.out.1).1.2.2.2.2
                 clear hT hL hP hS hp hBb how hAq hrq kl5
                 unfold kidV)
              | (refine step_append_lies _ rfl _ _ 27 rfl 0 29 inf (.agg #[.int .i64 0, .string ⟨#[]⟩, .int .i64 0, .int .i64 0, .slice none 0 0]) 5 64 Tryz.underlying27 HI.out.1 HI.out.2.1 HI.out.2.2.1 HI.out.2.2.2 rfl (by decide) (.slice oq N cq) N xs rfl HOW.out ⟨w5.heap.size, 0, none⟩ 1 1 [.int .i64 k8, .string ⟨n8.toArray⟩, .int .i64 m8, .int .i64 a8, .slice o8 l8 c8] rfl rfl (World.news_of_block (cs := #[.int .i64 k8, .string ⟨n8.toArray⟩, .int .i64 m8, .int .i64 a8, .slice o8 l8 c8]) (t := 29) (fr := (0, 0)) HNB.out) (by simp [Value.oneCell']) (by decide) (by have := HN.out; unfold maxLen; omega) (by have := HN.out; omega) (Nat.zero_le _) _ rfl ?_
                 intro gq cq2 w6 hown hgrow hat hlt
                 have hp := HP.out
                 have hsz := HSZ.out
                 have hs5 := HS5.out.size
                 have HP6 : Hid (PP w6 p g cap ts i d full) := HP5.out.grownO hgrow (fun e => by have := HLQ.out p e; omega) (fun e => by have := HLQ.out g e; omega)
                 have HS6 : Hid (Sole p w w6) := HS5.out.grownO hgrow (fun q e => Nat.le_of_lt (HLQ.out q e).1.1)
                 have HKr6 : Hid (Kep w w6 w.heap.size (kidO 0 [] 0 0 (.slice none 0 0))) := HKr5.out.grownO hgrow (fun e => by have := (HLQ.out _ e).1.1; omega)
                 have HKl6 : Hid (Kep w w6 w1.heap.size (kidO 8 [] 0 AT (.slice oq N cq))) := HKl5.out.grownO hgrow (fun e => (HLQ.out _ e).1.2 rfl)
                 have HL6 : Hid (ListAt (fun b => w.heap.size < b ∧ b ≠ w1.heap.size) w6 (acc ++ [(.node k8 n8 m8 a8 ks8)]) (.slice (some ⟨gq, 0, none⟩) (N + 1) cq2)) := by
                   refine listAt_more (sl := .slice oq N cq) (fun q e => (HLQ.out q e).1) HRQ.out (rowV_one (HT8.out.weaken (fun b h => ?_))) (by rw [HN.out.1]; exact hown) hgrow wb.heap.size (Nat.le_refl _) (by have := HKr5.out.lt; omega) ?_
                   · have h1 : wy.heap.size ≤ b := h
                     have h2 := HKr_.out.lt
                     exact ⟨by omega, fun e => by have := (HLQ.out b e).2; omega⟩
                   · rcases hat with e | e
                     · exact Or.inl e.symm
                     · exact Or.inr (by rw [e]; rfl)
                 obtain ⟨⟨j0, j1, j2, j3, j4⟩, ⟨g0, g1, g2, g3, g4⟩⟩ := kid_cells HKl6.out.1
                 clear hown hgrow hat hlt hp hsz hs5))
            all_goals (
              have hp := HP.out
              have hwl2 := HKl6.out.2
              have hwr2 := HKr6.out.lt
              have hne := HNE.out
              have hz6 : ∀ b, b ≠ w1.heap.size → (w6.setCell ⟨w1.heap.size, 4, none⟩ (.slice (some ⟨gq, 0, none⟩) (N + 1) cq2)).heap[b]? = w6.heap[b]? := fun b hb => Below.heap_setCell _ _ _ _ hb
              have HKlc : Hid (Kep w (w6.setCell ⟨w1.heap.size, 4, none⟩ (.slice (some ⟨gq, 0, none⟩) (N + 1) cq2)) w1.heap.size (kidO 8 [] 0 AT (.slice (some ⟨gq, 0, none⟩) (N + 1) cq2))) := ⟨set4_blk HKl6.out.1, HKl6.out.2⟩
              have HKrc : Hid (Kep w (w6.setCell ⟨w1.heap.size, 4, none⟩ (.slice (some ⟨gq, 0, none⟩) (N + 1) cq2)) w.heap.size (kidO 0 [] 0 0 (.slice none 0 0))) := HKr6.out.but hz6 (by omega)
              have HPc : Hid (PP (w6.setCell ⟨w1.heap.size, 4, none⟩ (.slice (some ⟨gq, 0, none⟩) (N + 1) cq2)) p g cap ts i d full) := HP6.out.sole_but (by omega) (by omega) hz6
              have HSc : Hid (Sole p w (w6.setCell ⟨w1.heap.size, 4, none⟩ (.slice (some ⟨gq, 0, none⟩) (N + 1) cq2))) := HS6.out.below_after ((Below.refl _ _).setCell hwl2 _)
              have HLc : Hid (ListAt (fun b => w.heap.size < b ∧ b ≠ w1.heap.size) (w6.setCell ⟨w1.heap.size, 4, none⟩ (.slice (some ⟨gq, 0, none⟩) (N + 1) cq2)) (acc ++ [(.node k8 n8 m8 a8 ks8)]) (.slice (some ⟨gq, 0, none⟩) (N + 1) cq2)) := HL6.out.but (fun b h => h.2) hz6
              generalize w6.setCell ⟨w1.heap.size, 4, none⟩ (.slice (some ⟨gq, 0, none⟩) (N + 1) cq2) = wc at HKlc HKrc HPc HSc HLc ⊢
              clear hp hwl2 hwr2 hne hz6
              have HWA : Hid (Calls Tryz.prog 41 #[.pointer (some ⟨p, 0, none⟩), .slice (some ⟨wc.heap.size, 0, none⟩) 1 1] (wc.alloc (.cells #[.string ⟨#[58]⟩] 9)) (PPost p g cap ts d unitIs ((PSof ts i full).want [58]) wc)) := want_one p g cap ts HE.out i d full [58] (by simp) wc HPc.out
              obtain ⟨ru, hru⟩ : ∃ r, (PSof ts i full).want [58] = r := ⟨_, rfl⟩
              have HR3 : Hid (R = ru.bind fun _ s => (casesP (65 - N) (acc ++ [(.node k8 n8 m8 a8 ks8)]) s).bind fun l s => (fieldP B s).bind fun t s => Ans.ok (Tree.node 8 [] 0 AT (l ++ [t])) s) := by
                show _ = _
                rw [HR2.out]; rw [← hru]; exact ans_assoc ((PSof ts i full).want [58]) (fun _ s => casesP (65 - N) (acc ++ [(.node k8 n8 m8 a8 ks8)]) s) (fun l s => (fieldP B s).bind fun t s => Ans.ok (Tree.node 8 [] 0 AT (l ++ [t])) s)
              rw [hru] at HWA
              clear hru
              go_wp2_with fail
              refine HWA.out.mono ?_
              cases ru with
              | no why at_ =>
                rintro e w99 ⟨rfl, hS⟩
                have HS99 : Hid (Sole p w w99) := HSc.out.trans hS
                clear hS
                go_wp2
                refine ⟨rfl, ?_⟩
                rw [HR3.out]
                exact ⟨rfl, HS99.out⟩
              | ok u st =>
                rintro e w7 ⟨v, i, full, rfl, rfl, rfl, hP, hS⟩
                have hp := HP.out
                have HP7 : Hid (PP w7 p g cap ts i d full) := hP
                have HS7 : Hid (Sole p w w7) := HSc.out.trans hS
                have HKr7 : Hid (Kep w w7 w.heap.size (kidO 0 [] 0 0 (.slice none 0 0))) := HKrc.out.sole hp.1 hS
                have HKl7 : Hid (Kep w w7 w1.heap.size (kidO 8 [] 0 AT (.slice (some ⟨gq, 0, none⟩) (N + 1) cq2))) := HKlc.out.sole hp.1 hS
                have HL7 : Hid (ListAt (fun b => w.heap.size < b ∧ b ≠ w1.heap.size) w7 (acc ++ [(.node k8 n8 m8 a8 ks8)]) (.slice (some ⟨gq, 0, none⟩) (N + 1) cq2)) := HLc.out.sole (fun b h => by omega) hS
                have hNN := HN.out
                have HR7 : Hid (R = (casesP (66 - (N + 1)) (acc ++ [(.node k8 n8 m8 a8 ks8)]) (PSof ts i full)).bind fun l s => (fieldP B s).bind fun t s => Ans.ok (Tree.node 8 [] 0 AT (l ++ [t])) s) := by
                  show _ = _
                  rw [show 66 - (N + 1) = 65 - N by omega]
                  exact HR3.out
                have HM7 : Hid (sliceLen ((w7.cell? ⟨w1.heap.size, 4, none⟩).getD (.int .i64 0)) = N + 1) := by
                  show _ = _
                  rw [(kid_cells HKl7.out.1).1.2.2.2.2]; rfl
                clear hP hS hp
                go_wp2
                go_roundw
                case rel => exact ⟨acc ++ [(.node k8 n8 m8 a8 ks8)], N + 1, some ⟨gq, 0, none⟩, cq2, i, full, by simp [hNN.1], HLT.out, HP7, HS7, HKr7, HKl7, HL7, HR7⟩
                case measure =>
                  have h1 := HM7.out
                  have h2 := HMR.out
                  have h3 := HLT.out
                  omega)

end Go.Proofs.YteokdknaadckbaaGreatDoor
