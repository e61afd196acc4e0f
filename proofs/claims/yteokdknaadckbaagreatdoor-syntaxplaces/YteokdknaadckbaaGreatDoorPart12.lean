/- The program's parser: a source. Lex, plainly: a fault hangs on what stands up to it. Lex, plainly: tokens with blanks and comments between are taken apart into just these. Lex, plainly: the document's numbers and words are the program's. Bytes: letters, digits, what may stand in a run. Runs; the language's own words, the program's way. -/
import Derived.Test.YteokdknaadckbaaGreatDoorPart11
import Derived.Test.YteokdknaadckbaaGreatDoorPart00
import Derived.Test.YteokdknaadckbaaGreatDoorRows
import Derived.WalkKit
import Derived.Below
namespace Go.Proofs.YteokdknaadckbaaGreatDoor
open Go.RowKit

theorem bld0 (k : Int) (w : World) : (Instr.build 29 #[(0, .int .i64 k)]).run Tryz.prog w = .ok (.agg #[.int .i64 k, .string ⟨#[]⟩, .int .i64 0, .int .i64 0, .slice none 0 0]) w := by kernel_rfl
theorem strict_definition : Strict definitionP :=
  ((strict_want wConst).bind _).ite (fun s => s.sees wConst = true) ((strict_take.bind _).ite (fun s => s.sees wTypedef = true) ((strict_body 8 true).ite (fun s => (s.sees wEnum || s.sees wStruct || s.sees wUnion) = true) ((strict_numbered 10 versionP).ite (fun s => s.sees wProgram = true) (strict_bad 40))))

set_option maxHeartbeats 4000000 in
set_option maxRecDepth 4000 in
theorem source_any (p g cap : Nat) (ts : List Tok) (hE : Ends ts) (d : Int) (hd : d = 0) (i0 : Nat) (full0 : Bool) (w : World) (h : PP w p g cap ts i0 d full0) (hba : BareAt p w) :
    Calls Tryz.prog 26 #[.pointer (some ⟨p, 0, none⟩)] w (PPost p g cap ts d (treeIs w.heap.size) ((sourceP 102 [] (PSof ts i0 full0)).bind fun ks s => Ans.ok (Tree.node 1 [] 0 0 ks) s) w) := by
  have HD : Hid (Keeps p g cap ts d 40 definitionP) := by show Keeps p g cap ts d 40 definitionP; rw [hd]; exact definition_any p g cap ts hE
  have HP : Hid (p < w.heap.size ∧ g < w.heap.size) := ⟨h.plt, h.glt⟩
  have HE : Hid (Ends ts) := hE
  have HBA : Hid (BareAt p w) := hba
  have H : Hid (PP w p g cap ts i0 d full0) := h
  obtain ⟨R, hR⟩ : ∃ R, ((sourceP 102 [] (PSof ts i0 full0)).bind fun ks s => Ans.ok (Tree.node 1 [] 0 0 ks) s) = R := ⟨_, rfl⟩
  rw [hR]
  have HR0 : Hid (R = (sourceP (102 - 0) [] (PSof ts i0 full0)).bind fun ks s => Ans.ok (Tree.node 1 [] 0 0 ks) s) := hR.symm
  obtain ⟨w1, hw1⟩ : ∃ x, w.alloc (.cells #[.int .i64 0, .string ⟨#[]⟩, .int .i64 0, .int .i64 0, .slice none 0 0] 29) = x := ⟨_, rfl⟩
  have b1 : Below w.heap.size w w1 := by rw [← hw1]; exact below_alloc _ _
  have HKa : Hid (Kep w w1 w.heap.size (kidO 0 [] 0 0 (.slice none 0 0))) := by show Kep w w1 _ _; rw [← hw1]; exact Kep.new (Nat.le_refl _) _
  have HBa : Hid (Below w.heap.size w w1) := b1
  have qb := bld0 1
  obtain ⟨inf, hi1, hi2, hi3, hi4⟩ := info29_ex
  have HI : Hid (Tryz.prog.info? 29 = some inf ∧ inf.zero = some (.agg #[.int .i64 0, .string ⟨#[]⟩, .int .i64 0, .int .i64 0, .slice none 0 0]) ∧ inf.size = 5 ∧ inf.bytes = 64) := ⟨hi1, hi2, hi3, hi4⟩
  clear h hba hE hR b1 hi1 hi2 hi3 hi4 hd
  go_enter Tryz.func26, Tryz.ntmps26
  go_wp2
  clear hw1
  have hb01 := HBa.out
  obtain ⟨w2, hw2⟩ : ∃ x, w1.alloc (.cells #[.int .i64 1, .string ⟨#[]⟩, .int .i64 0, .int .i64 0, .slice none 0 0] 29) = x := ⟨_, rfl⟩
  have hB2 : Below w1.heap.size w1 w2 := by rw [← hw2]; exact below_alloc _ _
  have HP2 : Hid (PP w2 p g cap ts i0 d full0) := (H.out.below hb01).below hB2
  have HS2 : Hid (Sole p w w2) := (Sole.of_below hb01).trans (Sole.of_below hB2)
  have HKr2 : Hid (Kep w w2 w.heap.size (kidO 0 [] 0 0 (.slice none 0 0))) := HKa.out.below hB2
  have HKl2 : Hid (Kep w w2 w1.heap.size (kidO 1 [] 0 0 (.slice none 0 0))) := by show Kep w w2 _ _; rw [← hw2]; exact Kep.new hb01.size _
  have HNE : Hid (w.heap.size < w1.heap.size) := HKa.out.lt
  rw [hw2]
  clear hb01 hB2 hw2 qb
  go_loopw [] (fun wr => ∃ (acc : List Tree) (N : Nat) (oq : Option Addr) (cq : Nat) (ix : Nat) (full : Bool), acc.length = N ∧ N ≤ 100 ∧ Hid (PP wr p g cap ts ix d full) ∧ Hid (Sole p w wr) ∧ Hid (Kep w wr w.heap.size (kidO 0 [] 0 0 (.slice none 0 0))) ∧ Hid (Kep w wr w1.heap.size (kidO 1 [] 0 0 (.slice oq N cq))) ∧ Hid (ListAt (fun b => w.heap.size < b ∧ b ≠ w1.heap.size) wr acc (.slice oq N cq)) ∧ Hid (R = (sourceP (102 - N) acc (PSof ts ix full)).bind fun ks s => Ans.ok (Tree.node 1 [] 0 0 ks) s)) (fun wr => 101 - sliceLen ((wr.cell? ⟨w1.heap.size, 4, none⟩).getD (.int .i64 0)))
  case atStart => exact ⟨[], 0, none, 0, i0, full0, rfl, by omega, HP2, HS2, HKr2, HKl2, listAt_nil, HR0⟩
  case round =>
    obtain ⟨acc, N, oq, cq, ix, full, hN1, hN2, HPr, HSr, HKrr, HKlr, HLr, HRr⟩ := hrel
    have HN : Hid (acc.length = N ∧ N ≤ 100) := ⟨hN1, hN2⟩
    have HMR : Hid (sliceLen ((wr.cell? ⟨w1.heap.size, 4, none⟩).getD (.int .i64 0)) = N) := by
      show _ = _
      rw [(kid_cells HKlr.out.1).1.2.2.2.2]; rfl
    obtain ⟨tk, htk⟩ : ∃ x, ts[ix]'HPr.out.il = x := ⟨_, rfl⟩
    have HST : Hid (R = (if tk.kind = 5 then .ok acc (PSof ts ix full) else (definitionP ((PSof ts ix full).room N 100)).bind fun t s => (s.want [59]).bind fun _ s => sourceP (101 - N) (acc ++ [t]) s).bind fun ks s => Ans.ok (Tree.node 1 [] 0 0 ks) s) := by
      show _ = _
      rw [HRr.out, show 102 - N = (101 - N) + 1 by omega, sourceP, hN1, PSof_hd ts ix full HPr.out.il, htk]
    have HT0 : Hid (Calls Tryz.prog 38 #[.pointer (some ⟨p, 0, none⟩)] wr fun e w' => e = .returned (.agg #[.int .i64 tk.kind, .string ⟨tk.text.toArray⟩, .int .i64 tk.num, .int .i64 tk.at_]) ∧ Below wr.heap.size wr w') := by
      have hx := token_any p g cap ts ix d full wr HPr.out
      rw [htk] at hx
      exact hx
    have q0 := fld0 tk.kind tk.num tk.at_ ⟨tk.text.toArray⟩
    clear hN1 hN2 htk
    by_cases hk5 : tk.kind = 5
    · have hkn : (tk.kind != 5) = false := by simp [hk5]
      have HRE : Hid (R = .ok (.node 1 [] 0 0 acc) (PSof ts ix full)) := by
        show _ = _
        rw [HST.out, if_pos hk5]; rfl
      clear hk5
      go_wp2_with fail
      refine HT0.out.mono ?_
      rintro e wc ⟨rfl, hB⟩
      have HPc : Hid (PP wc p g cap ts ix d full) := HPr.out.below hB
      have HSc : Hid (Sole p w wc) := HSr.out.trans (Sole.of_below hB)
      have HKrc : Hid (Kep w wc w.heap.size (kidO 0 [] 0 0 (.slice none 0 0))) := HKrr.out.below hB
      have HLc : Hid (ListAt (fun b => w.heap.size < b ∧ b ≠ w1.heap.size) wc acc (.slice oq N cq)) := HLr.out.below hB
      obtain ⟨⟨s0, s1, s2, s3, s4⟩, _⟩ := kid_cells (HKlr.out.below hB).1
      clear hB
      obtain ⟨⟨z0, z1, z2, z3, z4⟩, ⟨y0, y1, y2, y3, y4⟩⟩ := kid_cells HKrc.out.1
      go_wp2
      have q := res5 wc w.heap.size (.int .i64 1) (.string ⟨#[]⟩) (.int .i64 0) (.int .i64 0) (.slice oq N cq) z0 z1 z2 z3 z4
      have hf := fin5 (r := w.heap.size) (w9 := wc) (k := 1) (n := []) (m := 0) (a := 0) (sl := (.slice oq N cq)) HKrc.out.2 HSc.out _ rfl
      generalize ((((wc.setCell ⟨w.heap.size, 0, none⟩ (.int .i64 1)).setCell ⟨w.heap.size, 1, none⟩ (.string ⟨#[]⟩)).setCell ⟨w.heap.size, 2, none⟩ (.int .i64 0)).setCell ⟨w.heap.size, 3, none⟩ (.int .i64 0)).setCell ⟨w.heap.size, 4, none⟩ (.slice oq N cq) = wz at q hf ⊢
      obtain ⟨q0, q1, q2, q3, q4⟩ := q
      refine bodyPost_ret (v := .agg #[.int .i64 1, .string ⟨#[]⟩, .int .i64 0, .int .i64 0, (.slice oq N cq)]) (by simp [results, Tryz.results26, go_sem, q0, q1, q2, q3, q4]) rfl ?_
      rw [HRE.out]
      have hr2 := HKrc.out.2
      have hpg := HP.out
      exact ⟨_, _, _, rfl, node_fin HLc.out (fun b h => Nat.le_of_lt h.1) (fun b h => Nat.ne_of_gt h.1) hf.2, rfl, HPc.out.sole_but (by omega) (by omega) hf.2, hf.1⟩
    · have hkn : (tk.kind != 5) = true := by simp [hk5]
      have HGO : Hid (R = ((definitionP ((PSof ts ix full).room N 100)).bind fun t s => (s.want [59]).bind fun _ s => sourceP (101 - N) (acc ++ [t]) s).bind fun ks s => Ans.ok (Tree.node 1 [] 0 0 ks) s) := by
        show _ = _
        rw [HST.out, if_neg hk5]
      clear hk5
      go_wp2_with fail
      refine HT0.out.mono ?_
      rintro e wv ⟨rfl, hB⟩
      have HPv : Hid (PP wv p g cap ts ix d full) := HPr.out.below hB
      have HSv : Hid (Sole p w wv) := HSr.out.trans (Sole.of_below hB)
      have HKrv : Hid (Kep w wv w.heap.size (kidO 0 [] 0 0 (.slice none 0 0))) := HKrr.out.below hB
      have HKlv : Hid (Kep w wv w1.heap.size (kidO 1 [] 0 0 (.slice oq N cq))) := HKlr.out.below hB
      have HLv : Hid (ListAt (fun b => w.heap.size < b ∧ b ≠ w1.heap.size) wv acc (.slice oq N cq)) := HLr.out.below hB
      have HRM : Hid (Calls Tryz.prog 39 #[.pointer (some ⟨p, 0, none⟩), .int .i64 N, .int .i64 100] wv fun e w' => e = .returned (.tuple #[]) ∧ PP w' p g cap ts ix d (roomF full N 100) ∧ Sole p wv w' ∧ w'.heap.size = wv.heap.size) := room_any p g cap ts ix d full N 100 wv HPv.out
      obtain ⟨⟨p0, p1, p2, p3, p4⟩, _⟩ := kid_cells HKlv.out.1
      clear hB
      go_wp2_with fail
      refine HRM.out.mono ?_
      rintro e wy ⟨rfl, hP, hS, hz2⟩
      obtain ⟨fullx, hfx⟩ : ∃ x, roomF full N 100 = x := ⟨_, rfl⟩
      have HFX : Hid (roomF full N 100 = fullx) := hfx
      rw [hfx] at hP
      have hp := HP.out
      have HS_ : Hid (Sole p w wy) := HSv.out.trans hS
      have HKr_ : Hid (Kep w wy w.heap.size (kidO 0 [] 0 0 (.slice none 0 0))) := HKrv.out.sole hp.1 hS
      have HKl_ : Hid (Kep w wy w1.heap.size (kidO 1 [] 0 0 (.slice oq N cq))) := HKlv.out.sole hp.1 hS
      have HL_ : Hid (ListAt (fun b => w.heap.size < b ∧ b ≠ w1.heap.size) wy acc (.slice oq N cq)) := HLv.out.sole (fun b h => by omega) hS
      obtain ⟨rv, hrv⟩ : ∃ r, definitionP (PSof ts ix fullx) = r := ⟨_, rfl⟩
      have HR2 : Hid (R = (rv.bind fun t s => (s.want [59]).bind fun _ s => sourceP (101 - N) (acc ++ [t]) s).bind fun ks s => Ans.ok (Tree.node 1 [] 0 0 ks) s) := by
        show _ = _
        rw [HGO.out, PSof_room, HFX.out, hrv]
      have HLXX : Hid (∀ t s, rv = .ok t s → N + 1 ≤ 100) := fun t s e => by
        rcases Nat.lt_or_ge N 100 with h1 | h1
        · exact h1
        · have hNN := HN.out
          have hN64 : N = 100 := by omega
          obtain ⟨x, y, hx⟩ := strict_definition (PSof ts ix fullx) (by rw [PSof_full, ← HFX.out]; unfold roomF; simp [hN64])
          rw [← hrv, hx] at e
          cases e
      have HVB : Hid (∀ m, Calls Tryz.prog 40 #[.pointer (some ⟨p, 0, none⟩)] (wy.drewN m) (PPost p g cap ts d (treeIs wy.heap.size) rv wy)) := fun m => by
        have hB : Below wy.heap.size wy (wy.drewN m) := below_drew (Below.refl _ _) m
        rw [← hrv]
        exact (HD.out ix fullx _ (hP.below hB) ((HBA.out.sole HS_.out).below hB)).mono fun e w' hp => PPost.from_below hB hp
      obtain ⟨⟨l0, l1, l2, l3, l4⟩, ⟨f0, f1, f2, f3, f4⟩⟩ := kid_cells HKl_.out.1
      clear hP hS hz2 hp hrv hfx p0 p1 p2 p3 p4
      go_wp2_with fail
      cases rv with
      | no why at_ =>
        go_region_dies
        all_goals (
          refine (HVB.out _).mono ?_
          rintro e w9 ⟨rfl, hS⟩
          refine ⟨rfl, ?_⟩
          rw [HR2.out]
          exact ⟨rfl, HS_.out.trans hS⟩)
      | ok tv st =>
        have HLT : Hid (N + 1 ≤ 100) := HLXX.out _ _ rfl
        obtain ⟨k8, n8, m8, a8, ks8⟩ := tv
        go_region_law (first
          | (refine step_calls rfl 40 #[.pointer (some ⟨p, 0, none⟩)] (by go_simp) _ (HVB.out _) ?_
             rintro e w5 ⟨v, i, full, rfl, hT, rfl, hP, hS⟩
             refine ⟨_, rfl, ?_⟩
             obtain ⟨sl, rfl, hL⟩ := treeAt_node.1 hT
             obtain ⟨o8, l8, c8, rfl⟩ := hL.shape
             have hp := HP.out
             obtain ⟨wb, hwb⟩ : ∃ x, w5.alloc (.cells #[.int .i64 k8, .string ⟨n8.toArray⟩, .int .i64 m8, .int .i64 a8, .slice o8 l8 c8] 29) = x := ⟨_, rfl⟩
             have HWB : Hid (w5.alloc (.cells #[.int .i64 k8, .string ⟨n8.toArray⟩, .int .i64 m8, .int .i64 a8, .slice o8 l8 c8] 29) = wb) := hwb
             have hBb : Below w5.heap.size w5 wb := by rw [← hwb]; exact below_alloc _ _
             have HP5 : Hid (PP wb p g cap ts i d full) := hP.below hBb
             have HS5 : Hid (Sole p w wb) := (HS_.out.trans hS).trans (Sole.of_below hBb)
             have HT8 : Hid (TreeAt (Fresh wy.heap.size) wb (.node k8 n8 m8 a8 ks8) (kidV k8 n8 m8 a8 (.slice o8 l8 c8))) := TreeAt.below hT hBb
             have HKr5 : Hid (Kep w wb w.heap.size (kidO 0 [] 0 0 (.slice none 0 0))) := (HKr_.out.sole hp.1 hS).below hBb
             have kl5 : Kep w w5 w1.heap.size (kidO 1 [] 0 0 (.slice oq N cq)) := HKl_.out.sole hp.1 hS
             have HKl5 : Hid (Kep w wb w1.heap.size (kidO 1 [] 0 0 (.slice oq N cq))) := kl5.below hBb
             have hl3 : ListAt (fun b => w.heap.size < b ∧ b ≠ w1.heap.size) wb acc (.slice oq N cq) := (HL_.out.sole (fun b h => by omega) hS).below hBb
             have HLQ : Hid (∀ q, (Value.slice oq N cq).ownBlock = some q → (w.heap.size < q ∧ q ≠ w1.heap.size) ∧ q < wy.heap.size) := fun q e => HL_.out.own_lt e
             have HSZ : Hid (w1.heap.size < wy.heap.size ∧ wy.heap.size ≤ w5.heap.size ∧ wb.heap.size = w5.heap.size + 1) := ⟨HKl_.out.lt, hS.size, by rw [← hwb]; simp⟩
             obtain ⟨xs, how, hAq, hrq⟩ := hl3
             rw [HN.out.1] at how
             have HOW : Hid (wb.ownsRow 0 29 5 (.slice oq N cq) N xs) := how
             have HRQ : Hid (RowV (fun b => (fun b => w.heap.size < b ∧ b ≠ w1.heap.size) b ∧ (Value.slice oq N cq).ownBlock ≠ some b) wb acc xs) := hrq
             have HNB : Hid (wb.heap[w5.heap.size]? = some (.cells #[.int .i64 k8, .string ⟨n8.toArray⟩, .int .i64 m8, .int .i64 a8, .slice o8 l8 c8] 29 (0, 0))) := by show _ = _; rw [← hwb]; exact heap_alloc_new _ _
             have u4 := (kid_cells kl5.1).1.2.2.2.2
             have x4 := (kid_cells HKl5.out.1).1.2.2.2.2
             clear hT hL hP hS hp hBb how hAq hrq kl5
             unfold kidV)
          | (refine step_append_lies _ rfl _ _ 27 rfl 0 29 inf (.agg #[.int .i64 0, .string ⟨#[]⟩, .int .i64 0, .int .i64 0, .slice none 0 0]) 5 64 Tryz.underlying27 HI.out.1 HI.out.2.1 HI.out.2.2.1 HI.out.2.2.2 rfl (by decide) (.slice oq N cq) N xs rfl HOW.out ⟨w5.heap.size, 0, none⟩ 1 1 [.int .i64 k8, .string ⟨n8.toArray⟩, .int .i64 m8, .int .i64 a8, .slice o8 l8 c8] rfl rfl (World.news_of_block (cs := #[.int .i64 k8, .string ⟨n8.toArray⟩, .int .i64 m8, .int .i64 a8, .slice o8 l8 c8]) (t := 29) (fr := (0, 0)) HNB.out) (by simp [Value.oneCell']) (by decide) (by have := HN.out; unfold maxLen; omega) (by have := HN.out; omega) (Nat.zero_le _) _ rfl ?_
             intro gq cq2 w6 hown hgrow hat hlt
             have hp := HP.out
             have hsz := HSZ.out
             have hs5 := HS5.out.size
             have HP6 : Hid (PP w6 p g cap ts i d full) := HP5.out.grownO hgrow (fun e => by have := HLQ.out p e; omega) (fun e => by have := HLQ.out g e; omega)
             have HS6 : Hid (Sole p w w6) := HS5.out.grownO hgrow (fun q e => Nat.le_of_lt (HLQ.out q e).1.1)
             have HKr6 : Hid (Kep w w6 w.heap.size (kidO 0 [] 0 0 (.slice none 0 0))) := HKr5.out.grownO hgrow (fun e => by have := (HLQ.out _ e).1.1; omega)
             have HKl6 : Hid (Kep w w6 w1.heap.size (kidO 1 [] 0 0 (.slice oq N cq))) := HKl5.out.grownO hgrow (fun e => (HLQ.out _ e).1.2 rfl)
             have HL6 : Hid (ListAt (fun b => w.heap.size < b ∧ b ≠ w1.heap.size) w6 (acc ++ [(.node k8 n8 m8 a8 ks8)]) (.slice (some ⟨gq, 0, none⟩) (N + 1) cq2)) := by
               refine listAt_more (sl := .slice oq N cq) (fun q e => (HLQ.out q e).1) HRQ.out (rowV_one (HT8.out.weaken (fun b h => ?_))) (by rw [HN.out.1]; exact hown) hgrow wb.heap.size (Nat.le_refl _) (by have := HKr5.out.lt; omega) ?_
               · have h1 : wy.heap.size ≤ b := h
                 have h2 := HKr_.out.lt
                 exact ⟨by omega, fun e => by have := (HLQ.out b e).2; omega⟩
               · rcases hat with e | e
                 · exact Or.inl e.symm
                 · exact Or.inr (by rw [e]; rfl)
             obtain ⟨⟨j0, j1, j2, j3, j4⟩, ⟨g0, g1, g2, g3, g4⟩⟩ := kid_cells HKl6.out.1
             clear hown hgrow hat hlt hp hsz hs5))
        all_goals (
          have hp := HP.out
          have hwl2 := HKl6.out.2
          have hwr2 := HKr6.out.lt
          have hne := HNE.out
          have hz6 : ∀ b, b ≠ w1.heap.size → (w6.setCell ⟨w1.heap.size, 4, none⟩ (.slice (some ⟨gq, 0, none⟩) (N + 1) cq2)).heap[b]? = w6.heap[b]? := fun b hb => Below.heap_setCell _ _ _ _ hb
          have HKlc : Hid (Kep w (w6.setCell ⟨w1.heap.size, 4, none⟩ (.slice (some ⟨gq, 0, none⟩) (N + 1) cq2)) w1.heap.size (kidO 1 [] 0 0 (.slice (some ⟨gq, 0, none⟩) (N + 1) cq2))) := ⟨set4_blk HKl6.out.1, HKl6.out.2⟩
          have HKrc : Hid (Kep w (w6.setCell ⟨w1.heap.size, 4, none⟩ (.slice (some ⟨gq, 0, none⟩) (N + 1) cq2)) w.heap.size (kidO 0 [] 0 0 (.slice none 0 0))) := HKr6.out.but hz6 (by omega)
          have HPc : Hid (PP (w6.setCell ⟨w1.heap.size, 4, none⟩ (.slice (some ⟨gq, 0, none⟩) (N + 1) cq2)) p g cap ts i d full) := HP6.out.sole_but (by omega) (by omega) hz6
          have HSc : Hid (Sole p w (w6.setCell ⟨w1.heap.size, 4, none⟩ (.slice (some ⟨gq, 0, none⟩) (N + 1) cq2))) := HS6.out.below_after ((Below.refl _ _).setCell hwl2 _)
          have HLc : Hid (ListAt (fun b => w.heap.size < b ∧ b ≠ w1.heap.size) (w6.setCell ⟨w1.heap.size, 4, none⟩ (.slice (some ⟨gq, 0, none⟩) (N + 1) cq2)) (acc ++ [(.node k8 n8 m8 a8 ks8)]) (.slice (some ⟨gq, 0, none⟩) (N + 1) cq2)) := HL6.out.but (fun b h => h.2) hz6
          generalize w6.setCell ⟨w1.heap.size, 4, none⟩ (.slice (some ⟨gq, 0, none⟩) (N + 1) cq2) = wc at HKlc HKrc HPc HSc HLc ⊢
          clear hp hwl2 hwr2 hne hz6
          have HWA : Hid (Calls Tryz.prog 41 #[.pointer (some ⟨p, 0, none⟩), .slice (some ⟨wc.heap.size, 0, none⟩) 1 1] (wc.alloc (.cells #[.string ⟨#[59]⟩] 9)) (PPost p g cap ts d unitIs ((PSof ts i full).want [59]) wc)) := want_one p g cap ts HE.out i d full [59] (by simp) wc HPc.out
          obtain ⟨ru, hru⟩ : ∃ r, (PSof ts i full).want [59] = r := ⟨_, rfl⟩
          have HR3 : Hid (R = ru.bind fun _ s => (sourceP (101 - N) (acc ++ [(.node k8 n8 m8 a8 ks8)]) s).bind fun ks s => Ans.ok (Tree.node 1 [] 0 0 ks) s) := by
            show _ = _
            rw [HR2.out]; rw [← hru]; exact ans_assoc ((PSof ts i full).want [59]) (fun _ s => sourceP (101 - N) (acc ++ [(.node k8 n8 m8 a8 ks8)]) s) (fun ks s => Ans.ok (Tree.node 1 [] 0 0 ks) s)
          rw [hru] at HWA
          clear hru
          go_wp2_with fail
          refine HWA.out.mono ?_
          cases ru with
          | no why at_ =>
            rintro e w99 ⟨rfl, hS⟩
            have HS99 : Hid (Sole p w w99) := HSc.out.trans hS
            clear hS
            go_wp2
            refine ⟨rfl, ?_⟩
            rw [HR3.out]
            exact ⟨rfl, HS99.out⟩
          | ok u st =>
            rintro e w7 ⟨v, i, full, rfl, rfl, rfl, hP, hS⟩
            have hp := HP.out
            have HP7 : Hid (PP w7 p g cap ts i d full) := hP
            have HS7 : Hid (Sole p w w7) := HSc.out.trans hS
            have HKr7 : Hid (Kep w w7 w.heap.size (kidO 0 [] 0 0 (.slice none 0 0))) := HKrc.out.sole hp.1 hS
            have HKl7 : Hid (Kep w w7 w1.heap.size (kidO 1 [] 0 0 (.slice (some ⟨gq, 0, none⟩) (N + 1) cq2))) := HKlc.out.sole hp.1 hS
            have HL7 : Hid (ListAt (fun b => w.heap.size < b ∧ b ≠ w1.heap.size) w7 (acc ++ [(.node k8 n8 m8 a8 ks8)]) (.slice (some ⟨gq, 0, none⟩) (N + 1) cq2)) := HLc.out.sole (fun b h => by omega) hS
            have hNN := HN.out
            have HR7 : Hid (R = (sourceP (102 - (N + 1)) (acc ++ [(.node k8 n8 m8 a8 ks8)]) (PSof ts i full)).bind fun ks s => Ans.ok (Tree.node 1 [] 0 0 ks) s) := by
              show _ = _
              rw [show 102 - (N + 1) = 101 - N by omega]
              exact HR3.out
            have HM7 : Hid (sliceLen ((w7.cell? ⟨w1.heap.size, 4, none⟩).getD (.int .i64 0)) = N + 1) := by
              show _ = _
              rw [(kid_cells HKl7.out.1).1.2.2.2.2]; rfl
            clear hP hS hp
            go_wp2
            go_roundw
            case rel => exact ⟨acc ++ [(.node k8 n8 m8 a8 ks8)], N + 1, some ⟨gq, 0, none⟩, cq2, i, full, by simp [hNN.1], HLT.out, HP7, HS7, HKr7, HKl7, HL7, HR7⟩
            case measure =>
              have h1 := HM7.out
              have h2 := HMR.out
              have h3 := HLT.out
              omega)
end Go.Proofs.YteokdknaadckbaaGreatDoor
namespace Go.Proofs.YteokdknaadckbaaGreatDoor

inductive Reach (l : List UInt8) : Nat → List Tok → Nat → List Tok → Prop
  | refl {i ts} : Reach l i ts i ts
  | step {i ts t j k us} (h : i < l.length) (hs : stepS l i = .go t j) (hr : Reach l j (ts ++ t.toList) k us) : Reach l i ts k us

theorem Reach.scans {l : List UInt8} {i k : Nat} {ts us : List Tok} {R : Res} (h : Reach l i ts k us) (hR : Scans l k us R) : Scans l i ts R := by
  induction h with
  | refl => exact hR
  | step h hs _ ih => exact .go h hs (ih hR)

theorem Reach.trans {l : List UInt8} {i k m : Nat} {ts us vs : List Tok} (h : Reach l i ts k us) (h2 : Reach l k us m vs) : Reach l i ts m vs := by
  induction h with
  | refl => exact h2
  | step h hs _ ih => exact .step h hs (ih h2)

theorem reach_of_err {l : List UInt8} {i p : Nat} {ts : List Tok} {e : Int} {R : Res} (h : Scans l i ts R) (hR : R = .err e p) : ∃ us, Reach l i ts p us ∧ p < l.length ∧ stepS l p = .err e := by
  induction h with
  | done _ => cases hR
  | err h hs => cases hR; exact ⟨_, .refl, h, hs⟩
  | go h hs _ ih => obtain ⟨us, h1, h2⟩ := ih hR; exact ⟨us, .step h hs h1, h2⟩

theorem ok_last {l : List UInt8} {i : Nat} {ts vs : List Tok} {R : Res} (h : Scans l i ts R) (hR : R = .ok vs) : ∃ us, vs = us ++ [⟨5, [], 0, l.length⟩] := by
  induction h with
  | done _ => cases hR; exact ⟨_, rfl⟩
  | err _ _ => cases hR
  | go _ _ _ ih => exact ih hR

theorem runEnd_not {l : List UInt8} {i : Nat} (h : i ≤ l.length) : runB (l.getD (runEnd l i) 0) = false := by
  obtain ⟨d, hd⟩ : ∃ d, l.length = i + d := ⟨l.length - i, by omega⟩
  clear h
  induction d generalizing i with
  | zero =>
    have h0 : runB (l.getD i 0) = false := by rw [getD_ge (by omega)]; decide
    rw [runEnd_stop h0]; exact h0
  | succ d ih =>
    cases hr : runB (l.getD i 0)
    · rw [runEnd_stop hr]; exact hr
    · rw [runEnd_go hr]; exact ih (by omega)

theorem runEnd_run {l : List UInt8} {i j : Nat} (h1 : i ≤ j) (h2 : j < runEnd l i) : runB (l.getD j 0) = true := by
  obtain ⟨d, rfl⟩ : ∃ d, j = i + d := ⟨j - i, by omega⟩
  clear h1
  induction d generalizing i with
  | zero =>
    cases hr : runB (l.getD i 0)
    · rw [runEnd_stop hr] at h2; omega
    · rfl
  | succ d ih =>
    have hr : runB (l.getD i 0) = true := by
      cases hr : runB (l.getD i 0)
      · rw [runEnd_stop hr] at h2; omega
      · rfl
    rw [show i + (d + 1) = i + 1 + d by omega]
    exact ih (by rw [← runEnd_go hr]; omega)

theorem cend_some {l : List UInt8} {i j : Nat} (h : cend l i = some j) : i + 2 ≤ j ∧ j ≤ l.length ∧ l.getD (j - 2) 0 = 42 ∧ l.getD (j - 1) 0 = 47 ∧ ∀ k, i ≤ k → k < j - 2 → ¬ (l.getD k 0 = 42 ∧ l.getD (k + 1) 0 = 47) := by
  obtain ⟨d, hd⟩ : ∃ d, l.length ≤ i + d := ⟨l.length, by omega⟩
  induction d generalizing i with
  | zero => rw [cend_none_of (by omega)] at h; cases h
  | succ d ih =>
    by_cases hc : l.getD i 0 = 42 ∧ l.getD (i + 1) 0 = 47
    · rw [cend_here hc.1 hc.2] at h
      cases h
      have hl : i + 1 < l.length := by
        rcases Nat.lt_or_ge (i + 1) l.length with h | h
        · exact h
        · have := hc.2; rw [getD_ge h] at this; cases this
      exact ⟨by omega, by omega, hc.1, hc.2, fun k h1 h2 => by omega⟩
    · rw [cend_next hc] at h
      obtain ⟨h1, h2, h3, h4, h5⟩ := ih h (by omega)
      refine ⟨by omega, h2, h3, h4, fun k h6 h7 => ?_⟩
      rcases Nat.lt_or_ge i k with h8 | h8
      · exact h5 k (by omega) h7
      · rw [show k = i by omega]; exact hc

theorem cend_is {l : List UInt8} {i j : Nat} (h1 : i + 2 ≤ j) (h2 : l.getD (j - 2) 0 = 42) (h3 : l.getD (j - 1) 0 = 47) (h : ∀ k, i ≤ k → k < j - 2 → ¬ (l.getD k 0 = 42 ∧ l.getD (k + 1) 0 = 47)) : cend l i = some j := by
  obtain ⟨d, rfl⟩ : ∃ d, j = i + 2 + d := ⟨j - (i + 2), by omega⟩
  clear h1
  induction d generalizing i with
  | zero => exact cend_here h2 h3
  | succ d ih =>
    rw [cend_next (h i (by omega) (by omega))]
    rw [show i + 2 + (d + 1) = i + 1 + 2 + d by omega] at h2 h3 h ⊢
    exact ih h2 h3 fun k h6 h7 => h k (by omega) h7

theorem step_lt {l : List UInt8} {i j : Nat} {t : Option Tok} (h : i < l.length) (hs : stepS l i = .go t j) : i < j ∧ j ≤ l.length := by
  unfold stepS at hs
  split at hs
  · cases hs; omega
  split at hs
  · split at hs
    · cases hs
    · rename_i hc; cases hs; have := cend_some hc; omega
  split at hs
  · rename_i hl
    have h1 := runEnd_go (let_not hl).2.2.2.2.2
    have h2 := runEnd_le (l := l) (i := i + 1) (by omega)
    split at hs
    · cases hs
    · cases hs; omega
  split at hs
  · rename_i hd
    have h1 := runEnd_go (dig_not hd).2.2.2.2.2
    have hn : numAt l i < l.length := by
      rcases Nat.lt_or_ge (numAt l i) l.length with h | h
      · exact h
      · rw [getD_ge h] at hd; cases hd
    have hi : i ≤ numAt l i := by unfold numAt; split <;> omega
    have h2 := runEnd_le (l := l) (i := numAt l i + 1) (by omega)
    split at hs
    · cases hs
    · cases hs; omega
  split at hs
  · cases hs; omega
  · cases hs

theorem Reach.le {l : List UInt8} {i k : Nat} {ts us : List Tok} (h : Reach l i ts k us) : i ≤ k := by
  induction h with
  | refl => exact Nat.le_refl _
  | step h hs _ ih => have := step_lt h hs; omega

theorem sub_same {l l' : List UInt8} {i j : Nat} (h : ∀ k, k < j → l'.getD k 0 = l.getD k 0) (h1 : j ≤ l.length) (h2 : j ≤ l'.length) : sub l' i j = sub l i j := by
  unfold sub
  apply List.ext_getElem?
  intro k
  rw [List.getElem?_take, List.getElem?_take, List.getElem?_drop, List.getElem?_drop]
  split
  · have e := h (i + k) (by omega)
    rw [getD_lt (by omega), getD_lt (by omega)] at e
    rw [List.getElem?_eq_getElem (by omega), List.getElem?_eq_getElem (by omega), e]
  · rfl

theorem runEnd_same {l l' : List UInt8} {i j : Nat} (hi : i ≤ j) (h : ∀ k, k < j → l'.getD k 0 = l.getD k 0) (he : runEnd l i = j) (hb : runB (l'.getD j 0) = false) : runEnd l' i = j := by
  rw [runEnd_to (k := j) hi fun k h1 h2 => ?_, runEnd_stop hb]
  rw [h k h2]; exact runEnd_run h1 (by omega)

theorem step_same {l l' : List UInt8} {i j p : Nat} {t : Option Tok} (hi : i < l.length) (hs : stepS l i = .go t j) (ha : ∀ k, k < p → l'.getD k 0 = l.getD k 0) (hp : p ≤ l'.length) (hj : j ≤ p)
    (hb : l'.getD p 0 = l.getD p 0 ∨ l'.length = p) : stepS l' i = .go t j := by
  have hlt := step_lt hi hs
  have ei : l'.getD i 0 = l.getD i 0 := ha i (by omega)
  have stop : runB (l.getD j 0) = false → runB (l'.getD j 0) = false := fun h => by
    rcases Nat.lt_or_ge j p with h1 | h1
    · rw [ha j h1]; exact h
    · obtain rfl : j = p := by omega
      rcases hb with hb | hb
      · rw [hb]; exact h
      · rw [getD_ge (by omega)]; decide
  have en : numAt l' i = numAt l i := by unfold numAt; rw [ei]
  unfold stepS at hs
  unfold stepS
  rw [ei, en]
  split at hs
  · rename_i h; rw [if_pos h]; exact hs
  rename_i h; rw [if_neg h]
  split at hs
  · rename_i h
    split at hs
    · cases hs
    · rename_i hc
      cases hs
      obtain ⟨h1, h2, h3, h4, h5⟩ := cend_some hc
      rw [if_pos ⟨h.1, by rw [ha (i + 1) (by omega)]; exact h.2⟩]
      rw [cend_is (l := l') (i := i + 2) (j := j) h1 (by rw [ha _ (by omega)]; exact h3) (by rw [ha _ (by omega)]; exact h4) fun k h6 h7 => by
        rw [ha k (by omega), ha (k + 1) (by omega)]; exact h5 k h6 h7]
  split at hs
  · rename_i hc hl
    rw [if_neg (fun h => (let_not hl).2.1 h.1), if_pos hl]
    split at hs
    · cases hs
    · rename_i h32
      have hj2 : runEnd l i = j := by cases hs; rfl
      have e1 : runEnd l' i = j := runEnd_same (by omega) (fun k hk => ha k (by omega)) hj2 (stop (by rw [← hj2]; exact runEnd_not (by omega)))
      rw [hj2] at hs h32
      rw [e1, if_neg h32, sub_same (fun k hk => ha k (by omega)) (by omega) (by omega)]
      exact hs
  split at hs
  · rename_i hc hl hd
    have h45 : numAt l i < j := by
      have hn : numAt l i < l.length := by
        rcases Nat.lt_or_ge (numAt l i) l.length with h | h
        · exact h
        · rw [getD_ge h] at hd; cases hd
      have h1 := runEnd_go (dig_not hd).2.2.2.2.2
      have h2 := runEnd_le (l := l) (i := numAt l i + 1) (by omega)
      split at hs
      · cases hs
      · cases hs; omega
    have hn47 : ¬ (l.getD i 0 = 47 ∧ l'.getD (i + 1) 0 = 42) := fun h => by
      have : numAt l i = i := by unfold numAt; rw [h.1]; rfl
      rw [this, h.1] at hd; cases hd
    rw [if_neg hn47, if_neg hl, ha _ (by omega), if_pos hd]
    split at hs
    · cases hs
    · rename_i n hn
      have hj2 : runEnd l (numAt l i) = j := by cases hs; rfl
      have hi2 : numAt l i ≤ l.length := by omega
      have e1 : runEnd l' (numAt l i) = j := runEnd_same (by omega) (fun k hk => ha k (by omega)) hj2 (stop (by rw [← hj2]; exact runEnd_not hi2))
      rw [hj2] at hn hs
      rw [e1, sub_same (fun k hk => ha k (by omega)) (by omega) (by omega), hn]
      exact hs
  split at hs
  · rename_i hc hl hd hsg
    have hb2 := sign_not hsg
    have hn : numAt l i = i := by unfold numAt; rw [if_neg hb2.2.2.2.1]
    rw [if_neg (fun h => hb2.2.1 h.1), if_neg hl, hn, ei, if_neg (by rw [hb2.2.2.2.2.1]; decide), if_pos hsg]
    have hj2 : i + 1 = j := by cases hs; rfl
    rw [sub_same (fun k hk => ha k (by omega)) (by omega) (by omega)]
    exact hs
  · cases hs

theorem Reach.same {l l' : List UInt8} {i p : Nat} {ts us : List Tok} (h : Reach l i ts p us) (ha : ∀ k, k < p → l'.getD k 0 = l.getD k 0) (hp : p ≤ l'.length) (hb : l'.getD p 0 = l.getD p 0 ∨ l'.length = p) : Reach l' i ts p us := by
  induction h with
  | refl => exact .refl
  | step h hs hr ih =>
    have h1 := step_lt h hs
    have h2 := hr.le
    exact .step (by omega) (step_same h hs ha hp h2 hb) (ih ha hp hb)

theorem getD_take {l : List UInt8} {p k : Nat} (h : k < p) : (l.take p).getD k 0 = l.getD k 0 := by
  simp [List.getD, h]
theorem getD_app {a b : List UInt8} {k : Nat} (h : k < a.length) : (a ++ b).getD k 0 = a.getD k 0 := by
  simp [List.getD, List.getElem?_append_left h]
theorem getD_app_r {a b : List UInt8} {k : Nat} (h : a.length ≤ k) : (a ++ b).getD k 0 = b.getD (k - a.length) 0 := by
  simp [List.getD, List.getElem?_append_right h]

theorem fault_reach {l : List UInt8} {e : Int} {p : Nat} (h : scanP l = .err e p) (hl : l.length ≤ 16000) : ∃ us, Reach l 0 [] p us ∧ p < l.length ∧ stepS l p = .err e :=
  reach_of_err (scanP_scans hl) h

theorem fault_kinds {l : List UInt8} {e : Int} {p : Nat} (h : stepS l p = .err e) : e = 30 ∨ e = 31 ∨ e = 32 ∨ e = 33 := by
  unfold stepS at h
  repeat' split at h
  all_goals cases h
  all_goals simp

theorem fault_ahead {l : List UInt8} {e : Int} {p : Nat} (h : scanP l = .err e p) (hl : l.length ≤ 16000) : ∃ ts, scanP (l.take p) = .ok ts := by
  obtain ⟨us, h1, h2, _⟩ := fault_reach h hl
  have hlen : (l.take p).length = p := by simp; omega
  have h3 := (h1.same (l' := l.take p) (fun k hk => getD_take hk) (by omega) (.inr hlen)).scans (.done (by omega))
  exact ⟨_, (scanP_scans (by omega)).det h3⟩

theorem fault_comment {l : List UInt8} {p : Nat} (h : scanP l = .err 33 p) (hl : l.length ≤ 16000) (hp : p + 5 ≤ 16000) : ∃ ts, scanP (l.take p ++ [47, 42, 32, 42, 47]) = .ok ts := by
  obtain ⟨us, h1, h2, h3⟩ := fault_reach h hl
  have hlen : (l.take p).length = p := by simp; omega
  have hlen2 : (l.take p ++ [47, 42, 32, 42, 47]).length = p + 5 := by rw [List.length_append, hlen]; rfl
  have hc : l.getD p 0 = 47 := by
    unfold stepS at h3
    split at h3
    · cases h3
    split at h3
    · rename_i h; exact h.1
    all_goals (repeat' split at h3)
    all_goals cases h3
  generalize hX : l.take p ++ [47, 42, 32, 42, 47] = X at *
  have eb : ∀ k, k < 5 → X.getD (p + k) 0 = ([47, 42, 32, 42, 47] : List UInt8).getD k 0 := fun k hk => by
    rw [← hX, getD_app_r (by omega), hlen]; congr 1; omega
  have e0 : X.getD p 0 = 47 := eb 0 (by omega)
  have e1 : X.getD (p + 1) 0 = 42 := eb 1 (by omega)
  have e2 : X.getD (p + 2) 0 = 32 := eb 2 (by omega)
  have e3 : X.getD (p + 3) 0 = 42 := eb 3 (by omega)
  have e4 : X.getD (p + 4) 0 = 47 := eb 4 (by omega)
  have h4 := (h1.same (l' := X) (fun k hk => by rw [← hX, getD_app (by omega), getD_take hk]) (by omega) (.inl (by rw [e0, hc])))
  have hst : stepS X p = .go none (p + 5) := by
    unfold stepS
    rw [e0, e1, if_neg (by decide), if_pos ⟨rfl, rfl⟩]
    have : cend X (p + 2) = some (p + 5) := by
      refine cend_is (by omega) e3 e4 fun k h1 h2 h => ?_
      rw [show k = p + 2 by omega, e2] at h; exact absurd h.1 (by decide)
    rw [this]
  exact ⟨_, (scanP_scans (by omega)).det (h4.scans (.go (by omega) hst (.done (by omega))))⟩

/-- where the run or byte at a fault ends -/
def faultEnd (l : List UInt8) (e : Int) (p : Nat) : Nat := if e = 30 then p + 1 else runEnd l (p + 1)

theorem fault_behind {l m : List UInt8} {e : Int} {p : Nat} (h : scanP l = .err e p) (hl : l.length ≤ 16000) (he : e ≠ 33) (ht : (l.take (faultEnd l e p) ++ [32] ++ m).length ≤ 16000) :
    scanP (l.take (faultEnd l e p) ++ [32] ++ m) = .err e p := by
  obtain ⟨us, h1, h2, h3⟩ := fault_reach h hl
  have hE : p + 1 ≤ faultEnd l e p ∧ faultEnd l e p ≤ l.length := by
    unfold faultEnd
    have := runEnd_le (l := l) (i := p + 1) (by omega)
    split <;> omega
  have hEd : faultEnd l e p = if e = 30 then p + 1 else runEnd l (p + 1) := rfl
  generalize faultEnd l e p = E at *
  have hlen : (l.take E).length = E := by simp; omega
  have ha : ∀ k, k < E → (l.take E ++ [32] ++ m).getD k 0 = l.getD k 0 := fun k hk => by
    rw [List.append_assoc, getD_app (by omega), getD_take hk]
  have hx : (l.take E ++ [32] ++ m).getD E 0 = 32 := by
    rw [List.append_assoc, getD_app_r (by omega), hlen, Nat.sub_self]; rfl
  have hXl : E < (l.take E ++ [32] ++ m).length := by simp; omega
  generalize l.take E ++ [32] ++ m = X at *
  have ei : X.getD p 0 = l.getD p 0 := ha p (by omega)
  have en : numAt X p = numAt l p := by unfold numAt; rw [ei]
  have h4 := h1.same (l' := X) (fun k hk => ha k (by omega)) (by omega) (.inl ei)
  have h32 : runB (X.getD E 0) = false := by rw [hx]; decide
  have hst : stepS X p = .err e := by
    unfold stepS at h3
    unfold stepS
    rw [ei, en]
    split at h3
    · cases h3
    rename_i hb
    rw [if_neg hb]
    split at h3
    · split at h3
      · cases h3; exact absurd rfl he
      · cases h3
    rename_i hcm
    split at h3
    · rename_i hlt
      have h5 := let_not hlt
      rw [if_neg (fun h => h5.2.1 h.1), if_pos hlt]
      split at h3
      · rename_i h6
        cases h3
        rw [if_neg (by decide)] at hEd
        rw [← runEnd_go h5.2.2.2.2.2] at hEd
        rw [runEnd_same (by omega) ha hEd.symm h32, hEd, if_pos h6]
      · cases h3
    rename_i hlt
    split at h3
    · rename_i hd
      have h5 := dig_not hd
      have hnp : p ≤ numAt l p ∧ numAt l p ≤ p + 1 := by unfold numAt; split <;> omega
      have hn47 : ¬ (l.getD p 0 = 47 ∧ X.getD (p + 1) 0 = 42) := fun h => by
        have : numAt l p = p := by unfold numAt; rw [h.1]; rfl
        rw [this, h.1] at hd; cases hd
      split at h3
      · rename_i hnone
        cases h3
        rw [if_neg (by decide)] at hEd
        have hrun : runEnd l (numAt l p) = E := by
          rcases Nat.lt_or_ge p (numAt l p) with h6 | h6
          · rw [hEd]; congr 1; omega
          · have : numAt l p = p := by omega
            rw [this] at h5 ⊢
            rw [hEd]; exact runEnd_go h5.2.2.2.2.2
        have hnE : numAt l p < E := by
          have h6 := runEnd_go h5.2.2.2.2.2
          have hn : numAt l p < l.length := by
            rcases Nat.lt_or_ge (numAt l p) l.length with h | h
            · exact h
            · rw [getD_ge h] at hd; cases hd
          have h7 := runEnd_le (l := l) (i := numAt l p + 1) (by omega)
          omega
        rw [if_neg hn47, if_neg hlt, ha _ hnE, if_pos hd, runEnd_same (by omega) ha hrun h32, sub_same ha (by omega) (by omega), ← hrun, hnone]
      · cases h3
    rename_i hd
    split at h3
    · cases h3
    rename_i hsg
    cases h3
    rw [if_pos rfl] at hEd
    subst hEd
    rw [hx, if_neg (fun h => absurd h.2 (by decide)), if_neg hlt, if_neg, if_neg hsg]
    by_cases h45 : l.getD p 0 = 45
    · have : numAt l p = p + 1 := by unfold numAt; rw [if_pos h45]
      rw [this, hx]; decide
    · have : numAt l p = p := by unfold numAt; rw [if_neg h45]
      rw [this, ei]; rwa [this] at hd
  exact (scanP_scans ht).det (h4.scans (.err (by omega) hst))

end Go.Proofs.YteokdknaadckbaaGreatDoor
namespace Go.Proofs.YteokdknaadckbaaGreatDoor

/- a text within a source -/
theorem getD_mid {a b c : List UInt8} {k : Nat} (h : k < b.length) : (a ++ (b ++ c)).getD (a.length + k) 0 = b.getD k 0 := by
  rw [getD_app_r (by omega), Nat.add_sub_cancel_left, getD_app h]
theorem getD_mid0 {a b : List UInt8} : (a ++ b).getD a.length 0 = b.getD 0 0 := by
  rw [getD_app_r (Nat.le_refl _), Nat.sub_self]
theorem getD_behind {a b c : List UInt8} : (a ++ (b ++ c)).getD (a.length + b.length) 0 = c.getD 0 0 := by
  rw [getD_app_r (by omega), getD_app_r (by omega)]; congr 1; omega
theorem sub_mid {a b c : List UInt8} : sub (a ++ (b ++ c)) a.length (a.length + b.length) = b := by
  unfold sub; simp

theorem runEnd_mid {a b c : List UInt8} {k : Nat} (hk : k ≤ b.length) (hb : ∀ j, k ≤ j → j < b.length → runB (b.getD j 0) = true) (hc : runB (c.getD 0 0) = false) : runEnd (a ++ (b ++ c)) (a.length + k) = a.length + b.length := by
  rw [runEnd_to (k := a.length + b.length) (by omega) fun j h1 h2 => ?_, runEnd_stop (by rw [getD_behind]; exact hc)]
  obtain ⟨d, rfl⟩ : ∃ d, j = a.length + d := ⟨j - a.length, by omega⟩
  rw [getD_mid (by omega)]; exact hb d (by omega) (by omega)

theorem step_blank {a r : List UInt8} {c : UInt8} (h : blankB c = true) : stepS (a ++ (c :: r)) a.length = .go none (a.length + 1) := by
  unfold stepS
  rw [getD_mid0, if_pos (by exact h)]

theorem step_comment {a m r : List UInt8} (hm : ∀ k, k < m.length → ¬ ((m ++ [42, 47]).getD k 0 = 42 ∧ (m ++ [42, 47]).getD (k + 1) 0 = 47)) :
    stepS (a ++ (([47, 42] ++ (m ++ [42, 47])) ++ r)) a.length = .go none (a.length + (m.length + 4)) := by
  have hb : ([47, 42] ++ (m ++ [42, 47]) : List UInt8).length = m.length + 4 := by simp
  have g : ∀ k, k < m.length + 4 → (a ++ (([47, 42] ++ (m ++ [42, 47])) ++ r)).getD (a.length + k) 0 = ([47, 42] ++ (m ++ [42, 47]) : List UInt8).getD k 0 := fun k hk => getD_mid (by omega)
  have g2 : ∀ k, k < m.length + 2 → (a ++ (([47, 42] ++ (m ++ [42, 47])) ++ r)).getD (a.length + 2 + k) 0 = (m ++ [42, 47]).getD k 0 := fun k hk => by
    rw [Nat.add_assoc, g (2 + k) (by omega), getD_app_r (by simp)]; congr 1; simp
  have e0 : (a ++ (([47, 42] ++ (m ++ [42, 47])) ++ r)).getD a.length 0 = 47 := g 0 (by omega)
  have e1 : (a ++ (([47, 42] ++ (m ++ [42, 47])) ++ r)).getD (a.length + 1) 0 = 42 := g 1 (by omega)
  have e2 : (m ++ [42, 47]).getD m.length 0 = 42 := by rw [getD_mid0]; rfl
  have e3 : (m ++ [42, 47]).getD (m.length + 1) 0 = 47 := by rw [getD_app_r (by omega), Nat.add_sub_cancel_left]; rfl
  generalize a ++ (([47, 42] ++ (m ++ [42, 47])) ++ r) = X at *
  unfold stepS
  rw [e0, e1, if_neg (by decide), if_pos ⟨rfl, rfl⟩]
  have : cend X (a.length + 2) = some (a.length + (m.length + 4)) := by
    refine cend_is (by omega) ?_ ?_ fun k h1 h2 h => ?_
    · rw [show a.length + (m.length + 4) - 2 = a.length + 2 + m.length by omega, g2 _ (by omega)]; exact e2
    · rw [show a.length + (m.length + 4) - 1 = a.length + 2 + (m.length + 1) by omega, g2 _ (by omega)]; exact e3
    · obtain ⟨d, rfl⟩ : ∃ d, k = a.length + 2 + d := ⟨k - (a.length + 2), by omega⟩
      rw [g2 d (by omega), Nat.add_assoc (a.length + 2), g2 (d + 1) (by omega)] at h
      exact hm d (by omega) h
  rw [this]

/- gaps -/
def pickP (c n : Int) : Int := if c < 0 then (-(c + 1)) % n else c % n

def gapOne (c : Int) : List UInt8 :=
  if pickP c 6 = 0 then [9] else if pickP c 6 = 1 then [10] else if pickP c 6 = 2 then [13] else if pickP c 6 = 3 then [47, 42, 42, 47]
  else if pickP c 6 = 4 then [47, 42, 32, 97, 59, 123, 32, 47, 32, 42, 32, 47, 47, 32, 42, 47] else [32]

def gapMore : List Int → List UInt8
  | [] => []
  | c :: r => gapOne c ++ gapMore r
def gapP (l : List Int) : List UInt8 := 32 :: gapMore l

theorem gapMore_snoc (l : List Int) (c : Int) : gapMore (l ++ [c]) = gapMore l ++ gapOne c := by
  induction l with
  | nil => simp [gapMore]
  | cons a r ih => simp [gapMore, ih]

theorem step_gapOne {a r : List UInt8} (c : Int) : stepS (a ++ (gapOne c ++ r)) a.length = .go none (a.length + (gapOne c).length) := by
  unfold gapOne
  split
  · exact step_blank (c := 9) (by decide)
  split
  · exact step_blank (c := 10) (by decide)
  split
  · exact step_blank (c := 13) (by decide)
  split
  · exact step_comment (m := []) (fun k h => by simp at h)
  split
  · refine step_comment (m := [32, 97, 59, 123, 32, 47, 32, 42, 32, 47, 47, 32]) ?_
    intro k hk
    have hk : k < 12 := hk
    have : ∀ k : Fin 12, ¬ (([32, 97, 59, 123, 32, 47, 32, 42, 32, 47, 47, 32] ++ [42, 47] : List UInt8).getD k.val 0 = 42 ∧ ([32, 97, 59, 123, 32, 47, 32, 42, 32, 47, 47, 32] ++ [42, 47] : List UInt8).getD (k.val + 1) 0 = 47) := by decide
    exact this ⟨k, hk⟩
  · exact step_blank (c := 32) (by decide)

theorem gapOne_pos (c : Int) : 0 < (gapOne c).length := by
  unfold gapOne; repeat' split
  all_goals decide

theorem reach_gapMore : ∀ (l : List Int) (a r : List UInt8) (ts : List Tok), Reach (a ++ (gapMore l ++ r)) a.length ts (a.length + (gapMore l).length) ts
  | [], a, r, ts => .refl
  | c :: l, a, r, ts => by
    have h := gapOne_pos c
    have e : a ++ (gapMore (c :: l) ++ r) = a ++ (gapOne c ++ (gapMore l ++ r)) := by simp [gapMore]
    have e2 : a ++ (gapOne c ++ (gapMore l ++ r)) = (a ++ gapOne c) ++ (gapMore l ++ r) := by simp
    have hs := step_gapOne (a := a) (r := gapMore l ++ r) c
    have ih := reach_gapMore l (a ++ gapOne c) r (ts ++ (none : Option Tok).toList)
    rw [← e2, List.length_append] at ih
    rw [e]
    refine .step (by simp; omega) hs ?_
    have e3 : a.length + (gapMore (c :: l)).length = a.length + (gapOne c).length + (gapMore l).length := by simp [gapMore]; omega
    rw [e3]
    simpa using ih

theorem reach_gap (l : List Int) (a r : List UInt8) (ts : List Tok) : Reach (a ++ (gapP l ++ r)) a.length ts (a.length + (gapP l).length) ts := by
  have hs := step_blank (a := a) (r := gapMore l ++ r) (c := 32) (by decide)
  have ih := reach_gapMore l (a ++ [32]) r (ts ++ (none : Option Tok).toList)
  have e : a ++ (gapP l ++ r) = a ++ (32 :: (gapMore l ++ r)) := by simp [gapP]
  have e2 : (a ++ [32]) ++ (gapMore l ++ r) = a ++ (32 :: (gapMore l ++ r)) := by simp
  rw [e2, List.length_append] at ih
  rw [e]
  refine .step (by simp) hs ?_
  have e3 : a.length + (gapP l).length = a.length + [(32 : UInt8)].length + (gapMore l).length := by simp [gapP]; omega
  rw [e3]
  simpa using ih

/- digits -/
def dc (d : Nat) : UInt8 := ([48, 49, 50, 51, 52, 53, 54, 55, 56, 57, 97, 98, 99, 100, 101, 102] : List UInt8).getD d 0

def digF : Nat → Nat → Nat → List UInt8
  | 0, _, _ => []
  | f + 1, base, n => if n < base then [dc n] else digF f base (n / base) ++ [dc (n % base)]
def digitsL (base n : Nat) : List UInt8 := digF (n + 1) base n

theorem digF_fuel {base : Nat} (hb : 2 ≤ base) : ∀ (f g n : Nat), n < f → n < g → digF f base n = digF g base n
  | 0, _, _, h, _ => by omega
  | _, 0, _, _, h => by omega
  | f + 1, g + 1, n, h1, h2 => by
    unfold digF
    split
    · rfl
    · have : n / base < n := Nat.div_lt_self (by omega) hb
      rw [digF_fuel hb f g (n / base) (by omega) (by omega)]

theorem digitsL_small {base n : Nat} (h : n < base) : digitsL base n = [dc n] := by
  unfold digitsL digF; rw [if_pos h]
theorem digitsL_great {base n : Nat} (hb : 2 ≤ base) (h : ¬ n < base) : digitsL base n = digitsL base (n / base) ++ [dc (n % base)] := by
  unfold digitsL
  rw [digF, if_neg h]
  have : n / base < n := Nat.div_lt_self (by omega) hb
  rw [digF_fuel hb n (n / base + 1) (n / base) (by omega) (by omega)]

theorem dc_digV {d : Nat} (h : d < 16) : digV (dc d) = d := by
  have : ∀ d : Fin 16, digV (dc d.val) = d.val := by decide
  exact this ⟨d, h⟩
theorem dc_run {d : Nat} (h : d < 16) : runB (dc d) = true := by
  have : ∀ d : Fin 16, runB (dc d.val) = true := by decide
  exact this ⟨d, h⟩
theorem dc_dig {d : Nat} (h : d < 10) : digB (dc d) = true := by
  have : ∀ d : Fin 10, digB (dc d.val) = true := by decide
  exact this ⟨d, h⟩
theorem dc_pos {d : Nat} (h : d < 16) (h0 : d ≠ 0) : dc d ≠ 48 := by
  have : ∀ d : Fin 16, d.val ≠ 0 → dc d.val ≠ 48 := by decide
  exact this ⟨d, h⟩ h0
theorem dc_not_x {d : Nat} (h : d < 16) : dc d ≠ 120 ∧ dc d ≠ 45 := by
  have : ∀ d : Fin 16, dc d.val ≠ 120 ∧ dc d.val ≠ 45 := by decide
  exact this ⟨d, h⟩

theorem reckP_snoc (base most : Nat) (c : UInt8) : ∀ (l : List UInt8) (n m : Nat), reckP base most n l = some m → digV c < base → m * base + digV c ≤ most → reckP base most n (l ++ [c]) = some (m * base + digV c)
  | [], n, m, h, h1, h2 => by
    simp only [reckP, Option.some.injEq] at h
    subst h
    simp only [List.nil_append, reckP]
    rw [if_neg (by omega), if_neg (by omega)]
  | a :: l, n, m, h, h1, h2 => by
    simp only [reckP] at h
    simp only [List.cons_append, reckP]
    split at h
    · cases h
    split at h
    · cases h
    rename_i h3 h4
    rw [if_neg h3, if_neg h4]
    exact reckP_snoc base most c l _ m h h1 h2

/-- what printed digits are -/
theorem digits_facts {base : Nat} (hb : 2 ≤ base) (hb2 : base ≤ 16) (most : Nat) (n : Nat) : (n ≤ most → reckP base most 0 (digitsL base n) = some n) ∧ (∀ c ∈ digitsL base n, ∃ d, d < base ∧ c = dc d) ∧ (∃ d, d < base ∧ (digitsL base n).getD 0 0 = dc d ∧ (d = 0 → n = 0)) ∧ 0 < (digitsL base n).length := by
  by_cases h : n < base
  · rw [digitsL_small h]
    refine ⟨fun hm => ?_, fun c hc => ?_, ⟨n, h, rfl, id⟩, by simp⟩
    · simp only [reckP, dc_digV (show n < 16 by omega)]
      rw [if_neg (by omega), if_neg (by omega)]; simp
    · exact ⟨n, h, by simpa using hc⟩
  · have hlt : n / base < n := Nat.div_lt_self (by omega) hb
    have hpos : 0 < n / base := Nat.div_pos (by omega) (by omega)
    obtain ⟨i1, i2, i3, i4⟩ := digits_facts hb hb2 most (n / base)
    have hm : n % base < base := Nat.mod_lt _ (by omega)
    have hd := Nat.div_add_mod n base
    rw [digitsL_great hb h]
    refine ⟨fun hle => ?_, fun c hc => ?_, ?_, by simp⟩
    · have := reckP_snoc base most (dc (n % base)) _ 0 _ (i1 (by omega)) (by rw [dc_digV (by omega)]; exact hm) (by rw [dc_digV (by omega), Nat.mul_comm]; omega)
      rw [this, dc_digV (by omega), Nat.mul_comm, hd]
    · rw [List.mem_append] at hc
      rcases hc with hc | hc
      · exact i2 c hc
      · exact ⟨n % base, hm, by simpa using hc⟩
    · obtain ⟨d, h1, h2, h3⟩ := i3
      refine ⟨d, h1, ?_, fun h0 => by have := h3 h0; omega⟩
      rw [getD_app i4]; exact h2
termination_by n

theorem getD_mem {l : List UInt8} {k : Nat} (h : k < l.length) : l.getD k 0 ∈ l := by
  rw [getD_lt h]; exact List.getElem_mem h

theorem digits_run {base n : Nat} (hb : 2 ≤ base) (hb2 : base ≤ 16) : ∀ j, j < (digitsL base n).length → runB ((digitsL base n).getD j 0) = true := fun j hj => by
  obtain ⟨d, h1, h2⟩ := (digits_facts hb hb2 0 n).2.1 _ (getD_mem hj)
  rw [h2]; exact dc_run (by omega)

theorem reckV_digits {base n most : Nat} (hb : 2 ≤ base) (hb2 : base ≤ 16) (h : n ≤ most) : reckV (digitsL base n) base most = some n := by
  have f := digits_facts hb hb2 most n
  unfold reckV
  rw [if_neg (fun h0 => by rw [h0] at f; exact absurd f.2.2.2 (by simp)), f.1 h]

theorem formP_10 {n : Nat} (h : 0 < n) : formP (digitsL 10 n) = (digitsL 10 n, 10) := by
  obtain ⟨d, h1, h2, h3⟩ := (digits_facts (base := 10) (by omega) (by omega) 0 n).2.2.1
  unfold formP
  rw [if_pos]
  rw [h2]; exact dc_pos (by omega) (fun h0 => by have := h3 h0; omega)

theorem numP_10 {n : Nat} (h : n ≤ 4294967295) : numP (digitsL 10 n) = some (n : Int) := by
  have hd := reckV_digits (base := 10) (n := n) (by omega) (by omega) h
  obtain ⟨d, h1, h2, h3⟩ := (digits_facts (base := 10) (by omega) (by omega) 0 n).2.2.1
  by_cases h0 : n = 0
  · subst h0; decide
  · unfold numP
    rw [if_pos (by rw [h2]; exact (dc_not_x (by omega)).2), formP_10 (by omega)]
    simp only
    rw [hd]; rfl

theorem numP_minus {n : Nat} (h0 : 0 < n) (h : n ≤ 2147483648) : numP (45 :: digitsL 10 n) = some (-(n : Int)) := by
  have hd := reckV_digits (base := 10) (n := n) (by omega) (by omega) h
  unfold numP
  rw [if_neg (by simp)]
  rw [show (45 :: digitsL 10 n).drop 1 = digitsL 10 n from rfl, formP_10 h0]
  simp only
  rw [if_neg (by simp), hd]; rfl

theorem numP_16 {n : Nat} (h : n ≤ 4294967295) : numP (48 :: 120 :: digitsL 16 n) = some (n : Int) := by
  have hd := reckV_digits (base := 16) (n := n) (by omega) (by omega) h
  have hf : formP (48 :: 120 :: digitsL 16 n) = (digitsL 16 n, 16) := by
    unfold formP
    rw [if_neg (by simp), if_pos (by simp)]; rfl
  unfold numP
  rw [if_pos (by simp), hf]
  simp only
  rw [hd]; rfl

theorem numP_8 {n : Nat} (h : n ≤ 4294967295) : numP (48 :: digitsL 8 n) = some (n : Int) := by
  obtain ⟨f1, f2, ⟨d, h1, h2, h3⟩, f4⟩ := digits_facts (base := 8) (by omega) (by omega) 4294967295 n
  have hf : formP (48 :: digitsL 8 n) = (48 :: digitsL 8 n, 8) := by
    unfold formP
    rw [if_neg (by simp), if_neg]
    rintro ⟨_, hx⟩
    rw [show (48 :: digitsL 8 n).getD 1 0 = (digitsL 8 n).getD 0 0 from rfl, h2] at hx
    exact (dc_not_x (by omega)).1 hx
  unfold numP
  rw [if_pos (by simp), hf]
  simp only
  unfold reckV
  rw [if_neg (by simp)]
  have : reckP 8 4294967295 0 (48 :: digitsL 8 n) = reckP 8 4294967295 0 (digitsL 8 n) := by
    rw [reckP]
    have e : digV 48 = 0 := by decide
    rw [e, if_neg (by omega), if_neg (by omega)]
  rw [this, f1 h]; rfl

/- pieces -/
structure Pc where
  what : Int
  n : Int
  s : List UInt8
  gap : List Int

def ofL : List UInt8 := [97, 98, 99, 100, 101, 102, 103, 104, 105, 106, 107, 108, 109, 110, 111, 112, 113, 114, 115, 116, 117, 118, 119, 120, 121, 122, 65, 66, 67, 68, 69, 70, 71, 72, 73, 74, 75, 76, 77, 78, 79, 80, 81, 82, 83, 84, 85, 86, 87, 88, 89, 90, 48, 49, 50, 51, 52, 53, 54, 55, 56, 57, 95]
def runL : List UInt8 → List UInt8
  | [] => [113]
  | c :: r => ofL.getD (c.toNat % 52) 0 :: (r.take 31).map fun x => ofL.getD (x.toNat % 63) 0

def signT (n : Int) : List UInt8 := [([123, 125, 40, 41, 91, 93, 60, 62, 61, 59, 58, 44, 42] : List UInt8).getD (pickP n 13).toNat 0]

def tokP (p : Pc) : Tok × List UInt8 :=
  if p.what = 0 then (⟨if isWordP (runL p.s) then 2 else 1, runL p.s, 0, 0⟩, runL p.s)
  else if p.what = 1 then
    (if p.n < 0 ∧ -2147483648 ≤ p.n then (⟨3, [], p.n, 0⟩, 45 :: digitsL 10 (-p.n).toNat) else (⟨3, [], pickP p.n 4294967296, 0⟩, digitsL 10 (pickP p.n 4294967296).toNat))
  else if p.what = 2 then (⟨3, [], pickP p.n 4294967296, 0⟩, 48 :: 120 :: digitsL 16 (pickP p.n 4294967296).toNat)
  else if p.what = 3 then (⟨3, [], pickP p.n 4294967296, 0⟩, 48 :: digitsL 8 (pickP p.n 4294967296).toNat)
  else (⟨4, signT p.n, 0, 0⟩, signT p.n)

theorem pickP_range {c n : Int} (h : 0 < n) : 0 ≤ pickP c n ∧ pickP c n < n := by
  unfold pickP
  split
  · exact ⟨Int.emod_nonneg _ (by omega), Int.emod_lt_of_pos _ h⟩
  · exact ⟨Int.emod_nonneg _ (by omega), Int.emod_lt_of_pos _ h⟩

theorem ofL_let {k : Nat} (h : k < 52) : letB (ofL.getD k 0) = true := by
  have : ∀ k : Fin 52, letB (ofL.getD k.val 0) = true := by decide
  exact this ⟨k, h⟩
theorem ofL_run {k : Nat} (h : k < 63) : runB (ofL.getD k 0) = true := by
  have : ∀ k : Fin 63, runB (ofL.getD k.val 0) = true := by decide
  exact this ⟨k, h⟩

theorem runL_facts (s : List UInt8) : letB ((runL s).getD 0 0) = true ∧ (∀ c ∈ runL s, runB c = true) ∧ (runL s).length ≤ 32 ∧ 0 < (runL s).length := by
  match s with
  | [] => exact ⟨by decide, fun c hc => by simp [runL] at hc; subst hc; decide, by simp [runL], by simp [runL]⟩
  | c :: r =>
    have h0 := ofL_let (k := c.toNat % 52) (Nat.mod_lt _ (by omega))
    refine ⟨h0, fun x hx => ?_, by simp [runL]; omega, by simp [runL]⟩
    simp only [runL, List.mem_cons, List.mem_map] at hx
    rcases hx with rfl | ⟨y, _, rfl⟩
    · exact (let_not h0).2.2.2.2.2
    · exact ofL_run (Nat.mod_lt _ (by omega))

theorem sign_13 {k : Nat} (h : k < 13) : signB (([123, 125, 40, 41, 91, 93, 60, 62, 61, 59, 58, 44, 42] : List UInt8).getD k 0) = true := by
  have : ∀ k : Fin 13, signB (([123, 125, 40, 41, 91, 93, 60, 62, 61, 59, 58, 44, 42] : List UInt8).getD k.val 0) = true := by decide
  exact this ⟨k, h⟩

theorem signT_sign (n : Int) : signB ((signT n).getD 0 0) = true := by
  have h := pickP_range (c := n) (n := 13) (by omega)
  exact sign_13 (k := (pickP n 13).toNat) (by omega)

/-- steps over a token of each kind -/
theorem step_name {a t r : List UInt8} (h0 : letB (t.getD 0 0) = true) (hr : ∀ c ∈ t, runB c = true) (hl : t.length ≤ 32) (hp : 0 < t.length) (hc : runB (r.getD 0 0) = false) :
    stepS (a ++ (t ++ r)) a.length = .go (some ⟨if isWordP t then 2 else 1, t, 0, a.length⟩) (a.length + t.length) := by
  have e0 : (a ++ (t ++ r)).getD a.length 0 = t.getD 0 0 := by have := getD_mid (a := a) (b := t) (c := r) (k := 0) hp; simpa using this
  have e1 : runEnd (a ++ (t ++ r)) a.length = a.length + t.length := by
    have := runEnd_mid (a := a) (b := t) (c := r) (k := 0) (by omega) (fun j _ hj => hr _ (getD_mem hj)) hc
    simpa using this
  have hb := let_not h0
  unfold stepS
  rw [e0, if_neg (by rw [hb.1]; decide), if_neg (fun h => hb.2.1 h.1), if_pos h0, e1, if_neg (by omega), sub_mid]

theorem step_num {a t r : List UInt8} {n : Int} (hn : numP t = some n) (h0 : blankB (t.getD 0 0) = false ∧ t.getD 0 0 ≠ 47 ∧ letB (t.getD 0 0) = false) (k : Nat) (hk : k < t.length) (hk2 : k = if t.getD 0 0 = 45 then 1 else 0)
    (hd : digB (t.getD k 0) = true) (hr : ∀ j, k ≤ j → j < t.length → runB (t.getD j 0) = true) (hc : runB (r.getD 0 0) = false) :
    stepS (a ++ (t ++ r)) a.length = .go (some ⟨3, [], n, a.length⟩) (a.length + t.length) := by
  have e0 : (a ++ (t ++ r)).getD a.length 0 = t.getD 0 0 := by have := getD_mid (a := a) (b := t) (c := r) (k := 0) (by omega); simpa using this
  have e1 : numAt (a ++ (t ++ r)) a.length = a.length + k := by
    unfold numAt; rw [e0, hk2]; split <;> rfl
  have e2 := runEnd_mid (a := a) (b := t) (c := r) (k := k) (by omega) hr hc
  have e3 : (a ++ (t ++ r)).getD (a.length + k) 0 = t.getD k 0 := getD_mid hk
  unfold stepS
  rw [e0, if_neg (by rw [h0.1]; decide), if_neg (fun h => h0.2.1 h.1), if_neg (by rw [h0.2.2]; decide), e1, e3, if_pos hd, e2, sub_mid, hn]

theorem step_sign {a r : List UInt8} {c : UInt8} (h : signB c = true) : stepS (a ++ ([c] ++ r)) a.length = .go (some ⟨4, [c], 0, a.length⟩) (a.length + 1) := by
  have e0 : (a ++ ([c] ++ r)).getD a.length 0 = c := by rw [getD_mid0]; rfl
  have hb := sign_not h
  have hn : numAt (a ++ ([c] ++ r)) a.length = a.length := by unfold numAt; rw [e0, if_neg hb.2.2.2.1]
  unfold stepS
  rw [hn, e0, if_neg (by rw [hb.1]; decide), if_neg (fun h => hb.2.1 h.1), if_neg (by rw [hb.2.2.1]; decide), if_neg (by rw [hb.2.2.2.2.1]; decide), if_pos h]
  have := sub_mid (a := a) (b := [c]) (c := r)
  simp only [List.length_cons, List.length_nil, Nat.zero_add] at this
  rw [this]

def kindOk (k : Int) (r : List UInt8) : Prop := k = 4 ∨ runB (r.getD 0 0) = false

theorem step_dig {a t r : List UInt8} {n : Int} (hn : numP t = some n) (hp : 0 < t.length) (hd : digB (t.getD 0 0) = true) (hr : ∀ j, j < t.length → runB (t.getD j 0) = true) (hc : runB (r.getD 0 0) = false) :
    stepS (a ++ (t ++ r)) a.length = .go (some ⟨3, [], n, a.length⟩) (a.length + t.length) := by
  have hb := dig_not hd
  exact step_num hn ⟨hb.1, hb.2.1, hb.2.2.1⟩ 0 hp (by rw [if_neg hb.2.2.2.1]) hd (fun j _ => hr j) hc

theorem cons_run {c : UInt8} {t : List UInt8} (hc : runB c = true) (h : ∀ j, j < t.length → runB (t.getD j 0) = true) : ∀ j, j < (c :: t).length → runB ((c :: t).getD j 0) = true := fun j hj => by
  cases j with
  | zero => exact hc
  | succ j => exact h j (by simpa using hj)

theorem step_tok (p : Pc) (a r : List UInt8) (hk : kindOk (tokP p).1.kind r) :
    stepS (a ++ ((tokP p).2 ++ r)) a.length = .go (some { (tokP p).1 with at_ := a.length }) (a.length + (tokP p).2.length) := by
  unfold kindOk at hk
  have hpk := pickP_range (c := p.n) (n := 4294967296) (by omega)
  have dig0 : ∀ n : Nat, digB ((digitsL 10 n).getD 0 0) = true := fun n => by
    obtain ⟨d, h1, h2, _⟩ := (digits_facts (base := 10) (by omega) (by omega) 0 n).2.2.1
    rw [h2]; exact dc_dig h1
  have pos : ∀ base n : Nat, 2 ≤ base → base ≤ 16 → 0 < (digitsL base n).length := fun base n h1 h2 => (digits_facts h1 h2 0 n).2.2.2
  unfold tokP at hk ⊢
  split
  · rename_i h0
    rw [if_pos h0] at hk
    obtain ⟨h1, h2, h3, h4⟩ := runL_facts p.s
    refine step_name h1 h2 h3 h4 ?_
    rcases hk with hk | hk
    · simp only at hk; split at hk <;> cases hk
    · exact hk
  rename_i h0
  rw [if_neg h0] at hk
  split
  · rename_i h1
    rw [if_pos h1] at hk
    split
    · rename_i h2
      rw [if_pos h2] at hk
      have hc : runB (r.getD 0 0) = false := by rcases hk with hk | hk; cases hk; exact hk
      have hn : numP (45 :: digitsL 10 (-p.n).toNat) = some p.n := by
        rw [numP_minus (by omega) (by omega)]; congr 1; omega
      exact step_num hn (show blankB 45 = false ∧ (45 : UInt8) ≠ 47 ∧ letB 45 = false by decide) 1 (by have := pos 10 (-p.n).toNat (by omega) (by omega); simp; omega) rfl (dig0 _) (fun j h1 h2 => by
        obtain ⟨j, rfl⟩ : ∃ i, j = i + 1 := ⟨j - 1, by omega⟩
        exact digits_run (by omega) (by omega) j (by simpa using h2)) hc
    · rename_i h2
      rw [if_neg h2] at hk
      have hc : runB (r.getD 0 0) = false := by rcases hk with hk | hk; cases hk; exact hk
      have hn : numP (digitsL 10 (pickP p.n 4294967296).toNat) = some (pickP p.n 4294967296) := by
        rw [numP_10 (by omega)]; congr 1; omega
      exact step_dig hn (pos _ _ (by omega) (by omega)) (dig0 _) (digits_run (by omega) (by omega)) hc
  rename_i h1
  rw [if_neg h1] at hk
  split
  · rename_i h2
    rw [if_pos h2] at hk
    have hc : runB (r.getD 0 0) = false := by rcases hk with hk | hk; cases hk; exact hk
    have hn : numP (48 :: 120 :: digitsL 16 (pickP p.n 4294967296).toNat) = some (pickP p.n 4294967296) := by
      rw [numP_16 (by omega)]; congr 1; omega
    exact step_dig hn (by simp) (show digB 48 = true by decide) (cons_run (by decide) (cons_run (by decide) (digits_run (by omega) (by omega)))) hc
  rename_i h2
  rw [if_neg h2] at hk
  split
  · rename_i h3
    rw [if_pos h3] at hk
    have hc : runB (r.getD 0 0) = false := by rcases hk with hk | hk; cases hk; exact hk
    have hn : numP (48 :: digitsL 8 (pickP p.n 4294967296).toNat) = some (pickP p.n 4294967296) := by
      rw [numP_8 (by omega)]; congr 1; omega
    exact step_dig hn (by simp) (show digB 48 = true by decide) (cons_run (by decide) (digits_run (by omega) (by omega))) hc
  · have h := signT_sign p.n
    exact step_sign (c := (signT p.n).getD 0 0) h

theorem tok_len (p : Pc) : 0 < (tokP p).2.length := by
  have pos : ∀ base n : Nat, 2 ≤ base → base ≤ 16 → 0 < (digitsL base n).length := fun base n h1 h2 => (digits_facts h1 h2 0 n).2.2.2
  unfold tokP
  repeat' split
  all_goals first | exact (runL_facts p.s).2.2.2 | exact pos _ _ (by omega) (by omega) | (simp [signT]; done)

theorem tok_first (p : Pc) (h : (tokP p).1.kind = 4) (r : List UInt8) : runB (((tokP p).2 ++ r).getD 0 0) = false := by
  unfold tokP at h ⊢
  split
  · rename_i h0; rw [if_pos h0] at h; simp only at h; split at h <;> cases h
  rename_i h0; rw [if_neg h0] at h
  split
  · rename_i h1; rw [if_pos h1] at h; split at h <;> cases h
  rename_i h1; rw [if_neg h1] at h
  split
  · rename_i h2; rw [if_pos h2] at h; cases h
  rename_i h2; rw [if_neg h2] at h
  split
  · rename_i h3; rw [if_pos h3] at h; cases h
  · exact (sign_not (signT_sign p.n)).2.2.2.2.2

def spaceP (last : Int) (p : Pc) : List UInt8 := if p.gap = [] ∧ (last = 4 ∨ (tokP p).1.kind = 4) then [] else gapP p.gap

structure Bld where
  s : List UInt8
  w : List Tok
  last : Int

def bldOne (b : Bld) (p : Pc) : Bld :=
  ⟨b.s ++ spaceP b.last p ++ (tokP p).2, b.w ++ [{ (tokP p).1 with at_ := (b.s ++ spaceP b.last p).length }], (tokP p).1.kind⟩
def bldP (l : List Pc) : Bld := l.foldl bldOne ⟨[], [], 4⟩

theorem bldP_snoc (l : List Pc) (p : Pc) : bldP (l ++ [p]) = bldOne (bldP l) p := by
  unfold bldP; rw [List.foldl_append]; rfl

theorem reach_space (last : Int) (p : Pc) (a r : List UInt8) (ts : List Tok) : Reach (a ++ (spaceP last p ++ r)) a.length ts (a.length + (spaceP last p).length) ts := by
  unfold spaceP
  split
  · exact .refl
  · exact reach_gap p.gap a r ts

theorem space_first (last : Int) (p : Pc) (r : List UInt8) : kindOk last (spaceP last p ++ ((tokP p).2 ++ r)) := by
  unfold spaceP kindOk
  split
  · rename_i h
    rcases h.2 with h2 | h2
    · exact .inl h2
    · exact .inr (by rw [List.nil_append]; exact tok_first p h2 r)
  · exact .inr (by show runB 32 = false; decide)

theorem bld_one_reach {b : Bld} (hb : ∀ r, kindOk b.last r → Reach (b.s ++ r) 0 [] b.s.length b.w) (p : Pc) (r : List UInt8) (hr : kindOk (bldOne b p).last r) : Reach ((bldOne b p).s ++ r) 0 [] (bldOne b p).s.length (bldOne b p).w := by
  have h1 := hb (spaceP b.last p ++ ((tokP p).2 ++ r)) (space_first _ _ _)
  have h2 := reach_space b.last p b.s ((tokP p).2 ++ r) b.w
  have h3 := step_tok p (b.s ++ spaceP b.last p) r hr
  have e : (bldOne b p).s ++ r = b.s ++ (spaceP b.last p ++ ((tokP p).2 ++ r)) := by simp [bldOne]
  have e2 : (b.s ++ spaceP b.last p) ++ ((tokP p).2 ++ r) = b.s ++ (spaceP b.last p ++ ((tokP p).2 ++ r)) := by simp
  rw [e2, List.length_append] at h3
  rw [e]
  have hl := tok_len p
  refine (h1.trans h2).trans (.step (by simp; omega) h3 ?_)
  have e4 : (bldOne b p).s.length = b.s.length + (spaceP b.last p).length + (tokP p).2.length := by simp [bldOne]; omega
  have e5 : b.w ++ (some { (tokP p).1 with at_ := b.s.length + (spaceP b.last p).length }).toList = (bldOne b p).w := by simp [bldOne]
  rw [e4, e5]
  exact .refl

theorem bld_fold_reach : ∀ (l : List Pc) (b : Bld), (∀ r, kindOk b.last r → Reach (b.s ++ r) 0 [] b.s.length b.w) → ∀ r, kindOk (l.foldl bldOne b).last r → Reach ((l.foldl bldOne b).s ++ r) 0 [] (l.foldl bldOne b).s.length (l.foldl bldOne b).w
  | [], _, hb, r, hr => hb r hr
  | p :: l, b, hb, r, hr => bld_fold_reach l (bldOne b p) (fun r hr => bld_one_reach hb p r hr) r hr

theorem bld_reach (l : List Pc) (r : List UInt8) (hr : kindOk (bldP l).last r) : Reach ((bldP l).s ++ r) 0 [] (bldP l).s.length (bldP l).w :=
  bld_fold_reach l ⟨[], [], 4⟩ (fun _ _ => .refl) r hr

def srcP (l : List Pc) (behind : List Int) : List UInt8 := (bldP l).s ++ (if behind = [] then [] else gapP behind)

/-- the stage's theorem, plainly -/
theorem parts (l : List Pc) (behind : List Int) (h : (srcP l behind).length ≤ 16000) : scanP (srcP l behind) = .ok ((bldP l).w ++ [⟨5, [], 0, (srcP l behind).length⟩]) := by
  have key : Reach (srcP l behind) 0 [] (srcP l behind).length (bldP l).w := by
    unfold srcP
    split
    · have := bld_reach l [] (.inr (by show runB 0 = false; decide))
      simpa using this
    · have h1 := bld_reach l (gapP behind) (.inr (by show runB 32 = false; decide))
      have h2 := reach_gap behind (bldP l).s [] (bldP l).w
      rw [List.append_nil] at h2
      rw [List.length_append]
      exact h1.trans h2
  exact (scanP_scans h).det (key.scans (.done (Nat.le_refl _)))

end Go.Proofs.YteokdknaadckbaaGreatDoor
namespace Go.Proofs.YteokdknaadckbaaGreatDoor

def numR (r : List UInt8) (minus : Bool) : Option Int :=
  if minus then (reckV r 10 4294967295).bind fun n => if r.getD 0 0 ≠ 48 ∧ n ≤ 2147483648 then some (-(n : Int)) else none
  else if r = [48] then some 0
  else if 2 < r.length ∧ r.take 2 = [48, 120] then (reckV (r.drop 2) 16 4294967295).map fun (n : Nat) => (n : Int)
  else if r.getD 0 0 = 48 then (reckV (r.drop 1) 8 4294967295).map fun (n : Nat) => (n : Int)
  else (reckV r 10 4294967295).map fun (n : Nat) => (n : Int)

theorem reckP_ge (base most : Nat) (hb : 1 ≤ base) : ∀ (l : List UInt8) (n m : Nat), reckP base most n l = some m → n ≤ m
  | [], n, m, h => by simp only [reckP, Option.some.injEq] at h; omega
  | c :: r, n, m, h => by
    simp only [reckP] at h
    split at h
    · cases h
    split at h
    · cases h
    have h1 := reckP_ge base most hb r _ m h
    have h2 : n * 1 ≤ n * base := Nat.mul_le_mul_left n hb
    omega

theorem reckP_less (base most less : Nat) (hb : 1 ≤ base) (hl : less ≤ most) : ∀ (l : List UInt8) (n : Nat), n ≤ less → reckP base less n l = (reckP base most n l).bind fun m => if m ≤ less then some m else none
  | [], n, h => by simp [reckP, h]
  | c :: r, n, h => by
    simp only [reckP]
    split
    · rfl
    by_cases h1 : less < n * base + digV c
    · rw [if_pos h1]
      split
      · rfl
      · cases h3 : reckP base most (n * base + digV c) r with
        | none => rfl
        | some m =>
          have := reckP_ge base most hb r _ m h3
          simp; omega
    · rw [if_neg h1, if_neg (by omega), reckP_less base most less hb hl r _ (by omega)]

theorem numR_plain {r : List UInt8} (h0 : r.getD 0 0 ≠ 45) (hne : r ≠ []) : numR r false = numP r := by
  unfold numR numP
  rw [if_neg (by decide), if_pos h0]
  by_cases h1 : r = [48]
  · subst h1; decide
  rw [if_neg h1]
  unfold formP
  by_cases h48 : r.getD 0 0 = 48
  · rw [if_neg (show ¬ (r.getD 0 0 ≠ 48) from fun h => h h48)]
    match r, hne, h1, h48 with
    | [a], _, h1, h48 => exact absurd (by simpa using h48) h1
    | a :: b :: r, _, h1, h48 =>
      have ha : a = 48 := h48
      subst ha
      by_cases hx : b = 120
      · subst hx
        rw [if_pos (show 1 < (48 :: 120 :: r : List UInt8).length ∧ (48 :: 120 :: r : List UInt8).getD 1 0 = 120 from ⟨by simp, rfl⟩)]
        match r with
        | [] => decide
        | c :: r =>
          rw [if_pos ⟨by simp, rfl⟩]
      · rw [if_neg (show ¬ (1 < (48 :: b :: r : List UInt8).length ∧ (48 :: b :: r : List UInt8).getD 1 0 = 120) from fun h => hx h.2)]
        rw [if_neg (fun h => hx (by have := h.2; simp at this; exact this)), if_pos (show (48 :: b :: r : List UInt8).getD 0 0 = 48 from rfl)]
        have e : digV 48 = 0 := by decide
        have : reckP 8 4294967295 0 (48 :: b :: r) = reckP 8 4294967295 0 (b :: r) := by
          rw [reckP, e, if_neg (by omega), if_neg (by omega)]
        show (reckV (b :: r) 8 4294967295).map _ = (reckV (48 :: b :: r) 8 4294967295).map _
        unfold reckV
        rw [if_neg (by simp), if_neg (by simp), this]
  · rw [if_neg (fun h => h48 (by
      match r, h.2 with
      | a :: b :: r, h2 => simp at h2; exact h2.1)), if_neg h48, if_pos h48]

theorem numR_minus {r : List UInt8} : numR r true = numP (45 :: r) := by
  unfold numR numP
  rw [if_pos rfl, if_neg (by simp)]
  show _ = if (formP r).2 ≠ 10 then none else (reckV (formP r).1 10 2147483648).map fun (n : Nat) => -(n : Int)
  unfold formP
  by_cases h48 : r.getD 0 0 = 48
  · rw [if_neg (show ¬ (r.getD 0 0 ≠ 48) from fun h => h h48), if_pos]
    · cases reckV r 10 4294967295 with
      | none => rfl
      | some n => show (if r.getD 0 0 ≠ 48 ∧ n ≤ 2147483648 then some (-(n : Int)) else none) = _; rw [if_neg (fun h => h.1 h48)]
    · split <;> simp
  · rw [if_pos h48, if_neg (by simp)]
    show _ = (reckV r 10 2147483648).map fun (n : Nat) => -(n : Int)
    unfold reckV
    split
    · rfl
    · rw [reckP_less 10 4294967295 2147483648 (by omega) (by omega) r 0 (by omega)]
      cases reckP 10 4294967295 0 r with
      | none => rfl
      | some n =>
        show (if r.getD 0 0 ≠ 48 ∧ n ≤ 2147483648 then some (-(n : Int)) else none) = Option.map _ (if n ≤ 2147483648 then some n else none)
        by_cases hn : n ≤ 2147483648
        · rw [if_pos ⟨h48, hn⟩, if_pos hn]; rfl
        · rw [if_neg (fun h => hn h.2), if_neg hn]; rfl

/- words -/
def WordsL : List UInt8 := [32, 98, 111, 111, 108, 32, 99, 97, 115, 101, 32, 99, 111, 110, 115, 116, 32, 100, 101, 102, 97, 117, 108, 116, 32, 100, 111, 117, 98, 108, 101, 32, 101, 110, 117, 109, 32, 102, 108, 111, 97, 116, 32, 104, 121, 112, 101, 114, 32, 105, 110, 116, 32, 111, 112, 97, 113, 117, 101, 32, 112, 114, 111, 103, 114, 97, 109, 32, 113, 117, 97, 100, 114, 117, 112, 108, 101, 32, 115, 116, 114, 105, 110, 103, 32, 115, 116, 114, 117, 99, 116, 32, 115, 119, 105, 116, 99, 104, 32, 116, 121, 112, 101, 100, 101, 102, 32, 117, 110, 105, 111, 110, 32, 117, 110, 115, 105, 103, 110, 101, 100, 32, 118, 101, 114, 115, 105, 111, 110, 32, 118, 111, 105, 100, 32]

theorem words_len : WordsL.length = 135 := by decide +kernel

/-- a run between two blanks is a word -/
theorem words_only {s : List UInt8} {i : Nat} (hr : ∀ c ∈ s, runB c = true) (hs : s ≠ []) (hi : i + (s.length + 2) ≤ 135) (h : sub WordsL i (i + (s.length + 2)) = 32 :: (s ++ [32])) : s ∈ wordsL := by
  have hall : ∀ i : Fin 135, ∀ n : Fin 12, (decide (1 ≤ n.val)) && ((sub WordsL (i.val + 1) (i.val + 1 + n.val)).all runB) && (WordsL.getD i.val 0 == 32) && (WordsL.getD (i.val + 1 + n.val) 0 == 32) && decide (i.val + 2 + n.val ≤ 135) = true → (sub WordsL (i.val + 1) (i.val + 1 + n.val)) ∈ wordsL := by decide +kernel
  have hlong : ∀ i : Fin 135, i.val + 14 ≤ 135 → (sub WordsL (i.val + 1) (i.val + 1 + 12)).all runB = false := by decide +kernel
  have g : ∀ k, k < s.length + 2 → WordsL.getD (i + k) 0 = (32 :: (s ++ [32])).getD k 0 := fun k hk => by
    rw [← h]; unfold sub
    rw [List.getD_eq_getElem?_getD, List.getD_eq_getElem?_getD, List.getElem?_take, if_pos (by omega), List.getElem?_drop]
  have hsub : ∀ n, n ≤ s.length → sub WordsL (i + 1) (i + 1 + n) = s.take n := fun n hn => by
    have e : sub WordsL (i + 1) (i + 1 + n) = ((sub WordsL i (i + (s.length + 2))).drop 1).take n := by
      unfold sub
      rw [List.drop_take, List.drop_drop, List.take_take]
      congr 1; omega
    rw [e, h]
    show (s ++ [32]).take n = _
    rw [List.take_append_of_le_length hn]
  by_cases h12 : s.length < 12
  · have := hall ⟨i, by omega⟩ ⟨s.length, h12⟩
    have e := hsub s.length (Nat.le_refl _)
    rw [List.take_length] at e
    simp only at this
    rw [e] at this
    refine this ?_
    have h0 : WordsL.getD i 0 = 32 := g 0 (by omega)
    have h1 : WordsL.getD (i + 1 + s.length) 0 = 32 := by
      rw [Nat.add_assoc, g (1 + s.length) (by omega), show 1 + s.length = s.length + 1 by omega]
      show (s ++ [32]).getD s.length 0 = 32
      rw [getD_mid0]; rfl
    have hp : 1 ≤ s.length := by cases s with | nil => exact absurd rfl hs | cons => simp
    rw [h0, h1, List.all_eq_true.2 hr, decide_eq_true hp, decide_eq_true (show i + 2 + s.length ≤ 135 by omega)]; rfl
  · have := hlong ⟨i, by omega⟩ (by simp only; omega)
    have e := hsub 12 (by omega)
    simp only at this
    rw [e, List.all_eq_true.2 fun c hc => hr c (List.mem_of_mem_take hc)] at this
    cases this

/-- a word stands between two blanks, at this place -/
def wordAt : List UInt8 → Nat := fun s => ((List.range 135).find? fun i => sub WordsL i (i + (s.length + 2)) == 32 :: (s ++ [32])).getD 0
theorem words_all : ∀ s ∈ wordsL, sub WordsL (wordAt s) (wordAt s + (s.length + 2)) = 32 :: (s ++ [32]) ∧ wordAt s + (s.length + 2) ≤ 135 ∧ s ≠ [] ∧ s.all runB = true := by decide +kernel

end Go.Proofs.YteokdknaadckbaaGreatDoor
namespace Go.Proofs.YteokdknaadckbaaGreatDoor.Lx
open Go.RowKit

theorem isLetter_any (c : Int) (w : World) : Calls Tryz.prog 92 #[.int .u8 c] w fun e w' => e = .returned (.bool (letterP c)) ∧ w' = w := by
  unfold letterP
  cases h0 : decide (97 ≤ c) <;> cases h1 : decide (c ≤ 122) <;> cases h2 : decide (65 ≤ c) <;> cases h3 : decide (c ≤ 90)
  all_goals (
    go_enter Tryz.func92, Tryz.ntmps92
    go_wp2
    go_ret
    exact ⟨rfl, rfl⟩)

theorem isDigit_any (c : Int) (w : World) : Calls Tryz.prog 89 #[.int .u8 c] w fun e w' => e = .returned (.bool (digitP c)) ∧ w' = w := by
  unfold digitP
  cases h0 : decide (48 ≤ c) <;> cases h1 : decide (c ≤ 57)
  all_goals (
    go_enter Tryz.func89, Tryz.ntmps89
    go_wp2
    go_ret
    exact ⟨rfl, rfl⟩)

theorem isRun_any (c : Int) (w : World) : Calls Tryz.prog 90 #[.int .u8 c] w fun e w' => e = .returned (.bool (runP c)) ∧ w' = w := by
  have H1 : Hid (∀ w, Calls Tryz.prog 92 #[.int .u8 c] w fun e w' => e = .returned (.bool (letterP c)) ∧ w' = w) := isLetter_any c
  have H2 : Hid (∀ w, Calls Tryz.prog 89 #[.int .u8 c] w fun e w' => e = .returned (.bool (digitP c)) ∧ w' = w) := isDigit_any c
  unfold runP
  generalize letterP c = l at *
  generalize digitP c = d at *
  cases l <;> cases d <;> cases h3 : c == 95
  all_goals (
    go_enter Tryz.func90, Tryz.ntmps90
    go_wp2_with (first | (go_at_call 92; refine (H1.out _).mono ?_; rintro e w' ⟨rfl, rfl⟩) | (go_at_call 89; refine (H2.out _).mono ?_; rintro e w' ⟨rfl, rfl⟩))
    go_ret
    exact ⟨rfl, rfl⟩)

end Go.Proofs.YteokdknaadckbaaGreatDoor.Lx
namespace Go.Proofs.YteokdknaadckbaaGreatDoor.Lx
open Go.RowKit

abbrev S (l : List UInt8) : Value := .string ⟨l.toArray⟩

theorem takeWhile_to {l : List UInt8} (p : UInt8 → Bool) (at_ k : Nat) (hk : k ≤ l.length) (ha : at_ ≤ k) (h : ∀ j, at_ ≤ j → j < k → p (l.getD j 0) = true) (he : k = l.length ∨ p (l.getD k 0) = false) :
    at_ + ((l.drop at_).takeWhile p).length = k := by
  obtain ⟨d, rfl⟩ : ∃ d, k = at_ + d := ⟨k - at_, by omega⟩
  induction d generalizing at_ with
  | zero =>
    rcases he with he | he
    · have : l.drop at_ = [] := by rw [List.drop_eq_nil_iff]; omega
      rw [this]; simp
    · by_cases hl : at_ < l.length
      · rw [List.drop_eq_getElem_cons hl]
        have e : l.getD at_ 0 = l[at_] := by simp [List.getD, hl]
        rw [Nat.add_zero, e] at he
        rw [List.takeWhile_cons_of_neg (by simp [he])]; simp
      · have : l.drop at_ = [] := by rw [List.drop_eq_nil_iff]; omega
        rw [this]; simp
  | succ d ih =>
    have hl : at_ < l.length := by omega
    rw [List.drop_eq_getElem_cons hl]
    have e : l.getD at_ 0 = l[at_] := by simp [List.getD, hl]
    have h0 := h at_ (Nat.le_refl _) (by omega)
    rw [e] at h0
    rw [List.takeWhile_cons_of_pos h0, List.length_cons]
    have h1 := ih (at_ + 1) (by omega) (by omega) (fun j hj hjk => h j (by omega) (by omega)) (by rw [show at_ + 1 + d = at_ + (d + 1) by omega]; exact he)
    omega


set_option maxHeartbeats 1000000 in
theorem isWord_no (l : List UInt8) (w : World) (h : ∀ x ∈ wordsL, (l == x) = false) : Calls Tryz.prog 95 #[S l] w fun e w' => e = .returned (.bool false) ∧ w' = w := by
  simp only [wordsL, List.mem_cons, List.mem_nil_iff, or_false, forall_eq_or_imp, forall_eq] at h
  obtain ⟨h1, h2, h3, h4, h5, h6, h7, h8, h9, h10, h11, h12, h13, h14, h15, h16, h17, h18, h19, h20⟩ := h
  go_enter Tryz.func95, Tryz.ntmps95
  go_wp2
  go_ret
  exact ⟨rfl, rfl⟩

set_option maxHeartbeats 4000000 in
theorem isWord_yes (l : List UInt8) (w : World) (h : l ∈ wordsL) : Calls Tryz.prog 95 #[S l] w fun e w' => e = .returned (.bool true) ∧ w' = w := by
  simp only [wordsL, List.mem_cons, List.mem_nil_iff, or_false] at h
  rcases h with rfl | rfl | rfl | rfl | rfl | rfl | rfl | rfl | rfl | rfl | rfl | rfl | rfl | rfl | rfl | rfl | rfl | rfl | rfl | rfl
  all_goals (
    go_enter Tryz.func95, Tryz.ntmps95
    go_wp2
    go_ret
    exact ⟨rfl, rfl⟩)

theorem isWord_any (l : List UInt8) (w : World) : Calls Tryz.prog 95 #[S l] w fun e w' => e = .returned (.bool (isWordP l)) ∧ w' = w := by
  unfold isWordP
  cases h : wordsL.contains l
  · refine isWord_no l w fun x hx => ?_
    cases hx2 : l == x
    · rfl
    · have e : l = x := by simpa using hx2
      subst e
      rw [List.contains_iff_mem.2 hx] at h
      cases h
  · exact isWord_yes l w (List.contains_iff_mem.1 h)

end Go.Proofs.YteokdknaadckbaaGreatDoor.Lx
