/- The program's parser: several things, until one of the ends comes. The program's parser: things parted by commas. The program's parser: members, fields, arguments. -/
import Derived.Test.YteokdknaadckbaaGreatDoorPart05
namespace Go.Proofs.YteokdknaadckbaaGreatDoor
open Go.RowKit

theorem something_any (p g cap : Nat) (ts : List Tok) (hE : Ends ts) (d : Int) (B : PS → Ans Tree) (hW : Keeps p g cap ts d 113 (writtenP B)) : Keeps p g cap ts d 70 (somethingP B) := by
  intro i full w h hba
  have hd := PSof_hd ts i full h.il
  unfold somethingP
  cases h1 : (PSof ts i full).sees wOpaque
  · rw [if_neg (by simp)]
    cases h2 : (PSof ts i full).sees wString
    · rw [if_neg (by simp)]
      unfold PS.sees at h1 h2
      rw [hd] at h1 h2
      exact something_else p g cap ts hE d B hW i full w h hba h1 h2
    · rw [if_pos rfl]
      unfold PS.sees at h1 h2
      rw [hd] at h1 h2
      exact something_string p g cap ts hE d i full w h h1 h2
  · rw [if_pos rfl]
    unfold PS.sees at h1
    rw [hd] at h1
    exact something_opaque p g cap ts hE d i full w h h1

theorem Sole.grownO {p : Nat} {w cur nxt : World} {row : Option Nat} (h : Sole p w cur) (hg : cur.grownBy nxt row) (hq : ∀ q, row = some q → w.heap.size ≤ q) : Sole p w nxt :=
  ⟨hg.os.trans h.os, hg.tape.trans h.tape, hg.output.trans h.output, Nat.le_trans h.size hg.size, fun b hb hp => (hg.block b (Nat.lt_of_lt_of_le hb h.size) (fun e => by have := hq b e.symm; omega)).trans (h.block b hb hp)⟩
theorem PP.grownO {w nxt : World} {p g cap : Nat} {ts : List Tok} {i : Nat} {d : Int} {full : Bool} (h : PP w p g cap ts i d full) {row : Option Nat} (hg : w.grownBy nxt row) (hp : row ≠ some p) (hgq : row ≠ some g) : PP nxt p g cap ts i d full :=
  h.of_blocks (hg.block p h.plt (fun e => hp e.symm)) (hg.block g h.glt (fun e => hgq e.symm))
theorem Kep.grownO {w cur nxt : World} {b : Nat} {o : Obj} (h : Kep w cur b o) {row : Option Nat} (hg : cur.grownBy nxt row) (hne : row ≠ some b) : Kep w nxt b o := ⟨(hg.block b h.lt (fun e => hne e.symm)).trans h.1, h.2⟩
/-- a list's block is there -/
theorem ListAt.own_lt {A : Nat → Prop} {w : World} {ks : List Tree} {sl : Value} (h : ListAt A w ks sl) {q : Nat} (e : sl.ownBlock = some q) : A q ∧ q < w.heap.size := by
  obtain ⟨xs, ho, hA, _⟩ := h
  exact ⟨hA q e, (ho.lt q e).2⟩
def sliceLen : Value → Nat
  | .slice _ n _ => n
  | _ => 0
/-- what is full fails -/
def Strict {α : Type} (F : PS → Ans α) : Prop := ∀ s, s.full = true → ∃ e a, F s = .no e a
theorem PSof_full (ts : List Tok) (i : Nat) (full : Bool) : (PSof ts i full).full = full := rfl
/-- the function with that number has a body -/
def Bodied (N : Nat) : Prop := ∀ (args : Array Value) (w : World), (callFunc N args).run Tryz.prog w = .ok (.enter N args) w

set_option maxHeartbeats 2000000 in
set_option maxRecDepth 4000 in
theorem some_any (p g cap : Nat) (ts : List Tok) (d : Int) (M : Nat) (F : PS → Ans Tree) (hO : Keeps p g cap ts d M F) (hF : Strict F) (hM : Bodied M) (b c : Nat) (ws : List (List UInt8)) (hl : ws.length ≤ 2) (i0 : Nat) (full0 : Bool) (w : World) (h : PP w p g cap ts i0 d full0) (hba : BareAt p w) (hb : b ≠ p) (hbl : b < w.heap.size)
    (hw : ∀ j (hj : j < ws.length), w.cell? ⟨b, j, none⟩ = some (.string ⟨(ws[j]).toArray⟩)) :
    Calls Tryz.prog 117 #[.pointer (some ⟨p, 0, none⟩), .func (.func M) #[.pointer (some ⟨p, 0, none⟩)] #[], .slice (some ⟨b, 0, none⟩) ws.length c] w (PPost p g cap ts d (listIs w.heap.size) (someP F ws 66 [] (PSof ts i0 full0)) w) := by
  have HP : Hid (p < w.heap.size ∧ g < w.heap.size) := ⟨h.plt, h.glt⟩
  have HBA : Hid (BareAt p w) := hba
  have HO : Hid (Keeps p g cap ts d M F) := hO
  have HF : Hid (Strict F) := hF
  have H : Hid (PP w p g cap ts i0 d full0) := h
  have HW : Hid (∀ w1, Sole p w w1 → b < w1.heap.size ∧ ∀ j (hj : j < ws.length), w1.cell? ⟨b, j, none⟩ = some (.string ⟨(ws[j]).toArray⟩)) := fun w1 hS => ⟨Nat.lt_of_lt_of_le hbl hS.size, fun j hj => by rw [(cells_same (hS.block b hbl hb) j).1]; exact hw j hj⟩
  have HSA : Hid (∀ w1 i full, Sole p w w1 → PP w1 p g cap ts i d full → Calls Tryz.prog 149 #[.pointer (some ⟨p, 0, none⟩), .slice (some ⟨b, 0, none⟩) ws.length c] w1 fun e w' => e = .returned (.bool (ws.any (PSof ts i full).sees)) ∧ Below w1.heap.size w1 w') := fun w1 i full hS hP => seesAny_any p g cap ts i d full b c ws w1 hP (HW.out w1 hS).1 (HW.out w1 hS).2 hl
  obtain ⟨R, hR⟩ : ∃ R, someP F ws 66 [] (PSof ts i0 full0) = R := ⟨_, rfl⟩
  rw [hR]
  have HR0 : Hid (R = someP F ws (66 - 0) [] (PSof ts i0 full0)) := hR.symm
  obtain ⟨inf, hi1, hi2, hi3, hi4⟩ := info29_ex
  have HI : Hid (Tryz.prog.info? 29 = some inf ∧ inf.zero = some (.agg #[.int .i64 0, .string ⟨#[]⟩, .int .i64 0, .int .i64 0, .slice none 0 0]) ∧ inf.size = 5 ∧ inf.bytes = 64) := ⟨hi1, hi2, hi3, hi4⟩
  obtain ⟨WL, hWL⟩ : ∃ x, ws.length = x := ⟨_, rfl⟩
  rw [hWL] at HSA ⊢
  have hmm := hM
  unfold Bodied at hmm
  clear h hba hO hF hw hb hbl hR hi1 hi2 hi3 hi4 hM hl
  go_enter Tryz.func117, Tryz.ntmps117
  go_wp2
  go_loopw [7] (fun sl wr => ∃ (acc : List Tree) (N : Nat) (oq : Option Addr) (cq : Nat) (ix : Nat) (full : Bool), sl = .slice oq N cq ∧ acc.length = N ∧ N ≤ 64 ∧ Hid (PP wr p g cap ts ix d full) ∧ Hid (Sole p w wr) ∧ Hid (listIs w.heap.size acc wr (.slice oq N cq)) ∧ Hid (R = someP F ws (66 - N) acc (PSof ts ix full))) (fun sl _ => 65 - sliceLen sl)
  case atStart => exact ⟨[], 0, none, 0, i0, full0, rfl, rfl, by omega, H, Sole.refl p w, listAt_nil, HR0⟩
  case round =>
    obtain ⟨acc, N, oq, cq, ix, full, rfl, hN1, hN2, HPr, HSr, HLr, HRr⟩ := hrel
    have HN : Hid (acc.length = N ∧ N ≤ 64) := ⟨hN1, hN2⟩
    have HST : Hid (R = if acc.isEmpty || !(ws.any (PSof ts ix full).sees) then (F ((PSof ts ix full).room N 64)).bind fun t s => someP F ws (65 - N) (acc ++ [t]) s else .ok acc (PSof ts ix full)) := by
      show _ = _
      rw [HRr.out, show 66 - N = (65 - N) + 1 by omega, someP, hN1]
    have HIS : Hid (acc.isEmpty = decide (N = 0)) := by
      show _ = _
      rw [← hN1]
      cases acc <;> simp
    have HWL : Hid (ws.length = WL) := hWL
    clear hN1 hN2
    by_cases h0 : N = 0
    · have hz : ((N : Int) == 0) = true := by simp [h0]
      have HIE : Hid (acc.isEmpty = true) := by show _ = _; rw [HIS.out]; simp [h0]
      have HPv : Hid (PP wr p g cap ts ix d full) := HPr
      have HRM : Hid (Calls Tryz.prog 39 #[.pointer (some ⟨p, 0, none⟩), .int .i64 N, .int .i64 64] wr fun e w' => e = .returned (.tuple #[]) ∧ PP w' p g cap ts ix d (roomF full N 64) ∧ Sole p wr w' ∧ w'.heap.size = wr.heap.size) := room_any p g cap ts ix d full N 64 wr HPv.out
      obtain ⟨rv, hrv⟩ : ∃ r, F (PSof ts ix (roomF full N 64)) = r := ⟨_, rfl⟩
      have HR2 : Hid (R = rv.bind fun t s => someP F ws (65 - N) (acc ++ [t]) s) := by
        show _ = _
        rw [HST.out, if_pos (by rw [HIE.out]; rfl)]
        rw [← hrv, PSof_room]
      have HLX : Hid (∀ t s, rv = .ok t s → N + 1 ≤ 64) := fun t s e => by
        rcases Nat.lt_or_ge N 64 with h1 | h1
        · exact h1
        · have hNN := HN.out
          have hN64 : N = 64 := by omega
          obtain ⟨x, y, hx⟩ := HF.out (PSof ts ix (roomF full N 64)) (by rw [PSof_full]; unfold roomF; simp [hN64])
          rw [← hrv, hx] at e
          cases e
      have HON : Hid (∀ w1, PP w1 p g cap ts ix d (roomF full N 64) → BareAt p w1 → Calls Tryz.prog M #[.pointer (some ⟨p, 0, none⟩)] w1 (PPost p g cap ts d (treeIs w1.heap.size) rv w1)) := fun w1 h1 h2 => by
        rw [← hrv]
        exact HO.out ix _ w1 h1 h2
      clear hrv
      clear h0 hWL
      go_wp2_with fail
      refine HRM.out.mono ?_
      rintro e wc ⟨rfl, hP, hS, hz2⟩
      have HPc : Hid (PP wc p g cap ts ix d (roomF full N 64)) := hP
      have HSc : Hid (Sole p w wc) := HSr.out.trans hS
      have HBc : Hid (BareAt p wc) := HBA.out.sole HSc.out
      have HLc : Hid (ListAt (Fresh w.heap.size) wc acc (.slice oq N cq)) := ListAt.sole HLr.out (fun b h => by have h1 : w.heap.size ≤ b := h; have := HP.out; omega) hS
      clear hP hS hz2
      go_wp2_with fail
      refine (HON.out wc HPc.out HBc.out).mono ?_
      cases rv with
      | no why at_ =>
        rintro e w99 ⟨rfl, hS⟩
        have HS99 : Hid (Sole p w w99) := HSc.out.trans hS
        clear hS
        go_wp2
        refine ⟨rfl, ?_⟩
        rw [HR2.out]
        exact ⟨rfl, HS99.out⟩
      | ok tv st =>
        rintro e w3 ⟨v, i, full, rfl, hT, rfl, hP, hS⟩
        have HLT : Hid (N + 1 ≤ 64) := HLX.out _ _ rfl
        obtain ⟨k8, n8, m8, a8, ks8⟩ := tv
        obtain ⟨sl, rfl, hL⟩ := treeAt_node.1 hT
        obtain ⟨o8, l8, c8, rfl⟩ := hL.shape
        obtain ⟨wb, hwb⟩ : ∃ x, w3.alloc (.cells #[.int .i64 k8, .string ⟨n8.toArray⟩, .int .i64 m8, .int .i64 a8, .slice o8 l8 c8] 29) = x := ⟨_, rfl⟩
        have hBb : Below w3.heap.size w3 wb := by rw [← hwb]; exact below_alloc _ _
        have hp := HP.out
        have hl3 : ListAt (Fresh w.heap.size) wb acc (.slice oq N cq) := (HLc.out.sole (fun b h => by have h1 : w.heap.size ≤ b := h; omega) hS).below hBb
        obtain ⟨xs, how, hAq, hrq⟩ := hl3
        have HLQ : Hid (∀ q, (Value.slice oq N cq).ownBlock = some q → w.heap.size ≤ q ∧ q < wc.heap.size) := fun q e => HLc.out.own_lt e
        rw [HN.out.1] at how
        have HOW : Hid (wb.ownsRow 0 29 5 (.slice oq N cq) N xs) := how
        have HRQ : Hid (RowV (fun b => Fresh w.heap.size b ∧ (Value.slice oq N cq).ownBlock ≠ some b) wb acc xs) := hrq
        have HNB : Hid (wb.heap[w3.heap.size]? = some (.cells #[.int .i64 k8, .string ⟨n8.toArray⟩, .int .i64 m8, .int .i64 a8, .slice o8 l8 c8] 29 (0, 0))) := by show _ = _; rw [← hwb]; exact heap_alloc_new _ _
        have HT8 : Hid (TreeAt (Fresh wc.heap.size) wb (.node k8 n8 m8 a8 ks8) (kidV k8 n8 m8 a8 (.slice o8 l8 c8))) := TreeAt.below hT hBb
        have HPb : Hid (PP wb p g cap ts i d full) := hP.below hBb
        have HSb : Hid (Sole p w wb) := (HSc.out.trans hS).trans (Sole.of_below hBb)
        have HBb : Hid (BareAt p wb) := (HBc.out.sole hS).below hBb
        have HSZ : Hid (wc.heap.size ≤ w3.heap.size ∧ w3.heap.size < wb.heap.size) := ⟨hS.size, by rw [← hwb]; simp⟩
        clear hP hS hT hL hBb hp how hAq hrq
        unfold kidV
        go_wp2_with (at_builtin; refine wpList_append_lies _ rfl _ _ 27 rfl 0 29 inf (.agg #[.int .i64 0, .string ⟨#[]⟩, .int .i64 0, .int .i64 0, .slice none 0 0]) 5 64 Tryz.underlying27 HI.out.1 HI.out.2.1 HI.out.2.2.1 HI.out.2.2.2 rfl (by decide) (.slice oq N cq) N xs rfl HOW.out ⟨w3.heap.size, 0, none⟩ 1 1 [.int .i64 k8, .string ⟨n8.toArray⟩, .int .i64 m8, .int .i64 a8, .slice o8 l8 c8] rfl rfl (World.news_of_block (cs := #[.int .i64 k8, .string ⟨n8.toArray⟩, .int .i64 m8, .int .i64 a8, .slice o8 l8 c8]) (t := 29) (fr := (0, 0)) HNB.out) (by simp [Value.oneCell']) (by decide) (by have := HN.out; unfold maxLen; omega) (by have := HN.out; omega) (Nat.zero_le _) _ rfl ?_; intro gq cq2 w4 hown hgrow hat hlt; have HG : Hid (wb.grownBy w4 (Value.slice oq N cq).ownBlock ∧ w4.ownsRow 0 29 5 (.slice (some ⟨gq, 0, none⟩) (N + 1) cq2) (N + 1) (xs ++ [.int .i64 k8, .string ⟨n8.toArray⟩, .int .i64 m8, .int .i64 a8, .slice o8 l8 c8]) ∧ ((Value.slice oq N cq).ownBlock = some gq ∨ gq = wb.heap.size)) := ⟨hgrow, hown, hat⟩; clear hown hgrow hat hlt)
        clear hwb
        have hp := HP.out
        have HP4 : Hid (PP w4 p g cap ts i d full) := HPb.out.grownO HG.out.1 (fun e => by have := HLQ.out p e; omega) (fun e => by have := HLQ.out g e; omega)
        have HS4 : Hid (Sole p w w4) := HSb.out.grownO HG.out.1 (fun q e => (HLQ.out q e).1)
        have HB4 : Hid (BareAt p w4) := HBA.out.sole HS4.out
        have HL4 : Hid (listIs w.heap.size (acc ++ [(.node k8 n8 m8 a8 ks8)]) w4 (.slice (some ⟨gq, 0, none⟩) (N + 1) cq2)) := by
          refine listAt_more (sl := .slice oq N cq) (fun q e => (HLQ.out q e).1) HRQ.out (rowV_one (HT8.out.weaken (fun b h => ?_))) (by rw [HN.out.1]; exact HG.out.2.1) HG.out.1 wb.heap.size (Nat.le_refl _) HSb.out.size ?_
          · have h1 : wc.heap.size ≤ b := h
            have h2 := HSc.out.size
            exact ⟨by show w.heap.size ≤ b; omega, fun e => by have := (HLQ.out b e).2; omega⟩
          · rcases HG.out.2.2 with e | e
            · exact Or.inl e.symm
            · exact Or.inr (by rw [e]; rfl)
        have hNN := HN.out
        have HRNX : Hid (R = someP F ws (66 - (N + 1)) (acc ++ [(.node k8 n8 m8 a8 ks8)]) (PSof ts i full)) := by
          show _ = _
          rw [show 66 - (N + 1) = 65 - N by omega]
          exact HR2.out
        clear hp
        go_roundw
        case rel => exact ⟨acc ++ [(.node k8 n8 m8 a8 ks8)], N + 1, some ⟨gq, 0, none⟩, cq2, i, full, by go_num, by simp [hNN.1], HLT.out, HP4, HS4, HL4, HRNX⟩
        case measure => simp [sliceLen]; omega
    · have hz : ((N : Int) == 0) = false := by simp; omega
      have HIE : Hid (acc.isEmpty = false) := by show _ = _; rw [HIS.out]; simp [h0]
      have HSX : Hid (Calls Tryz.prog 149 #[.pointer (some ⟨p, 0, none⟩), .slice (some ⟨b, 0, none⟩) WL c] wr fun e w' => e = .returned (.bool (ws.any (PSof ts ix full).sees)) ∧ Below wr.heap.size wr w') := HSA.out wr ix full HSr.out HPr.out
      clear h0 hWL
      cases hse : ws.any (PSof ts ix full).sees
      · rw [hse] at HSX
        have HIC : Hid ((acc.isEmpty || !(ws.any (PSof ts ix full).sees)) = true) := by show _ = _; rw [hse]; simp
        clear hse
        go_wp2_with fail
        refine HSX.out.mono ?_
        rintro e wv ⟨rfl, hB⟩
        have HPv : Hid (PP wv p g cap ts ix d full) := HPr.out.below hB
        have HSv : Hid (Sole p w wv) := HSr.out.trans (Sole.of_below hB)
        have HLv : Hid (ListAt (Fresh w.heap.size) wv acc (.slice oq N cq)) := ListAt.below HLr.out hB
        clear hB
        have HRM : Hid (Calls Tryz.prog 39 #[.pointer (some ⟨p, 0, none⟩), .int .i64 N, .int .i64 64] wv fun e w' => e = .returned (.tuple #[]) ∧ PP w' p g cap ts ix d (roomF full N 64) ∧ Sole p wv w' ∧ w'.heap.size = wv.heap.size) := room_any p g cap ts ix d full N 64 wv HPv.out
        obtain ⟨rv, hrv⟩ : ∃ r, F (PSof ts ix (roomF full N 64)) = r := ⟨_, rfl⟩
        have HR2 : Hid (R = rv.bind fun t s => someP F ws (65 - N) (acc ++ [t]) s) := by
          show _ = _
          rw [HST.out, if_pos HIC.out]
          rw [← hrv, PSof_room]
        have HLX : Hid (∀ t s, rv = .ok t s → N + 1 ≤ 64) := fun t s e => by
          rcases Nat.lt_or_ge N 64 with h1 | h1
          · exact h1
          · have hNN := HN.out
            have hN64 : N = 64 := by omega
            obtain ⟨x, y, hx⟩ := HF.out (PSof ts ix (roomF full N 64)) (by rw [PSof_full]; unfold roomF; simp [hN64])
            rw [← hrv, hx] at e
            cases e
        have HON : Hid (∀ w1, PP w1 p g cap ts ix d (roomF full N 64) → BareAt p w1 → Calls Tryz.prog M #[.pointer (some ⟨p, 0, none⟩)] w1 (PPost p g cap ts d (treeIs w1.heap.size) rv w1)) := fun w1 h1 h2 => by
          rw [← hrv]
          exact HO.out ix _ w1 h1 h2
        clear hrv
        go_wp2_with fail
        refine HRM.out.mono ?_
        rintro e wc ⟨rfl, hP, hS, hz2⟩
        have HPc : Hid (PP wc p g cap ts ix d (roomF full N 64)) := hP
        have HSc : Hid (Sole p w wc) := HSv.out.trans hS
        have HBc : Hid (BareAt p wc) := HBA.out.sole HSc.out
        have HLc : Hid (ListAt (Fresh w.heap.size) wc acc (.slice oq N cq)) := ListAt.sole HLv.out (fun b h => by have h1 : w.heap.size ≤ b := h; have := HP.out; omega) hS
        clear hP hS hz2
        go_wp2_with fail
        refine (HON.out wc HPc.out HBc.out).mono ?_
        cases rv with
        | no why at_ =>
          rintro e w99 ⟨rfl, hS⟩
          have HS99 : Hid (Sole p w w99) := HSc.out.trans hS
          clear hS
          go_wp2
          refine ⟨rfl, ?_⟩
          rw [HR2.out]
          exact ⟨rfl, HS99.out⟩
        | ok tv st =>
          rintro e w3 ⟨v, i, full, rfl, hT, rfl, hP, hS⟩
          have HLT : Hid (N + 1 ≤ 64) := HLX.out _ _ rfl
          obtain ⟨k8, n8, m8, a8, ks8⟩ := tv
          obtain ⟨sl, rfl, hL⟩ := treeAt_node.1 hT
          obtain ⟨o8, l8, c8, rfl⟩ := hL.shape
          obtain ⟨wb, hwb⟩ : ∃ x, w3.alloc (.cells #[.int .i64 k8, .string ⟨n8.toArray⟩, .int .i64 m8, .int .i64 a8, .slice o8 l8 c8] 29) = x := ⟨_, rfl⟩
          have hBb : Below w3.heap.size w3 wb := by rw [← hwb]; exact below_alloc _ _
          have hp := HP.out
          have hl3 : ListAt (Fresh w.heap.size) wb acc (.slice oq N cq) := (HLc.out.sole (fun b h => by have h1 : w.heap.size ≤ b := h; omega) hS).below hBb
          obtain ⟨xs, how, hAq, hrq⟩ := hl3
          have HLQ : Hid (∀ q, (Value.slice oq N cq).ownBlock = some q → w.heap.size ≤ q ∧ q < wc.heap.size) := fun q e => HLc.out.own_lt e
          rw [HN.out.1] at how
          have HOW : Hid (wb.ownsRow 0 29 5 (.slice oq N cq) N xs) := how
          have HRQ : Hid (RowV (fun b => Fresh w.heap.size b ∧ (Value.slice oq N cq).ownBlock ≠ some b) wb acc xs) := hrq
          have HNB : Hid (wb.heap[w3.heap.size]? = some (.cells #[.int .i64 k8, .string ⟨n8.toArray⟩, .int .i64 m8, .int .i64 a8, .slice o8 l8 c8] 29 (0, 0))) := by show _ = _; rw [← hwb]; exact heap_alloc_new _ _
          have HT8 : Hid (TreeAt (Fresh wc.heap.size) wb (.node k8 n8 m8 a8 ks8) (kidV k8 n8 m8 a8 (.slice o8 l8 c8))) := TreeAt.below hT hBb
          have HPb : Hid (PP wb p g cap ts i d full) := hP.below hBb
          have HSb : Hid (Sole p w wb) := (HSc.out.trans hS).trans (Sole.of_below hBb)
          have HBb : Hid (BareAt p wb) := (HBc.out.sole hS).below hBb
          have HSZ : Hid (wc.heap.size ≤ w3.heap.size ∧ w3.heap.size < wb.heap.size) := ⟨hS.size, by rw [← hwb]; simp⟩
          clear hP hS hT hL hBb hp how hAq hrq
          unfold kidV
          go_wp2_with (at_builtin; refine wpList_append_lies _ rfl _ _ 27 rfl 0 29 inf (.agg #[.int .i64 0, .string ⟨#[]⟩, .int .i64 0, .int .i64 0, .slice none 0 0]) 5 64 Tryz.underlying27 HI.out.1 HI.out.2.1 HI.out.2.2.1 HI.out.2.2.2 rfl (by decide) (.slice oq N cq) N xs rfl HOW.out ⟨w3.heap.size, 0, none⟩ 1 1 [.int .i64 k8, .string ⟨n8.toArray⟩, .int .i64 m8, .int .i64 a8, .slice o8 l8 c8] rfl rfl (World.news_of_block (cs := #[.int .i64 k8, .string ⟨n8.toArray⟩, .int .i64 m8, .int .i64 a8, .slice o8 l8 c8]) (t := 29) (fr := (0, 0)) HNB.out) (by simp [Value.oneCell']) (by decide) (by have := HN.out; unfold maxLen; omega) (by have := HN.out; omega) (Nat.zero_le _) _ rfl ?_; intro gq cq2 w4 hown hgrow hat hlt; have HG : Hid (wb.grownBy w4 (Value.slice oq N cq).ownBlock ∧ w4.ownsRow 0 29 5 (.slice (some ⟨gq, 0, none⟩) (N + 1) cq2) (N + 1) (xs ++ [.int .i64 k8, .string ⟨n8.toArray⟩, .int .i64 m8, .int .i64 a8, .slice o8 l8 c8]) ∧ ((Value.slice oq N cq).ownBlock = some gq ∨ gq = wb.heap.size)) := ⟨hgrow, hown, hat⟩; clear hown hgrow hat hlt)
          clear hwb
          have hp := HP.out
          have HP4 : Hid (PP w4 p g cap ts i d full) := HPb.out.grownO HG.out.1 (fun e => by have := HLQ.out p e; omega) (fun e => by have := HLQ.out g e; omega)
          have HS4 : Hid (Sole p w w4) := HSb.out.grownO HG.out.1 (fun q e => (HLQ.out q e).1)
          have HB4 : Hid (BareAt p w4) := HBA.out.sole HS4.out
          have HL4 : Hid (listIs w.heap.size (acc ++ [(.node k8 n8 m8 a8 ks8)]) w4 (.slice (some ⟨gq, 0, none⟩) (N + 1) cq2)) := by
            refine listAt_more (sl := .slice oq N cq) (fun q e => (HLQ.out q e).1) HRQ.out (rowV_one (HT8.out.weaken (fun b h => ?_))) (by rw [HN.out.1]; exact HG.out.2.1) HG.out.1 wb.heap.size (Nat.le_refl _) HSb.out.size ?_
            · have h1 : wc.heap.size ≤ b := h
              have h2 := HSc.out.size
              exact ⟨by show w.heap.size ≤ b; omega, fun e => by have := (HLQ.out b e).2; omega⟩
            · rcases HG.out.2.2 with e | e
              · exact Or.inl e.symm
              · exact Or.inr (by rw [e]; rfl)
          have hNN := HN.out
          have HRNX : Hid (R = someP F ws (66 - (N + 1)) (acc ++ [(.node k8 n8 m8 a8 ks8)]) (PSof ts i full)) := by
            show _ = _
            rw [show 66 - (N + 1) = 65 - N by omega]
            exact HR2.out
          clear hp
          go_roundw
          case rel => exact ⟨acc ++ [(.node k8 n8 m8 a8 ks8)], N + 1, some ⟨gq, 0, none⟩, cq2, i, full, by go_num, by simp [hNN.1], HLT.out, HP4, HS4, HL4, HRNX⟩
          case measure => simp [sliceLen]; omega
      · rw [hse] at HSX
        have HRN : Hid (R = .ok acc (PSof ts ix full)) := by
          show _ = _
          rw [HST.out, if_neg]
          rw [hse, HIE.out]; simp
        clear hse
        go_wp2_with fail
        refine HSX.out.mono ?_
        rintro e wv ⟨rfl, hB⟩
        have HPv : Hid (PP wv p g cap ts ix d full) := HPr.out.below hB
        have HSv : Hid (Sole p w wv) := HSr.out.trans (Sole.of_below hB)
        have HLv : Hid (ListAt (Fresh w.heap.size) wv acc (.slice oq N cq)) := ListAt.below HLr.out hB
        clear hB
        go_wp2
        go_ret
        rw [HRN.out]
        exact ⟨_, ix, full, rfl, HLv.out, rfl, HPv.out, HSv.out⟩
end Go.Proofs.YteokdknaadckbaaGreatDoor
namespace Go.Proofs.YteokdknaadckbaaGreatDoor
open Go.RowKit

set_option maxHeartbeats 2000000 in
set_option maxRecDepth 4000 in
theorem parted_any (p g cap : Nat) (ts : List Tok) (hE : Ends ts) (d : Int) (M : Nat) (F : PS → Ans Tree) (hO : Keeps p g cap ts d M F) (hM : Bodied M) (most : Nat) (hm1 : 1 ≤ most) (hm : most ≤ 64) (i0 : Nat) (full0 : Bool) (w : World) (h : PP w p g cap ts i0 d full0) (hba : BareAt p w) :
    Calls Tryz.prog 143 #[.pointer (some ⟨p, 0, none⟩), .func (.func M) #[.pointer (some ⟨p, 0, none⟩)] #[], .int .i64 most] w (PPost p g cap ts d (listIs w.heap.size) (partedP F most (PSof ts i0 full0)) w) := by
  have HP : Hid (p < w.heap.size ∧ g < w.heap.size) := ⟨h.plt, h.glt⟩
  have HBA : Hid (BareAt p w) := hba
  have HE : Hid (Ends ts) := hE
  have HO : Hid (Keeps p g cap ts d M F) := hO
  have HMO : Hid (1 ≤ most ∧ most ≤ 64) := ⟨hm1, hm⟩
  obtain ⟨R, hR⟩ : ∃ R, partedP F most (PSof ts i0 full0) = R := ⟨_, rfl⟩
  rw [hR]
  have HON0 : Hid (Calls Tryz.prog M #[.pointer (some ⟨p, 0, none⟩)] w (PPost p g cap ts d (treeIs w.heap.size) (F (PSof ts i0 full0)) w)) := hO i0 full0 w h hba
  obtain ⟨r0, hr0⟩ : ∃ r, F (PSof ts i0 full0) = r := ⟨_, rfl⟩
  have HR0 : Hid (R = r0.bind fun t s => moreP F most 66 [t] s) := by
    show _ = _
    rw [← hR, ← hr0]; rfl
  rw [hr0] at HON0
  obtain ⟨inf, hi1, hi2, hi3, hi4⟩ := info29_ex
  have HI : Hid (Tryz.prog.info? 29 = some inf ∧ inf.zero = some (.agg #[.int .i64 0, .string ⟨#[]⟩, .int .i64 0, .int .i64 0, .slice none 0 0]) ∧ inf.size = 5 ∧ inf.bytes = 64) := ⟨hi1, hi2, hi3, hi4⟩
  have HSr0 : Hid (Sole p w w) := Sole.refl p w
  have hmm := hM
  unfold Bodied at hmm
  clear h hba hO hR hi1 hi2 hi3 hi4 hE hM hm hm1 hr0
  go_enter Tryz.func143, Tryz.ntmps143
  go_wp2_with fail
  refine HON0.out.mono ?_
  cases r0 with
  | no why at_ =>
    rintro e w99 ⟨rfl, hS⟩
    have HS99 : Hid (Sole p w w99) := HSr0.out.trans hS
    clear hS
    go_wp2
    refine ⟨rfl, ?_⟩
    rw [HR0.out]
    exact ⟨rfl, HS99.out⟩
  | ok tv st =>
    rintro e w1 ⟨v, i1, full1, rfl, hT, rfl, hP, hS⟩
    obtain ⟨k8, n8, m8, a8, ks8⟩ := tv
    obtain ⟨sl, rfl, hL⟩ := treeAt_node.1 hT
    obtain ⟨o8, l8, c8, rfl⟩ := hL.shape
    obtain ⟨w2, hw2⟩ : ∃ x, w1.alloc (.cells #[.int .i64 k8, .string ⟨n8.toArray⟩, .int .i64 m8, .int .i64 a8, .slice o8 l8 c8] 29) = x := ⟨_, rfl⟩
    have hB2 : Below w1.heap.size w1 w2 := by rw [← hw2]; exact below_alloc _ _
    have HP2 : Hid (PP w2 p g cap ts i1 d full1) := hP.below hB2
    have HS2 : Hid (Sole p w w2) := hS.trans (Sole.of_below hB2)
    have HL2 : Hid (listIs w.heap.size [(.node k8 n8 m8 a8 ks8)] w2 (.slice (some ⟨w1.heap.size, 0, none⟩) 1 1)) := by
      have hs := hS.size
      refine listAt_lit (show w2.heap[w1.heap.size]? = some (rowObj [.int .i64 k8, .string ⟨n8.toArray⟩, .int .i64 m8, .int .i64 a8, .slice o8 l8 c8]) from by rw [← hw2]; exact heap_alloc_new _ _) (by simp) hs (rowV_one ((TreeAt.below (treeIs.made hT) hB2).weaken (fun b h => ⟨h.1, by omega⟩)))
    have HR1 : Hid (R = moreP F most (67 - 1) [(.node k8 n8 m8 a8 ks8)] (PSof ts i1 full1)) := HR0.out
    clear hP hS hT hL hB2
    unfold kidV
    go_wp2
    clear hw2
    go_loopw [7] (fun sl wr => ∃ (acc : List Tree) (N : Nat) (oq : Option Addr) (cq : Nat) (ix : Nat) (full : Bool), sl = .slice oq N cq ∧ acc.length = N ∧ N ≤ most ∧ Hid (PP wr p g cap ts ix d full) ∧ Hid (Sole p w wr) ∧ Hid (listIs w.heap.size acc wr (.slice oq N cq)) ∧ Hid (R = moreP F most (67 - N) acc (PSof ts ix full))) (fun sl _ => most + 1 - sliceLen sl)
    case atStart => exact ⟨[(.node k8 n8 m8 a8 ks8)], 1, some ⟨w1.heap.size, 0, none⟩, 1, i1, full1, rfl, rfl, HMO.out.1, HP2, HS2, HL2, HR1⟩
    case round =>
      obtain ⟨acc, N, oq, cq, ix, full, rfl, hN1, hN2, HPr, HSr, HLr, HRr⟩ := hrel
      have hmo := HMO.out
      have HN : Hid (acc.length = N ∧ N ≤ 64) := ⟨hN1, by omega⟩
      have HNM : Hid (N ≤ most) := hN2
      have HST : Hid (R = if (PSof ts ix full).sees [44] then ((PSof ts ix full).room N most).take.bind fun _ s => (F s).bind fun t s => moreP F most (66 - N) (acc ++ [t]) s else .ok acc (PSof ts ix full)) := by
        show _ = _
        rw [HRr.out, show 67 - N = (66 - N) + 1 by omega, moreP, hN1]
      have HSX : Hid (Calls Tryz.prog 75 #[.pointer (some ⟨p, 0, none⟩), .string ⟨#[44]⟩] wr fun e w' => e = .returned (.bool ((PSof ts ix full).sees [44])) ∧ Below wr.heap.size wr w') := sees_lit p g cap ts ix d full [44] wr HPr.out
      clear hN1 hN2 hmo
      cases hse : (PSof ts ix full).sees [44]
      · rw [hse] at HSX
        have HRN : Hid (R = .ok acc (PSof ts ix full)) := by
          show _ = _
          rw [HST.out, if_neg (by rw [hse]; simp)]
        clear hse
        go_wp2_with fail
        refine HSX.out.mono ?_
        rintro e wv ⟨rfl, hB⟩
        have HPv : Hid (PP wv p g cap ts ix d full) := HPr.out.below hB
        have HSv : Hid (Sole p w wv) := HSr.out.trans (Sole.of_below hB)
        have HLv : Hid (ListAt (Fresh w.heap.size) wv acc (.slice oq N cq)) := ListAt.below HLr.out hB
        clear hB
        go_wp2
        go_ret
        rw [HRN.out]
        exact ⟨_, ix, full, rfl, HLv.out, rfl, HPv.out, HSv.out⟩
      · rw [hse] at HSX
        have hix := HE.out.sees HPr.out.il (t := [44]) (by simp) hse
        obtain ⟨rt, hrt⟩ : ∃ r, (PSof ts ix (roomF full N most)).take = r := ⟨_, rfl⟩
        have HR1b : Hid (R = rt.bind fun _ s => (F s).bind fun t s => moreP F most (66 - N) (acc ++ [t]) s) := by
          show _ = _
          rw [HST.out, if_pos hse, PSof_room, hrt]
        have HLX : Hid (∀ t s, rt = .ok t s → N + 1 ≤ most) := fun t s e => by
          rcases Nat.lt_or_ge N most with h1 | h1
          · exact h1
          · have hNN := HNM.out
            have hN64 : N = most := by omega
            rw [← hrt] at e
            unfold PS.take at e
            rw [show (PSof ts ix (roomF full N most)).full = true from by rw [PSof_full]; unfold roomF; simp [hN64], if_pos rfl] at e
            cases e
        have HTK : Hid (∀ w1, PP w1 p g cap ts ix d (roomF full N most) → Calls Tryz.prog 69 #[.pointer (some ⟨p, 0, none⟩)] w1 (PPost p g cap ts d tokIs rt w1)) := fun w1 h1 => by
          rw [← hrt]
          exact take_any p g cap ts ix d _ w1 h1 hix
        clear hse hix hrt
        go_wp2_with fail
        refine HSX.out.mono ?_
        rintro e wv ⟨rfl, hB⟩
        have HPv : Hid (PP wv p g cap ts ix d full) := HPr.out.below hB
        have HSv : Hid (Sole p w wv) := HSr.out.trans (Sole.of_below hB)
        have HLv : Hid (ListAt (Fresh w.heap.size) wv acc (.slice oq N cq)) := ListAt.below HLr.out hB
        have HRM : Hid (Calls Tryz.prog 39 #[.pointer (some ⟨p, 0, none⟩), .int .i64 N, .int .i64 most] wv fun e w' => e = .returned (.tuple #[]) ∧ PP w' p g cap ts ix d (roomF full N most) ∧ Sole p wv w' ∧ w'.heap.size = wv.heap.size) := room_any p g cap ts ix d full N most wv HPv.out
        clear hB
        go_wp2_with fail
        refine HRM.out.mono ?_
        rintro e wt ⟨rfl, hP, hS, hz2⟩
        have HPt : Hid (PP wt p g cap ts ix d (roomF full N most)) := hP
        have HSt : Hid (Sole p w wt) := HSv.out.trans hS
        have HLt : Hid (ListAt (Fresh w.heap.size) wt acc (.slice oq N cq)) := ListAt.sole HLv.out (fun b h => by have h1 : w.heap.size ≤ b := h; have := HP.out; omega) hS
        clear hP hS hz2
        go_wp2_with fail
        refine (HTK.out wt HPt.out).mono ?_
        cases rt with
        | no why at_ =>
          rintro e w99 ⟨rfl, hS⟩
          have HS99 : Hid (Sole p w w99) := HSt.out.trans hS
          clear hS
          go_wp2
          refine ⟨rfl, ?_⟩
          rw [HR1b.out]
          exact ⟨rfl, HS99.out⟩
        | ok tk st =>
          rintro e wc ⟨v, i2, full2, rfl, rfl, rfl, hP, hS⟩
          have HLT : Hid (N + 1 ≤ most) := HLX.out _ _ rfl
          have HPc : Hid (PP wc p g cap ts i2 d full2) := hP
          have HSc : Hid (Sole p w wc) := HSt.out.trans hS
          have HBc : Hid (BareAt p wc) := HBA.out.sole HSc.out
          have HLc : Hid (ListAt (Fresh w.heap.size) wc acc (.slice oq N cq)) := ListAt.sole HLt.out (fun b h => by have h1 : w.heap.size ≤ b := h; have := HP.out; omega) hS
          obtain ⟨rv, hrv⟩ : ∃ r, F (PSof ts i2 full2) = r := ⟨_, rfl⟩
          have HR2 : Hid (R = rv.bind fun t s => moreP F most (66 - N) (acc ++ [t]) s) := by
            show _ = _
            rw [HR1b.out, ← hrv]; rfl
          have HON : Hid (∀ w1, PP w1 p g cap ts i2 d full2 → BareAt p w1 → Calls Tryz.prog M #[.pointer (some ⟨p, 0, none⟩)] w1 (PPost p g cap ts d (treeIs w1.heap.size) rv w1)) := fun w1 h1 h2 => by
            rw [← hrv]
            exact HO.out i2 full2 w1 h1 h2
          clear hP hS hrv
          unfold tokV
          go_wp2_with fail
          refine (HON.out wc HPc.out HBc.out).mono ?_
          cases rv with
          | no why at_ =>
            rintro e w99 ⟨rfl, hS⟩
            have HS99 : Hid (Sole p w w99) := HSc.out.trans hS
            clear hS
            go_wp2
            refine ⟨rfl, ?_⟩
            rw [HR2.out]
            exact ⟨rfl, HS99.out⟩
          | ok tv st =>
            rintro e w3 ⟨v, i, full, rfl, hT, rfl, hP, hS⟩
            obtain ⟨k8, n8, m8, a8, ks8⟩ := tv
            obtain ⟨sl, rfl, hL⟩ := treeAt_node.1 hT
            obtain ⟨o8, l8, c8, rfl⟩ := hL.shape
            obtain ⟨wb, hwb⟩ : ∃ x, w3.alloc (.cells #[.int .i64 k8, .string ⟨n8.toArray⟩, .int .i64 m8, .int .i64 a8, .slice o8 l8 c8] 29) = x := ⟨_, rfl⟩
            have hBb : Below w3.heap.size w3 wb := by rw [← hwb]; exact below_alloc _ _
            have hp := HP.out
            have hl3 : ListAt (Fresh w.heap.size) wb acc (.slice oq N cq) := (HLc.out.sole (fun b h => by have h1 : w.heap.size ≤ b := h; omega) hS).below hBb
            obtain ⟨xs, how, hAq, hrq⟩ := hl3
            have HLQ : Hid (∀ q, (Value.slice oq N cq).ownBlock = some q → w.heap.size ≤ q ∧ q < wc.heap.size) := fun q e => HLc.out.own_lt e
            rw [HN.out.1] at how
            have HOW : Hid (wb.ownsRow 0 29 5 (.slice oq N cq) N xs) := how
            have HRQ : Hid (RowV (fun b => Fresh w.heap.size b ∧ (Value.slice oq N cq).ownBlock ≠ some b) wb acc xs) := hrq
            have HNB : Hid (wb.heap[w3.heap.size]? = some (.cells #[.int .i64 k8, .string ⟨n8.toArray⟩, .int .i64 m8, .int .i64 a8, .slice o8 l8 c8] 29 (0, 0))) := by show _ = _; rw [← hwb]; exact heap_alloc_new _ _
            have HT8 : Hid (TreeAt (Fresh wc.heap.size) wb (.node k8 n8 m8 a8 ks8) (kidV k8 n8 m8 a8 (.slice o8 l8 c8))) := TreeAt.below hT hBb
            have HPb : Hid (PP wb p g cap ts i d full) := hP.below hBb
            have HSb : Hid (Sole p w wb) := (HSc.out.trans hS).trans (Sole.of_below hBb)
            have HSZ : Hid (wc.heap.size ≤ w3.heap.size ∧ w3.heap.size < wb.heap.size) := ⟨hS.size, by rw [← hwb]; simp⟩
            clear hP hS hT hL hBb hp how hAq hrq
            unfold kidV
            go_wp2_with (at_builtin; refine wpList_append_lies _ rfl _ _ 27 rfl 0 29 inf (.agg #[.int .i64 0, .string ⟨#[]⟩, .int .i64 0, .int .i64 0, .slice none 0 0]) 5 64 Tryz.underlying27 HI.out.1 HI.out.2.1 HI.out.2.2.1 HI.out.2.2.2 rfl (by decide) (.slice oq N cq) N xs rfl HOW.out ⟨w3.heap.size, 0, none⟩ 1 1 [.int .i64 k8, .string ⟨n8.toArray⟩, .int .i64 m8, .int .i64 a8, .slice o8 l8 c8] rfl rfl (World.news_of_block (cs := #[.int .i64 k8, .string ⟨n8.toArray⟩, .int .i64 m8, .int .i64 a8, .slice o8 l8 c8]) (t := 29) (fr := (0, 0)) HNB.out) (by simp [Value.oneCell']) (by decide) (by have := HN.out; unfold maxLen; omega) (by have := HN.out; omega) (Nat.zero_le _) _ rfl ?_; intro gq cq2 w4 hown hgrow hat hlt; have HG : Hid (wb.grownBy w4 (Value.slice oq N cq).ownBlock ∧ w4.ownsRow 0 29 5 (.slice (some ⟨gq, 0, none⟩) (N + 1) cq2) (N + 1) (xs ++ [.int .i64 k8, .string ⟨n8.toArray⟩, .int .i64 m8, .int .i64 a8, .slice o8 l8 c8]) ∧ ((Value.slice oq N cq).ownBlock = some gq ∨ gq = wb.heap.size)) := ⟨hgrow, hown, hat⟩; clear hown hgrow hat hlt)
            clear hwb
            have hp := HP.out
            have HP4 : Hid (PP w4 p g cap ts i d full) := HPb.out.grownO HG.out.1 (fun e => by have := HLQ.out p e; omega) (fun e => by have := HLQ.out g e; omega)
            have HS4 : Hid (Sole p w w4) := HSb.out.grownO HG.out.1 (fun q e => (HLQ.out q e).1)
            have HL4 : Hid (listIs w.heap.size (acc ++ [(.node k8 n8 m8 a8 ks8)]) w4 (.slice (some ⟨gq, 0, none⟩) (N + 1) cq2)) := by
              refine listAt_more (sl := .slice oq N cq) (fun q e => (HLQ.out q e).1) HRQ.out (rowV_one (HT8.out.weaken (fun b h => ?_))) (by rw [HN.out.1]; exact HG.out.2.1) HG.out.1 wb.heap.size (Nat.le_refl _) HSb.out.size ?_
              · have h1 : wc.heap.size ≤ b := h
                have h2 := HSc.out.size
                exact ⟨by show w.heap.size ≤ b; omega, fun e => by have := (HLQ.out b e).2; omega⟩
              · rcases HG.out.2.2 with e | e
                · exact Or.inl e.symm
                · exact Or.inr (by rw [e]; rfl)
            have hNN := HN.out
            have hLT := HLT.out
            have HRNX : Hid (R = moreP F most (67 - (N + 1)) (acc ++ [(.node k8 n8 m8 a8 ks8)]) (PSof ts i full)) := by
              show _ = _
              rw [show 67 - (N + 1) = 66 - N by omega]
              exact HR2.out
            clear hp
            go_roundw
            case rel => exact ⟨acc ++ [(.node k8 n8 m8 a8 ks8)], N + 1, some ⟨gq, 0, none⟩, cq2, i, full, by go_num, by simp [hNN.1], HLT.out, HP4, HS4, HL4, HRNX⟩
            case measure => simp [sliceLen]; omega

end Go.Proofs.YteokdknaadckbaaGreatDoor
namespace Go.Proofs.YteokdknaadckbaaGreatDoor
open Go.RowKit

theorem bodied_144 : Bodied 144 := fun args w => by kernel_rfl
theorem bodied_142 : Bodied 142 := fun args w => by kernel_rfl
theorem bodied_145 : Bodied 145 := fun args w => by kernel_rfl
theorem bodied_147 : Bodied 147 := fun args w => by kernel_rfl
theorem bodied_73 : Bodied 73 := fun args w => by kernel_rfl
theorem bodied_119 : Bodied 119 := fun args w => by kernel_rfl

theorem Strict.bind {α β : Type} {F : PS → Ans α} (h : Strict F) (f : α → PS → Ans β) : Strict fun s => (F s).bind f := fun s hs => by
  obtain ⟨e, a, h⟩ := h s hs
  exact ⟨e, a, by show (F s).bind f = _; rw [h]; rfl⟩
theorem Strict.ite {α : Type} {F G : PS → Ans α} (c : PS → Prop) [∀ s, Decidable (c s)] (h : Strict F) (k : Strict G) : Strict fun s => if c s then F s else G s := fun s hs => by
  by_cases e : c s
  · obtain ⟨x, y, h⟩ := h s hs
    exact ⟨x, y, by show (if c s then _ else _) = _; rw [if_pos e, h]⟩
  · obtain ⟨x, y, h⟩ := k s hs
    exact ⟨x, y, by show (if c s then _ else _) = _; rw [if_neg e, h]⟩
theorem strict_bad {α : Type} (e : Int) : Strict (fun s => (s.bad e : Ans α)) := fun s _ => ⟨e, s.hd.at_, rfl⟩
theorem strict_take : Strict PS.take := fun s hs => ⟨42, s.hd.at_, by unfold PS.take; rw [if_pos hs]; rfl⟩
theorem strict_want (t : List UInt8) : Strict (fun s => s.want t) := (strict_take.bind _).ite (fun s => s.sees t = true) (strict_bad 40)
theorem strict_ofKind (k : Int) : Strict (fun s => s.ofKind k) := strict_take.ite (fun s => s.hd.kind = k) (strict_bad 40)
theorem strict_name : Strict nameP := strict_ofKind 1
theorem strict_ref : Strict refP := strict_name.bind _
theorem strict_number : Strict numberP := (strict_ofKind 3).bind _
theorem strict_alone (k : Int) : Strict (aloneP k) := strict_take.bind _
theorem strict_bare : Strict bareP := fun s hs => by
  unfold bareP
  by_cases h : s.hd.kind = 1
  · rw [if_pos h]; exact strict_ref s hs
  · rw [if_neg h]
    cases hu : s.sees wUnsigned
    · show ∃ e a, bareRest false s.hd.at_ baresL s = Ans.no e a
      unfold bareRest
      split
      · rename_i b _
        exact strict_take.bind (fun _ s' => Ans.ok (Tree.node b.1 [] 0 s.hd.at_ []) s') s hs
      · exact ⟨40, s.hd.at_, rfl⟩
    · obtain ⟨e, a, h⟩ := strict_take s hs
      exact ⟨e, a, by
        show ((s.take.bind fun _ s => Ans.ok () s).bind _) = _
        rw [h]; rfl⟩
theorem strict_written {B : PS → Ans Tree} (h : Strict B) : Strict (writtenP B) := h.ite (fun s => (s.sees wEnum || s.sees wStruct || s.sees wUnion) = true) strict_bare
theorem strict_something {B : PS → Ans Tree} (h : Strict B) : Strict (somethingP B) :=
  ((strict_alone 25).bind _).ite (fun s => s.sees wOpaque = true) (((strict_alone 26).bind _).ite (fun s => s.sees wString = true) ((strict_written h).bind _))
theorem strict_declaration {B : PS → Ans Tree} (h : Strict B) : Strict (declarationP B) := (strict_alone 13).ite (fun s => s.sees wVoid = true) (strict_something h)
theorem strict_field {B : PS → Ans Tree} (h : Strict B) : Strict (fieldP B) := (strict_declaration h).bind _
theorem strict_cases (f : Nat) : Strict (casesP (f + 1) []) := (strict_want wCase).bind _
theorem strict_arm (B : PS → Ans Tree) : Strict (armP B) := fun s hs => by
  obtain ⟨e, a, h⟩ := strict_cases 65 s hs
  exact ⟨e, a, by show (casesP 66 [] s).bind _ = _; rw [h]; rfl⟩
theorem strict_body (n : Nat) (b : Bool) : Strict (bodyP n b) := by
  cases n with
  | zero => exact strict_bad 41
  | succ n => exact strict_take.bind _
theorem strict_numbered (k : Int) (part : PS → Ans Tree) : Strict (numberedP k part) := strict_take.bind _
theorem strict_version : Strict versionP := ((strict_numbered 11 procedureP).bind _).ite (fun s => s.sees wVersion = true) (strict_bad 40)
theorem strict_result : Strict resultP := (strict_alone 13).ite (fun s => s.sees wVoid = true) strict_bare
theorem strict_procedure : Strict procedureP := strict_result.bind _

/-- a function of the parser that answers a list -/
def KeepsL (p g cap : Nat) (ts : List Tok) (d : Int) (f : Nat) (F : PS → Ans (List Tree)) : Prop :=
  ∀ i full w, PP w p g cap ts i d full → BareAt p w → Calls Tryz.prog f #[.pointer (some ⟨p, 0, none⟩)] w (PPost p g cap ts d (listIs w.heap.size) (F (PSof ts i full)) w)
theorem PPost.lift {α : Type} {p g cap : Nat} {ts : List Tok} {d : Int} {val val' : α → World → Value → Prop} {r : Ans α} {w w1 : World} {e : Ending} {w' : World} (hv : ∀ a w v, val a w v → val' a w v) (hB : Below w.heap.size w w1) (h : PPost p g cap ts d val r w1 e w') : PPost p g cap ts d val' r w e w' := by
  cases r with
  | no why at_ => exact ⟨h.1, (Sole.of_below hB).trans h.2⟩
  | ok a s =>
    obtain ⟨v, i, full, h1, h2, h3, h4, h5⟩ := h
    exact ⟨v, i, full, h1, hv _ _ _ h2, h3, h4, (Sole.of_below hB).trans h5⟩
theorem listIs.weaken {B B' : Nat} {ks : List Tree} {w : World} {v : Value} (h : listIs B ks w v) (hB : B' ≤ B) : listIs B' ks w v := ListAt.weaken h (fun _ hb => Nat.le_trans hB hb)

theorem some_one (p g cap : Nat) (ts : List Tok) (d : Int) (M : Nat) (F : PS → Ans Tree) (hO : Keeps p g cap ts d M F) (hF : Strict F) (hM : Bodied M) (t : List UInt8) (i : Nat) (full : Bool) (w : World) (h : PP w p g cap ts i d full) (hba : BareAt p w) :
    Calls Tryz.prog 117 #[.pointer (some ⟨p, 0, none⟩), .func (.func M) #[.pointer (some ⟨p, 0, none⟩)] #[], .slice (some ⟨w.heap.size, 0, none⟩) 1 1] (w.alloc (.cells #[.string ⟨t.toArray⟩] 9)) (PPost p g cap ts d (listIs w.heap.size) (someP F [t] 66 [] (PSof ts i full)) w) := by
  have hB := below_alloc w (.cells #[.string ⟨t.toArray⟩] 9)
  refine (some_any p g cap ts d M F hO hF hM w.heap.size 1 [t] (by simp) i full _ (h.below hB) (hba.below hB) (Nat.ne_of_gt h.plt) (by simp) ?_).mono fun e w' hp => PPost.lift (fun a w v h => listIs.weaken h hB.size) hB hp
  intro j hj
  have : j = 0 := by simp at hj; omega
  subst this
  simp
theorem some_two (p g cap : Nat) (ts : List Tok) (d : Int) (M : Nat) (F : PS → Ans Tree) (hO : Keeps p g cap ts d M F) (hF : Strict F) (hM : Bodied M) (t u : List UInt8) (i : Nat) (full : Bool) (w : World) (h : PP w p g cap ts i d full) (hba : BareAt p w) :
    Calls Tryz.prog 117 #[.pointer (some ⟨p, 0, none⟩), .func (.func M) #[.pointer (some ⟨p, 0, none⟩)] #[], .slice (some ⟨w.heap.size, 0, none⟩) 2 2] (w.alloc (.cells #[.string ⟨t.toArray⟩, .string ⟨u.toArray⟩] 9)) (PPost p g cap ts d (listIs w.heap.size) (someP F [t, u] 66 [] (PSof ts i full)) w) := by
  have hB := below_alloc w (.cells #[.string ⟨t.toArray⟩, .string ⟨u.toArray⟩] 9)
  refine (some_any p g cap ts d M F hO hF hM w.heap.size 2 [t, u] (by simp) i full _ (h.below hB) (hba.below hB) (Nat.ne_of_gt h.plt) (by simp) ?_).mono fun e w' hp => PPost.lift (fun a w v h => listIs.weaken h hB.size) hB hp
  intro j hj
  have : j = 0 ∨ j = 1 := by simp at hj; omega
  rcases this with rfl | rfl
  · simp
  · simp
set_option maxHeartbeats 1000000 in
set_option maxRecDepth 4000 in
theorem members_any (p g cap : Nat) (ts : List Tok) (hE : Ends ts) (d : Int) : KeepsL p g cap ts d 114 (membersP) := by
  intro i full w h hba
  have HP : Hid (p < w.heap.size ∧ g < w.heap.size) := ⟨h.plt, h.glt⟩
  have HE : Hid (Ends ts) := hE
  have HBA : Hid (BareAt p w) := hba
  have HPa : Hid (PP w p g cap ts i d full) := h
  have HSa : Hid (Sole p w w) := Sole.refl p w
  obtain ⟨R, hR⟩ : ∃ R, (membersP) (PSof ts i full) = R := ⟨_, rfl⟩
  rw [hR]
  have HR0 : Hid (R = (membersP) (PSof ts i full)) := hR.symm
  have hmf : ∀ (fn : Fn) (first cap : Array Value) (w : World), (Instr.makeFunc fn first cap).run Tryz.prog w = .ok (.func fn first cap) w := fun _ _ _ _ => rfl
  clear h hba hE hR
  go_enter Tryz.func114, Tryz.ntmps114
  have HWA : Hid (Calls Tryz.prog 41 #[.pointer (some ⟨p, 0, none⟩), .slice (some ⟨w.heap.size, 0, none⟩) 1 1] (w.alloc (.cells #[.string ⟨#[123]⟩] 9)) (PPost p g cap ts d unitIs ((PSof ts i full).want [123]) w)) := want_one p g cap ts HE.out i d full [123] (by simp) w HPa.out
  obtain ⟨ru, hru⟩ : ∃ r, (PSof ts i full).want [123] = r := ⟨_, rfl⟩
  have HR1 : Hid (R = ru.bind fun _ s => (partedP memberP 64 s).bind fun l s => (s.want [125]).bind fun _ s => .ok l s) := by
    show _ = _
    rw [HR0.out]; first | (rw [← hru]; done) | (rw [← hru]; rfl)
  rw [hru] at HWA
  clear hru
  go_wp2_with fail
  refine HWA.out.mono ?_
  cases ru with
  | no why at_ =>
    rintro e w99 ⟨rfl, hS⟩
    have HS99 : Hid (Sole p w w99) := HSa.out.trans hS
    clear hS
    go_wp2
    refine ⟨rfl, ?_⟩
    rw [HR1.out]
    exact ⟨rfl, HS99.out⟩
  | ok u st =>
    rintro e w1 ⟨v, i, full, rfl, rfl, rfl, hP, hS⟩
    have HS1 : Hid (Sole p w w1) := hS
    have HB1 : BareAt p w1 := HBA.out.sole hS
    have HMC : Hid (Calls Tryz.prog 143 #[.pointer (some ⟨p, 0, none⟩), .func (.func 144) #[.pointer (some ⟨p, 0, none⟩)] #[], .int .i64 64] w1 (PPost p g cap ts d (listIs w1.heap.size) (partedP memberP 64 (PSof ts i full)) w1)) := parted_any p g cap ts HE.out d 144 memberP (fun i full w h _ => member_any p g cap ts HE.out i d full w h) bodied_144 64 (by omega) (by omega) i full w1 hP HB1
    obtain ⟨rl, hrl⟩ : ∃ r, partedP memberP 64 (PSof ts i full) = r := ⟨_, rfl⟩
    have HR2 : Hid (R = rl.bind fun l s => (s.want [125]).bind fun _ s => .ok l s) := by
      show _ = _
      rw [HR1.out]; first | (rw [← hrl]; done) | (rw [← hrl]; rfl)
    rw [hrl] at HMC
    clear hP hS HB1 hrl
    go_wp2_with fail
    refine HMC.out.mono ?_
    cases rl with
    | no why at_ =>
      rintro e w99 ⟨rfl, hS⟩
      have HS99 : Hid (Sole p w w99) := HS1.out.trans hS
      clear hS
      go_wp2
      refine ⟨rfl, ?_⟩
      rw [HR2.out]
      exact ⟨rfl, HS99.out⟩
    | ok l st =>
      rintro e w2 ⟨v, i, full, rfl, hL, rfl, hP, hS⟩
      have HS2 : Hid (Sole p w w2) := HS1.out.trans hS
      have HP2 : Hid (PP w2 p g cap ts i d full) := hP
      have HL2 : Hid (listIs w.heap.size l w2 v) := listIs.weaken hL HS1.out.size
      obtain ⟨o8, l8, c8, rfl⟩ := hL.shape
      clear hP hS hL
      have HWA : Hid (Calls Tryz.prog 41 #[.pointer (some ⟨p, 0, none⟩), .slice (some ⟨w2.heap.size, 0, none⟩) 1 1] (w2.alloc (.cells #[.string ⟨#[125]⟩] 9)) (PPost p g cap ts d unitIs ((PSof ts i full).want [125]) w2)) := want_one p g cap ts HE.out i d full [125] (by simp) w2 HP2.out
      obtain ⟨ru, hru⟩ : ∃ r, (PSof ts i full).want [125] = r := ⟨_, rfl⟩
      have HR3 : Hid (R = ru.bind fun _ s => .ok l s) := by
        show _ = _
        rw [HR2.out]; first | (rw [← hru]; done) | (rw [← hru]; rfl)
      rw [hru] at HWA
      clear hru
      go_wp2_with fail
      refine HWA.out.mono ?_
      cases ru with
      | no why at_ =>
        rintro e w99 ⟨rfl, hS⟩
        have HS99 : Hid (Sole p w w99) := HS2.out.trans hS
        clear hS
        go_wp2
        refine ⟨rfl, ?_⟩
        rw [HR3.out]
        exact ⟨rfl, HS99.out⟩
      | ok u st =>
        rintro e w3 ⟨v, i, full, rfl, rfl, rfl, hP, hS⟩
        have HS3 : Hid (Sole p w w3) := HS2.out.trans hS
        have HP3 : Hid (PP w3 p g cap ts i d full) := hP
        have HL3 : Hid (listIs w.heap.size l w3 (.slice o8 l8 c8)) := listIs.sole HL2.out (Nat.le_refl _) HP.out.1 hS
        clear hP hS
        go_wp2
        go_ret
        rw [HR3.out]
        exact ⟨_, i, full, rfl, HL3.out, rfl, HP3.out, HS3.out⟩
set_option maxHeartbeats 1000000 in
set_option maxRecDepth 4000 in
theorem fields_any (p g cap : Nat) (ts : List Tok) (hE : Ends ts) (d : Int) (B : PS → Ans Tree) (hF : Keeps p g cap ts d 145 (fieldP B)) (hB : Strict B) : KeepsL p g cap ts d 115 (fieldsP B) := by
  intro i full w h hba
  have HP : Hid (p < w.heap.size ∧ g < w.heap.size) := ⟨h.plt, h.glt⟩
  have HE : Hid (Ends ts) := hE
  have HBA : Hid (BareAt p w) := hba
  have HPa : Hid (PP w p g cap ts i d full) := h
  have HSa : Hid (Sole p w w) := Sole.refl p w
  obtain ⟨R, hR⟩ : ∃ R, (fieldsP B) (PSof ts i full) = R := ⟨_, rfl⟩
  rw [hR]
  have HR0 : Hid (R = (fieldsP B) (PSof ts i full)) := hR.symm
  have hmf : ∀ (fn : Fn) (first cap : Array Value) (w : World), (Instr.makeFunc fn first cap).run Tryz.prog w = .ok (.func fn first cap) w := fun _ _ _ _ => rfl
  have HF : Hid (Keeps p g cap ts d 145 (fieldP B) ∧ Strict (fieldP B)) := ⟨hF, strict_field hB⟩
  clear hF hB
  clear h hba hE hR
  go_enter Tryz.func115, Tryz.ntmps115
  have HWA : Hid (Calls Tryz.prog 41 #[.pointer (some ⟨p, 0, none⟩), .slice (some ⟨w.heap.size, 0, none⟩) 1 1] (w.alloc (.cells #[.string ⟨#[123]⟩] 9)) (PPost p g cap ts d unitIs ((PSof ts i full).want [123]) w)) := want_one p g cap ts HE.out i d full [123] (by simp) w HPa.out
  obtain ⟨ru, hru⟩ : ∃ r, (PSof ts i full).want [123] = r := ⟨_, rfl⟩
  have HR1 : Hid (R = ru.bind fun _ s => (someP (fieldP B) [[125]] 66 [] s).bind fun l s => (s.want [125]).bind fun _ s => .ok l s) := by
    show _ = _
    rw [HR0.out]; first | (rw [← hru]; done) | (rw [← hru]; rfl)
  rw [hru] at HWA
  clear hru
  go_wp2_with fail
  refine HWA.out.mono ?_
  cases ru with
  | no why at_ =>
    rintro e w99 ⟨rfl, hS⟩
    have HS99 : Hid (Sole p w w99) := HSa.out.trans hS
    clear hS
    go_wp2
    refine ⟨rfl, ?_⟩
    rw [HR1.out]
    exact ⟨rfl, HS99.out⟩
  | ok u st =>
    rintro e w1 ⟨v, i, full, rfl, rfl, rfl, hP, hS⟩
    have HS1 : Hid (Sole p w w1) := hS
    have HB1 : BareAt p w1 := HBA.out.sole hS
    have HMC : Hid (Calls Tryz.prog 117 #[.pointer (some ⟨p, 0, none⟩), .func (.func 145) #[.pointer (some ⟨p, 0, none⟩)] #[], .slice (some ⟨w1.heap.size, 0, none⟩) 1 1] (w1.alloc (.cells #[.string ⟨#[125]⟩] 9)) (PPost p g cap ts d (listIs w1.heap.size) (someP (fieldP B) [[125]] 66 [] (PSof ts i full)) w1)) := some_one p g cap ts d 145 (fieldP B) HF.out.1 HF.out.2 bodied_145 [125] i full w1 hP HB1
    obtain ⟨rl, hrl⟩ : ∃ r, someP (fieldP B) [[125]] 66 [] (PSof ts i full) = r := ⟨_, rfl⟩
    have HR2 : Hid (R = rl.bind fun l s => (s.want [125]).bind fun _ s => .ok l s) := by
      show _ = _
      rw [HR1.out]; first | (rw [← hrl]; done) | (rw [← hrl]; rfl)
    rw [hrl] at HMC
    clear hP hS HB1 hrl
    go_wp2_with fail
    refine HMC.out.mono ?_
    cases rl with
    | no why at_ =>
      rintro e w99 ⟨rfl, hS⟩
      have HS99 : Hid (Sole p w w99) := HS1.out.trans hS
      clear hS
      go_wp2
      refine ⟨rfl, ?_⟩
      rw [HR2.out]
      exact ⟨rfl, HS99.out⟩
    | ok l st =>
      rintro e w2 ⟨v, i, full, rfl, hL, rfl, hP, hS⟩
      have HS2 : Hid (Sole p w w2) := HS1.out.trans hS
      have HP2 : Hid (PP w2 p g cap ts i d full) := hP
      have HL2 : Hid (listIs w.heap.size l w2 v) := listIs.weaken hL HS1.out.size
      obtain ⟨o8, l8, c8, rfl⟩ := hL.shape
      clear hP hS hL
      have HWA : Hid (Calls Tryz.prog 41 #[.pointer (some ⟨p, 0, none⟩), .slice (some ⟨w2.heap.size, 0, none⟩) 1 1] (w2.alloc (.cells #[.string ⟨#[125]⟩] 9)) (PPost p g cap ts d unitIs ((PSof ts i full).want [125]) w2)) := want_one p g cap ts HE.out i d full [125] (by simp) w2 HP2.out
      obtain ⟨ru, hru⟩ : ∃ r, (PSof ts i full).want [125] = r := ⟨_, rfl⟩
      have HR3 : Hid (R = ru.bind fun _ s => .ok l s) := by
        show _ = _
        rw [HR2.out]; first | (rw [← hru]; done) | (rw [← hru]; rfl)
      rw [hru] at HWA
      clear hru
      go_wp2_with fail
      refine HWA.out.mono ?_
      cases ru with
      | no why at_ =>
        rintro e w99 ⟨rfl, hS⟩
        have HS99 : Hid (Sole p w w99) := HS2.out.trans hS
        clear hS
        go_wp2
        refine ⟨rfl, ?_⟩
        rw [HR3.out]
        exact ⟨rfl, HS99.out⟩
      | ok u st =>
        rintro e w3 ⟨v, i, full, rfl, rfl, rfl, hP, hS⟩
        have HS3 : Hid (Sole p w w3) := HS2.out.trans hS
        have HP3 : Hid (PP w3 p g cap ts i d full) := hP
        have HL3 : Hid (listIs w.heap.size l w3 (.slice o8 l8 c8)) := listIs.sole HL2.out (Nat.le_refl _) HP.out.1 hS
        clear hP hS
        go_wp2
        go_ret
        rw [HR3.out]
        exact ⟨_, i, full, rfl, HL3.out, rfl, HP3.out, HS3.out⟩
set_option maxHeartbeats 1000000 in
set_option maxRecDepth 4000 in
theorem arguments_any (p g cap : Nat) (ts : List Tok) (hE : Ends ts) (d : Int) : KeepsL p g cap ts d 151 argumentsP := by
  intro i full w h hba
  have HP : Hid (p < w.heap.size ∧ g < w.heap.size) := ⟨h.plt, h.glt⟩
  have HE : Hid (Ends ts) := hE
  have HBA : Hid (BareAt p w) := hba
  have HPa : Hid (PP w p g cap ts i d full) := h
  obtain ⟨R, hR⟩ : ∃ R, argumentsP (PSof ts i full) = R := ⟨_, rfl⟩
  rw [hR]
  have hmf : ∀ (fn : Fn) (first cap : Array Value) (w : World), (Instr.makeFunc fn first cap).run Tryz.prog w = .ok (.func fn first cap) w := fun _ _ _ _ => rfl
  have HSX : Hid (Calls Tryz.prog 75 #[.pointer (some ⟨p, 0, none⟩), .string ⟨#[118, 111, 105, 100]⟩] w fun e w' => e = .returned (.bool ((PSof ts i full).sees wVoid)) ∧ Below w.heap.size w w') := sees_lit p g cap ts i d full wVoid w h
  cases hse : (PSof ts i full).sees wVoid
  · rw [hse] at HSX
    have hR1 : R = partedP bareP 4 (PSof ts i full) := by
      rw [← hR]; unfold argumentsP; rw [hse, if_neg (by simp)]
    have HMC : Hid (∀ w1, Below w.heap.size w w1 → Calls Tryz.prog 143 #[.pointer (some ⟨p, 0, none⟩), .func (.func 142) #[.pointer (some ⟨p, 0, none⟩)] #[], .int .i64 4] w1 (PPost p g cap ts d (listIs w1.heap.size) R w1)) := fun w1 hB => by
      rw [hR1]
      exact parted_any p g cap ts HE.out d 142 bareP (bare_any p g cap ts HE.out d) bodied_142 4 (by omega) (by omega) i full w1 (HPa.out.below hB) (HBA.out.below hB)
    clear h hba hE hR hse hR1
    go_enter Tryz.func151, Tryz.ntmps151
    go_wp2_with fail
    refine HSX.out.mono ?_
    rintro e w1 ⟨rfl, hB⟩
    have HS1 : Hid (Sole p w w1) := Sole.of_below hB
    have HM1 := HMC.out w1 hB
    have HM2 : Hid (Calls Tryz.prog 143 #[.pointer (some ⟨p, 0, none⟩), .func (.func 142) #[.pointer (some ⟨p, 0, none⟩)] #[], .int .i64 4] w1 (PPost p g cap ts d (listIs w1.heap.size) R w1)) := HM1
    clear hB HM1
    go_wp2_with fail
    refine HM2.out.mono ?_
    cases R with
    | no why at_ =>
      rintro e w99 ⟨rfl, hS⟩
      have HS99 : Hid (Sole p w w99) := HS1.out.trans hS
      clear hS
      go_wp2
      exact ⟨rfl, rfl, HS99.out⟩
    | ok l st =>
      rintro e w2 ⟨v, i, full, rfl, hL, rfl, hP, hS⟩
      have HS2 : Hid (Sole p w w2) := HS1.out.trans hS
      have HP2 : Hid (PP w2 p g cap ts i d full) := hP
      have HL2 : Hid (listIs w.heap.size l w2 v) := listIs.weaken hL HS1.out.size
      obtain ⟨o8, l8, c8, rfl⟩ := hL.shape
      clear hP hS hL
      go_wp2
      go_ret
      exact ⟨_, i, full, rfl, HL2.out, rfl, HP2.out, HS2.out⟩
  · rw [hse] at HSX
    have hix := hE.sees h.il (t := wVoid) (by simp [wVoid]) hse
    obtain ⟨ra, hra⟩ : ∃ r, aloneP 13 (PSof ts i full) = r := ⟨_, rfl⟩
    have HR1 : Hid (R = ra.bind fun t s => .ok [t] s) := by
      show _ = _
      rw [← hR, ← hra]; unfold argumentsP; rw [hse, if_pos rfl]
    have HAL : Hid (∀ w1, Below w.heap.size w w1 → Calls Tryz.prog 112 #[.pointer (some ⟨p, 0, none⟩), .int .i64 13] w1 (PPost p g cap ts d (treeIs w1.heap.size) ra w1)) := fun w1 hB => by
      rw [← hra]
      exact alone_any p g cap ts i d 13 full w1 (HPa.out.below hB) hix
    clear h hba hE hR hse hix hra
    go_enter Tryz.func151, Tryz.ntmps151
    go_wp2_with fail
    refine HSX.out.mono ?_
    rintro e w1 ⟨rfl, hB⟩
    have HS1 : Hid (Sole p w w1) := Sole.of_below hB
    have HA1 : Hid (Calls Tryz.prog 112 #[.pointer (some ⟨p, 0, none⟩), .int .i64 13] w1 (PPost p g cap ts d (treeIs w1.heap.size) ra w1)) := HAL.out w1 hB
    clear hB
    go_wp2_with fail
    refine HA1.out.mono ?_
    cases ra with
    | no why at_ =>
      rintro e w99 ⟨rfl, hS⟩
      have HS99 : Hid (Sole p w w99) := HS1.out.trans hS
      clear hS
      go_wp2
      refine ⟨rfl, ?_⟩
      rw [HR1.out]
      exact ⟨rfl, HS99.out⟩
    | ok tv st =>
      rintro e w2 ⟨v, i, full, rfl, hT, rfl, hP, hS⟩
      obtain ⟨k8, n8, m8, a8, ks8⟩ := tv
      obtain ⟨sl, rfl, hL⟩ := treeAt_node.1 hT
      obtain ⟨o8, l8, c8, rfl⟩ := hL.shape
      obtain ⟨w3, hw3⟩ : ∃ x, w2.alloc (.cells #[.int .i64 k8, .string ⟨n8.toArray⟩, .int .i64 m8, .int .i64 a8, .slice o8 l8 c8] 29) = x := ⟨_, rfl⟩
      have hB3 : Below w2.heap.size w2 w3 := by rw [← hw3]; exact below_alloc _ _
      have hs2 : Sole p w w2 := HS1.out.trans hS
      have HP3 : Hid (PP w3 p g cap ts i d full) := hP.below hB3
      have HS3 : Hid (Sole p w w3) := hs2.trans (Sole.of_below hB3)
      have HL3 : Hid (listIs w.heap.size [(.node k8 n8 m8 a8 ks8)] w3 (.slice (some ⟨w2.heap.size, 0, none⟩) 1 1)) := by
        have hs := hs2.size
        have h1 := HS1.out.size
        exact listAt_lit (show w3.heap[w2.heap.size]? = some (rowObj [.int .i64 k8, .string ⟨n8.toArray⟩, .int .i64 m8, .int .i64 a8, .slice o8 l8 c8]) from by rw [← hw3]; exact heap_alloc_new _ _) (by simp) hs (rowV_one ((TreeAt.below (treeIs.made hT) hB3).weaken (fun b h => ⟨Nat.le_trans h1 h.1, by omega⟩)))
      clear hP hS hT hL hB3 hs2
      unfold kidV
      go_wp2
      go_ret
      rw [HR1.out]
      exact ⟨_, i, full, rfl, HL3.out, rfl, HP3.out, HS3.out⟩
end Go.Proofs.YteokdknaadckbaaGreatDoor
