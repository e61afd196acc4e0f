/- The program's parser: what stands within a union. The program's parser: a body. The program's parser: bodies within bodies. -/
import Derived.Test.YteokdknaadckbaaGreatDoorPart07
namespace Go.Proofs.YteokdknaadckbaaGreatDoor
open Go.RowKit

theorem someP_len (F : PS → Ans Tree) (ws : List (List UInt8)) : ∀ (f : Nat) (acc : List Tree) (s : PS) (l : List Tree) (s' : PS), someP F ws f acc s = .ok l s' → l.length ≤ acc.length + f ∧ l ≠ []
  | 0, acc, s, l, s' => fun h => by rw [someP] at h; cases h
  | f + 1, acc, s, l, s' => fun h => by
    rw [someP] at h
    by_cases hc : (acc.isEmpty || !(ws.any s.sees)) = true
    · rw [if_pos hc] at h
      cases hx : F (s.room acc.length 64) with
      | no e a => rw [hx] at h; cases h
      | ok t s1 =>
        rw [hx] at h
        have := someP_len F ws f (acc ++ [t]) s1 l s' h
        simp only [List.length_append, List.length_cons, List.length_nil] at this
        exact ⟨by omega, this.2⟩
    · rw [if_neg hc] at h
      cases h
      refine ⟨by omega, fun e => hc ?_⟩
      rw [e]; rfl
theorem wantL_two (t u : List UInt8) (s : PS) : wantL [t, u] s = (s.want t).bind fun _ s => s.want u := by
  show (s.want t).bind (fun _ s => (s.want u).bind fun _ s => Ans.ok () s) = _
  cases s.want t with
  | no e a => rfl
  | ok a s =>
    show (s.want u).bind (fun _ s => Ans.ok () s) = s.want u
    cases s.want u <;> rfl
theorem want_two (p g cap : Nat) (ts : List Tok) (hE : Ends ts) (i : Nat) (d : Int) (full : Bool) (t u : List UInt8) (ht : t ≠ []) (hu : u ≠ []) (w : World) (h : PP w p g cap ts i d full) :
    Calls Tryz.prog 41 #[.pointer (some ⟨p, 0, none⟩), .slice (some ⟨w.heap.size, 0, none⟩) 2 2] (w.alloc (.cells #[.string ⟨t.toArray⟩, .string ⟨u.toArray⟩] 9)) (PPost p g cap ts d unitIs (((PSof ts i full).want t).bind fun _ s => s.want u) w) := by
  have hB : Below w.heap.size w (w.alloc (.cells #[.string ⟨t.toArray⟩, .string ⟨u.toArray⟩] 9)) := below_alloc _ _
  have hx := want_any p g cap ts hE i d full w.heap.size 2 [t, u] _ (h.below hB) (Nat.ne_of_gt h.plt) (by simp) (fun j hj => by
    have : j = 0 ∨ j = 1 := by simp at hj; omega
    rcases this with rfl | rfl
    · simp
    · simp) (fun x hx => by simp at hx; rcases hx with rfl | rfl; exact ht; exact hu) (by simp)
  rw [wantL_two] at hx
  exact hx.mono fun e w' hp => PPost.from_below hB hp
/-- a list that is not empty: where it lies -/
theorem ListAt.addr {A : Nat → Prop} {w : World} {ks : List Tree} {sl : Value} (h : ListAt A w ks sl) (hn : ks ≠ []) : ∃ q c xs, sl = .slice (some ⟨q, 0, none⟩) ks.length c ∧ A q ∧ RowV (fun b => A b ∧ b ≠ q) w ks xs ∧ (∀ j u, xs[j]? = some u → w.cell? ((⟨q, 0, none⟩ : Addr).add j) = some u) := by
  obtain ⟨xs, ho, hA, hr⟩ := h
  obtain ⟨q, c, rfl, _, _⟩ := ho.form (by cases ks with | nil => exact absurd rfl hn | cons _ _ => simp)
  exact ⟨q, c, xs, rfl, hA q rfl, RowV.frame (fun b hb => ⟨hb.1, fun e => hb.2 (by rw [e]; rfl)⟩) (fun _ _ _ => rfl) _ _ hr, ho.cells rfl⟩
theorem choice_else (B : PS → Ans Tree) (d : Tree) (l : List Tree) (s : PS) :
    ((aloneP 9 s).bind fun e s => (s.want [58]).bind fun _ s => (fieldP B s).bind fun t s => (s.want [125]).bind fun _ s =>
      match e with
      | .node k n m i _ => Ans.ok (d :: l ++ [Tree.node k n m i [t]]) s) = (otherwiseP B s).bind fun o s => (s.want [125]).bind fun _ s => Ans.ok (d :: l ++ [o]) s := by
  unfold otherwiseP
  cases aloneP 9 s with
  | no e a => rfl
  | ok e s =>
    obtain ⟨k, n, m, i, ks⟩ := e
    show (s.want [58]).bind _ = ((s.want [58]).bind _).bind _
    cases s.want [58] with
    | no e a => rfl
    | ok u s =>
      show (fieldP B s).bind _ = ((fieldP B s).bind _).bind _
      cases fieldP B s with
      | no e a => rfl
      | ok t s => rfl

theorem bind_congr {α β : Type} {r : Ans α} {f f' : α → PS → Ans β} (h : ∀ a s, f a s = f' a s) : r.bind f = r.bind f' := by
  cases r with
  | ok a s => exact h a s
  | no e i => rfl
theorem choiceP_eq (B : PS → Ans Tree) (s : PS) : choiceP B s = (s.want wSwitch).bind fun _ s => (s.want [40]).bind fun _ s => (declarationP B s).bind fun d_ s => (s.want [41]).bind fun _ s => (s.want [123]).bind fun _ s => (someP (armP B) [wDefault, [125]] 66 [] s).bind fun l s => if s.sees wDefault then (otherwiseP B s).bind fun o s => (s.want [125]).bind fun _ s => Ans.ok (d_ :: l ++ [o]) s else (s.want [125]).bind fun _ s => Ans.ok (d_ :: l) s := by
  unfold choiceP
  refine bind_congr fun _ s => bind_congr fun _ s => bind_congr fun d_ s => bind_congr fun _ s => bind_congr fun _ s => bind_congr fun l s => ?_
  by_cases h : s.sees wDefault = true
  · rw [if_pos h, if_pos h]
    exact choice_else B d_ l s
  · rw [if_neg h, if_neg h]

set_option maxHeartbeats 2000000 in
set_option maxRecDepth 4000 in
theorem choice_any (p g cap : Nat) (ts : List Tok) (hE : Ends ts) (d : Int) (B : PS → Ans Tree) (hD : Keeps p g cap ts d 146 (declarationP B)) (hF : Keeps p g cap ts d 145 (fieldP B)) (hAr : Keeps p g cap ts d 147 (armP B)) : KeepsL p g cap ts d 116 (choiceP B) := by
  intro i full w h hba
  have HP : Hid (p < w.heap.size ∧ g < w.heap.size) := ⟨h.plt, h.glt⟩
  have HE : Hid (Ends ts) := hE
  have HBA : Hid (BareAt p w) := hba
  have HK : Hid (Keeps p g cap ts d 146 (declarationP B) ∧ Keeps p g cap ts d 145 (fieldP B) ∧ Keeps p g cap ts d 147 (armP B)) := ⟨hD, hF, hAr⟩
  have HPa : Hid (PP w p g cap ts i d full) := h
  have HSa : Hid (Sole p w w) := Sole.refl p w
  obtain ⟨R, hR⟩ : ∃ R, choiceP B (PSof ts i full) = R := ⟨_, rfl⟩
  rw [hR]
  have HR0 : Hid (R = ((PSof ts i full).want wSwitch).bind fun _ s => (s.want [40]).bind fun _ s => (declarationP B s).bind fun d_ s => (s.want [41]).bind fun _ s => (s.want [123]).bind fun _ s => (someP (armP B) [wDefault, [125]] 66 [] s).bind fun l s => if s.sees wDefault then (otherwiseP B s).bind fun o s => (s.want [125]).bind fun _ s => Ans.ok (d_ :: l ++ [o]) s else (s.want [125]).bind fun _ s => Ans.ok (d_ :: l) s) := by
    show _ = _
    rw [← hR]
    exact choiceP_eq B _
  have hmf : ∀ (fn : Fn) (first cap : Array Value) (w : World), (Instr.makeFunc fn first cap).run Tryz.prog w = .ok (.func fn first cap) w := fun _ _ _ _ => rfl
  obtain ⟨inf, hi1, hi2, hi3, hi4⟩ := info29_ex
  have HI : Hid (Tryz.prog.info? 29 = some inf ∧ inf.zero = some (.agg #[.int .i64 0, .string ⟨#[]⟩, .int .i64 0, .int .i64 0, .slice none 0 0]) ∧ inf.size = 5 ∧ inf.bytes = 64) := ⟨hi1, hi2, hi3, hi4⟩
  clear h hba hE hR hD hF hAr hi1 hi2 hi3 hi4
  go_enter Tryz.func116, Tryz.ntmps116
  have HWA : Hid (Calls Tryz.prog 41 #[.pointer (some ⟨p, 0, none⟩), .slice (some ⟨w.heap.size, 0, none⟩) 2 2] (w.alloc (.cells #[.string ⟨#[115, 119, 105, 116, 99, 104]⟩, .string ⟨#[40]⟩] 9)) (PPost p g cap ts d unitIs (((PSof ts i full).want wSwitch).bind fun _ s => s.want [40]) w)) := want_two p g cap ts HE.out i d full wSwitch [40] (by simp [wSwitch]) (by simp) w HPa.out
  obtain ⟨ru, hru⟩ : ∃ r, (((PSof ts i full).want wSwitch).bind fun _ s => s.want [40]) = r := ⟨_, rfl⟩
  have HR1 : Hid (R = ru.bind fun _ s => (declarationP B s).bind fun d_ s => (s.want [41]).bind fun _ s => (s.want [123]).bind fun _ s => (someP (armP B) [wDefault, [125]] 66 [] s).bind fun l s => if s.sees wDefault then (otherwiseP B s).bind fun o s => (s.want [125]).bind fun _ s => Ans.ok (d_ :: l ++ [o]) s else (s.want [125]).bind fun _ s => Ans.ok (d_ :: l) s) := by
    show _ = _
    rw [HR0.out, ← hru]
    exact (ans_assoc _ _ _).symm
  rw [hru] at HWA
  clear hru
  go_wp2_with fail
  refine HWA.out.mono ?_
  cases ru with
  | no why at_ =>
    rintro e w99 ⟨rfl, hS⟩
    have HS99 : Hid (Sole p w w99) := HSa.out.trans hS
    clear hS
    go_wp2
    refine ⟨rfl, ?_⟩
    rw [HR1.out]
    exact ⟨rfl, HS99.out⟩
  | ok u st =>
    rintro e w1 ⟨v, i, full, rfl, rfl, rfl, hP, hS⟩
    have HS1 : Hid (Sole p w w1) := hS
    have HDE : Hid (Calls Tryz.prog 146 #[.pointer (some ⟨p, 0, none⟩)] w1 (PPost p g cap ts d (treeIs w1.heap.size) (declarationP B (PSof ts i full)) w1)) := HK.out.1 i full w1 hP (HBA.out.sole hS)
    obtain ⟨rd, hrd⟩ : ∃ r, declarationP B (PSof ts i full) = r := ⟨_, rfl⟩
    have HR2 : Hid (R = rd.bind fun d_ s => (s.want [41]).bind fun _ s => (s.want [123]).bind fun _ s => (someP (armP B) [wDefault, [125]] 66 [] s).bind fun l s => if s.sees wDefault then (otherwiseP B s).bind fun o s => (s.want [125]).bind fun _ s => Ans.ok (d_ :: l ++ [o]) s else (s.want [125]).bind fun _ s => Ans.ok (d_ :: l) s) := by
      show _ = _
      rw [HR1.out]; first | (rw [← hrd]; done) | (rw [← hrd]; rfl)
    rw [hrd] at HDE
    clear hP hS hrd
    go_wp2_with fail
    refine HDE.out.mono ?_
    cases rd with
    | no why at_ =>
      rintro e w99 ⟨rfl, hS⟩
      have HS99 : Hid (Sole p w w99) := HS1.out.trans hS
      clear hS
      go_wp2
      refine ⟨rfl, ?_⟩
      rw [HR2.out]
      exact ⟨rfl, HS99.out⟩
    | ok tv st =>
      rintro e w2 ⟨v, i, full, rfl, hT, rfl, hP, hS⟩
      obtain ⟨k9, n9, m9, a9, ks9⟩ := tv
      obtain ⟨sl, rfl, hL⟩ := treeAt_node.1 hT
      obtain ⟨o9, l9, c9, rfl⟩ := hL.shape
      obtain ⟨w3, hw3⟩ : ∃ x, w2.alloc (.cells #[.int .i64 k9, .string ⟨n9.toArray⟩, .int .i64 m9, .int .i64 a9, .slice o9 l9 c9] 29) = x := ⟨_, rfl⟩
      have hB3 : Below w2.heap.size w2 w3 := by rw [← hw3]; exact below_alloc _ _
      have hs2 : Sole p w w2 := HS1.out.trans hS
      have HP3 : Hid (PP w3 p g cap ts i d full) := hP.below hB3
      have HS3 : Hid (Sole p w w3) := hs2.trans (Sole.of_below hB3)
      have HKq3 : Hid (Kep w w3 w2.heap.size (kidO k9 n9 m9 a9 (.slice o9 l9 c9))) := by show Kep w w3 _ _; rw [← hw3]; exact Kep.new hs2.size _
      have HT3 : Hid (TreeAt (fun b => w1.heap.size ≤ b ∧ b < w2.heap.size) w3 (.node k9 n9 m9 a9 ks9) (kidV k9 n9 m9 a9 (.slice o9 l9 c9))) := TreeAt.below (treeIs.made hT) hB3
      have HLE : Hid (w.heap.size ≤ w1.heap.size ∧ w1.heap.size ≤ w2.heap.size ∧ w2.heap.size < w3.heap.size) := ⟨HS1.out.size, hS.size, by rw [← hw3]; simp⟩
      clear hP hS hT hL hB3 hs2
      unfold kidV
      have HWA : Hid (Calls Tryz.prog 41 #[.pointer (some ⟨p, 0, none⟩), .slice (some ⟨w3.heap.size, 0, none⟩) 2 2] (w3.alloc (.cells #[.string ⟨#[41]⟩, .string ⟨#[123]⟩] 9)) (PPost p g cap ts d unitIs (((PSof ts i full).want [41]).bind fun _ s => s.want [123]) w3)) := want_two p g cap ts HE.out i d full [41] [123] (by simp) (by simp) w3 HP3.out
      obtain ⟨ru, hru⟩ : ∃ r, (((PSof ts i full).want [41]).bind fun _ s => s.want [123]) = r := ⟨_, rfl⟩
      have HR3 : Hid (R = ru.bind fun _ s => (someP (armP B) [wDefault, [125]] 66 [] s).bind fun l s => if s.sees wDefault then (otherwiseP B s).bind fun o s => (s.want [125]).bind fun _ s => Ans.ok ((.node k9 n9 m9 a9 ks9) :: l ++ [o]) s else (s.want [125]).bind fun _ s => Ans.ok ((.node k9 n9 m9 a9 ks9) :: l) s) := by
        show _ = _
        rw [HR2.out, ← hru]
        exact (ans_assoc _ _ _).symm
      rw [hru] at HWA
      clear hru
      go_wp2_with fail
      refine HWA.out.mono ?_
      clear hw3
      cases ru with
      | no why at_ =>
        rintro e w99 ⟨rfl, hS⟩
        have HS99 : Hid (Sole p w w99) := HS3.out.trans hS
        clear hS
        go_wp2
        refine ⟨rfl, ?_⟩
        rw [HR3.out]
        exact ⟨rfl, HS99.out⟩
      | ok u st =>
        rintro e w4 ⟨v, i, full, rfl, rfl, rfl, hP, hS⟩
        have hp := HP.out
        have hle := HLE.out
        have HS4 : Hid (Sole p w w4) := HS3.out.trans hS
        have HKq4 : Hid (Kep w w4 w2.heap.size (kidO k9 n9 m9 a9 (.slice o9 l9 c9))) := HKq3.out.sole hp.1 hS
        have HT4 : Hid (TreeAt (fun b => w1.heap.size ≤ b ∧ b < w2.heap.size) w4 (.node k9 n9 m9 a9 ks9) (kidV k9 n9 m9 a9 (.slice o9 l9 c9))) := HT3.out.sole (fun b h => by omega) hS
        have HL34 : Hid (w3.heap.size ≤ w4.heap.size) := hS.size
        have HSO : Hid (Calls Tryz.prog 117 #[.pointer (some ⟨p, 0, none⟩), .func (.func 147) #[.pointer (some ⟨p, 0, none⟩)] #[], .slice (some ⟨w4.heap.size, 0, none⟩) 2 2] (w4.alloc (.cells #[.string ⟨#[100, 101, 102, 97, 117, 108, 116]⟩, .string ⟨#[125]⟩] 9)) (PPost p g cap ts d (listIs w4.heap.size) (someP (armP B) [wDefault, [125]] 66 [] (PSof ts i full)) w4)) := some_two p g cap ts d 147 (armP B) HK.out.2.2 (strict_arm B) bodied_147 wDefault [125] i full w4 hP (HBA.out.sole HS4.out)
        obtain ⟨rl, hrl⟩ : ∃ r, someP (armP B) [wDefault, [125]] 66 [] (PSof ts i full) = r := ⟨_, rfl⟩
        have HLEN : Hid (∀ l s, rl = .ok l s → l.length ≤ 66 ∧ l ≠ []) := fun l s e => by
          have := someP_len _ _ _ _ _ _ _ (hrl.trans e)
          simp at this
          exact this
        have HR4 : Hid (R = rl.bind fun l s => if s.sees wDefault then (otherwiseP B s).bind fun o s => (s.want [125]).bind fun _ s => Ans.ok ((.node k9 n9 m9 a9 ks9) :: l ++ [o]) s else (s.want [125]).bind fun _ s => Ans.ok ((.node k9 n9 m9 a9 ks9) :: l) s) := by
          show _ = _
          rw [HR3.out]; first | (rw [← hrl]; done) | (rw [← hrl]; rfl)
        rw [hrl] at HSO
        clear hP hS hp hle hrl
        go_wp2_with fail
        refine HSO.out.mono ?_
        cases rl with
        | no why at_ =>
          rintro e w99 ⟨rfl, hS⟩
          have HS99 : Hid (Sole p w w99) := HS4.out.trans hS
          clear hS
          go_wp2
          refine ⟨rfl, ?_⟩
          rw [HR4.out]
          exact ⟨rfl, HS99.out⟩
        | ok l st =>
          rintro e w5 ⟨v, i, full, rfl, hL, rfl, hP, hS⟩
          have hlen := HLEN.out _ _ rfl
          obtain ⟨q7, c7, ys, rfl, hq7, hr7, hc7⟩ := hL.addr hlen.2
          obtain ⟨LN, hLN⟩ : ∃ x, l.length = x := ⟨_, rfl⟩
          have hp := HP.out
          have hle := HLE.out
          have HP5 : Hid (PP w5 p g cap ts i d full) := hP
          have HS5 : Hid (Sole p w w5) := HS4.out.trans hS
          have HKq5 : Hid (Kep w w5 w2.heap.size (kidO k9 n9 m9 a9 (.slice o9 l9 c9))) := HKq4.out.sole hp.1 hS
          have HT5 : Hid (TreeAt (fun b => w1.heap.size ≤ b ∧ b < w2.heap.size) w5 (.node k9 n9 m9 a9 ks9) (kidV k9 n9 m9 a9 (.slice o9 l9 c9))) := HT4.out.sole (fun b h => by omega) hS
          have HR7 : Hid (RowV (fun b => Fresh w4.heap.size b ∧ b ≠ q7) w5 l ys) := hr7
          have HC7 : Hid (∀ j u, ys[j]? = some u → w5.cell? ((⟨q7, 0, none⟩ : Addr).add j) = some u) := hc7
          have HLN : Hid (l.length = LN ∧ LN ≤ 66 ∧ 0 < LN) := ⟨hLN, by omega, by rw [← hLN]; cases l with | nil => exact absurd rfl hlen.2 | cons _ _ => simp⟩
          have HYL : Hid (ys.length = LN * 5 ∧ ∀ u ∈ ys, u.oneCell' = true) := ⟨by rw [rowV_len _ _ hr7, hLN], rowV_oneCell _ _ hr7⟩
          have HOW : Hid (w5.ownsRow 0 29 5 (.slice (some ⟨w2.heap.size, 0, none⟩) 1 1) 1 [.int .i64 k9, .string ⟨n9.toArray⟩, .int .i64 m9, .int .i64 a9, .slice o9 l9 c9]) := owns_lit HKq5.out.1 rfl (by decide)
          have HL45 : Hid (w4.heap.size ≤ w5.heap.size) := hS.size
          rw [hLN]
          clear hP hS hL hp hle hlen hq7 hr7 hc7 hLN
          go_wp2_with (at_builtin; refine wpList_append_lies _ rfl _ _ 27 rfl 0 29 inf (.agg #[.int .i64 0, .string ⟨#[]⟩, .int .i64 0, .int .i64 0, .slice none 0 0]) 5 64 Tryz.underlying27 HI.out.1 HI.out.2.1 HI.out.2.2.1 HI.out.2.2.2 rfl (by decide) (.slice (some ⟨w2.heap.size, 0, none⟩) 1 1) 1 [.int .i64 k9, .string ⟨n9.toArray⟩, .int .i64 m9, .int .i64 a9, .slice o9 l9 c9] rfl HOW.out ⟨q7, 0, none⟩ LN c7 ys rfl HYL.out.1 HC7.out HYL.out.2 HLN.out.2.2 (by have := HLN.out; unfold maxLen; omega) (by have := HLN.out; omega) (Nat.zero_le _) _ rfl ?_; intro gq cq w6 hown hgrow hat hlt; have HG : Hid (w5.grownBy w6 (some w2.heap.size) ∧ w6.ownsRow 0 29 5 (.slice (some ⟨gq, 0, none⟩) (1 + LN) cq) (1 + LN) ([.int .i64 k9, .string ⟨n9.toArray⟩, .int .i64 m9, .int .i64 a9, .slice o9 l9 c9] ++ ys) ∧ ((Value.slice (some ⟨w2.heap.size, 0, none⟩) 1 1).ownBlock = some gq ∨ gq = w5.heap.size)) := ⟨hgrow, hown, hat⟩; clear hown hgrow hat hlt)
          have hp := HP.out
          have hle := HLE.out
          have h34 := HL34.out
          have h45 := HL45.out
          have hs5 := HS5.out.size
          have HP6 : Hid (PP w6 p g cap ts i d full) := HP5.out.grown HG.out.1 (by omega) (by omega)
          have HS6 : Hid (Sole p w w6) := HS5.out.grown HG.out.1 (by omega)
          have HL6 : Hid (ListAt (Fresh w.heap.size) w6 ((.node k9 n9 m9 a9 ks9) :: l) (.slice (some ⟨gq, 0, none⟩) (1 + LN) cq)) := by
            refine listAt_more (ks := [(.node k9 n9 m9 a9 ks9)]) (us := l) (sl := .slice (some ⟨w2.heap.size, 0, none⟩) 1 1) (fun q e => ?_) (rowV_one (HT5.out.weaken (fun b h => ?_))) (RowV.frame (fun b h => ?_) (fun _ _ _ => rfl) _ _ HR7.out) (by rw [HLN.out.1]; exact HG.out.2.1) HG.out.1 w5.heap.size (Nat.le_refl _) hs5 ?_
            · have e2 : w2.heap.size = q := Option.some.inj e
              show w.heap.size ≤ q
              omega
            · refine ⟨by show w.heap.size ≤ b; omega, fun e => ?_⟩
              have e2 : w2.heap.size = b := Option.some.inj e
              omega
            · have h1 : w4.heap.size ≤ b := h.1
              refine ⟨by show w.heap.size ≤ b; omega, fun e => ?_⟩
              have e2 : w2.heap.size = b := Option.some.inj e
              omega
            · rcases HG.out.2.2 with e | e
              · exact Or.inl e.symm
              · exact Or.inr (by rw [e]; rfl)
          have HSX : Hid (Calls Tryz.prog 75 #[.pointer (some ⟨p, 0, none⟩), .string ⟨#[100, 101, 102, 97, 117, 108, 116]⟩] w6 fun e w' => e = .returned (.bool ((PSof ts i full).sees wDefault)) ∧ Below w6.heap.size w6 w') := sees_lit p g cap ts i d full wDefault w6 HP6.out
          clear hp hle h34 h45 hs5
          cases hse : (PSof ts i full).sees wDefault
          · rw [hse] at HSX
            have HR5 : Hid (R = ((PSof ts i full).want [125]).bind fun _ s => Ans.ok ((.node k9 n9 m9 a9 ks9) :: l) s) := by
              show _ = _
              rw [HR4.out]
              show (if _ then _ else _) = _
              rw [hse, if_neg (by simp)]
            clear hse
            refine HSX.out.mono ?_
            rintro e wq ⟨rfl, hB⟩
            have HPq : Hid (PP wq p g cap ts i d full) := HP6.out.below hB
            have HSq : Hid (Sole p w wq) := HS6.out.trans (Sole.of_below hB)
            have HLq : Hid (ListAt (Fresh w.heap.size) wq ((.node k9 n9 m9 a9 ks9) :: l) (.slice (some ⟨gq, 0, none⟩) (1 + LN) cq)) := HL6.out.below hB
            clear hB
            have HWA : Hid (Calls Tryz.prog 41 #[.pointer (some ⟨p, 0, none⟩), .slice (some ⟨wq.heap.size, 0, none⟩) 1 1] (wq.alloc (.cells #[.string ⟨#[125]⟩] 9)) (PPost p g cap ts d unitIs ((PSof ts i full).want [125]) wq)) := want_one p g cap ts HE.out i d full [125] (by simp) wq HPq.out
            obtain ⟨ru, hru⟩ : ∃ r, (PSof ts i full).want [125] = r := ⟨_, rfl⟩
            have HRE : Hid (R = ru.bind fun _ s => Ans.ok ((.node k9 n9 m9 a9 ks9) :: l) s) := by
              show _ = _
              rw [HR5.out]; first | (rw [← hru]; done) | (rw [← hru]; rfl)
            rw [hru] at HWA
            clear hru
            go_wp2_with fail
            refine HWA.out.mono ?_
            cases ru with
            | no why at_ =>
              rintro e w99 ⟨rfl, hS⟩
              have HS99 : Hid (Sole p w w99) := HSq.out.trans hS
              clear hS
              go_wp2
              refine ⟨rfl, ?_⟩
              rw [HRE.out]
              exact ⟨rfl, HS99.out⟩
            | ok u st =>
              rintro e wf ⟨v, i, full, rfl, rfl, rfl, hP, hS⟩
              have HSf : Hid (Sole p w wf) := HSq.out.trans hS
              have HPf : Hid (PP wf p g cap ts i d full) := hP
              have HLf : Hid (ListAt (Fresh w.heap.size) wf ((.node k9 n9 m9 a9 ks9) :: l) (.slice (some ⟨gq, 0, none⟩) (1 + LN) cq)) := HLq.out.sole (fun b h => by have h1 : w.heap.size ≤ b := h; have := HP.out; omega) hS
              clear hP hS
              go_wp2
              go_ret
              rw [HRE.out]
              exact ⟨_, i, full, rfl, HLf.out, rfl, HPf.out, HSf.out⟩
          · rw [hse] at HSX
            have hix := HE.out.sees HP6.out.il (t := wDefault) (by simp [wDefault]) hse
            obtain ⟨ro, hro⟩ : ∃ r, otherwiseP B (PSof ts i full) = r := ⟨_, rfl⟩
            have HR5 : Hid (R = ro.bind fun o s => (s.want [125]).bind fun _ s => Ans.ok ((.node k9 n9 m9 a9 ks9) :: l ++ [o]) s) := by
              show _ = _
              rw [HR4.out, ← hro]
              show (if _ then _ else _) = _
              rw [hse, if_pos rfl]
            clear hse
            refine HSX.out.mono ?_
            rintro e w7 ⟨rfl, hB⟩
            have HP7 : PP w7 p g cap ts i d full := HP6.out.below hB
            have HS7 : Hid (Sole p w w7) := HS6.out.trans (Sole.of_below hB)
            have HL7 : Hid (ListAt (Fresh w.heap.size) w7 ((.node k9 n9 m9 a9 ks9) :: l) (.slice (some ⟨gq, 0, none⟩) (1 + LN) cq)) := HL6.out.below hB
            have HOT : Hid (Calls Tryz.prog 148 #[.pointer (some ⟨p, 0, none⟩)] w7 (PPost p g cap ts d (treeIs w7.heap.size) (otherwiseP B (PSof ts i full)) w7)) := otherwise_any p g cap ts HE.out d B HK.out.2.1 i full w7 HP7 (HBA.out.sole HS7.out) hix
            rw [hro] at HOT
            clear hB hro hix HP7
            go_wp2_with fail
            refine HOT.out.mono ?_
            cases ro with
            | no why at_ =>
              rintro e w99 ⟨rfl, hS⟩
              have HS99 : Hid (Sole p w w99) := HS7.out.trans hS
              clear hS
              go_wp2
              refine ⟨rfl, ?_⟩
              rw [HR5.out]
              exact ⟨rfl, HS99.out⟩
            | ok tv st =>
              rintro e w8 ⟨v, i, full, rfl, hT, rfl, hP, hS⟩
              obtain ⟨k8, n8, m8, a8, ks8⟩ := tv
              obtain ⟨sl, rfl, hL⟩ := treeAt_node.1 hT
              obtain ⟨o8, l8, c8, rfl⟩ := hL.shape
              obtain ⟨wb, hwb⟩ : ∃ x, w8.alloc (.cells #[.int .i64 k8, .string ⟨n8.toArray⟩, .int .i64 m8, .int .i64 a8, .slice o8 l8 c8] 29) = x := ⟨_, rfl⟩
              have hBb : Below w8.heap.size w8 wb := by rw [← hwb]; exact below_alloc _ _
              have hp := HP.out
              have hl3 : ListAt (Fresh w.heap.size) wb ((.node k9 n9 m9 a9 ks9) :: l) (.slice (some ⟨gq, 0, none⟩) (1 + LN) cq) := (HL7.out.sole (fun b h => by have h1 : w.heap.size ≤ b := h; omega) hS).below hBb
              have HLQ : Hid (∀ q, (Value.slice (some ⟨gq, 0, none⟩) (1 + LN) cq).ownBlock = some q → w.heap.size ≤ q ∧ q < w7.heap.size) := fun q e => HL7.out.own_lt e
              obtain ⟨xs, how, hAq, hrq⟩ := hl3
              rw [show ((.node k9 n9 m9 a9 ks9) :: l : List Tree).length = 1 + LN from by rw [List.length_cons, HLN.out.1]; omega] at how
              have HOW2 : Hid (wb.ownsRow 0 29 5 (.slice (some ⟨gq, 0, none⟩) (1 + LN) cq) (1 + LN) xs) := how
              have HRQ : Hid (RowV (fun b => Fresh w.heap.size b ∧ (Value.slice (some ⟨gq, 0, none⟩) (1 + LN) cq).ownBlock ≠ some b) wb ((.node k9 n9 m9 a9 ks9) :: l) xs) := hrq
              have HNB : Hid (wb.heap[w8.heap.size]? = some (.cells #[.int .i64 k8, .string ⟨n8.toArray⟩, .int .i64 m8, .int .i64 a8, .slice o8 l8 c8] 29 (0, 0))) := by show _ = _; rw [← hwb]; exact heap_alloc_new _ _
              have HT8 : Hid (TreeAt (Fresh w7.heap.size) wb (.node k8 n8 m8 a8 ks8) (kidV k8 n8 m8 a8 (.slice o8 l8 c8))) := TreeAt.below hT hBb
              have HPb : Hid (PP wb p g cap ts i d full) := hP.below hBb
              have HSb : Hid (Sole p w wb) := (HS7.out.trans hS).trans (Sole.of_below hBb)
              clear hP hS hT hL hBb hp how hAq hrq
              unfold kidV
              go_wp2_with (at_builtin; refine wpList_append_lies _ rfl _ _ 27 rfl 0 29 inf (.agg #[.int .i64 0, .string ⟨#[]⟩, .int .i64 0, .int .i64 0, .slice none 0 0]) 5 64 Tryz.underlying27 HI.out.1 HI.out.2.1 HI.out.2.2.1 HI.out.2.2.2 rfl (by decide) (.slice (some ⟨gq, 0, none⟩) (1 + LN) cq) (1 + LN) xs rfl HOW2.out ⟨w8.heap.size, 0, none⟩ 1 1 [.int .i64 k8, .string ⟨n8.toArray⟩, .int .i64 m8, .int .i64 a8, .slice o8 l8 c8] rfl rfl (World.news_of_block (cs := #[.int .i64 k8, .string ⟨n8.toArray⟩, .int .i64 m8, .int .i64 a8, .slice o8 l8 c8]) (t := 29) (fr := (0, 0)) HNB.out) (by simp [Value.oneCell']) (by decide) (by have := HLN.out; unfold maxLen; omega) (by have := HLN.out; omega) (Nat.zero_le _) _ rfl ?_; intro gq2 cq2 wq hown hgrow hat hlt; have HG2 : Hid (wb.grownBy wq (Value.slice (some ⟨gq, 0, none⟩) (1 + LN) cq).ownBlock ∧ wq.ownsRow 0 29 5 (.slice (some ⟨gq2, 0, none⟩) (1 + LN + 1) cq2) (1 + LN + 1) (xs ++ [.int .i64 k8, .string ⟨n8.toArray⟩, .int .i64 m8, .int .i64 a8, .slice o8 l8 c8]) ∧ ((Value.slice (some ⟨gq, 0, none⟩) (1 + LN) cq).ownBlock = some gq2 ∨ gq2 = wb.heap.size)) := ⟨hgrow, hown, hat⟩; clear hown hgrow hat hlt)
              clear hwb
              have hp := HP.out
              have HPq : Hid (PP wq p g cap ts i d full) := HPb.out.grownO HG2.out.1 (fun e => by have := HLQ.out p e; omega) (fun e => by have := HLQ.out g e; omega)
              have HSq : Hid (Sole p w wq) := HSb.out.grownO HG2.out.1 (fun q e => (HLQ.out q e).1)
              have HLq : Hid (ListAt (Fresh w.heap.size) wq ((.node k9 n9 m9 a9 ks9) :: l ++ [(.node k8 n8 m8 a8 ks8)]) (.slice (some ⟨gq2, 0, none⟩) (1 + LN + 1) cq2)) := by
                refine listAt_more (sl := .slice (some ⟨gq, 0, none⟩) (1 + LN) cq) (fun q e => (HLQ.out q e).1) HRQ.out (rowV_one (HT8.out.weaken (fun b h => ?_))) (by rw [show ((.node k9 n9 m9 a9 ks9) :: l : List Tree).length = 1 + LN from by rw [List.length_cons, HLN.out.1]; omega]; exact HG2.out.2.1) HG2.out.1 wb.heap.size (Nat.le_refl _) HSb.out.size ?_
                · have h1 : w7.heap.size ≤ b := h
                  have h2 := HS7.out.size
                  exact ⟨by show w.heap.size ≤ b; omega, fun e => by have := (HLQ.out b e).2; omega⟩
                · rcases HG2.out.2.2 with e | e
                  · exact Or.inl e.symm
                  · exact Or.inr (by rw [e]; rfl)
              clear hp
              have HWA : Hid (Calls Tryz.prog 41 #[.pointer (some ⟨p, 0, none⟩), .slice (some ⟨wq.heap.size, 0, none⟩) 1 1] (wq.alloc (.cells #[.string ⟨#[125]⟩] 9)) (PPost p g cap ts d unitIs ((PSof ts i full).want [125]) wq)) := want_one p g cap ts HE.out i d full [125] (by simp) wq HPq.out
              obtain ⟨ru, hru⟩ : ∃ r, (PSof ts i full).want [125] = r := ⟨_, rfl⟩
              have HRE : Hid (R = ru.bind fun _ s => Ans.ok ((.node k9 n9 m9 a9 ks9) :: l ++ [(.node k8 n8 m8 a8 ks8)]) s) := by
                show _ = _
                rw [HR5.out]; first | (rw [← hru]; done) | (rw [← hru]; rfl)
              rw [hru] at HWA
              clear hru
              refine HWA.out.mono ?_
              cases ru with
              | no why at_ =>
                rintro e w99 ⟨rfl, hS⟩
                have HS99 : Hid (Sole p w w99) := HSq.out.trans hS
                clear hS
                go_wp2
                refine ⟨rfl, ?_⟩
                rw [HRE.out]
                exact ⟨rfl, HS99.out⟩
              | ok u st =>
                rintro e wf ⟨v, i, full, rfl, rfl, rfl, hP, hS⟩
                have HSf : Hid (Sole p w wf) := HSq.out.trans hS
                have HPf : Hid (PP wf p g cap ts i d full) := hP
                have HLf : Hid (ListAt (Fresh w.heap.size) wf ((.node k9 n9 m9 a9 ks9) :: l ++ [(.node k8 n8 m8 a8 ks8)]) (.slice (some ⟨gq2, 0, none⟩) (1 + LN + 1) cq2)) := HLq.out.sole (fun b h => by have h1 : w.heap.size ≤ b := h; have := HP.out; omega) hS
                clear hP hS
                go_wp2
                go_ret
                rw [HRE.out]
                exact ⟨_, i, full, rfl, HLf.out, rfl, HPf.out, HSf.out⟩

end Go.Proofs.YteokdknaadckbaaGreatDoor
namespace Go.Proofs.YteokdknaadckbaaGreatDoor
open Go.RowKit

theorem bld3 (a : Int) (w : World) : (Instr.build 29 #[(3, .int .i64 a)]).run Tryz.prog w = .ok (.agg #[.int .i64 0, .string ⟨#[]⟩, .int .i64 0, .int .i64 a, .slice none 0 0]) w := by kernel_rfl
theorem PP.depth {w : World} {p g cap : Nat} {ts : List Tok} {i : Nat} {d : Int} {full : Bool} (h : PP w p g cap ts i d full) (d' : Int) : PP (w.setCell ⟨p, 2, none⟩ (.int .i64 d')) p g cap ts i d' full := by
  have ho : ∀ o, (w.setCell ⟨p, 2, none⟩ (.int .i64 d')).cell? ⟨g, o, none⟩ = w.cell? ⟨g, o, none⟩ := fun o => World.cell?_setCell_other _ _ _ _ (by simp; intro e; exact absurd e.symm h.gp)
  refine ⟨?_, ?_, World.cell?_setCell_same _ _ _ h.c2, ?_, ?_, ?_, ?_, fun k hk => (ho _).trans (h.t0 k hk), fun k hk => (ho _).trans (h.t1 k hk), fun k hk => (ho _).trans (h.t2 k hk), fun k hk => (ho _).trans (h.t3 k hk), h.il, h.ln, h.gp⟩
  · rw [World.cell?_setCell_other _ _ _ _ (by simp)]; exact h.c0
  · rw [World.cell?_setCell_other _ _ _ _ (by simp)]; exact h.c1
  · rw [World.cell?_setCell_other _ _ _ _ (by simp)]; exact h.c3
  · rw [World.frozen?_setCell]; exact h.f1
  · rw [World.frozen?_setCell]; exact h.f2
  · rw [World.frozen?_setCell]; exact h.f3
theorem Kep.setp {w cur : World} {b : Nat} {o : Obj} (h : Kep w cur b o) {p k : Nat} {v : Value} (hp : p < w.heap.size) : Kep w (cur.setCell ⟨p, k, none⟩ v) b o := ⟨(Below.heap_setCell _ _ _ _ (show b ≠ p by have := h.2; omega)).trans h.1, h.2⟩
theorem BareAt.setp {p : Nat} {w : World} (h : BareAt p w) {k : Nat} {v : Value} : BareAt p (w.setCell ⟨p, k, none⟩ v) := h.block (Below.heap_setCell _ _ _ _ (Ne.symm h.1))
theorem Sole.setp {p : Nat} {w cur : World} (h : Sole p w cur) {k : Nat} {v : Value} : Sole p w (cur.setCell ⟨p, k, none⟩ v) := h.trans (Sole.setCell cur k v)

set_option maxHeartbeats 4000000 in
set_option maxRecDepth 4000 in
theorem body_false (p g cap : Nat) (ts : List Tok) (hE : Ends ts) (d : Int) (hd0 : 0 ≤ d) (hd7 : d ≤ 7) (n : Nat) (hM : KeepsL p g cap ts (d + 1) 114 membersP) (hFs : KeepsL p g cap ts (d + 1) 115 (fieldsP (bodyP n false))) (hC : KeepsL p g cap ts (d + 1) 116 (choiceP (bodyP n false))) (i : Nat) (full : Bool) (w : World) (hi : i + 1 < ts.length) (h : PP w p g cap ts i d full) (hba : BareAt p w) :
    Calls Tryz.prog 71 #[.pointer (some ⟨p, 0, none⟩), .bool false] w (PPost p g cap ts d (treeIs w.heap.size) (bodyP (n + 1) false (PSof ts i full)) w) := by
  have HP : Hid (p < w.heap.size ∧ g < w.heap.size) := ⟨h.plt, h.glt⟩
  have HE : Hid (Ends ts) := hE
  have HBA : Hid (BareAt p w) := hba
  have HK114 : Hid (KeepsL p g cap ts (d + 1) 114 membersP) := hM
  have HK115 : Hid (KeepsL p g cap ts (d + 1) 115 (fieldsP (bodyP n false))) := hFs
  have HK116 : Hid (KeepsL p g cap ts (d + 1) 116 (choiceP (bodyP n false))) := hC
  obtain ⟨R, hR⟩ : ∃ R, bodyP (n + 1) false (PSof ts i full) = R := ⟨_, rfl⟩
  rw [hR]
  obtain ⟨wa, hwa⟩ : ∃ x, w.alloc (.cells #[.int .i64 0, .string ⟨#[]⟩, .int .i64 0, .int .i64 0, .slice none 0 0] 29) = x := ⟨_, rfl⟩
  have b1 : Below w.heap.size w wa := by rw [← hwa]; exact below_alloc _ _
  have ka : Kep w wa w.heap.size (kidO 0 [] 0 0 (.slice none 0 0)) := by rw [← hwa]; exact Kep.new (Nat.le_refl _) _
  have hpa := h.below b1
  have c2 := hpa.c2
  have g2 := hpa.f2
  have hd8 : (d == 8) = false := by simp; omega
  obtain ⟨wd, hwd⟩ : ∃ x, wa.setCell ⟨p, 2, none⟩ (.int .i64 (d + 1)) = x := ⟨_, rfl⟩
  have HPd : Hid (PP wd p g cap ts i (d + 1) full) := by show PP wd _ _ _ _ _ _ _; rw [← hwd]; exact hpa.depth _
  have HSd : Hid (Sole p w wd) := by show Sole p w wd; rw [← hwd]; exact (Sole.of_below b1).setp
  have HKd : Hid (Kep w wd w.heap.size (kidO 0 [] 0 0 (.slice none 0 0))) := by show Kep w wd _ _; rw [← hwd]; exact ka.setp h.plt
  have HTK : Hid (Calls Tryz.prog 69 #[.pointer (some ⟨p, 0, none⟩)] wd (PPost p g cap ts (d + 1) tokIs (PSof ts i full).take wd)) := take_any p g cap ts i (d + 1) full wd HPd.out hi
  obtain ⟨rt, hrt⟩ : ∃ r, (PSof ts i full).take = r := ⟨_, rfl⟩
  have HR0 : Hid (R = rt.bind fun word s => (if false = true then (nameP s).bind fun n s => .ok (n.text, n.at_) s else .ok ([], word.at_) s).bind fun na s => if word.text = wEnum then (membersP s).bind fun l s => .ok (.node 4 na.1 0 na.2 l) s else if word.text = wStruct then (fieldsP (bodyP n false) s).bind fun l s => .ok (.node 6 na.1 0 na.2 l) s else (choiceP (bodyP n false) s).bind fun l s => .ok (.node 7 na.1 0 na.2 l) s) := by
    show _ = _
    rw [← hR, ← hrt]; rfl
  rw [hrt] at HTK
  clear h hba hE hM hFs hC hR b1 ka hpa hi hrt
  go_enter Tryz.func71, Tryz.ntmps71
  go_wp2_with fail
  clear hwa hwd c2 g2 hd8
  refine HTK.out.mono ?_
  cases rt with
  | no why at_ =>
    rintro e w99 ⟨rfl, hS⟩
    have HS99 : Hid (Sole p w w99) := HSd.out.trans hS
    clear hS
    go_wp2
    refine ⟨rfl, ?_⟩
    rw [HR0.out]
    exact ⟨rfl, HS99.out⟩
  | ok t st =>
    rintro e w2 ⟨v, i, full, rfl, rfl, rfl, hP, hS⟩
    obtain ⟨w3, hw3⟩ : ∃ x, w2.alloc (.cells #[.int .i64 t.kind, .string ⟨t.text.toArray⟩, .int .i64 t.num, .int .i64 t.at_] 41) = x := ⟨_, rfl⟩
    have hs2 : Sole p w w2 := HSd.out.trans hS
    have hp := HP.out
    have HP3 : Hid (PP w3 p g cap ts i (d + 1) full) := by show PP w3 _ _ _ _ _ _ _; rw [← hw3]; exact hP.alloc _
    have HS3 : Hid (Sole p w w3) := by show Sole p w w3; rw [← hw3]; exact hs2.alloc _
    have HKr3 : Hid (Kep w w3 w.heap.size (kidO 0 [] 0 0 (.slice none 0 0))) := by show Kep w w3 _ _; rw [← hw3]; exact (HKd.out.sole hp.1 hS).alloc _
    have HKt3 : Hid (Kep w w3 w2.heap.size (tokO t)) := by show Kep w w3 _ _; rw [← hw3]; exact Kep.new hs2.size _
    obtain ⟨t0, t1, t2, t3⟩ := tok_cells HKt3.out.1
    have HLE : Hid (w.heap.size < w2.heap.size ∧ w2.heap.size < w3.heap.size) := ⟨(HKd.out.sole hp.1 hS).lt, by rw [← hw3]; simp⟩
    have qb := bld3 t.at_
    clear hP hS hp hs2
    unfold tokV
    have HR1 : Hid (R = if t.text = wEnum then (membersP (PSof ts i full)).bind fun l s => .ok (.node 4 [] 0 t.at_ l) s else if t.text = wStruct then (fieldsP (bodyP n false) (PSof ts i full)).bind fun l s => .ok (.node 6 [] 0 t.at_ l) s else (choiceP (bodyP n false) (PSof ts i full)).bind fun l s => .ok (.node 7 [] 0 t.at_ l) s) := HR0.out
    have HTP : Hid (∀ wt, w3.alloc (.cells #[.int .i64 0, .string ⟨#[]⟩, .int .i64 0, .int .i64 t.at_, .slice none 0 0] 29) = wt → PP wt p g cap ts i (d + 1) full ∧ Sole p w wt ∧ Kep w wt w.heap.size (kidO 0 [] 0 0 (.slice none 0 0)) ∧ Kep w wt w2.heap.size (tokO t) ∧ Kep w wt w3.heap.size (kidO 0 [] 0 t.at_ (.slice none 0 0))) := fun wt e => by
      subst e
      exact ⟨HP3.out.alloc _, HS3.out.alloc _, HKr3.out.alloc _, HKt3.out.alloc _, Kep.new HS3.out.size _⟩
    have HNE : Hid (w.heap.size < w3.heap.size) := by show _ < _; have := HLE.out; omega
    have tt1 : ∀ x, (w3.alloc x).cell? ⟨w2.heap.size, 1, none⟩ = some (.string ⟨t.text.toArray⟩) := fun x => (tok_cells (HKt3.out.alloc x).1).2.1
    by_cases he1 : t.text = wEnum
    · have hx1 : (t.text == [101, 110, 117, 109]) = true := by rw [he1]; rfl
      have HR2 : Hid (R = (membersP (PSof ts i full)).bind fun l s => .ok (.node 4 [] 0 t.at_ l) s) := by show _ = _; rw [HR1.out, if_pos he1]
      clear he1
      go_wp2_with fail
      clear hw3
      obtain ⟨wt, hwt⟩ : ∃ x, w3.alloc (.cells #[.int .i64 0, .string ⟨#[]⟩, .int .i64 0, .int .i64 t.at_, .slice none 0 0] 29) = x := ⟨_, rfl⟩
      rw [hwt]
      obtain ⟨hh1, hh2, hh3, hh4, hh5⟩ := HTP.out wt hwt
      have HPt : Hid (PP wt p g cap ts i (d + 1) full) := hh1
      have HSt : Hid (Sole p w wt) := hh2
      have HKrt : Hid (Kep w wt w.heap.size (kidO 0 [] 0 0 (.slice none 0 0))) := hh3
      have HKlt : Hid (Kep w wt w3.heap.size (kidO 0 [] 0 t.at_ (.slice none 0 0))) := hh5
      clear hh1 hh2 hh3 hh4 hh5 hwt
      have HML : Hid (Calls Tryz.prog 114 #[.pointer (some ⟨p, 0, none⟩)] wt (PPost p g cap ts (d + 1) (listIs wt.heap.size) (membersP (PSof ts i full)) wt)) := HK114.out i full wt HPt.out (HBA.out.sole HSt.out)
      obtain ⟨rl, hrl⟩ : ∃ r, membersP (PSof ts i full) = r := ⟨_, rfl⟩
      have HRL : Hid (R = rl.bind fun l s => .ok (.node 4 [] 0 t.at_ l) s) := by
        show _ = _
        rw [HR2.out, ← hrl]
      rw [hrl] at HML
      clear hrl
      refine HML.out.mono ?_
      cases rl with
      | no why at_ =>
        rintro e w99 ⟨rfl, hS⟩
        have HS99 : Hid (Sole p w w99) := HSt.out.trans hS
        clear hS
        go_wp2
        refine ⟨rfl, ?_⟩
        rw [HRL.out]
        exact ⟨rfl, HS99.out⟩
      | ok l st =>
        rintro e w7 ⟨v, i, full, rfl, hL, rfl, hP, hS⟩
        obtain ⟨o8, l8, c8, rfl⟩ := hL.shape
        have hp := HP.out
        have hlb := HKlt.out.2
        have hlbt := HKlt.out.lt
        have hrbl := HNE.out
        have c27 := hP.c2
        have f27 := hP.f2
        have hne1 : ¬ w3.heap.size = p := by omega
        have hne2 : ¬ p = w3.heap.size := by omega
        have hne3 : ¬ w.heap.size = w3.heap.size := by omega
        have hne4 : ¬ w3.heap.size = w.heap.size := by omega
        have hne5 : ¬ w.heap.size = p := by omega
        have hne6 : ¬ p = w.heap.size := by omega
        have kl7 : Kep w w7 w3.heap.size (kidO 0 [] 0 t.at_ (.slice none 0 0)) := HKlt.out.sole hp.1 hS
        have kr7 : Kep w w7 w.heap.size (kidO 0 [] 0 0 (.slice none 0 0)) := HKrt.out.sole hp.1 hS
        obtain ⟨⟨l0, l1, l2, l3, l4⟩, ⟨f0, f1, f2, f3, f4⟩⟩ := kid_cells kl7.1
        have hz : ∀ b, b ≠ w3.heap.size → ((w7.setCell ⟨w3.heap.size, 0, none⟩ (.int .i64 4)).setCell ⟨w3.heap.size, 4, none⟩ (.slice o8 l8 c8)).heap[b]? = w7.heap[b]? := fun b hb => (Below.heap_setCell _ _ _ _ hb).trans (Below.heap_setCell _ _ _ _ hb)
        have HS9 : Hid (Sole p w (((w7.setCell ⟨w3.heap.size, 0, none⟩ (.int .i64 4)).setCell ⟨w3.heap.size, 4, none⟩ (.slice o8 l8 c8)).setCell ⟨p, 2, none⟩ (.int .i64 d))) := Sole.setp (((HSt.out.trans hS).below_after ((Below.refl _ _).setCell hlb _)).below_after ((Below.refl _ _).setCell hlb _))
        have HP9 : Hid (PP (((w7.setCell ⟨w3.heap.size, 0, none⟩ (.int .i64 4)).setCell ⟨w3.heap.size, 4, none⟩ (.slice o8 l8 c8)).setCell ⟨p, 2, none⟩ (.int .i64 d)) p g cap ts i d full) := (hP.sole_but (by omega) (by omega) hz).depth d
        have HKr9 : Hid (Kep w (((w7.setCell ⟨w3.heap.size, 0, none⟩ (.int .i64 4)).setCell ⟨w3.heap.size, 4, none⟩ (.slice o8 l8 c8)).setCell ⟨p, 2, none⟩ (.int .i64 d)) w.heap.size (kidO 0 [] 0 0 (.slice none 0 0))) := (kr7.but hz (by omega)).setp hp.1
        have HKl9 : Hid (Kep w (((w7.setCell ⟨w3.heap.size, 0, none⟩ (.int .i64 4)).setCell ⟨w3.heap.size, 4, none⟩ (.slice o8 l8 c8)).setCell ⟨p, 2, none⟩ (.int .i64 d)) w3.heap.size (kidO 4 [] 0 t.at_ (.slice o8 l8 c8))) := Kep.setp ⟨setCell_blk (setCell_blk kl7.1), hlb⟩ hp.1
        have HL9 : Hid (ListAt (fun b => w3.heap.size < b) (((w7.setCell ⟨w3.heap.size, 0, none⟩ (.int .i64 4)).setCell ⟨w3.heap.size, 4, none⟩ (.slice o8 l8 c8)).setCell ⟨p, 2, none⟩ (.int .i64 d)) l (.slice o8 l8 c8)) := by
          have h1 : ListAt (fun b => w3.heap.size < b) w7 l (.slice o8 l8 c8) := ListAt.weaken hL (fun b h => by have h2 : wt.heap.size ≤ b := h; omega)
          exact ListAt.but (r := p) (ListAt.but h1 (fun b h => by omega) hz) (fun b h => by omega) (fun b hb => Below.heap_setCell _ _ _ _ hb)
        obtain ⟨⟨r0, r1, r2, r3, r4⟩, ⟨y0, y1, y2, y3, y4⟩⟩ := kid_cells kr7.1
        clear hP hS hL hp hlb hlbt hrbl kl7 kr7 hz
        go_wp2
        generalize ((w7.setCell ⟨w3.heap.size, 0, none⟩ (.int .i64 4)).setCell ⟨w3.heap.size, 4, none⟩ (.slice o8 l8 c8)).setCell ⟨p, 2, none⟩ (.int .i64 d) = w9 at HS9 HP9 HKr9 HKl9 HL9 ⊢
        obtain ⟨⟨z0, z1, z2, z3, z4⟩, _⟩ := kid_cells HKr9.out.1
        have q := res5 w9 w.heap.size (.int .i64 4) (.string ⟨#[]⟩) (.int .i64 0) (.int .i64 t.at_) (.slice o8 l8 c8) z0 z1 z2 z3 z4
        have hf := fin5 (r := w.heap.size) (w9 := w9) (k := 4) (n := []) (m := 0) (a := t.at_) (sl := (.slice o8 l8 c8)) HKr9.out.2 HS9.out _ rfl
        generalize ((((w9.setCell ⟨w.heap.size, 0, none⟩ (.int .i64 4)).setCell ⟨w.heap.size, 1, none⟩ (.string ⟨#[]⟩)).setCell ⟨w.heap.size, 2, none⟩ (.int .i64 0)).setCell ⟨w.heap.size, 3, none⟩ (.int .i64 t.at_)).setCell ⟨w.heap.size, 4, none⟩ (.slice o8 l8 c8) = wz at q hf ⊢
        obtain ⟨q0, q1, q2, q3, q4⟩ := q
        refine bodyPost_ret (v := .agg #[.int .i64 4, .string ⟨#[]⟩, .int .i64 0, .int .i64 t.at_, (.slice o8 l8 c8)]) (by simp [results, Tryz.results71, go_sem, q0, q1, q2, q3, q4]) rfl ?_
        rw [HRL.out]
        have hr2 := HKr9.out.2
        have hpg := HP.out
        exact ⟨_, _, _, rfl, node_fin HL9.out (fun b h => by have := HNE.out; omega) (fun b h => by have := HNE.out; omega) hf.2, rfl, HP9.out.sole_but (by omega) (by omega) hf.2, hf.1⟩
    · by_cases he2 : t.text = wStruct
      · have hx1 : (t.text == [101, 110, 117, 109]) = false := by simpa [wEnum] using he1
        have hx2 : (t.text == [115, 116, 114, 117, 99, 116]) = true := by rw [he2]; rfl
        have HR2 : Hid (R = (fieldsP (bodyP n false) (PSof ts i full)).bind fun l s => .ok (.node 6 [] 0 t.at_ l) s) := by show _ = _; rw [HR1.out, if_neg he1, if_pos he2]
        clear he1 he2
        go_wp2_with fail
        clear hw3
        obtain ⟨wt, hwt⟩ : ∃ x, w3.alloc (.cells #[.int .i64 0, .string ⟨#[]⟩, .int .i64 0, .int .i64 t.at_, .slice none 0 0] 29) = x := ⟨_, rfl⟩
        rw [hwt]
        obtain ⟨hh1, hh2, hh3, hh4, hh5⟩ := HTP.out wt hwt
        have HPt : Hid (PP wt p g cap ts i (d + 1) full) := hh1
        have HSt : Hid (Sole p w wt) := hh2
        have HKrt : Hid (Kep w wt w.heap.size (kidO 0 [] 0 0 (.slice none 0 0))) := hh3
        have HKlt : Hid (Kep w wt w3.heap.size (kidO 0 [] 0 t.at_ (.slice none 0 0))) := hh5
        clear hh1 hh2 hh3 hh4 hh5 hwt
        have HML : Hid (Calls Tryz.prog 115 #[.pointer (some ⟨p, 0, none⟩)] wt (PPost p g cap ts (d + 1) (listIs wt.heap.size) (fieldsP (bodyP n false) (PSof ts i full)) wt)) := HK115.out i full wt HPt.out (HBA.out.sole HSt.out)
        obtain ⟨rl, hrl⟩ : ∃ r, fieldsP (bodyP n false) (PSof ts i full) = r := ⟨_, rfl⟩
        have HRL : Hid (R = rl.bind fun l s => .ok (.node 6 [] 0 t.at_ l) s) := by
          show _ = _
          rw [HR2.out, ← hrl]
        rw [hrl] at HML
        clear hrl
        refine HML.out.mono ?_
        cases rl with
        | no why at_ =>
          rintro e w99 ⟨rfl, hS⟩
          have HS99 : Hid (Sole p w w99) := HSt.out.trans hS
          clear hS
          go_wp2
          refine ⟨rfl, ?_⟩
          rw [HRL.out]
          exact ⟨rfl, HS99.out⟩
        | ok l st =>
          rintro e w7 ⟨v, i, full, rfl, hL, rfl, hP, hS⟩
          obtain ⟨o8, l8, c8, rfl⟩ := hL.shape
          have hp := HP.out
          have hlb := HKlt.out.2
          have hlbt := HKlt.out.lt
          have hrbl := HNE.out
          have c27 := hP.c2
          have f27 := hP.f2
          have hne1 : ¬ w3.heap.size = p := by omega
          have hne2 : ¬ p = w3.heap.size := by omega
          have hne3 : ¬ w.heap.size = w3.heap.size := by omega
          have hne4 : ¬ w3.heap.size = w.heap.size := by omega
          have hne5 : ¬ w.heap.size = p := by omega
          have hne6 : ¬ p = w.heap.size := by omega
          have kl7 : Kep w w7 w3.heap.size (kidO 0 [] 0 t.at_ (.slice none 0 0)) := HKlt.out.sole hp.1 hS
          have kr7 : Kep w w7 w.heap.size (kidO 0 [] 0 0 (.slice none 0 0)) := HKrt.out.sole hp.1 hS
          obtain ⟨⟨l0, l1, l2, l3, l4⟩, ⟨f0, f1, f2, f3, f4⟩⟩ := kid_cells kl7.1
          have hz : ∀ b, b ≠ w3.heap.size → ((w7.setCell ⟨w3.heap.size, 0, none⟩ (.int .i64 6)).setCell ⟨w3.heap.size, 4, none⟩ (.slice o8 l8 c8)).heap[b]? = w7.heap[b]? := fun b hb => (Below.heap_setCell _ _ _ _ hb).trans (Below.heap_setCell _ _ _ _ hb)
          have HS9 : Hid (Sole p w (((w7.setCell ⟨w3.heap.size, 0, none⟩ (.int .i64 6)).setCell ⟨w3.heap.size, 4, none⟩ (.slice o8 l8 c8)).setCell ⟨p, 2, none⟩ (.int .i64 d))) := Sole.setp (((HSt.out.trans hS).below_after ((Below.refl _ _).setCell hlb _)).below_after ((Below.refl _ _).setCell hlb _))
          have HP9 : Hid (PP (((w7.setCell ⟨w3.heap.size, 0, none⟩ (.int .i64 6)).setCell ⟨w3.heap.size, 4, none⟩ (.slice o8 l8 c8)).setCell ⟨p, 2, none⟩ (.int .i64 d)) p g cap ts i d full) := (hP.sole_but (by omega) (by omega) hz).depth d
          have HKr9 : Hid (Kep w (((w7.setCell ⟨w3.heap.size, 0, none⟩ (.int .i64 6)).setCell ⟨w3.heap.size, 4, none⟩ (.slice o8 l8 c8)).setCell ⟨p, 2, none⟩ (.int .i64 d)) w.heap.size (kidO 0 [] 0 0 (.slice none 0 0))) := (kr7.but hz (by omega)).setp hp.1
          have HKl9 : Hid (Kep w (((w7.setCell ⟨w3.heap.size, 0, none⟩ (.int .i64 6)).setCell ⟨w3.heap.size, 4, none⟩ (.slice o8 l8 c8)).setCell ⟨p, 2, none⟩ (.int .i64 d)) w3.heap.size (kidO 6 [] 0 t.at_ (.slice o8 l8 c8))) := Kep.setp ⟨setCell_blk (setCell_blk kl7.1), hlb⟩ hp.1
          have HL9 : Hid (ListAt (fun b => w3.heap.size < b) (((w7.setCell ⟨w3.heap.size, 0, none⟩ (.int .i64 6)).setCell ⟨w3.heap.size, 4, none⟩ (.slice o8 l8 c8)).setCell ⟨p, 2, none⟩ (.int .i64 d)) l (.slice o8 l8 c8)) := by
            have h1 : ListAt (fun b => w3.heap.size < b) w7 l (.slice o8 l8 c8) := ListAt.weaken hL (fun b h => by have h2 : wt.heap.size ≤ b := h; omega)
            exact ListAt.but (r := p) (ListAt.but h1 (fun b h => by omega) hz) (fun b h => by omega) (fun b hb => Below.heap_setCell _ _ _ _ hb)
          obtain ⟨⟨r0, r1, r2, r3, r4⟩, ⟨y0, y1, y2, y3, y4⟩⟩ := kid_cells kr7.1
          clear hP hS hL hp hlb hlbt hrbl kl7 kr7 hz
          go_wp2
          generalize ((w7.setCell ⟨w3.heap.size, 0, none⟩ (.int .i64 6)).setCell ⟨w3.heap.size, 4, none⟩ (.slice o8 l8 c8)).setCell ⟨p, 2, none⟩ (.int .i64 d) = w9 at HS9 HP9 HKr9 HKl9 HL9 ⊢
          obtain ⟨⟨z0, z1, z2, z3, z4⟩, _⟩ := kid_cells HKr9.out.1
          have q := res5 w9 w.heap.size (.int .i64 6) (.string ⟨#[]⟩) (.int .i64 0) (.int .i64 t.at_) (.slice o8 l8 c8) z0 z1 z2 z3 z4
          have hf := fin5 (r := w.heap.size) (w9 := w9) (k := 6) (n := []) (m := 0) (a := t.at_) (sl := (.slice o8 l8 c8)) HKr9.out.2 HS9.out _ rfl
          generalize ((((w9.setCell ⟨w.heap.size, 0, none⟩ (.int .i64 6)).setCell ⟨w.heap.size, 1, none⟩ (.string ⟨#[]⟩)).setCell ⟨w.heap.size, 2, none⟩ (.int .i64 0)).setCell ⟨w.heap.size, 3, none⟩ (.int .i64 t.at_)).setCell ⟨w.heap.size, 4, none⟩ (.slice o8 l8 c8) = wz at q hf ⊢
          obtain ⟨q0, q1, q2, q3, q4⟩ := q
          refine bodyPost_ret (v := .agg #[.int .i64 6, .string ⟨#[]⟩, .int .i64 0, .int .i64 t.at_, (.slice o8 l8 c8)]) (by simp [results, Tryz.results71, go_sem, q0, q1, q2, q3, q4]) rfl ?_
          rw [HRL.out]
          have hr2 := HKr9.out.2
          have hpg := HP.out
          exact ⟨_, _, _, rfl, node_fin HL9.out (fun b h => by have := HNE.out; omega) (fun b h => by have := HNE.out; omega) hf.2, rfl, HP9.out.sole_but (by omega) (by omega) hf.2, hf.1⟩
      · have hx1 : (t.text == [101, 110, 117, 109]) = false := by simpa [wEnum] using he1
        have hx2 : (t.text == [115, 116, 114, 117, 99, 116]) = false := by simpa [wStruct] using he2
        have HR2 : Hid (R = (choiceP (bodyP n false) (PSof ts i full)).bind fun l s => .ok (.node 7 [] 0 t.at_ l) s) := by show _ = _; rw [HR1.out, if_neg he1, if_neg he2]
        clear he1 he2
        go_wp2_with fail
        clear hw3
        obtain ⟨wt, hwt⟩ : ∃ x, w3.alloc (.cells #[.int .i64 0, .string ⟨#[]⟩, .int .i64 0, .int .i64 t.at_, .slice none 0 0] 29) = x := ⟨_, rfl⟩
        rw [hwt]
        obtain ⟨hh1, hh2, hh3, hh4, hh5⟩ := HTP.out wt hwt
        have HPt : Hid (PP wt p g cap ts i (d + 1) full) := hh1
        have HSt : Hid (Sole p w wt) := hh2
        have HKrt : Hid (Kep w wt w.heap.size (kidO 0 [] 0 0 (.slice none 0 0))) := hh3
        have HKlt : Hid (Kep w wt w3.heap.size (kidO 0 [] 0 t.at_ (.slice none 0 0))) := hh5
        clear hh1 hh2 hh3 hh4 hh5 hwt
        have HML : Hid (Calls Tryz.prog 116 #[.pointer (some ⟨p, 0, none⟩)] wt (PPost p g cap ts (d + 1) (listIs wt.heap.size) (choiceP (bodyP n false) (PSof ts i full)) wt)) := HK116.out i full wt HPt.out (HBA.out.sole HSt.out)
        obtain ⟨rl, hrl⟩ : ∃ r, choiceP (bodyP n false) (PSof ts i full) = r := ⟨_, rfl⟩
        have HRL : Hid (R = rl.bind fun l s => .ok (.node 7 [] 0 t.at_ l) s) := by
          show _ = _
          rw [HR2.out, ← hrl]
        rw [hrl] at HML
        clear hrl
        refine HML.out.mono ?_
        cases rl with
        | no why at_ =>
          rintro e w99 ⟨rfl, hS⟩
          have HS99 : Hid (Sole p w w99) := HSt.out.trans hS
          clear hS
          go_wp2
          refine ⟨rfl, ?_⟩
          rw [HRL.out]
          exact ⟨rfl, HS99.out⟩
        | ok l st =>
          rintro e w7 ⟨v, i, full, rfl, hL, rfl, hP, hS⟩
          obtain ⟨o8, l8, c8, rfl⟩ := hL.shape
          have hp := HP.out
          have hlb := HKlt.out.2
          have hlbt := HKlt.out.lt
          have hrbl := HNE.out
          have c27 := hP.c2
          have f27 := hP.f2
          have hne1 : ¬ w3.heap.size = p := by omega
          have hne2 : ¬ p = w3.heap.size := by omega
          have hne3 : ¬ w.heap.size = w3.heap.size := by omega
          have hne4 : ¬ w3.heap.size = w.heap.size := by omega
          have hne5 : ¬ w.heap.size = p := by omega
          have hne6 : ¬ p = w.heap.size := by omega
          have kl7 : Kep w w7 w3.heap.size (kidO 0 [] 0 t.at_ (.slice none 0 0)) := HKlt.out.sole hp.1 hS
          have kr7 : Kep w w7 w.heap.size (kidO 0 [] 0 0 (.slice none 0 0)) := HKrt.out.sole hp.1 hS
          obtain ⟨⟨l0, l1, l2, l3, l4⟩, ⟨f0, f1, f2, f3, f4⟩⟩ := kid_cells kl7.1
          have hz : ∀ b, b ≠ w3.heap.size → ((w7.setCell ⟨w3.heap.size, 0, none⟩ (.int .i64 7)).setCell ⟨w3.heap.size, 4, none⟩ (.slice o8 l8 c8)).heap[b]? = w7.heap[b]? := fun b hb => (Below.heap_setCell _ _ _ _ hb).trans (Below.heap_setCell _ _ _ _ hb)
          have HS9 : Hid (Sole p w (((w7.setCell ⟨w3.heap.size, 0, none⟩ (.int .i64 7)).setCell ⟨w3.heap.size, 4, none⟩ (.slice o8 l8 c8)).setCell ⟨p, 2, none⟩ (.int .i64 d))) := Sole.setp (((HSt.out.trans hS).below_after ((Below.refl _ _).setCell hlb _)).below_after ((Below.refl _ _).setCell hlb _))
          have HP9 : Hid (PP (((w7.setCell ⟨w3.heap.size, 0, none⟩ (.int .i64 7)).setCell ⟨w3.heap.size, 4, none⟩ (.slice o8 l8 c8)).setCell ⟨p, 2, none⟩ (.int .i64 d)) p g cap ts i d full) := (hP.sole_but (by omega) (by omega) hz).depth d
          have HKr9 : Hid (Kep w (((w7.setCell ⟨w3.heap.size, 0, none⟩ (.int .i64 7)).setCell ⟨w3.heap.size, 4, none⟩ (.slice o8 l8 c8)).setCell ⟨p, 2, none⟩ (.int .i64 d)) w.heap.size (kidO 0 [] 0 0 (.slice none 0 0))) := (kr7.but hz (by omega)).setp hp.1
          have HKl9 : Hid (Kep w (((w7.setCell ⟨w3.heap.size, 0, none⟩ (.int .i64 7)).setCell ⟨w3.heap.size, 4, none⟩ (.slice o8 l8 c8)).setCell ⟨p, 2, none⟩ (.int .i64 d)) w3.heap.size (kidO 7 [] 0 t.at_ (.slice o8 l8 c8))) := Kep.setp ⟨setCell_blk (setCell_blk kl7.1), hlb⟩ hp.1
          have HL9 : Hid (ListAt (fun b => w3.heap.size < b) (((w7.setCell ⟨w3.heap.size, 0, none⟩ (.int .i64 7)).setCell ⟨w3.heap.size, 4, none⟩ (.slice o8 l8 c8)).setCell ⟨p, 2, none⟩ (.int .i64 d)) l (.slice o8 l8 c8)) := by
            have h1 : ListAt (fun b => w3.heap.size < b) w7 l (.slice o8 l8 c8) := ListAt.weaken hL (fun b h => by have h2 : wt.heap.size ≤ b := h; omega)
            exact ListAt.but (r := p) (ListAt.but h1 (fun b h => by omega) hz) (fun b h => by omega) (fun b hb => Below.heap_setCell _ _ _ _ hb)
          obtain ⟨⟨r0, r1, r2, r3, r4⟩, ⟨y0, y1, y2, y3, y4⟩⟩ := kid_cells kr7.1
          clear hP hS hL hp hlb hlbt hrbl kl7 kr7 hz
          go_wp2
          generalize ((w7.setCell ⟨w3.heap.size, 0, none⟩ (.int .i64 7)).setCell ⟨w3.heap.size, 4, none⟩ (.slice o8 l8 c8)).setCell ⟨p, 2, none⟩ (.int .i64 d) = w9 at HS9 HP9 HKr9 HKl9 HL9 ⊢
          obtain ⟨⟨z0, z1, z2, z3, z4⟩, _⟩ := kid_cells HKr9.out.1
          have q := res5 w9 w.heap.size (.int .i64 7) (.string ⟨#[]⟩) (.int .i64 0) (.int .i64 t.at_) (.slice o8 l8 c8) z0 z1 z2 z3 z4
          have hf := fin5 (r := w.heap.size) (w9 := w9) (k := 7) (n := []) (m := 0) (a := t.at_) (sl := (.slice o8 l8 c8)) HKr9.out.2 HS9.out _ rfl
          generalize ((((w9.setCell ⟨w.heap.size, 0, none⟩ (.int .i64 7)).setCell ⟨w.heap.size, 1, none⟩ (.string ⟨#[]⟩)).setCell ⟨w.heap.size, 2, none⟩ (.int .i64 0)).setCell ⟨w.heap.size, 3, none⟩ (.int .i64 t.at_)).setCell ⟨w.heap.size, 4, none⟩ (.slice o8 l8 c8) = wz at q hf ⊢
          obtain ⟨q0, q1, q2, q3, q4⟩ := q
          refine bodyPost_ret (v := .agg #[.int .i64 7, .string ⟨#[]⟩, .int .i64 0, .int .i64 t.at_, (.slice o8 l8 c8)]) (by simp [results, Tryz.results71, go_sem, q0, q1, q2, q3, q4]) rfl ?_
          rw [HRL.out]
          have hr2 := HKr9.out.2
          have hpg := HP.out
          exact ⟨_, _, _, rfl, node_fin HL9.out (fun b h => by have := HNE.out; omega) (fun b h => by have := HNE.out; omega) hf.2, rfl, HP9.out.sole_but (by omega) (by omega) hf.2, hf.1⟩
set_option maxHeartbeats 4000000 in
set_option maxRecDepth 4000 in
theorem body_true (p g cap : Nat) (ts : List Tok) (hE : Ends ts) (d : Int) (hd0 : 0 ≤ d) (hd7 : d ≤ 7) (n : Nat) (hM : KeepsL p g cap ts (d + 1) 114 membersP) (hFs : KeepsL p g cap ts (d + 1) 115 (fieldsP (bodyP n false))) (hC : KeepsL p g cap ts (d + 1) 116 (choiceP (bodyP n false))) (i : Nat) (full : Bool) (w : World) (hi : i + 1 < ts.length) (h : PP w p g cap ts i d full) (hba : BareAt p w) :
    Calls Tryz.prog 71 #[.pointer (some ⟨p, 0, none⟩), .bool true] w (PPost p g cap ts d (treeIs w.heap.size) (bodyP (n + 1) true (PSof ts i full)) w) := by
  have HP : Hid (p < w.heap.size ∧ g < w.heap.size) := ⟨h.plt, h.glt⟩
  have HE : Hid (Ends ts) := hE
  have HBA : Hid (BareAt p w) := hba
  have HK114 : Hid (KeepsL p g cap ts (d + 1) 114 membersP) := hM
  have HK115 : Hid (KeepsL p g cap ts (d + 1) 115 (fieldsP (bodyP n false))) := hFs
  have HK116 : Hid (KeepsL p g cap ts (d + 1) 116 (choiceP (bodyP n false))) := hC
  obtain ⟨R, hR⟩ : ∃ R, bodyP (n + 1) true (PSof ts i full) = R := ⟨_, rfl⟩
  rw [hR]
  obtain ⟨wa, hwa⟩ : ∃ x, w.alloc (.cells #[.int .i64 0, .string ⟨#[]⟩, .int .i64 0, .int .i64 0, .slice none 0 0] 29) = x := ⟨_, rfl⟩
  have b1 : Below w.heap.size w wa := by rw [← hwa]; exact below_alloc _ _
  have ka : Kep w wa w.heap.size (kidO 0 [] 0 0 (.slice none 0 0)) := by rw [← hwa]; exact Kep.new (Nat.le_refl _) _
  have hpa := h.below b1
  have c2 := hpa.c2
  have g2 := hpa.f2
  have hd8 : (d == 8) = false := by simp; omega
  obtain ⟨wd, hwd⟩ : ∃ x, wa.setCell ⟨p, 2, none⟩ (.int .i64 (d + 1)) = x := ⟨_, rfl⟩
  have HPd : Hid (PP wd p g cap ts i (d + 1) full) := by show PP wd _ _ _ _ _ _ _; rw [← hwd]; exact hpa.depth _
  have HSd : Hid (Sole p w wd) := by show Sole p w wd; rw [← hwd]; exact (Sole.of_below b1).setp
  have HKd : Hid (Kep w wd w.heap.size (kidO 0 [] 0 0 (.slice none 0 0))) := by show Kep w wd _ _; rw [← hwd]; exact ka.setp h.plt
  have HTK : Hid (Calls Tryz.prog 69 #[.pointer (some ⟨p, 0, none⟩)] wd (PPost p g cap ts (d + 1) tokIs (PSof ts i full).take wd)) := take_any p g cap ts i (d + 1) full wd HPd.out hi
  obtain ⟨rt, hrt⟩ : ∃ r, (PSof ts i full).take = r := ⟨_, rfl⟩
  have HR0 : Hid (R = rt.bind fun word s => (if true = true then (nameP s).bind fun n s => .ok (n.text, n.at_) s else .ok ([], word.at_) s).bind fun na s => if word.text = wEnum then (membersP s).bind fun l s => .ok (.node 4 na.1 0 na.2 l) s else if word.text = wStruct then (fieldsP (bodyP n false) s).bind fun l s => .ok (.node 6 na.1 0 na.2 l) s else (choiceP (bodyP n false) s).bind fun l s => .ok (.node 7 na.1 0 na.2 l) s) := by
    show _ = _
    rw [← hR, ← hrt]; rfl
  rw [hrt] at HTK
  clear h hba hE hM hFs hC hR b1 ka hpa hi hrt
  go_enter Tryz.func71, Tryz.ntmps71
  go_wp2_with fail
  clear hwa hwd c2 g2 hd8
  refine HTK.out.mono ?_
  cases rt with
  | no why at_ =>
    rintro e w99 ⟨rfl, hS⟩
    have HS99 : Hid (Sole p w w99) := HSd.out.trans hS
    clear hS
    go_wp2
    refine ⟨rfl, ?_⟩
    rw [HR0.out]
    exact ⟨rfl, HS99.out⟩
  | ok t st =>
    rintro e w2 ⟨v, i, full, rfl, rfl, rfl, hP, hS⟩
    obtain ⟨w3, hw3⟩ : ∃ x, w2.alloc (.cells #[.int .i64 t.kind, .string ⟨t.text.toArray⟩, .int .i64 t.num, .int .i64 t.at_] 41) = x := ⟨_, rfl⟩
    have hs2 : Sole p w w2 := HSd.out.trans hS
    have hp := HP.out
    have HP3 : Hid (PP w3 p g cap ts i (d + 1) full) := by show PP w3 _ _ _ _ _ _ _; rw [← hw3]; exact hP.alloc _
    have HS3 : Hid (Sole p w w3) := by show Sole p w w3; rw [← hw3]; exact hs2.alloc _
    have HKr3 : Hid (Kep w w3 w.heap.size (kidO 0 [] 0 0 (.slice none 0 0))) := by show Kep w w3 _ _; rw [← hw3]; exact (HKd.out.sole hp.1 hS).alloc _
    have HKt3 : Hid (Kep w w3 w2.heap.size (tokO t)) := by show Kep w w3 _ _; rw [← hw3]; exact Kep.new hs2.size _
    obtain ⟨t0, t1, t2, t3⟩ := tok_cells HKt3.out.1
    have HLE : Hid (w.heap.size < w2.heap.size ∧ w2.heap.size < w3.heap.size) := ⟨(HKd.out.sole hp.1 hS).lt, by rw [← hw3]; simp⟩
    have qb := bld3 t.at_
    clear hP hS hp hs2
    unfold tokV
    have HR1' : Hid (R = (nameP (PSof ts i full)).bind fun nm s => if t.text = wEnum then (membersP s).bind fun l s => .ok (.node 4 nm.text 0 nm.at_ l) s else if t.text = wStruct then (fieldsP (bodyP n false) s).bind fun l s => .ok (.node 6 nm.text 0 nm.at_ l) s else (choiceP (bodyP n false) s).bind fun l s => .ok (.node 7 nm.text 0 nm.at_ l) s) := by
      show _ = _
      rw [HR0.out]
      show ((nameP (PSof ts i full)).bind _).bind _ = _
      rw [ans_assoc]
      rfl
    have HTP : Hid (∀ wt, w3.alloc (.cells #[.int .i64 0, .string ⟨#[]⟩, .int .i64 0, .int .i64 t.at_, .slice none 0 0] 29) = wt → PP wt p g cap ts i (d + 1) full ∧ Sole p w wt ∧ Kep w wt w.heap.size (kidO 0 [] 0 0 (.slice none 0 0)) ∧ Kep w wt w2.heap.size (tokO t) ∧ Kep w wt w3.heap.size (kidO 0 [] 0 t.at_ (.slice none 0 0))) := fun wt e => by
      subst e
      exact ⟨HP3.out.alloc _, HS3.out.alloc _, HKr3.out.alloc _, HKt3.out.alloc _, Kep.new HS3.out.size _⟩
    have HNE : Hid (w.heap.size < w3.heap.size) := by show _ < _; have := HLE.out; omega
    obtain ⟨rn, hrn⟩ : ∃ r, nameP (PSof ts i full) = r := ⟨_, rfl⟩
    rw [hrn] at HR1'
    have HNM : Hid (∀ wt, PP wt p g cap ts i (d + 1) full → Calls Tryz.prog 108 #[.pointer (some ⟨p, 0, none⟩)] wt (PPost p g cap ts (d + 1) tokIs rn wt)) := fun wt hx => by
      rw [← hrn]
      exact name_any p g cap ts HE.out i (d + 1) full wt hx
    clear hrn
    go_wp2_with fail
    clear hw3
    obtain ⟨wt, hwt⟩ : ∃ x, w3.alloc (.cells #[.int .i64 0, .string ⟨#[]⟩, .int .i64 0, .int .i64 t.at_, .slice none 0 0] 29) = x := ⟨_, rfl⟩
    rw [hwt]
    obtain ⟨hh1, hh2, hh3, hh4, hh5⟩ := HTP.out wt hwt
    have HSn : Hid (Sole p w wt) := hh2
    have HKrn : Hid (Kep w wt w.heap.size (kidO 0 [] 0 0 (.slice none 0 0))) := hh3
    have HKtn : Hid (Kep w wt w2.heap.size (tokO t)) := hh4
    have HKln : Hid (Kep w wt w3.heap.size (kidO 0 [] 0 t.at_ (.slice none 0 0))) := hh5
    refine (HNM.out wt hh1).mono ?_
    clear hh1 hh2 hh3 hh4 hh5 hwt HTP qb t0 t1 t2 t3
    cases rn with
    | no why at_ =>
      rintro e w99 ⟨rfl, hS⟩
      have HS99 : Hid (Sole p w w99) := HSn.out.trans hS
      clear hS
      go_wp2
      refine ⟨rfl, ?_⟩
      rw [HR1'.out]
      exact ⟨rfl, HS99.out⟩
    | ok nm st =>
      rintro e w4 ⟨v, i, full, rfl, rfl, rfl, hP, hS⟩
      obtain ⟨w5, hw5⟩ : ∃ x, w4.alloc (.cells #[.int .i64 nm.kind, .string ⟨nm.text.toArray⟩, .int .i64 nm.num, .int .i64 nm.at_] 41) = x := ⟨_, rfl⟩
      have hp := HP.out
      have hs4 : Sole p w w4 := HSn.out.trans hS
      have HP5 : Hid (PP w5 p g cap ts i (d + 1) full) := by show PP w5 _ _ _ _ _ _ _; rw [← hw5]; exact hP.alloc _
      have HS5 : Hid (Sole p w w5) := by show Sole p w w5; rw [← hw5]; exact hs4.alloc _
      have HKr5 : Hid (Kep w w5 w.heap.size (kidO 0 [] 0 0 (.slice none 0 0))) := by show Kep w w5 _ _; rw [← hw5]; exact (HKrn.out.sole hp.1 hS).alloc _
      have HKt5 : Hid (Kep w w5 w2.heap.size (tokO t)) := by show Kep w w5 _ _; rw [← hw5]; exact (HKtn.out.sole hp.1 hS).alloc _
      have HKl5 : Hid (Kep w w5 w3.heap.size (kidO 0 [] 0 t.at_ (.slice none 0 0))) := by show Kep w w5 _ _; rw [← hw5]; exact (HKln.out.sole hp.1 hS).alloc _
      have HKn5 : Hid (Kep w w5 w4.heap.size (tokO nm)) := by show Kep w w5 _ _; rw [← hw5]; exact Kep.new hs4.size _
      have HR1 : Hid (R = if t.text = wEnum then (membersP (PSof ts i full)).bind fun l s => .ok (.node 4 nm.text 0 nm.at_ l) s else if t.text = wStruct then (fieldsP (bodyP n false) (PSof ts i full)).bind fun l s => .ok (.node 6 nm.text 0 nm.at_ l) s else (choiceP (bodyP n false) (PSof ts i full)).bind fun l s => .ok (.node 7 nm.text 0 nm.at_ l) s) := HR1'.out
      obtain ⟨t0, t1, t2, t3⟩ := tok_cells HKn5.out.1
      obtain ⟨⟨l0, l1, l2, l3, l4⟩, ⟨f0, f1, f2, f3, f4⟩⟩ := kid_cells HKl5.out.1
      clear hP hS hp hs4
      unfold tokV
      go_wp2_with fail
      clear hw5
      go_region
      have hp := HP.out
      have hle := HLE.out
      have hlb := HKl5.out.2
      have hz : ∀ b, b ≠ w3.heap.size → ((w5.setCell ⟨w3.heap.size, 1, none⟩ (.string ⟨nm.text.toArray⟩)).setCell ⟨w3.heap.size, 3, none⟩ (.int .i64 nm.at_)).drew.heap[b]? = w5.heap[b]? := fun b hb => (Below.heap_setCell _ _ _ _ hb).trans (Below.heap_setCell _ _ _ _ hb)
      have HPt : Hid (PP ((w5.setCell ⟨w3.heap.size, 1, none⟩ (.string ⟨nm.text.toArray⟩)).setCell ⟨w3.heap.size, 3, none⟩ (.int .i64 nm.at_)).drew p g cap ts i (d + 1) full) := HP5.out.sole_but (by omega) (by omega) hz
      have HSt : Hid (Sole p w ((w5.setCell ⟨w3.heap.size, 1, none⟩ (.string ⟨nm.text.toArray⟩)).setCell ⟨w3.heap.size, 3, none⟩ (.int .i64 nm.at_)).drew) := (HS5.out.below_after ((Below.refl _ _).setCell hlb _)).below_after (((Below.refl _ _).setCell hlb _).drew)
      have HKrt : Hid (Kep w ((w5.setCell ⟨w3.heap.size, 1, none⟩ (.string ⟨nm.text.toArray⟩)).setCell ⟨w3.heap.size, 3, none⟩ (.int .i64 nm.at_)).drew w.heap.size (kidO 0 [] 0 0 (.slice none 0 0))) := HKr5.out.but hz (by omega)
      have ktt : Kep w ((w5.setCell ⟨w3.heap.size, 1, none⟩ (.string ⟨nm.text.toArray⟩)).setCell ⟨w3.heap.size, 3, none⟩ (.int .i64 nm.at_)).drew w2.heap.size (tokO t) := HKt5.out.but hz (by omega)
      have HKlt : Hid (Kep w ((w5.setCell ⟨w3.heap.size, 1, none⟩ (.string ⟨nm.text.toArray⟩)).setCell ⟨w3.heap.size, 3, none⟩ (.int .i64 nm.at_)).drew w3.heap.size (kidO 0 nm.text 0 nm.at_ (.slice none 0 0))) := ⟨setCell_blk (setCell_blk HKl5.out.1), hlb⟩
      have tt1 := (tok_cells ktt.1).2.1
      clear hp hle hlb hz ktt
      generalize ((w5.setCell ⟨w3.heap.size, 1, none⟩ (.string ⟨nm.text.toArray⟩)).setCell ⟨w3.heap.size, 3, none⟩ (.int .i64 nm.at_)).drew = wt2 at HPt HSt HKrt HKlt tt1 ⊢
      by_cases he1 : t.text = wEnum
      · have hx1 : (t.text == [101, 110, 117, 109]) = true := by rw [he1]; rfl
        have HR2 : Hid (R = (membersP (PSof ts i full)).bind fun l s => .ok (.node 4 nm.text 0 nm.at_ l) s) := by show _ = _; rw [HR1.out, if_pos he1]
        clear he1
        have HML : Hid (Calls Tryz.prog 114 #[.pointer (some ⟨p, 0, none⟩)] wt2 (PPost p g cap ts (d + 1) (listIs wt2.heap.size) (membersP (PSof ts i full)) wt2)) := HK114.out i full wt2 HPt.out (HBA.out.sole HSt.out)
        obtain ⟨rl, hrl⟩ : ∃ r, membersP (PSof ts i full) = r := ⟨_, rfl⟩
        have HRL : Hid (R = rl.bind fun l s => .ok (.node 4 nm.text 0 nm.at_ l) s) := by
          show _ = _
          rw [HR2.out, ← hrl]
        rw [hrl] at HML
        clear hrl
        go_wp2_with fail
        refine HML.out.mono ?_
        cases rl with
        | no why at_ =>
          rintro e w99 ⟨rfl, hS⟩
          have HS99 : Hid (Sole p w w99) := HSt.out.trans hS
          clear hS
          go_wp2
          refine ⟨rfl, ?_⟩
          rw [HRL.out]
          exact ⟨rfl, HS99.out⟩
        | ok l st =>
          rintro e w7 ⟨v, i, full, rfl, hL, rfl, hP, hS⟩
          obtain ⟨o8, l8, c8, rfl⟩ := hL.shape
          have hp := HP.out
          have hlb := HKlt.out.2
          have hlbt := HKlt.out.lt
          have hrbl := HNE.out
          have c27 := hP.c2
          have f27 := hP.f2
          have hne1 : ¬ w3.heap.size = p := by omega
          have hne2 : ¬ p = w3.heap.size := by omega
          have hne3 : ¬ w.heap.size = w3.heap.size := by omega
          have hne4 : ¬ w3.heap.size = w.heap.size := by omega
          have hne5 : ¬ w.heap.size = p := by omega
          have hne6 : ¬ p = w.heap.size := by omega
          have kl7 : Kep w w7 w3.heap.size (kidO 0 nm.text 0 nm.at_ (.slice none 0 0)) := HKlt.out.sole hp.1 hS
          have kr7 : Kep w w7 w.heap.size (kidO 0 [] 0 0 (.slice none 0 0)) := HKrt.out.sole hp.1 hS
          obtain ⟨⟨l0, l1, l2, l3, l4⟩, ⟨f0, f1, f2, f3, f4⟩⟩ := kid_cells kl7.1
          have hz : ∀ b, b ≠ w3.heap.size → ((w7.setCell ⟨w3.heap.size, 0, none⟩ (.int .i64 4)).setCell ⟨w3.heap.size, 4, none⟩ (.slice o8 l8 c8)).heap[b]? = w7.heap[b]? := fun b hb => (Below.heap_setCell _ _ _ _ hb).trans (Below.heap_setCell _ _ _ _ hb)
          have HS9 : Hid (Sole p w (((w7.setCell ⟨w3.heap.size, 0, none⟩ (.int .i64 4)).setCell ⟨w3.heap.size, 4, none⟩ (.slice o8 l8 c8)).setCell ⟨p, 2, none⟩ (.int .i64 d))) := Sole.setp (((HSt.out.trans hS).below_after ((Below.refl _ _).setCell hlb _)).below_after ((Below.refl _ _).setCell hlb _))
          have HP9 : Hid (PP (((w7.setCell ⟨w3.heap.size, 0, none⟩ (.int .i64 4)).setCell ⟨w3.heap.size, 4, none⟩ (.slice o8 l8 c8)).setCell ⟨p, 2, none⟩ (.int .i64 d)) p g cap ts i d full) := (hP.sole_but (by omega) (by omega) hz).depth d
          have HKr9 : Hid (Kep w (((w7.setCell ⟨w3.heap.size, 0, none⟩ (.int .i64 4)).setCell ⟨w3.heap.size, 4, none⟩ (.slice o8 l8 c8)).setCell ⟨p, 2, none⟩ (.int .i64 d)) w.heap.size (kidO 0 [] 0 0 (.slice none 0 0))) := (kr7.but hz (by omega)).setp hp.1
          have HKl9 : Hid (Kep w (((w7.setCell ⟨w3.heap.size, 0, none⟩ (.int .i64 4)).setCell ⟨w3.heap.size, 4, none⟩ (.slice o8 l8 c8)).setCell ⟨p, 2, none⟩ (.int .i64 d)) w3.heap.size (kidO 4 nm.text 0 nm.at_ (.slice o8 l8 c8))) := Kep.setp ⟨setCell_blk (setCell_blk kl7.1), hlb⟩ hp.1
          have HL9 : Hid (ListAt (fun b => w3.heap.size < b) (((w7.setCell ⟨w3.heap.size, 0, none⟩ (.int .i64 4)).setCell ⟨w3.heap.size, 4, none⟩ (.slice o8 l8 c8)).setCell ⟨p, 2, none⟩ (.int .i64 d)) l (.slice o8 l8 c8)) := by
            have h1 : ListAt (fun b => w3.heap.size < b) w7 l (.slice o8 l8 c8) := ListAt.weaken hL (fun b h => by have h2 : wt2.heap.size ≤ b := h; omega)
            exact ListAt.but (r := p) (ListAt.but h1 (fun b h => by omega) hz) (fun b h => by omega) (fun b hb => Below.heap_setCell _ _ _ _ hb)
          obtain ⟨⟨r0, r1, r2, r3, r4⟩, ⟨y0, y1, y2, y3, y4⟩⟩ := kid_cells kr7.1
          clear hP hS hL hp hlb hlbt hrbl kl7 kr7 hz
          go_wp2
          generalize ((w7.setCell ⟨w3.heap.size, 0, none⟩ (.int .i64 4)).setCell ⟨w3.heap.size, 4, none⟩ (.slice o8 l8 c8)).setCell ⟨p, 2, none⟩ (.int .i64 d) = w9 at HS9 HP9 HKr9 HKl9 HL9 ⊢
          obtain ⟨⟨z0, z1, z2, z3, z4⟩, _⟩ := kid_cells HKr9.out.1
          have q := res5 w9 w.heap.size (.int .i64 4) (.string ⟨nm.text.toArray⟩) (.int .i64 0) (.int .i64 nm.at_) (.slice o8 l8 c8) z0 z1 z2 z3 z4
          have hf := fin5 (r := w.heap.size) (w9 := w9) (k := 4) (n := nm.text) (m := 0) (a := nm.at_) (sl := (.slice o8 l8 c8)) HKr9.out.2 HS9.out _ rfl
          generalize ((((w9.setCell ⟨w.heap.size, 0, none⟩ (.int .i64 4)).setCell ⟨w.heap.size, 1, none⟩ (.string ⟨nm.text.toArray⟩)).setCell ⟨w.heap.size, 2, none⟩ (.int .i64 0)).setCell ⟨w.heap.size, 3, none⟩ (.int .i64 nm.at_)).setCell ⟨w.heap.size, 4, none⟩ (.slice o8 l8 c8) = wz at q hf ⊢
          obtain ⟨q0, q1, q2, q3, q4⟩ := q
          refine bodyPost_ret (v := .agg #[.int .i64 4, .string ⟨nm.text.toArray⟩, .int .i64 0, .int .i64 nm.at_, (.slice o8 l8 c8)]) (by simp [results, Tryz.results71, go_sem, q0, q1, q2, q3, q4]) rfl ?_
          rw [HRL.out]
          have hr2 := HKr9.out.2
          have hpg := HP.out
          exact ⟨_, _, _, rfl, node_fin HL9.out (fun b h => by have := HNE.out; omega) (fun b h => by have := HNE.out; omega) hf.2, rfl, HP9.out.sole_but (by omega) (by omega) hf.2, hf.1⟩
      · by_cases he2 : t.text = wStruct
        · have hx1 : (t.text == [101, 110, 117, 109]) = false := by simpa [wEnum] using he1
          have hx2 : (t.text == [115, 116, 114, 117, 99, 116]) = true := by rw [he2]; rfl
          have HR2 : Hid (R = (fieldsP (bodyP n false) (PSof ts i full)).bind fun l s => .ok (.node 6 nm.text 0 nm.at_ l) s) := by show _ = _; rw [HR1.out, if_neg he1, if_pos he2]
          clear he1 he2
          have HML : Hid (Calls Tryz.prog 115 #[.pointer (some ⟨p, 0, none⟩)] wt2 (PPost p g cap ts (d + 1) (listIs wt2.heap.size) (fieldsP (bodyP n false) (PSof ts i full)) wt2)) := HK115.out i full wt2 HPt.out (HBA.out.sole HSt.out)
          obtain ⟨rl, hrl⟩ : ∃ r, fieldsP (bodyP n false) (PSof ts i full) = r := ⟨_, rfl⟩
          have HRL : Hid (R = rl.bind fun l s => .ok (.node 6 nm.text 0 nm.at_ l) s) := by
            show _ = _
            rw [HR2.out, ← hrl]
          rw [hrl] at HML
          clear hrl
          go_wp2_with fail
          refine HML.out.mono ?_
          cases rl with
          | no why at_ =>
            rintro e w99 ⟨rfl, hS⟩
            have HS99 : Hid (Sole p w w99) := HSt.out.trans hS
            clear hS
            go_wp2
            refine ⟨rfl, ?_⟩
            rw [HRL.out]
            exact ⟨rfl, HS99.out⟩
          | ok l st =>
            rintro e w7 ⟨v, i, full, rfl, hL, rfl, hP, hS⟩
            obtain ⟨o8, l8, c8, rfl⟩ := hL.shape
            have hp := HP.out
            have hlb := HKlt.out.2
            have hlbt := HKlt.out.lt
            have hrbl := HNE.out
            have c27 := hP.c2
            have f27 := hP.f2
            have hne1 : ¬ w3.heap.size = p := by omega
            have hne2 : ¬ p = w3.heap.size := by omega
            have hne3 : ¬ w.heap.size = w3.heap.size := by omega
            have hne4 : ¬ w3.heap.size = w.heap.size := by omega
            have hne5 : ¬ w.heap.size = p := by omega
            have hne6 : ¬ p = w.heap.size := by omega
            have kl7 : Kep w w7 w3.heap.size (kidO 0 nm.text 0 nm.at_ (.slice none 0 0)) := HKlt.out.sole hp.1 hS
            have kr7 : Kep w w7 w.heap.size (kidO 0 [] 0 0 (.slice none 0 0)) := HKrt.out.sole hp.1 hS
            obtain ⟨⟨l0, l1, l2, l3, l4⟩, ⟨f0, f1, f2, f3, f4⟩⟩ := kid_cells kl7.1
            have hz : ∀ b, b ≠ w3.heap.size → ((w7.setCell ⟨w3.heap.size, 0, none⟩ (.int .i64 6)).setCell ⟨w3.heap.size, 4, none⟩ (.slice o8 l8 c8)).heap[b]? = w7.heap[b]? := fun b hb => (Below.heap_setCell _ _ _ _ hb).trans (Below.heap_setCell _ _ _ _ hb)
            have HS9 : Hid (Sole p w (((w7.setCell ⟨w3.heap.size, 0, none⟩ (.int .i64 6)).setCell ⟨w3.heap.size, 4, none⟩ (.slice o8 l8 c8)).setCell ⟨p, 2, none⟩ (.int .i64 d))) := Sole.setp (((HSt.out.trans hS).below_after ((Below.refl _ _).setCell hlb _)).below_after ((Below.refl _ _).setCell hlb _))
            have HP9 : Hid (PP (((w7.setCell ⟨w3.heap.size, 0, none⟩ (.int .i64 6)).setCell ⟨w3.heap.size, 4, none⟩ (.slice o8 l8 c8)).setCell ⟨p, 2, none⟩ (.int .i64 d)) p g cap ts i d full) := (hP.sole_but (by omega) (by omega) hz).depth d
            have HKr9 : Hid (Kep w (((w7.setCell ⟨w3.heap.size, 0, none⟩ (.int .i64 6)).setCell ⟨w3.heap.size, 4, none⟩ (.slice o8 l8 c8)).setCell ⟨p, 2, none⟩ (.int .i64 d)) w.heap.size (kidO 0 [] 0 0 (.slice none 0 0))) := (kr7.but hz (by omega)).setp hp.1
            have HKl9 : Hid (Kep w (((w7.setCell ⟨w3.heap.size, 0, none⟩ (.int .i64 6)).setCell ⟨w3.heap.size, 4, none⟩ (.slice o8 l8 c8)).setCell ⟨p, 2, none⟩ (.int .i64 d)) w3.heap.size (kidO 6 nm.text 0 nm.at_ (.slice o8 l8 c8))) := Kep.setp ⟨setCell_blk (setCell_blk kl7.1), hlb⟩ hp.1
            have HL9 : Hid (ListAt (fun b => w3.heap.size < b) (((w7.setCell ⟨w3.heap.size, 0, none⟩ (.int .i64 6)).setCell ⟨w3.heap.size, 4, none⟩ (.slice o8 l8 c8)).setCell ⟨p, 2, none⟩ (.int .i64 d)) l (.slice o8 l8 c8)) := by
              have h1 : ListAt (fun b => w3.heap.size < b) w7 l (.slice o8 l8 c8) := ListAt.weaken hL (fun b h => by have h2 : wt2.heap.size ≤ b := h; omega)
              exact ListAt.but (r := p) (ListAt.but h1 (fun b h => by omega) hz) (fun b h => by omega) (fun b hb => Below.heap_setCell _ _ _ _ hb)
            obtain ⟨⟨r0, r1, r2, r3, r4⟩, ⟨y0, y1, y2, y3, y4⟩⟩ := kid_cells kr7.1
            clear hP hS hL hp hlb hlbt hrbl kl7 kr7 hz
            go_wp2
            generalize ((w7.setCell ⟨w3.heap.size, 0, none⟩ (.int .i64 6)).setCell ⟨w3.heap.size, 4, none⟩ (.slice o8 l8 c8)).setCell ⟨p, 2, none⟩ (.int .i64 d) = w9 at HS9 HP9 HKr9 HKl9 HL9 ⊢
            obtain ⟨⟨z0, z1, z2, z3, z4⟩, _⟩ := kid_cells HKr9.out.1
            have q := res5 w9 w.heap.size (.int .i64 6) (.string ⟨nm.text.toArray⟩) (.int .i64 0) (.int .i64 nm.at_) (.slice o8 l8 c8) z0 z1 z2 z3 z4
            have hf := fin5 (r := w.heap.size) (w9 := w9) (k := 6) (n := nm.text) (m := 0) (a := nm.at_) (sl := (.slice o8 l8 c8)) HKr9.out.2 HS9.out _ rfl
            generalize ((((w9.setCell ⟨w.heap.size, 0, none⟩ (.int .i64 6)).setCell ⟨w.heap.size, 1, none⟩ (.string ⟨nm.text.toArray⟩)).setCell ⟨w.heap.size, 2, none⟩ (.int .i64 0)).setCell ⟨w.heap.size, 3, none⟩ (.int .i64 nm.at_)).setCell ⟨w.heap.size, 4, none⟩ (.slice o8 l8 c8) = wz at q hf ⊢
            obtain ⟨q0, q1, q2, q3, q4⟩ := q
            refine bodyPost_ret (v := .agg #[.int .i64 6, .string ⟨nm.text.toArray⟩, .int .i64 0, .int .i64 nm.at_, (.slice o8 l8 c8)]) (by simp [results, Tryz.results71, go_sem, q0, q1, q2, q3, q4]) rfl ?_
            rw [HRL.out]
            have hr2 := HKr9.out.2
            have hpg := HP.out
            exact ⟨_, _, _, rfl, node_fin HL9.out (fun b h => by have := HNE.out; omega) (fun b h => by have := HNE.out; omega) hf.2, rfl, HP9.out.sole_but (by omega) (by omega) hf.2, hf.1⟩
        · have hx1 : (t.text == [101, 110, 117, 109]) = false := by simpa [wEnum] using he1
          have hx2 : (t.text == [115, 116, 114, 117, 99, 116]) = false := by simpa [wStruct] using he2
          have HR2 : Hid (R = (choiceP (bodyP n false) (PSof ts i full)).bind fun l s => .ok (.node 7 nm.text 0 nm.at_ l) s) := by show _ = _; rw [HR1.out, if_neg he1, if_neg he2]
          clear he1 he2
          have HML : Hid (Calls Tryz.prog 116 #[.pointer (some ⟨p, 0, none⟩)] wt2 (PPost p g cap ts (d + 1) (listIs wt2.heap.size) (choiceP (bodyP n false) (PSof ts i full)) wt2)) := HK116.out i full wt2 HPt.out (HBA.out.sole HSt.out)
          obtain ⟨rl, hrl⟩ : ∃ r, choiceP (bodyP n false) (PSof ts i full) = r := ⟨_, rfl⟩
          have HRL : Hid (R = rl.bind fun l s => .ok (.node 7 nm.text 0 nm.at_ l) s) := by
            show _ = _
            rw [HR2.out, ← hrl]
          rw [hrl] at HML
          clear hrl
          go_wp2_with fail
          refine HML.out.mono ?_
          cases rl with
          | no why at_ =>
            rintro e w99 ⟨rfl, hS⟩
            have HS99 : Hid (Sole p w w99) := HSt.out.trans hS
            clear hS
            go_wp2
            refine ⟨rfl, ?_⟩
            rw [HRL.out]
            exact ⟨rfl, HS99.out⟩
          | ok l st =>
            rintro e w7 ⟨v, i, full, rfl, hL, rfl, hP, hS⟩
            obtain ⟨o8, l8, c8, rfl⟩ := hL.shape
            have hp := HP.out
            have hlb := HKlt.out.2
            have hlbt := HKlt.out.lt
            have hrbl := HNE.out
            have c27 := hP.c2
            have f27 := hP.f2
            have hne1 : ¬ w3.heap.size = p := by omega
            have hne2 : ¬ p = w3.heap.size := by omega
            have hne3 : ¬ w.heap.size = w3.heap.size := by omega
            have hne4 : ¬ w3.heap.size = w.heap.size := by omega
            have hne5 : ¬ w.heap.size = p := by omega
            have hne6 : ¬ p = w.heap.size := by omega
            have kl7 : Kep w w7 w3.heap.size (kidO 0 nm.text 0 nm.at_ (.slice none 0 0)) := HKlt.out.sole hp.1 hS
            have kr7 : Kep w w7 w.heap.size (kidO 0 [] 0 0 (.slice none 0 0)) := HKrt.out.sole hp.1 hS
            obtain ⟨⟨l0, l1, l2, l3, l4⟩, ⟨f0, f1, f2, f3, f4⟩⟩ := kid_cells kl7.1
            have hz : ∀ b, b ≠ w3.heap.size → ((w7.setCell ⟨w3.heap.size, 0, none⟩ (.int .i64 7)).setCell ⟨w3.heap.size, 4, none⟩ (.slice o8 l8 c8)).heap[b]? = w7.heap[b]? := fun b hb => (Below.heap_setCell _ _ _ _ hb).trans (Below.heap_setCell _ _ _ _ hb)
            have HS9 : Hid (Sole p w (((w7.setCell ⟨w3.heap.size, 0, none⟩ (.int .i64 7)).setCell ⟨w3.heap.size, 4, none⟩ (.slice o8 l8 c8)).setCell ⟨p, 2, none⟩ (.int .i64 d))) := Sole.setp (((HSt.out.trans hS).below_after ((Below.refl _ _).setCell hlb _)).below_after ((Below.refl _ _).setCell hlb _))
            have HP9 : Hid (PP (((w7.setCell ⟨w3.heap.size, 0, none⟩ (.int .i64 7)).setCell ⟨w3.heap.size, 4, none⟩ (.slice o8 l8 c8)).setCell ⟨p, 2, none⟩ (.int .i64 d)) p g cap ts i d full) := (hP.sole_but (by omega) (by omega) hz).depth d
            have HKr9 : Hid (Kep w (((w7.setCell ⟨w3.heap.size, 0, none⟩ (.int .i64 7)).setCell ⟨w3.heap.size, 4, none⟩ (.slice o8 l8 c8)).setCell ⟨p, 2, none⟩ (.int .i64 d)) w.heap.size (kidO 0 [] 0 0 (.slice none 0 0))) := (kr7.but hz (by omega)).setp hp.1
            have HKl9 : Hid (Kep w (((w7.setCell ⟨w3.heap.size, 0, none⟩ (.int .i64 7)).setCell ⟨w3.heap.size, 4, none⟩ (.slice o8 l8 c8)).setCell ⟨p, 2, none⟩ (.int .i64 d)) w3.heap.size (kidO 7 nm.text 0 nm.at_ (.slice o8 l8 c8))) := Kep.setp ⟨setCell_blk (setCell_blk kl7.1), hlb⟩ hp.1
            have HL9 : Hid (ListAt (fun b => w3.heap.size < b) (((w7.setCell ⟨w3.heap.size, 0, none⟩ (.int .i64 7)).setCell ⟨w3.heap.size, 4, none⟩ (.slice o8 l8 c8)).setCell ⟨p, 2, none⟩ (.int .i64 d)) l (.slice o8 l8 c8)) := by
              have h1 : ListAt (fun b => w3.heap.size < b) w7 l (.slice o8 l8 c8) := ListAt.weaken hL (fun b h => by have h2 : wt2.heap.size ≤ b := h; omega)
              exact ListAt.but (r := p) (ListAt.but h1 (fun b h => by omega) hz) (fun b h => by omega) (fun b hb => Below.heap_setCell _ _ _ _ hb)
            obtain ⟨⟨r0, r1, r2, r3, r4⟩, ⟨y0, y1, y2, y3, y4⟩⟩ := kid_cells kr7.1
            clear hP hS hL hp hlb hlbt hrbl kl7 kr7 hz
            go_wp2
            generalize ((w7.setCell ⟨w3.heap.size, 0, none⟩ (.int .i64 7)).setCell ⟨w3.heap.size, 4, none⟩ (.slice o8 l8 c8)).setCell ⟨p, 2, none⟩ (.int .i64 d) = w9 at HS9 HP9 HKr9 HKl9 HL9 ⊢
            obtain ⟨⟨z0, z1, z2, z3, z4⟩, _⟩ := kid_cells HKr9.out.1
            have q := res5 w9 w.heap.size (.int .i64 7) (.string ⟨nm.text.toArray⟩) (.int .i64 0) (.int .i64 nm.at_) (.slice o8 l8 c8) z0 z1 z2 z3 z4
            have hf := fin5 (r := w.heap.size) (w9 := w9) (k := 7) (n := nm.text) (m := 0) (a := nm.at_) (sl := (.slice o8 l8 c8)) HKr9.out.2 HS9.out _ rfl
            generalize ((((w9.setCell ⟨w.heap.size, 0, none⟩ (.int .i64 7)).setCell ⟨w.heap.size, 1, none⟩ (.string ⟨nm.text.toArray⟩)).setCell ⟨w.heap.size, 2, none⟩ (.int .i64 0)).setCell ⟨w.heap.size, 3, none⟩ (.int .i64 nm.at_)).setCell ⟨w.heap.size, 4, none⟩ (.slice o8 l8 c8) = wz at q hf ⊢
            obtain ⟨q0, q1, q2, q3, q4⟩ := q
            refine bodyPost_ret (v := .agg #[.int .i64 7, .string ⟨nm.text.toArray⟩, .int .i64 0, .int .i64 nm.at_, (.slice o8 l8 c8)]) (by simp [results, Tryz.results71, go_sem, q0, q1, q2, q3, q4]) rfl ?_
            rw [HRL.out]
            have hr2 := HKr9.out.2
            have hpg := HP.out
            exact ⟨_, _, _, rfl, node_fin HL9.out (fun b h => by have := HNE.out; omega) (fun b h => by have := HNE.out; omega) hf.2, rfl, HP9.out.sole_but (by omega) (by omega) hf.2, hf.1⟩
end Go.Proofs.YteokdknaadckbaaGreatDoor
namespace Go.Proofs.YteokdknaadckbaaGreatDoor
open Go.RowKit

set_option maxRecDepth 4000 in
theorem body_zero (p g cap : Nat) (ts : List Tok) (b : Bool) (i : Nat) (full : Bool) (w : World) (h : PP w p g cap ts i 8 full) :
    Calls Tryz.prog 71 #[.pointer (some ⟨p, 0, none⟩), .bool b] w (PPost p g cap ts 8 (treeIs w.heap.size) (bodyP 0 b (PSof ts i full)) w) := by
  obtain ⟨wa, hwa⟩ : ∃ x, w.alloc (.cells #[.int .i64 0, .string ⟨#[]⟩, .int .i64 0, .int .i64 0, .slice none 0 0] 29) = x := ⟨_, rfl⟩
  have b1 : Below w.heap.size w wa := by rw [← hwa]; exact below_alloc _ _
  have hpa := h.below b1
  have c2 := hpa.c2
  have HR : Hid (bodyP 0 b (PSof ts i full) = .no 41 (ts[i]'h.il).at_) := by
    show PS.bad _ _ = _
    unfold PS.bad
    rw [PSof_hd ts i full h.il]
  have HWR : Hid (Calls Tryz.prog 74 #[.pointer (some ⟨p, 0, none⟩), .int .i64 41] wa fun e w' => e = .returned (.agg #[.int .i64 41, .int .i64 ((ts[i]'h.il).at_ : Nat)]) ∧ Below wa.heap.size wa w') := wrong_any p g cap ts i 8 41 full wa hpa
  have HB1 : Hid (Below w.heap.size w wa) := b1
  rw [HR.out]
  clear hpa b1 HR
  go_enter Tryz.func71, Tryz.ntmps71
  go_wp2_with fail
  refine HWR.out.mono ?_
  rintro e w2 ⟨rfl, hB⟩
  have HB2 : Hid (Below w.heap.size w w2) := HB1.out.trans (hB.mono HB1.out.size)
  clear hB
  go_wp2
  exact ⟨rfl, rfl, Sole.of_below HB2.out⟩
def BodyAll (p g cap : Nat) (ts : List Tok) (d : Int) (n : Nat) : Prop :=
  ∀ b i full w, i + 1 < ts.length → PP w p g cap ts i d full → BareAt p w → Calls Tryz.prog 71 #[.pointer (some ⟨p, 0, none⟩), .bool b] w (PPost p g cap ts d (treeIs w.heap.size) (bodyP n b (PSof ts i full)) w)
structure Tower (p g cap : Nat) (ts : List Tok) (d : Int) (n : Nat) : Prop where
  something : Keeps p g cap ts d 70 (somethingP (bodyP n false))
  declaration : Keeps p g cap ts d 146 (declarationP (bodyP n false))
  field : Keeps p g cap ts d 145 (fieldP (bodyP n false))
  fields : KeepsL p g cap ts d 115 (fieldsP (bodyP n false))
  choice : KeepsL p g cap ts d 116 (choiceP (bodyP n false))
theorem tower_of (p g cap : Nat) (ts : List Tok) (hE : Ends ts) (d : Int) (n : Nat) (hB : BodyAll p g cap ts d n) : Tower p g cap ts d n := by
  have hb : KeepsB p g cap ts d (bodyP n false) := fun i full w hi h hba => hB false i full w hi h hba
  have h1 := something_any p g cap ts hE d (bodyP n false) (written_any p g cap ts hE d (bodyP n false) hb (bare_any p g cap ts hE d))
  have h2 := declaration_any p g cap ts hE d (bodyP n false) h1
  have h3 := field_any p g cap ts hE d (bodyP n false) h2
  exact ⟨h1, h2, h3, fields_any p g cap ts hE d (bodyP n false) h3 (strict_body n false), choice_any p g cap ts hE d (bodyP n false) h2 h3 (arm_any p g cap ts hE d (bodyP n false) h3)⟩
theorem body_all (p g cap : Nat) (ts : List Tok) (hE : Ends ts) : ∀ n : Nat, n ≤ 8 → BodyAll p g cap ts (8 - n) n
  | 0 => fun _ b i full w _ h _ => body_zero p g cap ts b i full w h
  | n + 1 => fun hn => by
    have ht := tower_of p g cap ts hE (8 - n) n (body_all p g cap ts hE n (by omega))
    have hd : ((8 : Int) - (n + 1 : Nat)) + 1 = 8 - n := by omega
    intro b i full w hi h hba
    cases b
    · exact body_false p g cap ts hE _ (by omega) (by omega) n (by rw [hd]; exact members_any p g cap ts hE _) (by rw [hd]; exact ht.fields) (by rw [hd]; exact ht.choice) i full w hi h hba
    · exact body_true p g cap ts hE _ (by omega) (by omega) n (by rw [hd]; exact members_any p g cap ts hE _) (by rw [hd]; exact ht.fields) (by rw [hd]; exact ht.choice) i full w hi h hba
theorem body_top (p g cap : Nat) (ts : List Tok) (hE : Ends ts) : BodyAll p g cap ts 0 8 := body_all p g cap ts hE 8 (by omega)
theorem tower_top (p g cap : Nat) (ts : List Tok) (hE : Ends ts) : Tower p g cap ts 0 8 := tower_of p g cap ts hE 0 8 (body_top p g cap ts hE)
end Go.Proofs.YteokdknaadckbaaGreatDoor
